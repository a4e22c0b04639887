import PyProof.Rows.All
import Wide.All
import OpenK.AllK
import Wide.FinOn
import HandS.Base
import HandS.Call
import HandS.List
import HandS.Comp
import HandS.Ends
import HandS.Words
import HandS.WordsList
import HandS.IsInst
import HandS.Conv
import HandS.StrMore
import HandS.WideBits
import HandS.Wide
import HandS.Iter
import HandS.Text
import HandS.Dict
import HandS.Evl
import HandS.Style
import HandS.RaiseMore
import HandS.WordsDict
import HandS.Exc
import HandS.ExcOwn
import HandS.ExcInit
import HandS.ExcField
import HandS.ExcIs
import HandS.TryMany
import HandS.HotCalls
import HandS.SetFor
import HandS.WordsExc
import KE.KExcIs
import PyProof.Rows.StrIntSpec
import PyProof.FString3
import PyProof.Rows.StrPadFill
import HandS.IntHex
import HandS.FStr
import KE.KIntText
import KE.IntTextLaws
import HandS.Defaults
import HandS.Walk
import KE.KStateDown
import HandS.Head0
import HandS.Head1
import HandS.Head2
import HandS.HeadHook1
import HandS.HeadHook2
import HandS.HeadNt
import KE.KExcInit
import HandS.ExcBuiltin
import HandS.ExcValue
import PySem.Challenge.RW_coverstore_k10_errors_created
set_option Elab.async false
set_option maxRecDepth 100000
set_option maxHeartbeats 4000000
/-! My layer beside HandS: defs below which no repr is under way (guards known), repr of data. -/
namespace Gx
open PySem PySem.Spec PyProof.Rows L2
section
variable (P : Program) (w : World) (K : PySem.W.Frag) (mg : Str → Option Value) (base : Heap)
/-- as FnOk, where it is known that no repr is under way at the call -/
structure GOk (CX : CXT) (k : Nat) (f : Addr) (fd : FuncData) (ps : List Str) (sp : Sp) : Prop where
  many : ∀ {vs H Q E}, sp vs H Q E → vs.length = ps.length
  go : ∀ {A : Around} {outer : List Env} {s : Shared} {H : Hp} {args : Args} {us : List Value} {vs : List V} {Q : VK} {E : XK},
    A.guards = some [] → Room k A → Env0 P w K mg base A outer s H → BindsTo s fd args (ps.zip us) → Vals vs us → sp vs H Q E →
    codeAny (model P w) A (.call (.ref f) args) (CR CX outer P w H s Q E) s
end
section
variable {P : Program} {w : World} {K : PySem.W.Frag} {mg : Str → Option Value} {base : Heap} {CX : CXT} {j k : Nat} {f : Addr} {fd : FuncData} {ps : List Str} {sp : Sp}
theorem GOk.of (F : FnOk P w K mg base CX k f fd ps sp) : GOk P w K mg base CX k f fd ps sp :=
  ⟨fun {vs H Q E} z => F.len vs H Q E z, fun {A outer s H args us vs Q E} _ r e b v z => F.run A outer s H args us vs Q E r e b v z⟩
/-- a def by its body -/
theorem gok_body {x qual : Str} {st : Stmt} {N : List Str} (F : Fun K x qual st f fd) (S : FnScope N ps (defScope st)) (hm : ∀ {vs H Q E}, sp vs H Q E → vs.length = ps.length)
    (body : ∀ (cdv : Value) (A : Around) (outer : List Env) (s : Shared) (H : Hp) (vs : List V) (Q : VK) (E : XK), A.guards = some [] →
      Room k (A.deeper (envOfC qual (defScope st) s.heap.objs.size f cdv)) → sp vs H Q E →
      ∃ t, PSs (cxOf CX P w K mg base N qual (defScope st) f cdv A outer s H E) (defBody st) t ∧ t { nx := fun _ H' => Q .non H', rt := Q } (start N vs) H) :
    GOk P w K mg base CX (k + 1) f fd ps sp := by
  obtain ⟨oc, od, kV, doc, pm, an, cdv, ct, osl, rfl, lk, hcd⟩ := F.ex
  refine ⟨hm, fun {A outer s H args us vs Q E} hgd hr e0 hb r hsp => ?_⟩
  have up : ∀ b o, base.get? b = some o → s.heap.get? b = some o := fun b o e => (e0.bs b o e).1
  have inK : K.In s.heap := e0.mod.kin.keeps up
  have nl : s.heap.NoLimit := e0.mod.nolimit.keeps up
  refine codeAny_call_function hr.depth (inK _ _ lk) rfl S.co S.gen rfl (PySem.W.codeRec_of inK hcd) (hb _ _ _ _ ?_)
  refine wpAny_newFunctionEnv_cells S.kind (fun y hy => (S.par y.1 (List.of_mem_zip hy).1).imp id fun z => ⟨z, PySem.W.cellsFrom_some _ _ _ (.inl z)⟩) fun env he s1 new => ?_
  cases he
  obtain ⟨t, ht, q⟩ := body cdv A outer s H vs Q E hgd (hr.deeper _) hsp
  have I := inv_start (CX := CX) (P := P) (w := w) (K := K) (mg := mg) (base := base) (E := E) S hr.hd e0 (hm hsp) r new
  refine ⟨nl.keeps new.toInCall.keep, codeAny_func (wpAny_mono (ht.run [] s1 _ H _ I q) (fun fl s' z => ?_) fun _ _ z => z)⟩
  cases fl with
  | next => exact let ⟨_, H', J, z⟩ := z; ⟨V.non, H', J.os, J.bare, J.base, J.hok, rfl, z⟩
  | ret u => exact let ⟨v, _, H', J, rv, z⟩ := z; ⟨v, H', J.os, J.bare, J.base, J.hok, rv, z⟩
  | brk => exact False.elim (let ⟨_, _, _, z⟩ := z; z)
  | cont => exact False.elim (let ⟨_, _, _, z⟩ := z; z)
end
section
variable {X : Cx} {CX : CXT} {k : Nat} {f : Addr} {fd : FuncData} {ps : List Str} {sp : Sp} {dvs : List V} {ds : List Value} {E : XK} {x : Str} {p pos : Pos} {e : Expr} {es : List Expr} {t : TA}
/-- a call of such a def by its name -/
theorem pe_gcall (F : GOk X.prog X.w X.K X.mg X.base CX k f fd ps sp) (hgd : X.A.guards = some []) (hr : Room k X.A) (hg : Gl X x) (hm : X.mg x = some (.ref f)) (hk : PySem.W.keepIn X.K (.ref f) = true) (hb : Binds X.K fd ps ds)
    (hd : Vals dvs ds) (hx : Passes CX X E) (ha : PA X (e :: es) t) (n0 : (x == ("__debug__" : Str)) = false := by decide)
    (n1 : starEach (e :: es) X.env = (false, eval e X.env) :: starEach es X.env := by rfl) (n2 : (backTo pos (starEach es X.env)).any (·.1) = false := by rfl) :
    PE X (.Call (.Name x p) (e :: es) [] pos) (tCall sp dvs E t) := by
  constructor
  intro pins s σ H Q I h
  refine wpAny_Call_Name_kw (ld_glob I hg hm ?_ n0)
  refine PySem.W.callWith_K (h₀ := X.base) I.ok.mod.kin hk (thn (ha.run pos pins s σ H _ I h) fun us s1 ⟨vs, H1, I1, r, q⟩ => ⟨I1.kIn, ?_⟩) n1 n2
  have rr := r.append hd
  have many : (us ++ ds).length = ps.length := (Paired.length rr).symm.trans (F.many q)
  refine wpAny_call (codeAny_mono (F.go hgd hr I1.env0 (hb s1 us I1.kIn many) rr q) fun res s' z => ?_)
  cases res with
  | error er => exact hx pins σ H1 s1 er s' I1 z
  | ok fl =>
    cases fl with
    | ret u => exact I1.after z
    | next => exact False.elim z
    | brk => exact False.elim z
    | cont => exact False.elim z
end
/-! ### what a value shows -/
mutual
/-- as Dp, with empty dicts -/
inductive Dq (K : PySem.W.Frag) (H : Hp) : V → PyData → Prop
  | non : Dq K H .non .none
  | bl (b : Bool) : Dq K H (.bl b) (.bool b)
  | int (i : Int) : Dq K H (.int i) (.int i)
  | str (x : Str) : Dq K H (.str x) (.str x)
  | lst {a : Addr} {xs : List V} {ds : List PyData} : SqL K H a xs → DqAll K H xs ds → Dq K H (.ref a) (.list ds)
  | tup {a : Addr} {xs : List V} {ds : List PyData} : SqT K H a xs → DqAll K H xs ds → Dq K H (.ref a) (.tuple ds)
  | nil {a : Addr} : H a = some (.dK []) → Dq K H (.ref a) (.dict [])
inductive DqAll (K : PySem.W.Frag) (H : Hp) : List V → List PyData → Prop
  | nil : DqAll K H [] []
  | cons {v : V} {vs : List V} {d : PyData} {ds : List PyData} : Dq K H v d → DqAll K H vs ds → DqAll K H (v :: vs) (d :: ds)
end
end Gx
namespace Gx
open PySem PySem.Spec PyProof.Rows L2
section
variable {X : Cx} {pins : List (Addr × Obj)} {σ : L2.St} {H : Hp} {s : Shared}
theorem nil_reads {a : Addr} (I : Inv X pins σ H s) (e : H a = some (.dK [])) : Reads s.heap (.ref a) (.dict []) [a] := by
  obtain ⟨_, _, vs, kv, o, es, ep, ho, ex, hd, _, hp, _⟩ := I.hok _ _ e
  cases kv
  have e0 : es = #[] := by
    have e1 : es.toList = [] := by
      cases q : es.toList with
      | nil => rfl
      | cons y r =>
        rw [q] at hp
        exact absurd hp (by intro z; cases z)
    simpa using e1
  subst e0
  exact .dict (as := []) (bs := []) ho ex.1 hd .nil .nil
mutual
theorem Dq.reads (I : Inv X pins σ H s) : ∀ (d : PyData) (v : V) (u : Value), Dq X.K H v d → RelV v u → ∃ as, Reads s.heap u d as
  | .none, _, _, h, r => by
    cases h; cases r
    exact ⟨_, .none⟩
  | .bool b, _, _, h, r => by
    cases h; cases r
    exact ⟨_, .bool b⟩
  | .int i, _, _, h, r => by
    cases h
    obtain ⟨t, rfl⟩ := r
    exact ⟨_, .int i t⟩
  | .str x, _, _, h, r => by
    cases h
    obtain ⟨t, rfl⟩ := r
    exact ⟨_, .str x t⟩
  | .list ds, _, _, h, r => by
    cases h with
    | lst hs ha =>
      cases r
      obtain ⟨its, rv, ⟨o, n, ho, hc, _, hd⟩, _⟩ := I.list hs
      obtain ⟨as, q⟩ := DqAll.reads I ds _ its ha rv
      exact ⟨_, .list ho hc hd q⟩
  | .tuple ds, _, _, h, r => by
    cases h with
    | tup hs ha =>
      cases r
      obtain ⟨its, rv, ⟨o, ho, hc, n, hd⟩, _⟩ := I.tuple hs
      obtain ⟨as, q⟩ := DqAll.reads I ds _ its ha rv
      exact ⟨_, .tuple ho hc hd q⟩
  | .dict kvs, _, _, h, r => by
    cases h with
    | nil e =>
      cases r
      exact ⟨_, nil_reads I e⟩
theorem DqAll.reads (I : Inv X pins σ H s) : ∀ (ds : List PyData) (vs : List V) (us : List Value), DqAll X.K H vs ds → Vals vs us → ∃ as, ReadsAll s.heap us ds as
  | [], _, _, h, r => by
    cases h; cases r
    exact ⟨_, .nil⟩
  | d :: ds, _, _, h, r => by
    cases h with
    | cons h1 h2 =>
      cases r with
      | cons r1 r2 =>
        obtain ⟨as, q1⟩ := Dq.reads I d _ _ h1 r1
        obtain ⟨bs, q2⟩ := DqAll.reads I ds _ _ h2 r2
        exact ⟨_, .cons q1 q2⟩
end
end
/-- repr(x) of data -/
def rRepr (K : PySem.W.Frag) : List V → Hp → VK → Prop := fun xs H Q => ∃ x d, xs = [x] ∧ Dq K H x d ∧ d.showable = true ∧ (d.hasDict = true → d = .dict []) ∧ d.depth ≤ 30 ∧ d.shown.length ≤ sizeLine ∧ Q (.str d.shown) H
theorem call_repr {X : Cx} (hgd : X.A.guards = some []) (hu : X.A.units + 64 < cLine) : CallR X (.builtin "repr") (rRepr X.K) := by
  intro pins s σ H xs us Q I r h
  obtain ⟨x, d, rfl, hd, hs, hdict, hdep, hsz, q⟩ := h
  obtain ⟨u, rfl, rx⟩ := vals1 r
  obtain ⟨as, rd⟩ := Dq.reads I d x u hd rx
  have fin : ∀ h' (u : Tok) tk, (∀ b o, s.heap.get? b = some o → h'.get? b = some o) → EP X pins σ Q (.str d.shown u) { s with heap := h', toks := tk } :=
    fun h' u tk k => ⟨.str d.shown, H, I.kept k, ⟨u, rfl⟩, q⟩
  have big : ∀ a, u = .ref a → wpAny (model X.prog X.w) X.A (call (.builtin "repr") [u]) (EP X pins σ Q) X.xe s := fun a e => by
    subst e
    by_cases z : d.hasDict = true
    · have e0 := hdict z
      subst e0
      cases hd with
      | nil e =>
        obtain ⟨_, nm, _⟩ := I.hok _ _ e
        cases rx
        exact repr_of_reads' (nil_reads I e) hs (fun _ y => by
          rw [← List.mem_singleton.mp y] at nm
          simp at nm) hgd (by omega) (fun _ _ e => e) fin hsz
    · exact repr_of_reads' rd hs (fun y => absurd y z) hgd (by omega) (fun _ _ e => e) fin hsz
  cases hd with
  | non => cases rx; exact P.repr_of_none (by simpa only [PyData.shown] using fin s.heap _ _ fun _ _ e => e)
  | bl b => cases rx; exact P.repr_of_bool (by simpa only [PyData.shown] using fin s.heap _ _ fun _ _ e => e)
  | int i =>
    obtain ⟨t, rfl⟩ := rx
    exact P.repr_of_int (by simpa [PyData.showable] using hs) (by simpa only [PyData.shown] using fin s.heap _ _ fun _ _ e => e)
  | str y =>
    obtain ⟨t, rfl⟩ := rx
    exact P.repr_of_str (by simpa only [PyData.shown] using fin s.heap _ _ fun _ _ e => e) (by simpa only [PyData.shown] using hsz)
  | lst _ _ => exact big _ rx
  | tup _ _ => exact big _ rx
  | nil _ => exact big _ rx
end Gx
namespace Gx
open PySem PySem.Spec PyProof.Rows L2
/-! ### the module's defs and constants -/
def DefAt (K : PySem.W.Frag) (mg : Str → Option Value) (x : Str) (st : Stmt) : Prop := ∃ f fd, mg x = some (.ref f) ∧ Fun K x x st f fd
def KnownAt (mg : Str → Option Value) (x : Str) (v : V) : Prop := ∃ u, mg x = some u ∧ RelV v u
/-- positional arguments, all of them -/
def PosB (x : Str) (st : Stmt) (ps : List Str) : Prop := ∀ (kV doc pm : Value) (an : Option Addr) (cdv ct : Value) (us : List Value), us.length = ps.length →
  bindArgs (PySem.W.fnOf x x (defArgs st) (defBody st) (defScope st) .none kV doc pm an cdv ct) ⟨us, []⟩ = pure (ps.zip us)
/-- keywords alone, all of them, named ks; g puts their values in the parameters' order -/
structure KwB (x : Str) (st : Stmt) (ps ks : List Str) (g : {α : Type} → List α → List α) : Prop where
  to : ∀ (kV doc pm : Value) (an : Option Addr) (cdv ct : Value) (ws : List Value), ws.length = ks.length →
    bindArgs (PySem.W.fnOf x x (defArgs st) (defBody st) (defScope st) .none kV doc pm an cdv ct) ⟨[], ks.zip ws⟩ = pure (ps.zip (g ws))
  rel : ∀ {vs : List V} {us : List Value}, Vals vs us → Vals (g vs) (g us)
section
variable (P : Program) (w : World) (K : PySem.W.Frag) (mg : Str → Option Value) (base : Heap)
structure Pr (CX : CXT) (k : Nat) (x : Str) (st : Stmt) (ps : List Str) (sp : Sp) : Prop where
  ex : ∃ f fd, mg x = some (.ref f) ∧ Fun K x x st f fd ∧ FnOk P w K mg base CX k f fd ps sp
structure PrG (CX : CXT) (k : Nat) (x : Str) (st : Stmt) (ps : List Str) (sp : Sp) : Prop where
  ex : ∃ f fd, mg x = some (.ref f) ∧ Fun K x x st f fd ∧ GOk P w K mg base CX k f fd ps sp
end
section
variable {P : Program} {w : World} {K : PySem.W.Frag} {mg : Str → Option Value} {base : Heap} {k : Nat} {x : Str} {st : Stmt} {ps N : List Str} {sp : Sp}
/-- a def that lets nothing out, by its body -/
theorem DefAt.ok (D : DefAt K mg x st) (S : FnScope N ps (defScope st)) (len : ∀ vs H Q E, sp vs H Q E → vs.length = ps.length)
    (body : ∀ (f : Addr) (cdv : Value) (A : Around) (outer : List Env) (s : Shared) (H : Hp) (vs : List V) (Q : VK) (E : XK), Room k (A.deeper (envOfC x (defScope st) s.heap.objs.size f cdv)) → sp vs H Q E →
      ∃ t, PSs (cxOf CX0 P w K mg base N x (defScope st) f cdv A outer s H E).nox (defBody st) t ∧ t { nx := fun _ H' => Q .non H', rt := Q } (start N vs) H) : Pr P w K mg base CX0 (k + 1) x st ps sp := by
  obtain ⟨f, fd, m, F⟩ := D
  exact ⟨f, fd, m, F, F.ok S len fun cdv A outer s H vs Q E => body f cdv A outer s H vs Q E⟩
/-- the same where it is known that no repr is under way -/
theorem DefAt.okG (D : DefAt K mg x st) (S : FnScope N ps (defScope st)) (len : ∀ vs H Q E, sp vs H Q E → vs.length = ps.length)
    (body : ∀ (f : Addr) (cdv : Value) (A : Around) (outer : List Env) (s : Shared) (H : Hp) (vs : List V) (Q : VK) (E : XK), A.guards = some [] → Room k (A.deeper (envOfC x (defScope st) s.heap.objs.size f cdv)) → sp vs H Q E →
      ∃ t, PSs (cxOf CX0 P w K mg base N x (defScope st) f cdv A outer s H E).nox (defBody st) t ∧ t { nx := fun _ H' => Q .non H', rt := Q } (start N vs) H) : PrG P w K mg base CX0 (k + 1) x st ps sp := by
  obtain ⟨f, fd, m, F⟩ := D
  refine ⟨f, fd, m, F, gok_body F S (fun {vs H Q E} z => len vs H Q E z) fun cdv A outer s H vs Q E hg hr z => ?_⟩
  obtain ⟨t, h, q⟩ := body f cdv A outer s H vs Q E hg hr z
  exact ⟨t, h.nox, q⟩
theorem Pr.g {CX : CXT} (F : Pr P w K mg base CX k x st ps sp) : PrG P w K mg base CX k x st ps sp := by
  obtain ⟨f, fd, m, Z, F⟩ := F.ex
  exact ⟨f, fd, m, Z, .of F⟩
end
section
variable {X : Cx} {CX : CXT} {j k : Nat} {st : Stmt} {ps ks : List Str} {sp : Sp} {E : XK} {x : Str} {v : V} {p pos : Pos} {e : Expr} {es : List Expr} {kws : List Keyword} {t tk : TA} {g : {α : Type} → List α → List α}
theorem pe_k (hg : Gl X x) (h : KnownAt X.mg x v) (hd : (x == ("__debug__" : Str)) = false := by decide) : PE X (.Name x pos) (tC v) :=
  let ⟨_, m, r⟩ := h
  pe_glob hg m r hd
theorem pe_pos (F : Pr X.prog X.w X.K X.mg X.base CX k x st ps sp) (hr : Room j X.A) (hk : k ≤ j) (hg : Gl X x) (hb : PosB x st ps) (hx : Passes CX X E) (ha : PA X (e :: es) t) (n0 : (x == ("__debug__" : Str)) = false := by decide)
    (n1 : starEach (e :: es) X.env = (false, eval e X.env) :: starEach es X.env := by rfl) (n2 : (backTo pos (starEach es X.env)).any (·.1) = false := by rfl) : PE X (.Call (.Name x p) (e :: es) [] pos) (tCall sp [] E t) := by
  obtain ⟨f, fd, m, Z, F⟩ := F.ex
  exact pe_call F (hr.mono hk) hg m Z.kp (Z.binds hb) .nil hx ha n0 n1 n2
theorem pe_posG (hgd : X.A.guards = some []) (F : PrG X.prog X.w X.K X.mg X.base CX k x st ps sp) (hr : Room j X.A) (hk : k ≤ j) (hg : Gl X x) (hb : PosB x st ps) (hx : Passes CX X E) (ha : PA X (e :: es) t) (n0 : (x == ("__debug__" : Str)) = false := by decide)
    (n1 : starEach (e :: es) X.env = (false, eval e X.env) :: starEach es X.env := by rfl) (n2 : (backTo pos (starEach es X.env)).any (·.1) = false := by rfl) : PE X (.Call (.Name x p) (e :: es) [] pos) (tCall sp [] E t) := by
  obtain ⟨f, fd, m, Z, F⟩ := F.ex
  exact pe_gcall F hgd (hr.mono hk) hg m Z.kp (Z.binds hb) .nil hx ha n0 n1 n2
/-- f(a = .., b = ..) -/
def tKw (sp : Sp) (n : Nat) (g : {α : Type} → List α → List α) (E : XK) (t : TA) : TE := fun σ H Q => t σ H fun vs H1 => vs.length = n ∧ sp (g vs) H1 Q E
theorem pe_kw (F : Pr X.prog X.w X.K X.mg X.base CX k x st ps sp) (hr : Room j X.A) (hk : k ≤ j) (hg : Gl X x) (hb : KwB x st ps ks g) (hx : Passes CX X E) (hkw : PK X kws tk)
    (n1 : (backToKw pos (keywordEach kws X.env)).all (·.1.isSome) = true := by rfl) (n2 : (backToKw pos (keywordEach kws X.env)).filterMap (·.1) = ks := by rfl) (n0 : (x == ("__debug__" : Str)) = false := by decide)
    (n3 : ((backTo pos (starEach [] X.env)).any (·.1) || (backToKw pos (keywordEach kws X.env)).any (·.1.isNone)) = false := by rfl) : PE X (.Call (.Name x p) [] kws pos) (tKw sp ks.length g E tk) := by
  obtain ⟨f, fd, m, Z, F⟩ := F.ex
  constructor
  intro pins s σ H Q I h
  refine wpAny_Call_Name_kw (ld_glob I hg m ?_ n0)
  refine PySem.W.callWith_KW0 (h₀ := X.base) I.ok.mod.kin Z.kp n1 ?_ n3
  refine thn (hkw.run pos pins s σ H _ I h) fun ws s2 ⟨vs, H2, I2, r, l, q⟩ => ⟨I2.kIn, ?_⟩
  rw [n2]
  obtain ⟨oc, od, kV, doc, pm, an, cdv, ct, osl, rfl, _, _⟩ := Z.ex
  refine wpAny_call (codeAny_mono (F.run X.A X.stack s2 H2 ⟨[], ks.zip ws⟩ (g ws) (g vs) Q E (hr.mono hk) I2.env0 (.of_eq (hb.to kV doc pm an cdv ct ws (r.length.symm.trans l))) (hb.rel r) q) fun res s' z => ?_)
  cases res with
  | error er => exact hx pins σ H2 s2 er s' I2 z
  | ok fl =>
    cases fl with
    | ret u => exact I2.after z
    | next => exact False.elim z
    | brk => exact False.elim z
    | cont => exact False.elim z
end
/-! ### the law's call -/
/-- the script alone is tracked -/
def scr (a : Addr) (o : Obj) (ns : List Int) : Hp := fun b => if b = a then some (.frz o (.lst (ns.map V.int))) else none
theorem law_goG {P : Program} {w : World} {K : PySem.W.Frag} {mg mb : Str → Option Value} {k : Nat} {fa a : Addr} {fd : FuncData} {x : Str} {sp : Sp} {s₁ : Shared} {vs : List Value} {ns : List Int}
    (KX : K.In s₁.heap) (hm : s₁.heap.Ns mainGlobals mg) (hb : s₁.heap.Ns builtinsNs mb) (hbb : ∀ x : Str, x ≠ "__name__" → mb x = bootBuiltins x) (hl : s₁.heap.NoLimit) (hg : s₁.gens = #[])
    (ha : s₁.heap.get? a = some { cls := .type "list", data := .seq vs.toArray }) (hi : IntsAre vs ns) (hn : ns.length ≤ sizeLine) (hr : Room k callerA)
    (F : ∀ base : Heap, K.In base → base.Ns mainGlobals mg → GOk P w K mg base CX0 k fa fd [x] sp) (hbind : ∀ (s : Shared) (u : Value), BindsTo s fd ⟨[u], []⟩ [(x, u)])
    (hsp : ∀ H : Hp, SqL K H a (ns.map V.int) → sp [.ref a] H (fun v _ => v = .bl true) fun _ _ _ => False) :
    codeAny (model P w) callerA (.call (.ref fa) ⟨[.ref a], []⟩) (fun r s' => r = .ok (.ret (.bool true)) ∧ OldK s₁.heap s'.heap ∧ s'.os = s₁.os ∧ AllBare s'.gens) s₁ := by
  have rv := vals_ints hi
  have key : ∀ H : Hp, (∀ b, H b = none ∨ (b = a ∧ ∃ o xs, H b = some (.frz o (.lst xs)))) → SqL K H a (ns.map V.int) → HOk P w H s₁.heap → (H a ≠ none → K.lookup a = none) →
      codeAny (model P w) callerA (.call (.ref fa) ⟨[.ref a], []⟩) (fun r s' => r = .ok (.ret (.bool true)) ∧ OldK s₁.heap s'.heap ∧ s'.os = s₁.os ∧ AllBare s'.gens) s₁ := fun H only hS ok hK => by
    have free : ∀ {b : Addr} {o : Obj} {es : Array DictEntry} {ep : Nat}, s₁.heap.get? b = some o → o.data = .dict es ep → H b = none := fun {b o es ep} e d => by
      rcases only b with z | ⟨rfl, _⟩
      · exact z
      · rw [ha] at e
        cases e
        cases d
    have ns1 : ∀ {b : Addr} {m : Str → Option Value}, s₁.heap.Ns b m → (hidT s₁.heap H).Ns b m := fun {b m} z => let ⟨o, es, ep, e, d, r⟩ := z; ⟨o, es, ep, hidT_get e (free e d), d, r⟩
    have kb : K.In (hidT s₁.heap H) := fun b o e => hidT_get (KX b o e) ((only b).elim id fun ⟨z, o', xs, q⟩ => by
      subst z
      rw [hK (by rw [q]; exact fun z => nomatch z)] at e
      cases e)
    have md : Mod K mg (hidT s₁.heap H) := ⟨kb, ns1 hm, ⟨mb, ns1 hb, hbb⟩, let ⟨mc, h1, h2⟩ := hl; ⟨mc, ns1 h1, h2⟩⟩
    have e0 : Env0 P w K mg (hidT s₁.heap H) callerA [] s₁ H := ⟨rfl, md, fun b o e => of_hidT e, Nat.le_of_eq (hidT_size _ _), trivial, (fun _ z => nomatch z), ok, .of_eq hg⟩
    refine codeAny_mono ((F _ kb (ns1 hm)).go (A := callerA) (us := [.ref a]) (vs := [.ref a]) rfl hr e0 (hbind s₁ (.ref a)) (.cons rfl .nil) (hsp H hS)) fun r s' z => ?_
    cases r with
    | error e => exact False.elim z
    | ok fl =>
      cases fl with
      | next => exact False.elim z
      | brk => exact False.elim z
      | cont => exact False.elim z
      | ret u =>
        obtain ⟨v, H', os, bare, un, ok', r', q⟩ := z
        cases q
        cases r'
        refine ⟨rfl, OldK.of_keep fun b o e => ?_, os, bare⟩
        rcases only b with z | ⟨_, ob, xs, z⟩
        · exact un.keep b o e z (fun y => nomatch y) (fun y => nomatch y)
        · have e1 := (ok b _ z).1
          have e2 := (ok' b _ (un.frzs b ob _ z)).1
          rw [e] at e1
          cases e1
          exact e2
  cases hk : K.lookup a with
  | some o =>
    have e := KX a o hk
    rw [ha] at e
    cases e
    exact key (fun _ => none) (fun _ => .inl rfl) (.inr ⟨_, vs.toArray, _, hk, rfl, rfl, rfl, by rw [List.size_toArray, hi.length]; exact hn, by simpa using rv⟩) (fun b u z => nomatch z) fun z => absurd rfl z
  | none =>
    have at_a : scr a { cls := .type "list", data := .seq vs.toArray } ns a = some (.frz { cls := .type "list", data := .seq vs.toArray } (.lst (ns.map V.int))) := if_pos rfl
    refine key (scr a { cls := .type "list", data := .seq vs.toArray } ns) (fun b => ?_) (.inl (.inr ⟨_, at_a⟩)) (fun b u z => ?_) fun _ => hk
    · by_cases c : b = a
      · exact .inr ⟨c, _, _, by rw [c]; exact at_a⟩
      · exact .inl (if_neg c)
    · by_cases c : b = a
      · subst c
        rw [at_a] at z
        cases z
        exact ⟨ha, by rw [List.length_map]; exact hn, vs, _, rv, ha⟩
      · have z' := (if_neg c).symm.trans z
        cases z'
/-- the end of a law row: from the promise of its law -/
theorem walkG {l : PySem.W.OpenLaw} {n k : Nat} {q : Program} {loose : List Str} {XP : (Str → Option Value) → Heap → Prop} {YP : World → Heap → Prop} {d : DefRec} {K : Params → PySem.W.Frag} {sp : World → Sp} {x nm : Str} {st : Stmt}
    (hn : l.most = some n) (hn2 : n ≤ sizeLine) (hdf : d.params.defaults = []) (hr : Room k callerA) (hY : ∀ (w : World) (h : Heap), YP w h → (K w.params).In h) (hnm : d.name = nm) (hb : PosB nm st [x])
    (F : ∀ (w : World) (mg : Str → Option Value) (h : Heap), (K w.params).In h → h.Ns mainGlobals mg → ∀ base : Heap, (K w.params).In base → base.Ns mainGlobals mg → PrG l.prog w (K w.params) mg base CX0 k nm st [x] (sp w))
    (hsp : ∀ (w : World) (H : Hp) (a : Addr) (ns : List Int), ns.length ≤ n → SqL (K w.params) H a (ns.map V.int) → sp w [.ref a] H (fun v _ => v = .bl true) fun _ _ _ => False) :
    PySem.W.WalkO q loose XP YP l.row.toRowW d [] (fun f vs => PySem.call f vs) := by
  refine Att.attach_call hn hdf fun w s₀ s₁ mg mb fa o pm cd doc a vs ns G Y ho hd hcd hmg hobj hints hlen hg => ?_
  have KX := hY w _ Y
  obtain ⟨f, fd, m, Z, _⟩ := (F w mg _ KX G.T.g _ KX G.T.g).ex
  rw [hnm, m] at hmg
  cases hmg
  refine law_goG (x := x) (fd := fd) KX G.T.g G.T.b G.T.builtins G.T.nolimit hg hobj hints (Nat.le_trans hlen hn2) hr (fun base kb nb => ?_) (fun s u => ?_) fun H hS => hsp w H a ns hlen hS
  · obtain ⟨f', fd', m', Z', F'⟩ := (F w mg _ KX G.T.g base kb nb).ex
    rw [m] at m'
    cases m'
    obtain ⟨_, _, _, _, _, _, _, _, _, rfl, l1, _⟩ := Z.ex
    obtain ⟨_, _, _, _, _, _, _, _, _, rfl, l2, _⟩ := Z'.ex
    rw [l1] at l2
    cases l2
    exact F'
  · obtain ⟨_, _, kV, doc, pm, an, cdv, ct, _, rfl, _, _⟩ := Z.ex
    exact .of_eq (hb kV doc pm an cdv ct [u] rfl)
end Gx
namespace Gx
open PySem PySem.Spec PyProof.Rows L2
/-! ### the module's error classes -/
/-- the address that a name of the module stands for -/
def cl (mg : Str → Option Value) (x : Str) : Addr := match mg x with
  | some (.ref a) => a
  | _ => 0
theorem cl_of {mg : Str → Option Value} {x : Str} {a : Addr} (h : mg x = some (.ref a)) : cl mg x = a := by unfold cl; rw [h]
/-- a class that is asked for -/
structure ClsAt (K : PySem.W.Frag) (mg : Str → Option Value) (x : Str) : Prop where
  g : mg x = some (.ref (cl mg x))
  ty : PySem.W.typeIn K (.ref (cl mg x)) = some (.type "type")
  is : PySem.W.isClsIn K (cl mg x) = true
  ex : PySem.W.subIn K (.ref (cl mg x)) (.type "BaseException") = some true
  me : PySem.W.subIn K (.ref (cl mg x)) (.ref (cl mg x)) = some true
theorem ClsAt.of {K : PySem.W.Frag} {mg : Str → Option Value} {x : Str} {C : Addr} (h : mg x = some (.ref C)) (h1 : PySem.W.typeIn K (.ref C) = some (.type "type")) (h2 : PySem.W.isClsIn K C = true)
    (h3 : PySem.W.subIn K (.ref C) (.type "BaseException") = some true) (h4 : PySem.W.subIn K (.ref C) (.ref C) = some true) : ClsAt K mg x := by
  have e := cl_of h
  refine ⟨?_, ?_, ?_, ?_, ?_⟩ <;> rw [e] <;> assumption
/-- whether x's objects are of the class y -/
def SubAt (K : PySem.W.Frag) (mg : Str → Option Value) (x y : Str) (b : Bool) : Prop := PySem.W.subIn K (.ref (cl mg x)) (.ref (cl mg y)) = some b
theorem SubAt.of {K : PySem.W.Frag} {mg : Str → Option Value} {x y : Str} {C D : Addr} {b : Bool} (h : mg x = some (.ref C)) (h' : mg y = some (.ref D)) (s : PySem.W.subIn K (.ref C) (.ref D) = some b) : SubAt K mg x y b := by
  unfold SubAt
  rw [cl_of h, cl_of h']
  exact s
theorem ClsAt.known {K : PySem.W.Frag} {mg : Str → Option Value} {x : Str} (T : ClsAt K mg x) : KnownAt mg x (.ref (cl mg x)) := ⟨_, T.g, rfl⟩
section
variable {K : PySem.W.Frag} {mg : Str → Option Value} {x y : Str} {b : Bool}
theorem SubAt.cls (s : SubAt K mg x y b) (T : ClsAt K mg y) : PySem.W.kitCls K (.ref (cl mg x)) (.ref (cl mg y)) = some b := by
  have e : ((PySem.W.clsIn K (cl mg y)).isSome && PySem.W.typeIn K (.ref (cl mg y)) == some (.type "type")) = true := by
    rw [T.ty, show (PySem.W.clsIn K (cl mg y)).isSome = true from T.is]
    rfl
  show (if ((PySem.W.clsIn K (cl mg y)).isSome && PySem.W.typeIn K (.ref (cl mg y)) == some (.type "type")) = true then PySem.W.subIn K (.ref (cl mg x)) (.ref (cl mg y)) else none) = some b
  rw [if_pos e]
  exact s
theorem SubAt.one (s : SubAt K mg x y b) (T : ClsAt K mg y) : PySem.W.kitOne K (.ref (cl mg x)) (.ref (cl mg y)) = some b := by
  unfold PySem.W.kitOne
  by_cases c : cl mg x = cl mg y
  · have s' : PySem.W.subIn K (.ref (cl mg x)) (.ref (cl mg y)) = some b := s
    rw [c, T.me] at s'
    rw [c, if_pos (beq_self_eq_true _)]
    exact s'
  · rw [if_neg fun z => c (Value.ref.inj (beq_iff_eq.mp z))]
    exact s.cls T
theorem SubAt.exm (s : SubAt K mg x y b) (T : ClsAt K mg y) : PySem.W.exmOne K (.ref (cl mg x)) (.ref (cl mg y)) = some b := by
  unfold PySem.W.exmOne
  rw [T.ex, if_pos (beq_self_eq_true _)]
  exact s.cls T
end
theorem kit_blt {K : PySem.W.Frag} {C : Addr} {n : String} {b : Bool} (s : PySem.W.subIn K (.ref C) (.type n) = some b) (m : PySem.W.kitMeta n = true) : PySem.W.kitOne K (.ref C) (.type n) = some b := by
  show (if (Value.ref C == Value.type n) = true then _ else if PySem.W.kitMeta n = true then PySem.W.subIn K (.ref C) (.type n) else none) = some b
  rw [if_neg (by simp), if_pos m]
  exact s
/-- an error class whose objects are made, by its own __init__ -/
structure ErrAt (K : PySem.W.Frag) (mg : Str → Option Value) (x : Str) (qual : Str) (st : Stmt) : Prop where
  oex : OexC K (cl mg x)
  ga : PySem.W.findIn K (.ref (cl mg x)) "__getattribute__" = some (some (.builtin "BaseException.__getattribute__"))
  gg : PySem.W.findIn K (.ref (cl mg x)) "__getattr__" = some none
  gc : PySem.W.findIn K (.ref (cl mg x)) "__class__" = some (some (.builtin "object.__class__"))
  gn : PySem.W.specialIn K (.builtin "object.__class__") "__get__" = some (some (.builtin "getset_descriptor.__get__"))
  gt : PySem.W.takesIn K (.builtin "object.__class__") = some true
  gm : PySem.W.mroIn K (cl mg x) (.type "object") = some true
  hd : PySem.W.hasDictIn K (cl mg x) = true
  ini : ∃ f fd, PySem.W.findIn K (.ref (cl mg x)) "__init__" = some (some (.ref f)) ∧ PySem.W.typeIn K (.ref f) = some (.type "function") ∧ Fun K "__init__" qual st f fd
theorem ErrAt.of {K : PySem.W.Frag} {mg : Str → Option Value} {x qual : Str} {st : Stmt} {C f : Addr} {fd : FuncData} {nm q : Str} {N : Addr} {bs bm : List Value} {sn : List Str} {sub : List Value} {ab : Bool} {col : Option Bool} {dd : Option Addr} {k0 k1 k2 k3 k5 : Option Value}
    (h : mg x = some (.ref C)) (l : K.lookup C = some (excClassObj nm q C N bs bm true sn sub ab col dd k0 k1 k2 k3 k5 "ValueError.__new__")) (r : PySem.HandSPX.refsVE bm = true)
    (sa : PySem.W.findIn K (.ref C) "__setattr__" = some (some (.builtin "object.__setattr__"))) (ex : PySem.W.subIn K (.ref C) (.type "BaseException") = some true) (ty : PySem.W.typeIn K (.ref C) = some (.type "type")) (kp : PySem.W.keepIn K (.ref C) = true)
    (ga : PySem.W.findIn K (.ref C) "__getattribute__" = some (some (.builtin "BaseException.__getattribute__"))) (gg : PySem.W.findIn K (.ref C) "__getattr__" = some none) (gc : PySem.W.findIn K (.ref C) "__class__" = some (some (.builtin "object.__class__")))
    (gn : PySem.W.specialIn K (.builtin "object.__class__") "__get__" = some (some (.builtin "getset_descriptor.__get__"))) (gt : PySem.W.takesIn K (.builtin "object.__class__") = some true) (gm : PySem.W.mroIn K C (.type "object") = some true) (hd : PySem.W.hasDictIn K C = true)
    (i1 : PySem.W.findIn K (.ref C) "__init__" = some (some (.ref f))) (i2 : PySem.W.typeIn K (.ref f) = some (.type "function")) (i3 : Fun K "__init__" qual st f fd) : ErrAt K mg x qual st := by
  have e := cl_of h
  refine ⟨?_, ?_, ?_, ?_, gn, gt, ?_, ?_, f, fd, ?_, i2, i3⟩ <;> rw [e]
  · exact ⟨⟨nm, q, N, bs, bm, sn, sub, ab, col, dd, k0, k1, k2, k3, k5, l, r⟩, sa, ex, ty, kp⟩
  all_goals assumption
theorem ErrAt.xf {K : PySem.W.Frag} {mg : Str → Option Value} {x qual : Str} {st : Stmt} (T : ErrAt K mg x qual st) : XfC K (cl mg x) := ⟨T.ga, T.gg, T.oex.exC, T.hd⟩
/-- a method of a class's text -/
def meth (s : Stmt) (i : Nat) : Stmt := match s with
  | .ClassDef _ _ _ b _ _ _ _ _ _ _ => b.getD i (.Pass ⟨0, 0, 0, 0⟩)
  | _ => .Pass ⟨0, 0, 0, 0⟩
/-- positional arguments, all of them -/
def PosQ (x qual : Str) (st : Stmt) (ps : List Str) : Prop := ∀ (kV doc pm : Value) (an : Option Addr) (cdv ct : Value) (us : List Value), us.length = ps.length →
  bindArgs (PySem.W.fnOf x qual (defArgs st) (defBody st) (defScope st) .none kV doc pm an cdv ct) ⟨us, []⟩ = pure (ps.zip us)
/-! ### raise X(e), X's __init__ sets one field -/
/-- what such an __init__ keeps -/
def spInit (K : PySem.W.Frag) (C : Addr) (fld : Str) : Sp := fun vs H Q _ => ∃ a v, vs = [.ref a, v] ∧ H a = some (exo a C none) ∧ OexC K C ∧ PySem.W.findIn K (.ref C) fld = some none ∧
  ∀ d, H d = none → d ≠ a → Q .non (upd (upd H d (exd d [(fld, v)])) a (exo a C (some d)))
section
variable {P : Program} {w : World} {K : PySem.W.Frag} {mg : Str → Option Value} {base : Heap}
theorem init_ok {qual fld p1 p2 : Str} {st : Stmt} {f : Addr} {fd : FuncData} {C : Addr} (F : Fun K "__init__" qual st f fd) (S : FnScope [p1, p2] [p1, p2] (defScope st))
    (body : ∀ (cdv : Value) (A : Around) (outer : List Env) (s : Shared) (H : Hp) (E : XK), PSs (cxOf CX0 P w K mg base [p1, p2] qual (defScope st) f cdv A outer s H E).nox (defBody st) (fun D σ H => tOst K fld (tVar 0) (tVar 1) D σ H)) :
    FnOk P w K mg base CX0 1 f fd [p1, p2] (spInit K C fld) := by
  refine F.ok S (fun vs H Q E h => ?_) fun cdv A outer s H vs Q E hr h => ?_
  · obtain ⟨a, v, rfl, _⟩ := h
    rfl
  · obtain ⟨a, v, rfl, ha, T, hn, q⟩ := h
    exact ⟨_, body cdv A outer s H E, v, rfl, _, rfl, a, C, rfl, T, hn, .inl ⟨ha, fun d n ne => q d n ne⟩⟩
end
/-- a reading, made monotone -/
def tM (te : TE) : TE := fun σ H Q => ∃ R : VK, te σ H R ∧ ∀ v H', R v H' → Q v H'
theorem pe_mo {X : Cx} {e : Expr} {te : TE} (he : PE X e te) : PE X e (tM te) := by
  refine ⟨fun pins s σ H Q I h => ?_⟩
  obtain ⟨R, h, k⟩ := h
  refine wpAny_mono (he.run pins s σ H R I h) (fun u s' z => ?_) fun _ _ z => z
  exact let ⟨v, H', J, r, q⟩ := z; ⟨v, H', J, r, k v H' q⟩
/-- the wish of a made error: its one field's value -/
def tErr (C : Addr) (fld : Str) (te : TE) : L2.St → Hp → XK → Prop := fun σ H Q => te σ H fun v H1 => ∀ d, H1 d = none → Q (.ref C) (some d) (upd H1 d (.xd [(fld, v)]))
section
variable {X : Cx} {x qual fld p1 p2 : Str} {st : Stmt} {k : Nat} {e : Expr} {te : TE} {p pos : Pos}
theorem pmk_err (T : ErrAt X.K X.mg x qual st) (G : ClsAt X.K X.mg x) (hn : PySem.W.findIn X.K (.ref (cl X.mg x)) fld = some none) (hr : Room k X.A) (hk : 2 ≤ k) (S : FnScope [p1, p2] [p1, p2] (defScope st)) (hq : PosQ "__init__" qual st [p1, p2])
    (body : ∀ (f : Addr) (cdv : Value) (A : Around) (outer : List Env) (s : Shared) (H : Hp) (E : XK), PSs (cxOf CX0 X.prog X.w X.K X.mg X.base [p1, p2] qual (defScope st) f cdv A outer s H E).nox (defBody st) (fun D σ H => tOst X.K fld (tVar 0) (tVar 1) D σ H))
    (hg : Gl X x) (he : PE X e te) (n0 : (x == ("__debug__" : Str)) = false := by decide) (n1 : starEach [e] X.env = (false, eval e X.env) :: starEach [] X.env := by rfl) (n2 : (backTo pos (starEach [] X.env)).any (·.1) = false := by rfl) :
    PMk X (.Call (.Name x p) [e] [] pos) (tErr (cl X.mg x) fld te) := by
  obtain ⟨f, fd, i1, i2, F⟩ := T.ini
  have F1 := init_ok (P := X.prog) (w := X.w) (mg := X.mg) (base := X.base) (C := cl X.mg x) F S (body f)
  intro pins s σ H Q I h
  refine pmk_oex T.oex i1 i2 F1 (hr.mono hk) (F.binds hq) .nil pass0 hg G.g (pa_cons (pe_mo he) pa_nil n1) n0 n1 n2 pins s σ H Q I ?_
  refine ⟨_, h, fun v H1 q => ⟨(by decide : 1 ≤ 1000), fun a ha => ⟨a, v, rfl, upd_same, T.oex, hn, fun d n ne => ⟨rfl, d, [(fld, v)], upd_same, ?_, ?_, ?_⟩⟩⟩⟩
  · rw [upd_ne ne]
    exact upd_same
  · rw [upd_ne ne] at n
    exact n
  · rw [upd_ne ne] at n
    have z : upd (del (upd (upd (upd H1 a (exo a (cl X.mg x) none)) d (exd d [(fld, v)])) a (exo a (cl X.mg x) (some d))) a) d (.xd [(fld, v)]) = upd H1 d (.xd [(fld, v)]) := by
      funext b
      by_cases c : b = d
      · rw [c, upd_same, upd_same]
      · rw [upd_ne c, upd_ne c]
        by_cases c2 : b = a
        · rw [c2, del_same, ha]
        · rw [del_ne c2, upd_ne c2, upd_ne c, upd_ne c2]
    rw [z]
    exact q d n
end
/-! ### defs that may raise, their calls -/
section
variable {P : Program} {w : World} {K : PySem.W.Frag} {mg : Str → Option Value} {base : Heap} {k : Nat} {x : Str} {st : Stmt} {ps N : List Str} {sp : Sp}
theorem DefAt.okX (D : DefAt K mg x st) (S : FnScope N ps (defScope st)) (len : ∀ vs H Q E, sp vs H Q E → vs.length = ps.length)
    (body : ∀ (f : Addr) (cdv : Value) (A : Around) (outer : List Env) (s : Shared) (H : Hp) (vs : List V) (Q : VK) (E : XK), Room k (A.deeper (envOfC x (defScope st) s.heap.objs.size f cdv)) → sp vs H Q E →
      ∃ t, PSs (cxOf (L2.CX P w) P w K mg base N x (defScope st) f cdv A outer s H E) (defBody st) t ∧ t { nx := fun _ H' => Q .non H', rt := Q } (start N vs) H) : Pr P w K mg base (L2.CX P w) (k + 1) x st ps sp := by
  obtain ⟨f, fd, m, F⟩ := D
  exact ⟨f, fd, m, F, F.okX S len fun cdv A outer s H vs Q E => body f cdv A outer s H vs Q E⟩
end
section
variable {X : Cx} {j k : Nat} {st : Stmt} {ps ks : List Str} {sp : Sp} {W : WX} {x : Str} {p pos : Pos} {e : Expr} {es : List Expr} {kws : List Keyword} {t tk : TA} {g : {α : Type} → List α → List α}
/-- f(..) in a try's body -/
theorem pe_posS (F : Pr X.prog X.w X.K X.mg X.base (L2.CX X.prog X.w) k x st ps sp) (hr : Room j X.A) (hk : k ≤ j) (hg : Gl X x) (hb : PosB x st ps) (tk : Takes X W) (ha : PA X (e :: es) t) (n0 : (x == ("__debug__" : Str)) = false := by decide)
    (n1 : starEach (e :: es) X.env = (false, eval e X.env) :: starEach es X.env := by rfl) (n2 : (backTo pos (starEach es X.env)).any (·.1) = false := by rfl) : PE X (.Call (.Name x p) (e :: es) [] pos) (tCallS sp (WE W) t) := by
  obtain ⟨f, fd, m, Z, F⟩ := F.ex
  exact pe_callS F (hr.mono hk) hg m Z.kp (Z.binds hb) (fun σ => passAt tk σ) ha n0 n1 n2
def tKwS (sp : Sp) (n : Nat) (g : {α : Type} → List α → List α) (W : WX) (t : TA) : TE := fun σ H Q => t σ H fun vs H1 => vs.length = n ∧ sp (g vs) H1 Q (WE W σ)
/-- f(a = .., b = ..) in a try's body -/
theorem pe_kwS (F : Pr X.prog X.w X.K X.mg X.base (L2.CX X.prog X.w) k x st ps sp) (hr : Room j X.A) (hk : k ≤ j) (hg : Gl X x) (hb : KwB x st ps ks g) (tw : Takes X W) (hkw : PK X kws tk)
    (n1 : (backToKw pos (keywordEach kws X.env)).all (·.1.isSome) = true := by rfl) (n2 : (backToKw pos (keywordEach kws X.env)).filterMap (·.1) = ks := by rfl) (n0 : (x == ("__debug__" : Str)) = false := by decide)
    (n3 : ((backTo pos (starEach [] X.env)).any (·.1) || (backToKw pos (keywordEach kws X.env)).any (·.1.isNone)) = false := by rfl) : PE X (.Call (.Name x p) [] kws pos) (tKwS sp ks.length g W tk) := by
  obtain ⟨f, fd, m, Z, F⟩ := F.ex
  constructor
  intro pins s σ H Q I h
  refine wpAny_Call_Name_kw (ld_glob I hg m ?_ n0)
  refine PySem.W.callWith_KW0 (h₀ := X.base) I.ok.mod.kin Z.kp n1 ?_ n3
  refine thn (hkw.run pos pins s σ H _ I h) fun ws s2 ⟨vs, H2, I2, r, l, q⟩ => ⟨I2.kIn, ?_⟩
  rw [n2]
  obtain ⟨oc, od, kV, doc, pm, an, cdv, ct, osl, rfl, _, _⟩ := Z.ex
  refine wpAny_call (codeAny_mono (F.run X.A X.stack s2 H2 ⟨[], ks.zip ws⟩ (g ws) (g vs) Q (WE W σ) (hr.mono hk) I2.env0 (.of_eq (hb.to kV doc pm an cdv ct ws (r.length.symm.trans l))) (hb.rel r) q) fun res s' z => ?_)
  cases res with
  | error er => exact passAt tw σ pins H2 s2 er s' I2 z
  | ok fl =>
    cases fl with
    | ret u => exact I2.after z
    | next => exact False.elim z
    | brk => exact False.elim z
    | cont => exact False.elim z
end
/-! ### defs that are called while an error is handled; nothing leaves them -/
section
variable (P : Program) (w : World) (K : PySem.W.Frag) (mg : Str → Option Value) (base : Heap)
structure PrP (k : Nat) (x : Str) (st : Stmt) (ps : List Str) (sp : Addr → Value → Option Addr → Sp) : Prop where
  ex : ∃ f fd, mg x = some (.ref f) ∧ Fun K x x st f fd ∧ (∀ a cls d vs H Q E, sp a cls d vs H Q E → vs.length = ps.length) ∧
    ∀ (A : Around) (outer : List Env) (s : Shared) (H : Hp) (us : List Value) (vs : List V) (Q : VK) (p : Addr × Obj) (cls : Value) (d : Option Addr), Zc cls d p.2 → (∃ vs, p.2.data = .fields vs) → L2H.RoomH k A → L2H.PinOk outer H s p → Env0 P w K mg base A outer s H →
      BindsTo s fd ⟨us, []⟩ (ps.zip us) → Vals vs us → sp p.1 cls d vs H Q E0 → codeAny (model P w) A (.call (.ref f) ⟨us, []⟩) (CR CX0 outer P w H s Q E0) s
end
section
variable {P : Program} {w : World} {K : PySem.W.Frag} {mg : Str → Option Value} {base : Heap} {k : Nat} {x : Str} {st : Stmt} {ps N : List Str} {sp : Addr → Value → Option Addr → Sp}
theorem DefAt.okP (D : DefAt K mg x st) (S : FnScope N ps (defScope st)) (len : ∀ a cls d vs H Q E, sp a cls d vs H Q E → vs.length = ps.length)
    (body : ∀ (f : Addr) (cdv : Value) (A : Around) (outer : List Env) (s : Shared) (H : Hp) (vs : List V) (Q : VK) (p : Addr × Obj) (cls : Value) (d : Option Addr), Zc cls d p.2 → (∃ vs, p.2.data = .fields vs) → L2H.RoomH k (A.deeper (envOfC x (defScope st) s.heap.objs.size f cdv)) → sp p.1 cls d vs H Q E0 →
      ∃ t, PSs (L2H.cxH CX0 P w K mg base N x (defScope st) f cdv A outer s H E0 p).nox (defBody st) t ∧ t { nx := fun _ H' => Q .non H', rt := Q } (start N vs) H) : PrP P w K mg base (k + 1) x st ps sp := by
  obtain ⟨f, fd, m, F⟩ := D
  refine ⟨f, fd, m, F, len, fun A outer s H us vs Q p cls d hz hf hr pin e0 hb r hsp => ?_⟩
  obtain ⟨oc, od, kV, doc, pm, an, cdv, ct, osl, rfl, lk, hcd⟩ := F.ex
  have up : ∀ b o, base.get? b = some o → s.heap.get? b = some o := fun b o e => (e0.bs b o e).1
  have inK : K.In s.heap := e0.mod.kin.keeps up
  have nl : s.heap.NoLimit := e0.mod.nolimit.keeps up
  refine codeAny_call_function hr.depth (inK _ _ lk) rfl S.co S.gen rfl (PySem.W.codeRec_of inK hcd) (hb _ _ _ _ ?_)
  refine wpAny_newFunctionEnv_cells S.kind (fun y hy => (S.par y.1 (List.of_mem_zip hy).1).imp id fun z => ⟨z, PySem.W.cellsFrom_some _ _ _ (.inl z)⟩) fun env he s1 new => ?_
  cases he
  obtain ⟨t, ht, q⟩ := body f cdv A outer s H vs Q p cls d hz hf (hr.deeper _) hsp
  have I := L2H.inv_startH (CX := CX0) (P := P) (w := w) (K := K) (mg := mg) (base := base) (E := E0) S pin e0 (len _ _ _ vs H Q E0 hsp) r new
  refine ⟨nl.keeps new.toInCall.keep, codeAny_func (wpAny_mono (ht.nox.run [] s1 _ H _ I q) (fun fl s' z => ?_) fun _ _ z => z)⟩
  cases fl with
  | next => exact let ⟨_, H', J, z⟩ := z; ⟨V.non, H', J.os, J.bare, J.base, J.hok, rfl, z⟩
  | ret u => exact let ⟨v, _, H', J, rv, z⟩ := z; ⟨v, H', J.os, J.bare, J.base, J.hok, rv, z⟩
  | brk => exact False.elim (let ⟨_, _, _, z⟩ := z; z)
  | cont => exact False.elim (let ⟨_, _, _, z⟩ := z; z)
end
theorem roomM {k : Nat} {A : Around} {h : Option Value} (r : Room k A) : L2H.RoomH k (A.mark h) := ⟨r.dp, r.un⟩
section
variable {X : Cx} {j k : Nat} {st : Stmt} {ps : List Str} {sp : Addr → Value → Option Addr → Sp} {x : Str} {p pos : Pos} {e : Expr} {es : List Expr} {t : TA} {a : Addr} {oe : Obj} {cls : Value} {d : Option Addr}
theorem pe_posP (F : PrP X.prog X.w X.K X.mg X.base k x st ps sp) (hr : L2H.RoomH j X.A) (hk : k ≤ j) (hp : (a, oe) ∈ X.pn) (hz : Zc cls d oe) (hf : ∃ vs, oe.data = .fields vs) (hg : Gl X x) (hb : PosB x st ps) (ha : PA X (e :: es) t) (n0 : (x == ("__debug__" : Str)) = false := by decide)
    (n1 : starEach (e :: es) X.env = (false, eval e X.env) :: starEach es X.env := by rfl) (n2 : (backTo pos (starEach es X.env)).any (·.1) = false := by rfl) : PE X (.Call (.Name x p) (e :: es) [] pos) (tCall (sp a cls d) [] E0 t) := by
  obtain ⟨f, fd, m, Z, len, F⟩ := F.ex
  constructor
  intro pins s σ H Q I h
  refine wpAny_Call_Name_kw (ld_glob I hg m ?_ n0)
  refine PySem.W.callWith_K (h₀ := X.base) I.ok.mod.kin Z.kp (thn (ha.run pos pins s σ H _ I h) fun us s1 ⟨vs, H1, I1, r, q⟩ => ⟨I1.kIn, ?_⟩) n1 n2
  have q : sp a cls d (vs ++ []) H1 Q E0 := q
  rw [List.append_nil] at q
  have many : (us ++ []).length = ps.length := by rw [List.append_nil, ← r.length]; exact len _ _ _ _ _ _ _ q
  have bb := (Z.binds hb) s1 us I1.kIn many
  rw [List.append_nil] at bb
  obtain ⟨p1, p2, p3, p4, p5⟩ := I1.pin (a, oe) (List.mem_append_left _ hp)
  have ok : L2H.PinOk X.stack H1 s1 (a, oe) := ⟨p1, p2, fun z => (List.mem_cons.mp (I1.stkSub a z)).elim p3 p4, p5⟩
  refine wpAny_call (codeAny_mono (F X.A X.stack s1 H1 us vs Q (a, oe) cls d hz hf (hr.mono hk) ok I1.env0 bb r q) fun res s' z => ?_)
  cases res with
  | error er => exact False.elim z
  | ok fl =>
    cases fl with
    | ret u => exact I1.after z
    | next => exact False.elim z
    | brk => exact False.elim z
    | cont => exact False.elim z
end
/-! ### isinstance of an error that is handled -/
/-- a handled error, of the class cls with the dict d, is one of the class x, with these fields -/
def ErrOf (mg : Str → Option Value) (x : Str) (cls : Value) (d : Option Addr) (H : Hp) (fs : List (Str × V)) : Prop := cls = .ref (cl mg x) ∧ ∃ dd, d = some dd ∧ H dd = some (.xd fs)
section
variable {X : Cx} {pins : List (Addr × Obj)} {σ : L2.St} {H : Hp} {s : Shared}
theorem ErrOf.kit {x qual : Str} {st : Stmt} {p : Addr × Obj} {fs : List (Str × V)} {cls : Value} {d : Option Addr} (T : ErrAt X.K X.mg x qual st) (h : ErrOf X.mg x cls d H fs) (hp : p ∈ X.pn) (hz : Zc cls d p.2) (hf : ∃ vs, p.2.data = .fields vs) (I : Inv X pins σ H s) :
    ∃ Z : Heap → Prop, PySem.W.KitX X.K (.ref p.1) (.ref (cl X.mg x)) Z ∧ Z s.heap := by
  obtain ⟨rfl, dd, rfl, hd⟩ := h
  obtain ⟨vs, hv⟩ := hf
  have hx : ObjOk X.prog X.w H s.heap dd (.xd fs) := I.hok dd _ hd
  obtain ⟨mA, hns, _⟩ := hx
  obtain ⟨od, ho, _⟩ := lookIn_ns hns
  obtain ⟨h1, _⟩ := I.pin p (List.mem_append_left _ hp)
  have isC : (PySem.W.clsIn X.K (cl X.mg x)).isSome = true := by
    have z := T.hd
    unfold PySem.W.hasDictIn at z
    cases c : PySem.W.clsIn X.K (cl X.mg x) with
    | none => rw [c] at z; cases z
    | some _ => rfl
  refine ⟨fun h => PySem.W.InstAt h p.1 p.2 (cl X.mg x) (some od), PySem.W.kitx_exc isC T.ga T.gg T.oex.exC T.gc T.gn T.gt T.gm, h1, hz.1, ?_, ?_⟩
  · unfold PySem.W.notCls
    rw [hv]
  · rw [hz.2]
    exact ho
end
/-- isinstance(e, c) and isinstance(e, (c1, c2, ..)), e the handled error at a -/
def rIsP (K : PySem.W.Frag) (mg : Str → Option Value) (a : Addr) (cls : Value) (d : Option Addr) : List V → Hp → VK → Prop := fun xs H Q => ∃ (x qual : Str) (st : Stmt) (fs : List (Str × V)) (c : V) (b : Bool), xs = [.ref a, c] ∧ ErrAt K mg x qual st ∧ ErrOf mg x cls d H fs ∧
  ((∃ u, ClsV c u ∧ PySem.W.kitOne K (.ref (cl mg x)) u = some b) ∨ ∃ (tp : Addr) (cs : List V) (us : List Value), c = .ref tp ∧ H tp = some (.tup cs) ∧ Paired ClsV cs us ∧ PySem.W.kitAny K (.ref (cl mg x)) us = some b) ∧ Q (.bl b) H
theorem call_isP {X : Cx} {a : Addr} {oe : Obj} {cls : Value} {d : Option Addr} (hp : (a, oe) ∈ X.pn) (hz : Zc cls d oe) (hf : ∃ vs, oe.data = .fields vs) : CallR X (.builtin "isinstance") (rIsP X.K X.mg a cls d) := by
  intro pins s σ H xs us Q I r h
  obtain ⟨x, qual, st, fs, c, b, rfl, T, he, hc, q⟩ := h
  obtain ⟨w1, u2, rfl, r1, r2⟩ := vals2 r
  cases (show w1 = Value.ref a from r1)
  obtain ⟨Z, kit, at_⟩ := he.kit (p := (a, oe)) T hp hz hf I
  rcases hc with ⟨u, kc, e⟩ | ⟨tp, cs, ws, rfl, hT, kc, e⟩
  · cases kc.eq r2
    exact PySem.W.kia_one kit I.kIn at_ e (fun z => nomatch z) fun tk => ⟨.bl b, H, I.tok tk, rfl, q⟩
  · cases (show u2 = .ref tp from r2)
    have ot : ObjOk X.prog X.w H s.heap tp (.tup cs) := I.hok tp _ hT
    obtain ⟨_, its, rv, ⟨oc, od, dt, sl⟩, h1, h2, n, h3⟩ := ot
    cases ClsV.all kc rv
    cases h2
    cases h3
    exact PySem.W.kia_tup kit I.kIn at_ h1 e (fun z => nomatch z) fun tk => ⟨.bl b, H, I.tok tk, rfl, q⟩
end Gx
namespace Gx
open PySem PySem.Spec PyProof.Rows L2
/-! ### try with several clauses, with or without names -/
/-- behind a suite whose clause has a name in slot i, the slot is empty -/
def goneD (D : Ends) : Option Nat → Ends
  | none => D
  | some i => { nx := fun σ H => D.nx (σ.set i none) H, rt := D.rt, bk := fun σ H => D.bk (σ.set i none) H, ct := fun σ H => D.ct (σ.set i none) H }
def boundS (σ : L2.St) (a : Addr) : Option Nat → L2.St
  | none => σ
  | some i => σ.set i (some (.ref a))
/-- a clause: its class, its name's slot, its suite -/
abbrev Cla := Value × Option Nat × (Addr → Value → Option Addr → TS)
/-- what the clauses wish of an error -/
def wCla (K : PySem.W.Frag) (Wout : WX) (D : Ends) : List Cla → WX
  | [] => Wout
  | (c, i, ts) :: r => fun cls d σ H => ∃ b, PySem.W.exmOne K cls c = some b ∧ (b = true → ∀ a, H a = none → ts a cls d (goneD D i) (boundS σ a i) H) ∧ (b = false → wCla K Wout D r cls d σ H)
inductive Clas (X : Cx) : List ExceptHandler → List Cla → Prop
  | nil : Clas X [] []
  | as {x n : Str} {c : Value} {i : Nat} {ts : Addr → Value → Option Addr → TS} {b₀ : Stmt} {suite : List Stmt} {np pos : Pos} {hds : List ExceptHandler} {l : List Cla} (hi : X.N[i]? = some n) (hl : X.env.kindOf n = some .local) (hc : Names X x c)
      (hs : ∀ (a : Addr) (oe : Obj) (cls : Value) (d : Option Addr) (pn : List (Addr × Obj)), Zc cls d oe → (∃ vs, oe.data = .fields vs) → PSs (X.suite a ((a, oe) :: pn)) (b₀ :: suite) (ts a cls d))
      (r : Clas X hds l) : Clas X (.ExceptHandler (some (.Name x np)) (some n) (b₀ :: suite) pos :: hds) ((c, some i, ts) :: l)
  | no {x : Str} {c : Value} {ts : Addr → Value → Option Addr → TS} {b₀ : Stmt} {suite : List Stmt} {np pos : Pos} {hds : List ExceptHandler} {l : List Cla} (hc : Names X x c)
      (hs : ∀ (a : Addr) (oe : Obj) (cls : Value) (d : Option Addr) (pn : List (Addr × Obj)), Zc cls d oe → (∃ vs, oe.data = .fields vs) → PSs (X.suite a ((a, oe) :: pn)) (b₀ :: suite) (ts a cls d))
      (r : Clas X hds l) : Clas X (.ExceptHandler (some (.Name x np)) none (b₀ :: suite) pos :: hds) ((c, none, ts) :: l)
section
variable {X : Cx} {pins : List (Addr × Obj)} {σ : L2.St} {H : Hp} {s : Shared}
/-- the clauses, one after another, of an error that has landed -/
theorem cla_go {Wout : WX} {D : Ends} {a : Addr} {B : Heap} {cls : Value} {d : Option Addr} {sI s' : Shared} (hs : X.stack = X.env :: X.outer) (hf : X.env.frame = some X.env.locals) (hN : X.N.Nodup) (tk : Takes X Wout) (J : Inv X pins σ H sI)
    (nb : ∀ b o, sI.heap.get? b = some o → b ∉ frs X.stack → B.get? b = some o) (os : s'.os = sI.os) (ag : AllBare s'.gens) (na : H a = none) (up : sI.heap.UpToSlots s'.heap)
    (fl : HandSPX.FlyingZ B (X.env :: X.outer) a (Zc cls d) s'.heap) : ∀ {hds : List ExceptHandler} {l : List Cla}, Clas X hds l → wCla X.K Wout D l cls d σ H →
    wpAny (model X.prog X.w) X.A (handleBy (.ref a) X.env hds) (SP X pins D) X.xe s' := by
  have ok := J.ok
  have J3 : Inv X pins σ H s' := J.landed nb fl.1 up os ag
  obtain ⟨oe, vs, he, hz, hd⟩ := fl.there
  have out : a ∉ frs (X.env :: X.outer) := fun z => by
    obtain ⟨_, o, h1, h2⟩ := fl.2.2.1.mem z
    rw [he] at h1
    cases h1
    exact h2 _ hd
  have nL : a ≠ X.env.locals := fun z => out (List.mem_filterMap.mpr ⟨X.env, List.mem_cons_self, by rw [hf, z]⟩)
  have nF : a ∉ X.fs := fun z => by
    obtain ⟨e, h1, h2⟩ := List.mem_filterMap.mp z
    exact out (List.mem_filterMap.mpr ⟨e, List.mem_cons_of_mem _ h1, h2⟩)
  have S3 := J3.suite he hd na nL nF
  have ask : ∀ {x : Str} {c : Value} {np : Pos} {Q : Value → Shared → Prop} {E : Value → Shared → Prop}, Names X x c → Q c s' → wpAny (model X.prog X.w) (X.A.mark (some (.ref a))) (eval (.Name x np) X.env) Q E s' := fun {x c np Q E} hc q => by
    obtain ⟨hg, hdb, m | ⟨m, v, nn⟩⟩ := hc
    · exact ld_glob (X := X.suite a ((a, oe) :: (X.pn ++ pins))) S3 hg m q hdb
    · exact ld_blt (X := X.suite a ((a, oe) :: (X.pn ++ pins))) S3 hg m v q nn hdb
  have seen : PySem.W.Looks (model X.prog X.w) s'.heap (typeOf (.ref a)) cls := fun A Q E s k q => wpAny_typeOf_ref (k _ _ he) (hz.1.symm ▸ q)
  intro hds l hk
  induction hk with
  | nil =>
    intro w
    refine wpAny_handleBy_nil ?_
    obtain ⟨k1, k2, k3, oe', vs', T, oT, ts, e1, e2, e3, e4, e5⟩ := id fl
    unfold PySem.passOn
    refine wpAny_bind (wpAny_field e1 e3 e4 ?_)
    rw [if_neg (by simp : ¬ ((Value.ref T == Value.none) = true))]
    have last : wpAny (model X.prog X.w) X.A (setFlight (.ref a) X.env.frame) (fun _ s4 => wpAny (model X.prog X.w) X.A (throw (.ref a) : Sem Flow) (SP X pins D) X.xe s4) X.xe s' := by
      rw [hf]
      refine HandSPX.setFlight_upZ fl fun h4 hh up4 => wpAny_throw (tk _ _ ?_)
      exact ⟨a, B, sI, pins, σ, H, cls, d, rfl, J, nb, up.trans up4, .inr (.inr (hs.symm ▸ hh)), na, os, ag, w⟩
    first
      | exact wpAny_bind (wpAny_pure (wpAny_bind last))
      | exact wpAny_bind last
  | @as x n c i ts b₀ suite np pos hds2 l2 hi hl hc hsu r ih =>
    intro w
    obtain ⟨b, e, yes, no⟩ := w
    refine wpAny_handleBy_cons (codeAny_handlers_test ?_) (by intro z; cases z)
    refine ask hc ((PySem.W.exm_one (M := model X.prog X.w) J3.kIn seen e).here ?_)
    cases b with
    | false => exact ih (no rfl)
    | true =>
      refine codeAny_handlers_suite_as (HandSPX.lands_againZ fl fun h4 fl4 up4 => ?_)
      have J4 : Inv X pins σ H { s' with heap := h4 } := J.landed nb fl4.1 (up.trans up4) os ag
      obtain ⟨oe4, vs4, he4, hz4, hd4⟩ := fl4.there
      refine store_ok (X := X.suite a ((a, oe4) :: (X.pn ++ pins))) (v := .ref a) (J4.suite he4 hd4 na nL nF) hN hi (.inl hl) rfl (fun s5 S5 => ?_) (.inr hl)
      refine wpAny_mono ((hsu a oe4 cls d (X.pn ++ pins) hz4 ⟨_, hd4⟩).run [] s5 _ H _ S5 (yes rfl a na)) (fun f s6 z => ?_) fun _ _ z => False.elim z
      cases f with
      | next => exact let ⟨_, _, S6, q⟩ := z; gone_ok (S6.unsuite ok) hN hi hl fun _ J7 => ⟨_, _, J7, q⟩
      | brk => exact let ⟨_, _, S6, q⟩ := z; gone_ok (S6.unsuite ok) hN hi hl fun _ J7 => ⟨_, _, J7, q⟩
      | cont => exact let ⟨_, _, S6, q⟩ := z; gone_ok (S6.unsuite ok) hN hi hl fun _ J7 => ⟨_, _, J7, q⟩
      | ret u => exact let ⟨_, _, _, S6, r6, q⟩ := z; gone_ok (S6.unsuite ok) hN hi hl fun _ J7 => ⟨_, _, _, J7, r6, q⟩
  | @no x c ts b₀ suite np pos hds2 l2 hc hsu r ih =>
    intro w
    obtain ⟨b, e, yes, no⟩ := w
    refine wpAny_handleBy_cons (codeAny_handlers_test ?_) (by intro z; cases z)
    refine ask hc ((PySem.W.exm_one (M := model X.prog X.w) J3.kIn seen e).here ?_)
    cases b with
    | false => exact ih (no rfl)
    | true =>
      refine codeAny_handlers_suite (HandSPX.lands_againZ fl fun h4 fl4 up4 => ?_)
      have J4 : Inv X pins σ H { s' with heap := h4 } := J.landed nb fl4.1 (up.trans up4) os ag
      obtain ⟨oe4, vs4, he4, hz4, hd4⟩ := fl4.there
      refine wpAny_mono ((hsu a oe4 cls d (X.pn ++ pins) hz4 ⟨_, hd4⟩).run [] _ _ H _ (J4.suite he4 hd4 na nL nF) (yes rfl a na)) (fun f s6 z => ?_) fun _ _ z => False.elim z
      cases f with
      | next => exact let ⟨_, _, S6, q⟩ := z; ⟨_, _, S6.unsuite ok, q⟩
      | brk => exact let ⟨_, _, S6, q⟩ := z; ⟨_, _, S6.unsuite ok, q⟩
      | cont => exact let ⟨_, _, S6, q⟩ := z; ⟨_, _, S6.unsuite ok, q⟩
      | ret u => exact let ⟨_, _, _, S6, r6, q⟩ := z; ⟨_, _, _, S6.unsuite ok, r6, q⟩
end
section
variable {X : Cx} {body : List Stmt} {h₀ : ExceptHandler} {hds : List ExceptHandler} {l : List Cla} {pos : Pos} {tb : WX → TS} {Wout : WX}
theorem ps_try (hs : X.stack = X.env :: X.outer) (hf : X.env.frame = some X.env.locals) (hN : X.N.Nodup) (tk : Takes X Wout)
    (hb : ∀ (W : WX) (pn : List (Addr × Obj)) (xe : Value → Shared → Prop), Takes (X.tr pn xe) W → PassesOwn (model X.prog X.w) X.A X.env xe → PSs (X.tr pn xe) body (tb W)) (hh : Clas X (h₀ :: hds) l) :
    PS X (.Try body (h₀ :: hds) [] [] pos) (fun D σ H => tb (wCla X.K Wout D l) D σ H) := by
  refine ⟨fun pins s σ H D I h => wpAny_Try_except ?_⟩
  have ok := I.ok
  have frm : X.A.frames = some (X.env :: X.outer) := by rw [ok.frames, hs]
  have go := (hb (wCla X.K Wout D l) (X.pn ++ pins) (fun e s₁ => wpAny (model X.prog X.w) X.A (noteFrame e X.env) (fun _ s₂ => wpAny (model X.prog X.w) X.A (setFlight e none) (fun _ s₃ =>
    wpAny (model X.prog X.w) X.A (handleBy e X.env (h₀ :: hds)) (SP X pins D) X.xe s₃) X.xe s₂) X.xe s₁) (fun u s' z => ?_) PassesOwn.looking).run [] s σ H D (I.toTry _) h
  · refine wpAny_mono go (fun f s1 z => ?_) fun _ _ z => z
    cases f with
    | next => exact let ⟨_, _, J, q⟩ := z; wpAny_execs_nil ⟨_, _, J.ofTry ok, q⟩
    | brk => exact let ⟨_, _, J, q⟩ := z; ⟨_, _, J.ofTry ok, q⟩
    | cont => exact let ⟨_, _, J, q⟩ := z; ⟨_, _, J.ofTry ok, q⟩
    | ret u => exact let ⟨_, _, _, J, r, q⟩ := z; ⟨_, _, _, J.ofTry ok, r, q⟩
  · obtain ⟨a, B, sI, pins', σ', H', cls, d, rfl, J', nb, up, sky, na, os, ag, w⟩ := z
    refine Sky.land Zc.steady frm hf (hs ▸ sky) fun h3 fl3 up3 => ?_
    exact cla_go (s' := { s' with heap := h3 }) hs hf hN tk (J'.ofTry ok) nb os ag na (up.trans up3) fl3 hh w
end
/-! ### list.count(True) -/
def isTrueV : Value → Bool
  | .bool b => b
  | _ => false
def rCountT (K : PySem.W.Frag) : V → List V → Hp → VK → Prop := fun x xs H Q => ∃ (p : Addr) (bs : List Bool), x = .ref p ∧ xs = [.bl true] ∧ SqL K H p (bs.map V.bl) ∧ Q (.int (bs.count true : Nat)) H
theorem bools_are : ∀ {bs : List Bool} {us : List Value}, Vals (bs.map V.bl) us → us = bs.map Value.bool
  | [], _, h => by cases h; rfl
  | b :: bs, _, h => by
    cases h with
    | cons r t =>
      cases r
      rw [bools_are t]
      rfl
theorem bools_count : ∀ bs : List Bool, (bs.map Value.bool).countP isTrueV = bs.count true
  | [] => rfl
  | b :: bs => by
    rw [List.map_cons, List.countP_cons, List.count_cons, bools_count bs]
    cases b <;> rfl
theorem mt_countT {X : Cx} (hu : X.A.units + 64 < cLine) : MtR X "list.count" (rCountT X.K) := by
  intro pins s σ H x xs v us Q I rx rxs h
  obtain ⟨p, bs, rfl, rfl, hs, q⟩ := h
  cases rx
  obtain ⟨u, rfl, ru⟩ := rxs.one
  cases ru
  obtain ⟨its, rv, ⟨⟨cls, dd, data, sl⟩, n, ho, hc, hdn, hd⟩, hlen⟩ := I.list hs
  cases hc
  cases hd
  have es := bools_are rv
  refine call_meets PySem.F.slot_list_count ⟨_, ho, rfl⟩ PySem.F.entry_list_count (PySem.F.args_list_count_2 _ _) (SeqAt.list_countAt p its.toArray n dd sl (.bool true) isTrueV) ⟨ho, fun y hy => ?_, ?_⟩
  · have hy : y ∈ its := by simpa using hy
    rw [es] at hy
    obtain ⟨b, _, rfl⟩ := List.mem_map.mp hy
    have z := PySem.SeqAt.eqAt_reads (.bool b) (.bool true) X.A.in1 s (.bool b) (.bool true) _ _ (.bool b) (.bool true) rfl rfl (by show X.A.units + 1 + 0 < cLine; omega)
    have e : PyData.eqv (.bool b) (.bool true) = isTrueV (.bool b) := by cases b <;> rfl
    rw [e] at z
    exact z
  · refine ⟨.int (bs.count true : Nat), H, I.tok _, ⟨s.toks, ?_⟩, q⟩
    show Value.int ((its.toArray.toList.countP isTrueV : Nat) : Int) s.toks = _
    rw [es]
    simp only
    rw [bools_count]
/-! ### x * n of a text -/
theorem op_repS {X : Cx} : OpR X (binaryOp .Mult) (fun x y H Q => ∃ z n, x = .str z ∧ y = .int n ∧ MulOk z n ∧ Q (.str (Txt.mul z n)) H) := by
  intro pins s σ H x y v u Q I rx ry h
  obtain ⟨z, n, rfl, rfl, ok, q⟩ := h
  obtain ⟨t, rfl⟩ := rx
  obtain ⟨t', rfl⟩ := ry
  exact PySem.SB.mul ok fun t2 k => ⟨.str (Txt.mul z n), H, I.tok k, ⟨t2, rfl⟩, q⟩
theorem call_reprK {X : Cx} {K : PySem.W.Frag} (hK : X.K = K) (hgd : X.A.guards = some []) (hu : X.A.units + 64 < cLine) : CallR X (.builtin "repr") (rRepr K) := by
  subst hK
  exact call_repr hgd hu
end Gx
namespace Gx
open PySem PySem.Spec PyProof.Rows L2 Builtin Float
/-! ### f'{i:b}' -/
/-- the binary digits of an int -/
def binL (i : Int) : List Nat := (if i < 0 then [45] else []) ++ (Nat.toDigits 2 i.natAbs).map Char.toNat
def binS (i : Int) : Str := ⟨(binL i).toArray⟩
def bSpec : FormatSpec := { align := 62, type := some 98 }
theorem bSpec_is : parseFormatSpec ("b" : Str).cps.toList "int" 62 = .ok bSpec := by kernel_rfl
theorem field_text (a : Int) : intField' { align := 62, type := some 98 } (decide (a < 0)) [] ((Nat.toDigits 2 a.natAbs).map Char.toNat) [] 4 = binS a := by
  have ne : ((Nat.toDigits 2 a.natAbs).map Char.toNat).isEmpty = false := by
    have := toDigits_len_ge 2 a.natAbs
    cases h : Nat.toDigits 2 a.natAbs with
    | nil => rw [h] at this; simp at this
    | cons x l => rfl
  unfold binS binL
  by_cases c : a < 0
  · simp [intField', c, ne]
  · simp [intField', c, ne]
section
variable {prog : Program} {w : World} {A : Around} {E : Value → Shared → Prop} {s : Shared}
theorem field_b {a : Int} {t : Tok} {Q : Value → Shared → Prop} (hz : (binS a).length ≤ sizeLine) (h : ∀ tk k, Q (.str (binS a) tk) { s with toks := k }) : wpAny (model prog w) A (formatField (.int a t) "b") Q E s := by
  have h1 : (("b" : Str).length == 0) = false := by decide +kernel
  have h2 : ((("b" : Str).cps.toList.drop 1).any (· ≥ 128) || (("b" : Str).cps.getD 0 0 ≥ 128 && !([60, 62, 61, 94] : List Nat).contains (("b" : Str).cps.getD 1 0))) = false := by decide +kernel
  have hp := bSpec_is
  have hsz : ("b" : Str).length ≤ sizeLine := by rw [show ("b" : Str).length = 1 by decide +kernel]; decide
  generalize ("b" : Str) = spec at *
  show wpAny _ _ (holding [.int a t] (pyFormat (.int a t) spec)) Q E s
  refine wpAny_holding ?_
  unfold pyFormat
  refine wpAny_bind (wpAny_mkStr ?_ hsz)
  refine wpAny_bind (m := callSpecial? (.int a t) (Str.ofString "__format__") [.str spec s.toks]) (wpAny_callSpecial?_slot (name := Str.ofString "__format__") (typeIs_int _ a t) slot_int_format ?_)
  refine wpAny_call (codeAny_call_builtin slot_int_format.plain entry_int_format (slot_int_format.check _ _ _ _ _ _ _ _ (typeIs_int _ a t) (args_int_format _ _) ?_))
  unfold Builtin.«int.__format__»
  simp only [selfAndOne, noKeywords, Int.intOfSelf, asInt?, asStr?, List.isEmpty_nil, if_true, pure_bind, bind_assoc, h1, h2, Bool.false_eq_true, if_false, show (Value.str spec s.toks == Value.none) = false from rfl]
  refine wpAny_bind (wpAny_typeNameOf (T := "str") (typeIs_str _ _ _) (by decide) fun _ => ?_)
  first | refine wpAny_bind (wpAny_typeNameOfCut_int ?_) | refine wpAny_bind (wpAny_typeNameOf_int ?_)
  simp only [hp, bSpec, Option.getD_some]
  refine (congrArg (fun m => wpAny (model prog w) _ m _ _ _) (if_pos rfl)).mpr ?_
  show wpAny _ _ (retStr (intField' { align := 62, type := some 98 } (decide (a < 0)) [] ((Nat.toDigits 2 a.natAbs).map Char.toNat) [] 4)) _ _ _
  rw [field_text]
  unfold retStr
  refine wpAny_bind (wpAny_mkStr (wpAny_pure ?_) hz)
  show wpAny _ _ (isInstance _ _ >>= _) _ _ _
  refine wpAny_bind (wpAny_isInstance (typeIs_str _ _ _) isSubtype_str_str (wpAny_pure ?_))
  exact h _ _
end
section
variable {X : Cx}
/-- {e:b} -/
def tFmtB (te : TE) : TE := fun σ H Q => te σ H fun x H1 => ∃ i : Int, x = .int i ∧ (binS i).length ≤ sizeLine ∧ Q (.str (binS i)) H1
theorem pe_fmtB {e : Expr} {te : TE} {j : Nat} {p1 p2 pos : Pos} (he : PE X e te) : PE X (.FormattedValue e (-1) (some (.JoinedStr [.Constant (.str "b") j p1] p2)) pos) (tFmtB te) := by
  refine ⟨fun pins s σ H Q I h => wpAny_FormattedValue_spec (thn (he.run pins s σ H _ I h) fun v s1 z => ?_)⟩
  obtain ⟨x, H1, I1, r1, i, rfl, hz, q⟩ := z
  have sp : PE X (.JoinedStr [.Constant (.str "b") j p1] p2) (tC (.str "b")) := pe_joined1 pe_str
  refine wpAny_mono (sp.run pins s1 σ H1 (fun y H2 => y = .str "b" ∧ H2 = H1) I1 ⟨rfl, rfl⟩) (fun u s2 z => ?_) fun _ _ z => z
  obtain ⟨y, H2, I2, r2, rfl, rfl⟩ := z
  obtain ⟨t, rfl⟩ := r1
  obtain ⟨t2, rfl⟩ := r2
  exact ⟨_, _, rfl, field_b hz fun tk k => ⟨.str (binS i), H2, I2.tok k, ⟨tk, rfl⟩, q⟩⟩
/-- s.ljust(n, f) -/
theorem mt_ljustF : MtR X "str.ljust" (fun x xs H Q => ∃ (a : Str) (i : Int) (f : Str), x = .str a ∧ xs = [.int i, .str f] ∧ PadOk i = true ∧ f.length = 1 ∧ Q (.str (Txt.ljustF a i (f.cps.getD 0 0))) H) := by
  intro pins s σ H x xs v us Q I rx rs h
  obtain ⟨a, i, f, rfl, rfl, hp, hf, q⟩ := h
  obtain ⟨t, rfl⟩ := rx
  obtain ⟨u1, u2, rfl, ⟨t1, rfl⟩, ⟨t2, rfl⟩⟩ := vals2 rs
  exact ljust_fill hp hf fun t' k => ⟨.str (Txt.ljustF a i (f.cps.getD 0 0)), H, I.tok k, ⟨t', rfl⟩, q⟩
end
/-! ### int(s, 2) -/
namespace Bin
open PySem.NumText PySem.Calls
def Is (c : Nat) : Prop := c = 48 ∨ c = 49
def num (l : List Nat) : Nat := l.foldl (fun a c => a * 2 + (c - 48)) 0
theorem hex {c : Nat} (h : Is c) : Hx.IsHex c := by unfold Is at h; unfold Hx.IsHex; omega
theorem step_bin {ds : Array Nat} {b : Bool} {c : Nat} (h : Is c) : PySem.NumText.step 2 (ds, b) c = some (ds.push (c - 48), true) := by
  have h' : c = 48 ∨ c = 49 := h
  rcases h' with rfl | rfl <;> rfl
theorem fold_bin : ∀ (cs : List Nat) (ds : Array Nat), (∀ c ∈ cs, Is c) → cs.foldlM (PySem.NumText.step 2) (ds, true) = some (cs.foldl (fun acc c => acc.push (c - 48)) ds, true)
  | [], _, _ => rfl
  | c :: cs, ds, h => by
    rw [List.foldlM_cons, step_bin (h c List.mem_cons_self)]
    exact fold_bin cs (ds.push (c - 48)) fun d hd => h d (List.mem_cons_of_mem _ hd)
theorem digits_bin {cs : List Nat} (h : ∀ c ∈ cs, Is c) (hne : cs ≠ []) : digits? 2 cs = some (cs.foldl (fun acc c => acc.push (c - 48)) #[]) := by
  cases cs with
  | nil => exact absurd rfl hne
  | cons c cs =>
    unfold digits?
    rw [List.foldlM_cons, step_bin (h c List.mem_cons_self)]
    show (cs.foldlM (PySem.NumText.step 2) ((#[] : Array Nat).push (c - 48), true)).bind _ = _
    rw [fold_bin cs _ fun d hd => h d (List.mem_cons_of_mem _ hd)]
    rfl
theorem push_bin : ∀ (cs : List Nat) (ds : Array Nat), (cs.foldl (fun acc c => acc.push (c - 48)) ds).foldl (fun acc d => acc * 2 + d) 0 = cs.foldl (fun a c => a * 2 + (c - 48)) (ds.foldl (fun acc d => acc * 2 + d) 0)
  | [], _ => rfl
  | c :: cs, ds => by
    rw [List.foldl_cons, push_bin cs, List.foldl_cons]
    congr 1
    simp
theorem based_bin {cs : List Nat} (h : ∀ c ∈ cs, Is c) : based 2 cs = (2, false, cs) := by
  match cs, h with
  | [], _ => rfl
  | [a], h =>
    have ha : a = 48 ∨ a = 49 := h a List.mem_cons_self
    rcases ha with rfl | rfl <;> rfl
  | a :: c :: r, h =>
    have hc : c = 48 ∨ c = 49 := h c (List.mem_cons_of_mem _ List.mem_cons_self)
    have ha : a = 48 ∨ a = 49 := h a List.mem_cons_self
    rcases ha with rfl | rfl <;> rcases hc with rfl | rfl <;> rfl
theorem read_bin {cs : List Nat} (h : ∀ c ∈ cs, Is c) (hne : cs ≠ []) : (int_private% "readNumeral") 0 2 cs = (int_private% "Numeral.value") ((num cs : Nat) : Int) := by
  have hx : ∀ c ∈ cs, Hx.IsHex c := fun c hc => hex (h c hc)
  have hr : ∀ c ∈ cs.reverse, Hx.IsHex c := fun c hc => hx c (List.mem_reverse.mp hc)
  have hb := based_bin h
  refine (readNumeral_eq 0 2 cs).trans ?_
  rw [Hx.dropB hx, Hx.signH hx]
  show judge 0 false (based 2 cs).1 (based 2 cs).2.1 (digits? (based 2 cs).1 (((based 2 cs).2.2.reverse.dropWhile blank).reverse)) = _
  rw [hb]
  show judge 0 false 2 false (digits? 2 ((cs.reverse.dropWhile blank).reverse)) = _
  rw [Hx.dropB hr, List.reverse_reverse, digits_bin h hne]
  show (int_private% "Numeral.value") (((cs.foldl (fun acc c => acc.push (c - 48)) (#[] : Array Nat)).foldl (fun acc d => acc * 2 + d) 0 : Nat) : Int) = _
  have z : (#[] : Array Nat).foldl (fun acc d => acc * 2 + d) 0 = 0 := by first | rfl | simp
  rw [push_bin, z] <;> rfl
set_option maxHeartbeats 4000000 in
theorem gives_bin {x : PySem.Str} {u t : Tok} (hl : x.length ≤ 640) (h : ∀ c ∈ x.cps.toList, Is c) (hne : x.cps.toList ≠ []) :
    Gives (Builtin.«int.__new__» ⟨[.type "int", .str x u, .int 2 t], []⟩) (.int ((num x.cps.toList : Nat) : Int)) :=
  .of_wp fun M A E s Q hQ => by
    obtain ⟨hp, g, d, tk, os⟩ := s
    have f1 := F.conv_sub_int
    have f2 := F.madeHere_int
    have f6 : typeOf (.str x u) = pure (.type "str") := rfl
    obtain ⟨e1, e2⟩ := Hx.seen_hex fun c hc => hex (h c hc)
    have hs : (numSeenOf x).length ≤ 640 := by rw [e2, Array.length_toList]; exact hl
    have hr : (int_private% "readNumeral") 0 2 (numSeenOf x) = (int_private% "Numeral.value") ((num x.cps.toList : Nat) : Int) := by rw [e2]; exact read_bin h hne
    have ha : ((numSeenOf x).length == (numTextOf x).length) = true := by rw [e1, e2]; exact beq_self_eq_true _
    have hk := Hx.Hid.mk (And.intro hs (And.intro hr ha))
    clear hs hr ha e1 e2 hl hne h
    repeat (any_goals (first
      | assumption
      | ((with_reducible show wpAny _ _ ((int_private% "intFromText") _ _ _) _ _ _); refine Hx.wp_textB hk.out.1 hk.out.2.1 hk.out.2.2 ?_)
      | wp_step))
    all_goals first | exact ⟨_, rfl, hQ⟩ | skip
theorem call_bin {prog : Program} {w : World} {A : Around} {E : Value → Shared → Prop} {s : Shared} {Q : Value → Shared → Prop} {x : PySem.Str} {u t : Tok} (hl : x.length ≤ 640) (h : ∀ c ∈ x.cps.toList, Is c) (hne : x.cps.toList ≠ [])
    (hQ : Q (.int ((num x.cps.toList : Nat) : Int) s.toks) { s with toks := s.toks + 1 }) : wpAny (model prog w) A (call (.type "int") [.str x u, .int 2 t]) Q E s :=
  callType_new F.called_int F.newNe_int (Hx.typeCall_int_2 _ _) (Hx.newCall_int_2 _ _) (fun obj => F.initArgs_range_2 obj _ _) F.entry_int_new (gives_bin hl h hne).meets (show (Made.int ((num x.cps.toList : Nat) : Int)).post _ s from ⟨rfl, hQ⟩)
end Bin
/-- int(z, 2) -/
def rIntBin : List V → Hp → VK → Prop := fun xs H Q => ∃ z : Str, xs = [.str z, .int 2] ∧ z.cps.toList ≠ [] ∧ z.length ≤ 640 ∧ (∀ c ∈ z.cps.toList, Bin.Is c) ∧ Q (.int ((Bin.num z.cps.toList : Nat) : Int)) H
theorem call_int_bin {X : Cx} : CallR X (.type "int") rIntBin := by
  intro pins s σ H xs us Q I r h
  obtain ⟨z, rfl, hne, hl, hx, q⟩ := h
  obtain ⟨u, u', rfl, ⟨t1, rfl⟩, ⟨t2, rfl⟩⟩ := vals2 r
  exact Bin.call_bin hl hx hne ⟨.int ((Bin.num z.cps.toList : Nat) : Int), H, I.tok _, ⟨_, rfl⟩, q⟩
end Gx
namespace Gx
open PySem PySem.Spec PyProof.Rows L2
/-! ### defs with defaults -/
def DefD (K : PySem.W.Frag) (mg : Str → Option Value) (x : Str) (st : Stmt) (dvs : List V) : Prop := ∃ f fd, mg x = some (.ref f) ∧ FunD K x x (defArgs st) (defBody st) (defScope st) dvs [] f fd
/-- n values are written, the defaults behind the first j fill up -/
def PosD (x : Str) (st : Stmt) (ps : List Str) (dn n j : Nat) : Prop := ∀ (T : Addr) (kV doc pm : Value) (an : Option Addr) (cdv ct : Value) (us its : List Value), us.length = n → its.length = dn →
  ∃ k, bindArgs (PySem.W.fnOf x x (defArgs st) (defBody st) (defScope st) (.ref T) kV doc pm an cdv ct) ⟨us, []⟩ = seqItems? (.ref T) >>= k ∧ k (some its.toArray) = pure (ps.zip (us ++ its.drop j))
section
variable (P : Program) (w : World) (K : PySem.W.Frag) (mg : Str → Option Value) (base : Heap)
structure PrD (CX : CXT) (k : Nat) (x : Str) (st : Stmt) (ps : List Str) (dvs : List V) (sp : Sp) : Prop where
  ex : ∃ f fd, mg x = some (.ref f) ∧ FunD K x x (defArgs st) (defBody st) (defScope st) dvs [] f fd ∧ FnOk P w K mg base CX k f fd ps sp
end
section
variable {P : Program} {w : World} {K : PySem.W.Frag} {mg : Str → Option Value} {base : Heap} {k : Nat} {x : Str} {st : Stmt} {ps N : List Str} {dvs : List V} {sp : Sp}
theorem DefD.okX (D : DefD K mg x st dvs) (S : FnScope N ps (defScope st)) (len : ∀ vs H Q E, sp vs H Q E → vs.length = ps.length)
    (body : ∀ (f : Addr) (cdv : Value) (A : Around) (outer : List Env) (s : Shared) (H : Hp) (vs : List V) (Q : VK) (E : XK), Room k (A.deeper (envOfC x (defScope st) s.heap.objs.size f cdv)) → sp vs H Q E →
      ∃ t, PSs (cxOf (L2.CX P w) P w K mg base N x (defScope st) f cdv A outer s H E) (defBody st) t ∧ t { nx := fun _ H' => Q .non H', rt := Q } (start N vs) H) : PrD P w K mg base (L2.CX P w) (k + 1) x st ps dvs sp := by
  obtain ⟨f, fd, m, F⟩ := D
  exact ⟨f, fd, m, F, F.ok S len fun cdv A outer s H vs Q E => body f cdv A outer s H vs Q E⟩
theorem DefD.ok (D : DefD K mg x st dvs) (S : FnScope N ps (defScope st)) (len : ∀ vs H Q E, sp vs H Q E → vs.length = ps.length)
    (body : ∀ (f : Addr) (cdv : Value) (A : Around) (outer : List Env) (s : Shared) (H : Hp) (vs : List V) (Q : VK) (E : XK), Room k (A.deeper (envOfC x (defScope st) s.heap.objs.size f cdv)) → sp vs H Q E →
      ∃ t, PSs (cxOf CX0 P w K mg base N x (defScope st) f cdv A outer s H E).nox (defBody st) t ∧ t { nx := fun _ H' => Q .non H', rt := Q } (start N vs) H) : PrD P w K mg base CX0 (k + 1) x st ps dvs sp := by
  obtain ⟨f, fd, m, F⟩ := D
  refine ⟨f, fd, m, F, F.ok S len fun cdv A outer s H vs Q E hr z => ?_⟩
  obtain ⟨t, h, q⟩ := body f cdv A outer s H vs Q E hr z
  exact ⟨t, h.nox, q⟩
end
section
variable {X : Cx} {CX : CXT} {j k : Nat} {st : Stmt} {ps : List Str} {dvs : List V} {sp : Sp} {E : XK} {W : WX} {x : Str} {p pos : Pos} {e : Expr} {es : List Expr} {t : TA}
/-- f(..): n values are written -/
theorem pe_posD (n i : Nat) (F : PrD X.prog X.w X.K X.mg X.base CX k x st ps dvs sp) (hr : Room j X.A) (hk : k ≤ j) (hg : Gl X x) (hd : dvs ≠ []) (hn : n + (dvs.length - i) = ps.length) (hb : PosD x st ps dvs.length n i) (hx : Passes CX X E) (ha : PA X (e :: es) t)
    (n0 : (x == ("__debug__" : Str)) = false := by decide) (n1 : starEach (e :: es) X.env = (false, eval e X.env) :: starEach es X.env := by rfl) (n2 : (backTo pos (starEach es X.env)).any (·.1) = false := by rfl) :
    PE X (.Call (.Name x p) (e :: es) [] pos) (tCall sp (dvs.drop i) E t) := by
  obtain ⟨f, fd, m, Z, F⟩ := F.ex
  obtain ⟨ds, r, b⟩ := Z.binds1 n i hd hn fun T kV doc pm an cdv ct us its => hb T kV doc pm an cdv ct us its
  exact pe_call F (hr.mono hk) hg m Z.kp b r hx ha n0 n1 n2
def tCallDS (sp : Sp) (ds : List V) (W : WX) (t : TA) : TE := fun σ H Q => t σ H fun vs H1 => sp (vs ++ ds) H1 Q (WE W σ)
/-- the same in a try's body -/
theorem pe_posDS (n i : Nat) (F : PrD X.prog X.w X.K X.mg X.base (L2.CX X.prog X.w) k x st ps dvs sp) (hr : Room j X.A) (hk : k ≤ j) (hg : Gl X x) (hd : dvs ≠ []) (hn : n + (dvs.length - i) = ps.length) (hb : PosD x st ps dvs.length n i) (tw : Takes X W) (ha : PA X (e :: es) t)
    (n0 : (x == ("__debug__" : Str)) = false := by decide) (n1 : starEach (e :: es) X.env = (false, eval e X.env) :: starEach es X.env := by rfl) (n2 : (backTo pos (starEach es X.env)).any (·.1) = false := by rfl) :
    PE X (.Call (.Name x p) (e :: es) [] pos) (tCallDS sp (dvs.drop i) W t) := by
  obtain ⟨f, fd, m, Z, F⟩ := F.ex
  obtain ⟨ds, rd, b⟩ := Z.binds1 n i hd hn fun T kV doc pm an cdv ct us its => hb T kV doc pm an cdv ct us its
  constructor
  intro pins s σ H Q I h
  refine wpAny_Call_Name_kw (ld_glob I hg m ?_ n0)
  refine PySem.W.callWith_K (h₀ := X.base) I.ok.mod.kin Z.kp (thn (ha.run pos pins s σ H _ I h) fun us s1 ⟨vs, H1, I1, r, q⟩ => ⟨I1.kIn, ?_⟩) n1 n2
  have rr := r.append rd
  have many : (us ++ ds).length = ps.length := (Paired.length rr).symm.trans (F.len _ _ _ _ q)
  refine wpAny_call (codeAny_mono (F.run X.A X.stack s1 H1 ⟨us, []⟩ (us ++ ds) (vs ++ dvs.drop i) Q (WE W σ) (hr.mono hk) I1.env0 (b s1 us I1.kIn many) rr q) fun res s' z => ?_)
  cases res with
  | error er => exact passAt tw σ pins H1 s1 er s' I1 z
  | ok fl =>
    cases fl with
    | ret u => exact I1.after z
    | next => exact False.elim z
    | brk => exact False.elim z
    | cont => exact False.elim z
end
/-- n values are written, then keywords named ks; g puts them and all the defaults in the parameters' order -/
structure KwD (x : Str) (st : Stmt) (ps : List Str) (dn n : Nat) (ks : List Str) (g : {α : Type} → List α → List α → List α → List α) : Prop where
  to : ∀ (T : Addr) (kV doc pm : Value) (an : Option Addr) (cdv ct : Value) (us ws its : List Value), us.length = n → ws.length = ks.length → its.length = dn →
    ∃ k, bindArgs (PySem.W.fnOf x x (defArgs st) (defBody st) (defScope st) (.ref T) kV doc pm an cdv ct) ⟨us, ks.zip ws⟩ = seqItems? (.ref T) >>= k ∧ k (some its.toArray) = pure (ps.zip (g us ws its))
  rel : ∀ {vs zs ds : List V} {us ws its : List Value}, Vals vs us → Vals zs ws → Vals ds its → Vals (g vs zs ds) (g us ws its)
section
variable {K : PySem.W.Frag} {mg : Str → Option Value} {x : Str} {st : Stmt} {ps ks : List Str} {dvs : List V} {n : Nat} {g : {α : Type} → List α → List α → List α → List α} {f : Addr} {fd : FuncData}
theorem kwd_binds (F : FunD K x x (defArgs st) (defBody st) (defScope st) dvs [] f fd) (hd : dvs ≠ []) (hb : KwD x st ps dvs.length n ks g) : ∃ its : List Value, KBn K fd ps n ks (fun us ws => g us ws its) (fun vs zs => g vs zs dvs) := by
  obtain ⟨oc, od, dV, kV, doc, pm, an, cdv, ct, osl, rfl, lk, hcd, hD, hK⟩ := F.ex
  rcases hD with ⟨e, _⟩ | ⟨_, T, o, its, m, rfl, lT, oT, rT⟩
  · exact absurd e hd
  · refine ⟨its, ⟨fun s us ws X l1 l2 => ?_, fun r1 r2 => hb.rel r1 r2 rT⟩⟩
    obtain ⟨k, e1, e2⟩ := hb.to T kV doc pm an cdv ct us ws its l1 l2 rT.length.symm
    refine BindsTo.of_looks fun M => ?_
    rw [e1]
    exact looks_items X lT oT (.of_pure e2)
end
section
variable {X : Cx} {CX : CXT} {j k n : Nat} {st : Stmt} {ps ks : List Str} {dvs : List V} {sp : Sp} {E : XK} {W : WX} {x : Str} {p pos : Pos} {kws : List Keyword} {t tk : TA} {g : {α : Type} → List α → List α → List α → List α}
def tKwDS (sp : Sp) (m : Nat) (g : {α : Type} → List α → List α → List α → List α) (ds : List V) (W : WX) (t : TA) : TE := fun σ H Q => t σ H fun zs H1 => zs.length = m ∧ sp (g [] zs ds) H1 Q (WE W σ)
/-- f(a = .., b = ..) in a try's body -/
theorem pe_kwDS (F : PrD X.prog X.w X.K X.mg X.base (L2.CX X.prog X.w) k x st ps dvs sp) (hr : Room j X.A) (hk : k ≤ j) (hg : Gl X x) (hd : dvs ≠ []) (hb : KwD x st ps dvs.length 0 ks g) (tw : Takes X W) (hkw : PK X kws tk)
    (n1 : (backToKw pos (keywordEach kws X.env)).all (·.1.isSome) = true := by rfl) (n2 : (backToKw pos (keywordEach kws X.env)).filterMap (·.1) = ks := by rfl) (n0 : (x == ("__debug__" : Str)) = false := by decide)
    (n3 : ((backTo pos (starEach [] X.env)).any (·.1) || (backToKw pos (keywordEach kws X.env)).any (·.1.isNone)) = false := by rfl) : PE X (.Call (.Name x p) [] kws pos) (tKwDS sp ks.length g dvs W tk) := by
  obtain ⟨f, fd, m, Z, F⟩ := F.ex
  obtain ⟨its, b⟩ := kwd_binds Z hd hb
  constructor
  intro pins s σ H Q I h
  refine wpAny_Call_Name_kw (ld_glob I hg m ?_ n0)
  refine PySem.W.callWith_KW0 (h₀ := X.base) I.ok.mod.kin Z.kp n1 ?_ n3
  refine thn (hkw.run pos pins s σ H _ I h) fun ws s2 ⟨zs, H2, I2, r, l, q⟩ => ⟨I2.kIn, ?_⟩
  rw [n2]
  refine wpAny_call (codeAny_mono (F.run X.A X.stack s2 H2 ⟨[], ks.zip ws⟩ (g [] ws its) (g [] zs dvs) Q (WE W σ) (hr.mono hk) I2.env0 (b.to s2 [] ws I2.kIn rfl (r.length.symm.trans l)) (b.rel .nil r) q) fun res s' z => ?_)
  cases res with
  | error er => exact passAt tw σ pins H2 s2 er s' I2 z
  | ok fl =>
    cases fl with
    | ret u => exact I2.after z
    | next => exact False.elim z
    | brk => exact False.elim z
    | cont => exact False.elim z
/-- f(.., a = .., b = ..) -/
theorem pe_kwD (F : PrD X.prog X.w X.K X.mg X.base CX k x st ps dvs sp) (hr : Room j X.A) (hk : k ≤ j) (hg : Gl X x) (hd : dvs ≠ []) (hb : KwD x st ps dvs.length n ks g) (hx : Passes CX X E) {e : Expr} {es : List Expr} (ha : PA X (e :: es) t) (hkw : PK X kws tk)
    (n1 : (backToKw pos (keywordEach kws X.env)).all (·.1.isSome) = true := by rfl) (n2 : (backToKw pos (keywordEach kws X.env)).filterMap (·.1) = ks := by rfl) (n0 : (x == ("__debug__" : Str)) = false := by decide)
    (n4 : starEach (e :: es) X.env = (false, eval e X.env) :: starEach es X.env := by rfl) (n3 : ((backTo pos (starEach (e :: es) X.env)).any (·.1) || (backToKw pos (keywordEach kws X.env)).any (·.1.isNone)) = false := by rfl) :
    PE X (.Call (.Name x p) (e :: es) kws pos) (tCallN n ks.length sp (fun vs zs => g vs zs dvs) E t tk) := by
  obtain ⟨f, fd, m, Z, F⟩ := F.ex
  obtain ⟨its, b⟩ := kwd_binds Z hd hb
  exact pe_callN F (hr.mono hk) hg m Z.kp b hx ha hkw n1 n2 n0 n4 n3
end
/-! ### walking a list or a tuple -/
/-- J walks the list or tuple xs at a -/
def Wk (K : PySem.W.Frag) (a : Addr) (xs : List V) (H : Hp) (J : It) : Prop := (J = Itl K a ∧ SqL K H a xs) ∨ (J = Itt K a ∧ SqT K H a xs)
theorem Wk.walk {K : PySem.W.Frag} {a : Addr} {xs : List V} {H : Hp} {J : It} (h : Wk K a xs H J) : ∃ G, Walk J xs.length G (YAt xs) ∧ G H ∧ ∀ H', Same H H' → G H' := by
  rcases h with ⟨rfl, hs⟩ | ⟨rfl, hs⟩
  · exact ⟨_, walk_list (K := K) (a := a) (xs := xs), hs, fun H' s => s.seq hs⟩
  · refine ⟨_, walk_tup (K := K) (a := a) (xs := xs), hs, fun H' s => ?_⟩
    rcases hs with hs | hs
    · rcases hs with hs | ⟨o, hs⟩
      · exact .inl (.inl (s _ _ hs))
      · exact .inl (.inr ⟨o, s _ _ hs⟩)
    · exact .inr hs
def iSeq (K : PySem.W.Frag) (tl : TE) : TI := fun σ H R => tl σ H fun x H1 => ∃ a xs, x = .ref a ∧ (SqL K H1 a xs ∨ SqT K H1 a xs) ∧ ∀ J, Wk K a xs H1 J → R J H1
theorem pi_seq {X : Cx} {tg l : Expr} {tl : TE} (hl : PE X l tl) : PI X tg l (iSeq X.K tl) := by
  refine ⟨fun pins s σ H R I h => thn (hl.run pins s σ H _ I h) fun v s1 z => ?_⟩
  obtain ⟨x, H1, I1, r1, a, xs, rfl, z, q⟩ := z
  cases r1
  have new : ∀ b ∈ [s1.heap.objs.size], FpOk X pins H1 b := fun b hb => by
    rw [List.mem_singleton.mp hb]
    exact I1.fpOk (Nat.le_refl _) (I1.hok.fresh (Nat.le_refl _))
  rcases z with hq | hq
  · obtain ⟨its, rv, p, hz⟩ := I1.list hq
    exact wpAny_pyIter_list p.isList ⟨s1.heap.objs.size, [s1.heap.objs.size], _, _, H1, rfl, I1.kept (t' := s1.toks) fun b o e => Heap.get?_push_of_some _ e, turn_list a _, ⟨_, Heap.get?_push_size _ rfl, rfl, rfl⟩, new, q _ (.inl ⟨rfl, hq⟩)⟩
  · obtain ⟨its, rv, p, hz⟩ := I1.tuple hq
    exact wpAny_pyIter_tuple (show s1.heap.IsTuple a its.toArray from p) ⟨s1.heap.objs.size, [s1.heap.objs.size], _, _, H1, rfl, I1.kept (t' := s1.toks) fun b o e => Heap.get?_push_of_some _ e, turn_tuple a _, ⟨_, Heap.get?_push_size _ rfl, rfl, rfl⟩, new, q _ (.inr ⟨rfl, hq⟩)⟩
end Gx
namespace Gx
open PySem PySem.Spec PyProof.Rows L2
/-! ### repr of lists and tuples that hold empty dicts -/
/-- the table of modules stands in the heap: a dict -/
def SysD (h : Heap) : Prop := ∃ o, h.get? sysModules = some o ∧ o.cls = .type "dict"
/-- the head's facts, and this one -/
def sysHook (K : Params → PySem.W.Frag) (as : List Addr) (e : ∀ P, as = (K P).map (·.1)) : PySem.W.Hook where
  α := List (Option Obj) × Option Value
  obs := fun s => (as.map s.heap.get?, (s.heap.get? sysModules).map (·.cls))
  val := fun w => ((K w.params).map fun p => some p.2, some (.type "dict"))
  says := fun w h => PySem.W.InK K w h ∧ SysD h
  of := fun w s x => ⟨PySem.W.InK.of e w s (Prod.mk.inj x).1, let ⟨o, h1, h2⟩ := Option.map_eq_some_iff.mp (Prod.mk.inj x).2; ⟨o, h1, h2⟩⟩
  keeps := fun w h h' x k => ⟨PySem.W.InK.keeps w h h' x.1 k, let ⟨o, h1, h2⟩ := x.2; ⟨o, k _ _ h1, h2⟩⟩
theorem sys_of {K : Params → PySem.W.Frag} {as : List Addr} {e : ∀ P, as = (K P).map (·.1)} {w : World} {h : Heap} (Y : (sysHook K as e).says w h) : (K w.params).In h ∧ SysD h := ⟨Y.1, Y.2⟩
section
variable {X : Cx} {pins : List (Addr × Obj)} {σ : L2.St} {H : Hp} {s : Shared}
theorem not_sys (S : SysD X.base) (I : Inv X pins σ H s) {a : Addr} {o : Obj} (ho : s.heap.get? a = some o) (hc : o.cls = .type "list") : a ≠ sysModules := fun z => by
  subst z
  obtain ⟨u, hu, e⟩ := S
  have := I.bk _ _ hu
  rw [ho] at this
  cases this
  exact absurd (Value.type.inj (hc.symm.trans e)) (by decide)
mutual
theorem Dq.reads2 (S : SysD X.base) (I : Inv X pins σ H s) : ∀ (d : PyData) (v : V) (u : Value), Dq X.K H v d → RelV v u → ∃ as, Reads s.heap u d as ∧ sysModules ∉ as
  | .none, _, _, h, r => by
    cases h; cases r
    exact ⟨_, .none, by simp⟩
  | .bool b, _, _, h, r => by
    cases h; cases r
    exact ⟨_, .bool b, by simp⟩
  | .int i, _, _, h, r => by
    cases h
    obtain ⟨t, rfl⟩ := r
    exact ⟨_, .int i t, by simp⟩
  | .str x, _, _, h, r => by
    cases h
    obtain ⟨t, rfl⟩ := r
    exact ⟨_, .str x t, by simp⟩
  | .list ds, _, _, h, r => by
    cases h with
    | lst hs ha =>
      cases r
      obtain ⟨its, rv, ⟨o, n, ho, hc, _, hd⟩, _⟩ := I.list hs
      obtain ⟨as, q, na⟩ := DqAll.reads2 S I ds _ its ha rv
      refine ⟨_, .list ho hc hd q, fun z => ?_⟩
      rcases List.mem_cons.mp z with z | z
      · exact not_sys S I ho hc z.symm
      · exact na z
  | .tuple ds, _, _, h, r => by
    cases h with
    | tup hs ha =>
      cases r
      obtain ⟨its, rv, ⟨o, ho, hc, n, hd⟩, _⟩ := I.tuple hs
      obtain ⟨as, q, na⟩ := DqAll.reads2 S I ds _ its ha rv
      exact ⟨_, .tuple ho hc hd q, na⟩
  | .dict kvs, _, _, h, r => by
    cases h with
    | nil e =>
      cases r
      obtain ⟨_, nm, _⟩ := I.hok _ _ e
      refine ⟨_, nil_reads I e, fun y => ?_⟩
      rw [← List.mem_singleton.mp y] at nm
      simp at nm
theorem DqAll.reads2 (S : SysD X.base) (I : Inv X pins σ H s) : ∀ (ds : List PyData) (vs : List V) (us : List Value), DqAll X.K H vs ds → Vals vs us → ∃ as, ReadsAll s.heap us ds as ∧ sysModules ∉ as
  | [], _, _, h, r => by
    cases h; cases r
    exact ⟨_, .nil, by simp⟩
  | d :: ds, _, _, h, r => by
    cases h with
    | cons h1 h2 =>
      cases r with
      | cons r1 r2 =>
        obtain ⟨as, q1, n1⟩ := Dq.reads2 S I d _ _ h1 r1
        obtain ⟨bs, q2, n2⟩ := DqAll.reads2 S I ds _ _ h2 r2
        exact ⟨_, .cons q1 q2, fun z => (List.mem_append.mp z).elim n1 n2⟩
end
end
/-- repr(l), l a list or a tuple -/
def rReprN (K : PySem.W.Frag) : List V → Hp → VK → Prop := fun xs H Q => ∃ a d, xs = [.ref a] ∧ Dq K H (.ref a) d ∧ d.showable = true ∧ d.depth ≤ 30 ∧ d.shown.length ≤ sizeLine ∧ Q (.str d.shown) H
theorem call_reprN {X : Cx} {K : PySem.W.Frag} (hK : X.K = K) (S : SysD X.base) (hgd : X.A.guards = some []) (hu : X.A.units + 64 < cLine) : CallR X (.builtin "repr") (rReprN K) := by
  subst hK
  intro pins s σ H xs us Q I r h
  obtain ⟨a, d, rfl, hd, hs, hdep, hsz, q⟩ := h
  obtain ⟨u, rfl, rx⟩ := vals1 r
  cases rx
  obtain ⟨as, rd, na⟩ := Dq.reads2 S I d _ _ hd rfl
  exact repr_of_reads' rd hs (fun _ => na) hgd (by omega) (fun _ _ e => e) (fun h' u tk k => ⟨.str d.shown, H, I.kept k, ⟨u, rfl⟩, q⟩) hsz
section
variable {P : Program} {w : World} {K : PySem.W.Frag} {mg mb : Str → Option Value} {k : Nat} {fa a : Addr} {fd : FuncData} {x : Str} {sp : Sp} {s₁ : Shared} {vs : List Value} {ns : List Int}
theorem law_goS (KX : K.In s₁.heap) (SX : SysD s₁.heap) (hm : s₁.heap.Ns mainGlobals mg) (hb : s₁.heap.Ns builtinsNs mb) (hbb : ∀ x : Str, x ≠ "__name__" → mb x = bootBuiltins x) (hl : s₁.heap.NoLimit) (hg : s₁.gens = #[])
    (ha : s₁.heap.get? a = some { cls := .type "list", data := .seq vs.toArray }) (hi : IntsAre vs ns) (hn : ns.length ≤ sizeLine) (hr : Room k callerA)
    (F : ∀ base : Heap, K.In base → base.Ns mainGlobals mg → SysD base → GOk P w K mg base CX0 k fa fd [x] sp) (hbind : ∀ (s : Shared) (u : Value), BindsTo s fd ⟨[u], []⟩ [(x, u)])
    (hsp : ∀ H : Hp, SqL K H a (ns.map V.int) → sp [.ref a] H (fun v _ => v = .bl true) fun _ _ _ => False) :
    codeAny (model P w) callerA (.call (.ref fa) ⟨[.ref a], []⟩) (fun r s' => r = .ok (.ret (.bool true)) ∧ OldK s₁.heap s'.heap ∧ s'.os = s₁.os ∧ AllBare s'.gens) s₁ := by
  have rv := vals_ints hi
  have key : ∀ H : Hp, (∀ b, H b = none ∨ (b = a ∧ ∃ o xs, H b = some (.frz o (.lst xs)))) → SqL K H a (ns.map V.int) → HOk P w H s₁.heap → (H a ≠ none → K.lookup a = none) →
      codeAny (model P w) callerA (.call (.ref fa) ⟨[.ref a], []⟩) (fun r s' => r = .ok (.ret (.bool true)) ∧ OldK s₁.heap s'.heap ∧ s'.os = s₁.os ∧ AllBare s'.gens) s₁ := fun H only hS ok hK => by
    have free : ∀ {b : Addr} {o : Obj} {es : Array DictEntry} {ep : Nat}, s₁.heap.get? b = some o → o.data = .dict es ep → H b = none := fun {b o es ep} e d => by
      rcases only b with z | ⟨rfl, _⟩
      · exact z
      · rw [ha] at e
        cases e
        cases d
    have ns1 : ∀ {b : Addr} {m : Str → Option Value}, s₁.heap.Ns b m → (hidT s₁.heap H).Ns b m := fun {b m} z => let ⟨o, es, ep, e, d, r⟩ := z; ⟨o, es, ep, hidT_get e (free e d), d, r⟩
    have kb : K.In (hidT s₁.heap H) := fun b o e => hidT_get (KX b o e) ((only b).elim id fun ⟨z, o', xs, q⟩ => by
      subst z
      rw [hK (by rw [q]; exact fun z => nomatch z)] at e
      cases e)
    have sb : SysD (hidT s₁.heap H) := by
      obtain ⟨o, h1, h2⟩ := SX
      refine ⟨o, hidT_get h1 ((only sysModules).elim id fun ⟨z, _⟩ => ?_), h2⟩
      rw [z, ha] at h1
      cases h1
      exact absurd (Value.type.inj h2) (by decide)
    have md : Mod K mg (hidT s₁.heap H) := ⟨kb, ns1 hm, ⟨mb, ns1 hb, hbb⟩, let ⟨mc, h1, h2⟩ := hl; ⟨mc, ns1 h1, h2⟩⟩
    have e0 : Env0 P w K mg (hidT s₁.heap H) callerA [] s₁ H := ⟨rfl, md, fun b o e => of_hidT e, Nat.le_of_eq (hidT_size _ _), trivial, (fun _ z => nomatch z), ok, .of_eq hg⟩
    refine codeAny_mono ((F _ kb (ns1 hm) sb).go (A := callerA) (us := [.ref a]) (vs := [.ref a]) rfl hr e0 (hbind s₁ (.ref a)) (.cons rfl .nil) (hsp H hS)) fun r s' z => ?_
    cases r with
    | error e => exact False.elim z
    | ok fl =>
      cases fl with
      | next => exact False.elim z
      | brk => exact False.elim z
      | cont => exact False.elim z
      | ret u =>
        obtain ⟨v, H', os, bare, un, ok', r', q⟩ := z
        cases q
        cases r'
        refine ⟨rfl, OldK.of_keep fun b o e => ?_, os, bare⟩
        rcases only b with z | ⟨_, ob, xs, z⟩
        · exact un.keep b o e z (fun y => nomatch y) (fun y => nomatch y)
        · have e1 := (ok b _ z).1
          have e2 := (ok' b _ (un.frzs b ob _ z)).1
          rw [e] at e1
          cases e1
          exact e2
  cases hk : K.lookup a with
  | some o =>
    have e := KX a o hk
    rw [ha] at e
    cases e
    exact key (fun _ => none) (fun _ => .inl rfl) (.inr ⟨_, vs.toArray, _, hk, rfl, rfl, rfl, by rw [List.size_toArray, hi.length]; exact hn, by simpa using rv⟩) (fun b u z => nomatch z) fun z => absurd rfl z
  | none =>
    have at_a : scr a { cls := .type "list", data := .seq vs.toArray } ns a = some (.frz { cls := .type "list", data := .seq vs.toArray } (.lst (ns.map V.int))) := if_pos rfl
    refine key (scr a { cls := .type "list", data := .seq vs.toArray } ns) (fun b => ?_) (.inl (.inr ⟨_, at_a⟩)) (fun b u z => ?_) fun _ => hk
    · by_cases c : b = a
      · exact .inr ⟨c, _, _, by rw [c]; exact at_a⟩
      · exact .inl (if_neg c)
    · by_cases c : b = a
      · subst c
        rw [at_a] at z
        cases z
        exact ⟨ha, by rw [List.length_map]; exact hn, vs, _, rv, ha⟩
      · have z' := (if_neg c).symm.trans z
        cases z'
end
/-- the end of a law row, with the table of modules known -/
theorem walkS {l : PySem.W.OpenLaw} {n k : Nat} {q : Program} {loose : List Str} {XP : (Str → Option Value) → Heap → Prop} {YP : World → Heap → Prop} {d : DefRec} {K : Params → PySem.W.Frag} {sp : World → Sp} {x nm : Str} {st : Stmt}
    (hn : l.most = some n) (hn2 : n ≤ sizeLine) (hdf : d.params.defaults = []) (hr : Room k callerA) (hY : ∀ (w : World) (h : Heap), YP w h → (K w.params).In h ∧ SysD h) (hnm : d.name = nm) (hb : PosB nm st [x])
    (F : ∀ (w : World) (mg : Str → Option Value) (h : Heap), (K w.params).In h → h.Ns mainGlobals mg → ∀ base : Heap, (K w.params).In base → base.Ns mainGlobals mg → SysD base → PrG l.prog w (K w.params) mg base CX0 k nm st [x] (sp w))
    (hsp : ∀ (w : World) (H : Hp) (a : Addr) (ns : List Int), ns.length ≤ n → SqL (K w.params) H a (ns.map V.int) → sp w [.ref a] H (fun v _ => v = .bl true) fun _ _ _ => False) :
    PySem.W.WalkO q loose XP YP l.row.toRowW d [] (fun f vs => PySem.call f vs) := by
  refine Att.attach_call hn hdf fun w s₀ s₁ mg mb fa o pm cd doc a vs ns G Y ho hd hcd hmg hobj hints hlen hg => ?_
  obtain ⟨KX, SX⟩ := hY w _ Y
  obtain ⟨f, fd, m, Z, _⟩ := (F w mg _ KX G.T.g _ KX G.T.g SX).ex
  rw [hnm, m] at hmg
  cases hmg
  refine law_goS (x := x) (fd := fd) KX SX G.T.g G.T.b G.T.builtins G.T.nolimit hg hobj hints (Nat.le_trans hlen hn2) hr (fun base kb nb sb => ?_) (fun s u => ?_) fun H hS => hsp w H a ns hlen hS
  · obtain ⟨f', fd', m', Z', F'⟩ := (F w mg _ KX G.T.g base kb nb sb).ex
    rw [m] at m'
    cases m'
    obtain ⟨_, _, _, _, _, _, _, _, _, rfl, l1, _⟩ := Z.ex
    obtain ⟨_, _, _, _, _, _, _, _, _, rfl, l2, _⟩ := Z'.ex
    rw [l1] at l2
    cases l2
    exact F'
  · obtain ⟨_, _, kV, doc, pm, an, cdv, ct, _, rfl, _, _⟩ := Z.ex
    exact .of_eq (hb kV doc pm an cdv ct [u] rfl)
end Gx
namespace Gx
open PySem PySem.Spec PyProof.Rows L2
/-! ### the head by one run: what the module's names reach, level by level -/
def stepA (g : Addr → Option Obj) (a : Addr) : List Addr := match g a with
  | some ⟨_, _, .func fd, _⟩ => He.refV fd.code ++ He.refV fd.defaults
  | some ⟨_, _, .cls cd, _⟩ => [cd.ns]
  | some ⟨_, _, .dict es _, _⟩ => es.toList.flatMap fun e => He.refV e.val
  | some ⟨.type c, _, .fields vs, _⟩ => if c = "property" ∨ c = "classmethod" ∨ c = "staticmethod" then vs.toList.flatMap He.refV else []
  | _ => []
def levels (g : Addr → Option Obj) : Nat → List Addr → List Addr
  | 0, l => l
  | n + 1, l => l ++ levels g n (l.flatMap (stepA g))
def asM (g : Addr → Option Obj) (n : Nat) : List Addr := levels g n [mainGlobals]
def sysB (g : Addr → Option Obj) : Bool := match g sysModules with
  | some o => o.cls == .type "dict"
  | none => false
abbrev AlM : Type := He.AlD × Bool × Bool
def obsM (n : Nat) (fa : List He.Fa) (fn : List He.DefD) (ex : PySem.W.Frag → Bool) (g : Addr → Option Obj) : AlM := (He.obsD fa fn (He.frG g (asM g n)), ex (He.frG g (asM g n)), sysB g)
def hookM (n : Nat) (fa : List He.Fa) (fn : List He.DefD) (ex : PySem.W.Frag → Bool) : PySem.W.Hook where
  α := AlM
  obs := fun s => obsM n fa fn ex s.heap.get?
  val := fun _ => (He.valD fn, true, true)
  says := fun _ h => ∃ K : PySem.W.Frag, K.In h ∧ He.SaysD fa fn K ∧ ex K = true ∧ SysD h
  of := fun _ s e => by
    have e1 : He.obsD fa fn (He.frG s.heap.get? (asM s.heap.get? n)) = He.valD fn := congrArg (fun z : AlM => z.1) e
    have e2 : ex (He.frG s.heap.get? (asM s.heap.get? n)) = true := congrArg (fun z : AlM => z.2.1) e
    have e3 : sysB s.heap.get? = true := congrArg (fun z : AlM => z.2.2) e
    refine ⟨_, He.frG_in, e1, e2, ?_⟩
    unfold sysB at e3
    split at e3
    · rename_i o ho
      exact ⟨o, ho, beq_iff_eq.mp e3⟩
    · cases e3
  keeps := fun _ _ _ ⟨K, hK, c, x, o, h1, h2⟩ k => ⟨K, PySem.W.Frag.In.keeps hK k, c, x, o, k _ _ h1, h2⟩
theorem obsM_eq {n : Nat} {fa : List He.Fa} {fn : List He.DefD} {ex : PySem.W.Frag → Bool} {g : Addr → Option Obj} {s : Shared} (h : ∀ a, g a = s.heap.get? a) : obsM n fa fn ex g = (hookM n fa fn ex).obs s := by
  have e : g = s.heap.get? := funext h
  rw [e]
  rfl
/-- the end of a law row over such a head -/
theorem walkM {l : PySem.W.OpenLaw} {n k : Nat} {q : Program} {loose : List Str} {XP : (Str → Option Value) → Heap → Prop} {YP : World → Heap → Prop} {d : DefRec} {sp : PySem.W.Frag → Sp} {x nm : Str} {st : Stmt}
    (hn : l.most = some n) (hn2 : n ≤ sizeLine) (hdf : d.params.defaults = []) (hr : Room k callerA) (hnm : d.name = nm) (hb : PosB nm st [x])
    (F : ∀ (w : World) (mg : Str → Option Value) (h : Heap), YP w h → h.Ns mainGlobals mg → ∃ K : PySem.W.Frag, K.In h ∧ SysD h ∧ ∀ base : Heap, K.In base → base.Ns mainGlobals mg → SysD base → PrG l.prog w K mg base CX0 k nm st [x] (sp K))
    (hsp : ∀ (K : PySem.W.Frag) (H : Hp) (a : Addr) (ns : List Int), ns.length ≤ n → SqL K H a (ns.map V.int) → sp K [.ref a] H (fun v _ => v = .bl true) fun _ _ _ => False) :
    PySem.W.WalkO q loose XP YP l.row.toRowW d [] (fun f vs => PySem.call f vs) := by
  refine Att.attach_call hn hdf fun w s₀ s₁ mg mb fa o pm cd doc a vs ns G Y ho hd hcd hmg hobj hints hlen hg => ?_
  obtain ⟨K, KX, SX, FX⟩ := F w mg _ Y G.T.g
  obtain ⟨f, fd, m, Z, _⟩ := (FX _ KX G.T.g SX).ex
  rw [hnm, m] at hmg
  cases hmg
  refine law_goS (x := x) (fd := fd) KX SX G.T.g G.T.b G.T.builtins G.T.nolimit hg hobj hints (Nat.le_trans hlen hn2) hr (fun base kb nb sb => ?_) (fun s u => ?_) fun H hS => hsp K H a ns hlen hS
  · obtain ⟨f', fd', m', Z', F'⟩ := (FX base kb nb sb).ex
    rw [m] at m'
    cases m'
    obtain ⟨_, _, _, _, _, _, _, _, _, rfl, l1, _⟩ := Z.ex
    obtain ⟨_, _, _, _, _, _, _, _, _, rfl, l2, _⟩ := Z'.ex
    rw [l1] at l2
    cases l2
    exact F'
  · obtain ⟨_, _, kV, doc, pm, an, cdv, ct, _, rfl, _, _⟩ := Z.ex
    exact .of_eq (hb kV doc pm an cdv ct [u] rfl)
/-- a def's record of the top -/
def defD (x : Str) (st : Stmt) : He.DefD := ⟨(x, none), x, x, defArgs st, defBody st, defScope st, [], []⟩
/-- a method's -/
def methD (c m qual : Str) (st : Stmt) : He.DefD := ⟨(c, some m), m, qual, defArgs st, defBody st, defScope st, [], []⟩
section
variable {K : PySem.W.Frag} {h : Heap} {mg : Str → Option Value} {fa : List He.Fa} {fn : List He.DefD}
theorem defAt_of (X : K.In h) (G : h.Ns mainGlobals mg) (c : He.SaysD fa fn K) {x : Str} {st : Stmt} (hg : He.Fa.glo x ∈ fa) (hd : defD x st ∈ fn) : DefAt K mg x st := by
  obtain ⟨i, hi, e⟩ := List.mem_iff_getElem.mp hg
  obtain ⟨j, hj, e2⟩ := List.mem_iff_getElem.mp hd
  have f := c.fact i (f := .glo x) (by rw [List.getElem?_eq_getElem hi, e])
  obtain ⟨fd, F⟩ := c.def_ j (d := defD x st) (by rw [List.getElem?_eq_getElem hj, e2])
  exact ⟨_, fd, He.glo_ok X G f, He5.fun_of F⟩
theorem meth_of (c : He.SaysD fa fn K) {x m qual : Str} {st : Stmt} (hd : methD x m qual st ∈ fn) : ∃ fd, Fun K m qual st (He.ma K (He.ga K x) m) fd := by
  obtain ⟨j, hj, e2⟩ := List.mem_iff_getElem.mp hd
  obtain ⟨fd, F⟩ := c.def_ j (d := methD x m qual st) (by rw [List.getElem?_eq_getElem hj, e2])
  exact ⟨fd, He5.fun_of F⟩
theorem fact_of (c : He.SaysD fa fn K) {f : He.Fa} (hf : f ∈ fa) : f.ok K = true := by
  obtain ⟨i, hi, e⟩ := List.mem_iff_getElem.mp hf
  exact c.fact i (by rw [List.getElem?_eq_getElem hi, e])
end
end Gx
namespace Gx
open PySem PySem.Spec PyProof.Rows L2
section
variable {K : PySem.W.Frag} {h : Heap} {mg : Str → Option Value} {x m qual : Str} {st : Stmt}
theorem defAt_i (X : K.In h) (G : h.Ns mainGlobals mg) (f : (He.Fa.glo x).ok K = true) (d : ∃ fd, FunD K x x (defArgs st) (defBody st) (defScope st) [] [] (He.fAd K (x, none)) fd) : DefAt K mg x st :=
  let ⟨fd, F⟩ := d
  ⟨_, fd, He.glo_ok X G f, He5.fun_of F⟩
theorem meth_i (d : ∃ fd, FunD K m qual (defArgs st) (defBody st) (defScope st) [] [] (He.fAd K (x, some m)) fd) : ∃ fd, Fun K m qual st (He.ma K (He.ga K x) m) fd :=
  let ⟨fd, F⟩ := d
  ⟨fd, He5.fun_of F⟩
theorem cl_ga (X : K.In h) (G : h.Ns mainGlobals mg) (f : (He.Fa.glo x).ok K = true) : cl mg x = He.ga K x := cl_of (He.glo_ok X G f)
theorem known_int (X : K.In h) (G : h.Ns mainGlobals mg) {i : Int} (f : (He.Fa.int x i).ok K = true) : KnownAt mg x (.int i) :=
  let ⟨t, e⟩ := He.int_ok X G f
  ⟨_, e, t, rfl⟩
theorem known_str (X : K.In h) (G : h.Ns mainGlobals mg) {z : Str} (f : (He.Fa.str x z).ok K = true) : KnownAt mg x (.str z) :=
  let ⟨t, e⟩ := He.str_ok X G f
  ⟨_, e, t, rfl⟩
theorem all_at {l : List Bool} (h : l.all id = true) (i : Nat) {b : Bool} (e : l[i]? = some b := by rfl) : b = true := List.all_eq_true.mp h b (List.mem_of_getElem? e)
end
/-- three looks at one run -/
theorem map_three {α β γ : Type} {o : Option α} {f1 : α → Bool} {f2 : α → γ} {g : α → β} {k1 k2 : α → Bool} {a d e : Bool} {b : γ} {c : β} (h1 : o.map (fun s => (f1 s, f2 s)) = some (a, b)) (h2 : o.map g = some c) (h3 : o.map (fun s => (k1 s, k2 s)) = some (d, e)) :
    o.map (fun s => (f1 s, f2 s, (g s, k1 s, k2 s))) = some (a, b, (c, d, e)) := by
  cases o with
  | none => cases h1
  | some s =>
    have h1 := Option.some.inj h1
    have h2 := Option.some.inj h2
    have h3 := Option.some.inj h3
    have e1 : f1 s = a := congrArg Prod.fst h1
    have e2 : f2 s = b := congrArg Prod.snd h1
    have e3 : g s = c := h2
    have e4 : k1 s = d := congrArg Prod.fst h3
    have e5 : k2 s = e := congrArg Prod.snd h3
    show some (f1 s, f2 s, (g s, k1 s, k2 s)) = _
    rw [e1, e2, e3, e4, e5]
open PySem.W PySem.Calls in
/-- the run's equation from three looks at it -/
theorem run_three {r : PySem.W.OpenRow} {q : Program} {M n : Nat} {loose : List Str} {fa : List He.Fa} {fn : List He.DefD} {ex : PySem.W.Frag → Bool} {w : World} {ob : PySem.W.SharedT → AlM}
    (ho : ∀ s, ob s = obsM n fa fn ex (HandSHeadRun.getT s))
    (h1 : ∀ os : OsState, (HandSHeadRun.endF (HandSHeadRun.stepQ (HandSHeadRun.denQ HandSHeadRun.tabQ) r.prog w) M r.prog w os).map (fun s => (HandSHeadRun.looksF r.prog (boot_heap w.params) s.abs, HandSHeadRun.seenQ q loose (importedModules r.prog.main.body) (fun s => PySem.W.xlAt q [] s && PySem.W.recOk r.toRowW.records s) s.abs)) = some (true, PySem.W.openGood q loose))
    (h2 : ∀ os : OsState, (HandSHeadRun.endF (HandSHeadRun.stepQ (HandSHeadRun.denQ HandSHeadRun.tabQ) r.prog w) M r.prog w os).map (fun s => He.obsD fa fn (He.frG (HandSHeadRun.getT s) (asM (HandSHeadRun.getT s) n))) = some (He.valD fn))
    (h3 : ∀ os : OsState, (HandSHeadRun.endF (HandSHeadRun.stepQ (HandSHeadRun.denQ HandSHeadRun.tabQ) r.prog w) M r.prog w os).map (fun s => (ex (He.frG (HandSHeadRun.getT s) (asM (HandSHeadRun.getT s) n)), sysB (HandSHeadRun.getT s))) = some (true, true)) :
    HandSHeadRun.RunEq r q (hookM n fa fn ex) ob M loose w := fun os => by
  have z := map_three (h1 os) (h2 os) (h3 os)
  rw [show ob = fun s => obsM n fa fn ex (HandSHeadRun.getT s) from funext ho]
  exact z
end Gx
namespace PySem
namespace GXP
open Builtin Builtin.ObjectAttr HandSPX
section
variable {M : Model} {A : Around} {E : Value → Shared → Prop} {h : Heap} {g : Array GenState} {d : Drawn} {t : Nat} {os : OsState}
variable {nm q : Str} {C N : Addr} {bs bm bmB : List Value} {hdct : Bool} {sn : List Str} {sub : List Value} {ab : Bool} {col : Option Bool} {dd : Option Addr} {k0 k1 k2 k3 k5 : Option Value} {B newId initId : String}
theorem check_new_kw (F : ExcBaseFacts B newId initId bmB) (hT : ∀ X : String, bm.contains (.type X) = bmB.contains (.type X)) {rest : List Value} {kw : List (Str × Value)} {Q : Unit → Shared → Prop}
    (hC : h.get? C = some (excClassObj nm q C N bs bm hdct sn sub ab col dd k0 k1 k2 k3 k5 newId)) (hq : Q () ⟨h, g, d, t, os⟩) : wpAny M A (checkBuiltinCall newId ⟨.ref C :: rest, kw⟩) Q E ⟨h, g, d, t, os⟩ := by
  have hcont : (Value.ref C :: bm).contains (.type B) = true := by rw [List.contains_cons, hT, F.hasB, Bool.or_true]
  have hstar := F.noStar
  simp only [checkBuiltinCall, F.newKind, F.newSplit, F.newRow]
  repeat (first | refine wpAny_loadPart_at hC ?_ | (refine wpAny_isSubtype_exc hC ?_; rw [hcont]) | refine wpAny_staticBase_exc hC ?_ | refine wpAny_madeBy_exc hC ?_ | simp only [bne_self_eq_false, Bool.false_eq_true, if_false] | wp_step)
  exact hq
end
section
variable {prog : Program} {w : World} {A : Around} {E : Value → Shared → Prop} {R : Result → Shared → Prop} {h : Heap} {g : Array GenState} {d : Drawn} {t : Nat} {os : OsState}
variable {nm q : Str} {C N : Addr} {bs bm bmB : List Value} {hdct : Bool} {sn : List Str} {sub : List Value} {ab : Bool} {col : Option Bool} {dd : Option Addr} {k0 k1 k2 k3 k5 : Option Value} {B newId initId : String}

theorem new_kw (F : ExcBaseFacts B newId initId bmB) (hT : ∀ X : String, bm.contains (.type X) = bmB.contains (.type X)) {rest : List Value} {kw : List (Str × Value)}
    (hC : h.get? C = some (excClassObj nm q C N bs bm hdct sn sub ab col dd k0 k1 k2 k3 k5 newId))
    (hq : R (.ok (.ret (.ref (h.objs.size + 1)))) ⟨(h.push { cls := .type "tuple", data := .seq rest.toArray }).push
      { cls := .ref C, data := .fields #[.ref h.objs.size, .none, .none, .none, .bool false, .none] }, g, d, t, os⟩) (hrest : rest.length ≤ sizeLine) :
    codeAny (model prog w) A (.builtin newId ⟨.ref C :: rest, kw⟩) R ⟨h, g, d, t, os⟩ := by
  have hends := F.ends
  have hcB : (Value.ref C :: bm).contains (.type B) = true := by rw [List.contains_cons, hT, F.hasB, Bool.or_true]
  have hcA : (Value.ref C :: bm).contains (.type "AttributeError") = false := by rw [List.contains_cons, hT, F.noAttr]; rfl
  have hcN : (Value.ref C :: bm).contains (.type "NameError") = false := by rw [List.contains_cons, hT, F.noName]; rfl
  refine codeAny_builtinAt F.entry ?_
  unfold Builtin.«BaseException.__new__»
  refine wpAt_bind ?_
  show wpAt _ _ _ (stack >>= _) _ _ _
  refine wpAt_bind (wpAt_stack fun p below => wpAt_of_wpAny ?_)
  wp_walk
  refine wpAt_of_wpAny ?_
  rw [F.owner]
  repeat (first | with_reducible refine wpAny_madeHere_exc F.canon hC ?_ | with_reducible refine wpAny_loadPart_at hC ?_ | (with_reducible refine wpAny_isSubtype_exc hC ?_; first | rw [hcB] | rw [hcA] | rw [hcN]) | wp_step)
  show R _ _
  rw [Heap.size_push]
  exact hq

theorem type_call_kw (F : ExcBaseFacts B newId initId bmB) (hT : ∀ X : String, bm.contains (.type X) = bmB.contains (.type X)) {rest : List Value} {kw : List (Str × Value)} {fI : Addr} {Q : Fin → Shared → Prop}
    (hC : h.get? C = some (excClassObj nm q C N bs bm hdct sn sub ab col dd k0 k1 k2 k3 k5 newId))
    (hi : W.Looks (model prog w) h (typeLookup (.ref C) "__init__") (some (.ref fI))) (hb : ∀ self, W.Looks (model prog w) h (bindSpecial (.ref fI) self) (.ref fI, [self])) (hrest : rest.length ≤ sizeLine)
    (hq : codeAny (model prog w) A (.call (.ref fI) ⟨.ref (h.objs.size + 1) :: rest, kw⟩)
      (fun r s' => match r with | .ok (.ret v) => v = .none ∧ Q (.done (.ret (.ref (h.objs.size + 1)))) s' | .ok _ => False | .error e => E e s')
      ⟨(h.push (W.kdv_tup rest)).push (excO C h.objs.size), g, d, t, os⟩) :
    wpAny (model prog w) A (Builtin.«type.__call__» ⟨.ref C :: rest, kw⟩) Q E ⟨h, g, d, t, os⟩ := by
  repeat (first | with_reducible refine wpAny_loadPart_at hC ?_ | with_reducible refine wpAny_madeBy_exc hC ?_ | wp_step)
  refine codeAny_call_builtin_code (Code.quiet_builtin _ F.quiet) (check_new_kw F hT hC ?_)
  refine new_kw F hT hC ?_ hrest
  show wpAny _ _ _ _ _ _
  have k : ∀ b o, h.get? b = some o → ((h.push (W.kdv_tup rest)).push (excO C h.objs.size)).get? b = some o := fun b o e => Heap.get?_push_of_some _ (Heap.get?_push_of_some _ e)
  have hC₁ := k _ _ hC
  have hget : ((h.push (W.kdv_tup rest)).push (excO C h.objs.size)).get? (h.objs.size + 1) = some (excO C h.objs.size) := by heap_get
  have hcC : (Value.ref C :: bm).contains (.ref C) = true := by simp
  have i1 := hi.keeps k
  have b1 := (hb (.ref (h.objs.size + 1))).keeps k
  unfold isInstance
  repeat (first | with_reducible refine wpAny_loadPart_at hget ?_ | (with_reducible refine wpAny_isSubtype_exc hC₁ ?_; rw [hcC]) | wp_step)
  show wpAny _ _ (typeLookup (.ref C) _) _ _ _
  refine i1.at ?_
  refine wpAny_holding (wpAny_bind (b1.at ?_))
  refine wpAny_bind (wpAny_call (codeAny_mono hq fun r s' z => ?_))
  rcases r with e | (v | _ | _ | _) <;> first | exact z | exact z.elim | skip
  obtain ⟨rfl, z⟩ := z
  first
    | exact wpAny_pure (wpAny_pure z)
    | (wp_walk; exact z)

theorem call_kw (F : ExcBaseFacts B newId initId bmB) (hT : ∀ X : String, bm.contains (.type X) = bmB.contains (.type X)) {rest : List Value} {kw : List (Str × Value)} {fI : Addr}
    (hC : h.get? C = some (excClassObj nm q C N bs bm hdct sn sub ab col dd k0 k1 k2 k3 k5 newId))
    (hi : W.Looks (model prog w) h (typeLookup (.ref C) "__init__") (some (.ref fI))) (hb : ∀ self, W.Looks (model prog w) h (bindSpecial (.ref fI) self) (.ref fI, [self])) (hrest : rest.length ≤ sizeLine)
    (hq : codeAny (model prog w) (A.under (.builtin "type.__call__" ⟨.ref C :: rest, kw⟩)) (.call (.ref fI) ⟨.ref (h.objs.size + 1) :: rest, kw⟩) (W.InitBack (h.objs.size + 1) R)
      ⟨(h.push (W.kdv_tup rest)).push (excO C h.objs.size), g, d, t, os⟩) :
    codeAny (model prog w) A (.call (.ref C) ⟨rest, kw⟩) R ⟨h, g, d, t, os⟩ := by
  have f1 := tc_lookup
  have f2 := tc_bind (.ref C)
  have hTy : (⟨h, g, d, t, os⟩ : Shared).TypeIs (.ref C) "type" := ⟨_, hC, rfl⟩
  refine codeAny_of_tree ?_
  show wpAny _ _ (callAny (.ref C) _) _ _ _
  repeat (any_goals (first | assumption | with_reducible refine wpAny_loadPart_at hC ?_ | wp_step))
  refine ⟨rfl, ?_⟩
  refine codeAny_call_builtin_at (Code.quiet_builtin _ (by decide +kernel)) entry_typeCall (wpAny_check_type_call_sub hC (type_call_kw F hT hC hi hb hrest ?_))
  refine codeAny_mono hq fun r s' z => ?_
  rcases r with e | (v | _ | _ | _) <;> exact z
end
end GXP
end PySem
namespace Gx
open PySem PySem.Spec PyProof.Rows L2
/-! ### errors as plain values -/
/-- a built-in class over which the program's error classes stand -/
structure EB (B newId initId : String) (bmB : List Value) : Prop where
  F : ExcBaseFacts B newId initId bmB
  S : StoreFacts B bmB "object.__setattr__" "object"
abbrev tlV : List Value := [.type "ValueError", .type "Exception", .type "BaseException", .type "object"]
abbrev tlL : List Value := [.type "LookupError", .type "Exception", .type "BaseException", .type "object"]
abbrev tlR : List Value := [.type "RuntimeError", .type "Exception", .type "BaseException", .type "object"]
abbrev tlA : List Value := [.type "ArithmeticError", .type "Exception", .type "BaseException", .type "object"]
theorem ebV : EB "ValueError" "ValueError.__new__" "ValueError.__init__" tlV := ⟨PySem.F.excBase_ValueError, PySem.F.store_ValueError⟩
theorem ebL : EB "LookupError" "LookupError.__new__" "LookupError.__init__" tlL := ⟨PySem.F.excBase_LookupError, PySem.F.store_LookupError⟩
theorem ebR : EB "RuntimeError" "RuntimeError.__new__" "RuntimeError.__init__" tlR := ⟨PySem.F.excBase_RuntimeError, PySem.F.store_RuntimeError⟩
theorem ebA : EB "ArithmeticError" "ArithmeticError.__new__" "ArithmeticError.__init__" tlA := ⟨PySem.F.excBase_ArithmeticError, PySem.F.store_ArithmeticError⟩
/-- what the written part says of such a class -/
def ecB (K : PySem.W.Frag) (C : Addr) (bmB : List Value) (newId : String) : Bool :=
  PySem.W.excInitIn K C bmB newId && PySem.W.excOver K C bmB && PySem.W.hasDictIn K C && PySem.W.keepIn K (.ref C) && PySem.W.isClsIn K C &&
  (PySem.W.typeIn K (.ref C) == some (.type "type")) && (PySem.W.findIn K (.ref C) "__setattr__" == some (some (.builtin "object.__setattr__"))) &&
  (PySem.W.findIn K (.ref C) "__getattribute__" == some (some (.builtin "BaseException.__getattribute__"))) && (PySem.W.findIn K (.ref C) "__getattr__" == some none) &&
  (PySem.W.findIn K (.ref C) "__class__" == some (some (.builtin "object.__class__"))) && (PySem.W.subIn K (.ref C) (.type "BaseException") == some true) &&
  (PySem.W.mroIn K C (.type "object") == some true) && (PySem.W.specialIn K (.builtin "object.__class__") "__get__" == some (some (.builtin "getset_descriptor.__get__"))) &&
  (PySem.W.takesIn K (.builtin "object.__class__") == some true)
structure EC (K : PySem.W.Frag) (C : Addr) (bmB : List Value) (newId : String) : Prop where
  i : PySem.W.excInitIn K C bmB newId = true
  o : PySem.W.excOver K C bmB = true
  hd : PySem.W.hasDictIn K C = true
  kC : PySem.W.keepIn K (.ref C) = true
  is : PySem.W.isClsIn K C = true
  ty : PySem.W.typeIn K (.ref C) = some (.type "type")
  sa : PySem.W.findIn K (.ref C) "__setattr__" = some (some (.builtin "object.__setattr__"))
  ga : PySem.W.findIn K (.ref C) "__getattribute__" = some (some (.builtin "BaseException.__getattribute__"))
  gg : PySem.W.findIn K (.ref C) "__getattr__" = some none
  gc : PySem.W.findIn K (.ref C) "__class__" = some (some (.builtin "object.__class__"))
  ex : PySem.W.subIn K (.ref C) (.type "BaseException") = some true
  mo : PySem.W.mroIn K C (.type "object") = some true
  gn : PySem.W.specialIn K (.builtin "object.__class__") "__get__" = some (some (.builtin "getset_descriptor.__get__"))
  gt : PySem.W.takesIn K (.builtin "object.__class__") = some true
theorem EC.of {K : PySem.W.Frag} {C : Addr} {bmB : List Value} {newId : String} (h : ecB K C bmB newId = true) : EC K C bmB newId := by
  unfold ecB at h
  simp only [Bool.and_eq_true, beq_iff_eq] at h
  obtain ⟨⟨⟨⟨⟨⟨⟨⟨⟨⟨⟨⟨⟨h1, h2⟩, h3⟩, h4⟩, h5⟩, h6⟩, h7⟩, h8⟩, h9⟩, h10⟩, h11⟩, h12⟩, h13⟩, h14⟩ := h
  exact ⟨h1, h2, h3, h4, h5, h6, h7, h8, h9, h10, h11, h12, h13, h14⟩
/-- an error object at p, of the class at C, with these fields (the one stored last first) -/
def ErrO (H : Hp) (p C : Addr) (fs : List (Str × V)) : Prop := (fs = [] ∧ H p = some (exo p C none)) ∨ ∃ d, H p = some (exo p C (some d)) ∧ H d = some (exd d fs)
theorem ErrO.same {H H' : Hp} {p C : Addr} {fs : List (Str × V)} (h : ErrO H p C fs) (s : Same H H') : ErrO H' p C fs := by
  rcases h with ⟨e, h⟩ | ⟨d, h1, h2⟩
  · exact .inl ⟨e, s _ _ h⟩
  · exact .inr ⟨d, s _ _ h1, s _ _ h2⟩
section
variable {X : Cx} {pins : List (Addr × Obj)} {σ : L2.St} {H : Hp} {s : Shared} {a C dx : Addr} {f : Str} {y : V} {u : Value} {fs : List (Str × V)} {Q : Unit → Shared → Prop} {E : Value → Shared → Prop} {A : Around} {B newId initId : String} {bmB : List Value}
theorem storeOwn_new {prog : Program} {w : World} {K : PySem.W.Frag} {R : Fin → Shared → Prop} {hp : Heap} {g : Array GenState} {d : Drawn} {t : Nat} {os : OsState} {name : Str} {tk : Tok} {v : Value} {x C : Addr} {fv : Array Value} {b : Bool}
    (X : K.In hp) (hx : hp.get? x = some { cls := .ref C, data := .fields fv }) (hh : PySem.W.hasDictIn K C = true)
    (hq : ∀ h' tk' dx, (∀ b o, b ≠ x → hp.get? b = some o → h'.get? b = some o) → hp.objs.size ≤ dx → dx ≠ x → h'.get? x = some { cls := .ref C, dict := some dx, data := .fields fv } →
      h'.Ns1 dx (fun y => if y = name then some v else none) → R (.done (.ret .none)) ⟨h', g, d, tk', os⟩) :
    wpAny (model prog w) A (Builtin.ObjectAttr.storeInOwnDict (.ref x) (.ref C) (.str name tk) name v b) R E ⟨hp, g, d, t, os⟩ := by
  obtain ⟨cd, hcd, hd⟩ := PySem.W.any_some hh
  have hcls : PySem.W.Looks (model prog w) hp (classData C) cd := PySem.W.looks_clsIn X hcd
  have hxs : x ≠ hp.objs.size := Nat.ne_of_lt (Heap.lt_size hx)
  obtain ⟨nm, bs, mro, ns, qn, hdd, sn, sb, ab, col, del⟩ := cd
  dsimp only at hd
  subst hd
  unfold Builtin.ObjectAttr.storeInOwnDict Builtin.ObjectAttr.ownDictForStores
  repeat (first | with_reducible refine HandSPX.store_in_new ?_ ?_ | with_reducible refine wpAny_loadPart_at hx ?_ | with_reducible refine hcls.at ?_ | wp_step)
  · exact ⟨_, #[], _, (Heap.get?_update_ne _ _ _ _ hxs.symm).trans (Heap.get?_push_at rfl rfl), rfl, fun e he => absurd he (by simp), fun _ => rfl⟩
  · intro h' tk' hn' hs
    have hx₁ : (hp.push { cls := .type "dict", data := .dict #[] }).get? x = some { cls := .ref C, data := .fields fv } := Heap.get?_push_of_some _ hx
    refine hq h' tk' hp.objs.size (fun b o hb ho => ?_) (Nat.le_refl _) hxs.symm ?_ hn'
    · exact (hs.2 b (Nat.ne_of_lt (Heap.lt_size ho))).trans ((Heap.get?_update_ne _ _ _ _ hb).trans (Heap.get?_push_of_some _ ho))
    · exact (hs.2 x hxs).trans (Heap.get?_update_self _ hx₁ rfl)
end
end Gx
namespace Gx
open PySem PySem.Spec PyProof.Rows L2
section
variable {X : Cx} {pins : List (Addr × Obj)} {σ : L2.St} {H : Hp} {s : Shared} {a C dx : Addr} {f : Str} {y : V} {u : Value} {fs : List (Str × V)} {Q : Unit → Shared → Prop} {E : Value → Shared → Prop} {A : Around} {B newId initId : String} {bmB : List Value}
theorem taker_none {K : PySem.W.Frag} {C : Addr} {f : Str} (h : PySem.W.findIn K (.ref C) f = some none) : PySem.W.takerIn K C f = some none := by unfold PySem.W.takerIn; rw [h]; rfl
/-- self.f = y, the first one -/
theorem osb_new (F : EB B newId initId bmB) (T : EC X.K C bmB newId) (I : Inv X pins σ H s) (e : H a = some (exo a C none)) (hno : PySem.W.findIn X.K (.ref C) f = some none) (ry : RelV y u)
    (h : ∀ dx s', H dx = none → dx ≠ a → Inv X pins σ (upd (upd H dx (exd dx [(f, y)])) a (exo a C (some dx))) s' → Q () s') : wpAny (model X.prog X.w) A (setAttr (.ref a) f u) Q E s := by
  obtain ⟨t1, ho⟩ := exo_at I.hok e
  obtain ⟨hp, g, d, t, os⟩ := s
  have IA : PySem.W.InstAt hp a { cls := .ref C, dict := none, data := .fields #[.ref t1, .none, .none, .none, .bool false, .none] } C none := ⟨ho, rfl, rfl, trivial⟩
  refine PySem.W.set_plain I.kIn (od := none) IA T.sa ?_
  refine PySem.W.osa_openX (od := none) F.S I.kIn IA T.o (taker_none hno) fun b => ?_
  refine storeOwn_new I.kIn ho T.hd (fun h' tk' dx k dn dne hx hn => ?_)
  have hnd : H dx = none := I.hok.fresh dn
  have nd : ∀ {b : Addr} {o : Obj}, hp.get? b = some o → b ≠ dx := fun {b o} q => Nat.ne_of_lt (Nat.lt_of_lt_of_le (Heap.lt_size q) dn)
  have na : ∀ {b : Addr}, H b = none → b ≠ a := fun {b} n z => by
    rw [z, e] at n
    cases n
  have Un1 : Un X.fs [] H (upd (upd H dx (exd dx [(f, y)])) a (exo a C (some dx))) hp h' := {
    keep := fun b o q n _ _ => k b o (na n) q
    slot := fun b o q n _ _ => ⟨o.slots, k b o (na n) q⟩
    free := fun b o q n _ => by rw [upd_ne (na n), upd_ne (nd q)]; exact n
    there := fun b o q _ => by
      by_cases hb : b = a
      · exact ⟨_, by rw [hb]; exact hx⟩
      · exact ⟨o, k b o hb q⟩
    tups := fun b xs q => by rw [upd_ne (at_ne e q exo_tup), upd_ne (ne_of_none q hnd)]; exact q
    frzs := fun b o v q => by rw [upd_ne (at_ne e q exo_frz), upd_ne (ne_of_none q hnd)]; exact q
    tbls := fun b ps q => ⟨#[], by rw [upd_ne (at_ne e q exo_tbl), upd_ne (ne_of_none q hnd), q]; simp⟩ }
  refine h dx _ hnd dne (I.un (t' := tk') Un1 fun b o q => ?_)
  by_cases hb : b = a
  · subst hb
    rw [upd_same] at q
    cases q
    exact exo_ok hx
  · rw [upd_ne hb] at q
    by_cases hd : b = dx
    · subst hd
      rw [upd_same] at q
      cases q
      exact exd_ok hn (relO_put (fs := []) ry fun g => True.intro)
    · rw [upd_ne hd] at q
      exact (I.hok b o q).stay (fun c v hc z => k c v (by
          rcases hc with hc | hc
          · rw [hc]
            exact hb
          · exact at_ne e hc exo_own) z)
        (fun c hc => by rw [upd_ne (at_ne e hc exo_own), upd_ne (ne_of_none hc hnd)]; exact hc) (fun c xs hc => by rw [upd_ne (at_ne e hc exo_tup), upd_ne (ne_of_none hc hnd)]; exact hc)
/-- self.f = y, a further one -/
theorem osb_old (F : EB B newId initId bmB) (T : EC X.K C bmB newId) (I : Inv X pins σ H s) (e : H a = some (exo a C (some dx))) (ed : H dx = some (exd dx fs)) (hl : fs.length ≤ 900) (hno : PySem.W.findIn X.K (.ref C) f = some none) (ry : RelV y u)
    (h : ∀ s', Inv X pins σ (upd H dx (exd dx ((f, y) :: fs))) s' → Q () s') : wpAny (model X.prog X.w) A (setAttr (.ref a) f u) Q E s := by
  obtain ⟨t1, ho⟩ := exo_at I.hok e
  obtain ⟨mA, hns, rel⟩ := exd_at I.hok ed
  have hw := within_of rel
  obtain ⟨hp, g, d, t, os⟩ := s
  obtain ⟨oD, _, _, hoD, _, _⟩ := hns.count hw
  have IA : PySem.W.InstAt hp a { cls := .ref C, dict := some dx, data := .fields #[.ref t1, .none, .none, .none, .bool false, .none] } C (some oD) := ⟨ho, rfl, rfl, hoD⟩
  refine PySem.W.set_plain I.kIn (od := some oD) IA T.sa ?_
  refine PySem.W.osa_openX (od := some oD) F.S I.kIn IA T.o (taker_none hno) fun b => ?_
  obtain ⟨cd, hcd, hd⟩ := PySem.W.any_some T.hd
  have hcls : PySem.W.Looks (model X.prog X.w) hp (classData C) cd := PySem.W.looks_clsIn I.kIn hcd
  obtain ⟨nm, bs, mro, ns, qn, hdd, sn, sb, ab, col, del⟩ := cd
  dsimp only at hd
  subst hd
  show wpAny _ _ (Builtin.ObjectAttr.storeInOwnDict (.ref a) (.ref C) (.str f _) f u b) _ _ _
  unfold Builtin.ObjectAttr.storeInOwnDict Builtin.ObjectAttr.ownDictForStores
  repeat (first | with_reducible refine PySem.OEX.store_in_old hns hw (by rw [List.length_map]; omega) ?_ | with_reducible refine wpAny_loadPart_at ho ?_ | with_reducible refine hcls.at ?_ | wp_step)
  intro h' tk' hn hs
  have hd : ∃ o, h'.get? dx = some o := by
    obtain ⟨o, _, _, e', _⟩ := hn
    exact ⟨o, e'⟩
  exact h _ (I.write (t' := tk') (x := dx) (e := dx) (o := exd dx ((f, y) :: fs)) (by rw [ed]; exact True.intro) (.inl rfl) (fun b o hb ho => (hs.2 b hb).trans ho) hd (exd_ok hn (relO_put ry rel)))
end
/-- self.f = e within such an __init__ -/
def tOsb (K : PySem.W.Frag) (C : Addr) (f : Str) (to te : TE) : TS := fun D σ H => te σ H fun y H1 => to σ H1 fun x H2 => ∃ a : Addr, x = .ref a ∧ PySem.W.findIn K (.ref C) f = some none ∧
  ((H2 a = some (exo a C none) ∧ ∀ dx, H2 dx = none → dx ≠ a → D.nx σ (upd (upd H2 dx (exd dx [(f, y)])) a (exo a C (some dx)))) ∨
    ∃ (dx : Addr) (fs : List (Str × V)), H2 a = some (exo a C (some dx)) ∧ H2 dx = some (exd dx fs) ∧ fs.length ≤ 900 ∧ D.nx σ (upd H2 dx (exd dx ((f, y) :: fs))))
theorem ps_osb {X : Cx} {o e : Expr} {to te : TE} {f : Str} {p' pos : Pos} {C : Addr} {B newId initId : String} {bmB : List Value} (F : EB B newId initId bmB) (T : EC X.K C bmB newId)
    (ho : PE X o to) (he : PE X e te) (hs : swapsWith e (some (.Attribute o f p')) pos.line X.env = pure false := by rfl) : PS X (.Assign [.Attribute o f p'] e pos) (tOsb X.K C f to te) := by
  refine ⟨fun pins s σ H D I h => ?_⟩
  refine plainObj_wpAny_Assign_Attribute (thn (he.run pins s σ H _ I h) fun v s1 ⟨y, H1, I1, r1, q1⟩ => thn (ho.run pins s1 σ H1 _ I1 q1) fun u s2 ⟨x, H2, I2, r2, a, ex, hno, q⟩ => ?_) hs
  subst ex
  obtain rfl : u = Value.ref a := r2
  rcases q with ⟨ea, q⟩ | ⟨dx, fs, ea, ed, hl, q⟩
  · exact osb_new F T I2 ea hno r1 fun dx s' n ne J => ⟨σ, _, J, q dx n ne⟩
  · exact osb_old F T I2 ea ed hl hno r1 fun s' J => ⟨σ, _, J, q⟩
/-- what an __init__ that stores its arguments keeps -/
def spI (C : Addr) (ns : List Str) : Sp := fun vs H Q _ => ∃ a ws, vs = .ref a :: ws ∧ ws.length = ns.length ∧ H a = some (exo a C none) ∧
  ∀ H', (∀ b o, b ≠ a → H b = some o → H' b = some o) → ErrO H' a C (ns.zip ws).reverse → Q .non H'
section
variable {P : Program} {w : World} {K : PySem.W.Frag} {mg : Str → Option Value} {base : Heap} {B newId initId : String} {bmB : List Value} {C : Addr}
theorem init1_ok {qual f p1 p2 : Str} {st : Stmt} {fI : Addr} {fd : FuncData} (F : EB B newId initId bmB) (T : EC K C bmB newId) (Fn : Fun K "__init__" qual st fI fd) (S : FnScope [p1, p2] [p1, p2] (defScope st)) (hf : PySem.W.findIn K (.ref C) f = some none)
    (body : ∀ (cdv : Value) (A : Around) (outer : List Env) (s : Shared) (H : Hp) (E : XK), PSs (cxOf CX0 P w K mg base [p1, p2] qual (defScope st) fI cdv A outer s H E).nox (defBody st) (fun D σ H => tOsb K C f (tVar 0) (tVar 1) D σ H)) :
    FnOk P w K mg base CX0 1 fI fd [p1, p2] (spI C [f]) := by
  refine Fn.ok S (fun vs H Q E h => ?_) fun cdv A outer s H vs Q E hr h => ?_
  · obtain ⟨a, ws, rfl, hl, _⟩ := h
    simp only [List.length_cons, hl, List.length_nil]
  · obtain ⟨a, ws, rfl, hl, ha, q⟩ := h
    match ws, hl with
    | [v], _ =>
      refine ⟨_, body cdv A outer s H E, v, rfl, _, rfl, a, rfl, hf, .inl ⟨ha, fun d n ne => q _ (fun b o hb ho => ?_) (.inr ⟨d, upd_same, ?_⟩)⟩⟩
      · rw [upd_ne hb, upd_ne (ne_of_none ho n)]
        exact ho
      · rw [upd_ne ne]
        exact upd_same
theorem init2_ok {qual f g p1 p2 p3 : Str} {st : Stmt} {fI : Addr} {fd : FuncData} (F : EB B newId initId bmB) (T : EC K C bmB newId) (Fn : Fun K "__init__" qual st fI fd) (S : FnScope [p1, p2, p3] [p1, p2, p3] (defScope st))
    (hf : PySem.W.findIn K (.ref C) f = some none) (hg : PySem.W.findIn K (.ref C) g = some none)
    (body : ∀ (cdv : Value) (A : Around) (outer : List Env) (s : Shared) (H : Hp) (E : XK), PSs (cxOf CX0 P w K mg base [p1, p2, p3] qual (defScope st) fI cdv A outer s H E).nox (defBody st)
      (fun D σ H => tOsb K C f (tVar 0) (tVar 1) { D with nx := fun σ1 H1 => tOsb K C g (tVar 0) (tVar 2) D σ1 H1 } σ H)) :
    FnOk P w K mg base CX0 1 fI fd [p1, p2, p3] (spI C [f, g]) := by
  refine Fn.ok S (fun vs H Q E h => ?_) fun cdv A outer s H vs Q E hr h => ?_
  · obtain ⟨a, ws, rfl, hl, _⟩ := h
    simp only [List.length_cons, hl, List.length_nil]
  · obtain ⟨a, ws, rfl, hl, ha, q⟩ := h
    match ws, hl with
    | [v, v2], _ =>
      refine ⟨_, body cdv A outer s H E, v, rfl, _, rfl, a, rfl, hf, .inl ⟨ha, fun d n ne => ?_⟩⟩
      refine ⟨v2, rfl, _, rfl, a, rfl, hg, .inr ⟨d, [(f, v)], upd_same, ?_, by show 1 ≤ 900; decide, ?_⟩⟩
      · rw [upd_ne ne]
        exact upd_same
      refine q _ (fun b o hb ho => ?_) (.inr ⟨d, ?_, upd_same⟩)
      · rw [upd_ne (ne_of_none ho n), upd_ne hb, upd_ne (ne_of_none ho n)]
        exact ho
      · rw [upd_ne (Ne.symm ne)]
        exact upd_same
end
end Gx
namespace Gx
open PySem PySem.Spec PyProof.Rows L2
section
variable {X : Cx} {pins : List (Addr × Obj)} {σ : L2.St} {H : Hp} {s : Shared} {C fI : Addr} {k : Nat} {fd : FuncData} {ps ns : List Str} {B newId initId : String} {bmB : List Value}
theorem run_mkE {us ws : List Value} {kw : List (Str × Value)} {vs : List V} {Q : VK} (F : EB B newId initId bmB) (T : EC X.K C bmB newId) (i1 : PySem.W.findIn X.K (.ref C) "__init__" = some (some (.ref fI))) (i2 : PySem.W.typeIn X.K (.ref fI) = some (.type "function"))
    (F1 : FnOk X.prog X.w X.K X.mg X.base CX0 k fI fd ps (spI C ns)) (hr : Room (k + 1) X.A) (I : Inv X pins σ H s) (hb : ∀ (s : Shared) (a : Addr), X.K.In s.heap → BindsTo s fd ⟨.ref a :: us, kw⟩ (ps.zip (.ref a :: ws))) (r : Vals vs ws) (hl : vs.length = ns.length) (hus : us.length ≤ sizeLine)
    (q : ∀ p H2, Same H H2 → H p = none → ErrO H2 p C (ns.zip vs).reverse → Q (.ref p) H2) : wpAny (model X.prog X.w) X.A (call (.ref C) us kw) (EP X pins σ Q) X.xe s := by
  obtain ⟨nm, N', qn, bs, bm, hdct, sn, sub, ab, col, dd, k0, k1, k2, k3, k5, hC, hT⟩ := PySem.W.excInit_of I.kIn T.i
  obtain ⟨hp, g, dr, tk, os⟩ := s
  have hsz : hp.objs.size ≤ hp.objs.size + 1 := Nat.le_succ _
  have hn : H (hp.objs.size + 1) = none := I.hok.fresh hsz
  have kk : ∀ b o, hp.get? b = some o → ((hp.push (PySem.W.kdv_tup us)).push (PySem.HandSPX.excO C hp.objs.size)).get? b = some o := fun b o e => Heap.get?_push_of_some _ (Heap.get?_push_of_some _ e)
  have hget : ((hp.push (PySem.W.kdv_tup us)).push (PySem.HandSPX.excO C hp.objs.size)).get? (hp.objs.size + 1) = some (PySem.HandSPX.excO C hp.objs.size) := by heap_get
  have I2 : Inv X pins σ (upd H (hp.objs.size + 1) (exo (hp.objs.size + 1) C none)) ⟨(hp.push (PySem.W.kdv_tup us)).push (PySem.HandSPX.excO C hp.objs.size), g, dr, tk, os⟩ :=
    I.laid (t' := tk) (a := hp.objs.size + 1) (o := exo (hp.objs.size + 1) C none) (h' := (hp.push (PySem.W.kdv_tup us)).push (PySem.HandSPX.excO C hp.objs.size)) kk hsz (exo_ok hget)
  refine wpAny_call (PySem.GXP.call_kw F.F hT hC (PySem.W.looks_findIn I.kIn i1) (fun self => PySem.W.bind_fn I.kIn self i2) hus
    (codeAny_mono (F1.run _ X.stack _ _ ⟨Value.ref (hp.objs.size + 1) :: us, kw⟩ (Value.ref (hp.objs.size + 1) :: ws) (V.ref (hp.objs.size + 1) :: vs) (fun v H2 => v = .non ∧ Q (.ref (hp.objs.size + 1)) H2) (fun _ _ _ => False) (hr.make C us kw) (I2.env0.make C us kw) (hb _ _ I2.kIn) (.cons rfl r)
      ⟨_, vs, rfl, hl, upd_same, fun H' sm er => ⟨rfl, q _ H' (fun b o e => sm b o (ne_of_none e hn) (by rw [upd_ne (ne_of_none e hn)]; exact e)) hn er⟩⟩) fun r s' hq' => ?_))
  cases r with
  | error er => exact False.elim hq'
  | ok fl =>
    cases fl with
    | ret u =>
      obtain ⟨v, H', I3, rv, ev, q3⟩ := I2.after hq'
      subst ev
      exact ⟨rv, ⟨V.ref (hp.objs.size + 1), H', I3, rfl, q3⟩⟩
    | next => exact False.elim hq'
    | brk => exact False.elim hq'
    | cont => exact False.elim hq'
end
/-- C(..) as a value: a new error object with these fields -/
def tMkE (C : Addr) (ns : List Str) (ta : TA) : TE := fun σ H Q => ta σ H fun vs H1 => vs.length = ns.length ∧ ∀ p H2, Same H1 H2 → H1 p = none → ErrO H2 p C (ns.zip vs).reverse → Q (.ref p) H2
/-- an error class of the module, made by its own __init__ that stores what it is given -/
structure EM (P : Program) (w : World) (K : PySem.W.Frag) (mg : Str → Option Value) (base : Heap) (x : Str) (ns : List Str) : Prop where
  ex : ∃ B newId initId bmB fI fd qual st ps, mg x = some (.ref (cl mg x)) ∧ EB B newId initId bmB ∧ EC K (cl mg x) bmB newId ∧ PySem.W.findIn K (.ref (cl mg x)) "__init__" = some (some (.ref fI)) ∧ PySem.W.typeIn K (.ref fI) = some (.type "function") ∧
    Fun K "__init__" qual st fI fd ∧ FnOk P w K mg base CX0 1 fI fd ps (spI (cl mg x) ns) ∧ ps.length = ns.length + 1 ∧ ns.length ≤ 2 ∧
    (∀ (kV doc pm : Value) (an : Option Addr) (cdv ct : Value) (us : List Value), us.length = ps.length → bindArgs (PySem.W.fnOf "__init__" qual (defArgs st) (defBody st) (defScope st) .none kV doc pm an cdv ct) ⟨us, []⟩ = pure (ps.zip us)) ∧
    (∀ (kV doc pm : Value) (an : Option Addr) (cdv ct : Value) (u : Value) (ws : List Value), ws.length = ns.length → bindArgs (PySem.W.fnOf "__init__" qual (defArgs st) (defBody st) (defScope st) .none kV doc pm an cdv ct) ⟨[u], ns.zip ws⟩ = pure (ps.zip (u :: ws)))
section
variable {X : Cx} {k : Nat} {x : Str} {ns : List Str} {p pos : Pos} {e : Expr} {es : List Expr} {kws : List Keyword} {t tk : TA}
theorem pe_mkE (M : EM X.prog X.w X.K X.mg X.base x ns) (hr : Room k X.A) (hk : 2 ≤ k) (hg : Gl X x) (ha : PA X (e :: es) t)
    (n0 : (x == ("__debug__" : Str)) = false := by decide) (n1 : starEach (e :: es) X.env = (false, eval e X.env) :: starEach es X.env := by rfl) (n2 : (backTo pos (starEach es X.env)).any (·.1) = false := by rfl) :
    PE X (.Call (.Name x p) (e :: es) [] pos) (tMkE (cl X.mg x) ns t) := by
  obtain ⟨B, newId, initId, bmB, fI, fd, qual, st, ps, m, F, T, i1, i2, Fn, F1, hl, h2, b1, _⟩ := M.ex
  refine ⟨fun pins s σ H Q I h => ?_⟩
  refine wpAny_Call_Name_kw (ld_glob I hg m ?_ n0)
  refine PySem.W.callWith_K (h₀ := X.base) I.ok.mod.kin T.kC (thn (ha.run pos pins s σ H _ I h) fun us s1 ⟨vs, H1, I1, r, l, q⟩ => ⟨I1.kIn, ?_⟩) n1 n2
  have lu : us.length = ns.length := r.length.symm.trans l
  refine run_mkE F T i1 i2 F1 (hr.mono hk) I1 (fun s a _ => ?_) r l (by show us.length ≤ sizeLine; rw [lu, sizeLine_eq]; omega) q
  obtain ⟨oc, od, kV, doc, pm, an, cdv, ct, osl, rfl, _, _⟩ := Fn.ex
  exact .of_eq (b1 kV doc pm an cdv ct _ (by show us.length + 1 = ps.length; rw [lu, hl]))
theorem pe_mkEK (M : EM X.prog X.w X.K X.mg X.base x ns) (hr : Room k X.A) (hk : 2 ≤ k) (hg : Gl X x) (hkw : PK X kws tk)
    (n1 : (backToKw pos (keywordEach kws X.env)).all (·.1.isSome) = true := by rfl) (n2 : (backToKw pos (keywordEach kws X.env)).filterMap (·.1) = ns := by rfl) (n0 : (x == ("__debug__" : Str)) = false := by decide)
    (n3 : ((backTo pos (starEach [] X.env)).any (·.1) || (backToKw pos (keywordEach kws X.env)).any (·.1.isNone)) = false := by rfl) :
    PE X (.Call (.Name x p) [] kws pos) (tMkE (cl X.mg x) ns tk) := by
  obtain ⟨B, newId, initId, bmB, fI, fd, qual, st, ps, m, F, T, i1, i2, Fn, F1, hl, h2, _, b2⟩ := M.ex
  refine ⟨fun pins s σ H Q I h => ?_⟩
  refine wpAny_Call_Name_kw (ld_glob I hg m ?_ n0)
  refine PySem.W.callWith_KW0 (h₀ := X.base) I.ok.mod.kin T.kC n1 ?_ n3
  refine thn (hkw.run pos pins s σ H _ I h) fun ws s2 ⟨vs, H2, I2, r, l, q⟩ => ⟨I2.kIn, ?_⟩
  rw [n2]
  have lu : ws.length = ns.length := r.length.symm.trans l
  refine run_mkE F T i1 i2 F1 (hr.mono hk) I2 (fun s a _ => ?_) r l (Nat.zero_le _) q
  obtain ⟨oc, od, kV, doc, pm, an, cdv, ct, osl, rfl, _, _⟩ := Fn.ex
  exact .of_eq (b2 kV doc pm an cdv ct _ ws lu)
/-- an error class without own __init__ -/
structure EN (K : PySem.W.Frag) (mg : Str → Option Value) (x : Str) : Prop where
  ex : ∃ B newId initId bmB, mg x = some (.ref (cl mg x)) ∧ EB B newId initId bmB ∧ EC K (cl mg x) bmB newId ∧ PySem.W.excIn K (cl mg x) bmB newId = true
def tMk0 (C : Addr) : TE := fun _ H Q => ∀ p H2, Same H H2 → H p = none → ErrO H2 p C [] → Q (.ref p) H2
theorem pe_mkE0 (M : EN X.K X.mg x) (hg : Gl X x) (n0 : (x == ("__debug__" : Str)) = false := by decide) : PE X (.Call (.Name x p) [] [] pos) (tMk0 (cl X.mg x)) := by
  obtain ⟨B, newId, initId, bmB, m, F, T, q0⟩ := M.ex
  refine ⟨fun pins s σ H Q I h => ?_⟩
  refine wpAny_Call_Name_kw (ld_glob I hg m ?_ n0)
  refine PySem.W.callWith_K0 I.kIn T.kC ?_
  obtain ⟨bm, N, nm, qn, bs, hdct, sn, sub, ab, col, dd, k0, k1, k2, k3, k5, mN, hC, hN, hni, TT⟩ := exc_obj I.kIn q0
  refine wpAny_call_exc_subT F.F TT hC hN hni (fun h' a hm => ?_) (Nat.zero_le _)
  have hn : H a = none := I.hok.gone hm.new
  obtain ⟨t, ht, _, _⟩ := hm.there
  refine ⟨.ref a, upd H a (exo a (cl X.mg x) none), I.laidN hm.keeps hm.new hn (exo_ok ht), rfl, h a _ (fun b o e => by rw [upd_ne (ne_of_none e hn)]; exact e) hn (.inl ⟨rfl, upd_same⟩)⟩
end
end Gx
namespace Gx
open PySem PySem.Spec PyProof.Rows L2
section
variable {X : Cx} {pins : List (Addr × Obj)} {σ : L2.St} {H : Hp} {s : Shared}
theorem ErrO.inst {p C : Addr} {fs : List (Str × V)} (I : Inv X pins σ H s) (h : ErrO H p C fs) : ∃ (ox : Obj) (od : Option Obj), PySem.W.InstAt s.heap p ox C od ∧
    (fs = [] ∨ ∃ o, od = some o ∧ ∃ mA : Str → Option Value, (∀ n, RelO (fs.lookup n) (mA n)) ∧ ∀ n, PySem.W.lookIn n o = some (mA n)) := by
  rcases h with ⟨rfl, h⟩ | ⟨d, h1, h2⟩
  · obtain ⟨t1, ho⟩ := exo_at I.hok h
    exact ⟨_, none, ⟨ho, rfl, rfl, trivial⟩, .inl rfl⟩
  · obtain ⟨t1, ho⟩ := exo_at I.hok h1
    obtain ⟨mA, hns, hr⟩ := exd_at I.hok h2
    obtain ⟨od, hod, hl⟩ := lookIn_ns hns
    exact ⟨_, some od, ⟨ho, rfl, rfl, hod⟩, .inr ⟨od, rfl, mA, hr, hl⟩⟩
end
/-- e.f of an error object -/
def tEf (K : PySem.W.Frag) (f : Str) (te : TE) : TE := fun σ H Q => te σ H fun x H1 => ∃ (p C : Addr) (bmB : List Value) (newId : String) (fs : List (Str × V)) (v : V), x = .ref p ∧ ErrO H1 p C fs ∧ EC K C bmB newId ∧ PySem.W.findIn K (.ref C) f = some none ∧ fs.lookup f = some v ∧ Q v H1
theorem pe_ef {X : Cx} {e : Expr} {te : TE} {pos : Pos} {n : Str} (he : PE X e te) (hb : attributeBase e n X.env (eval e X.env) = eval e X.env := by rfl) : PE X (.Attribute e n pos) (tEf X.K n te) := by
  refine ⟨fun pins s σ H Q I h => ?_⟩
  refine attr_of hb (thn (he.run pins s σ H _ I h) fun u s1 hh => ?_)
  obtain ⟨x, H1, I1, rx, p, C, bmB, newId, fs, v, ex, er, T, hno, l, q⟩ := hh
  subst ex
  obtain rfl : u = Value.ref p := rx
  obtain ⟨ox, od, J, hh⟩ := er.inst I1
  rcases hh with rfl | ⟨o, rfl, mA, hr, hl⟩
  · cases l
  · obtain ⟨u, hu, ru⟩ := RelO.some_of (v := v) (o := mA n) (by rw [← l]; exact hr n)
    exact HandSPX.exc_get I1.kIn J T.ga T.gg T.ex (PySem.W.findObj_own T.hd hno rfl (by rw [hl, hu])) (handed_of ru) ⟨v, H1, I1.tok _, ru, q⟩
/-- isinstance(e, c), e an error object -/
def rIsO (K : PySem.W.Frag) : List V → Hp → VK → Prop := fun xs H Q => ∃ (p C : Addr) (bmB : List Value) (newId : String) (fs : List (Str × V)) (c : V) (cv : Value) (b : Bool), xs = [.ref p, c] ∧ ErrO H p C fs ∧ EC K C bmB newId ∧ (∀ u, RelV c u → u = cv) ∧ PySem.W.kitOne K (.ref C) cv = some b ∧ Q (.bl b) H
theorem call_isO {X : Cx} {K : PySem.W.Frag} (hK : X.K = K) : CallR X (.builtin "isinstance") (rIsO K) := by
  subst hK
  intro pins s σ H xs us Q I r h
  obtain ⟨p, C, bmB, newId, fs, c, cv, b, rfl, er, T, hcv, e, q⟩ := h
  obtain ⟨u1, u2, rfl, r1, r2⟩ := vals2 r
  obtain rfl : u1 = Value.ref p := r1
  obtain rfl := hcv _ r2
  obtain ⟨ox, od, J, _⟩ := er.inst I
  exact PySem.W.kia_one (PySem.W.kitx_exc (gt := none) T.is T.ga T.gg T.ex T.gc T.gn T.gt T.mo) I.kIn J e (fun z => nomatch z) fun tk => ⟨.bl b, H, I.tok tk, rfl, q⟩
/-! ### lists of such -/
/-- new error objects, one behind another: their classes and fields -/
def ErrsO (H : Hp) : List Addr → List (Addr × List (Str × V)) → Prop
  | [], [] => True
  | p :: ps, (C, fs) :: cs => ErrO H p C fs ∧ ErrsO H ps cs
  | _, _ => False
theorem ErrsO.same {H H' : Hp} (s : Same H H') : ∀ {ps : List Addr} {cs : List (Addr × List (Str × V))}, ErrsO H ps cs → ErrsO H' ps cs
  | [], [], _ => trivial
  | _ :: _, (_, _) :: _, h => ⟨h.1.same s, ErrsO.same s h.2⟩
  | [], _ :: _, h => h.elim
  | _ :: _, [], h => h.elim
theorem ErrsO.app {H : Hp} : ∀ {ps : List Addr} {cs : List (Addr × List (Str × V))} {qs : List Addr} {ds : List (Addr × List (Str × V))}, ErrsO H ps cs → ErrsO H qs ds → ErrsO H (ps ++ qs) (cs ++ ds)
  | [], [], _, _, _, h => h
  | _ :: _, (_, _) :: _, _, _, h, h' => ⟨h.1, ErrsO.app h.2 h'⟩
  | [], _ :: _, _, _, h, _ => h.elim
  | _ :: _, [], _, _, h, _ => h.elim
theorem ErrsO.len {H : Hp} : ∀ {ps : List Addr} {cs : List (Addr × List (Str × V))}, ErrsO H ps cs → ps.length = cs.length
  | [], [], _ => rfl
  | _ :: _, (_, _) :: _, h => by rw [List.length_cons, List.length_cons, ErrsO.len h.2]
  | [], _ :: _, h => h.elim
  | _ :: _, [], h => h.elim
end Gx
namespace Gx
open PySem PySem.Spec PyProof.Rows L2
/-! ### what a value shows, whatever it is made of -/
def Shows (K : PySem.W.Frag) (H : Hp) (x : V) (d : PyData) : Prop := ∀ (X : Cx) (pins : List (Addr × Obj)) (σ : L2.St) (s : Shared) (u : Value), X.K = K → SysD X.base → Inv X pins σ H s → RelV x u → ∃ as, Reads s.heap u d as ∧ sysModules ∉ as
theorem Shows.of {K : PySem.W.Frag} {H : Hp} {x : V} {d : PyData} (h : Dq K H x d) : Shows K H x d := by
  rintro X pins σ s u rfl S I r
  exact Dq.reads2 S I d x u h r
inductive ShowsAll (K : PySem.W.Frag) (H : Hp) : List V → List PyData → Prop
  | nil : ShowsAll K H [] []
  | cons {v : V} {vs : List V} {d : PyData} {ds : List PyData} : Shows K H v d → ShowsAll K H vs ds → ShowsAll K H (v :: vs) (d :: ds)
theorem ShowsAll.reads {X : Cx} {pins : List (Addr × Obj)} {σ : L2.St} {s : Shared} {H : Hp} (S : SysD X.base) (I : Inv X pins σ H s) : ∀ {vs : List V} {ds : List PyData} {us : List Value}, ShowsAll X.K H vs ds → Vals vs us → ∃ as, ReadsAll s.heap us ds as ∧ sysModules ∉ as
  | _, _, _, .nil, r => by
    cases r
    exact ⟨_, .nil, by simp⟩
  | _, _, _, .cons h1 h2, r => by
    cases r with
    | cons r1 r2 =>
      obtain ⟨as, q1, n1⟩ := h1 X pins σ s _ rfl S I r1
      obtain ⟨bs, q2, n2⟩ := ShowsAll.reads S I h2 r2
      exact ⟨_, .cons q1 q2, fun z => (List.mem_append.mp z).elim n1 n2⟩
theorem Shows.lst {K : PySem.W.Frag} {H : Hp} {a : Addr} {vs : List V} {ds : List PyData} (hs : SqL K H a vs) (h : ShowsAll K H vs ds) : Shows K H (.ref a) (.list ds) := by
  rintro X pins σ s u rfl S I r
  cases r
  obtain ⟨its, rv, ⟨o, n, ho, hc, _, hd⟩, _⟩ := I.list hs
  obtain ⟨as, q, na⟩ := ShowsAll.reads S I h rv
  refine ⟨_, .list ho hc hd q, fun z => ?_⟩
  rcases List.mem_cons.mp z with z | z
  · exact not_sys S I ho hc z.symm
  · exact na z
/-- {'..': i} -/
theorem Shows.one {K : PySem.W.Frag} {H : Hp} {a : Addr} {x : Str} {i : Int} (e : H a = some (.dK [(.inr x, .int i)])) : Shows K H (.ref a) (.dict [(.str x, .int i)]) := by
  rintro X pins σ s u rfl S I r
  cases r
  obtain ⟨_, nm, vs, kv, o, es, ep, ho, ex, hd, _, hp, _⟩ := I.hok _ _ e
  cases kv with
  | @cons _ z _ _ k0 kr =>
    cases kr
    obtain ⟨ek, ev⟩ := k0
    obtain ⟨es⟩ := es
    cases hp with
    | @cons en _ _ _ h1 h2 h3 =>
      cases h3
      have k1 : keyIs z.1 en.key = true := h1
      rw [← ek] at k1
      rcases keyIs_shape k1 with ⟨j, t, z1, z2⟩ | ⟨y, t, z1, z2⟩
      · cases z1
      · cases z1
        obtain ⟨t2, e2⟩ : ∃ t2, z.2 = .int i t2 := ev
        refine ⟨_, .dict (as := [] ++ []) (bs := [] ++ []) ho ex.1 hd ?_ ?_, fun y => ?_⟩
        · show ReadsAll s.heap [en.key] [.str x] _
          rw [z2]
          exact .cons (.str _ _) .nil
        · show ReadsAll s.heap [en.val] [.int i] _
          rw [h2, e2]
          exact .cons (.int _ _) .nil
        · have y : sysModules = a := by simpa using y
          rw [← y] at nm
          simp at nm
/-- repr(l), l a list or a tuple -/
def rReprM (K : PySem.W.Frag) : List V → Hp → VK → Prop := fun xs H Q => ∃ a d, xs = [.ref a] ∧ Shows K H (.ref a) d ∧ d.showable = true ∧ d.depth ≤ 30 ∧ d.shown.length ≤ sizeLine ∧ Q (.str d.shown) H
theorem call_reprM {X : Cx} {K : PySem.W.Frag} (hK : X.K = K) (S : SysD X.base) (hgd : X.A.guards = some []) (hu : X.A.units + 64 < cLine) : CallR X (.builtin "repr") (rReprM K) := by
  subst hK
  intro pins s σ H xs us Q I r h
  obtain ⟨a, d, rfl, hd, hs, hdep, hsz, q⟩ := h
  obtain ⟨u, rfl, rx⟩ := vals1 r
  cases rx
  obtain ⟨as, rd, na⟩ := hd X pins σ s _ rfl S I rfl
  exact repr_of_reads' rd hs (fun _ => na) hgd (by omega) (fun _ _ e => e) (fun h' u tk k => ⟨.str d.shown, H, I.kept k, ⟨u, rfl⟩, q⟩) hsz
/-! ### arguments, one behind another, of one kind -/
theorem pa_weak {X : Cx} {es : List Expr} {t t' : TA} (h : PA X es t) (k : ∀ σ H Q, t' σ H Q → t σ H Q) : PA X es t' := ⟨fun pos pins s σ H Q I z => h.run pos pins s σ H Q I (k σ H Q z)⟩
abbrev Cls := Addr × List (Str × V)
/-- new error objects: the slots tell their fields -/
def tErrs (g : L2.St → Option (List Cls)) : TA := fun σ H Q => ∃ cs, g σ = some cs ∧ ∀ ps H2, Same H H2 → ErrsO H2 ps cs → Q (ps.map V.ref) H2
def slot (σ : L2.St) (i : Nat) : Option V := (σ[i]?).join
def g1 (C : Addr) (f : Str) (i : Nat) (g : L2.St → Option (List Cls)) : L2.St → Option (List Cls) := fun σ => (slot σ i).bind fun v => (g σ).map fun cs => (C, [(f, v)]) :: cs
def g2 (C : Addr) (f f2 : Str) (i j : Nat) (g : L2.St → Option (List Cls)) : L2.St → Option (List Cls) := fun σ => (slot σ i).bind fun v => (slot σ j).bind fun v2 => (g σ).map fun cs => (C, [(f2, v2), (f, v)]) :: cs
def g0 (C : Addr) (g : L2.St → Option (List Cls)) : L2.St → Option (List Cls) := fun σ => (g σ).map fun cs => (C, []) :: cs
theorem slot_at {σ : L2.St} {i : Nat} {v : V} (h : slot σ i = some v) : σ[i]? = some (some v) := by
  unfold slot at h
  cases e : σ[i]? with
  | none => rw [e] at h; cases h
  | some o => rw [e] at h; exact congrArg some h
section
variable {X : Cx} {k i j : Nat} {x f f2 : Str} {p pos : Pos} {e e2 : Expr} {es : List Expr} {g : L2.St → Option (List Cls)} {kws : List Keyword}
theorem pa_e0 : PA X [] (tErrs fun _ => some []) := pa_weak pa_nil fun σ H Q ⟨cs, e, q⟩ => by
  cases e
  exact q [] H (Same.refl H) trivial
theorem errs_cons {te : TE} {ex : Expr} {C : Addr} {fs : L2.St → Option (List (Str × V))} (hm : PE X ex te) (hr : PA X es (tErrs g))
    (h : ∀ σ H Q v, fs σ = some v → (∀ p H2, Same H H2 → ErrO H2 p C v → Q (.ref p) H2) → te σ H Q)
    (n1 : starEach (ex :: es) X.env = (false, eval ex X.env) :: starEach es X.env := by rfl) : PA X (ex :: es) (tErrs fun σ => (fs σ).bind fun v => (g σ).map fun cs => (C, v) :: cs) := by
  refine pa_weak (pa_cons hm hr n1) fun σ H Q z => ?_
  obtain ⟨cs, e, q⟩ := z
  obtain ⟨v, e1, e2⟩ := Option.bind_eq_some_iff.mp e
  obtain ⟨ds, e3, rfl⟩ := Option.map_eq_some_iff.mp e2
  refine h σ H _ v e1 fun p H2 s er => ⟨ds, e3, fun ps H3 s3 er3 => ?_⟩
  exact q (p :: ps) H3 (s.trans s3) ⟨er.same s3, er3⟩
theorem pa_e1 (M : EM X.prog X.w X.K X.mg X.base x [f]) (hr : Room k X.A) (hk : 2 ≤ k) (hg : Gl X x) (ha : PA X [e] (tCons (tVar i) tNil)) (hs : PA X es (tErrs g)) (n0 : (x == ("__debug__" : Str)) = false := by decide)
    (n1 : starEach [e] X.env = (false, eval e X.env) :: starEach [] X.env := by rfl) (n2 : (backTo pos (starEach [] X.env)).any (·.1) = false := by rfl)
    (n3 : starEach (.Call (.Name x p) [e] [] pos :: es) X.env = (false, eval (.Call (.Name x p) [e] [] pos) X.env) :: starEach es X.env := by rfl) :
    PA X (.Call (.Name x p) [e] [] pos :: es) (tErrs (g1 (cl X.mg x) f i g)) := by
  have z := errs_cons (C := cl X.mg x) (fs := fun σ => (slot σ i).map fun v => [(f, v)]) (pe_mkE (p := p) (pos := pos) M hr hk hg ha n0 n1 n2) hs (fun σ H Q v e q => ?_) n3
  · refine pa_weak z fun σ H Q ⟨cs, e, q⟩ => ⟨cs, ?_, q⟩
    obtain ⟨v, e1, e2⟩ := Option.bind_eq_some_iff.mp e
    show ((slot σ i).map fun v => [(f, v)]).bind _ = _
    rw [e1]
    exact e2
  · obtain ⟨v, e1, rfl⟩ := Option.map_eq_some_iff.mp e
    exact ⟨v, slot_at e1, rfl, fun p H2 s _ er => q p H2 s er⟩
theorem pa_e2 (M : EM X.prog X.w X.K X.mg X.base x [f, f2]) (hr : Room k X.A) (hk : 2 ≤ k) (hg : Gl X x) (ha : PA X [e, e2] (tCons (tVar i) (tCons (tVar j) tNil))) (hs : PA X es (tErrs g)) (n0 : (x == ("__debug__" : Str)) = false := by decide)
    (n1 : starEach [e, e2] X.env = (false, eval e X.env) :: starEach [e2] X.env := by rfl) (n2 : (backTo pos (starEach [e2] X.env)).any (·.1) = false := by rfl)
    (n3 : starEach (.Call (.Name x p) [e, e2] [] pos :: es) X.env = (false, eval (.Call (.Name x p) [e, e2] [] pos) X.env) :: starEach es X.env := by rfl) :
    PA X (.Call (.Name x p) [e, e2] [] pos :: es) (tErrs (g2 (cl X.mg x) f f2 i j g)) := by
  have z := errs_cons (C := cl X.mg x) (fs := fun σ => (slot σ i).bind fun v => (slot σ j).map fun v2 => [(f2, v2), (f, v)]) (pe_mkE (p := p) (pos := pos) M hr hk hg ha n0 n1 n2) hs (fun σ H Q v e q => ?_) n3
  · refine pa_weak z fun σ H Q ⟨cs, e, q⟩ => ⟨cs, ?_, q⟩
    obtain ⟨v, e1, e2⟩ := Option.bind_eq_some_iff.mp e
    obtain ⟨v2, e3, e4⟩ := Option.bind_eq_some_iff.mp e2
    show ((slot σ i).bind fun v => (slot σ j).map fun v2 => [(f2, v2), (f, v)]).bind _ = _
    rw [e1, Option.bind_some, e3]
    exact e4
  · obtain ⟨v, e1, e2⟩ := Option.bind_eq_some_iff.mp e
    obtain ⟨v2, e3, rfl⟩ := Option.map_eq_some_iff.mp e2
    exact ⟨v, slot_at e1, v2, slot_at e3, rfl, fun p H2 s _ er => q p H2 s er⟩
theorem pa_en (M : EN X.K X.mg x) (hg : Gl X x) (hs : PA X es (tErrs g)) (n0 : (x == ("__debug__" : Str)) = false := by decide)
    (n3 : starEach (.Call (.Name x p) [] [] pos :: es) X.env = (false, eval (.Call (.Name x p) [] [] pos) X.env) :: starEach es X.env := by rfl) :
    PA X (.Call (.Name x p) [] [] pos :: es) (tErrs (g0 (cl X.mg x) g)) := by
  have z := errs_cons (C := cl X.mg x) (fs := fun _ => some []) (pe_mkE0 (p := p) (pos := pos) M hg n0) hs (fun σ H Q v e q => ?_) n3
  · exact z
  · cases e
    exact fun p H2 s _ er => q p H2 s er
end
end Gx
namespace Gx
open PySem PySem.Spec PyProof.Rows L2
section
variable {X : Cx} {k i j : Nat} {x f f2 : Str} {p pos kp kp2 : Pos} {e e2 : Expr} {es : List Expr} {g : L2.St → Option (List Cls)} {nm nm2 : Option Str}
theorem pa_k1 (M : EM X.prog X.w X.K X.mg X.base x [f]) (hr : Room k X.A) (hk : 2 ≤ k) (hg : Gl X x) (ha : PE X e (tVar i)) (hs : PA X es (tErrs g))
    (n1 : (backToKw pos (keywordEach [⟨nm, e, kp⟩] X.env)).all (·.1.isSome) = true := by rfl) (n2 : (backToKw pos (keywordEach [⟨nm, e, kp⟩] X.env)).filterMap (·.1) = [f] := by rfl) (n0 : (x == ("__debug__" : Str)) = false := by decide)
    (n4 : ((backTo pos (starEach [] X.env)).any (·.1) || (backToKw pos (keywordEach [⟨nm, e, kp⟩] X.env)).any (·.1.isNone)) = false := by rfl)
    (n3 : starEach (.Call (.Name x p) [] [⟨nm, e, kp⟩] pos :: es) X.env = (false, eval (.Call (.Name x p) [] [⟨nm, e, kp⟩] pos) X.env) :: starEach es X.env := by rfl) :
    PA X (.Call (.Name x p) [] [⟨nm, e, kp⟩] pos :: es) (tErrs (g1 (cl X.mg x) f i g)) := by
  have z := errs_cons (C := cl X.mg x) (fs := fun σ => (slot σ i).map fun v => [(f, v)]) (pe_mkEK (p := p) (pos := pos) M hr hk hg (pk_cons ha pk_nil) n1 n2 n0 n4) hs (fun σ H Q v e q => ?_) n3
  · refine pa_weak z fun σ H Q ⟨cs, e, q⟩ => ⟨cs, ?_, q⟩
    obtain ⟨v, e1, e2⟩ := Option.bind_eq_some_iff.mp e
    show ((slot σ i).map fun v => [(f, v)]).bind _ = _
    rw [e1]
    exact e2
  · obtain ⟨v, e1, rfl⟩ := Option.map_eq_some_iff.mp e
    exact ⟨v, slot_at e1, rfl, fun p H2 s _ er => q p H2 s er⟩
theorem pa_k2 (M : EM X.prog X.w X.K X.mg X.base x [f, f2]) (hr : Room k X.A) (hk : 2 ≤ k) (hg : Gl X x) (ha : PE X e (tVar i)) (ha2 : PE X e2 (tVar j)) (hs : PA X es (tErrs g))
    (n1 : (backToKw pos (keywordEach [⟨nm, e, kp⟩, ⟨nm2, e2, kp2⟩] X.env)).all (·.1.isSome) = true := by rfl) (n2 : (backToKw pos (keywordEach [⟨nm, e, kp⟩, ⟨nm2, e2, kp2⟩] X.env)).filterMap (·.1) = [f, f2] := by rfl) (n0 : (x == ("__debug__" : Str)) = false := by decide)
    (n4 : ((backTo pos (starEach [] X.env)).any (·.1) || (backToKw pos (keywordEach [⟨nm, e, kp⟩, ⟨nm2, e2, kp2⟩] X.env)).any (·.1.isNone)) = false := by rfl)
    (n3 : starEach (.Call (.Name x p) [] [⟨nm, e, kp⟩, ⟨nm2, e2, kp2⟩] pos :: es) X.env = (false, eval (.Call (.Name x p) [] [⟨nm, e, kp⟩, ⟨nm2, e2, kp2⟩] pos) X.env) :: starEach es X.env := by rfl) :
    PA X (.Call (.Name x p) [] [⟨nm, e, kp⟩, ⟨nm2, e2, kp2⟩] pos :: es) (tErrs (g2 (cl X.mg x) f f2 i j g)) := by
  have z := errs_cons (C := cl X.mg x) (fs := fun σ => (slot σ i).bind fun v => (slot σ j).map fun v2 => [(f2, v2), (f, v)]) (pe_mkEK (p := p) (pos := pos) M hr hk hg (pk_cons ha (pk_cons ha2 pk_nil)) n1 n2 n0 n4) hs (fun σ H Q v e q => ?_) n3
  · refine pa_weak z fun σ H Q ⟨cs, e, q⟩ => ⟨cs, ?_, q⟩
    obtain ⟨v, e1, e2⟩ := Option.bind_eq_some_iff.mp e
    obtain ⟨v2, e3, e4⟩ := Option.bind_eq_some_iff.mp e2
    show ((slot σ i).bind fun v => (slot σ j).map fun v2 => [(f2, v2), (f, v)]).bind _ = _
    rw [e1, Option.bind_some, e3]
    exact e4
  · obtain ⟨v, e1, e2⟩ := Option.bind_eq_some_iff.mp e
    obtain ⟨v2, e3, rfl⟩ := Option.map_eq_some_iff.mp e2
    exact ⟨v, slot_at e1, v2, slot_at e3, rfl, fun p H2 s _ er => q p H2 s er⟩
end
/-- isinstance(e, c1), isinstance(e, c2), ..: e, an error object, stands in slot i -/
def tIsO (K : PySem.W.Frag) (i : Nat) (ds : List V) : TA := fun σ H Q => ∃ (p C : Addr) (bmB : List Value) (newId : String) (fs : List (Str × V)), slot σ i = some (.ref p) ∧ ErrO H p C fs ∧ EC K C bmB newId ∧
  ∃ F : V → Bool, (∀ d ∈ ds, ∃ u, ClsV d u ∧ PySem.W.kitOne K (.ref C) u = some (F d)) ∧ Q (ds.map fun d => .bl (F d)) H
section
variable {X : Cx} {K : PySem.W.Frag} {i : Nat} {p pos : Pos} {e c : Expr} {es : List Expr} {d : V} {ds : List V}
theorem pa_i0 : PA X [] (tIsO K i []) := pa_weak pa_nil fun σ H Q ⟨_, _, _, _, _, _, _, _, _, _, q⟩ => q
theorem pa_i1 (hK : X.K = K) (hg : Gl X "isinstance") (hm : X.mg "isinstance" = none) (he : PE X e (tVar i)) (hc : PE X c (tC d)) (hs : PA X es (tIsO K i ds))
    (n1 : starEach [e, c] X.env = (false, eval e X.env) :: starEach [c] X.env := by rfl) (n2 : (backTo pos (starEach [c] X.env)).any (·.1) = false := by rfl)
    (n4 : starEach [c] X.env = (false, eval c X.env) :: starEach [] X.env := by rfl)
    (n3 : starEach (.Call (.Name "isinstance" p) [e, c] [] pos :: es) X.env = (false, eval (.Call (.Name "isinstance" p) [e, c] [] pos) X.env) :: starEach es X.env := by rfl) :
    PA X (.Call (.Name "isinstance" p) [e, c] [] pos :: es) (tIsO K i (d :: ds)) := by
  refine pa_weak (pa_cons (pe_callB (call_isO hK) hg hm (show bootBuiltins "isinstance" = some (.builtin "isinstance") by decide +kernel) (pa_cons he (pa_cons hc pa_nil n4) n1) (by decide) (by decide) n1 n2) hs n3) fun σ H Q h => ?_
  obtain ⟨q, C, bmB, newId, fs, h1, h2, h3, F, h4, h5⟩ := h
  obtain ⟨u, k1, k2⟩ := h4 d List.mem_cons_self
  exact ⟨_, slot_at h1, q, C, bmB, newId, fs, d, u, F d, rfl, h2, h3, fun w r => k1.eq r, k2, q, C, bmB, newId, fs, h1, h2, h3, F, fun d' m => h4 d' (List.mem_cons_of_mem _ m), h5⟩
end
/-- what is read from the error objects -/
def Sel (K : PySem.W.Frag) (cs : List Cls) (s : Nat × Str) (v : V) : Prop := ∃ C fs, cs[s.1]? = some (C, fs) ∧ PySem.W.findIn K (.ref C) s.2 = some none ∧ fs.lookup s.2 = some v
/-- xs[0].f, xs[1].g, ..: xs, a list of error objects, stands in slot i -/
def tFld (K : PySem.W.Frag) (i : Nat) (sel : List (Nat × Str)) : TA := fun σ H Q => ∃ (a : Addr) (ps : List Addr) (cs : List Cls), slot σ i = some (.ref a) ∧ SqL K H a (ps.map V.ref) ∧ ErrsO H ps cs ∧ (∀ c ∈ cs, ∃ bmB newId, EC K c.1 bmB newId) ∧
  ∃ vs, Paired (Sel K cs) sel vs ∧ Q vs H
theorem ErrsO.get {H : Hp} {C : Addr} {fs : List (Str × V)} : ∀ {ps : List Addr} {cs : List Cls} {n : Nat}, ErrsO H ps cs → cs[n]? = some (C, fs) → ∃ p, ps[n]? = some p ∧ ErrO H p C fs
  | p :: _, (_, _) :: _, 0, h, e => by
    cases e
    exact ⟨p, rfl, h.1⟩
  | _ :: _, (_, _) :: _, n + 1, h, e => ErrsO.get (n := n) h.2 e
  | [], [], _, _, e => by cases e
  | [], _ :: _, _, h, _ => h.elim
  | _ :: _, [], _, h, _ => h.elim
section
variable {X : Cx} {K : PySem.W.Frag} {i n : Nat} {q pos : Pos} {o : Expr} {es : List Expr} {f : Str} {sel : List (Nat × Str)}
theorem pa_f0 : PA X [] (tFld K i []) := pa_weak pa_nil fun σ H Q ⟨_, _, _, _, _, _, _, vs, h, q⟩ => by
  cases h
  exact q
theorem pa_f1 (hK : X.K = K) (ho : PE X o (tOp (rIxL K) (tVar i) (tC (.int (n : Int))))) (hs : PA X es (tFld K i sel)) (hb : attributeBase o f X.env (eval o X.env) = eval o X.env := by rfl)
    (n3 : starEach (.Attribute o f pos :: es) X.env = (false, eval (.Attribute o f pos) X.env) :: starEach es X.env := by rfl) :
    PA X (.Attribute o f pos :: es) (tFld K i ((n, f) :: sel)) := by
  subst hK
  refine pa_weak (pa_cons (pe_ef (n := f) ho hb) hs n3) fun σ H Q h => ?_
  obtain ⟨a, ps, cs, h1, h2, h3, h4, vs, h5, h6⟩ := h
  cases h5 with
  | cons r1 r2 =>
    obtain ⟨C, fs, e1, e2, e3⟩ := r1
    obtain ⟨p, e4, e5⟩ := h3.get e1
    obtain ⟨bmB, newId, T⟩ := h4 _ (List.mem_of_getElem? e1)
    exact ⟨_, slot_at h1, a, _, _, .ref p, rfl, rfl, h2, atI_nat (by rw [List.getElem?_map, e4]; rfl), p, C, bmB, newId, fs, _, rfl, e5, T, e2, e3, a, ps, cs, h1, h2, h3, h4, _, r2, h6⟩
end
end Gx
namespace Gx
open PySem PySem.Spec PyProof.Rows L2
/-- what the written part says of an error class with an __init__ of its own -/
structure ES (K : PySem.W.Frag) (mg : Str → Option Value) (x qual : Str) (st : Stmt) (bmB : List Value) (newId : String) : Prop where
  m : mg x = some (.ref (cl mg x))
  T : EC K (cl mg x) bmB newId
  ini : ∃ f fd, PySem.W.findIn K (.ref (cl mg x)) "__init__" = some (some (.ref f)) ∧ PySem.W.typeIn K (.ref f) = some (.type "function") ∧ Fun K "__init__" qual st f fd
section
variable {P : Program} {w : World} {K : PySem.W.Frag} {mg : Str → Option Value} {base : Heap} {x qual : Str} {st : Stmt} {bmB : List Value} {B newId initId : String}
theorem ES.of {C f : Addr} {fd : FuncData} (h : mg x = some (.ref C)) (t : ecB K C bmB newId = true) (i1 : PySem.W.findIn K (.ref C) "__init__" = some (some (.ref f))) (i2 : PySem.W.typeIn K (.ref f) = some (.type "function")) (i3 : Fun K "__init__" qual st f fd) : ES K mg x qual st bmB newId := by
  have e := cl_of h
  refine ⟨?_, ?_, f, fd, ?_, i2, i3⟩ <;> rw [e]
  · exact h
  · exact .of t
  · exact i1
theorem ES.em1 {f p1 p2 : Str} (S : ES K mg x qual st bmB newId) (F : EB B newId initId bmB) (Sc : FnScope [p1, p2] [p1, p2] (defScope st)) (hf : PySem.W.findIn K (.ref (cl mg x)) f = some none)
    (body : ∀ (fI : Addr) (cdv : Value) (A : Around) (outer : List Env) (s : Shared) (H : Hp) (E : XK), PSs (cxOf CX0 P w K mg base [p1, p2] qual (defScope st) fI cdv A outer s H E).nox (defBody st) (fun D σ H => tOsb K (cl mg x) f (tVar 0) (tVar 1) D σ H))
    (b1 : ∀ (kV doc pm : Value) (an : Option Addr) (cdv ct : Value) (us : List Value), us.length = 2 → bindArgs (PySem.W.fnOf "__init__" qual (defArgs st) (defBody st) (defScope st) .none kV doc pm an cdv ct) ⟨us, []⟩ = pure ([p1, p2].zip us))
    (b2 : ∀ (kV doc pm : Value) (an : Option Addr) (cdv ct : Value) (u : Value) (ws : List Value), ws.length = 1 → bindArgs (PySem.W.fnOf "__init__" qual (defArgs st) (defBody st) (defScope st) .none kV doc pm an cdv ct) ⟨[u], [f].zip ws⟩ = pure ([p1, p2].zip (u :: ws))) :
    EM P w K mg base x [f] := by
  obtain ⟨m, T, g, fd, i1, i2, Fn⟩ := S
  exact ⟨B, newId, initId, bmB, g, fd, qual, st, [p1, p2], m, F, T, i1, i2, Fn, init1_ok F T Fn Sc hf (body g), rfl, (by show 1 ≤ 2; decide), b1, b2⟩
theorem ES.em2 {f g p1 p2 p3 : Str} (S : ES K mg x qual st bmB newId) (F : EB B newId initId bmB) (Sc : FnScope [p1, p2, p3] [p1, p2, p3] (defScope st)) (hf : PySem.W.findIn K (.ref (cl mg x)) f = some none) (hg : PySem.W.findIn K (.ref (cl mg x)) g = some none)
    (body : ∀ (fI : Addr) (cdv : Value) (A : Around) (outer : List Env) (s : Shared) (H : Hp) (E : XK), PSs (cxOf CX0 P w K mg base [p1, p2, p3] qual (defScope st) fI cdv A outer s H E).nox (defBody st)
      (fun D σ H => tOsb K (cl mg x) f (tVar 0) (tVar 1) { D with nx := fun σ1 H1 => tOsb K (cl mg x) g (tVar 0) (tVar 2) D σ1 H1 } σ H))
    (b1 : ∀ (kV doc pm : Value) (an : Option Addr) (cdv ct : Value) (us : List Value), us.length = 3 → bindArgs (PySem.W.fnOf "__init__" qual (defArgs st) (defBody st) (defScope st) .none kV doc pm an cdv ct) ⟨us, []⟩ = pure ([p1, p2, p3].zip us))
    (b2 : ∀ (kV doc pm : Value) (an : Option Addr) (cdv ct : Value) (u : Value) (ws : List Value), ws.length = 2 → bindArgs (PySem.W.fnOf "__init__" qual (defArgs st) (defBody st) (defScope st) .none kV doc pm an cdv ct) ⟨[u], [f, g].zip ws⟩ = pure ([p1, p2, p3].zip (u :: ws))) :
    EM P w K mg base x [f, g] := by
  obtain ⟨m, T, i, fd, i1, i2, Fn⟩ := S
  exact ⟨B, newId, initId, bmB, i, fd, qual, st, [p1, p2, p3], m, F, T, i1, i2, Fn, init2_ok F T Fn Sc hf hg (body i), rfl, (by show 2 ≤ 2; decide), b1, b2⟩
theorem EN.of {C : Addr} (h : mg x = some (.ref C)) (F : EB B newId initId bmB) (t : ecB K C bmB newId = true) (q : PySem.W.excIn K C bmB newId = true) : EN K mg x := by
  have e := cl_of h
  exact ⟨B, newId, initId, bmB, by rw [e]; exact h, F, by rw [e]; exact .of t, by rw [e]; exact q⟩
end
/-! ### who is whose -/
/-- of these classes none stands over another -/
def apartB (K : PySem.W.Frag) (as : List Addr) : Bool := as.all fun C => match PySem.W.clsIn K C with
  | some cd => !cd.mro.isEmpty && as.all fun D => cd.mro.contains (.ref D) == (C == D)
  | none => false
/-- whether classes stand over others: the table's bools -/
def overB (K : PySem.W.Frag) (os : List Value) (bs : List Bool) (as : List Addr) : Bool := as.all fun C => match PySem.W.clsIn K C with
  | some cd => !cd.mro.isEmpty && (os.map fun o => cd.mro.contains o) == bs
  | none => false
theorem sub_of {K : PySem.W.Frag} {C : Addr} {cd : ClassData} {o : Value} (h : PySem.W.clsIn K C = some cd) (he : (!cd.mro.isEmpty) = true) : PySem.W.subIn K (.ref C) o = some (cd.mro.contains o) := by
  show PySem.W.mroIn K C o = _
  unfold PySem.W.mroIn
  rw [h, Option.bind_some, if_neg (by simpa using he)]
theorem apart_sub {K : PySem.W.Frag} {as : List Addr} (h : apartB K as = true) {C D : Addr} (hC : C ∈ as) (hD : D ∈ as) : PySem.W.subIn K (.ref C) (.ref D) = some (C == D) := by
  have z := List.all_eq_true.mp h C hC
  split at z
  · rename_i cd e
    rw [Bool.and_eq_true] at z
    have y := beq_iff_eq.mp (List.all_eq_true.mp z.2 D hD)
    rw [sub_of e z.1, y]
  · cases z
theorem over_sub {K : PySem.W.Frag} {os : List Value} {bs : List Bool} {as : List Addr} (h : overB K os bs as = true) {C : Addr} (hC : C ∈ as) {n : Nat} {o : Value} (ho : os[n]? = some o) : ∃ b, bs[n]? = some b ∧ PySem.W.subIn K (.ref C) o = some b := by
  have z := List.all_eq_true.mp h C hC
  split at z
  · rename_i cd e
    rw [Bool.and_eq_true] at z
    have y := beq_iff_eq.mp z.2
    refine ⟨cd.mro.contains o, ?_, sub_of e z.1⟩
    rw [← y, List.getElem?_map, ho]
    rfl
  · cases z
theorem kit_own {K : PySem.W.Frag} {C D : Addr} {b : Bool} (is : PySem.W.isClsIn K D = true) (ty : PySem.W.typeIn K (.ref D) = some (.type "type")) (s : PySem.W.subIn K (.ref C) (.ref D) = some b) (hb : C = D → b = true) : PySem.W.kitOne K (.ref C) (.ref D) = some b := by
  unfold PySem.W.kitOne
  by_cases c : C = D
  · rw [if_pos (by rw [c]; exact beq_self_eq_true _), hb c]
  · rw [if_neg fun z => c (Value.ref.inj (beq_iff_eq.mp z))]
    have e : ((PySem.W.clsIn K D).isSome && PySem.W.typeIn K (.ref D) == some (.type "type")) = true := by
      rw [ty, show (PySem.W.clsIn K D).isSome = true from is]
      rfl
    show (if ((PySem.W.clsIn K D).isSome && PySem.W.typeIn K (.ref D) == some (.type "type")) = true then PySem.W.subIn K (.ref C) (.ref D) else none) = some b
    rw [if_pos e]
    exact s
end Gx
namespace Gx
open PySem PySem.Spec PyProof.Rows L2
/-! ### the same by few looks -/
/-- the own part of a class says nothing of these names -/
def silent (K : PySem.W.Frag) (ns : List Str) : Value → Bool
  | .ref a => match K.lookup a with
    | some ⟨_, _, .cls cd, _⟩ => match K.lookup cd.ns with
      | some ⟨_, _, .dict es _, _⟩ => es.toList.all fun e => !e.refKey && ns.all fun n => !e.key.isStr n
      | _ => false
    | _ => false
  | _ => false
theorem silent_own {K : PySem.W.Frag} {ns : List Str} {c : Value} {n : Str} (h : silent K ns c = true) (hn : n ∈ ns) : PySem.W.ownIn K n c = some none := by
  cases c with
  | ref a =>
    unfold silent at h
    dsimp only at h
    unfold PySem.W.ownIn
    dsimp only
    split at h
    · rename_i c' d' cd sl ho
      rw [ho]
      dsimp only
      unfold PySem.W.nsIn
      split at h
      · rename_i c2 d2 es n2 sl2 h2
        rw [h2]
        dsimp only
        have all := List.all_eq_true.mp h
        have f : es.toList.find? (·.key.isStr n) = none := List.find?_eq_none.mpr fun e he z => by
          have := all e he
          rw [Bool.and_eq_true] at this
          have y := List.all_eq_true.mp this.2 n hn
          rw [z] at y
          cases y
        have r : es.toList.any (·.refKey) = false := by
          rw [List.any_eq_false]
          intro e he z
          have := all e he
          rw [Bool.and_eq_true] at this
          rw [z] at this
          exact absurd this.1 (by decide)
        rw [f]
        dsimp only
        rw [r]
        rfl
      · cases h
    · cases h
  | _ => cases h
def isRef : Value → Bool
  | .ref _ => true
  | _ => false
/-- the mro: own classes, silent, then the built-in's -/
def quietTail (K : PySem.W.Frag) (ns : List Str) (bmB : List Value) : List Value → Bool
  | .ref a :: r => silent K ns (.ref a) && quietTail K ns bmB r
  | l => l == bmB
theorem quiet_cases {K : PySem.W.Frag} {ns : List Str} {bmB : List Value} : ∀ l : List Value, quietTail K ns bmB l = true → (∃ c r, l = .ref c :: r ∧ silent K ns (.ref c) = true ∧ quietTail K ns bmB r = true) ∨ l = bmB
  | [], e => .inr (beq_iff_eq.mp e)
  | .ref c :: r, e => .inl ⟨c, r, rfl, (Bool.and_eq_true _ _ ▸ e).1, (Bool.and_eq_true _ _ ▸ e).2⟩
  | .none :: _, e => .inr (beq_iff_eq.mp e)
  | .ellipsis :: _, e => .inr (beq_iff_eq.mp e)
  | .notImplemented :: _, e => .inr (beq_iff_eq.mp e)
  | .bool _ :: _, e => .inr (beq_iff_eq.mp e)
  | .int _ _ :: _, e => .inr (beq_iff_eq.mp e)
  | .float _ _ :: _, e => .inr (beq_iff_eq.mp e)
  | .str _ _ :: _, e => .inr (beq_iff_eq.mp e)
  | .bytes _ _ :: _, e => .inr (beq_iff_eq.mp e)
  | .type _ :: _, e => .inr (beq_iff_eq.mp e)
  | .builtin _ :: _, e => .inr (beq_iff_eq.mp e)
theorem quiet_along {K : PySem.W.Frag} {ns : List Str} {bmB : List Value} {n : Str} (hn : n ∈ ns) : ∀ l : List Value, quietTail K ns bmB l = true → PySem.W.alongIn K n l = PySem.W.alongIn K n bmB
  | [], e => by rw [show [] = bmB from beq_iff_eq.mp e]
  | a :: r, e => by
    rcases quiet_cases (a :: r) e with ⟨c, r', q, h1, h2⟩ | q
    · obtain ⟨rfl, rfl⟩ := List.cons.inj q
      rw [← quiet_along hn r h2]
      show (match PySem.W.ownIn K n (.ref c) with | some (some v) => some (some v) | some none => PySem.W.alongIn K n r | none => none) = _
      rw [silent_own h1 hn]
    · rw [q]
theorem quiet_exc {K : PySem.W.Frag} {ns : List Str} {bmB : List Value} (hb : PySem.W.excTail bmB bmB = true) : ∀ l : List Value, quietTail K ns bmB l = true → PySem.W.excTail bmB l = true
  | [], e => by rw [show [] = bmB from beq_iff_eq.mp e]; exact hb
  | a :: r, e => by
    rcases quiet_cases (a :: r) e with ⟨c, r', q, _, h2⟩ | q
    · obtain ⟨rfl, rfl⟩ := List.cons.inj q
      exact quiet_exc hb r h2
    · rw [q]
      exact hb
/-- what a built-in's tail says of some names, whatever the program -/
structure ETail (bmB : List Value) (fs : List Str) : Prop where
  self : PySem.W.excTail bmB bmB = true
  sa : ∀ K, PySem.W.alongIn K "__setattr__" bmB = some (some (.builtin "object.__setattr__"))
  ga : ∀ K, PySem.W.alongIn K "__getattribute__" bmB = some (some (.builtin "BaseException.__getattribute__"))
  gg : ∀ K, PySem.W.alongIn K "__getattr__" bmB = some none
  gc : ∀ K, PySem.W.alongIn K "__class__" bmB = some (some (.builtin "object.__class__"))
  hB : bmB.contains (.type "BaseException") = true
  hO : bmB.contains (.type "object") = true
  fl : ∀ K, fs.all (fun f => PySem.W.alongIn K f bmB == some none) = true
abbrev fV : List Str := ["value", "position", "problem"]
abbrev fL : List Str := ["value", "least"]
abbrev fR : List Str := ["name", "table", "key", "place", "position", "line", "point", "act", "item", "earliest", "request"]
abbrev fA : List Str := ["kind", "limit", "count"]
theorem etV : ETail tlV fV := ⟨by decide +kernel, fun K => by kernel_rfl, fun K => by kernel_rfl, fun K => by kernel_rfl, fun K => by kernel_rfl, by decide +kernel, by decide +kernel, fun K => by kernel_rfl⟩
theorem etL : ETail tlL fL := ⟨by decide +kernel, fun K => by kernel_rfl, fun K => by kernel_rfl, fun K => by kernel_rfl, fun K => by kernel_rfl, by decide +kernel, by decide +kernel, fun K => by kernel_rfl⟩
theorem etR : ETail tlR fR := ⟨by decide +kernel, fun K => by kernel_rfl, fun K => by kernel_rfl, fun K => by kernel_rfl, fun K => by kernel_rfl, by decide +kernel, by decide +kernel, fun K => by kernel_rfl⟩
theorem etA : ETail tlA fA := ⟨by decide +kernel, fun K => by kernel_rfl, fun K => by kernel_rfl, fun K => by kernel_rfl, fun K => by kernel_rfl, by decide +kernel, by decide +kernel, fun K => by kernel_rfl⟩
theorem call_type : PySem.fastLookup "type" "__call__" = some (some (.builtin "type.__call__")) := by kernel_rfl
theorem sp_class (K : PySem.W.Frag) : PySem.W.specialIn K (.builtin "object.__class__") "__get__" = some (some (.builtin "getset_descriptor.__get__")) := by kernel_rfl
theorem tk_class (K : PySem.W.Frag) : PySem.W.takesIn K (.builtin "object.__class__") = some true := by kernel_rfl
abbrev base4 : List Str := ["__setattr__", "__getattribute__", "__getattr__", "__class__"]
/-- an error class, by few looks -/
def ecQ (K : PySem.W.Frag) (fs : List Str) (C : Addr) (bmB : List Value) (newId : String) : Bool := match K.lookup C with
  | some ⟨.type "type", _, .cls cd, sl⟩ => (match cd.mro, sl.toList with
    | .ref C' :: bm, [_, _, _, _, some (.builtin n), _] => C' == C && n == newId && !cd.hasDel && cd.hasDict && quietTail K (base4 ++ fs) bmB (.ref C' :: bm)
    | _, _ => false)
  | _ => false
theorem ecQ_of {K : PySem.W.Frag} {fs : List Str} {C : Addr} {bmB : List Value} {newId : String} (E : ETail bmB fs) (h : ecQ K fs C bmB newId = true) : EC K C bmB newId ∧ ∀ f ∈ fs, PySem.W.findIn K (.ref C) f = some none := by
  unfold ecQ at h
  split at h
  · rename_i dd cd sl ho
    split at h
    · rename_i C' bm k0 k1 k2 k3 n k5 hm hs
      simp only [Bool.and_eq_true, beq_iff_eq, Bool.not_eq_true'] at h
      obtain ⟨⟨⟨⟨rfl, rfl⟩, hdel⟩, hdi⟩, qt⟩ := h
      have hc : PySem.W.clsIn K C' = some cd := by unfold PySem.W.clsIn; rw [ho]
      have ty : PySem.W.typeIn K (.ref C') = some (.type "type") := by
        show (K.lookup C').map (·.cls) = _
        rw [ho]
        rfl
      have et := quiet_exc E.self _ qt
      have eb : PySem.W.excTail bmB bm = true := by
        rw [show PySem.W.excTail bmB (.ref C' :: bm) = PySem.W.excTail bmB bm from rfl] at et
        exact et
      have fi : ∀ n ∈ base4 ++ fs, PySem.W.findIn K (.ref C') n = PySem.W.alongIn K n bmB := fun n hn => by
        show (match K.lookup C' with | some ⟨_, _, .cls cd, _⟩ => PySem.W.alongIn K n cd.mro | _ => none) = _
        rw [ho]
        dsimp only
        rw [hm]
        exact quiet_along hn _ qt
      have mr : ∀ T : String, PySem.W.mroIn K C' (.type T) = some (bmB.contains (.type T)) := fun T => by
        unfold PySem.W.mroIn
        rw [hc, Option.bind_some, if_neg (by rw [hm]; exact Bool.false_ne_true), hm, List.contains_cons, PySem.W.excTail_contains T _ eb]
        rfl
      refine ⟨⟨?_, ?_, ?_, ?_, ?_, ty, ?_, ?_, ?_, ?_, ?_, ?_, sp_class K, tk_class K⟩, fun f hf => ?_⟩
      · unfold PySem.W.excInitIn
        rw [ho]
        simp only [hm, hs]
        simp [hdel, eb]
      · unfold PySem.W.excOver
        rw [hc, Option.any_some, hm]
        simp [eb]
      · unfold PySem.W.hasDictIn
        rw [hc]
        exact hdi
      · unfold PySem.W.keepIn
        dsimp only
        rw [ho]
        dsimp only
        unfold PySem.W.specialIn
        rw [ty, Option.bind_some]
        show (PySem.fastLookup "type" "__call__" == _) = true
        rw [call_type]
        exact beq_self_eq_true _
      · unfold PySem.W.isClsIn
        rw [hc]
        rfl
      · rw [fi _ (by simp), E.sa]
      · rw [fi _ (by simp), E.ga]
      · rw [fi _ (by simp), E.gg]
      · rw [fi _ (by simp), E.gc]
      · show PySem.W.mroIn K C' _ = _
        rw [mr, E.hB]
      · rw [mr, E.hO]
      · rw [fi f (List.mem_append_right _ hf)]
        exact beq_iff_eq.mp (List.all_eq_true.mp (E.fl K) f hf)
    · cases h
  · cases h
end Gx
namespace Gx
open PySem PySem.Spec PyProof.Rows L2
section
variable {K : PySem.W.Frag} {mg : Str → Option Value} {x qual : Str} {st : Stmt} {bmB : List Value} {B newId initId : String}
theorem ES.of2 {C f : Addr} {fd : FuncData} (h : mg x = some (.ref C)) (t : EC K C bmB newId) (i1 : PySem.W.findIn K (.ref C) "__init__" = some (some (.ref f))) (i2 : PySem.W.typeIn K (.ref f) = some (.type "function")) (i3 : Fun K "__init__" qual st f fd) : ES K mg x qual st bmB newId := by
  have e := cl_of h
  refine ⟨?_, ?_, f, fd, ?_, i2, i3⟩ <;> rw [e]
  · exact h
  · exact t
  · exact i1
theorem EN.of2 {C : Addr} (h : mg x = some (.ref C)) (F : EB B newId initId bmB) (t : EC K C bmB newId) (q : PySem.W.excIn K C bmB newId = true) : EN K mg x := by
  have e := cl_of h
  exact ⟨B, newId, initId, bmB, by rw [e]; exact h, F, by rw [e]; exact t, by rw [e]; exact q⟩
end
end Gx
namespace My
open PySem PySem.Spec PyProof.Rows L2
abbrev nm1 : List Str := ["InvalidBits", "InvalidValue", "InvalidRange", "InvalidPlace", "InvalidCount", "InvalidName", "InvalidColumns", "InvalidKey", "InvalidPayload", "InvalidText", "InvalidPoint", "InvalidLimit", "InvalidPage", "InvalidMessage", "InvalidCommand", "InvalidBox", "InvalidOrder", "InvalidWrite", "InvalidPaper", "InvalidQuery", "InvalidGroups"]
abbrev nm2 : List Str := ["UnknownTable", "UnknownVersion", "UnknownName", "UnknownTransaction", "TooOld"]
abbrev nm3 : List Str := ["WrongColumns", "Holds", "NameTaken", "KeyTaken", "NoSuchRow", "NotClear", "Unlike", "NoHalf", "NotJoined", "NotAPoint", "WrongLine", "NotAnswer", "IsAnswer", "NotEmpty", "Ended", "Changed", "Violated", "Held", "Crashed", "DiskInUse", "NoStore", "Needs"]
abbrev nm4 : List Str := ["TooMany", "TooLarge"]
/-- all error classes, in the law's sequence -/
abbrev nms : List Str := nm1 ++ (nm2 ++ (nm3 ++ nm4))
abbrev ovs (mg : Str → Option Value) : List Value := [.ref (Gx.cl mg "CoverError"), .type "ValueError", .type "LookupError", .type "RuntimeError", .type "ArithmeticError"]
/-- who stands over whom -/
structure Tabs (K : PySem.W.Frag) (mg : Str → Option Value) : Prop where
  ap : Gx.apartB K (nms.map (Gx.cl mg)) = true
  nd : (nms.map (Gx.cl mg)).Nodup
  o1 : Gx.overB K (ovs mg) [true, true, false, false, false] (nm1.map (Gx.cl mg)) = true
  o2 : Gx.overB K (ovs mg) [false, false, true, false, false] (nm2.map (Gx.cl mg)) = true
  o3 : Gx.overB K (ovs mg) [false, false, false, true, false] (nm3.map (Gx.cl mg)) = true
  o4 : Gx.overB K (ovs mg) [false, false, false, false, true] (nm4.map (Gx.cl mg)) = true
def top (i : Nat) : Stmt := PySem.Challenge.pw_coverstore_k10_errors_created.main.body.getD i (.Pass ⟨0, 0, 0, 0⟩)
abbrev s__law_rng : Stmt := top 53
abbrev N__law_rng : List Str := ["_law_script", "_law_k", "_law_cell"]
theorem sc__law_rng : FnScope N__law_rng ["_law_script", "_law_k"] (defScope s__law_rng) := ⟨rfl, rfl, rfl, by decide +kernel, rfl, by decide +kernel, by decide +kernel⟩
theorem b__law_rng : Gx.PosB "_law_rng" s__law_rng ["_law_script", "_law_k"] := fun _ _ _ _ _ _ us hl => match us, hl with | [_, _], _ => rfl
abbrev s__law_draw : Stmt := top 54
abbrev N__law_draw : List Str := ["_law_rng_here", "_law_many", "_law_digit"]
theorem sc__law_draw : FnScope N__law_draw ["_law_rng_here", "_law_many"] (defScope s__law_draw) := ⟨rfl, rfl, rfl, by decide +kernel, rfl, by decide +kernel, by decide +kernel⟩
theorem b__law_draw : Gx.PosB "_law_draw" s__law_draw ["_law_rng_here", "_law_many"] := fun _ _ _ _ _ _ us hl => match us, hl with | [_, _], _ => rfl
abbrev s__law_thing : Stmt := top 55
abbrev N__law_thing : List Str := ["_law_rng_here", "_law_some"]
theorem sc__law_thing : FnScope N__law_thing ["_law_rng_here"] (defScope s__law_thing) := ⟨rfl, rfl, rfl, by decide +kernel, rfl, by decide +kernel, by decide +kernel⟩
theorem b__law_thing : Gx.PosB "_law_thing" s__law_thing ["_law_rng_here"] := fun _ _ _ _ _ _ us hl => match us, hl with | [_], _ => rfl
abbrev s__law_by_position : Stmt := top 56
abbrev N__law_by_position : List Str := ["_law_a", "_law_b", "_law_found"]
theorem sc__law_by_position : FnScope N__law_by_position ["_law_a", "_law_b"] (defScope s__law_by_position) := ⟨rfl, rfl, rfl, by decide +kernel, rfl, by decide +kernel, by decide +kernel⟩
theorem b__law_by_position : Gx.PosB "_law_by_position" s__law_by_position ["_law_a", "_law_b"] := fun _ _ _ _ _ _ us hl => match us, hl with | [_, _], _ => rfl
abbrev s__law_by_name : Stmt := top 57
abbrev N__law_by_name : List Str := ["_law_a", "_law_b", "_law_found"]
theorem sc__law_by_name : FnScope N__law_by_name ["_law_a", "_law_b"] (defScope s__law_by_name) := ⟨rfl, rfl, rfl, by decide +kernel, rfl, by decide +kernel, by decide +kernel⟩
theorem b__law_by_name : Gx.PosB "_law_by_name" s__law_by_name ["_law_a", "_law_b"] := fun _ _ _ _ _ _ us hl => match us, hl with | [_, _], _ => rfl
abbrev s__law_classes : Stmt := top 58
abbrev N__law_classes : List Str := ["_law_e", "_law_found"]
theorem sc__law_classes : FnScope N__law_classes ["_law_e"] (defScope s__law_classes) := ⟨rfl, rfl, rfl, by decide +kernel, rfl, by decide +kernel, by decide +kernel⟩
theorem b__law_classes : Gx.PosB "_law_classes" s__law_classes ["_law_e"] := fun _ _ _ _ _ _ us hl => match us, hl with | [_], _ => rfl
abbrev s__law_fields : Stmt := top 59
abbrev N__law_fields : List Str := ["_law_some", "_law_found"]
theorem sc__law_fields : FnScope N__law_fields ["_law_some"] (defScope s__law_fields) := ⟨rfl, rfl, rfl, by decide +kernel, rfl, by decide +kernel, by decide +kernel⟩
theorem b__law_fields : Gx.PosB "_law_fields" s__law_fields ["_law_some"] := fun _ _ _ _ _ _ us hl => match us, hl with | [_], _ => rfl
abbrev s__law_bases : Stmt := top 60
abbrev N__law_bases : List Str := ["_law_e", "_law_found"]
theorem sc__law_bases : FnScope N__law_bases ["_law_e"] (defScope s__law_bases) := ⟨rfl, rfl, rfl, by decide +kernel, rfl, by decide +kernel, by decide +kernel⟩
theorem b__law_bases : Gx.PosB "_law_bases" s__law_bases ["_law_e"] := fun _ _ _ _ _ _ us hl => match us, hl with | [_], _ => rfl
abbrev s__law_due_bases : Stmt := top 61
abbrev N__law_due_bases : List Str := ["_law_at"]
theorem sc__law_due_bases : FnScope N__law_due_bases ["_law_at"] (defScope s__law_due_bases) := ⟨rfl, rfl, rfl, by decide +kernel, rfl, by decide +kernel, by decide +kernel⟩
theorem b__law_due_bases : Gx.PosB "_law_due_bases" s__law_due_bases ["_law_at"] := fun _ _ _ _ _ _ us hl => match us, hl with | [_], _ => rfl
abbrev s__law_due_fields : Stmt := top 62
abbrev N__law_due_fields : List Str := ["_law_a", "_law_b", "_law_sizes", "_law_found", "_law_size"]
theorem sc__law_due_fields : FnScope N__law_due_fields ["_law_a", "_law_b"] (defScope s__law_due_fields) := ⟨rfl, rfl, rfl, by decide +kernel, rfl, by decide +kernel, by decide +kernel⟩
theorem b__law_due_fields : Gx.PosB "_law_due_fields" s__law_due_fields ["_law_a", "_law_b"] := fun _ _ _ _ _ _ us hl => match us, hl with | [_, _], _ => rfl
abbrev s__law_right : Stmt := top 63
abbrev N__law_right : List Str := ["_law_some", "_law_a", "_law_b", "_law_at", "_law_e", "_law_k"]
theorem sc__law_right : FnScope N__law_right ["_law_some", "_law_a", "_law_b"] (defScope s__law_right) := ⟨rfl, rfl, rfl, by decide +kernel, rfl, by decide +kernel, by decide +kernel⟩
theorem b__law_right : Gx.PosB "_law_right" s__law_right ["_law_some", "_law_a", "_law_b"] := fun _ _ _ _ _ _ us hl => match us, hl with | [_, _, _], _ => rfl
abbrev s_law : Stmt := top 64
abbrev N_law : List Str := ["_law_script", "_law_k", "_law_rng_here", "_law_a", "_law_b", "_law_some", "_law_others"]
theorem sc_law : FnScope N_law ["_law_script"] (defScope s_law) := ⟨rfl, rfl, rfl, by decide +kernel, rfl, by decide +kernel, by decide +kernel⟩
theorem b_law : Gx.PosB "law" s_law ["_law_script"] := fun _ _ _ _ _ _ us hl => match us, hl with | [_], _ => rfl
abbrev i_InvalidBits : Stmt := Gx.meth (top 2) 0
abbrev i_InvalidValue : Stmt := Gx.meth (top 3) 0
abbrev i_InvalidRange : Stmt := Gx.meth (top 4) 0
abbrev i_InvalidBox : Stmt := Gx.meth (top 5) 0
abbrev i_InvalidPlace : Stmt := Gx.meth (top 6) 0
abbrev i_InvalidCount : Stmt := Gx.meth (top 7) 0
abbrev i_InvalidName : Stmt := Gx.meth (top 8) 0
abbrev i_InvalidColumns : Stmt := Gx.meth (top 9) 0
abbrev i_InvalidOrder : Stmt := Gx.meth (top 10) 0
abbrev i_InvalidKey : Stmt := Gx.meth (top 11) 0
abbrev i_InvalidPayload : Stmt := Gx.meth (top 12) 0
abbrev i_InvalidWrite : Stmt := Gx.meth (top 13) 0
abbrev i_InvalidQuery : Stmt := Gx.meth (top 14) 0
abbrev i_InvalidText : Stmt := Gx.meth (top 15) 0
abbrev i_InvalidPoint : Stmt := Gx.meth (top 16) 0
abbrev i_InvalidPaper : Stmt := Gx.meth (top 17) 0
abbrev i_InvalidLimit : Stmt := Gx.meth (top 18) 0
abbrev i_InvalidGroups : Stmt := Gx.meth (top 19) 0
abbrev i_InvalidPage : Stmt := Gx.meth (top 20) 0
abbrev i_InvalidMessage : Stmt := Gx.meth (top 21) 0
abbrev i_InvalidCommand : Stmt := Gx.meth (top 22) 0
abbrev i_UnknownTable : Stmt := Gx.meth (top 23) 0
abbrev i_UnknownVersion : Stmt := Gx.meth (top 24) 0
abbrev i_TooOld : Stmt := Gx.meth (top 25) 0
abbrev i_UnknownName : Stmt := Gx.meth (top 26) 0
abbrev i_UnknownTransaction : Stmt := Gx.meth (top 27) 0
abbrev i_NameTaken : Stmt := Gx.meth (top 28) 0
abbrev i_KeyTaken : Stmt := Gx.meth (top 29) 0
abbrev i_NoSuchRow : Stmt := Gx.meth (top 30) 0
abbrev i_NotClear : Stmt := Gx.meth (top 31) 0
abbrev i_NoHalf : Stmt := Gx.meth (top 33) 0
abbrev i_NotJoined : Stmt := Gx.meth (top 34) 0
abbrev i_WrongColumns : Stmt := Gx.meth (top 36) 0
abbrev i_Holds : Stmt := Gx.meth (top 37) 0
abbrev i_WrongLine : Stmt := Gx.meth (top 38) 0
abbrev i_NotAnswer : Stmt := Gx.meth (top 39) 0
abbrev i_IsAnswer : Stmt := Gx.meth (top 40) 0
abbrev i_NotEmpty : Stmt := Gx.meth (top 41) 0
abbrev i_Changed : Stmt := Gx.meth (top 43) 0
abbrev i_Violated : Stmt := Gx.meth (top 44) 0
abbrev i_Held : Stmt := Gx.meth (top 45) 0
abbrev i_Needs : Stmt := Gx.meth (top 49) 0
abbrev i_TooMany : Stmt := Gx.meth (top 50) 0
abbrev i_TooLarge : Stmt := Gx.meth (top 51) 0
/-- what the module's names stand for -/
structure Mo (K : PySem.W.Frag) (mg : Str → Option Value) : Prop where
  d__law_rng : Gx.DefAt K mg "_law_rng" s__law_rng
  d__law_draw : Gx.DefAt K mg "_law_draw" s__law_draw
  d__law_thing : Gx.DefAt K mg "_law_thing" s__law_thing
  d__law_by_position : Gx.DefAt K mg "_law_by_position" s__law_by_position
  d__law_by_name : Gx.DefAt K mg "_law_by_name" s__law_by_name
  d__law_classes : Gx.DefAt K mg "_law_classes" s__law_classes
  d__law_fields : Gx.DefAt K mg "_law_fields" s__law_fields
  d__law_bases : Gx.DefAt K mg "_law_bases" s__law_bases
  d__law_due_bases : Gx.DefAt K mg "_law_due_bases" s__law_due_bases
  d__law_due_fields : Gx.DefAt K mg "_law_due_fields" s__law_due_fields
  d__law_right : Gx.DefAt K mg "_law_right" s__law_right
  d_law : Gx.DefAt K mg "law" s_law
  b_ArithmeticError : mg "ArithmeticError" = none
  b_LookupError : mg "LookupError" = none
  b_RuntimeError : mg "RuntimeError" = none
  b_ValueError : mg "ValueError" = none
  b_abs : mg "abs" = none
  b_divmod : mg "divmod" = none
  b_enumerate : mg "enumerate" = none
  b_int : mg "int" = none
  b_isinstance : mg "isinstance" = none
  b_len : mg "len" = none
  b_max : mg "max" = none
  b_min : mg "min" = none
  b_range : mg "range" = none
  b_repr : mg "repr" = none
  en_CoverError : Gx.EN K mg "CoverError"
  ec_CoverError : Gx.EC K (Gx.cl mg "CoverError") Gx.tlV "ValueError.__new__"
  es_InvalidBits : Gx.ES K mg "InvalidBits" "InvalidBits.__init__" i_InvalidBits Gx.tlV "ValueError.__new__"
  f_InvalidBits_value : PySem.W.findIn K (.ref (Gx.cl mg "InvalidBits")) "value" = some none
  es_InvalidValue : Gx.ES K mg "InvalidValue" "InvalidValue.__init__" i_InvalidValue Gx.tlV "ValueError.__new__"
  f_InvalidValue_value : PySem.W.findIn K (.ref (Gx.cl mg "InvalidValue")) "value" = some none
  es_InvalidRange : Gx.ES K mg "InvalidRange" "InvalidRange.__init__" i_InvalidRange Gx.tlV "ValueError.__new__"
  f_InvalidRange_value : PySem.W.findIn K (.ref (Gx.cl mg "InvalidRange")) "value" = some none
  es_InvalidBox : Gx.ES K mg "InvalidBox" "InvalidBox.__init__" i_InvalidBox Gx.tlV "ValueError.__new__"
  f_InvalidBox_position : PySem.W.findIn K (.ref (Gx.cl mg "InvalidBox")) "position" = some none
  es_InvalidPlace : Gx.ES K mg "InvalidPlace" "InvalidPlace.__init__" i_InvalidPlace Gx.tlV "ValueError.__new__"
  f_InvalidPlace_value : PySem.W.findIn K (.ref (Gx.cl mg "InvalidPlace")) "value" = some none
  es_InvalidCount : Gx.ES K mg "InvalidCount" "InvalidCount.__init__" i_InvalidCount Gx.tlV "ValueError.__new__"
  f_InvalidCount_value : PySem.W.findIn K (.ref (Gx.cl mg "InvalidCount")) "value" = some none
  es_InvalidName : Gx.ES K mg "InvalidName" "InvalidName.__init__" i_InvalidName Gx.tlV "ValueError.__new__"
  f_InvalidName_value : PySem.W.findIn K (.ref (Gx.cl mg "InvalidName")) "value" = some none
  es_InvalidColumns : Gx.ES K mg "InvalidColumns" "InvalidColumns.__init__" i_InvalidColumns Gx.tlV "ValueError.__new__"
  f_InvalidColumns_value : PySem.W.findIn K (.ref (Gx.cl mg "InvalidColumns")) "value" = some none
  es_InvalidOrder : Gx.ES K mg "InvalidOrder" "InvalidOrder.__init__" i_InvalidOrder Gx.tlV "ValueError.__new__"
  f_InvalidOrder_position : PySem.W.findIn K (.ref (Gx.cl mg "InvalidOrder")) "position" = some none
  es_InvalidKey : Gx.ES K mg "InvalidKey" "InvalidKey.__init__" i_InvalidKey Gx.tlV "ValueError.__new__"
  f_InvalidKey_value : PySem.W.findIn K (.ref (Gx.cl mg "InvalidKey")) "value" = some none
  es_InvalidPayload : Gx.ES K mg "InvalidPayload" "InvalidPayload.__init__" i_InvalidPayload Gx.tlV "ValueError.__new__"
  f_InvalidPayload_value : PySem.W.findIn K (.ref (Gx.cl mg "InvalidPayload")) "value" = some none
  es_InvalidWrite : Gx.ES K mg "InvalidWrite" "InvalidWrite.__init__" i_InvalidWrite Gx.tlV "ValueError.__new__"
  f_InvalidWrite_position : PySem.W.findIn K (.ref (Gx.cl mg "InvalidWrite")) "position" = some none
  es_InvalidQuery : Gx.ES K mg "InvalidQuery" "InvalidQuery.__init__" i_InvalidQuery Gx.tlV "ValueError.__new__"
  f_InvalidQuery_problem : PySem.W.findIn K (.ref (Gx.cl mg "InvalidQuery")) "problem" = some none
  f_InvalidQuery_position : PySem.W.findIn K (.ref (Gx.cl mg "InvalidQuery")) "position" = some none
  es_InvalidText : Gx.ES K mg "InvalidText" "InvalidText.__init__" i_InvalidText Gx.tlV "ValueError.__new__"
  f_InvalidText_value : PySem.W.findIn K (.ref (Gx.cl mg "InvalidText")) "value" = some none
  es_InvalidPoint : Gx.ES K mg "InvalidPoint" "InvalidPoint.__init__" i_InvalidPoint Gx.tlV "ValueError.__new__"
  f_InvalidPoint_value : PySem.W.findIn K (.ref (Gx.cl mg "InvalidPoint")) "value" = some none
  es_InvalidPaper : Gx.ES K mg "InvalidPaper" "InvalidPaper.__init__" i_InvalidPaper Gx.tlV "ValueError.__new__"
  f_InvalidPaper_position : PySem.W.findIn K (.ref (Gx.cl mg "InvalidPaper")) "position" = some none
  es_InvalidLimit : Gx.ES K mg "InvalidLimit" "InvalidLimit.__init__" i_InvalidLimit Gx.tlV "ValueError.__new__"
  f_InvalidLimit_value : PySem.W.findIn K (.ref (Gx.cl mg "InvalidLimit")) "value" = some none
  es_InvalidGroups : Gx.ES K mg "InvalidGroups" "InvalidGroups.__init__" i_InvalidGroups Gx.tlV "ValueError.__new__"
  f_InvalidGroups_problem : PySem.W.findIn K (.ref (Gx.cl mg "InvalidGroups")) "problem" = some none
  es_InvalidPage : Gx.ES K mg "InvalidPage" "InvalidPage.__init__" i_InvalidPage Gx.tlV "ValueError.__new__"
  f_InvalidPage_value : PySem.W.findIn K (.ref (Gx.cl mg "InvalidPage")) "value" = some none
  es_InvalidMessage : Gx.ES K mg "InvalidMessage" "InvalidMessage.__init__" i_InvalidMessage Gx.tlV "ValueError.__new__"
  f_InvalidMessage_value : PySem.W.findIn K (.ref (Gx.cl mg "InvalidMessage")) "value" = some none
  es_InvalidCommand : Gx.ES K mg "InvalidCommand" "InvalidCommand.__init__" i_InvalidCommand Gx.tlV "ValueError.__new__"
  f_InvalidCommand_value : PySem.W.findIn K (.ref (Gx.cl mg "InvalidCommand")) "value" = some none
  es_UnknownTable : Gx.ES K mg "UnknownTable" "UnknownTable.__init__" i_UnknownTable Gx.tlL "LookupError.__new__"
  f_UnknownTable_value : PySem.W.findIn K (.ref (Gx.cl mg "UnknownTable")) "value" = some none
  es_UnknownVersion : Gx.ES K mg "UnknownVersion" "UnknownVersion.__init__" i_UnknownVersion Gx.tlL "LookupError.__new__"
  f_UnknownVersion_value : PySem.W.findIn K (.ref (Gx.cl mg "UnknownVersion")) "value" = some none
  es_TooOld : Gx.ES K mg "TooOld" "TooOld.__init__" i_TooOld Gx.tlL "LookupError.__new__"
  f_TooOld_least : PySem.W.findIn K (.ref (Gx.cl mg "TooOld")) "least" = some none
  es_UnknownName : Gx.ES K mg "UnknownName" "UnknownName.__init__" i_UnknownName Gx.tlL "LookupError.__new__"
  f_UnknownName_value : PySem.W.findIn K (.ref (Gx.cl mg "UnknownName")) "value" = some none
  es_UnknownTransaction : Gx.ES K mg "UnknownTransaction" "UnknownTransaction.__init__" i_UnknownTransaction Gx.tlL "LookupError.__new__"
  f_UnknownTransaction_value : PySem.W.findIn K (.ref (Gx.cl mg "UnknownTransaction")) "value" = some none
  es_NameTaken : Gx.ES K mg "NameTaken" "NameTaken.__init__" i_NameTaken Gx.tlR "RuntimeError.__new__"
  f_NameTaken_name : PySem.W.findIn K (.ref (Gx.cl mg "NameTaken")) "name" = some none
  es_KeyTaken : Gx.ES K mg "KeyTaken" "KeyTaken.__init__" i_KeyTaken Gx.tlR "RuntimeError.__new__"
  f_KeyTaken_table : PySem.W.findIn K (.ref (Gx.cl mg "KeyTaken")) "table" = some none
  f_KeyTaken_key : PySem.W.findIn K (.ref (Gx.cl mg "KeyTaken")) "key" = some none
  es_NoSuchRow : Gx.ES K mg "NoSuchRow" "NoSuchRow.__init__" i_NoSuchRow Gx.tlR "RuntimeError.__new__"
  f_NoSuchRow_table : PySem.W.findIn K (.ref (Gx.cl mg "NoSuchRow")) "table" = some none
  f_NoSuchRow_key : PySem.W.findIn K (.ref (Gx.cl mg "NoSuchRow")) "key" = some none
  es_NotClear : Gx.ES K mg "NotClear" "NotClear.__init__" i_NotClear Gx.tlR "RuntimeError.__new__"
  f_NotClear_key : PySem.W.findIn K (.ref (Gx.cl mg "NotClear")) "key" = some none
  en_Unlike : Gx.EN K mg "Unlike"
  ec_Unlike : Gx.EC K (Gx.cl mg "Unlike") Gx.tlR "RuntimeError.__new__"
  es_NoHalf : Gx.ES K mg "NoHalf" "NoHalf.__init__" i_NoHalf Gx.tlR "RuntimeError.__new__"
  f_NoHalf_place : PySem.W.findIn K (.ref (Gx.cl mg "NoHalf")) "place" = some none
  es_NotJoined : Gx.ES K mg "NotJoined" "NotJoined.__init__" i_NotJoined Gx.tlR "RuntimeError.__new__"
  f_NotJoined_place : PySem.W.findIn K (.ref (Gx.cl mg "NotJoined")) "place" = some none
  en_NotAPoint : Gx.EN K mg "NotAPoint"
  ec_NotAPoint : Gx.EC K (Gx.cl mg "NotAPoint") Gx.tlR "RuntimeError.__new__"
  es_WrongColumns : Gx.ES K mg "WrongColumns" "WrongColumns.__init__" i_WrongColumns Gx.tlR "RuntimeError.__new__"
  f_WrongColumns_position : PySem.W.findIn K (.ref (Gx.cl mg "WrongColumns")) "position" = some none
  es_Holds : Gx.ES K mg "Holds" "Holds.__init__" i_Holds Gx.tlR "RuntimeError.__new__"
  f_Holds_position : PySem.W.findIn K (.ref (Gx.cl mg "Holds")) "position" = some none
  es_WrongLine : Gx.ES K mg "WrongLine" "WrongLine.__init__" i_WrongLine Gx.tlR "RuntimeError.__new__"
  f_WrongLine_line : PySem.W.findIn K (.ref (Gx.cl mg "WrongLine")) "line" = some none
  es_NotAnswer : Gx.ES K mg "NotAnswer" "NotAnswer.__init__" i_NotAnswer Gx.tlR "RuntimeError.__new__"
  f_NotAnswer_point : PySem.W.findIn K (.ref (Gx.cl mg "NotAnswer")) "point" = some none
  es_IsAnswer : Gx.ES K mg "IsAnswer" "IsAnswer.__init__" i_IsAnswer Gx.tlR "RuntimeError.__new__"
  f_IsAnswer_point : PySem.W.findIn K (.ref (Gx.cl mg "IsAnswer")) "point" = some none
  es_NotEmpty : Gx.ES K mg "NotEmpty" "NotEmpty.__init__" i_NotEmpty Gx.tlR "RuntimeError.__new__"
  f_NotEmpty_point : PySem.W.findIn K (.ref (Gx.cl mg "NotEmpty")) "point" = some none
  en_Ended : Gx.EN K mg "Ended"
  ec_Ended : Gx.EC K (Gx.cl mg "Ended") Gx.tlR "RuntimeError.__new__"
  es_Changed : Gx.ES K mg "Changed" "Changed.__init__" i_Changed Gx.tlR "RuntimeError.__new__"
  f_Changed_act : PySem.W.findIn K (.ref (Gx.cl mg "Changed")) "act" = some none
  f_Changed_item : PySem.W.findIn K (.ref (Gx.cl mg "Changed")) "item" = some none
  es_Violated : Gx.ES K mg "Violated" "Violated.__init__" i_Violated Gx.tlR "RuntimeError.__new__"
  f_Violated_name : PySem.W.findIn K (.ref (Gx.cl mg "Violated")) "name" = some none
  f_Violated_point : PySem.W.findIn K (.ref (Gx.cl mg "Violated")) "point" = some none
  es_Held : Gx.ES K mg "Held" "Held.__init__" i_Held Gx.tlR "RuntimeError.__new__"
  f_Held_earliest : PySem.W.findIn K (.ref (Gx.cl mg "Held")) "earliest" = some none
  en_Crashed : Gx.EN K mg "Crashed"
  ec_Crashed : Gx.EC K (Gx.cl mg "Crashed") Gx.tlR "RuntimeError.__new__"
  en_DiskInUse : Gx.EN K mg "DiskInUse"
  ec_DiskInUse : Gx.EC K (Gx.cl mg "DiskInUse") Gx.tlR "RuntimeError.__new__"
  en_NoStore : Gx.EN K mg "NoStore"
  ec_NoStore : Gx.EC K (Gx.cl mg "NoStore") Gx.tlR "RuntimeError.__new__"
  es_Needs : Gx.ES K mg "Needs" "Needs.__init__" i_Needs Gx.tlR "RuntimeError.__new__"
  f_Needs_request : PySem.W.findIn K (.ref (Gx.cl mg "Needs")) "request" = some none
  es_TooMany : Gx.ES K mg "TooMany" "TooMany.__init__" i_TooMany Gx.tlA "ArithmeticError.__new__"
  f_TooMany_kind : PySem.W.findIn K (.ref (Gx.cl mg "TooMany")) "kind" = some none
  f_TooMany_limit : PySem.W.findIn K (.ref (Gx.cl mg "TooMany")) "limit" = some none
  es_TooLarge : Gx.ES K mg "TooLarge" "TooLarge.__init__" i_TooLarge Gx.tlA "ArithmeticError.__new__"
  f_TooLarge_count : PySem.W.findIn K (.ref (Gx.cl mg "TooLarge")) "count" = some none
  tabs : Tabs K mg
theorem kn_CoverError {K : PySem.W.Frag} {mg : Str → Option Value} (T : Mo K mg) : Gx.KnownAt mg "CoverError" (.ref (Gx.cl mg "CoverError")) := let ⟨_, _, _, _, m, _⟩ := T.en_CoverError.ex; ⟨_, m, rfl⟩
theorem kn_InvalidBits {K : PySem.W.Frag} {mg : Str → Option Value} (T : Mo K mg) : Gx.KnownAt mg "InvalidBits" (.ref (Gx.cl mg "InvalidBits")) := ⟨_, T.es_InvalidBits.m, rfl⟩
theorem m_InvalidBits {P : Program} {w : World} {K : PySem.W.Frag} {mg : Str → Option Value} {base : Heap} (T : Mo K mg) : Gx.EM P w K mg base "InvalidBits" ["value"] :=
  T.es_InvalidBits.em1 Gx.ebV ⟨rfl, rfl, rfl, by decide +kernel, rfl, by decide +kernel, by decide +kernel⟩ T.f_InvalidBits_value (fun _ _ _ _ _ _ _ => pss_one (Gx.ps_osb Gx.ebV T.es_InvalidBits.T (pv 0) (pv 1)))
    (fun _ _ _ _ _ _ us hl => match us, hl with | [_, _], _ => rfl) (fun _ _ _ _ _ _ _ ws hl => match ws, hl with | [_], _ => rfl)
theorem kn_InvalidValue {K : PySem.W.Frag} {mg : Str → Option Value} (T : Mo K mg) : Gx.KnownAt mg "InvalidValue" (.ref (Gx.cl mg "InvalidValue")) := ⟨_, T.es_InvalidValue.m, rfl⟩
theorem m_InvalidValue {P : Program} {w : World} {K : PySem.W.Frag} {mg : Str → Option Value} {base : Heap} (T : Mo K mg) : Gx.EM P w K mg base "InvalidValue" ["value"] :=
  T.es_InvalidValue.em1 Gx.ebV ⟨rfl, rfl, rfl, by decide +kernel, rfl, by decide +kernel, by decide +kernel⟩ T.f_InvalidValue_value (fun _ _ _ _ _ _ _ => pss_one (Gx.ps_osb Gx.ebV T.es_InvalidValue.T (pv 0) (pv 1)))
    (fun _ _ _ _ _ _ us hl => match us, hl with | [_, _], _ => rfl) (fun _ _ _ _ _ _ _ ws hl => match ws, hl with | [_], _ => rfl)
theorem kn_InvalidRange {K : PySem.W.Frag} {mg : Str → Option Value} (T : Mo K mg) : Gx.KnownAt mg "InvalidRange" (.ref (Gx.cl mg "InvalidRange")) := ⟨_, T.es_InvalidRange.m, rfl⟩
theorem m_InvalidRange {P : Program} {w : World} {K : PySem.W.Frag} {mg : Str → Option Value} {base : Heap} (T : Mo K mg) : Gx.EM P w K mg base "InvalidRange" ["value"] :=
  T.es_InvalidRange.em1 Gx.ebV ⟨rfl, rfl, rfl, by decide +kernel, rfl, by decide +kernel, by decide +kernel⟩ T.f_InvalidRange_value (fun _ _ _ _ _ _ _ => pss_one (Gx.ps_osb Gx.ebV T.es_InvalidRange.T (pv 0) (pv 1)))
    (fun _ _ _ _ _ _ us hl => match us, hl with | [_, _], _ => rfl) (fun _ _ _ _ _ _ _ ws hl => match ws, hl with | [_], _ => rfl)
theorem kn_InvalidBox {K : PySem.W.Frag} {mg : Str → Option Value} (T : Mo K mg) : Gx.KnownAt mg "InvalidBox" (.ref (Gx.cl mg "InvalidBox")) := ⟨_, T.es_InvalidBox.m, rfl⟩
theorem m_InvalidBox {P : Program} {w : World} {K : PySem.W.Frag} {mg : Str → Option Value} {base : Heap} (T : Mo K mg) : Gx.EM P w K mg base "InvalidBox" ["position"] :=
  T.es_InvalidBox.em1 Gx.ebV ⟨rfl, rfl, rfl, by decide +kernel, rfl, by decide +kernel, by decide +kernel⟩ T.f_InvalidBox_position (fun _ _ _ _ _ _ _ => pss_one (Gx.ps_osb Gx.ebV T.es_InvalidBox.T (pv 0) (pv 1)))
    (fun _ _ _ _ _ _ us hl => match us, hl with | [_, _], _ => rfl) (fun _ _ _ _ _ _ _ ws hl => match ws, hl with | [_], _ => rfl)
theorem kn_InvalidPlace {K : PySem.W.Frag} {mg : Str → Option Value} (T : Mo K mg) : Gx.KnownAt mg "InvalidPlace" (.ref (Gx.cl mg "InvalidPlace")) := ⟨_, T.es_InvalidPlace.m, rfl⟩
theorem m_InvalidPlace {P : Program} {w : World} {K : PySem.W.Frag} {mg : Str → Option Value} {base : Heap} (T : Mo K mg) : Gx.EM P w K mg base "InvalidPlace" ["value"] :=
  T.es_InvalidPlace.em1 Gx.ebV ⟨rfl, rfl, rfl, by decide +kernel, rfl, by decide +kernel, by decide +kernel⟩ T.f_InvalidPlace_value (fun _ _ _ _ _ _ _ => pss_one (Gx.ps_osb Gx.ebV T.es_InvalidPlace.T (pv 0) (pv 1)))
    (fun _ _ _ _ _ _ us hl => match us, hl with | [_, _], _ => rfl) (fun _ _ _ _ _ _ _ ws hl => match ws, hl with | [_], _ => rfl)
theorem kn_InvalidCount {K : PySem.W.Frag} {mg : Str → Option Value} (T : Mo K mg) : Gx.KnownAt mg "InvalidCount" (.ref (Gx.cl mg "InvalidCount")) := ⟨_, T.es_InvalidCount.m, rfl⟩
theorem m_InvalidCount {P : Program} {w : World} {K : PySem.W.Frag} {mg : Str → Option Value} {base : Heap} (T : Mo K mg) : Gx.EM P w K mg base "InvalidCount" ["value"] :=
  T.es_InvalidCount.em1 Gx.ebV ⟨rfl, rfl, rfl, by decide +kernel, rfl, by decide +kernel, by decide +kernel⟩ T.f_InvalidCount_value (fun _ _ _ _ _ _ _ => pss_one (Gx.ps_osb Gx.ebV T.es_InvalidCount.T (pv 0) (pv 1)))
    (fun _ _ _ _ _ _ us hl => match us, hl with | [_, _], _ => rfl) (fun _ _ _ _ _ _ _ ws hl => match ws, hl with | [_], _ => rfl)
theorem kn_InvalidName {K : PySem.W.Frag} {mg : Str → Option Value} (T : Mo K mg) : Gx.KnownAt mg "InvalidName" (.ref (Gx.cl mg "InvalidName")) := ⟨_, T.es_InvalidName.m, rfl⟩
theorem m_InvalidName {P : Program} {w : World} {K : PySem.W.Frag} {mg : Str → Option Value} {base : Heap} (T : Mo K mg) : Gx.EM P w K mg base "InvalidName" ["value"] :=
  T.es_InvalidName.em1 Gx.ebV ⟨rfl, rfl, rfl, by decide +kernel, rfl, by decide +kernel, by decide +kernel⟩ T.f_InvalidName_value (fun _ _ _ _ _ _ _ => pss_one (Gx.ps_osb Gx.ebV T.es_InvalidName.T (pv 0) (pv 1)))
    (fun _ _ _ _ _ _ us hl => match us, hl with | [_, _], _ => rfl) (fun _ _ _ _ _ _ _ ws hl => match ws, hl with | [_], _ => rfl)
theorem kn_InvalidColumns {K : PySem.W.Frag} {mg : Str → Option Value} (T : Mo K mg) : Gx.KnownAt mg "InvalidColumns" (.ref (Gx.cl mg "InvalidColumns")) := ⟨_, T.es_InvalidColumns.m, rfl⟩
theorem m_InvalidColumns {P : Program} {w : World} {K : PySem.W.Frag} {mg : Str → Option Value} {base : Heap} (T : Mo K mg) : Gx.EM P w K mg base "InvalidColumns" ["value"] :=
  T.es_InvalidColumns.em1 Gx.ebV ⟨rfl, rfl, rfl, by decide +kernel, rfl, by decide +kernel, by decide +kernel⟩ T.f_InvalidColumns_value (fun _ _ _ _ _ _ _ => pss_one (Gx.ps_osb Gx.ebV T.es_InvalidColumns.T (pv 0) (pv 1)))
    (fun _ _ _ _ _ _ us hl => match us, hl with | [_, _], _ => rfl) (fun _ _ _ _ _ _ _ ws hl => match ws, hl with | [_], _ => rfl)
theorem kn_InvalidOrder {K : PySem.W.Frag} {mg : Str → Option Value} (T : Mo K mg) : Gx.KnownAt mg "InvalidOrder" (.ref (Gx.cl mg "InvalidOrder")) := ⟨_, T.es_InvalidOrder.m, rfl⟩
theorem m_InvalidOrder {P : Program} {w : World} {K : PySem.W.Frag} {mg : Str → Option Value} {base : Heap} (T : Mo K mg) : Gx.EM P w K mg base "InvalidOrder" ["position"] :=
  T.es_InvalidOrder.em1 Gx.ebV ⟨rfl, rfl, rfl, by decide +kernel, rfl, by decide +kernel, by decide +kernel⟩ T.f_InvalidOrder_position (fun _ _ _ _ _ _ _ => pss_one (Gx.ps_osb Gx.ebV T.es_InvalidOrder.T (pv 0) (pv 1)))
    (fun _ _ _ _ _ _ us hl => match us, hl with | [_, _], _ => rfl) (fun _ _ _ _ _ _ _ ws hl => match ws, hl with | [_], _ => rfl)
theorem kn_InvalidKey {K : PySem.W.Frag} {mg : Str → Option Value} (T : Mo K mg) : Gx.KnownAt mg "InvalidKey" (.ref (Gx.cl mg "InvalidKey")) := ⟨_, T.es_InvalidKey.m, rfl⟩
theorem m_InvalidKey {P : Program} {w : World} {K : PySem.W.Frag} {mg : Str → Option Value} {base : Heap} (T : Mo K mg) : Gx.EM P w K mg base "InvalidKey" ["value"] :=
  T.es_InvalidKey.em1 Gx.ebV ⟨rfl, rfl, rfl, by decide +kernel, rfl, by decide +kernel, by decide +kernel⟩ T.f_InvalidKey_value (fun _ _ _ _ _ _ _ => pss_one (Gx.ps_osb Gx.ebV T.es_InvalidKey.T (pv 0) (pv 1)))
    (fun _ _ _ _ _ _ us hl => match us, hl with | [_, _], _ => rfl) (fun _ _ _ _ _ _ _ ws hl => match ws, hl with | [_], _ => rfl)
theorem kn_InvalidPayload {K : PySem.W.Frag} {mg : Str → Option Value} (T : Mo K mg) : Gx.KnownAt mg "InvalidPayload" (.ref (Gx.cl mg "InvalidPayload")) := ⟨_, T.es_InvalidPayload.m, rfl⟩
theorem m_InvalidPayload {P : Program} {w : World} {K : PySem.W.Frag} {mg : Str → Option Value} {base : Heap} (T : Mo K mg) : Gx.EM P w K mg base "InvalidPayload" ["value"] :=
  T.es_InvalidPayload.em1 Gx.ebV ⟨rfl, rfl, rfl, by decide +kernel, rfl, by decide +kernel, by decide +kernel⟩ T.f_InvalidPayload_value (fun _ _ _ _ _ _ _ => pss_one (Gx.ps_osb Gx.ebV T.es_InvalidPayload.T (pv 0) (pv 1)))
    (fun _ _ _ _ _ _ us hl => match us, hl with | [_, _], _ => rfl) (fun _ _ _ _ _ _ _ ws hl => match ws, hl with | [_], _ => rfl)
theorem kn_InvalidWrite {K : PySem.W.Frag} {mg : Str → Option Value} (T : Mo K mg) : Gx.KnownAt mg "InvalidWrite" (.ref (Gx.cl mg "InvalidWrite")) := ⟨_, T.es_InvalidWrite.m, rfl⟩
theorem m_InvalidWrite {P : Program} {w : World} {K : PySem.W.Frag} {mg : Str → Option Value} {base : Heap} (T : Mo K mg) : Gx.EM P w K mg base "InvalidWrite" ["position"] :=
  T.es_InvalidWrite.em1 Gx.ebV ⟨rfl, rfl, rfl, by decide +kernel, rfl, by decide +kernel, by decide +kernel⟩ T.f_InvalidWrite_position (fun _ _ _ _ _ _ _ => pss_one (Gx.ps_osb Gx.ebV T.es_InvalidWrite.T (pv 0) (pv 1)))
    (fun _ _ _ _ _ _ us hl => match us, hl with | [_, _], _ => rfl) (fun _ _ _ _ _ _ _ ws hl => match ws, hl with | [_], _ => rfl)
theorem kn_InvalidQuery {K : PySem.W.Frag} {mg : Str → Option Value} (T : Mo K mg) : Gx.KnownAt mg "InvalidQuery" (.ref (Gx.cl mg "InvalidQuery")) := ⟨_, T.es_InvalidQuery.m, rfl⟩
theorem m_InvalidQuery {P : Program} {w : World} {K : PySem.W.Frag} {mg : Str → Option Value} {base : Heap} (T : Mo K mg) : Gx.EM P w K mg base "InvalidQuery" ["problem", "position"] :=
  T.es_InvalidQuery.em2 Gx.ebV ⟨rfl, rfl, rfl, by decide +kernel, rfl, by decide +kernel, by decide +kernel⟩ T.f_InvalidQuery_problem T.f_InvalidQuery_position (fun _ _ _ _ _ _ _ => pss_cons (Gx.ps_osb Gx.ebV T.es_InvalidQuery.T (pv 0) (pv 1)) (pss_one (Gx.ps_osb Gx.ebV T.es_InvalidQuery.T (pv 0) (pv 2))))
    (fun _ _ _ _ _ _ us hl => match us, hl with | [_, _, _], _ => rfl) (fun _ _ _ _ _ _ _ ws hl => match ws, hl with | [_, _], _ => rfl)
theorem kn_InvalidText {K : PySem.W.Frag} {mg : Str → Option Value} (T : Mo K mg) : Gx.KnownAt mg "InvalidText" (.ref (Gx.cl mg "InvalidText")) := ⟨_, T.es_InvalidText.m, rfl⟩
theorem m_InvalidText {P : Program} {w : World} {K : PySem.W.Frag} {mg : Str → Option Value} {base : Heap} (T : Mo K mg) : Gx.EM P w K mg base "InvalidText" ["value"] :=
  T.es_InvalidText.em1 Gx.ebV ⟨rfl, rfl, rfl, by decide +kernel, rfl, by decide +kernel, by decide +kernel⟩ T.f_InvalidText_value (fun _ _ _ _ _ _ _ => pss_one (Gx.ps_osb Gx.ebV T.es_InvalidText.T (pv 0) (pv 1)))
    (fun _ _ _ _ _ _ us hl => match us, hl with | [_, _], _ => rfl) (fun _ _ _ _ _ _ _ ws hl => match ws, hl with | [_], _ => rfl)
theorem kn_InvalidPoint {K : PySem.W.Frag} {mg : Str → Option Value} (T : Mo K mg) : Gx.KnownAt mg "InvalidPoint" (.ref (Gx.cl mg "InvalidPoint")) := ⟨_, T.es_InvalidPoint.m, rfl⟩
theorem m_InvalidPoint {P : Program} {w : World} {K : PySem.W.Frag} {mg : Str → Option Value} {base : Heap} (T : Mo K mg) : Gx.EM P w K mg base "InvalidPoint" ["value"] :=
  T.es_InvalidPoint.em1 Gx.ebV ⟨rfl, rfl, rfl, by decide +kernel, rfl, by decide +kernel, by decide +kernel⟩ T.f_InvalidPoint_value (fun _ _ _ _ _ _ _ => pss_one (Gx.ps_osb Gx.ebV T.es_InvalidPoint.T (pv 0) (pv 1)))
    (fun _ _ _ _ _ _ us hl => match us, hl with | [_, _], _ => rfl) (fun _ _ _ _ _ _ _ ws hl => match ws, hl with | [_], _ => rfl)
theorem kn_InvalidPaper {K : PySem.W.Frag} {mg : Str → Option Value} (T : Mo K mg) : Gx.KnownAt mg "InvalidPaper" (.ref (Gx.cl mg "InvalidPaper")) := ⟨_, T.es_InvalidPaper.m, rfl⟩
theorem m_InvalidPaper {P : Program} {w : World} {K : PySem.W.Frag} {mg : Str → Option Value} {base : Heap} (T : Mo K mg) : Gx.EM P w K mg base "InvalidPaper" ["position"] :=
  T.es_InvalidPaper.em1 Gx.ebV ⟨rfl, rfl, rfl, by decide +kernel, rfl, by decide +kernel, by decide +kernel⟩ T.f_InvalidPaper_position (fun _ _ _ _ _ _ _ => pss_one (Gx.ps_osb Gx.ebV T.es_InvalidPaper.T (pv 0) (pv 1)))
    (fun _ _ _ _ _ _ us hl => match us, hl with | [_, _], _ => rfl) (fun _ _ _ _ _ _ _ ws hl => match ws, hl with | [_], _ => rfl)
theorem kn_InvalidLimit {K : PySem.W.Frag} {mg : Str → Option Value} (T : Mo K mg) : Gx.KnownAt mg "InvalidLimit" (.ref (Gx.cl mg "InvalidLimit")) := ⟨_, T.es_InvalidLimit.m, rfl⟩
theorem m_InvalidLimit {P : Program} {w : World} {K : PySem.W.Frag} {mg : Str → Option Value} {base : Heap} (T : Mo K mg) : Gx.EM P w K mg base "InvalidLimit" ["value"] :=
  T.es_InvalidLimit.em1 Gx.ebV ⟨rfl, rfl, rfl, by decide +kernel, rfl, by decide +kernel, by decide +kernel⟩ T.f_InvalidLimit_value (fun _ _ _ _ _ _ _ => pss_one (Gx.ps_osb Gx.ebV T.es_InvalidLimit.T (pv 0) (pv 1)))
    (fun _ _ _ _ _ _ us hl => match us, hl with | [_, _], _ => rfl) (fun _ _ _ _ _ _ _ ws hl => match ws, hl with | [_], _ => rfl)
theorem kn_InvalidGroups {K : PySem.W.Frag} {mg : Str → Option Value} (T : Mo K mg) : Gx.KnownAt mg "InvalidGroups" (.ref (Gx.cl mg "InvalidGroups")) := ⟨_, T.es_InvalidGroups.m, rfl⟩
theorem m_InvalidGroups {P : Program} {w : World} {K : PySem.W.Frag} {mg : Str → Option Value} {base : Heap} (T : Mo K mg) : Gx.EM P w K mg base "InvalidGroups" ["problem"] :=
  T.es_InvalidGroups.em1 Gx.ebV ⟨rfl, rfl, rfl, by decide +kernel, rfl, by decide +kernel, by decide +kernel⟩ T.f_InvalidGroups_problem (fun _ _ _ _ _ _ _ => pss_one (Gx.ps_osb Gx.ebV T.es_InvalidGroups.T (pv 0) (pv 1)))
    (fun _ _ _ _ _ _ us hl => match us, hl with | [_, _], _ => rfl) (fun _ _ _ _ _ _ _ ws hl => match ws, hl with | [_], _ => rfl)
theorem kn_InvalidPage {K : PySem.W.Frag} {mg : Str → Option Value} (T : Mo K mg) : Gx.KnownAt mg "InvalidPage" (.ref (Gx.cl mg "InvalidPage")) := ⟨_, T.es_InvalidPage.m, rfl⟩
theorem m_InvalidPage {P : Program} {w : World} {K : PySem.W.Frag} {mg : Str → Option Value} {base : Heap} (T : Mo K mg) : Gx.EM P w K mg base "InvalidPage" ["value"] :=
  T.es_InvalidPage.em1 Gx.ebV ⟨rfl, rfl, rfl, by decide +kernel, rfl, by decide +kernel, by decide +kernel⟩ T.f_InvalidPage_value (fun _ _ _ _ _ _ _ => pss_one (Gx.ps_osb Gx.ebV T.es_InvalidPage.T (pv 0) (pv 1)))
    (fun _ _ _ _ _ _ us hl => match us, hl with | [_, _], _ => rfl) (fun _ _ _ _ _ _ _ ws hl => match ws, hl with | [_], _ => rfl)
theorem kn_InvalidMessage {K : PySem.W.Frag} {mg : Str → Option Value} (T : Mo K mg) : Gx.KnownAt mg "InvalidMessage" (.ref (Gx.cl mg "InvalidMessage")) := ⟨_, T.es_InvalidMessage.m, rfl⟩
theorem m_InvalidMessage {P : Program} {w : World} {K : PySem.W.Frag} {mg : Str → Option Value} {base : Heap} (T : Mo K mg) : Gx.EM P w K mg base "InvalidMessage" ["value"] :=
  T.es_InvalidMessage.em1 Gx.ebV ⟨rfl, rfl, rfl, by decide +kernel, rfl, by decide +kernel, by decide +kernel⟩ T.f_InvalidMessage_value (fun _ _ _ _ _ _ _ => pss_one (Gx.ps_osb Gx.ebV T.es_InvalidMessage.T (pv 0) (pv 1)))
    (fun _ _ _ _ _ _ us hl => match us, hl with | [_, _], _ => rfl) (fun _ _ _ _ _ _ _ ws hl => match ws, hl with | [_], _ => rfl)
theorem kn_InvalidCommand {K : PySem.W.Frag} {mg : Str → Option Value} (T : Mo K mg) : Gx.KnownAt mg "InvalidCommand" (.ref (Gx.cl mg "InvalidCommand")) := ⟨_, T.es_InvalidCommand.m, rfl⟩
theorem m_InvalidCommand {P : Program} {w : World} {K : PySem.W.Frag} {mg : Str → Option Value} {base : Heap} (T : Mo K mg) : Gx.EM P w K mg base "InvalidCommand" ["value"] :=
  T.es_InvalidCommand.em1 Gx.ebV ⟨rfl, rfl, rfl, by decide +kernel, rfl, by decide +kernel, by decide +kernel⟩ T.f_InvalidCommand_value (fun _ _ _ _ _ _ _ => pss_one (Gx.ps_osb Gx.ebV T.es_InvalidCommand.T (pv 0) (pv 1)))
    (fun _ _ _ _ _ _ us hl => match us, hl with | [_, _], _ => rfl) (fun _ _ _ _ _ _ _ ws hl => match ws, hl with | [_], _ => rfl)
theorem kn_UnknownTable {K : PySem.W.Frag} {mg : Str → Option Value} (T : Mo K mg) : Gx.KnownAt mg "UnknownTable" (.ref (Gx.cl mg "UnknownTable")) := ⟨_, T.es_UnknownTable.m, rfl⟩
theorem m_UnknownTable {P : Program} {w : World} {K : PySem.W.Frag} {mg : Str → Option Value} {base : Heap} (T : Mo K mg) : Gx.EM P w K mg base "UnknownTable" ["value"] :=
  T.es_UnknownTable.em1 Gx.ebL ⟨rfl, rfl, rfl, by decide +kernel, rfl, by decide +kernel, by decide +kernel⟩ T.f_UnknownTable_value (fun _ _ _ _ _ _ _ => pss_one (Gx.ps_osb Gx.ebL T.es_UnknownTable.T (pv 0) (pv 1)))
    (fun _ _ _ _ _ _ us hl => match us, hl with | [_, _], _ => rfl) (fun _ _ _ _ _ _ _ ws hl => match ws, hl with | [_], _ => rfl)
theorem kn_UnknownVersion {K : PySem.W.Frag} {mg : Str → Option Value} (T : Mo K mg) : Gx.KnownAt mg "UnknownVersion" (.ref (Gx.cl mg "UnknownVersion")) := ⟨_, T.es_UnknownVersion.m, rfl⟩
theorem m_UnknownVersion {P : Program} {w : World} {K : PySem.W.Frag} {mg : Str → Option Value} {base : Heap} (T : Mo K mg) : Gx.EM P w K mg base "UnknownVersion" ["value"] :=
  T.es_UnknownVersion.em1 Gx.ebL ⟨rfl, rfl, rfl, by decide +kernel, rfl, by decide +kernel, by decide +kernel⟩ T.f_UnknownVersion_value (fun _ _ _ _ _ _ _ => pss_one (Gx.ps_osb Gx.ebL T.es_UnknownVersion.T (pv 0) (pv 1)))
    (fun _ _ _ _ _ _ us hl => match us, hl with | [_, _], _ => rfl) (fun _ _ _ _ _ _ _ ws hl => match ws, hl with | [_], _ => rfl)
theorem kn_TooOld {K : PySem.W.Frag} {mg : Str → Option Value} (T : Mo K mg) : Gx.KnownAt mg "TooOld" (.ref (Gx.cl mg "TooOld")) := ⟨_, T.es_TooOld.m, rfl⟩
theorem m_TooOld {P : Program} {w : World} {K : PySem.W.Frag} {mg : Str → Option Value} {base : Heap} (T : Mo K mg) : Gx.EM P w K mg base "TooOld" ["least"] :=
  T.es_TooOld.em1 Gx.ebL ⟨rfl, rfl, rfl, by decide +kernel, rfl, by decide +kernel, by decide +kernel⟩ T.f_TooOld_least (fun _ _ _ _ _ _ _ => pss_one (Gx.ps_osb Gx.ebL T.es_TooOld.T (pv 0) (pv 1)))
    (fun _ _ _ _ _ _ us hl => match us, hl with | [_, _], _ => rfl) (fun _ _ _ _ _ _ _ ws hl => match ws, hl with | [_], _ => rfl)
theorem kn_UnknownName {K : PySem.W.Frag} {mg : Str → Option Value} (T : Mo K mg) : Gx.KnownAt mg "UnknownName" (.ref (Gx.cl mg "UnknownName")) := ⟨_, T.es_UnknownName.m, rfl⟩
theorem m_UnknownName {P : Program} {w : World} {K : PySem.W.Frag} {mg : Str → Option Value} {base : Heap} (T : Mo K mg) : Gx.EM P w K mg base "UnknownName" ["value"] :=
  T.es_UnknownName.em1 Gx.ebL ⟨rfl, rfl, rfl, by decide +kernel, rfl, by decide +kernel, by decide +kernel⟩ T.f_UnknownName_value (fun _ _ _ _ _ _ _ => pss_one (Gx.ps_osb Gx.ebL T.es_UnknownName.T (pv 0) (pv 1)))
    (fun _ _ _ _ _ _ us hl => match us, hl with | [_, _], _ => rfl) (fun _ _ _ _ _ _ _ ws hl => match ws, hl with | [_], _ => rfl)
theorem kn_UnknownTransaction {K : PySem.W.Frag} {mg : Str → Option Value} (T : Mo K mg) : Gx.KnownAt mg "UnknownTransaction" (.ref (Gx.cl mg "UnknownTransaction")) := ⟨_, T.es_UnknownTransaction.m, rfl⟩
theorem m_UnknownTransaction {P : Program} {w : World} {K : PySem.W.Frag} {mg : Str → Option Value} {base : Heap} (T : Mo K mg) : Gx.EM P w K mg base "UnknownTransaction" ["value"] :=
  T.es_UnknownTransaction.em1 Gx.ebL ⟨rfl, rfl, rfl, by decide +kernel, rfl, by decide +kernel, by decide +kernel⟩ T.f_UnknownTransaction_value (fun _ _ _ _ _ _ _ => pss_one (Gx.ps_osb Gx.ebL T.es_UnknownTransaction.T (pv 0) (pv 1)))
    (fun _ _ _ _ _ _ us hl => match us, hl with | [_, _], _ => rfl) (fun _ _ _ _ _ _ _ ws hl => match ws, hl with | [_], _ => rfl)
theorem kn_NameTaken {K : PySem.W.Frag} {mg : Str → Option Value} (T : Mo K mg) : Gx.KnownAt mg "NameTaken" (.ref (Gx.cl mg "NameTaken")) := ⟨_, T.es_NameTaken.m, rfl⟩
theorem m_NameTaken {P : Program} {w : World} {K : PySem.W.Frag} {mg : Str → Option Value} {base : Heap} (T : Mo K mg) : Gx.EM P w K mg base "NameTaken" ["name"] :=
  T.es_NameTaken.em1 Gx.ebR ⟨rfl, rfl, rfl, by decide +kernel, rfl, by decide +kernel, by decide +kernel⟩ T.f_NameTaken_name (fun _ _ _ _ _ _ _ => pss_one (Gx.ps_osb Gx.ebR T.es_NameTaken.T (pv 0) (pv 1)))
    (fun _ _ _ _ _ _ us hl => match us, hl with | [_, _], _ => rfl) (fun _ _ _ _ _ _ _ ws hl => match ws, hl with | [_], _ => rfl)
theorem kn_KeyTaken {K : PySem.W.Frag} {mg : Str → Option Value} (T : Mo K mg) : Gx.KnownAt mg "KeyTaken" (.ref (Gx.cl mg "KeyTaken")) := ⟨_, T.es_KeyTaken.m, rfl⟩
theorem m_KeyTaken {P : Program} {w : World} {K : PySem.W.Frag} {mg : Str → Option Value} {base : Heap} (T : Mo K mg) : Gx.EM P w K mg base "KeyTaken" ["table", "key"] :=
  T.es_KeyTaken.em2 Gx.ebR ⟨rfl, rfl, rfl, by decide +kernel, rfl, by decide +kernel, by decide +kernel⟩ T.f_KeyTaken_table T.f_KeyTaken_key (fun _ _ _ _ _ _ _ => pss_cons (Gx.ps_osb Gx.ebR T.es_KeyTaken.T (pv 0) (pv 1)) (pss_one (Gx.ps_osb Gx.ebR T.es_KeyTaken.T (pv 0) (pv 2))))
    (fun _ _ _ _ _ _ us hl => match us, hl with | [_, _, _], _ => rfl) (fun _ _ _ _ _ _ _ ws hl => match ws, hl with | [_, _], _ => rfl)
theorem kn_NoSuchRow {K : PySem.W.Frag} {mg : Str → Option Value} (T : Mo K mg) : Gx.KnownAt mg "NoSuchRow" (.ref (Gx.cl mg "NoSuchRow")) := ⟨_, T.es_NoSuchRow.m, rfl⟩
theorem m_NoSuchRow {P : Program} {w : World} {K : PySem.W.Frag} {mg : Str → Option Value} {base : Heap} (T : Mo K mg) : Gx.EM P w K mg base "NoSuchRow" ["table", "key"] :=
  T.es_NoSuchRow.em2 Gx.ebR ⟨rfl, rfl, rfl, by decide +kernel, rfl, by decide +kernel, by decide +kernel⟩ T.f_NoSuchRow_table T.f_NoSuchRow_key (fun _ _ _ _ _ _ _ => pss_cons (Gx.ps_osb Gx.ebR T.es_NoSuchRow.T (pv 0) (pv 1)) (pss_one (Gx.ps_osb Gx.ebR T.es_NoSuchRow.T (pv 0) (pv 2))))
    (fun _ _ _ _ _ _ us hl => match us, hl with | [_, _, _], _ => rfl) (fun _ _ _ _ _ _ _ ws hl => match ws, hl with | [_, _], _ => rfl)
theorem kn_NotClear {K : PySem.W.Frag} {mg : Str → Option Value} (T : Mo K mg) : Gx.KnownAt mg "NotClear" (.ref (Gx.cl mg "NotClear")) := ⟨_, T.es_NotClear.m, rfl⟩
theorem m_NotClear {P : Program} {w : World} {K : PySem.W.Frag} {mg : Str → Option Value} {base : Heap} (T : Mo K mg) : Gx.EM P w K mg base "NotClear" ["key"] :=
  T.es_NotClear.em1 Gx.ebR ⟨rfl, rfl, rfl, by decide +kernel, rfl, by decide +kernel, by decide +kernel⟩ T.f_NotClear_key (fun _ _ _ _ _ _ _ => pss_one (Gx.ps_osb Gx.ebR T.es_NotClear.T (pv 0) (pv 1)))
    (fun _ _ _ _ _ _ us hl => match us, hl with | [_, _], _ => rfl) (fun _ _ _ _ _ _ _ ws hl => match ws, hl with | [_], _ => rfl)
theorem kn_Unlike {K : PySem.W.Frag} {mg : Str → Option Value} (T : Mo K mg) : Gx.KnownAt mg "Unlike" (.ref (Gx.cl mg "Unlike")) := let ⟨_, _, _, _, m, _⟩ := T.en_Unlike.ex; ⟨_, m, rfl⟩
theorem kn_NoHalf {K : PySem.W.Frag} {mg : Str → Option Value} (T : Mo K mg) : Gx.KnownAt mg "NoHalf" (.ref (Gx.cl mg "NoHalf")) := ⟨_, T.es_NoHalf.m, rfl⟩
theorem m_NoHalf {P : Program} {w : World} {K : PySem.W.Frag} {mg : Str → Option Value} {base : Heap} (T : Mo K mg) : Gx.EM P w K mg base "NoHalf" ["place"] :=
  T.es_NoHalf.em1 Gx.ebR ⟨rfl, rfl, rfl, by decide +kernel, rfl, by decide +kernel, by decide +kernel⟩ T.f_NoHalf_place (fun _ _ _ _ _ _ _ => pss_one (Gx.ps_osb Gx.ebR T.es_NoHalf.T (pv 0) (pv 1)))
    (fun _ _ _ _ _ _ us hl => match us, hl with | [_, _], _ => rfl) (fun _ _ _ _ _ _ _ ws hl => match ws, hl with | [_], _ => rfl)
theorem kn_NotJoined {K : PySem.W.Frag} {mg : Str → Option Value} (T : Mo K mg) : Gx.KnownAt mg "NotJoined" (.ref (Gx.cl mg "NotJoined")) := ⟨_, T.es_NotJoined.m, rfl⟩
theorem m_NotJoined {P : Program} {w : World} {K : PySem.W.Frag} {mg : Str → Option Value} {base : Heap} (T : Mo K mg) : Gx.EM P w K mg base "NotJoined" ["place"] :=
  T.es_NotJoined.em1 Gx.ebR ⟨rfl, rfl, rfl, by decide +kernel, rfl, by decide +kernel, by decide +kernel⟩ T.f_NotJoined_place (fun _ _ _ _ _ _ _ => pss_one (Gx.ps_osb Gx.ebR T.es_NotJoined.T (pv 0) (pv 1)))
    (fun _ _ _ _ _ _ us hl => match us, hl with | [_, _], _ => rfl) (fun _ _ _ _ _ _ _ ws hl => match ws, hl with | [_], _ => rfl)
theorem kn_NotAPoint {K : PySem.W.Frag} {mg : Str → Option Value} (T : Mo K mg) : Gx.KnownAt mg "NotAPoint" (.ref (Gx.cl mg "NotAPoint")) := let ⟨_, _, _, _, m, _⟩ := T.en_NotAPoint.ex; ⟨_, m, rfl⟩
theorem kn_WrongColumns {K : PySem.W.Frag} {mg : Str → Option Value} (T : Mo K mg) : Gx.KnownAt mg "WrongColumns" (.ref (Gx.cl mg "WrongColumns")) := ⟨_, T.es_WrongColumns.m, rfl⟩
theorem m_WrongColumns {P : Program} {w : World} {K : PySem.W.Frag} {mg : Str → Option Value} {base : Heap} (T : Mo K mg) : Gx.EM P w K mg base "WrongColumns" ["position"] :=
  T.es_WrongColumns.em1 Gx.ebR ⟨rfl, rfl, rfl, by decide +kernel, rfl, by decide +kernel, by decide +kernel⟩ T.f_WrongColumns_position (fun _ _ _ _ _ _ _ => pss_one (Gx.ps_osb Gx.ebR T.es_WrongColumns.T (pv 0) (pv 1)))
    (fun _ _ _ _ _ _ us hl => match us, hl with | [_, _], _ => rfl) (fun _ _ _ _ _ _ _ ws hl => match ws, hl with | [_], _ => rfl)
theorem kn_Holds {K : PySem.W.Frag} {mg : Str → Option Value} (T : Mo K mg) : Gx.KnownAt mg "Holds" (.ref (Gx.cl mg "Holds")) := ⟨_, T.es_Holds.m, rfl⟩
theorem m_Holds {P : Program} {w : World} {K : PySem.W.Frag} {mg : Str → Option Value} {base : Heap} (T : Mo K mg) : Gx.EM P w K mg base "Holds" ["position"] :=
  T.es_Holds.em1 Gx.ebR ⟨rfl, rfl, rfl, by decide +kernel, rfl, by decide +kernel, by decide +kernel⟩ T.f_Holds_position (fun _ _ _ _ _ _ _ => pss_one (Gx.ps_osb Gx.ebR T.es_Holds.T (pv 0) (pv 1)))
    (fun _ _ _ _ _ _ us hl => match us, hl with | [_, _], _ => rfl) (fun _ _ _ _ _ _ _ ws hl => match ws, hl with | [_], _ => rfl)
theorem kn_WrongLine {K : PySem.W.Frag} {mg : Str → Option Value} (T : Mo K mg) : Gx.KnownAt mg "WrongLine" (.ref (Gx.cl mg "WrongLine")) := ⟨_, T.es_WrongLine.m, rfl⟩
theorem m_WrongLine {P : Program} {w : World} {K : PySem.W.Frag} {mg : Str → Option Value} {base : Heap} (T : Mo K mg) : Gx.EM P w K mg base "WrongLine" ["line"] :=
  T.es_WrongLine.em1 Gx.ebR ⟨rfl, rfl, rfl, by decide +kernel, rfl, by decide +kernel, by decide +kernel⟩ T.f_WrongLine_line (fun _ _ _ _ _ _ _ => pss_one (Gx.ps_osb Gx.ebR T.es_WrongLine.T (pv 0) (pv 1)))
    (fun _ _ _ _ _ _ us hl => match us, hl with | [_, _], _ => rfl) (fun _ _ _ _ _ _ _ ws hl => match ws, hl with | [_], _ => rfl)
theorem kn_NotAnswer {K : PySem.W.Frag} {mg : Str → Option Value} (T : Mo K mg) : Gx.KnownAt mg "NotAnswer" (.ref (Gx.cl mg "NotAnswer")) := ⟨_, T.es_NotAnswer.m, rfl⟩
theorem m_NotAnswer {P : Program} {w : World} {K : PySem.W.Frag} {mg : Str → Option Value} {base : Heap} (T : Mo K mg) : Gx.EM P w K mg base "NotAnswer" ["point"] :=
  T.es_NotAnswer.em1 Gx.ebR ⟨rfl, rfl, rfl, by decide +kernel, rfl, by decide +kernel, by decide +kernel⟩ T.f_NotAnswer_point (fun _ _ _ _ _ _ _ => pss_one (Gx.ps_osb Gx.ebR T.es_NotAnswer.T (pv 0) (pv 1)))
    (fun _ _ _ _ _ _ us hl => match us, hl with | [_, _], _ => rfl) (fun _ _ _ _ _ _ _ ws hl => match ws, hl with | [_], _ => rfl)
theorem kn_IsAnswer {K : PySem.W.Frag} {mg : Str → Option Value} (T : Mo K mg) : Gx.KnownAt mg "IsAnswer" (.ref (Gx.cl mg "IsAnswer")) := ⟨_, T.es_IsAnswer.m, rfl⟩
theorem m_IsAnswer {P : Program} {w : World} {K : PySem.W.Frag} {mg : Str → Option Value} {base : Heap} (T : Mo K mg) : Gx.EM P w K mg base "IsAnswer" ["point"] :=
  T.es_IsAnswer.em1 Gx.ebR ⟨rfl, rfl, rfl, by decide +kernel, rfl, by decide +kernel, by decide +kernel⟩ T.f_IsAnswer_point (fun _ _ _ _ _ _ _ => pss_one (Gx.ps_osb Gx.ebR T.es_IsAnswer.T (pv 0) (pv 1)))
    (fun _ _ _ _ _ _ us hl => match us, hl with | [_, _], _ => rfl) (fun _ _ _ _ _ _ _ ws hl => match ws, hl with | [_], _ => rfl)
theorem kn_NotEmpty {K : PySem.W.Frag} {mg : Str → Option Value} (T : Mo K mg) : Gx.KnownAt mg "NotEmpty" (.ref (Gx.cl mg "NotEmpty")) := ⟨_, T.es_NotEmpty.m, rfl⟩
theorem m_NotEmpty {P : Program} {w : World} {K : PySem.W.Frag} {mg : Str → Option Value} {base : Heap} (T : Mo K mg) : Gx.EM P w K mg base "NotEmpty" ["point"] :=
  T.es_NotEmpty.em1 Gx.ebR ⟨rfl, rfl, rfl, by decide +kernel, rfl, by decide +kernel, by decide +kernel⟩ T.f_NotEmpty_point (fun _ _ _ _ _ _ _ => pss_one (Gx.ps_osb Gx.ebR T.es_NotEmpty.T (pv 0) (pv 1)))
    (fun _ _ _ _ _ _ us hl => match us, hl with | [_, _], _ => rfl) (fun _ _ _ _ _ _ _ ws hl => match ws, hl with | [_], _ => rfl)
theorem kn_Ended {K : PySem.W.Frag} {mg : Str → Option Value} (T : Mo K mg) : Gx.KnownAt mg "Ended" (.ref (Gx.cl mg "Ended")) := let ⟨_, _, _, _, m, _⟩ := T.en_Ended.ex; ⟨_, m, rfl⟩
theorem kn_Changed {K : PySem.W.Frag} {mg : Str → Option Value} (T : Mo K mg) : Gx.KnownAt mg "Changed" (.ref (Gx.cl mg "Changed")) := ⟨_, T.es_Changed.m, rfl⟩
theorem m_Changed {P : Program} {w : World} {K : PySem.W.Frag} {mg : Str → Option Value} {base : Heap} (T : Mo K mg) : Gx.EM P w K mg base "Changed" ["act", "item"] :=
  T.es_Changed.em2 Gx.ebR ⟨rfl, rfl, rfl, by decide +kernel, rfl, by decide +kernel, by decide +kernel⟩ T.f_Changed_act T.f_Changed_item (fun _ _ _ _ _ _ _ => pss_cons (Gx.ps_osb Gx.ebR T.es_Changed.T (pv 0) (pv 1)) (pss_one (Gx.ps_osb Gx.ebR T.es_Changed.T (pv 0) (pv 2))))
    (fun _ _ _ _ _ _ us hl => match us, hl with | [_, _, _], _ => rfl) (fun _ _ _ _ _ _ _ ws hl => match ws, hl with | [_, _], _ => rfl)
theorem kn_Violated {K : PySem.W.Frag} {mg : Str → Option Value} (T : Mo K mg) : Gx.KnownAt mg "Violated" (.ref (Gx.cl mg "Violated")) := ⟨_, T.es_Violated.m, rfl⟩
theorem m_Violated {P : Program} {w : World} {K : PySem.W.Frag} {mg : Str → Option Value} {base : Heap} (T : Mo K mg) : Gx.EM P w K mg base "Violated" ["name", "point"] :=
  T.es_Violated.em2 Gx.ebR ⟨rfl, rfl, rfl, by decide +kernel, rfl, by decide +kernel, by decide +kernel⟩ T.f_Violated_name T.f_Violated_point (fun _ _ _ _ _ _ _ => pss_cons (Gx.ps_osb Gx.ebR T.es_Violated.T (pv 0) (pv 1)) (pss_one (Gx.ps_osb Gx.ebR T.es_Violated.T (pv 0) (pv 2))))
    (fun _ _ _ _ _ _ us hl => match us, hl with | [_, _, _], _ => rfl) (fun _ _ _ _ _ _ _ ws hl => match ws, hl with | [_, _], _ => rfl)
theorem kn_Held {K : PySem.W.Frag} {mg : Str → Option Value} (T : Mo K mg) : Gx.KnownAt mg "Held" (.ref (Gx.cl mg "Held")) := ⟨_, T.es_Held.m, rfl⟩
theorem m_Held {P : Program} {w : World} {K : PySem.W.Frag} {mg : Str → Option Value} {base : Heap} (T : Mo K mg) : Gx.EM P w K mg base "Held" ["earliest"] :=
  T.es_Held.em1 Gx.ebR ⟨rfl, rfl, rfl, by decide +kernel, rfl, by decide +kernel, by decide +kernel⟩ T.f_Held_earliest (fun _ _ _ _ _ _ _ => pss_one (Gx.ps_osb Gx.ebR T.es_Held.T (pv 0) (pv 1)))
    (fun _ _ _ _ _ _ us hl => match us, hl with | [_, _], _ => rfl) (fun _ _ _ _ _ _ _ ws hl => match ws, hl with | [_], _ => rfl)
theorem kn_Crashed {K : PySem.W.Frag} {mg : Str → Option Value} (T : Mo K mg) : Gx.KnownAt mg "Crashed" (.ref (Gx.cl mg "Crashed")) := let ⟨_, _, _, _, m, _⟩ := T.en_Crashed.ex; ⟨_, m, rfl⟩
theorem kn_DiskInUse {K : PySem.W.Frag} {mg : Str → Option Value} (T : Mo K mg) : Gx.KnownAt mg "DiskInUse" (.ref (Gx.cl mg "DiskInUse")) := let ⟨_, _, _, _, m, _⟩ := T.en_DiskInUse.ex; ⟨_, m, rfl⟩
theorem kn_NoStore {K : PySem.W.Frag} {mg : Str → Option Value} (T : Mo K mg) : Gx.KnownAt mg "NoStore" (.ref (Gx.cl mg "NoStore")) := let ⟨_, _, _, _, m, _⟩ := T.en_NoStore.ex; ⟨_, m, rfl⟩
theorem kn_Needs {K : PySem.W.Frag} {mg : Str → Option Value} (T : Mo K mg) : Gx.KnownAt mg "Needs" (.ref (Gx.cl mg "Needs")) := ⟨_, T.es_Needs.m, rfl⟩
theorem m_Needs {P : Program} {w : World} {K : PySem.W.Frag} {mg : Str → Option Value} {base : Heap} (T : Mo K mg) : Gx.EM P w K mg base "Needs" ["request"] :=
  T.es_Needs.em1 Gx.ebR ⟨rfl, rfl, rfl, by decide +kernel, rfl, by decide +kernel, by decide +kernel⟩ T.f_Needs_request (fun _ _ _ _ _ _ _ => pss_one (Gx.ps_osb Gx.ebR T.es_Needs.T (pv 0) (pv 1)))
    (fun _ _ _ _ _ _ us hl => match us, hl with | [_, _], _ => rfl) (fun _ _ _ _ _ _ _ ws hl => match ws, hl with | [_], _ => rfl)
theorem kn_TooMany {K : PySem.W.Frag} {mg : Str → Option Value} (T : Mo K mg) : Gx.KnownAt mg "TooMany" (.ref (Gx.cl mg "TooMany")) := ⟨_, T.es_TooMany.m, rfl⟩
theorem m_TooMany {P : Program} {w : World} {K : PySem.W.Frag} {mg : Str → Option Value} {base : Heap} (T : Mo K mg) : Gx.EM P w K mg base "TooMany" ["kind", "limit"] :=
  T.es_TooMany.em2 Gx.ebA ⟨rfl, rfl, rfl, by decide +kernel, rfl, by decide +kernel, by decide +kernel⟩ T.f_TooMany_kind T.f_TooMany_limit (fun _ _ _ _ _ _ _ => pss_cons (Gx.ps_osb Gx.ebA T.es_TooMany.T (pv 0) (pv 1)) (pss_one (Gx.ps_osb Gx.ebA T.es_TooMany.T (pv 0) (pv 2))))
    (fun _ _ _ _ _ _ us hl => match us, hl with | [_, _, _], _ => rfl) (fun _ _ _ _ _ _ _ ws hl => match ws, hl with | [_, _], _ => rfl)
theorem kn_TooLarge {K : PySem.W.Frag} {mg : Str → Option Value} (T : Mo K mg) : Gx.KnownAt mg "TooLarge" (.ref (Gx.cl mg "TooLarge")) := ⟨_, T.es_TooLarge.m, rfl⟩
theorem m_TooLarge {P : Program} {w : World} {K : PySem.W.Frag} {mg : Str → Option Value} {base : Heap} (T : Mo K mg) : Gx.EM P w K mg base "TooLarge" ["count"] :=
  T.es_TooLarge.em1 Gx.ebA ⟨rfl, rfl, rfl, by decide +kernel, rfl, by decide +kernel, by decide +kernel⟩ T.f_TooLarge_count (fun _ _ _ _ _ _ _ => pss_one (Gx.ps_osb Gx.ebA T.es_TooLarge.T (pv 0) (pv 1)))
    (fun _ _ _ _ _ _ us hl => match us, hl with | [_, _], _ => rfl) (fun _ _ _ _ _ _ _ ws hl => match ws, hl with | [_], _ => rfl)
/-- the classes and fields that are made of a and b -/
abbrev ce0 (mg : Str → Option Value) (x : Str) : Gx.Cls := (Gx.cl mg x, [])
abbrev ce1 (mg : Str → Option Value) (x f : Str) (a : V) : Gx.Cls := (Gx.cl mg x, [(f, a)])
abbrev ce2 (mg : Str → Option Value) (x f g : Str) (a b : V) : Gx.Cls := (Gx.cl mg x, [(g, b), (f, a)])
def cls (mg : Str → Option Value) (a b : V) : List Gx.Cls := [ce1 mg "InvalidBits" "value" a, ce1 mg "InvalidValue" "value" a, ce1 mg "InvalidRange" "value" a, ce1 mg "InvalidPlace" "value" a, ce1 mg "InvalidCount" "value" a, ce1 mg "InvalidName" "value" a, ce1 mg "InvalidColumns" "value" a, ce1 mg "InvalidKey" "value" a, ce1 mg "InvalidPayload" "value" a, ce1 mg "InvalidText" "value" a, ce1 mg "InvalidPoint" "value" a, ce1 mg "InvalidLimit" "value" a, ce1 mg "InvalidPage" "value" a, ce1 mg "InvalidMessage" "value" a, ce1 mg "InvalidCommand" "value" a, ce1 mg "InvalidBox" "position" a, ce1 mg "InvalidOrder" "position" a, ce1 mg "InvalidWrite" "position" a, ce1 mg "InvalidPaper" "position" a, ce2 mg "InvalidQuery" "problem" "position" a b, ce1 mg "InvalidGroups" "problem" a, ce1 mg "UnknownTable" "value" a, ce1 mg "UnknownVersion" "value" a, ce1 mg "UnknownName" "value" a, ce1 mg "UnknownTransaction" "value" a, ce1 mg "TooOld" "least" a, ce1 mg "WrongColumns" "position" a, ce1 mg "Holds" "position" a, ce1 mg "NameTaken" "name" a, ce2 mg "KeyTaken" "table" "key" a b, ce2 mg "NoSuchRow" "table" "key" a b, ce1 mg "NotClear" "key" a, ce0 mg "Unlike", ce1 mg "NoHalf" "place" a, ce1 mg "NotJoined" "place" a, ce0 mg "NotAPoint", ce1 mg "WrongLine" "line" a, ce1 mg "NotAnswer" "point" a, ce1 mg "IsAnswer" "point" a, ce1 mg "NotEmpty" "point" a, ce0 mg "Ended", ce2 mg "Changed" "act" "item" a b, ce2 mg "Violated" "name" "point" a b, ce1 mg "Held" "earliest" a, ce0 mg "Crashed", ce0 mg "DiskInUse", ce0 mg "NoStore", ce1 mg "Needs" "request" a, ce2 mg "TooMany" "kind" "limit" a b, ce1 mg "TooLarge" "count" a]
theorem cls_len {mg : Str → Option Value} {a b : V} : (cls mg a b).length = 50 := rfl
theorem cls_nm {mg : Str → Option Value} {a b : V} : (cls mg a b).map (·.1) = nms.map (Gx.cl mg) := rfl
theorem ecs {K : PySem.W.Frag} {mg : Str → Option Value} (T : Mo K mg) {a b : V} : ∀ c ∈ cls mg a b, ∃ tl nid, Gx.EC K c.1 tl nid :=
  List.forall_mem_cons.mpr ⟨⟨_, _, T.es_InvalidBits.T⟩, List.forall_mem_cons.mpr ⟨⟨_, _, T.es_InvalidValue.T⟩, List.forall_mem_cons.mpr ⟨⟨_, _, T.es_InvalidRange.T⟩, List.forall_mem_cons.mpr ⟨⟨_, _, T.es_InvalidPlace.T⟩, List.forall_mem_cons.mpr ⟨⟨_, _, T.es_InvalidCount.T⟩, List.forall_mem_cons.mpr ⟨⟨_, _, T.es_InvalidName.T⟩, List.forall_mem_cons.mpr ⟨⟨_, _, T.es_InvalidColumns.T⟩, List.forall_mem_cons.mpr ⟨⟨_, _, T.es_InvalidKey.T⟩, List.forall_mem_cons.mpr ⟨⟨_, _, T.es_InvalidPayload.T⟩, List.forall_mem_cons.mpr ⟨⟨_, _, T.es_InvalidText.T⟩, List.forall_mem_cons.mpr ⟨⟨_, _, T.es_InvalidPoint.T⟩, List.forall_mem_cons.mpr ⟨⟨_, _, T.es_InvalidLimit.T⟩, List.forall_mem_cons.mpr ⟨⟨_, _, T.es_InvalidPage.T⟩, List.forall_mem_cons.mpr ⟨⟨_, _, T.es_InvalidMessage.T⟩, List.forall_mem_cons.mpr ⟨⟨_, _, T.es_InvalidCommand.T⟩, List.forall_mem_cons.mpr ⟨⟨_, _, T.es_InvalidBox.T⟩, List.forall_mem_cons.mpr ⟨⟨_, _, T.es_InvalidOrder.T⟩, List.forall_mem_cons.mpr ⟨⟨_, _, T.es_InvalidWrite.T⟩, List.forall_mem_cons.mpr ⟨⟨_, _, T.es_InvalidPaper.T⟩, List.forall_mem_cons.mpr ⟨⟨_, _, T.es_InvalidQuery.T⟩, List.forall_mem_cons.mpr ⟨⟨_, _, T.es_InvalidGroups.T⟩, List.forall_mem_cons.mpr ⟨⟨_, _, T.es_UnknownTable.T⟩, List.forall_mem_cons.mpr ⟨⟨_, _, T.es_UnknownVersion.T⟩, List.forall_mem_cons.mpr ⟨⟨_, _, T.es_UnknownName.T⟩, List.forall_mem_cons.mpr ⟨⟨_, _, T.es_UnknownTransaction.T⟩, List.forall_mem_cons.mpr ⟨⟨_, _, T.es_TooOld.T⟩, List.forall_mem_cons.mpr ⟨⟨_, _, T.es_WrongColumns.T⟩, List.forall_mem_cons.mpr ⟨⟨_, _, T.es_Holds.T⟩, List.forall_mem_cons.mpr ⟨⟨_, _, T.es_NameTaken.T⟩, List.forall_mem_cons.mpr ⟨⟨_, _, T.es_KeyTaken.T⟩, List.forall_mem_cons.mpr ⟨⟨_, _, T.es_NoSuchRow.T⟩, List.forall_mem_cons.mpr ⟨⟨_, _, T.es_NotClear.T⟩, List.forall_mem_cons.mpr ⟨⟨_, _, T.ec_Unlike⟩, List.forall_mem_cons.mpr ⟨⟨_, _, T.es_NoHalf.T⟩, List.forall_mem_cons.mpr ⟨⟨_, _, T.es_NotJoined.T⟩, List.forall_mem_cons.mpr ⟨⟨_, _, T.ec_NotAPoint⟩, List.forall_mem_cons.mpr ⟨⟨_, _, T.es_WrongLine.T⟩, List.forall_mem_cons.mpr ⟨⟨_, _, T.es_NotAnswer.T⟩, List.forall_mem_cons.mpr ⟨⟨_, _, T.es_IsAnswer.T⟩, List.forall_mem_cons.mpr ⟨⟨_, _, T.es_NotEmpty.T⟩, List.forall_mem_cons.mpr ⟨⟨_, _, T.ec_Ended⟩, List.forall_mem_cons.mpr ⟨⟨_, _, T.es_Changed.T⟩, List.forall_mem_cons.mpr ⟨⟨_, _, T.es_Violated.T⟩, List.forall_mem_cons.mpr ⟨⟨_, _, T.es_Held.T⟩, List.forall_mem_cons.mpr ⟨⟨_, _, T.ec_Crashed⟩, List.forall_mem_cons.mpr ⟨⟨_, _, T.ec_DiskInUse⟩, List.forall_mem_cons.mpr ⟨⟨_, _, T.ec_NoStore⟩, List.forall_mem_cons.mpr ⟨⟨_, _, T.es_Needs.T⟩, List.forall_mem_cons.mpr ⟨⟨_, _, T.es_TooMany.T⟩, List.forall_mem_cons.mpr ⟨⟨_, _, T.es_TooLarge.T⟩, fun _ h => nomatch h⟩⟩⟩⟩⟩⟩⟩⟩⟩⟩⟩⟩⟩⟩⟩⟩⟩⟩⟩⟩⟩⟩⟩⟩⟩⟩⟩⟩⟩⟩⟩⟩⟩⟩⟩⟩⟩⟩⟩⟩⟩⟩⟩⟩⟩⟩⟩⟩⟩⟩
theorem tabs_mk {K : PySem.W.Frag} {mg : Str → Option Value} {C0 C1 C2 C3 C4 C5 C6 C7 C8 C9 C10 C11 C12 C13 C14 C15 C16 C17 C18 C19 C20 C21 C22 C23 C24 C25 C26 C27 C28 C29 C30 C31 C32 C33 C34 C35 C36 C37 C38 C39 C40 C41 C42 C43 C44 C45 C46 C47 C48 C49 C50 : Addr} (h0 : mg "CoverError" = some (.ref C0)) (h1 : mg "InvalidBits" = some (.ref C1)) (h2 : mg "InvalidValue" = some (.ref C2)) (h3 : mg "InvalidRange" = some (.ref C3)) (h4 : mg "InvalidPlace" = some (.ref C4)) (h5 : mg "InvalidCount" = some (.ref C5)) (h6 : mg "InvalidName" = some (.ref C6)) (h7 : mg "InvalidColumns" = some (.ref C7)) (h8 : mg "InvalidKey" = some (.ref C8)) (h9 : mg "InvalidPayload" = some (.ref C9)) (h10 : mg "InvalidText" = some (.ref C10)) (h11 : mg "InvalidPoint" = some (.ref C11)) (h12 : mg "InvalidLimit" = some (.ref C12)) (h13 : mg "InvalidPage" = some (.ref C13)) (h14 : mg "InvalidMessage" = some (.ref C14)) (h15 : mg "InvalidCommand" = some (.ref C15)) (h16 : mg "InvalidBox" = some (.ref C16)) (h17 : mg "InvalidOrder" = some (.ref C17)) (h18 : mg "InvalidWrite" = some (.ref C18)) (h19 : mg "InvalidPaper" = some (.ref C19)) (h20 : mg "InvalidQuery" = some (.ref C20)) (h21 : mg "InvalidGroups" = some (.ref C21)) (h22 : mg "UnknownTable" = some (.ref C22)) (h23 : mg "UnknownVersion" = some (.ref C23)) (h24 : mg "UnknownName" = some (.ref C24)) (h25 : mg "UnknownTransaction" = some (.ref C25)) (h26 : mg "TooOld" = some (.ref C26)) (h27 : mg "WrongColumns" = some (.ref C27)) (h28 : mg "Holds" = some (.ref C28)) (h29 : mg "NameTaken" = some (.ref C29)) (h30 : mg "KeyTaken" = some (.ref C30)) (h31 : mg "NoSuchRow" = some (.ref C31)) (h32 : mg "NotClear" = some (.ref C32)) (h33 : mg "Unlike" = some (.ref C33)) (h34 : mg "NoHalf" = some (.ref C34)) (h35 : mg "NotJoined" = some (.ref C35)) (h36 : mg "NotAPoint" = some (.ref C36)) (h37 : mg "WrongLine" = some (.ref C37)) (h38 : mg "NotAnswer" = some (.ref C38)) (h39 : mg "IsAnswer" = some (.ref C39)) (h40 : mg "NotEmpty" = some (.ref C40)) (h41 : mg "Ended" = some (.ref C41)) (h42 : mg "Changed" = some (.ref C42)) (h43 : mg "Violated" = some (.ref C43)) (h44 : mg "Held" = some (.ref C44)) (h45 : mg "Crashed" = some (.ref C45)) (h46 : mg "DiskInUse" = some (.ref C46)) (h47 : mg "NoStore" = some (.ref C47)) (h48 : mg "Needs" = some (.ref C48)) (h49 : mg "TooMany" = some (.ref C49)) (h50 : mg "TooLarge" = some (.ref C50)) (t1 : Gx.apartB K [C1, C2, C3, C4, C5, C6, C7, C8, C9, C10, C11, C12, C13, C14, C15, C16, C17, C18, C19, C20, C21, C22, C23, C24, C25, C26, C27, C28, C29, C30, C31, C32, C33, C34, C35, C36, C37, C38, C39, C40, C41, C42, C43, C44, C45, C46, C47, C48, C49, C50] = true) (tn : [C1, C2, C3, C4, C5, C6, C7, C8, C9, C10, C11, C12, C13, C14, C15, C16, C17, C18, C19, C20, C21, C22, C23, C24, C25, C26, C27, C28, C29, C30, C31, C32, C33, C34, C35, C36, C37, C38, C39, C40, C41, C42, C43, C44, C45, C46, C47, C48, C49, C50].Nodup) (o1 : Gx.overB K [.ref C0, .type "ValueError", .type "LookupError", .type "RuntimeError", .type "ArithmeticError"] [true, true, false, false, false] [C1, C2, C3, C4, C5, C6, C7, C8, C9, C10, C11, C12, C13, C14, C15, C16, C17, C18, C19, C20, C21] = true) (o2 : Gx.overB K [.ref C0, .type "ValueError", .type "LookupError", .type "RuntimeError", .type "ArithmeticError"] [false, false, true, false, false] [C22, C23, C24, C25, C26] = true) (o3 : Gx.overB K [.ref C0, .type "ValueError", .type "LookupError", .type "RuntimeError", .type "ArithmeticError"] [false, false, false, true, false] [C27, C28, C29, C30, C31, C32, C33, C34, C35, C36, C37, C38, C39, C40, C41, C42, C43, C44, C45, C46, C47, C48] = true) (o4 : Gx.overB K [.ref C0, .type "ValueError", .type "LookupError", .type "RuntimeError", .type "ArithmeticError"] [false, false, false, false, true] [C49, C50] = true) : Tabs K mg := by
  have e : nms.map (Gx.cl mg) = [C1, C2, C3, C4, C5, C6, C7, C8, C9, C10, C11, C12, C13, C14, C15, C16, C17, C18, C19, C20, C21, C22, C23, C24, C25, C26, C27, C28, C29, C30, C31, C32, C33, C34, C35, C36, C37, C38, C39, C40, C41, C42, C43, C44, C45, C46, C47, C48, C49, C50] := by
    show [Gx.cl mg "InvalidBits", Gx.cl mg "InvalidValue", Gx.cl mg "InvalidRange", Gx.cl mg "InvalidPlace", Gx.cl mg "InvalidCount", Gx.cl mg "InvalidName", Gx.cl mg "InvalidColumns", Gx.cl mg "InvalidKey", Gx.cl mg "InvalidPayload", Gx.cl mg "InvalidText", Gx.cl mg "InvalidPoint", Gx.cl mg "InvalidLimit", Gx.cl mg "InvalidPage", Gx.cl mg "InvalidMessage", Gx.cl mg "InvalidCommand", Gx.cl mg "InvalidBox", Gx.cl mg "InvalidOrder", Gx.cl mg "InvalidWrite", Gx.cl mg "InvalidPaper", Gx.cl mg "InvalidQuery", Gx.cl mg "InvalidGroups", Gx.cl mg "UnknownTable", Gx.cl mg "UnknownVersion", Gx.cl mg "UnknownName", Gx.cl mg "UnknownTransaction", Gx.cl mg "TooOld", Gx.cl mg "WrongColumns", Gx.cl mg "Holds", Gx.cl mg "NameTaken", Gx.cl mg "KeyTaken", Gx.cl mg "NoSuchRow", Gx.cl mg "NotClear", Gx.cl mg "Unlike", Gx.cl mg "NoHalf", Gx.cl mg "NotJoined", Gx.cl mg "NotAPoint", Gx.cl mg "WrongLine", Gx.cl mg "NotAnswer", Gx.cl mg "IsAnswer", Gx.cl mg "NotEmpty", Gx.cl mg "Ended", Gx.cl mg "Changed", Gx.cl mg "Violated", Gx.cl mg "Held", Gx.cl mg "Crashed", Gx.cl mg "DiskInUse", Gx.cl mg "NoStore", Gx.cl mg "Needs", Gx.cl mg "TooMany", Gx.cl mg "TooLarge"] = _
    rw [Gx.cl_of h1, Gx.cl_of h2, Gx.cl_of h3, Gx.cl_of h4, Gx.cl_of h5, Gx.cl_of h6, Gx.cl_of h7, Gx.cl_of h8, Gx.cl_of h9, Gx.cl_of h10, Gx.cl_of h11, Gx.cl_of h12, Gx.cl_of h13, Gx.cl_of h14, Gx.cl_of h15, Gx.cl_of h16, Gx.cl_of h17, Gx.cl_of h18, Gx.cl_of h19, Gx.cl_of h20, Gx.cl_of h21, Gx.cl_of h22, Gx.cl_of h23, Gx.cl_of h24, Gx.cl_of h25, Gx.cl_of h26, Gx.cl_of h27, Gx.cl_of h28, Gx.cl_of h29, Gx.cl_of h30, Gx.cl_of h31, Gx.cl_of h32, Gx.cl_of h33, Gx.cl_of h34, Gx.cl_of h35, Gx.cl_of h36, Gx.cl_of h37, Gx.cl_of h38, Gx.cl_of h39, Gx.cl_of h40, Gx.cl_of h41, Gx.cl_of h42, Gx.cl_of h43, Gx.cl_of h44, Gx.cl_of h45, Gx.cl_of h46, Gx.cl_of h47, Gx.cl_of h48, Gx.cl_of h49, Gx.cl_of h50]
  have e1 : nm1.map (Gx.cl mg) = [C1, C2, C3, C4, C5, C6, C7, C8, C9, C10, C11, C12, C13, C14, C15, C16, C17, C18, C19, C20, C21] := by
    show [Gx.cl mg "InvalidBits", Gx.cl mg "InvalidValue", Gx.cl mg "InvalidRange", Gx.cl mg "InvalidPlace", Gx.cl mg "InvalidCount", Gx.cl mg "InvalidName", Gx.cl mg "InvalidColumns", Gx.cl mg "InvalidKey", Gx.cl mg "InvalidPayload", Gx.cl mg "InvalidText", Gx.cl mg "InvalidPoint", Gx.cl mg "InvalidLimit", Gx.cl mg "InvalidPage", Gx.cl mg "InvalidMessage", Gx.cl mg "InvalidCommand", Gx.cl mg "InvalidBox", Gx.cl mg "InvalidOrder", Gx.cl mg "InvalidWrite", Gx.cl mg "InvalidPaper", Gx.cl mg "InvalidQuery", Gx.cl mg "InvalidGroups"] = _
    rw [Gx.cl_of h1, Gx.cl_of h2, Gx.cl_of h3, Gx.cl_of h4, Gx.cl_of h5, Gx.cl_of h6, Gx.cl_of h7, Gx.cl_of h8, Gx.cl_of h9, Gx.cl_of h10, Gx.cl_of h11, Gx.cl_of h12, Gx.cl_of h13, Gx.cl_of h14, Gx.cl_of h15, Gx.cl_of h16, Gx.cl_of h17, Gx.cl_of h18, Gx.cl_of h19, Gx.cl_of h20, Gx.cl_of h21]
  have e2 : nm2.map (Gx.cl mg) = [C22, C23, C24, C25, C26] := by
    show [Gx.cl mg "UnknownTable", Gx.cl mg "UnknownVersion", Gx.cl mg "UnknownName", Gx.cl mg "UnknownTransaction", Gx.cl mg "TooOld"] = _
    rw [Gx.cl_of h22, Gx.cl_of h23, Gx.cl_of h24, Gx.cl_of h25, Gx.cl_of h26]
  have e3 : nm3.map (Gx.cl mg) = [C27, C28, C29, C30, C31, C32, C33, C34, C35, C36, C37, C38, C39, C40, C41, C42, C43, C44, C45, C46, C47, C48] := by
    show [Gx.cl mg "WrongColumns", Gx.cl mg "Holds", Gx.cl mg "NameTaken", Gx.cl mg "KeyTaken", Gx.cl mg "NoSuchRow", Gx.cl mg "NotClear", Gx.cl mg "Unlike", Gx.cl mg "NoHalf", Gx.cl mg "NotJoined", Gx.cl mg "NotAPoint", Gx.cl mg "WrongLine", Gx.cl mg "NotAnswer", Gx.cl mg "IsAnswer", Gx.cl mg "NotEmpty", Gx.cl mg "Ended", Gx.cl mg "Changed", Gx.cl mg "Violated", Gx.cl mg "Held", Gx.cl mg "Crashed", Gx.cl mg "DiskInUse", Gx.cl mg "NoStore", Gx.cl mg "Needs"] = _
    rw [Gx.cl_of h27, Gx.cl_of h28, Gx.cl_of h29, Gx.cl_of h30, Gx.cl_of h31, Gx.cl_of h32, Gx.cl_of h33, Gx.cl_of h34, Gx.cl_of h35, Gx.cl_of h36, Gx.cl_of h37, Gx.cl_of h38, Gx.cl_of h39, Gx.cl_of h40, Gx.cl_of h41, Gx.cl_of h42, Gx.cl_of h43, Gx.cl_of h44, Gx.cl_of h45, Gx.cl_of h46, Gx.cl_of h47, Gx.cl_of h48]
  have e4 : nm4.map (Gx.cl mg) = [C49, C50] := by
    show [Gx.cl mg "TooMany", Gx.cl mg "TooLarge"] = _
    rw [Gx.cl_of h49, Gx.cl_of h50]
  have v : ovs mg = [.ref C0, .type "ValueError", .type "LookupError", .type "RuntimeError", .type "ArithmeticError"] := by
    unfold ovs
    rw [Gx.cl_of h0]
  refine ⟨?_, ?_, ?_, ?_, ?_, ?_⟩
  · rw [e]
    exact t1
  · rw [e]
    exact tn
  · rw [v, e1]
    exact o1
  · rw [v, e2]
    exact o2
  · rw [v, e3]
    exact o3
  · rw [v, e4]
    exact o4
end My
namespace My
open PySem PySem.Spec PyProof.Rows L2
/-- all but the object at p is as it was -/
def Kp (p : Addr) (H H' : Hp) : Prop := ∀ b o, b ≠ p → H b = some o → H' b = some o
theorem Kp.refl {p : Addr} {H : Hp} : Kp p H H := fun _ _ _ h => h
theorem Kp.trans {p : Addr} {H H1 H2 : Hp} (a : Kp p H H1) (b : Kp p H1 H2) : Kp p H H2 := fun c o n h => b c o n (a c o n h)
theorem Kp.new {p q : Addr} {H : Hp} {o : HO} (h : H q = none) : Kp p H (upd H q o) := fun b u _ e => by rw [upd_ne (ne_of_none e h)]; exact e
theorem Kp.at {p : Addr} {H : Hp} {o : HO} : Kp p H (upd H p o) := fun b u n e => by rw [upd_ne n]; exact e
theorem Same.upd {q : Addr} {H : Hp} {o : HO} (h : H q = none) : Same H (L2.upd H q o) := fun b x e => by rw [upd_ne (ne_of_none e h)]; exact e
section
variable {P : Program} {w : World} {K : PySem.W.Frag} {mg : Str → Option Value} {base : Heap}
/-- the generator of draws stands at p -/
def Rng (p : Addr) (H : Hp) : Prop := ∃ a b : Int, H p = some (.lst [.int a, .int b]) ∧ 0 ≤ a ∧ 0 ≤ b ∧ b < 2147483587
theorem same_kp {p : Addr} {H H' : Hp} (s : Same H H') : Kp p H H' := fun b o _ e => s b o e
def spRng (K : PySem.W.Frag) : Sp := fun vs H Q _ => ∃ (a : Addr) (ns : List Int) (k : Nat), vs = [.ref a, .int k] ∧ SqL K H a (ns.map V.int) ∧ k ≤ 100 ∧ ∀ p H', H p = none → Rng p H' → Same H H' → Q (.ref p) H'
theorem p__law_rng (T : Mo K mg) : Gx.Pr P w K mg base CX0 1 "_law_rng" s__law_rng ["_law_script", "_law_k"] (spRng K) := by
  refine T.d__law_rng.ok sc__law_rng (fun vs H Q E h => ?_) (fun f cdv A outer s H vs Q E hr h => ?_)
  · obtain ⟨a, ns, k, rfl, _⟩ := h
    rfl
  · obtain ⟨a, ns, k, rfl, hS, hk, q⟩ := h
    refine ⟨_, (pss_cons (ps_set (i := 2) sc__law_rng.nd rfl (Or.inl rfl) (pe_op op_add (pe_op op_mul pe_int (pv 1)) pe_int))
      (Evl.pss_cut (ps_if (pt_cmpR op_lt (pv 1) (pe_callB call_len_seq (by rfl) T.b_len (by decide +kernel) (pa_cons (pv 0) pa_nil)) (nomark _)) (pss_one (ps_set (i := 2) sc__law_rng.nd rfl (Or.inl rfl) (pe_ix ix_list (pv 0) (pv 1) (fun _ _ => rfl)))) pss_nil)
      (pss_one (ps_ret (pe_lst (pa_cons (pe_callB (call_max2 rfl) (by rfl) T.b_max (by decide +kernel) (pa_cons pe_int (pa_cons (pe_op op_sub (pe_callB call_abs (by rfl) T.b_abs (by decide +kernel) (pa_cons (pv 2) pa_nil)) (pe_op op_pow pe_int pe_int)) pa_nil))) (pa_cons (pe_op op_add (pe_op op_mod (pe_callTy call_int1 (by rfl) T.b_int (by decide +kernel) (pa_cons (pe_op op_mul (pe_op op_add (pe_op op_mod (pe_callTy call_int1 (by rfl) T.b_int (by decide +kernel) (pa_cons (pe_callB call_abs (by rfl) T.b_abs (by decide +kernel) (pa_cons (pv 2) pa_nil)) pa_nil)) pe_int) pe_int) (pe_op op_pow (pe_op op_add (pv 1) pe_int) pe_int)) pa_nil)) pe_int) pe_int) pa_nil))))))), ?_⟩
    refine ⟨_, rfl, _, _, rfl, rfl, .inl ⟨by decide, by decide⟩, _, _, rfl, rfl, ?_⟩
    refine ⟨fun σ H' => H' = H ∧ ∃ c : Int, σ = [some (.ref a), some (.int k), some (.int c)], ?_, fun σ H' h => ?_⟩
    · refine ⟨_, rfl, _, rfl, a, _, rfl, .inl hS, _, _, rfl, rfl, _, rfl, ?_⟩
      rw [List.length_map]
      by_cases c : (k : Int) < (ns.length : Int)
      · rw [decide_eq_true c]
        have hk' : k < ns.length := by omega
        refine iteT ⟨_, rfl, _, rfl, a, _, _, .int ns[k], rfl, rfl, hS, atI_nat (by rw [List.getElem?_map, List.getElem?_eq_getElem hk']; rfl), rfl, _, rfl⟩
      · rw [decide_eq_false c]
        exact iteF ⟨rfl, _, rfl⟩
    · obtain ⟨rfl, c, rfl⟩ := h
      refine ⟨_, rfl, _, rfl, _, _, rfl, rfl, ⟨by decide, by decide, by decide⟩, _, _, rfl, rfl, _, _, rfl, ?_⟩
      refine ⟨_, rfl, _, rfl, .inl ⟨_, rfl, _, _, rfl, rfl, (by show (0 : Int) < 2147483579; decide), _, _, rfl, rfl, ?_⟩⟩
      have m1 : ∀ x : Int, 0 ≤ x % 2147483579 ∧ x % 2147483579 < 2147483579 := fun x => ⟨Int.emod_nonneg _ (by decide), Int.emod_lt_of_pos _ (by decide)⟩
      have m2 : ∀ x : Int, 0 ≤ x % 2147483563 ∧ x % 2147483563 < 2147483563 := fun x => ⟨Int.emod_nonneg _ (by decide), Int.emod_lt_of_pos _ (by decide)⟩
      refine ⟨_, rfl, _, _, rfl, rfl, _, _, rfl, rfl, ⟨by decide, by decide, by omega⟩, _, _, rfl, rfl, .inl ⟨?_, ?_⟩, .inl ⟨_, rfl, _, _, rfl, rfl, (by show (0 : Int) < 2147483563; decide), _, _, rfl, rfl, (by show 2 ≤ sizeLine; decide), fun p hp => ?_⟩⟩
      · have := m1 (if c < 0 then -c else c); omega
      · have := m1 (if c < 0 then -c else c); omega
      · refine q p _ hp ⟨_, _, upd_same, ?_, ?_, ?_⟩ fun b o e => by rw [upd_ne (ne_of_none e hp)]; exact e
        · split <;> omega
        · have := m2 (((if c < 0 then -c else c) % 2147483579 + 1) * ((k : Int) + 3) ^ (3 : Int).toNat); omega
        · have := m2 (((if c < 0 then -c else c) % 2147483579 + 1) * ((k : Int) + 3) ^ (3 : Int).toNat); omega
def spDraw : Sp := fun vs H Q _ => ∃ (p : Addr) (m : Int), vs = [.ref p, .int m] ∧ Rng p H ∧ 0 < m ∧ m < 10 ^ 40 ∧ ∀ (r : Int) H', 0 ≤ r → r < m → Rng p H' → Kp p H H' → Q (.int r) H'
theorem noPy {a m : Int} (h : 0 < m) (h2 : m < 10 ^ 40) : CDivP a m := by
  refine ⟨h, PyProof.noPylong_of_log2 ?_⟩
  have e : m.natAbs < 2 ^ 200 := by
    have : (10 : Int) ^ 40 < 2 ^ 200 := by decide
    omega
  have := PySem.Flt.log2_lt_of (k := 200) (by decide) e
  omega
theorem p__law_draw (T : Mo K mg) : Gx.Pr P w K mg base CX0 1 "_law_draw" s__law_draw ["_law_rng_here", "_law_many"] spDraw := by
  refine T.d__law_draw.ok sc__law_draw (fun vs H Q E h => ?_) (fun f cdv A outer s H vs Q E hr h => ?_)
  · obtain ⟨p, m, rfl, _⟩ := h
    rfl
  · obtain ⟨p, m, rfl, ⟨a, b, hp, ha, hb, hb2⟩, m0, m1, q⟩ := h
    refine ⟨_, (pss_cons (ps_if (pt_cmpR op_gt (pe_ix ix_list (pv 0) pe_int (fun _ _ => rfl)) pe_int (nomark _)) (pss_cons (ps_asg (pe_callB call_divmodW (by rfl) T.b_divmod (by decide +kernel) (pa_cons (pe_ix ix_list (pv 0) pe_int (fun _ _ => rfl)) (pa_cons (pv 1) pa_nil))) (pg_tup rfl (pgs_cons (pg_sub (pv 0) pe_int set_list) (pgs_cons (pg_name (i := 2) sc__law_draw.nd rfl (Or.inl rfl)) pgs_nil))))
      (pss_one (ps_ret (pv 2)))) pss_nil)
      (pss_cons (ps_asg (pe_op op_mod (pe_callTy call_int1 (by rfl) T.b_int (by decide +kernel) (pa_cons (pe_op op_add (pe_op op_mul (pe_ix ix_list (pv 0) pe_int (fun _ _ => rfl)) pe_int) pe_int) pa_nil)) pe_int) (pg_sub (pv 0) pe_int set_list))
      (pss_one (ps_ret (pe_op op_mod (pe_callTy call_int1 (by rfl) T.b_int (by decide +kernel) (pa_cons (pe_op op_fdiv (pe_op op_mod (pe_callTy call_int1 (by rfl) T.b_int (by decide +kernel) (pa_cons (pe_op op_mul (pe_ix ix_list (pv 0) pe_int (fun _ _ => rfl)) (pe_ix ix_list (pv 0) pe_int (fun _ _ => rfl))) pa_nil)) pe_int) pe_int) pa_nil)) (pv 1)))))), ?_⟩
    refine ⟨_, rfl, p, _, 0, _, rfl, rfl, SqL.of hp, rfl, _, _, rfl, rfl, _, rfl, ?_⟩
    by_cases c : 0 < a
    · rw [decide_eq_true c]
      refine iteT ⟨_, rfl, p, _, 0, _, rfl, rfl, SqL.of hp, rfl, _, rfl, _, _, rfl, noPy m0 m1, fun t ht => ?_⟩
      have npt : p ≠ t := ne_of_none hp ht
      refine ⟨t, _, rfl, SqT.of upd_same, rfl, _, _, rfl, ⟨_, rfl, p, _, 0, 0, rfl, rfl, (by rw [upd_ne npt]; exact hp), rfl, _, _, rfl, rfl, _, rfl, ?_⟩⟩
      refine q _ _ (Int.emod_nonneg _ (by omega)) (Int.emod_lt_of_pos _ m0) ⟨_, b, upd_same, Int.ediv_nonneg ha (by omega), hb, hb2⟩ fun x o n e => ?_
      rw [upd_ne n, upd_ne (ne_of_none e ht)]
      exact e
    · rw [decide_eq_false c]
      refine iteF ?_
      refine ⟨_, rfl, p, _, 0 + 1, _, rfl, rfl, SqL.of hp, rfl, _, _, rfl, rfl, .inl ⟨by omega, by omega⟩, _, _, rfl, rfl, .inl ⟨_, rfl, _, _, rfl, rfl, (by show (0 : Int) < 2147483587; decide), _, rfl, p, _, 1, 1, rfl, rfl, hp, rfl, ?_⟩⟩
      have n0 := Int.emod_nonneg (b * 48283 + 10007) (show (2147483587 : Int) ≠ 0 by decide)
      have n1 := Int.emod_lt_of_pos (b * 48283 + 10007) (show (0 : Int) < 2147483587 by decide)
      have g0 : 0 ≤ (b * 48283 + 10007) % 2147483587 * ((b * 48283 + 10007) % 2147483587) % 2147483549 / 13 := Int.ediv_nonneg (Int.emod_nonneg _ (by decide)) (by decide)
      have g1 : (b * 48283 + 10007) % 2147483587 * ((b * 48283 + 10007) % 2147483587) % 2147483549 / 13 < 2147483549 := by
        have := Int.emod_lt_of_pos ((b * 48283 + 10007) % 2147483587 * ((b * 48283 + 10007) % 2147483587)) (show (0 : Int) < 2147483549 by decide)
        omega
      refine ⟨_, rfl, p, _, 0 + 1, _, rfl, rfl, SqL.of upd_same, rfl, _, rfl, p, _, 0 + 1, _, rfl, rfl, SqL.of upd_same, rfl, _, _, rfl, rfl, .inl ⟨by omega, by omega⟩, .inl ⟨_, rfl, _, _, rfl, rfl, (by show (0 : Int) < 2147483549; decide), _, _, rfl, rfl, ⟨by decide, by decide⟩, .inl ⟨_, rfl, _, rfl, _, _, rfl, rfl, m0, ?_⟩⟩⟩
      exact q _ _ (Int.emod_nonneg _ (by omega)) (Int.emod_lt_of_pos _ m0) ⟨a, _, upd_same, ha, n0, n1⟩ fun x o z e => by rw [upd_ne z]; exact e
end
end My
namespace My
open PySem PySem.Spec PyProof.Rows L2
theorem Rng.same {p : Addr} {H H' : Hp} (r : Rng p H) (s : Same H H') : Rng p H' := let ⟨a, b, h, z⟩ := r; ⟨a, b, s _ _ h, z⟩
theorem Rng.ne {p q : Addr} {H : Hp} (r : Rng p H) (h : H q = none) : q ≠ p := fun e => by
  obtain ⟨a, b, z, _⟩ := r
  rw [← e, h] at z
  cases z
/-- data that repr shows shortly -/
structure Sd (d : PyData) : Prop where
  sh : d.showable = true
  dp : d.depth ≤ 10
  ls : d.leavesShort 200 = true
  wt : d.weight ≤ 200
/-- a drawn thing and its data, not the one at p -/
inductive Td (p : Addr) (H : Hp) : V → PyData → Prop
  | non : Td p H .non .none
  | bl (b : Bool) : Td p H (.bl b) (.bool b)
  | int (i : Int) : Td p H (.int i) (.int i)
  | str (z : Str) : Td p H (.str z) (.str z)
  | tup {a : Addr} (is : List Int) (n : a ≠ p) (h : H a = some (.tup (is.map V.int))) : Td p H (.ref a) (.tuple (is.map PyData.int))
  | tus {a : Addr} (z : Str) (n : a ≠ p) (h : H a = some (.tup [.str z])) : Td p H (.ref a) (.tuple [.str z])
  | lst {a : Addr} (n : a ≠ p) (h : H a = some (.lst [])) : Td p H (.ref a) (.list [])
  | nst {a b : Addr} (i : Int) (n : a ≠ p) (m : b ≠ p) (h : H a = some (.lst [.ref b])) (g : H b = some (.tup [.int i])) : Td p H (.ref a) (.list [.tuple [.int i]])
  | nil {a : Addr} (n : a ≠ p) (h : H a = some (.dK [])) : Td p H (.ref a) (.dict [])
  | one {a : Addr} (x : Str) (i : Int) (n : a ≠ p) (h : H a = some (.dK [(.inr x, .int i)])) : Td p H (.ref a) (.dict [(.str x, .int i)])
theorem Td.kp {p : Addr} {H H' : Hp} {x : V} {d : PyData} (t : Td p H x d) (k : Kp p H H') : Td p H' x d := by
  cases t with
  | non => exact .non
  | bl b => exact .bl b
  | int i => exact .int i
  | str z => exact .str z
  | tup is n h => exact .tup is n (k _ _ n h)
  | tus z n h => exact .tus z n (k _ _ n h)
  | lst n h => exact .lst n (k _ _ n h)
  | nst i n m h g => exact .nst i n m (k _ _ n h) (k _ _ m g)
  | nil n h => exact .nil n (k _ _ n h)
  | one x i n h => exact .one x i n (k _ _ n h)
theorem dq_ints {K : PySem.W.Frag} {H : Hp} : ∀ is : List Int, Gx.DqAll K H (is.map V.int) (is.map PyData.int)
  | [] => .nil
  | i :: is => .cons (.int i) (dq_ints is)
theorem Td.shows {K : PySem.W.Frag} {p : Addr} {H : Hp} {x : V} {d : PyData} (t : Td p H x d) : Gx.Shows K H x d := by
  cases t with
  | non => exact .of .non
  | bl b => exact .of (.bl b)
  | int i => exact .of (.int i)
  | str z => exact .of (.str z)
  | tup is n h => exact .of (.tup (SqT.of h) (dq_ints is))
  | tus z n h => exact .of (.tup (SqT.of h) (.cons (.str z) .nil))
  | lst n h => exact .of (.lst (SqL.of h) .nil)
  | nst i n m h g => exact .of (.lst (SqL.of h) (.cons (.tup (SqT.of g) (.cons (.int i) .nil)) .nil))
  | nil n h => exact .of (.nil h)
  | one x i n h => exact .one h
section
variable {P : Program} {w : World} {K : PySem.W.Frag} {mg : Str → Option Value} {base : Heap}
def spThing : Sp := fun vs H Q _ => ∃ p : Addr, vs = [.ref p] ∧ Rng p H ∧ ∀ x d H', Td p H' x d → Sd d → Rng p H' → Kp p H H' → Q x H'
theorem p__law_thing (T : Mo K mg) : Gx.Pr P w K mg base CX0 2 "_law_thing" s__law_thing ["_law_rng_here"] spThing := by
  refine T.d__law_thing.ok sc__law_thing (fun vs H Q E h => ?_) (fun f cdv A outer s H vs Q E hr h => ?_)
  · obtain ⟨p, rfl, _⟩ := h
    rfl
  · obtain ⟨p, rfl, hR, q⟩ := h
    refine ⟨_, (pss_cons (ps_set (i := 1) sc__law_thing.nd rfl (Or.inl rfl) (pe_lst (pa_cons pe_non (pa_cons pe_bl (pa_cons pe_bl (pa_cons pe_int (pa_cons (pe_un un_neg pe_int) (pa_cons pe_int (pa_cons (pe_op op_pow pe_int pe_int) (pa_cons pe_str (pa_cons pe_str (pa_cons pe_str (pa_cons (pe_tup pa_nil) (pa_cons (pe_tup (pa_cons pe_int (pa_cons pe_int pa_nil))) (pa_cons (pe_lst pa_nil) (pa_cons (pe_lst (pa_cons (pe_tup (pa_cons pe_int pa_nil)) pa_nil)) (pa_cons pe_dnewK (pa_cons (pe_disp (pps_cons pe_str pe_int pps_nil) (by rfl) (by rfl) (fun z => by cases z) (by decide)) (pa_cons (pe_tup (pa_cons pe_str pa_nil)) pa_nil)))))))))))))))))))
      (pss_one (ps_ret (pe_ix ix_list (pv 1) (Gx.pe_pos (p__law_draw T) hr (by decide) (by rfl) b__law_draw pass0 (pa_cons (pv 0) (pa_cons (pe_callB call_len_seq (by rfl) T.b_len (by decide +kernel) (pa_cons (pv 1) pa_nil)) pa_nil))) (fun _ _ => rfl))))), ?_⟩
    refine ⟨_, rfl, _, _, rfl, rfl, ⟨by decide, by decide, by decide⟩, Nat.zero_le _, fun a1 n1 => ⟨by show 2 ≤ sizeLine; decide, fun a2 n2 => ⟨Nat.zero_le _, fun a3 n3 => ⟨by show 1 ≤ sizeLine; decide, fun a4 n4 => ⟨by show 1 ≤ sizeLine; decide, fun a5 n5 a6 n6 a7 n7 => ?_⟩⟩⟩⟩⟩
    refine ⟨upd_same, [(.inr "a", .int 1)], rfl, by decide, by show 1 ≤ sizeLine; decide, fun a8 n8 => ⟨by show 17 ≤ sizeLine; decide, fun o no => ?_⟩⟩
    have e1 := Same.upd (o := .tup []) n1
    have e2 := Same.upd (o := .tup [.int 0, .int 1]) n2
    have e3 := Same.upd (o := .lst []) n3
    have e4 := Same.upd (o := .tup [.int 0]) n4
    have e5 := Same.upd (o := .lst [.ref a4]) n5
    have e6 := Same.upd (o := .dK []) n6
    have e7 : Same _ (upd (upd _ a7 (.dK [])) a7 (.dK (mergeK [] [((Sum.inr "a" : Key), V.int 1)]))) := fun b x e => by rw [upd_ne (ne_of_none e n7), upd_ne (ne_of_none e n7)]; exact e
    have e8 := Same.upd (o := .tup [.str "insert"]) n8
    have R1 := hR.same e1
    have R2 := R1.same e2
    have R3 := R2.same e3
    have R4 := R3.same e4
    have R5 := R4.same e5
    have R6 := R5.same e6
    have R7 := R6.same e7
    have R8 := R7.same e8
    have eo := Same.upd (o := .lst ([.non, .bl true, .bl false, .int 0, .int (-1), .int 7, .int (10 ^ (29 : Int).toNat), .str "", .str "a", .str "row", .ref a1, .ref a2, .ref a3, .ref a5, .ref a6, .ref a7, .ref a8] : List V)) no
    refine ⟨_, rfl, _, rfl, _, rfl, o, [.non, .bl true, .bl false, .int 0, .int (-1), .int 7, .int (10 ^ (29 : Int).toNat), .str "", .str "a", .str "row", .ref a1, .ref a2, .ref a3, .ref a5, .ref a6, .ref a7, .ref a8], rfl, .inl (SqL.of upd_same), p, _, rfl, R8.same eo, by show (0 : Int) < ((17 : Nat) : Int); decide, by show ((17 : Nat) : Int) < 10 ^ 40; decide, fun r H' r0 r1 hR' k => ?_⟩
    obtain ⟨n, rfl⟩ : ∃ n : Nat, r = (n : Int) := ⟨r.toNat, by omega⟩
    have hn : n < 17 := by
      have : (n : Int) < 17 := r1
      omega
    have ho := k _ _ (R8.ne no) upd_same
    refine ⟨o, [.non, .bl true, .bl false, .int 0, .int (-1), .int 7, .int (10 ^ (29 : Int).toNat), .str "", .str "a", .str "row", .ref a1, .ref a2, .ref a3, .ref a5, .ref a6, .ref a7, .ref a8], _, _, rfl, rfl, SqL.of ho, atI_nat (List.getElem?_eq_getElem hn), ?_⟩
    have k8 : Kp p _ H' := (same_kp eo).trans k
    have k7 := (same_kp e8).trans k8
    have k6 := (same_kp e7).trans k7
    have k5 := (same_kp e6).trans k6
    have k4 := (same_kp e5).trans k5
    have k3 := (same_kp e4).trans k4
    have k2 := (same_kp e3).trans k3
    have k1 := (same_kp e2).trans k2
    have k0 := (same_kp e1).trans k1
    suffices z : ∃ d, Td p H' _ d ∧ Sd d from let ⟨d, z, y⟩ := z; q _ d H' z y hR' k0
    match n, hn with
    | 0, _ => exact ⟨_, .non, by decide, by decide, by decide, by decide⟩
    | 1, _ => exact ⟨_, .bl true, by decide, by decide, by decide, by decide⟩
    | 2, _ => exact ⟨_, .bl false, by decide, by decide, by decide, by decide⟩
    | 3, _ => exact ⟨_, .int 0, by decide +kernel, by decide +kernel, by decide +kernel, by decide +kernel⟩
    | 4, _ => exact ⟨_, .int (-1), by decide +kernel, by decide +kernel, by decide +kernel, by decide +kernel⟩
    | 5, _ => exact ⟨_, .int 7, by decide +kernel, by decide +kernel, by decide +kernel, by decide +kernel⟩
    | 6, _ => exact ⟨_, .int (10 ^ (29 : Int).toNat), by decide +kernel, by decide +kernel, by decide +kernel, by decide +kernel⟩
    | 7, _ => exact ⟨_, .str "", by decide +kernel, by decide +kernel, by decide +kernel, by decide +kernel⟩
    | 8, _ => exact ⟨_, .str "a", by decide +kernel, by decide +kernel, by decide +kernel, by decide +kernel⟩
    | 9, _ => exact ⟨_, .str "row", by decide +kernel, by decide +kernel, by decide +kernel, by decide +kernel⟩
    | 10, _ => exact ⟨_, .tup [] (hR.ne n1) (k1 _ _ (hR.ne n1) upd_same), by decide +kernel, by decide +kernel, by decide +kernel, by decide +kernel⟩
    | 11, _ => exact ⟨_, .tup [0, 1] (R1.ne n2) (k2 _ _ (R1.ne n2) upd_same), by decide +kernel, by decide +kernel, by decide +kernel, by decide +kernel⟩
    | 12, _ => exact ⟨_, .lst (R2.ne n3) (k3 _ _ (R2.ne n3) upd_same), by decide +kernel, by decide +kernel, by decide +kernel, by decide +kernel⟩
    | 13, _ => exact ⟨_, .nst 0 (R4.ne n5) (R3.ne n4) (k5 _ _ (R4.ne n5) upd_same) (k4 _ _ (R3.ne n4) upd_same), by decide +kernel, by decide +kernel, by decide +kernel, by decide +kernel⟩
    | 14, _ => exact ⟨_, .nil (R5.ne n6) (k6 _ _ (R5.ne n6) upd_same), by decide +kernel, by decide +kernel, by decide +kernel, by decide +kernel⟩
    | 15, _ => exact ⟨_, .one "a" 1 (R6.ne n7) (k7 _ _ (R6.ne n7) upd_same), by decide +kernel, by decide +kernel, by decide +kernel, by decide +kernel⟩
    | 16, _ => exact ⟨_, .tus "insert" (R7.ne n8) (k8 _ _ (R7.ne n8) upd_same), by decide +kernel, by decide +kernel, by decide +kernel, by decide +kernel⟩
    | n + 17, h => exact absurd h (by omega)
end
end My
namespace My
open PySem PySem.Spec PyProof.Rows L2
section
variable {P : Program} {w : World} {K : PySem.W.Frag} {mg : Str → Option Value} {base : Heap}
def spMk (mg : Str → Option Value) : Sp := fun vs H Q _ => ∃ a b, vs = [a, b] ∧ ∀ l ps H', Same H H' → H l = none → H' l = some (.lst (ps.map V.ref)) → Gx.ErrsO H' ps (cls mg a b) → Q (.ref l) H'
def p4c1 (mg : Str → Option Value) (a b : V) : List Gx.Cls := [ce1 mg "InvalidBits" "value" a, ce1 mg "InvalidValue" "value" a, ce1 mg "InvalidRange" "value" a, ce1 mg "InvalidPlace" "value" a, ce1 mg "InvalidCount" "value" a]
def p4c2 (mg : Str → Option Value) (a b : V) : List Gx.Cls := [ce1 mg "InvalidName" "value" a, ce1 mg "InvalidColumns" "value" a, ce1 mg "InvalidKey" "value" a, ce1 mg "InvalidPayload" "value" a, ce1 mg "InvalidText" "value" a]
def p4c3 (mg : Str → Option Value) (a b : V) : List Gx.Cls := [ce1 mg "InvalidPoint" "value" a, ce1 mg "InvalidLimit" "value" a, ce1 mg "InvalidPage" "value" a, ce1 mg "InvalidMessage" "value" a, ce1 mg "InvalidCommand" "value" a]
def p4c4 (mg : Str → Option Value) (a b : V) : List Gx.Cls := [ce1 mg "InvalidBox" "position" a, ce1 mg "InvalidOrder" "position" a, ce1 mg "InvalidWrite" "position" a, ce1 mg "InvalidPaper" "position" a, ce2 mg "InvalidQuery" "problem" "position" a b]
def p4c5 (mg : Str → Option Value) (a b : V) : List Gx.Cls := [ce1 mg "InvalidGroups" "problem" a, ce1 mg "UnknownTable" "value" a, ce1 mg "UnknownVersion" "value" a, ce1 mg "UnknownName" "value" a]
def p4c6 (mg : Str → Option Value) (a b : V) : List Gx.Cls := [ce1 mg "UnknownTransaction" "value" a, ce1 mg "TooOld" "least" a, ce1 mg "WrongColumns" "position" a, ce1 mg "Holds" "position" a, ce1 mg "NameTaken" "name" a, ce2 mg "KeyTaken" "table" "key" a b]
def p4c7 (mg : Str → Option Value) (a b : V) : List Gx.Cls := [ce2 mg "NoSuchRow" "table" "key" a b, ce1 mg "NotClear" "key" a, ce0 mg "Unlike", ce1 mg "NoHalf" "place" a, ce1 mg "NotJoined" "place" a, ce0 mg "NotAPoint", ce1 mg "WrongLine" "line" a]
def p4c8 (mg : Str → Option Value) (a b : V) : List Gx.Cls := [ce1 mg "NotAnswer" "point" a, ce1 mg "IsAnswer" "point" a, ce1 mg "NotEmpty" "point" a, ce0 mg "Ended", ce2 mg "Changed" "act" "item" a b, ce2 mg "Violated" "name" "point" a b, ce1 mg "Held" "earliest" a]
def p4c9 (mg : Str → Option Value) (a b : V) : List Gx.Cls := [ce0 mg "Crashed", ce0 mg "DiskInUse", ce0 mg "NoStore", ce1 mg "Needs" "request" a, ce2 mg "TooMany" "kind" "limit" a b, ce1 mg "TooLarge" "count" a]
theorem p__law_by_position (T : Mo K mg) : Gx.Pr P w K mg base CX0 3 "_law_by_position" s__law_by_position ["_law_a", "_law_b"] (spMk mg) := by
  refine T.d__law_by_position.ok sc__law_by_position (fun vs H Q E h => ?_) (fun f cdv A outer s H vs Q E hr h => ?_)
  · obtain ⟨a, b, rfl, _⟩ := h
    rfl
  · obtain ⟨a, b, rfl, q⟩ := h
    refine ⟨_, (pss_cons (ps_set (i := 2) sc__law_by_position.nd rfl (Or.inl rfl) (pe_lst (Gx.pa_e1 (m_InvalidBits T) hr (by decide) (by rfl) (pa_cons (pv 0) pa_nil) (Gx.pa_e1 (m_InvalidValue T) hr (by decide) (by rfl) (pa_cons (pv 0) pa_nil) (Gx.pa_e1 (m_InvalidRange T) hr (by decide) (by rfl) (pa_cons (pv 0) pa_nil) (Gx.pa_e1 (m_InvalidPlace T) hr (by decide) (by rfl) (pa_cons (pv 0) pa_nil) (Gx.pa_e1 (m_InvalidCount T) hr (by decide) (by rfl) (pa_cons (pv 0) pa_nil) Gx.pa_e0)))))))
      (pss_cons (ps_set (i := 2) sc__law_by_position.nd rfl (Or.inl rfl) (pe_op op_cat (pv 2) (pe_lst (Gx.pa_e1 (m_InvalidName T) hr (by decide) (by rfl) (pa_cons (pv 0) pa_nil) (Gx.pa_e1 (m_InvalidColumns T) hr (by decide) (by rfl) (pa_cons (pv 0) pa_nil) (Gx.pa_e1 (m_InvalidKey T) hr (by decide) (by rfl) (pa_cons (pv 0) pa_nil) (Gx.pa_e1 (m_InvalidPayload T) hr (by decide) (by rfl) (pa_cons (pv 0) pa_nil) (Gx.pa_e1 (m_InvalidText T) hr (by decide) (by rfl) (pa_cons (pv 0) pa_nil) Gx.pa_e0))))))))
      (pss_cons (ps_set (i := 2) sc__law_by_position.nd rfl (Or.inl rfl) (pe_op op_cat (pv 2) (pe_lst (Gx.pa_e1 (m_InvalidPoint T) hr (by decide) (by rfl) (pa_cons (pv 0) pa_nil) (Gx.pa_e1 (m_InvalidLimit T) hr (by decide) (by rfl) (pa_cons (pv 0) pa_nil) (Gx.pa_e1 (m_InvalidPage T) hr (by decide) (by rfl) (pa_cons (pv 0) pa_nil) (Gx.pa_e1 (m_InvalidMessage T) hr (by decide) (by rfl) (pa_cons (pv 0) pa_nil) (Gx.pa_e1 (m_InvalidCommand T) hr (by decide) (by rfl) (pa_cons (pv 0) pa_nil) Gx.pa_e0))))))))
      (pss_cons (ps_set (i := 2) sc__law_by_position.nd rfl (Or.inl rfl) (pe_op op_cat (pv 2) (pe_lst (Gx.pa_e1 (m_InvalidBox T) hr (by decide) (by rfl) (pa_cons (pv 0) pa_nil) (Gx.pa_e1 (m_InvalidOrder T) hr (by decide) (by rfl) (pa_cons (pv 0) pa_nil) (Gx.pa_e1 (m_InvalidWrite T) hr (by decide) (by rfl) (pa_cons (pv 0) pa_nil) (Gx.pa_e1 (m_InvalidPaper T) hr (by decide) (by rfl) (pa_cons (pv 0) pa_nil) (Gx.pa_e2 (m_InvalidQuery T) hr (by decide) (by rfl) (pa_cons (pv 0) (pa_cons (pv 1) pa_nil)) Gx.pa_e0))))))))
      (pss_cons (ps_set (i := 2) sc__law_by_position.nd rfl (Or.inl rfl) (pe_op op_cat (pv 2) (pe_lst (Gx.pa_e1 (m_InvalidGroups T) hr (by decide) (by rfl) (pa_cons (pv 0) pa_nil) (Gx.pa_e1 (m_UnknownTable T) hr (by decide) (by rfl) (pa_cons (pv 0) pa_nil) (Gx.pa_e1 (m_UnknownVersion T) hr (by decide) (by rfl) (pa_cons (pv 0) pa_nil) (Gx.pa_e1 (m_UnknownName T) hr (by decide) (by rfl) (pa_cons (pv 0) pa_nil) Gx.pa_e0)))))))
      (pss_cons (ps_set (i := 2) sc__law_by_position.nd rfl (Or.inl rfl) (pe_op op_cat (pv 2) (pe_lst (Gx.pa_e1 (m_UnknownTransaction T) hr (by decide) (by rfl) (pa_cons (pv 0) pa_nil) (Gx.pa_e1 (m_TooOld T) hr (by decide) (by rfl) (pa_cons (pv 0) pa_nil) (Gx.pa_e1 (m_WrongColumns T) hr (by decide) (by rfl) (pa_cons (pv 0) pa_nil) (Gx.pa_e1 (m_Holds T) hr (by decide) (by rfl) (pa_cons (pv 0) pa_nil) (Gx.pa_e1 (m_NameTaken T) hr (by decide) (by rfl) (pa_cons (pv 0) pa_nil) (Gx.pa_e2 (m_KeyTaken T) hr (by decide) (by rfl) (pa_cons (pv 0) (pa_cons (pv 1) pa_nil)) Gx.pa_e0)))))))))
      (pss_cons (ps_set (i := 2) sc__law_by_position.nd rfl (Or.inl rfl) (pe_op op_cat (pv 2) (pe_lst (Gx.pa_e2 (m_NoSuchRow T) hr (by decide) (by rfl) (pa_cons (pv 0) (pa_cons (pv 1) pa_nil)) (Gx.pa_e1 (m_NotClear T) hr (by decide) (by rfl) (pa_cons (pv 0) pa_nil) (Gx.pa_en T.en_Unlike (by rfl) (Gx.pa_e1 (m_NoHalf T) hr (by decide) (by rfl) (pa_cons (pv 0) pa_nil) (Gx.pa_e1 (m_NotJoined T) hr (by decide) (by rfl) (pa_cons (pv 0) pa_nil) (Gx.pa_en T.en_NotAPoint (by rfl) (Gx.pa_e1 (m_WrongLine T) hr (by decide) (by rfl) (pa_cons (pv 0) pa_nil) Gx.pa_e0))))))))))
      (pss_cons (ps_set (i := 2) sc__law_by_position.nd rfl (Or.inl rfl) (pe_op op_cat (pv 2) (pe_lst (Gx.pa_e1 (m_NotAnswer T) hr (by decide) (by rfl) (pa_cons (pv 0) pa_nil) (Gx.pa_e1 (m_IsAnswer T) hr (by decide) (by rfl) (pa_cons (pv 0) pa_nil) (Gx.pa_e1 (m_NotEmpty T) hr (by decide) (by rfl) (pa_cons (pv 0) pa_nil) (Gx.pa_en T.en_Ended (by rfl) (Gx.pa_e2 (m_Changed T) hr (by decide) (by rfl) (pa_cons (pv 0) (pa_cons (pv 1) pa_nil)) (Gx.pa_e2 (m_Violated T) hr (by decide) (by rfl) (pa_cons (pv 0) (pa_cons (pv 1) pa_nil)) (Gx.pa_e1 (m_Held T) hr (by decide) (by rfl) (pa_cons (pv 0) pa_nil) Gx.pa_e0))))))))))
      (pss_cons (ps_set (i := 2) sc__law_by_position.nd rfl (Or.inl rfl) (pe_op op_cat (pv 2) (pe_lst (Gx.pa_en T.en_Crashed (by rfl) (Gx.pa_en T.en_DiskInUse (by rfl) (Gx.pa_en T.en_NoStore (by rfl) (Gx.pa_e1 (m_Needs T) hr (by decide) (by rfl) (pa_cons (pv 0) pa_nil) (Gx.pa_e2 (m_TooMany T) hr (by decide) (by rfl) (pa_cons (pv 0) (pa_cons (pv 1) pa_nil)) (Gx.pa_e1 (m_TooLarge T) hr (by decide) (by rfl) (pa_cons (pv 0) pa_nil) Gx.pa_e0)))))))))
      (pss_one (ps_ret (pv 2)))))))))))), ?_⟩
    refine ⟨(p4c1 mg a b), rfl, fun p1 H1 s1 e1 => ⟨by rw [List.length_map, e1.len]; show 5 ≤ sizeLine; decide, fun l1 m1 => ?_⟩⟩
    have E1 := e1.same (Same.upd (o := .lst (p1.map V.ref)) m1)
    have S1 := s1.trans (Same.upd (o := .lst (p1.map V.ref)) m1)
    have h1 : (upd H1 l1 (.lst (p1.map V.ref))) l1 = some (.lst (p1.map V.ref)) := upd_same
    have N1 := s1.free m1
    refine ⟨_, rfl, (p4c2 mg a b), rfl, fun p2 H2 s2 e2 => ⟨by rw [List.length_map, e2.len]; show 5 ≤ sizeLine; decide, fun q2 n2 => ⟨l1, q2, (p1).map V.ref, p2.map V.ref, rfl, rfl, (by rw [upd_ne (ne_of_none (s2 _ _ h1) n2)]; exact s2 _ _ h1), upd_same, (by rw [List.length_map, List.length_map, E1.len, e2.len]; show 5 + 5 ≤ sizeLine; decide), fun l2 m2 => ?_⟩⟩⟩
    have t2 := (Same.upd (o := .lst (p2.map V.ref)) n2).trans (Same.upd (o := .lst ((p1).map V.ref ++ p2.map V.ref)) m2)
    have E2 := (E1.same (s2.trans t2)).app (e2.same t2)
    have N2 := S1.free (s2.free (Same.free (Same.upd (o := .lst (p2.map V.ref)) n2) m2))
    have S2 := S1.trans (s2.trans t2)
    have h2 : (upd (upd H2 q2 (.lst (p2.map V.ref))) l2 (.lst ((p1).map V.ref ++ p2.map V.ref))) l2 = some (.lst ((p1 ++ p2).map V.ref)) := by rw [show List.map V.ref (p1 ++ p2) = List.map V.ref (p1) ++ List.map V.ref p2 from List.map_append]; exact upd_same
    refine ⟨_, rfl, (p4c3 mg a b), rfl, fun p3 H3 s3 e3 => ⟨by rw [List.length_map, e3.len]; show 5 ≤ sizeLine; decide, fun q3 n3 => ⟨l2, q3, (p1 ++ p2).map V.ref, p3.map V.ref, rfl, rfl, (by rw [upd_ne (ne_of_none (s3 _ _ h2) n3)]; exact s3 _ _ h2), upd_same, (by rw [List.length_map, List.length_map, E2.len, e3.len]; show 10 + 5 ≤ sizeLine; decide), fun l3 m3 => ?_⟩⟩⟩
    have t3 := (Same.upd (o := .lst (p3.map V.ref)) n3).trans (Same.upd (o := .lst ((p1 ++ p2).map V.ref ++ p3.map V.ref)) m3)
    have E3 := (E2.same (s3.trans t3)).app (e3.same t3)
    have N3 := S2.free (s3.free (Same.free (Same.upd (o := .lst (p3.map V.ref)) n3) m3))
    have S3 := S2.trans (s3.trans t3)
    have h3 : (upd (upd H3 q3 (.lst (p3.map V.ref))) l3 (.lst ((p1 ++ p2).map V.ref ++ p3.map V.ref))) l3 = some (.lst ((p1 ++ p2 ++ p3).map V.ref)) := by rw [show List.map V.ref (p1 ++ p2 ++ p3) = List.map V.ref (p1 ++ p2) ++ List.map V.ref p3 from List.map_append]; exact upd_same
    refine ⟨_, rfl, (p4c4 mg a b), rfl, fun p4 H4 s4 e4 => ⟨by rw [List.length_map, e4.len]; show 5 ≤ sizeLine; decide, fun q4 n4 => ⟨l3, q4, (p1 ++ p2 ++ p3).map V.ref, p4.map V.ref, rfl, rfl, (by rw [upd_ne (ne_of_none (s4 _ _ h3) n4)]; exact s4 _ _ h3), upd_same, (by rw [List.length_map, List.length_map, E3.len, e4.len]; show 15 + 5 ≤ sizeLine; decide), fun l4 m4 => ?_⟩⟩⟩
    have t4 := (Same.upd (o := .lst (p4.map V.ref)) n4).trans (Same.upd (o := .lst ((p1 ++ p2 ++ p3).map V.ref ++ p4.map V.ref)) m4)
    have E4 := (E3.same (s4.trans t4)).app (e4.same t4)
    have N4 := S3.free (s4.free (Same.free (Same.upd (o := .lst (p4.map V.ref)) n4) m4))
    have S4 := S3.trans (s4.trans t4)
    have h4 : (upd (upd H4 q4 (.lst (p4.map V.ref))) l4 (.lst ((p1 ++ p2 ++ p3).map V.ref ++ p4.map V.ref))) l4 = some (.lst ((p1 ++ p2 ++ p3 ++ p4).map V.ref)) := by rw [show List.map V.ref (p1 ++ p2 ++ p3 ++ p4) = List.map V.ref (p1 ++ p2 ++ p3) ++ List.map V.ref p4 from List.map_append]; exact upd_same
    refine ⟨_, rfl, (p4c5 mg a b), rfl, fun p5 H5 s5 e5 => ⟨by rw [List.length_map, e5.len]; show 4 ≤ sizeLine; decide, fun q5 n5 => ⟨l4, q5, (p1 ++ p2 ++ p3 ++ p4).map V.ref, p5.map V.ref, rfl, rfl, (by rw [upd_ne (ne_of_none (s5 _ _ h4) n5)]; exact s5 _ _ h4), upd_same, (by rw [List.length_map, List.length_map, E4.len, e5.len]; show 20 + 4 ≤ sizeLine; decide), fun l5 m5 => ?_⟩⟩⟩
    have t5 := (Same.upd (o := .lst (p5.map V.ref)) n5).trans (Same.upd (o := .lst ((p1 ++ p2 ++ p3 ++ p4).map V.ref ++ p5.map V.ref)) m5)
    have E5 := (E4.same (s5.trans t5)).app (e5.same t5)
    have N5 := S4.free (s5.free (Same.free (Same.upd (o := .lst (p5.map V.ref)) n5) m5))
    have S5 := S4.trans (s5.trans t5)
    have h5 : (upd (upd H5 q5 (.lst (p5.map V.ref))) l5 (.lst ((p1 ++ p2 ++ p3 ++ p4).map V.ref ++ p5.map V.ref))) l5 = some (.lst ((p1 ++ p2 ++ p3 ++ p4 ++ p5).map V.ref)) := by rw [show List.map V.ref (p1 ++ p2 ++ p3 ++ p4 ++ p5) = List.map V.ref (p1 ++ p2 ++ p3 ++ p4) ++ List.map V.ref p5 from List.map_append]; exact upd_same
    refine ⟨_, rfl, (p4c6 mg a b), rfl, fun p6 H6 s6 e6 => ⟨by rw [List.length_map, e6.len]; show 6 ≤ sizeLine; decide, fun q6 n6 => ⟨l5, q6, (p1 ++ p2 ++ p3 ++ p4 ++ p5).map V.ref, p6.map V.ref, rfl, rfl, (by rw [upd_ne (ne_of_none (s6 _ _ h5) n6)]; exact s6 _ _ h5), upd_same, (by rw [List.length_map, List.length_map, E5.len, e6.len]; show 24 + 6 ≤ sizeLine; decide), fun l6 m6 => ?_⟩⟩⟩
    have t6 := (Same.upd (o := .lst (p6.map V.ref)) n6).trans (Same.upd (o := .lst ((p1 ++ p2 ++ p3 ++ p4 ++ p5).map V.ref ++ p6.map V.ref)) m6)
    have E6 := (E5.same (s6.trans t6)).app (e6.same t6)
    have N6 := S5.free (s6.free (Same.free (Same.upd (o := .lst (p6.map V.ref)) n6) m6))
    have S6 := S5.trans (s6.trans t6)
    have h6 : (upd (upd H6 q6 (.lst (p6.map V.ref))) l6 (.lst ((p1 ++ p2 ++ p3 ++ p4 ++ p5).map V.ref ++ p6.map V.ref))) l6 = some (.lst ((p1 ++ p2 ++ p3 ++ p4 ++ p5 ++ p6).map V.ref)) := by rw [show List.map V.ref (p1 ++ p2 ++ p3 ++ p4 ++ p5 ++ p6) = List.map V.ref (p1 ++ p2 ++ p3 ++ p4 ++ p5) ++ List.map V.ref p6 from List.map_append]; exact upd_same
    refine ⟨_, rfl, (p4c7 mg a b), rfl, fun p7 H7 s7 e7 => ⟨by rw [List.length_map, e7.len]; show 7 ≤ sizeLine; decide, fun q7 n7 => ⟨l6, q7, (p1 ++ p2 ++ p3 ++ p4 ++ p5 ++ p6).map V.ref, p7.map V.ref, rfl, rfl, (by rw [upd_ne (ne_of_none (s7 _ _ h6) n7)]; exact s7 _ _ h6), upd_same, (by rw [List.length_map, List.length_map, E6.len, e7.len]; show 30 + 7 ≤ sizeLine; decide), fun l7 m7 => ?_⟩⟩⟩
    have t7 := (Same.upd (o := .lst (p7.map V.ref)) n7).trans (Same.upd (o := .lst ((p1 ++ p2 ++ p3 ++ p4 ++ p5 ++ p6).map V.ref ++ p7.map V.ref)) m7)
    have E7 := (E6.same (s7.trans t7)).app (e7.same t7)
    have N7 := S6.free (s7.free (Same.free (Same.upd (o := .lst (p7.map V.ref)) n7) m7))
    have S7 := S6.trans (s7.trans t7)
    have h7 : (upd (upd H7 q7 (.lst (p7.map V.ref))) l7 (.lst ((p1 ++ p2 ++ p3 ++ p4 ++ p5 ++ p6).map V.ref ++ p7.map V.ref))) l7 = some (.lst ((p1 ++ p2 ++ p3 ++ p4 ++ p5 ++ p6 ++ p7).map V.ref)) := by rw [show List.map V.ref (p1 ++ p2 ++ p3 ++ p4 ++ p5 ++ p6 ++ p7) = List.map V.ref (p1 ++ p2 ++ p3 ++ p4 ++ p5 ++ p6) ++ List.map V.ref p7 from List.map_append]; exact upd_same
    refine ⟨_, rfl, (p4c8 mg a b), rfl, fun p8 H8 s8 e8 => ⟨by rw [List.length_map, e8.len]; show 7 ≤ sizeLine; decide, fun q8 n8 => ⟨l7, q8, (p1 ++ p2 ++ p3 ++ p4 ++ p5 ++ p6 ++ p7).map V.ref, p8.map V.ref, rfl, rfl, (by rw [upd_ne (ne_of_none (s8 _ _ h7) n8)]; exact s8 _ _ h7), upd_same, (by rw [List.length_map, List.length_map, E7.len, e8.len]; show 37 + 7 ≤ sizeLine; decide), fun l8 m8 => ?_⟩⟩⟩
    have t8 := (Same.upd (o := .lst (p8.map V.ref)) n8).trans (Same.upd (o := .lst ((p1 ++ p2 ++ p3 ++ p4 ++ p5 ++ p6 ++ p7).map V.ref ++ p8.map V.ref)) m8)
    have E8 := (E7.same (s8.trans t8)).app (e8.same t8)
    have N8 := S7.free (s8.free (Same.free (Same.upd (o := .lst (p8.map V.ref)) n8) m8))
    have S8 := S7.trans (s8.trans t8)
    have h8 : (upd (upd H8 q8 (.lst (p8.map V.ref))) l8 (.lst ((p1 ++ p2 ++ p3 ++ p4 ++ p5 ++ p6 ++ p7).map V.ref ++ p8.map V.ref))) l8 = some (.lst ((p1 ++ p2 ++ p3 ++ p4 ++ p5 ++ p6 ++ p7 ++ p8).map V.ref)) := by rw [show List.map V.ref (p1 ++ p2 ++ p3 ++ p4 ++ p5 ++ p6 ++ p7 ++ p8) = List.map V.ref (p1 ++ p2 ++ p3 ++ p4 ++ p5 ++ p6 ++ p7) ++ List.map V.ref p8 from List.map_append]; exact upd_same
    refine ⟨_, rfl, (p4c9 mg a b), rfl, fun p9 H9 s9 e9 => ⟨by rw [List.length_map, e9.len]; show 6 ≤ sizeLine; decide, fun q9 n9 => ⟨l8, q9, (p1 ++ p2 ++ p3 ++ p4 ++ p5 ++ p6 ++ p7 ++ p8).map V.ref, p9.map V.ref, rfl, rfl, (by rw [upd_ne (ne_of_none (s9 _ _ h8) n9)]; exact s9 _ _ h8), upd_same, (by rw [List.length_map, List.length_map, E8.len, e9.len]; show 44 + 6 ≤ sizeLine; decide), fun l9 m9 => ?_⟩⟩⟩
    have t9 := (Same.upd (o := .lst (p9.map V.ref)) n9).trans (Same.upd (o := .lst ((p1 ++ p2 ++ p3 ++ p4 ++ p5 ++ p6 ++ p7 ++ p8).map V.ref ++ p9.map V.ref)) m9)
    have E9 := (E8.same (s9.trans t9)).app (e9.same t9)
    have N9 := S8.free (s9.free (Same.free (Same.upd (o := .lst (p9.map V.ref)) n9) m9))
    have S9 := S8.trans (s9.trans t9)
    have h9 : (upd (upd H9 q9 (.lst (p9.map V.ref))) l9 (.lst ((p1 ++ p2 ++ p3 ++ p4 ++ p5 ++ p6 ++ p7 ++ p8).map V.ref ++ p9.map V.ref))) l9 = some (.lst ((p1 ++ p2 ++ p3 ++ p4 ++ p5 ++ p6 ++ p7 ++ p8 ++ p9).map V.ref)) := by rw [show List.map V.ref (p1 ++ p2 ++ p3 ++ p4 ++ p5 ++ p6 ++ p7 ++ p8 ++ p9) = List.map V.ref (p1 ++ p2 ++ p3 ++ p4 ++ p5 ++ p6 ++ p7 ++ p8) ++ List.map V.ref p9 from List.map_append]; exact upd_same
    exact ⟨_, rfl, q _ _ _ S9 N9 h9 E9⟩
end
end My
namespace My
open PySem PySem.Spec PyProof.Rows L2
section
variable {P : Program} {w : World} {K : PySem.W.Frag} {mg : Str → Option Value} {base : Heap}
def p5c1 (mg : Str → Option Value) (a b : V) : List Gx.Cls := [ce1 mg "InvalidBits" "value" a, ce1 mg "InvalidValue" "value" a, ce1 mg "InvalidRange" "value" a, ce1 mg "InvalidPlace" "value" a]
def p5c2 (mg : Str → Option Value) (a b : V) : List Gx.Cls := [ce1 mg "InvalidCount" "value" a, ce1 mg "InvalidName" "value" a, ce1 mg "InvalidColumns" "value" a, ce1 mg "InvalidKey" "value" a]
def p5c3 (mg : Str → Option Value) (a b : V) : List Gx.Cls := [ce1 mg "InvalidPayload" "value" a, ce1 mg "InvalidText" "value" a, ce1 mg "InvalidPoint" "value" a]
def p5c4 (mg : Str → Option Value) (a b : V) : List Gx.Cls := [ce1 mg "InvalidLimit" "value" a, ce1 mg "InvalidPage" "value" a, ce1 mg "InvalidMessage" "value" a]
def p5c5 (mg : Str → Option Value) (a b : V) : List Gx.Cls := [ce1 mg "InvalidCommand" "value" a, ce1 mg "InvalidBox" "position" a, ce1 mg "InvalidOrder" "position" a]
def p5c6 (mg : Str → Option Value) (a b : V) : List Gx.Cls := [ce1 mg "InvalidWrite" "position" a, ce1 mg "InvalidPaper" "position" a, ce2 mg "InvalidQuery" "problem" "position" a b]
def p5c7 (mg : Str → Option Value) (a b : V) : List Gx.Cls := [ce1 mg "InvalidGroups" "problem" a, ce1 mg "UnknownTable" "value" a, ce1 mg "UnknownVersion" "value" a]
def p5c8 (mg : Str → Option Value) (a b : V) : List Gx.Cls := [ce1 mg "UnknownName" "value" a, ce1 mg "UnknownTransaction" "value" a, ce1 mg "TooOld" "least" a]
def p5c9 (mg : Str → Option Value) (a b : V) : List Gx.Cls := [ce1 mg "WrongColumns" "position" a, ce1 mg "Holds" "position" a, ce1 mg "NameTaken" "name" a, ce2 mg "KeyTaken" "table" "key" a b]
def p5c10 (mg : Str → Option Value) (a b : V) : List Gx.Cls := [ce2 mg "NoSuchRow" "table" "key" a b, ce1 mg "NotClear" "key" a, ce0 mg "Unlike", ce1 mg "NoHalf" "place" a, ce1 mg "NotJoined" "place" a]
def p5c11 (mg : Str → Option Value) (a b : V) : List Gx.Cls := [ce0 mg "NotAPoint", ce1 mg "WrongLine" "line" a, ce1 mg "NotAnswer" "point" a, ce1 mg "IsAnswer" "point" a, ce1 mg "NotEmpty" "point" a]
def p5c12 (mg : Str → Option Value) (a b : V) : List Gx.Cls := [ce0 mg "Ended", ce2 mg "Changed" "act" "item" a b, ce2 mg "Violated" "name" "point" a b, ce1 mg "Held" "earliest" a, ce0 mg "Crashed"]
def p5c13 (mg : Str → Option Value) (a b : V) : List Gx.Cls := [ce0 mg "DiskInUse", ce0 mg "NoStore", ce1 mg "Needs" "request" a, ce2 mg "TooMany" "kind" "limit" a b, ce1 mg "TooLarge" "count" a]
theorem p__law_by_name (T : Mo K mg) : Gx.Pr P w K mg base CX0 3 "_law_by_name" s__law_by_name ["_law_a", "_law_b"] (spMk mg) := by
  refine T.d__law_by_name.ok sc__law_by_name (fun vs H Q E h => ?_) (fun f cdv A outer s H vs Q E hr h => ?_)
  · obtain ⟨a, b, rfl, _⟩ := h
    rfl
  · obtain ⟨a, b, rfl, q⟩ := h
    refine ⟨_, (pss_cons (ps_set (i := 2) sc__law_by_name.nd rfl (Or.inl rfl) (pe_lst (Gx.pa_k1 (m_InvalidBits T) hr (by decide) (by rfl) (pv 0) (Gx.pa_k1 (m_InvalidValue T) hr (by decide) (by rfl) (pv 0) (Gx.pa_k1 (m_InvalidRange T) hr (by decide) (by rfl) (pv 0) (Gx.pa_k1 (m_InvalidPlace T) hr (by decide) (by rfl) (pv 0) Gx.pa_e0))))))
      (pss_cons (ps_set (i := 2) sc__law_by_name.nd rfl (Or.inl rfl) (pe_op op_cat (pv 2) (pe_lst (Gx.pa_k1 (m_InvalidCount T) hr (by decide) (by rfl) (pv 0) (Gx.pa_k1 (m_InvalidName T) hr (by decide) (by rfl) (pv 0) (Gx.pa_k1 (m_InvalidColumns T) hr (by decide) (by rfl) (pv 0) (Gx.pa_k1 (m_InvalidKey T) hr (by decide) (by rfl) (pv 0) Gx.pa_e0)))))))
      (pss_cons (ps_set (i := 2) sc__law_by_name.nd rfl (Or.inl rfl) (pe_op op_cat (pv 2) (pe_lst (Gx.pa_k1 (m_InvalidPayload T) hr (by decide) (by rfl) (pv 0) (Gx.pa_k1 (m_InvalidText T) hr (by decide) (by rfl) (pv 0) (Gx.pa_k1 (m_InvalidPoint T) hr (by decide) (by rfl) (pv 0) Gx.pa_e0))))))
      (pss_cons (ps_set (i := 2) sc__law_by_name.nd rfl (Or.inl rfl) (pe_op op_cat (pv 2) (pe_lst (Gx.pa_k1 (m_InvalidLimit T) hr (by decide) (by rfl) (pv 0) (Gx.pa_k1 (m_InvalidPage T) hr (by decide) (by rfl) (pv 0) (Gx.pa_k1 (m_InvalidMessage T) hr (by decide) (by rfl) (pv 0) Gx.pa_e0))))))
      (pss_cons (ps_set (i := 2) sc__law_by_name.nd rfl (Or.inl rfl) (pe_op op_cat (pv 2) (pe_lst (Gx.pa_k1 (m_InvalidCommand T) hr (by decide) (by rfl) (pv 0) (Gx.pa_k1 (m_InvalidBox T) hr (by decide) (by rfl) (pv 0) (Gx.pa_k1 (m_InvalidOrder T) hr (by decide) (by rfl) (pv 0) Gx.pa_e0))))))
      (pss_cons (ps_set (i := 2) sc__law_by_name.nd rfl (Or.inl rfl) (pe_op op_cat (pv 2) (pe_lst (Gx.pa_k1 (m_InvalidWrite T) hr (by decide) (by rfl) (pv 0) (Gx.pa_k1 (m_InvalidPaper T) hr (by decide) (by rfl) (pv 0) (Gx.pa_k2 (m_InvalidQuery T) hr (by decide) (by rfl) (pv 0) (pv 1) Gx.pa_e0))))))
      (pss_cons (ps_set (i := 2) sc__law_by_name.nd rfl (Or.inl rfl) (pe_op op_cat (pv 2) (pe_lst (Gx.pa_k1 (m_InvalidGroups T) hr (by decide) (by rfl) (pv 0) (Gx.pa_k1 (m_UnknownTable T) hr (by decide) (by rfl) (pv 0) (Gx.pa_k1 (m_UnknownVersion T) hr (by decide) (by rfl) (pv 0) Gx.pa_e0))))))
      (pss_cons (ps_set (i := 2) sc__law_by_name.nd rfl (Or.inl rfl) (pe_op op_cat (pv 2) (pe_lst (Gx.pa_k1 (m_UnknownName T) hr (by decide) (by rfl) (pv 0) (Gx.pa_k1 (m_UnknownTransaction T) hr (by decide) (by rfl) (pv 0) (Gx.pa_k1 (m_TooOld T) hr (by decide) (by rfl) (pv 0) Gx.pa_e0))))))
      (pss_cons (ps_set (i := 2) sc__law_by_name.nd rfl (Or.inl rfl) (pe_op op_cat (pv 2) (pe_lst (Gx.pa_k1 (m_WrongColumns T) hr (by decide) (by rfl) (pv 0) (Gx.pa_k1 (m_Holds T) hr (by decide) (by rfl) (pv 0) (Gx.pa_k1 (m_NameTaken T) hr (by decide) (by rfl) (pv 0) (Gx.pa_k2 (m_KeyTaken T) hr (by decide) (by rfl) (pv 0) (pv 1) Gx.pa_e0)))))))
      (pss_cons (ps_set (i := 2) sc__law_by_name.nd rfl (Or.inl rfl) (pe_op op_cat (pv 2) (pe_lst (Gx.pa_k2 (m_NoSuchRow T) hr (by decide) (by rfl) (pv 0) (pv 1) (Gx.pa_k1 (m_NotClear T) hr (by decide) (by rfl) (pv 0) (Gx.pa_en T.en_Unlike (by rfl) (Gx.pa_k1 (m_NoHalf T) hr (by decide) (by rfl) (pv 0) (Gx.pa_k1 (m_NotJoined T) hr (by decide) (by rfl) (pv 0) Gx.pa_e0))))))))
      (pss_cons (ps_set (i := 2) sc__law_by_name.nd rfl (Or.inl rfl) (pe_op op_cat (pv 2) (pe_lst (Gx.pa_en T.en_NotAPoint (by rfl) (Gx.pa_k1 (m_WrongLine T) hr (by decide) (by rfl) (pv 0) (Gx.pa_k1 (m_NotAnswer T) hr (by decide) (by rfl) (pv 0) (Gx.pa_k1 (m_IsAnswer T) hr (by decide) (by rfl) (pv 0) (Gx.pa_k1 (m_NotEmpty T) hr (by decide) (by rfl) (pv 0) Gx.pa_e0))))))))
      (pss_cons (ps_set (i := 2) sc__law_by_name.nd rfl (Or.inl rfl) (pe_op op_cat (pv 2) (pe_lst (Gx.pa_en T.en_Ended (by rfl) (Gx.pa_k2 (m_Changed T) hr (by decide) (by rfl) (pv 0) (pv 1) (Gx.pa_k2 (m_Violated T) hr (by decide) (by rfl) (pv 0) (pv 1) (Gx.pa_k1 (m_Held T) hr (by decide) (by rfl) (pv 0) (Gx.pa_en T.en_Crashed (by rfl) Gx.pa_e0))))))))
      (pss_cons (ps_set (i := 2) sc__law_by_name.nd rfl (Or.inl rfl) (pe_op op_cat (pv 2) (pe_lst (Gx.pa_en T.en_DiskInUse (by rfl) (Gx.pa_en T.en_NoStore (by rfl) (Gx.pa_k1 (m_Needs T) hr (by decide) (by rfl) (pv 0) (Gx.pa_k2 (m_TooMany T) hr (by decide) (by rfl) (pv 0) (pv 1) (Gx.pa_k1 (m_TooLarge T) hr (by decide) (by rfl) (pv 0) Gx.pa_e0))))))))
      (pss_one (ps_ret (pv 2)))))))))))))))), ?_⟩
    refine ⟨(p5c1 mg a b), rfl, fun p1 H1 s1 e1 => ⟨by rw [List.length_map, e1.len]; show 4 ≤ sizeLine; decide, fun l1 m1 => ?_⟩⟩
    have E1 := e1.same (Same.upd (o := .lst (p1.map V.ref)) m1)
    have S1 := s1.trans (Same.upd (o := .lst (p1.map V.ref)) m1)
    have h1 : (upd H1 l1 (.lst (p1.map V.ref))) l1 = some (.lst (p1.map V.ref)) := upd_same
    have N1 := s1.free m1
    refine ⟨_, rfl, (p5c2 mg a b), rfl, fun p2 H2 s2 e2 => ⟨by rw [List.length_map, e2.len]; show 4 ≤ sizeLine; decide, fun q2 n2 => ⟨l1, q2, (p1).map V.ref, p2.map V.ref, rfl, rfl, (by rw [upd_ne (ne_of_none (s2 _ _ h1) n2)]; exact s2 _ _ h1), upd_same, (by rw [List.length_map, List.length_map, E1.len, e2.len]; show 4 + 4 ≤ sizeLine; decide), fun l2 m2 => ?_⟩⟩⟩
    have t2 := (Same.upd (o := .lst (p2.map V.ref)) n2).trans (Same.upd (o := .lst ((p1).map V.ref ++ p2.map V.ref)) m2)
    have E2 := (E1.same (s2.trans t2)).app (e2.same t2)
    have N2 := S1.free (s2.free (Same.free (Same.upd (o := .lst (p2.map V.ref)) n2) m2))
    have S2 := S1.trans (s2.trans t2)
    have h2 : (upd (upd H2 q2 (.lst (p2.map V.ref))) l2 (.lst ((p1).map V.ref ++ p2.map V.ref))) l2 = some (.lst ((p1 ++ p2).map V.ref)) := by rw [show List.map V.ref (p1 ++ p2) = List.map V.ref (p1) ++ List.map V.ref p2 from List.map_append]; exact upd_same
    refine ⟨_, rfl, (p5c3 mg a b), rfl, fun p3 H3 s3 e3 => ⟨by rw [List.length_map, e3.len]; show 3 ≤ sizeLine; decide, fun q3 n3 => ⟨l2, q3, (p1 ++ p2).map V.ref, p3.map V.ref, rfl, rfl, (by rw [upd_ne (ne_of_none (s3 _ _ h2) n3)]; exact s3 _ _ h2), upd_same, (by rw [List.length_map, List.length_map, E2.len, e3.len]; show 8 + 3 ≤ sizeLine; decide), fun l3 m3 => ?_⟩⟩⟩
    have t3 := (Same.upd (o := .lst (p3.map V.ref)) n3).trans (Same.upd (o := .lst ((p1 ++ p2).map V.ref ++ p3.map V.ref)) m3)
    have E3 := (E2.same (s3.trans t3)).app (e3.same t3)
    have N3 := S2.free (s3.free (Same.free (Same.upd (o := .lst (p3.map V.ref)) n3) m3))
    have S3 := S2.trans (s3.trans t3)
    have h3 : (upd (upd H3 q3 (.lst (p3.map V.ref))) l3 (.lst ((p1 ++ p2).map V.ref ++ p3.map V.ref))) l3 = some (.lst ((p1 ++ p2 ++ p3).map V.ref)) := by rw [show List.map V.ref (p1 ++ p2 ++ p3) = List.map V.ref (p1 ++ p2) ++ List.map V.ref p3 from List.map_append]; exact upd_same
    refine ⟨_, rfl, (p5c4 mg a b), rfl, fun p4 H4 s4 e4 => ⟨by rw [List.length_map, e4.len]; show 3 ≤ sizeLine; decide, fun q4 n4 => ⟨l3, q4, (p1 ++ p2 ++ p3).map V.ref, p4.map V.ref, rfl, rfl, (by rw [upd_ne (ne_of_none (s4 _ _ h3) n4)]; exact s4 _ _ h3), upd_same, (by rw [List.length_map, List.length_map, E3.len, e4.len]; show 11 + 3 ≤ sizeLine; decide), fun l4 m4 => ?_⟩⟩⟩
    have t4 := (Same.upd (o := .lst (p4.map V.ref)) n4).trans (Same.upd (o := .lst ((p1 ++ p2 ++ p3).map V.ref ++ p4.map V.ref)) m4)
    have E4 := (E3.same (s4.trans t4)).app (e4.same t4)
    have N4 := S3.free (s4.free (Same.free (Same.upd (o := .lst (p4.map V.ref)) n4) m4))
    have S4 := S3.trans (s4.trans t4)
    have h4 : (upd (upd H4 q4 (.lst (p4.map V.ref))) l4 (.lst ((p1 ++ p2 ++ p3).map V.ref ++ p4.map V.ref))) l4 = some (.lst ((p1 ++ p2 ++ p3 ++ p4).map V.ref)) := by rw [show List.map V.ref (p1 ++ p2 ++ p3 ++ p4) = List.map V.ref (p1 ++ p2 ++ p3) ++ List.map V.ref p4 from List.map_append]; exact upd_same
    refine ⟨_, rfl, (p5c5 mg a b), rfl, fun p5 H5 s5 e5 => ⟨by rw [List.length_map, e5.len]; show 3 ≤ sizeLine; decide, fun q5 n5 => ⟨l4, q5, (p1 ++ p2 ++ p3 ++ p4).map V.ref, p5.map V.ref, rfl, rfl, (by rw [upd_ne (ne_of_none (s5 _ _ h4) n5)]; exact s5 _ _ h4), upd_same, (by rw [List.length_map, List.length_map, E4.len, e5.len]; show 14 + 3 ≤ sizeLine; decide), fun l5 m5 => ?_⟩⟩⟩
    have t5 := (Same.upd (o := .lst (p5.map V.ref)) n5).trans (Same.upd (o := .lst ((p1 ++ p2 ++ p3 ++ p4).map V.ref ++ p5.map V.ref)) m5)
    have E5 := (E4.same (s5.trans t5)).app (e5.same t5)
    have N5 := S4.free (s5.free (Same.free (Same.upd (o := .lst (p5.map V.ref)) n5) m5))
    have S5 := S4.trans (s5.trans t5)
    have h5 : (upd (upd H5 q5 (.lst (p5.map V.ref))) l5 (.lst ((p1 ++ p2 ++ p3 ++ p4).map V.ref ++ p5.map V.ref))) l5 = some (.lst ((p1 ++ p2 ++ p3 ++ p4 ++ p5).map V.ref)) := by rw [show List.map V.ref (p1 ++ p2 ++ p3 ++ p4 ++ p5) = List.map V.ref (p1 ++ p2 ++ p3 ++ p4) ++ List.map V.ref p5 from List.map_append]; exact upd_same
    refine ⟨_, rfl, (p5c6 mg a b), rfl, fun p6 H6 s6 e6 => ⟨by rw [List.length_map, e6.len]; show 3 ≤ sizeLine; decide, fun q6 n6 => ⟨l5, q6, (p1 ++ p2 ++ p3 ++ p4 ++ p5).map V.ref, p6.map V.ref, rfl, rfl, (by rw [upd_ne (ne_of_none (s6 _ _ h5) n6)]; exact s6 _ _ h5), upd_same, (by rw [List.length_map, List.length_map, E5.len, e6.len]; show 17 + 3 ≤ sizeLine; decide), fun l6 m6 => ?_⟩⟩⟩
    have t6 := (Same.upd (o := .lst (p6.map V.ref)) n6).trans (Same.upd (o := .lst ((p1 ++ p2 ++ p3 ++ p4 ++ p5).map V.ref ++ p6.map V.ref)) m6)
    have E6 := (E5.same (s6.trans t6)).app (e6.same t6)
    have N6 := S5.free (s6.free (Same.free (Same.upd (o := .lst (p6.map V.ref)) n6) m6))
    have S6 := S5.trans (s6.trans t6)
    have h6 : (upd (upd H6 q6 (.lst (p6.map V.ref))) l6 (.lst ((p1 ++ p2 ++ p3 ++ p4 ++ p5).map V.ref ++ p6.map V.ref))) l6 = some (.lst ((p1 ++ p2 ++ p3 ++ p4 ++ p5 ++ p6).map V.ref)) := by rw [show List.map V.ref (p1 ++ p2 ++ p3 ++ p4 ++ p5 ++ p6) = List.map V.ref (p1 ++ p2 ++ p3 ++ p4 ++ p5) ++ List.map V.ref p6 from List.map_append]; exact upd_same
    refine ⟨_, rfl, (p5c7 mg a b), rfl, fun p7 H7 s7 e7 => ⟨by rw [List.length_map, e7.len]; show 3 ≤ sizeLine; decide, fun q7 n7 => ⟨l6, q7, (p1 ++ p2 ++ p3 ++ p4 ++ p5 ++ p6).map V.ref, p7.map V.ref, rfl, rfl, (by rw [upd_ne (ne_of_none (s7 _ _ h6) n7)]; exact s7 _ _ h6), upd_same, (by rw [List.length_map, List.length_map, E6.len, e7.len]; show 20 + 3 ≤ sizeLine; decide), fun l7 m7 => ?_⟩⟩⟩
    have t7 := (Same.upd (o := .lst (p7.map V.ref)) n7).trans (Same.upd (o := .lst ((p1 ++ p2 ++ p3 ++ p4 ++ p5 ++ p6).map V.ref ++ p7.map V.ref)) m7)
    have E7 := (E6.same (s7.trans t7)).app (e7.same t7)
    have N7 := S6.free (s7.free (Same.free (Same.upd (o := .lst (p7.map V.ref)) n7) m7))
    have S7 := S6.trans (s7.trans t7)
    have h7 : (upd (upd H7 q7 (.lst (p7.map V.ref))) l7 (.lst ((p1 ++ p2 ++ p3 ++ p4 ++ p5 ++ p6).map V.ref ++ p7.map V.ref))) l7 = some (.lst ((p1 ++ p2 ++ p3 ++ p4 ++ p5 ++ p6 ++ p7).map V.ref)) := by rw [show List.map V.ref (p1 ++ p2 ++ p3 ++ p4 ++ p5 ++ p6 ++ p7) = List.map V.ref (p1 ++ p2 ++ p3 ++ p4 ++ p5 ++ p6) ++ List.map V.ref p7 from List.map_append]; exact upd_same
    refine ⟨_, rfl, (p5c8 mg a b), rfl, fun p8 H8 s8 e8 => ⟨by rw [List.length_map, e8.len]; show 3 ≤ sizeLine; decide, fun q8 n8 => ⟨l7, q8, (p1 ++ p2 ++ p3 ++ p4 ++ p5 ++ p6 ++ p7).map V.ref, p8.map V.ref, rfl, rfl, (by rw [upd_ne (ne_of_none (s8 _ _ h7) n8)]; exact s8 _ _ h7), upd_same, (by rw [List.length_map, List.length_map, E7.len, e8.len]; show 23 + 3 ≤ sizeLine; decide), fun l8 m8 => ?_⟩⟩⟩
    have t8 := (Same.upd (o := .lst (p8.map V.ref)) n8).trans (Same.upd (o := .lst ((p1 ++ p2 ++ p3 ++ p4 ++ p5 ++ p6 ++ p7).map V.ref ++ p8.map V.ref)) m8)
    have E8 := (E7.same (s8.trans t8)).app (e8.same t8)
    have N8 := S7.free (s8.free (Same.free (Same.upd (o := .lst (p8.map V.ref)) n8) m8))
    have S8 := S7.trans (s8.trans t8)
    have h8 : (upd (upd H8 q8 (.lst (p8.map V.ref))) l8 (.lst ((p1 ++ p2 ++ p3 ++ p4 ++ p5 ++ p6 ++ p7).map V.ref ++ p8.map V.ref))) l8 = some (.lst ((p1 ++ p2 ++ p3 ++ p4 ++ p5 ++ p6 ++ p7 ++ p8).map V.ref)) := by rw [show List.map V.ref (p1 ++ p2 ++ p3 ++ p4 ++ p5 ++ p6 ++ p7 ++ p8) = List.map V.ref (p1 ++ p2 ++ p3 ++ p4 ++ p5 ++ p6 ++ p7) ++ List.map V.ref p8 from List.map_append]; exact upd_same
    refine ⟨_, rfl, (p5c9 mg a b), rfl, fun p9 H9 s9 e9 => ⟨by rw [List.length_map, e9.len]; show 4 ≤ sizeLine; decide, fun q9 n9 => ⟨l8, q9, (p1 ++ p2 ++ p3 ++ p4 ++ p5 ++ p6 ++ p7 ++ p8).map V.ref, p9.map V.ref, rfl, rfl, (by rw [upd_ne (ne_of_none (s9 _ _ h8) n9)]; exact s9 _ _ h8), upd_same, (by rw [List.length_map, List.length_map, E8.len, e9.len]; show 26 + 4 ≤ sizeLine; decide), fun l9 m9 => ?_⟩⟩⟩
    have t9 := (Same.upd (o := .lst (p9.map V.ref)) n9).trans (Same.upd (o := .lst ((p1 ++ p2 ++ p3 ++ p4 ++ p5 ++ p6 ++ p7 ++ p8).map V.ref ++ p9.map V.ref)) m9)
    have E9 := (E8.same (s9.trans t9)).app (e9.same t9)
    have N9 := S8.free (s9.free (Same.free (Same.upd (o := .lst (p9.map V.ref)) n9) m9))
    have S9 := S8.trans (s9.trans t9)
    have h9 : (upd (upd H9 q9 (.lst (p9.map V.ref))) l9 (.lst ((p1 ++ p2 ++ p3 ++ p4 ++ p5 ++ p6 ++ p7 ++ p8).map V.ref ++ p9.map V.ref))) l9 = some (.lst ((p1 ++ p2 ++ p3 ++ p4 ++ p5 ++ p6 ++ p7 ++ p8 ++ p9).map V.ref)) := by rw [show List.map V.ref (p1 ++ p2 ++ p3 ++ p4 ++ p5 ++ p6 ++ p7 ++ p8 ++ p9) = List.map V.ref (p1 ++ p2 ++ p3 ++ p4 ++ p5 ++ p6 ++ p7 ++ p8) ++ List.map V.ref p9 from List.map_append]; exact upd_same
    refine ⟨_, rfl, (p5c10 mg a b), rfl, fun p10 H10 s10 e10 => ⟨by rw [List.length_map, e10.len]; show 5 ≤ sizeLine; decide, fun q10 n10 => ⟨l9, q10, (p1 ++ p2 ++ p3 ++ p4 ++ p5 ++ p6 ++ p7 ++ p8 ++ p9).map V.ref, p10.map V.ref, rfl, rfl, (by rw [upd_ne (ne_of_none (s10 _ _ h9) n10)]; exact s10 _ _ h9), upd_same, (by rw [List.length_map, List.length_map, E9.len, e10.len]; show 30 + 5 ≤ sizeLine; decide), fun l10 m10 => ?_⟩⟩⟩
    have t10 := (Same.upd (o := .lst (p10.map V.ref)) n10).trans (Same.upd (o := .lst ((p1 ++ p2 ++ p3 ++ p4 ++ p5 ++ p6 ++ p7 ++ p8 ++ p9).map V.ref ++ p10.map V.ref)) m10)
    have E10 := (E9.same (s10.trans t10)).app (e10.same t10)
    have N10 := S9.free (s10.free (Same.free (Same.upd (o := .lst (p10.map V.ref)) n10) m10))
    have S10 := S9.trans (s10.trans t10)
    have h10 : (upd (upd H10 q10 (.lst (p10.map V.ref))) l10 (.lst ((p1 ++ p2 ++ p3 ++ p4 ++ p5 ++ p6 ++ p7 ++ p8 ++ p9).map V.ref ++ p10.map V.ref))) l10 = some (.lst ((p1 ++ p2 ++ p3 ++ p4 ++ p5 ++ p6 ++ p7 ++ p8 ++ p9 ++ p10).map V.ref)) := by rw [show List.map V.ref (p1 ++ p2 ++ p3 ++ p4 ++ p5 ++ p6 ++ p7 ++ p8 ++ p9 ++ p10) = List.map V.ref (p1 ++ p2 ++ p3 ++ p4 ++ p5 ++ p6 ++ p7 ++ p8 ++ p9) ++ List.map V.ref p10 from List.map_append]; exact upd_same
    refine ⟨_, rfl, (p5c11 mg a b), rfl, fun p11 H11 s11 e11 => ⟨by rw [List.length_map, e11.len]; show 5 ≤ sizeLine; decide, fun q11 n11 => ⟨l10, q11, (p1 ++ p2 ++ p3 ++ p4 ++ p5 ++ p6 ++ p7 ++ p8 ++ p9 ++ p10).map V.ref, p11.map V.ref, rfl, rfl, (by rw [upd_ne (ne_of_none (s11 _ _ h10) n11)]; exact s11 _ _ h10), upd_same, (by rw [List.length_map, List.length_map, E10.len, e11.len]; show 35 + 5 ≤ sizeLine; decide), fun l11 m11 => ?_⟩⟩⟩
    have t11 := (Same.upd (o := .lst (p11.map V.ref)) n11).trans (Same.upd (o := .lst ((p1 ++ p2 ++ p3 ++ p4 ++ p5 ++ p6 ++ p7 ++ p8 ++ p9 ++ p10).map V.ref ++ p11.map V.ref)) m11)
    have E11 := (E10.same (s11.trans t11)).app (e11.same t11)
    have N11 := S10.free (s11.free (Same.free (Same.upd (o := .lst (p11.map V.ref)) n11) m11))
    have S11 := S10.trans (s11.trans t11)
    have h11 : (upd (upd H11 q11 (.lst (p11.map V.ref))) l11 (.lst ((p1 ++ p2 ++ p3 ++ p4 ++ p5 ++ p6 ++ p7 ++ p8 ++ p9 ++ p10).map V.ref ++ p11.map V.ref))) l11 = some (.lst ((p1 ++ p2 ++ p3 ++ p4 ++ p5 ++ p6 ++ p7 ++ p8 ++ p9 ++ p10 ++ p11).map V.ref)) := by rw [show List.map V.ref (p1 ++ p2 ++ p3 ++ p4 ++ p5 ++ p6 ++ p7 ++ p8 ++ p9 ++ p10 ++ p11) = List.map V.ref (p1 ++ p2 ++ p3 ++ p4 ++ p5 ++ p6 ++ p7 ++ p8 ++ p9 ++ p10) ++ List.map V.ref p11 from List.map_append]; exact upd_same
    refine ⟨_, rfl, (p5c12 mg a b), rfl, fun p12 H12 s12 e12 => ⟨by rw [List.length_map, e12.len]; show 5 ≤ sizeLine; decide, fun q12 n12 => ⟨l11, q12, (p1 ++ p2 ++ p3 ++ p4 ++ p5 ++ p6 ++ p7 ++ p8 ++ p9 ++ p10 ++ p11).map V.ref, p12.map V.ref, rfl, rfl, (by rw [upd_ne (ne_of_none (s12 _ _ h11) n12)]; exact s12 _ _ h11), upd_same, (by rw [List.length_map, List.length_map, E11.len, e12.len]; show 40 + 5 ≤ sizeLine; decide), fun l12 m12 => ?_⟩⟩⟩
    have t12 := (Same.upd (o := .lst (p12.map V.ref)) n12).trans (Same.upd (o := .lst ((p1 ++ p2 ++ p3 ++ p4 ++ p5 ++ p6 ++ p7 ++ p8 ++ p9 ++ p10 ++ p11).map V.ref ++ p12.map V.ref)) m12)
    have E12 := (E11.same (s12.trans t12)).app (e12.same t12)
    have N12 := S11.free (s12.free (Same.free (Same.upd (o := .lst (p12.map V.ref)) n12) m12))
    have S12 := S11.trans (s12.trans t12)
    have h12 : (upd (upd H12 q12 (.lst (p12.map V.ref))) l12 (.lst ((p1 ++ p2 ++ p3 ++ p4 ++ p5 ++ p6 ++ p7 ++ p8 ++ p9 ++ p10 ++ p11).map V.ref ++ p12.map V.ref))) l12 = some (.lst ((p1 ++ p2 ++ p3 ++ p4 ++ p5 ++ p6 ++ p7 ++ p8 ++ p9 ++ p10 ++ p11 ++ p12).map V.ref)) := by rw [show List.map V.ref (p1 ++ p2 ++ p3 ++ p4 ++ p5 ++ p6 ++ p7 ++ p8 ++ p9 ++ p10 ++ p11 ++ p12) = List.map V.ref (p1 ++ p2 ++ p3 ++ p4 ++ p5 ++ p6 ++ p7 ++ p8 ++ p9 ++ p10 ++ p11) ++ List.map V.ref p12 from List.map_append]; exact upd_same
    refine ⟨_, rfl, (p5c13 mg a b), rfl, fun p13 H13 s13 e13 => ⟨by rw [List.length_map, e13.len]; show 5 ≤ sizeLine; decide, fun q13 n13 => ⟨l12, q13, (p1 ++ p2 ++ p3 ++ p4 ++ p5 ++ p6 ++ p7 ++ p8 ++ p9 ++ p10 ++ p11 ++ p12).map V.ref, p13.map V.ref, rfl, rfl, (by rw [upd_ne (ne_of_none (s13 _ _ h12) n13)]; exact s13 _ _ h12), upd_same, (by rw [List.length_map, List.length_map, E12.len, e13.len]; show 45 + 5 ≤ sizeLine; decide), fun l13 m13 => ?_⟩⟩⟩
    have t13 := (Same.upd (o := .lst (p13.map V.ref)) n13).trans (Same.upd (o := .lst ((p1 ++ p2 ++ p3 ++ p4 ++ p5 ++ p6 ++ p7 ++ p8 ++ p9 ++ p10 ++ p11 ++ p12).map V.ref ++ p13.map V.ref)) m13)
    have E13 := (E12.same (s13.trans t13)).app (e13.same t13)
    have N13 := S12.free (s13.free (Same.free (Same.upd (o := .lst (p13.map V.ref)) n13) m13))
    have S13 := S12.trans (s13.trans t13)
    have h13 : (upd (upd H13 q13 (.lst (p13.map V.ref))) l13 (.lst ((p1 ++ p2 ++ p3 ++ p4 ++ p5 ++ p6 ++ p7 ++ p8 ++ p9 ++ p10 ++ p11 ++ p12).map V.ref ++ p13.map V.ref))) l13 = some (.lst ((p1 ++ p2 ++ p3 ++ p4 ++ p5 ++ p6 ++ p7 ++ p8 ++ p9 ++ p10 ++ p11 ++ p12 ++ p13).map V.ref)) := by rw [show List.map V.ref (p1 ++ p2 ++ p3 ++ p4 ++ p5 ++ p6 ++ p7 ++ p8 ++ p9 ++ p10 ++ p11 ++ p12 ++ p13) = List.map V.ref (p1 ++ p2 ++ p3 ++ p4 ++ p5 ++ p6 ++ p7 ++ p8 ++ p9 ++ p10 ++ p11 ++ p12) ++ List.map V.ref p13 from List.map_append]; exact upd_same
    exact ⟨_, rfl, q _ _ _ S13 N13 h13 E13⟩
end
end My
namespace My
open PySem PySem.Spec PyProof.Rows L2
theorem inj_nodup {α β : Type} {f : α → β} : ∀ {l : List α}, (l.map f).Nodup → ∀ x ∈ l, ∀ y ∈ l, f x = f y → x = y
  | [], _, _, h, _, _, _ => nomatch h
  | a :: l, h, x, hx, y, hy, e => by
    rw [List.map_cons, List.nodup_cons] at h
    rcases List.mem_cons.mp hx with c | hx1
    · rcases List.mem_cons.mp hy with d | hy1
      · rw [c, d]
      · exact absurd (List.mem_map.mpr ⟨y, hy1, by rw [← e, c]⟩ : f a ∈ l.map f) h.1
    · rcases List.mem_cons.mp hy with d | hy1
      · exact absurd (List.mem_map.mpr ⟨x, hx1, by rw [e, d]⟩ : f a ∈ l.map f) h.1
      · exact inj_nodup h.2 x hx1 y hy1 e
theorem ec_self {K : PySem.W.Frag} {C : Addr} {tl : List Value} {nid : String} (T : Gx.EC K C tl nid) : PySem.W.subIn K (.ref C) (.ref C) = some true := by
  obtain ⟨cd, hc, ho⟩ := PySem.W.any_some T.o
  split at ho
  · rename_i C' bm hm
    rw [Bool.and_eq_true, beq_iff_eq] at ho
    obtain ⟨rfl, _⟩ := ho
    rw [Gx.sub_of hc (by rw [hm]; rfl), hm]
    simp
  · cases ho
theorem kit_own2 {K : PySem.W.Frag} {C D : Addr} {b : Bool} {tl tl2 : List Value} {nid nid2 : String} (T : Gx.EC K C tl nid) (TD : Gx.EC K D tl2 nid2) (s : PySem.W.subIn K (.ref C) (.ref D) = some b) : PySem.W.kitOne K (.ref C) (.ref D) = some b :=
  Gx.kit_own TD.is TD.ty s fun e => by
    rw [← e, ec_self T] at s
    exact (Option.some.inj s).symm
section
variable {P : Program} {w : World} {K : PySem.W.Frag} {mg : Str → Option Value} {base : Heap}
theorem ecn (T : Mo K mg) {x : Str} (hx : x ∈ nms) : ∃ tl nid, Gx.EC K (Gx.cl mg x) tl nid := by
  have h := ecs T (a := .non) (b := .non)
  have m : Gx.cl mg x ∈ (cls mg .non .non).map (·.1) := by rw [cls_nm]; exact List.mem_map.mpr ⟨x, hx, rfl⟩
  obtain ⟨c, hc, e⟩ := List.mem_map.mp m
  rw [← e]
  exact h c hc
def isC (mg : Str → Option Value) (x : Str) (d : V) : Bool := decide (d = .ref (Gx.cl mg x))
theorem isC_nm (T : Mo K mg) {x y : Str} (hx : x ∈ nms) (hy : y ∈ nms) : isC mg x (.ref (Gx.cl mg y)) = decide (y = x) := by
  by_cases c : y = x
  · rw [c, decide_eq_true rfl]
    exact decide_eq_true rfl
  · rw [decide_eq_false c]
    exact decide_eq_false fun z => c (inj_nodup T.tabs.nd y hy x hx (V.ref.inj z))
theorem fac (T : Mo K mg) {x : Str} (hx : x ∈ nms) (ys : List Str) (hs : ∀ y ∈ ys, y ∈ nms) : ∀ d ∈ ys.map (fun y => V.ref (Gx.cl mg y)), ∃ u, ClsV d u ∧ PySem.W.kitOne K (.ref (Gx.cl mg x)) u = some (isC mg x d) := by
  intro d hd
  obtain ⟨y, hy, rfl⟩ := List.mem_map.mp hd
  have hy' := hs y hy
  obtain ⟨_, _, T1⟩ := ecn T hx
  obtain ⟨_, _, T2⟩ := ecn T hy'
  refine ⟨_, .own _, kit_own2 T1 T2 ?_⟩
  rw [Gx.apart_sub T.tabs.ap (List.mem_map.mpr ⟨x, hx, rfl⟩) (List.mem_map.mpr ⟨y, hy', rfl⟩)]
  unfold isC
  by_cases c : Gx.cl mg x = Gx.cl mg y
  · rw [c, decide_eq_true rfl, beq_self_eq_true]
  · rw [decide_eq_false fun z => c (V.ref.inj z).symm]
    simpa using c
abbrev B1 (mg : Str → Option Value) (x : Str) : List V := ((["InvalidBits", "InvalidValue", "InvalidRange"] : List Str).map fun y => V.bl (isC mg x (.ref (Gx.cl mg y))))
abbrev B2 (mg : Str → Option Value) (x : Str) : List V := B1 mg x ++ ((["InvalidPlace", "InvalidCount", "InvalidName"] : List Str).map fun y => V.bl (isC mg x (.ref (Gx.cl mg y))))
abbrev B3 (mg : Str → Option Value) (x : Str) : List V := B2 mg x ++ ((["InvalidColumns", "InvalidKey", "InvalidPayload"] : List Str).map fun y => V.bl (isC mg x (.ref (Gx.cl mg y))))
abbrev B4 (mg : Str → Option Value) (x : Str) : List V := B3 mg x ++ ((["InvalidText", "InvalidPoint", "InvalidLimit"] : List Str).map fun y => V.bl (isC mg x (.ref (Gx.cl mg y))))
abbrev B5 (mg : Str → Option Value) (x : Str) : List V := B4 mg x ++ ((["InvalidPage", "InvalidMessage", "InvalidCommand"] : List Str).map fun y => V.bl (isC mg x (.ref (Gx.cl mg y))))
abbrev B6 (mg : Str → Option Value) (x : Str) : List V := B5 mg x ++ ((["InvalidBox", "InvalidOrder", "InvalidWrite"] : List Str).map fun y => V.bl (isC mg x (.ref (Gx.cl mg y))))
abbrev B7 (mg : Str → Option Value) (x : Str) : List V := B6 mg x ++ ((["InvalidPaper", "InvalidQuery", "InvalidGroups"] : List Str).map fun y => V.bl (isC mg x (.ref (Gx.cl mg y))))
abbrev B8 (mg : Str → Option Value) (x : Str) : List V := B7 mg x ++ ((["UnknownTable", "UnknownVersion", "UnknownName"] : List Str).map fun y => V.bl (isC mg x (.ref (Gx.cl mg y))))
abbrev B9 (mg : Str → Option Value) (x : Str) : List V := B8 mg x ++ ((["UnknownTransaction", "TooOld", "WrongColumns"] : List Str).map fun y => V.bl (isC mg x (.ref (Gx.cl mg y))))
abbrev B10 (mg : Str → Option Value) (x : Str) : List V := B9 mg x ++ ((["Holds", "NameTaken", "KeyTaken"] : List Str).map fun y => V.bl (isC mg x (.ref (Gx.cl mg y))))
abbrev B11 (mg : Str → Option Value) (x : Str) : List V := B10 mg x ++ ((["NoSuchRow", "NotClear", "Unlike"] : List Str).map fun y => V.bl (isC mg x (.ref (Gx.cl mg y))))
abbrev B12 (mg : Str → Option Value) (x : Str) : List V := B11 mg x ++ ((["NoHalf", "NotJoined", "NotAPoint"] : List Str).map fun y => V.bl (isC mg x (.ref (Gx.cl mg y))))
abbrev B13 (mg : Str → Option Value) (x : Str) : List V := B12 mg x ++ ((["WrongLine", "NotAnswer", "IsAnswer"] : List Str).map fun y => V.bl (isC mg x (.ref (Gx.cl mg y))))
abbrev B14 (mg : Str → Option Value) (x : Str) : List V := B13 mg x ++ ((["NotEmpty", "Ended", "Changed"] : List Str).map fun y => V.bl (isC mg x (.ref (Gx.cl mg y))))
abbrev B15 (mg : Str → Option Value) (x : Str) : List V := B14 mg x ++ ((["Violated", "Held", "Crashed"] : List Str).map fun y => V.bl (isC mg x (.ref (Gx.cl mg y))))
abbrev B16 (mg : Str → Option Value) (x : Str) : List V := B15 mg x ++ ((["DiskInUse", "NoStore", "Needs"] : List Str).map fun y => V.bl (isC mg x (.ref (Gx.cl mg y))))
abbrev B17 (mg : Str → Option Value) (x : Str) : List V := B16 mg x ++ ((["TooMany", "TooLarge"] : List Str).map fun y => V.bl (isC mg x (.ref (Gx.cl mg y))))
theorem bs_eq (T : Mo K mg) {x : Str} (hx : x ∈ nms) : B17 mg x = nms.map fun y => V.bl (decide (y = x)) := by
  have e : B17 mg x = nms.map fun y => V.bl (isC mg x (.ref (Gx.cl mg y))) := rfl
  rw [e]
  exact List.map_congr_left fun y hy => congrArg V.bl (isC_nm T hx hy)
def spClasses (mg : Str → Option Value) : Sp := fun vs H Q _ => ∃ p x fs, vs = [.ref p] ∧ x ∈ nms ∧ Gx.ErrO H p (Gx.cl mg x) fs ∧ ∀ l H', Same H H' → H l = none → H' l = some (.lst (nms.map fun y => .bl (decide (y = x)))) → Q (.ref l) H'
theorem p__law_classes (T : Mo K mg) : Gx.Pr P w K mg base CX0 1 "_law_classes" s__law_classes ["_law_e"] (spClasses mg) := by
  refine T.d__law_classes.ok sc__law_classes (fun vs H Q E h => ?_) (fun f cdv A outer s H vs Q E hr h => ?_)
  · obtain ⟨p, x, fs, rfl, _⟩ := h
    rfl
  · obtain ⟨p, x, fs, rfl, hx, er, q⟩ := h
    obtain ⟨tl, nid, ec⟩ := ecn T hx
    refine ⟨_, (Evl.pss_cut (ps_set (i := 1) sc__law_classes.nd rfl (Or.inl rfl) (pe_lst (Gx.pa_i1 (K := K) rfl (by rfl) T.b_isinstance (pv 0) (Gx.pe_k rfl (kn_InvalidBits T)) (Gx.pa_i1 (K := K) rfl (by rfl) T.b_isinstance (pv 0) (Gx.pe_k rfl (kn_InvalidValue T)) (Gx.pa_i1 (K := K) rfl (by rfl) T.b_isinstance (pv 0) (Gx.pe_k rfl (kn_InvalidRange T)) Gx.pa_i0)))))
      (Evl.pss_cut (ps_set (i := 1) sc__law_classes.nd rfl (Or.inl rfl) (pe_op op_cat (pv 1) (pe_lst (Gx.pa_i1 (K := K) rfl (by rfl) T.b_isinstance (pv 0) (Gx.pe_k rfl (kn_InvalidPlace T)) (Gx.pa_i1 (K := K) rfl (by rfl) T.b_isinstance (pv 0) (Gx.pe_k rfl (kn_InvalidCount T)) (Gx.pa_i1 (K := K) rfl (by rfl) T.b_isinstance (pv 0) (Gx.pe_k rfl (kn_InvalidName T)) Gx.pa_i0))))))
      (Evl.pss_cut (ps_set (i := 1) sc__law_classes.nd rfl (Or.inl rfl) (pe_op op_cat (pv 1) (pe_lst (Gx.pa_i1 (K := K) rfl (by rfl) T.b_isinstance (pv 0) (Gx.pe_k rfl (kn_InvalidColumns T)) (Gx.pa_i1 (K := K) rfl (by rfl) T.b_isinstance (pv 0) (Gx.pe_k rfl (kn_InvalidKey T)) (Gx.pa_i1 (K := K) rfl (by rfl) T.b_isinstance (pv 0) (Gx.pe_k rfl (kn_InvalidPayload T)) Gx.pa_i0))))))
      (Evl.pss_cut (ps_set (i := 1) sc__law_classes.nd rfl (Or.inl rfl) (pe_op op_cat (pv 1) (pe_lst (Gx.pa_i1 (K := K) rfl (by rfl) T.b_isinstance (pv 0) (Gx.pe_k rfl (kn_InvalidText T)) (Gx.pa_i1 (K := K) rfl (by rfl) T.b_isinstance (pv 0) (Gx.pe_k rfl (kn_InvalidPoint T)) (Gx.pa_i1 (K := K) rfl (by rfl) T.b_isinstance (pv 0) (Gx.pe_k rfl (kn_InvalidLimit T)) Gx.pa_i0))))))
      (Evl.pss_cut (ps_set (i := 1) sc__law_classes.nd rfl (Or.inl rfl) (pe_op op_cat (pv 1) (pe_lst (Gx.pa_i1 (K := K) rfl (by rfl) T.b_isinstance (pv 0) (Gx.pe_k rfl (kn_InvalidPage T)) (Gx.pa_i1 (K := K) rfl (by rfl) T.b_isinstance (pv 0) (Gx.pe_k rfl (kn_InvalidMessage T)) (Gx.pa_i1 (K := K) rfl (by rfl) T.b_isinstance (pv 0) (Gx.pe_k rfl (kn_InvalidCommand T)) Gx.pa_i0))))))
      (Evl.pss_cut (ps_set (i := 1) sc__law_classes.nd rfl (Or.inl rfl) (pe_op op_cat (pv 1) (pe_lst (Gx.pa_i1 (K := K) rfl (by rfl) T.b_isinstance (pv 0) (Gx.pe_k rfl (kn_InvalidBox T)) (Gx.pa_i1 (K := K) rfl (by rfl) T.b_isinstance (pv 0) (Gx.pe_k rfl (kn_InvalidOrder T)) (Gx.pa_i1 (K := K) rfl (by rfl) T.b_isinstance (pv 0) (Gx.pe_k rfl (kn_InvalidWrite T)) Gx.pa_i0))))))
      (Evl.pss_cut (ps_set (i := 1) sc__law_classes.nd rfl (Or.inl rfl) (pe_op op_cat (pv 1) (pe_lst (Gx.pa_i1 (K := K) rfl (by rfl) T.b_isinstance (pv 0) (Gx.pe_k rfl (kn_InvalidPaper T)) (Gx.pa_i1 (K := K) rfl (by rfl) T.b_isinstance (pv 0) (Gx.pe_k rfl (kn_InvalidQuery T)) (Gx.pa_i1 (K := K) rfl (by rfl) T.b_isinstance (pv 0) (Gx.pe_k rfl (kn_InvalidGroups T)) Gx.pa_i0))))))
      (Evl.pss_cut (ps_set (i := 1) sc__law_classes.nd rfl (Or.inl rfl) (pe_op op_cat (pv 1) (pe_lst (Gx.pa_i1 (K := K) rfl (by rfl) T.b_isinstance (pv 0) (Gx.pe_k rfl (kn_UnknownTable T)) (Gx.pa_i1 (K := K) rfl (by rfl) T.b_isinstance (pv 0) (Gx.pe_k rfl (kn_UnknownVersion T)) (Gx.pa_i1 (K := K) rfl (by rfl) T.b_isinstance (pv 0) (Gx.pe_k rfl (kn_UnknownName T)) Gx.pa_i0))))))
      (Evl.pss_cut (ps_set (i := 1) sc__law_classes.nd rfl (Or.inl rfl) (pe_op op_cat (pv 1) (pe_lst (Gx.pa_i1 (K := K) rfl (by rfl) T.b_isinstance (pv 0) (Gx.pe_k rfl (kn_UnknownTransaction T)) (Gx.pa_i1 (K := K) rfl (by rfl) T.b_isinstance (pv 0) (Gx.pe_k rfl (kn_TooOld T)) (Gx.pa_i1 (K := K) rfl (by rfl) T.b_isinstance (pv 0) (Gx.pe_k rfl (kn_WrongColumns T)) Gx.pa_i0))))))
      (Evl.pss_cut (ps_set (i := 1) sc__law_classes.nd rfl (Or.inl rfl) (pe_op op_cat (pv 1) (pe_lst (Gx.pa_i1 (K := K) rfl (by rfl) T.b_isinstance (pv 0) (Gx.pe_k rfl (kn_Holds T)) (Gx.pa_i1 (K := K) rfl (by rfl) T.b_isinstance (pv 0) (Gx.pe_k rfl (kn_NameTaken T)) (Gx.pa_i1 (K := K) rfl (by rfl) T.b_isinstance (pv 0) (Gx.pe_k rfl (kn_KeyTaken T)) Gx.pa_i0))))))
      (Evl.pss_cut (ps_set (i := 1) sc__law_classes.nd rfl (Or.inl rfl) (pe_op op_cat (pv 1) (pe_lst (Gx.pa_i1 (K := K) rfl (by rfl) T.b_isinstance (pv 0) (Gx.pe_k rfl (kn_NoSuchRow T)) (Gx.pa_i1 (K := K) rfl (by rfl) T.b_isinstance (pv 0) (Gx.pe_k rfl (kn_NotClear T)) (Gx.pa_i1 (K := K) rfl (by rfl) T.b_isinstance (pv 0) (Gx.pe_k rfl (kn_Unlike T)) Gx.pa_i0))))))
      (Evl.pss_cut (ps_set (i := 1) sc__law_classes.nd rfl (Or.inl rfl) (pe_op op_cat (pv 1) (pe_lst (Gx.pa_i1 (K := K) rfl (by rfl) T.b_isinstance (pv 0) (Gx.pe_k rfl (kn_NoHalf T)) (Gx.pa_i1 (K := K) rfl (by rfl) T.b_isinstance (pv 0) (Gx.pe_k rfl (kn_NotJoined T)) (Gx.pa_i1 (K := K) rfl (by rfl) T.b_isinstance (pv 0) (Gx.pe_k rfl (kn_NotAPoint T)) Gx.pa_i0))))))
      (Evl.pss_cut (ps_set (i := 1) sc__law_classes.nd rfl (Or.inl rfl) (pe_op op_cat (pv 1) (pe_lst (Gx.pa_i1 (K := K) rfl (by rfl) T.b_isinstance (pv 0) (Gx.pe_k rfl (kn_WrongLine T)) (Gx.pa_i1 (K := K) rfl (by rfl) T.b_isinstance (pv 0) (Gx.pe_k rfl (kn_NotAnswer T)) (Gx.pa_i1 (K := K) rfl (by rfl) T.b_isinstance (pv 0) (Gx.pe_k rfl (kn_IsAnswer T)) Gx.pa_i0))))))
      (Evl.pss_cut (ps_set (i := 1) sc__law_classes.nd rfl (Or.inl rfl) (pe_op op_cat (pv 1) (pe_lst (Gx.pa_i1 (K := K) rfl (by rfl) T.b_isinstance (pv 0) (Gx.pe_k rfl (kn_NotEmpty T)) (Gx.pa_i1 (K := K) rfl (by rfl) T.b_isinstance (pv 0) (Gx.pe_k rfl (kn_Ended T)) (Gx.pa_i1 (K := K) rfl (by rfl) T.b_isinstance (pv 0) (Gx.pe_k rfl (kn_Changed T)) Gx.pa_i0))))))
      (Evl.pss_cut (ps_set (i := 1) sc__law_classes.nd rfl (Or.inl rfl) (pe_op op_cat (pv 1) (pe_lst (Gx.pa_i1 (K := K) rfl (by rfl) T.b_isinstance (pv 0) (Gx.pe_k rfl (kn_Violated T)) (Gx.pa_i1 (K := K) rfl (by rfl) T.b_isinstance (pv 0) (Gx.pe_k rfl (kn_Held T)) (Gx.pa_i1 (K := K) rfl (by rfl) T.b_isinstance (pv 0) (Gx.pe_k rfl (kn_Crashed T)) Gx.pa_i0))))))
      (Evl.pss_cut (ps_set (i := 1) sc__law_classes.nd rfl (Or.inl rfl) (pe_op op_cat (pv 1) (pe_lst (Gx.pa_i1 (K := K) rfl (by rfl) T.b_isinstance (pv 0) (Gx.pe_k rfl (kn_DiskInUse T)) (Gx.pa_i1 (K := K) rfl (by rfl) T.b_isinstance (pv 0) (Gx.pe_k rfl (kn_NoStore T)) (Gx.pa_i1 (K := K) rfl (by rfl) T.b_isinstance (pv 0) (Gx.pe_k rfl (kn_Needs T)) Gx.pa_i0))))))
      (Evl.pss_cut (ps_set (i := 1) sc__law_classes.nd rfl (Or.inl rfl) (pe_op op_cat (pv 1) (pe_lst (Gx.pa_i1 (K := K) rfl (by rfl) T.b_isinstance (pv 0) (Gx.pe_k rfl (kn_TooMany T)) (Gx.pa_i1 (K := K) rfl (by rfl) T.b_isinstance (pv 0) (Gx.pe_k rfl (kn_TooLarge T)) Gx.pa_i0)))))
      (pss_one (ps_ret (pv 1)))))))))))))))))))), ?_⟩
    refine ⟨fun σ H' => ∃ l, σ = [some (.ref p), some (.ref l)] ∧ H' l = some (.lst (B1 mg x)) ∧ Same H H' ∧ H l = none, ?_, fun σ1 H1 hh1 => ?_⟩
    · exact ⟨p, _, tl, nid, fs, rfl, er, ec, isC mg x, fac T hx ["InvalidBits", "InvalidValue", "InvalidRange"] (by decide), by show 3 ≤ sizeLine; decide, fun l1 m1 => ⟨l1, rfl, upd_same, Same.upd m1, m1⟩⟩
    obtain ⟨l1, rfl, h1, S1, N1⟩ := hh1
    refine ⟨fun σ H' => ∃ l, σ = [some (.ref p), some (.ref l)] ∧ H' l = some (.lst (B2 mg x)) ∧ Same H H' ∧ H l = none, ?_, fun σ2 H2 hh2 => ?_⟩
    · exact ⟨_, rfl, p, _, tl, nid, fs, rfl, er.same S1, ec, isC mg x, fac T hx ["InvalidPlace", "InvalidCount", "InvalidName"] (by decide), by show 3 ≤ sizeLine; decide, fun q2 n2 => ⟨l1, q2, _, _, rfl, rfl, (upd_ne (ne_of_none h1 n2)).trans h1, upd_same, by show 3 + 3 ≤ sizeLine; decide, fun l2 m2 => ⟨l2, rfl, upd_same, S1.trans ((Same.upd n2).trans (Same.upd m2)), S1.free (Same.free (Same.upd n2) m2)⟩⟩⟩
    obtain ⟨l2, rfl, h2, S2, N2⟩ := hh2
    refine ⟨fun σ H' => ∃ l, σ = [some (.ref p), some (.ref l)] ∧ H' l = some (.lst (B3 mg x)) ∧ Same H H' ∧ H l = none, ?_, fun σ3 H3 hh3 => ?_⟩
    · exact ⟨_, rfl, p, _, tl, nid, fs, rfl, er.same S2, ec, isC mg x, fac T hx ["InvalidColumns", "InvalidKey", "InvalidPayload"] (by decide), by show 3 ≤ sizeLine; decide, fun q3 n3 => ⟨l2, q3, _, _, rfl, rfl, (upd_ne (ne_of_none h2 n3)).trans h2, upd_same, by show 6 + 3 ≤ sizeLine; decide, fun l3 m3 => ⟨l3, rfl, upd_same, S2.trans ((Same.upd n3).trans (Same.upd m3)), S2.free (Same.free (Same.upd n3) m3)⟩⟩⟩
    obtain ⟨l3, rfl, h3, S3, N3⟩ := hh3
    refine ⟨fun σ H' => ∃ l, σ = [some (.ref p), some (.ref l)] ∧ H' l = some (.lst (B4 mg x)) ∧ Same H H' ∧ H l = none, ?_, fun σ4 H4 hh4 => ?_⟩
    · exact ⟨_, rfl, p, _, tl, nid, fs, rfl, er.same S3, ec, isC mg x, fac T hx ["InvalidText", "InvalidPoint", "InvalidLimit"] (by decide), by show 3 ≤ sizeLine; decide, fun q4 n4 => ⟨l3, q4, _, _, rfl, rfl, (upd_ne (ne_of_none h3 n4)).trans h3, upd_same, by show 9 + 3 ≤ sizeLine; decide, fun l4 m4 => ⟨l4, rfl, upd_same, S3.trans ((Same.upd n4).trans (Same.upd m4)), S3.free (Same.free (Same.upd n4) m4)⟩⟩⟩
    obtain ⟨l4, rfl, h4, S4, N4⟩ := hh4
    refine ⟨fun σ H' => ∃ l, σ = [some (.ref p), some (.ref l)] ∧ H' l = some (.lst (B5 mg x)) ∧ Same H H' ∧ H l = none, ?_, fun σ5 H5 hh5 => ?_⟩
    · exact ⟨_, rfl, p, _, tl, nid, fs, rfl, er.same S4, ec, isC mg x, fac T hx ["InvalidPage", "InvalidMessage", "InvalidCommand"] (by decide), by show 3 ≤ sizeLine; decide, fun q5 n5 => ⟨l4, q5, _, _, rfl, rfl, (upd_ne (ne_of_none h4 n5)).trans h4, upd_same, by show 12 + 3 ≤ sizeLine; decide, fun l5 m5 => ⟨l5, rfl, upd_same, S4.trans ((Same.upd n5).trans (Same.upd m5)), S4.free (Same.free (Same.upd n5) m5)⟩⟩⟩
    obtain ⟨l5, rfl, h5, S5, N5⟩ := hh5
    refine ⟨fun σ H' => ∃ l, σ = [some (.ref p), some (.ref l)] ∧ H' l = some (.lst (B6 mg x)) ∧ Same H H' ∧ H l = none, ?_, fun σ6 H6 hh6 => ?_⟩
    · exact ⟨_, rfl, p, _, tl, nid, fs, rfl, er.same S5, ec, isC mg x, fac T hx ["InvalidBox", "InvalidOrder", "InvalidWrite"] (by decide), by show 3 ≤ sizeLine; decide, fun q6 n6 => ⟨l5, q6, _, _, rfl, rfl, (upd_ne (ne_of_none h5 n6)).trans h5, upd_same, by show 15 + 3 ≤ sizeLine; decide, fun l6 m6 => ⟨l6, rfl, upd_same, S5.trans ((Same.upd n6).trans (Same.upd m6)), S5.free (Same.free (Same.upd n6) m6)⟩⟩⟩
    obtain ⟨l6, rfl, h6, S6, N6⟩ := hh6
    refine ⟨fun σ H' => ∃ l, σ = [some (.ref p), some (.ref l)] ∧ H' l = some (.lst (B7 mg x)) ∧ Same H H' ∧ H l = none, ?_, fun σ7 H7 hh7 => ?_⟩
    · exact ⟨_, rfl, p, _, tl, nid, fs, rfl, er.same S6, ec, isC mg x, fac T hx ["InvalidPaper", "InvalidQuery", "InvalidGroups"] (by decide), by show 3 ≤ sizeLine; decide, fun q7 n7 => ⟨l6, q7, _, _, rfl, rfl, (upd_ne (ne_of_none h6 n7)).trans h6, upd_same, by show 18 + 3 ≤ sizeLine; decide, fun l7 m7 => ⟨l7, rfl, upd_same, S6.trans ((Same.upd n7).trans (Same.upd m7)), S6.free (Same.free (Same.upd n7) m7)⟩⟩⟩
    obtain ⟨l7, rfl, h7, S7, N7⟩ := hh7
    refine ⟨fun σ H' => ∃ l, σ = [some (.ref p), some (.ref l)] ∧ H' l = some (.lst (B8 mg x)) ∧ Same H H' ∧ H l = none, ?_, fun σ8 H8 hh8 => ?_⟩
    · exact ⟨_, rfl, p, _, tl, nid, fs, rfl, er.same S7, ec, isC mg x, fac T hx ["UnknownTable", "UnknownVersion", "UnknownName"] (by decide), by show 3 ≤ sizeLine; decide, fun q8 n8 => ⟨l7, q8, _, _, rfl, rfl, (upd_ne (ne_of_none h7 n8)).trans h7, upd_same, by show 21 + 3 ≤ sizeLine; decide, fun l8 m8 => ⟨l8, rfl, upd_same, S7.trans ((Same.upd n8).trans (Same.upd m8)), S7.free (Same.free (Same.upd n8) m8)⟩⟩⟩
    obtain ⟨l8, rfl, h8, S8, N8⟩ := hh8
    refine ⟨fun σ H' => ∃ l, σ = [some (.ref p), some (.ref l)] ∧ H' l = some (.lst (B9 mg x)) ∧ Same H H' ∧ H l = none, ?_, fun σ9 H9 hh9 => ?_⟩
    · exact ⟨_, rfl, p, _, tl, nid, fs, rfl, er.same S8, ec, isC mg x, fac T hx ["UnknownTransaction", "TooOld", "WrongColumns"] (by decide), by show 3 ≤ sizeLine; decide, fun q9 n9 => ⟨l8, q9, _, _, rfl, rfl, (upd_ne (ne_of_none h8 n9)).trans h8, upd_same, by show 24 + 3 ≤ sizeLine; decide, fun l9 m9 => ⟨l9, rfl, upd_same, S8.trans ((Same.upd n9).trans (Same.upd m9)), S8.free (Same.free (Same.upd n9) m9)⟩⟩⟩
    obtain ⟨l9, rfl, h9, S9, N9⟩ := hh9
    refine ⟨fun σ H' => ∃ l, σ = [some (.ref p), some (.ref l)] ∧ H' l = some (.lst (B10 mg x)) ∧ Same H H' ∧ H l = none, ?_, fun σ10 H10 hh10 => ?_⟩
    · exact ⟨_, rfl, p, _, tl, nid, fs, rfl, er.same S9, ec, isC mg x, fac T hx ["Holds", "NameTaken", "KeyTaken"] (by decide), by show 3 ≤ sizeLine; decide, fun q10 n10 => ⟨l9, q10, _, _, rfl, rfl, (upd_ne (ne_of_none h9 n10)).trans h9, upd_same, by show 27 + 3 ≤ sizeLine; decide, fun l10 m10 => ⟨l10, rfl, upd_same, S9.trans ((Same.upd n10).trans (Same.upd m10)), S9.free (Same.free (Same.upd n10) m10)⟩⟩⟩
    obtain ⟨l10, rfl, h10, S10, N10⟩ := hh10
    refine ⟨fun σ H' => ∃ l, σ = [some (.ref p), some (.ref l)] ∧ H' l = some (.lst (B11 mg x)) ∧ Same H H' ∧ H l = none, ?_, fun σ11 H11 hh11 => ?_⟩
    · exact ⟨_, rfl, p, _, tl, nid, fs, rfl, er.same S10, ec, isC mg x, fac T hx ["NoSuchRow", "NotClear", "Unlike"] (by decide), by show 3 ≤ sizeLine; decide, fun q11 n11 => ⟨l10, q11, _, _, rfl, rfl, (upd_ne (ne_of_none h10 n11)).trans h10, upd_same, by show 30 + 3 ≤ sizeLine; decide, fun l11 m11 => ⟨l11, rfl, upd_same, S10.trans ((Same.upd n11).trans (Same.upd m11)), S10.free (Same.free (Same.upd n11) m11)⟩⟩⟩
    obtain ⟨l11, rfl, h11, S11, N11⟩ := hh11
    refine ⟨fun σ H' => ∃ l, σ = [some (.ref p), some (.ref l)] ∧ H' l = some (.lst (B12 mg x)) ∧ Same H H' ∧ H l = none, ?_, fun σ12 H12 hh12 => ?_⟩
    · exact ⟨_, rfl, p, _, tl, nid, fs, rfl, er.same S11, ec, isC mg x, fac T hx ["NoHalf", "NotJoined", "NotAPoint"] (by decide), by show 3 ≤ sizeLine; decide, fun q12 n12 => ⟨l11, q12, _, _, rfl, rfl, (upd_ne (ne_of_none h11 n12)).trans h11, upd_same, by show 33 + 3 ≤ sizeLine; decide, fun l12 m12 => ⟨l12, rfl, upd_same, S11.trans ((Same.upd n12).trans (Same.upd m12)), S11.free (Same.free (Same.upd n12) m12)⟩⟩⟩
    obtain ⟨l12, rfl, h12, S12, N12⟩ := hh12
    refine ⟨fun σ H' => ∃ l, σ = [some (.ref p), some (.ref l)] ∧ H' l = some (.lst (B13 mg x)) ∧ Same H H' ∧ H l = none, ?_, fun σ13 H13 hh13 => ?_⟩
    · exact ⟨_, rfl, p, _, tl, nid, fs, rfl, er.same S12, ec, isC mg x, fac T hx ["WrongLine", "NotAnswer", "IsAnswer"] (by decide), by show 3 ≤ sizeLine; decide, fun q13 n13 => ⟨l12, q13, _, _, rfl, rfl, (upd_ne (ne_of_none h12 n13)).trans h12, upd_same, by show 36 + 3 ≤ sizeLine; decide, fun l13 m13 => ⟨l13, rfl, upd_same, S12.trans ((Same.upd n13).trans (Same.upd m13)), S12.free (Same.free (Same.upd n13) m13)⟩⟩⟩
    obtain ⟨l13, rfl, h13, S13, N13⟩ := hh13
    refine ⟨fun σ H' => ∃ l, σ = [some (.ref p), some (.ref l)] ∧ H' l = some (.lst (B14 mg x)) ∧ Same H H' ∧ H l = none, ?_, fun σ14 H14 hh14 => ?_⟩
    · exact ⟨_, rfl, p, _, tl, nid, fs, rfl, er.same S13, ec, isC mg x, fac T hx ["NotEmpty", "Ended", "Changed"] (by decide), by show 3 ≤ sizeLine; decide, fun q14 n14 => ⟨l13, q14, _, _, rfl, rfl, (upd_ne (ne_of_none h13 n14)).trans h13, upd_same, by show 39 + 3 ≤ sizeLine; decide, fun l14 m14 => ⟨l14, rfl, upd_same, S13.trans ((Same.upd n14).trans (Same.upd m14)), S13.free (Same.free (Same.upd n14) m14)⟩⟩⟩
    obtain ⟨l14, rfl, h14, S14, N14⟩ := hh14
    refine ⟨fun σ H' => ∃ l, σ = [some (.ref p), some (.ref l)] ∧ H' l = some (.lst (B15 mg x)) ∧ Same H H' ∧ H l = none, ?_, fun σ15 H15 hh15 => ?_⟩
    · exact ⟨_, rfl, p, _, tl, nid, fs, rfl, er.same S14, ec, isC mg x, fac T hx ["Violated", "Held", "Crashed"] (by decide), by show 3 ≤ sizeLine; decide, fun q15 n15 => ⟨l14, q15, _, _, rfl, rfl, (upd_ne (ne_of_none h14 n15)).trans h14, upd_same, by show 42 + 3 ≤ sizeLine; decide, fun l15 m15 => ⟨l15, rfl, upd_same, S14.trans ((Same.upd n15).trans (Same.upd m15)), S14.free (Same.free (Same.upd n15) m15)⟩⟩⟩
    obtain ⟨l15, rfl, h15, S15, N15⟩ := hh15
    refine ⟨fun σ H' => ∃ l, σ = [some (.ref p), some (.ref l)] ∧ H' l = some (.lst (B16 mg x)) ∧ Same H H' ∧ H l = none, ?_, fun σ16 H16 hh16 => ?_⟩
    · exact ⟨_, rfl, p, _, tl, nid, fs, rfl, er.same S15, ec, isC mg x, fac T hx ["DiskInUse", "NoStore", "Needs"] (by decide), by show 3 ≤ sizeLine; decide, fun q16 n16 => ⟨l15, q16, _, _, rfl, rfl, (upd_ne (ne_of_none h15 n16)).trans h15, upd_same, by show 45 + 3 ≤ sizeLine; decide, fun l16 m16 => ⟨l16, rfl, upd_same, S15.trans ((Same.upd n16).trans (Same.upd m16)), S15.free (Same.free (Same.upd n16) m16)⟩⟩⟩
    obtain ⟨l16, rfl, h16, S16, N16⟩ := hh16
    refine ⟨fun σ H' => ∃ l, σ = [some (.ref p), some (.ref l)] ∧ H' l = some (.lst (B17 mg x)) ∧ Same H H' ∧ H l = none, ?_, fun σ17 H17 hh17 => ?_⟩
    · exact ⟨_, rfl, p, _, tl, nid, fs, rfl, er.same S16, ec, isC mg x, fac T hx ["TooMany", "TooLarge"] (by decide), by show 2 ≤ sizeLine; decide, fun q17 n17 => ⟨l16, q17, _, _, rfl, rfl, (upd_ne (ne_of_none h16 n17)).trans h16, upd_same, by show 48 + 2 ≤ sizeLine; decide, fun l17 m17 => ⟨l17, rfl, upd_same, S16.trans ((Same.upd n17).trans (Same.upd m17)), S16.free (Same.free (Same.upd n17) m17)⟩⟩⟩
    obtain ⟨l17, rfl, h17, S17, N17⟩ := hh17
    refine ⟨_, rfl, q _ _ S17 N17 ?_⟩
    rw [← bs_eq T hx]
    exact h17
end
end My
namespace My
open PySem PySem.Spec PyProof.Rows L2
def szs : List Nat := [1, 1, 1, 1, 1, 1, 1, 1, 1, 1, 1, 1, 1, 1, 1, 1, 1, 1, 1, 2, 1, 1, 1, 1, 1, 1, 1, 1, 1, 2, 2, 1, 0, 1, 1, 0, 1, 1, 1, 1, 0, 2, 2, 1, 0, 0, 0, 1, 2, 1]
def fls (a b : V) : List V := szs.flatMap fun n => List.take n [a, b]
def F1 (a b : V) : List V := [a, a, a, a, a, a]
def F2 (a b : V) : List V := [a, a, a, a, a, a, a, a, a, a, a, a]
def F3 (a b : V) : List V := [a, a, a, a, a, a, a, a, a, a, a, a, a, a, a, a, a]
def F4 (a b : V) : List V := [a, a, a, a, a, a, a, a, a, a, a, a, a, a, a, a, a, a, a, a, b]
def F5 (a b : V) : List V := [a, a, a, a, a, a, a, a, a, a, a, a, a, a, a, a, a, a, a, a, b, a, a, a, a, a]
def F6 (a b : V) : List V := [a, a, a, a, a, a, a, a, a, a, a, a, a, a, a, a, a, a, a, a, b, a, a, a, a, a, a, a, a, a, a]
def F7 (a b : V) : List V := [a, a, a, a, a, a, a, a, a, a, a, a, a, a, a, a, a, a, a, a, b, a, a, a, a, a, a, a, a, a, a, b, a, b, a, a, a]
def F8 (a b : V) : List V := [a, a, a, a, a, a, a, a, a, a, a, a, a, a, a, a, a, a, a, a, b, a, a, a, a, a, a, a, a, a, a, b, a, b, a, a, a, a, a, a, a, a, b]
def F9 (a b : V) : List V := [a, a, a, a, a, a, a, a, a, a, a, a, a, a, a, a, a, a, a, a, b, a, a, a, a, a, a, a, a, a, a, b, a, b, a, a, a, a, a, a, a, a, b, a, b, a, a, a]
def F10 (a b : V) : List V := [a, a, a, a, a, a, a, a, a, a, a, a, a, a, a, a, a, a, a, a, b, a, a, a, a, a, a, a, a, a, a, b, a, b, a, a, a, a, a, a, a, a, b, a, b, a, a, a, b, a]
theorem fls_eq {a b : V} : F10 a b = fls a b := rfl
section
variable {P : Program} {w : World} {K : PySem.W.Frag} {mg : Str → Option Value} {base : Heap}
def spFields (K : PySem.W.Frag) (mg : Str → Option Value) : Sp := fun vs H Q _ => ∃ x ps a b, vs = [.ref x] ∧ SqL K H x (ps.map V.ref) ∧ (∀ H', Same H H' → SqL K H' x (ps.map V.ref)) ∧ Gx.ErrsO H ps (cls mg a b) ∧ ∀ l H', Same H H' → H l = none → H' l = some (.lst (fls a b)) → Q (.ref l) H'
theorem p__law_fields (T : Mo K mg) : Gx.Pr P w K mg base CX0 1 "_law_fields" s__law_fields ["_law_some"] (spFields K mg) := by
  refine T.d__law_fields.ok sc__law_fields (fun vs H Q E h => ?_) (fun f cdv A outer s H vs Q E hr h => ?_)
  · obtain ⟨x, ps, a, b, rfl, _⟩ := h
    rfl
  · obtain ⟨x, ps, a, b, rfl, hS, hK, er, q⟩ := h
    refine ⟨_, (Evl.pss_cut (ps_set (i := 1) sc__law_fields.nd rfl (Or.inl rfl) (pe_lst (Gx.pa_f1 (K := K) (n := 0) rfl (pe_ix ix_list (pv 0) pe_int (fun _ _ => rfl)) (Gx.pa_f1 (K := K) (n := 1) rfl (pe_ix ix_list (pv 0) pe_int (fun _ _ => rfl)) (Gx.pa_f1 (K := K) (n := 2) rfl (pe_ix ix_list (pv 0) pe_int (fun _ _ => rfl)) (Gx.pa_f1 (K := K) (n := 3) rfl (pe_ix ix_list (pv 0) pe_int (fun _ _ => rfl)) (Gx.pa_f1 (K := K) (n := 4) rfl (pe_ix ix_list (pv 0) pe_int (fun _ _ => rfl)) (Gx.pa_f1 (K := K) (n := 5) rfl (pe_ix ix_list (pv 0) pe_int (fun _ _ => rfl)) Gx.pa_f0))))))))
      (Evl.pss_cut (ps_set (i := 1) sc__law_fields.nd rfl (Or.inl rfl) (pe_op op_cat (pv 1) (pe_lst (Gx.pa_f1 (K := K) (n := 6) rfl (pe_ix ix_list (pv 0) pe_int (fun _ _ => rfl)) (Gx.pa_f1 (K := K) (n := 7) rfl (pe_ix ix_list (pv 0) pe_int (fun _ _ => rfl)) (Gx.pa_f1 (K := K) (n := 8) rfl (pe_ix ix_list (pv 0) pe_int (fun _ _ => rfl)) (Gx.pa_f1 (K := K) (n := 9) rfl (pe_ix ix_list (pv 0) pe_int (fun _ _ => rfl)) (Gx.pa_f1 (K := K) (n := 10) rfl (pe_ix ix_list (pv 0) pe_int (fun _ _ => rfl)) (Gx.pa_f1 (K := K) (n := 11) rfl (pe_ix ix_list (pv 0) pe_int (fun _ _ => rfl)) Gx.pa_f0)))))))))
      (Evl.pss_cut (ps_set (i := 1) sc__law_fields.nd rfl (Or.inl rfl) (pe_op op_cat (pv 1) (pe_lst (Gx.pa_f1 (K := K) (n := 12) rfl (pe_ix ix_list (pv 0) pe_int (fun _ _ => rfl)) (Gx.pa_f1 (K := K) (n := 13) rfl (pe_ix ix_list (pv 0) pe_int (fun _ _ => rfl)) (Gx.pa_f1 (K := K) (n := 14) rfl (pe_ix ix_list (pv 0) pe_int (fun _ _ => rfl)) (Gx.pa_f1 (K := K) (n := 15) rfl (pe_ix ix_list (pv 0) pe_int (fun _ _ => rfl)) (Gx.pa_f1 (K := K) (n := 16) rfl (pe_ix ix_list (pv 0) pe_int (fun _ _ => rfl)) Gx.pa_f0))))))))
      (Evl.pss_cut (ps_set (i := 1) sc__law_fields.nd rfl (Or.inl rfl) (pe_op op_cat (pv 1) (pe_lst (Gx.pa_f1 (K := K) (n := 17) rfl (pe_ix ix_list (pv 0) pe_int (fun _ _ => rfl)) (Gx.pa_f1 (K := K) (n := 18) rfl (pe_ix ix_list (pv 0) pe_int (fun _ _ => rfl)) (Gx.pa_f1 (K := K) (n := 19) rfl (pe_ix ix_list (pv 0) pe_int (fun _ _ => rfl)) (Gx.pa_f1 (K := K) (n := 19) rfl (pe_ix ix_list (pv 0) pe_int (fun _ _ => rfl)) Gx.pa_f0)))))))
      (Evl.pss_cut (ps_set (i := 1) sc__law_fields.nd rfl (Or.inl rfl) (pe_op op_cat (pv 1) (pe_lst (Gx.pa_f1 (K := K) (n := 20) rfl (pe_ix ix_list (pv 0) pe_int (fun _ _ => rfl)) (Gx.pa_f1 (K := K) (n := 21) rfl (pe_ix ix_list (pv 0) pe_int (fun _ _ => rfl)) (Gx.pa_f1 (K := K) (n := 22) rfl (pe_ix ix_list (pv 0) pe_int (fun _ _ => rfl)) (Gx.pa_f1 (K := K) (n := 23) rfl (pe_ix ix_list (pv 0) pe_int (fun _ _ => rfl)) (Gx.pa_f1 (K := K) (n := 24) rfl (pe_ix ix_list (pv 0) pe_int (fun _ _ => rfl)) Gx.pa_f0))))))))
      (Evl.pss_cut (ps_set (i := 1) sc__law_fields.nd rfl (Or.inl rfl) (pe_op op_cat (pv 1) (pe_lst (Gx.pa_f1 (K := K) (n := 25) rfl (pe_ix ix_list (pv 0) pe_int (fun _ _ => rfl)) (Gx.pa_f1 (K := K) (n := 26) rfl (pe_ix ix_list (pv 0) pe_int (fun _ _ => rfl)) (Gx.pa_f1 (K := K) (n := 27) rfl (pe_ix ix_list (pv 0) pe_int (fun _ _ => rfl)) (Gx.pa_f1 (K := K) (n := 28) rfl (pe_ix ix_list (pv 0) pe_int (fun _ _ => rfl)) (Gx.pa_f1 (K := K) (n := 29) rfl (pe_ix ix_list (pv 0) pe_int (fun _ _ => rfl)) Gx.pa_f0))))))))
      (Evl.pss_cut (ps_set (i := 1) sc__law_fields.nd rfl (Or.inl rfl) (pe_op op_cat (pv 1) (pe_lst (Gx.pa_f1 (K := K) (n := 29) rfl (pe_ix ix_list (pv 0) pe_int (fun _ _ => rfl)) (Gx.pa_f1 (K := K) (n := 30) rfl (pe_ix ix_list (pv 0) pe_int (fun _ _ => rfl)) (Gx.pa_f1 (K := K) (n := 30) rfl (pe_ix ix_list (pv 0) pe_int (fun _ _ => rfl)) (Gx.pa_f1 (K := K) (n := 31) rfl (pe_ix ix_list (pv 0) pe_int (fun _ _ => rfl)) (Gx.pa_f1 (K := K) (n := 33) rfl (pe_ix ix_list (pv 0) pe_int (fun _ _ => rfl)) (Gx.pa_f1 (K := K) (n := 34) rfl (pe_ix ix_list (pv 0) pe_int (fun _ _ => rfl)) Gx.pa_f0)))))))))
      (Evl.pss_cut (ps_set (i := 1) sc__law_fields.nd rfl (Or.inl rfl) (pe_op op_cat (pv 1) (pe_lst (Gx.pa_f1 (K := K) (n := 36) rfl (pe_ix ix_list (pv 0) pe_int (fun _ _ => rfl)) (Gx.pa_f1 (K := K) (n := 37) rfl (pe_ix ix_list (pv 0) pe_int (fun _ _ => rfl)) (Gx.pa_f1 (K := K) (n := 38) rfl (pe_ix ix_list (pv 0) pe_int (fun _ _ => rfl)) (Gx.pa_f1 (K := K) (n := 39) rfl (pe_ix ix_list (pv 0) pe_int (fun _ _ => rfl)) (Gx.pa_f1 (K := K) (n := 41) rfl (pe_ix ix_list (pv 0) pe_int (fun _ _ => rfl)) (Gx.pa_f1 (K := K) (n := 41) rfl (pe_ix ix_list (pv 0) pe_int (fun _ _ => rfl)) Gx.pa_f0)))))))))
      (Evl.pss_cut (ps_set (i := 1) sc__law_fields.nd rfl (Or.inl rfl) (pe_op op_cat (pv 1) (pe_lst (Gx.pa_f1 (K := K) (n := 42) rfl (pe_ix ix_list (pv 0) pe_int (fun _ _ => rfl)) (Gx.pa_f1 (K := K) (n := 42) rfl (pe_ix ix_list (pv 0) pe_int (fun _ _ => rfl)) (Gx.pa_f1 (K := K) (n := 43) rfl (pe_ix ix_list (pv 0) pe_int (fun _ _ => rfl)) (Gx.pa_f1 (K := K) (n := 47) rfl (pe_ix ix_list (pv 0) pe_int (fun _ _ => rfl)) (Gx.pa_f1 (K := K) (n := 48) rfl (pe_ix ix_list (pv 0) pe_int (fun _ _ => rfl)) Gx.pa_f0))))))))
      (Evl.pss_cut (ps_set (i := 1) sc__law_fields.nd rfl (Or.inl rfl) (pe_op op_cat (pv 1) (pe_lst (Gx.pa_f1 (K := K) (n := 48) rfl (pe_ix ix_list (pv 0) pe_int (fun _ _ => rfl)) (Gx.pa_f1 (K := K) (n := 49) rfl (pe_ix ix_list (pv 0) pe_int (fun _ _ => rfl)) Gx.pa_f0)))))
      (pss_one (ps_ret (pv 1))))))))))))), ?_⟩
    refine ⟨fun σ H' => ∃ l, σ = [some (.ref x), some (.ref l)] ∧ H' l = some (.lst (F1 a b)) ∧ Same H H' ∧ H l = none, ?_, fun σ1 H1 hh1 => ?_⟩
    · exact ⟨x, ps, cls mg a b, rfl, hS, er, ecs T, [a, a, a, a, a, a], .cons ⟨_, _, rfl, T.f_InvalidBits_value, rfl⟩ (.cons ⟨_, _, rfl, T.f_InvalidValue_value, rfl⟩ (.cons ⟨_, _, rfl, T.f_InvalidRange_value, rfl⟩ (.cons ⟨_, _, rfl, T.f_InvalidPlace_value, rfl⟩ (.cons ⟨_, _, rfl, T.f_InvalidCount_value, rfl⟩ (.cons ⟨_, _, rfl, T.f_InvalidName_value, rfl⟩ (.nil)))))), by show 6 ≤ sizeLine; decide, fun l1 m1 => ⟨l1, rfl, upd_same, Same.upd m1, m1⟩⟩
    obtain ⟨l1, rfl, h1, S1, N1⟩ := hh1
    refine ⟨fun σ H' => ∃ l, σ = [some (.ref x), some (.ref l)] ∧ H' l = some (.lst (F2 a b)) ∧ Same H H' ∧ H l = none, ?_, fun σ2 H2 hh2 => ?_⟩
    · exact ⟨_, rfl, x, ps, cls mg a b, rfl, hK _ S1, er.same S1, ecs T, [a, a, a, a, a, a], .cons ⟨_, _, rfl, T.f_InvalidColumns_value, rfl⟩ (.cons ⟨_, _, rfl, T.f_InvalidKey_value, rfl⟩ (.cons ⟨_, _, rfl, T.f_InvalidPayload_value, rfl⟩ (.cons ⟨_, _, rfl, T.f_InvalidText_value, rfl⟩ (.cons ⟨_, _, rfl, T.f_InvalidPoint_value, rfl⟩ (.cons ⟨_, _, rfl, T.f_InvalidLimit_value, rfl⟩ (.nil)))))), by show 6 ≤ sizeLine; decide, fun q2 n2 => ⟨l1, q2, _, _, rfl, rfl, (upd_ne (ne_of_none h1 n2)).trans h1, upd_same, by show 6 + 6 ≤ sizeLine; decide, fun l2 m2 => ⟨l2, rfl, upd_same, S1.trans ((Same.upd n2).trans (Same.upd m2)), S1.free (Same.free (Same.upd n2) m2)⟩⟩⟩
    obtain ⟨l2, rfl, h2, S2, N2⟩ := hh2
    refine ⟨fun σ H' => ∃ l, σ = [some (.ref x), some (.ref l)] ∧ H' l = some (.lst (F3 a b)) ∧ Same H H' ∧ H l = none, ?_, fun σ3 H3 hh3 => ?_⟩
    · exact ⟨_, rfl, x, ps, cls mg a b, rfl, hK _ S2, er.same S2, ecs T, [a, a, a, a, a], .cons ⟨_, _, rfl, T.f_InvalidPage_value, rfl⟩ (.cons ⟨_, _, rfl, T.f_InvalidMessage_value, rfl⟩ (.cons ⟨_, _, rfl, T.f_InvalidCommand_value, rfl⟩ (.cons ⟨_, _, rfl, T.f_InvalidBox_position, rfl⟩ (.cons ⟨_, _, rfl, T.f_InvalidOrder_position, rfl⟩ (.nil))))), by show 5 ≤ sizeLine; decide, fun q3 n3 => ⟨l2, q3, _, _, rfl, rfl, (upd_ne (ne_of_none h2 n3)).trans h2, upd_same, by show 12 + 5 ≤ sizeLine; decide, fun l3 m3 => ⟨l3, rfl, upd_same, S2.trans ((Same.upd n3).trans (Same.upd m3)), S2.free (Same.free (Same.upd n3) m3)⟩⟩⟩
    obtain ⟨l3, rfl, h3, S3, N3⟩ := hh3
    refine ⟨fun σ H' => ∃ l, σ = [some (.ref x), some (.ref l)] ∧ H' l = some (.lst (F4 a b)) ∧ Same H H' ∧ H l = none, ?_, fun σ4 H4 hh4 => ?_⟩
    · exact ⟨_, rfl, x, ps, cls mg a b, rfl, hK _ S3, er.same S3, ecs T, [a, a, a, b], .cons ⟨_, _, rfl, T.f_InvalidWrite_position, rfl⟩ (.cons ⟨_, _, rfl, T.f_InvalidPaper_position, rfl⟩ (.cons ⟨_, _, rfl, T.f_InvalidQuery_problem, rfl⟩ (.cons ⟨_, _, rfl, T.f_InvalidQuery_position, rfl⟩ (.nil)))), by show 4 ≤ sizeLine; decide, fun q4 n4 => ⟨l3, q4, _, _, rfl, rfl, (upd_ne (ne_of_none h3 n4)).trans h3, upd_same, by show 17 + 4 ≤ sizeLine; decide, fun l4 m4 => ⟨l4, rfl, upd_same, S3.trans ((Same.upd n4).trans (Same.upd m4)), S3.free (Same.free (Same.upd n4) m4)⟩⟩⟩
    obtain ⟨l4, rfl, h4, S4, N4⟩ := hh4
    refine ⟨fun σ H' => ∃ l, σ = [some (.ref x), some (.ref l)] ∧ H' l = some (.lst (F5 a b)) ∧ Same H H' ∧ H l = none, ?_, fun σ5 H5 hh5 => ?_⟩
    · exact ⟨_, rfl, x, ps, cls mg a b, rfl, hK _ S4, er.same S4, ecs T, [a, a, a, a, a], .cons ⟨_, _, rfl, T.f_InvalidGroups_problem, rfl⟩ (.cons ⟨_, _, rfl, T.f_UnknownTable_value, rfl⟩ (.cons ⟨_, _, rfl, T.f_UnknownVersion_value, rfl⟩ (.cons ⟨_, _, rfl, T.f_UnknownName_value, rfl⟩ (.cons ⟨_, _, rfl, T.f_UnknownTransaction_value, rfl⟩ (.nil))))), by show 5 ≤ sizeLine; decide, fun q5 n5 => ⟨l4, q5, _, _, rfl, rfl, (upd_ne (ne_of_none h4 n5)).trans h4, upd_same, by show 21 + 5 ≤ sizeLine; decide, fun l5 m5 => ⟨l5, rfl, upd_same, S4.trans ((Same.upd n5).trans (Same.upd m5)), S4.free (Same.free (Same.upd n5) m5)⟩⟩⟩
    obtain ⟨l5, rfl, h5, S5, N5⟩ := hh5
    refine ⟨fun σ H' => ∃ l, σ = [some (.ref x), some (.ref l)] ∧ H' l = some (.lst (F6 a b)) ∧ Same H H' ∧ H l = none, ?_, fun σ6 H6 hh6 => ?_⟩
    · exact ⟨_, rfl, x, ps, cls mg a b, rfl, hK _ S5, er.same S5, ecs T, [a, a, a, a, a], .cons ⟨_, _, rfl, T.f_TooOld_least, rfl⟩ (.cons ⟨_, _, rfl, T.f_WrongColumns_position, rfl⟩ (.cons ⟨_, _, rfl, T.f_Holds_position, rfl⟩ (.cons ⟨_, _, rfl, T.f_NameTaken_name, rfl⟩ (.cons ⟨_, _, rfl, T.f_KeyTaken_table, rfl⟩ (.nil))))), by show 5 ≤ sizeLine; decide, fun q6 n6 => ⟨l5, q6, _, _, rfl, rfl, (upd_ne (ne_of_none h5 n6)).trans h5, upd_same, by show 26 + 5 ≤ sizeLine; decide, fun l6 m6 => ⟨l6, rfl, upd_same, S5.trans ((Same.upd n6).trans (Same.upd m6)), S5.free (Same.free (Same.upd n6) m6)⟩⟩⟩
    obtain ⟨l6, rfl, h6, S6, N6⟩ := hh6
    refine ⟨fun σ H' => ∃ l, σ = [some (.ref x), some (.ref l)] ∧ H' l = some (.lst (F7 a b)) ∧ Same H H' ∧ H l = none, ?_, fun σ7 H7 hh7 => ?_⟩
    · exact ⟨_, rfl, x, ps, cls mg a b, rfl, hK _ S6, er.same S6, ecs T, [b, a, b, a, a, a], .cons ⟨_, _, rfl, T.f_KeyTaken_key, rfl⟩ (.cons ⟨_, _, rfl, T.f_NoSuchRow_table, rfl⟩ (.cons ⟨_, _, rfl, T.f_NoSuchRow_key, rfl⟩ (.cons ⟨_, _, rfl, T.f_NotClear_key, rfl⟩ (.cons ⟨_, _, rfl, T.f_NoHalf_place, rfl⟩ (.cons ⟨_, _, rfl, T.f_NotJoined_place, rfl⟩ (.nil)))))), by show 6 ≤ sizeLine; decide, fun q7 n7 => ⟨l6, q7, _, _, rfl, rfl, (upd_ne (ne_of_none h6 n7)).trans h6, upd_same, by show 31 + 6 ≤ sizeLine; decide, fun l7 m7 => ⟨l7, rfl, upd_same, S6.trans ((Same.upd n7).trans (Same.upd m7)), S6.free (Same.free (Same.upd n7) m7)⟩⟩⟩
    obtain ⟨l7, rfl, h7, S7, N7⟩ := hh7
    refine ⟨fun σ H' => ∃ l, σ = [some (.ref x), some (.ref l)] ∧ H' l = some (.lst (F8 a b)) ∧ Same H H' ∧ H l = none, ?_, fun σ8 H8 hh8 => ?_⟩
    · exact ⟨_, rfl, x, ps, cls mg a b, rfl, hK _ S7, er.same S7, ecs T, [a, a, a, a, a, b], .cons ⟨_, _, rfl, T.f_WrongLine_line, rfl⟩ (.cons ⟨_, _, rfl, T.f_NotAnswer_point, rfl⟩ (.cons ⟨_, _, rfl, T.f_IsAnswer_point, rfl⟩ (.cons ⟨_, _, rfl, T.f_NotEmpty_point, rfl⟩ (.cons ⟨_, _, rfl, T.f_Changed_act, rfl⟩ (.cons ⟨_, _, rfl, T.f_Changed_item, rfl⟩ (.nil)))))), by show 6 ≤ sizeLine; decide, fun q8 n8 => ⟨l7, q8, _, _, rfl, rfl, (upd_ne (ne_of_none h7 n8)).trans h7, upd_same, by show 37 + 6 ≤ sizeLine; decide, fun l8 m8 => ⟨l8, rfl, upd_same, S7.trans ((Same.upd n8).trans (Same.upd m8)), S7.free (Same.free (Same.upd n8) m8)⟩⟩⟩
    obtain ⟨l8, rfl, h8, S8, N8⟩ := hh8
    refine ⟨fun σ H' => ∃ l, σ = [some (.ref x), some (.ref l)] ∧ H' l = some (.lst (F9 a b)) ∧ Same H H' ∧ H l = none, ?_, fun σ9 H9 hh9 => ?_⟩
    · exact ⟨_, rfl, x, ps, cls mg a b, rfl, hK _ S8, er.same S8, ecs T, [a, b, a, a, a], .cons ⟨_, _, rfl, T.f_Violated_name, rfl⟩ (.cons ⟨_, _, rfl, T.f_Violated_point, rfl⟩ (.cons ⟨_, _, rfl, T.f_Held_earliest, rfl⟩ (.cons ⟨_, _, rfl, T.f_Needs_request, rfl⟩ (.cons ⟨_, _, rfl, T.f_TooMany_kind, rfl⟩ (.nil))))), by show 5 ≤ sizeLine; decide, fun q9 n9 => ⟨l8, q9, _, _, rfl, rfl, (upd_ne (ne_of_none h8 n9)).trans h8, upd_same, by show 43 + 5 ≤ sizeLine; decide, fun l9 m9 => ⟨l9, rfl, upd_same, S8.trans ((Same.upd n9).trans (Same.upd m9)), S8.free (Same.free (Same.upd n9) m9)⟩⟩⟩
    obtain ⟨l9, rfl, h9, S9, N9⟩ := hh9
    refine ⟨fun σ H' => ∃ l, σ = [some (.ref x), some (.ref l)] ∧ H' l = some (.lst (F10 a b)) ∧ Same H H' ∧ H l = none, ?_, fun σ10 H10 hh10 => ?_⟩
    · exact ⟨_, rfl, x, ps, cls mg a b, rfl, hK _ S9, er.same S9, ecs T, [b, a], .cons ⟨_, _, rfl, T.f_TooMany_limit, rfl⟩ (.cons ⟨_, _, rfl, T.f_TooLarge_count, rfl⟩ (.nil)), by show 2 ≤ sizeLine; decide, fun q10 n10 => ⟨l9, q10, _, _, rfl, rfl, (upd_ne (ne_of_none h9 n10)).trans h9, upd_same, by show 48 + 2 ≤ sizeLine; decide, fun l10 m10 => ⟨l10, rfl, upd_same, S9.trans ((Same.upd n10).trans (Same.upd m10)), S9.free (Same.free (Same.upd n10) m10)⟩⟩⟩
    obtain ⟨l10, rfl, h10, S10, N10⟩ := hh10
    exact ⟨_, rfl, q _ _ S10 N10 h10⟩
end
end My
namespace My
open PySem PySem.Spec PyProof.Rows L2
def dueB (i : Nat) : List Bool := if i < 21 then [true, true, false, false, false] else [false, false, decide (i < 26), decide (26 ≤ i) && decide (i < 48), decide (48 ≤ i)]
theorem nms_get {i : Nat} {x : Str} (h : nms[i]? = some x) : (i < 21 ∧ x ∈ nm1) ∨ (21 ≤ i ∧ i < 26 ∧ x ∈ nm2) ∨ (26 ≤ i ∧ i < 48 ∧ x ∈ nm3) ∨ (48 ≤ i ∧ i < 50 ∧ x ∈ nm4) := by
  have l1 : nm1.length = 21 := rfl
  have l2 : nm2.length = 5 := rfl
  have l3 : nm3.length = 22 := rfl
  have l4 : nm4.length = 2 := rfl
  unfold nms at h
  revert l1 l2 l3 l4 h
  generalize nm1 = a, nm2 = b, nm3 = c, nm4 = d
  intro h l1 l2 l3 l4
  by_cases c1 : i < 21
  · rw [List.getElem?_append_left (by omega)] at h
    exact .inl ⟨c1, List.mem_of_getElem? h⟩
  · rw [List.getElem?_append_right (by omega)] at h
    by_cases c2 : i < 26
    · rw [List.getElem?_append_left (by omega)] at h
      exact .inr (.inl ⟨by omega, c2, List.mem_of_getElem? h⟩)
    · rw [List.getElem?_append_right (by omega)] at h
      by_cases c3 : i < 48
      · rw [List.getElem?_append_left (by omega)] at h
        exact .inr (.inr (.inl ⟨by omega, c3, List.mem_of_getElem? h⟩))
      · rw [List.getElem?_append_right (by omega)] at h
        have := (List.getElem?_eq_some_iff.mp h).1
        exact .inr (.inr (.inr ⟨by omega, by omega, List.mem_of_getElem? h⟩))
section
variable {P : Program} {w : World} {K : PySem.W.Frag} {mg : Str → Option Value} {base : Heap}
theorem ovs_sub (T : Mo K mg) {i : Nat} {x : Str} (h : nms[i]? = some x) {n : Nat} {o : Value} (ho : (ovs mg)[n]? = some o) : ∃ b, (dueB i)[n]? = some b ∧ PySem.W.subIn K (.ref (Gx.cl mg x)) o = some b := by
  rcases nms_get h with ⟨c, m⟩ | ⟨c1, c2, m⟩ | ⟨c1, c2, m⟩ | ⟨c1, c2, m⟩
  · have e : dueB i = [true, true, false, false, false] := if_pos c
    rw [e]
    exact Gx.over_sub T.tabs.o1 (List.mem_map.mpr ⟨x, m, rfl⟩) ho
  · have e : dueB i = [false, false, true, false, false] := by
      unfold dueB
      rw [if_neg (by omega), decide_eq_true c2, decide_eq_false (show ¬ 26 ≤ i by omega), decide_eq_false (show ¬ 48 ≤ i by omega)]
      rfl
    rw [e]
    exact Gx.over_sub T.tabs.o2 (List.mem_map.mpr ⟨x, m, rfl⟩) ho
  · have e : dueB i = [false, false, false, true, false] := by
      unfold dueB
      rw [if_neg (by omega), decide_eq_false (show ¬ i < 26 by omega), decide_eq_true c1, decide_eq_true c2, decide_eq_false (show ¬ 48 ≤ i by omega)]
      rfl
    rw [e]
    exact Gx.over_sub T.tabs.o3 (List.mem_map.mpr ⟨x, m, rfl⟩) ho
  · have e : dueB i = [false, false, false, false, true] := by
      unfold dueB
      rw [if_neg (by omega), decide_eq_false (show ¬ i < 26 by omega), decide_eq_false (show ¬ i < 48 by omega), decide_eq_true c1, Bool.and_false]
    rw [e]
    exact Gx.over_sub T.tabs.o4 (List.mem_map.mpr ⟨x, m, rfl⟩) ho
def ovF (bs : List Bool) : V → Bool
  | .ty n => if n = "ValueError" then bs.getD 1 false else if n = "LookupError" then bs.getD 2 false else if n = "RuntimeError" then bs.getD 3 false else bs.getD 4 false
  | _ => bs.getD 0 false
theorem getD_at {bs : List Bool} {n : Nat} {b : Bool} (h : bs[n]? = some b) : bs.getD n false = b := by simp [List.getD, h]
theorem ov_own (T : Mo K mg) {i : Nat} {x : Str} (h : nms[i]? = some x) : ∃ u, ClsV (.ref (Gx.cl mg "CoverError")) u ∧ PySem.W.kitOne K (.ref (Gx.cl mg x)) u = some (ovF (dueB i) (.ref (Gx.cl mg "CoverError"))) := by
  obtain ⟨b, e1, e2⟩ := ovs_sub T h (n := 0) rfl
  obtain ⟨_, _, ec⟩ := ecn T (List.mem_of_getElem? h)
  refine ⟨_, .own _, ?_⟩
  rw [show ovF (dueB i) (.ref (Gx.cl mg "CoverError")) = b from getD_at e1]
  exact kit_own2 ec T.ec_CoverError e2
theorem ov_ty (T : Mo K mg) {i : Nat} {x : Str} (h : nms[i]? = some x) {n : String} {j : Nat} (hj : (ovs mg)[j]? = some (.type n)) (km : PySem.W.kitMeta n = true) (hF : ovF (dueB i) (.ty n) = (dueB i).getD j false) : ∃ u, ClsV (.ty n) u ∧ PySem.W.kitOne K (.ref (Gx.cl mg x)) u = some (ovF (dueB i) (.ty n)) := by
  obtain ⟨b, e1, e2⟩ := ovs_sub T h hj
  refine ⟨_, .ty n, ?_⟩
  rw [hF, getD_at e1]
  exact Gx.kit_blt e2 km
def spBases (mg : Str → Option Value) : Sp := fun vs H Q _ => ∃ p x fs i, vs = [.ref p] ∧ nms[i]? = some x ∧ Gx.ErrO H p (Gx.cl mg x) fs ∧ ∀ l H', Same H H' → H l = none → H' l = some (.lst ((dueB i).map V.bl)) → Q (.ref l) H'
theorem dueB_five (i : Nat) : ∃ a b c d e, dueB i = [a, b, c, d, e] := by
  unfold dueB
  split <;> exact ⟨_, _, _, _, _, rfl⟩
theorem p__law_bases (T : Mo K mg) : Gx.Pr P w K mg base CX0 1 "_law_bases" s__law_bases ["_law_e"] (spBases mg) := by
  refine T.d__law_bases.ok sc__law_bases (fun vs H Q E h => ?_) (fun f cdv A outer s H vs Q E hr h => ?_)
  · obtain ⟨p, x, fs, i, rfl, _⟩ := h
    rfl
  · obtain ⟨p, x, fs, i, rfl, hi, er, q⟩ := h
    obtain ⟨tl, nid, ec⟩ := ecn T (List.mem_of_getElem? hi)
    have f0 := ov_own T hi
    have f1 := ov_ty T hi (n := "ValueError") (j := 1) rfl (by decide +kernel) (by simp [ovF])
    have f2 := ov_ty T hi (n := "LookupError") (j := 2) rfl (by decide +kernel) (by simp [ovF])
    have f3 := ov_ty T hi (n := "RuntimeError") (j := 3) rfl (by decide +kernel) (by simp [ovF])
    have f4 := ov_ty T hi (n := "ArithmeticError") (j := 4) rfl (by decide +kernel) (by simp [ovF])
    refine ⟨_, (pss_cons (ps_set (i := 1) sc__law_bases.nd rfl (Or.inl rfl) (pe_lst (Gx.pa_i1 (K := K) rfl (by rfl) T.b_isinstance (pv 0) (Gx.pe_k rfl (kn_CoverError T)) (Gx.pa_i1 (K := K) rfl (by rfl) T.b_isinstance (pv 0) (pe_bltn (v := .ty "ValueError") rfl T.b_ValueError (by decide +kernel) rfl) (Gx.pa_i1 (K := K) rfl (by rfl) T.b_isinstance (pv 0) (pe_bltn (v := .ty "LookupError") rfl T.b_LookupError (by decide +kernel) rfl) Gx.pa_i0)))))
      (pss_one (ps_ret (pe_op op_cat (pv 1) (pe_lst (Gx.pa_i1 (K := K) rfl (by rfl) T.b_isinstance (pv 0) (pe_bltn (v := .ty "RuntimeError") rfl T.b_RuntimeError (by decide +kernel) rfl) (Gx.pa_i1 (K := K) rfl (by rfl) T.b_isinstance (pv 0) (pe_bltn (v := .ty "ArithmeticError") rfl T.b_ArithmeticError (by decide +kernel) rfl) Gx.pa_i0))))))), ?_⟩
    refine ⟨p, _, tl, nid, fs, rfl, er, ec, ovF (dueB i), fun d hd => ?_, by show 3 ≤ sizeLine; decide, fun l1 m1 => ?_⟩
    · simp only [List.mem_cons, List.not_mem_nil, or_false] at hd
      rcases hd with rfl | rfl | rfl
      · exact f0
      · exact f1
      · exact f2
    refine ⟨_, rfl, p, _, tl, nid, fs, rfl, er.same (Same.upd m1), ec, ovF (dueB i), fun d hd => ?_, by show 2 ≤ sizeLine; decide, fun q2 n2 => ⟨l1, q2, _, _, rfl, rfl, (upd_ne (ne_of_none upd_same n2)).trans upd_same, upd_same, by show 3 + 2 ≤ sizeLine; decide, fun l2 m2 => ?_⟩⟩
    · simp only [List.mem_cons, List.not_mem_nil, or_false] at hd
      rcases hd with rfl | rfl
      · exact f3
      · exact f4
    refine q l2 _ ?_ ?_ (upd_same.trans (congrArg (fun z => some (HO.lst z)) ?_))
    · exact (Same.upd m1).trans ((Same.upd n2).trans (Same.upd m2))
    · exact (Same.upd m1).free ((Same.upd n2).free m2)
    obtain ⟨a, b, c, d, e, z⟩ := dueB_five i
    rw [z]
    simp [ovF]
def spDueB : Sp := fun vs H Q _ => ∃ i : Nat, vs = [.int i] ∧ ∀ l H', Same H H' → H l = none → H' l = some (.lst ((dueB i).map V.bl)) → Q (.ref l) H'
theorem p__law_due_bases (T : Mo K mg) : Gx.Pr P w K mg base CX0 1 "_law_due_bases" s__law_due_bases ["_law_at"] spDueB := by
  refine T.d__law_due_bases.ok sc__law_due_bases (fun vs H Q E h => ?_) (fun f cdv A outer s H vs Q E hr h => ?_)
  · obtain ⟨i, rfl, _⟩ := h
    rfl
  · obtain ⟨i, rfl, q⟩ := h
    refine ⟨_, (pss_cons (ps_if (pt_cmpR op_lt (pv 0) pe_int (nomark _)) (pss_one (ps_ret (pe_lst (pa_cons pe_bl (pa_cons pe_bl (pa_cons pe_bl (pa_cons pe_bl (pa_cons pe_bl pa_nil)))))))) pss_nil)
      (pss_one (ps_ret (pe_lst (pa_cons pe_bl (pa_cons pe_bl (pa_cons (pe_cmpR op_lt (pv 0) pe_int (nomark _)) (pa_cons (pe_chain op_le op_lt pe_int (pv 0) pe_int) (pa_cons (pe_cmpR op_ge (pv 0) pe_int (nomark _)) pa_nil))))))))), ?_⟩
    refine ⟨_, rfl, _, _, rfl, rfl, _, rfl, ?_⟩
    by_cases c : i < 21
    · rw [decide_eq_true (show (i : Int) < 21 by omega)]
      refine iteT ⟨by show 5 ≤ sizeLine; decide, fun l m => q l _ (Same.upd m) m ?_⟩
      rw [show dueB i = [true, true, false, false, false] from if_pos c]
      exact upd_same
    · rw [decide_eq_false (show ¬ (i : Int) < 21 by omega)]
      refine iteF ⟨_, rfl, _, _, rfl, rfl, _, rfl, _, _, rfl, rfl, _, rfl, ?_⟩
      show if decide ((26 : Int) ≤ i) = true then _ else _
      have e : dueB i = [false, false, decide (i < 26), decide (26 ≤ i) && decide (i < 48), decide (48 ≤ i)] := if_neg c
      have d1 : decide ((i : Int) < 26) = decide (i < 26) := by simp only [decide_eq_decide]; omega
      have d2 : decide ((i : Int) < 48) = decide (i < 48) := by simp only [decide_eq_decide]; omega
      have d3 : decide ((i : Int) ≥ 48) = decide (48 ≤ i) := by simp only [decide_eq_decide]; omega
      by_cases c2 : 26 ≤ i
      · rw [decide_eq_true (show (26 : Int) ≤ i by omega)]
        refine iteT ⟨_, _, rfl, rfl, _, rfl, _, _, rfl, rfl, by show 5 ≤ sizeLine; decide, fun l m => q l _ (Same.upd m) m ?_⟩
        rw [e, decide_eq_true c2, Bool.true_and]
        rw [← d1, ← d2, ← d3]
        exact upd_same
      · rw [decide_eq_false (show ¬ (26 : Int) ≤ i by omega)]
        refine iteF ⟨_, rfl, _, _, rfl, rfl, by show 5 ≤ sizeLine; decide, fun l m => q l _ (Same.upd m) m ?_⟩
        rw [e, decide_eq_false c2, Bool.false_and]
        rw [← d1, ← d3]
        exact upd_same
end
end My
namespace My
open PySem PySem.Spec PyProof.Rows L2
theorem cut_two {a b : V} : ∀ n : Nat, n ≤ 2 → cutV [a, b] none (some (n : Int)) = List.take n [a, b]
  | 0, _ => rfl
  | 1, _ => rfl
  | 2, _ => rfl
  | n + 3, h => absurd h (by omega)
theorem szs_two : ∀ n ∈ szs, n ≤ 2 := by decide
def flt (a b : V) (i : Nat) : List V := (szs.take i).flatMap fun n => List.take n [a, b]
theorem flt_succ {a b : V} {i n : Nat} (h : szs[i]? = some n) : flt a b (i + 1) = flt a b i ++ List.take n [a, b] := by
  unfold flt
  rw [List.take_add_one, h, List.flatMap_append]
  simp
theorem flt_len {a b : V} : ∀ l : List Nat, (l.flatMap fun n => List.take n [a, b]).length ≤ 2 * l.length
  | [] => Nat.le_refl _
  | n :: l => by
    have z := flt_len (a := a) (b := b) l
    have y : ([a, b] : List V).length = 2 := rfl
    rw [List.flatMap_cons, List.length_append, List.length_take, y, List.length_cons]
    omega
section
variable {P : Program} {w : World} {K : PySem.W.Frag} {mg : Str → Option Value} {base : Heap}
def spDueF : Sp := fun vs H Q _ => ∃ a b, vs = [a, b] ∧ ∀ l H', Same H H' → H l = none → H' l = some (.lst (fls a b)) → Q (.ref l) H'
theorem p__law_due_fields (T : Mo K mg) : Gx.Pr P w K mg base CX0 1 "_law_due_fields" s__law_due_fields ["_law_a", "_law_b"] spDueF := by
  refine T.d__law_due_fields.ok sc__law_due_fields (fun vs H Q E h => ?_) (fun f cdv A outer s H vs Q E hr h => ?_)
  · obtain ⟨a, b, rfl, _⟩ := h
    rfl
  · obtain ⟨a, b, rfl, q⟩ := h
    refine ⟨_, (pss_cons (ps_set (i := 2) sc__law_due_fields.nd rfl (Or.inl rfl) (pe_lst (pa_cons pe_int (pa_cons pe_int (pa_cons pe_int (pa_cons pe_int (pa_cons pe_int (pa_cons pe_int (pa_cons pe_int (pa_cons pe_int (pa_cons pe_int (pa_cons pe_int (pa_cons pe_int (pa_cons pe_int (pa_cons pe_int (pa_cons pe_int (pa_cons pe_int (pa_cons pe_int (pa_cons pe_int (pa_cons pe_int (pa_cons pe_int (pa_cons pe_int (pa_cons pe_int (pa_cons pe_int (pa_cons pe_int (pa_cons pe_int (pa_cons pe_int pa_nil)))))))))))))))))))))))))))
      (pss_cons (ps_set (i := 2) sc__law_due_fields.nd rfl (Or.inl rfl) (pe_op op_cat (pv 2) (pe_lst (pa_cons pe_int (pa_cons pe_int (pa_cons pe_int (pa_cons pe_int (pa_cons pe_int (pa_cons pe_int (pa_cons pe_int (pa_cons pe_int (pa_cons pe_int (pa_cons pe_int (pa_cons pe_int (pa_cons pe_int (pa_cons pe_int (pa_cons pe_int (pa_cons pe_int (pa_cons pe_int (pa_cons pe_int (pa_cons pe_int (pa_cons pe_int (pa_cons pe_int (pa_cons pe_int (pa_cons pe_int (pa_cons pe_int (pa_cons pe_int (pa_cons pe_int pa_nil))))))))))))))))))))))))))))
      (Evl.pss_cut (ps_set (i := 3) sc__law_due_fields.nd rfl (Or.inl rfl) (pe_lst pa_nil))
      (pss_cons (ps_for PassesOwn.never rfl (pi_list (pv 2)) (pg_name (i := 4) sc__law_due_fields.nd rfl (Or.inl rfl)) (pss_one (ps_expr (pe_bm PySem.F.plainAttrs_list PySem.F.slot_list_extend PySem.F.type_list_extend mt_extend (pv 3) (pa_cons (pe_slice sl_list (pe_lst (pa_cons (pv 0) (pa_cons (pv 1) pa_nil))) po_none (po_some (pv 4))) pa_nil)))))
      (pss_one (ps_ret (pv 3))))))), ?_⟩
    refine ⟨by show 25 ≤ sizeLine; decide, fun l1 m1 => ⟨_, rfl, by show 25 ≤ sizeLine; decide, fun q2 n2 => ⟨l1, q2, _, _, rfl, rfl, (upd_ne (ne_of_none upd_same n2)).trans upd_same, upd_same, by show 25 + 25 ≤ sizeLine; decide, fun l2 m2 => ?_⟩⟩⟩
    refine ⟨fun σ H' => ∃ l2 l3, σ = [some a, some b, some (.ref l2), some (.ref l3), none] ∧ H' l2 = some (.lst (szs.map fun n => V.int ((n : Nat) : Int))) ∧ H' l3 = some (.lst []) ∧ Same H H' ∧ H l3 = none, ⟨Nat.zero_le _, fun l3 m3 => ⟨l2, l3, rfl, (upd_ne (ne_of_none upd_same m3)).trans upd_same, upd_same, (Same.upd m1).trans ((Same.upd n2).trans ((Same.upd m2).trans (Same.upd m3))), ((Same.upd m1).trans ((Same.upd n2).trans (Same.upd m2))).free m3⟩⟩, fun σ1 H1 hh => ?_⟩
    obtain ⟨l2, l3, rfl, hs, h0, hS, nl⟩ := hh
    refine ⟨_, rfl, l2, rfl, ⟨_, SqL.of hs⟩, for_list (xs := szs.map fun n => V.int ((n : Nat) : Int)) (fun i σ H' => ∃ t, σ = [some a, some b, some (.ref l2), some (.ref l3), t] ∧ H' l3 = some (.lst (flt a b i)) ∧ Same H H' ∧ H' l2 = some (.lst (szs.map fun n => V.int ((n : Nat) : Int)))) ⟨_, rfl, h0, hS, hs⟩ (fun i σ H' _ h => ?_) (fun i x σ H' hx h => ?_) (fun σ H' h => ?_)⟩
    · obtain ⟨t, _, _, _, h4⟩ := h
      exact SqL.of h4
    · obtain ⟨t, rfl, h2, h3, h4⟩ := h
      rw [List.getElem?_map] at hx
      obtain ⟨n, hn, rfl⟩ := Option.map_eq_some_iff.mp hx
      have n2' : n ≤ 2 := szs_two n (List.mem_of_getElem? hn)
      refine ⟨_, rfl, .inl ⟨rfl, _, SqL.of h2⟩, _, rfl, _, rfl, by show 2 ≤ sizeLine; decide, fun p np => ⟨_, rfl, _, rfl, p, [a, b], rfl, SqL.of upd_same, fun p2 np2 => ?_⟩⟩
      have e1 : Same H' _ := (Same.upd (o := .lst [a, b]) np).trans (Same.upd (o := .lst (cutV [a, b] none (some (n : Int)))) np2)
      have z := flt_len (a := a) (b := b) (szs.take i)
      have z1 : (szs.take i).length ≤ 50 := by
        rw [List.length_take]
        exact Nat.min_le_right _ _
      refine ⟨l3, p2, _, _, rfl, rfl, e1 _ _ h2, upd_same, ?_, ?_⟩
      · have := cutV_length [a, b] none (some (n : Int))
        have y : ([a, b] : List V).length = 2 := rfl
        exact Nat.le_trans (show (flt a b i).length + _ ≤ 200 by unfold flt; omega) (by decide)
      · refine ⟨_, rfl, ?_, fun c o e => ?_, ?_⟩
        · rw [upd_same, flt_succ hn, cut_two n n2']
        · rw [upd_ne (ne_of_none e nl)]
          exact e1 _ _ (h3 _ _ e)
        · rw [upd_ne fun y => ?_]
          · exact e1 _ _ h4
          · rw [y] at hs
            rw [hs] at h0
            cases h0
    · obtain ⟨t, rfl, h2, h3, h4⟩ := h
      have e : flt a b (szs.map fun n => V.int ((n : Nat) : Int)).length = fls a b := by
        unfold flt fls
        rw [List.length_map, List.take_of_length_le (Nat.le_refl _)]
      rw [e] at h2
      exact ⟨_, rfl, q _ _ h3 nl h2⟩
end
end My
namespace My
open PySem PySem.Spec PyProof.Rows L2
/-! ### lists of bools -/
theorem dp_bools {K : PySem.W.Frag} {H : Hp} : ∀ bs : List Bool, DpAll K H (bs.map V.bl) (bs.map PyData.bool)
  | [] => .nil
  | b :: bs => .cons (.bl b) (dp_bools bs)
theorem lay_bools : ∀ bs : List Bool, PyData.canLayAll0 (bs.map PyData.bool) = true ∧ PyData.depthAll (bs.map PyData.bool) = 0
  | [] => by simp [PyData.canLayAll0, PyData.depthAll]
  | b :: bs => by simp [PyData.canLayAll0, PyData.canLay0, PyData.depthAll, PyData.depth, lay_bools bs]
theorem shaped_bools (bs : List Bool) : SeqAt.shaped (.list (bs.map PyData.bool)) = true := by
  unfold SeqAt.shaped
  simp only [PyData.canLay0, PyData.depth, (lay_bools bs).1, (lay_bools bs).2, Bool.true_and]
  decide
theorem eqv_boolsA : ∀ bs : List Bool, PyData.eqvAll (bs.map PyData.bool) (bs.map PyData.bool) = true
  | [] => by simp [PyData.eqvAll]
  | b :: bs => by cases b <;> simp [PyData.eqvAll, PyData.eqv, eqv_boolsA bs]
theorem eqv_bools (bs : List Bool) : PyData.eqv (.list (bs.map PyData.bool)) (.list (bs.map PyData.bool)) = true := by simpa [PyData.eqv] using eqv_boolsA bs
def bsI (i : Nat) : List Bool := (List.range 50).map fun k => decide (i = k)
theorem nms_len : nms.length = 50 := rfl
theorem nms_bsA : ∀ i : Fin 50, (nms.map fun y => decide (y = nms.getD i.1 "")) = bsI i.1 := by decide +kernel
theorem getD_of {l : List Str} {i : Nat} {x d : Str} (h : l[i]? = some x) : l.getD i d = x := by simp [List.getD, h]
theorem nms_bs {i : Nat} {x : Str} (h : nms[i]? = some x) : (nms.map fun y => decide (y = x)) = bsI i := by
  have hi := (List.getElem?_eq_some_iff.mp h).1
  rw [nms_len] at hi
  have z := nms_bsA ⟨i, hi⟩
  rw [show nms.getD (⟨i, hi⟩ : Fin 50).1 "" = x from getD_of h] at z
  exact z
/-! ### what the fields show -/
theorem shows_take {K : PySem.W.Frag} {H : Hp} {a b : V} {da db : PyData} (ha : Gx.Shows K H a da) (hb : Gx.Shows K H b db) : ∀ n : Nat, Gx.ShowsAll K H (List.take n [a, b]) (List.take n [da, db])
  | 0 => .nil
  | 1 => .cons ha .nil
  | n + 2 => .cons ha (.cons hb (by cases n <;> exact .nil))
theorem shows_app {K : PySem.W.Frag} {H : Hp} : ∀ {as bs : List V} {ds es : List PyData}, Gx.ShowsAll K H as ds → Gx.ShowsAll K H bs es → Gx.ShowsAll K H (as ++ bs) (ds ++ es)
  | _, _, _, _, .nil, h => h
  | _, _, _, _, .cons h1 h2, h => .cons h1 (shows_app h2 h)
def dfl (da db : PyData) : List PyData := szs.flatMap fun n => List.take n [da, db]
theorem shows_fls {K : PySem.W.Frag} {H : Hp} {a b : V} {da db : PyData} (ha : Gx.Shows K H a da) (hb : Gx.Shows K H b db) : Gx.ShowsAll K H (fls a b) (dfl da db) := by
  have key : ∀ l : List Nat, Gx.ShowsAll K H (l.flatMap fun n => List.take n [a, b]) (l.flatMap fun n => List.take n [da, db]) := by
    intro l
    induction l with
    | nil => exact .nil
    | cons n l ih =>
      rw [List.flatMap_cons, List.flatMap_cons]
      exact shows_app (shows_take ha hb n) ih
  exact key szs
theorem dfl_all {da db : PyData} (ha : Sd da) (hb : Sd db) : ∀ d ∈ dfl da db, Sd d := by
  intro d hd
  obtain ⟨n, _, hn⟩ := List.mem_flatMap.mp hd
  have := List.mem_of_mem_take hn
  simp only [List.mem_cons, List.not_mem_nil, or_false] at this
  rcases this with rfl | rfl
  · exact ha
  · exact hb
theorem sd_all : ∀ {ds : List PyData}, (∀ d ∈ ds, Sd d) → PyData.showableAll ds = true ∧ PyData.depthAll ds ≤ 10 ∧ PyData.leavesShortAll 200 ds = true ∧ PyData.weightAll ds ≤ 201 * ds.length
  | [], _ => ⟨by simp [PyData.showableAll], by simp [PyData.depthAll], by simp [PyData.leavesShortAll], by simp [PyData.weightAll]⟩
  | d :: ds, h => by
    obtain ⟨r1, r2, r3, r4⟩ := sd_all fun y hy => h y (List.mem_cons_of_mem _ hy)
    have g := h d List.mem_cons_self
    have := g.dp
    have := g.wt
    refine ⟨by simp [PyData.showableAll, g.sh, r1], ?_, by simp [PyData.leavesShortAll, g.ls, r3], ?_⟩
    · simp only [PyData.depthAll]
      omega
    · simp only [PyData.weightAll, List.length_cons]
      omega
theorem dfl_len {da db : PyData} : (dfl da db).length = 50 := rfl
theorem dfl_ok {da db : PyData} (ha : Sd da) (hb : Sd db) : (PyData.list (dfl da db)).showable = true ∧ (PyData.list (dfl da db)).depth ≤ 30 ∧ (PyData.list (dfl da db)).shown.length ≤ sizeLine := by
  obtain ⟨r1, r2, r3, r4⟩ := sd_all (dfl_all ha hb)
  rw [dfl_len] at r4
  refine ⟨by simpa only [PyData.showable] using r1, ?_, ?_⟩
  · simp only [PyData.depth]
    omega
  · have h1 := PyData.shown_le 200 (by decide) (.list (dfl da db)) (by simpa only [PyData.leavesShort] using r3)
    have h2 : (PyData.list (dfl da db)).weight ≤ 50000 := by
      simp only [PyData.weight, dfl_len]
      omega
    exact Nat.le_trans h1 (Nat.le_trans (show _ ≤ 202 * 50000 + 200 by have : (200 + 2) * (PyData.list (dfl da db)).weight ≤ 202 * 50000 := Nat.mul_le_mul_left _ h2; omega) (by decide))
section
variable {P : Program} {w : World} {K : PySem.W.Frag} {mg : Str → Option Value} {base : Heap}
def spRight (mg : Str → Option Value) : Sp := fun vs H Q _ => ∃ x ps a b p da db, vs = [.ref x, a, b] ∧ H x = some (.lst (ps.map V.ref)) ∧ Gx.ErrsO H ps (cls mg a b) ∧ Td p H a da ∧ Td p H b db ∧ Sd da ∧ Sd db ∧ ∀ H', Same H H' → Q (.bl true) H'
theorem cls_at {a b : V} {i : Nat} (h : i < 50) : ∃ x fs, nms[i]? = some x ∧ (cls mg a b)[i]? = some (Gx.cl mg x, fs) := by
  have hn : i < nms.length := h
  have hc : i < (cls mg a b).length := h
  refine ⟨nms[i], ((cls mg a b)[i]).2, List.getElem?_eq_getElem hn, ?_⟩
  rw [List.getElem?_eq_getElem hc]
  have z : ((cls mg a b).map (·.1))[i]? = (nms.map (Gx.cl mg))[i]? := by rw [cls_nm]
  rw [List.getElem?_map, List.getElem?_map, List.getElem?_eq_getElem hc, List.getElem?_eq_getElem hn] at z
  have z1 : ((cls mg a b)[i]).1 = Gx.cl mg nms[i] := Option.some.inj z
  rw [← z1]
theorem p__law_right (T : Mo K mg) (hsys : Gx.SysD base) : Gx.PrG P w K mg base CX0 2 "_law_right" s__law_right ["_law_some", "_law_a", "_law_b"] (spRight mg) := by
  refine T.d__law_right.okG sc__law_right (fun vs H Q E h => ?_) (fun f cdv A outer s H vs Q E hgd hr h => ?_)
  · obtain ⟨x, ps, a, b, p, da, db, rfl, _⟩ := h
    rfl
  · obtain ⟨x, ps, a, b, p, da, db, rfl, hx, er, ta, tb, sa, sb, q⟩ := h
    have hu64 := hr.units
    have hl : ps.length = 50 := er.len
    refine ⟨_, (pss_cons (ps_for PassesOwn.never rfl (pi_enum (by rfl) T.b_enumerate (pa_cons (pv 0) pa_nil)) (pg_tup rfl (pgs_cons (pg_name (i := 3) sc__law_right.nd rfl (Or.inr rfl)) (pgs_cons (pg_name (i := 4) sc__law_right.nd rfl (Or.inl rfl)) pgs_nil))) (pss_one (ps_if (PW.pt (pw_or (pt_cmpR (op_neD hu64) (Gx.pe_pos (p__law_classes T) hr (by decide) (by rfl) b__law_classes pass0 (pa_cons (pv 4) pa_nil)) (pe_lc (own := [("_law_k", 5)]) (g := gName 5) (tt := tYes) rfl sc__law_right.nd (pi_range1 (by rfl) T.b_range (pa_cons (pe_callB call_len_seq (by rfl) T.b_len (by decide +kernel) (pa_cons (pv 0) pa_nil)) pa_nil)) (blkOk_by (N := N__law_right) (sc := defScope s__law_right) (by decide +kernel)) (fun _ _ _ _ _ => (pg_name (i := 5) sc__law_right.nd rfl (Or.inl rfl))) (fun _ _ _ _ _ => pts_nil) (fun _ _ _ _ _ => (pe_cmpR op_eq (pv 3) (pv 5) (nomark _)))) (nomark _)) (pw_or1 (pt_cmpR (op_neD hu64) (Gx.pe_pos (p__law_bases T) hr (by decide) (by rfl) b__law_bases pass0 (pa_cons (pv 4) pa_nil)) (Gx.pe_pos (p__law_due_bases T) hr (by decide) (by rfl) b__law_due_bases pass0 (pa_cons (pv 3) pa_nil)) (nomark _))))) (pss_one (ps_ret pe_bl)) pss_nil)))
      (pss_one (ps_ret (pe_cmpR op_eq (pe_callB (Gx.call_reprM (K := K) rfl hsys hgd hu64) (by rfl) T.b_repr (show bootBuiltins "repr" = some (.builtin "repr") by decide +kernel) (pa_cons (Gx.pe_pos (p__law_fields T) hr (by decide) (by rfl) b__law_fields pass0 (pa_cons (pv 0) pa_nil)) pa_nil)) (pe_callB (Gx.call_reprM (K := K) rfl hsys hgd hu64) (by rfl) T.b_repr (show bootBuiltins "repr" = some (.builtin "repr") by decide +kernel) (pa_cons (Gx.pe_pos (p__law_due_fields T) hr (by decide) (by rfl) b__law_due_fields pass0 (pa_cons (pv 1) (pa_cons (pv 2) pa_nil))) pa_nil)) (nomark _))))), ?_⟩
    refine ⟨_, rfl, x, _, rfl, SqL.of hx, for_it walk_enum (fun i σ H' => Same H H' ∧ ∃ t3 t4 t5, σ = [some (.ref x), some a, some b, t3, t4, t5]) ⟨Same.refl H, _, _, _, rfl⟩ (fun i σ H' _ h => SqL.of (h.1 _ _ hx)) (fun i v σ H1 H2 hi h Y => ?_) (fun σ H' h => ?_)⟩
    · obtain ⟨s1, t3, t4, t5, rfl⟩ := h
      obtain ⟨t, v1, v2, rfl, nt, rfl, e1, e2⟩ := Y
      cases e1
      rw [List.length_map, hl] at hi
      obtain ⟨y, fs, hy, hc⟩ := cls_at (mg := mg) (a := a) (b := b) hi
      obtain ⟨p1, hp1, er1⟩ := er.get hc
      have e2 : (ps.map V.ref)[i]? = some v2 := e2
      rw [List.getElem?_map, hp1] at e2
      cases e2
      have s2 := s1.trans (Same.upd (o := .tup [.int (i : Nat), .ref p1]) nt)
      refine ⟨t, _, rfl, SqT.of upd_same, rfl, _, _, rfl, _, _, rfl, rfl, ?_⟩
      refine ⟨_, rfl, p1, y, fs, rfl, List.mem_of_getElem? hy, er1.same s2, fun l1 H3 s3 m3 h3 => ?_⟩
      refine ⟨_, rfl, x, _, rfl, .inl (SqL.of ((s2.trans s3) _ _ hx)), ((ps.map V.ref).length : Int), rfl, by omega, by rw [List.length_map, hl]; decide, fun D hD => ?_⟩
      rw [Int.toNat_natCast, List.length_map, hl]
      refine lc_range (lo := 0) (n := 50) (fun j H' => Same H3 H' ∧ H' D = some (.lst ((List.range j).map fun k => .bl (decide (i = k))))) ⟨Same.upd hD, upd_same⟩ (fun j H4 hj h => ?_) fun H4 h => ?_
      · obtain ⟨k1, k2⟩ := h
        refine ⟨rfl, _, rfl, _, rfl, rfl, _, k2, ?_, fun c o e => ?_, ?_⟩
        · rw [List.length_map, List.length_range]
          exact Nat.lt_of_lt_of_le hj (by decide)
        · rw [upd_ne fun z => ?_]
          · exact k1 _ _ e
          · rw [z, hD] at e
            cases e
        · rw [upd_same, List.range_succ, List.map_append]
          have e : decide (V.int (i : Nat) = V.int (0 + (j : Int))) = decide (i = j) := by
            rw [decide_eq_decide, V.int.injEq]
            omega
          rw [e]
          rfl
      · obtain ⟨k1, k2⟩ := h
        have d1 : Dp K H4 (.ref l1) (.list ((bsI i).map PyData.bool)) := by
          refine .lst (SqL.of (k1 _ _ h3)) ?_
          have z := dp_bools (K := K) (H := H4) (nms.map fun z => decide (z = y))
          rw [List.map_map, nms_bs hy] at z
          exact z
        have d2 : Dp K H4 (.ref D) (.list ((bsI i).map PyData.bool)) := by
          refine .lst (SqL.of k2) ?_
          have z := dp_bools (K := K) (H := H4) (bsI i)
          unfold bsI at z
          rw [List.map_map] at z
          exact z
        refine ⟨_, _, d1, d2, shaped_bools _, shaped_bools _, _, rfl, ?_⟩
        rw [eqv_bools]
        refine iteF ?_
        have s4 := (s2.trans s3).trans k1
        refine ⟨_, rfl, p1, y, fs, i, rfl, hy, er1.same (s2.trans (s3.trans k1)), fun l2 H5 s5 m5 h5 => ?_⟩
        refine ⟨_, rfl, i, rfl, fun l3 H6 s6 m6 h6 => ?_⟩
        have d3 : Dp K H6 (.ref l2) (.list ((dueB i).map PyData.bool)) := .lst (SqL.of (s6 _ _ h5)) (dp_bools _)
        have d4 : Dp K H6 (.ref l3) (.list ((dueB i).map PyData.bool)) := .lst (SqL.of h6) (dp_bools _)
        refine ⟨_, _, d3, d4, shaped_bools _, shaped_bools _, _, rfl, ?_⟩
        rw [eqv_bools]
        exact iteF ⟨(s4.trans s5).trans s6, _, _, _, rfl⟩
    · obtain ⟨s1, t3, t4, t5, rfl⟩ := h
      obtain ⟨o1, o2, o3⟩ := dfl_ok sa sb
      refine ⟨_, rfl, x, ps, a, b, rfl, SqL.of (s1 _ _ hx), (fun H' s => SqL.of (s _ _ (s1 _ _ hx))), er.same s1, fun l1 H2 s2 m2 h2 => ?_⟩
      have k2 := same_kp (p := p) (s1.trans s2)
      refine ⟨l1, _, rfl, .lst (SqL.of h2) (shows_fls (ta.kp k2).shows (tb.kp k2).shows), o1, o2, o3, ?_⟩
      refine ⟨_, rfl, _, rfl, a, b, rfl, fun l2 H3 s3 m3 h3 => ?_⟩
      have k3 := same_kp (p := p) ((s1.trans s2).trans s3)
      refine ⟨l2, _, rfl, .lst (SqL.of h3) (shows_fls (ta.kp k3).shows (tb.kp k3).shows), o1, o2, o3, rfl, ?_⟩
      rw [decide_eq_true rfl]
      exact q _ ((s1.trans s2).trans s3)
def spLaw (K : PySem.W.Frag) : Sp := fun vs H Q _ => ∃ (a : Addr) (ns : List Int), vs = [.ref a] ∧ SqL K H a (ns.map V.int) ∧ ns.length ≤ 63 ∧ ∀ H', Q (.bl true) H'
end
end My
namespace My
open PySem PySem.Spec PyProof.Rows L2
section
variable {P : Program} {w : World} {K : PySem.W.Frag} {mg : Str → Option Value} {base : Heap}
theorem p_law (T : Mo K mg) (hsys : Gx.SysD base) : Gx.PrG P w K mg base CX0 4 "law" s_law ["_law_script"] (spLaw K) := by
  refine T.d_law.okG sc_law (fun vs H Q E h => ?_) (fun f cdv A outer s H vs Q E hgd hr h => ?_)
  · obtain ⟨a, ns, rfl, _⟩ := h
    rfl
  · obtain ⟨a, ns, rfl, hS, hl, q⟩ := h
    have hu64 := hr.units
    have p__law_right := fun T' : Mo K mg => p__law_right (P := P) (w := w) T' hsys
    refine ⟨_, (pss_cons (ps_for PassesOwn.never rfl (pi_range1 (by rfl) T.b_range (pa_cons (pe_callB (call_max2 rfl) (by rfl) T.b_max (by decide +kernel) (pa_cons pe_int (pa_cons (pe_callB (call_min2 rfl) (by rfl) T.b_min (by decide +kernel) (pa_cons (pe_callB call_len_seq (by rfl) T.b_len (by decide +kernel) (pa_cons (pv 0) pa_nil)) (pa_cons pe_int pa_nil))) pa_nil))) pa_nil)) (pg_name (i := 1) sc_law.nd rfl (Or.inl rfl)) (pss_cons (ps_set (i := 2) sc_law.nd rfl (Or.inl rfl) (Gx.pe_pos (p__law_rng T) hr (by decide) (by rfl) b__law_rng pass0 (pa_cons (pv 0) (pa_cons (pv 1) pa_nil))))
      (pss_cons (ps_par (i := 3) (j := 4) rfl sc_law.nd rfl rfl (by decide) rfl rfl (pa_cons (Gx.pe_pos (p__law_thing T) hr (by decide) (by rfl) b__law_thing pass0 (pa_cons (pv 2) pa_nil)) (pa_cons (Gx.pe_pos (p__law_thing T) hr (by decide) (by rfl) b__law_thing pass0 (pa_cons (pv 2) pa_nil)) pa_nil)) (by rfl))
      (pss_cons (ps_par (i := 5) (j := 6) rfl sc_law.nd rfl rfl (by decide) rfl rfl (pa_cons (Gx.pe_pos (p__law_by_position T) hr (by decide) (by rfl) b__law_by_position pass0 (pa_cons (pv 3) (pa_cons (pv 4) pa_nil))) (pa_cons (Gx.pe_pos (p__law_by_name T) hr (by decide) (by rfl) b__law_by_name pass0 (pa_cons (pv 4) (pa_cons (pv 3) pa_nil))) pa_nil)) (by rfl))
      (pss_one (ps_if (PW.pt (pw_or (pt_not (pt_val (Gx.pe_posG hgd (p__law_right T) hr (by decide) (by rfl) b__law_right pass0 (pa_cons (pv 5) (pa_cons (pv 3) (pa_cons (pv 4) pa_nil)))))) (pw_or (pt_not (pt_val (Gx.pe_posG hgd (p__law_right T) hr (by decide) (by rfl) b__law_right pass0 (pa_cons (pv 6) (pa_cons (pv 4) (pa_cons (pv 3) pa_nil)))))) (pw_or1 (pt_not (pt_val (Gx.pe_posG hgd (p__law_right T) hr (by decide) (by rfl) b__law_right pass0 (pa_cons (Gx.pe_pos (p__law_by_name T) hr (by decide) (by rfl) b__law_by_name pass0 (pa_cons (pv 3) (pa_cons (pv 4) pa_nil))) (pa_cons (pv 3) (pa_cons (pv 4) pa_nil)))))))))) (pss_one (ps_ret pe_bl)) pss_nil))))))
      (pss_one (ps_ret pe_bl))), ?_⟩
    have top : ∃ m : Nat, m ≤ 6 ∧ (if (if (6 : Int) < ((ns.map V.int).length : Int) then (6 : Int) else ((ns.map V.int).length : Int)) > 1 then (if (6 : Int) < ((ns.map V.int).length : Int) then (6 : Int) else ((ns.map V.int).length : Int)) else 1) = (m : Int) := by
      rw [List.length_map]
      refine ⟨(if (if (6 : Int) < (ns.length : Int) then (6 : Int) else (ns.length : Int)) > 1 then (if (6 : Int) < (ns.length : Int) then (6 : Int) else (ns.length : Int)) else 1).toNat, ?_, ?_⟩ <;> split <;> split <;> omega
    obtain ⟨m, hm, em⟩ := top
    refine ⟨_, rfl, a, _, rfl, .inl hS, _, _, rfl, _, _, rfl, (m : Int), by rw [← em], by omega, by omega, ?_⟩
    rw [Int.toNat_natCast]
    refine for_range (lo := 0) (n := m) (fun i σ H' => Same H H' ∧ ∃ t1 t2 t3 t4 t5 t6, σ = [some (.ref a), t1, t2, t3, t4, t5, t6]) ⟨Same.refl H, _, _, _, _, _, _, rfl⟩ (fun i σ H1 hi h => ?_) fun σ H1 h => ?_
    · obtain ⟨s1, t1, t2, t3, t4, t5, t6, rfl⟩ := h
      refine ⟨_, rfl, _, rfl, a, ns, i, by rw [Int.zero_add]; rfl, s1.seq hS, by omega, fun p H2 np R2 s2 => ?_⟩
      have s12 := s1.trans s2
      have npH : ∀ b o, H b = some o → b ≠ p := fun b o e z => by
        have := s1 b o e
        rw [z, np] at this
        cases this
      have kpS : ∀ {H3 H4 : Hp}, Same H H3 → Kp p H3 H4 → Same H H4 := fun s k b o e => k b o (npH b o e) (s b o e)
      refine ⟨_, rfl, p, rfl, R2, fun va da H3 ta sa R3 k3 => ⟨_, rfl, p, rfl, R3, fun vb db H4 tb sb R4 k4 => ⟨va, vb, rfl, ?_⟩⟩⟩
      have s4 := kpS (kpS s12 k3) k4
      have ta4 := ta.kp k4
      refine ⟨_, rfl, _, rfl, va, vb, rfl, fun l5 ps5 H5 s5 n5 h5 e5 => ⟨_, rfl, _, rfl, vb, va, rfl, fun l6 ps6 H6 s6 n6 h6 e6 => ⟨_, _, rfl, ?_⟩⟩⟩
      have s46 := s5.trans s6
      have ta6 := ta4.kp (same_kp (p := p) s46)
      have tb6 := tb.kp (same_kp (p := p) s46)
      refine ⟨_, rfl, _, rfl, _, rfl, l5, ps5, va, vb, p, da, db, rfl, s6 _ _ h5, e5.same s6, ta6, tb6, sa, sb, fun H7 s7 => ⟨_, rfl, ?_⟩⟩
      refine iteF ?_
      have k7 := same_kp (p := p) s7
      refine ⟨_, rfl, _, rfl, _, rfl, l6, ps6, vb, va, p, db, da, rfl, s7 _ _ h6, e6.same s7, tb6.kp k7, ta6.kp k7, sb, sa, fun H8 s8 => ⟨_, rfl, ?_⟩⟩
      refine iteF ?_
      refine ⟨_, rfl, _, rfl, va, vb, rfl, fun l9 ps9 H9 s9 n9 h9 e9 => ?_⟩
      have k9 := same_kp (p := p) ((s7.trans s8).trans s9)
      refine ⟨_, rfl, _, rfl, l9, ps9, va, vb, p, da, db, rfl, h9, e9, ta6.kp k9, tb6.kp k9, sa, sb, fun H10 s10 => ⟨_, rfl, ?_⟩⟩
      exact iteF ⟨s4.trans (s46.trans (((s7.trans s8).trans s9).trans s10)), _, _, _, _, _, _, rfl⟩
    · exact q H1
end
end My
namespace My
open PySem PySem.Spec PyProof.Rows L2
theorem tabs_mk2 {K : PySem.W.Frag} {mg : Str → Option Value} (h0 : Gx.cl mg "CoverError" = He.ga K "CoverError") (hcl : ∀ x ∈ nms, Gx.cl mg x = He.ga K x) (t1 : Gx.apartB K (nms.map (He.ga K)) = true) (tn : (nms.map (He.ga K)).Nodup)
    (o1 : Gx.overB K [.ref (He.ga K "CoverError"), .type "ValueError", .type "LookupError", .type "RuntimeError", .type "ArithmeticError"] [true, true, false, false, false] (nm1.map (He.ga K)) = true)
    (o2 : Gx.overB K [.ref (He.ga K "CoverError"), .type "ValueError", .type "LookupError", .type "RuntimeError", .type "ArithmeticError"] [false, false, true, false, false] (nm2.map (He.ga K)) = true)
    (o3 : Gx.overB K [.ref (He.ga K "CoverError"), .type "ValueError", .type "LookupError", .type "RuntimeError", .type "ArithmeticError"] [false, false, false, true, false] (nm3.map (He.ga K)) = true)
    (o4 : Gx.overB K [.ref (He.ga K "CoverError"), .type "ValueError", .type "LookupError", .type "RuntimeError", .type "ArithmeticError"] [false, false, false, false, true] (nm4.map (He.ga K)) = true) : Tabs K mg := by
  have m1 : ∀ x ∈ nm1, x ∈ nms := fun x h => List.mem_append_left _ h
  have m2 : ∀ x ∈ nm2, x ∈ nms := fun x h => List.mem_append_right _ (List.mem_append_left _ h)
  have m3 : ∀ x ∈ nm3, x ∈ nms := fun x h => List.mem_append_right _ (List.mem_append_right _ (List.mem_append_left _ h))
  have m4 : ∀ x ∈ nm4, x ∈ nms := fun x h => List.mem_append_right _ (List.mem_append_right _ (List.mem_append_right _ h))
  have e : nms.map (Gx.cl mg) = nms.map (He.ga K) := List.map_congr_left hcl
  have e1 : nm1.map (Gx.cl mg) = nm1.map (He.ga K) := List.map_congr_left fun x h => hcl x (m1 x h)
  have e2 : nm2.map (Gx.cl mg) = nm2.map (He.ga K) := List.map_congr_left fun x h => hcl x (m2 x h)
  have e3 : nm3.map (Gx.cl mg) = nm3.map (He.ga K) := List.map_congr_left fun x h => hcl x (m3 x h)
  have e4 : nm4.map (Gx.cl mg) = nm4.map (He.ga K) := List.map_congr_left fun x h => hcl x (m4 x h)
  refine ⟨by rw [e]; exact t1, by rw [e]; exact tn, ?_, ?_, ?_, ?_⟩
  · rw [e1]
    unfold ovs
    rw [h0]
    exact o1
  · rw [e2]
    unfold ovs
    rw [h0]
    exact o2
  · rw [e3]
    unfold ovs
    rw [h0]
    exact o3
  · rw [e4]
    unfold ovs
    rw [h0]
    exact o4
def hfa : List He.Fa := ([.glo "_law_rng", .glo "_law_draw", .glo "_law_thing", .glo "_law_by_position", .glo "_law_by_name", .glo "_law_classes", .glo "_law_fields", .glo "_law_bases", .glo "_law_due_bases", .glo "_law_due_fields", .glo "_law_right", .glo "law", .free "ArithmeticError", .free "LookupError", .free "RuntimeError", .free "ValueError", .free "abs", .free "divmod", .free "enumerate", .free "int", .free "isinstance", .free "len", .free "max", .free "min", .free "range", .free "repr", .glo "CoverError", .glo "InvalidBits", .meth "InvalidBits" "__init__", .glo "InvalidValue"] : List He.Fa) ++ ([.meth "InvalidValue" "__init__", .glo "InvalidRange", .meth "InvalidRange" "__init__", .glo "InvalidBox", .meth "InvalidBox" "__init__", .glo "InvalidPlace", .meth "InvalidPlace" "__init__", .glo "InvalidCount", .meth "InvalidCount" "__init__", .glo "InvalidName", .meth "InvalidName" "__init__", .glo "InvalidColumns", .meth "InvalidColumns" "__init__", .glo "InvalidOrder", .meth "InvalidOrder" "__init__", .glo "InvalidKey", .meth "InvalidKey" "__init__", .glo "InvalidPayload", .meth "InvalidPayload" "__init__", .glo "InvalidWrite", .meth "InvalidWrite" "__init__", .glo "InvalidQuery", .meth "InvalidQuery" "__init__", .glo "InvalidText", .meth "InvalidText" "__init__", .glo "InvalidPoint", .meth "InvalidPoint" "__init__", .glo "InvalidPaper", .meth "InvalidPaper" "__init__", .glo "InvalidLimit"] : List He.Fa) ++ ([.meth "InvalidLimit" "__init__", .glo "InvalidGroups", .meth "InvalidGroups" "__init__", .glo "InvalidPage", .meth "InvalidPage" "__init__", .glo "InvalidMessage", .meth "InvalidMessage" "__init__", .glo "InvalidCommand", .meth "InvalidCommand" "__init__", .glo "UnknownTable", .meth "UnknownTable" "__init__", .glo "UnknownVersion", .meth "UnknownVersion" "__init__", .glo "TooOld", .meth "TooOld" "__init__", .glo "UnknownName", .meth "UnknownName" "__init__", .glo "UnknownTransaction", .meth "UnknownTransaction" "__init__", .glo "NameTaken", .meth "NameTaken" "__init__", .glo "KeyTaken", .meth "KeyTaken" "__init__", .glo "NoSuchRow", .meth "NoSuchRow" "__init__", .glo "NotClear", .meth "NotClear" "__init__", .glo "Unlike", .glo "NoHalf", .meth "NoHalf" "__init__"] : List He.Fa) ++ ([.glo "NotJoined", .meth "NotJoined" "__init__", .glo "NotAPoint", .glo "WrongColumns", .meth "WrongColumns" "__init__", .glo "Holds", .meth "Holds" "__init__", .glo "WrongLine", .meth "WrongLine" "__init__", .glo "NotAnswer", .meth "NotAnswer" "__init__", .glo "IsAnswer", .meth "IsAnswer" "__init__", .glo "NotEmpty", .meth "NotEmpty" "__init__", .glo "Ended", .glo "Changed", .meth "Changed" "__init__", .glo "Violated", .meth "Violated" "__init__", .glo "Held", .meth "Held" "__init__", .glo "Crashed", .glo "DiskInUse", .glo "NoStore", .glo "Needs", .meth "Needs" "__init__", .glo "TooMany", .meth "TooMany" "__init__", .glo "TooLarge"] : List He.Fa) ++ ([.meth "TooLarge" "__init__"] : List He.Fa)
def hfn : List He.DefD := ([Gx.defD "_law_rng" s__law_rng, Gx.defD "_law_draw" s__law_draw, Gx.defD "_law_thing" s__law_thing, Gx.defD "_law_by_position" s__law_by_position, Gx.defD "_law_by_name" s__law_by_name, Gx.defD "_law_classes" s__law_classes, Gx.defD "_law_fields" s__law_fields, Gx.defD "_law_bases" s__law_bases, Gx.defD "_law_due_bases" s__law_due_bases, Gx.defD "_law_due_fields" s__law_due_fields, Gx.defD "_law_right" s__law_right, Gx.defD "law" s_law, Gx.methD "InvalidBits" "__init__" "InvalidBits.__init__" i_InvalidBits, Gx.methD "InvalidValue" "__init__" "InvalidValue.__init__" i_InvalidValue, Gx.methD "InvalidRange" "__init__" "InvalidRange.__init__" i_InvalidRange, Gx.methD "InvalidBox" "__init__" "InvalidBox.__init__" i_InvalidBox, Gx.methD "InvalidPlace" "__init__" "InvalidPlace.__init__" i_InvalidPlace, Gx.methD "InvalidCount" "__init__" "InvalidCount.__init__" i_InvalidCount, Gx.methD "InvalidName" "__init__" "InvalidName.__init__" i_InvalidName, Gx.methD "InvalidColumns" "__init__" "InvalidColumns.__init__" i_InvalidColumns, Gx.methD "InvalidOrder" "__init__" "InvalidOrder.__init__" i_InvalidOrder, Gx.methD "InvalidKey" "__init__" "InvalidKey.__init__" i_InvalidKey, Gx.methD "InvalidPayload" "__init__" "InvalidPayload.__init__" i_InvalidPayload, Gx.methD "InvalidWrite" "__init__" "InvalidWrite.__init__" i_InvalidWrite, Gx.methD "InvalidQuery" "__init__" "InvalidQuery.__init__" i_InvalidQuery, Gx.methD "InvalidText" "__init__" "InvalidText.__init__" i_InvalidText, Gx.methD "InvalidPoint" "__init__" "InvalidPoint.__init__" i_InvalidPoint, Gx.methD "InvalidPaper" "__init__" "InvalidPaper.__init__" i_InvalidPaper, Gx.methD "InvalidLimit" "__init__" "InvalidLimit.__init__" i_InvalidLimit, Gx.methD "InvalidGroups" "__init__" "InvalidGroups.__init__" i_InvalidGroups] : List He.DefD) ++ ([Gx.methD "InvalidPage" "__init__" "InvalidPage.__init__" i_InvalidPage, Gx.methD "InvalidMessage" "__init__" "InvalidMessage.__init__" i_InvalidMessage, Gx.methD "InvalidCommand" "__init__" "InvalidCommand.__init__" i_InvalidCommand, Gx.methD "UnknownTable" "__init__" "UnknownTable.__init__" i_UnknownTable, Gx.methD "UnknownVersion" "__init__" "UnknownVersion.__init__" i_UnknownVersion, Gx.methD "TooOld" "__init__" "TooOld.__init__" i_TooOld, Gx.methD "UnknownName" "__init__" "UnknownName.__init__" i_UnknownName, Gx.methD "UnknownTransaction" "__init__" "UnknownTransaction.__init__" i_UnknownTransaction, Gx.methD "NameTaken" "__init__" "NameTaken.__init__" i_NameTaken, Gx.methD "KeyTaken" "__init__" "KeyTaken.__init__" i_KeyTaken, Gx.methD "NoSuchRow" "__init__" "NoSuchRow.__init__" i_NoSuchRow, Gx.methD "NotClear" "__init__" "NotClear.__init__" i_NotClear, Gx.methD "NoHalf" "__init__" "NoHalf.__init__" i_NoHalf, Gx.methD "NotJoined" "__init__" "NotJoined.__init__" i_NotJoined, Gx.methD "WrongColumns" "__init__" "WrongColumns.__init__" i_WrongColumns, Gx.methD "Holds" "__init__" "Holds.__init__" i_Holds, Gx.methD "WrongLine" "__init__" "WrongLine.__init__" i_WrongLine, Gx.methD "NotAnswer" "__init__" "NotAnswer.__init__" i_NotAnswer, Gx.methD "IsAnswer" "__init__" "IsAnswer.__init__" i_IsAnswer, Gx.methD "NotEmpty" "__init__" "NotEmpty.__init__" i_NotEmpty, Gx.methD "Changed" "__init__" "Changed.__init__" i_Changed, Gx.methD "Violated" "__init__" "Violated.__init__" i_Violated, Gx.methD "Held" "__init__" "Held.__init__" i_Held, Gx.methD "Needs" "__init__" "Needs.__init__" i_Needs, Gx.methD "TooMany" "__init__" "TooMany.__init__" i_TooMany, Gx.methD "TooLarge" "__init__" "TooLarge.__init__" i_TooLarge] : List He.DefD)
def hexs (K : PySem.W.Frag) : List Bool := ([Gx.ecQ K Gx.fV (He.ga K "CoverError") Gx.tlV "ValueError.__new__", PySem.W.excIn K (He.ga K "CoverError") Gx.tlV "ValueError.__new__", Gx.ecQ K Gx.fV (He.ga K "InvalidBits") Gx.tlV "ValueError.__new__", Gx.ecQ K Gx.fV (He.ga K "InvalidValue") Gx.tlV "ValueError.__new__", Gx.ecQ K Gx.fV (He.ga K "InvalidRange") Gx.tlV "ValueError.__new__", Gx.ecQ K Gx.fV (He.ga K "InvalidBox") Gx.tlV "ValueError.__new__", Gx.ecQ K Gx.fV (He.ga K "InvalidPlace") Gx.tlV "ValueError.__new__", Gx.ecQ K Gx.fV (He.ga K "InvalidCount") Gx.tlV "ValueError.__new__", Gx.ecQ K Gx.fV (He.ga K "InvalidName") Gx.tlV "ValueError.__new__", Gx.ecQ K Gx.fV (He.ga K "InvalidColumns") Gx.tlV "ValueError.__new__", Gx.ecQ K Gx.fV (He.ga K "InvalidOrder") Gx.tlV "ValueError.__new__", Gx.ecQ K Gx.fV (He.ga K "InvalidKey") Gx.tlV "ValueError.__new__", Gx.ecQ K Gx.fV (He.ga K "InvalidPayload") Gx.tlV "ValueError.__new__", Gx.ecQ K Gx.fV (He.ga K "InvalidWrite") Gx.tlV "ValueError.__new__", Gx.ecQ K Gx.fV (He.ga K "InvalidQuery") Gx.tlV "ValueError.__new__", Gx.ecQ K Gx.fV (He.ga K "InvalidText") Gx.tlV "ValueError.__new__", Gx.ecQ K Gx.fV (He.ga K "InvalidPoint") Gx.tlV "ValueError.__new__", Gx.ecQ K Gx.fV (He.ga K "InvalidPaper") Gx.tlV "ValueError.__new__", Gx.ecQ K Gx.fV (He.ga K "InvalidLimit") Gx.tlV "ValueError.__new__", Gx.ecQ K Gx.fV (He.ga K "InvalidGroups") Gx.tlV "ValueError.__new__", Gx.ecQ K Gx.fV (He.ga K "InvalidPage") Gx.tlV "ValueError.__new__", Gx.ecQ K Gx.fV (He.ga K "InvalidMessage") Gx.tlV "ValueError.__new__", Gx.ecQ K Gx.fV (He.ga K "InvalidCommand") Gx.tlV "ValueError.__new__", Gx.ecQ K Gx.fL (He.ga K "UnknownTable") Gx.tlL "LookupError.__new__", Gx.ecQ K Gx.fL (He.ga K "UnknownVersion") Gx.tlL "LookupError.__new__", Gx.ecQ K Gx.fL (He.ga K "TooOld") Gx.tlL "LookupError.__new__", Gx.ecQ K Gx.fL (He.ga K "UnknownName") Gx.tlL "LookupError.__new__", Gx.ecQ K Gx.fL (He.ga K "UnknownTransaction") Gx.tlL "LookupError.__new__", Gx.ecQ K Gx.fR (He.ga K "NameTaken") Gx.tlR "RuntimeError.__new__", Gx.ecQ K Gx.fR (He.ga K "KeyTaken") Gx.tlR "RuntimeError.__new__"] : List Bool) ++ ([Gx.ecQ K Gx.fR (He.ga K "NoSuchRow") Gx.tlR "RuntimeError.__new__", Gx.ecQ K Gx.fR (He.ga K "NotClear") Gx.tlR "RuntimeError.__new__", Gx.ecQ K Gx.fR (He.ga K "Unlike") Gx.tlR "RuntimeError.__new__", PySem.W.excIn K (He.ga K "Unlike") Gx.tlR "RuntimeError.__new__", Gx.ecQ K Gx.fR (He.ga K "NoHalf") Gx.tlR "RuntimeError.__new__", Gx.ecQ K Gx.fR (He.ga K "NotJoined") Gx.tlR "RuntimeError.__new__", Gx.ecQ K Gx.fR (He.ga K "NotAPoint") Gx.tlR "RuntimeError.__new__", PySem.W.excIn K (He.ga K "NotAPoint") Gx.tlR "RuntimeError.__new__", Gx.ecQ K Gx.fR (He.ga K "WrongColumns") Gx.tlR "RuntimeError.__new__", Gx.ecQ K Gx.fR (He.ga K "Holds") Gx.tlR "RuntimeError.__new__", Gx.ecQ K Gx.fR (He.ga K "WrongLine") Gx.tlR "RuntimeError.__new__", Gx.ecQ K Gx.fR (He.ga K "NotAnswer") Gx.tlR "RuntimeError.__new__", Gx.ecQ K Gx.fR (He.ga K "IsAnswer") Gx.tlR "RuntimeError.__new__", Gx.ecQ K Gx.fR (He.ga K "NotEmpty") Gx.tlR "RuntimeError.__new__", Gx.ecQ K Gx.fR (He.ga K "Ended") Gx.tlR "RuntimeError.__new__", PySem.W.excIn K (He.ga K "Ended") Gx.tlR "RuntimeError.__new__", Gx.ecQ K Gx.fR (He.ga K "Changed") Gx.tlR "RuntimeError.__new__", Gx.ecQ K Gx.fR (He.ga K "Violated") Gx.tlR "RuntimeError.__new__", Gx.ecQ K Gx.fR (He.ga K "Held") Gx.tlR "RuntimeError.__new__", Gx.ecQ K Gx.fR (He.ga K "Crashed") Gx.tlR "RuntimeError.__new__", PySem.W.excIn K (He.ga K "Crashed") Gx.tlR "RuntimeError.__new__", Gx.ecQ K Gx.fR (He.ga K "DiskInUse") Gx.tlR "RuntimeError.__new__", PySem.W.excIn K (He.ga K "DiskInUse") Gx.tlR "RuntimeError.__new__", Gx.ecQ K Gx.fR (He.ga K "NoStore") Gx.tlR "RuntimeError.__new__", PySem.W.excIn K (He.ga K "NoStore") Gx.tlR "RuntimeError.__new__", Gx.ecQ K Gx.fR (He.ga K "Needs") Gx.tlR "RuntimeError.__new__", Gx.ecQ K Gx.fA (He.ga K "TooMany") Gx.tlA "ArithmeticError.__new__", Gx.ecQ K Gx.fA (He.ga K "TooLarge") Gx.tlA "ArithmeticError.__new__", nms.all fun x => (He.Fa.glo x).ok K, Gx.apartB K (nms.map (He.ga K))] : List Bool) ++ ([decide ((nms.map (He.ga K)).Nodup), Gx.overB K [.ref (He.ga K "CoverError"), .type "ValueError", .type "LookupError", .type "RuntimeError", .type "ArithmeticError"] [true, true, false, false, false] (nm1.map (He.ga K)), Gx.overB K [.ref (He.ga K "CoverError"), .type "ValueError", .type "LookupError", .type "RuntimeError", .type "ArithmeticError"] [false, false, true, false, false] (nm2.map (He.ga K)), Gx.overB K [.ref (He.ga K "CoverError"), .type "ValueError", .type "LookupError", .type "RuntimeError", .type "ArithmeticError"] [false, false, false, true, false] (nm3.map (He.ga K)), Gx.overB K [.ref (He.ga K "CoverError"), .type "ValueError", .type "LookupError", .type "RuntimeError", .type "ArithmeticError"] [false, false, false, false, true] (nm4.map (He.ga K))] : List Bool)
section
variable {K : PySem.W.Frag} {h : Heap} {mg : Str → Option Value}
theorem init_at {x : Str} (f : (He.Fa.meth x "__init__").ok K = true) : PySem.W.findIn K (.ref (He.ga K x)) "__init__" = some (some (.ref (He.ma K (He.ga K x) "__init__"))) := He.eqO_ok (He.ba f).1
theorem init_fn {x : Str} (f : (He.Fa.meth x "__init__").ok K = true) : PySem.W.typeIn K (.ref (He.ma K (He.ga K x) "__init__")) = some (.type "function") := beq_iff_eq.mp (He.ba (He.ba f).2).1
theorem mo_of (X : K.In h) (G : h.Ns mainGlobals mg) (c : He.SaysD hfa hfn K) (e : (hexs K).all id = true) : Mo K mg := ⟨Gx.defAt_i X G (c.fact 0 rfl) (c.def_ 0 (d := Gx.defD "_law_rng" s__law_rng) rfl),
    Gx.defAt_i X G (c.fact 1 rfl) (c.def_ 1 (d := Gx.defD "_law_draw" s__law_draw) rfl),
    Gx.defAt_i X G (c.fact 2 rfl) (c.def_ 2 (d := Gx.defD "_law_thing" s__law_thing) rfl),
    Gx.defAt_i X G (c.fact 3 rfl) (c.def_ 3 (d := Gx.defD "_law_by_position" s__law_by_position) rfl),
    Gx.defAt_i X G (c.fact 4 rfl) (c.def_ 4 (d := Gx.defD "_law_by_name" s__law_by_name) rfl),
    Gx.defAt_i X G (c.fact 5 rfl) (c.def_ 5 (d := Gx.defD "_law_classes" s__law_classes) rfl),
    Gx.defAt_i X G (c.fact 6 rfl) (c.def_ 6 (d := Gx.defD "_law_fields" s__law_fields) rfl),
    Gx.defAt_i X G (c.fact 7 rfl) (c.def_ 7 (d := Gx.defD "_law_bases" s__law_bases) rfl),
    Gx.defAt_i X G (c.fact 8 rfl) (c.def_ 8 (d := Gx.defD "_law_due_bases" s__law_due_bases) rfl),
    Gx.defAt_i X G (c.fact 9 rfl) (c.def_ 9 (d := Gx.defD "_law_due_fields" s__law_due_fields) rfl),
    Gx.defAt_i X G (c.fact 10 rfl) (c.def_ 10 (d := Gx.defD "_law_right" s__law_right) rfl),
    Gx.defAt_i X G (c.fact 11 rfl) (c.def_ 11 (d := Gx.defD "law" s_law) rfl),
    He.free_ok X G (c.fact 12 rfl),
    He.free_ok X G (c.fact 13 rfl),
    He.free_ok X G (c.fact 14 rfl),
    He.free_ok X G (c.fact 15 rfl),
    He.free_ok X G (c.fact 16 rfl),
    He.free_ok X G (c.fact 17 rfl),
    He.free_ok X G (c.fact 18 rfl),
    He.free_ok X G (c.fact 19 rfl),
    He.free_ok X G (c.fact 20 rfl),
    He.free_ok X G (c.fact 21 rfl),
    He.free_ok X G (c.fact 22 rfl),
    He.free_ok X G (c.fact 23 rfl),
    He.free_ok X G (c.fact 24 rfl),
    He.free_ok X G (c.fact 25 rfl),
    Gx.EN.of2 (He.glo_ok X G (c.fact 26 rfl)) Gx.ebV (Gx.ecQ_of Gx.etV (Gx.all_at e 0 rfl)).1 (Gx.all_at e 1 rfl),
    (by rw [Gx.cl_of (He.glo_ok X G (c.fact 26 rfl))]; exact (Gx.ecQ_of Gx.etV (Gx.all_at e 0 rfl)).1),
    (let ⟨_, F⟩ := Gx.meth_i (c.def_ 12 (d := Gx.methD "InvalidBits" "__init__" "InvalidBits.__init__" i_InvalidBits) rfl); Gx.ES.of2 (He.glo_ok X G (c.fact 27 rfl)) (Gx.ecQ_of Gx.etV (Gx.all_at e 2 rfl)).1 (init_at (c.fact 28 rfl)) (init_fn (c.fact 28 rfl)) F),
    (by rw [Gx.cl_of (He.glo_ok X G (c.fact 27 rfl))]; exact (Gx.ecQ_of Gx.etV (Gx.all_at e 2 rfl)).2 _ (by decide)),
    (let ⟨_, F⟩ := Gx.meth_i (c.def_ 13 (d := Gx.methD "InvalidValue" "__init__" "InvalidValue.__init__" i_InvalidValue) rfl); Gx.ES.of2 (He.glo_ok X G (c.fact 29 rfl)) (Gx.ecQ_of Gx.etV (Gx.all_at e 3 rfl)).1 (init_at (c.fact 30 rfl)) (init_fn (c.fact 30 rfl)) F),
    (by rw [Gx.cl_of (He.glo_ok X G (c.fact 29 rfl))]; exact (Gx.ecQ_of Gx.etV (Gx.all_at e 3 rfl)).2 _ (by decide)),
    (let ⟨_, F⟩ := Gx.meth_i (c.def_ 14 (d := Gx.methD "InvalidRange" "__init__" "InvalidRange.__init__" i_InvalidRange) rfl); Gx.ES.of2 (He.glo_ok X G (c.fact 31 rfl)) (Gx.ecQ_of Gx.etV (Gx.all_at e 4 rfl)).1 (init_at (c.fact 32 rfl)) (init_fn (c.fact 32 rfl)) F),
    (by rw [Gx.cl_of (He.glo_ok X G (c.fact 31 rfl))]; exact (Gx.ecQ_of Gx.etV (Gx.all_at e 4 rfl)).2 _ (by decide)),
    (let ⟨_, F⟩ := Gx.meth_i (c.def_ 15 (d := Gx.methD "InvalidBox" "__init__" "InvalidBox.__init__" i_InvalidBox) rfl); Gx.ES.of2 (He.glo_ok X G (c.fact 33 rfl)) (Gx.ecQ_of Gx.etV (Gx.all_at e 5 rfl)).1 (init_at (c.fact 34 rfl)) (init_fn (c.fact 34 rfl)) F),
    (by rw [Gx.cl_of (He.glo_ok X G (c.fact 33 rfl))]; exact (Gx.ecQ_of Gx.etV (Gx.all_at e 5 rfl)).2 _ (by decide)),
    (let ⟨_, F⟩ := Gx.meth_i (c.def_ 16 (d := Gx.methD "InvalidPlace" "__init__" "InvalidPlace.__init__" i_InvalidPlace) rfl); Gx.ES.of2 (He.glo_ok X G (c.fact 35 rfl)) (Gx.ecQ_of Gx.etV (Gx.all_at e 6 rfl)).1 (init_at (c.fact 36 rfl)) (init_fn (c.fact 36 rfl)) F),
    (by rw [Gx.cl_of (He.glo_ok X G (c.fact 35 rfl))]; exact (Gx.ecQ_of Gx.etV (Gx.all_at e 6 rfl)).2 _ (by decide)),
    (let ⟨_, F⟩ := Gx.meth_i (c.def_ 17 (d := Gx.methD "InvalidCount" "__init__" "InvalidCount.__init__" i_InvalidCount) rfl); Gx.ES.of2 (He.glo_ok X G (c.fact 37 rfl)) (Gx.ecQ_of Gx.etV (Gx.all_at e 7 rfl)).1 (init_at (c.fact 38 rfl)) (init_fn (c.fact 38 rfl)) F),
    (by rw [Gx.cl_of (He.glo_ok X G (c.fact 37 rfl))]; exact (Gx.ecQ_of Gx.etV (Gx.all_at e 7 rfl)).2 _ (by decide)),
    (let ⟨_, F⟩ := Gx.meth_i (c.def_ 18 (d := Gx.methD "InvalidName" "__init__" "InvalidName.__init__" i_InvalidName) rfl); Gx.ES.of2 (He.glo_ok X G (c.fact 39 rfl)) (Gx.ecQ_of Gx.etV (Gx.all_at e 8 rfl)).1 (init_at (c.fact 40 rfl)) (init_fn (c.fact 40 rfl)) F),
    (by rw [Gx.cl_of (He.glo_ok X G (c.fact 39 rfl))]; exact (Gx.ecQ_of Gx.etV (Gx.all_at e 8 rfl)).2 _ (by decide)),
    (let ⟨_, F⟩ := Gx.meth_i (c.def_ 19 (d := Gx.methD "InvalidColumns" "__init__" "InvalidColumns.__init__" i_InvalidColumns) rfl); Gx.ES.of2 (He.glo_ok X G (c.fact 41 rfl)) (Gx.ecQ_of Gx.etV (Gx.all_at e 9 rfl)).1 (init_at (c.fact 42 rfl)) (init_fn (c.fact 42 rfl)) F),
    (by rw [Gx.cl_of (He.glo_ok X G (c.fact 41 rfl))]; exact (Gx.ecQ_of Gx.etV (Gx.all_at e 9 rfl)).2 _ (by decide)),
    (let ⟨_, F⟩ := Gx.meth_i (c.def_ 20 (d := Gx.methD "InvalidOrder" "__init__" "InvalidOrder.__init__" i_InvalidOrder) rfl); Gx.ES.of2 (He.glo_ok X G (c.fact 43 rfl)) (Gx.ecQ_of Gx.etV (Gx.all_at e 10 rfl)).1 (init_at (c.fact 44 rfl)) (init_fn (c.fact 44 rfl)) F),
    (by rw [Gx.cl_of (He.glo_ok X G (c.fact 43 rfl))]; exact (Gx.ecQ_of Gx.etV (Gx.all_at e 10 rfl)).2 _ (by decide)),
    (let ⟨_, F⟩ := Gx.meth_i (c.def_ 21 (d := Gx.methD "InvalidKey" "__init__" "InvalidKey.__init__" i_InvalidKey) rfl); Gx.ES.of2 (He.glo_ok X G (c.fact 45 rfl)) (Gx.ecQ_of Gx.etV (Gx.all_at e 11 rfl)).1 (init_at (c.fact 46 rfl)) (init_fn (c.fact 46 rfl)) F),
    (by rw [Gx.cl_of (He.glo_ok X G (c.fact 45 rfl))]; exact (Gx.ecQ_of Gx.etV (Gx.all_at e 11 rfl)).2 _ (by decide)),
    (let ⟨_, F⟩ := Gx.meth_i (c.def_ 22 (d := Gx.methD "InvalidPayload" "__init__" "InvalidPayload.__init__" i_InvalidPayload) rfl); Gx.ES.of2 (He.glo_ok X G (c.fact 47 rfl)) (Gx.ecQ_of Gx.etV (Gx.all_at e 12 rfl)).1 (init_at (c.fact 48 rfl)) (init_fn (c.fact 48 rfl)) F),
    (by rw [Gx.cl_of (He.glo_ok X G (c.fact 47 rfl))]; exact (Gx.ecQ_of Gx.etV (Gx.all_at e 12 rfl)).2 _ (by decide)),
    (let ⟨_, F⟩ := Gx.meth_i (c.def_ 23 (d := Gx.methD "InvalidWrite" "__init__" "InvalidWrite.__init__" i_InvalidWrite) rfl); Gx.ES.of2 (He.glo_ok X G (c.fact 49 rfl)) (Gx.ecQ_of Gx.etV (Gx.all_at e 13 rfl)).1 (init_at (c.fact 50 rfl)) (init_fn (c.fact 50 rfl)) F),
    (by rw [Gx.cl_of (He.glo_ok X G (c.fact 49 rfl))]; exact (Gx.ecQ_of Gx.etV (Gx.all_at e 13 rfl)).2 _ (by decide)),
    (let ⟨_, F⟩ := Gx.meth_i (c.def_ 24 (d := Gx.methD "InvalidQuery" "__init__" "InvalidQuery.__init__" i_InvalidQuery) rfl); Gx.ES.of2 (He.glo_ok X G (c.fact 51 rfl)) (Gx.ecQ_of Gx.etV (Gx.all_at e 14 rfl)).1 (init_at (c.fact 52 rfl)) (init_fn (c.fact 52 rfl)) F),
    (by rw [Gx.cl_of (He.glo_ok X G (c.fact 51 rfl))]; exact (Gx.ecQ_of Gx.etV (Gx.all_at e 14 rfl)).2 _ (by decide)),
    (by rw [Gx.cl_of (He.glo_ok X G (c.fact 51 rfl))]; exact (Gx.ecQ_of Gx.etV (Gx.all_at e 14 rfl)).2 _ (by decide)),
    (let ⟨_, F⟩ := Gx.meth_i (c.def_ 25 (d := Gx.methD "InvalidText" "__init__" "InvalidText.__init__" i_InvalidText) rfl); Gx.ES.of2 (He.glo_ok X G (c.fact 53 rfl)) (Gx.ecQ_of Gx.etV (Gx.all_at e 15 rfl)).1 (init_at (c.fact 54 rfl)) (init_fn (c.fact 54 rfl)) F),
    (by rw [Gx.cl_of (He.glo_ok X G (c.fact 53 rfl))]; exact (Gx.ecQ_of Gx.etV (Gx.all_at e 15 rfl)).2 _ (by decide)),
    (let ⟨_, F⟩ := Gx.meth_i (c.def_ 26 (d := Gx.methD "InvalidPoint" "__init__" "InvalidPoint.__init__" i_InvalidPoint) rfl); Gx.ES.of2 (He.glo_ok X G (c.fact 55 rfl)) (Gx.ecQ_of Gx.etV (Gx.all_at e 16 rfl)).1 (init_at (c.fact 56 rfl)) (init_fn (c.fact 56 rfl)) F),
    (by rw [Gx.cl_of (He.glo_ok X G (c.fact 55 rfl))]; exact (Gx.ecQ_of Gx.etV (Gx.all_at e 16 rfl)).2 _ (by decide)),
    (let ⟨_, F⟩ := Gx.meth_i (c.def_ 27 (d := Gx.methD "InvalidPaper" "__init__" "InvalidPaper.__init__" i_InvalidPaper) rfl); Gx.ES.of2 (He.glo_ok X G (c.fact 57 rfl)) (Gx.ecQ_of Gx.etV (Gx.all_at e 17 rfl)).1 (init_at (c.fact 58 rfl)) (init_fn (c.fact 58 rfl)) F),
    (by rw [Gx.cl_of (He.glo_ok X G (c.fact 57 rfl))]; exact (Gx.ecQ_of Gx.etV (Gx.all_at e 17 rfl)).2 _ (by decide)),
    (let ⟨_, F⟩ := Gx.meth_i (c.def_ 28 (d := Gx.methD "InvalidLimit" "__init__" "InvalidLimit.__init__" i_InvalidLimit) rfl); Gx.ES.of2 (He.glo_ok X G (c.fact 59 rfl)) (Gx.ecQ_of Gx.etV (Gx.all_at e 18 rfl)).1 (init_at (c.fact 60 rfl)) (init_fn (c.fact 60 rfl)) F),
    (by rw [Gx.cl_of (He.glo_ok X G (c.fact 59 rfl))]; exact (Gx.ecQ_of Gx.etV (Gx.all_at e 18 rfl)).2 _ (by decide)),
    (let ⟨_, F⟩ := Gx.meth_i (c.def_ 29 (d := Gx.methD "InvalidGroups" "__init__" "InvalidGroups.__init__" i_InvalidGroups) rfl); Gx.ES.of2 (He.glo_ok X G (c.fact 61 rfl)) (Gx.ecQ_of Gx.etV (Gx.all_at e 19 rfl)).1 (init_at (c.fact 62 rfl)) (init_fn (c.fact 62 rfl)) F),
    (by rw [Gx.cl_of (He.glo_ok X G (c.fact 61 rfl))]; exact (Gx.ecQ_of Gx.etV (Gx.all_at e 19 rfl)).2 _ (by decide)),
    (let ⟨_, F⟩ := Gx.meth_i (c.def_ 30 (d := Gx.methD "InvalidPage" "__init__" "InvalidPage.__init__" i_InvalidPage) rfl); Gx.ES.of2 (He.glo_ok X G (c.fact 63 rfl)) (Gx.ecQ_of Gx.etV (Gx.all_at e 20 rfl)).1 (init_at (c.fact 64 rfl)) (init_fn (c.fact 64 rfl)) F),
    (by rw [Gx.cl_of (He.glo_ok X G (c.fact 63 rfl))]; exact (Gx.ecQ_of Gx.etV (Gx.all_at e 20 rfl)).2 _ (by decide)),
    (let ⟨_, F⟩ := Gx.meth_i (c.def_ 31 (d := Gx.methD "InvalidMessage" "__init__" "InvalidMessage.__init__" i_InvalidMessage) rfl); Gx.ES.of2 (He.glo_ok X G (c.fact 65 rfl)) (Gx.ecQ_of Gx.etV (Gx.all_at e 21 rfl)).1 (init_at (c.fact 66 rfl)) (init_fn (c.fact 66 rfl)) F),
    (by rw [Gx.cl_of (He.glo_ok X G (c.fact 65 rfl))]; exact (Gx.ecQ_of Gx.etV (Gx.all_at e 21 rfl)).2 _ (by decide)),
    (let ⟨_, F⟩ := Gx.meth_i (c.def_ 32 (d := Gx.methD "InvalidCommand" "__init__" "InvalidCommand.__init__" i_InvalidCommand) rfl); Gx.ES.of2 (He.glo_ok X G (c.fact 67 rfl)) (Gx.ecQ_of Gx.etV (Gx.all_at e 22 rfl)).1 (init_at (c.fact 68 rfl)) (init_fn (c.fact 68 rfl)) F),
    (by rw [Gx.cl_of (He.glo_ok X G (c.fact 67 rfl))]; exact (Gx.ecQ_of Gx.etV (Gx.all_at e 22 rfl)).2 _ (by decide)),
    (let ⟨_, F⟩ := Gx.meth_i (c.def_ 33 (d := Gx.methD "UnknownTable" "__init__" "UnknownTable.__init__" i_UnknownTable) rfl); Gx.ES.of2 (He.glo_ok X G (c.fact 69 rfl)) (Gx.ecQ_of Gx.etL (Gx.all_at e 23 rfl)).1 (init_at (c.fact 70 rfl)) (init_fn (c.fact 70 rfl)) F),
    (by rw [Gx.cl_of (He.glo_ok X G (c.fact 69 rfl))]; exact (Gx.ecQ_of Gx.etL (Gx.all_at e 23 rfl)).2 _ (by decide)),
    (let ⟨_, F⟩ := Gx.meth_i (c.def_ 34 (d := Gx.methD "UnknownVersion" "__init__" "UnknownVersion.__init__" i_UnknownVersion) rfl); Gx.ES.of2 (He.glo_ok X G (c.fact 71 rfl)) (Gx.ecQ_of Gx.etL (Gx.all_at e 24 rfl)).1 (init_at (c.fact 72 rfl)) (init_fn (c.fact 72 rfl)) F),
    (by rw [Gx.cl_of (He.glo_ok X G (c.fact 71 rfl))]; exact (Gx.ecQ_of Gx.etL (Gx.all_at e 24 rfl)).2 _ (by decide)),
    (let ⟨_, F⟩ := Gx.meth_i (c.def_ 35 (d := Gx.methD "TooOld" "__init__" "TooOld.__init__" i_TooOld) rfl); Gx.ES.of2 (He.glo_ok X G (c.fact 73 rfl)) (Gx.ecQ_of Gx.etL (Gx.all_at e 25 rfl)).1 (init_at (c.fact 74 rfl)) (init_fn (c.fact 74 rfl)) F),
    (by rw [Gx.cl_of (He.glo_ok X G (c.fact 73 rfl))]; exact (Gx.ecQ_of Gx.etL (Gx.all_at e 25 rfl)).2 _ (by decide)),
    (let ⟨_, F⟩ := Gx.meth_i (c.def_ 36 (d := Gx.methD "UnknownName" "__init__" "UnknownName.__init__" i_UnknownName) rfl); Gx.ES.of2 (He.glo_ok X G (c.fact 75 rfl)) (Gx.ecQ_of Gx.etL (Gx.all_at e 26 rfl)).1 (init_at (c.fact 76 rfl)) (init_fn (c.fact 76 rfl)) F),
    (by rw [Gx.cl_of (He.glo_ok X G (c.fact 75 rfl))]; exact (Gx.ecQ_of Gx.etL (Gx.all_at e 26 rfl)).2 _ (by decide)),
    (let ⟨_, F⟩ := Gx.meth_i (c.def_ 37 (d := Gx.methD "UnknownTransaction" "__init__" "UnknownTransaction.__init__" i_UnknownTransaction) rfl); Gx.ES.of2 (He.glo_ok X G (c.fact 77 rfl)) (Gx.ecQ_of Gx.etL (Gx.all_at e 27 rfl)).1 (init_at (c.fact 78 rfl)) (init_fn (c.fact 78 rfl)) F),
    (by rw [Gx.cl_of (He.glo_ok X G (c.fact 77 rfl))]; exact (Gx.ecQ_of Gx.etL (Gx.all_at e 27 rfl)).2 _ (by decide)),
    (let ⟨_, F⟩ := Gx.meth_i (c.def_ 38 (d := Gx.methD "NameTaken" "__init__" "NameTaken.__init__" i_NameTaken) rfl); Gx.ES.of2 (He.glo_ok X G (c.fact 79 rfl)) (Gx.ecQ_of Gx.etR (Gx.all_at e 28 rfl)).1 (init_at (c.fact 80 rfl)) (init_fn (c.fact 80 rfl)) F),
    (by rw [Gx.cl_of (He.glo_ok X G (c.fact 79 rfl))]; exact (Gx.ecQ_of Gx.etR (Gx.all_at e 28 rfl)).2 _ (by decide)),
    (let ⟨_, F⟩ := Gx.meth_i (c.def_ 39 (d := Gx.methD "KeyTaken" "__init__" "KeyTaken.__init__" i_KeyTaken) rfl); Gx.ES.of2 (He.glo_ok X G (c.fact 81 rfl)) (Gx.ecQ_of Gx.etR (Gx.all_at e 29 rfl)).1 (init_at (c.fact 82 rfl)) (init_fn (c.fact 82 rfl)) F),
    (by rw [Gx.cl_of (He.glo_ok X G (c.fact 81 rfl))]; exact (Gx.ecQ_of Gx.etR (Gx.all_at e 29 rfl)).2 _ (by decide)),
    (by rw [Gx.cl_of (He.glo_ok X G (c.fact 81 rfl))]; exact (Gx.ecQ_of Gx.etR (Gx.all_at e 29 rfl)).2 _ (by decide)),
    (let ⟨_, F⟩ := Gx.meth_i (c.def_ 40 (d := Gx.methD "NoSuchRow" "__init__" "NoSuchRow.__init__" i_NoSuchRow) rfl); Gx.ES.of2 (He.glo_ok X G (c.fact 83 rfl)) (Gx.ecQ_of Gx.etR (Gx.all_at e 30 rfl)).1 (init_at (c.fact 84 rfl)) (init_fn (c.fact 84 rfl)) F),
    (by rw [Gx.cl_of (He.glo_ok X G (c.fact 83 rfl))]; exact (Gx.ecQ_of Gx.etR (Gx.all_at e 30 rfl)).2 _ (by decide)),
    (by rw [Gx.cl_of (He.glo_ok X G (c.fact 83 rfl))]; exact (Gx.ecQ_of Gx.etR (Gx.all_at e 30 rfl)).2 _ (by decide)),
    (let ⟨_, F⟩ := Gx.meth_i (c.def_ 41 (d := Gx.methD "NotClear" "__init__" "NotClear.__init__" i_NotClear) rfl); Gx.ES.of2 (He.glo_ok X G (c.fact 85 rfl)) (Gx.ecQ_of Gx.etR (Gx.all_at e 31 rfl)).1 (init_at (c.fact 86 rfl)) (init_fn (c.fact 86 rfl)) F),
    (by rw [Gx.cl_of (He.glo_ok X G (c.fact 85 rfl))]; exact (Gx.ecQ_of Gx.etR (Gx.all_at e 31 rfl)).2 _ (by decide)),
    Gx.EN.of2 (He.glo_ok X G (c.fact 87 rfl)) Gx.ebR (Gx.ecQ_of Gx.etR (Gx.all_at e 32 rfl)).1 (Gx.all_at e 33 rfl),
    (by rw [Gx.cl_of (He.glo_ok X G (c.fact 87 rfl))]; exact (Gx.ecQ_of Gx.etR (Gx.all_at e 32 rfl)).1),
    (let ⟨_, F⟩ := Gx.meth_i (c.def_ 42 (d := Gx.methD "NoHalf" "__init__" "NoHalf.__init__" i_NoHalf) rfl); Gx.ES.of2 (He.glo_ok X G (c.fact 88 rfl)) (Gx.ecQ_of Gx.etR (Gx.all_at e 34 rfl)).1 (init_at (c.fact 89 rfl)) (init_fn (c.fact 89 rfl)) F),
    (by rw [Gx.cl_of (He.glo_ok X G (c.fact 88 rfl))]; exact (Gx.ecQ_of Gx.etR (Gx.all_at e 34 rfl)).2 _ (by decide)),
    (let ⟨_, F⟩ := Gx.meth_i (c.def_ 43 (d := Gx.methD "NotJoined" "__init__" "NotJoined.__init__" i_NotJoined) rfl); Gx.ES.of2 (He.glo_ok X G (c.fact 90 rfl)) (Gx.ecQ_of Gx.etR (Gx.all_at e 35 rfl)).1 (init_at (c.fact 91 rfl)) (init_fn (c.fact 91 rfl)) F),
    (by rw [Gx.cl_of (He.glo_ok X G (c.fact 90 rfl))]; exact (Gx.ecQ_of Gx.etR (Gx.all_at e 35 rfl)).2 _ (by decide)),
    Gx.EN.of2 (He.glo_ok X G (c.fact 92 rfl)) Gx.ebR (Gx.ecQ_of Gx.etR (Gx.all_at e 36 rfl)).1 (Gx.all_at e 37 rfl),
    (by rw [Gx.cl_of (He.glo_ok X G (c.fact 92 rfl))]; exact (Gx.ecQ_of Gx.etR (Gx.all_at e 36 rfl)).1),
    (let ⟨_, F⟩ := Gx.meth_i (c.def_ 44 (d := Gx.methD "WrongColumns" "__init__" "WrongColumns.__init__" i_WrongColumns) rfl); Gx.ES.of2 (He.glo_ok X G (c.fact 93 rfl)) (Gx.ecQ_of Gx.etR (Gx.all_at e 38 rfl)).1 (init_at (c.fact 94 rfl)) (init_fn (c.fact 94 rfl)) F),
    (by rw [Gx.cl_of (He.glo_ok X G (c.fact 93 rfl))]; exact (Gx.ecQ_of Gx.etR (Gx.all_at e 38 rfl)).2 _ (by decide)),
    (let ⟨_, F⟩ := Gx.meth_i (c.def_ 45 (d := Gx.methD "Holds" "__init__" "Holds.__init__" i_Holds) rfl); Gx.ES.of2 (He.glo_ok X G (c.fact 95 rfl)) (Gx.ecQ_of Gx.etR (Gx.all_at e 39 rfl)).1 (init_at (c.fact 96 rfl)) (init_fn (c.fact 96 rfl)) F),
    (by rw [Gx.cl_of (He.glo_ok X G (c.fact 95 rfl))]; exact (Gx.ecQ_of Gx.etR (Gx.all_at e 39 rfl)).2 _ (by decide)),
    (let ⟨_, F⟩ := Gx.meth_i (c.def_ 46 (d := Gx.methD "WrongLine" "__init__" "WrongLine.__init__" i_WrongLine) rfl); Gx.ES.of2 (He.glo_ok X G (c.fact 97 rfl)) (Gx.ecQ_of Gx.etR (Gx.all_at e 40 rfl)).1 (init_at (c.fact 98 rfl)) (init_fn (c.fact 98 rfl)) F),
    (by rw [Gx.cl_of (He.glo_ok X G (c.fact 97 rfl))]; exact (Gx.ecQ_of Gx.etR (Gx.all_at e 40 rfl)).2 _ (by decide)),
    (let ⟨_, F⟩ := Gx.meth_i (c.def_ 47 (d := Gx.methD "NotAnswer" "__init__" "NotAnswer.__init__" i_NotAnswer) rfl); Gx.ES.of2 (He.glo_ok X G (c.fact 99 rfl)) (Gx.ecQ_of Gx.etR (Gx.all_at e 41 rfl)).1 (init_at (c.fact 100 rfl)) (init_fn (c.fact 100 rfl)) F),
    (by rw [Gx.cl_of (He.glo_ok X G (c.fact 99 rfl))]; exact (Gx.ecQ_of Gx.etR (Gx.all_at e 41 rfl)).2 _ (by decide)),
    (let ⟨_, F⟩ := Gx.meth_i (c.def_ 48 (d := Gx.methD "IsAnswer" "__init__" "IsAnswer.__init__" i_IsAnswer) rfl); Gx.ES.of2 (He.glo_ok X G (c.fact 101 rfl)) (Gx.ecQ_of Gx.etR (Gx.all_at e 42 rfl)).1 (init_at (c.fact 102 rfl)) (init_fn (c.fact 102 rfl)) F),
    (by rw [Gx.cl_of (He.glo_ok X G (c.fact 101 rfl))]; exact (Gx.ecQ_of Gx.etR (Gx.all_at e 42 rfl)).2 _ (by decide)),
    (let ⟨_, F⟩ := Gx.meth_i (c.def_ 49 (d := Gx.methD "NotEmpty" "__init__" "NotEmpty.__init__" i_NotEmpty) rfl); Gx.ES.of2 (He.glo_ok X G (c.fact 103 rfl)) (Gx.ecQ_of Gx.etR (Gx.all_at e 43 rfl)).1 (init_at (c.fact 104 rfl)) (init_fn (c.fact 104 rfl)) F),
    (by rw [Gx.cl_of (He.glo_ok X G (c.fact 103 rfl))]; exact (Gx.ecQ_of Gx.etR (Gx.all_at e 43 rfl)).2 _ (by decide)),
    Gx.EN.of2 (He.glo_ok X G (c.fact 105 rfl)) Gx.ebR (Gx.ecQ_of Gx.etR (Gx.all_at e 44 rfl)).1 (Gx.all_at e 45 rfl),
    (by rw [Gx.cl_of (He.glo_ok X G (c.fact 105 rfl))]; exact (Gx.ecQ_of Gx.etR (Gx.all_at e 44 rfl)).1),
    (let ⟨_, F⟩ := Gx.meth_i (c.def_ 50 (d := Gx.methD "Changed" "__init__" "Changed.__init__" i_Changed) rfl); Gx.ES.of2 (He.glo_ok X G (c.fact 106 rfl)) (Gx.ecQ_of Gx.etR (Gx.all_at e 46 rfl)).1 (init_at (c.fact 107 rfl)) (init_fn (c.fact 107 rfl)) F),
    (by rw [Gx.cl_of (He.glo_ok X G (c.fact 106 rfl))]; exact (Gx.ecQ_of Gx.etR (Gx.all_at e 46 rfl)).2 _ (by decide)),
    (by rw [Gx.cl_of (He.glo_ok X G (c.fact 106 rfl))]; exact (Gx.ecQ_of Gx.etR (Gx.all_at e 46 rfl)).2 _ (by decide)),
    (let ⟨_, F⟩ := Gx.meth_i (c.def_ 51 (d := Gx.methD "Violated" "__init__" "Violated.__init__" i_Violated) rfl); Gx.ES.of2 (He.glo_ok X G (c.fact 108 rfl)) (Gx.ecQ_of Gx.etR (Gx.all_at e 47 rfl)).1 (init_at (c.fact 109 rfl)) (init_fn (c.fact 109 rfl)) F),
    (by rw [Gx.cl_of (He.glo_ok X G (c.fact 108 rfl))]; exact (Gx.ecQ_of Gx.etR (Gx.all_at e 47 rfl)).2 _ (by decide)),
    (by rw [Gx.cl_of (He.glo_ok X G (c.fact 108 rfl))]; exact (Gx.ecQ_of Gx.etR (Gx.all_at e 47 rfl)).2 _ (by decide)),
    (let ⟨_, F⟩ := Gx.meth_i (c.def_ 52 (d := Gx.methD "Held" "__init__" "Held.__init__" i_Held) rfl); Gx.ES.of2 (He.glo_ok X G (c.fact 110 rfl)) (Gx.ecQ_of Gx.etR (Gx.all_at e 48 rfl)).1 (init_at (c.fact 111 rfl)) (init_fn (c.fact 111 rfl)) F),
    (by rw [Gx.cl_of (He.glo_ok X G (c.fact 110 rfl))]; exact (Gx.ecQ_of Gx.etR (Gx.all_at e 48 rfl)).2 _ (by decide)),
    Gx.EN.of2 (He.glo_ok X G (c.fact 112 rfl)) Gx.ebR (Gx.ecQ_of Gx.etR (Gx.all_at e 49 rfl)).1 (Gx.all_at e 50 rfl),
    (by rw [Gx.cl_of (He.glo_ok X G (c.fact 112 rfl))]; exact (Gx.ecQ_of Gx.etR (Gx.all_at e 49 rfl)).1),
    Gx.EN.of2 (He.glo_ok X G (c.fact 113 rfl)) Gx.ebR (Gx.ecQ_of Gx.etR (Gx.all_at e 51 rfl)).1 (Gx.all_at e 52 rfl),
    (by rw [Gx.cl_of (He.glo_ok X G (c.fact 113 rfl))]; exact (Gx.ecQ_of Gx.etR (Gx.all_at e 51 rfl)).1),
    Gx.EN.of2 (He.glo_ok X G (c.fact 114 rfl)) Gx.ebR (Gx.ecQ_of Gx.etR (Gx.all_at e 53 rfl)).1 (Gx.all_at e 54 rfl),
    (by rw [Gx.cl_of (He.glo_ok X G (c.fact 114 rfl))]; exact (Gx.ecQ_of Gx.etR (Gx.all_at e 53 rfl)).1),
    (let ⟨_, F⟩ := Gx.meth_i (c.def_ 53 (d := Gx.methD "Needs" "__init__" "Needs.__init__" i_Needs) rfl); Gx.ES.of2 (He.glo_ok X G (c.fact 115 rfl)) (Gx.ecQ_of Gx.etR (Gx.all_at e 55 rfl)).1 (init_at (c.fact 116 rfl)) (init_fn (c.fact 116 rfl)) F),
    (by rw [Gx.cl_of (He.glo_ok X G (c.fact 115 rfl))]; exact (Gx.ecQ_of Gx.etR (Gx.all_at e 55 rfl)).2 _ (by decide)),
    (let ⟨_, F⟩ := Gx.meth_i (c.def_ 54 (d := Gx.methD "TooMany" "__init__" "TooMany.__init__" i_TooMany) rfl); Gx.ES.of2 (He.glo_ok X G (c.fact 117 rfl)) (Gx.ecQ_of Gx.etA (Gx.all_at e 56 rfl)).1 (init_at (c.fact 118 rfl)) (init_fn (c.fact 118 rfl)) F),
    (by rw [Gx.cl_of (He.glo_ok X G (c.fact 117 rfl))]; exact (Gx.ecQ_of Gx.etA (Gx.all_at e 56 rfl)).2 _ (by decide)),
    (by rw [Gx.cl_of (He.glo_ok X G (c.fact 117 rfl))]; exact (Gx.ecQ_of Gx.etA (Gx.all_at e 56 rfl)).2 _ (by decide)),
    (let ⟨_, F⟩ := Gx.meth_i (c.def_ 55 (d := Gx.methD "TooLarge" "__init__" "TooLarge.__init__" i_TooLarge) rfl); Gx.ES.of2 (He.glo_ok X G (c.fact 119 rfl)) (Gx.ecQ_of Gx.etA (Gx.all_at e 57 rfl)).1 (init_at (c.fact 120 rfl)) (init_fn (c.fact 120 rfl)) F),
    (by rw [Gx.cl_of (He.glo_ok X G (c.fact 119 rfl))]; exact (Gx.ecQ_of Gx.etA (Gx.all_at e 57 rfl)).2 _ (by decide)),
    tabs_mk2 (Gx.cl_ga X G (c.fact 26 rfl)) (fun x hx => Gx.cl_ga X G (List.all_eq_true.mp (Gx.all_at e 58 rfl) x hx)) (Gx.all_at e 59 rfl) (of_decide_eq_true (Gx.all_at e 60 rfl)) (Gx.all_at e 61 rfl) (Gx.all_at e 62 rfl) (Gx.all_at e 63 rfl) (Gx.all_at e 64 rfl)⟩
end
def hob (s : PySem.W.SharedT) : Gx.AlM := Gx.obsM 5 hfa hfn (fun K => (hexs K).all id) (HandSHeadRun.getT s)
theorem hob_eq (s : PySem.W.SharedT) : hob s = (Gx.hookM 5 hfa hfn (fun K => (hexs K).all id)).obs s.abs := Gx.obsM_eq (HandSHeadRun.getT_eq s)
def hloose : List Str := (["CoverError", "InvalidBits", "InvalidValue", "InvalidRange", "InvalidBox", "InvalidPlace", "InvalidCount", "InvalidName", "InvalidColumns", "InvalidOrder", "InvalidKey", "InvalidPayload", "InvalidWrite", "InvalidQuery", "InvalidText", "InvalidPoint", "InvalidPaper", "InvalidLimit", "InvalidGroups", "InvalidPage", "InvalidMessage", "InvalidCommand", "UnknownTable", "UnknownVersion", "TooOld", "UnknownName", "UnknownTransaction", "NameTaken", "KeyTaken", "NoSuchRow"] : List Str) ++ (["NotClear", "Unlike", "NoHalf", "NotJoined", "NotAPoint", "WrongColumns", "Holds", "WrongLine", "NotAnswer", "IsAnswer", "NotEmpty", "Ended", "Changed", "Violated", "Held", "Crashed", "DiskInUse", "NoStore", "Needs", "TooMany", "TooLarge", "_law_rng", "_law_draw", "_law_thing", "_law_by_position", "_law_by_name", "_law_classes", "_law_fields", "_law_bases", "_law_due_bases"] : List Str) ++ (["_law_due_fields", "_law_right"] : List Str)
abbrev hrow := PySem.W.OpenLaw.row PySem.Challenge.rw_coverstore_k10_errors_created
abbrev hview := PySem.W.view hrow.prog [64]
open PySem.W PySem.Calls in
theorem hr1 (w : World) (os : OsState) : (HandSHeadRun.endF (HandSHeadRun.stepQ (HandSHeadRun.denQ HandSHeadRun.tabQ) hrow.prog w) 13000 hrow.prog w os).map (fun s => (HandSHeadRun.looksF hrow.prog (boot_heap w.params) s.abs, HandSHeadRun.seenQ hview hloose (importedModules hrow.prog.main.body) (fun s => PySem.W.xlAt hview [] s && PySem.W.recOk hrow.toRowW.records s) s.abs)) = some (true, PySem.W.openGood hview hloose) := by
  kernel_rfl
theorem hr2 (w : World) (os : OsState) : (HandSHeadRun.endF (HandSHeadRun.stepQ (HandSHeadRun.denQ HandSHeadRun.tabQ) hrow.prog w) 13000 hrow.prog w os).map (fun s => He.obsD hfa hfn (He.frG (HandSHeadRun.getT s) (Gx.asM (HandSHeadRun.getT s) 5))) = some (He.valD hfn) := by
  kernel_rfl
theorem hr3 (w : World) (os : OsState) : (HandSHeadRun.endF (HandSHeadRun.stepQ (HandSHeadRun.denQ HandSHeadRun.tabQ) hrow.prog w) 13000 hrow.prog w os).map (fun s => ((hexs (He.frG (HandSHeadRun.getT s) (Gx.asM (HandSHeadRun.getT s) 5))).all id, Gx.sysB (HandSHeadRun.getT s))) = some (true, true) := by
  kernel_rfl
theorem hrun (w : World) : HandSHeadRun.RunEq hrow hview (Gx.hookM 5 hfa hfn (fun K => (hexs K).all id)) hob 13000 hloose w := Gx.run_three (fun s => rfl) (hr1 w) (hr2 w) (hr3 w)
end My
open PySem PySem.W PySem.Calls PyProof.Rows
set_option maxRecDepth 100000 in
set_option maxHeartbeats 0 in
theorem PySem.Challenge.cw_coverstore_k10_errors_created_holds : PySem.Challenge.rw_coverstore_k10_errors_created.Holds := by
  w_on; o_law
  refine HandSHeadRun.head_any (r := OpenLaw.row PySem.Challenge.rw_coverstore_k10_errors_created) (q := view (OpenLaw.row PySem.Challenge.rw_coverstore_k10_errors_created).prog [64]) (H := Gx.hookM 5 My.hfa My.hfn (fun K => (My.hexs K).all id)) (ob := My.hob) (M := 13000) (loose := My.hloose) (d := HandSHeadRun.topDef (OpenLaw.row PySem.Challenge.rw_coverstore_k10_errors_created).prog 64) (kwd := []) My.hob_eq
    (by kernel_rfl) (fun s => by kernel_rfl) My.hrun (by kernel_rfl) (by kernel_rfl) (by kernel_rfl) (by rfl) (by first | assumption | decide +kernel) (by decide +kernel) ⟨rfl, rfl, rfl, rfl, rfl, by decide +kernel⟩ ?hw ?hc
  case hw => w_witness2
  case hc =>
    refine Gx.walkM (l := PySem.Challenge.rw_coverstore_k10_errors_created) (n := 63) (k := 4) (sp := fun K => My.spLaw K) rfl (by decide) (by kernel_rfl) ⟨rfl, by decide, by decide⟩ (by kernel_rfl) My.b_law ?F (fun K H a ns hl hS => ⟨a, ns, rfl, hS, hl, fun _ => rfl⟩)
    intro w mg h Y G
    obtain ⟨K, KX, c, e, S⟩ := Y
    exact ⟨K, KX, S, fun base kb nb sb => My.p_law (My.mo_of KX G c e) sb⟩
