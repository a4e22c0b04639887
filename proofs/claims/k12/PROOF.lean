import PyProof.Rows.All
import Wide.All
import OpenK.AllK
import Wide.FinOn
import HandS.Base
import HandS.Call
import HandS.List
import HandS.Comp
import HandS.Ends
import HandS.Words
import HandS.WordsList
import HandS.IsInst
import HandS.Conv
import HandS.StrMore
import HandS.WideBits
import HandS.Wide
import HandS.Iter
import HandS.Text
import HandS.Dict
import HandS.Evl
import HandS.Style
import HandS.RaiseMore
import HandS.WordsDict
import HandS.Exc
import HandS.ExcOwn
import HandS.ExcInit
import HandS.ExcField
import HandS.ExcIs
import HandS.TryMany
import HandS.HotCalls
import HandS.SetFor
import HandS.WordsExc
import KE.KExcIs
import PyProof.Rows.StrIntSpec
import PyProof.FString3
import PyProof.Rows.StrPadFill
import HandS.IntHex
import HandS.FStr
import KE.KIntText
import KE.IntTextLaws
import HandS.Walk
import PyProof.Rows.ReprOcc
import PySem.Challenge.RW_coverstore_k12_full_ranges_and_bounds
set_option Elab.async false
set_option maxRecDepth 100000
set_option maxHeartbeats 4000000
/-! My layer beside HandS: defs below which no repr is under way (guards known), repr of data. -/
namespace Gx
open PySem PySem.Spec PyProof.Rows L2
section
variable (P : Program) (w : World) (K : PySem.W.Frag) (mg : Str → Option Value) (base : Heap)
/-- as FnOk, where it is known that no repr is under way at the call -/
structure GOk (CX : CXT) (k : Nat) (f : Addr) (fd : FuncData) (ps : List Str) (sp : Sp) : Prop where
  many : ∀ {vs H Q E}, sp vs H Q E → vs.length = ps.length
  go : ∀ {A : Around} {outer : List Env} {s : Shared} {H : Hp} {args : Args} {us : List Value} {vs : List V} {Q : VK} {E : XK},
    A.guards = some [] → Room k A → Env0 P w K mg base A outer s H → BindsTo s fd args (ps.zip us) → Vals vs us → sp vs H Q E →
    codeAny (model P w) A (.call (.ref f) args) (CR CX outer P w H s Q E) s
end
section
variable {P : Program} {w : World} {K : PySem.W.Frag} {mg : Str → Option Value} {base : Heap} {CX : CXT} {j k : Nat} {f : Addr} {fd : FuncData} {ps : List Str} {sp : Sp}
theorem GOk.of (F : FnOk P w K mg base CX k f fd ps sp) : GOk P w K mg base CX k f fd ps sp :=
  ⟨fun {vs H Q E} z => F.len vs H Q E z, fun {A outer s H args us vs Q E} _ r e b v z => F.run A outer s H args us vs Q E r e b v z⟩
/-- a def by its body -/
theorem gok_body {x qual : Str} {st : Stmt} {N : List Str} (F : Fun K x qual st f fd) (S : FnScope N ps (defScope st)) (hm : ∀ {vs H Q E}, sp vs H Q E → vs.length = ps.length)
    (body : ∀ (cdv : Value) (A : Around) (outer : List Env) (s : Shared) (H : Hp) (vs : List V) (Q : VK) (E : XK), A.guards = some [] →
      Room k (A.deeper (envOfC qual (defScope st) s.heap.objs.size f cdv)) → sp vs H Q E →
      ∃ t, PSs (cxOf CX P w K mg base N qual (defScope st) f cdv A outer s H E) (defBody st) t ∧ t { nx := fun _ H' => Q .non H', rt := Q } (start N vs) H) :
    GOk P w K mg base CX (k + 1) f fd ps sp := by
  obtain ⟨oc, od, kV, doc, pm, an, cdv, ct, osl, rfl, lk, hcd⟩ := F.ex
  refine ⟨hm, fun {A outer s H args us vs Q E} hgd hr e0 hb r hsp => ?_⟩
  have up : ∀ b o, base.get? b = some o → s.heap.get? b = some o := fun b o e => (e0.bs b o e).1
  have inK : K.In s.heap := e0.mod.kin.keeps up
  have nl : s.heap.NoLimit := e0.mod.nolimit.keeps up
  refine codeAny_call_function hr.depth (inK _ _ lk) rfl S.co S.gen rfl (PySem.W.codeRec_of inK hcd) (hb _ _ _ _ ?_)
  refine wpAny_newFunctionEnv_cells S.kind (fun y hy => (S.par y.1 (List.of_mem_zip hy).1).imp id fun z => ⟨z, PySem.W.cellsFrom_some _ _ _ (.inl z)⟩) fun env he s1 new => ?_
  cases he
  obtain ⟨t, ht, q⟩ := body cdv A outer s H vs Q E hgd (hr.deeper _) hsp
  have I := inv_start (CX := CX) (P := P) (w := w) (K := K) (mg := mg) (base := base) (E := E) S hr.hd e0 (hm hsp) r new
  refine ⟨nl.keeps new.toInCall.keep, codeAny_func (wpAny_mono (ht.run [] s1 _ H _ I q) (fun fl s' z => ?_) fun _ _ z => z)⟩
  cases fl with
  | next => exact let ⟨_, H', J, z⟩ := z; ⟨V.non, H', J.os, J.bare, J.base, J.hok, rfl, z⟩
  | ret u => exact let ⟨v, _, H', J, rv, z⟩ := z; ⟨v, H', J.os, J.bare, J.base, J.hok, rv, z⟩
  | brk => exact False.elim (let ⟨_, _, _, z⟩ := z; z)
  | cont => exact False.elim (let ⟨_, _, _, z⟩ := z; z)
end
section
variable {X : Cx} {CX : CXT} {k : Nat} {f : Addr} {fd : FuncData} {ps : List Str} {sp : Sp} {dvs : List V} {ds : List Value} {E : XK} {x : Str} {p pos : Pos} {e : Expr} {es : List Expr} {t : TA}
/-- a call of such a def by its name -/
theorem pe_gcall (F : GOk X.prog X.w X.K X.mg X.base CX k f fd ps sp) (hgd : X.A.guards = some []) (hr : Room k X.A) (hg : Gl X x) (hm : X.mg x = some (.ref f)) (hk : PySem.W.keepIn X.K (.ref f) = true) (hb : Binds X.K fd ps ds)
    (hd : Vals dvs ds) (hx : Passes CX X E) (ha : PA X (e :: es) t) (n0 : (x == ("__debug__" : Str)) = false := by decide)
    (n1 : starEach (e :: es) X.env = (false, eval e X.env) :: starEach es X.env := by rfl) (n2 : (backTo pos (starEach es X.env)).any (·.1) = false := by rfl) :
    PE X (.Call (.Name x p) (e :: es) [] pos) (tCall sp dvs E t) := by
  constructor
  intro pins s σ H Q I h
  refine wpAny_Call_Name_kw (ld_glob I hg hm ?_ n0)
  refine PySem.W.callWith_K (h₀ := X.base) I.ok.mod.kin hk (thn (ha.run pos pins s σ H _ I h) fun us s1 ⟨vs, H1, I1, r, q⟩ => ⟨I1.kIn, ?_⟩) n1 n2
  have rr := r.append hd
  have many : (us ++ ds).length = ps.length := (Paired.length rr).symm.trans (F.many q)
  refine wpAny_call (codeAny_mono (F.go hgd hr I1.env0 (hb s1 us I1.kIn many) rr q) fun res s' z => ?_)
  cases res with
  | error er => exact hx pins σ H1 s1 er s' I1 z
  | ok fl =>
    cases fl with
    | ret u => exact I1.after z
    | next => exact False.elim z
    | brk => exact False.elim z
    | cont => exact False.elim z
end
/-! ### what a value shows -/
mutual
/-- as Dp, with empty dicts -/
inductive Dq (K : PySem.W.Frag) (H : Hp) : V → PyData → Prop
  | non : Dq K H .non .none
  | bl (b : Bool) : Dq K H (.bl b) (.bool b)
  | int (i : Int) : Dq K H (.int i) (.int i)
  | str (x : Str) : Dq K H (.str x) (.str x)
  | lst {a : Addr} {xs : List V} {ds : List PyData} : SqL K H a xs → DqAll K H xs ds → Dq K H (.ref a) (.list ds)
  | tup {a : Addr} {xs : List V} {ds : List PyData} : SqT K H a xs → DqAll K H xs ds → Dq K H (.ref a) (.tuple ds)
  | nil {a : Addr} : H a = some (.dK []) → Dq K H (.ref a) (.dict [])
inductive DqAll (K : PySem.W.Frag) (H : Hp) : List V → List PyData → Prop
  | nil : DqAll K H [] []
  | cons {v : V} {vs : List V} {d : PyData} {ds : List PyData} : Dq K H v d → DqAll K H vs ds → DqAll K H (v :: vs) (d :: ds)
end
end Gx
namespace Gx
open PySem PySem.Spec PyProof.Rows L2
section
variable {X : Cx} {pins : List (Addr × Obj)} {σ : L2.St} {H : Hp} {s : Shared}
theorem nil_reads {a : Addr} (I : Inv X pins σ H s) (e : H a = some (.dK [])) : Reads s.heap (.ref a) (.dict []) [a] := by
  obtain ⟨_, _, vs, kv, o, es, ep, ho, ex, hd, _, hp, _⟩ := I.hok _ _ e
  cases kv
  have e0 : es = #[] := by
    have e1 : es.toList = [] := by
      cases q : es.toList with
      | nil => rfl
      | cons y r =>
        rw [q] at hp
        exact absurd hp (by intro z; cases z)
    simpa using e1
  subst e0
  exact .dict (as := []) (bs := []) ho ex.1 hd .nil .nil
mutual
theorem Dq.reads (I : Inv X pins σ H s) : ∀ (d : PyData) (v : V) (u : Value), Dq X.K H v d → RelV v u → ∃ as, Reads s.heap u d as
  | .none, _, _, h, r => by
    cases h; cases r
    exact ⟨_, .none⟩
  | .bool b, _, _, h, r => by
    cases h; cases r
    exact ⟨_, .bool b⟩
  | .int i, _, _, h, r => by
    cases h
    obtain ⟨t, rfl⟩ := r
    exact ⟨_, .int i t⟩
  | .str x, _, _, h, r => by
    cases h
    obtain ⟨t, rfl⟩ := r
    exact ⟨_, .str x t⟩
  | .list ds, _, _, h, r => by
    cases h with
    | lst hs ha =>
      cases r
      obtain ⟨its, rv, ⟨o, n, ho, hc, _, hd⟩, _⟩ := I.list hs
      obtain ⟨as, q⟩ := DqAll.reads I ds _ its ha rv
      exact ⟨_, .list ho hc hd q⟩
  | .tuple ds, _, _, h, r => by
    cases h with
    | tup hs ha =>
      cases r
      obtain ⟨its, rv, ⟨o, ho, hc, n, hd⟩, _⟩ := I.tuple hs
      obtain ⟨as, q⟩ := DqAll.reads I ds _ its ha rv
      exact ⟨_, .tuple ho hc hd q⟩
  | .dict kvs, _, _, h, r => by
    cases h with
    | nil e =>
      cases r
      exact ⟨_, nil_reads I e⟩
theorem DqAll.reads (I : Inv X pins σ H s) : ∀ (ds : List PyData) (vs : List V) (us : List Value), DqAll X.K H vs ds → Vals vs us → ∃ as, ReadsAll s.heap us ds as
  | [], _, _, h, r => by
    cases h; cases r
    exact ⟨_, .nil⟩
  | d :: ds, _, _, h, r => by
    cases h with
    | cons h1 h2 =>
      cases r with
      | cons r1 r2 =>
        obtain ⟨as, q1⟩ := Dq.reads I d _ _ h1 r1
        obtain ⟨bs, q2⟩ := DqAll.reads I ds _ _ h2 r2
        exact ⟨_, .cons q1 q2⟩
end
end
/-- repr(x) of data -/
def rRepr (K : PySem.W.Frag) : List V → Hp → VK → Prop := fun xs H Q => ∃ x d, xs = [x] ∧ Dq K H x d ∧ d.showable = true ∧ (d.hasDict = true → d = .dict []) ∧ d.depth ≤ 30 ∧ d.shown.length ≤ sizeLine ∧ Q (.str d.shown) H
theorem call_repr {X : Cx} (hgd : X.A.guards = some []) (hu : X.A.units + 64 < cLine) : CallR X (.builtin "repr") (rRepr X.K) := by
  intro pins s σ H xs us Q I r h
  obtain ⟨x, d, rfl, hd, hs, hdict, hdep, hsz, q⟩ := h
  obtain ⟨u, rfl, rx⟩ := vals1 r
  obtain ⟨as, rd⟩ := Dq.reads I d x u hd rx
  have fin : ∀ h' (u : Tok) tk, (∀ b o, s.heap.get? b = some o → h'.get? b = some o) → EP X pins σ Q (.str d.shown u) { s with heap := h', toks := tk } :=
    fun h' u tk k => ⟨.str d.shown, H, I.kept k, ⟨u, rfl⟩, q⟩
  have big : ∀ a, u = .ref a → wpAny (model X.prog X.w) X.A (call (.builtin "repr") [u]) (EP X pins σ Q) X.xe s := fun a e => by
    subst e
    by_cases z : d.hasDict = true
    · have e0 := hdict z
      subst e0
      cases hd with
      | nil e =>
        obtain ⟨_, nm, _⟩ := I.hok _ _ e
        cases rx
        exact repr_of_reads' (nil_reads I e) hs (fun _ y => by
          rw [← List.mem_singleton.mp y] at nm
          simp at nm) hgd (by omega) (fun _ _ e => e) fin hsz
    · exact repr_of_reads' rd hs (fun y => absurd y z) hgd (by omega) (fun _ _ e => e) fin hsz
  cases hd with
  | non => cases rx; exact P.repr_of_none (by simpa only [PyData.shown] using fin s.heap _ _ fun _ _ e => e)
  | bl b => cases rx; exact P.repr_of_bool (by simpa only [PyData.shown] using fin s.heap _ _ fun _ _ e => e)
  | int i =>
    obtain ⟨t, rfl⟩ := rx
    exact P.repr_of_int (by simpa [PyData.showable] using hs) (by simpa only [PyData.shown] using fin s.heap _ _ fun _ _ e => e)
  | str y =>
    obtain ⟨t, rfl⟩ := rx
    exact P.repr_of_str (by simpa only [PyData.shown] using fin s.heap _ _ fun _ _ e => e) (by simpa only [PyData.shown] using hsz)
  | lst _ _ => exact big _ rx
  | tup _ _ => exact big _ rx
  | nil _ => exact big _ rx
end Gx
namespace Gx
open PySem PySem.Spec PyProof.Rows L2
/-! ### the module's defs and constants -/
def DefAt (K : PySem.W.Frag) (mg : Str → Option Value) (x : Str) (st : Stmt) : Prop := ∃ f fd, mg x = some (.ref f) ∧ Fun K x x st f fd
def KnownAt (mg : Str → Option Value) (x : Str) (v : V) : Prop := ∃ u, mg x = some u ∧ RelV v u
/-- positional arguments, all of them -/
def PosB (x : Str) (st : Stmt) (ps : List Str) : Prop := ∀ (kV doc pm : Value) (an : Option Addr) (cdv ct : Value) (us : List Value), us.length = ps.length →
  bindArgs (PySem.W.fnOf x x (defArgs st) (defBody st) (defScope st) .none kV doc pm an cdv ct) ⟨us, []⟩ = pure (ps.zip us)
/-- keywords alone, all of them, named ks; g puts their values in the parameters' order -/
structure KwB (x : Str) (st : Stmt) (ps ks : List Str) (g : {α : Type} → List α → List α) : Prop where
  to : ∀ (kV doc pm : Value) (an : Option Addr) (cdv ct : Value) (ws : List Value), ws.length = ks.length →
    bindArgs (PySem.W.fnOf x x (defArgs st) (defBody st) (defScope st) .none kV doc pm an cdv ct) ⟨[], ks.zip ws⟩ = pure (ps.zip (g ws))
  rel : ∀ {vs : List V} {us : List Value}, Vals vs us → Vals (g vs) (g us)
section
variable (P : Program) (w : World) (K : PySem.W.Frag) (mg : Str → Option Value) (base : Heap)
structure Pr (CX : CXT) (k : Nat) (x : Str) (st : Stmt) (ps : List Str) (sp : Sp) : Prop where
  ex : ∃ f fd, mg x = some (.ref f) ∧ Fun K x x st f fd ∧ FnOk P w K mg base CX k f fd ps sp
structure PrG (CX : CXT) (k : Nat) (x : Str) (st : Stmt) (ps : List Str) (sp : Sp) : Prop where
  ex : ∃ f fd, mg x = some (.ref f) ∧ Fun K x x st f fd ∧ GOk P w K mg base CX k f fd ps sp
end
section
variable {P : Program} {w : World} {K : PySem.W.Frag} {mg : Str → Option Value} {base : Heap} {k : Nat} {x : Str} {st : Stmt} {ps N : List Str} {sp : Sp}
/-- a def that lets nothing out, by its body -/
theorem DefAt.ok (D : DefAt K mg x st) (S : FnScope N ps (defScope st)) (len : ∀ vs H Q E, sp vs H Q E → vs.length = ps.length)
    (body : ∀ (f : Addr) (cdv : Value) (A : Around) (outer : List Env) (s : Shared) (H : Hp) (vs : List V) (Q : VK) (E : XK), Room k (A.deeper (envOfC x (defScope st) s.heap.objs.size f cdv)) → sp vs H Q E →
      ∃ t, PSs (cxOf CX0 P w K mg base N x (defScope st) f cdv A outer s H E).nox (defBody st) t ∧ t { nx := fun _ H' => Q .non H', rt := Q } (start N vs) H) : Pr P w K mg base CX0 (k + 1) x st ps sp := by
  obtain ⟨f, fd, m, F⟩ := D
  exact ⟨f, fd, m, F, F.ok S len fun cdv A outer s H vs Q E => body f cdv A outer s H vs Q E⟩
/-- the same where it is known that no repr is under way -/
theorem DefAt.okG (D : DefAt K mg x st) (S : FnScope N ps (defScope st)) (len : ∀ vs H Q E, sp vs H Q E → vs.length = ps.length)
    (body : ∀ (f : Addr) (cdv : Value) (A : Around) (outer : List Env) (s : Shared) (H : Hp) (vs : List V) (Q : VK) (E : XK), A.guards = some [] → Room k (A.deeper (envOfC x (defScope st) s.heap.objs.size f cdv)) → sp vs H Q E →
      ∃ t, PSs (cxOf CX0 P w K mg base N x (defScope st) f cdv A outer s H E).nox (defBody st) t ∧ t { nx := fun _ H' => Q .non H', rt := Q } (start N vs) H) : PrG P w K mg base CX0 (k + 1) x st ps sp := by
  obtain ⟨f, fd, m, F⟩ := D
  refine ⟨f, fd, m, F, gok_body F S (fun {vs H Q E} z => len vs H Q E z) fun cdv A outer s H vs Q E hg hr z => ?_⟩
  obtain ⟨t, h, q⟩ := body f cdv A outer s H vs Q E hg hr z
  exact ⟨t, h.nox, q⟩
theorem Pr.g {CX : CXT} (F : Pr P w K mg base CX k x st ps sp) : PrG P w K mg base CX k x st ps sp := by
  obtain ⟨f, fd, m, Z, F⟩ := F.ex
  exact ⟨f, fd, m, Z, .of F⟩
end
section
variable {X : Cx} {CX : CXT} {j k : Nat} {st : Stmt} {ps ks : List Str} {sp : Sp} {E : XK} {x : Str} {v : V} {p pos : Pos} {e : Expr} {es : List Expr} {kws : List Keyword} {t tk : TA} {g : {α : Type} → List α → List α}
theorem pe_k (hg : Gl X x) (h : KnownAt X.mg x v) (hd : (x == ("__debug__" : Str)) = false := by decide) : PE X (.Name x pos) (tC v) :=
  let ⟨_, m, r⟩ := h
  pe_glob hg m r hd
theorem pe_pos (F : Pr X.prog X.w X.K X.mg X.base CX k x st ps sp) (hr : Room j X.A) (hk : k ≤ j) (hg : Gl X x) (hb : PosB x st ps) (hx : Passes CX X E) (ha : PA X (e :: es) t) (n0 : (x == ("__debug__" : Str)) = false := by decide)
    (n1 : starEach (e :: es) X.env = (false, eval e X.env) :: starEach es X.env := by rfl) (n2 : (backTo pos (starEach es X.env)).any (·.1) = false := by rfl) : PE X (.Call (.Name x p) (e :: es) [] pos) (tCall sp [] E t) := by
  obtain ⟨f, fd, m, Z, F⟩ := F.ex
  exact pe_call F (hr.mono hk) hg m Z.kp (Z.binds hb) .nil hx ha n0 n1 n2
theorem pe_posG (hgd : X.A.guards = some []) (F : PrG X.prog X.w X.K X.mg X.base CX k x st ps sp) (hr : Room j X.A) (hk : k ≤ j) (hg : Gl X x) (hb : PosB x st ps) (hx : Passes CX X E) (ha : PA X (e :: es) t) (n0 : (x == ("__debug__" : Str)) = false := by decide)
    (n1 : starEach (e :: es) X.env = (false, eval e X.env) :: starEach es X.env := by rfl) (n2 : (backTo pos (starEach es X.env)).any (·.1) = false := by rfl) : PE X (.Call (.Name x p) (e :: es) [] pos) (tCall sp [] E t) := by
  obtain ⟨f, fd, m, Z, F⟩ := F.ex
  exact pe_gcall F hgd (hr.mono hk) hg m Z.kp (Z.binds hb) .nil hx ha n0 n1 n2
/-- f(a = .., b = ..) -/
def tKw (sp : Sp) (n : Nat) (g : {α : Type} → List α → List α) (E : XK) (t : TA) : TE := fun σ H Q => t σ H fun vs H1 => vs.length = n ∧ sp (g vs) H1 Q E
theorem pe_kw (F : Pr X.prog X.w X.K X.mg X.base CX k x st ps sp) (hr : Room j X.A) (hk : k ≤ j) (hg : Gl X x) (hb : KwB x st ps ks g) (hx : Passes CX X E) (hkw : PK X kws tk)
    (n1 : (backToKw pos (keywordEach kws X.env)).all (·.1.isSome) = true := by rfl) (n2 : (backToKw pos (keywordEach kws X.env)).filterMap (·.1) = ks := by rfl) (n0 : (x == ("__debug__" : Str)) = false := by decide)
    (n3 : ((backTo pos (starEach [] X.env)).any (·.1) || (backToKw pos (keywordEach kws X.env)).any (·.1.isNone)) = false := by rfl) : PE X (.Call (.Name x p) [] kws pos) (tKw sp ks.length g E tk) := by
  obtain ⟨f, fd, m, Z, F⟩ := F.ex
  constructor
  intro pins s σ H Q I h
  refine wpAny_Call_Name_kw (ld_glob I hg m ?_ n0)
  refine PySem.W.callWith_KW0 (h₀ := X.base) I.ok.mod.kin Z.kp n1 ?_ n3
  refine thn (hkw.run pos pins s σ H _ I h) fun ws s2 ⟨vs, H2, I2, r, l, q⟩ => ⟨I2.kIn, ?_⟩
  rw [n2]
  obtain ⟨oc, od, kV, doc, pm, an, cdv, ct, osl, rfl, _, _⟩ := Z.ex
  refine wpAny_call (codeAny_mono (F.run X.A X.stack s2 H2 ⟨[], ks.zip ws⟩ (g ws) (g vs) Q E (hr.mono hk) I2.env0 (.of_eq (hb.to kV doc pm an cdv ct ws (r.length.symm.trans l))) (hb.rel r) q) fun res s' z => ?_)
  cases res with
  | error er => exact hx pins σ H2 s2 er s' I2 z
  | ok fl =>
    cases fl with
    | ret u => exact I2.after z
    | next => exact False.elim z
    | brk => exact False.elim z
    | cont => exact False.elim z
end
/-! ### the law's call -/
/-- the script alone is tracked -/
def scr (a : Addr) (o : Obj) (ns : List Int) : Hp := fun b => if b = a then some (.frz o (.lst (ns.map V.int))) else none
theorem law_goG {P : Program} {w : World} {K : PySem.W.Frag} {mg mb : Str → Option Value} {k : Nat} {fa a : Addr} {fd : FuncData} {x : Str} {sp : Sp} {s₁ : Shared} {vs : List Value} {ns : List Int}
    (KX : K.In s₁.heap) (hm : s₁.heap.Ns mainGlobals mg) (hb : s₁.heap.Ns builtinsNs mb) (hbb : ∀ x : Str, x ≠ "__name__" → mb x = bootBuiltins x) (hl : s₁.heap.NoLimit) (hg : s₁.gens = #[])
    (ha : s₁.heap.get? a = some { cls := .type "list", data := .seq vs.toArray }) (hi : IntsAre vs ns) (hn : ns.length ≤ sizeLine) (hr : Room k callerA)
    (F : ∀ base : Heap, K.In base → base.Ns mainGlobals mg → GOk P w K mg base CX0 k fa fd [x] sp) (hbind : ∀ (s : Shared) (u : Value), BindsTo s fd ⟨[u], []⟩ [(x, u)])
    (hsp : ∀ H : Hp, SqL K H a (ns.map V.int) → sp [.ref a] H (fun v _ => v = .bl true) fun _ _ _ => False) :
    codeAny (model P w) callerA (.call (.ref fa) ⟨[.ref a], []⟩) (fun r s' => r = .ok (.ret (.bool true)) ∧ OldK s₁.heap s'.heap ∧ s'.os = s₁.os ∧ AllBare s'.gens) s₁ := by
  have rv := vals_ints hi
  have key : ∀ H : Hp, (∀ b, H b = none ∨ (b = a ∧ ∃ o xs, H b = some (.frz o (.lst xs)))) → SqL K H a (ns.map V.int) → HOk P w H s₁.heap → (H a ≠ none → K.lookup a = none) →
      codeAny (model P w) callerA (.call (.ref fa) ⟨[.ref a], []⟩) (fun r s' => r = .ok (.ret (.bool true)) ∧ OldK s₁.heap s'.heap ∧ s'.os = s₁.os ∧ AllBare s'.gens) s₁ := fun H only hS ok hK => by
    have free : ∀ {b : Addr} {o : Obj} {es : Array DictEntry} {ep : Nat}, s₁.heap.get? b = some o → o.data = .dict es ep → H b = none := fun {b o es ep} e d => by
      rcases only b with z | ⟨rfl, _⟩
      · exact z
      · rw [ha] at e
        cases e
        cases d
    have ns1 : ∀ {b : Addr} {m : Str → Option Value}, s₁.heap.Ns b m → (hidT s₁.heap H).Ns b m := fun {b m} z => let ⟨o, es, ep, e, d, r⟩ := z; ⟨o, es, ep, hidT_get e (free e d), d, r⟩
    have kb : K.In (hidT s₁.heap H) := fun b o e => hidT_get (KX b o e) ((only b).elim id fun ⟨z, o', xs, q⟩ => by
      subst z
      rw [hK (by rw [q]; exact fun z => nomatch z)] at e
      cases e)
    have md : Mod K mg (hidT s₁.heap H) := ⟨kb, ns1 hm, ⟨mb, ns1 hb, hbb⟩, let ⟨mc, h1, h2⟩ := hl; ⟨mc, ns1 h1, h2⟩⟩
    have e0 : Env0 P w K mg (hidT s₁.heap H) callerA [] s₁ H := ⟨rfl, md, fun b o e => of_hidT e, Nat.le_of_eq (hidT_size _ _), trivial, (fun _ z => nomatch z), ok, .of_eq hg⟩
    refine codeAny_mono ((F _ kb (ns1 hm)).go (A := callerA) (us := [.ref a]) (vs := [.ref a]) rfl hr e0 (hbind s₁ (.ref a)) (.cons rfl .nil) (hsp H hS)) fun r s' z => ?_
    cases r with
    | error e => exact False.elim z
    | ok fl =>
      cases fl with
      | next => exact False.elim z
      | brk => exact False.elim z
      | cont => exact False.elim z
      | ret u =>
        obtain ⟨v, H', os, bare, un, ok', r', q⟩ := z
        cases q
        cases r'
        refine ⟨rfl, OldK.of_keep fun b o e => ?_, os, bare⟩
        rcases only b with z | ⟨_, ob, xs, z⟩
        · exact un.keep b o e z (fun y => nomatch y) (fun y => nomatch y)
        · have e1 := (ok b _ z).1
          have e2 := (ok' b _ (un.frzs b ob _ z)).1
          rw [e] at e1
          cases e1
          exact e2
  cases hk : K.lookup a with
  | some o =>
    have e := KX a o hk
    rw [ha] at e
    cases e
    exact key (fun _ => none) (fun _ => .inl rfl) (.inr ⟨_, vs.toArray, _, hk, rfl, rfl, rfl, by rw [List.size_toArray, hi.length]; exact hn, by simpa using rv⟩) (fun b u z => nomatch z) fun z => absurd rfl z
  | none =>
    have at_a : scr a { cls := .type "list", data := .seq vs.toArray } ns a = some (.frz { cls := .type "list", data := .seq vs.toArray } (.lst (ns.map V.int))) := if_pos rfl
    refine key (scr a { cls := .type "list", data := .seq vs.toArray } ns) (fun b => ?_) (.inl (.inr ⟨_, at_a⟩)) (fun b u z => ?_) fun _ => hk
    · by_cases c : b = a
      · exact .inr ⟨c, _, _, by rw [c]; exact at_a⟩
      · exact .inl (if_neg c)
    · by_cases c : b = a
      · subst c
        rw [at_a] at z
        cases z
        exact ⟨ha, by rw [List.length_map]; exact hn, vs, _, rv, ha⟩
      · have z' := (if_neg c).symm.trans z
        cases z'
/-- the end of a law row: from the promise of its law -/
theorem walkG {l : PySem.W.OpenLaw} {n k : Nat} {q : Program} {loose : List Str} {XP : (Str → Option Value) → Heap → Prop} {YP : World → Heap → Prop} {d : DefRec} {K : Params → PySem.W.Frag} {sp : World → Sp} {x nm : Str} {st : Stmt}
    (hn : l.most = some n) (hn2 : n ≤ sizeLine) (hdf : d.params.defaults = []) (hr : Room k callerA) (hY : ∀ (w : World) (h : Heap), YP w h → (K w.params).In h) (hnm : d.name = nm) (hb : PosB nm st [x])
    (F : ∀ (w : World) (mg : Str → Option Value) (h : Heap), (K w.params).In h → h.Ns mainGlobals mg → ∀ base : Heap, (K w.params).In base → base.Ns mainGlobals mg → PrG l.prog w (K w.params) mg base CX0 k nm st [x] (sp w))
    (hsp : ∀ (w : World) (H : Hp) (a : Addr) (ns : List Int), ns.length ≤ n → SqL (K w.params) H a (ns.map V.int) → sp w [.ref a] H (fun v _ => v = .bl true) fun _ _ _ => False) :
    PySem.W.WalkO q loose XP YP l.row.toRowW d [] (fun f vs => PySem.call f vs) := by
  refine Att.attach_call hn hdf fun w s₀ s₁ mg mb fa o pm cd doc a vs ns G Y ho hd hcd hmg hobj hints hlen hg => ?_
  have KX := hY w _ Y
  obtain ⟨f, fd, m, Z, _⟩ := (F w mg _ KX G.T.g _ KX G.T.g).ex
  rw [hnm, m] at hmg
  cases hmg
  refine law_goG (x := x) (fd := fd) KX G.T.g G.T.b G.T.builtins G.T.nolimit hg hobj hints (Nat.le_trans hlen hn2) hr (fun base kb nb => ?_) (fun s u => ?_) fun H hS => hsp w H a ns hlen hS
  · obtain ⟨f', fd', m', Z', F'⟩ := (F w mg _ KX G.T.g base kb nb).ex
    rw [m] at m'
    cases m'
    obtain ⟨_, _, _, _, _, _, _, _, _, rfl, l1, _⟩ := Z.ex
    obtain ⟨_, _, _, _, _, _, _, _, _, rfl, l2, _⟩ := Z'.ex
    rw [l1] at l2
    cases l2
    exact F'
  · obtain ⟨_, _, kV, doc, pm, an, cdv, ct, _, rfl, _, _⟩ := Z.ex
    exact .of_eq (hb kV doc pm an cdv ct [u] rfl)
end Gx
namespace Gx
open PySem PySem.Spec PyProof.Rows L2
/-! ### the module's error classes -/
/-- the address that a name of the module stands for -/
def cl (mg : Str → Option Value) (x : Str) : Addr := match mg x with
  | some (.ref a) => a
  | _ => 0
theorem cl_of {mg : Str → Option Value} {x : Str} {a : Addr} (h : mg x = some (.ref a)) : cl mg x = a := by unfold cl; rw [h]
/-- a class that is asked for -/
structure ClsAt (K : PySem.W.Frag) (mg : Str → Option Value) (x : Str) : Prop where
  g : mg x = some (.ref (cl mg x))
  ty : PySem.W.typeIn K (.ref (cl mg x)) = some (.type "type")
  is : PySem.W.isClsIn K (cl mg x) = true
  ex : PySem.W.subIn K (.ref (cl mg x)) (.type "BaseException") = some true
  me : PySem.W.subIn K (.ref (cl mg x)) (.ref (cl mg x)) = some true
theorem ClsAt.of {K : PySem.W.Frag} {mg : Str → Option Value} {x : Str} {C : Addr} (h : mg x = some (.ref C)) (h1 : PySem.W.typeIn K (.ref C) = some (.type "type")) (h2 : PySem.W.isClsIn K C = true)
    (h3 : PySem.W.subIn K (.ref C) (.type "BaseException") = some true) (h4 : PySem.W.subIn K (.ref C) (.ref C) = some true) : ClsAt K mg x := by
  have e := cl_of h
  refine ⟨?_, ?_, ?_, ?_, ?_⟩ <;> rw [e] <;> assumption
/-- whether x's objects are of the class y -/
def SubAt (K : PySem.W.Frag) (mg : Str → Option Value) (x y : Str) (b : Bool) : Prop := PySem.W.subIn K (.ref (cl mg x)) (.ref (cl mg y)) = some b
theorem SubAt.of {K : PySem.W.Frag} {mg : Str → Option Value} {x y : Str} {C D : Addr} {b : Bool} (h : mg x = some (.ref C)) (h' : mg y = some (.ref D)) (s : PySem.W.subIn K (.ref C) (.ref D) = some b) : SubAt K mg x y b := by
  unfold SubAt
  rw [cl_of h, cl_of h']
  exact s
theorem ClsAt.known {K : PySem.W.Frag} {mg : Str → Option Value} {x : Str} (T : ClsAt K mg x) : KnownAt mg x (.ref (cl mg x)) := ⟨_, T.g, rfl⟩
section
variable {K : PySem.W.Frag} {mg : Str → Option Value} {x y : Str} {b : Bool}
theorem SubAt.cls (s : SubAt K mg x y b) (T : ClsAt K mg y) : PySem.W.kitCls K (.ref (cl mg x)) (.ref (cl mg y)) = some b := by
  have e : ((PySem.W.clsIn K (cl mg y)).isSome && PySem.W.typeIn K (.ref (cl mg y)) == some (.type "type")) = true := by
    rw [T.ty, show (PySem.W.clsIn K (cl mg y)).isSome = true from T.is]
    rfl
  show (if ((PySem.W.clsIn K (cl mg y)).isSome && PySem.W.typeIn K (.ref (cl mg y)) == some (.type "type")) = true then PySem.W.subIn K (.ref (cl mg x)) (.ref (cl mg y)) else none) = some b
  rw [if_pos e]
  exact s
theorem SubAt.one (s : SubAt K mg x y b) (T : ClsAt K mg y) : PySem.W.kitOne K (.ref (cl mg x)) (.ref (cl mg y)) = some b := by
  unfold PySem.W.kitOne
  by_cases c : cl mg x = cl mg y
  · have s' : PySem.W.subIn K (.ref (cl mg x)) (.ref (cl mg y)) = some b := s
    rw [c, T.me] at s'
    rw [c, if_pos (beq_self_eq_true _)]
    exact s'
  · rw [if_neg fun z => c (Value.ref.inj (beq_iff_eq.mp z))]
    exact s.cls T
theorem SubAt.exm (s : SubAt K mg x y b) (T : ClsAt K mg y) : PySem.W.exmOne K (.ref (cl mg x)) (.ref (cl mg y)) = some b := by
  unfold PySem.W.exmOne
  rw [T.ex, if_pos (beq_self_eq_true _)]
  exact s.cls T
end
theorem kit_blt {K : PySem.W.Frag} {C : Addr} {n : String} {b : Bool} (s : PySem.W.subIn K (.ref C) (.type n) = some b) (m : PySem.W.kitMeta n = true) : PySem.W.kitOne K (.ref C) (.type n) = some b := by
  show (if (Value.ref C == Value.type n) = true then _ else if PySem.W.kitMeta n = true then PySem.W.subIn K (.ref C) (.type n) else none) = some b
  rw [if_neg (by simp), if_pos m]
  exact s
/-- an error class whose objects are made, by its own __init__ -/
structure ErrAt (K : PySem.W.Frag) (mg : Str → Option Value) (x : Str) (qual : Str) (st : Stmt) : Prop where
  oex : OexC K (cl mg x)
  ga : PySem.W.findIn K (.ref (cl mg x)) "__getattribute__" = some (some (.builtin "BaseException.__getattribute__"))
  gg : PySem.W.findIn K (.ref (cl mg x)) "__getattr__" = some none
  gc : PySem.W.findIn K (.ref (cl mg x)) "__class__" = some (some (.builtin "object.__class__"))
  gn : PySem.W.specialIn K (.builtin "object.__class__") "__get__" = some (some (.builtin "getset_descriptor.__get__"))
  gt : PySem.W.takesIn K (.builtin "object.__class__") = some true
  gm : PySem.W.mroIn K (cl mg x) (.type "object") = some true
  hd : PySem.W.hasDictIn K (cl mg x) = true
  ini : ∃ f fd, PySem.W.findIn K (.ref (cl mg x)) "__init__" = some (some (.ref f)) ∧ PySem.W.typeIn K (.ref f) = some (.type "function") ∧ Fun K "__init__" qual st f fd
theorem ErrAt.of {K : PySem.W.Frag} {mg : Str → Option Value} {x qual : Str} {st : Stmt} {C f : Addr} {fd : FuncData} {nm q : Str} {N : Addr} {bs bm : List Value} {sn : List Str} {sub : List Value} {ab : Bool} {col : Option Bool} {dd : Option Addr} {k0 k1 k2 k3 k5 : Option Value}
    (h : mg x = some (.ref C)) (l : K.lookup C = some (excClassObj nm q C N bs bm true sn sub ab col dd k0 k1 k2 k3 k5 "ValueError.__new__")) (r : PySem.HandSPX.refsVE bm = true)
    (sa : PySem.W.findIn K (.ref C) "__setattr__" = some (some (.builtin "object.__setattr__"))) (ex : PySem.W.subIn K (.ref C) (.type "BaseException") = some true) (ty : PySem.W.typeIn K (.ref C) = some (.type "type")) (kp : PySem.W.keepIn K (.ref C) = true)
    (ga : PySem.W.findIn K (.ref C) "__getattribute__" = some (some (.builtin "BaseException.__getattribute__"))) (gg : PySem.W.findIn K (.ref C) "__getattr__" = some none) (gc : PySem.W.findIn K (.ref C) "__class__" = some (some (.builtin "object.__class__")))
    (gn : PySem.W.specialIn K (.builtin "object.__class__") "__get__" = some (some (.builtin "getset_descriptor.__get__"))) (gt : PySem.W.takesIn K (.builtin "object.__class__") = some true) (gm : PySem.W.mroIn K C (.type "object") = some true) (hd : PySem.W.hasDictIn K C = true)
    (i1 : PySem.W.findIn K (.ref C) "__init__" = some (some (.ref f))) (i2 : PySem.W.typeIn K (.ref f) = some (.type "function")) (i3 : Fun K "__init__" qual st f fd) : ErrAt K mg x qual st := by
  have e := cl_of h
  refine ⟨?_, ?_, ?_, ?_, gn, gt, ?_, ?_, f, fd, ?_, i2, i3⟩ <;> rw [e]
  · exact ⟨⟨nm, q, N, bs, bm, sn, sub, ab, col, dd, k0, k1, k2, k3, k5, l, r⟩, sa, ex, ty, kp⟩
  all_goals assumption
theorem ErrAt.xf {K : PySem.W.Frag} {mg : Str → Option Value} {x qual : Str} {st : Stmt} (T : ErrAt K mg x qual st) : XfC K (cl mg x) := ⟨T.ga, T.gg, T.oex.exC, T.hd⟩
/-- a method of a class's text -/
def meth (s : Stmt) (i : Nat) : Stmt := match s with
  | .ClassDef _ _ _ b _ _ _ _ _ _ _ => b.getD i (.Pass ⟨0, 0, 0, 0⟩)
  | _ => .Pass ⟨0, 0, 0, 0⟩
/-- positional arguments, all of them -/
def PosQ (x qual : Str) (st : Stmt) (ps : List Str) : Prop := ∀ (kV doc pm : Value) (an : Option Addr) (cdv ct : Value) (us : List Value), us.length = ps.length →
  bindArgs (PySem.W.fnOf x qual (defArgs st) (defBody st) (defScope st) .none kV doc pm an cdv ct) ⟨us, []⟩ = pure (ps.zip us)
/-! ### raise X(e), X's __init__ sets one field -/
/-- what such an __init__ keeps -/
def spInit (K : PySem.W.Frag) (C : Addr) (fld : Str) : Sp := fun vs H Q _ => ∃ a v, vs = [.ref a, v] ∧ H a = some (exo a C none) ∧ OexC K C ∧ PySem.W.findIn K (.ref C) fld = some none ∧
  ∀ d, H d = none → d ≠ a → Q .non (upd (upd H d (exd d [(fld, v)])) a (exo a C (some d)))
section
variable {P : Program} {w : World} {K : PySem.W.Frag} {mg : Str → Option Value} {base : Heap}
theorem init_ok {qual fld p1 p2 : Str} {st : Stmt} {f : Addr} {fd : FuncData} {C : Addr} (F : Fun K "__init__" qual st f fd) (S : FnScope [p1, p2] [p1, p2] (defScope st))
    (body : ∀ (cdv : Value) (A : Around) (outer : List Env) (s : Shared) (H : Hp) (E : XK), PSs (cxOf CX0 P w K mg base [p1, p2] qual (defScope st) f cdv A outer s H E).nox (defBody st) (fun D σ H => tOst K fld (tVar 0) (tVar 1) D σ H)) :
    FnOk P w K mg base CX0 1 f fd [p1, p2] (spInit K C fld) := by
  refine F.ok S (fun vs H Q E h => ?_) fun cdv A outer s H vs Q E hr h => ?_
  · obtain ⟨a, v, rfl, _⟩ := h
    rfl
  · obtain ⟨a, v, rfl, ha, T, hn, q⟩ := h
    exact ⟨_, body cdv A outer s H E, v, rfl, _, rfl, a, C, rfl, T, hn, .inl ⟨ha, fun d n ne => q d n ne⟩⟩
end
/-- a reading, made monotone -/
def tM (te : TE) : TE := fun σ H Q => ∃ R : VK, te σ H R ∧ ∀ v H', R v H' → Q v H'
theorem pe_mo {X : Cx} {e : Expr} {te : TE} (he : PE X e te) : PE X e (tM te) := by
  refine ⟨fun pins s σ H Q I h => ?_⟩
  obtain ⟨R, h, k⟩ := h
  refine wpAny_mono (he.run pins s σ H R I h) (fun u s' z => ?_) fun _ _ z => z
  exact let ⟨v, H', J, r, q⟩ := z; ⟨v, H', J, r, k v H' q⟩
/-- the wish of a made error: its one field's value -/
def tErr (C : Addr) (fld : Str) (te : TE) : L2.St → Hp → XK → Prop := fun σ H Q => te σ H fun v H1 => ∀ d, H1 d = none → Q (.ref C) (some d) (upd H1 d (.xd [(fld, v)]))
section
variable {X : Cx} {x qual fld p1 p2 : Str} {st : Stmt} {k : Nat} {e : Expr} {te : TE} {p pos : Pos}
theorem pmk_err (T : ErrAt X.K X.mg x qual st) (G : ClsAt X.K X.mg x) (hn : PySem.W.findIn X.K (.ref (cl X.mg x)) fld = some none) (hr : Room k X.A) (hk : 2 ≤ k) (S : FnScope [p1, p2] [p1, p2] (defScope st)) (hq : PosQ "__init__" qual st [p1, p2])
    (body : ∀ (f : Addr) (cdv : Value) (A : Around) (outer : List Env) (s : Shared) (H : Hp) (E : XK), PSs (cxOf CX0 X.prog X.w X.K X.mg X.base [p1, p2] qual (defScope st) f cdv A outer s H E).nox (defBody st) (fun D σ H => tOst X.K fld (tVar 0) (tVar 1) D σ H))
    (hg : Gl X x) (he : PE X e te) (n0 : (x == ("__debug__" : Str)) = false := by decide) (n1 : starEach [e] X.env = (false, eval e X.env) :: starEach [] X.env := by rfl) (n2 : (backTo pos (starEach [] X.env)).any (·.1) = false := by rfl) :
    PMk X (.Call (.Name x p) [e] [] pos) (tErr (cl X.mg x) fld te) := by
  obtain ⟨f, fd, i1, i2, F⟩ := T.ini
  have F1 := init_ok (P := X.prog) (w := X.w) (mg := X.mg) (base := X.base) (C := cl X.mg x) F S (body f)
  intro pins s σ H Q I h
  refine pmk_oex T.oex i1 i2 F1 (hr.mono hk) (F.binds hq) .nil pass0 hg G.g (pa_cons (pe_mo he) pa_nil n1) n0 n1 n2 pins s σ H Q I ?_
  refine ⟨_, h, fun v H1 q => ⟨(by decide : 1 ≤ 1000), fun a ha => ⟨a, v, rfl, upd_same, T.oex, hn, fun d n ne => ⟨rfl, d, [(fld, v)], upd_same, ?_, ?_, ?_⟩⟩⟩⟩
  · rw [upd_ne ne]
    exact upd_same
  · rw [upd_ne ne] at n
    exact n
  · rw [upd_ne ne] at n
    have z : upd (del (upd (upd (upd H1 a (exo a (cl X.mg x) none)) d (exd d [(fld, v)])) a (exo a (cl X.mg x) (some d))) a) d (.xd [(fld, v)]) = upd H1 d (.xd [(fld, v)]) := by
      funext b
      by_cases c : b = d
      · rw [c, upd_same, upd_same]
      · rw [upd_ne c, upd_ne c]
        by_cases c2 : b = a
        · rw [c2, del_same, ha]
        · rw [del_ne c2, upd_ne c2, upd_ne c, upd_ne c2]
    rw [z]
    exact q d n
end
/-! ### defs that may raise, their calls -/
section
variable {P : Program} {w : World} {K : PySem.W.Frag} {mg : Str → Option Value} {base : Heap} {k : Nat} {x : Str} {st : Stmt} {ps N : List Str} {sp : Sp}
theorem DefAt.okX (D : DefAt K mg x st) (S : FnScope N ps (defScope st)) (len : ∀ vs H Q E, sp vs H Q E → vs.length = ps.length)
    (body : ∀ (f : Addr) (cdv : Value) (A : Around) (outer : List Env) (s : Shared) (H : Hp) (vs : List V) (Q : VK) (E : XK), Room k (A.deeper (envOfC x (defScope st) s.heap.objs.size f cdv)) → sp vs H Q E →
      ∃ t, PSs (cxOf (L2.CX P w) P w K mg base N x (defScope st) f cdv A outer s H E) (defBody st) t ∧ t { nx := fun _ H' => Q .non H', rt := Q } (start N vs) H) : Pr P w K mg base (L2.CX P w) (k + 1) x st ps sp := by
  obtain ⟨f, fd, m, F⟩ := D
  exact ⟨f, fd, m, F, F.okX S len fun cdv A outer s H vs Q E => body f cdv A outer s H vs Q E⟩
end
section
variable {X : Cx} {j k : Nat} {st : Stmt} {ps ks : List Str} {sp : Sp} {W : WX} {x : Str} {p pos : Pos} {e : Expr} {es : List Expr} {kws : List Keyword} {t tk : TA} {g : {α : Type} → List α → List α}
/-- f(..) in a try's body -/
theorem pe_posS (F : Pr X.prog X.w X.K X.mg X.base (L2.CX X.prog X.w) k x st ps sp) (hr : Room j X.A) (hk : k ≤ j) (hg : Gl X x) (hb : PosB x st ps) (tk : Takes X W) (ha : PA X (e :: es) t) (n0 : (x == ("__debug__" : Str)) = false := by decide)
    (n1 : starEach (e :: es) X.env = (false, eval e X.env) :: starEach es X.env := by rfl) (n2 : (backTo pos (starEach es X.env)).any (·.1) = false := by rfl) : PE X (.Call (.Name x p) (e :: es) [] pos) (tCallS sp (WE W) t) := by
  obtain ⟨f, fd, m, Z, F⟩ := F.ex
  exact pe_callS F (hr.mono hk) hg m Z.kp (Z.binds hb) (fun σ => passAt tk σ) ha n0 n1 n2
def tKwS (sp : Sp) (n : Nat) (g : {α : Type} → List α → List α) (W : WX) (t : TA) : TE := fun σ H Q => t σ H fun vs H1 => vs.length = n ∧ sp (g vs) H1 Q (WE W σ)
/-- f(a = .., b = ..) in a try's body -/
theorem pe_kwS (F : Pr X.prog X.w X.K X.mg X.base (L2.CX X.prog X.w) k x st ps sp) (hr : Room j X.A) (hk : k ≤ j) (hg : Gl X x) (hb : KwB x st ps ks g) (tw : Takes X W) (hkw : PK X kws tk)
    (n1 : (backToKw pos (keywordEach kws X.env)).all (·.1.isSome) = true := by rfl) (n2 : (backToKw pos (keywordEach kws X.env)).filterMap (·.1) = ks := by rfl) (n0 : (x == ("__debug__" : Str)) = false := by decide)
    (n3 : ((backTo pos (starEach [] X.env)).any (·.1) || (backToKw pos (keywordEach kws X.env)).any (·.1.isNone)) = false := by rfl) : PE X (.Call (.Name x p) [] kws pos) (tKwS sp ks.length g W tk) := by
  obtain ⟨f, fd, m, Z, F⟩ := F.ex
  constructor
  intro pins s σ H Q I h
  refine wpAny_Call_Name_kw (ld_glob I hg m ?_ n0)
  refine PySem.W.callWith_KW0 (h₀ := X.base) I.ok.mod.kin Z.kp n1 ?_ n3
  refine thn (hkw.run pos pins s σ H _ I h) fun ws s2 ⟨vs, H2, I2, r, l, q⟩ => ⟨I2.kIn, ?_⟩
  rw [n2]
  obtain ⟨oc, od, kV, doc, pm, an, cdv, ct, osl, rfl, _, _⟩ := Z.ex
  refine wpAny_call (codeAny_mono (F.run X.A X.stack s2 H2 ⟨[], ks.zip ws⟩ (g ws) (g vs) Q (WE W σ) (hr.mono hk) I2.env0 (.of_eq (hb.to kV doc pm an cdv ct ws (r.length.symm.trans l))) (hb.rel r) q) fun res s' z => ?_)
  cases res with
  | error er => exact passAt tw σ pins H2 s2 er s' I2 z
  | ok fl =>
    cases fl with
    | ret u => exact I2.after z
    | next => exact False.elim z
    | brk => exact False.elim z
    | cont => exact False.elim z
end
/-! ### defs that are called while an error is handled; nothing leaves them -/
section
variable (P : Program) (w : World) (K : PySem.W.Frag) (mg : Str → Option Value) (base : Heap)
structure PrP (k : Nat) (x : Str) (st : Stmt) (ps : List Str) (sp : Addr → Value → Option Addr → Sp) : Prop where
  ex : ∃ f fd, mg x = some (.ref f) ∧ Fun K x x st f fd ∧ (∀ a cls d vs H Q E, sp a cls d vs H Q E → vs.length = ps.length) ∧
    ∀ (A : Around) (outer : List Env) (s : Shared) (H : Hp) (us : List Value) (vs : List V) (Q : VK) (p : Addr × Obj) (cls : Value) (d : Option Addr), Zc cls d p.2 → (∃ vs, p.2.data = .fields vs) → L2H.RoomH k A → L2H.PinOk outer H s p → Env0 P w K mg base A outer s H →
      BindsTo s fd ⟨us, []⟩ (ps.zip us) → Vals vs us → sp p.1 cls d vs H Q E0 → codeAny (model P w) A (.call (.ref f) ⟨us, []⟩) (CR CX0 outer P w H s Q E0) s
end
section
variable {P : Program} {w : World} {K : PySem.W.Frag} {mg : Str → Option Value} {base : Heap} {k : Nat} {x : Str} {st : Stmt} {ps N : List Str} {sp : Addr → Value → Option Addr → Sp}
theorem DefAt.okP (D : DefAt K mg x st) (S : FnScope N ps (defScope st)) (len : ∀ a cls d vs H Q E, sp a cls d vs H Q E → vs.length = ps.length)
    (body : ∀ (f : Addr) (cdv : Value) (A : Around) (outer : List Env) (s : Shared) (H : Hp) (vs : List V) (Q : VK) (p : Addr × Obj) (cls : Value) (d : Option Addr), Zc cls d p.2 → (∃ vs, p.2.data = .fields vs) → L2H.RoomH k (A.deeper (envOfC x (defScope st) s.heap.objs.size f cdv)) → sp p.1 cls d vs H Q E0 →
      ∃ t, PSs (L2H.cxH CX0 P w K mg base N x (defScope st) f cdv A outer s H E0 p).nox (defBody st) t ∧ t { nx := fun _ H' => Q .non H', rt := Q } (start N vs) H) : PrP P w K mg base (k + 1) x st ps sp := by
  obtain ⟨f, fd, m, F⟩ := D
  refine ⟨f, fd, m, F, len, fun A outer s H us vs Q p cls d hz hf hr pin e0 hb r hsp => ?_⟩
  obtain ⟨oc, od, kV, doc, pm, an, cdv, ct, osl, rfl, lk, hcd⟩ := F.ex
  have up : ∀ b o, base.get? b = some o → s.heap.get? b = some o := fun b o e => (e0.bs b o e).1
  have inK : K.In s.heap := e0.mod.kin.keeps up
  have nl : s.heap.NoLimit := e0.mod.nolimit.keeps up
  refine codeAny_call_function hr.depth (inK _ _ lk) rfl S.co S.gen rfl (PySem.W.codeRec_of inK hcd) (hb _ _ _ _ ?_)
  refine wpAny_newFunctionEnv_cells S.kind (fun y hy => (S.par y.1 (List.of_mem_zip hy).1).imp id fun z => ⟨z, PySem.W.cellsFrom_some _ _ _ (.inl z)⟩) fun env he s1 new => ?_
  cases he
  obtain ⟨t, ht, q⟩ := body f cdv A outer s H vs Q p cls d hz hf (hr.deeper _) hsp
  have I := L2H.inv_startH (CX := CX0) (P := P) (w := w) (K := K) (mg := mg) (base := base) (E := E0) S pin e0 (len _ _ _ vs H Q E0 hsp) r new
  refine ⟨nl.keeps new.toInCall.keep, codeAny_func (wpAny_mono (ht.nox.run [] s1 _ H _ I q) (fun fl s' z => ?_) fun _ _ z => z)⟩
  cases fl with
  | next => exact let ⟨_, H', J, z⟩ := z; ⟨V.non, H', J.os, J.bare, J.base, J.hok, rfl, z⟩
  | ret u => exact let ⟨v, _, H', J, rv, z⟩ := z; ⟨v, H', J.os, J.bare, J.base, J.hok, rv, z⟩
  | brk => exact False.elim (let ⟨_, _, _, z⟩ := z; z)
  | cont => exact False.elim (let ⟨_, _, _, z⟩ := z; z)
end
theorem roomM {k : Nat} {A : Around} {h : Option Value} (r : Room k A) : L2H.RoomH k (A.mark h) := ⟨r.dp, r.un⟩
section
variable {X : Cx} {j k : Nat} {st : Stmt} {ps : List Str} {sp : Addr → Value → Option Addr → Sp} {x : Str} {p pos : Pos} {e : Expr} {es : List Expr} {t : TA} {a : Addr} {oe : Obj} {cls : Value} {d : Option Addr}
theorem pe_posP (F : PrP X.prog X.w X.K X.mg X.base k x st ps sp) (hr : L2H.RoomH j X.A) (hk : k ≤ j) (hp : (a, oe) ∈ X.pn) (hz : Zc cls d oe) (hf : ∃ vs, oe.data = .fields vs) (hg : Gl X x) (hb : PosB x st ps) (ha : PA X (e :: es) t) (n0 : (x == ("__debug__" : Str)) = false := by decide)
    (n1 : starEach (e :: es) X.env = (false, eval e X.env) :: starEach es X.env := by rfl) (n2 : (backTo pos (starEach es X.env)).any (·.1) = false := by rfl) : PE X (.Call (.Name x p) (e :: es) [] pos) (tCall (sp a cls d) [] E0 t) := by
  obtain ⟨f, fd, m, Z, len, F⟩ := F.ex
  constructor
  intro pins s σ H Q I h
  refine wpAny_Call_Name_kw (ld_glob I hg m ?_ n0)
  refine PySem.W.callWith_K (h₀ := X.base) I.ok.mod.kin Z.kp (thn (ha.run pos pins s σ H _ I h) fun us s1 ⟨vs, H1, I1, r, q⟩ => ⟨I1.kIn, ?_⟩) n1 n2
  have q : sp a cls d (vs ++ []) H1 Q E0 := q
  rw [List.append_nil] at q
  have many : (us ++ []).length = ps.length := by rw [List.append_nil, ← r.length]; exact len _ _ _ _ _ _ _ q
  have bb := (Z.binds hb) s1 us I1.kIn many
  rw [List.append_nil] at bb
  obtain ⟨p1, p2, p3, p4, p5⟩ := I1.pin (a, oe) (List.mem_append_left _ hp)
  have ok : L2H.PinOk X.stack H1 s1 (a, oe) := ⟨p1, p2, fun z => (List.mem_cons.mp (I1.stkSub a z)).elim p3 p4, p5⟩
  refine wpAny_call (codeAny_mono (F X.A X.stack s1 H1 us vs Q (a, oe) cls d hz hf (hr.mono hk) ok I1.env0 bb r q) fun res s' z => ?_)
  cases res with
  | error er => exact False.elim z
  | ok fl =>
    cases fl with
    | ret u => exact I1.after z
    | next => exact False.elim z
    | brk => exact False.elim z
    | cont => exact False.elim z
end
/-! ### isinstance of an error that is handled -/
/-- a handled error, of the class cls with the dict d, is one of the class x, with these fields -/
def ErrOf (mg : Str → Option Value) (x : Str) (cls : Value) (d : Option Addr) (H : Hp) (fs : List (Str × V)) : Prop := cls = .ref (cl mg x) ∧ ∃ dd, d = some dd ∧ H dd = some (.xd fs)
section
variable {X : Cx} {pins : List (Addr × Obj)} {σ : L2.St} {H : Hp} {s : Shared}
theorem ErrOf.kit {x qual : Str} {st : Stmt} {p : Addr × Obj} {fs : List (Str × V)} {cls : Value} {d : Option Addr} (T : ErrAt X.K X.mg x qual st) (h : ErrOf X.mg x cls d H fs) (hp : p ∈ X.pn) (hz : Zc cls d p.2) (hf : ∃ vs, p.2.data = .fields vs) (I : Inv X pins σ H s) :
    ∃ Z : Heap → Prop, PySem.W.KitX X.K (.ref p.1) (.ref (cl X.mg x)) Z ∧ Z s.heap := by
  obtain ⟨rfl, dd, rfl, hd⟩ := h
  obtain ⟨vs, hv⟩ := hf
  have hx : ObjOk X.prog X.w H s.heap dd (.xd fs) := I.hok dd _ hd
  obtain ⟨mA, hns, _⟩ := hx
  obtain ⟨od, ho, _⟩ := lookIn_ns hns
  obtain ⟨h1, _⟩ := I.pin p (List.mem_append_left _ hp)
  have isC : (PySem.W.clsIn X.K (cl X.mg x)).isSome = true := by
    have z := T.hd
    unfold PySem.W.hasDictIn at z
    cases c : PySem.W.clsIn X.K (cl X.mg x) with
    | none => rw [c] at z; cases z
    | some _ => rfl
  refine ⟨fun h => PySem.W.InstAt h p.1 p.2 (cl X.mg x) (some od), PySem.W.kitx_exc isC T.ga T.gg T.oex.exC T.gc T.gn T.gt T.gm, h1, hz.1, ?_, ?_⟩
  · unfold PySem.W.notCls
    rw [hv]
  · rw [hz.2]
    exact ho
end
/-- isinstance(e, c) and isinstance(e, (c1, c2, ..)), e the handled error at a -/
def rIsP (K : PySem.W.Frag) (mg : Str → Option Value) (a : Addr) (cls : Value) (d : Option Addr) : List V → Hp → VK → Prop := fun xs H Q => ∃ (x qual : Str) (st : Stmt) (fs : List (Str × V)) (c : V) (b : Bool), xs = [.ref a, c] ∧ ErrAt K mg x qual st ∧ ErrOf mg x cls d H fs ∧
  ((∃ u, ClsV c u ∧ PySem.W.kitOne K (.ref (cl mg x)) u = some b) ∨ ∃ (tp : Addr) (cs : List V) (us : List Value), c = .ref tp ∧ H tp = some (.tup cs) ∧ Paired ClsV cs us ∧ PySem.W.kitAny K (.ref (cl mg x)) us = some b) ∧ Q (.bl b) H
theorem call_isP {X : Cx} {a : Addr} {oe : Obj} {cls : Value} {d : Option Addr} (hp : (a, oe) ∈ X.pn) (hz : Zc cls d oe) (hf : ∃ vs, oe.data = .fields vs) : CallR X (.builtin "isinstance") (rIsP X.K X.mg a cls d) := by
  intro pins s σ H xs us Q I r h
  obtain ⟨x, qual, st, fs, c, b, rfl, T, he, hc, q⟩ := h
  obtain ⟨w1, u2, rfl, r1, r2⟩ := vals2 r
  cases (show w1 = Value.ref a from r1)
  obtain ⟨Z, kit, at_⟩ := he.kit (p := (a, oe)) T hp hz hf I
  rcases hc with ⟨u, kc, e⟩ | ⟨tp, cs, ws, rfl, hT, kc, e⟩
  · cases kc.eq r2
    exact PySem.W.kia_one kit I.kIn at_ e (fun z => nomatch z) fun tk => ⟨.bl b, H, I.tok tk, rfl, q⟩
  · cases (show u2 = .ref tp from r2)
    have ot : ObjOk X.prog X.w H s.heap tp (.tup cs) := I.hok tp _ hT
    obtain ⟨_, its, rv, ⟨oc, od, dt, sl⟩, h1, h2, n, h3⟩ := ot
    cases ClsV.all kc rv
    cases h2
    cases h3
    exact PySem.W.kia_tup kit I.kIn at_ h1 e (fun z => nomatch z) fun tk => ⟨.bl b, H, I.tok tk, rfl, q⟩
end Gx
namespace Gx
open PySem PySem.Spec PyProof.Rows L2
/-! ### try with several clauses, with or without names -/
/-- behind a suite whose clause has a name in slot i, the slot is empty -/
def goneD (D : Ends) : Option Nat → Ends
  | none => D
  | some i => { nx := fun σ H => D.nx (σ.set i none) H, rt := D.rt, bk := fun σ H => D.bk (σ.set i none) H, ct := fun σ H => D.ct (σ.set i none) H }
def boundS (σ : L2.St) (a : Addr) : Option Nat → L2.St
  | none => σ
  | some i => σ.set i (some (.ref a))
/-- a clause: its class, its name's slot, its suite -/
abbrev Cla := Value × Option Nat × (Addr → Value → Option Addr → TS)
/-- what the clauses wish of an error -/
def wCla (K : PySem.W.Frag) (Wout : WX) (D : Ends) : List Cla → WX
  | [] => Wout
  | (c, i, ts) :: r => fun cls d σ H => ∃ b, PySem.W.exmOne K cls c = some b ∧ (b = true → ∀ a, H a = none → ts a cls d (goneD D i) (boundS σ a i) H) ∧ (b = false → wCla K Wout D r cls d σ H)
inductive Clas (X : Cx) : List ExceptHandler → List Cla → Prop
  | nil : Clas X [] []
  | as {x n : Str} {c : Value} {i : Nat} {ts : Addr → Value → Option Addr → TS} {b₀ : Stmt} {suite : List Stmt} {np pos : Pos} {hds : List ExceptHandler} {l : List Cla} (hi : X.N[i]? = some n) (hl : X.env.kindOf n = some .local) (hc : Names X x c)
      (hs : ∀ (a : Addr) (oe : Obj) (cls : Value) (d : Option Addr) (pn : List (Addr × Obj)), Zc cls d oe → (∃ vs, oe.data = .fields vs) → PSs (X.suite a ((a, oe) :: pn)) (b₀ :: suite) (ts a cls d))
      (r : Clas X hds l) : Clas X (.ExceptHandler (some (.Name x np)) (some n) (b₀ :: suite) pos :: hds) ((c, some i, ts) :: l)
  | no {x : Str} {c : Value} {ts : Addr → Value → Option Addr → TS} {b₀ : Stmt} {suite : List Stmt} {np pos : Pos} {hds : List ExceptHandler} {l : List Cla} (hc : Names X x c)
      (hs : ∀ (a : Addr) (oe : Obj) (cls : Value) (d : Option Addr) (pn : List (Addr × Obj)), Zc cls d oe → (∃ vs, oe.data = .fields vs) → PSs (X.suite a ((a, oe) :: pn)) (b₀ :: suite) (ts a cls d))
      (r : Clas X hds l) : Clas X (.ExceptHandler (some (.Name x np)) none (b₀ :: suite) pos :: hds) ((c, none, ts) :: l)
section
variable {X : Cx} {pins : List (Addr × Obj)} {σ : L2.St} {H : Hp} {s : Shared}
/-- the clauses, one after another, of an error that has landed -/
theorem cla_go {Wout : WX} {D : Ends} {a : Addr} {B : Heap} {cls : Value} {d : Option Addr} {sI s' : Shared} (hs : X.stack = X.env :: X.outer) (hf : X.env.frame = some X.env.locals) (hN : X.N.Nodup) (tk : Takes X Wout) (J : Inv X pins σ H sI)
    (nb : ∀ b o, sI.heap.get? b = some o → b ∉ frs X.stack → B.get? b = some o) (os : s'.os = sI.os) (ag : AllBare s'.gens) (na : H a = none) (up : sI.heap.UpToSlots s'.heap)
    (fl : HandSPX.FlyingZ B (X.env :: X.outer) a (Zc cls d) s'.heap) : ∀ {hds : List ExceptHandler} {l : List Cla}, Clas X hds l → wCla X.K Wout D l cls d σ H →
    wpAny (model X.prog X.w) X.A (handleBy (.ref a) X.env hds) (SP X pins D) X.xe s' := by
  have ok := J.ok
  have J3 : Inv X pins σ H s' := J.landed nb fl.1 up os ag
  obtain ⟨oe, vs, he, hz, hd⟩ := fl.there
  have out : a ∉ frs (X.env :: X.outer) := fun z => by
    obtain ⟨_, o, h1, h2⟩ := fl.2.2.1.mem z
    rw [he] at h1
    cases h1
    exact h2 _ hd
  have nL : a ≠ X.env.locals := fun z => out (List.mem_filterMap.mpr ⟨X.env, List.mem_cons_self, by rw [hf, z]⟩)
  have nF : a ∉ X.fs := fun z => by
    obtain ⟨e, h1, h2⟩ := List.mem_filterMap.mp z
    exact out (List.mem_filterMap.mpr ⟨e, List.mem_cons_of_mem _ h1, h2⟩)
  have S3 := J3.suite he hd na nL nF
  have ask : ∀ {x : Str} {c : Value} {np : Pos} {Q : Value → Shared → Prop} {E : Value → Shared → Prop}, Names X x c → Q c s' → wpAny (model X.prog X.w) (X.A.mark (some (.ref a))) (eval (.Name x np) X.env) Q E s' := fun {x c np Q E} hc q => by
    obtain ⟨hg, hdb, m | ⟨m, v, nn⟩⟩ := hc
    · exact ld_glob (X := X.suite a ((a, oe) :: (X.pn ++ pins))) S3 hg m q hdb
    · exact ld_blt (X := X.suite a ((a, oe) :: (X.pn ++ pins))) S3 hg m v q nn hdb
  have seen : PySem.W.Looks (model X.prog X.w) s'.heap (typeOf (.ref a)) cls := fun A Q E s k q => wpAny_typeOf_ref (k _ _ he) (hz.1.symm ▸ q)
  intro hds l hk
  induction hk with
  | nil =>
    intro w
    refine wpAny_handleBy_nil ?_
    obtain ⟨k1, k2, k3, oe', vs', T, oT, ts, e1, e2, e3, e4, e5⟩ := id fl
    unfold PySem.passOn
    refine wpAny_bind (wpAny_field e1 e3 e4 ?_)
    rw [if_neg (by simp : ¬ ((Value.ref T == Value.none) = true))]
    have last : wpAny (model X.prog X.w) X.A (setFlight (.ref a) X.env.frame) (fun _ s4 => wpAny (model X.prog X.w) X.A (throw (.ref a) : Sem Flow) (SP X pins D) X.xe s4) X.xe s' := by
      rw [hf]
      refine HandSPX.setFlight_upZ fl fun h4 hh up4 => wpAny_throw (tk _ _ ?_)
      exact ⟨a, B, sI, pins, σ, H, cls, d, rfl, J, nb, up.trans up4, .inr (.inr (hs.symm ▸ hh)), na, os, ag, w⟩
    first
      | exact wpAny_bind (wpAny_pure (wpAny_bind last))
      | exact wpAny_bind last
  | @as x n c i ts b₀ suite np pos hds2 l2 hi hl hc hsu r ih =>
    intro w
    obtain ⟨b, e, yes, no⟩ := w
    refine wpAny_handleBy_cons (codeAny_handlers_test ?_) (by intro z; cases z)
    refine ask hc ((PySem.W.exm_one (M := model X.prog X.w) J3.kIn seen e).here ?_)
    cases b with
    | false => exact ih (no rfl)
    | true =>
      refine codeAny_handlers_suite_as (HandSPX.lands_againZ fl fun h4 fl4 up4 => ?_)
      have J4 : Inv X pins σ H { s' with heap := h4 } := J.landed nb fl4.1 (up.trans up4) os ag
      obtain ⟨oe4, vs4, he4, hz4, hd4⟩ := fl4.there
      refine store_ok (X := X.suite a ((a, oe4) :: (X.pn ++ pins))) (v := .ref a) (J4.suite he4 hd4 na nL nF) hN hi (.inl hl) rfl (fun s5 S5 => ?_) (.inr hl)
      refine wpAny_mono ((hsu a oe4 cls d (X.pn ++ pins) hz4 ⟨_, hd4⟩).run [] s5 _ H _ S5 (yes rfl a na)) (fun f s6 z => ?_) fun _ _ z => False.elim z
      cases f with
      | next => exact let ⟨_, _, S6, q⟩ := z; gone_ok (S6.unsuite ok) hN hi hl fun _ J7 => ⟨_, _, J7, q⟩
      | brk => exact let ⟨_, _, S6, q⟩ := z; gone_ok (S6.unsuite ok) hN hi hl fun _ J7 => ⟨_, _, J7, q⟩
      | cont => exact let ⟨_, _, S6, q⟩ := z; gone_ok (S6.unsuite ok) hN hi hl fun _ J7 => ⟨_, _, J7, q⟩
      | ret u => exact let ⟨_, _, _, S6, r6, q⟩ := z; gone_ok (S6.unsuite ok) hN hi hl fun _ J7 => ⟨_, _, _, J7, r6, q⟩
  | @no x c ts b₀ suite np pos hds2 l2 hc hsu r ih =>
    intro w
    obtain ⟨b, e, yes, no⟩ := w
    refine wpAny_handleBy_cons (codeAny_handlers_test ?_) (by intro z; cases z)
    refine ask hc ((PySem.W.exm_one (M := model X.prog X.w) J3.kIn seen e).here ?_)
    cases b with
    | false => exact ih (no rfl)
    | true =>
      refine codeAny_handlers_suite (HandSPX.lands_againZ fl fun h4 fl4 up4 => ?_)
      have J4 : Inv X pins σ H { s' with heap := h4 } := J.landed nb fl4.1 (up.trans up4) os ag
      obtain ⟨oe4, vs4, he4, hz4, hd4⟩ := fl4.there
      refine wpAny_mono ((hsu a oe4 cls d (X.pn ++ pins) hz4 ⟨_, hd4⟩).run [] _ _ H _ (J4.suite he4 hd4 na nL nF) (yes rfl a na)) (fun f s6 z => ?_) fun _ _ z => False.elim z
      cases f with
      | next => exact let ⟨_, _, S6, q⟩ := z; ⟨_, _, S6.unsuite ok, q⟩
      | brk => exact let ⟨_, _, S6, q⟩ := z; ⟨_, _, S6.unsuite ok, q⟩
      | cont => exact let ⟨_, _, S6, q⟩ := z; ⟨_, _, S6.unsuite ok, q⟩
      | ret u => exact let ⟨_, _, _, S6, r6, q⟩ := z; ⟨_, _, _, S6.unsuite ok, r6, q⟩
end
section
variable {X : Cx} {body : List Stmt} {h₀ : ExceptHandler} {hds : List ExceptHandler} {l : List Cla} {pos : Pos} {tb : WX → TS} {Wout : WX}
theorem ps_try (hs : X.stack = X.env :: X.outer) (hf : X.env.frame = some X.env.locals) (hN : X.N.Nodup) (tk : Takes X Wout)
    (hb : ∀ (W : WX) (pn : List (Addr × Obj)) (xe : Value → Shared → Prop), Takes (X.tr pn xe) W → PassesOwn (model X.prog X.w) X.A X.env xe → PSs (X.tr pn xe) body (tb W)) (hh : Clas X (h₀ :: hds) l) :
    PS X (.Try body (h₀ :: hds) [] [] pos) (fun D σ H => tb (wCla X.K Wout D l) D σ H) := by
  refine ⟨fun pins s σ H D I h => wpAny_Try_except ?_⟩
  have ok := I.ok
  have frm : X.A.frames = some (X.env :: X.outer) := by rw [ok.frames, hs]
  have go := (hb (wCla X.K Wout D l) (X.pn ++ pins) (fun e s₁ => wpAny (model X.prog X.w) X.A (noteFrame e X.env) (fun _ s₂ => wpAny (model X.prog X.w) X.A (setFlight e none) (fun _ s₃ =>
    wpAny (model X.prog X.w) X.A (handleBy e X.env (h₀ :: hds)) (SP X pins D) X.xe s₃) X.xe s₂) X.xe s₁) (fun u s' z => ?_) PassesOwn.looking).run [] s σ H D (I.toTry _) h
  · refine wpAny_mono go (fun f s1 z => ?_) fun _ _ z => z
    cases f with
    | next => exact let ⟨_, _, J, q⟩ := z; wpAny_execs_nil ⟨_, _, J.ofTry ok, q⟩
    | brk => exact let ⟨_, _, J, q⟩ := z; ⟨_, _, J.ofTry ok, q⟩
    | cont => exact let ⟨_, _, J, q⟩ := z; ⟨_, _, J.ofTry ok, q⟩
    | ret u => exact let ⟨_, _, _, J, r, q⟩ := z; ⟨_, _, _, J.ofTry ok, r, q⟩
  · obtain ⟨a, B, sI, pins', σ', H', cls, d, rfl, J', nb, up, sky, na, os, ag, w⟩ := z
    refine Sky.land Zc.steady frm hf (hs ▸ sky) fun h3 fl3 up3 => ?_
    exact cla_go (s' := { s' with heap := h3 }) hs hf hN tk (J'.ofTry ok) nb os ag na (up.trans up3) fl3 hh w
end
/-! ### list.count(True) -/
def isTrueV : Value → Bool
  | .bool b => b
  | _ => false
def rCountT (K : PySem.W.Frag) : V → List V → Hp → VK → Prop := fun x xs H Q => ∃ (p : Addr) (bs : List Bool), x = .ref p ∧ xs = [.bl true] ∧ SqL K H p (bs.map V.bl) ∧ Q (.int (bs.count true : Nat)) H
theorem bools_are : ∀ {bs : List Bool} {us : List Value}, Vals (bs.map V.bl) us → us = bs.map Value.bool
  | [], _, h => by cases h; rfl
  | b :: bs, _, h => by
    cases h with
    | cons r t =>
      cases r
      rw [bools_are t]
      rfl
theorem bools_count : ∀ bs : List Bool, (bs.map Value.bool).countP isTrueV = bs.count true
  | [] => rfl
  | b :: bs => by
    rw [List.map_cons, List.countP_cons, List.count_cons, bools_count bs]
    cases b <;> rfl
theorem mt_countT {X : Cx} (hu : X.A.units + 64 < cLine) : MtR X "list.count" (rCountT X.K) := by
  intro pins s σ H x xs v us Q I rx rxs h
  obtain ⟨p, bs, rfl, rfl, hs, q⟩ := h
  cases rx
  obtain ⟨u, rfl, ru⟩ := rxs.one
  cases ru
  obtain ⟨its, rv, ⟨⟨cls, dd, data, sl⟩, n, ho, hc, hdn, hd⟩, hlen⟩ := I.list hs
  cases hc
  cases hd
  have es := bools_are rv
  refine call_meets PySem.F.slot_list_count ⟨_, ho, rfl⟩ PySem.F.entry_list_count (PySem.F.args_list_count_2 _ _) (SeqAt.list_countAt p its.toArray n dd sl (.bool true) isTrueV) ⟨ho, fun y hy => ?_, ?_⟩
  · have hy : y ∈ its := by simpa using hy
    rw [es] at hy
    obtain ⟨b, _, rfl⟩ := List.mem_map.mp hy
    have z := PySem.SeqAt.eqAt_reads (.bool b) (.bool true) X.A.in1 s (.bool b) (.bool true) _ _ (.bool b) (.bool true) rfl rfl (by show X.A.units + 1 + 0 < cLine; omega)
    have e : PyData.eqv (.bool b) (.bool true) = isTrueV (.bool b) := by cases b <;> rfl
    rw [e] at z
    exact z
  · refine ⟨.int (bs.count true : Nat), H, I.tok _, ⟨s.toks, ?_⟩, q⟩
    show Value.int ((its.toArray.toList.countP isTrueV : Nat) : Int) s.toks = _
    rw [es]
    simp only
    rw [bools_count]
/-! ### x * n of a text -/
theorem op_repS {X : Cx} : OpR X (binaryOp .Mult) (fun x y H Q => ∃ z n, x = .str z ∧ y = .int n ∧ MulOk z n ∧ Q (.str (Txt.mul z n)) H) := by
  intro pins s σ H x y v u Q I rx ry h
  obtain ⟨z, n, rfl, rfl, ok, q⟩ := h
  obtain ⟨t, rfl⟩ := rx
  obtain ⟨t', rfl⟩ := ry
  exact PySem.SB.mul ok fun t2 k => ⟨.str (Txt.mul z n), H, I.tok k, ⟨t2, rfl⟩, q⟩
theorem call_reprK {X : Cx} {K : PySem.W.Frag} (hK : X.K = K) (hgd : X.A.guards = some []) (hu : X.A.units + 64 < cLine) : CallR X (.builtin "repr") (rRepr K) := by
  subst hK
  exact call_repr hgd hu
end Gx
namespace Gx
open PySem PySem.Spec PyProof.Rows L2 Builtin Float
/-! ### f'{i:b}' -/
/-- the binary digits of an int -/
def binL (i : Int) : List Nat := (if i < 0 then [45] else []) ++ (Nat.toDigits 2 i.natAbs).map Char.toNat
def binS (i : Int) : Str := ⟨(binL i).toArray⟩
def bSpec : FormatSpec := { align := 62, type := some 98 }
theorem bSpec_is : parseFormatSpec ("b" : Str).cps.toList "int" 62 = .ok bSpec := by kernel_rfl
theorem field_text (a : Int) : intField' { align := 62, type := some 98 } (decide (a < 0)) [] ((Nat.toDigits 2 a.natAbs).map Char.toNat) [] 4 = binS a := by
  have ne : ((Nat.toDigits 2 a.natAbs).map Char.toNat).isEmpty = false := by
    have := toDigits_len_ge 2 a.natAbs
    cases h : Nat.toDigits 2 a.natAbs with
    | nil => rw [h] at this; simp at this
    | cons x l => rfl
  unfold binS binL
  by_cases c : a < 0
  · simp [intField', c, ne]
  · simp [intField', c, ne]
section
variable {prog : Program} {w : World} {A : Around} {E : Value → Shared → Prop} {s : Shared}
theorem field_b {a : Int} {t : Tok} {Q : Value → Shared → Prop} (hz : (binS a).length ≤ sizeLine) (h : ∀ tk k, Q (.str (binS a) tk) { s with toks := k }) : wpAny (model prog w) A (formatField (.int a t) "b") Q E s := by
  have h1 : (("b" : Str).length == 0) = false := by decide +kernel
  have h2 : ((("b" : Str).cps.toList.drop 1).any (· ≥ 128) || (("b" : Str).cps.getD 0 0 ≥ 128 && !([60, 62, 61, 94] : List Nat).contains (("b" : Str).cps.getD 1 0))) = false := by decide +kernel
  have hp := bSpec_is
  have hsz : ("b" : Str).length ≤ sizeLine := by rw [show ("b" : Str).length = 1 by decide +kernel]; decide
  generalize ("b" : Str) = spec at *
  show wpAny _ _ (holding [.int a t] (pyFormat (.int a t) spec)) Q E s
  refine wpAny_holding ?_
  unfold pyFormat
  refine wpAny_bind (wpAny_mkStr ?_ hsz)
  refine wpAny_bind (m := callSpecial? (.int a t) (Str.ofString "__format__") [.str spec s.toks]) (wpAny_callSpecial?_slot (name := Str.ofString "__format__") (typeIs_int _ a t) slot_int_format ?_)
  refine wpAny_call (codeAny_call_builtin slot_int_format.plain entry_int_format (slot_int_format.check _ _ _ _ _ _ _ _ (typeIs_int _ a t) (args_int_format _ _) ?_))
  unfold Builtin.«int.__format__»
  simp only [selfAndOne, noKeywords, Int.intOfSelf, asInt?, asStr?, List.isEmpty_nil, if_true, pure_bind, bind_assoc, h1, h2, Bool.false_eq_true, if_false, show (Value.str spec s.toks == Value.none) = false from rfl]
  refine wpAny_bind (wpAny_typeNameOf (T := "str") (typeIs_str _ _ _) (by decide) fun _ => ?_)
  first | refine wpAny_bind (wpAny_typeNameOfCut_int ?_) | refine wpAny_bind (wpAny_typeNameOf_int ?_)
  simp only [hp, bSpec, Option.getD_some]
  refine (congrArg (fun m => wpAny (model prog w) _ m _ _ _) (if_pos rfl)).mpr ?_
  show wpAny _ _ (retStr (intField' { align := 62, type := some 98 } (decide (a < 0)) [] ((Nat.toDigits 2 a.natAbs).map Char.toNat) [] 4)) _ _ _
  rw [field_text]
  unfold retStr
  refine wpAny_bind (wpAny_mkStr (wpAny_pure ?_) hz)
  show wpAny _ _ (isInstance _ _ >>= _) _ _ _
  refine wpAny_bind (wpAny_isInstance (typeIs_str _ _ _) isSubtype_str_str (wpAny_pure ?_))
  exact h _ _
end
section
variable {X : Cx}
/-- {e:b} -/
def tFmtB (te : TE) : TE := fun σ H Q => te σ H fun x H1 => ∃ i : Int, x = .int i ∧ (binS i).length ≤ sizeLine ∧ Q (.str (binS i)) H1
theorem pe_fmtB {e : Expr} {te : TE} {j : Nat} {p1 p2 pos : Pos} (he : PE X e te) : PE X (.FormattedValue e (-1) (some (.JoinedStr [.Constant (.str "b") j p1] p2)) pos) (tFmtB te) := by
  refine ⟨fun pins s σ H Q I h => wpAny_FormattedValue_spec (thn (he.run pins s σ H _ I h) fun v s1 z => ?_)⟩
  obtain ⟨x, H1, I1, r1, i, rfl, hz, q⟩ := z
  have sp : PE X (.JoinedStr [.Constant (.str "b") j p1] p2) (tC (.str "b")) := pe_joined1 pe_str
  refine wpAny_mono (sp.run pins s1 σ H1 (fun y H2 => y = .str "b" ∧ H2 = H1) I1 ⟨rfl, rfl⟩) (fun u s2 z => ?_) fun _ _ z => z
  obtain ⟨y, H2, I2, r2, rfl, rfl⟩ := z
  obtain ⟨t, rfl⟩ := r1
  obtain ⟨t2, rfl⟩ := r2
  exact ⟨_, _, rfl, field_b hz fun tk k => ⟨.str (binS i), H2, I2.tok k, ⟨tk, rfl⟩, q⟩⟩
/-- s.ljust(n, f) -/
theorem mt_ljustF : MtR X "str.ljust" (fun x xs H Q => ∃ (a : Str) (i : Int) (f : Str), x = .str a ∧ xs = [.int i, .str f] ∧ PadOk i = true ∧ f.length = 1 ∧ Q (.str (Txt.ljustF a i (f.cps.getD 0 0))) H) := by
  intro pins s σ H x xs v us Q I rx rs h
  obtain ⟨a, i, f, rfl, rfl, hp, hf, q⟩ := h
  obtain ⟨t, rfl⟩ := rx
  obtain ⟨u1, u2, rfl, ⟨t1, rfl⟩, ⟨t2, rfl⟩⟩ := vals2 rs
  exact ljust_fill hp hf fun t' k => ⟨.str (Txt.ljustF a i (f.cps.getD 0 0)), H, I.tok k, ⟨t', rfl⟩, q⟩
end
/-! ### int(s, 2) -/
namespace Bin
open PySem.NumText PySem.Calls
def Is (c : Nat) : Prop := c = 48 ∨ c = 49
def num (l : List Nat) : Nat := l.foldl (fun a c => a * 2 + (c - 48)) 0
theorem hex {c : Nat} (h : Is c) : Hx.IsHex c := by unfold Is at h; unfold Hx.IsHex; omega
theorem step_bin {ds : Array Nat} {b : Bool} {c : Nat} (h : Is c) : PySem.NumText.step 2 (ds, b) c = some (ds.push (c - 48), true) := by
  have h' : c = 48 ∨ c = 49 := h
  rcases h' with rfl | rfl <;> rfl
theorem fold_bin : ∀ (cs : List Nat) (ds : Array Nat), (∀ c ∈ cs, Is c) → cs.foldlM (PySem.NumText.step 2) (ds, true) = some (cs.foldl (fun acc c => acc.push (c - 48)) ds, true)
  | [], _, _ => rfl
  | c :: cs, ds, h => by
    rw [List.foldlM_cons, step_bin (h c List.mem_cons_self)]
    exact fold_bin cs (ds.push (c - 48)) fun d hd => h d (List.mem_cons_of_mem _ hd)
theorem digits_bin {cs : List Nat} (h : ∀ c ∈ cs, Is c) (hne : cs ≠ []) : digits? 2 cs = some (cs.foldl (fun acc c => acc.push (c - 48)) #[]) := by
  cases cs with
  | nil => exact absurd rfl hne
  | cons c cs =>
    unfold digits?
    rw [List.foldlM_cons, step_bin (h c List.mem_cons_self)]
    show (cs.foldlM (PySem.NumText.step 2) ((#[] : Array Nat).push (c - 48), true)).bind _ = _
    rw [fold_bin cs _ fun d hd => h d (List.mem_cons_of_mem _ hd)]
    rfl
theorem push_bin : ∀ (cs : List Nat) (ds : Array Nat), (cs.foldl (fun acc c => acc.push (c - 48)) ds).foldl (fun acc d => acc * 2 + d) 0 = cs.foldl (fun a c => a * 2 + (c - 48)) (ds.foldl (fun acc d => acc * 2 + d) 0)
  | [], _ => rfl
  | c :: cs, ds => by
    rw [List.foldl_cons, push_bin cs, List.foldl_cons]
    congr 1
    simp
theorem based_bin {cs : List Nat} (h : ∀ c ∈ cs, Is c) : based 2 cs = (2, false, cs) := by
  match cs, h with
  | [], _ => rfl
  | [a], h =>
    have ha : a = 48 ∨ a = 49 := h a List.mem_cons_self
    rcases ha with rfl | rfl <;> rfl
  | a :: c :: r, h =>
    have hc : c = 48 ∨ c = 49 := h c (List.mem_cons_of_mem _ List.mem_cons_self)
    have ha : a = 48 ∨ a = 49 := h a List.mem_cons_self
    rcases ha with rfl | rfl <;> rcases hc with rfl | rfl <;> rfl
theorem read_bin {cs : List Nat} (h : ∀ c ∈ cs, Is c) (hne : cs ≠ []) : (int_private% "readNumeral") 0 2 cs = (int_private% "Numeral.value") ((num cs : Nat) : Int) := by
  have hx : ∀ c ∈ cs, Hx.IsHex c := fun c hc => hex (h c hc)
  have hr : ∀ c ∈ cs.reverse, Hx.IsHex c := fun c hc => hx c (List.mem_reverse.mp hc)
  have hb := based_bin h
  refine (readNumeral_eq 0 2 cs).trans ?_
  rw [Hx.dropB hx, Hx.signH hx]
  show judge 0 false (based 2 cs).1 (based 2 cs).2.1 (digits? (based 2 cs).1 (((based 2 cs).2.2.reverse.dropWhile blank).reverse)) = _
  rw [hb]
  show judge 0 false 2 false (digits? 2 ((cs.reverse.dropWhile blank).reverse)) = _
  rw [Hx.dropB hr, List.reverse_reverse, digits_bin h hne]
  show (int_private% "Numeral.value") (((cs.foldl (fun acc c => acc.push (c - 48)) (#[] : Array Nat)).foldl (fun acc d => acc * 2 + d) 0 : Nat) : Int) = _
  have z : (#[] : Array Nat).foldl (fun acc d => acc * 2 + d) 0 = 0 := by first | rfl | simp
  rw [push_bin, z] <;> rfl
set_option maxHeartbeats 4000000 in
theorem gives_bin {x : PySem.Str} {u t : Tok} (hl : x.length ≤ 640) (h : ∀ c ∈ x.cps.toList, Is c) (hne : x.cps.toList ≠ []) :
    Gives (Builtin.«int.__new__» ⟨[.type "int", .str x u, .int 2 t], []⟩) (.int ((num x.cps.toList : Nat) : Int)) :=
  .of_wp fun M A E s Q hQ => by
    obtain ⟨hp, g, d, tk, os⟩ := s
    have f1 := F.conv_sub_int
    have f2 := F.madeHere_int
    have f6 : typeOf (.str x u) = pure (.type "str") := rfl
    obtain ⟨e1, e2⟩ := Hx.seen_hex fun c hc => hex (h c hc)
    have hs : (numSeenOf x).length ≤ 640 := by rw [e2, Array.length_toList]; exact hl
    have hr : (int_private% "readNumeral") 0 2 (numSeenOf x) = (int_private% "Numeral.value") ((num x.cps.toList : Nat) : Int) := by rw [e2]; exact read_bin h hne
    have ha : ((numSeenOf x).length == (numTextOf x).length) = true := by rw [e1, e2]; exact beq_self_eq_true _
    have hk := Hx.Hid.mk (And.intro hs (And.intro hr ha))
    clear hs hr ha e1 e2 hl hne h
    repeat (any_goals (first
      | assumption
      | ((with_reducible show wpAny _ _ ((int_private% "intFromText") _ _ _) _ _ _); refine Hx.wp_textB hk.out.1 hk.out.2.1 hk.out.2.2 ?_)
      | wp_step))
    all_goals first | exact ⟨_, rfl, hQ⟩ | skip
theorem call_bin {prog : Program} {w : World} {A : Around} {E : Value → Shared → Prop} {s : Shared} {Q : Value → Shared → Prop} {x : PySem.Str} {u t : Tok} (hl : x.length ≤ 640) (h : ∀ c ∈ x.cps.toList, Is c) (hne : x.cps.toList ≠ [])
    (hQ : Q (.int ((num x.cps.toList : Nat) : Int) s.toks) { s with toks := s.toks + 1 }) : wpAny (model prog w) A (call (.type "int") [.str x u, .int 2 t]) Q E s :=
  callType_new F.called_int F.newNe_int (Hx.typeCall_int_2 _ _) (Hx.newCall_int_2 _ _) (fun obj => F.initArgs_range_2 obj _ _) F.entry_int_new (gives_bin hl h hne).meets (show (Made.int ((num x.cps.toList : Nat) : Int)).post _ s from ⟨rfl, hQ⟩)
end Bin
/-- int(z, 2) -/
def rIntBin : List V → Hp → VK → Prop := fun xs H Q => ∃ z : Str, xs = [.str z, .int 2] ∧ z.cps.toList ≠ [] ∧ z.length ≤ 640 ∧ (∀ c ∈ z.cps.toList, Bin.Is c) ∧ Q (.int ((Bin.num z.cps.toList : Nat) : Int)) H
theorem call_int_bin {X : Cx} : CallR X (.type "int") rIntBin := by
  intro pins s σ H xs us Q I r h
  obtain ⟨z, rfl, hne, hl, hx, q⟩ := h
  obtain ⟨u, u', rfl, ⟨t1, rfl⟩, ⟨t2, rfl⟩⟩ := vals2 r
  exact Bin.call_bin hl hx hne ⟨.int ((Bin.num z.cps.toList : Nat) : Int), H, I.tok _, ⟨_, rfl⟩, q⟩
end Gx
namespace My
open PySem PySem.Spec PyProof.Rows L2
def top (i : Nat) : Stmt := PySem.Challenge.pw_coverstore_k12_full_ranges_and_bounds.main.body.getD i (.Pass ⟨0, 0, 0, 0⟩)
abbrev s_is_int : Stmt := top 13
abbrev N_is_int : List Str := ["value"]
theorem sc_is_int : FnScope N_is_int ["value"] (defScope s_is_int) := ⟨rfl, rfl, rfl, by decide +kernel, rfl, by decide +kernel, by decide +kernel⟩
theorem b_is_int : Gx.PosB "is_int" s_is_int ["value"] := fun _ _ _ _ _ _ us hl => match us, hl with | [_], _ => rfl
abbrev s_is_bits : Stmt := top 16
abbrev N_is_bits : List Str := ["value"]
theorem sc_is_bits : FnScope N_is_bits ["value"] (defScope s_is_bits) := ⟨rfl, rfl, rfl, by decide +kernel, rfl, by decide +kernel, by decide +kernel⟩
theorem b_is_bits : Gx.PosB "is_bits" s_is_bits ["value"] := fun _ _ _ _ _ _ us hl => match us, hl with | [_], _ => rfl
abbrev s_is_value : Stmt := top 17
abbrev N_is_value : List Str := ["value", "bits"]
theorem sc_is_value : FnScope N_is_value ["value", "bits"] (defScope s_is_value) := ⟨rfl, rfl, rfl, by decide +kernel, rfl, by decide +kernel, by decide +kernel⟩
theorem b_is_value : Gx.PosB "is_value" s_is_value ["value", "bits"] := fun _ _ _ _ _ _ us hl => match us, hl with | [_, _], _ => rfl
abbrev s_is_range : Stmt := top 18
abbrev N_is_range : List Str := ["value", "bits"]
theorem sc_is_range : FnScope N_is_range ["value", "bits"] (defScope s_is_range) := ⟨rfl, rfl, rfl, by decide +kernel, rfl, by decide +kernel, by decide +kernel⟩
theorem b_is_range : Gx.PosB "is_range" s_is_range ["value", "bits"] := fun _ _ _ _ _ _ us hl => match us, hl with | [_, _], _ => rfl
abbrev s_range_of : Stmt := top 19
abbrev N_range_of : List Str := ["value", "bits"]
theorem sc_range_of : FnScope N_range_of ["value", "bits"] (defScope s_range_of) := ⟨rfl, rfl, rfl, by decide +kernel, rfl, by decide +kernel, by decide +kernel⟩
theorem b_range_of : Gx.PosB "range_of" s_range_of ["value", "bits"] := fun _ _ _ _ _ _ us hl => match us, hl with | [_, _], _ => rfl
abbrev s_bounds : Stmt := top 20
abbrev N_bounds : List Str := ["pre\x66ix", "bits"]
theorem sc_bounds : FnScope N_bounds ["pre\x66ix", "bits"] (defScope s_bounds) := ⟨rfl, rfl, rfl, by decide +kernel, rfl, by decide +kernel, by decide +kernel⟩
theorem b_bounds : Gx.PosB "bounds" s_bounds ["pre\x66ix", "bits"] := fun _ _ _ _ _ _ us hl => match us, hl with | [_, _], _ => rfl
abbrev s_check_bits : Stmt := top 21
abbrev N_check_bits : List Str := ["bits"]
theorem sc_check_bits : FnScope N_check_bits ["bits"] (defScope s_check_bits) := ⟨rfl, rfl, rfl, by decide +kernel, rfl, by decide +kernel, by decide +kernel⟩
theorem b_check_bits : Gx.PosB "check_bits" s_check_bits ["bits"] := fun _ _ _ _ _ _ us hl => match us, hl with | [_], _ => rfl
abbrev s_check_value : Stmt := top 22
abbrev N_check_value : List Str := ["value", "bits"]
theorem sc_check_value : FnScope N_check_value ["value", "bits"] (defScope s_check_value) := ⟨rfl, rfl, rfl, by decide +kernel, rfl, by decide +kernel, by decide +kernel⟩
theorem b_check_value : Gx.PosB "check_value" s_check_value ["value", "bits"] := fun _ _ _ _ _ _ us hl => match us, hl with | [_, _], _ => rfl
abbrev s_check_range : Stmt := top 23
abbrev N_check_range : List Str := ["value", "bits"]
theorem sc_check_range : FnScope N_check_range ["value", "bits"] (defScope s_check_range) := ⟨rfl, rfl, rfl, by decide +kernel, rfl, by decide +kernel, by decide +kernel⟩
theorem b_check_range : Gx.PosB "check_range" s_check_range ["value", "bits"] := fun _ _ _ _ _ _ us hl => match us, hl with | [_, _], _ => rfl
abbrev s__law_rng : Stmt := top 25
abbrev N__law_rng : List Str := ["_law_script", "_law_k", "_law_cell"]
theorem sc__law_rng : FnScope N__law_rng ["_law_script", "_law_k"] (defScope s__law_rng) := ⟨rfl, rfl, rfl, by decide +kernel, rfl, by decide +kernel, by decide +kernel⟩
theorem b__law_rng : Gx.PosB "_law_rng" s__law_rng ["_law_script", "_law_k"] := fun _ _ _ _ _ _ us hl => match us, hl with | [_, _], _ => rfl
abbrev s__law_draw : Stmt := top 26
abbrev N__law_draw : List Str := ["_law_rng_here", "_law_many", "_law_digit", "_law_mixed"]
theorem sc__law_draw : FnScope N__law_draw ["_law_rng_here", "_law_many"] (defScope s__law_draw) := ⟨rfl, rfl, rfl, by decide +kernel, rfl, by decide +kernel, by decide +kernel⟩
theorem b__law_draw : Gx.PosB "_law_draw" s__law_draw ["_law_rng_here", "_law_many"] := fun _ _ _ _ _ _ us hl => match us, hl with | [_, _], _ => rfl
abbrev s__law_choice : Stmt := top 27
abbrev N__law_choice : List Str := ["_law_rng_here", "_law_options"]
theorem sc__law_choice : FnScope N__law_choice ["_law_rng_here", "_law_options"] (defScope s__law_choice) := ⟨rfl, rfl, rfl, by decide +kernel, rfl, by decide +kernel, by decide +kernel⟩
theorem b__law_choice : Gx.PosB "_law_choice" s__law_choice ["_law_rng_here", "_law_options"] := fun _ _ _ _ _ _ us hl => match us, hl with | [_, _], _ => rfl
abbrev s__law_is_integer : Stmt := top 28
abbrev N__law_is_integer : List Str := ["_law_thing"]
theorem sc__law_is_integer : FnScope N__law_is_integer ["_law_thing"] (defScope s__law_is_integer) := ⟨rfl, rfl, rfl, by decide +kernel, rfl, by decide +kernel, by decide +kernel⟩
theorem b__law_is_integer : Gx.PosB "_law_is_integer" s__law_is_integer ["_law_thing"] := fun _ _ _ _ _ _ us hl => match us, hl with | [_], _ => rfl
abbrev s__law_power : Stmt := top 29
abbrev N__law_power : List Str := ["_law_many", "_law_found", "_law_turn"]
theorem sc__law_power : FnScope N__law_power ["_law_many"] (defScope s__law_power) := ⟨rfl, rfl, rfl, by decide +kernel, rfl, by decide +kernel, by decide +kernel⟩
theorem b__law_power : Gx.PosB "_law_power" s__law_power ["_law_many"] := fun _ _ _ _ _ _ us hl => match us, hl with | [_], _ => rfl
abbrev s__law_is_bits : Stmt := top 30
abbrev N__law_is_bits : List Str := ["_law_thing"]
theorem sc__law_is_bits : FnScope N__law_is_bits ["_law_thing"] (defScope s__law_is_bits) := ⟨rfl, rfl, rfl, by decide +kernel, rfl, by decide +kernel, by decide +kernel⟩
theorem b__law_is_bits : Gx.PosB "_law_is_bits" s__law_is_bits ["_law_thing"] := fun _ _ _ _ _ _ us hl => match us, hl with | [_], _ => rfl
abbrev s__law_is_value : Stmt := top 31
abbrev N__law_is_value : List Str := ["_law_thing", "_law_many"]
theorem sc__law_is_value : FnScope N__law_is_value ["_law_thing", "_law_many"] (defScope s__law_is_value) := ⟨rfl, rfl, rfl, by decide +kernel, rfl, by decide +kernel, by decide +kernel⟩
theorem b__law_is_value : Gx.PosB "_law_is_value" s__law_is_value ["_law_thing", "_law_many"] := fun _ _ _ _ _ _ us hl => match us, hl with | [_, _], _ => rfl
abbrev s__law_is_range : Stmt := top 32
abbrev N__law_is_range : List Str := ["_law_thing", "_law_many", "_law_sign"]
theorem sc__law_is_range : FnScope N__law_is_range ["_law_thing", "_law_many"] (defScope s__law_is_range) := ⟨rfl, rfl, rfl, by decide +kernel, rfl, by decide +kernel, by decide +kernel⟩
theorem b__law_is_range : Gx.PosB "_law_is_range" s__law_is_range ["_law_thing", "_law_many"] := fun _ _ _ _ _ _ us hl => match us, hl with | [_, _], _ => rfl
abbrev s__law_odd : Stmt := top 33
abbrev N__law_odd : List Str := ["_law_rng_here", "_law_some"]
theorem sc__law_odd : FnScope N__law_odd ["_law_rng_here"] (defScope s__law_odd) := ⟨rfl, rfl, rfl, by decide +kernel, rfl, by decide +kernel, by decide +kernel⟩
theorem b__law_odd : Gx.PosB "_law_odd" s__law_odd ["_law_rng_here"] := fun _ _ _ _ _ _ us hl => match us, hl with | [_], _ => rfl
abbrev s__law_digits : Stmt := top 34
abbrev N__law_digits : List Str := ["_law_number", "_law_many", "_law_found", "_law_rest", "_law_turn"]
theorem sc__law_digits : FnScope N__law_digits ["_law_number", "_law_many"] (defScope s__law_digits) := ⟨rfl, rfl, rfl, by decide +kernel, rfl, by decide +kernel, by decide +kernel⟩
theorem b__law_digits : Gx.PosB "_law_digits" s__law_digits ["_law_number", "_law_many"] := fun _ _ _ _ _ _ us hl => match us, hl with | [_, _], _ => rfl
abbrev s__law_ends : Stmt := top 35
abbrev N__law_ends : List Str := ["_law_start", "_law_many", "_law_number", "_law_sign", "_law_size"]
theorem sc__law_ends : FnScope N__law_ends ["_law_start", "_law_many"] (defScope s__law_ends) := ⟨rfl, rfl, rfl, by decide +kernel, rfl, by decide +kernel, by decide +kernel⟩
theorem b__law_ends : Gx.PosB "_law_ends" s__law_ends ["_law_start", "_law_many"] := fun _ _ _ _ _ _ us hl => match us, hl with | [_, _], _ => rfl
abbrev s__law_alone : Stmt := top 36
abbrev N__law_alone : List Str := ["_law_e", "_law_others", "_law_some"]
theorem sc__law_alone : FnScope N__law_alone ["_law_e"] (defScope s__law_alone) := ⟨rfl, rfl, rfl, by decide +kernel, rfl, by decide +kernel, by decide +kernel⟩
theorem b__law_alone : Gx.PosB "_law_alone" s__law_alone ["_law_e"] := fun _ _ _ _ _ _ us hl => match us, hl with | [_], _ => rfl
abbrev s__law_told : Stmt := top 37
abbrev N__law_told : List Str := ["_law_way", "_law_thing", "_law_many", "_law_told_here", "_law_e"]
theorem sc__law_told : FnScope N__law_told ["_law_way", "_law_thing", "_law_many"] (defScope s__law_told) := ⟨rfl, rfl, rfl, by decide +kernel, rfl, by decide +kernel, by decide +kernel⟩
theorem b__law_told : Gx.PosB "_law_told" s__law_told ["_law_way", "_law_thing", "_law_many"] := fun _ _ _ _ _ _ us hl => match us, hl with | [_, _, _], _ => rfl
abbrev s__law_due : Stmt := top 38
abbrev N__law_due : List Str := ["_law_way", "_law_thing", "_law_many"]
theorem sc__law_due : FnScope N__law_due ["_law_way", "_law_thing", "_law_many"] (defScope s__law_due) := ⟨rfl, rfl, rfl, by decide +kernel, rfl, by decide +kernel, by decide +kernel⟩
theorem b__law_due : Gx.PosB "_law_due" s__law_due ["_law_way", "_law_thing", "_law_many"] := fun _ _ _ _ _ _ us hl => match us, hl with | [_, _, _], _ => rfl
abbrev s_law : Stmt := top 39
abbrev N_law : List Str := ["_law_script", "_law_k", "_law_rng_here", "_law_turn", "_law_many", "_law_number", "_law_start", "_law_way"]
theorem sc_law : FnScope N_law ["_law_script"] (defScope s_law) := ⟨rfl, rfl, rfl, by decide +kernel, rfl, by decide +kernel, by decide +kernel⟩
theorem b_law : Gx.PosB "law" s_law ["_law_script"] := fun _ _ _ _ _ _ us hl => match us, hl with | [_], _ => rfl
theorem kb_range_of_value_bits : Gx.KwB "range_of" s_range_of ["value", "bits"] ["value", "bits"] (fun zs => zs) := ⟨fun _ _ _ _ _ _ ws hl => match ws, hl with | [_, _], _ => rfl, fun r => r⟩
theorem kb_bounds_pre_fix_bits : Gx.KwB "bounds" s_bounds ["pre\x66ix", "bits"] ["pre\x66ix", "bits"] (fun zs => zs) := ⟨fun _ _ _ _ _ _ ws hl => match ws, hl with | [_, _], _ => rfl, fun r => r⟩
abbrev i_InvalidBits : Stmt := Gx.meth (top 2) 0
theorem sci_InvalidBits : FnScope ["self", "value"] ["self", "value"] (defScope i_InvalidBits) := ⟨rfl, rfl, rfl, by decide +kernel, rfl, by decide +kernel, by decide +kernel⟩
theorem bi_InvalidBits : Gx.PosQ "__init__" "InvalidBits.__init__" i_InvalidBits ["self", "value"] := fun _ _ _ _ _ _ us hl => match us, hl with | [_, _], _ => rfl
theorem bodyi_InvalidBits {P : Program} {w : World} {K : PySem.W.Frag} {mg : Str → Option Value} {base : Heap} : ∀ (f : Addr) (cdv : Value) (A : Around) (outer : List Env) (s : Shared) (H : Hp) (E : XK), PSs (cxOf CX0 P w K mg base ["self", "value"] "InvalidBits.__init__" (defScope i_InvalidBits) f cdv A outer s H E).nox (defBody i_InvalidBits) (fun D σ H => tOst K "value" (tVar 0) (tVar 1) D σ H) :=
  fun _ _ _ _ _ _ _ => pss_one (ps_ost (pv 0) (pv 1))
abbrev i_InvalidValue : Stmt := Gx.meth (top 3) 0
theorem sci_InvalidValue : FnScope ["self", "value"] ["self", "value"] (defScope i_InvalidValue) := ⟨rfl, rfl, rfl, by decide +kernel, rfl, by decide +kernel, by decide +kernel⟩
theorem bi_InvalidValue : Gx.PosQ "__init__" "InvalidValue.__init__" i_InvalidValue ["self", "value"] := fun _ _ _ _ _ _ us hl => match us, hl with | [_, _], _ => rfl
theorem bodyi_InvalidValue {P : Program} {w : World} {K : PySem.W.Frag} {mg : Str → Option Value} {base : Heap} : ∀ (f : Addr) (cdv : Value) (A : Around) (outer : List Env) (s : Shared) (H : Hp) (E : XK), PSs (cxOf CX0 P w K mg base ["self", "value"] "InvalidValue.__init__" (defScope i_InvalidValue) f cdv A outer s H E).nox (defBody i_InvalidValue) (fun D σ H => tOst K "value" (tVar 0) (tVar 1) D σ H) :=
  fun _ _ _ _ _ _ _ => pss_one (ps_ost (pv 0) (pv 1))
abbrev i_InvalidRange : Stmt := Gx.meth (top 4) 0
theorem sci_InvalidRange : FnScope ["self", "value"] ["self", "value"] (defScope i_InvalidRange) := ⟨rfl, rfl, rfl, by decide +kernel, rfl, by decide +kernel, by decide +kernel⟩
theorem bi_InvalidRange : Gx.PosQ "__init__" "InvalidRange.__init__" i_InvalidRange ["self", "value"] := fun _ _ _ _ _ _ us hl => match us, hl with | [_, _], _ => rfl
theorem bodyi_InvalidRange {P : Program} {w : World} {K : PySem.W.Frag} {mg : Str → Option Value} {base : Heap} : ∀ (f : Addr) (cdv : Value) (A : Around) (outer : List Env) (s : Shared) (H : Hp) (E : XK), PSs (cxOf CX0 P w K mg base ["self", "value"] "InvalidRange.__init__" (defScope i_InvalidRange) f cdv A outer s H E).nox (defBody i_InvalidRange) (fun D σ H => tOst K "value" (tVar 0) (tVar 1) D σ H) :=
  fun _ _ _ _ _ _ _ => pss_one (ps_ost (pv 0) (pv 1))
/-- what the module's names stand for -/
structure Mo (K : PySem.W.Frag) (mg : Str → Option Value) : Prop where
  d_is_int : Gx.DefAt K mg "is_int" s_is_int
  d_is_bits : Gx.DefAt K mg "is_bits" s_is_bits
  d_is_value : Gx.DefAt K mg "is_value" s_is_value
  d_is_range : Gx.DefAt K mg "is_range" s_is_range
  d_range_of : Gx.DefAt K mg "range_of" s_range_of
  d_bounds : Gx.DefAt K mg "bounds" s_bounds
  d_check_bits : Gx.DefAt K mg "check_bits" s_check_bits
  d_check_value : Gx.DefAt K mg "check_value" s_check_value
  d_check_range : Gx.DefAt K mg "check_range" s_check_range
  d__law_rng : Gx.DefAt K mg "_law_rng" s__law_rng
  d__law_draw : Gx.DefAt K mg "_law_draw" s__law_draw
  d__law_choice : Gx.DefAt K mg "_law_choice" s__law_choice
  d__law_is_integer : Gx.DefAt K mg "_law_is_integer" s__law_is_integer
  d__law_power : Gx.DefAt K mg "_law_power" s__law_power
  d__law_is_bits : Gx.DefAt K mg "_law_is_bits" s__law_is_bits
  d__law_is_value : Gx.DefAt K mg "_law_is_value" s__law_is_value
  d__law_is_range : Gx.DefAt K mg "_law_is_range" s__law_is_range
  d__law_odd : Gx.DefAt K mg "_law_odd" s__law_odd
  d__law_digits : Gx.DefAt K mg "_law_digits" s__law_digits
  d__law_ends : Gx.DefAt K mg "_law_ends" s__law_ends
  d__law_alone : Gx.DefAt K mg "_law_alone" s__law_alone
  d__law_told : Gx.DefAt K mg "_law_told" s__law_told
  d__law_due : Gx.DefAt K mg "_law_due" s__law_due
  d_law : Gx.DefAt K mg "law" s_law
  b_ValueError : mg "ValueError" = none
  b_abs : mg "abs" = none
  b_bool : mg "bool" = none
  b_divmod : mg "divmod" = none
  b_int : mg "int" = none
  b_isinstance : mg "isinstance" = none
  b_len : mg "len" = none
  b_max : mg "max" = none
  b_min : mg "min" = none
  b_range : mg "range" = none
  b_repr : mg "repr" = none
  b_str : mg "str" = none
  g_MAX_BITS : Gx.KnownAt mg "MAX_BITS" (.int 10)
  c_CoverError : Gx.ClsAt K mg "CoverError"
  c_InvalidBits : Gx.ClsAt K mg "InvalidBits"
  c_InvalidValue : Gx.ClsAt K mg "InvalidValue"
  c_InvalidRange : Gx.ClsAt K mg "InvalidRange"
  c_InvalidBox : Gx.ClsAt K mg "InvalidBox"
  c_InvalidPlace : Gx.ClsAt K mg "InvalidPlace"
  c_InvalidCount : Gx.ClsAt K mg "InvalidCount"
  c_InvalidName : Gx.ClsAt K mg "InvalidName"
  c_InvalidKey : Gx.ClsAt K mg "InvalidKey"
  c_InvalidText : Gx.ClsAt K mg "InvalidText"
  c_InvalidPoint : Gx.ClsAt K mg "InvalidPoint"
  e_InvalidBits : Gx.ErrAt K mg "InvalidBits" "InvalidBits.__init__" i_InvalidBits
  f_InvalidBits_value : PySem.W.findIn K (.ref (Gx.cl mg "InvalidBits")) "value" = some none
  u_InvalidBits_InvalidBox : Gx.SubAt K mg "InvalidBits" "InvalidBox" false
  u_InvalidBits_InvalidCount : Gx.SubAt K mg "InvalidBits" "InvalidCount" false
  u_InvalidBits_InvalidKey : Gx.SubAt K mg "InvalidBits" "InvalidKey" false
  u_InvalidBits_InvalidName : Gx.SubAt K mg "InvalidBits" "InvalidName" false
  u_InvalidBits_InvalidPlace : Gx.SubAt K mg "InvalidBits" "InvalidPlace" false
  u_InvalidBits_InvalidPoint : Gx.SubAt K mg "InvalidBits" "InvalidPoint" false
  u_InvalidBits_InvalidText : Gx.SubAt K mg "InvalidBits" "InvalidText" false
  u_InvalidBits_InvalidBits : Gx.SubAt K mg "InvalidBits" "InvalidBits" true
  u_InvalidBits_InvalidRange : Gx.SubAt K mg "InvalidBits" "InvalidRange" false
  u_InvalidBits_InvalidValue : Gx.SubAt K mg "InvalidBits" "InvalidValue" false
  u_InvalidBits_CoverError : Gx.SubAt K mg "InvalidBits" "CoverError" true
  v_InvalidBits_ValueError : PySem.W.subIn K (.ref (Gx.cl mg "InvalidBits")) (.type "ValueError") = some true
  e_InvalidValue : Gx.ErrAt K mg "InvalidValue" "InvalidValue.__init__" i_InvalidValue
  f_InvalidValue_value : PySem.W.findIn K (.ref (Gx.cl mg "InvalidValue")) "value" = some none
  u_InvalidValue_InvalidBox : Gx.SubAt K mg "InvalidValue" "InvalidBox" false
  u_InvalidValue_InvalidCount : Gx.SubAt K mg "InvalidValue" "InvalidCount" false
  u_InvalidValue_InvalidKey : Gx.SubAt K mg "InvalidValue" "InvalidKey" false
  u_InvalidValue_InvalidName : Gx.SubAt K mg "InvalidValue" "InvalidName" false
  u_InvalidValue_InvalidPlace : Gx.SubAt K mg "InvalidValue" "InvalidPlace" false
  u_InvalidValue_InvalidPoint : Gx.SubAt K mg "InvalidValue" "InvalidPoint" false
  u_InvalidValue_InvalidText : Gx.SubAt K mg "InvalidValue" "InvalidText" false
  u_InvalidValue_InvalidBits : Gx.SubAt K mg "InvalidValue" "InvalidBits" false
  u_InvalidValue_InvalidRange : Gx.SubAt K mg "InvalidValue" "InvalidRange" false
  u_InvalidValue_InvalidValue : Gx.SubAt K mg "InvalidValue" "InvalidValue" true
  u_InvalidValue_CoverError : Gx.SubAt K mg "InvalidValue" "CoverError" true
  v_InvalidValue_ValueError : PySem.W.subIn K (.ref (Gx.cl mg "InvalidValue")) (.type "ValueError") = some true
  e_InvalidRange : Gx.ErrAt K mg "InvalidRange" "InvalidRange.__init__" i_InvalidRange
  f_InvalidRange_value : PySem.W.findIn K (.ref (Gx.cl mg "InvalidRange")) "value" = some none
  u_InvalidRange_InvalidBox : Gx.SubAt K mg "InvalidRange" "InvalidBox" false
  u_InvalidRange_InvalidCount : Gx.SubAt K mg "InvalidRange" "InvalidCount" false
  u_InvalidRange_InvalidKey : Gx.SubAt K mg "InvalidRange" "InvalidKey" false
  u_InvalidRange_InvalidName : Gx.SubAt K mg "InvalidRange" "InvalidName" false
  u_InvalidRange_InvalidPlace : Gx.SubAt K mg "InvalidRange" "InvalidPlace" false
  u_InvalidRange_InvalidPoint : Gx.SubAt K mg "InvalidRange" "InvalidPoint" false
  u_InvalidRange_InvalidText : Gx.SubAt K mg "InvalidRange" "InvalidText" false
  u_InvalidRange_InvalidBits : Gx.SubAt K mg "InvalidRange" "InvalidBits" false
  u_InvalidRange_InvalidRange : Gx.SubAt K mg "InvalidRange" "InvalidRange" true
  u_InvalidRange_InvalidValue : Gx.SubAt K mg "InvalidRange" "InvalidValue" false
  u_InvalidRange_CoverError : Gx.SubAt K mg "InvalidRange" "CoverError" true
  v_InvalidRange_ValueError : PySem.W.subIn K (.ref (Gx.cl mg "InvalidRange")) (.type "ValueError") = some true
/-! ### the values that are drawn -/
/-- a thing: flat, or a list, a tuple, a dict that is not the one at p -/
inductive Th (p : Addr) (H : Hp) : V → Prop
  | non : Th p H .non
  | bl (b : Bool) : Th p H (.bl b)
  | int (i : Int) : Th p H (.int i)
  | str (z : Str) (h : z.length ≤ 100) (a : ∀ c ∈ z.cps.toList, c < 128) : Th p H (.str z)
  | lst {a : Addr} {xs : List V} (n : a ≠ p) (h : H a = some (.lst xs)) : Th p H (.ref a)
  | tup {a : Addr} {xs : List V} (n : a ≠ p) (h : H a = some (.tup xs)) : Th p H (.ref a)
  | dic {a : Addr} {kvs : List (Key × V)} (n : a ≠ p) (h : H a = some (.dK kvs)) : Th p H (.ref a)
/-- all but the object at p is as it was -/
def Kp (p : Addr) (H H' : Hp) : Prop := ∀ b o, b ≠ p → H b = some o → H' b = some o
theorem Kp.refl {p : Addr} {H : Hp} : Kp p H H := fun _ _ _ h => h
theorem Kp.trans {p : Addr} {H H1 H2 : Hp} (a : Kp p H H1) (b : Kp p H1 H2) : Kp p H H2 := fun c o n h => b c o n (a c o n h)
theorem Kp.new {p q : Addr} {H : Hp} {o : HO} (h : H q = none) : Kp p H (upd H q o) := fun b u _ e => by rw [upd_ne (ne_of_none e h)]; exact e
theorem Kp.at {p : Addr} {H : Hp} {o : HO} : Kp p H (upd H p o) := fun b u n e => by rw [upd_ne n]; exact e
theorem Th.kp {p : Addr} {H H' : Hp} {x : V} (t : Th p H x) (k : Kp p H H') : Th p H' x := by
  cases t with
  | non => exact .non
  | bl b => exact .bl b
  | int i => exact .int i
  | str z h a => exact .str z h a
  | lst n h => exact .lst n (k _ _ n h)
  | tup n h => exact .tup n (k _ _ n h)
  | dic n h => exact .dic n (k _ _ n h)
def tyI : V → Bool
  | .int _ => true
  | .bl _ => true
  | _ => false
def tyBo : V → Bool
  | .bl _ => true
  | _ => false
def tyS : V → Bool
  | .str _ => true
  | _ => false
theorem isi_int {K : PySem.W.Frag} {p : Addr} {H : Hp} {x : V} (t : Th p H x) : ∃ u, TyX K H x u ∧ PySem.W.kitOne K u (.type "int") = some (tyI x) := by
  cases t with
  | non => exact ⟨_, .base .non, kit_ty (show _ = some false by decide +kernel)⟩
  | bl b => exact ⟨_, .base (.bl b), kit_ty (show _ = some true by decide +kernel)⟩
  | int i => exact ⟨_, .base (.int i), kit_ty (show _ = some true by decide +kernel)⟩
  | str z _ _ => exact ⟨_, .base (.str z), kit_ty (show _ = some false by decide +kernel)⟩
  | lst _ h => exact ⟨_, .base (.lst h), kit_ty (show _ = some false by decide +kernel)⟩
  | tup _ h => exact ⟨_, .base (.tup h), kit_ty (show _ = some false by decide +kernel)⟩
  | dic _ h => exact ⟨_, .base (.dK h), kit_ty (show _ = some false by decide +kernel)⟩
theorem isi_bool {K : PySem.W.Frag} {p : Addr} {H : Hp} {x : V} (t : Th p H x) : ∃ u, TyX K H x u ∧ PySem.W.kitOne K u (.type "bool") = some (tyBo x) := by
  cases t with
  | non => exact ⟨_, .base .non, kit_ty (show _ = some false by decide +kernel)⟩
  | bl b => exact ⟨_, .base (.bl b), kit_ty (show _ = some true by decide +kernel)⟩
  | int i => exact ⟨_, .base (.int i), kit_ty (show _ = some false by decide +kernel)⟩
  | str z _ _ => exact ⟨_, .base (.str z), kit_ty (show _ = some false by decide +kernel)⟩
  | lst _ h => exact ⟨_, .base (.lst h), kit_ty (show _ = some false by decide +kernel)⟩
  | tup _ h => exact ⟨_, .base (.tup h), kit_ty (show _ = some false by decide +kernel)⟩
  | dic _ h => exact ⟨_, .base (.dK h), kit_ty (show _ = some false by decide +kernel)⟩
theorem isi_str {K : PySem.W.Frag} {p : Addr} {H : Hp} {x : V} (t : Th p H x) : ∃ u, TyX K H x u ∧ PySem.W.kitOne K u (.type "str") = some (tyS x) := by
  cases t with
  | non => exact ⟨_, .base .non, kit_ty (show _ = some false by decide +kernel)⟩
  | bl b => exact ⟨_, .base (.bl b), kit_ty (show _ = some false by decide +kernel)⟩
  | int i => exact ⟨_, .base (.int i), kit_ty (show _ = some false by decide +kernel)⟩
  | str z _ _ => exact ⟨_, .base (.str z), kit_ty (show _ = some true by decide +kernel)⟩
  | lst _ h => exact ⟨_, .base (.lst h), kit_ty (show _ = some false by decide +kernel)⟩
  | tup _ h => exact ⟨_, .base (.tup h), kit_ty (show _ = some false by decide +kernel)⟩
  | dic _ h => exact ⟨_, .base (.dK h), kit_ty (show _ = some false by decide +kernel)⟩
/-! ### what the questions answer -/
def isI : V → Bool
  | .int _ => true
  | _ => false
def isBt : V → Bool
  | .int i => decide (1 ≤ i) && decide (i ≤ 10)
  | _ => false
section
variable {P : Program} {w : World} {K : PySem.W.Frag} {mg : Str → Option Value} {base : Heap}
def spIsI : Sp := fun vs H Q _ => ∃ p x, vs = [x] ∧ Th p H x ∧ Q (.bl (isI x)) H
theorem p_is_int (T : Mo K mg) : Gx.Pr P w K mg base CX0 1 "is_int" s_is_int ["value"] spIsI := by
  refine T.d_is_int.ok sc_is_int (fun vs H Q E h => ?_) (fun f cdv A outer s H vs Q E hr h => ?_)
  · obtain ⟨p, x, rfl, _⟩ := h
    rfl
  · obtain ⟨p, x, rfl, t, q⟩ := h
    refine ⟨_, (pss_one (ps_ret (pe_and (pe_callB call_isi (by rfl) T.b_isinstance (by decide +kernel) (pa_cons (pv 0) (pa_cons (pe_bltn (v := .ty "int") rfl T.b_int (by decide +kernel) rfl) pa_nil))) (pe_one (pe_not (pe_callB call_isi (by rfl) T.b_isinstance (by decide +kernel) (pa_cons (pv 0) (pa_cons (pe_bltn (v := .ty "bool") rfl T.b_bool (by decide +kernel) rfl) pa_nil)))))))), ?_⟩
    obtain ⟨u1, t1, k1⟩ := isi_int (K := K) t
    obtain ⟨u2, t2, k2⟩ := isi_bool (K := K) t
    refine ⟨x, rfl, x, .ty "int", u1, _, _, rfl, .ty _, t1, k1, _, rfl, ?_⟩
    cases t with
    | int i => exact ⟨_, rfl, _, .ty "bool", u2, _, _, rfl, .ty _, t2, k2, _, rfl, q⟩
    | bl i => exact ⟨_, rfl, _, .ty "bool", u2, _, _, rfl, .ty _, t2, k2, _, rfl, q⟩
    | non => exact q
    | str => exact q
    | lst => exact q
    | tup => exact q
    | dic => exact q
def spIsB : Sp := fun vs H Q _ => ∃ p x, vs = [x] ∧ Th p H x ∧ Q (.bl (isBt x)) H
theorem p_is_bits (T : Mo K mg) : Gx.Pr P w K mg base CX0 2 "is_bits" s_is_bits ["value"] spIsB := by
  refine T.d_is_bits.ok sc_is_bits (fun vs H Q E h => ?_) (fun f cdv A outer s H vs Q E hr h => ?_)
  · obtain ⟨p, x, rfl, _⟩ := h
    rfl
  · obtain ⟨p, x, rfl, t, q⟩ := h
    refine ⟨_, (pss_one (ps_ret (pe_and (Gx.pe_pos (p_is_int T) hr (by decide) (by rfl) b_is_int pass0 (pa_cons (pv 0) pa_nil)) (pe_one (pe_chain op_le op_le pe_int (pv 0) (Gx.pe_k rfl T.g_MAX_BITS)))))), ?_⟩
    refine ⟨x, rfl, p, x, rfl, t, _, rfl, ?_⟩
    cases t with
    | int i =>
      refine ⟨_, rfl, _, _, rfl, rfl, _, rfl, ?_⟩
      show if decide (1 ≤ i) = true then _ else _
      have q : Q (.bl (decide (1 ≤ i) && decide (i ≤ 10))) H := q
      by_cases c : 1 ≤ i
      · rw [decide_eq_true c] at q ⊢
        exact ⟨_, _, rfl, rfl, q⟩
      · rw [decide_eq_false c] at q ⊢
        exact q
    | bl i => exact q
    | non => exact q
    | str => exact q
    | lst => exact q
    | tup => exact q
    | dic => exact q
end
end My
namespace My
open PySem PySem.Spec PySem.Builtin PySem.Builtin.Str PyProof.Rows L2
/-! ### texts -/
theorem strip_nil (z y : Str) : (Txt.stripChars z y = Str.empty) ↔ ∀ c ∈ z.cps.toList, y.cps.contains c = true := by
  unfold Txt.stripChars
  rw [PyProof.Rows.stripBy_eq]
  generalize y.cps.contains = g
  obtain ⟨l1, l2, l3⟩ := lo_facts g z
  obtain ⟨h1, h2, h3, h4⟩ := hi_facts g z (stripLo g true z) l1
  have sz : ∀ i : Nat, i < z.length → z.cps.toList[i]? = some (z.cps.getD i 0) := fun i hi => by
    have hi' : i < z.cps.size := hi
    simp [Array.getD, hi']
  constructor
  · intro e c hc
    have e0 : (strSub z (stripLo g true z) (stripHi g true z (stripLo g true z))).length = 0 := by rw [e]; rfl
    rw [size_strSub _ _ _ h2] at e0
    obtain ⟨i, hi, rfl⟩ := List.mem_iff_getElem.mp hc
    have hi' : i < z.length := by simpa [Str.length] using hi
    have q := sz i hi'
    rw [List.getElem?_eq_getElem hi] at q
    rw [Option.some.inj q]
    by_cases c1 : i < stripLo g true z
    · exact l2 i c1
    · exact h3 i (by omega) hi'
  · intro h
    have all : ∀ i, i < z.length → g (z.cps.getD i 0) = true := fun i hi => h _ (List.mem_of_getElem? (sz i hi))
    have e1 : stripLo g true z = z.length := by
      rcases l3 with e | e
      · exact e
      · by_cases c : stripLo g true z < z.length
        · rw [all _ c] at e
          cases e
        · omega
    have e0 : (strSub z (stripLo g true z) (stripHi g true z (stripLo g true z))).length = 0 := by
      rw [size_strSub _ _ _ h2]
      omega
    revert e0
    generalize strSub z (stripLo g true z) (stripHi g true z (stripLo g true z)) = u
    intro e0
    obtain ⟨a⟩ := u
    have : a = #[] := Array.eq_empty_of_size_eq_zero e0
    rw [this]
    rfl
def is01 (c : Nat) : Bool := c == 48 || c == 49
theorem strip01 (z : Str) : decide (V.str (Txt.stripChars z "01") = V.str "") = z.cps.toList.all is01 := by
  have e : (V.str (Txt.stripChars z "01") = V.str "") ↔ z.cps.toList.all is01 = true := by
    rw [V.str.injEq, show (("" : String) : Str) = Str.empty from rfl, strip_nil, List.all_eq_true]
    have k : ∀ c : Nat, ((("01" : String) : Str)).cps.contains c = is01 c := fun c => by
      have : ((("01" : String) : Str)).cps = #[48, 49] := by decide +kernel
      rw [this]
      simp [is01, Array.contains]

    constructor
    · intro h c hc
      rw [← k]; exact h c hc
    · intro h c hc
      rw [k]; exact h c hc
  by_cases c : z.cps.toList.all is01 = true
  · rw [c, decide_eq_true (e.mpr c)]
  · rw [Bool.eq_false_iff.mpr c, decide_eq_false fun x => c (e.mp x)]
end My
namespace My
open PySem PySem.Spec PyProof.Rows L2
def vlIn : V → Int → Bool
  | .int i, b => decide (0 ≤ i) && decide (i < 2 ^ b.toNat)
  | _, _ => false
def isVl : V → V → Bool
  | x, .int b => (decide (1 ≤ b) && decide (b ≤ 10)) && vlIn x b
  | _, _ => false
def isRg : V → V → Bool
  | .str z, .int b => (decide (1 ≤ b) && decide (b ≤ 10)) && (decide ((z.length : Int) ≤ b) && z.cps.toList.all is01)
  | _, _ => false
theorem isBt_inv {y : V} (h : isBt y = true) : ∃ b : Int, y = .int b ∧ 1 ≤ b ∧ b ≤ 10 := by
  cases y with
  | int b =>
    have h : (decide (1 ≤ b) && decide (b ≤ 10)) = true := h
    simp only [Bool.and_eq_true, decide_eq_true_eq] at h
    exact ⟨b, rfl, h.1, h.2⟩
  | _ => cases h
theorem isVl_no {x y : V} (h : isBt y = false) : isVl x y = false := by
  cases y with
  | int b =>
    have h : (decide (1 ≤ b) && decide (b ≤ 10)) = false := h
    show ((decide (1 ≤ b) && decide (b ≤ 10)) && vlIn x b) = false
    rw [h]
    rfl
  | _ => rfl
theorem isRg_no {x y : V} (h : isBt y = false) : isRg x y = false := by
  cases x with
  | str z =>
    cases y with
    | int b =>
      have h : (decide (1 ≤ b) && decide (b ≤ 10)) = false := h
      show ((decide (1 ≤ b) && decide (b ≤ 10)) && _) = false
      rw [h]
      rfl
    | _ => rfl
  | _ => rfl
theorem bt_yes {b : Int} (h1 : 1 ≤ b) (h2 : b ≤ 10) : (decide (1 ≤ b) && decide (b ≤ 10)) = true := by simp [h1, h2]
section
variable {P : Program} {w : World} {K : PySem.W.Frag} {mg : Str → Option Value} {base : Heap}
def sp2 (g : V → V → Bool) : Sp := fun vs H Q _ => ∃ p x y, vs = [x, y] ∧ Th p H x ∧ Th p H y ∧ Q (.bl (g x y)) H
theorem p_is_value (T : Mo K mg) : Gx.Pr P w K mg base CX0 3 "is_value" s_is_value ["value", "bits"] (sp2 isVl) := by
  refine T.d_is_value.ok sc_is_value (fun vs H Q E h => ?_) (fun f cdv A outer s H vs Q E hr h => ?_)
  · obtain ⟨p, x, y, rfl, _⟩ := h
    rfl
  · obtain ⟨p, x, y, rfl, tx, ty, q⟩ := h
    refine ⟨_, (pss_one (ps_ret (pe_and (Gx.pe_pos (p_is_bits T) hr (by decide) (by rfl) b_is_bits pass0 (pa_cons (pv 1) pa_nil)) (pe_and (Gx.pe_pos (p_is_int T) hr (by decide) (by rfl) b_is_int pass0 (pa_cons (pv 0) pa_nil)) (pe_one (pe_chain op_le op_lt pe_int (pv 0) (pe_op op_shl pe_int (pv 1)))))))), ?_⟩
    refine ⟨y, rfl, p, y, rfl, ty, _, rfl, ?_⟩
    cases hy : isBt y with
    | false =>
      rw [isVl_no hy] at q
      exact iteF q
    | true =>
      obtain ⟨b, rfl, b1, b2⟩ := isBt_inv hy
      refine iteT ?_
      refine ⟨x, rfl, p, x, rfl, tx, _, rfl, ?_⟩
      have e : isVl x (.int b) = vlIn x b := by
        show ((decide (1 ≤ b) && decide (b ≤ 10)) && _) = _
        rw [bt_yes b1 b2, Bool.true_and]
      rw [e] at q
      cases tx with
      | int i =>
        refine ⟨_, rfl, _, _, rfl, rfl, _, rfl, ?_⟩
        show if decide (0 ≤ i) = true then _ else _
        have q : Q (.bl (decide (0 ≤ i) && decide (i < 2 ^ b.toNat))) H := q
        by_cases c : 0 ≤ i
        · rw [decide_eq_true c] at q ⊢
          refine iteT ⟨_, rfl, _, _, rfl, rfl, ⟨by omega, by omega, by decide⟩, _, _, rfl, rfl, ?_⟩
          rw [Int.one_mul]
          exact q
        · rw [decide_eq_false c] at q ⊢
          exact q
      | bl i => exact q
      | non => exact q
      | str => exact q
      | lst => exact q
      | tup => exact q
      | dic => exact q
theorem p_is_range (T : Mo K mg) : Gx.Pr P w K mg base CX0 3 "is_range" s_is_range ["value", "bits"] (sp2 isRg) := by
  refine T.d_is_range.ok sc_is_range (fun vs H Q E h => ?_) (fun f cdv A outer s H vs Q E hr h => ?_)
  · obtain ⟨p, x, y, rfl, _⟩ := h
    rfl
  · obtain ⟨p, x, y, rfl, tx, ty, q⟩ := h
    refine ⟨_, (pss_cons (ps_if (PW.pt (pw_or (pt_not (pt_val (Gx.pe_pos (p_is_bits T) hr (by decide) (by rfl) b_is_bits pass0 (pa_cons (pv 1) pa_nil)))) (pw_or (pt_not (pt_val (pe_callB call_isi (by rfl) T.b_isinstance (by decide +kernel) (pa_cons (pv 0) (pa_cons (pe_bltn (v := .ty "str") rfl T.b_str (by decide +kernel) rfl) pa_nil))))) (pw_or1 (pt_cmpR op_gt (pe_callB call_len_str (by rfl) T.b_len (by decide +kernel) (pa_cons (pv 0) pa_nil)) (pv 1) (nomark _)))))) (pss_one (ps_ret pe_bl)) pss_nil)
      (pss_one (ps_ret (pe_cmpR op_eq (pe_bm PySem.F.plainAttrs_str PySem.F.slot_str_strip PySem.F.type_str_strip mt_stripChars (pv 0) (pa_cons pe_str pa_nil)) pe_str (nomark _))))), ?_⟩
    refine ⟨y, rfl, p, y, rfl, ty, _, rfl, ?_⟩
    show if (!isBt y) = true then _ else _
    cases hy : isBt y with
    | false =>
      rw [isRg_no hy] at q
      exact iteT (iteT q)
    | true =>
      obtain ⟨b, rfl, b1, b2⟩ := isBt_inv hy
      refine iteF ?_
      obtain ⟨u1, t1, k1⟩ := isi_str (K := K) tx
      refine ⟨x, rfl, x, .ty "str", u1, _, _, rfl, .ty _, t1, k1, _, rfl, ?_⟩
      cases tx with
      | str z hz _ =>
        refine iteF ?_
        refine ⟨_, rfl, z, rfl, Nat.le_trans hz (by decide), _, rfl, _, _, rfl, rfl, _, rfl, ?_⟩
        have e : isRg (.str z) (.int b) = (decide ((z.length : Int) ≤ b) && z.cps.toList.all is01) := by
          show ((decide (1 ≤ b) && decide (b ≤ 10)) && _) = _
          rw [bt_yes b1 b2, Bool.true_and]
        rw [e] at q
        by_cases c : b < (z.length : Int)
        · rw [decide_eq_true c]
          rw [decide_eq_false (show ¬ (z.length : Int) ≤ b by omega), Bool.false_and] at q
          exact iteT q
        · rw [decide_eq_false c]
          rw [decide_eq_true (show (z.length : Int) ≤ b by omega), Bool.true_and] at q
          refine iteF ?_
          refine ⟨_, rfl, rfl, z, _, rfl, rfl, Nat.le_trans hz (by decide), rfl, ?_⟩
          rw [strip01]
          exact q
      | bl i => exact iteT q
      | non => exact iteT q
      | int => exact iteT q
      | lst => exact iteT q
      | tup => exact iteT q
      | dic => exact iteT q
end
end My
namespace My
open PySem PySem.Spec PyProof.Rows L2
section
variable {P : Program} {w : World} {K : PySem.W.Frag} {mg : Str → Option Value} {base : Heap}
theorem p__law_is_integer (T : Mo K mg) : Gx.Pr P w K mg base CX0 1 "_law_is_integer" s__law_is_integer ["_law_thing"] spIsI := by
  refine T.d__law_is_integer.ok sc__law_is_integer (fun vs H Q E h => ?_) (fun f cdv A outer s H vs Q E hr h => ?_)
  · obtain ⟨p, x, rfl, _⟩ := h
    rfl
  · obtain ⟨p, x, rfl, t, q⟩ := h
    refine ⟨_, (pss_one (ps_ret (pe_and (pe_callB call_isi (by rfl) T.b_isinstance (by decide +kernel) (pa_cons (pv 0) (pa_cons (pe_bltn (v := .ty "int") rfl T.b_int (by decide +kernel) rfl) pa_nil))) (pe_one (pe_not (pe_callB call_isi (by rfl) T.b_isinstance (by decide +kernel) (pa_cons (pv 0) (pa_cons (pe_bltn (v := .ty "bool") rfl T.b_bool (by decide +kernel) rfl) pa_nil)))))))), ?_⟩
    obtain ⟨u1, t1, k1⟩ := isi_int (K := K) t
    obtain ⟨u2, t2, k2⟩ := isi_bool (K := K) t
    refine ⟨x, rfl, x, .ty "int", u1, _, _, rfl, .ty _, t1, k1, _, rfl, ?_⟩
    cases t with
    | int i => exact ⟨_, rfl, _, .ty "bool", u2, _, _, rfl, .ty _, t2, k2, _, rfl, q⟩
    | bl i => exact ⟨_, rfl, _, .ty "bool", u2, _, _, rfl, .ty _, t2, k2, _, rfl, q⟩
    | non => exact q
    | str => exact q
    | lst => exact q
    | tup => exact q
    | dic => exact q
theorem p__law_is_bits (T : Mo K mg) : Gx.Pr P w K mg base CX0 2 "_law_is_bits" s__law_is_bits ["_law_thing"] spIsB := by
  refine T.d__law_is_bits.ok sc__law_is_bits (fun vs H Q E h => ?_) (fun f cdv A outer s H vs Q E hr h => ?_)
  · obtain ⟨p, x, rfl, _⟩ := h
    rfl
  · obtain ⟨p, x, rfl, t, q⟩ := h
    refine ⟨_, (pss_one (ps_ret (pe_and (Gx.pe_pos (p__law_is_integer T) hr (by decide) (by rfl) b__law_is_integer pass0 (pa_cons (pv 0) pa_nil)) (pe_one (pe_chain op_le op_le pe_int (pv 0) pe_int))))), ?_⟩
    refine ⟨x, rfl, p, x, rfl, t, _, rfl, ?_⟩
    cases t with
    | int i =>
      refine ⟨_, rfl, _, _, rfl, rfl, _, rfl, ?_⟩
      show if decide (1 ≤ i) = true then _ else _
      have q : Q (.bl (decide (1 ≤ i) && decide (i ≤ 10))) H := q
      by_cases c : 1 ≤ i
      · rw [decide_eq_true c] at q ⊢
        exact ⟨_, _, rfl, rfl, q⟩
      · rw [decide_eq_false c] at q ⊢
        exact q
    | bl i => exact q
    | non => exact q
    | str => exact q
    | lst => exact q
    | tup => exact q
    | dic => exact q
def spPow : Sp := fun vs H Q _ => ∃ n : Nat, vs = [.int n] ∧ n ≤ 100 ∧ Q (.int (2 ^ n)) H
theorem p__law_power (T : Mo K mg) : Gx.Pr P w K mg base CX0 1 "_law_power" s__law_power ["_law_many"] spPow := by
  refine T.d__law_power.ok sc__law_power (fun vs H Q E h => ?_) (fun f cdv A outer s H vs Q E hr h => ?_)
  · obtain ⟨n, rfl, _⟩ := h
    rfl
  · obtain ⟨n, rfl, hn, q⟩ := h
    refine ⟨_, (pss_cons (ps_set (i := 1) sc__law_power.nd rfl (Or.inl rfl) pe_int)
      (pss_cons (ps_for PassesOwn.never rfl (pi_range1 (by rfl) T.b_range (pa_cons (pv 0) pa_nil)) (pg_name (i := 2) sc__law_power.nd rfl (Or.inl rfl)) (pss_one (ps_set (i := 1) sc__law_power.nd rfl (Or.inl rfl) (pe_op op_mul pe_int (pv 1)))))
      (pss_one (ps_ret (pv 1))))), ?_⟩
    refine ⟨_, rfl, (n : Int), rfl, by omega, by omega, ?_⟩
    rw [Int.toNat_natCast]
    refine for_range (lo := 0) (n := n) (fun i σ H' => H' = H ∧ ∃ t, σ = [some (.int n), some (.int (2 ^ i)), t]) ⟨rfl, _, rfl⟩ (fun i σ H' hi h => ?_) fun σ H' h => ?_
    · obtain ⟨rfl, t, rfl⟩ := h
      refine ⟨_, rfl, _, _, rfl, rfl, .inl ⟨by decide, by decide⟩, rfl, some (.int (0 + (i : Int))), ?_⟩
      show [some (V.int n), some (V.int (2 * 2 ^ i)), some (V.int (0 + (i : Int)))] = _
      rw [show (2 : Int) * 2 ^ i = 2 ^ (i + 1) by rw [Int.pow_succ, Int.mul_comm]]
    · obtain ⟨rfl, t, rfl⟩ := h
      exact ⟨_, rfl, q⟩
theorem p__law_is_value (T : Mo K mg) : Gx.Pr P w K mg base CX0 3 "_law_is_value" s__law_is_value ["_law_thing", "_law_many"] (sp2 isVl) := by
  refine T.d__law_is_value.ok sc__law_is_value (fun vs H Q E h => ?_) (fun f cdv A outer s H vs Q E hr h => ?_)
  · obtain ⟨p, x, y, rfl, _⟩ := h
    rfl
  · obtain ⟨p, x, y, rfl, tx, ty, q⟩ := h
    refine ⟨_, (pss_one (ps_ret (pe_and (Gx.pe_pos (p__law_is_bits T) hr (by decide) (by rfl) b__law_is_bits pass0 (pa_cons (pv 1) pa_nil)) (pe_and (Gx.pe_pos (p__law_is_integer T) hr (by decide) (by rfl) b__law_is_integer pass0 (pa_cons (pv 0) pa_nil)) (pe_one (pe_chain op_le op_lt pe_int (pv 0) (Gx.pe_pos (p__law_power T) hr (by decide) (by rfl) b__law_power pass0 (pa_cons (pv 1) pa_nil)))))))), ?_⟩
    refine ⟨y, rfl, p, y, rfl, ty, _, rfl, ?_⟩
    cases hy : isBt y with
    | false =>
      rw [isVl_no hy] at q
      exact iteF q
    | true =>
      obtain ⟨b, rfl, b1, b2⟩ := isBt_inv hy
      refine iteT ?_
      refine ⟨x, rfl, p, x, rfl, tx, _, rfl, ?_⟩
      have e : isVl x (.int b) = vlIn x b := by
        show ((decide (1 ≤ b) && decide (b ≤ 10)) && _) = _
        rw [bt_yes b1 b2, Bool.true_and]
      rw [e] at q
      obtain ⟨n, rfl⟩ : ∃ n : Nat, b = (n : Int) := ⟨b.toNat, by omega⟩
      cases tx with
      | int i =>
        refine ⟨_, rfl, _, _, rfl, rfl, _, rfl, ?_⟩
        show if decide (0 ≤ i) = true then _ else _
        have q : Q (.bl (decide (0 ≤ i) && decide (i < 2 ^ n))) H := q
        by_cases c : 0 ≤ i
        · rw [decide_eq_true c] at q ⊢
          exact iteT ⟨_, rfl, n, rfl, by omega, _, _, rfl, rfl, q⟩
        · rw [decide_eq_false c] at q ⊢
          exact q
      | bl i => exact q
      | non => exact q
      | str => exact q
      | lst => exact q
      | tup => exact q
      | dic => exact q
end
end My
namespace My
open PySem PySem.Spec PyProof.Rows L2
section
variable {P : Program} {w : World} {K : PySem.W.Frag} {mg : Str → Option Value} {base : Heap}
def sign (c : Nat) : Str := ⟨#[c]⟩
theorem sign_0 (c : Nat) : (V.str ⟨#[c]⟩ = V.str "0") ↔ c = 48 := by
  rw [V.str.injEq, show (("0" : String) : Str) = ⟨#[48]⟩ by decide +kernel]
  constructor
  · intro h; injection h with h; simpa using h
  · rintro rfl; rfl
theorem sign_1 (c : Nat) : (V.str ⟨#[c]⟩ = V.str "1") ↔ c = 49 := by
  rw [V.str.injEq, show (("1" : String) : Str) = ⟨#[49]⟩ by decide +kernel]
  constructor
  · intro h; injection h with h; simpa using h
  · rintro rfl; rfl
/-- the signs that are none of 0 and 1 -/
def odd (l : List Nat) : List Str := (l.filter fun c => !is01 c).map sign
theorem odd_take {l : List Nat} {i c : Nat} (h : l[i]? = some c) : odd (l.take (i + 1)) = if is01 c then odd (l.take i) else odd (l.take i) ++ [sign c] := by
  unfold odd
  rw [List.take_add_one, h, List.filter_append, List.map_append]
  cases e : is01 c <;> simp [e]
theorem odd_nil (l : List Nat) : (odd l).isEmpty = l.all is01 := by
  unfold odd
  induction l with
  | nil => rfl
  | cons c r ih =>
    cases e : is01 c
    · simp [e]
    · simpa [e] using ih
theorem odd_len (l : List Nat) : (odd l).length ≤ l.length := by
  unfold odd
  rw [List.length_map]
  exact List.length_filter_le _ _
theorem dpStrs {K : PySem.W.Frag} {H : Hp} : ∀ l : List Str, DpAll K H (l.map V.str) (l.map PyData.str)
  | [] => .nil
  | x :: l => .cons (.str x) (dpStrs l)
theorem strs_ok : ∀ l : List Str, (∀ x ∈ l, PyData.strOk x = true) → PyData.canLayAll0 (l.map PyData.str) = true
  | [], _ => by simp [PyData.canLayAll0]
  | x :: l, h => by
    simp only [List.map_cons, PyData.canLayAll0, PyData.canLay0, Bool.and_eq_true]
    exact ⟨h x List.mem_cons_self, strs_ok l fun y hy => h y (List.mem_cons_of_mem _ hy)⟩
theorem strs_depth : ∀ l : List Str, PyData.depthAll (l.map PyData.str) = 0
  | [] => by simp [PyData.depthAll]
  | x :: l => by simp [PyData.depthAll, PyData.depth, strs_depth l]
theorem strs_shaped (l : List Str) (h : ∀ x ∈ l, PyData.strOk x = true) : SeqAt.shaped (.list (l.map PyData.str)) = true := by
  unfold SeqAt.shaped
  simp only [PyData.canLay0, PyData.depth, strs_ok l h, strs_depth, Bool.true_and]
  decide
theorem eqv_nil (l : List Str) : PyData.eqv (.list (l.map PyData.str)) (.list []) = l.isEmpty := by
  cases l <;> simp [PyData.eqv, PyData.eqvAll]
def sp2K (g : V → V → Bool) : Sp := fun vs H Q _ => ∃ p x y, vs = [x, y] ∧ Th p H x ∧ Th p H y ∧ ∀ H', Same H H' → Q (.bl (g x y)) H'
theorem p__law_is_range (T : Mo K mg) : Gx.Pr P w K mg base CX0 3 "_law_is_range" s__law_is_range ["_law_thing", "_law_many"] (sp2K isRg) := by
  refine T.d__law_is_range.ok sc__law_is_range (fun vs H Q E h => ?_) (fun f cdv A outer s H vs Q E hr h => ?_)
  · obtain ⟨p, x, y, rfl, _⟩ := h
    rfl
  · obtain ⟨p, x, y, rfl, tx, ty, q⟩ := h
    have hu64 := hr.units
    refine ⟨_, (pss_cons (ps_if (PW.pt (pw_or (pt_not (pt_val (Gx.pe_pos (p__law_is_bits T) hr (by decide) (by rfl) b__law_is_bits pass0 (pa_cons (pv 1) pa_nil)))) (pw_or (pt_not (pt_val (pe_callB call_isi (by rfl) T.b_isinstance (by decide +kernel) (pa_cons (pv 0) (pa_cons (pe_bltn (v := .ty "str") rfl T.b_str (by decide +kernel) rfl) pa_nil))))) (pw_or1 (pt_cmpR op_gt (pe_callB call_len_str (by rfl) T.b_len (by decide +kernel) (pa_cons (pv 0) pa_nil)) (pv 1) (nomark _)))))) (pss_one (ps_ret pe_bl)) pss_nil)
      (pss_one (ps_ret (pe_cmpR (op_eqD hu64) (pe_lc (own := [("_law_sign", 2)]) (g := gName 2) rfl sc__law_is_range.nd (pi_str (pv 0)) (blkOk_by (N := N__law_is_range) (sc := defScope s__law_is_range) (by decide +kernel)) (fun _ _ _ _ _ => (pg_name (i := 2) sc__law_is_range.nd rfl (Or.inl rfl))) (fun _ _ _ _ _ => (pts_one (PW.pt (pw_and (pt_cmpR op_ne (pv 2) pe_str (nomark _)) (pw_and1 (pt_cmpR op_ne (pv 2) pe_str (nomark _))))))) (fun _ _ _ _ _ => (pv 2))) (pe_lst pa_nil) (nomark _))))), ?_⟩
    refine ⟨y, rfl, p, y, rfl, ty, _, rfl, ?_⟩
    show if (!isBt y) = true then _ else _
    cases hy : isBt y with
    | false =>
      rw [isRg_no hy] at q
      exact iteT (iteT (q H (Same.refl H)))
    | true =>
      obtain ⟨b, rfl, b1, b2⟩ := isBt_inv hy
      refine iteF ?_
      obtain ⟨u1, t1, k1⟩ := isi_str (K := K) tx
      refine ⟨x, rfl, x, .ty "str", u1, _, _, rfl, .ty _, t1, k1, _, rfl, ?_⟩
      cases tx with
      | str z hz ha =>
        refine iteF ?_
        refine ⟨_, rfl, z, rfl, Nat.le_trans hz (by decide), _, rfl, _, _, rfl, rfl, _, rfl, ?_⟩
        have e : isRg (.str z) (.int b) = (decide ((z.length : Int) ≤ b) && z.cps.toList.all is01) := by
          show ((decide (1 ≤ b) && decide (b ≤ 10)) && _) = _
          rw [bt_yes b1 b2, Bool.true_and]
        rw [e] at q
        by_cases c : b < (z.length : Int)
        · rw [decide_eq_true c]
          rw [decide_eq_false (show ¬ (z.length : Int) ≤ b by omega), Bool.false_and] at q
          exact iteT (q H (Same.refl H))
        · rw [decide_eq_false c]
          rw [decide_eq_true (show (z.length : Int) ≤ b by omega), Bool.true_and] at q
          refine iteF ?_
          refine ⟨_, rfl, z, rfl, fun D hD => ?_⟩
          refine lc_it walk_str (fun i H' => H' D = some (.lst ((odd (z.cps.toList.take i)).map V.str)) ∧ ∀ b o, H b = some o → H' b = some o) ⟨upd_same, fun b o e => by rw [upd_ne (ne_of_none e hD)]; exact e⟩ (fun _ _ _ _ => trivial) (fun i x H1 H2 hi h Y => ?_) fun H1 h => ?_
          · obtain ⟨hl, hk⟩ := h
            obtain ⟨rfl, c, hc, rfl⟩ := Y
            have hc' : z.cps.toList[i]? = some c := by simpa using hc
            refine ⟨rfl, _, rfl, rfl, _, rfl, ?_⟩
            by_cases c0 : c = 48
            · rw [decide_eq_true ((sign_0 c).mpr c0)]
              show _ ∧ _
              rw [odd_take hc', show is01 c = true by simp [is01, c0]]
              exact ⟨hl, hk⟩
            · rw [decide_eq_false (fun z => c0 ((sign_0 c).mp z))]
              refine iteT ⟨_, rfl, rfl, _, rfl, ?_⟩
              by_cases c1 : c = 49
              · rw [decide_eq_true ((sign_1 c).mpr c1)]
                show _ ∧ _
                rw [odd_take hc', show is01 c = true by simp [is01, c1]]
                exact ⟨hl, hk⟩
              · rw [decide_eq_false (fun z => c1 ((sign_1 c).mp z))]
                refine iteT ⟨_, rfl, _, hl, ?_, ?_, fun b o e => ?_⟩
                · rw [List.length_map]
                  have := odd_len (z.cps.toList.take i)
                  have h2 : (z.cps.toList.take i).length ≤ z.length := by
                    rw [List.length_take]
                    exact Nat.le_trans (Nat.min_le_right _ _) (by simp [Str.length])
                  exact Nat.lt_of_le_of_lt (show _ ≤ 100 by omega) (by decide)
                · rw [upd_same, odd_take hc', show is01 c = false by simp [is01, c0, c1]]
                  simp [sign]
                · rw [upd_ne (ne_of_none e hD)]
                  exact hk b o e
          · obtain ⟨hl, hk⟩ := h
            have hall : z.cps.toList.take z.cps.size = z.cps.toList := List.take_of_length_le (by simp)
            rw [hall] at hl
            refine ⟨by decide, fun p' hp' => ?_⟩
            refine ⟨.list ((odd z.cps.toList).map PyData.str), .list [], .lst (SqL.of (by rw [upd_ne (ne_of_none hl hp')]; exact hl)) (dpStrs _), .lst (SqL.of upd_same) .nil, strs_shaped _ (fun x hx => ?_), by decide, ?_⟩
            · unfold odd at hx
              obtain ⟨c, hc, rfl⟩ := List.mem_map.mp hx
              have := ha c (List.mem_filter.mp hc).1
              simp [PyData.strOk, sign]
              omega
            · rw [eqv_nil, odd_nil]
              exact q _ fun b o e => by rw [upd_ne (ne_of_none (hk b o e) hp')]; exact hk b o e
      | bl i => exact iteT (q H (Same.refl H))
      | non => exact iteT (q H (Same.refl H))
      | int => exact iteT (q H (Same.refl H))
      | lst => exact iteT (q H (Same.refl H))
      | tup => exact iteT (q H (Same.refl H))
      | dic => exact iteT (q H (Same.refl H))
end
end My
namespace My
open PySem PySem.Spec PyProof.Rows L2
section
variable {P : Program} {w : World} {K : PySem.W.Frag} {mg : Str → Option Value} {base : Heap}
/-- the generator of draws stands at p -/
def Rng (p : Addr) (H : Hp) : Prop := ∃ a b : Int, H p = some (.lst [.int a, .int b]) ∧ 0 ≤ a ∧ 0 ≤ b ∧ b < 2147483587
theorem same_kp {p : Addr} {H H' : Hp} (s : Same H H') : Kp p H H' := fun b o _ e => s b o e
def spRng (K : PySem.W.Frag) : Sp := fun vs H Q _ => ∃ (a : Addr) (ns : List Int) (k : Nat), vs = [.ref a, .int k] ∧ SqL K H a (ns.map V.int) ∧ k ≤ 100 ∧ ∀ p H', H p = none → Rng p H' → Same H H' → Q (.ref p) H'
theorem p__law_rng (T : Mo K mg) : Gx.Pr P w K mg base CX0 1 "_law_rng" s__law_rng ["_law_script", "_law_k"] (spRng K) := by
  refine T.d__law_rng.ok sc__law_rng (fun vs H Q E h => ?_) (fun f cdv A outer s H vs Q E hr h => ?_)
  · obtain ⟨a, ns, k, rfl, _⟩ := h
    rfl
  · obtain ⟨a, ns, k, rfl, hS, hk, q⟩ := h
    refine ⟨_, (pss_cons (ps_set (i := 2) sc__law_rng.nd rfl (Or.inl rfl) (pe_op op_add (pe_op op_mul pe_int (pv 1)) pe_int))
      (Evl.pss_cut (ps_if (pt_cmpR op_lt (pv 1) (pe_callB call_len_seq (by rfl) T.b_len (by decide +kernel) (pa_cons (pv 0) pa_nil)) (nomark _)) (pss_one (ps_set (i := 2) sc__law_rng.nd rfl (Or.inl rfl) (pe_ix ix_list (pv 0) (pv 1) (fun _ _ => rfl)))) pss_nil)
      (pss_one (ps_ret (pe_lst (pa_cons (pe_callB (call_max2 rfl) (by rfl) T.b_max (by decide +kernel) (pa_cons pe_int (pa_cons (pe_op op_sub (pe_callB call_abs (by rfl) T.b_abs (by decide +kernel) (pa_cons (pv 2) pa_nil)) (pe_op op_pow pe_int pe_int)) pa_nil))) (pa_cons (pe_op op_add (pe_op op_mod (pe_callTy call_int1 (by rfl) T.b_int (by decide +kernel) (pa_cons (pe_op op_mul (pe_op op_add (pe_op op_mod (pe_callTy call_int1 (by rfl) T.b_int (by decide +kernel) (pa_cons (pe_callB call_abs (by rfl) T.b_abs (by decide +kernel) (pa_cons (pv 2) pa_nil)) pa_nil)) pe_int) pe_int) (pe_op op_pow (pe_op op_add (pv 1) pe_int) pe_int)) pa_nil)) pe_int) pe_int) pa_nil))))))), ?_⟩
    refine ⟨_, rfl, _, _, rfl, rfl, .inl ⟨by decide, by decide⟩, _, _, rfl, rfl, ?_⟩
    refine ⟨fun σ H' => H' = H ∧ ∃ c : Int, σ = [some (.ref a), some (.int k), some (.int c)], ?_, fun σ H' h => ?_⟩
    · refine ⟨_, rfl, _, rfl, a, _, rfl, .inl hS, _, _, rfl, rfl, _, rfl, ?_⟩
      rw [List.length_map]
      by_cases c : (k : Int) < (ns.length : Int)
      · rw [decide_eq_true c]
        have hk' : k < ns.length := by omega
        refine iteT ⟨_, rfl, _, rfl, a, _, _, .int ns[k], rfl, rfl, hS, atI_nat (by rw [List.getElem?_map, List.getElem?_eq_getElem hk']; rfl), rfl, _, rfl⟩
      · rw [decide_eq_false c]
        exact iteF ⟨rfl, _, rfl⟩
    · obtain ⟨rfl, c, rfl⟩ := h
      refine ⟨_, rfl, _, rfl, _, _, rfl, rfl, ⟨by decide, by decide, by decide⟩, _, _, rfl, rfl, _, _, rfl, ?_⟩
      refine ⟨_, rfl, _, rfl, .inl ⟨_, rfl, _, _, rfl, rfl, (by show (0 : Int) < 2147483579; decide), _, _, rfl, rfl, ?_⟩⟩
      have m1 : ∀ x : Int, 0 ≤ x % 2147483579 ∧ x % 2147483579 < 2147483579 := fun x => ⟨Int.emod_nonneg _ (by decide), Int.emod_lt_of_pos _ (by decide)⟩
      have m2 : ∀ x : Int, 0 ≤ x % 2147483563 ∧ x % 2147483563 < 2147483563 := fun x => ⟨Int.emod_nonneg _ (by decide), Int.emod_lt_of_pos _ (by decide)⟩
      refine ⟨_, rfl, _, _, rfl, rfl, _, _, rfl, rfl, ⟨by decide, by decide, by omega⟩, _, _, rfl, rfl, .inl ⟨?_, ?_⟩, .inl ⟨_, rfl, _, _, rfl, rfl, (by show (0 : Int) < 2147483563; decide), _, _, rfl, rfl, (by show 2 ≤ sizeLine; decide), fun p hp => ?_⟩⟩
      · have := m1 (if c < 0 then -c else c); omega
      · have := m1 (if c < 0 then -c else c); omega
      · refine q p _ hp ⟨_, _, upd_same, ?_, ?_, ?_⟩ fun b o e => by rw [upd_ne (ne_of_none e hp)]; exact e
        · split <;> omega
        · have := m2 (((if c < 0 then -c else c) % 2147483579 + 1) * ((k : Int) + 3) ^ (3 : Int).toNat); omega
        · have := m2 (((if c < 0 then -c else c) % 2147483579 + 1) * ((k : Int) + 3) ^ (3 : Int).toNat); omega
def spDraw : Sp := fun vs H Q _ => ∃ (p : Addr) (m : Int), vs = [.ref p, .int m] ∧ Rng p H ∧ 0 < m ∧ m < 10 ^ 40 ∧ ∀ (r : Int) H', 0 ≤ r → r < m → Rng p H' → Kp p H H' → Q (.int r) H'
theorem noPy {a m : Int} (h : 0 < m) (h2 : m < 10 ^ 40) : CDivP a m := by
  refine ⟨h, PyProof.noPylong_of_log2 ?_⟩
  have e : m.natAbs < 2 ^ 200 := by
    have : (10 : Int) ^ 40 < 2 ^ 200 := by decide
    omega
  have := PySem.Flt.log2_lt_of (k := 200) (by decide) e
  omega
theorem p__law_draw (T : Mo K mg) : Gx.Pr P w K mg base CX0 1 "_law_draw" s__law_draw ["_law_rng_here", "_law_many"] spDraw := by
  refine T.d__law_draw.ok sc__law_draw (fun vs H Q E h => ?_) (fun f cdv A outer s H vs Q E hr h => ?_)
  · obtain ⟨p, m, rfl, _⟩ := h
    rfl
  · obtain ⟨p, m, rfl, ⟨a, b, hp, ha, hb, hb2⟩, m0, m1, q⟩ := h
    refine ⟨_, (pss_cons (ps_if (pt_cmpR op_gt (pe_ix ix_list (pv 0) pe_int (fun _ _ => rfl)) pe_int (nomark _)) (pss_cons (ps_asg (pe_callB call_divmodW (by rfl) T.b_divmod (by decide +kernel) (pa_cons (pe_ix ix_list (pv 0) pe_int (fun _ _ => rfl)) (pa_cons (pv 1) pa_nil))) (pg_tup rfl (pgs_cons (pg_sub (pv 0) pe_int set_list) (pgs_cons (pg_name (i := 2) sc__law_draw.nd rfl (Or.inl rfl)) pgs_nil))))
      (pss_one (ps_ret (pv 2)))) pss_nil)
      (pss_cons (ps_asg (pe_op op_mod (pe_callTy call_int1 (by rfl) T.b_int (by decide +kernel) (pa_cons (pe_op op_add (pe_op op_mul (pe_ix ix_list (pv 0) pe_int (fun _ _ => rfl)) pe_int) pe_int) pa_nil)) pe_int) (pg_sub (pv 0) pe_int set_list))
      (pss_cons (ps_set (i := 3) sc__law_draw.nd rfl (Or.inl rfl) (pe_op op_fdiv (pe_op op_mod (pe_callTy call_int1 (by rfl) T.b_int (by decide +kernel) (pa_cons (pe_op op_mul (pe_ix ix_list (pv 0) pe_int (fun _ _ => rfl)) (pe_ix ix_list (pv 0) pe_int (fun _ _ => rfl))) pa_nil)) pe_int) pe_int))
      (pss_cons (ps_if (pt_cmpR op_lt (pv 1) (pe_op op_pow pe_int pe_int) (nomark _)) (pss_one (ps_ret (pe_op op_mod (pe_callTy call_int1 (by rfl) T.b_int (by decide +kernel) (pa_cons (pv 3) pa_nil)) (pv 1)))) pss_nil)
      (pss_one (ps_ret (pe_op op_mod (pe_callTy call_int1 (by rfl) T.b_int (by decide +kernel) (pa_cons (pe_op op_add (pe_op op_mul (pe_op op_add (pe_op op_mul (pv 3) pe_int) (pe_ix ix_list (pv 0) pe_int (fun _ _ => rfl))) pe_int) (pv 3)) pa_nil)) (pv 1)))))))), ?_⟩
    refine ⟨_, rfl, p, _, 0, _, rfl, rfl, SqL.of hp, rfl, _, _, rfl, rfl, _, rfl, ?_⟩
    by_cases c : 0 < a
    · rw [decide_eq_true c]
      refine iteT ⟨_, rfl, p, _, 0, _, rfl, rfl, SqL.of hp, rfl, _, rfl, _, _, rfl, noPy m0 m1, fun t ht => ?_⟩
      have npt : p ≠ t := ne_of_none hp ht
      refine ⟨t, _, rfl, SqT.of upd_same, rfl, _, _, rfl, ⟨_, rfl, p, _, 0, 0, rfl, rfl, (by rw [upd_ne npt]; exact hp), rfl, _, _, rfl, rfl, _, rfl, ?_⟩⟩
      refine q _ _ (Int.emod_nonneg _ (by omega)) (Int.emod_lt_of_pos _ m0) ⟨_, b, upd_same, Int.ediv_nonneg ha (by omega), hb, hb2⟩ fun x o n e => ?_
      rw [upd_ne n, upd_ne (ne_of_none e ht)]
      exact e
    · rw [decide_eq_false c]
      refine iteF ?_
      refine ⟨_, rfl, p, _, 0 + 1, _, rfl, rfl, SqL.of hp, rfl, _, _, rfl, rfl, .inl ⟨by omega, by omega⟩, _, _, rfl, rfl, .inl ⟨_, rfl, _, _, rfl, rfl, (by show (0 : Int) < 2147483587; decide), _, rfl, p, _, 1, 1, rfl, rfl, hp, rfl, ?_⟩⟩
      have n0 := Int.emod_nonneg (b * 48283 + 10007) (show (2147483587 : Int) ≠ 0 by decide)
      have n1 := Int.emod_lt_of_pos (b * 48283 + 10007) (show (0 : Int) < 2147483587 by decide)
      have g0 : 0 ≤ (b * 48283 + 10007) % 2147483587 * ((b * 48283 + 10007) % 2147483587) % 2147483549 / 13 := Int.ediv_nonneg (Int.emod_nonneg _ (by decide)) (by decide)
      have g1 : (b * 48283 + 10007) % 2147483587 * ((b * 48283 + 10007) % 2147483587) % 2147483549 / 13 < 2147483549 := by
        have := Int.emod_lt_of_pos ((b * 48283 + 10007) % 2147483587 * ((b * 48283 + 10007) % 2147483587)) (show (0 : Int) < 2147483549 by decide)
        omega
      refine ⟨_, rfl, p, _, 0 + 1, _, rfl, rfl, SqL.of upd_same, rfl, _, rfl, p, _, 0 + 1, _, rfl, rfl, SqL.of upd_same, rfl, _, _, rfl, rfl, .inl ⟨by omega, by omega⟩, .inl ⟨_, rfl, _, _, rfl, rfl, (by show (0 : Int) < 2147483549; decide), _, _, rfl, rfl, ⟨by decide, by decide⟩, ?_⟩⟩
      refine ⟨_, rfl, _, _, rfl, rfl, ⟨by decide, by decide, by decide⟩, _, _, rfl, rfl, _, rfl, ?_⟩
      have fin : ∀ x : Int, Q (.int (x % m)) (upd H p (.lst [.int a, .int ((b * 48283 + 10007) % 2147483587)])) := fun x =>
        q _ _ (Int.emod_nonneg _ (by omega)) (Int.emod_lt_of_pos _ m0) ⟨a, _, upd_same, ha, n0, n1⟩ fun x o z e => by rw [upd_ne z]; exact e
      by_cases c2 : m < 2 ^ (20 : Int).toNat
      · rw [decide_eq_true c2]
        exact iteT ⟨_, rfl, .inl ⟨_, rfl, _, rfl, _, _, rfl, rfl, m0, fin _⟩⟩
      · rw [decide_eq_false c2]
        exact iteF ⟨_, rfl, _, _, rfl, rfl, .inl ⟨by omega, by omega⟩, _, rfl, p, _, 0 + 1, _, rfl, rfl, SqL.of upd_same, rfl, _, _, rfl, rfl, _, _, rfl, rfl, .inl ⟨by omega, by omega⟩, _, rfl, _, _, rfl, rfl, .inl ⟨_, rfl, _, rfl, _, _, rfl, rfl, m0, fin _⟩⟩
end
end My
namespace My
open PySem PySem.Spec PyProof.Rows L2
theorem Same.upd {q : Addr} {H : Hp} {o : HO} (h : H q = none) : Same H (L2.upd H q o) := fun b x e => by rw [upd_ne (ne_of_none e h)]; exact e
theorem Rng.same {p : Addr} {H H' : Hp} (r : Rng p H) (s : Same H H') : Rng p H' := let ⟨a, b, h, z⟩ := r; ⟨a, b, s _ _ h, z⟩
theorem Rng.ne {p q : Addr} {H : Hp} (r : Rng p H) (h : H q = none) : q ≠ p := fun e => by
  obtain ⟨a, b, z, _⟩ := r
  rw [← e, h] at z
  cases z
section
variable {P : Program} {w : World} {K : PySem.W.Frag} {mg : Str → Option Value} {base : Heap}
def spChoice : Sp := fun vs H Q _ => ∃ (p o : Addr) (xs : List V), vs = [.ref p, .ref o] ∧ Rng p H ∧ o ≠ p ∧ H o = some (.lst xs) ∧ 0 < xs.length ∧ xs.length ≤ 1000 ∧ ∀ x H', x ∈ xs → Rng p H' → Kp p H H' → Q x H'
theorem p__law_choice (T : Mo K mg) : Gx.Pr P w K mg base CX0 2 "_law_choice" s__law_choice ["_law_rng_here", "_law_options"] spChoice := by
  refine T.d__law_choice.ok sc__law_choice (fun vs H Q E h => ?_) (fun f cdv A outer s H vs Q E hr h => ?_)
  · obtain ⟨p, o, xs, rfl, _⟩ := h
    rfl
  · obtain ⟨p, o, xs, rfl, hR, nop, ho, l0, l1, q⟩ := h
    refine ⟨_, (pss_one (ps_ret (pe_ix ix_list (pv 1) (Gx.pe_pos (p__law_draw T) hr (by decide) (by rfl) b__law_draw pass0 (pa_cons (pv 0) (pa_cons (pe_callB call_len_seq (by rfl) T.b_len (by decide +kernel) (pa_cons (pv 1) pa_nil)) pa_nil))) (fun _ _ => rfl)))), ?_⟩
    refine ⟨_, rfl, _, rfl, _, rfl, o, _, rfl, .inl (SqL.of ho), p, _, rfl, hR, by omega, by omega, fun r H' r0 r1 hR' k => ?_⟩
    obtain ⟨n, rfl⟩ : ∃ n : Nat, r = (n : Int) := ⟨r.toNat, by omega⟩
    have hn : n < xs.length := by omega
    exact ⟨o, xs, _, xs[n], rfl, rfl, SqL.of (k _ _ nop ho), atI_nat (List.getElem?_eq_getElem hn), q _ _ (List.getElem_mem hn) hR' k⟩
/-- a flat value and its data -/
inductive Fl : V → PyData → Prop
  | non : Fl .non .none
  | bl (b : Bool) : Fl (.bl b) (.bool b)
  | int (i : Int) (h : i.natAbs < 10 ^ 100) : Fl (.int i) (.int i)
  | str (z : Str) (h : z.length ≤ 100) (a : ∀ c ∈ z.cps.toList, c < 128) : Fl (.str z) (.str z)
/-- a thing and its data: flat, or a list or a tuple of a few flat ones, or an empty dict; not the one at p -/
inductive Td (p : Addr) (H : Hp) : V → PyData → Prop
  | fl {x : V} {d : PyData} (f : Fl x d) : Td p H x d
  | lst {a : Addr} {xs : List V} {ds : List PyData} (n : a ≠ p) (h : H a = some (.lst xs)) (f : Paired Fl xs ds) (l : xs.length ≤ 10) : Td p H (.ref a) (.list ds)
  | tup {a : Addr} {xs : List V} {ds : List PyData} (n : a ≠ p) (h : H a = some (.tup xs)) (f : Paired Fl xs ds) (l : xs.length ≤ 10) : Td p H (.ref a) (.tuple ds)
  | nil {a : Addr} (n : a ≠ p) (h : H a = some (.dK [])) : Td p H (.ref a) (.dict [])
theorem Td.kp {p : Addr} {H H' : Hp} {x : V} {d : PyData} (t : Td p H x d) (k : Kp p H H') : Td p H' x d := by
  cases t with
  | fl f => exact .fl f
  | lst n h f l => exact .lst n (k _ _ n h) f l
  | tup n h f l => exact .tup n (k _ _ n h) f l
  | nil n h => exact .nil n (k _ _ n h)
theorem Td.th {p : Addr} {H : Hp} {x : V} {d : PyData} (t : Td p H x d) : Th p H x := by
  cases t with
  | fl f =>
    cases f with
    | non => exact .non
    | bl b => exact .bl b
    | int i _ => exact .int i
    | str z h a => exact .str z h a
  | lst n h _ _ => exact .lst n h
  | tup n h _ _ => exact .tup n h
  | nil n h => exact .dic n h
theorem Fl.dq {K : PySem.W.Frag} {H : Hp} {x : V} {d : PyData} (f : Fl x d) : Gx.Dq K H x d := by
  cases f with
  | non => exact .non
  | bl b => exact .bl b
  | int i _ => exact .int i
  | str z _ _ => exact .str z
theorem fls_dq {K : PySem.W.Frag} {H : Hp} : ∀ {xs : List V} {ds : List PyData}, Paired Fl xs ds → Gx.DqAll K H xs ds
  | _, _, .nil => .nil
  | _, _, .cons f r => .cons f.dq (fls_dq r)
theorem Td.dq {K : PySem.W.Frag} {p : Addr} {H : Hp} {x : V} {d : PyData} (t : Td p H x d) : Gx.Dq K H x d := by
  cases t with
  | fl f => exact f.dq
  | lst _ h f _ => exact .lst (SqL.of h) (fls_dq f)
  | tup _ h f _ => exact .tup (SqT.of h) (fls_dq f)
  | nil _ h => exact .nil h
/-! ### what repr can show -/
/-- data that repr shows, of at most this weight -/
structure Gd (n : Nat) (d : PyData) : Prop where
  sh : d.showable = true
  nd : d.hasDict = true → d = .dict []
  dp : d.depth ≤ 20
  ls : d.leavesShort 200 = true
  wt : d.weight ≤ n
structure Gds (n : Nat) (m : Nat) (ds : List PyData) : Prop where
  sh : PyData.showableAll ds = true
  nd : PyData.hasDictAll ds = false
  dp : PyData.depthAll ds ≤ 19
  ls : PyData.leavesShortAll 200 ds = true
  wt : PyData.weightAll ds ≤ n
  ln : ds.length = m
theorem Gd.ok {n : Nat} {d : PyData} (g : Gd n d) (h : n ≤ 50000) : d.showable = true ∧ (d.hasDict = true → d = .dict []) ∧ d.depth ≤ 30 ∧ d.shown.length ≤ sizeLine := by
  refine ⟨g.sh, g.nd, Nat.le_trans g.dp (by decide), ?_⟩
  have h1 := PyData.shown_le 200 (by decide) d g.ls
  have h2 := g.wt
  exact Nat.le_trans h1 (Nat.le_trans (show _ ≤ 202 * 50000 + 200 by have : (200 + 2) * d.weight ≤ 202 * 50000 := Nat.mul_le_mul_left _ (Nat.le_trans h2 h); omega) (by decide))
theorem small_log {i : Int} (h : i.natAbs < 10 ^ 100) : i.natAbs.log2 < 1920 := by
  have e : i.natAbs < 2 ^ 400 := Nat.lt_of_lt_of_le h (by decide +kernel)
  have := PySem.Flt.log2_lt_of (k := 400) (by decide) e
  omega
theorem small_text {i : Int} (h : i.natAbs < 10 ^ 100) : (PyData.shown (.int i)).length ≤ 200 := by
  have e := int_text_length_le10 (k := 100) (by decide) h
  show (Str.ofString (toString i)).length ≤ 200
  rw [PySem.ofString_length]
  omega
theorem wt_int {i : Int} (h : i.natAbs < 10 ^ 100) : PyData.weight (.int i) ≤ 400 := by
  have e : i.natAbs < 2 ^ 399 := Nat.lt_of_lt_of_le h (by decide +kernel)
  have := PySem.Flt.log2_lt_of (k := 399) (by decide) e
  simp only [PyData.weight]
  split <;> omega
theorem Fl.gd {x : V} {d : PyData} (f : Fl x d) : Gd 400 d ∧ d.hasDict = false ∧ d.depth = 0 := by
  cases f with
  | non => exact ⟨⟨by decide, (fun z => nomatch z), by decide, by decide, by decide⟩, by decide, by decide⟩
  | bl b => cases b <;> exact ⟨⟨by decide, (fun z => nomatch z), by decide, by decide, by decide⟩, by decide, by decide⟩
  | int i h => exact ⟨⟨by simpa [PyData.showable] using small_log h, by simp [PyData.hasDict], by simp [PyData.depth], by simp only [PyData.leavesShort, decide_eq_true_eq]; exact small_text h, wt_int h⟩, by simp [PyData.hasDict], by simp [PyData.depth]⟩
  | str z h a => exact ⟨⟨by simp [PyData.showable], by simp [PyData.hasDict], by simp [PyData.depth], by simp only [PyData.leavesShort, List.all_eq_true, decide_eq_true_eq]; exact fun c hc => Nat.lt_trans (a c hc) (by decide), Nat.le_trans (by simpa [PyData.weight, Str.length] using h) (by decide : 100 ≤ 400)⟩, by simp [PyData.hasDict], by simp [PyData.depth]⟩
theorem fls_gd : ∀ {xs : List V} {ds : List PyData}, Paired Fl xs ds → Gds (401 * xs.length) xs.length ds ∧ PyData.depthAll ds = 0
  | _, _, .nil => ⟨⟨by simp [PyData.showableAll], by simp [PyData.hasDictAll], by simp [PyData.depthAll], by simp [PyData.leavesShortAll], by simp [PyData.weightAll], rfl⟩, by simp [PyData.depthAll]⟩
  | _, _, .cons f r => by
    obtain ⟨g1, g2, g3⟩ := f.gd
    obtain ⟨r1, r2⟩ := fls_gd r
    have := g1.wt
    have := r1.wt
    have := r1.ln
    refine ⟨⟨?_, ?_, ?_, ?_, ?_, ?_⟩, ?_⟩
    · simp [PyData.showableAll, g1.sh, r1.sh]
    · simp [PyData.hasDictAll, g2, r1.nd]
    · simp [PyData.depthAll, g3, r2]
    · simp [PyData.leavesShortAll, g1.ls, r1.ls]
    · simp only [PyData.weightAll, List.length_cons]
      omega
    · simp only [List.length_cons]
      omega
    · simp [PyData.depthAll, g3, r2]
theorem Gds.lst {n m : Nat} {ds : List PyData} (g : Gds n m ds) : Gd (n + m + 3) (.list ds) := by
  have := g.wt
  have := g.ln
  have := g.dp
  refine ⟨by simpa only [PyData.showable] using g.sh, (fun z => by simp only [PyData.hasDict, g.nd] at z; cases z), ?_, by simpa only [PyData.leavesShort] using g.ls, ?_⟩
  · simp only [PyData.depth]
    omega
  · simp only [PyData.weight]
    omega
theorem Gds.tup {n m : Nat} {ds : List PyData} (g : Gds n m ds) : Gd (n + m + 3) (.tuple ds) := by
  have := g.wt
  have := g.ln
  have := g.dp
  refine ⟨by simpa only [PyData.showable] using g.sh, (fun z => by simp only [PyData.hasDict, g.nd] at z; cases z), ?_, by simpa only [PyData.leavesShort] using g.ls, ?_⟩
  · simp only [PyData.depth]
    omega
  · simp only [PyData.weight]
    omega
theorem Td.gd {p : Addr} {H : Hp} {x : V} {d : PyData} (t : Td p H x d) : Gd 5000 d := by
  cases t with
  | fl f => exact let ⟨g, _, _⟩ := f.gd; ⟨g.sh, g.nd, g.dp, g.ls, Nat.le_trans g.wt (by decide)⟩
  | lst _ _ f l => exact let ⟨g, _⟩ := fls_gd f; ⟨g.lst.sh, g.lst.nd, g.lst.dp, g.lst.ls, Nat.le_trans g.lst.wt (by omega)⟩
  | tup _ _ f l => exact let ⟨g, _⟩ := fls_gd f; ⟨g.tup.sh, g.tup.nd, g.tup.dp, g.tup.ls, Nat.le_trans g.tup.wt (by omega)⟩
  | nil _ _ => exact ⟨by decide, fun _ => rfl, by decide, by decide, by decide⟩
def RetTh (p : Addr) (H : Hp) (Q : VK) : Prop := ∀ x d H', Td p H' x d → Rng p H' → Kp p H H' → Q x H'
def spOdd : Sp := fun vs H Q _ => ∃ p : Addr, vs = [.ref p] ∧ Rng p H ∧ RetTh p H Q
theorem str_small {z : Str} (h : z.cps.toList.length ≤ 100 ∧ ∀ c ∈ z.cps.toList, c < 128) : Fl (.str z) (.str z) := .str z (by simpa [Str.length] using h.1) h.2
theorem p__law_odd (T : Mo K mg) : Gx.Pr P w K mg base CX0 3 "_law_odd" s__law_odd ["_law_rng_here"] spOdd := by
  refine T.d__law_odd.ok sc__law_odd (fun vs H Q E h => ?_) (fun f cdv A outer s H vs Q E hr h => ?_)
  · obtain ⟨p, rfl, _⟩ := h
    rfl
  · obtain ⟨p, rfl, hR, q⟩ := h
    refine ⟨_, (pss_cons (ps_set (i := 1) sc__law_odd.nd rfl (Or.inl rfl) (pe_lst (pa_cons pe_non (pa_cons pe_bl (pa_cons pe_bl (pa_cons pe_str (pa_cons pe_str (pa_cons pe_str (pa_cons (pe_lst pa_nil) (pa_cons (pe_tup pa_nil) (pa_cons pe_dnewK (pa_cons (pe_lst (pa_cons pe_int pa_nil)) (pa_cons (pe_tup (pa_cons pe_int pa_nil)) (pa_cons pe_str (pa_cons (pe_un un_neg pe_int) (pa_cons (pe_op op_pow pe_int pe_int) (pa_cons pe_str (pa_cons (pe_lst (pa_cons pe_str pa_nil)) (pa_cons (pe_tup (pa_cons pe_str (pa_cons pe_str pa_nil))) (pa_cons pe_int (pa_cons pe_int pa_nil)))))))))))))))))))))
      (pss_one (ps_ret (Gx.pe_pos (p__law_choice T) hr (by decide) (by rfl) b__law_choice pass0 (pa_cons (pv 0) (pa_cons (pv 1) pa_nil)))))), ?_⟩
    refine ⟨Nat.zero_le _, fun a1 n1 => ⟨Nat.zero_le _, fun a2 n2 a3 n3 => ⟨by show 1 ≤ sizeLine; decide, fun a4 n4 => ⟨by show 1 ≤ sizeLine; decide, fun a5 n5 => ⟨_, rfl, _, _, rfl, rfl, ⟨by decide, by decide, by decide⟩,
      by show 1 ≤ sizeLine; decide, fun a6 n6 => ⟨by show 2 ≤ sizeLine; decide, fun a7 n7 => ⟨by show 19 ≤ sizeLine; decide, fun o no => ?_⟩⟩⟩⟩⟩⟩⟩
    have e1 := Same.upd (o := .lst []) n1
    have e2 := Same.upd (o := .tup []) n2
    have e3 := Same.upd (o := .dK []) n3
    have e4 := Same.upd (o := .lst [.int 3]) n4
    have e5 := Same.upd (o := .tup [.int 1]) n5
    have e6 := Same.upd (o := .lst [.str "0"]) n6
    have e7 := Same.upd (o := .tup [.str "0", .str "1"]) n7
    have R1 := hR.same e1
    have R2 := R1.same e2
    have R3 := R2.same e3
    have R4 := R3.same e4
    have R5 := R4.same e5
    have R6 := R5.same e6
    have R7 := R6.same e7
    refine ⟨_, rfl, _, rfl, p, o, _, rfl, R7.same (Same.upd no), R7.ne no, upd_same, by show 0 < 19; decide, by show 19 ≤ 1000; decide, fun x H' hx hR' k => ?_⟩
    have e8 : Kp p _ H' := (same_kp (Same.upd no)).trans k
    have k7 := (same_kp e7).trans e8
    have k6 := (same_kp e6).trans k7
    have k5 := (same_kp e5).trans k6
    have k4 := (same_kp e4).trans k5
    have k3 := (same_kp e3).trans k4
    have k2 := (same_kp e2).trans k3
    suffices z : ∃ d, Td p H' x d from let ⟨d, z⟩ := z; q x d H' z hR' ((same_kp e1).trans k2)
    simp only [List.mem_cons, List.not_mem_nil, or_false] at hx
    rcases hx with rfl | rfl | rfl | rfl | rfl | rfl | rfl | rfl | rfl | rfl | rfl | rfl | rfl | rfl | rfl | rfl | rfl | rfl | rfl
    · exact ⟨_, .fl .non⟩
    · exact ⟨_, .fl (.bl _)⟩
    · exact ⟨_, .fl (.bl _)⟩
    · exact ⟨_, .fl (str_small (by decide +kernel))⟩
    · exact ⟨_, .fl (str_small (by decide +kernel))⟩
    · exact ⟨_, .fl (str_small (by decide +kernel))⟩
    · exact ⟨_, .lst (hR.ne n1) (k2 _ _ (hR.ne n1) upd_same) .nil (by decide)⟩
    · exact ⟨_, .tup (R1.ne n2) (k3 _ _ (R1.ne n2) upd_same) .nil (by decide)⟩
    · exact ⟨_, .nil (R2.ne n3) (k4 _ _ (R2.ne n3) upd_same)⟩
    · exact ⟨_, .lst (R3.ne n4) (k5 _ _ (R3.ne n4) upd_same) (.cons (.int 3 (by decide +kernel)) .nil) (by show 1 ≤ 10; decide)⟩
    · exact ⟨_, .tup (R4.ne n5) (k6 _ _ (R4.ne n5) upd_same) (.cons (.int 1 (by decide +kernel)) .nil) (by show 1 ≤ 10; decide)⟩
    · exact ⟨_, .fl (str_small (by decide +kernel))⟩
    · exact ⟨_, .fl (.int _ (by decide +kernel))⟩
    · exact ⟨_, .fl (.int _ (by decide +kernel))⟩
    · exact ⟨_, .fl (str_small (by decide +kernel))⟩
    · exact ⟨_, .lst (R5.ne n6) (k7 _ _ (R5.ne n6) upd_same) (.cons (str_small (by decide +kernel)) .nil) (by show 1 ≤ 10; decide)⟩
    · exact ⟨_, .tup (R6.ne n7) (e8 _ _ (R6.ne n7) upd_same) (.cons (str_small (by decide +kernel)) (.cons (str_small (by decide +kernel)) .nil)) (by show 2 ≤ 10; decide)⟩
    · exact ⟨_, .fl (.int _ (by decide +kernel))⟩
    · exact ⟨_, .fl (.int _ (by decide +kernel))⟩
end
end My
namespace My
open PySem PySem.Spec PyProof.Rows L2
/-! ### digits -/
/-- the text of these signs -/
def sL (l : List Nat) : Str := ⟨l.toArray⟩
theorem sL_cps (l : List Nat) : (sL l).cps.toList = l := by simp [sL]
theorem sL_len (l : List Nat) : (sL l).length = l.length := by simp [sL, Str.length]
theorem sL_of (z : Str) : sL z.cps.toList = z := by
  obtain ⟨a⟩ := z
  simp [sL]
theorem sL_app (l r : List Nat) : sL l ++ sL r = sL (l ++ r) := by
  show (⟨l.toArray ++ r.toArray⟩ : Str) = ⟨(l ++ r).toArray⟩
  simp
/-- the last digits of n -/
def dg (n : Int) : Nat → List Nat
  | 0 => []
  | i + 1 => (48 + (n / 2 ^ i % 2).toNat) :: dg n i
theorem dg_len (n : Int) : ∀ i, (dg n i).length = i
  | 0 => rfl
  | i + 1 => by show (dg n i).length + 1 = _; rw [dg_len]
theorem dg_01 (n : Int) : ∀ i, (dg n i).all is01 = true
  | 0 => rfl
  | i + 1 => by
    show (is01 (48 + (n / 2 ^ i % 2).toNat) && (dg n i).all is01) = true
    rw [dg_01, Bool.and_true]
    have h : n / 2 ^ i % 2 = 0 ∨ n / 2 ^ i % 2 = 1 := by omega
    rcases h with h | h <;> rw [h] <;> decide
/-- a text of at most m digits -/
def Dig (m : Nat) (z : Str) : Prop := z.length ≤ m ∧ z.cps.toList.all is01 = true
theorem dg_dig (n : Int) (m : Nat) : Dig m (sL (dg n m)) := ⟨by rw [sL_len, dg_len]; exact Nat.le_refl _, by rw [sL_cps]; exact dg_01 n m⟩
theorem is01_lt {c : Nat} (h : is01 c = true) : c < 128 := by
  unfold is01 at h
  simp at h
  omega
theorem Dig.th {m : Nat} {z : Str} (h : Dig m z) (hm : m ≤ 100) (p : Addr) (H : Hp) : Th p H (.str z) := .str z (Nat.le_trans h.1 hm) fun c hc => is01_lt (List.all_eq_true.mp h.2 c hc)
/-- the number of such digits -/
def val (l : List Nat) : Int := l.foldl (fun a c => 2 * a + if c = 49 then 1 else 0) 0
theorem val_snoc (l : List Nat) (c : Nat) : val (l ++ [c]) = 2 * val l + if c = 49 then 1 else 0 := by unfold val; rw [List.foldl_append]; rfl
theorem val_from : ∀ (l : List Nat) (a : Int), l.foldl (fun a c => 2 * a + if c = 49 then 1 else 0) a = a * 2 ^ l.length + val l
  | [], a => by simp [val]
  | c :: l, a => by
    show l.foldl (fun a c => 2 * a + if c = 49 then 1 else 0) (2 * a + if c = 49 then 1 else 0) = _
    have e : val (c :: l) = l.foldl (fun a c => 2 * a + if c = 49 then 1 else 0) (2 * 0 + if c = 49 then 1 else 0) := rfl
    rw [e, val_from l, val_from l, List.length_cons, Int.pow_succ]
    generalize (2 : Int) ^ l.length = q
    split
    · rw [Int.add_mul, Int.add_mul, Int.mul_assoc, Int.mul_comm 2 (a * q), Int.mul_assoc]
      omega
    · rw [Int.add_zero, Int.mul_zero, Int.add_zero, Int.zero_mul, Int.mul_comm 2 a, Int.mul_assoc, Int.mul_comm 2 q, Int.zero_add]
theorem val_app (l r : List Nat) : val (l ++ r) = val l * 2 ^ r.length + val r := by
  unfold val
  rw [List.foldl_append, val_from]
  rfl
theorem val_bound : ∀ (l : List Nat), 0 ≤ val l ∧ val l < 2 ^ l.length
  | [] => by decide
  | c :: l => by
    have ih := val_bound l
    have e : val (c :: l) = l.foldl (fun a c => 2 * a + if c = 49 then 1 else 0) (2 * 0 + if c = 49 then 1 else 0) := rfl
    rw [e, val_from, List.length_cons, Int.pow_succ]
    generalize (2 : Int) ^ l.length = q at *
    split
    · rw [Int.mul_zero, Int.zero_add, Int.one_mul]
      omega
    · rw [Int.mul_zero, Int.zero_add, Int.zero_mul]
      omega
section
variable {P : Program} {w : World} {K : PySem.W.Frag} {mg : Str → Option Value} {base : Heap}
def spDig : Sp := fun vs H Q _ => ∃ (n : Int) (m : Nat), vs = [.int n, .int m] ∧ m ≤ 100 ∧ Q (.str (sL (dg n m))) H
theorem p__law_digits (T : Mo K mg) : Gx.Pr P w K mg base CX0 1 "_law_digits" s__law_digits ["_law_number", "_law_many"] spDig := by
  refine T.d__law_digits.ok sc__law_digits (fun vs H Q E h => ?_) (fun f cdv A outer s H vs Q E hr h => ?_)
  · obtain ⟨n, m, rfl, _⟩ := h
    rfl
  · obtain ⟨n, m, rfl, hm, q⟩ := h
    refine ⟨_, (pss_cons (ps_par (i := 2) (j := 3) rfl sc__law_digits.nd rfl rfl (by decide) rfl rfl (pa_cons pe_str (pa_cons (pv 0) pa_nil)) (by rfl))
      (pss_cons (ps_for PassesOwn.never rfl (pi_range1 (by rfl) T.b_range (pa_cons (pv 1) pa_nil)) (pg_name (i := 4) sc__law_digits.nd rfl (Or.inl rfl)) (pss_cons (ps_set (i := 2) sc__law_digits.nd rfl (Or.inl rfl) (pe_op op_add_str (pe_ix ix_str pe_str (pe_op op_mod (pe_callTy call_int1 (by rfl) T.b_int (by decide +kernel) (pa_cons (pv 3) pa_nil)) pe_int) (fun _ _ => rfl)) (pv 2)))
      (pss_one (ps_set (i := 3) sc__law_digits.nd rfl (Or.inl rfl) (pe_op op_fdiv (pv 3) pe_int)))))
      (pss_one (ps_ret (pv 2))))), ?_⟩
    refine ⟨_, rfl, _, _, rfl, _, rfl, (m : Int), rfl, by omega, by omega, ?_⟩
    rw [Int.toNat_natCast]
    refine for_range (lo := 0) (n := m) (fun i σ H' => H' = H ∧ ∃ t, σ = [some (.int n), some (.int m), some (.str (sL (dg n i))), some (.int (n / 2 ^ i)), t]) ⟨rfl, none, ?_⟩ (fun i σ H' hi h => ?_) fun σ H' h => ?_
    · show [some (V.int n), some (V.int m), some (V.str ""), some (V.int n), none] = _
      rw [show (("" : String) : Str) = sL [] by decide +kernel, Int.pow_zero, Int.ediv_one]
      rfl
    · obtain ⟨rfl, t, rfl⟩ := h
      have h2 : n / 2 ^ i % 2 = 0 ∨ n / 2 ^ i % 2 = 1 := by omega
      have at2 : atI (("01" : String) : Str).cps.toList (n / 2 ^ i % 2) = some (48 + (n / 2 ^ i % 2).toNat) := by
        rcases h2 with h | h <;> rw [h] <;> decide +kernel
      refine ⟨_, rfl, .inl ⟨_, rfl, _, _, rfl, rfl, (by show (0 : Int) < 2; decide), _, _, _, rfl, rfl, (by decide +kernel), at2, _, rfl, _, _, rfl, rfl, ?_, ?_⟩⟩
      · show 1 + (sL (dg n i)).length ≤ sizeLine
        rw [sL_len, dg_len]
        exact Nat.le_trans (show 1 + i ≤ 101 by omega) (by decide)
      · refine ⟨_, rfl, _, _, rfl, rfl, ⟨by decide, by decide⟩, rfl, some (.int (0 + (i : Int))), ?_⟩
        show [some (V.int n), some (V.int m), some (V.str (sL [48 + (n / 2 ^ i % 2).toNat] ++ sL (dg n i))), some (V.int (n / 2 ^ i / 2)), some (V.int (0 + (i : Int)))] = _
        rw [sL_app, Int.ediv_ediv_of_nonneg (Int.le_of_lt (Int.pow_pos (by decide))), ← Int.pow_succ]
        rfl
    · obtain ⟨rfl, t, rfl⟩ := h
      exact ⟨_, rfl, q⟩
def spEnds : Sp := fun vs H Q _ => ∃ (z : Str) (m : Nat), vs = [.str z, .int m] ∧ m ≤ 10 ∧ Dig m z ∧ ∀ p, H p = none → Q (.ref p) (upd H p (.tup [.int (val z.cps.toList * 2 ^ (m - z.length)), .int (val z.cps.toList * 2 ^ (m - z.length) + 2 ^ (m - z.length) - 1)]))
theorem p__law_ends (T : Mo K mg) : Gx.Pr P w K mg base CX0 2 "_law_ends" s__law_ends ["_law_start", "_law_many"] spEnds := by
  refine T.d__law_ends.ok sc__law_ends (fun vs H Q E h => ?_) (fun f cdv A outer s H vs Q E hr h => ?_)
  · obtain ⟨z, m, rfl, _⟩ := h
    rfl
  · obtain ⟨z, m, rfl, hm, hz, q⟩ := h
    refine ⟨_, (pss_cons (ps_set (i := 2) sc__law_ends.nd rfl (Or.inl rfl) pe_int)
      (pss_cons (ps_for PassesOwn.never rfl (pi_str (pv 0)) (pg_name (i := 3) sc__law_ends.nd rfl (Or.inl rfl)) (pss_one (ps_set (i := 2) sc__law_ends.nd rfl (Or.inl rfl) (pe_op op_add (pe_op op_mul pe_int (pv 2)) (pe_callTy call_int1 (by rfl) T.b_int (by decide +kernel) (pa_cons (pe_cmpR op_eq (pv 3) pe_str (nomark _)) pa_nil))))))
      (pss_cons (ps_set (i := 4) sc__law_ends.nd rfl (Or.inl rfl) (Gx.pe_pos (p__law_power T) hr (by decide) (by rfl) b__law_power pass0 (pa_cons (pe_op op_sub (pv 1) (pe_callB call_len_str (by rfl) T.b_len (by decide +kernel) (pa_cons (pv 0) pa_nil))) pa_nil)))
      (pss_one (ps_ret (pe_tup (pa_cons (pe_op op_mul (pv 2) (pv 4)) (pa_cons (pe_op op_sub (pe_op op_add (pe_op op_mul (pv 2) (pv 4)) (pv 4)) pe_int) pa_nil)))))))), ?_⟩
    refine ⟨_, rfl, z, rfl, ?_⟩
    refine for_it walk_str (fun i σ H' => H' = H ∧ ∃ t, σ = [some (.str z), some (.int m), some (.int (val (z.cps.toList.take i))), t, none]) ⟨rfl, _, rfl⟩ (fun _ _ _ _ _ => trivial) (fun i x σ H1 H2 hi h Y => ?_) fun σ H1 h => ?_
    · obtain ⟨rfl, t, rfl⟩ := h
      obtain ⟨rfl, c, hc, rfl⟩ := Y
      have hc' : z.cps.toList[i]? = some c := by simpa using hc
      refine ⟨_, rfl, _, _, rfl, rfl, .inl ⟨by decide, by decide⟩, _, rfl, rfl, .inr ⟨_, rfl, _, _, rfl, rfl, rfl, some (.str ⟨#[c]⟩), ?_⟩⟩
      show [some (V.str z), some (V.int m), some (V.int (2 * val (z.cps.toList.take i) + if decide (V.str ⟨#[c]⟩ = V.str "1") = true then 1 else 0)), some (V.str ⟨#[c]⟩), none] = _
      rw [List.take_add_one, hc', Option.toList_some, val_snoc]
      by_cases c1 : c = 49
      · rw [decide_eq_true ((sign_1 c).mpr c1), if_pos c1, if_pos rfl]
      · rw [decide_eq_false (fun y => c1 ((sign_1 c).mp y)), if_neg c1, if_neg (by decide)]
    · obtain ⟨rfl, t, rfl⟩ := h
      have hl := hz.1
      have full : z.cps.toList.take z.cps.size = z.cps.toList := List.take_of_length_le (by simp)
      rw [full]
      obtain ⟨b0, b1⟩ := val_bound z.cps.toList
      refine ⟨_, rfl, _, rfl, z, rfl, Nat.le_trans hl (Nat.le_trans hm (by decide)), _, _, rfl, rfl, m - z.length, ?_, by omega, ?_⟩
      · show [V.int ((m : Int) - (z.length : Int))] = _
        rw [Int.ofNat_sub hl]
      have p2 : (2 : Int) ^ (m - z.length) ≤ 1024 := by
        have : ∀ n : Nat, n ≤ 10 → (2 : Int) ^ n ≤ 1024 := by decide
        exact this _ (by omega)
      have p0 : (0 : Int) < 2 ^ (m - z.length) := Int.pow_pos (by decide)
      have small : CMul (val z.cps.toList) (2 ^ (m - z.length)) := .inr ⟨by omega, by omega⟩
      refine ⟨_, rfl, _, rfl, _, _, rfl, rfl, small, _, rfl, _, rfl, _, _, rfl, rfl, small, _, rfl, _, _, rfl, rfl, _, _, rfl, rfl, by show 2 ≤ sizeLine; decide, fun p hp => ?_⟩
      exact q p hp
end
end My
namespace My
open PySem PySem.Spec PyProof.Rows L2
/-! ### binary texts -/
theorem dg_snoc (n : Int) : ∀ i, dg n (i + 1) = dg (n / 2) i ++ [48 + (n % 2).toNat]
  | 0 => by
    show [48 + (n / 2 ^ 0 % 2).toNat] = [48 + (n % 2).toNat]
    rw [Int.pow_zero, Int.ediv_one]
  | i + 1 => by
    show (48 + (n / 2 ^ (i + 1) % 2).toNat) :: dg n (i + 1) = (48 + (n / 2 / 2 ^ i % 2).toNat) :: (dg (n / 2) i ++ _)
    rw [dg_snoc n i, Int.ediv_ediv_of_nonneg (by decide), Int.pow_succ, Int.mul_comm]
theorem dg_zero : ∀ i, dg 0 i = List.replicate i 48
  | 0 => rfl
  | i + 1 => by
    show (48 + ((0 : Int) / 2 ^ i % 2).toNat) :: dg 0 i = _
    rw [dg_zero i, Int.zero_ediv]
    rfl
theorem dg_toDigits : ∀ (i n : Nat), n < 2 ^ (i + 1) → List.replicate (i + 1 - (Nat.toDigits 2 n).length) 48 ++ (Nat.toDigits 2 n).map Char.toNat = dg n (i + 1) ∧ (Nat.toDigits 2 n).length ≤ i + 1
  | i, n, h => by
    by_cases c : n < 2
    · rw [Nat.toDigits_of_lt_base c, dg_snoc]
      have e : (n : Int) / 2 = 0 := by omega
      have d : (List.map Char.toNat [n.digitChar]) = [48 + ((n : Int) % 2).toNat] := by
        have : n = 0 ∨ n = 1 := by omega
        rcases this with rfl | rfl <;> rfl
      rw [e, dg_zero, d]
      exact ⟨rfl, by simp⟩
    · cases i with
      | zero => omega
      | succ i =>
        have h2 : n / 2 < 2 ^ (i + 1) := by
          have : (2 : Nat) ^ (i + 1 + 1) = 2 ^ (i + 1) * 2 := Nat.pow_succ ..
          omega
        obtain ⟨ih, il⟩ := dg_toDigits i (n / 2) h2
        rw [Nat.toDigits_of_base_le (by decide) (by omega), dg_snoc]
        have d : (n % 2).digitChar.toNat = 48 + ((n : Int) % 2).toNat := by
          have : n % 2 = 0 ∨ n % 2 = 1 := by omega
          rcases this with e | e
          · rw [e, show (n : Int) % 2 = 0 by omega]
            rfl
          · rw [e, show (n : Int) % 2 = 1 by omega]
            rfl
        have e : ((n : Nat) : Int) / 2 = ((n / 2 : Nat) : Int) := by omega
        rw [e, ← ih, List.length_append, List.map_append, show [(n % 2).digitChar].length = 1 from rfl, show i + 1 + 1 - ((Nat.toDigits 2 (n / 2)).length + 1) = i + 1 - (Nat.toDigits 2 (n / 2)).length by omega, List.append_assoc]
        refine ⟨?_, by omega⟩
        show _ ++ (_ ++ [(n % 2).digitChar.toNat]) = _
        rw [d]
theorem zfill_bin {n b : Nat} (h : n < 2 ^ b) (hb : 1 ≤ b) : Txt.zfill (Gx.binS n) b = sL (dg n b) ∧ (Gx.binS n).length ≤ b := by
  obtain ⟨i, rfl⟩ : ∃ i, b = i + 1 := ⟨b - 1, by omega⟩
  obtain ⟨h1, h2⟩ := dg_toDigits i n h
  have e : Gx.binL (n : Int) = (Nat.toDigits 2 n).map Char.toNat := by
    unfold Gx.binL
    rw [if_neg (by omega)]
    rfl
  have el : (Gx.binS (n : Int)).length = (Nat.toDigits 2 n).length := by
    unfold Gx.binS
    rw [e]
    simp [Str.length]
  refine ⟨?_, el ▸ h2⟩
  unfold Txt.zfill
  rw [el]
  by_cases c : ((i + 1 : Nat) : Int) ≤ ((Nat.toDigits 2 n).length : Int)
  · rw [if_pos c, ← h1, show i + 1 - (Nat.toDigits 2 n).length = 0 by omega]
    unfold Gx.binS
    rw [e]
    rfl
  · rw [if_neg c, Int.toNat_natCast]
    have z : (Gx.binS (n : Int)).cps[0]? = some 48 ∨ (Gx.binS (n : Int)).cps[0]? = some 49 := by
      have hl := toDigits_len_ge 2 n
      unfold Gx.binS
      rw [e]
      cases hd : Nat.toDigits 2 n with
      | nil => rw [hd] at hl; simp at hl
      | cons x l =>
        have hx : x.toNat ∈ dg n (i + 1) := by
          rw [← h1, hd]
          simp
        have := List.all_eq_true.mp (dg_01 n (i + 1)) _ hx
        have : x.toNat = 48 ∨ x.toNat = 49 := by simpa [is01] using this
        simpa using this
    have p : zfilled (Gx.binS (n : Int)) (i + 1 - (Nat.toDigits 2 n).length) = Builtin.Str.padded (Gx.binS (n : Int)) (i + 1 - (Nat.toDigits 2 n).length) 0 48 := by
      unfold zfilled
      rcases z with z | z <;> rw [z] <;> rfl
    rw [p, ← h1]
    unfold Builtin.Str.padded Gx.binS sL
    rw [e]
    simp
theorem num_val : ∀ (l : List Nat) (a : Nat), l.all is01 = true → ((l.foldl (fun a c => a * 2 + (c - 48)) a : Nat) : Int) = l.foldl (fun a c => 2 * a + if c = 49 then 1 else 0) (a : Int)
  | [], _, _ => rfl
  | c :: l, a, h => by
    have h' : is01 c = true ∧ l.all is01 = true := by simpa using h
    have hc : c = 48 ∨ c = 49 := by simpa [is01] using h'.1
    rw [List.foldl_cons, List.foldl_cons, num_val l _ h'.2]
    congr 1
    rcases hc with rfl | rfl
    · simp
      omega
    · simp
      omega
theorem num_is {l : List Nat} (h : l.all is01 = true) : ((Gx.Bin.num l : Nat) : Int) = val l := num_val l 0 h
theorem val_48 : ∀ k, val (List.replicate k 48) = 0
  | 0 => rfl
  | k + 1 => by
    rw [List.replicate_succ', val_snoc, val_48 k]
    rfl
theorem val_49 : ∀ k, val (List.replicate k 49) = 2 ^ k - 1
  | 0 => rfl
  | k + 1 => by
    rw [List.replicate_succ', val_snoc, val_49 k, if_pos rfl, Int.pow_succ]
    omega
theorem ljust_sL {z : Str} {m : Nat} (h : z.length ≤ m) (c : Nat) : Txt.ljustF z m c = sL (z.cps.toList ++ List.replicate (m - z.length) c) := by
  unfold Txt.ljustF
  by_cases e : (m : Int) ≤ (z.length : Int)
  · rw [if_pos e, show m - z.length = 0 by omega]
    simpa using (sL_of z).symm
  · rw [if_neg e, Int.toNat_natCast]
    unfold Builtin.Str.padded sL
    simp
theorem iteT' {b : Bool} {A B : Prop} (c : b = true) (h : A) : if b = true then A else B := by rw [if_pos c]; exact h
theorem iteF' {b : Bool} {A B : Prop} (c : ¬ b = true) (h : B) : if b = true then A else B := by rw [if_neg c]; exact h
/-- an error of the class x leaves, with this value -/
def Err (mg : Str → Option Value) (H : Hp) (E : XK) (x : Str) (v : V) : Prop := ∀ d, H d = none → E (.ref (Gx.cl mg x)) (some d) (upd H d (.xd [("value", v)]))
section
variable {P : Program} {w : World} {K : PySem.W.Frag} {mg : Str → Option Value} {base : Heap}
def spCkB (mg : Str → Option Value) : Sp := fun vs H Q E => ∃ p x, vs = [x] ∧ Th p H x ∧ (isBt x = true → Q .non H) ∧ (isBt x = false → Err mg H E "InvalidBits" x)
theorem p_check_bits (T : Mo K mg) : Gx.Pr P w K mg base (L2.CX P w) 3 "check_bits" s_check_bits ["bits"] (spCkB mg) := by
  refine T.d_check_bits.okX sc_check_bits (fun vs H Q E h => ?_) (fun f cdv A outer s H vs Q E hr h => ?_)
  · obtain ⟨p, x, rfl, _⟩ := h
    rfl
  · obtain ⟨p, x, rfl, t, q, e⟩ := h
    refine ⟨_, (pss_one (ps_if (pt_not (pt_val (Gx.pe_pos (p_is_bits T) hr (by decide) (by rfl) b_is_bits pass0 (pa_cons (pv 0) pa_nil)))) (pss_one (ps_raise rfl (takes_of rfl rfl rfl rfl) (Gx.pmk_err T.e_InvalidBits T.c_InvalidBits T.f_InvalidBits_value hr (by decide) sci_InvalidBits bi_InvalidBits bodyi_InvalidBits (by rfl) (pv 0)))) pss_nil)), ?_⟩
    refine ⟨x, rfl, p, x, rfl, t, _, rfl, ?_⟩
    show if (!isBt x) = true then _ else _
    cases c : isBt x with
    | true => exact iteF (q c)
    | false => exact iteT ⟨x, rfl, e c⟩
def spCk2 (mg : Str → Option Value) (g : V → V → Bool) (x : Str) : Sp := fun vs H Q E => ∃ p y z, vs = [y, z] ∧ Th p H y ∧ Th p H z ∧ (g y z = true → Q .non H) ∧ (g y z = false → Err mg H E x y)
theorem p_check_range (T : Mo K mg) : Gx.Pr P w K mg base (L2.CX P w) 4 "check_range" s_check_range ["value", "bits"] (spCk2 mg isRg "InvalidRange") := by
  refine T.d_check_range.okX sc_check_range (fun vs H Q E h => ?_) (fun f cdv A outer s H vs Q E hr h => ?_)
  · obtain ⟨p, x, y, rfl, _⟩ := h
    rfl
  · obtain ⟨p, x, y, rfl, tx, ty, q, e⟩ := h
    refine ⟨_, (pss_one (ps_if (pt_not (pt_val (Gx.pe_pos (p_is_range T) hr (by decide) (by rfl) b_is_range pass0 (pa_cons (pv 0) (pa_cons (pv 1) pa_nil))))) (pss_one (ps_raise rfl (takes_of rfl rfl rfl rfl) (Gx.pmk_err T.e_InvalidRange T.c_InvalidRange T.f_InvalidRange_value hr (by decide) sci_InvalidRange bi_InvalidRange bodyi_InvalidRange (by rfl) (pv 0)))) pss_nil)), ?_⟩
    refine ⟨x, rfl, y, rfl, p, x, y, rfl, tx, ty, _, rfl, ?_⟩
    show if (!isRg x y) = true then _ else _
    cases c : isRg x y with
    | true => exact iteF (q c)
    | false => exact iteT ⟨x, rfl, e c⟩
theorem p_check_value (T : Mo K mg) : Gx.Pr P w K mg base (L2.CX P w) 4 "check_value" s_check_value ["value", "bits"] (spCk2 mg isVl "InvalidValue") := by
  refine T.d_check_value.okX sc_check_value (fun vs H Q E h => ?_) (fun f cdv A outer s H vs Q E hr h => ?_)
  · obtain ⟨p, x, y, rfl, _⟩ := h
    rfl
  · obtain ⟨p, x, y, rfl, tx, ty, q, e⟩ := h
    refine ⟨_, (pss_one (ps_if (pt_not (pt_val (Gx.pe_pos (p_is_value T) hr (by decide) (by rfl) b_is_value pass0 (pa_cons (pv 0) (pa_cons (pv 1) pa_nil))))) (pss_one (ps_raise rfl (takes_of rfl rfl rfl rfl) (Gx.pmk_err T.e_InvalidValue T.c_InvalidValue T.f_InvalidValue_value hr (by decide) sci_InvalidValue bi_InvalidValue bodyi_InvalidValue (by rfl) (pv 0)))) pss_nil)), ?_⟩
    refine ⟨x, rfl, y, rfl, p, x, y, rfl, tx, ty, _, rfl, ?_⟩
    show if (!isVl x y) = true then _ else _
    cases c : isVl x y with
    | true => exact iteF (q c)
    | false => exact iteT ⟨x, rfl, e c⟩
theorem isRg_str {x y : V} (h : isRg x y = true) : ∃ (z : Str) (m : Nat), x = .str z ∧ y = .int m ∧ 1 ≤ m ∧ m ≤ 10 ∧ Dig m z := by
  cases x with
  | str z =>
    cases y with
    | int b =>
      have h : ((decide (1 ≤ b) && decide (b ≤ 10)) && (decide ((z.length : Int) ≤ b) && z.cps.toList.all is01)) = true := h
      simp only [Bool.and_eq_true, decide_eq_true_eq] at h
      obtain ⟨⟨h1, h2⟩, h3, h4⟩ := h
      exact ⟨z, b.toNat, rfl, by rw [Int.toNat_of_nonneg (by omega)], by omega, by omega, by omega, h4⟩
    | _ => cases h
  | _ => cases h
theorem isVl_int {x y : V} (h : isVl x y = true) : ∃ (n m : Nat), x = .int n ∧ y = .int m ∧ 1 ≤ m ∧ m ≤ 10 ∧ n < 2 ^ m := by
  cases y with
  | int b =>
    cases x with
    | int i =>
      have h : ((decide (1 ≤ b) && decide (b ≤ 10)) && (decide (0 ≤ i) && decide (i < 2 ^ b.toNat))) = true := h
      simp only [Bool.and_eq_true, decide_eq_true_eq] at h
      obtain ⟨⟨h1, h2⟩, h3, h4⟩ := h
      refine ⟨i.toNat, b.toNat, by rw [Int.toNat_of_nonneg h3], by rw [Int.toNat_of_nonneg (by omega)], by omega, by omega, ?_⟩
      have : ((i.toNat : Nat) : Int) < ((2 ^ b.toNat : Nat) : Int) := by
        rw [Int.toNat_of_nonneg h3]
        exact_mod_cast h4
      exact_mod_cast this
    | _ =>
      have h : ((decide (1 ≤ b) && decide (b ≤ 10)) && false) = true := h
      simp at h
  | _ => cases h
/-- the full range of x -/
def rngV : V → V → Str
  | .int n, .int b => sL (dg n b.toNat)
  | _, _ => ""
def spRangeOf (mg : Str → Option Value) : Sp := fun vs H Q E => ∃ p x z, vs = [x, z] ∧ Th p H x ∧ Th p H z ∧ (isBt z = false → Err mg H E "InvalidBits" z) ∧ (isBt z = true → isVl x z = false → Err mg H E "InvalidValue" x) ∧ (isBt z = true → isVl x z = true → Q (.str (rngV x z)) H)
theorem p_range_of (T : Mo K mg) : Gx.Pr P w K mg base (L2.CX P w) 5 "range_of" s_range_of ["value", "bits"] (spRangeOf mg) := by
  refine T.d_range_of.okX sc_range_of (fun vs H Q E h => ?_) (fun f cdv A outer s H vs Q E hr h => ?_)
  · obtain ⟨p, x, z, rfl, _⟩ := h
    rfl
  · obtain ⟨p, x, z, rfl, tx, tz, e1, e2, q⟩ := h
    refine ⟨_, (pss_cons (ps_expr (Gx.pe_pos (E := E) (p_check_bits T) hr (by decide) (by rfl) b_check_bits (passes_call (takes_of rfl rfl rfl rfl) fun _ _ _ _ h => h) (pa_cons (pv 1) pa_nil)))
      (pss_cons (ps_expr (Gx.pe_pos (E := E) (p_check_value T) hr (by decide) (by rfl) b_check_value (passes_call (takes_of rfl rfl rfl rfl) fun _ _ _ _ h => h) (pa_cons (pv 0) (pa_cons (pv 1) pa_nil))))
      (pss_one (ps_ret (pe_bm PySem.F.plainAttrs_str PySem.F.slot_str_zfill PySem.F.type_str_zfill mt_zfill (pe_joined1 (Gx.pe_fmtB (pv 0))) (pa_cons (pv 1) pa_nil)))))), ?_⟩
    refine ⟨z, rfl, p, z, rfl, tz, fun cz => ?_, e1⟩
    refine ⟨x, rfl, z, rfl, p, x, z, rfl, tx, tz, fun cx => ?_, e2 cz⟩
    replace q := q cz cx
    obtain ⟨n, m, rfl, rfl, m1, m2, hn⟩ := isVl_int cx
    obtain ⟨z1, z2⟩ := zfill_bin hn m1
    refine ⟨_, rfl, _, rfl, Nat.le_trans z2 (Nat.le_trans m2 (by decide)), rfl, _, rfl, _, _, rfl, rfl, ?_, ?_⟩
    · have : ∀ m : Nat, m ≤ 10 → PadOk (m : Int) = true := by decide +kernel
      exact this m m2
    · rw [z1]
      exact q
/-- the ends of a range -/
def ends (x y : V) : Int × Int := match x, y with
  | .str z, .int b => (val z.cps.toList * 2 ^ (b.toNat - z.length), val z.cps.toList * 2 ^ (b.toNat - z.length) + 2 ^ (b.toNat - z.length) - 1)
  | _, _ => (0, 0)
def spBounds (mg : Str → Option Value) : Sp := fun vs H Q E => ∃ p x z, vs = [x, z] ∧ Th p H x ∧ Th p H z ∧ (isBt z = false → Err mg H E "InvalidBits" z) ∧ (isBt z = true → isRg x z = false → Err mg H E "InvalidRange" x) ∧
  (isBt z = true → isRg x z = true → ∀ t, H t = none → Q (.ref t) (upd H t (.tup [.int (ends x z).1, .int (ends x z).2])))
theorem p_bounds (T : Mo K mg) : Gx.Pr P w K mg base (L2.CX P w) 5 "bounds" s_bounds ["pre\x66ix", "bits"] (spBounds mg) := by
  refine T.d_bounds.okX sc_bounds (fun vs H Q E h => ?_) (fun f cdv A outer s H vs Q E hr h => ?_)
  · obtain ⟨p, x, z, rfl, _⟩ := h
    rfl
  · obtain ⟨p, x, z, rfl, tx, tz, e1, e2, q⟩ := h
    refine ⟨_, (pss_cons (ps_expr (Gx.pe_pos (E := E) (p_check_bits T) hr (by decide) (by rfl) b_check_bits (passes_call (takes_of rfl rfl rfl rfl) fun _ _ _ _ h => h) (pa_cons (pv 1) pa_nil)))
      (pss_cons (ps_expr (Gx.pe_pos (E := E) (p_check_range T) hr (by decide) (by rfl) b_check_range (passes_call (takes_of rfl rfl rfl rfl) fun _ _ _ _ h => h) (pa_cons (pv 0) (pa_cons (pv 1) pa_nil))))
      (pss_one (ps_ret (pe_tup (pa_cons (pe_callTy Gx.call_int_bin (by rfl) T.b_int (by decide +kernel) (pa_cons (pe_bm PySem.F.plainAttrs_str PySem.F.slot_str_ljust PySem.F.type_str_ljust Gx.mt_ljustF (pv 0) (pa_cons (pv 1) (pa_cons pe_str pa_nil))) (pa_cons pe_int pa_nil))) (pa_cons (pe_callTy Gx.call_int_bin (by rfl) T.b_int (by decide +kernel) (pa_cons (pe_bm PySem.F.plainAttrs_str PySem.F.slot_str_ljust PySem.F.type_str_ljust Gx.mt_ljustF (pv 0) (pa_cons (pv 1) (pa_cons pe_str pa_nil))) (pa_cons pe_int pa_nil))) pa_nil))))))), ?_⟩
    refine ⟨z, rfl, p, z, rfl, tz, fun cz => ?_, e1⟩
    refine ⟨x, rfl, z, rfl, p, x, z, rfl, tx, tz, fun cx => ?_, e2 cz⟩
    replace q := q cz cx
    obtain ⟨a, m, rfl, rfl, m1, m2, ha⟩ := isRg_str cx
    have pad : PadOk (m : Int) = true := by
      have : ∀ m : Nat, m ≤ 10 → PadOk (m : Int) = true := by decide +kernel
      exact this m m2
    have all : ∀ c, is01 c = true → (a.cps.toList ++ List.replicate (m - a.length) c).all is01 = true := fun c hc => by
      rw [List.all_append, ha.2]
      simp [hc]
    have la := ha.1
    have sz : ∀ c, (a.cps.toList ++ List.replicate (m - a.length) c).length = m := fun c => by
      have : a.length = a.cps.toList.length := by simp [Str.length]
      rw [List.length_append, List.length_replicate]
      omega
    have one : ∀ (c : Nat) (f : Str), is01 c = true → f.cps.getD 0 0 = c → (Txt.ljustF a m (f.cps.getD 0 0)).cps.toList ≠ [] ∧ (Txt.ljustF a m (f.cps.getD 0 0)).length ≤ 640 ∧
        (∀ d ∈ (Txt.ljustF a m (f.cps.getD 0 0)).cps.toList, Gx.Bin.Is d) ∧ ((Gx.Bin.num (Txt.ljustF a m (f.cps.getD 0 0)).cps.toList : Nat) : Int) = val (a.cps.toList ++ List.replicate (m - a.length) c) := fun c f hc hg => by
      rw [hg, ljust_sL la, sL_cps, sL_len, sz]
      refine ⟨?_, by omega, fun d hd => ?_, num_is (all c hc)⟩
      · intro e
        have := sz c
        rw [e] at this
        simp at this
        omega
      · have := List.all_eq_true.mp (all c hc) d hd
        have : d = 48 ∨ d = 49 := by simpa [is01] using this
        exact this
    obtain ⟨g1, g2, g3, g4⟩ := one 48 "0" rfl (by decide +kernel)
    obtain ⟨k1, k2, k3, k4⟩ := one 49 "1" rfl (by decide +kernel)
    refine ⟨_, rfl, rfl, _, rfl, _, _, _, rfl, rfl, pad, (by decide +kernel : (("0" : String) : Str).length = 1), _, rfl, g1, g2, g3, ?_⟩
    refine ⟨_, rfl, rfl, _, rfl, _, _, _, rfl, rfl, pad, (by decide +kernel : (("1" : String) : Str).length = 1), _, rfl, k1, k2, k3, ?_⟩
    rw [g4, k4]
    refine ⟨by show 2 ≤ sizeLine; decide, fun t nt => ?_⟩
    have v0 : val (a.cps.toList ++ List.replicate (m - a.length) 48) = val a.cps.toList * 2 ^ (m - a.length) := by
      rw [val_app, val_48, List.length_replicate, Int.add_zero]
    have v1 : val (a.cps.toList ++ List.replicate (m - a.length) 49) = val a.cps.toList * 2 ^ (m - a.length) + 2 ^ (m - a.length) - 1 := by
      rw [val_app, val_49, List.length_replicate]
      omega
    rw [v0, v1]
    exact q t nt
end
end My
namespace My
open PySem PySem.Spec PyProof.Rows L2
/-! ### texts of small signs -/
def As (z : Str) : Prop := ∀ c ∈ z.cps.toList, c < 128
theorem As.app {a b : Str} (h : As a) (g : As b) : As (a ++ b) := fun c hc => by
  have hc : c ∈ (a.cps ++ b.cps).toList := hc
  rw [Array.toList_append, List.mem_append] at hc
  exact hc.elim (h c) (g c)
theorem as_of {z : Str} (h : (z.cps.toList.all fun c => decide (c < 128)) = true) : As z := fun c hc => by simpa using List.all_eq_true.mp h c hc
theorem as_join {s : Str} (hs : As s) : ∀ ts : List Str, (∀ t ∈ ts, As t) → As (Str.join s ts)
  | [], _ => fun c hc => by simp [Str.join, Str.empty] at hc
  | [t], h => by
    have : Str.join s [t] = t := rfl
    rw [this]
    exact h t List.mem_cons_self
  | t :: u :: r, h => by
    have : Str.join s (t :: u :: r) = t ++ s ++ Str.join s (u :: r) := rfl
    rw [this]
    exact ((h t List.mem_cons_self).app hs).app (as_join hs (u :: r) fun v hv => h v (List.mem_cons_of_mem _ hv))
theorem as_from : ∀ (ts : List Str) (k : Nat) (acc : Str), As acc → (∀ t ∈ ts, As t) → As (textFrom k acc ts)
  | [], _, _, h, _ => h
  | t :: r, k, acc, h, g => by
    have : textFrom k acc (t :: r) = textFrom (k + 1) (acc ++ (if k > 0 then ", " else "" : String) ++ t) r := rfl
    rw [this]
    refine as_from r _ _ ((h.app ?_).app (g t List.mem_cons_self)) fun u hu => g u (List.mem_cons_of_mem _ hu)
    split
    · exact as_of (z := ", ") (by decide +kernel)
    · exact as_of (z := "") (by decide +kernel)
theorem as_list {ts : List Str} (h : ∀ t ∈ ts, As t) : As (listText ts) := by
  unfold listText
  exact (as_from ts 0 _ (as_of (z := "[") (by decide +kernel)) h).app (as_of (z := "]") (by decide +kernel))
theorem as_tuple {ts : List Str} (h : ∀ t ∈ ts, As t) : As (tupleText ts) := by
  unfold tupleText
  refine ((as_of (z := "(") (by decide +kernel)).app (as_join (as_of (z := ", ") (by decide +kernel)) ts h)).app ?_
  split
  · exact as_of (z := ",)") (by decide +kernel)
  · exact as_of (z := ")") (by decide +kernel)
theorem as_char : ∀ c, c < 128 → ∀ q, (q = 34 ∨ q = 39) → (Builtin.Str.reprChar q c).all (fun x => decide (x < 128)) = true := by
  intro c hc q hq
  rcases hq with rfl | rfl
  · exact (by decide +kernel : ∀ c, c < 128 → (Builtin.Str.reprChar 34 c).all (fun x => decide (x < 128)) = true) c hc
  · exact (by decide +kernel : ∀ c, c < 128 → (Builtin.Str.reprChar 39 c).all (fun x => decide (x < 128)) = true) c hc
theorem as_repr {z : Str} (h : As z) : As (reprText z) := by
  have hq : reprQuote z = 34 ∨ reprQuote z = 39 := by
    unfold reprQuote
    split
    · exact .inl rfl
    · exact .inr rfl
  have q128 : reprQuote z < 128 := by omega
  have go : ∀ (l : List Nat) (acc : Array Nat), (∀ c ∈ l, c < 128) → (∀ c ∈ acc.toList, c < 128) → ∀ c ∈ (l.foldl (fun out c => out ++ (Builtin.Str.reprChar (reprQuote z) c).toArray) acc).toList, c < 128 := by
    intro l
    induction l with
    | nil => intro acc _ ha; exact ha
    | cons x l ih =>
      intro acc hl ha
      refine ih _ (fun c hc => hl c (List.mem_cons_of_mem _ hc)) fun c hc => ?_
      rw [Array.toList_append, List.mem_append] at hc
      rcases hc with hc | hc
      · exact ha c hc
      · have := as_char x (hl x List.mem_cons_self) _ hq
        simpa using List.all_eq_true.mp this c hc
  intro c hc
  have hc : c ∈ ((z.cps.foldl (fun out c => out ++ (Builtin.Str.reprChar (reprQuote z) c).toArray) #[reprQuote z]).push (reprQuote z)).toList := hc
  rw [Array.toList_push, List.mem_append, ← Array.foldl_toList] at hc
  rcases hc with hc | hc
  · exact go z.cps.toList _ h (fun c hc => by simp at hc; omega) c hc
  · simp at hc
    omega
theorem as_int (i : Int) : As (Str.ofString (toString i)) := fun c hc => by
  by_cases h : c < 128
  · exact h
  · exact absurd hc (int_text_free' c ⟨by omega, by omega⟩ i)
theorem Fl.as {x : V} {d : PyData} (f : Fl x d) : As d.shown := by
  cases f with
  | non => exact as_of (z := "None") (by decide +kernel)
  | bl b =>
    cases b
    · exact as_of (z := "False") (by decide +kernel)
    · exact as_of (z := "True") (by decide +kernel)
  | int i _ => exact as_int i
  | str z _ a => exact as_repr a
theorem fls_as : ∀ {xs : List V} {ds : List PyData}, Paired Fl xs ds → ∀ t ∈ PyData.shownAll ds, As t
  | _, _, .nil => fun t ht => by simp [PyData.shownAll] at ht
  | _, _, .cons f r => fun t ht => by
    rcases List.mem_cons.mp ht with rfl | ht
    · exact f.as
    · exact fls_as r t ht
theorem Td.as {p : Addr} {H : Hp} {x : V} {d : PyData} (t : Td p H x d) : As d.shown := by
  cases t with
  | fl f => exact f.as
  | lst _ _ f _ => exact as_list (fls_as f)
  | tup _ _ f _ => exact as_tuple (fls_as f)
  | nil _ _ => exact as_of (z := "{}") (by decide +kernel)
theorem As.ok {z : Str} (h : As z) : PyData.strOk z = true := by
  unfold PyData.strOk
  rw [← Array.all_toList, List.all_eq_true]
  intro c hc
  have := h c hc
  simp
  omega
end My
namespace My
open PySem PySem.Spec PyProof.Rows L2
theorem errOf_same {mg : Str → Option Value} {x : Str} {cls : Value} {d : Option Addr} {H H' : Hp} {fs : List (Str × V)} (h : Gx.ErrOf mg x cls d H fs) (s : Same H H') : Gx.ErrOf mg x cls d H' fs := let ⟨e, dd, a, c⟩ := h; ⟨e, dd, a, s _ _ c⟩
/-- what is asked of an error of the class x: it is none of seven others, it is one of three, it is of both base classes -/
structure Lone (K : PySem.W.Frag) (mg : Str → Option Value) (x : Str) : Prop where
  er : ∃ qual st, Gx.ErrAt K mg x qual st
  no : ∀ y : Str, (y = "InvalidBox" ∨ y = "InvalidCount" ∨ y = "InvalidKey" ∨ y = "InvalidName" ∨ y = "InvalidPlace" ∨ y = "InvalidPoint" ∨ y = "InvalidText") → PySem.W.kitOne K (.ref (Gx.cl mg x)) (.ref (Gx.cl mg y)) = some false
  one : ∃ b1 b2 b3, PySem.W.kitOne K (.ref (Gx.cl mg x)) (.ref (Gx.cl mg "InvalidBits")) = some b1 ∧ PySem.W.kitOne K (.ref (Gx.cl mg x)) (.ref (Gx.cl mg "InvalidRange")) = some b2 ∧ PySem.W.kitOne K (.ref (Gx.cl mg x)) (.ref (Gx.cl mg "InvalidValue")) = some b3 ∧ [b1, b2, b3].count true = 1
  val : PySem.W.kitOne K (.ref (Gx.cl mg x)) (.type "ValueError") = some true
  cov : PySem.W.kitOne K (.ref (Gx.cl mg x)) (.ref (Gx.cl mg "CoverError")) = some true
def spAlone (K : PySem.W.Frag) (mg : Str → Option Value) (a : Addr) (cls : Value) (d : Option Addr) : Sp := fun vs H Q _ => ∃ x fs, vs = [.ref a] ∧ Lone K mg x ∧ Gx.ErrOf mg x cls d H fs ∧ ∀ H', Same H H' → Q (.bl true) H'
section
variable {P : Program} {w : World} {K : PySem.W.Frag} {mg : Str → Option Value} {base : Heap}
theorem p__law_alone (T : Mo K mg) : Gx.PrP P w K mg base 1 "_law_alone" s__law_alone ["_law_e"] (spAlone K mg) := by
  refine T.d__law_alone.okP sc__law_alone (fun a cls d vs H Q E h => ?_) (fun f cdv A outer s H vs Q p cls d hz hf hr h => ?_)
  · obtain ⟨x, fs, rfl, _⟩ := h
    rfl
  · obtain ⟨x, fs, rfl, L, he, q⟩ := h
    have hu64 : (A.deeper (envOfC "_law_alone" (defScope s__law_alone) s.heap.objs.size f cdv)).units + 64 < cLine := by have := hr.un; omega
    refine ⟨_, (pss_cons (ps_set (i := 1) sc__law_alone.nd rfl (Or.inl rfl) (pe_callB (Gx.call_isP (a := p.1) (oe := p.2) List.mem_cons_self hz hf) (by rfl) T.b_isinstance (by decide +kernel) (pa_cons (pv 0) (pa_cons (pe_tup (pa_cons (Gx.pe_k rfl T.c_InvalidBox.known) (pa_cons (Gx.pe_k rfl T.c_InvalidCount.known) (pa_cons (Gx.pe_k rfl T.c_InvalidKey.known) (pa_cons (Gx.pe_k rfl T.c_InvalidName.known) (pa_cons (Gx.pe_k rfl T.c_InvalidPlace.known) (pa_cons (Gx.pe_k rfl T.c_InvalidPoint.known) (pa_cons (Gx.pe_k rfl T.c_InvalidText.known) pa_nil)))))))) pa_nil))))
      (pss_cons (ps_set (i := 2) sc__law_alone.nd rfl (Or.inl rfl) (pe_lst (pa_cons (pe_callB (Gx.call_isP (a := p.1) (oe := p.2) List.mem_cons_self hz hf) (by rfl) T.b_isinstance (by decide +kernel) (pa_cons (pv 0) (pa_cons (Gx.pe_k rfl T.c_InvalidBits.known) pa_nil))) (pa_cons (pe_callB (Gx.call_isP (a := p.1) (oe := p.2) List.mem_cons_self hz hf) (by rfl) T.b_isinstance (by decide +kernel) (pa_cons (pv 0) (pa_cons (Gx.pe_k rfl T.c_InvalidRange.known) pa_nil))) (pa_cons (pe_callB (Gx.call_isP (a := p.1) (oe := p.2) List.mem_cons_self hz hf) (by rfl) T.b_isinstance (by decide +kernel) (pa_cons (pv 0) (pa_cons (Gx.pe_k rfl T.c_InvalidValue.known) pa_nil))) pa_nil)))))
      (pss_one (ps_ret (pe_and (pe_cmpR op_eq (pe_bm PySem.F.plainAttrs_list PySem.F.slot_list_count PySem.F.type_list_count (Gx.mt_countT hu64) (pv 2) (pa_cons pe_bl pa_nil)) pe_int (nomark _)) (pe_and (pe_not (pv 1)) (pe_and (pe_callB (Gx.call_isP (a := p.1) (oe := p.2) List.mem_cons_self hz hf) (by rfl) T.b_isinstance (by decide +kernel) (pa_cons (pv 0) (pa_cons (pe_bltn (v := .ty "ValueError") rfl T.b_ValueError (by decide +kernel) rfl) pa_nil))) (pe_one (pe_callB (Gx.call_isP (a := p.1) (oe := p.2) List.mem_cons_self hz hf) (by rfl) T.b_isinstance (by decide +kernel) (pa_cons (pv 0) (pa_cons (Gx.pe_k rfl T.c_CoverError.known) pa_nil))))))))))), ?_⟩
    obtain ⟨qual, st, te⟩ := L.er
    obtain ⟨b1, b2, b3, k1, k2, k3, kc⟩ := L.one
    refine ⟨_, rfl, by show 7 ≤ sizeLine; decide, fun tp htp => ?_⟩
    have s1 := Same.upd (o := .tup [.ref (Gx.cl mg "InvalidBox"), .ref (Gx.cl mg "InvalidCount"), .ref (Gx.cl mg "InvalidKey"), .ref (Gx.cl mg "InvalidName"), .ref (Gx.cl mg "InvalidPlace"), .ref (Gx.cl mg "InvalidPoint"), .ref (Gx.cl mg "InvalidText")]) htp
    have he1 := errOf_same he s1
    have seven : PySem.W.kitAny K (.ref (Gx.cl mg x)) [.ref (Gx.cl mg "InvalidBox"), .ref (Gx.cl mg "InvalidCount"), .ref (Gx.cl mg "InvalidKey"), .ref (Gx.cl mg "InvalidName"), .ref (Gx.cl mg "InvalidPlace"), .ref (Gx.cl mg "InvalidPoint"), .ref (Gx.cl mg "InvalidText")] = some false :=
      kitAny_cons (L.no _ (by simp)) (fun _ => kitAny_cons (L.no _ (by simp)) (fun _ => kitAny_cons (L.no _ (by simp)) (fun _ => kitAny_cons (L.no _ (by simp)) (fun _ => kitAny_cons (L.no _ (by simp)) (fun _ => kitAny_cons (L.no _ (by simp)) (fun _ => kitAny_cons (L.no _ (by simp))
        (fun _ => kitAny_nil) nofun) nofun) nofun) nofun) nofun) nofun) nofun
    refine ⟨x, qual, st, fs, _, false, rfl, te, he1, .inr ⟨tp, _, _, rfl, upd_same, .cons (.own _) (.cons (.own _) (.cons (.own _) (.cons (.own _) (.cons (.own _) (.cons (.own _) (.cons (.own _) .nil)))))), seven⟩, ?_⟩
    refine ⟨_, rfl, x, qual, st, fs, _, b1, rfl, te, he1, .inl ⟨_, .own _, k1⟩, _, rfl, x, qual, st, fs, _, b2, rfl, te, he1, .inl ⟨_, .own _, k2⟩, _, rfl, x, qual, st, fs, _, b3, rfl, te, he1, .inl ⟨_, .own _, k3⟩, by show 3 ≤ sizeLine; decide, fun l hl => ?_⟩
    have s2 := Same.upd (o := .lst [.bl b1, .bl b2, .bl b3]) hl
    have he2 := errOf_same he1 s2
    refine ⟨_, rfl, .inl ⟨rfl, _, SqL.of upd_same⟩, l, [b1, b2, b3], rfl, rfl, SqL.of upd_same, rfl, _, rfl, ?_⟩
    rw [kc]
    refine iteT' (decide_eq_true (show V.int ((1 : Nat) : Int) = V.int 1 from rfl)) ⟨_, rfl, _, rfl, _, rfl, ?_⟩
    refine iteT ⟨_, rfl, x, qual, st, fs, _, true, rfl, te, he2, .inl ⟨_, .ty _, L.val⟩, _, rfl, ?_⟩
    exact iteT ⟨_, rfl, x, qual, st, fs, _, true, rfl, te, he2, .inl ⟨_, .own _, L.cov⟩, q _ (s1.trans s2)⟩
end
end My
namespace My
open PySem PySem.Spec PyProof.Rows L2
/-! ### what is told -/
/-- a text or a bool as a value -/
def ofD : PyData → V
  | .str z => .str z
  | .bool b => .bl b
  | _ => .non
def endD (x z : V) : PyData := .tuple [.int (ends x z).1, .int (ends x z).2]
/-- what is due for x and z with these data -/
def due (way : Int) (x z : V) (dx dz : PyData) : List PyData :=
  if isBt z = false then [.str "bits", .str dz.shown, .bool true]
  else if way = 0 then (if isVl x z = false then [.str "value", .str dx.shown, .bool true] else [.str "told", .str (PyData.shown (.list [.str (rngV x z), .str (rngV x z)]))])
  else (if isRg x z = false then [.str "range", .str dx.shown, .bool true] else [.str "told", .str (PyData.shown (.list [endD x z, endD x z]))])
def spTold : Sp := fun vs H Q _ => ∃ (way : Int) (p : Addr) (x z : V) (dx dz : PyData), vs = [.int way, x, z] ∧ Td p H x dx ∧ Td p H z dz ∧ ∀ l H', Same H H' → H' l = some (.lst ((due way x z dx dz).map ofD)) → Q (.ref l) H'
theorem Gds.cons {n k m : Nat} {d : PyData} {ds : List PyData} (g : Gd n d) (h1 : d.hasDict = false) (h2 : d.depth ≤ 18) (r : Gds k m ds) : Gds (n + 1 + k) (m + 1) (d :: ds) := by
  have := g.wt
  have := r.wt
  have := r.dp
  have := r.ln
  refine ⟨by simp [PyData.showableAll, g.sh, r.sh], by simp [PyData.hasDictAll, h1, r.nd], ?_, by simp [PyData.leavesShortAll, g.ls, r.ls], ?_, by rw [List.length_cons]; omega⟩
  · simp only [PyData.depthAll]
    omega
  · simp only [PyData.weightAll]
    omega
theorem ends_small {x z : V} (h : isRg x z = true) : (ends x z).1.natAbs < 10 ^ 100 ∧ (ends x z).2.natAbs < 10 ^ 100 := by
  obtain ⟨a, m, rfl, rfl, m1, m2, ha⟩ := isRg_str h
  show (val a.cps.toList * 2 ^ (m - a.length)).natAbs < _ ∧ (val a.cps.toList * 2 ^ (m - a.length) + 2 ^ (m - a.length) - 1).natAbs < _
  obtain ⟨b0, b1⟩ := val_bound a.cps.toList
  have la := ha.1
  have e : a.cps.toList.length = a.length := by simp [Str.length]
  rw [e] at b1
  have p0 : (0 : Int) < 2 ^ (m - a.length) := Int.pow_pos (by decide)
  have h2 : (val a.cps.toList + 1) * 2 ^ (m - a.length) ≤ 2 ^ a.length * 2 ^ (m - a.length) := Int.mul_le_mul_of_nonneg_right b1 (Int.le_of_lt p0)
  rw [← Int.pow_add, show a.length + (m - a.length) = m by omega, Int.add_mul, Int.one_mul] at h2
  have h1 : 0 ≤ val a.cps.toList * 2 ^ (m - a.length) := Int.mul_nonneg b0 (Int.le_of_lt p0)
  have h3 : (2 : Int) ^ m ≤ 1024 := by
    have : ∀ n : Nat, n ≤ 10 → (2 : Int) ^ n ≤ 1024 := by decide
    exact this m m2
  have big : 1025 < 10 ^ 100 := by decide +kernel
  constructor <;> omega
theorem endD_ok {x z : V} (h : isRg x z = true) : Gds 2000 2 [endD x z, endD x z] ∧ ∀ t ∈ PyData.shownAll [endD x z, endD x z], As t := by
  obtain ⟨h1, h2⟩ := ends_small h
  have f : Paired Fl [.int (ends x z).1, .int (ends x z).2] [.int (ends x z).1, .int (ends x z).2] := .cons (.int _ h1) (.cons (.int _ h2) .nil)
  obtain ⟨g, gd⟩ := fls_gd f
  have g2 := g.tup
  have dp : (endD x z).depth ≤ 18 := by simp [endD, PyData.depth, PyData.depthAll]
  have nd : (endD x z).hasDict = false := by simp [endD, PyData.hasDict, PyData.hasDictAll]
  have nil : Gds 0 0 [] := ⟨by simp [PyData.showableAll], by simp [PyData.hasDictAll], by simp [PyData.depthAll], by simp [PyData.leavesShortAll], by simp [PyData.weightAll], rfl⟩
  have r := Gds.cons (d := endD x z) g2 nd dp (Gds.cons (d := endD x z) g2 nd dp nil)
  refine ⟨⟨r.sh, r.nd, r.dp, r.ls, Nat.le_trans r.wt (by show 401 * 2 + 2 + 3 + 1 + (401 * 2 + 2 + 3 + 1 + 0) ≤ 2000; decide), r.ln⟩, fun t ht => ?_⟩
  simp only [PyData.shownAll, List.mem_cons, List.not_mem_nil, or_false] at ht
  rcases ht with rfl | rfl <;> exact as_tuple (fls_as f)
theorem rngV_fl {x z : V} (h : isVl x z = true) : Fl (.str (rngV x z)) (.str (rngV x z)) := by
  obtain ⟨n, m, rfl, rfl, m1, m2, hn⟩ := isVl_int h
  have d := dg_dig (n : Int) m
  exact .str _ (Nat.le_trans d.1 (Nat.le_trans m2 (by decide))) fun c hc => is01_lt (List.all_eq_true.mp d.2 c hc)
section
variable {P : Program} {w : World} {K : PySem.W.Frag} {mg : Str → Option Value} {base : Heap}
theorem lone_bits (T : Mo K mg) : Lone K mg "InvalidBits" where
  er := ⟨_, _, T.e_InvalidBits⟩
  no := by
    rintro y (rfl | rfl | rfl | rfl | rfl | rfl | rfl)
    · exact T.u_InvalidBits_InvalidBox.one T.c_InvalidBox
    · exact T.u_InvalidBits_InvalidCount.one T.c_InvalidCount
    · exact T.u_InvalidBits_InvalidKey.one T.c_InvalidKey
    · exact T.u_InvalidBits_InvalidName.one T.c_InvalidName
    · exact T.u_InvalidBits_InvalidPlace.one T.c_InvalidPlace
    · exact T.u_InvalidBits_InvalidPoint.one T.c_InvalidPoint
    · exact T.u_InvalidBits_InvalidText.one T.c_InvalidText
  one := ⟨_, _, _, T.u_InvalidBits_InvalidBits.one T.c_InvalidBits, T.u_InvalidBits_InvalidRange.one T.c_InvalidRange, T.u_InvalidBits_InvalidValue.one T.c_InvalidValue, by decide⟩
  val := Gx.kit_blt T.v_InvalidBits_ValueError (by decide +kernel)
  cov := T.u_InvalidBits_CoverError.one T.c_CoverError
theorem lone_range (T : Mo K mg) : Lone K mg "InvalidRange" where
  er := ⟨_, _, T.e_InvalidRange⟩
  no := by
    rintro y (rfl | rfl | rfl | rfl | rfl | rfl | rfl)
    · exact T.u_InvalidRange_InvalidBox.one T.c_InvalidBox
    · exact T.u_InvalidRange_InvalidCount.one T.c_InvalidCount
    · exact T.u_InvalidRange_InvalidKey.one T.c_InvalidKey
    · exact T.u_InvalidRange_InvalidName.one T.c_InvalidName
    · exact T.u_InvalidRange_InvalidPlace.one T.c_InvalidPlace
    · exact T.u_InvalidRange_InvalidPoint.one T.c_InvalidPoint
    · exact T.u_InvalidRange_InvalidText.one T.c_InvalidText
  one := ⟨_, _, _, T.u_InvalidRange_InvalidBits.one T.c_InvalidBits, T.u_InvalidRange_InvalidRange.one T.c_InvalidRange, T.u_InvalidRange_InvalidValue.one T.c_InvalidValue, by decide⟩
  val := Gx.kit_blt T.v_InvalidRange_ValueError (by decide +kernel)
  cov := T.u_InvalidRange_CoverError.one T.c_CoverError
theorem lone_value (T : Mo K mg) : Lone K mg "InvalidValue" where
  er := ⟨_, _, T.e_InvalidValue⟩
  no := by
    rintro y (rfl | rfl | rfl | rfl | rfl | rfl | rfl)
    · exact T.u_InvalidValue_InvalidBox.one T.c_InvalidBox
    · exact T.u_InvalidValue_InvalidCount.one T.c_InvalidCount
    · exact T.u_InvalidValue_InvalidKey.one T.c_InvalidKey
    · exact T.u_InvalidValue_InvalidName.one T.c_InvalidName
    · exact T.u_InvalidValue_InvalidPlace.one T.c_InvalidPlace
    · exact T.u_InvalidValue_InvalidPoint.one T.c_InvalidPoint
    · exact T.u_InvalidValue_InvalidText.one T.c_InvalidText
  one := ⟨_, _, _, T.u_InvalidValue_InvalidBits.one T.c_InvalidBits, T.u_InvalidValue_InvalidRange.one T.c_InvalidRange, T.u_InvalidValue_InvalidValue.one T.c_InvalidValue, by decide⟩
  val := Gx.kit_blt T.v_InvalidValue_ValueError (by decide +kernel)
  cov := T.u_InvalidValue_CoverError.one T.c_CoverError
theorem p__law_told (T : Mo K mg) : Gx.PrG P w K mg base CX0 6 "_law_told" s__law_told ["_law_way", "_law_thing", "_law_many"] spTold := by
  refine T.d__law_told.okG sc__law_told (fun vs H Q E h => ?_) (fun f cdv A outer s H vs Q E hgd hr h => ?_)
  · obtain ⟨way, p, x, z, dx, dz, rfl, _⟩ := h
    rfl
  · obtain ⟨way, p, x, z, dx, dz, rfl, tx, tz, q⟩ := h
    have hu64 := hr.units
    refine ⟨_, (pss_cons (ps_set (i := 3) sc__law_told.nd rfl (Or.inl rfl) (pe_lst (pa_cons pe_str pa_nil)))
      (pss_cons (Gx.ps_try rfl rfl sc__law_told.nd takes0 (fun W pn xe tk po => (pss_one (ps_if (pt_cmpR op_eq (pv 0) pe_int (nomark _)) (pss_one (ps_set (i := 3) sc__law_told.nd rfl (Or.inl rfl) (pe_lst (pa_cons pe_str (pa_cons (pe_callB (Gx.call_reprK (K := K) rfl hgd hu64) (by rfl) T.b_repr (show bootBuiltins "repr" = some (.builtin "repr") by decide +kernel) (pa_cons (pe_lst (pa_cons (Gx.pe_posS (p_range_of T) hr (by decide) (by rfl) b_range_of tk (pa_cons (pv 1) (pa_cons (pv 2) pa_nil))) (pa_cons (Gx.pe_kwS (p_range_of T) hr (by decide) (by rfl) kb_range_of_value_bits tk (pk_cons (pv 1) (pk_cons (pv 2) pk_nil))) pa_nil))) pa_nil)) pa_nil))))) (pss_one (ps_set (i := 3) sc__law_told.nd rfl (Or.inl rfl) (pe_lst (pa_cons pe_str (pa_cons (pe_callB (Gx.call_reprK (K := K) rfl hgd hu64) (by rfl) T.b_repr (show bootBuiltins "repr" = some (.builtin "repr") by decide +kernel) (pa_cons (pe_lst (pa_cons (Gx.pe_posS (p_bounds T) hr (by decide) (by rfl) b_bounds tk (pa_cons (pv 1) (pa_cons (pv 2) pa_nil))) (pa_cons (Gx.pe_kwS (p_bounds T) hr (by decide) (by rfl) kb_bounds_pre_fix_bits tk (pk_cons (pv 1) (pk_cons (pv 2) pk_nil))) pa_nil))) pa_nil)) pa_nil))))))))
      (.as (i := 4) rfl rfl ⟨rfl, by decide, .inl T.c_InvalidBits.g⟩ (fun a oe cls d pn hz hf => (pss_one (ps_set (i := 3) sc__law_told.nd rfl (Or.inl rfl) (pe_lst (pa_cons pe_str (pa_cons (pe_callB (Gx.call_reprK (K := K) rfl hgd hu64) (by rfl) T.b_repr (show bootBuiltins "repr" = some (.builtin "repr") by decide +kernel) (pa_cons (pe_xf T.e_InvalidBits.xf T.f_InvalidBits_value hz hf (pv 4)) pa_nil)) (pa_cons (Gx.pe_posP (p__law_alone T) (Gx.roomM hr) (by decide) List.mem_cons_self hz hf (by rfl) b__law_alone (pa_cons (pv 4) pa_nil)) pa_nil))))))) (.as (i := 4) rfl rfl ⟨rfl, by decide, .inl T.c_InvalidRange.g⟩ (fun a oe cls d pn hz hf => (pss_one (ps_set (i := 3) sc__law_told.nd rfl (Or.inl rfl) (pe_lst (pa_cons pe_str (pa_cons (pe_callB (Gx.call_reprK (K := K) rfl hgd hu64) (by rfl) T.b_repr (show bootBuiltins "repr" = some (.builtin "repr") by decide +kernel) (pa_cons (pe_xf T.e_InvalidRange.xf T.f_InvalidRange_value hz hf (pv 4)) pa_nil)) (pa_cons (Gx.pe_posP (p__law_alone T) (Gx.roomM hr) (by decide) List.mem_cons_self hz hf (by rfl) b__law_alone (pa_cons (pv 4) pa_nil)) pa_nil))))))) (.as (i := 4) rfl rfl ⟨rfl, by decide, .inl T.c_InvalidValue.g⟩ (fun a oe cls d pn hz hf => (pss_one (ps_set (i := 3) sc__law_told.nd rfl (Or.inl rfl) (pe_lst (pa_cons pe_str (pa_cons (pe_callB (Gx.call_reprK (K := K) rfl hgd hu64) (by rfl) T.b_repr (show bootBuiltins "repr" = some (.builtin "repr") by decide +kernel) (pa_cons (pe_xf T.e_InvalidValue.xf T.f_InvalidValue_value hz hf (pv 4)) pa_nil)) (pa_cons (Gx.pe_posP (p__law_alone T) (Gx.roomM hr) (by decide) List.mem_cons_self hz hf (by rfl) b__law_alone (pa_cons (pv 4) pa_nil)) pa_nil))))))) .nil))))
      (pss_one (ps_ret (pv 3))))), ?_⟩
    refine ⟨by show 1 ≤ sizeLine; decide, fun o no => ?_⟩
    have s0 := Same.upd (o := .lst [.str "other"]) no
    have tx0 := tx.kp (same_kp s0)
    have tz0 := tz.kp (same_kp s0)
    have okx := tx.gd.ok (by decide)
    have okz := tz.gd.ok (by decide)
    refine ⟨_, rfl, rfl, _, rfl, ?_⟩
    by_cases cw : V.int way = V.int 0
    · rw [decide_eq_true cw]
      have cw' : way = 0 := V.int.inj cw
      refine iteT ?_
      refine ⟨_, rfl, _, rfl, p, x, z, rfl, tx0.th, tz0.th, fun cz d hd => ?_, fun cz cx d hd => ?_, fun cz cx => ?_⟩
      · have s1 := Same.upd (o := .xd [("value", z)]) hd
        have t1 := tz0.kp (same_kp s1)
        refine ⟨true, T.u_InvalidBits_InvalidBits.exm T.c_InvalidBits, fun _ a ha => ?_, fun z => nomatch z⟩
        refine ⟨_, rfl, rfl, rfl, d, _, z, rfl, upd_same, rfl, _, dz, rfl, t1.dq, okz.1, okz.2.1, okz.2.2.1, okz.2.2.2, ?_⟩
        refine ⟨_, rfl, "InvalidBits", [("value", z)], rfl, lone_bits T, ⟨rfl, d, rfl, upd_same⟩, fun H' s2 => ⟨by show 3 ≤ sizeLine; decide, fun l nl => ⟨_, rfl, ?_⟩⟩⟩
        refine q l _ (((s0.trans s1).trans s2).trans (Same.upd nl)) ?_
        rw [upd_same, due, if_pos cz]
        rfl
      · have s1 := Same.upd (o := .xd [("value", x)]) hd
        have t1 := tx0.kp (same_kp s1)
        refine ⟨false, T.u_InvalidValue_InvalidBits.exm T.c_InvalidBits, (fun z => nomatch z), fun _ => ⟨false, T.u_InvalidValue_InvalidRange.exm T.c_InvalidRange, (fun z => nomatch z), fun _ => ⟨true, T.u_InvalidValue_InvalidValue.exm T.c_InvalidValue, fun _ a ha => ?_, fun z => nomatch z⟩⟩⟩
        refine ⟨_, rfl, rfl, rfl, d, _, x, rfl, upd_same, rfl, _, dx, rfl, t1.dq, okx.1, okx.2.1, okx.2.2.1, okx.2.2.2, ?_⟩
        refine ⟨_, rfl, "InvalidValue", [("value", x)], rfl, lone_value T, ⟨rfl, d, rfl, upd_same⟩, fun H' s2 => ⟨by show 3 ≤ sizeLine; decide, fun l nl => ⟨_, rfl, ?_⟩⟩⟩
        refine q l _ (((s0.trans s1).trans s2).trans (Same.upd nl)) ?_
        rw [upd_same, due, if_neg (by rw [cz]; decide), if_pos cw', if_pos cx]
        rfl
      · have fl := rngV_fl cx
        refine ⟨_, rfl, _, rfl, rfl, p, x, z, rfl, tx0.th, tz0.th, (fun e => by rw [cz] at e; cases e), (fun _ e => by rw [cx] at e; cases e), fun _ _ => ?_⟩
        refine ⟨by show 2 ≤ sizeLine; decide, fun l1 n1 => ?_⟩
        have s1 := Same.upd (o := .lst [.str (rngV x z), .str (rngV x z)]) n1
        have g := ((fls_gd (.cons fl (.cons fl .nil))).1).lst.ok (by show 401 * 2 + 2 + 3 ≤ 50000; decide)
        refine ⟨_, _, rfl, .lst (SqL.of upd_same) (.cons fl.dq (.cons fl.dq .nil)), g.1, g.2.1, g.2.2.1, g.2.2.2, by show 2 ≤ sizeLine; decide, fun l nl => ⟨_, rfl, ?_⟩⟩
        refine q l _ ((s0.trans s1).trans (Same.upd nl)) ?_
        rw [upd_same, due, if_neg (by rw [cz]; decide), if_pos cw', if_neg (by rw [cx]; decide)]
        rfl
    · rw [decide_eq_false cw]
      have cw' : ¬ way = 0 := fun e => cw (by rw [e])
      refine iteF ?_
      refine ⟨_, rfl, _, rfl, p, x, z, rfl, tx0.th, tz0.th, fun cz d hd => ?_, fun cz cx d hd => ?_, fun cz cx t1 n1 => ?_⟩
      · have s1 := Same.upd (o := .xd [("value", z)]) hd
        have t1 := tz0.kp (same_kp s1)
        refine ⟨true, T.u_InvalidBits_InvalidBits.exm T.c_InvalidBits, fun _ a ha => ?_, fun z => nomatch z⟩
        refine ⟨_, rfl, rfl, rfl, d, _, z, rfl, upd_same, rfl, _, dz, rfl, t1.dq, okz.1, okz.2.1, okz.2.2.1, okz.2.2.2, ?_⟩
        refine ⟨_, rfl, "InvalidBits", [("value", z)], rfl, lone_bits T, ⟨rfl, d, rfl, upd_same⟩, fun H' s2 => ⟨by show 3 ≤ sizeLine; decide, fun l nl => ⟨_, rfl, ?_⟩⟩⟩
        refine q l _ (((s0.trans s1).trans s2).trans (Same.upd nl)) ?_
        rw [upd_same, due, if_pos cz]
        rfl
      · have s1 := Same.upd (o := .xd [("value", x)]) hd
        have t1 := tx0.kp (same_kp s1)
        refine ⟨false, T.u_InvalidRange_InvalidBits.exm T.c_InvalidBits, (fun z => nomatch z), fun _ => ⟨true, T.u_InvalidRange_InvalidRange.exm T.c_InvalidRange, fun _ a ha => ?_, fun z => nomatch z⟩⟩
        refine ⟨_, rfl, rfl, rfl, d, _, x, rfl, upd_same, rfl, _, dx, rfl, t1.dq, okx.1, okx.2.1, okx.2.2.1, okx.2.2.2, ?_⟩
        refine ⟨_, rfl, "InvalidRange", [("value", x)], rfl, lone_range T, ⟨rfl, d, rfl, upd_same⟩, fun H' s2 => ⟨by show 3 ≤ sizeLine; decide, fun l nl => ⟨_, rfl, ?_⟩⟩⟩
        refine q l _ (((s0.trans s1).trans s2).trans (Same.upd nl)) ?_
        rw [upd_same, due, if_neg (by rw [cz]; decide), if_neg cw', if_pos cx]
        rfl
      · have st1 := Same.upd (o := .tup [.int (ends x z).1, .int (ends x z).2]) n1
        refine ⟨_, rfl, _, rfl, rfl, p, x, z, rfl, (tx0.kp (same_kp st1)).th, (tz0.kp (same_kp st1)).th, (fun e => by rw [cz] at e; cases e), (fun _ e => by rw [cx] at e; cases e), fun _ _ t2 n2 => ?_⟩
        have st2 := Same.upd (o := .tup [.int (ends x z).1, .int (ends x z).2]) n2
        refine ⟨by show 2 ≤ sizeLine; decide, fun l1 n3 => ?_⟩
        have s1 := Same.upd (o := .lst [.ref t1, .ref t2]) n3
        have g := (endD_ok cx).1.lst.ok (by decide)
        have q1 := s1 _ _ (st2 _ _ upd_same)
        have q2 := s1 _ _ upd_same
        have dq : ∀ (H' : Hp) (t : Addr), H' t = some (.tup [.int (ends x z).1, .int (ends x z).2]) → Gx.Dq K H' (.ref t) (endD x z) := fun H' t h => .tup (SqT.of h) (.cons (.int _) (.cons (.int _) .nil))
        refine ⟨_, .list [endD x z, endD x z], rfl, .lst (SqL.of upd_same) (.cons (dq _ t1 q1) (.cons (dq _ t2 q2) .nil)), g.1, g.2.1, g.2.2.1, g.2.2.2, by show 2 ≤ sizeLine; decide, fun l nl => ⟨_, rfl, ?_⟩⟩
        refine q l _ ((((s0.trans st1).trans st2).trans s1).trans (Same.upd nl)) ?_
        rw [upd_same, due, if_neg (by rw [cz]; decide), if_neg cw', if_neg (by rw [cx]; decide)]
        rfl
end
end My
namespace My
open PySem PySem.Spec PyProof.Rows L2
section
variable {P : Program} {w : World} {K : PySem.W.Frag} {mg : Str → Option Value} {base : Heap}
theorem p__law_due (T : Mo K mg) : Gx.PrG P w K mg base CX0 4 "_law_due" s__law_due ["_law_way", "_law_thing", "_law_many"] spTold := by
  refine T.d__law_due.okG sc__law_due (fun vs H Q E h => ?_) (fun f cdv A outer s H vs Q E hgd hr h => ?_)
  · obtain ⟨way, p, x, z, dx, dz, rfl, _⟩ := h
    rfl
  · obtain ⟨way, p, x, z, dx, dz, rfl, tx, tz, q⟩ := h
    have hu64 := hr.units
    have okx := tx.gd.ok (by decide)
    have okz := tz.gd.ok (by decide)
    refine ⟨_, (pss_cons (ps_if (pt_not (pt_val (Gx.pe_pos (p__law_is_bits T) hr (by decide) (by rfl) b__law_is_bits pass0 (pa_cons (pv 2) pa_nil)))) (pss_one (ps_ret (pe_lst (pa_cons pe_str (pa_cons (pe_callB (Gx.call_reprK (K := K) rfl hgd hu64) (by rfl) T.b_repr (show bootBuiltins "repr" = some (.builtin "repr") by decide +kernel) (pa_cons (pv 2) pa_nil)) (pa_cons pe_bl pa_nil)))))) pss_nil)
      (pss_cons (ps_if (pt_cmpR op_eq (pv 0) pe_int (nomark _)) (pss_cons (ps_if (pt_not (pt_val (Gx.pe_pos (p__law_is_value T) hr (by decide) (by rfl) b__law_is_value pass0 (pa_cons (pv 1) (pa_cons (pv 2) pa_nil))))) (pss_one (ps_ret (pe_lst (pa_cons pe_str (pa_cons (pe_callB (Gx.call_reprK (K := K) rfl hgd hu64) (by rfl) T.b_repr (show bootBuiltins "repr" = some (.builtin "repr") by decide +kernel) (pa_cons (pv 1) pa_nil)) (pa_cons pe_bl pa_nil)))))) pss_nil)
      (pss_one (ps_ret (pe_lst (pa_cons pe_str (pa_cons (pe_callB (Gx.call_reprK (K := K) rfl hgd hu64) (by rfl) T.b_repr (show bootBuiltins "repr" = some (.builtin "repr") by decide +kernel) (pa_cons (pe_op op_rep (pe_lst (pa_cons (Gx.pe_pos (p__law_digits T) hr (by decide) (by rfl) b__law_digits pass0 (pa_cons (pv 1) (pa_cons (pv 2) pa_nil))) pa_nil)) pe_int) pa_nil)) pa_nil)))))) pss_nil)
      (pss_cons (ps_if (pt_not (pt_val (Gx.pe_pos (p__law_is_range T) hr (by decide) (by rfl) b__law_is_range pass0 (pa_cons (pv 1) (pa_cons (pv 2) pa_nil))))) (pss_one (ps_ret (pe_lst (pa_cons pe_str (pa_cons (pe_callB (Gx.call_reprK (K := K) rfl hgd hu64) (by rfl) T.b_repr (show bootBuiltins "repr" = some (.builtin "repr") by decide +kernel) (pa_cons (pv 1) pa_nil)) (pa_cons pe_bl pa_nil)))))) pss_nil)
      (pss_one (ps_ret (pe_lst (pa_cons pe_str (pa_cons (pe_callB (Gx.call_reprK (K := K) rfl hgd hu64) (by rfl) T.b_repr (show bootBuiltins "repr" = some (.builtin "repr") by decide +kernel) (pa_cons (pe_op op_rep (pe_lst (pa_cons (Gx.pe_pos (p__law_ends T) hr (by decide) (by rfl) b__law_ends pass0 (pa_cons (pv 1) (pa_cons (pv 2) pa_nil))) pa_nil)) pe_int) pa_nil)) pa_nil)))))))), ?_⟩
    refine ⟨z, rfl, p, z, rfl, tz.th, _, rfl, ?_⟩
    show if (!isBt z) = true then _ else _
    cases cz : isBt z with
    | false =>
      refine iteT ⟨_, rfl, _, dz, rfl, tz.dq, okz.1, okz.2.1, okz.2.2.1, okz.2.2.2, by show 3 ≤ sizeLine; decide, fun l nl => ?_⟩
      refine q l _ (Same.upd nl) ?_
      rw [upd_same, due, if_pos cz]
      rfl
    | true =>
      refine iteF ⟨_, rfl, rfl, _, rfl, ?_⟩
      by_cases cw : V.int way = V.int 0
      · rw [decide_eq_true cw]
        have cw' : way = 0 := V.int.inj cw
        refine iteT ⟨_, rfl, _, rfl, p, x, z, rfl, tx.th, tz.th, _, rfl, ?_⟩
        show if (!isVl x z) = true then _ else _
        cases cx : isVl x z with
        | false =>
          refine iteT ⟨_, rfl, _, dx, rfl, tx.dq, okx.1, okx.2.1, okx.2.2.1, okx.2.2.2, by show 3 ≤ sizeLine; decide, fun l nl => ?_⟩
          refine q l _ (Same.upd nl) ?_
          rw [upd_same, due, if_neg (by rw [cz]; decide), if_pos cw', if_pos cx]
          rfl
        | true =>
          have fl := rngV_fl cx
          obtain ⟨n, m, rfl, rfl, m1, m2, hn⟩ := isVl_int cx
          refine iteF ⟨_, rfl, _, rfl, (n : Int), m, rfl, Nat.le_trans m2 (by decide), by show 1 ≤ sizeLine; decide, fun e ne => ?_⟩
          refine ⟨_, _, _, rfl, rfl, upd_same, by decide, by decide, by show 1 * 2 ≤ sizeLine; decide, fun c nc => ?_⟩
          have g := ((fls_gd (.cons fl (.cons fl .nil))).1).lst.ok (by show 401 * 2 + 2 + 3 ≤ 50000; decide)
          refine ⟨_, _, rfl, .lst (SqL.of upd_same) (.cons fl.dq (.cons fl.dq .nil)), g.1, g.2.1, g.2.2.1, g.2.2.2, by show 2 ≤ sizeLine; decide, fun l nl => ?_⟩
          refine q l _ (((Same.upd ne).trans (Same.upd nc)).trans (Same.upd nl)) ?_
          rw [upd_same, due, if_neg (by rw [cz]; decide), if_pos cw', if_neg (by rw [cx]; decide)]
          rfl
      · rw [decide_eq_false cw]
        have cw' : ¬ way = 0 := fun e => cw (by rw [e])
        refine iteF ⟨_, rfl, _, rfl, p, x, z, rfl, tx.th, tz.th, fun H1 s1 => ⟨_, rfl, ?_⟩⟩
        show if (!isRg x z) = true then _ else _
        cases cx : isRg x z with
        | false =>
          refine iteT ⟨_, rfl, _, dx, rfl, (tx.kp (same_kp s1)).dq, okx.1, okx.2.1, okx.2.2.1, okx.2.2.2, by show 3 ≤ sizeLine; decide, fun l nl => ?_⟩
          refine q l _ (s1.trans (Same.upd nl)) ?_
          rw [upd_same, due, if_neg (by rw [cz]; decide), if_neg cw', if_pos cx]
          rfl
        | true =>
          have g := (endD_ok cx).1.lst.ok (by decide)
          obtain ⟨a, m, rfl, rfl, m1, m2, ha⟩ := isRg_str cx
          refine iteF ⟨_, rfl, _, rfl, a, m, rfl, m2, ha, fun t nt => ⟨by show 1 ≤ sizeLine; decide, fun e ne => ?_⟩⟩
          have st := Same.upd (o := .tup [.int (ends (.str a) (.int m)).1, .int (ends (.str a) (.int m)).2]) nt
          have se := Same.upd (o := .lst [.ref t]) ne
          refine ⟨_, _, _, rfl, rfl, upd_same, by decide, by decide, by show 1 * 2 ≤ sizeLine; decide, fun c nc => ?_⟩
          have sc := Same.upd (o := .lst [.ref t, .ref t]) nc
          have ht := sc _ _ (se _ _ (upd_same (H := H1) (a := t) (o := .tup [.int (ends (.str a) (.int m)).1, .int (ends (.str a) (.int m)).2])))
          have dq : ∀ H' : Hp, H' t = some (.tup [.int (ends (.str a) (.int m)).1, .int (ends (.str a) (.int m)).2]) → Gx.Dq K H' (.ref t) (endD (.str a) (.int m)) := fun H' h => .tup (SqT.of h) (.cons (.int _) (.cons (.int _) .nil))
          refine ⟨_, .list [endD (.str a) (.int m), endD (.str a) (.int m)], rfl, .lst (SqL.of upd_same) (.cons (dq _ ht) (.cons (dq _ ht) .nil)), g.1, g.2.1, g.2.2.1, g.2.2.2, by show 2 ≤ sizeLine; decide, fun l nl => ?_⟩
          refine q l _ (((s1.trans st).trans se).trans (sc.trans (Same.upd nl))) ?_
          rw [upd_same, due, if_neg (by rw [cz]; decide), if_neg cw', if_neg (by rw [cx]; decide)]
          rfl
end
end My
namespace My
open PySem PySem.Spec PyProof.Rows L2
/-! ### comparing what is told -/
theorem ofD_dp {K : PySem.W.Frag} {H : Hp} : ∀ ds : List PyData, (∀ d ∈ ds, (∃ z, d = .str z) ∨ ∃ b, d = .bool b) → DpAll K H (ds.map ofD) ds
  | [], _ => .nil
  | d :: ds, h => by
    refine .cons ?_ (ofD_dp ds fun e he => h e (List.mem_cons_of_mem _ he))
    rcases h d List.mem_cons_self with ⟨z, rfl⟩ | ⟨b, rfl⟩
    · exact .str z
    · exact .bl b
theorem due_kinds (way : Int) (x z : V) (dx dz : PyData) : ∀ d ∈ due way x z dx dz, (∃ z, d = .str z) ∨ ∃ b, d = .bool b := by
  unfold due
  intro d hd
  split at hd
  · simp only [List.mem_cons, List.not_mem_nil, or_false] at hd
    rcases hd with rfl | rfl | rfl <;> simp
  · split at hd
    · split at hd
      · simp only [List.mem_cons, List.not_mem_nil, or_false] at hd
        rcases hd with rfl | rfl | rfl <;> simp
      · simp only [List.mem_cons, List.not_mem_nil, or_false] at hd
        rcases hd with rfl | rfl <;> simp
    · split at hd
      · simp only [List.mem_cons, List.not_mem_nil, or_false] at hd
        rcases hd with rfl | rfl | rfl <;> simp
      · simp only [List.mem_cons, List.not_mem_nil, or_false] at hd
        rcases hd with rfl | rfl <;> simp
theorem due_shaped {way : Int} {p : Addr} {H : Hp} {x z : V} {dx dz : PyData} (tx : Td p H x dx) (tz : Td p H z dz) : SeqAt.shaped (.list (due way x z dx dz)) = true := by
  have h1 : PyData.strOk "bits" = true := by decide +kernel
  have h2 : PyData.strOk "range" = true := by decide +kernel
  have h3 : PyData.strOk "told" = true := by decide +kernel
  have h4 : PyData.strOk "value" = true := by decide +kernel
  have := tx.as.ok
  have := tz.as.ok
  unfold due SeqAt.shaped
  split
  · simp [PyData.canLay0, PyData.canLayAll0, PyData.depth, PyData.depthAll, *]
  · split
    · split
      · simp [PyData.canLay0, PyData.canLayAll0, PyData.depth, PyData.depthAll, *]
      · have cx : isVl x z = true := by simpa using ‹¬ isVl x z = false›
        have fl := rngV_fl cx
        have : PyData.strOk (PyData.shown (.list [.str (rngV x z), .str (rngV x z)])) = true := (as_list (fls_as (.cons fl (.cons fl .nil)))).ok
        simp [PyData.canLay0, PyData.canLayAll0, PyData.depth, PyData.depthAll, *]
    · split
      · simp [PyData.canLay0, PyData.canLayAll0, PyData.depth, PyData.depthAll, *]
      · have cx : isRg x z = true := by simpa using ‹¬ isRg x z = false›
        have : PyData.strOk (PyData.shown (.list [endD x z, endD x z])) = true := (as_list (endD_ok cx).2).ok
        simp [PyData.canLay0, PyData.canLayAll0, PyData.depth, PyData.depthAll, *]
theorem due_eqv (way : Int) (x z : V) (dx dz : PyData) : PyData.eqv (.list (due way x z dx dz)) (.list (due way x z dx dz)) = true := by
  unfold due
  split
  · simp [PyData.eqv, PyData.eqvAll]
  · split
    · split <;> simp [PyData.eqv, PyData.eqvAll]
    · split <;> simp [PyData.eqv, PyData.eqvAll]
theorem Dig.asc {m : Nat} {z : Str} (h : Dig m z) : As z := fun c hc => is01_lt (List.all_eq_true.mp h.2 c hc)
theorem Dig.fl {m : Nat} {z : Str} (h : Dig m z) (l : m ≤ 100) : Fl (.str z) (.str z) := .str z (Nat.le_trans h.1 l) h.asc
theorem cut_dig {m : Nat} {z : Str} (h : Dig m z) (lo hi : Option Int) : Dig m (cutS z lo hi) := by
  refine ⟨?_, ?_⟩
  · have : (cutS z lo hi).length ≤ z.length := by
      unfold cutS
      simp only [Str.length, List.size_toArray, List.length_take, List.length_drop, Array.length_toList]
      omega
    exact Nat.le_trans this h.1
  · unfold cutS
    rw [List.all_eq_true]
    intro c hc
    simp only at hc
    exact List.all_eq_true.mp h.2 c (List.mem_of_mem_drop (List.mem_of_mem_take hc))
theorem mul_0 : Txt.mul "0" 10 = "0000000000" := by decide +kernel
theorem mulOk_0 : MulOk "0" 10 := by
  unfold MulOk
  have e1 : (("0" : String) : Str).length = 1 := by decide +kernel
  rw [e1]
  exact ⟨by decide, fun _ _ => by decide, fun _ _ => by decide +kernel⟩
theorem val_dg : ∀ (m : Nat) (n : Int), 0 ≤ n → n < 2 ^ m → val (dg n m) = n
  | 0, n, h0, h1 => by
    have : n = 0 := by
      rw [Int.pow_zero] at h1
      omega
    rw [this]
    rfl
  | m + 1, n, h0, h1 => by
    rw [dg_snoc, val_snoc, val_dg m (n / 2) (by omega) (by rw [Int.pow_succ] at h1; omega)]
    have h2 : n % 2 = 0 ∨ n % 2 = 1 := by omega
    rcases h2 with e | e
    · rw [e, if_neg (by decide)]
      omega
    · rw [e, if_pos (by decide)]
      omega
theorem ends_full {n m : Nat} (h : n < 2 ^ m) : ends (.str (rngV (.int n) (.int m))) (.int m) = ((n : Int), (n : Int)) := by
  show (val (sL (dg n m)).cps.toList * 2 ^ (m - (sL (dg n m)).length), val (sL (dg n m)).cps.toList * 2 ^ (m - (sL (dg n m)).length) + 2 ^ (m - (sL (dg n m)).length) - 1) = _
  rw [sL_cps, sL_len, dg_len, Nat.sub_self, Int.pow_zero, val_dg m n (by omega) (by exact_mod_cast h), Int.mul_one, Int.add_sub_cancel]
section
variable {P : Program} {w : World} {K : PySem.W.Frag} {mg : Str → Option Value} {base : Heap}
def spLaw (K : PySem.W.Frag) : Sp := fun vs H Q _ => ∃ (a : Addr) (ns : List Int), vs = [.ref a] ∧ SqL K H a (ns.map V.int) ∧ ns.length ≤ 63 ∧ ∀ H', Q (.bl true) H'
theorem p_law (T : Mo K mg) : Gx.PrG P w K mg base CX0 7 "law" s_law ["_law_script"] (spLaw K) := by
  refine T.d_law.okG sc_law (fun vs H Q E h => ?_) (fun f cdv A outer s H vs Q E hgd hr h => ?_)
  · obtain ⟨a, ns, rfl, _⟩ := h
    rfl
  · obtain ⟨a, ns, rfl, hS, hl, q⟩ := h
    have hu64 := hr.units
    refine ⟨_, (pss_cons (ps_for PassesOwn.never rfl (pi_range1 (by rfl) T.b_range (pa_cons (pe_callB (call_max2 rfl) (by rfl) T.b_max (by decide +kernel) (pa_cons pe_int (pa_cons (pe_callB (call_min2 rfl) (by rfl) T.b_min (by decide +kernel) (pa_cons (pe_callB call_len_seq (by rfl) T.b_len (by decide +kernel) (pa_cons (pv 0) pa_nil)) (pa_cons pe_int pa_nil))) pa_nil))) pa_nil)) (pg_name (i := 1) sc_law.nd rfl (Or.inl rfl)) (pss_cons (ps_set (i := 2) sc_law.nd rfl (Or.inl rfl) (Gx.pe_pos (p__law_rng T) hr (by decide) (by rfl) b__law_rng pass0 (pa_cons (pv 0) (pa_cons (pv 1) pa_nil))))
      (pss_one (ps_for PassesOwn.never rfl (pi_range1 (by rfl) T.b_range (pa_cons pe_int pa_nil)) (pg_name (i := 3) sc_law.nd rfl (Or.inl rfl)) (pss_cons (ps_set (i := 4) sc_law.nd rfl (Or.inl rfl) (pe_op op_add pe_int (Gx.pe_pos (p__law_draw T) hr (by decide) (by rfl) b__law_draw pass0 (pa_cons (pv 2) (pa_cons pe_int pa_nil)))))
      (pss_cons (ps_set (i := 5) sc_law.nd rfl (Or.inl rfl) (Gx.pe_pos (p__law_draw T) hr (by decide) (by rfl) b__law_draw pass0 (pa_cons (pv 2) (pa_cons (Gx.pe_pos (p__law_power T) hr (by decide) (by rfl) b__law_power pass0 (pa_cons (pv 4) pa_nil)) pa_nil))))
      (pss_cons (ps_set (i := 6) sc_law.nd rfl (Or.inl rfl) (pe_slice sl_str (Gx.pe_pos (p__law_digits T) hr (by decide) (by rfl) b__law_digits pass0 (pa_cons (pv 5) (pa_cons (pv 4) pa_nil))) po_none (po_some (Gx.pe_pos (p__law_draw T) hr (by decide) (by rfl) b__law_draw pass0 (pa_cons (pv 2) (pa_cons (pe_op op_add (pv 4) pe_int) pa_nil))))))
      (pss_cons (ps_if (pt_cmpR (op_neD hu64) (Gx.pe_pos (E := E0) (p_bounds T) hr (by decide) (by rfl) b_bounds passL (pa_cons (Gx.pe_pos (E := E0) (p_range_of T) hr (by decide) (by rfl) b_range_of passL (pa_cons (pv 5) (pa_cons (pv 4) pa_nil))) (pa_cons (pv 4) pa_nil))) (pe_tup (pa_cons (pv 5) (pa_cons (pv 5) pa_nil))) (nomark _)) (pss_one (ps_ret pe_bl)) pss_nil)
      (pss_cons (ps_set (i := 7) sc_law.nd rfl (Or.inl rfl) (Gx.pe_pos (p__law_draw T) hr (by decide) (by rfl) b__law_draw pass0 (pa_cons (pv 2) (pa_cons pe_int pa_nil))))
      (Evl.pss_cut (ps_if (pt_cmpR op_eq (pv 7) pe_int (nomark _)) (pss_one (ps_set (i := 4) sc_law.nd rfl (Or.inl rfl) (Gx.pe_pos (p__law_odd T) hr (by decide) (by rfl) b__law_odd pass0 (pa_cons (pv 2) pa_nil)))) pss_nil)
      (Evl.pss_cut (ps_if (PW.pt (pw_and (pt_cmpR op_in_seq (pv 7) (pe_tup (pa_cons pe_int (pa_cons pe_int pa_nil))) (by rfl)) (pw_and1 (pt_cmpR op_eq (Gx.pe_pos (p__law_draw T) hr (by decide) (by rfl) b__law_draw pass0 (pa_cons (pv 2) (pa_cons pe_int pa_nil))) pe_int (nomark _))))) (pss_cons (ps_set (i := 5) sc_law.nd rfl (Or.inl rfl) (Gx.pe_pos (p__law_choice T) hr (by decide) (by rfl) b__law_choice pass0 (pa_cons (pv 2) (pa_cons (pe_lst (pa_cons (Gx.pe_pos (p__law_odd T) hr (by decide) (by rfl) b__law_odd pass0 (pa_cons (pv 2) pa_nil)) (pa_cons pe_int (pa_cons (pe_un un_neg pe_int) (pa_cons (pe_op op_add (pv 5) pe_int) (pa_cons (pe_op op_pow pe_int pe_int) pa_nil)))))) pa_nil))))
      (pss_one (ps_set (i := 6) sc_law.nd rfl (Or.inl rfl) (Gx.pe_pos (p__law_choice T) hr (by decide) (by rfl) b__law_choice pass0 (pa_cons (pv 2) (pa_cons (pe_lst (pa_cons (Gx.pe_pos (p__law_odd T) hr (by decide) (by rfl) b__law_odd pass0 (pa_cons (pv 2) pa_nil)) (pa_cons (pe_op op_add_str (pv 6) (pe_op Gx.op_repS pe_str pe_int)) (pa_cons (pe_op op_add_str (pv 6) pe_str) (pa_cons (pe_op op_add_str pe_str (pv 6)) (pa_cons pe_str pa_nil)))))) pa_nil)))))) pss_nil)
      (pss_cons (ps_if (pt_cmpR (op_neD hu64) (Gx.pe_posG hgd (p__law_told T) hr (by decide) (by rfl) b__law_told pass0 (pa_cons pe_int (pa_cons (pv 5) (pa_cons (pv 4) pa_nil)))) (Gx.pe_posG hgd (p__law_due T) hr (by decide) (by rfl) b__law_due pass0 (pa_cons pe_int (pa_cons (pv 5) (pa_cons (pv 4) pa_nil)))) (nomark _)) (pss_one (ps_ret pe_bl)) pss_nil)
      (pss_one (ps_if (pt_cmpR (op_neD hu64) (Gx.pe_posG hgd (p__law_told T) hr (by decide) (by rfl) b__law_told pass0 (pa_cons pe_int (pa_cons (pv 6) (pa_cons (pv 4) pa_nil)))) (Gx.pe_posG hgd (p__law_due T) hr (by decide) (by rfl) b__law_due pass0 (pa_cons pe_int (pa_cons (pv 6) (pa_cons (pv 4) pa_nil)))) (nomark _)) (pss_one (ps_ret pe_bl)) pss_nil))))))))))))))
      (pss_one (ps_ret pe_bl))), ?_⟩
    have top : ∃ m : Nat, m ≤ 8 ∧ (if (if (8 : Int) < ((ns.map V.int).length : Int) then (8 : Int) else ((ns.map V.int).length : Int)) > 1 then (if (8 : Int) < ((ns.map V.int).length : Int) then (8 : Int) else ((ns.map V.int).length : Int)) else 1) = (m : Int) := by
      rw [List.length_map]
      refine ⟨(if (if (8 : Int) < (ns.length : Int) then (8 : Int) else (ns.length : Int)) > 1 then (if (8 : Int) < (ns.length : Int) then (8 : Int) else (ns.length : Int)) else 1).toNat, ?_, ?_⟩ <;> split <;> split <;> omega
    obtain ⟨m, hm, em⟩ := top
    refine ⟨_, rfl, a, _, rfl, .inl hS, _, _, rfl, _, _, rfl, (m : Int), by rw [← em], by omega, by omega, ?_⟩
    rw [Int.toNat_natCast]
    refine for_range (lo := 0) (n := m) (fun i σ H' => Same H H' ∧ ∃ t1 t2 t3 t4 t5 t6 t7, σ = [some (.ref a), t1, t2, t3, t4, t5, t6, t7]) ⟨Same.refl H, _, _, _, _, _, _, _, rfl⟩ (fun i σ H1 hi h => ?_) fun σ H1 h => ?_
    · obtain ⟨s1, t1, t2, t3, t4, t5, t6, t7, rfl⟩ := h
      refine ⟨_, rfl, _, rfl, a, ns, i, by rw [Int.zero_add]; rfl, s1.seq hS, by omega, fun p H2 np R2 s2 => ?_⟩
      have s12 := s1.trans s2
      have npH : ∀ b o, H b = some o → b ≠ p := fun b o e z => by
        have := s1 b o e
        rw [z, np] at this
        cases this
      have kpS : ∀ {H3 H4 : Hp}, Same H H3 → Kp p H3 H4 → Same H H4 := fun s k b o e => k b o (npH b o e) (s b o e)
      refine ⟨12, rfl, by decide, by decide, ?_⟩
      refine for_range (lo := 0) (n := 12) (fun j σ H' => Rng p H' ∧ Same H H' ∧ ∃ t3 t4 t5 t6 t7, σ = [some (.ref a), some (.int (0 + (i : Int))), some (.ref p), t3, t4, t5, t6, t7]) ⟨R2, s12, _, _, _, _, _, rfl⟩ (fun j σ H3 hj h => ?_) fun σ H3 h => ?_
      · obtain ⟨R3, s3, t3, t4, t5, t6, t7, rfl⟩ := h
        refine ⟨_, rfl, p, _, rfl, R3, by decide, by decide, fun r H4 r0 r1 R4 k4 => ⟨_, _, rfl, rfl, ?_⟩⟩
        obtain ⟨m, em1⟩ : ∃ m : Nat, (1 : Int) + r = (m : Int) := ⟨(1 + r).toNat, by omega⟩
        have m1 : 1 ≤ m := by omega
        have m2 : m ≤ 10 := by omega
        have ez : V.int (1 + r) = V.int m := by rw [em1]
        have p2 : (2 : Int) ^ m ≤ 1024 := by
          have : ∀ n : Nat, n ≤ 10 → (2 : Int) ^ n ≤ 1024 := by decide
          exact this _ m2
        have tb : ∀ H', Td p H' (.int (1 + r)) (.int (1 + r)) := fun H' => .fl (.int _ (Nat.lt_of_lt_of_le (show _ < 100 by omega) (by decide +kernel)))
        refine ⟨_, rfl, _, rfl, m, by rw [← em1]; rfl, by omega, p, _, rfl, R4, Int.pow_pos (by decide), by omega, fun n H5 n0 n1 R5 k5 => ?_⟩
        obtain ⟨n, rfl⟩ : ∃ k : Nat, n = (k : Int) := ⟨n.toNat, by omega⟩
        have hn : n < 2 ^ m := by exact_mod_cast n1
        have dn := dg_dig (n : Int) m
        refine ⟨_, rfl, _, rfl, n, m, by rw [← em1]; rfl, by omega, ?_⟩
        refine ⟨_, rfl, _, rfl, _, _, rfl, rfl, p, _, rfl, R5, by omega, by omega, fun r2 H6 _ _ R6 k6 => ?_⟩
        refine ⟨_, rfl, _, rfl, Nat.le_trans dn.1 (Nat.le_trans m2 (by decide)), ?_⟩
        have dx := cut_dig dn none (some r2)
        have isb : isBt (.int (m : Int)) = true := by
          show (decide (1 ≤ (m : Int)) && decide ((m : Int) ≤ 10)) = true
          rw [decide_eq_true (by omega), decide_eq_true (by omega)]
          rfl
        have isv : isVl (.int n) (.int (m : Int)) = true := by
          show ((decide (1 ≤ (m : Int)) && decide ((m : Int) ≤ 10)) && (decide (0 ≤ (n : Int)) && decide ((n : Int) < 2 ^ m))) = true
          rw [decide_eq_true (by omega), decide_eq_true (by omega), decide_eq_true (by omega), decide_eq_true n1]
          rfl
        have isr : isRg (.str (rngV (.int n) (.int m))) (.int (m : Int)) = true := by
          show ((decide (1 ≤ (m : Int)) && decide ((m : Int) ≤ 10)) && (decide (((sL (dg n m)).length : Int) ≤ m) && (sL (dg n m)).cps.toList.all is01)) = true
          have := dn.1
          rw [decide_eq_true (by omega), decide_eq_true (by omega), decide_eq_true (by omega), dn.2]
          rfl
        have thm : Th p H6 (.int (m : Int)) := .int _
        refine ⟨_, rfl, _, rfl, p, .int n, .int m, by rw [← em1]; rfl, .int _, thm, (fun e => by rw [isb] at e; cases e), (fun _ e => by rw [isv] at e; cases e), fun _ _ => ?_⟩
        refine ⟨_, rfl, p, .str (rngV (.int n) (.int m)), .int m, by rw [← em1]; rfl, (dn.th (by omega) p H6), thm, (fun e => by rw [isb] at e; cases e), (fun _ e => by rw [isr] at e; cases e), fun _ _ t nt => ?_⟩
        rw [ends_full hn]
        have st := Same.upd (o := .tup [.int n, .int n]) nt
        refine ⟨_, rfl, _, rfl, by show 2 ≤ sizeLine; decide, fun t2 nt2 => ?_⟩
        have st2 := Same.upd (o := .tup [.int n, .int n]) nt2
        have R7 := (R6.same st).same st2
        have k67 := (same_kp (p := p) st).trans (same_kp st2)
        refine ⟨.tuple [.int n, .int n], .tuple [.int n, .int n], .tup (SqT.of (st2 _ _ upd_same)) (.cons (.int _) (.cons (.int _) .nil)), .tup (SqT.of upd_same) (.cons (.int _) (.cons (.int _) .nil)), by simp [SeqAt.shaped, PyData.canLay0, PyData.canLayAll0, PyData.depth, PyData.depthAll],
          by simp [SeqAt.shaped, PyData.canLay0, PyData.canLayAll0, PyData.depth, PyData.depthAll], _, rfl, ?_⟩
        rw [show PyData.eqv (.tuple [.int n, .int n]) (.tuple [.int n, .int n]) = true by simp [PyData.eqv, PyData.eqvAll]]
        refine iteF ?_
        refine ⟨_, rfl, p, _, rfl, R7, by decide, by decide, fun v H8 v0 v1 R8 k8 => ?_⟩
        have s8 := kpS (kpS (kpS (kpS (kpS s3 k4) k5) k6) k67) k8
        have tn : ∀ H', Td p H' (.int n) (.int n) := fun H' => .fl (.int _ (Nat.lt_of_lt_of_le (show (n : Int).natAbs < 2000 by omega) (by decide +kernel)))
        generalize hx : cutS (sL (dg n m)) none (some r2) = x at *
        have sx : x.length ≤ 10 := Nat.le_trans dx.1 m2
        refine ⟨fun σ H' => Rng p H' ∧ Same H H' ∧ ∃ u du, Td p H' u du ∧ σ = [some (.ref a), some (.int (0 + (i : Int))), some (.ref p), some (.int (0 + (j : Int))), some u, some (.int n), some (.str x), some (.int v)], ?_, fun σ H9 h => ?_⟩
        · refine ⟨_, rfl, rfl, _, rfl, ?_⟩
          by_cases c : V.int v = V.int 0
          · rw [decide_eq_true c]
            exact iteT ⟨_, rfl, p, rfl, R8, fun u du H8 tu R8 k9 => ⟨R8, kpS s8 k9, _, _, tu, rfl⟩⟩
          · rw [decide_eq_false c]
            exact iteF ⟨R8, s8, _, _, tb _, rfl⟩
        obtain ⟨R9, s9, u, du, tu, rfl⟩ := h
        refine ⟨fun σ H' => Rng p H' ∧ Same H H' ∧ ∃ l dl g dg', Td p H' l dl ∧ Td p H' g dg' ∧ Td p H' u du ∧ σ = [some (.ref a), some (.int (0 + (i : Int))), some (.ref p), some (.int (0 + (j : Int))), some u, some l, some g, some (.int v)], ?_, fun σ H10 h => ?_⟩
        · refine ⟨_, rfl, by show 2 ≤ sizeLine; decide, fun t nt => ?_⟩
          have st := Same.upd (o := .tup [.int 0, .int 1]) nt
          refine ⟨t, _, rfl, .inr (SqT.of upd_same), rfl, rfl, _, rfl, ?_⟩
          have Rt := R9.same st
          cases inV (.int v) [.int 0, .int 1] with
          | false => exact iteF ⟨Rt, s9.trans st, _, _, _, _, tn _, .fl (dx.fl (by omega)), tu.kp (same_kp st), rfl⟩
          | true =>
            refine iteT ⟨_, rfl, p, _, rfl, Rt, by decide, by decide, fun r3 H10 _ _ R10 k10 => ⟨rfl, _, rfl, ?_⟩⟩
            have s10 := kpS (s9.trans st) k10
            have tu10 := (tu.kp (same_kp st)).kp k10
            by_cases c : V.int r3 = V.int 0
            · rw [decide_eq_true c]
              refine iteT ?_
              refine ⟨_, rfl, _, rfl, p, rfl, R10, fun o do_ H11 to R11 k11 => ?_⟩
              refine ⟨_, rfl, _, rfl, _, _, rfl, rfl, _, _, rfl, rfl, ⟨by decide, by decide, by decide⟩, by show 5 ≤ sizeLine; decide, fun e ne => ?_⟩
              have se := same_kp (p := p) (Same.upd (o := .lst [o, .int 1024, .int (-1), .int ((n : Int) + 2048), .int (10 ^ (29 : Int).toNat)]) ne)
              have Re := R11.same (Same.upd (o := .lst [o, .int 1024, .int (-1), .int ((n : Int) + 2048), .int (10 ^ (29 : Int).toNat)]) ne)
              refine ⟨p, e, _, rfl, Re, R11.ne ne, upd_same, by show 0 < 5; decide, by show 5 ≤ 1000; decide, fun w1 H12 hw1 R12 k12 => ?_⟩
              have tw : ∃ d, Td p H12 w1 d := by
                simp only [List.mem_cons, List.not_mem_nil, or_false] at hw1
                rcases hw1 with rfl | rfl | rfl | rfl | rfl
                · exact ⟨_, to.kp (se.trans k12)⟩
                · exact ⟨_, .fl (.int _ (by decide +kernel))⟩
                · exact ⟨_, .fl (.int _ (by decide +kernel))⟩
                · exact ⟨_, .fl (.int _ (Nat.lt_of_lt_of_le (show ((n : Int) + 2048).natAbs < 4000 by omega) (by decide +kernel)))⟩
                · exact ⟨_, .fl (.int _ (by decide +kernel))⟩
              obtain ⟨dw, tw⟩ := tw
              have s12 := kpS s10 ((k11.trans se).trans k12)
              have tu12 := tu10.kp ((k11.trans se).trans k12)
              refine ⟨_, rfl, _, rfl, p, rfl, R12, fun o' do' H13 to' R13 k13 => ?_⟩
              refine ⟨_, rfl, _, _, rfl, rfl, mulOk_0, _, _, rfl, rfl, ?_, _, rfl, _, _, rfl, rfl, ?_, _, rfl, _, _, rfl, rfl, ?_, by show 5 ≤ sizeLine; decide, fun e' ne' => ?_⟩
              · rw [mul_0]
                exact Nat.le_trans (show _ + 10 ≤ 50 by omega) (by decide)
              · exact Nat.le_trans (show _ + 1 ≤ 50 by omega) (by decide)
              · exact Nat.le_trans (show 1 + _ ≤ 50 by omega) (by decide)
              have se' := same_kp (p := p) (Same.upd (o := .lst [o', .str (x ++ Txt.mul "0" 10), .str (x ++ "2"), .str (" " ++ x), .str "x"]) ne')
              have Re' := R13.same (Same.upd (o := .lst [o', .str (x ++ Txt.mul "0" 10), .str (x ++ "2"), .str (" " ++ x), .str "x"]) ne')
              refine ⟨p, e', _, rfl, Re', R13.ne ne', upd_same, by show 0 < 5; decide, by show 5 ≤ 1000; decide, fun w2 H14 hw2 R14 k14 => ?_⟩
              have kk := (k13.trans se').trans k14
              suffices z : ∃ d, Td p H14 w2 d from let ⟨d, z⟩ := z; ⟨R14, kpS s12 kk, w1, dw, w2, d, tw.kp kk, z, tu12.kp kk, rfl⟩
              simp only [List.mem_cons, List.not_mem_nil, or_false] at hw2
              rcases hw2 with rfl | rfl | rfl | rfl | rfl
              · exact ⟨_, to'.kp (se'.trans k14)⟩
              · refine ⟨_, .fl (.str _ ?_ ?_)⟩
                · rw [mul_0, Str.length_append]
                  exact (show x.length + 10 ≤ 100 by omega)
                · rw [mul_0]
                  exact dx.asc.app (as_of (by decide +kernel))
              · refine ⟨_, .fl (.str _ ?_ ?_)⟩
                · rw [Str.length_append]
                  exact (show x.length + 1 ≤ 100 by omega)
                · exact dx.asc.app (as_of (by decide +kernel))
              · refine ⟨_, .fl (.str _ ?_ ?_)⟩
                · rw [Str.length_append]
                  exact (show 1 + x.length ≤ 100 by omega)
                · exact (as_of (z := " ") (by decide +kernel)).app dx.asc
              · exact ⟨_, .fl (str_small (by decide +kernel))⟩
            · rw [decide_eq_false c]
              exact iteF ⟨R10, s10, _, _, _, _, tn _, .fl (dx.fl (by omega)), tu10, rfl⟩
        obtain ⟨R10, s10, l, dl, g, dgg, tl, tg, tu, rfl⟩ := h
        refine ⟨_, rfl, _, rfl, 0, p, l, u, _, _, rfl, tl, tu, fun o1 H11 s11 h11 => ?_⟩
        have k11 := same_kp (p := p) s11
        refine ⟨_, rfl, _, rfl, 0, p, l, u, _, _, rfl, tl.kp k11, tu.kp k11, fun o2 H12 s12 h12 => ?_⟩
        have k12 := k11.trans (same_kp (p := p) s12)
        have dd : ∀ (H' : Hp) (o' : Addr) (way : Int) (x z : V) (d1 d2 : PyData), H' o' = some (.lst ((due way x z d1 d2).map ofD)) → Dp K H' (.ref o') (.list (due way x z d1 d2)) := fun H' o' way x z d1 d2 h => .lst (SqL.of h) (ofD_dp _ (due_kinds way x z d1 d2))
        refine ⟨_, _, dd _ o1 0 l u _ _ (s12 _ _ h11), dd _ o2 0 l u _ _ h12, due_shaped tl tu, due_shaped tl tu, _, rfl, ?_⟩
        rw [due_eqv]
        refine iteF ?_
        refine ⟨_, rfl, _, rfl, 1, p, g, u, _, _, rfl, tg.kp k12, tu.kp k12, fun o3 H13 s13 h13 => ?_⟩
        have k13 := k12.trans (same_kp (p := p) s13)
        refine ⟨_, rfl, _, rfl, 1, p, g, u, _, _, rfl, tg.kp k13, tu.kp k13, fun o4 H14 s14 h14 => ?_⟩
        refine ⟨_, _, dd _ o3 1 g u _ _ (s14 _ _ h13), dd _ o4 1 g u _ _ h14, due_shaped tg tu, due_shaped tg tu, _, rfl, ?_⟩
        rw [due_eqv]
        have sE := ((s11.trans s12).trans s13).trans s14
        exact iteF ⟨R10.same sE, s10.trans sE, _, _, _, _, _, rfl⟩
      · obtain ⟨R3, s3, t3, t4, t5, t6, t7, rfl⟩ := h
        exact ⟨s3, _, _, _, _, _, _, _, rfl⟩
    · obtain ⟨s1, t1, t2, t3, t4, t5, t6, t7, rfl⟩ := h
      exact q H1
end
end My
namespace My
open PySem PySem.Spec PyProof.Rows L2
theorem go {l : PySem.W.OpenLaw} {q : Program} {loose : List Str} {XP : (Str → Option Value) → Heap → Prop} {YP : World → Heap → Prop} {d : DefRec} {K : Params → PySem.W.Frag} (hn : l.most = some 63) (hdf : d.params.defaults = [])
    (hY : ∀ (w : World) (h : Heap), YP w h → (K w.params).In h) (hnm : d.name = "law") (F : ∀ (w : World) (mg : Str → Option Value) (h : Heap), (K w.params).In h → h.Ns mainGlobals mg → Mo (K w.params) mg) :
    PySem.W.WalkO q loose XP YP l.row.toRowW d [] (fun f vs => PySem.call f vs) :=
  Gx.walkG (n := 63) (k := 7) (sp := fun w => spLaw (K w.params)) hn (by decide) hdf ⟨rfl, by decide, by decide⟩ hY hnm b_law (fun w mg h kx g _ _ _ => p_law (F w mg h kx g)) fun _ _ a ns hl hS => ⟨a, ns, rfl, hS, hl, fun _ => rfl⟩
section
variable {K : PySem.W.Frag} {mg : Str → Option Value} {h : Heap}
theorem mo_mk {f0 f1 f2 f3 f4 f5 f6 f7 f8 f9 f10 f11 f12 f13 f14 f15 f16 f17 f18 f19 f20 f21 f22 f23 : Addr} {C0 C1 C2 C3 C4 C5 C6 C7 C8 C9 C10 : Addr} {I1 N1 : Addr} {io1 ik1 ip1 iq1 ic1 it1 : Value} {id1 in1 : Option Addr} {is1 : Array (Option Value)} {qn1 qq1 : Str} {qb1 qm1 qv1 : List Value} {qt1 : List Str} {qe1 : Bool} {qf1 : Option Bool} {qg1 : Option Addr} {qh1 qi1 qj1 qk1 ql1 : Option Value} {I2 N2 : Addr} {io2 ik2 ip2 iq2 ic2 it2 : Value} {id2 in2 : Option Addr} {is2 : Array (Option Value)} {qn2 qq2 : Str} {qb2 qm2 qv2 : List Value} {qt2 : List Str} {qe2 : Bool} {qf2 : Option Bool} {qg2 : Option Addr} {qh2 qi2 qj2 qk2 ql2 : Option Value} {I3 N3 : Addr} {io3 ik3 ip3 iq3 ic3 it3 : Value} {id3 in3 : Option Addr} {is3 : Array (Option Value)} {qn3 qq3 : Str} {qb3 qm3 qv3 : List Value} {qt3 : List Str} {qe3 : Bool} {qf3 : Option Bool} {qg3 : Option Addr} {qh3 qi3 qj3 qk3 ql3 : Option Value}  {oc0 kV0 dc0 pm0 cd0 ct0 oc1 kV1 dc1 pm1 cd1 ct1 oc2 kV2 dc2 pm2 cd2 ct2 oc3 kV3 dc3 pm3 cd3 ct3 oc4 kV4 dc4 pm4 cd4 ct4 oc5 kV5 dc5 pm5 cd5 ct5 oc6 kV6 dc6 pm6 cd6 ct6 oc7 kV7 dc7 pm7 cd7 ct7 oc8 kV8 dc8 pm8 cd8 ct8 oc9 kV9 dc9 pm9 cd9 ct9 oc10 kV10 dc10 pm10 cd10 ct10 oc11 kV11 dc11 pm11 cd11 ct11 oc12 kV12 dc12 pm12 cd12 ct12 oc13 kV13 dc13 pm13 cd13 ct13 oc14 kV14 dc14 pm14 cd14 ct14 oc15 kV15 dc15 pm15 cd15 ct15 oc16 kV16 dc16 pm16 cd16 ct16 oc17 kV17 dc17 pm17 cd17 ct17 oc18 kV18 dc18 pm18 cd18 ct18 oc19 kV19 dc19 pm19 cd19 ct19 oc20 kV20 dc20 pm20 cd20 ct20 oc21 kV21 dc21 pm21 cd21 ct21 oc22 kV22 dc22 pm22 cd22 ct22 oc23 kV23 dc23 pm23 cd23 ct23 u_MAX_BITS : Value} {od0 an0 od1 an1 od2 an2 od3 an3 od4 an4 od5 an5 od6 an6 od7 an7 od8 an8 od9 an9 od10 an10 od11 an11 od12 an12 od13 an13 od14 an14 od15 an15 od16 an16 od17 an17 od18 an18 od19 an19 od20 an20 od21 an21 od22 an22 od23 an23 : Option Addr} {sl0 sl1 sl2 sl3 sl4 sl5 sl6 sl7 sl8 sl9 sl10 sl11 sl12 sl13 sl14 sl15 sl16 sl17 sl18 sl19 sl20 sl21 sl22 sl23 : Array (Option Value)} (X : K.In h) (G : h.Ns mainGlobals mg)
    (a0 : PySem.W.nsIn K mainGlobals "is_int" = some (some (.ref f0))) (l0 : K.lookup f0 = some ⟨oc0, od0, .func (PySem.W.fnOf "is_int" "is_int" (defArgs s_is_int) (defBody s_is_int) (defScope s_is_int) .none kV0 dc0 pm0 an0 cd0 ct0), sl0⟩) (c0 : PySem.W.codeIn K cd0 "is_int" = true) (k0 : PySem.W.keepIn K (.ref f0) = true)
    (a1 : PySem.W.nsIn K mainGlobals "is_bits" = some (some (.ref f1))) (l1 : K.lookup f1 = some ⟨oc1, od1, .func (PySem.W.fnOf "is_bits" "is_bits" (defArgs s_is_bits) (defBody s_is_bits) (defScope s_is_bits) .none kV1 dc1 pm1 an1 cd1 ct1), sl1⟩) (c1 : PySem.W.codeIn K cd1 "is_bits" = true) (k1 : PySem.W.keepIn K (.ref f1) = true)
    (a2 : PySem.W.nsIn K mainGlobals "is_value" = some (some (.ref f2))) (l2 : K.lookup f2 = some ⟨oc2, od2, .func (PySem.W.fnOf "is_value" "is_value" (defArgs s_is_value) (defBody s_is_value) (defScope s_is_value) .none kV2 dc2 pm2 an2 cd2 ct2), sl2⟩) (c2 : PySem.W.codeIn K cd2 "is_value" = true) (k2 : PySem.W.keepIn K (.ref f2) = true)
    (a3 : PySem.W.nsIn K mainGlobals "is_range" = some (some (.ref f3))) (l3 : K.lookup f3 = some ⟨oc3, od3, .func (PySem.W.fnOf "is_range" "is_range" (defArgs s_is_range) (defBody s_is_range) (defScope s_is_range) .none kV3 dc3 pm3 an3 cd3 ct3), sl3⟩) (c3 : PySem.W.codeIn K cd3 "is_range" = true) (k3 : PySem.W.keepIn K (.ref f3) = true)
    (a4 : PySem.W.nsIn K mainGlobals "range_of" = some (some (.ref f4))) (l4 : K.lookup f4 = some ⟨oc4, od4, .func (PySem.W.fnOf "range_of" "range_of" (defArgs s_range_of) (defBody s_range_of) (defScope s_range_of) .none kV4 dc4 pm4 an4 cd4 ct4), sl4⟩) (c4 : PySem.W.codeIn K cd4 "range_of" = true) (k4 : PySem.W.keepIn K (.ref f4) = true)
    (a5 : PySem.W.nsIn K mainGlobals "bounds" = some (some (.ref f5))) (l5 : K.lookup f5 = some ⟨oc5, od5, .func (PySem.W.fnOf "bounds" "bounds" (defArgs s_bounds) (defBody s_bounds) (defScope s_bounds) .none kV5 dc5 pm5 an5 cd5 ct5), sl5⟩) (c5 : PySem.W.codeIn K cd5 "bounds" = true) (k5 : PySem.W.keepIn K (.ref f5) = true)
    (a6 : PySem.W.nsIn K mainGlobals "check_bits" = some (some (.ref f6))) (l6 : K.lookup f6 = some ⟨oc6, od6, .func (PySem.W.fnOf "check_bits" "check_bits" (defArgs s_check_bits) (defBody s_check_bits) (defScope s_check_bits) .none kV6 dc6 pm6 an6 cd6 ct6), sl6⟩) (c6 : PySem.W.codeIn K cd6 "check_bits" = true) (k6 : PySem.W.keepIn K (.ref f6) = true)
    (a7 : PySem.W.nsIn K mainGlobals "check_value" = some (some (.ref f7))) (l7 : K.lookup f7 = some ⟨oc7, od7, .func (PySem.W.fnOf "check_value" "check_value" (defArgs s_check_value) (defBody s_check_value) (defScope s_check_value) .none kV7 dc7 pm7 an7 cd7 ct7), sl7⟩) (c7 : PySem.W.codeIn K cd7 "check_value" = true) (k7 : PySem.W.keepIn K (.ref f7) = true)
    (a8 : PySem.W.nsIn K mainGlobals "check_range" = some (some (.ref f8))) (l8 : K.lookup f8 = some ⟨oc8, od8, .func (PySem.W.fnOf "check_range" "check_range" (defArgs s_check_range) (defBody s_check_range) (defScope s_check_range) .none kV8 dc8 pm8 an8 cd8 ct8), sl8⟩) (c8 : PySem.W.codeIn K cd8 "check_range" = true) (k8 : PySem.W.keepIn K (.ref f8) = true)
    (a9 : PySem.W.nsIn K mainGlobals "_law_rng" = some (some (.ref f9))) (l9 : K.lookup f9 = some ⟨oc9, od9, .func (PySem.W.fnOf "_law_rng" "_law_rng" (defArgs s__law_rng) (defBody s__law_rng) (defScope s__law_rng) .none kV9 dc9 pm9 an9 cd9 ct9), sl9⟩) (c9 : PySem.W.codeIn K cd9 "_law_rng" = true) (k9 : PySem.W.keepIn K (.ref f9) = true)
    (a10 : PySem.W.nsIn K mainGlobals "_law_draw" = some (some (.ref f10))) (l10 : K.lookup f10 = some ⟨oc10, od10, .func (PySem.W.fnOf "_law_draw" "_law_draw" (defArgs s__law_draw) (defBody s__law_draw) (defScope s__law_draw) .none kV10 dc10 pm10 an10 cd10 ct10), sl10⟩) (c10 : PySem.W.codeIn K cd10 "_law_draw" = true) (k10 : PySem.W.keepIn K (.ref f10) = true)
    (a11 : PySem.W.nsIn K mainGlobals "_law_choice" = some (some (.ref f11))) (l11 : K.lookup f11 = some ⟨oc11, od11, .func (PySem.W.fnOf "_law_choice" "_law_choice" (defArgs s__law_choice) (defBody s__law_choice) (defScope s__law_choice) .none kV11 dc11 pm11 an11 cd11 ct11), sl11⟩) (c11 : PySem.W.codeIn K cd11 "_law_choice" = true) (k11 : PySem.W.keepIn K (.ref f11) = true)
    (a12 : PySem.W.nsIn K mainGlobals "_law_is_integer" = some (some (.ref f12))) (l12 : K.lookup f12 = some ⟨oc12, od12, .func (PySem.W.fnOf "_law_is_integer" "_law_is_integer" (defArgs s__law_is_integer) (defBody s__law_is_integer) (defScope s__law_is_integer) .none kV12 dc12 pm12 an12 cd12 ct12), sl12⟩) (c12 : PySem.W.codeIn K cd12 "_law_is_integer" = true) (k12 : PySem.W.keepIn K (.ref f12) = true)
    (a13 : PySem.W.nsIn K mainGlobals "_law_power" = some (some (.ref f13))) (l13 : K.lookup f13 = some ⟨oc13, od13, .func (PySem.W.fnOf "_law_power" "_law_power" (defArgs s__law_power) (defBody s__law_power) (defScope s__law_power) .none kV13 dc13 pm13 an13 cd13 ct13), sl13⟩) (c13 : PySem.W.codeIn K cd13 "_law_power" = true) (k13 : PySem.W.keepIn K (.ref f13) = true)
    (a14 : PySem.W.nsIn K mainGlobals "_law_is_bits" = some (some (.ref f14))) (l14 : K.lookup f14 = some ⟨oc14, od14, .func (PySem.W.fnOf "_law_is_bits" "_law_is_bits" (defArgs s__law_is_bits) (defBody s__law_is_bits) (defScope s__law_is_bits) .none kV14 dc14 pm14 an14 cd14 ct14), sl14⟩) (c14 : PySem.W.codeIn K cd14 "_law_is_bits" = true) (k14 : PySem.W.keepIn K (.ref f14) = true)
    (a15 : PySem.W.nsIn K mainGlobals "_law_is_value" = some (some (.ref f15))) (l15 : K.lookup f15 = some ⟨oc15, od15, .func (PySem.W.fnOf "_law_is_value" "_law_is_value" (defArgs s__law_is_value) (defBody s__law_is_value) (defScope s__law_is_value) .none kV15 dc15 pm15 an15 cd15 ct15), sl15⟩) (c15 : PySem.W.codeIn K cd15 "_law_is_value" = true) (k15 : PySem.W.keepIn K (.ref f15) = true)
    (a16 : PySem.W.nsIn K mainGlobals "_law_is_range" = some (some (.ref f16))) (l16 : K.lookup f16 = some ⟨oc16, od16, .func (PySem.W.fnOf "_law_is_range" "_law_is_range" (defArgs s__law_is_range) (defBody s__law_is_range) (defScope s__law_is_range) .none kV16 dc16 pm16 an16 cd16 ct16), sl16⟩) (c16 : PySem.W.codeIn K cd16 "_law_is_range" = true) (k16 : PySem.W.keepIn K (.ref f16) = true)
    (a17 : PySem.W.nsIn K mainGlobals "_law_odd" = some (some (.ref f17))) (l17 : K.lookup f17 = some ⟨oc17, od17, .func (PySem.W.fnOf "_law_odd" "_law_odd" (defArgs s__law_odd) (defBody s__law_odd) (defScope s__law_odd) .none kV17 dc17 pm17 an17 cd17 ct17), sl17⟩) (c17 : PySem.W.codeIn K cd17 "_law_odd" = true) (k17 : PySem.W.keepIn K (.ref f17) = true)
    (a18 : PySem.W.nsIn K mainGlobals "_law_digits" = some (some (.ref f18))) (l18 : K.lookup f18 = some ⟨oc18, od18, .func (PySem.W.fnOf "_law_digits" "_law_digits" (defArgs s__law_digits) (defBody s__law_digits) (defScope s__law_digits) .none kV18 dc18 pm18 an18 cd18 ct18), sl18⟩) (c18 : PySem.W.codeIn K cd18 "_law_digits" = true) (k18 : PySem.W.keepIn K (.ref f18) = true)
    (a19 : PySem.W.nsIn K mainGlobals "_law_ends" = some (some (.ref f19))) (l19 : K.lookup f19 = some ⟨oc19, od19, .func (PySem.W.fnOf "_law_ends" "_law_ends" (defArgs s__law_ends) (defBody s__law_ends) (defScope s__law_ends) .none kV19 dc19 pm19 an19 cd19 ct19), sl19⟩) (c19 : PySem.W.codeIn K cd19 "_law_ends" = true) (k19 : PySem.W.keepIn K (.ref f19) = true)
    (a20 : PySem.W.nsIn K mainGlobals "_law_alone" = some (some (.ref f20))) (l20 : K.lookup f20 = some ⟨oc20, od20, .func (PySem.W.fnOf "_law_alone" "_law_alone" (defArgs s__law_alone) (defBody s__law_alone) (defScope s__law_alone) .none kV20 dc20 pm20 an20 cd20 ct20), sl20⟩) (c20 : PySem.W.codeIn K cd20 "_law_alone" = true) (k20 : PySem.W.keepIn K (.ref f20) = true)
    (a21 : PySem.W.nsIn K mainGlobals "_law_told" = some (some (.ref f21))) (l21 : K.lookup f21 = some ⟨oc21, od21, .func (PySem.W.fnOf "_law_told" "_law_told" (defArgs s__law_told) (defBody s__law_told) (defScope s__law_told) .none kV21 dc21 pm21 an21 cd21 ct21), sl21⟩) (c21 : PySem.W.codeIn K cd21 "_law_told" = true) (k21 : PySem.W.keepIn K (.ref f21) = true)
    (a22 : PySem.W.nsIn K mainGlobals "_law_due" = some (some (.ref f22))) (l22 : K.lookup f22 = some ⟨oc22, od22, .func (PySem.W.fnOf "_law_due" "_law_due" (defArgs s__law_due) (defBody s__law_due) (defScope s__law_due) .none kV22 dc22 pm22 an22 cd22 ct22), sl22⟩) (c22 : PySem.W.codeIn K cd22 "_law_due" = true) (k22 : PySem.W.keepIn K (.ref f22) = true)
    (a23 : PySem.W.nsIn K mainGlobals "law" = some (some (.ref f23))) (l23 : K.lookup f23 = some ⟨oc23, od23, .func (PySem.W.fnOf "law" "law" (defArgs s_law) (defBody s_law) (defScope s_law) .none kV23 dc23 pm23 an23 cd23 ct23), sl23⟩) (c23 : PySem.W.codeIn K cd23 "law" = true) (k23 : PySem.W.keepIn K (.ref f23) = true)
    (z_ValueError : PySem.W.nsIn K mainGlobals "ValueError" = some none)
    (z_abs : PySem.W.nsIn K mainGlobals "abs" = some none)
    (z_bool : PySem.W.nsIn K mainGlobals "bool" = some none)
    (z_divmod : PySem.W.nsIn K mainGlobals "divmod" = some none)
    (z_int : PySem.W.nsIn K mainGlobals "int" = some none)
    (z_isinstance : PySem.W.nsIn K mainGlobals "isinstance" = some none)
    (z_len : PySem.W.nsIn K mainGlobals "len" = some none)
    (z_max : PySem.W.nsIn K mainGlobals "max" = some none)
    (z_min : PySem.W.nsIn K mainGlobals "min" = some none)
    (z_range : PySem.W.nsIn K mainGlobals "range" = some none)
    (z_repr : PySem.W.nsIn K mainGlobals "repr" = some none)
    (z_str : PySem.W.nsIn K mainGlobals "str" = some none)
    (g_MAX_BITS : PySem.W.nsIn K mainGlobals "MAX_BITS" = some (some u_MAX_BITS)) (r_MAX_BITS : RelV (.int 10) u_MAX_BITS)
    (xa0 : PySem.W.nsIn K mainGlobals "CoverError" = some (some (.ref C0))) (xb0 : PySem.W.typeIn K (.ref C0) = some (.type "type")) (xc0 : PySem.W.isClsIn K C0 = true) (xd0 : PySem.W.subIn K (.ref C0) (.type "BaseException") = some true) (xe0 : PySem.W.subIn K (.ref C0) (.ref C0) = some true)
    (xa1 : PySem.W.nsIn K mainGlobals "InvalidBits" = some (some (.ref C1))) (xb1 : PySem.W.typeIn K (.ref C1) = some (.type "type")) (xc1 : PySem.W.isClsIn K C1 = true) (xd1 : PySem.W.subIn K (.ref C1) (.type "BaseException") = some true) (xe1 : PySem.W.subIn K (.ref C1) (.ref C1) = some true)
    (xa2 : PySem.W.nsIn K mainGlobals "InvalidValue" = some (some (.ref C2))) (xb2 : PySem.W.typeIn K (.ref C2) = some (.type "type")) (xc2 : PySem.W.isClsIn K C2 = true) (xd2 : PySem.W.subIn K (.ref C2) (.type "BaseException") = some true) (xe2 : PySem.W.subIn K (.ref C2) (.ref C2) = some true)
    (xa3 : PySem.W.nsIn K mainGlobals "InvalidRange" = some (some (.ref C3))) (xb3 : PySem.W.typeIn K (.ref C3) = some (.type "type")) (xc3 : PySem.W.isClsIn K C3 = true) (xd3 : PySem.W.subIn K (.ref C3) (.type "BaseException") = some true) (xe3 : PySem.W.subIn K (.ref C3) (.ref C3) = some true)
    (xa4 : PySem.W.nsIn K mainGlobals "InvalidBox" = some (some (.ref C4))) (xb4 : PySem.W.typeIn K (.ref C4) = some (.type "type")) (xc4 : PySem.W.isClsIn K C4 = true) (xd4 : PySem.W.subIn K (.ref C4) (.type "BaseException") = some true) (xe4 : PySem.W.subIn K (.ref C4) (.ref C4) = some true)
    (xa5 : PySem.W.nsIn K mainGlobals "InvalidPlace" = some (some (.ref C5))) (xb5 : PySem.W.typeIn K (.ref C5) = some (.type "type")) (xc5 : PySem.W.isClsIn K C5 = true) (xd5 : PySem.W.subIn K (.ref C5) (.type "BaseException") = some true) (xe5 : PySem.W.subIn K (.ref C5) (.ref C5) = some true)
    (xa6 : PySem.W.nsIn K mainGlobals "InvalidCount" = some (some (.ref C6))) (xb6 : PySem.W.typeIn K (.ref C6) = some (.type "type")) (xc6 : PySem.W.isClsIn K C6 = true) (xd6 : PySem.W.subIn K (.ref C6) (.type "BaseException") = some true) (xe6 : PySem.W.subIn K (.ref C6) (.ref C6) = some true)
    (xa7 : PySem.W.nsIn K mainGlobals "InvalidName" = some (some (.ref C7))) (xb7 : PySem.W.typeIn K (.ref C7) = some (.type "type")) (xc7 : PySem.W.isClsIn K C7 = true) (xd7 : PySem.W.subIn K (.ref C7) (.type "BaseException") = some true) (xe7 : PySem.W.subIn K (.ref C7) (.ref C7) = some true)
    (xa8 : PySem.W.nsIn K mainGlobals "InvalidKey" = some (some (.ref C8))) (xb8 : PySem.W.typeIn K (.ref C8) = some (.type "type")) (xc8 : PySem.W.isClsIn K C8 = true) (xd8 : PySem.W.subIn K (.ref C8) (.type "BaseException") = some true) (xe8 : PySem.W.subIn K (.ref C8) (.ref C8) = some true)
    (xa9 : PySem.W.nsIn K mainGlobals "InvalidText" = some (some (.ref C9))) (xb9 : PySem.W.typeIn K (.ref C9) = some (.type "type")) (xc9 : PySem.W.isClsIn K C9 = true) (xd9 : PySem.W.subIn K (.ref C9) (.type "BaseException") = some true) (xe9 : PySem.W.subIn K (.ref C9) (.ref C9) = some true)
    (xa10 : PySem.W.nsIn K mainGlobals "InvalidPoint" = some (some (.ref C10))) (xb10 : PySem.W.typeIn K (.ref C10) = some (.type "type")) (xc10 : PySem.W.isClsIn K C10 = true) (xd10 : PySem.W.subIn K (.ref C10) (.type "BaseException") = some true) (xe10 : PySem.W.subIn K (.ref C10) (.ref C10) = some true)
    (ya1 : K.lookup C1 = some (excClassObj qn1 qq1 C1 N1 qb1 qm1 true qt1 qv1 qe1 qf1 qg1 qh1 qi1 qj1 qk1 ql1 "ValueError.__new__")) (yb1 : PySem.HandSPX.refsVE qm1 = true)
    (yc1 : PySem.W.findIn K (.ref C1) "__setattr__" = some (some (.builtin "object.__setattr__"))) (yd1 : PySem.W.keepIn K (.ref C1) = true)
    (ye1 : PySem.W.findIn K (.ref C1) "__getattribute__" = some (some (.builtin "BaseException.__getattribute__"))) (yf1 : PySem.W.findIn K (.ref C1) "__getattr__" = some none) (yg1 : PySem.W.findIn K (.ref C1) "__class__" = some (some (.builtin "object.__class__")))
    (yh1 : PySem.W.specialIn K (.builtin "object.__class__") "__get__" = some (some (.builtin "getset_descriptor.__get__"))) (yi1 : PySem.W.takesIn K (.builtin "object.__class__") = some true) (yj1 : PySem.W.mroIn K C1 (.type "object") = some true) (yk1 : PySem.W.hasDictIn K C1 = true)
    (yl1 : PySem.W.findIn K (.ref C1) "__init__" = some (some (.ref I1))) (ym1 : PySem.W.typeIn K (.ref I1) = some (.type "function"))
    (yn1 : K.lookup I1 = some ⟨io1, id1, .func (PySem.W.fnOf "__init__" "InvalidBits.__init__" (defArgs i_InvalidBits) (defBody i_InvalidBits) (defScope i_InvalidBits) .none ik1 ip1 iq1 in1 ic1 it1), is1⟩) (yo1 : PySem.W.codeIn K ic1 "InvalidBits.__init__" = true) (yp1 : PySem.W.keepIn K (.ref I1) = true)
    (fn_1_value : PySem.W.findIn K (.ref C1) "value" = some none)
    (su_1_4 : PySem.W.subIn K (.ref C1) (.ref C4) = some false)
    (su_1_6 : PySem.W.subIn K (.ref C1) (.ref C6) = some false)
    (su_1_8 : PySem.W.subIn K (.ref C1) (.ref C8) = some false)
    (su_1_7 : PySem.W.subIn K (.ref C1) (.ref C7) = some false)
    (su_1_5 : PySem.W.subIn K (.ref C1) (.ref C5) = some false)
    (su_1_10 : PySem.W.subIn K (.ref C1) (.ref C10) = some false)
    (su_1_9 : PySem.W.subIn K (.ref C1) (.ref C9) = some false)
    (su_1_1 : PySem.W.subIn K (.ref C1) (.ref C1) = some true)
    (su_1_3 : PySem.W.subIn K (.ref C1) (.ref C3) = some false)
    (su_1_2 : PySem.W.subIn K (.ref C1) (.ref C2) = some false)
    (su_1_0 : PySem.W.subIn K (.ref C1) (.ref C0) = some true)
    (sv_1_ValueError : PySem.W.subIn K (.ref C1) (.type "ValueError") = some true)
    (ya2 : K.lookup C2 = some (excClassObj qn2 qq2 C2 N2 qb2 qm2 true qt2 qv2 qe2 qf2 qg2 qh2 qi2 qj2 qk2 ql2 "ValueError.__new__")) (yb2 : PySem.HandSPX.refsVE qm2 = true)
    (yc2 : PySem.W.findIn K (.ref C2) "__setattr__" = some (some (.builtin "object.__setattr__"))) (yd2 : PySem.W.keepIn K (.ref C2) = true)
    (ye2 : PySem.W.findIn K (.ref C2) "__getattribute__" = some (some (.builtin "BaseException.__getattribute__"))) (yf2 : PySem.W.findIn K (.ref C2) "__getattr__" = some none) (yg2 : PySem.W.findIn K (.ref C2) "__class__" = some (some (.builtin "object.__class__")))
    (yh2 : PySem.W.specialIn K (.builtin "object.__class__") "__get__" = some (some (.builtin "getset_descriptor.__get__"))) (yi2 : PySem.W.takesIn K (.builtin "object.__class__") = some true) (yj2 : PySem.W.mroIn K C2 (.type "object") = some true) (yk2 : PySem.W.hasDictIn K C2 = true)
    (yl2 : PySem.W.findIn K (.ref C2) "__init__" = some (some (.ref I2))) (ym2 : PySem.W.typeIn K (.ref I2) = some (.type "function"))
    (yn2 : K.lookup I2 = some ⟨io2, id2, .func (PySem.W.fnOf "__init__" "InvalidValue.__init__" (defArgs i_InvalidValue) (defBody i_InvalidValue) (defScope i_InvalidValue) .none ik2 ip2 iq2 in2 ic2 it2), is2⟩) (yo2 : PySem.W.codeIn K ic2 "InvalidValue.__init__" = true) (yp2 : PySem.W.keepIn K (.ref I2) = true)
    (fn_2_value : PySem.W.findIn K (.ref C2) "value" = some none)
    (su_2_4 : PySem.W.subIn K (.ref C2) (.ref C4) = some false)
    (su_2_6 : PySem.W.subIn K (.ref C2) (.ref C6) = some false)
    (su_2_8 : PySem.W.subIn K (.ref C2) (.ref C8) = some false)
    (su_2_7 : PySem.W.subIn K (.ref C2) (.ref C7) = some false)
    (su_2_5 : PySem.W.subIn K (.ref C2) (.ref C5) = some false)
    (su_2_10 : PySem.W.subIn K (.ref C2) (.ref C10) = some false)
    (su_2_9 : PySem.W.subIn K (.ref C2) (.ref C9) = some false)
    (su_2_1 : PySem.W.subIn K (.ref C2) (.ref C1) = some false)
    (su_2_3 : PySem.W.subIn K (.ref C2) (.ref C3) = some false)
    (su_2_2 : PySem.W.subIn K (.ref C2) (.ref C2) = some true)
    (su_2_0 : PySem.W.subIn K (.ref C2) (.ref C0) = some true)
    (sv_2_ValueError : PySem.W.subIn K (.ref C2) (.type "ValueError") = some true)
    (ya3 : K.lookup C3 = some (excClassObj qn3 qq3 C3 N3 qb3 qm3 true qt3 qv3 qe3 qf3 qg3 qh3 qi3 qj3 qk3 ql3 "ValueError.__new__")) (yb3 : PySem.HandSPX.refsVE qm3 = true)
    (yc3 : PySem.W.findIn K (.ref C3) "__setattr__" = some (some (.builtin "object.__setattr__"))) (yd3 : PySem.W.keepIn K (.ref C3) = true)
    (ye3 : PySem.W.findIn K (.ref C3) "__getattribute__" = some (some (.builtin "BaseException.__getattribute__"))) (yf3 : PySem.W.findIn K (.ref C3) "__getattr__" = some none) (yg3 : PySem.W.findIn K (.ref C3) "__class__" = some (some (.builtin "object.__class__")))
    (yh3 : PySem.W.specialIn K (.builtin "object.__class__") "__get__" = some (some (.builtin "getset_descriptor.__get__"))) (yi3 : PySem.W.takesIn K (.builtin "object.__class__") = some true) (yj3 : PySem.W.mroIn K C3 (.type "object") = some true) (yk3 : PySem.W.hasDictIn K C3 = true)
    (yl3 : PySem.W.findIn K (.ref C3) "__init__" = some (some (.ref I3))) (ym3 : PySem.W.typeIn K (.ref I3) = some (.type "function"))
    (yn3 : K.lookup I3 = some ⟨io3, id3, .func (PySem.W.fnOf "__init__" "InvalidRange.__init__" (defArgs i_InvalidRange) (defBody i_InvalidRange) (defScope i_InvalidRange) .none ik3 ip3 iq3 in3 ic3 it3), is3⟩) (yo3 : PySem.W.codeIn K ic3 "InvalidRange.__init__" = true) (yp3 : PySem.W.keepIn K (.ref I3) = true)
    (fn_3_value : PySem.W.findIn K (.ref C3) "value" = some none)
    (su_3_4 : PySem.W.subIn K (.ref C3) (.ref C4) = some false)
    (su_3_6 : PySem.W.subIn K (.ref C3) (.ref C6) = some false)
    (su_3_8 : PySem.W.subIn K (.ref C3) (.ref C8) = some false)
    (su_3_7 : PySem.W.subIn K (.ref C3) (.ref C7) = some false)
    (su_3_5 : PySem.W.subIn K (.ref C3) (.ref C5) = some false)
    (su_3_10 : PySem.W.subIn K (.ref C3) (.ref C10) = some false)
    (su_3_9 : PySem.W.subIn K (.ref C3) (.ref C9) = some false)
    (su_3_1 : PySem.W.subIn K (.ref C3) (.ref C1) = some false)
    (su_3_3 : PySem.W.subIn K (.ref C3) (.ref C3) = some true)
    (su_3_2 : PySem.W.subIn K (.ref C3) (.ref C2) = some false)
    (su_3_0 : PySem.W.subIn K (.ref C3) (.ref C0) = some true)
    (sv_3_ValueError : PySem.W.subIn K (.ref C3) (.type "ValueError") = some true)
    : Mo K mg := ⟨⟨_, _, PySem.W.mg_of X G a0, fun_mk (st := s_is_int) l0 c0 k0⟩, ⟨_, _, PySem.W.mg_of X G a1, fun_mk (st := s_is_bits) l1 c1 k1⟩, ⟨_, _, PySem.W.mg_of X G a2, fun_mk (st := s_is_value) l2 c2 k2⟩, ⟨_, _, PySem.W.mg_of X G a3, fun_mk (st := s_is_range) l3 c3 k3⟩, ⟨_, _, PySem.W.mg_of X G a4, fun_mk (st := s_range_of) l4 c4 k4⟩, ⟨_, _, PySem.W.mg_of X G a5, fun_mk (st := s_bounds) l5 c5 k5⟩, ⟨_, _, PySem.W.mg_of X G a6, fun_mk (st := s_check_bits) l6 c6 k6⟩, ⟨_, _, PySem.W.mg_of X G a7, fun_mk (st := s_check_value) l7 c7 k7⟩, ⟨_, _, PySem.W.mg_of X G a8, fun_mk (st := s_check_range) l8 c8 k8⟩, ⟨_, _, PySem.W.mg_of X G a9, fun_mk (st := s__law_rng) l9 c9 k9⟩, ⟨_, _, PySem.W.mg_of X G a10, fun_mk (st := s__law_draw) l10 c10 k10⟩, ⟨_, _, PySem.W.mg_of X G a11, fun_mk (st := s__law_choice) l11 c11 k11⟩, ⟨_, _, PySem.W.mg_of X G a12, fun_mk (st := s__law_is_integer) l12 c12 k12⟩, ⟨_, _, PySem.W.mg_of X G a13, fun_mk (st := s__law_power) l13 c13 k13⟩, ⟨_, _, PySem.W.mg_of X G a14, fun_mk (st := s__law_is_bits) l14 c14 k14⟩, ⟨_, _, PySem.W.mg_of X G a15, fun_mk (st := s__law_is_value) l15 c15 k15⟩, ⟨_, _, PySem.W.mg_of X G a16, fun_mk (st := s__law_is_range) l16 c16 k16⟩, ⟨_, _, PySem.W.mg_of X G a17, fun_mk (st := s__law_odd) l17 c17 k17⟩, ⟨_, _, PySem.W.mg_of X G a18, fun_mk (st := s__law_digits) l18 c18 k18⟩, ⟨_, _, PySem.W.mg_of X G a19, fun_mk (st := s__law_ends) l19 c19 k19⟩, ⟨_, _, PySem.W.mg_of X G a20, fun_mk (st := s__law_alone) l20 c20 k20⟩, ⟨_, _, PySem.W.mg_of X G a21, fun_mk (st := s__law_told) l21 c21 k21⟩, ⟨_, _, PySem.W.mg_of X G a22, fun_mk (st := s__law_due) l22 c22 k22⟩, ⟨_, _, PySem.W.mg_of X G a23, fun_mk (st := s_law) l23 c23 k23⟩, PySem.W.mg_none_of X G z_ValueError, PySem.W.mg_none_of X G z_abs, PySem.W.mg_none_of X G z_bool, PySem.W.mg_none_of X G z_divmod, PySem.W.mg_none_of X G z_int, PySem.W.mg_none_of X G z_isinstance, PySem.W.mg_none_of X G z_len, PySem.W.mg_none_of X G z_max, PySem.W.mg_none_of X G z_min, PySem.W.mg_none_of X G z_range, PySem.W.mg_none_of X G z_repr, PySem.W.mg_none_of X G z_str, ⟨u_MAX_BITS, PySem.W.mg_of X G g_MAX_BITS, r_MAX_BITS⟩, Gx.ClsAt.of (PySem.W.mg_of X G xa0) xb0 xc0 xd0 xe0, Gx.ClsAt.of (PySem.W.mg_of X G xa1) xb1 xc1 xd1 xe1, Gx.ClsAt.of (PySem.W.mg_of X G xa2) xb2 xc2 xd2 xe2, Gx.ClsAt.of (PySem.W.mg_of X G xa3) xb3 xc3 xd3 xe3, Gx.ClsAt.of (PySem.W.mg_of X G xa4) xb4 xc4 xd4 xe4, Gx.ClsAt.of (PySem.W.mg_of X G xa5) xb5 xc5 xd5 xe5, Gx.ClsAt.of (PySem.W.mg_of X G xa6) xb6 xc6 xd6 xe6, Gx.ClsAt.of (PySem.W.mg_of X G xa7) xb7 xc7 xd7 xe7, Gx.ClsAt.of (PySem.W.mg_of X G xa8) xb8 xc8 xd8 xe8, Gx.ClsAt.of (PySem.W.mg_of X G xa9) xb9 xc9 xd9 xe9, Gx.ClsAt.of (PySem.W.mg_of X G xa10) xb10 xc10 xd10 xe10, Gx.ErrAt.of (PySem.W.mg_of X G xa1) ya1 yb1 yc1 xd1 xb1 yd1 ye1 yf1 yg1 yh1 yi1 yj1 yk1 yl1 ym1 (fun_mk (st := i_InvalidBits) yn1 yo1 yp1), (by rw [Gx.cl_of (PySem.W.mg_of X G xa1)]; exact fn_1_value), Gx.SubAt.of (PySem.W.mg_of X G xa1) (PySem.W.mg_of X G xa4) su_1_4, Gx.SubAt.of (PySem.W.mg_of X G xa1) (PySem.W.mg_of X G xa6) su_1_6, Gx.SubAt.of (PySem.W.mg_of X G xa1) (PySem.W.mg_of X G xa8) su_1_8, Gx.SubAt.of (PySem.W.mg_of X G xa1) (PySem.W.mg_of X G xa7) su_1_7, Gx.SubAt.of (PySem.W.mg_of X G xa1) (PySem.W.mg_of X G xa5) su_1_5, Gx.SubAt.of (PySem.W.mg_of X G xa1) (PySem.W.mg_of X G xa10) su_1_10, Gx.SubAt.of (PySem.W.mg_of X G xa1) (PySem.W.mg_of X G xa9) su_1_9, Gx.SubAt.of (PySem.W.mg_of X G xa1) (PySem.W.mg_of X G xa1) su_1_1, Gx.SubAt.of (PySem.W.mg_of X G xa1) (PySem.W.mg_of X G xa3) su_1_3, Gx.SubAt.of (PySem.W.mg_of X G xa1) (PySem.W.mg_of X G xa2) su_1_2, Gx.SubAt.of (PySem.W.mg_of X G xa1) (PySem.W.mg_of X G xa0) su_1_0, (by rw [Gx.cl_of (PySem.W.mg_of X G xa1)]; exact sv_1_ValueError), Gx.ErrAt.of (PySem.W.mg_of X G xa2) ya2 yb2 yc2 xd2 xb2 yd2 ye2 yf2 yg2 yh2 yi2 yj2 yk2 yl2 ym2 (fun_mk (st := i_InvalidValue) yn2 yo2 yp2), (by rw [Gx.cl_of (PySem.W.mg_of X G xa2)]; exact fn_2_value), Gx.SubAt.of (PySem.W.mg_of X G xa2) (PySem.W.mg_of X G xa4) su_2_4, Gx.SubAt.of (PySem.W.mg_of X G xa2) (PySem.W.mg_of X G xa6) su_2_6, Gx.SubAt.of (PySem.W.mg_of X G xa2) (PySem.W.mg_of X G xa8) su_2_8, Gx.SubAt.of (PySem.W.mg_of X G xa2) (PySem.W.mg_of X G xa7) su_2_7, Gx.SubAt.of (PySem.W.mg_of X G xa2) (PySem.W.mg_of X G xa5) su_2_5, Gx.SubAt.of (PySem.W.mg_of X G xa2) (PySem.W.mg_of X G xa10) su_2_10, Gx.SubAt.of (PySem.W.mg_of X G xa2) (PySem.W.mg_of X G xa9) su_2_9, Gx.SubAt.of (PySem.W.mg_of X G xa2) (PySem.W.mg_of X G xa1) su_2_1, Gx.SubAt.of (PySem.W.mg_of X G xa2) (PySem.W.mg_of X G xa3) su_2_3, Gx.SubAt.of (PySem.W.mg_of X G xa2) (PySem.W.mg_of X G xa2) su_2_2, Gx.SubAt.of (PySem.W.mg_of X G xa2) (PySem.W.mg_of X G xa0) su_2_0, (by rw [Gx.cl_of (PySem.W.mg_of X G xa2)]; exact sv_2_ValueError), Gx.ErrAt.of (PySem.W.mg_of X G xa3) ya3 yb3 yc3 xd3 xb3 yd3 ye3 yf3 yg3 yh3 yi3 yj3 yk3 yl3 ym3 (fun_mk (st := i_InvalidRange) yn3 yo3 yp3), (by rw [Gx.cl_of (PySem.W.mg_of X G xa3)]; exact fn_3_value), Gx.SubAt.of (PySem.W.mg_of X G xa3) (PySem.W.mg_of X G xa4) su_3_4, Gx.SubAt.of (PySem.W.mg_of X G xa3) (PySem.W.mg_of X G xa6) su_3_6, Gx.SubAt.of (PySem.W.mg_of X G xa3) (PySem.W.mg_of X G xa8) su_3_8, Gx.SubAt.of (PySem.W.mg_of X G xa3) (PySem.W.mg_of X G xa7) su_3_7, Gx.SubAt.of (PySem.W.mg_of X G xa3) (PySem.W.mg_of X G xa5) su_3_5, Gx.SubAt.of (PySem.W.mg_of X G xa3) (PySem.W.mg_of X G xa10) su_3_10, Gx.SubAt.of (PySem.W.mg_of X G xa3) (PySem.W.mg_of X G xa9) su_3_9, Gx.SubAt.of (PySem.W.mg_of X G xa3) (PySem.W.mg_of X G xa1) su_3_1, Gx.SubAt.of (PySem.W.mg_of X G xa3) (PySem.W.mg_of X G xa3) su_3_3, Gx.SubAt.of (PySem.W.mg_of X G xa3) (PySem.W.mg_of X G xa2) su_3_2, Gx.SubAt.of (PySem.W.mg_of X G xa3) (PySem.W.mg_of X G xa0) su_3_0, (by rw [Gx.cl_of (PySem.W.mg_of X G xa3)]; exact sv_3_ValueError)⟩
end
end My
open PySem PySem.W PyProof.Rows
set_option maxRecDepth 100000 in
set_option maxHeartbeats 0 in
theorem PySem.Challenge.cw_coverstore_k12_full_ranges_and_bounds_holds : PySem.Challenge.rw_coverstore_k12_full_ranges_and_bounds.Holds := by
  w_on; o_law; k_head; (case hw => w_witness2)
  k_fill
  refine My.go (l := PySem.Challenge.rw_coverstore_k12_full_ranges_and_bounds) rfl rfl (fun w h Y => PySem.W.kIn_of Y) rfl ?F
  case F =>
    intro w mg h KX G
    refine' My.mo_mk KX G ?a0 ?l0 ?c0 ?k0 ?a1 ?l1 ?c1 ?k1 ?a2 ?l2 ?c2 ?k2 ?a3 ?l3 ?c3 ?k3 ?a4 ?l4 ?c4 ?k4 ?a5 ?l5 ?c5 ?k5 ?a6 ?l6 ?c6 ?k6 ?a7 ?l7 ?c7 ?k7 ?a8 ?l8 ?c8 ?k8 ?a9 ?l9 ?c9 ?k9 ?a10 ?l10 ?c10 ?k10 ?a11 ?l11 ?c11 ?k11 ?a12 ?l12 ?c12 ?k12 ?a13 ?l13 ?c13 ?k13 ?a14 ?l14 ?c14 ?k14 ?a15 ?l15 ?c15 ?k15 ?a16 ?l16 ?c16 ?k16 ?a17 ?l17 ?c17 ?k17 ?a18 ?l18 ?c18 ?k18 ?a19 ?l19 ?c19 ?k19 ?a20 ?l20 ?c20 ?k20 ?a21 ?l21 ?c21 ?k21 ?a22 ?l22 ?c22 ?k22 ?a23 ?l23 ?c23 ?k23 ?z_ValueError ?z_abs ?z_bool ?z_divmod ?z_int ?z_isinstance ?z_len ?z_max ?z_min ?z_range ?z_repr ?z_str ?g_MAX_BITS ?r_MAX_BITS ?xa0 ?xb0 ?xc0 ?xd0 ?xe0 ?xa1 ?xb1 ?xc1 ?xd1 ?xe1 ?xa2 ?xb2 ?xc2 ?xd2 ?xe2 ?xa3 ?xb3 ?xc3 ?xd3 ?xe3 ?xa4 ?xb4 ?xc4 ?xd4 ?xe4 ?xa5 ?xb5 ?xc5 ?xd5 ?xe5 ?xa6 ?xb6 ?xc6 ?xd6 ?xe6 ?xa7 ?xb7 ?xc7 ?xd7 ?xe7 ?xa8 ?xb8 ?xc8 ?xd8 ?xe8 ?xa9 ?xb9 ?xc9 ?xd9 ?xe9 ?xa10 ?xb10 ?xc10 ?xd10 ?xe10 ?ya1 ?yb1 ?yc1 ?yd1 ?ye1 ?yf1 ?yg1 ?yh1 ?yi1 ?yj1 ?yk1 ?yl1 ?ym1 ?yn1 ?yo1 ?yp1 ?fn_1_value ?su_1_4 ?su_1_6 ?su_1_8 ?su_1_7 ?su_1_5 ?su_1_10 ?su_1_9 ?su_1_1 ?su_1_3 ?su_1_2 ?su_1_0 ?sv_1_ValueError ?ya2 ?yb2 ?yc2 ?yd2 ?ye2 ?yf2 ?yg2 ?yh2 ?yi2 ?yj2 ?yk2 ?yl2 ?ym2 ?yn2 ?yo2 ?yp2 ?fn_2_value ?su_2_4 ?su_2_6 ?su_2_8 ?su_2_7 ?su_2_5 ?su_2_10 ?su_2_9 ?su_2_1 ?su_2_3 ?su_2_2 ?su_2_0 ?sv_2_ValueError ?ya3 ?yb3 ?yc3 ?yd3 ?ye3 ?yf3 ?yg3 ?yh3 ?yi3 ?yj3 ?yk3 ?yl3 ?ym3 ?yn3 ?yo3 ?yp3 ?fn_3_value ?su_3_4 ?su_3_6 ?su_3_8 ?su_3_7 ?su_3_5 ?su_3_10 ?su_3_9 ?su_3_1 ?su_3_3 ?su_3_2 ?su_3_0 ?sv_3_ValueError
    (case a0 => k_is)
    (case l0 => k_is)
    (case c0 => k_is)
    (case k0 => k_is)
    (case a1 => k_is)
    (case l1 => k_is)
    (case c1 => k_is)
    (case k1 => k_is)
    (case a2 => k_is)
    (case l2 => k_is)
    (case c2 => k_is)
    (case k2 => k_is)
    (case a3 => k_is)
    (case l3 => k_is)
    (case c3 => k_is)
    (case k3 => k_is)
    (case a4 => k_is)
    (case l4 => k_is)
    (case c4 => k_is)
    (case k4 => k_is)
    (case a5 => k_is)
    (case l5 => k_is)
    (case c5 => k_is)
    (case k5 => k_is)
    (case a6 => k_is)
    (case l6 => k_is)
    (case c6 => k_is)
    (case k6 => k_is)
    (case a7 => k_is)
    (case l7 => k_is)
    (case c7 => k_is)
    (case k7 => k_is)
    (case a8 => k_is)
    (case l8 => k_is)
    (case c8 => k_is)
    (case k8 => k_is)
    (case a9 => k_is)
    (case l9 => k_is)
    (case c9 => k_is)
    (case k9 => k_is)
    (case a10 => k_is)
    (case l10 => k_is)
    (case c10 => k_is)
    (case k10 => k_is)
    (case a11 => k_is)
    (case l11 => k_is)
    (case c11 => k_is)
    (case k11 => k_is)
    (case a12 => k_is)
    (case l12 => k_is)
    (case c12 => k_is)
    (case k12 => k_is)
    (case a13 => k_is)
    (case l13 => k_is)
    (case c13 => k_is)
    (case k13 => k_is)
    (case a14 => k_is)
    (case l14 => k_is)
    (case c14 => k_is)
    (case k14 => k_is)
    (case a15 => k_is)
    (case l15 => k_is)
    (case c15 => k_is)
    (case k15 => k_is)
    (case a16 => k_is)
    (case l16 => k_is)
    (case c16 => k_is)
    (case k16 => k_is)
    (case a17 => k_is)
    (case l17 => k_is)
    (case c17 => k_is)
    (case k17 => k_is)
    (case a18 => k_is)
    (case l18 => k_is)
    (case c18 => k_is)
    (case k18 => k_is)
    (case a19 => k_is)
    (case l19 => k_is)
    (case c19 => k_is)
    (case k19 => k_is)
    (case a20 => k_is)
    (case l20 => k_is)
    (case c20 => k_is)
    (case k20 => k_is)
    (case a21 => k_is)
    (case l21 => k_is)
    (case c21 => k_is)
    (case k21 => k_is)
    (case a22 => k_is)
    (case l22 => k_is)
    (case c22 => k_is)
    (case k22 => k_is)
    (case a23 => k_is)
    (case l23 => k_is)
    (case c23 => k_is)
    (case k23 => k_is)
    (case z_ValueError => k_is)
    (case z_abs => k_is)
    (case z_bool => k_is)
    (case z_divmod => k_is)
    (case z_int => k_is)
    (case z_isinstance => k_is)
    (case z_len => k_is)
    (case z_max => k_is)
    (case z_min => k_is)
    (case z_range => k_is)
    (case z_repr => k_is)
    (case z_str => k_is)
    (case g_MAX_BITS => k_is)
    (case xa0 => k_is)
    (case xb0 => k_is)
    (case xc0 => k_is)
    (case xd0 => k_is)
    (case xe0 => k_is)
    (case xa1 => k_is)
    (case xb1 => k_is)
    (case xc1 => k_is)
    (case xd1 => k_is)
    (case xe1 => k_is)
    (case xa2 => k_is)
    (case xb2 => k_is)
    (case xc2 => k_is)
    (case xd2 => k_is)
    (case xe2 => k_is)
    (case xa3 => k_is)
    (case xb3 => k_is)
    (case xc3 => k_is)
    (case xd3 => k_is)
    (case xe3 => k_is)
    (case xa4 => k_is)
    (case xb4 => k_is)
    (case xc4 => k_is)
    (case xd4 => k_is)
    (case xe4 => k_is)
    (case xa5 => k_is)
    (case xb5 => k_is)
    (case xc5 => k_is)
    (case xd5 => k_is)
    (case xe5 => k_is)
    (case xa6 => k_is)
    (case xb6 => k_is)
    (case xc6 => k_is)
    (case xd6 => k_is)
    (case xe6 => k_is)
    (case xa7 => k_is)
    (case xb7 => k_is)
    (case xc7 => k_is)
    (case xd7 => k_is)
    (case xe7 => k_is)
    (case xa8 => k_is)
    (case xb8 => k_is)
    (case xc8 => k_is)
    (case xd8 => k_is)
    (case xe8 => k_is)
    (case xa9 => k_is)
    (case xb9 => k_is)
    (case xc9 => k_is)
    (case xd9 => k_is)
    (case xe9 => k_is)
    (case xa10 => k_is)
    (case xb10 => k_is)
    (case xc10 => k_is)
    (case xd10 => k_is)
    (case xe10 => k_is)
    (case ya1 => k_is)
    (case yb1 => decide +kernel)
    (case yc1 => k_is)
    (case yd1 => k_is)
    (case ye1 => k_is)
    (case yf1 => k_is)
    (case yg1 => k_is)
    (case yh1 => k_is)
    (case yi1 => k_is)
    (case yj1 => k_is)
    (case yk1 => k_is)
    (case yl1 => k_is)
    (case ym1 => k_is)
    (case yn1 => k_is)
    (case yo1 => k_is)
    (case yp1 => k_is)
    (case fn_1_value => k_is)
    (case su_1_4 => k_is)
    (case su_1_6 => k_is)
    (case su_1_8 => k_is)
    (case su_1_7 => k_is)
    (case su_1_5 => k_is)
    (case su_1_10 => k_is)
    (case su_1_9 => k_is)
    (case su_1_1 => k_is)
    (case su_1_3 => k_is)
    (case su_1_2 => k_is)
    (case su_1_0 => k_is)
    (case sv_1_ValueError => k_is)
    (case ya2 => k_is)
    (case yb2 => decide +kernel)
    (case yc2 => k_is)
    (case yd2 => k_is)
    (case ye2 => k_is)
    (case yf2 => k_is)
    (case yg2 => k_is)
    (case yh2 => k_is)
    (case yi2 => k_is)
    (case yj2 => k_is)
    (case yk2 => k_is)
    (case yl2 => k_is)
    (case ym2 => k_is)
    (case yn2 => k_is)
    (case yo2 => k_is)
    (case yp2 => k_is)
    (case fn_2_value => k_is)
    (case su_2_4 => k_is)
    (case su_2_6 => k_is)
    (case su_2_8 => k_is)
    (case su_2_7 => k_is)
    (case su_2_5 => k_is)
    (case su_2_10 => k_is)
    (case su_2_9 => k_is)
    (case su_2_1 => k_is)
    (case su_2_3 => k_is)
    (case su_2_2 => k_is)
    (case su_2_0 => k_is)
    (case sv_2_ValueError => k_is)
    (case ya3 => k_is)
    (case yb3 => decide +kernel)
    (case yc3 => k_is)
    (case yd3 => k_is)
    (case ye3 => k_is)
    (case yf3 => k_is)
    (case yg3 => k_is)
    (case yh3 => k_is)
    (case yi3 => k_is)
    (case yj3 => k_is)
    (case yk3 => k_is)
    (case yl3 => k_is)
    (case ym3 => k_is)
    (case yn3 => k_is)
    (case yo3 => k_is)
    (case yp3 => k_is)
    (case fn_3_value => k_is)
    (case su_3_4 => k_is)
    (case su_3_6 => k_is)
    (case su_3_8 => k_is)
    (case su_3_7 => k_is)
    (case su_3_5 => k_is)
    (case su_3_10 => k_is)
    (case su_3_9 => k_is)
    (case su_3_1 => k_is)
    (case su_3_3 => k_is)
    (case su_3_2 => k_is)
    (case su_3_0 => k_is)
    (case sv_3_ValueError => k_is)
    (case r_MAX_BITS => exact ⟨_, rfl⟩)
