import PyProof.Rows.All
import Wide.All
import OpenK.AllK
import Wide.FinOn
import HandS.Base
import HandS.Call
import HandS.List
import HandS.Comp
import HandS.Ends
import HandS.Words
import HandS.WordsList
import HandS.IsInst
import HandS.Conv
import HandS.StrMore
import HandS.WideBits
import HandS.Wide
import HandS.Iter
import HandS.Text
import HandS.Dict
import HandS.Evl
import HandS.Style
import HandS.RaiseMore
import HandS.WordsDict
import HandS.Exc
import HandS.ExcOwn
import HandS.ExcInit
import HandS.ExcField
import HandS.ExcIs
import HandS.TryMany
import HandS.HotCalls
import HandS.SetFor
import HandS.WordsExc
import KE.KExcIs
import HandS.Walk
import PySem.Challenge.RW_coverstore_k11_bits_values_ranges
set_option Elab.async false
set_option maxRecDepth 100000
set_option maxHeartbeats 4000000
/-! My layer beside HandS: defs below which no repr is under way (guards known), repr of data. -/
namespace Gx
open PySem PySem.Spec PyProof.Rows L2
section
variable (P : Program) (w : World) (K : PySem.W.Frag) (mg : Str → Option Value) (base : Heap)
/-- as FnOk, where it is known that no repr is under way at the call -/
structure GOk (CX : CXT) (k : Nat) (f : Addr) (fd : FuncData) (ps : List Str) (sp : Sp) : Prop where
  many : ∀ {vs H Q E}, sp vs H Q E → vs.length = ps.length
  go : ∀ {A : Around} {outer : List Env} {s : Shared} {H : Hp} {args : Args} {us : List Value} {vs : List V} {Q : VK} {E : XK},
    A.guards = some [] → Room k A → Env0 P w K mg base A outer s H → BindsTo s fd args (ps.zip us) → Vals vs us → sp vs H Q E →
    codeAny (model P w) A (.call (.ref f) args) (CR CX outer P w H s Q E) s
end
section
variable {P : Program} {w : World} {K : PySem.W.Frag} {mg : Str → Option Value} {base : Heap} {CX : CXT} {j k : Nat} {f : Addr} {fd : FuncData} {ps : List Str} {sp : Sp}
theorem GOk.of (F : FnOk P w K mg base CX k f fd ps sp) : GOk P w K mg base CX k f fd ps sp :=
  ⟨fun {vs H Q E} z => F.len vs H Q E z, fun {A outer s H args us vs Q E} _ r e b v z => F.run A outer s H args us vs Q E r e b v z⟩
/-- a def by its body -/
theorem gok_body {x qual : Str} {st : Stmt} {N : List Str} (F : Fun K x qual st f fd) (S : FnScope N ps (defScope st)) (hm : ∀ {vs H Q E}, sp vs H Q E → vs.length = ps.length)
    (body : ∀ (cdv : Value) (A : Around) (outer : List Env) (s : Shared) (H : Hp) (vs : List V) (Q : VK) (E : XK), A.guards = some [] →
      Room k (A.deeper (envOfC qual (defScope st) s.heap.objs.size f cdv)) → sp vs H Q E →
      ∃ t, PSs (cxOf CX P w K mg base N qual (defScope st) f cdv A outer s H E) (defBody st) t ∧ t { nx := fun _ H' => Q .non H', rt := Q } (start N vs) H) :
    GOk P w K mg base CX (k + 1) f fd ps sp := by
  obtain ⟨oc, od, kV, doc, pm, an, cdv, ct, osl, rfl, lk, hcd⟩ := F.ex
  refine ⟨hm, fun {A outer s H args us vs Q E} hgd hr e0 hb r hsp => ?_⟩
  have up : ∀ b o, base.get? b = some o → s.heap.get? b = some o := fun b o e => (e0.bs b o e).1
  have inK : K.In s.heap := e0.mod.kin.keeps up
  have nl : s.heap.NoLimit := e0.mod.nolimit.keeps up
  refine codeAny_call_function hr.depth (inK _ _ lk) rfl S.co S.gen rfl (PySem.W.codeRec_of inK hcd) (hb _ _ _ _ ?_)
  refine wpAny_newFunctionEnv_cells S.kind (fun y hy => (S.par y.1 (List.of_mem_zip hy).1).imp id fun z => ⟨z, PySem.W.cellsFrom_some _ _ _ (.inl z)⟩) fun env he s1 new => ?_
  cases he
  obtain ⟨t, ht, q⟩ := body cdv A outer s H vs Q E hgd (hr.deeper _) hsp
  have I := inv_start (CX := CX) (P := P) (w := w) (K := K) (mg := mg) (base := base) (E := E) S hr.hd e0 (hm hsp) r new
  refine ⟨nl.keeps new.toInCall.keep, codeAny_func (wpAny_mono (ht.run [] s1 _ H _ I q) (fun fl s' z => ?_) fun _ _ z => z)⟩
  cases fl with
  | next => exact let ⟨_, H', J, z⟩ := z; ⟨V.non, H', J.os, J.bare, J.base, J.hok, rfl, z⟩
  | ret u => exact let ⟨v, _, H', J, rv, z⟩ := z; ⟨v, H', J.os, J.bare, J.base, J.hok, rv, z⟩
  | brk => exact False.elim (let ⟨_, _, _, z⟩ := z; z)
  | cont => exact False.elim (let ⟨_, _, _, z⟩ := z; z)
end
section
variable {X : Cx} {CX : CXT} {k : Nat} {f : Addr} {fd : FuncData} {ps : List Str} {sp : Sp} {dvs : List V} {ds : List Value} {E : XK} {x : Str} {p pos : Pos} {e : Expr} {es : List Expr} {t : TA}
/-- a call of such a def by its name -/
theorem pe_gcall (F : GOk X.prog X.w X.K X.mg X.base CX k f fd ps sp) (hgd : X.A.guards = some []) (hr : Room k X.A) (hg : Gl X x) (hm : X.mg x = some (.ref f)) (hk : PySem.W.keepIn X.K (.ref f) = true) (hb : Binds X.K fd ps ds)
    (hd : Vals dvs ds) (hx : Passes CX X E) (ha : PA X (e :: es) t) (n0 : (x == ("__debug__" : Str)) = false := by decide)
    (n1 : starEach (e :: es) X.env = (false, eval e X.env) :: starEach es X.env := by rfl) (n2 : (backTo pos (starEach es X.env)).any (·.1) = false := by rfl) :
    PE X (.Call (.Name x p) (e :: es) [] pos) (tCall sp dvs E t) := by
  constructor
  intro pins s σ H Q I h
  refine wpAny_Call_Name_kw (ld_glob I hg hm ?_ n0)
  refine PySem.W.callWith_K (h₀ := X.base) I.ok.mod.kin hk (thn (ha.run pos pins s σ H _ I h) fun us s1 ⟨vs, H1, I1, r, q⟩ => ⟨I1.kIn, ?_⟩) n1 n2
  have rr := r.append hd
  have many : (us ++ ds).length = ps.length := (Paired.length rr).symm.trans (F.many q)
  refine wpAny_call (codeAny_mono (F.go hgd hr I1.env0 (hb s1 us I1.kIn many) rr q) fun res s' z => ?_)
  cases res with
  | error er => exact hx pins σ H1 s1 er s' I1 z
  | ok fl =>
    cases fl with
    | ret u => exact I1.after z
    | next => exact False.elim z
    | brk => exact False.elim z
    | cont => exact False.elim z
end
/-! ### what a value shows -/
mutual
/-- as Dp, with empty dicts -/
inductive Dq (K : PySem.W.Frag) (H : Hp) : V → PyData → Prop
  | non : Dq K H .non .none
  | bl (b : Bool) : Dq K H (.bl b) (.bool b)
  | int (i : Int) : Dq K H (.int i) (.int i)
  | str (x : Str) : Dq K H (.str x) (.str x)
  | lst {a : Addr} {xs : List V} {ds : List PyData} : SqL K H a xs → DqAll K H xs ds → Dq K H (.ref a) (.list ds)
  | tup {a : Addr} {xs : List V} {ds : List PyData} : SqT K H a xs → DqAll K H xs ds → Dq K H (.ref a) (.tuple ds)
  | nil {a : Addr} : H a = some (.dK []) → Dq K H (.ref a) (.dict [])
inductive DqAll (K : PySem.W.Frag) (H : Hp) : List V → List PyData → Prop
  | nil : DqAll K H [] []
  | cons {v : V} {vs : List V} {d : PyData} {ds : List PyData} : Dq K H v d → DqAll K H vs ds → DqAll K H (v :: vs) (d :: ds)
end
end Gx
namespace Gx
open PySem PySem.Spec PyProof.Rows L2
section
variable {X : Cx} {pins : List (Addr × Obj)} {σ : L2.St} {H : Hp} {s : Shared}
theorem nil_reads {a : Addr} (I : Inv X pins σ H s) (e : H a = some (.dK [])) : Reads s.heap (.ref a) (.dict []) [a] := by
  obtain ⟨_, _, vs, kv, o, es, ep, ho, ex, hd, _, hp, _⟩ := I.hok _ _ e
  cases kv
  have e0 : es = #[] := by
    have e1 : es.toList = [] := by
      cases q : es.toList with
      | nil => rfl
      | cons y r =>
        rw [q] at hp
        exact absurd hp (by intro z; cases z)
    simpa using e1
  subst e0
  exact .dict (as := []) (bs := []) ho ex.1 hd .nil .nil
mutual
theorem Dq.reads (I : Inv X pins σ H s) : ∀ (d : PyData) (v : V) (u : Value), Dq X.K H v d → RelV v u → ∃ as, Reads s.heap u d as
  | .none, _, _, h, r => by
    cases h; cases r
    exact ⟨_, .none⟩
  | .bool b, _, _, h, r => by
    cases h; cases r
    exact ⟨_, .bool b⟩
  | .int i, _, _, h, r => by
    cases h
    obtain ⟨t, rfl⟩ := r
    exact ⟨_, .int i t⟩
  | .str x, _, _, h, r => by
    cases h
    obtain ⟨t, rfl⟩ := r
    exact ⟨_, .str x t⟩
  | .list ds, _, _, h, r => by
    cases h with
    | lst hs ha =>
      cases r
      obtain ⟨its, rv, ⟨o, n, ho, hc, _, hd⟩, _⟩ := I.list hs
      obtain ⟨as, q⟩ := DqAll.reads I ds _ its ha rv
      exact ⟨_, .list ho hc hd q⟩
  | .tuple ds, _, _, h, r => by
    cases h with
    | tup hs ha =>
      cases r
      obtain ⟨its, rv, ⟨o, ho, hc, n, hd⟩, _⟩ := I.tuple hs
      obtain ⟨as, q⟩ := DqAll.reads I ds _ its ha rv
      exact ⟨_, .tuple ho hc hd q⟩
  | .dict kvs, _, _, h, r => by
    cases h with
    | nil e =>
      cases r
      exact ⟨_, nil_reads I e⟩
theorem DqAll.reads (I : Inv X pins σ H s) : ∀ (ds : List PyData) (vs : List V) (us : List Value), DqAll X.K H vs ds → Vals vs us → ∃ as, ReadsAll s.heap us ds as
  | [], _, _, h, r => by
    cases h; cases r
    exact ⟨_, .nil⟩
  | d :: ds, _, _, h, r => by
    cases h with
    | cons h1 h2 =>
      cases r with
      | cons r1 r2 =>
        obtain ⟨as, q1⟩ := Dq.reads I d _ _ h1 r1
        obtain ⟨bs, q2⟩ := DqAll.reads I ds _ _ h2 r2
        exact ⟨_, .cons q1 q2⟩
end
end
/-- repr(x) of data -/
def rRepr (K : PySem.W.Frag) : List V → Hp → VK → Prop := fun xs H Q => ∃ x d, xs = [x] ∧ Dq K H x d ∧ d.showable = true ∧ (d.hasDict = true → d = .dict []) ∧ d.depth ≤ 30 ∧ d.shown.length ≤ sizeLine ∧ Q (.str d.shown) H
theorem call_repr {X : Cx} (hgd : X.A.guards = some []) (hu : X.A.units + 64 < cLine) : CallR X (.builtin "repr") (rRepr X.K) := by
  intro pins s σ H xs us Q I r h
  obtain ⟨x, d, rfl, hd, hs, hdict, hdep, hsz, q⟩ := h
  obtain ⟨u, rfl, rx⟩ := vals1 r
  obtain ⟨as, rd⟩ := Dq.reads I d x u hd rx
  have fin : ∀ h' (u : Tok) tk, (∀ b o, s.heap.get? b = some o → h'.get? b = some o) → EP X pins σ Q (.str d.shown u) { s with heap := h', toks := tk } :=
    fun h' u tk k => ⟨.str d.shown, H, I.kept k, ⟨u, rfl⟩, q⟩
  have big : ∀ a, u = .ref a → wpAny (model X.prog X.w) X.A (call (.builtin "repr") [u]) (EP X pins σ Q) X.xe s := fun a e => by
    subst e
    by_cases z : d.hasDict = true
    · have e0 := hdict z
      subst e0
      cases hd with
      | nil e =>
        obtain ⟨_, nm, _⟩ := I.hok _ _ e
        cases rx
        exact repr_of_reads' (nil_reads I e) hs (fun _ y => by
          rw [← List.mem_singleton.mp y] at nm
          simp at nm) hgd (by omega) (fun _ _ e => e) fin hsz
    · exact repr_of_reads' rd hs (fun y => absurd y z) hgd (by omega) (fun _ _ e => e) fin hsz
  cases hd with
  | non => cases rx; exact P.repr_of_none (by simpa only [PyData.shown] using fin s.heap _ _ fun _ _ e => e)
  | bl b => cases rx; exact P.repr_of_bool (by simpa only [PyData.shown] using fin s.heap _ _ fun _ _ e => e)
  | int i =>
    obtain ⟨t, rfl⟩ := rx
    exact P.repr_of_int (by simpa [PyData.showable] using hs) (by simpa only [PyData.shown] using fin s.heap _ _ fun _ _ e => e)
  | str y =>
    obtain ⟨t, rfl⟩ := rx
    exact P.repr_of_str (by simpa only [PyData.shown] using fin s.heap _ _ fun _ _ e => e) (by simpa only [PyData.shown] using hsz)
  | lst _ _ => exact big _ rx
  | tup _ _ => exact big _ rx
  | nil _ => exact big _ rx
end Gx
namespace Gx
open PySem PySem.Spec PyProof.Rows L2
/-! ### the module's defs and constants -/
def DefAt (K : PySem.W.Frag) (mg : Str → Option Value) (x : Str) (st : Stmt) : Prop := ∃ f fd, mg x = some (.ref f) ∧ Fun K x x st f fd
def KnownAt (mg : Str → Option Value) (x : Str) (v : V) : Prop := ∃ u, mg x = some u ∧ RelV v u
/-- positional arguments, all of them -/
def PosB (x : Str) (st : Stmt) (ps : List Str) : Prop := ∀ (kV doc pm : Value) (an : Option Addr) (cdv ct : Value) (us : List Value), us.length = ps.length →
  bindArgs (PySem.W.fnOf x x (defArgs st) (defBody st) (defScope st) .none kV doc pm an cdv ct) ⟨us, []⟩ = pure (ps.zip us)
/-- keywords alone, all of them, named ks; g puts their values in the parameters' order -/
structure KwB (x : Str) (st : Stmt) (ps ks : List Str) (g : {α : Type} → List α → List α) : Prop where
  to : ∀ (kV doc pm : Value) (an : Option Addr) (cdv ct : Value) (ws : List Value), ws.length = ks.length →
    bindArgs (PySem.W.fnOf x x (defArgs st) (defBody st) (defScope st) .none kV doc pm an cdv ct) ⟨[], ks.zip ws⟩ = pure (ps.zip (g ws))
  rel : ∀ {vs : List V} {us : List Value}, Vals vs us → Vals (g vs) (g us)
section
variable (P : Program) (w : World) (K : PySem.W.Frag) (mg : Str → Option Value) (base : Heap)
structure Pr (CX : CXT) (k : Nat) (x : Str) (st : Stmt) (ps : List Str) (sp : Sp) : Prop where
  ex : ∃ f fd, mg x = some (.ref f) ∧ Fun K x x st f fd ∧ FnOk P w K mg base CX k f fd ps sp
structure PrG (CX : CXT) (k : Nat) (x : Str) (st : Stmt) (ps : List Str) (sp : Sp) : Prop where
  ex : ∃ f fd, mg x = some (.ref f) ∧ Fun K x x st f fd ∧ GOk P w K mg base CX k f fd ps sp
end
section
variable {P : Program} {w : World} {K : PySem.W.Frag} {mg : Str → Option Value} {base : Heap} {k : Nat} {x : Str} {st : Stmt} {ps N : List Str} {sp : Sp}
/-- a def that lets nothing out, by its body -/
theorem DefAt.ok (D : DefAt K mg x st) (S : FnScope N ps (defScope st)) (len : ∀ vs H Q E, sp vs H Q E → vs.length = ps.length)
    (body : ∀ (f : Addr) (cdv : Value) (A : Around) (outer : List Env) (s : Shared) (H : Hp) (vs : List V) (Q : VK) (E : XK), Room k (A.deeper (envOfC x (defScope st) s.heap.objs.size f cdv)) → sp vs H Q E →
      ∃ t, PSs (cxOf CX0 P w K mg base N x (defScope st) f cdv A outer s H E).nox (defBody st) t ∧ t { nx := fun _ H' => Q .non H', rt := Q } (start N vs) H) : Pr P w K mg base CX0 (k + 1) x st ps sp := by
  obtain ⟨f, fd, m, F⟩ := D
  exact ⟨f, fd, m, F, F.ok S len fun cdv A outer s H vs Q E => body f cdv A outer s H vs Q E⟩
/-- the same where it is known that no repr is under way -/
theorem DefAt.okG (D : DefAt K mg x st) (S : FnScope N ps (defScope st)) (len : ∀ vs H Q E, sp vs H Q E → vs.length = ps.length)
    (body : ∀ (f : Addr) (cdv : Value) (A : Around) (outer : List Env) (s : Shared) (H : Hp) (vs : List V) (Q : VK) (E : XK), A.guards = some [] → Room k (A.deeper (envOfC x (defScope st) s.heap.objs.size f cdv)) → sp vs H Q E →
      ∃ t, PSs (cxOf CX0 P w K mg base N x (defScope st) f cdv A outer s H E).nox (defBody st) t ∧ t { nx := fun _ H' => Q .non H', rt := Q } (start N vs) H) : PrG P w K mg base CX0 (k + 1) x st ps sp := by
  obtain ⟨f, fd, m, F⟩ := D
  refine ⟨f, fd, m, F, gok_body F S (fun {vs H Q E} z => len vs H Q E z) fun cdv A outer s H vs Q E hg hr z => ?_⟩
  obtain ⟨t, h, q⟩ := body f cdv A outer s H vs Q E hg hr z
  exact ⟨t, h.nox, q⟩
theorem Pr.g {CX : CXT} (F : Pr P w K mg base CX k x st ps sp) : PrG P w K mg base CX k x st ps sp := by
  obtain ⟨f, fd, m, Z, F⟩ := F.ex
  exact ⟨f, fd, m, Z, .of F⟩
end
section
variable {X : Cx} {CX : CXT} {j k : Nat} {st : Stmt} {ps ks : List Str} {sp : Sp} {E : XK} {x : Str} {v : V} {p pos : Pos} {e : Expr} {es : List Expr} {kws : List Keyword} {t tk : TA} {g : {α : Type} → List α → List α}
theorem pe_k (hg : Gl X x) (h : KnownAt X.mg x v) (hd : (x == ("__debug__" : Str)) = false := by decide) : PE X (.Name x pos) (tC v) :=
  let ⟨_, m, r⟩ := h
  pe_glob hg m r hd
theorem pe_pos (F : Pr X.prog X.w X.K X.mg X.base CX k x st ps sp) (hr : Room j X.A) (hk : k ≤ j) (hg : Gl X x) (hb : PosB x st ps) (hx : Passes CX X E) (ha : PA X (e :: es) t) (n0 : (x == ("__debug__" : Str)) = false := by decide)
    (n1 : starEach (e :: es) X.env = (false, eval e X.env) :: starEach es X.env := by rfl) (n2 : (backTo pos (starEach es X.env)).any (·.1) = false := by rfl) : PE X (.Call (.Name x p) (e :: es) [] pos) (tCall sp [] E t) := by
  obtain ⟨f, fd, m, Z, F⟩ := F.ex
  exact pe_call F (hr.mono hk) hg m Z.kp (Z.binds hb) .nil hx ha n0 n1 n2
theorem pe_posG (hgd : X.A.guards = some []) (F : PrG X.prog X.w X.K X.mg X.base CX k x st ps sp) (hr : Room j X.A) (hk : k ≤ j) (hg : Gl X x) (hb : PosB x st ps) (hx : Passes CX X E) (ha : PA X (e :: es) t) (n0 : (x == ("__debug__" : Str)) = false := by decide)
    (n1 : starEach (e :: es) X.env = (false, eval e X.env) :: starEach es X.env := by rfl) (n2 : (backTo pos (starEach es X.env)).any (·.1) = false := by rfl) : PE X (.Call (.Name x p) (e :: es) [] pos) (tCall sp [] E t) := by
  obtain ⟨f, fd, m, Z, F⟩ := F.ex
  exact pe_gcall F hgd (hr.mono hk) hg m Z.kp (Z.binds hb) .nil hx ha n0 n1 n2
/-- f(a = .., b = ..) -/
def tKw (sp : Sp) (n : Nat) (g : {α : Type} → List α → List α) (E : XK) (t : TA) : TE := fun σ H Q => t σ H fun vs H1 => vs.length = n ∧ sp (g vs) H1 Q E
theorem pe_kw (F : Pr X.prog X.w X.K X.mg X.base CX k x st ps sp) (hr : Room j X.A) (hk : k ≤ j) (hg : Gl X x) (hb : KwB x st ps ks g) (hx : Passes CX X E) (hkw : PK X kws tk)
    (n1 : (backToKw pos (keywordEach kws X.env)).all (·.1.isSome) = true := by rfl) (n2 : (backToKw pos (keywordEach kws X.env)).filterMap (·.1) = ks := by rfl) (n0 : (x == ("__debug__" : Str)) = false := by decide)
    (n3 : ((backTo pos (starEach [] X.env)).any (·.1) || (backToKw pos (keywordEach kws X.env)).any (·.1.isNone)) = false := by rfl) : PE X (.Call (.Name x p) [] kws pos) (tKw sp ks.length g E tk) := by
  obtain ⟨f, fd, m, Z, F⟩ := F.ex
  constructor
  intro pins s σ H Q I h
  refine wpAny_Call_Name_kw (ld_glob I hg m ?_ n0)
  refine PySem.W.callWith_KW0 (h₀ := X.base) I.ok.mod.kin Z.kp n1 ?_ n3
  refine thn (hkw.run pos pins s σ H _ I h) fun ws s2 ⟨vs, H2, I2, r, l, q⟩ => ⟨I2.kIn, ?_⟩
  rw [n2]
  obtain ⟨oc, od, kV, doc, pm, an, cdv, ct, osl, rfl, _, _⟩ := Z.ex
  refine wpAny_call (codeAny_mono (F.run X.A X.stack s2 H2 ⟨[], ks.zip ws⟩ (g ws) (g vs) Q E (hr.mono hk) I2.env0 (.of_eq (hb.to kV doc pm an cdv ct ws (r.length.symm.trans l))) (hb.rel r) q) fun res s' z => ?_)
  cases res with
  | error er => exact hx pins σ H2 s2 er s' I2 z
  | ok fl =>
    cases fl with
    | ret u => exact I2.after z
    | next => exact False.elim z
    | brk => exact False.elim z
    | cont => exact False.elim z
end
/-! ### the law's call -/
/-- the script alone is tracked -/
def scr (a : Addr) (o : Obj) (ns : List Int) : Hp := fun b => if b = a then some (.frz o (.lst (ns.map V.int))) else none
theorem law_goG {P : Program} {w : World} {K : PySem.W.Frag} {mg mb : Str → Option Value} {k : Nat} {fa a : Addr} {fd : FuncData} {x : Str} {sp : Sp} {s₁ : Shared} {vs : List Value} {ns : List Int}
    (KX : K.In s₁.heap) (hm : s₁.heap.Ns mainGlobals mg) (hb : s₁.heap.Ns builtinsNs mb) (hbb : ∀ x : Str, x ≠ "__name__" → mb x = bootBuiltins x) (hl : s₁.heap.NoLimit) (hg : s₁.gens = #[])
    (ha : s₁.heap.get? a = some { cls := .type "list", data := .seq vs.toArray }) (hi : IntsAre vs ns) (hn : ns.length ≤ sizeLine) (hr : Room k callerA)
    (F : ∀ base : Heap, K.In base → base.Ns mainGlobals mg → GOk P w K mg base CX0 k fa fd [x] sp) (hbind : ∀ (s : Shared) (u : Value), BindsTo s fd ⟨[u], []⟩ [(x, u)])
    (hsp : ∀ H : Hp, SqL K H a (ns.map V.int) → sp [.ref a] H (fun v _ => v = .bl true) fun _ _ _ => False) :
    codeAny (model P w) callerA (.call (.ref fa) ⟨[.ref a], []⟩) (fun r s' => r = .ok (.ret (.bool true)) ∧ OldK s₁.heap s'.heap ∧ s'.os = s₁.os ∧ AllBare s'.gens) s₁ := by
  have rv := vals_ints hi
  have key : ∀ H : Hp, (∀ b, H b = none ∨ (b = a ∧ ∃ o xs, H b = some (.frz o (.lst xs)))) → SqL K H a (ns.map V.int) → HOk P w H s₁.heap → (H a ≠ none → K.lookup a = none) →
      codeAny (model P w) callerA (.call (.ref fa) ⟨[.ref a], []⟩) (fun r s' => r = .ok (.ret (.bool true)) ∧ OldK s₁.heap s'.heap ∧ s'.os = s₁.os ∧ AllBare s'.gens) s₁ := fun H only hS ok hK => by
    have free : ∀ {b : Addr} {o : Obj} {es : Array DictEntry} {ep : Nat}, s₁.heap.get? b = some o → o.data = .dict es ep → H b = none := fun {b o es ep} e d => by
      rcases only b with z | ⟨rfl, _⟩
      · exact z
      · rw [ha] at e
        cases e
        cases d
    have ns1 : ∀ {b : Addr} {m : Str → Option Value}, s₁.heap.Ns b m → (hidT s₁.heap H).Ns b m := fun {b m} z => let ⟨o, es, ep, e, d, r⟩ := z; ⟨o, es, ep, hidT_get e (free e d), d, r⟩
    have kb : K.In (hidT s₁.heap H) := fun b o e => hidT_get (KX b o e) ((only b).elim id fun ⟨z, o', xs, q⟩ => by
      subst z
      rw [hK (by rw [q]; exact fun z => nomatch z)] at e
      cases e)
    have md : Mod K mg (hidT s₁.heap H) := ⟨kb, ns1 hm, ⟨mb, ns1 hb, hbb⟩, let ⟨mc, h1, h2⟩ := hl; ⟨mc, ns1 h1, h2⟩⟩
    have e0 : Env0 P w K mg (hidT s₁.heap H) callerA [] s₁ H := ⟨rfl, md, fun b o e => of_hidT e, Nat.le_of_eq (hidT_size _ _), trivial, (fun _ z => nomatch z), ok, .of_eq hg⟩
    refine codeAny_mono ((F _ kb (ns1 hm)).go (A := callerA) (us := [.ref a]) (vs := [.ref a]) rfl hr e0 (hbind s₁ (.ref a)) (.cons rfl .nil) (hsp H hS)) fun r s' z => ?_
    cases r with
    | error e => exact False.elim z
    | ok fl =>
      cases fl with
      | next => exact False.elim z
      | brk => exact False.elim z
      | cont => exact False.elim z
      | ret u =>
        obtain ⟨v, H', os, bare, un, ok', r', q⟩ := z
        cases q
        cases r'
        refine ⟨rfl, OldK.of_keep fun b o e => ?_, os, bare⟩
        rcases only b with z | ⟨_, ob, xs, z⟩
        · exact un.keep b o e z (fun y => nomatch y) (fun y => nomatch y)
        · have e1 := (ok b _ z).1
          have e2 := (ok' b _ (un.frzs b ob _ z)).1
          rw [e] at e1
          cases e1
          exact e2
  cases hk : K.lookup a with
  | some o =>
    have e := KX a o hk
    rw [ha] at e
    cases e
    exact key (fun _ => none) (fun _ => .inl rfl) (.inr ⟨_, vs.toArray, _, hk, rfl, rfl, rfl, by rw [List.size_toArray, hi.length]; exact hn, by simpa using rv⟩) (fun b u z => nomatch z) fun z => absurd rfl z
  | none =>
    have at_a : scr a { cls := .type "list", data := .seq vs.toArray } ns a = some (.frz { cls := .type "list", data := .seq vs.toArray } (.lst (ns.map V.int))) := if_pos rfl
    refine key (scr a { cls := .type "list", data := .seq vs.toArray } ns) (fun b => ?_) (.inl (.inr ⟨_, at_a⟩)) (fun b u z => ?_) fun _ => hk
    · by_cases c : b = a
      · exact .inr ⟨c, _, _, by rw [c]; exact at_a⟩
      · exact .inl (if_neg c)
    · by_cases c : b = a
      · subst c
        rw [at_a] at z
        cases z
        exact ⟨ha, by rw [List.length_map]; exact hn, vs, _, rv, ha⟩
      · have z' := (if_neg c).symm.trans z
        cases z'
/-- the end of a law row: from the promise of its law -/
theorem walkG {l : PySem.W.OpenLaw} {n k : Nat} {q : Program} {loose : List Str} {XP : (Str → Option Value) → Heap → Prop} {YP : World → Heap → Prop} {d : DefRec} {K : Params → PySem.W.Frag} {sp : World → Sp} {x nm : Str} {st : Stmt}
    (hn : l.most = some n) (hn2 : n ≤ sizeLine) (hdf : d.params.defaults = []) (hr : Room k callerA) (hY : ∀ (w : World) (h : Heap), YP w h → (K w.params).In h) (hnm : d.name = nm) (hb : PosB nm st [x])
    (F : ∀ (w : World) (mg : Str → Option Value) (h : Heap), (K w.params).In h → h.Ns mainGlobals mg → ∀ base : Heap, (K w.params).In base → base.Ns mainGlobals mg → PrG l.prog w (K w.params) mg base CX0 k nm st [x] (sp w))
    (hsp : ∀ (w : World) (H : Hp) (a : Addr) (ns : List Int), ns.length ≤ n → SqL (K w.params) H a (ns.map V.int) → sp w [.ref a] H (fun v _ => v = .bl true) fun _ _ _ => False) :
    PySem.W.WalkO q loose XP YP l.row.toRowW d [] (fun f vs => PySem.call f vs) := by
  refine Att.attach_call hn hdf fun w s₀ s₁ mg mb fa o pm cd doc a vs ns G Y ho hd hcd hmg hobj hints hlen hg => ?_
  have KX := hY w _ Y
  obtain ⟨f, fd, m, Z, _⟩ := (F w mg _ KX G.T.g _ KX G.T.g).ex
  rw [hnm, m] at hmg
  cases hmg
  refine law_goG (x := x) (fd := fd) KX G.T.g G.T.b G.T.builtins G.T.nolimit hg hobj hints (Nat.le_trans hlen hn2) hr (fun base kb nb => ?_) (fun s u => ?_) fun H hS => hsp w H a ns hlen hS
  · obtain ⟨f', fd', m', Z', F'⟩ := (F w mg _ KX G.T.g base kb nb).ex
    rw [m] at m'
    cases m'
    obtain ⟨_, _, _, _, _, _, _, _, _, rfl, l1, _⟩ := Z.ex
    obtain ⟨_, _, _, _, _, _, _, _, _, rfl, l2, _⟩ := Z'.ex
    rw [l1] at l2
    cases l2
    exact F'
  · obtain ⟨_, _, kV, doc, pm, an, cdv, ct, _, rfl, _, _⟩ := Z.ex
    exact .of_eq (hb kV doc pm an cdv ct [u] rfl)
end Gx
namespace Gx
open PySem PySem.Spec PyProof.Rows L2
/-! ### the module's error classes -/
/-- the address that a name of the module stands for -/
def cl (mg : Str → Option Value) (x : Str) : Addr := match mg x with
  | some (.ref a) => a
  | _ => 0
theorem cl_of {mg : Str → Option Value} {x : Str} {a : Addr} (h : mg x = some (.ref a)) : cl mg x = a := by unfold cl; rw [h]
/-- a class that is asked for -/
structure ClsAt (K : PySem.W.Frag) (mg : Str → Option Value) (x : Str) : Prop where
  g : mg x = some (.ref (cl mg x))
  ty : PySem.W.typeIn K (.ref (cl mg x)) = some (.type "type")
  is : PySem.W.isClsIn K (cl mg x) = true
  ex : PySem.W.subIn K (.ref (cl mg x)) (.type "BaseException") = some true
  me : PySem.W.subIn K (.ref (cl mg x)) (.ref (cl mg x)) = some true
theorem ClsAt.of {K : PySem.W.Frag} {mg : Str → Option Value} {x : Str} {C : Addr} (h : mg x = some (.ref C)) (h1 : PySem.W.typeIn K (.ref C) = some (.type "type")) (h2 : PySem.W.isClsIn K C = true)
    (h3 : PySem.W.subIn K (.ref C) (.type "BaseException") = some true) (h4 : PySem.W.subIn K (.ref C) (.ref C) = some true) : ClsAt K mg x := by
  have e := cl_of h
  refine ⟨?_, ?_, ?_, ?_, ?_⟩ <;> rw [e] <;> assumption
/-- whether x's objects are of the class y -/
def SubAt (K : PySem.W.Frag) (mg : Str → Option Value) (x y : Str) (b : Bool) : Prop := PySem.W.subIn K (.ref (cl mg x)) (.ref (cl mg y)) = some b
theorem SubAt.of {K : PySem.W.Frag} {mg : Str → Option Value} {x y : Str} {C D : Addr} {b : Bool} (h : mg x = some (.ref C)) (h' : mg y = some (.ref D)) (s : PySem.W.subIn K (.ref C) (.ref D) = some b) : SubAt K mg x y b := by
  unfold SubAt
  rw [cl_of h, cl_of h']
  exact s
theorem ClsAt.known {K : PySem.W.Frag} {mg : Str → Option Value} {x : Str} (T : ClsAt K mg x) : KnownAt mg x (.ref (cl mg x)) := ⟨_, T.g, rfl⟩
section
variable {K : PySem.W.Frag} {mg : Str → Option Value} {x y : Str} {b : Bool}
theorem SubAt.cls (s : SubAt K mg x y b) (T : ClsAt K mg y) : PySem.W.kitCls K (.ref (cl mg x)) (.ref (cl mg y)) = some b := by
  have e : ((PySem.W.clsIn K (cl mg y)).isSome && PySem.W.typeIn K (.ref (cl mg y)) == some (.type "type")) = true := by
    rw [T.ty, show (PySem.W.clsIn K (cl mg y)).isSome = true from T.is]
    rfl
  show (if ((PySem.W.clsIn K (cl mg y)).isSome && PySem.W.typeIn K (.ref (cl mg y)) == some (.type "type")) = true then PySem.W.subIn K (.ref (cl mg x)) (.ref (cl mg y)) else none) = some b
  rw [if_pos e]
  exact s
theorem SubAt.one (s : SubAt K mg x y b) (T : ClsAt K mg y) : PySem.W.kitOne K (.ref (cl mg x)) (.ref (cl mg y)) = some b := by
  unfold PySem.W.kitOne
  by_cases c : cl mg x = cl mg y
  · have s' : PySem.W.subIn K (.ref (cl mg x)) (.ref (cl mg y)) = some b := s
    rw [c, T.me] at s'
    rw [c, if_pos (beq_self_eq_true _)]
    exact s'
  · rw [if_neg fun z => c (Value.ref.inj (beq_iff_eq.mp z))]
    exact s.cls T
theorem SubAt.exm (s : SubAt K mg x y b) (T : ClsAt K mg y) : PySem.W.exmOne K (.ref (cl mg x)) (.ref (cl mg y)) = some b := by
  unfold PySem.W.exmOne
  rw [T.ex, if_pos (beq_self_eq_true _)]
  exact s.cls T
end
theorem kit_blt {K : PySem.W.Frag} {C : Addr} {n : String} {b : Bool} (s : PySem.W.subIn K (.ref C) (.type n) = some b) (m : PySem.W.kitMeta n = true) : PySem.W.kitOne K (.ref C) (.type n) = some b := by
  show (if (Value.ref C == Value.type n) = true then _ else if PySem.W.kitMeta n = true then PySem.W.subIn K (.ref C) (.type n) else none) = some b
  rw [if_neg (by simp), if_pos m]
  exact s
/-- an error class whose objects are made, by its own __init__ -/
structure ErrAt (K : PySem.W.Frag) (mg : Str → Option Value) (x : Str) (qual : Str) (st : Stmt) : Prop where
  oex : OexC K (cl mg x)
  ga : PySem.W.findIn K (.ref (cl mg x)) "__getattribute__" = some (some (.builtin "BaseException.__getattribute__"))
  gg : PySem.W.findIn K (.ref (cl mg x)) "__getattr__" = some none
  gc : PySem.W.findIn K (.ref (cl mg x)) "__class__" = some (some (.builtin "object.__class__"))
  gn : PySem.W.specialIn K (.builtin "object.__class__") "__get__" = some (some (.builtin "getset_descriptor.__get__"))
  gt : PySem.W.takesIn K (.builtin "object.__class__") = some true
  gm : PySem.W.mroIn K (cl mg x) (.type "object") = some true
  hd : PySem.W.hasDictIn K (cl mg x) = true
  ini : ∃ f fd, PySem.W.findIn K (.ref (cl mg x)) "__init__" = some (some (.ref f)) ∧ PySem.W.typeIn K (.ref f) = some (.type "function") ∧ Fun K "__init__" qual st f fd
theorem ErrAt.of {K : PySem.W.Frag} {mg : Str → Option Value} {x qual : Str} {st : Stmt} {C f : Addr} {fd : FuncData} {nm q : Str} {N : Addr} {bs bm : List Value} {sn : List Str} {sub : List Value} {ab : Bool} {col : Option Bool} {dd : Option Addr} {k0 k1 k2 k3 k5 : Option Value}
    (h : mg x = some (.ref C)) (l : K.lookup C = some (excClassObj nm q C N bs bm true sn sub ab col dd k0 k1 k2 k3 k5 "ValueError.__new__")) (r : PySem.HandSPX.refsVE bm = true)
    (sa : PySem.W.findIn K (.ref C) "__setattr__" = some (some (.builtin "object.__setattr__"))) (ex : PySem.W.subIn K (.ref C) (.type "BaseException") = some true) (ty : PySem.W.typeIn K (.ref C) = some (.type "type")) (kp : PySem.W.keepIn K (.ref C) = true)
    (ga : PySem.W.findIn K (.ref C) "__getattribute__" = some (some (.builtin "BaseException.__getattribute__"))) (gg : PySem.W.findIn K (.ref C) "__getattr__" = some none) (gc : PySem.W.findIn K (.ref C) "__class__" = some (some (.builtin "object.__class__")))
    (gn : PySem.W.specialIn K (.builtin "object.__class__") "__get__" = some (some (.builtin "getset_descriptor.__get__"))) (gt : PySem.W.takesIn K (.builtin "object.__class__") = some true) (gm : PySem.W.mroIn K C (.type "object") = some true) (hd : PySem.W.hasDictIn K C = true)
    (i1 : PySem.W.findIn K (.ref C) "__init__" = some (some (.ref f))) (i2 : PySem.W.typeIn K (.ref f) = some (.type "function")) (i3 : Fun K "__init__" qual st f fd) : ErrAt K mg x qual st := by
  have e := cl_of h
  refine ⟨?_, ?_, ?_, ?_, gn, gt, ?_, ?_, f, fd, ?_, i2, i3⟩ <;> rw [e]
  · exact ⟨⟨nm, q, N, bs, bm, sn, sub, ab, col, dd, k0, k1, k2, k3, k5, l, r⟩, sa, ex, ty, kp⟩
  all_goals assumption
theorem ErrAt.xf {K : PySem.W.Frag} {mg : Str → Option Value} {x qual : Str} {st : Stmt} (T : ErrAt K mg x qual st) : XfC K (cl mg x) := ⟨T.ga, T.gg, T.oex.exC, T.hd⟩
/-- a method of a class's text -/
def meth (s : Stmt) (i : Nat) : Stmt := match s with
  | .ClassDef _ _ _ b _ _ _ _ _ _ _ => b.getD i (.Pass ⟨0, 0, 0, 0⟩)
  | _ => .Pass ⟨0, 0, 0, 0⟩
/-- positional arguments, all of them -/
def PosQ (x qual : Str) (st : Stmt) (ps : List Str) : Prop := ∀ (kV doc pm : Value) (an : Option Addr) (cdv ct : Value) (us : List Value), us.length = ps.length →
  bindArgs (PySem.W.fnOf x qual (defArgs st) (defBody st) (defScope st) .none kV doc pm an cdv ct) ⟨us, []⟩ = pure (ps.zip us)
/-! ### raise X(e), X's __init__ sets one field -/
/-- what such an __init__ keeps -/
def spInit (K : PySem.W.Frag) (C : Addr) (fld : Str) : Sp := fun vs H Q _ => ∃ a v, vs = [.ref a, v] ∧ H a = some (exo a C none) ∧ OexC K C ∧ PySem.W.findIn K (.ref C) fld = some none ∧
  ∀ d, H d = none → d ≠ a → Q .non (upd (upd H d (exd d [(fld, v)])) a (exo a C (some d)))
section
variable {P : Program} {w : World} {K : PySem.W.Frag} {mg : Str → Option Value} {base : Heap}
theorem init_ok {qual fld p1 p2 : Str} {st : Stmt} {f : Addr} {fd : FuncData} {C : Addr} (F : Fun K "__init__" qual st f fd) (S : FnScope [p1, p2] [p1, p2] (defScope st))
    (body : ∀ (cdv : Value) (A : Around) (outer : List Env) (s : Shared) (H : Hp) (E : XK), PSs (cxOf CX0 P w K mg base [p1, p2] qual (defScope st) f cdv A outer s H E).nox (defBody st) (fun D σ H => tOst K fld (tVar 0) (tVar 1) D σ H)) :
    FnOk P w K mg base CX0 1 f fd [p1, p2] (spInit K C fld) := by
  refine F.ok S (fun vs H Q E h => ?_) fun cdv A outer s H vs Q E hr h => ?_
  · obtain ⟨a, v, rfl, _⟩ := h
    rfl
  · obtain ⟨a, v, rfl, ha, T, hn, q⟩ := h
    exact ⟨_, body cdv A outer s H E, v, rfl, _, rfl, a, C, rfl, T, hn, .inl ⟨ha, fun d n ne => q d n ne⟩⟩
end
/-- a reading, made monotone -/
def tM (te : TE) : TE := fun σ H Q => ∃ R : VK, te σ H R ∧ ∀ v H', R v H' → Q v H'
theorem pe_mo {X : Cx} {e : Expr} {te : TE} (he : PE X e te) : PE X e (tM te) := by
  refine ⟨fun pins s σ H Q I h => ?_⟩
  obtain ⟨R, h, k⟩ := h
  refine wpAny_mono (he.run pins s σ H R I h) (fun u s' z => ?_) fun _ _ z => z
  exact let ⟨v, H', J, r, q⟩ := z; ⟨v, H', J, r, k v H' q⟩
/-- the wish of a made error: its one field's value -/
def tErr (C : Addr) (fld : Str) (te : TE) : L2.St → Hp → XK → Prop := fun σ H Q => te σ H fun v H1 => ∀ d, H1 d = none → Q (.ref C) (some d) (upd H1 d (.xd [(fld, v)]))
section
variable {X : Cx} {x qual fld p1 p2 : Str} {st : Stmt} {k : Nat} {e : Expr} {te : TE} {p pos : Pos}
theorem pmk_err (T : ErrAt X.K X.mg x qual st) (G : ClsAt X.K X.mg x) (hn : PySem.W.findIn X.K (.ref (cl X.mg x)) fld = some none) (hr : Room k X.A) (hk : 2 ≤ k) (S : FnScope [p1, p2] [p1, p2] (defScope st)) (hq : PosQ "__init__" qual st [p1, p2])
    (body : ∀ (f : Addr) (cdv : Value) (A : Around) (outer : List Env) (s : Shared) (H : Hp) (E : XK), PSs (cxOf CX0 X.prog X.w X.K X.mg X.base [p1, p2] qual (defScope st) f cdv A outer s H E).nox (defBody st) (fun D σ H => tOst X.K fld (tVar 0) (tVar 1) D σ H))
    (hg : Gl X x) (he : PE X e te) (n0 : (x == ("__debug__" : Str)) = false := by decide) (n1 : starEach [e] X.env = (false, eval e X.env) :: starEach [] X.env := by rfl) (n2 : (backTo pos (starEach [] X.env)).any (·.1) = false := by rfl) :
    PMk X (.Call (.Name x p) [e] [] pos) (tErr (cl X.mg x) fld te) := by
  obtain ⟨f, fd, i1, i2, F⟩ := T.ini
  have F1 := init_ok (P := X.prog) (w := X.w) (mg := X.mg) (base := X.base) (C := cl X.mg x) F S (body f)
  intro pins s σ H Q I h
  refine pmk_oex T.oex i1 i2 F1 (hr.mono hk) (F.binds hq) .nil pass0 hg G.g (pa_cons (pe_mo he) pa_nil n1) n0 n1 n2 pins s σ H Q I ?_
  refine ⟨_, h, fun v H1 q => ⟨(by decide : 1 ≤ 1000), fun a ha => ⟨a, v, rfl, upd_same, T.oex, hn, fun d n ne => ⟨rfl, d, [(fld, v)], upd_same, ?_, ?_, ?_⟩⟩⟩⟩
  · rw [upd_ne ne]
    exact upd_same
  · rw [upd_ne ne] at n
    exact n
  · rw [upd_ne ne] at n
    have z : upd (del (upd (upd (upd H1 a (exo a (cl X.mg x) none)) d (exd d [(fld, v)])) a (exo a (cl X.mg x) (some d))) a) d (.xd [(fld, v)]) = upd H1 d (.xd [(fld, v)]) := by
      funext b
      by_cases c : b = d
      · rw [c, upd_same, upd_same]
      · rw [upd_ne c, upd_ne c]
        by_cases c2 : b = a
        · rw [c2, del_same, ha]
        · rw [del_ne c2, upd_ne c2, upd_ne c, upd_ne c2]
    rw [z]
    exact q d n
end
/-! ### defs that may raise, their calls -/
section
variable {P : Program} {w : World} {K : PySem.W.Frag} {mg : Str → Option Value} {base : Heap} {k : Nat} {x : Str} {st : Stmt} {ps N : List Str} {sp : Sp}
theorem DefAt.okX (D : DefAt K mg x st) (S : FnScope N ps (defScope st)) (len : ∀ vs H Q E, sp vs H Q E → vs.length = ps.length)
    (body : ∀ (f : Addr) (cdv : Value) (A : Around) (outer : List Env) (s : Shared) (H : Hp) (vs : List V) (Q : VK) (E : XK), Room k (A.deeper (envOfC x (defScope st) s.heap.objs.size f cdv)) → sp vs H Q E →
      ∃ t, PSs (cxOf (L2.CX P w) P w K mg base N x (defScope st) f cdv A outer s H E) (defBody st) t ∧ t { nx := fun _ H' => Q .non H', rt := Q } (start N vs) H) : Pr P w K mg base (L2.CX P w) (k + 1) x st ps sp := by
  obtain ⟨f, fd, m, F⟩ := D
  exact ⟨f, fd, m, F, F.okX S len fun cdv A outer s H vs Q E => body f cdv A outer s H vs Q E⟩
end
section
variable {X : Cx} {j k : Nat} {st : Stmt} {ps ks : List Str} {sp : Sp} {W : WX} {x : Str} {p pos : Pos} {e : Expr} {es : List Expr} {kws : List Keyword} {t tk : TA} {g : {α : Type} → List α → List α}
/-- f(..) in a try's body -/
theorem pe_posS (F : Pr X.prog X.w X.K X.mg X.base (L2.CX X.prog X.w) k x st ps sp) (hr : Room j X.A) (hk : k ≤ j) (hg : Gl X x) (hb : PosB x st ps) (tk : Takes X W) (ha : PA X (e :: es) t) (n0 : (x == ("__debug__" : Str)) = false := by decide)
    (n1 : starEach (e :: es) X.env = (false, eval e X.env) :: starEach es X.env := by rfl) (n2 : (backTo pos (starEach es X.env)).any (·.1) = false := by rfl) : PE X (.Call (.Name x p) (e :: es) [] pos) (tCallS sp (WE W) t) := by
  obtain ⟨f, fd, m, Z, F⟩ := F.ex
  exact pe_callS F (hr.mono hk) hg m Z.kp (Z.binds hb) (fun σ => passAt tk σ) ha n0 n1 n2
def tKwS (sp : Sp) (n : Nat) (g : {α : Type} → List α → List α) (W : WX) (t : TA) : TE := fun σ H Q => t σ H fun vs H1 => vs.length = n ∧ sp (g vs) H1 Q (WE W σ)
/-- f(a = .., b = ..) in a try's body -/
theorem pe_kwS (F : Pr X.prog X.w X.K X.mg X.base (L2.CX X.prog X.w) k x st ps sp) (hr : Room j X.A) (hk : k ≤ j) (hg : Gl X x) (hb : KwB x st ps ks g) (tw : Takes X W) (hkw : PK X kws tk)
    (n1 : (backToKw pos (keywordEach kws X.env)).all (·.1.isSome) = true := by rfl) (n2 : (backToKw pos (keywordEach kws X.env)).filterMap (·.1) = ks := by rfl) (n0 : (x == ("__debug__" : Str)) = false := by decide)
    (n3 : ((backTo pos (starEach [] X.env)).any (·.1) || (backToKw pos (keywordEach kws X.env)).any (·.1.isNone)) = false := by rfl) : PE X (.Call (.Name x p) [] kws pos) (tKwS sp ks.length g W tk) := by
  obtain ⟨f, fd, m, Z, F⟩ := F.ex
  constructor
  intro pins s σ H Q I h
  refine wpAny_Call_Name_kw (ld_glob I hg m ?_ n0)
  refine PySem.W.callWith_KW0 (h₀ := X.base) I.ok.mod.kin Z.kp n1 ?_ n3
  refine thn (hkw.run pos pins s σ H _ I h) fun ws s2 ⟨vs, H2, I2, r, l, q⟩ => ⟨I2.kIn, ?_⟩
  rw [n2]
  obtain ⟨oc, od, kV, doc, pm, an, cdv, ct, osl, rfl, _, _⟩ := Z.ex
  refine wpAny_call (codeAny_mono (F.run X.A X.stack s2 H2 ⟨[], ks.zip ws⟩ (g ws) (g vs) Q (WE W σ) (hr.mono hk) I2.env0 (.of_eq (hb.to kV doc pm an cdv ct ws (r.length.symm.trans l))) (hb.rel r) q) fun res s' z => ?_)
  cases res with
  | error er => exact passAt tw σ pins H2 s2 er s' I2 z
  | ok fl =>
    cases fl with
    | ret u => exact I2.after z
    | next => exact False.elim z
    | brk => exact False.elim z
    | cont => exact False.elim z
end
/-! ### defs that are called while an error is handled; nothing leaves them -/
section
variable (P : Program) (w : World) (K : PySem.W.Frag) (mg : Str → Option Value) (base : Heap)
structure PrP (k : Nat) (x : Str) (st : Stmt) (ps : List Str) (sp : Addr → Value → Option Addr → Sp) : Prop where
  ex : ∃ f fd, mg x = some (.ref f) ∧ Fun K x x st f fd ∧ (∀ a cls d vs H Q E, sp a cls d vs H Q E → vs.length = ps.length) ∧
    ∀ (A : Around) (outer : List Env) (s : Shared) (H : Hp) (us : List Value) (vs : List V) (Q : VK) (p : Addr × Obj) (cls : Value) (d : Option Addr), Zc cls d p.2 → (∃ vs, p.2.data = .fields vs) → L2H.RoomH k A → L2H.PinOk outer H s p → Env0 P w K mg base A outer s H →
      BindsTo s fd ⟨us, []⟩ (ps.zip us) → Vals vs us → sp p.1 cls d vs H Q E0 → codeAny (model P w) A (.call (.ref f) ⟨us, []⟩) (CR CX0 outer P w H s Q E0) s
end
section
variable {P : Program} {w : World} {K : PySem.W.Frag} {mg : Str → Option Value} {base : Heap} {k : Nat} {x : Str} {st : Stmt} {ps N : List Str} {sp : Addr → Value → Option Addr → Sp}
theorem DefAt.okP (D : DefAt K mg x st) (S : FnScope N ps (defScope st)) (len : ∀ a cls d vs H Q E, sp a cls d vs H Q E → vs.length = ps.length)
    (body : ∀ (f : Addr) (cdv : Value) (A : Around) (outer : List Env) (s : Shared) (H : Hp) (vs : List V) (Q : VK) (p : Addr × Obj) (cls : Value) (d : Option Addr), Zc cls d p.2 → (∃ vs, p.2.data = .fields vs) → L2H.RoomH k (A.deeper (envOfC x (defScope st) s.heap.objs.size f cdv)) → sp p.1 cls d vs H Q E0 →
      ∃ t, PSs (L2H.cxH CX0 P w K mg base N x (defScope st) f cdv A outer s H E0 p).nox (defBody st) t ∧ t { nx := fun _ H' => Q .non H', rt := Q } (start N vs) H) : PrP P w K mg base (k + 1) x st ps sp := by
  obtain ⟨f, fd, m, F⟩ := D
  refine ⟨f, fd, m, F, len, fun A outer s H us vs Q p cls d hz hf hr pin e0 hb r hsp => ?_⟩
  obtain ⟨oc, od, kV, doc, pm, an, cdv, ct, osl, rfl, lk, hcd⟩ := F.ex
  have up : ∀ b o, base.get? b = some o → s.heap.get? b = some o := fun b o e => (e0.bs b o e).1
  have inK : K.In s.heap := e0.mod.kin.keeps up
  have nl : s.heap.NoLimit := e0.mod.nolimit.keeps up
  refine codeAny_call_function hr.depth (inK _ _ lk) rfl S.co S.gen rfl (PySem.W.codeRec_of inK hcd) (hb _ _ _ _ ?_)
  refine wpAny_newFunctionEnv_cells S.kind (fun y hy => (S.par y.1 (List.of_mem_zip hy).1).imp id fun z => ⟨z, PySem.W.cellsFrom_some _ _ _ (.inl z)⟩) fun env he s1 new => ?_
  cases he
  obtain ⟨t, ht, q⟩ := body f cdv A outer s H vs Q p cls d hz hf (hr.deeper _) hsp
  have I := L2H.inv_startH (CX := CX0) (P := P) (w := w) (K := K) (mg := mg) (base := base) (E := E0) S pin e0 (len _ _ _ vs H Q E0 hsp) r new
  refine ⟨nl.keeps new.toInCall.keep, codeAny_func (wpAny_mono (ht.nox.run [] s1 _ H _ I q) (fun fl s' z => ?_) fun _ _ z => z)⟩
  cases fl with
  | next => exact let ⟨_, H', J, z⟩ := z; ⟨V.non, H', J.os, J.bare, J.base, J.hok, rfl, z⟩
  | ret u => exact let ⟨v, _, H', J, rv, z⟩ := z; ⟨v, H', J.os, J.bare, J.base, J.hok, rv, z⟩
  | brk => exact False.elim (let ⟨_, _, _, z⟩ := z; z)
  | cont => exact False.elim (let ⟨_, _, _, z⟩ := z; z)
end
theorem roomM {k : Nat} {A : Around} {h : Option Value} (r : Room k A) : L2H.RoomH k (A.mark h) := ⟨r.dp, r.un⟩
section
variable {X : Cx} {j k : Nat} {st : Stmt} {ps : List Str} {sp : Addr → Value → Option Addr → Sp} {x : Str} {p pos : Pos} {e : Expr} {es : List Expr} {t : TA} {a : Addr} {oe : Obj} {cls : Value} {d : Option Addr}
theorem pe_posP (F : PrP X.prog X.w X.K X.mg X.base k x st ps sp) (hr : L2H.RoomH j X.A) (hk : k ≤ j) (hp : (a, oe) ∈ X.pn) (hz : Zc cls d oe) (hf : ∃ vs, oe.data = .fields vs) (hg : Gl X x) (hb : PosB x st ps) (ha : PA X (e :: es) t) (n0 : (x == ("__debug__" : Str)) = false := by decide)
    (n1 : starEach (e :: es) X.env = (false, eval e X.env) :: starEach es X.env := by rfl) (n2 : (backTo pos (starEach es X.env)).any (·.1) = false := by rfl) : PE X (.Call (.Name x p) (e :: es) [] pos) (tCall (sp a cls d) [] E0 t) := by
  obtain ⟨f, fd, m, Z, len, F⟩ := F.ex
  constructor
  intro pins s σ H Q I h
  refine wpAny_Call_Name_kw (ld_glob I hg m ?_ n0)
  refine PySem.W.callWith_K (h₀ := X.base) I.ok.mod.kin Z.kp (thn (ha.run pos pins s σ H _ I h) fun us s1 ⟨vs, H1, I1, r, q⟩ => ⟨I1.kIn, ?_⟩) n1 n2
  have q : sp a cls d (vs ++ []) H1 Q E0 := q
  rw [List.append_nil] at q
  have many : (us ++ []).length = ps.length := by rw [List.append_nil, ← r.length]; exact len _ _ _ _ _ _ _ q
  have bb := (Z.binds hb) s1 us I1.kIn many
  rw [List.append_nil] at bb
  obtain ⟨p1, p2, p3, p4, p5⟩ := I1.pin (a, oe) (List.mem_append_left _ hp)
  have ok : L2H.PinOk X.stack H1 s1 (a, oe) := ⟨p1, p2, fun z => (List.mem_cons.mp (I1.stkSub a z)).elim p3 p4, p5⟩
  refine wpAny_call (codeAny_mono (F X.A X.stack s1 H1 us vs Q (a, oe) cls d hz hf (hr.mono hk) ok I1.env0 bb r q) fun res s' z => ?_)
  cases res with
  | error er => exact False.elim z
  | ok fl =>
    cases fl with
    | ret u => exact I1.after z
    | next => exact False.elim z
    | brk => exact False.elim z
    | cont => exact False.elim z
end
/-! ### isinstance of an error that is handled -/
/-- a handled error, of the class cls with the dict d, is one of the class x, with these fields -/
def ErrOf (mg : Str → Option Value) (x : Str) (cls : Value) (d : Option Addr) (H : Hp) (fs : List (Str × V)) : Prop := cls = .ref (cl mg x) ∧ ∃ dd, d = some dd ∧ H dd = some (.xd fs)
section
variable {X : Cx} {pins : List (Addr × Obj)} {σ : L2.St} {H : Hp} {s : Shared}
theorem ErrOf.kit {x qual : Str} {st : Stmt} {p : Addr × Obj} {fs : List (Str × V)} {cls : Value} {d : Option Addr} (T : ErrAt X.K X.mg x qual st) (h : ErrOf X.mg x cls d H fs) (hp : p ∈ X.pn) (hz : Zc cls d p.2) (hf : ∃ vs, p.2.data = .fields vs) (I : Inv X pins σ H s) :
    ∃ Z : Heap → Prop, PySem.W.KitX X.K (.ref p.1) (.ref (cl X.mg x)) Z ∧ Z s.heap := by
  obtain ⟨rfl, dd, rfl, hd⟩ := h
  obtain ⟨vs, hv⟩ := hf
  have hx : ObjOk X.prog X.w H s.heap dd (.xd fs) := I.hok dd _ hd
  obtain ⟨mA, hns, _⟩ := hx
  obtain ⟨od, ho, _⟩ := lookIn_ns hns
  obtain ⟨h1, _⟩ := I.pin p (List.mem_append_left _ hp)
  have isC : (PySem.W.clsIn X.K (cl X.mg x)).isSome = true := by
    have z := T.hd
    unfold PySem.W.hasDictIn at z
    cases c : PySem.W.clsIn X.K (cl X.mg x) with
    | none => rw [c] at z; cases z
    | some _ => rfl
  refine ⟨fun h => PySem.W.InstAt h p.1 p.2 (cl X.mg x) (some od), PySem.W.kitx_exc isC T.ga T.gg T.oex.exC T.gc T.gn T.gt T.gm, h1, hz.1, ?_, ?_⟩
  · unfold PySem.W.notCls
    rw [hv]
  · rw [hz.2]
    exact ho
end
/-- isinstance(e, c) and isinstance(e, (c1, c2, ..)), e the handled error at a -/
def rIsP (K : PySem.W.Frag) (mg : Str → Option Value) (a : Addr) (cls : Value) (d : Option Addr) : List V → Hp → VK → Prop := fun xs H Q => ∃ (x qual : Str) (st : Stmt) (fs : List (Str × V)) (c : V) (b : Bool), xs = [.ref a, c] ∧ ErrAt K mg x qual st ∧ ErrOf mg x cls d H fs ∧
  ((∃ u, ClsV c u ∧ PySem.W.kitOne K (.ref (cl mg x)) u = some b) ∨ ∃ (tp : Addr) (cs : List V) (us : List Value), c = .ref tp ∧ H tp = some (.tup cs) ∧ Paired ClsV cs us ∧ PySem.W.kitAny K (.ref (cl mg x)) us = some b) ∧ Q (.bl b) H
theorem call_isP {X : Cx} {a : Addr} {oe : Obj} {cls : Value} {d : Option Addr} (hp : (a, oe) ∈ X.pn) (hz : Zc cls d oe) (hf : ∃ vs, oe.data = .fields vs) : CallR X (.builtin "isinstance") (rIsP X.K X.mg a cls d) := by
  intro pins s σ H xs us Q I r h
  obtain ⟨x, qual, st, fs, c, b, rfl, T, he, hc, q⟩ := h
  obtain ⟨w1, u2, rfl, r1, r2⟩ := vals2 r
  cases (show w1 = Value.ref a from r1)
  obtain ⟨Z, kit, at_⟩ := he.kit (p := (a, oe)) T hp hz hf I
  rcases hc with ⟨u, kc, e⟩ | ⟨tp, cs, ws, rfl, hT, kc, e⟩
  · cases kc.eq r2
    exact PySem.W.kia_one kit I.kIn at_ e (fun z => nomatch z) fun tk => ⟨.bl b, H, I.tok tk, rfl, q⟩
  · cases (show u2 = .ref tp from r2)
    have ot : ObjOk X.prog X.w H s.heap tp (.tup cs) := I.hok tp _ hT
    obtain ⟨_, its, rv, ⟨oc, od, dt, sl⟩, h1, h2, n, h3⟩ := ot
    cases ClsV.all kc rv
    cases h2
    cases h3
    exact PySem.W.kia_tup kit I.kIn at_ h1 e (fun z => nomatch z) fun tk => ⟨.bl b, H, I.tok tk, rfl, q⟩
end Gx
namespace Gx
open PySem PySem.Spec PyProof.Rows L2
/-! ### try with several clauses, with or without names -/
/-- behind a suite whose clause has a name in slot i, the slot is empty -/
def goneD (D : Ends) : Option Nat → Ends
  | none => D
  | some i => { nx := fun σ H => D.nx (σ.set i none) H, rt := D.rt, bk := fun σ H => D.bk (σ.set i none) H, ct := fun σ H => D.ct (σ.set i none) H }
def boundS (σ : L2.St) (a : Addr) : Option Nat → L2.St
  | none => σ
  | some i => σ.set i (some (.ref a))
/-- a clause: its class, its name's slot, its suite -/
abbrev Cla := Value × Option Nat × (Addr → Value → Option Addr → TS)
/-- what the clauses wish of an error -/
def wCla (K : PySem.W.Frag) (Wout : WX) (D : Ends) : List Cla → WX
  | [] => Wout
  | (c, i, ts) :: r => fun cls d σ H => ∃ b, PySem.W.exmOne K cls c = some b ∧ (b = true → ∀ a, H a = none → ts a cls d (goneD D i) (boundS σ a i) H) ∧ (b = false → wCla K Wout D r cls d σ H)
inductive Clas (X : Cx) : List ExceptHandler → List Cla → Prop
  | nil : Clas X [] []
  | as {x n : Str} {c : Value} {i : Nat} {ts : Addr → Value → Option Addr → TS} {b₀ : Stmt} {suite : List Stmt} {np pos : Pos} {hds : List ExceptHandler} {l : List Cla} (hi : X.N[i]? = some n) (hl : X.env.kindOf n = some .local) (hc : Names X x c)
      (hs : ∀ (a : Addr) (oe : Obj) (cls : Value) (d : Option Addr) (pn : List (Addr × Obj)), Zc cls d oe → (∃ vs, oe.data = .fields vs) → PSs (X.suite a ((a, oe) :: pn)) (b₀ :: suite) (ts a cls d))
      (r : Clas X hds l) : Clas X (.ExceptHandler (some (.Name x np)) (some n) (b₀ :: suite) pos :: hds) ((c, some i, ts) :: l)
  | no {x : Str} {c : Value} {ts : Addr → Value → Option Addr → TS} {b₀ : Stmt} {suite : List Stmt} {np pos : Pos} {hds : List ExceptHandler} {l : List Cla} (hc : Names X x c)
      (hs : ∀ (a : Addr) (oe : Obj) (cls : Value) (d : Option Addr) (pn : List (Addr × Obj)), Zc cls d oe → (∃ vs, oe.data = .fields vs) → PSs (X.suite a ((a, oe) :: pn)) (b₀ :: suite) (ts a cls d))
      (r : Clas X hds l) : Clas X (.ExceptHandler (some (.Name x np)) none (b₀ :: suite) pos :: hds) ((c, none, ts) :: l)
section
variable {X : Cx} {pins : List (Addr × Obj)} {σ : L2.St} {H : Hp} {s : Shared}
/-- the clauses, one after another, of an error that has landed -/
theorem cla_go {Wout : WX} {D : Ends} {a : Addr} {B : Heap} {cls : Value} {d : Option Addr} {sI s' : Shared} (hs : X.stack = X.env :: X.outer) (hf : X.env.frame = some X.env.locals) (hN : X.N.Nodup) (tk : Takes X Wout) (J : Inv X pins σ H sI)
    (nb : ∀ b o, sI.heap.get? b = some o → b ∉ frs X.stack → B.get? b = some o) (os : s'.os = sI.os) (ag : AllBare s'.gens) (na : H a = none) (up : sI.heap.UpToSlots s'.heap)
    (fl : HandSPX.FlyingZ B (X.env :: X.outer) a (Zc cls d) s'.heap) : ∀ {hds : List ExceptHandler} {l : List Cla}, Clas X hds l → wCla X.K Wout D l cls d σ H →
    wpAny (model X.prog X.w) X.A (handleBy (.ref a) X.env hds) (SP X pins D) X.xe s' := by
  have ok := J.ok
  have J3 : Inv X pins σ H s' := J.landed nb fl.1 up os ag
  obtain ⟨oe, vs, he, hz, hd⟩ := fl.there
  have out : a ∉ frs (X.env :: X.outer) := fun z => by
    obtain ⟨_, o, h1, h2⟩ := fl.2.2.1.mem z
    rw [he] at h1
    cases h1
    exact h2 _ hd
  have nL : a ≠ X.env.locals := fun z => out (List.mem_filterMap.mpr ⟨X.env, List.mem_cons_self, by rw [hf, z]⟩)
  have nF : a ∉ X.fs := fun z => by
    obtain ⟨e, h1, h2⟩ := List.mem_filterMap.mp z
    exact out (List.mem_filterMap.mpr ⟨e, List.mem_cons_of_mem _ h1, h2⟩)
  have S3 := J3.suite he hd na nL nF
  have ask : ∀ {x : Str} {c : Value} {np : Pos} {Q : Value → Shared → Prop} {E : Value → Shared → Prop}, Names X x c → Q c s' → wpAny (model X.prog X.w) (X.A.mark (some (.ref a))) (eval (.Name x np) X.env) Q E s' := fun {x c np Q E} hc q => by
    obtain ⟨hg, hdb, m | ⟨m, v, nn⟩⟩ := hc
    · exact ld_glob (X := X.suite a ((a, oe) :: (X.pn ++ pins))) S3 hg m q hdb
    · exact ld_blt (X := X.suite a ((a, oe) :: (X.pn ++ pins))) S3 hg m v q nn hdb
  have seen : PySem.W.Looks (model X.prog X.w) s'.heap (typeOf (.ref a)) cls := fun A Q E s k q => wpAny_typeOf_ref (k _ _ he) (hz.1.symm ▸ q)
  intro hds l hk
  induction hk with
  | nil =>
    intro w
    refine wpAny_handleBy_nil ?_
    obtain ⟨k1, k2, k3, oe', vs', T, oT, ts, e1, e2, e3, e4, e5⟩ := id fl
    unfold PySem.passOn
    refine wpAny_bind (wpAny_field e1 e3 e4 ?_)
    rw [if_neg (by simp : ¬ ((Value.ref T == Value.none) = true))]
    have last : wpAny (model X.prog X.w) X.A (setFlight (.ref a) X.env.frame) (fun _ s4 => wpAny (model X.prog X.w) X.A (throw (.ref a) : Sem Flow) (SP X pins D) X.xe s4) X.xe s' := by
      rw [hf]
      refine HandSPX.setFlight_upZ fl fun h4 hh up4 => wpAny_throw (tk _ _ ?_)
      exact ⟨a, B, sI, pins, σ, H, cls, d, rfl, J, nb, up.trans up4, .inr (.inr (hs.symm ▸ hh)), na, os, ag, w⟩
    first
      | exact wpAny_bind (wpAny_pure (wpAny_bind last))
      | exact wpAny_bind last
  | @as x n c i ts b₀ suite np pos hds2 l2 hi hl hc hsu r ih =>
    intro w
    obtain ⟨b, e, yes, no⟩ := w
    refine wpAny_handleBy_cons (codeAny_handlers_test ?_) (by intro z; cases z)
    refine ask hc ((PySem.W.exm_one (M := model X.prog X.w) J3.kIn seen e).here ?_)
    cases b with
    | false => exact ih (no rfl)
    | true =>
      refine codeAny_handlers_suite_as (HandSPX.lands_againZ fl fun h4 fl4 up4 => ?_)
      have J4 : Inv X pins σ H { s' with heap := h4 } := J.landed nb fl4.1 (up.trans up4) os ag
      obtain ⟨oe4, vs4, he4, hz4, hd4⟩ := fl4.there
      refine store_ok (X := X.suite a ((a, oe4) :: (X.pn ++ pins))) (v := .ref a) (J4.suite he4 hd4 na nL nF) hN hi (.inl hl) rfl (fun s5 S5 => ?_) (.inr hl)
      refine wpAny_mono ((hsu a oe4 cls d (X.pn ++ pins) hz4 ⟨_, hd4⟩).run [] s5 _ H _ S5 (yes rfl a na)) (fun f s6 z => ?_) fun _ _ z => False.elim z
      cases f with
      | next => exact let ⟨_, _, S6, q⟩ := z; gone_ok (S6.unsuite ok) hN hi hl fun _ J7 => ⟨_, _, J7, q⟩
      | brk => exact let ⟨_, _, S6, q⟩ := z; gone_ok (S6.unsuite ok) hN hi hl fun _ J7 => ⟨_, _, J7, q⟩
      | cont => exact let ⟨_, _, S6, q⟩ := z; gone_ok (S6.unsuite ok) hN hi hl fun _ J7 => ⟨_, _, J7, q⟩
      | ret u => exact let ⟨_, _, _, S6, r6, q⟩ := z; gone_ok (S6.unsuite ok) hN hi hl fun _ J7 => ⟨_, _, _, J7, r6, q⟩
  | @no x c ts b₀ suite np pos hds2 l2 hc hsu r ih =>
    intro w
    obtain ⟨b, e, yes, no⟩ := w
    refine wpAny_handleBy_cons (codeAny_handlers_test ?_) (by intro z; cases z)
    refine ask hc ((PySem.W.exm_one (M := model X.prog X.w) J3.kIn seen e).here ?_)
    cases b with
    | false => exact ih (no rfl)
    | true =>
      refine codeAny_handlers_suite (HandSPX.lands_againZ fl fun h4 fl4 up4 => ?_)
      have J4 : Inv X pins σ H { s' with heap := h4 } := J.landed nb fl4.1 (up.trans up4) os ag
      obtain ⟨oe4, vs4, he4, hz4, hd4⟩ := fl4.there
      refine wpAny_mono ((hsu a oe4 cls d (X.pn ++ pins) hz4 ⟨_, hd4⟩).run [] _ _ H _ (J4.suite he4 hd4 na nL nF) (yes rfl a na)) (fun f s6 z => ?_) fun _ _ z => False.elim z
      cases f with
      | next => exact let ⟨_, _, S6, q⟩ := z; ⟨_, _, S6.unsuite ok, q⟩
      | brk => exact let ⟨_, _, S6, q⟩ := z; ⟨_, _, S6.unsuite ok, q⟩
      | cont => exact let ⟨_, _, S6, q⟩ := z; ⟨_, _, S6.unsuite ok, q⟩
      | ret u => exact let ⟨_, _, _, S6, r6, q⟩ := z; ⟨_, _, _, S6.unsuite ok, r6, q⟩
end
section
variable {X : Cx} {body : List Stmt} {h₀ : ExceptHandler} {hds : List ExceptHandler} {l : List Cla} {pos : Pos} {tb : WX → TS} {Wout : WX}
theorem ps_try (hs : X.stack = X.env :: X.outer) (hf : X.env.frame = some X.env.locals) (hN : X.N.Nodup) (tk : Takes X Wout)
    (hb : ∀ (W : WX) (pn : List (Addr × Obj)) (xe : Value → Shared → Prop), Takes (X.tr pn xe) W → PassesOwn (model X.prog X.w) X.A X.env xe → PSs (X.tr pn xe) body (tb W)) (hh : Clas X (h₀ :: hds) l) :
    PS X (.Try body (h₀ :: hds) [] [] pos) (fun D σ H => tb (wCla X.K Wout D l) D σ H) := by
  refine ⟨fun pins s σ H D I h => wpAny_Try_except ?_⟩
  have ok := I.ok
  have frm : X.A.frames = some (X.env :: X.outer) := by rw [ok.frames, hs]
  have go := (hb (wCla X.K Wout D l) (X.pn ++ pins) (fun e s₁ => wpAny (model X.prog X.w) X.A (noteFrame e X.env) (fun _ s₂ => wpAny (model X.prog X.w) X.A (setFlight e none) (fun _ s₃ =>
    wpAny (model X.prog X.w) X.A (handleBy e X.env (h₀ :: hds)) (SP X pins D) X.xe s₃) X.xe s₂) X.xe s₁) (fun u s' z => ?_) PassesOwn.looking).run [] s σ H D (I.toTry _) h
  · refine wpAny_mono go (fun f s1 z => ?_) fun _ _ z => z
    cases f with
    | next => exact let ⟨_, _, J, q⟩ := z; wpAny_execs_nil ⟨_, _, J.ofTry ok, q⟩
    | brk => exact let ⟨_, _, J, q⟩ := z; ⟨_, _, J.ofTry ok, q⟩
    | cont => exact let ⟨_, _, J, q⟩ := z; ⟨_, _, J.ofTry ok, q⟩
    | ret u => exact let ⟨_, _, _, J, r, q⟩ := z; ⟨_, _, _, J.ofTry ok, r, q⟩
  · obtain ⟨a, B, sI, pins', σ', H', cls, d, rfl, J', nb, up, sky, na, os, ag, w⟩ := z
    refine Sky.land Zc.steady frm hf (hs ▸ sky) fun h3 fl3 up3 => ?_
    exact cla_go (s' := { s' with heap := h3 }) hs hf hN tk (J'.ofTry ok) nb os ag na (up.trans up3) fl3 hh w
end
/-! ### list.count(True) -/
def isTrueV : Value → Bool
  | .bool b => b
  | _ => false
def rCountT (K : PySem.W.Frag) : V → List V → Hp → VK → Prop := fun x xs H Q => ∃ (p : Addr) (bs : List Bool), x = .ref p ∧ xs = [.bl true] ∧ SqL K H p (bs.map V.bl) ∧ Q (.int (bs.count true : Nat)) H
theorem bools_are : ∀ {bs : List Bool} {us : List Value}, Vals (bs.map V.bl) us → us = bs.map Value.bool
  | [], _, h => by cases h; rfl
  | b :: bs, _, h => by
    cases h with
    | cons r t =>
      cases r
      rw [bools_are t]
      rfl
theorem bools_count : ∀ bs : List Bool, (bs.map Value.bool).countP isTrueV = bs.count true
  | [] => rfl
  | b :: bs => by
    rw [List.map_cons, List.countP_cons, List.count_cons, bools_count bs]
    cases b <;> rfl
theorem mt_countT {X : Cx} (hu : X.A.units + 64 < cLine) : MtR X "list.count" (rCountT X.K) := by
  intro pins s σ H x xs v us Q I rx rxs h
  obtain ⟨p, bs, rfl, rfl, hs, q⟩ := h
  cases rx
  obtain ⟨u, rfl, ru⟩ := rxs.one
  cases ru
  obtain ⟨its, rv, ⟨⟨cls, dd, data, sl⟩, n, ho, hc, hdn, hd⟩, hlen⟩ := I.list hs
  cases hc
  cases hd
  have es := bools_are rv
  refine call_meets PySem.F.slot_list_count ⟨_, ho, rfl⟩ PySem.F.entry_list_count (PySem.F.args_list_count_2 _ _) (SeqAt.list_countAt p its.toArray n dd sl (.bool true) isTrueV) ⟨ho, fun y hy => ?_, ?_⟩
  · have hy : y ∈ its := by simpa using hy
    rw [es] at hy
    obtain ⟨b, _, rfl⟩ := List.mem_map.mp hy
    have z := PySem.SeqAt.eqAt_reads (.bool b) (.bool true) X.A.in1 s (.bool b) (.bool true) _ _ (.bool b) (.bool true) rfl rfl (by show X.A.units + 1 + 0 < cLine; omega)
    have e : PyData.eqv (.bool b) (.bool true) = isTrueV (.bool b) := by cases b <;> rfl
    rw [e] at z
    exact z
  · refine ⟨.int (bs.count true : Nat), H, I.tok _, ⟨s.toks, ?_⟩, q⟩
    show Value.int ((its.toArray.toList.countP isTrueV : Nat) : Int) s.toks = _
    rw [es]
    simp only
    rw [bools_count]
/-! ### x * n of a text -/
theorem op_repS {X : Cx} : OpR X (binaryOp .Mult) (fun x y H Q => ∃ z n, x = .str z ∧ y = .int n ∧ MulOk z n ∧ Q (.str (Txt.mul z n)) H) := by
  intro pins s σ H x y v u Q I rx ry h
  obtain ⟨z, n, rfl, rfl, ok, q⟩ := h
  obtain ⟨t, rfl⟩ := rx
  obtain ⟨t', rfl⟩ := ry
  exact PySem.SB.mul ok fun t2 k => ⟨.str (Txt.mul z n), H, I.tok k, ⟨t2, rfl⟩, q⟩
theorem call_reprK {X : Cx} {K : PySem.W.Frag} (hK : X.K = K) (hgd : X.A.guards = some []) (hu : X.A.units + 64 < cLine) : CallR X (.builtin "repr") (rRepr K) := by
  subst hK
  exact call_repr hgd hu
end Gx
namespace My
open PySem PySem.Spec PyProof.Rows L2
def top (i : Nat) : Stmt := PySem.Challenge.pw_coverstore_k11_bits_values_ranges.main.body.getD i (.Pass ⟨0, 0, 0, 0⟩)
abbrev s_is_int : Stmt := top 1
abbrev N_is_int : List Str := ["value"]
theorem sc_is_int : FnScope N_is_int ["value"] (defScope s_is_int) := ⟨rfl, rfl, rfl, by decide +kernel, rfl, by decide +kernel, by decide +kernel⟩
theorem b_is_int : Gx.PosB "is_int" s_is_int ["value"] := fun _ _ _ _ _ _ us hl => match us, hl with | [_], _ => rfl
abbrev s_is_bits : Stmt := top 4
abbrev N_is_bits : List Str := ["value"]
theorem sc_is_bits : FnScope N_is_bits ["value"] (defScope s_is_bits) := ⟨rfl, rfl, rfl, by decide +kernel, rfl, by decide +kernel, by decide +kernel⟩
theorem b_is_bits : Gx.PosB "is_bits" s_is_bits ["value"] := fun _ _ _ _ _ _ us hl => match us, hl with | [_], _ => rfl
abbrev s_is_value : Stmt := top 5
abbrev N_is_value : List Str := ["value", "bits"]
theorem sc_is_value : FnScope N_is_value ["value", "bits"] (defScope s_is_value) := ⟨rfl, rfl, rfl, by decide +kernel, rfl, by decide +kernel, by decide +kernel⟩
theorem b_is_value : Gx.PosB "is_value" s_is_value ["value", "bits"] := fun _ _ _ _ _ _ us hl => match us, hl with | [_, _], _ => rfl
abbrev s_is_range : Stmt := top 6
abbrev N_is_range : List Str := ["value", "bits"]
theorem sc_is_range : FnScope N_is_range ["value", "bits"] (defScope s_is_range) := ⟨rfl, rfl, rfl, by decide +kernel, rfl, by decide +kernel, by decide +kernel⟩
theorem b_is_range : Gx.PosB "is_range" s_is_range ["value", "bits"] := fun _ _ _ _ _ _ us hl => match us, hl with | [_, _], _ => rfl
abbrev s__law_rng : Stmt := top 8
abbrev N__law_rng : List Str := ["_law_script", "_law_k", "_law_cell"]
theorem sc__law_rng : FnScope N__law_rng ["_law_script", "_law_k"] (defScope s__law_rng) := ⟨rfl, rfl, rfl, by decide +kernel, rfl, by decide +kernel, by decide +kernel⟩
theorem b__law_rng : Gx.PosB "_law_rng" s__law_rng ["_law_script", "_law_k"] := fun _ _ _ _ _ _ us hl => match us, hl with | [_, _], _ => rfl
abbrev s__law_draw : Stmt := top 9
abbrev N__law_draw : List Str := ["_law_rng_here", "_law_many", "_law_digit", "_law_mixed"]
theorem sc__law_draw : FnScope N__law_draw ["_law_rng_here", "_law_many"] (defScope s__law_draw) := ⟨rfl, rfl, rfl, by decide +kernel, rfl, by decide +kernel, by decide +kernel⟩
theorem b__law_draw : Gx.PosB "_law_draw" s__law_draw ["_law_rng_here", "_law_many"] := fun _ _ _ _ _ _ us hl => match us, hl with | [_, _], _ => rfl
abbrev s__law_choice : Stmt := top 10
abbrev N__law_choice : List Str := ["_law_rng_here", "_law_options"]
theorem sc__law_choice : FnScope N__law_choice ["_law_rng_here", "_law_options"] (defScope s__law_choice) := ⟨rfl, rfl, rfl, by decide +kernel, rfl, by decide +kernel, by decide +kernel⟩
theorem b__law_choice : Gx.PosB "_law_choice" s__law_choice ["_law_rng_here", "_law_options"] := fun _ _ _ _ _ _ us hl => match us, hl with | [_, _], _ => rfl
abbrev s__law_is_integer : Stmt := top 11
abbrev N__law_is_integer : List Str := ["_law_thing_here"]
theorem sc__law_is_integer : FnScope N__law_is_integer ["_law_thing_here"] (defScope s__law_is_integer) := ⟨rfl, rfl, rfl, by decide +kernel, rfl, by decide +kernel, by decide +kernel⟩
theorem b__law_is_integer : Gx.PosB "_law_is_integer" s__law_is_integer ["_law_thing_here"] := fun _ _ _ _ _ _ us hl => match us, hl with | [_], _ => rfl
abbrev s__law_power : Stmt := top 12
abbrev N__law_power : List Str := ["_law_many", "_law_found", "_law_turn"]
theorem sc__law_power : FnScope N__law_power ["_law_many"] (defScope s__law_power) := ⟨rfl, rfl, rfl, by decide +kernel, rfl, by decide +kernel, by decide +kernel⟩
theorem b__law_power : Gx.PosB "_law_power" s__law_power ["_law_many"] := fun _ _ _ _ _ _ us hl => match us, hl with | [_], _ => rfl
abbrev s__law_is_bits : Stmt := top 13
abbrev N__law_is_bits : List Str := ["_law_thing_here"]
theorem sc__law_is_bits : FnScope N__law_is_bits ["_law_thing_here"] (defScope s__law_is_bits) := ⟨rfl, rfl, rfl, by decide +kernel, rfl, by decide +kernel, by decide +kernel⟩
theorem b__law_is_bits : Gx.PosB "_law_is_bits" s__law_is_bits ["_law_thing_here"] := fun _ _ _ _ _ _ us hl => match us, hl with | [_], _ => rfl
abbrev s__law_is_value : Stmt := top 14
abbrev N__law_is_value : List Str := ["_law_thing_here", "_law_many"]
theorem sc__law_is_value : FnScope N__law_is_value ["_law_thing_here", "_law_many"] (defScope s__law_is_value) := ⟨rfl, rfl, rfl, by decide +kernel, rfl, by decide +kernel, by decide +kernel⟩
theorem b__law_is_value : Gx.PosB "_law_is_value" s__law_is_value ["_law_thing_here", "_law_many"] := fun _ _ _ _ _ _ us hl => match us, hl with | [_, _], _ => rfl
abbrev s__law_is_range : Stmt := top 15
abbrev N__law_is_range : List Str := ["_law_thing_here", "_law_many", "_law_sign"]
theorem sc__law_is_range : FnScope N__law_is_range ["_law_thing_here", "_law_many"] (defScope s__law_is_range) := ⟨rfl, rfl, rfl, by decide +kernel, rfl, by decide +kernel, by decide +kernel⟩
theorem b__law_is_range : Gx.PosB "_law_is_range" s__law_is_range ["_law_thing_here", "_law_many"] := fun _ _ _ _ _ _ us hl => match us, hl with | [_, _], _ => rfl
abbrev s__law_odd : Stmt := top 16
abbrev N__law_odd : List Str := ["_law_rng_here", "_law_some"]
theorem sc__law_odd : FnScope N__law_odd ["_law_rng_here"] (defScope s__law_odd) := ⟨rfl, rfl, rfl, by decide +kernel, rfl, by decide +kernel, by decide +kernel⟩
theorem b__law_odd : Gx.PosB "_law_odd" s__law_odd ["_law_rng_here"] := fun _ _ _ _ _ _ us hl => match us, hl with | [_], _ => rfl
abbrev s__law_bits : Stmt := top 17
abbrev N__law_bits : List Str := ["_law_rng_here", "_law_way"]
theorem sc__law_bits : FnScope N__law_bits ["_law_rng_here"] (defScope s__law_bits) := ⟨rfl, rfl, rfl, by decide +kernel, rfl, by decide +kernel, by decide +kernel⟩
theorem b__law_bits : Gx.PosB "_law_bits" s__law_bits ["_law_rng_here"] := fun _ _ _ _ _ _ us hl => match us, hl with | [_], _ => rfl
abbrev s__law_thing : Stmt := top 18
abbrev N__law_thing : List Str := ["_law_rng_here", "_law_many", "_law_size", "_law_some"]
theorem sc__law_thing : FnScope N__law_thing ["_law_rng_here", "_law_many"] (defScope s__law_thing) := ⟨rfl, rfl, rfl, by decide +kernel, rfl, by decide +kernel, by decide +kernel⟩
theorem b__law_thing : Gx.PosB "_law_thing" s__law_thing ["_law_rng_here", "_law_many"] := fun _ _ _ _ _ _ us hl => match us, hl with | [_, _], _ => rfl
abbrev s__law_text : Stmt := top 19
abbrev N__law_text : List Str := ["_law_rng_here", "_law_many", "_law_length", "_law_signs", "_law_k"]
theorem sc__law_text : FnScope N__law_text ["_law_rng_here", "_law_many"] (defScope s__law_text) := ⟨rfl, rfl, rfl, by decide +kernel, rfl, by decide +kernel, by decide +kernel⟩
theorem b__law_text : Gx.PosB "_law_text" s__law_text ["_law_rng_here", "_law_many"] := fun _ _ _ _ _ _ us hl => match us, hl with | [_, _], _ => rfl
abbrev s__law_right : Stmt := top 20
abbrev N__law_right : List Str := ["_law_many", "_law_thing_here", "_law_told", "_law_due"]
theorem sc__law_right : FnScope N__law_right ["_law_many", "_law_thing_here"] (defScope s__law_right) := ⟨rfl, rfl, rfl, by decide +kernel, rfl, by decide +kernel, by decide +kernel⟩
theorem b__law_right : Gx.PosB "_law_right" s__law_right ["_law_many", "_law_thing_here"] := fun _ _ _ _ _ _ us hl => match us, hl with | [_, _], _ => rfl
abbrev s_law : Stmt := top 21
abbrev N_law : List Str := ["_law_script", "_law_k", "_law_rng_here", "_law_turn", "_law_many", "_law_thing_here"]
theorem sc_law : FnScope N_law ["_law_script"] (defScope s_law) := ⟨rfl, rfl, rfl, by decide +kernel, rfl, by decide +kernel, by decide +kernel⟩
theorem b_law : Gx.PosB "law" s_law ["_law_script"] := fun _ _ _ _ _ _ us hl => match us, hl with | [_], _ => rfl
theorem kb_is_bits_value : Gx.KwB "is_bits" s_is_bits ["value"] ["value"] (fun zs => zs) := ⟨fun _ _ _ _ _ _ ws hl => match ws, hl with | [_], _ => rfl, fun r => r⟩
theorem kb_is_value_value_bits : Gx.KwB "is_value" s_is_value ["value", "bits"] ["value", "bits"] (fun zs => zs) := ⟨fun _ _ _ _ _ _ ws hl => match ws, hl with | [_, _], _ => rfl, fun r => r⟩
theorem kb_is_range_value_bits : Gx.KwB "is_range" s_is_range ["value", "bits"] ["value", "bits"] (fun zs => zs) := ⟨fun _ _ _ _ _ _ ws hl => match ws, hl with | [_, _], _ => rfl, fun r => r⟩
/-- what the module's names stand for -/
structure Mo (K : PySem.W.Frag) (mg : Str → Option Value) : Prop where
  d_is_int : Gx.DefAt K mg "is_int" s_is_int
  d_is_bits : Gx.DefAt K mg "is_bits" s_is_bits
  d_is_value : Gx.DefAt K mg "is_value" s_is_value
  d_is_range : Gx.DefAt K mg "is_range" s_is_range
  d__law_rng : Gx.DefAt K mg "_law_rng" s__law_rng
  d__law_draw : Gx.DefAt K mg "_law_draw" s__law_draw
  d__law_choice : Gx.DefAt K mg "_law_choice" s__law_choice
  d__law_is_integer : Gx.DefAt K mg "_law_is_integer" s__law_is_integer
  d__law_power : Gx.DefAt K mg "_law_power" s__law_power
  d__law_is_bits : Gx.DefAt K mg "_law_is_bits" s__law_is_bits
  d__law_is_value : Gx.DefAt K mg "_law_is_value" s__law_is_value
  d__law_is_range : Gx.DefAt K mg "_law_is_range" s__law_is_range
  d__law_odd : Gx.DefAt K mg "_law_odd" s__law_odd
  d__law_bits : Gx.DefAt K mg "_law_bits" s__law_bits
  d__law_thing : Gx.DefAt K mg "_law_thing" s__law_thing
  d__law_text : Gx.DefAt K mg "_law_text" s__law_text
  d__law_right : Gx.DefAt K mg "_law_right" s__law_right
  d_law : Gx.DefAt K mg "law" s_law
  b_abs : mg "abs" = none
  b_bool : mg "bool" = none
  b_divmod : mg "divmod" = none
  b_int : mg "int" = none
  b_isinstance : mg "isinstance" = none
  b_len : mg "len" = none
  b_max : mg "max" = none
  b_min : mg "min" = none
  b_range : mg "range" = none
  b_repr : mg "repr" = none
  b_str : mg "str" = none
  g_MAX_BITS : Gx.KnownAt mg "MAX_BITS" (.int 10)
/-! ### the values that are drawn -/
/-- a thing: flat, or a list, a tuple, a dict that is not the one at p -/
inductive Th (p : Addr) (H : Hp) : V → Prop
  | non : Th p H .non
  | bl (b : Bool) : Th p H (.bl b)
  | int (i : Int) : Th p H (.int i)
  | str (z : Str) (h : z.length ≤ 100) (a : ∀ c ∈ z.cps.toList, c < 128) : Th p H (.str z)
  | lst {a : Addr} {xs : List V} (n : a ≠ p) (h : H a = some (.lst xs)) : Th p H (.ref a)
  | tup {a : Addr} {xs : List V} (n : a ≠ p) (h : H a = some (.tup xs)) : Th p H (.ref a)
  | dic {a : Addr} {kvs : List (Key × V)} (n : a ≠ p) (h : H a = some (.dK kvs)) : Th p H (.ref a)
/-- all but the object at p is as it was -/
def Kp (p : Addr) (H H' : Hp) : Prop := ∀ b o, b ≠ p → H b = some o → H' b = some o
theorem Kp.refl {p : Addr} {H : Hp} : Kp p H H := fun _ _ _ h => h
theorem Kp.trans {p : Addr} {H H1 H2 : Hp} (a : Kp p H H1) (b : Kp p H1 H2) : Kp p H H2 := fun c o n h => b c o n (a c o n h)
theorem Kp.new {p q : Addr} {H : Hp} {o : HO} (h : H q = none) : Kp p H (upd H q o) := fun b u _ e => by rw [upd_ne (ne_of_none e h)]; exact e
theorem Kp.at {p : Addr} {H : Hp} {o : HO} : Kp p H (upd H p o) := fun b u n e => by rw [upd_ne n]; exact e
theorem Th.kp {p : Addr} {H H' : Hp} {x : V} (t : Th p H x) (k : Kp p H H') : Th p H' x := by
  cases t with
  | non => exact .non
  | bl b => exact .bl b
  | int i => exact .int i
  | str z h a => exact .str z h a
  | lst n h => exact .lst n (k _ _ n h)
  | tup n h => exact .tup n (k _ _ n h)
  | dic n h => exact .dic n (k _ _ n h)
def tyI : V → Bool
  | .int _ => true
  | .bl _ => true
  | _ => false
def tyBo : V → Bool
  | .bl _ => true
  | _ => false
def tyS : V → Bool
  | .str _ => true
  | _ => false
theorem isi_int {K : PySem.W.Frag} {p : Addr} {H : Hp} {x : V} (t : Th p H x) : ∃ u, TyX K H x u ∧ PySem.W.kitOne K u (.type "int") = some (tyI x) := by
  cases t with
  | non => exact ⟨_, .base .non, kit_ty (show _ = some false by decide +kernel)⟩
  | bl b => exact ⟨_, .base (.bl b), kit_ty (show _ = some true by decide +kernel)⟩
  | int i => exact ⟨_, .base (.int i), kit_ty (show _ = some true by decide +kernel)⟩
  | str z _ _ => exact ⟨_, .base (.str z), kit_ty (show _ = some false by decide +kernel)⟩
  | lst _ h => exact ⟨_, .base (.lst h), kit_ty (show _ = some false by decide +kernel)⟩
  | tup _ h => exact ⟨_, .base (.tup h), kit_ty (show _ = some false by decide +kernel)⟩
  | dic _ h => exact ⟨_, .base (.dK h), kit_ty (show _ = some false by decide +kernel)⟩
theorem isi_bool {K : PySem.W.Frag} {p : Addr} {H : Hp} {x : V} (t : Th p H x) : ∃ u, TyX K H x u ∧ PySem.W.kitOne K u (.type "bool") = some (tyBo x) := by
  cases t with
  | non => exact ⟨_, .base .non, kit_ty (show _ = some false by decide +kernel)⟩
  | bl b => exact ⟨_, .base (.bl b), kit_ty (show _ = some true by decide +kernel)⟩
  | int i => exact ⟨_, .base (.int i), kit_ty (show _ = some false by decide +kernel)⟩
  | str z _ _ => exact ⟨_, .base (.str z), kit_ty (show _ = some false by decide +kernel)⟩
  | lst _ h => exact ⟨_, .base (.lst h), kit_ty (show _ = some false by decide +kernel)⟩
  | tup _ h => exact ⟨_, .base (.tup h), kit_ty (show _ = some false by decide +kernel)⟩
  | dic _ h => exact ⟨_, .base (.dK h), kit_ty (show _ = some false by decide +kernel)⟩
theorem isi_str {K : PySem.W.Frag} {p : Addr} {H : Hp} {x : V} (t : Th p H x) : ∃ u, TyX K H x u ∧ PySem.W.kitOne K u (.type "str") = some (tyS x) := by
  cases t with
  | non => exact ⟨_, .base .non, kit_ty (show _ = some false by decide +kernel)⟩
  | bl b => exact ⟨_, .base (.bl b), kit_ty (show _ = some false by decide +kernel)⟩
  | int i => exact ⟨_, .base (.int i), kit_ty (show _ = some false by decide +kernel)⟩
  | str z _ _ => exact ⟨_, .base (.str z), kit_ty (show _ = some true by decide +kernel)⟩
  | lst _ h => exact ⟨_, .base (.lst h), kit_ty (show _ = some false by decide +kernel)⟩
  | tup _ h => exact ⟨_, .base (.tup h), kit_ty (show _ = some false by decide +kernel)⟩
  | dic _ h => exact ⟨_, .base (.dK h), kit_ty (show _ = some false by decide +kernel)⟩
/-! ### what the questions answer -/
def isI : V → Bool
  | .int _ => true
  | _ => false
def isBt : V → Bool
  | .int i => decide (1 ≤ i) && decide (i ≤ 10)
  | _ => false
section
variable {P : Program} {w : World} {K : PySem.W.Frag} {mg : Str → Option Value} {base : Heap}
def spIsI : Sp := fun vs H Q _ => ∃ p x, vs = [x] ∧ Th p H x ∧ Q (.bl (isI x)) H
theorem p_is_int (T : Mo K mg) : Gx.Pr P w K mg base CX0 1 "is_int" s_is_int ["value"] spIsI := by
  refine T.d_is_int.ok sc_is_int (fun vs H Q E h => ?_) (fun f cdv A outer s H vs Q E hr h => ?_)
  · obtain ⟨p, x, rfl, _⟩ := h
    rfl
  · obtain ⟨p, x, rfl, t, q⟩ := h
    refine ⟨_, (pss_one (ps_ret (pe_and (pe_callB call_isi (by rfl) T.b_isinstance (by decide +kernel) (pa_cons (pv 0) (pa_cons (pe_bltn (v := .ty "int") rfl T.b_int (by decide +kernel) rfl) pa_nil))) (pe_one (pe_not (pe_callB call_isi (by rfl) T.b_isinstance (by decide +kernel) (pa_cons (pv 0) (pa_cons (pe_bltn (v := .ty "bool") rfl T.b_bool (by decide +kernel) rfl) pa_nil)))))))), ?_⟩
    obtain ⟨u1, t1, k1⟩ := isi_int (K := K) t
    obtain ⟨u2, t2, k2⟩ := isi_bool (K := K) t
    refine ⟨x, rfl, x, .ty "int", u1, _, _, rfl, .ty _, t1, k1, _, rfl, ?_⟩
    cases t with
    | int i => exact ⟨_, rfl, _, .ty "bool", u2, _, _, rfl, .ty _, t2, k2, _, rfl, q⟩
    | bl i => exact ⟨_, rfl, _, .ty "bool", u2, _, _, rfl, .ty _, t2, k2, _, rfl, q⟩
    | non => exact q
    | str => exact q
    | lst => exact q
    | tup => exact q
    | dic => exact q
def spIsB : Sp := fun vs H Q _ => ∃ p x, vs = [x] ∧ Th p H x ∧ Q (.bl (isBt x)) H
theorem p_is_bits (T : Mo K mg) : Gx.Pr P w K mg base CX0 2 "is_bits" s_is_bits ["value"] spIsB := by
  refine T.d_is_bits.ok sc_is_bits (fun vs H Q E h => ?_) (fun f cdv A outer s H vs Q E hr h => ?_)
  · obtain ⟨p, x, rfl, _⟩ := h
    rfl
  · obtain ⟨p, x, rfl, t, q⟩ := h
    refine ⟨_, (pss_one (ps_ret (pe_and (Gx.pe_pos (p_is_int T) hr (by decide) (by rfl) b_is_int pass0 (pa_cons (pv 0) pa_nil)) (pe_one (pe_chain op_le op_le pe_int (pv 0) (Gx.pe_k rfl T.g_MAX_BITS)))))), ?_⟩
    refine ⟨x, rfl, p, x, rfl, t, _, rfl, ?_⟩
    cases t with
    | int i =>
      refine ⟨_, rfl, _, _, rfl, rfl, _, rfl, ?_⟩
      show if decide (1 ≤ i) = true then _ else _
      have q : Q (.bl (decide (1 ≤ i) && decide (i ≤ 10))) H := q
      by_cases c : 1 ≤ i
      · rw [decide_eq_true c] at q ⊢
        exact ⟨_, _, rfl, rfl, q⟩
      · rw [decide_eq_false c] at q ⊢
        exact q
    | bl i => exact q
    | non => exact q
    | str => exact q
    | lst => exact q
    | tup => exact q
    | dic => exact q
end
end My
namespace My
open PySem PySem.Spec PySem.Builtin PySem.Builtin.Str PyProof.Rows L2
/-! ### texts -/
theorem strip_nil (z y : Str) : (Txt.stripChars z y = Str.empty) ↔ ∀ c ∈ z.cps.toList, y.cps.contains c = true := by
  unfold Txt.stripChars
  rw [PyProof.Rows.stripBy_eq]
  generalize y.cps.contains = g
  obtain ⟨l1, l2, l3⟩ := lo_facts g z
  obtain ⟨h1, h2, h3, h4⟩ := hi_facts g z (stripLo g true z) l1
  have sz : ∀ i : Nat, i < z.length → z.cps.toList[i]? = some (z.cps.getD i 0) := fun i hi => by
    have hi' : i < z.cps.size := hi
    simp [Array.getD, hi']
  constructor
  · intro e c hc
    have e0 : (strSub z (stripLo g true z) (stripHi g true z (stripLo g true z))).length = 0 := by rw [e]; rfl
    rw [size_strSub _ _ _ h2] at e0
    obtain ⟨i, hi, rfl⟩ := List.mem_iff_getElem.mp hc
    have hi' : i < z.length := by simpa [Str.length] using hi
    have q := sz i hi'
    rw [List.getElem?_eq_getElem hi] at q
    rw [Option.some.inj q]
    by_cases c1 : i < stripLo g true z
    · exact l2 i c1
    · exact h3 i (by omega) hi'
  · intro h
    have all : ∀ i, i < z.length → g (z.cps.getD i 0) = true := fun i hi => h _ (List.mem_of_getElem? (sz i hi))
    have e1 : stripLo g true z = z.length := by
      rcases l3 with e | e
      · exact e
      · by_cases c : stripLo g true z < z.length
        · rw [all _ c] at e
          cases e
        · omega
    have e0 : (strSub z (stripLo g true z) (stripHi g true z (stripLo g true z))).length = 0 := by
      rw [size_strSub _ _ _ h2]
      omega
    revert e0
    generalize strSub z (stripLo g true z) (stripHi g true z (stripLo g true z)) = u
    intro e0
    obtain ⟨a⟩ := u
    have : a = #[] := Array.eq_empty_of_size_eq_zero e0
    rw [this]
    rfl
def is01 (c : Nat) : Bool := c == 48 || c == 49
theorem strip01 (z : Str) : decide (V.str (Txt.stripChars z "01") = V.str "") = z.cps.toList.all is01 := by
  have e : (V.str (Txt.stripChars z "01") = V.str "") ↔ z.cps.toList.all is01 = true := by
    rw [V.str.injEq, show (("" : String) : Str) = Str.empty from rfl, strip_nil, List.all_eq_true]
    have k : ∀ c : Nat, ((("01" : String) : Str)).cps.contains c = is01 c := fun c => by
      have : ((("01" : String) : Str)).cps = #[48, 49] := by decide +kernel
      rw [this]
      simp [is01, Array.contains]

    constructor
    · intro h c hc
      rw [← k]; exact h c hc
    · intro h c hc
      rw [k]; exact h c hc
  by_cases c : z.cps.toList.all is01 = true
  · rw [c, decide_eq_true (e.mpr c)]
  · rw [Bool.eq_false_iff.mpr c, decide_eq_false fun x => c (e.mp x)]
end My
namespace My
open PySem PySem.Spec PyProof.Rows L2
def vlIn : V → Int → Bool
  | .int i, b => decide (0 ≤ i) && decide (i < 2 ^ b.toNat)
  | _, _ => false
def isVl : V → V → Bool
  | x, .int b => (decide (1 ≤ b) && decide (b ≤ 10)) && vlIn x b
  | _, _ => false
def isRg : V → V → Bool
  | .str z, .int b => (decide (1 ≤ b) && decide (b ≤ 10)) && (decide ((z.length : Int) ≤ b) && z.cps.toList.all is01)
  | _, _ => false
theorem isBt_inv {y : V} (h : isBt y = true) : ∃ b : Int, y = .int b ∧ 1 ≤ b ∧ b ≤ 10 := by
  cases y with
  | int b =>
    have h : (decide (1 ≤ b) && decide (b ≤ 10)) = true := h
    simp only [Bool.and_eq_true, decide_eq_true_eq] at h
    exact ⟨b, rfl, h.1, h.2⟩
  | _ => cases h
theorem isVl_no {x y : V} (h : isBt y = false) : isVl x y = false := by
  cases y with
  | int b =>
    have h : (decide (1 ≤ b) && decide (b ≤ 10)) = false := h
    show ((decide (1 ≤ b) && decide (b ≤ 10)) && vlIn x b) = false
    rw [h]
    rfl
  | _ => rfl
theorem isRg_no {x y : V} (h : isBt y = false) : isRg x y = false := by
  cases x with
  | str z =>
    cases y with
    | int b =>
      have h : (decide (1 ≤ b) && decide (b ≤ 10)) = false := h
      show ((decide (1 ≤ b) && decide (b ≤ 10)) && _) = false
      rw [h]
      rfl
    | _ => rfl
  | _ => rfl
theorem bt_yes {b : Int} (h1 : 1 ≤ b) (h2 : b ≤ 10) : (decide (1 ≤ b) && decide (b ≤ 10)) = true := by simp [h1, h2]
section
variable {P : Program} {w : World} {K : PySem.W.Frag} {mg : Str → Option Value} {base : Heap}
def sp2 (g : V → V → Bool) : Sp := fun vs H Q _ => ∃ p x y, vs = [x, y] ∧ Th p H x ∧ Th p H y ∧ Q (.bl (g x y)) H
theorem p_is_value (T : Mo K mg) : Gx.Pr P w K mg base CX0 3 "is_value" s_is_value ["value", "bits"] (sp2 isVl) := by
  refine T.d_is_value.ok sc_is_value (fun vs H Q E h => ?_) (fun f cdv A outer s H vs Q E hr h => ?_)
  · obtain ⟨p, x, y, rfl, _⟩ := h
    rfl
  · obtain ⟨p, x, y, rfl, tx, ty, q⟩ := h
    refine ⟨_, (pss_one (ps_ret (pe_and (Gx.pe_pos (p_is_bits T) hr (by decide) (by rfl) b_is_bits pass0 (pa_cons (pv 1) pa_nil)) (pe_and (Gx.pe_pos (p_is_int T) hr (by decide) (by rfl) b_is_int pass0 (pa_cons (pv 0) pa_nil)) (pe_one (pe_chain op_le op_lt pe_int (pv 0) (pe_op op_shl pe_int (pv 1)))))))), ?_⟩
    refine ⟨y, rfl, p, y, rfl, ty, _, rfl, ?_⟩
    cases hy : isBt y with
    | false =>
      rw [isVl_no hy] at q
      exact iteF q
    | true =>
      obtain ⟨b, rfl, b1, b2⟩ := isBt_inv hy
      refine iteT ?_
      refine ⟨x, rfl, p, x, rfl, tx, _, rfl, ?_⟩
      have e : isVl x (.int b) = vlIn x b := by
        show ((decide (1 ≤ b) && decide (b ≤ 10)) && _) = _
        rw [bt_yes b1 b2, Bool.true_and]
      rw [e] at q
      cases tx with
      | int i =>
        refine ⟨_, rfl, _, _, rfl, rfl, _, rfl, ?_⟩
        show if decide (0 ≤ i) = true then _ else _
        have q : Q (.bl (decide (0 ≤ i) && decide (i < 2 ^ b.toNat))) H := q
        by_cases c : 0 ≤ i
        · rw [decide_eq_true c] at q ⊢
          refine iteT ⟨_, rfl, _, _, rfl, rfl, ⟨by omega, by omega, by decide⟩, _, _, rfl, rfl, ?_⟩
          rw [Int.one_mul]
          exact q
        · rw [decide_eq_false c] at q ⊢
          exact q
      | bl i => exact q
      | non => exact q
      | str => exact q
      | lst => exact q
      | tup => exact q
      | dic => exact q
theorem p_is_range (T : Mo K mg) : Gx.Pr P w K mg base CX0 3 "is_range" s_is_range ["value", "bits"] (sp2 isRg) := by
  refine T.d_is_range.ok sc_is_range (fun vs H Q E h => ?_) (fun f cdv A outer s H vs Q E hr h => ?_)
  · obtain ⟨p, x, y, rfl, _⟩ := h
    rfl
  · obtain ⟨p, x, y, rfl, tx, ty, q⟩ := h
    refine ⟨_, (pss_cons (ps_if (PW.pt (pw_or (pt_not (pt_val (Gx.pe_pos (p_is_bits T) hr (by decide) (by rfl) b_is_bits pass0 (pa_cons (pv 1) pa_nil)))) (pw_or (pt_not (pt_val (pe_callB call_isi (by rfl) T.b_isinstance (by decide +kernel) (pa_cons (pv 0) (pa_cons (pe_bltn (v := .ty "str") rfl T.b_str (by decide +kernel) rfl) pa_nil))))) (pw_or1 (pt_cmpR op_gt (pe_callB call_len_str (by rfl) T.b_len (by decide +kernel) (pa_cons (pv 0) pa_nil)) (pv 1) (nomark _)))))) (pss_one (ps_ret pe_bl)) pss_nil)
      (pss_one (ps_ret (pe_cmpR op_eq (pe_bm PySem.F.plainAttrs_str PySem.F.slot_str_strip PySem.F.type_str_strip mt_stripChars (pv 0) (pa_cons pe_str pa_nil)) pe_str (nomark _))))), ?_⟩
    refine ⟨y, rfl, p, y, rfl, ty, _, rfl, ?_⟩
    show if (!isBt y) = true then _ else _
    cases hy : isBt y with
    | false =>
      rw [isRg_no hy] at q
      exact iteT (iteT q)
    | true =>
      obtain ⟨b, rfl, b1, b2⟩ := isBt_inv hy
      refine iteF ?_
      obtain ⟨u1, t1, k1⟩ := isi_str (K := K) tx
      refine ⟨x, rfl, x, .ty "str", u1, _, _, rfl, .ty _, t1, k1, _, rfl, ?_⟩
      cases tx with
      | str z hz _ =>
        refine iteF ?_
        refine ⟨_, rfl, z, rfl, Nat.le_trans hz (by decide), _, rfl, _, _, rfl, rfl, _, rfl, ?_⟩
        have e : isRg (.str z) (.int b) = (decide ((z.length : Int) ≤ b) && z.cps.toList.all is01) := by
          show ((decide (1 ≤ b) && decide (b ≤ 10)) && _) = _
          rw [bt_yes b1 b2, Bool.true_and]
        rw [e] at q
        by_cases c : b < (z.length : Int)
        · rw [decide_eq_true c]
          rw [decide_eq_false (show ¬ (z.length : Int) ≤ b by omega), Bool.false_and] at q
          exact iteT q
        · rw [decide_eq_false c]
          rw [decide_eq_true (show (z.length : Int) ≤ b by omega), Bool.true_and] at q
          refine iteF ?_
          refine ⟨_, rfl, rfl, z, _, rfl, rfl, Nat.le_trans hz (by decide), rfl, ?_⟩
          rw [strip01]
          exact q
      | bl i => exact iteT q
      | non => exact iteT q
      | int => exact iteT q
      | lst => exact iteT q
      | tup => exact iteT q
      | dic => exact iteT q
end
end My
namespace My
open PySem PySem.Spec PyProof.Rows L2
section
variable {P : Program} {w : World} {K : PySem.W.Frag} {mg : Str → Option Value} {base : Heap}
theorem p__law_is_integer (T : Mo K mg) : Gx.Pr P w K mg base CX0 1 "_law_is_integer" s__law_is_integer ["_law_thing_here"] spIsI := by
  refine T.d__law_is_integer.ok sc__law_is_integer (fun vs H Q E h => ?_) (fun f cdv A outer s H vs Q E hr h => ?_)
  · obtain ⟨p, x, rfl, _⟩ := h
    rfl
  · obtain ⟨p, x, rfl, t, q⟩ := h
    refine ⟨_, (pss_one (ps_ret (pe_and (pe_callB call_isi (by rfl) T.b_isinstance (by decide +kernel) (pa_cons (pv 0) (pa_cons (pe_bltn (v := .ty "int") rfl T.b_int (by decide +kernel) rfl) pa_nil))) (pe_one (pe_not (pe_callB call_isi (by rfl) T.b_isinstance (by decide +kernel) (pa_cons (pv 0) (pa_cons (pe_bltn (v := .ty "bool") rfl T.b_bool (by decide +kernel) rfl) pa_nil)))))))), ?_⟩
    obtain ⟨u1, t1, k1⟩ := isi_int (K := K) t
    obtain ⟨u2, t2, k2⟩ := isi_bool (K := K) t
    refine ⟨x, rfl, x, .ty "int", u1, _, _, rfl, .ty _, t1, k1, _, rfl, ?_⟩
    cases t with
    | int i => exact ⟨_, rfl, _, .ty "bool", u2, _, _, rfl, .ty _, t2, k2, _, rfl, q⟩
    | bl i => exact ⟨_, rfl, _, .ty "bool", u2, _, _, rfl, .ty _, t2, k2, _, rfl, q⟩
    | non => exact q
    | str => exact q
    | lst => exact q
    | tup => exact q
    | dic => exact q
theorem p__law_is_bits (T : Mo K mg) : Gx.Pr P w K mg base CX0 2 "_law_is_bits" s__law_is_bits ["_law_thing_here"] spIsB := by
  refine T.d__law_is_bits.ok sc__law_is_bits (fun vs H Q E h => ?_) (fun f cdv A outer s H vs Q E hr h => ?_)
  · obtain ⟨p, x, rfl, _⟩ := h
    rfl
  · obtain ⟨p, x, rfl, t, q⟩ := h
    refine ⟨_, (pss_one (ps_ret (pe_and (Gx.pe_pos (p__law_is_integer T) hr (by decide) (by rfl) b__law_is_integer pass0 (pa_cons (pv 0) pa_nil)) (pe_one (pe_chain op_le op_le pe_int (pv 0) pe_int))))), ?_⟩
    refine ⟨x, rfl, p, x, rfl, t, _, rfl, ?_⟩
    cases t with
    | int i =>
      refine ⟨_, rfl, _, _, rfl, rfl, _, rfl, ?_⟩
      show if decide (1 ≤ i) = true then _ else _
      have q : Q (.bl (decide (1 ≤ i) && decide (i ≤ 10))) H := q
      by_cases c : 1 ≤ i
      · rw [decide_eq_true c] at q ⊢
        exact ⟨_, _, rfl, rfl, q⟩
      · rw [decide_eq_false c] at q ⊢
        exact q
    | bl i => exact q
    | non => exact q
    | str => exact q
    | lst => exact q
    | tup => exact q
    | dic => exact q
def spPow : Sp := fun vs H Q _ => ∃ n : Nat, vs = [.int n] ∧ n ≤ 100 ∧ Q (.int (2 ^ n)) H
theorem p__law_power (T : Mo K mg) : Gx.Pr P w K mg base CX0 1 "_law_power" s__law_power ["_law_many"] spPow := by
  refine T.d__law_power.ok sc__law_power (fun vs H Q E h => ?_) (fun f cdv A outer s H vs Q E hr h => ?_)
  · obtain ⟨n, rfl, _⟩ := h
    rfl
  · obtain ⟨n, rfl, hn, q⟩ := h
    refine ⟨_, (pss_cons (ps_set (i := 1) sc__law_power.nd rfl (Or.inl rfl) pe_int)
      (pss_cons (ps_for PassesOwn.never rfl (pi_range1 (by rfl) T.b_range (pa_cons (pv 0) pa_nil)) (pg_name (i := 2) sc__law_power.nd rfl (Or.inl rfl)) (pss_one (ps_set (i := 1) sc__law_power.nd rfl (Or.inl rfl) (pe_op op_mul pe_int (pv 1)))))
      (pss_one (ps_ret (pv 1))))), ?_⟩
    refine ⟨_, rfl, (n : Int), rfl, by omega, by omega, ?_⟩
    rw [Int.toNat_natCast]
    refine for_range (lo := 0) (n := n) (fun i σ H' => H' = H ∧ ∃ t, σ = [some (.int n), some (.int (2 ^ i)), t]) ⟨rfl, _, rfl⟩ (fun i σ H' hi h => ?_) fun σ H' h => ?_
    · obtain ⟨rfl, t, rfl⟩ := h
      refine ⟨_, rfl, _, _, rfl, rfl, .inl ⟨by decide, by decide⟩, rfl, some (.int (0 + (i : Int))), ?_⟩
      show [some (V.int n), some (V.int (2 * 2 ^ i)), some (V.int (0 + (i : Int)))] = _
      rw [show (2 : Int) * 2 ^ i = 2 ^ (i + 1) by rw [Int.pow_succ, Int.mul_comm]]
    · obtain ⟨rfl, t, rfl⟩ := h
      exact ⟨_, rfl, q⟩
theorem p__law_is_value (T : Mo K mg) : Gx.Pr P w K mg base CX0 3 "_law_is_value" s__law_is_value ["_law_thing_here", "_law_many"] (sp2 isVl) := by
  refine T.d__law_is_value.ok sc__law_is_value (fun vs H Q E h => ?_) (fun f cdv A outer s H vs Q E hr h => ?_)
  · obtain ⟨p, x, y, rfl, _⟩ := h
    rfl
  · obtain ⟨p, x, y, rfl, tx, ty, q⟩ := h
    refine ⟨_, (pss_one (ps_ret (pe_and (Gx.pe_pos (p__law_is_bits T) hr (by decide) (by rfl) b__law_is_bits pass0 (pa_cons (pv 1) pa_nil)) (pe_and (Gx.pe_pos (p__law_is_integer T) hr (by decide) (by rfl) b__law_is_integer pass0 (pa_cons (pv 0) pa_nil)) (pe_one (pe_chain op_le op_lt pe_int (pv 0) (Gx.pe_pos (p__law_power T) hr (by decide) (by rfl) b__law_power pass0 (pa_cons (pv 1) pa_nil)))))))), ?_⟩
    refine ⟨y, rfl, p, y, rfl, ty, _, rfl, ?_⟩
    cases hy : isBt y with
    | false =>
      rw [isVl_no hy] at q
      exact iteF q
    | true =>
      obtain ⟨b, rfl, b1, b2⟩ := isBt_inv hy
      refine iteT ?_
      refine ⟨x, rfl, p, x, rfl, tx, _, rfl, ?_⟩
      have e : isVl x (.int b) = vlIn x b := by
        show ((decide (1 ≤ b) && decide (b ≤ 10)) && _) = _
        rw [bt_yes b1 b2, Bool.true_and]
      rw [e] at q
      obtain ⟨n, rfl⟩ : ∃ n : Nat, b = (n : Int) := ⟨b.toNat, by omega⟩
      cases tx with
      | int i =>
        refine ⟨_, rfl, _, _, rfl, rfl, _, rfl, ?_⟩
        show if decide (0 ≤ i) = true then _ else _
        have q : Q (.bl (decide (0 ≤ i) && decide (i < 2 ^ n))) H := q
        by_cases c : 0 ≤ i
        · rw [decide_eq_true c] at q ⊢
          exact iteT ⟨_, rfl, n, rfl, by omega, _, _, rfl, rfl, q⟩
        · rw [decide_eq_false c] at q ⊢
          exact q
      | bl i => exact q
      | non => exact q
      | str => exact q
      | lst => exact q
      | tup => exact q
      | dic => exact q
end
end My
namespace My
open PySem PySem.Spec PyProof.Rows L2
section
variable {P : Program} {w : World} {K : PySem.W.Frag} {mg : Str → Option Value} {base : Heap}
def sign (c : Nat) : Str := ⟨#[c]⟩
theorem sign_0 (c : Nat) : (V.str ⟨#[c]⟩ = V.str "0") ↔ c = 48 := by
  rw [V.str.injEq, show (("0" : String) : Str) = ⟨#[48]⟩ by decide +kernel]
  constructor
  · intro h; injection h with h; simpa using h
  · rintro rfl; rfl
theorem sign_1 (c : Nat) : (V.str ⟨#[c]⟩ = V.str "1") ↔ c = 49 := by
  rw [V.str.injEq, show (("1" : String) : Str) = ⟨#[49]⟩ by decide +kernel]
  constructor
  · intro h; injection h with h; simpa using h
  · rintro rfl; rfl
/-- the signs that are none of 0 and 1 -/
def odd (l : List Nat) : List Str := (l.filter fun c => !is01 c).map sign
theorem odd_take {l : List Nat} {i c : Nat} (h : l[i]? = some c) : odd (l.take (i + 1)) = if is01 c then odd (l.take i) else odd (l.take i) ++ [sign c] := by
  unfold odd
  rw [List.take_add_one, h, List.filter_append, List.map_append]
  cases e : is01 c <;> simp [e]
theorem odd_nil (l : List Nat) : (odd l).isEmpty = l.all is01 := by
  unfold odd
  induction l with
  | nil => rfl
  | cons c r ih =>
    cases e : is01 c
    · simp [e]
    · simpa [e] using ih
theorem odd_len (l : List Nat) : (odd l).length ≤ l.length := by
  unfold odd
  rw [List.length_map]
  exact List.length_filter_le _ _
theorem dpStrs {K : PySem.W.Frag} {H : Hp} : ∀ l : List Str, DpAll K H (l.map V.str) (l.map PyData.str)
  | [] => .nil
  | x :: l => .cons (.str x) (dpStrs l)
theorem strs_ok : ∀ l : List Str, (∀ x ∈ l, PyData.strOk x = true) → PyData.canLayAll0 (l.map PyData.str) = true
  | [], _ => by simp [PyData.canLayAll0]
  | x :: l, h => by
    simp only [List.map_cons, PyData.canLayAll0, PyData.canLay0, Bool.and_eq_true]
    exact ⟨h x List.mem_cons_self, strs_ok l fun y hy => h y (List.mem_cons_of_mem _ hy)⟩
theorem strs_depth : ∀ l : List Str, PyData.depthAll (l.map PyData.str) = 0
  | [] => by simp [PyData.depthAll]
  | x :: l => by simp [PyData.depthAll, PyData.depth, strs_depth l]
theorem strs_shaped (l : List Str) (h : ∀ x ∈ l, PyData.strOk x = true) : SeqAt.shaped (.list (l.map PyData.str)) = true := by
  unfold SeqAt.shaped
  simp only [PyData.canLay0, PyData.depth, strs_ok l h, strs_depth, Bool.true_and]
  decide
theorem eqv_nil (l : List Str) : PyData.eqv (.list (l.map PyData.str)) (.list []) = l.isEmpty := by
  cases l <;> simp [PyData.eqv, PyData.eqvAll]
def sp2K (g : V → V → Bool) : Sp := fun vs H Q _ => ∃ p x y, vs = [x, y] ∧ Th p H x ∧ Th p H y ∧ ∀ H', Same H H' → Q (.bl (g x y)) H'
theorem p__law_is_range (T : Mo K mg) : Gx.Pr P w K mg base CX0 3 "_law_is_range" s__law_is_range ["_law_thing_here", "_law_many"] (sp2K isRg) := by
  refine T.d__law_is_range.ok sc__law_is_range (fun vs H Q E h => ?_) (fun f cdv A outer s H vs Q E hr h => ?_)
  · obtain ⟨p, x, y, rfl, _⟩ := h
    rfl
  · obtain ⟨p, x, y, rfl, tx, ty, q⟩ := h
    have hu64 := hr.units
    refine ⟨_, (pss_cons (ps_if (PW.pt (pw_or (pt_not (pt_val (Gx.pe_pos (p__law_is_bits T) hr (by decide) (by rfl) b__law_is_bits pass0 (pa_cons (pv 1) pa_nil)))) (pw_or (pt_not (pt_val (pe_callB call_isi (by rfl) T.b_isinstance (by decide +kernel) (pa_cons (pv 0) (pa_cons (pe_bltn (v := .ty "str") rfl T.b_str (by decide +kernel) rfl) pa_nil))))) (pw_or1 (pt_cmpR op_gt (pe_callB call_len_str (by rfl) T.b_len (by decide +kernel) (pa_cons (pv 0) pa_nil)) (pv 1) (nomark _)))))) (pss_one (ps_ret pe_bl)) pss_nil)
      (pss_one (ps_ret (pe_cmpR (op_eqD hu64) (pe_lc (own := [("_law_sign", 2)]) (g := gName 2) rfl sc__law_is_range.nd (pi_str (pv 0)) (blkOk_by (N := N__law_is_range) (sc := defScope s__law_is_range) (by decide +kernel)) (fun _ _ _ _ _ => (pg_name (i := 2) sc__law_is_range.nd rfl (Or.inl rfl))) (fun _ _ _ _ _ => (pts_one (PW.pt (pw_and (pt_cmpR op_ne (pv 2) pe_str (nomark _)) (pw_and1 (pt_cmpR op_ne (pv 2) pe_str (nomark _))))))) (fun _ _ _ _ _ => (pv 2))) (pe_lst pa_nil) (nomark _))))), ?_⟩
    refine ⟨y, rfl, p, y, rfl, ty, _, rfl, ?_⟩
    show if (!isBt y) = true then _ else _
    cases hy : isBt y with
    | false =>
      rw [isRg_no hy] at q
      exact iteT (iteT (q H (Same.refl H)))
    | true =>
      obtain ⟨b, rfl, b1, b2⟩ := isBt_inv hy
      refine iteF ?_
      obtain ⟨u1, t1, k1⟩ := isi_str (K := K) tx
      refine ⟨x, rfl, x, .ty "str", u1, _, _, rfl, .ty _, t1, k1, _, rfl, ?_⟩
      cases tx with
      | str z hz ha =>
        refine iteF ?_
        refine ⟨_, rfl, z, rfl, Nat.le_trans hz (by decide), _, rfl, _, _, rfl, rfl, _, rfl, ?_⟩
        have e : isRg (.str z) (.int b) = (decide ((z.length : Int) ≤ b) && z.cps.toList.all is01) := by
          show ((decide (1 ≤ b) && decide (b ≤ 10)) && _) = _
          rw [bt_yes b1 b2, Bool.true_and]
        rw [e] at q
        by_cases c : b < (z.length : Int)
        · rw [decide_eq_true c]
          rw [decide_eq_false (show ¬ (z.length : Int) ≤ b by omega), Bool.false_and] at q
          exact iteT (q H (Same.refl H))
        · rw [decide_eq_false c]
          rw [decide_eq_true (show (z.length : Int) ≤ b by omega), Bool.true_and] at q
          refine iteF ?_
          refine ⟨_, rfl, z, rfl, fun D hD => ?_⟩
          refine lc_it walk_str (fun i H' => H' D = some (.lst ((odd (z.cps.toList.take i)).map V.str)) ∧ ∀ b o, H b = some o → H' b = some o) ⟨upd_same, fun b o e => by rw [upd_ne (ne_of_none e hD)]; exact e⟩ (fun _ _ _ _ => trivial) (fun i x H1 H2 hi h Y => ?_) fun H1 h => ?_
          · obtain ⟨hl, hk⟩ := h
            obtain ⟨rfl, c, hc, rfl⟩ := Y
            have hc' : z.cps.toList[i]? = some c := by simpa using hc
            refine ⟨rfl, _, rfl, rfl, _, rfl, ?_⟩
            by_cases c0 : c = 48
            · rw [decide_eq_true ((sign_0 c).mpr c0)]
              show _ ∧ _
              rw [odd_take hc', show is01 c = true by simp [is01, c0]]
              exact ⟨hl, hk⟩
            · rw [decide_eq_false (fun z => c0 ((sign_0 c).mp z))]
              refine iteT ⟨_, rfl, rfl, _, rfl, ?_⟩
              by_cases c1 : c = 49
              · rw [decide_eq_true ((sign_1 c).mpr c1)]
                show _ ∧ _
                rw [odd_take hc', show is01 c = true by simp [is01, c1]]
                exact ⟨hl, hk⟩
              · rw [decide_eq_false (fun z => c1 ((sign_1 c).mp z))]
                refine iteT ⟨_, rfl, _, hl, ?_, ?_, fun b o e => ?_⟩
                · rw [List.length_map]
                  have := odd_len (z.cps.toList.take i)
                  have h2 : (z.cps.toList.take i).length ≤ z.length := by
                    rw [List.length_take]
                    exact Nat.le_trans (Nat.min_le_right _ _) (by simp [Str.length])
                  exact Nat.lt_of_le_of_lt (show _ ≤ 100 by omega) (by decide)
                · rw [upd_same, odd_take hc', show is01 c = false by simp [is01, c0, c1]]
                  simp [sign]
                · rw [upd_ne (ne_of_none e hD)]
                  exact hk b o e
          · obtain ⟨hl, hk⟩ := h
            have hall : z.cps.toList.take z.cps.size = z.cps.toList := List.take_of_length_le (by simp)
            rw [hall] at hl
            refine ⟨by decide, fun p' hp' => ?_⟩
            refine ⟨.list ((odd z.cps.toList).map PyData.str), .list [], .lst (SqL.of (by rw [upd_ne (ne_of_none hl hp')]; exact hl)) (dpStrs _), .lst (SqL.of upd_same) .nil, strs_shaped _ (fun x hx => ?_), by decide, ?_⟩
            · unfold odd at hx
              obtain ⟨c, hc, rfl⟩ := List.mem_map.mp hx
              have := ha c (List.mem_filter.mp hc).1
              simp [PyData.strOk, sign]
              omega
            · rw [eqv_nil, odd_nil]
              exact q _ fun b o e => by rw [upd_ne (ne_of_none (hk b o e) hp')]; exact hk b o e
      | bl i => exact iteT (q H (Same.refl H))
      | non => exact iteT (q H (Same.refl H))
      | int => exact iteT (q H (Same.refl H))
      | lst => exact iteT (q H (Same.refl H))
      | tup => exact iteT (q H (Same.refl H))
      | dic => exact iteT (q H (Same.refl H))
end
end My
namespace My
open PySem PySem.Spec PyProof.Rows L2
section
variable {P : Program} {w : World} {K : PySem.W.Frag} {mg : Str → Option Value} {base : Heap}
/-- the generator of draws stands at p -/
def Rng (p : Addr) (H : Hp) : Prop := ∃ a b : Int, H p = some (.lst [.int a, .int b]) ∧ 0 ≤ a ∧ 0 ≤ b ∧ b < 2147483587
theorem same_kp {p : Addr} {H H' : Hp} (s : Same H H') : Kp p H H' := fun b o _ e => s b o e
def spRng (K : PySem.W.Frag) : Sp := fun vs H Q _ => ∃ (a : Addr) (ns : List Int) (k : Nat), vs = [.ref a, .int k] ∧ SqL K H a (ns.map V.int) ∧ k ≤ 100 ∧ ∀ p H', H p = none → Rng p H' → Same H H' → Q (.ref p) H'
theorem p__law_rng (T : Mo K mg) : Gx.Pr P w K mg base CX0 1 "_law_rng" s__law_rng ["_law_script", "_law_k"] (spRng K) := by
  refine T.d__law_rng.ok sc__law_rng (fun vs H Q E h => ?_) (fun f cdv A outer s H vs Q E hr h => ?_)
  · obtain ⟨a, ns, k, rfl, _⟩ := h
    rfl
  · obtain ⟨a, ns, k, rfl, hS, hk, q⟩ := h
    refine ⟨_, (pss_cons (ps_set (i := 2) sc__law_rng.nd rfl (Or.inl rfl) (pe_op op_add (pe_op op_mul pe_int (pv 1)) pe_int))
      (Evl.pss_cut (ps_if (pt_cmpR op_lt (pv 1) (pe_callB call_len_seq (by rfl) T.b_len (by decide +kernel) (pa_cons (pv 0) pa_nil)) (nomark _)) (pss_one (ps_set (i := 2) sc__law_rng.nd rfl (Or.inl rfl) (pe_ix ix_list (pv 0) (pv 1) (fun _ _ => rfl)))) pss_nil)
      (pss_one (ps_ret (pe_lst (pa_cons (pe_callB (call_max2 rfl) (by rfl) T.b_max (by decide +kernel) (pa_cons pe_int (pa_cons (pe_op op_sub (pe_callB call_abs (by rfl) T.b_abs (by decide +kernel) (pa_cons (pv 2) pa_nil)) (pe_op op_pow pe_int pe_int)) pa_nil))) (pa_cons (pe_op op_add (pe_op op_mod (pe_callTy call_int1 (by rfl) T.b_int (by decide +kernel) (pa_cons (pe_op op_mul (pe_op op_add (pe_op op_mod (pe_callTy call_int1 (by rfl) T.b_int (by decide +kernel) (pa_cons (pe_callB call_abs (by rfl) T.b_abs (by decide +kernel) (pa_cons (pv 2) pa_nil)) pa_nil)) pe_int) pe_int) (pe_op op_pow (pe_op op_add (pv 1) pe_int) pe_int)) pa_nil)) pe_int) pe_int) pa_nil))))))), ?_⟩
    refine ⟨_, rfl, _, _, rfl, rfl, .inl ⟨by decide, by decide⟩, _, _, rfl, rfl, ?_⟩
    refine ⟨fun σ H' => H' = H ∧ ∃ c : Int, σ = [some (.ref a), some (.int k), some (.int c)], ?_, fun σ H' h => ?_⟩
    · refine ⟨_, rfl, _, rfl, a, _, rfl, .inl hS, _, _, rfl, rfl, _, rfl, ?_⟩
      rw [List.length_map]
      by_cases c : (k : Int) < (ns.length : Int)
      · rw [decide_eq_true c]
        have hk' : k < ns.length := by omega
        refine iteT ⟨_, rfl, _, rfl, a, _, _, .int ns[k], rfl, rfl, hS, atI_nat (by rw [List.getElem?_map, List.getElem?_eq_getElem hk']; rfl), rfl, _, rfl⟩
      · rw [decide_eq_false c]
        exact iteF ⟨rfl, _, rfl⟩
    · obtain ⟨rfl, c, rfl⟩ := h
      refine ⟨_, rfl, _, rfl, _, _, rfl, rfl, ⟨by decide, by decide, by decide⟩, _, _, rfl, rfl, _, _, rfl, ?_⟩
      refine ⟨_, rfl, _, rfl, .inl ⟨_, rfl, _, _, rfl, rfl, (by show (0 : Int) < 2147483579; decide), _, _, rfl, rfl, ?_⟩⟩
      have m1 : ∀ x : Int, 0 ≤ x % 2147483579 ∧ x % 2147483579 < 2147483579 := fun x => ⟨Int.emod_nonneg _ (by decide), Int.emod_lt_of_pos _ (by decide)⟩
      have m2 : ∀ x : Int, 0 ≤ x % 2147483563 ∧ x % 2147483563 < 2147483563 := fun x => ⟨Int.emod_nonneg _ (by decide), Int.emod_lt_of_pos _ (by decide)⟩
      refine ⟨_, rfl, _, _, rfl, rfl, _, _, rfl, rfl, ⟨by decide, by decide, by omega⟩, _, _, rfl, rfl, .inl ⟨?_, ?_⟩, .inl ⟨_, rfl, _, _, rfl, rfl, (by show (0 : Int) < 2147483563; decide), _, _, rfl, rfl, (by show 2 ≤ sizeLine; decide), fun p hp => ?_⟩⟩
      · have := m1 (if c < 0 then -c else c); omega
      · have := m1 (if c < 0 then -c else c); omega
      · refine q p _ hp ⟨_, _, upd_same, ?_, ?_, ?_⟩ fun b o e => by rw [upd_ne (ne_of_none e hp)]; exact e
        · split <;> omega
        · have := m2 (((if c < 0 then -c else c) % 2147483579 + 1) * ((k : Int) + 3) ^ (3 : Int).toNat); omega
        · have := m2 (((if c < 0 then -c else c) % 2147483579 + 1) * ((k : Int) + 3) ^ (3 : Int).toNat); omega
def spDraw : Sp := fun vs H Q _ => ∃ (p : Addr) (m : Int), vs = [.ref p, .int m] ∧ Rng p H ∧ 0 < m ∧ m < 10 ^ 40 ∧ ∀ (r : Int) H', 0 ≤ r → r < m → Rng p H' → Kp p H H' → Q (.int r) H'
theorem noPy {a m : Int} (h : 0 < m) (h2 : m < 10 ^ 40) : CDivP a m := by
  refine ⟨h, PyProof.noPylong_of_log2 ?_⟩
  have e : m.natAbs < 2 ^ 200 := by
    have : (10 : Int) ^ 40 < 2 ^ 200 := by decide
    omega
  have := PySem.Flt.log2_lt_of (k := 200) (by decide) e
  omega
theorem p__law_draw (T : Mo K mg) : Gx.Pr P w K mg base CX0 1 "_law_draw" s__law_draw ["_law_rng_here", "_law_many"] spDraw := by
  refine T.d__law_draw.ok sc__law_draw (fun vs H Q E h => ?_) (fun f cdv A outer s H vs Q E hr h => ?_)
  · obtain ⟨p, m, rfl, _⟩ := h
    rfl
  · obtain ⟨p, m, rfl, ⟨a, b, hp, ha, hb, hb2⟩, m0, m1, q⟩ := h
    refine ⟨_, (pss_cons (ps_if (pt_cmpR op_gt (pe_ix ix_list (pv 0) pe_int (fun _ _ => rfl)) pe_int (nomark _)) (pss_cons (ps_asg (pe_callB call_divmodW (by rfl) T.b_divmod (by decide +kernel) (pa_cons (pe_ix ix_list (pv 0) pe_int (fun _ _ => rfl)) (pa_cons (pv 1) pa_nil))) (pg_tup rfl (pgs_cons (pg_sub (pv 0) pe_int set_list) (pgs_cons (pg_name (i := 2) sc__law_draw.nd rfl (Or.inl rfl)) pgs_nil))))
      (pss_one (ps_ret (pv 2)))) pss_nil)
      (pss_cons (ps_asg (pe_op op_mod (pe_callTy call_int1 (by rfl) T.b_int (by decide +kernel) (pa_cons (pe_op op_add (pe_op op_mul (pe_ix ix_list (pv 0) pe_int (fun _ _ => rfl)) pe_int) pe_int) pa_nil)) pe_int) (pg_sub (pv 0) pe_int set_list))
      (pss_cons (ps_set (i := 3) sc__law_draw.nd rfl (Or.inl rfl) (pe_op op_fdiv (pe_op op_mod (pe_callTy call_int1 (by rfl) T.b_int (by decide +kernel) (pa_cons (pe_op op_mul (pe_ix ix_list (pv 0) pe_int (fun _ _ => rfl)) (pe_ix ix_list (pv 0) pe_int (fun _ _ => rfl))) pa_nil)) pe_int) pe_int))
      (pss_cons (ps_if (pt_cmpR op_lt (pv 1) (pe_op op_pow pe_int pe_int) (nomark _)) (pss_one (ps_ret (pe_op op_mod (pe_callTy call_int1 (by rfl) T.b_int (by decide +kernel) (pa_cons (pv 3) pa_nil)) (pv 1)))) pss_nil)
      (pss_one (ps_ret (pe_op op_mod (pe_callTy call_int1 (by rfl) T.b_int (by decide +kernel) (pa_cons (pe_op op_add (pe_op op_mul (pe_op op_add (pe_op op_mul (pv 3) pe_int) (pe_ix ix_list (pv 0) pe_int (fun _ _ => rfl))) pe_int) (pv 3)) pa_nil)) (pv 1)))))))), ?_⟩
    refine ⟨_, rfl, p, _, 0, _, rfl, rfl, SqL.of hp, rfl, _, _, rfl, rfl, _, rfl, ?_⟩
    by_cases c : 0 < a
    · rw [decide_eq_true c]
      refine iteT ⟨_, rfl, p, _, 0, _, rfl, rfl, SqL.of hp, rfl, _, rfl, _, _, rfl, noPy m0 m1, fun t ht => ?_⟩
      have npt : p ≠ t := ne_of_none hp ht
      refine ⟨t, _, rfl, SqT.of upd_same, rfl, _, _, rfl, ⟨_, rfl, p, _, 0, 0, rfl, rfl, (by rw [upd_ne npt]; exact hp), rfl, _, _, rfl, rfl, _, rfl, ?_⟩⟩
      refine q _ _ (Int.emod_nonneg _ (by omega)) (Int.emod_lt_of_pos _ m0) ⟨_, b, upd_same, Int.ediv_nonneg ha (by omega), hb, hb2⟩ fun x o n e => ?_
      rw [upd_ne n, upd_ne (ne_of_none e ht)]
      exact e
    · rw [decide_eq_false c]
      refine iteF ?_
      refine ⟨_, rfl, p, _, 0 + 1, _, rfl, rfl, SqL.of hp, rfl, _, _, rfl, rfl, .inl ⟨by omega, by omega⟩, _, _, rfl, rfl, .inl ⟨_, rfl, _, _, rfl, rfl, (by show (0 : Int) < 2147483587; decide), _, rfl, p, _, 1, 1, rfl, rfl, hp, rfl, ?_⟩⟩
      have n0 := Int.emod_nonneg (b * 48283 + 10007) (show (2147483587 : Int) ≠ 0 by decide)
      have n1 := Int.emod_lt_of_pos (b * 48283 + 10007) (show (0 : Int) < 2147483587 by decide)
      have g0 : 0 ≤ (b * 48283 + 10007) % 2147483587 * ((b * 48283 + 10007) % 2147483587) % 2147483549 / 13 := Int.ediv_nonneg (Int.emod_nonneg _ (by decide)) (by decide)
      have g1 : (b * 48283 + 10007) % 2147483587 * ((b * 48283 + 10007) % 2147483587) % 2147483549 / 13 < 2147483549 := by
        have := Int.emod_lt_of_pos ((b * 48283 + 10007) % 2147483587 * ((b * 48283 + 10007) % 2147483587)) (show (0 : Int) < 2147483549 by decide)
        omega
      refine ⟨_, rfl, p, _, 0 + 1, _, rfl, rfl, SqL.of upd_same, rfl, _, rfl, p, _, 0 + 1, _, rfl, rfl, SqL.of upd_same, rfl, _, _, rfl, rfl, .inl ⟨by omega, by omega⟩, .inl ⟨_, rfl, _, _, rfl, rfl, (by show (0 : Int) < 2147483549; decide), _, _, rfl, rfl, ⟨by decide, by decide⟩, ?_⟩⟩
      refine ⟨_, rfl, _, _, rfl, rfl, ⟨by decide, by decide, by decide⟩, _, _, rfl, rfl, _, rfl, ?_⟩
      have fin : ∀ x : Int, Q (.int (x % m)) (upd H p (.lst [.int a, .int ((b * 48283 + 10007) % 2147483587)])) := fun x =>
        q _ _ (Int.emod_nonneg _ (by omega)) (Int.emod_lt_of_pos _ m0) ⟨a, _, upd_same, ha, n0, n1⟩ fun x o z e => by rw [upd_ne z]; exact e
      by_cases c2 : m < 2 ^ (20 : Int).toNat
      · rw [decide_eq_true c2]
        exact iteT ⟨_, rfl, .inl ⟨_, rfl, _, rfl, _, _, rfl, rfl, m0, fin _⟩⟩
      · rw [decide_eq_false c2]
        exact iteF ⟨_, rfl, _, _, rfl, rfl, .inl ⟨by omega, by omega⟩, _, rfl, p, _, 0 + 1, _, rfl, rfl, SqL.of upd_same, rfl, _, _, rfl, rfl, _, _, rfl, rfl, .inl ⟨by omega, by omega⟩, _, rfl, _, _, rfl, rfl, .inl ⟨_, rfl, _, rfl, _, _, rfl, rfl, m0, fin _⟩⟩
end
end My
namespace My
open PySem PySem.Spec PyProof.Rows L2
theorem Same.upd {q : Addr} {H : Hp} {o : HO} (h : H q = none) : Same H (L2.upd H q o) := fun b x e => by rw [upd_ne (ne_of_none e h)]; exact e
theorem Rng.same {p : Addr} {H H' : Hp} (r : Rng p H) (s : Same H H') : Rng p H' := let ⟨a, b, h, z⟩ := r; ⟨a, b, s _ _ h, z⟩
theorem Rng.ne {p q : Addr} {H : Hp} (r : Rng p H) (h : H q = none) : q ≠ p := fun e => by
  obtain ⟨a, b, z, _⟩ := r
  rw [← e, h] at z
  cases z
section
variable {P : Program} {w : World} {K : PySem.W.Frag} {mg : Str → Option Value} {base : Heap}
def spChoice : Sp := fun vs H Q _ => ∃ (p o : Addr) (xs : List V), vs = [.ref p, .ref o] ∧ Rng p H ∧ o ≠ p ∧ H o = some (.lst xs) ∧ 0 < xs.length ∧ xs.length ≤ 1000 ∧ ∀ x H', x ∈ xs → Rng p H' → Kp p H H' → Q x H'
theorem p__law_choice (T : Mo K mg) : Gx.Pr P w K mg base CX0 2 "_law_choice" s__law_choice ["_law_rng_here", "_law_options"] spChoice := by
  refine T.d__law_choice.ok sc__law_choice (fun vs H Q E h => ?_) (fun f cdv A outer s H vs Q E hr h => ?_)
  · obtain ⟨p, o, xs, rfl, _⟩ := h
    rfl
  · obtain ⟨p, o, xs, rfl, hR, nop, ho, l0, l1, q⟩ := h
    refine ⟨_, (pss_one (ps_ret (pe_ix ix_list (pv 1) (Gx.pe_pos (p__law_draw T) hr (by decide) (by rfl) b__law_draw pass0 (pa_cons (pv 0) (pa_cons (pe_callB call_len_seq (by rfl) T.b_len (by decide +kernel) (pa_cons (pv 1) pa_nil)) pa_nil))) (fun _ _ => rfl)))), ?_⟩
    refine ⟨_, rfl, _, rfl, _, rfl, o, _, rfl, .inl (SqL.of ho), p, _, rfl, hR, by omega, by omega, fun r H' r0 r1 hR' k => ?_⟩
    obtain ⟨n, rfl⟩ : ∃ n : Nat, r = (n : Int) := ⟨r.toNat, by omega⟩
    have hn : n < xs.length := by omega
    exact ⟨o, xs, _, xs[n], rfl, rfl, SqL.of (k _ _ nop ho), atI_nat (List.getElem?_eq_getElem hn), q _ _ (List.getElem_mem hn) hR' k⟩
/-- a thing is drawn -/
def RetTh (p : Addr) (H : Hp) (Q : VK) : Prop := ∀ x H', Th p H' x → Rng p H' → Kp p H H' → Q x H'
def spOdd : Sp := fun vs H Q _ => ∃ p : Addr, vs = [.ref p] ∧ Rng p H ∧ RetTh p H Q
theorem str_small {z : Str} (h : z.cps.toList.length ≤ 100 ∧ ∀ c ∈ z.cps.toList, c < 128) (p : Addr) (H : Hp) : Th p H (.str z) := .str z (by simpa [Str.length] using h.1) h.2
theorem p__law_odd (T : Mo K mg) : Gx.Pr P w K mg base CX0 3 "_law_odd" s__law_odd ["_law_rng_here"] spOdd := by
  refine T.d__law_odd.ok sc__law_odd (fun vs H Q E h => ?_) (fun f cdv A outer s H vs Q E hr h => ?_)
  · obtain ⟨p, rfl, _⟩ := h
    rfl
  · obtain ⟨p, rfl, hR, q⟩ := h
    refine ⟨_, (pss_cons (ps_set (i := 1) sc__law_odd.nd rfl (Or.inl rfl) (pe_lst (pa_cons pe_non (pa_cons pe_bl (pa_cons pe_bl (pa_cons pe_str (pa_cons pe_str (pa_cons pe_str (pa_cons (pe_lst pa_nil) (pa_cons (pe_tup pa_nil) (pa_cons pe_dnewK (pa_cons (pe_lst (pa_cons pe_int pa_nil)) (pa_cons (pe_tup (pa_cons pe_int pa_nil)) (pa_cons pe_str (pa_cons (pe_un un_neg pe_int) (pa_cons (pe_op op_pow pe_int pe_int) (pa_cons pe_str (pa_cons (pe_lst (pa_cons pe_str pa_nil)) (pa_cons (pe_tup (pa_cons pe_str (pa_cons pe_str pa_nil))) (pa_cons pe_int (pa_cons pe_int pa_nil)))))))))))))))))))))
      (pss_one (ps_ret (Gx.pe_pos (p__law_choice T) hr (by decide) (by rfl) b__law_choice pass0 (pa_cons (pv 0) (pa_cons (pv 1) pa_nil)))))), ?_⟩
    refine ⟨Nat.zero_le _, fun a1 n1 => ⟨Nat.zero_le _, fun a2 n2 a3 n3 => ⟨by show 1 ≤ sizeLine; decide, fun a4 n4 => ⟨by show 1 ≤ sizeLine; decide, fun a5 n5 => ⟨_, rfl, _, _, rfl, rfl, ⟨by decide, by decide, by decide⟩,
      by show 1 ≤ sizeLine; decide, fun a6 n6 => ⟨by show 2 ≤ sizeLine; decide, fun a7 n7 => ⟨by show 19 ≤ sizeLine; decide, fun o no => ?_⟩⟩⟩⟩⟩⟩⟩
    have e1 := Same.upd (o := .lst []) n1
    have e2 := Same.upd (o := .tup []) n2
    have e3 := Same.upd (o := .dK []) n3
    have e4 := Same.upd (o := .lst [.int 3]) n4
    have e5 := Same.upd (o := .tup [.int 1]) n5
    have e6 := Same.upd (o := .lst [.str "0"]) n6
    have e7 := Same.upd (o := .tup [.str "0", .str "1"]) n7
    have R1 := hR.same e1
    have R2 := R1.same e2
    have R3 := R2.same e3
    have R4 := R3.same e4
    have R5 := R4.same e5
    have R6 := R5.same e6
    have R7 := R6.same e7
    refine ⟨_, rfl, _, rfl, p, o, _, rfl, R7.same (Same.upd no), R7.ne no, upd_same, by show 0 < 19; decide, by show 19 ≤ 1000; decide, fun x H' hx hR' k => ?_⟩
    have e8 : Kp p _ H' := (same_kp (Same.upd no)).trans k
    have k7 := (same_kp e7).trans e8
    have k6 := (same_kp e6).trans k7
    have k5 := (same_kp e5).trans k6
    have k4 := (same_kp e4).trans k5
    have k3 := (same_kp e3).trans k4
    have k2 := (same_kp e2).trans k3
    refine q x H' ?_ hR' ((same_kp e1).trans k2)
    simp only [List.mem_cons, List.not_mem_nil, or_false] at hx
    rcases hx with rfl | rfl | rfl | rfl | rfl | rfl | rfl | rfl | rfl | rfl | rfl | rfl | rfl | rfl | rfl | rfl | rfl | rfl | rfl
    · exact .non
    · exact .bl _
    · exact .bl _
    · exact str_small (by decide +kernel) p H'
    · exact str_small (by decide +kernel) p H'
    · exact str_small (by decide +kernel) p H'
    · exact .lst (hR.ne n1) (k2 _ _ (hR.ne n1) upd_same)
    · exact .tup (R1.ne n2) (k3 _ _ (R1.ne n2) upd_same)
    · exact .dic (R2.ne n3) (k4 _ _ (R2.ne n3) upd_same)
    · exact .lst (R3.ne n4) (k5 _ _ (R3.ne n4) upd_same)
    · exact .tup (R4.ne n5) (k6 _ _ (R4.ne n5) upd_same)
    · exact str_small (by decide +kernel) p H'
    · exact .int _
    · exact .int _
    · exact str_small (by decide +kernel) p H'
    · exact .lst (R5.ne n6) (k7 _ _ (R5.ne n6) upd_same)
    · exact .tup (R6.ne n7) (e8 _ _ (R6.ne n7) upd_same)
    · exact .int _
    · exact .int _
theorem p__law_bits (T : Mo K mg) : Gx.Pr P w K mg base CX0 4 "_law_bits" s__law_bits ["_law_rng_here"] spOdd := by
  refine T.d__law_bits.ok sc__law_bits (fun vs H Q E h => ?_) (fun f cdv A outer s H vs Q E hr h => ?_)
  · obtain ⟨p, rfl, _⟩ := h
    rfl
  · obtain ⟨p, rfl, hR, q⟩ := h
    refine ⟨_, (pss_cons (ps_set (i := 1) sc__law_bits.nd rfl (Or.inl rfl) (Gx.pe_pos (p__law_draw T) hr (by decide) (by rfl) b__law_draw pass0 (pa_cons (pv 0) (pa_cons pe_int pa_nil))))
      (pss_cons (ps_if (pt_cmpR op_eq (pv 1) pe_int (nomark _)) (pss_one (ps_ret (Gx.pe_pos (p__law_odd T) hr (by decide) (by rfl) b__law_odd pass0 (pa_cons (pv 0) pa_nil)))) pss_nil)
      (pss_one (ps_ret (pe_ifExp (pt_cmpR op_eq (pv 1) pe_int (nomark _)) (pe_op op_sub (Gx.pe_pos (p__law_draw T) hr (by decide) (by rfl) b__law_draw pass0 (pa_cons (pv 0) (pa_cons pe_int pa_nil))) pe_int) (pe_op op_add pe_int (Gx.pe_pos (p__law_draw T) hr (by decide) (by rfl) b__law_draw pass0 (pa_cons (pv 0) (pa_cons pe_int pa_nil))))))))), ?_⟩
    refine ⟨_, rfl, p, _, rfl, hR, by decide, by decide, fun r H1 r0 r1 hR1 k1 => ?_⟩
    refine ⟨_, rfl, rfl, _, rfl, ?_⟩
    by_cases c : V.int r = V.int 0
    · rw [decide_eq_true c]
      exact iteT ⟨_, rfl, p, rfl, hR1, fun x H' t R k => q x H' t R (k1.trans k)⟩
    · rw [decide_eq_false c]
      refine iteF ⟨_, rfl, rfl, _, rfl, ?_⟩
      by_cases c2 : V.int r = V.int 1
      · rw [decide_eq_true c2]
        exact iteT ⟨_, rfl, p, _, rfl, hR1, by decide, by decide, fun r2 H2 _ _ hR2 k2 => ⟨_, _, rfl, rfl, q _ _ (.int _) hR2 (k1.trans k2)⟩⟩
      · rw [decide_eq_false c2]
        exact iteF ⟨_, rfl, p, _, rfl, hR1, by decide, by decide, fun r2 H2 _ _ hR2 k2 => ⟨_, _, rfl, rfl, q _ _ (.int _) hR2 (k1.trans k2)⟩⟩
end
end My
namespace My
open PySem PySem.Spec PyProof.Rows L2
section
variable {P : Program} {w : World} {K : PySem.W.Frag} {mg : Str → Option Value} {base : Heap}
def spThing : Sp := fun vs H Q _ => ∃ (p : Addr) (y : V), vs = [.ref p, y] ∧ Rng p H ∧ Th p H y ∧ RetTh p H Q
theorem p__law_thing (T : Mo K mg) : Gx.Pr P w K mg base CX0 4 "_law_thing" s__law_thing ["_law_rng_here", "_law_many"] spThing := by
  refine T.d__law_thing.ok sc__law_thing (fun vs H Q E h => ?_) (fun f cdv A outer s H vs Q E hr h => ?_)
  · obtain ⟨p, y, rfl, _⟩ := h
    rfl
  · obtain ⟨p, y, rfl, hR, ty, q⟩ := h
    refine ⟨_, (Evl.pss_cut (ps_set (i := 2) sc__law_thing.nd rfl (Or.inl rfl) (pe_ifExp (pt_val (Gx.pe_pos (p__law_is_bits T) hr (by decide) (by rfl) b__law_is_bits pass0 (pa_cons (pv 1) pa_nil))) (Gx.pe_pos (p__law_power T) hr (by decide) (by rfl) b__law_power pass0 (pa_cons (pv 1) pa_nil)) pe_int))
      (pss_cons (ps_set (i := 3) sc__law_thing.nd rfl (Or.inl rfl) (pe_lst (pa_cons (Gx.pe_pos (p__law_draw T) hr (by decide) (by rfl) b__law_draw pass0 (pa_cons (pv 0) (pa_cons (pv 2) pa_nil))) (pa_cons (pe_op op_sub (pv 2) pe_int) (pa_cons (pv 2) (pa_cons (pe_op op_add (pe_op op_add (pv 2) pe_int) (Gx.pe_pos (p__law_draw T) hr (by decide) (by rfl) b__law_draw pass0 (pa_cons (pv 0) (pa_cons pe_int pa_nil)))) (pa_cons (pe_op op_sub (pe_un un_neg pe_int) (Gx.pe_pos (p__law_draw T) hr (by decide) (by rfl) b__law_draw pass0 (pa_cons (pv 0) (pa_cons pe_int pa_nil)))) pa_nil)))))))
      (pss_one (ps_ret (Gx.pe_pos (p__law_choice T) hr (by decide) (by rfl) b__law_choice pass0 (pa_cons (pv 0) (pa_cons (pe_op op_cat (pv 3) (pe_lst (pa_cons (Gx.pe_pos (p__law_draw T) hr (by decide) (by rfl) b__law_draw pass0 (pa_cons (pv 0) (pa_cons (pe_op op_pow pe_int pe_int) pa_nil))) (pa_cons (Gx.pe_pos (p__law_odd T) hr (by decide) (by rfl) b__law_odd pass0 (pa_cons (pv 0) pa_nil)) (pa_cons pe_int (pa_cons pe_int pa_nil)))))) pa_nil))))))), ?_⟩
    refine ⟨fun σ H' => H' = H ∧ ∃ z : Int, 0 < z ∧ z ≤ 1024 ∧ σ = [some (.ref p), some y, some (.int z), none], ?_, fun σ H' h => ?_⟩
    · refine ⟨y, rfl, p, y, rfl, ty, _, rfl, ?_⟩
      cases hy : isBt y with
      | true =>
        obtain ⟨b, rfl, b1, b2⟩ := isBt_inv hy
        obtain ⟨n, rfl⟩ : ∃ n : Nat, b = (n : Int) := ⟨b.toNat, by omega⟩
        refine iteT ⟨_, rfl, n, rfl, by omega, rfl, _, ?_, ?_, rfl⟩
        · exact Int.pow_pos (by decide)
        · have : ∀ n : Nat, n ≤ 10 → (2 : Int) ^ n ≤ 1024 := by decide
          exact this n (by omega)
      | false => exact iteF ⟨rfl, _, by decide, by decide, rfl⟩
    · obtain ⟨rfl, z, z0, z1, rfl⟩ := h
      refine ⟨_, rfl, _, rfl, p, z, rfl, hR, z0, by omega, fun r1 H1 _ _ R1 k1 => ?_⟩
      refine ⟨_, rfl, _, _, rfl, rfl, _, rfl, _, rfl, _, _, rfl, rfl, _, rfl, p, _, rfl, R1, by decide, by decide, fun r2 H2 _ _ R2 k2 => ?_⟩
      refine ⟨_, _, rfl, rfl, _, rfl, _, rfl, p, _, rfl, R2, by decide, by decide, fun r3 H3 _ _ R3 k3 => ?_⟩
      refine ⟨_, _, rfl, rfl, by show 5 ≤ sizeLine; decide, fun s ns => ?_⟩
      have nsp := R3.ne ns
      have k4 : Kp p H' _ := ((k1.trans k2).trans k3).trans (same_kp (Same.upd (o := .lst [.int r1, .int (z - 1), .int z, .int (z + 1 + r2), .int (-1 - r3)]) ns))
      have R4 := R3.same (Same.upd (o := .lst [.int r1, .int (z - 1), .int z, .int (z + 1 + r2), .int (-1 - r3)]) ns)
      refine ⟨_, rfl, _, rfl, _, rfl, _, _, rfl, rfl, ⟨by decide, by decide, by decide⟩, p, _, rfl, R4, by decide, by decide, fun r5 H5 _ _ R5 k5 => ?_⟩
      refine ⟨_, rfl, p, rfl, R5, fun x H6 tx R6 k6 => ?_⟩
      refine ⟨by show 4 ≤ sizeLine; decide, fun t nt => ?_⟩
      have hs : H6 s = some (.lst [.int r1, .int (z - 1), .int z, .int (z + 1 + r2), .int (-1 - r3)]) := k6 _ _ nsp (k5 _ _ nsp upd_same)
      have R7 := R6.same (Same.upd (o := .lst [.int r5, x, .int 0, .int 1]) nt)
      refine ⟨s, t, _, _, rfl, rfl, (by rw [upd_ne (ne_of_none hs nt)]; exact hs), upd_same, by show 9 ≤ sizeLine; decide, fun u nu => ?_⟩
      refine ⟨p, u, _, rfl, R7.same (Same.upd nu), R7.ne nu, upd_same, by show 0 < 9; decide, by show 9 ≤ 1000; decide, fun v H8 hv R8 k8 => ?_⟩
      have k9 : Kp p H6 H8 := ((same_kp (Same.upd nt)).trans (same_kp (Same.upd nu))).trans k8
      refine q v H8 ?_ R8 (((k4.trans k5).trans k6).trans k9)
      simp only [List.cons_append, List.nil_append, List.mem_cons, List.not_mem_nil, or_false] at hv
      rcases hv with rfl | rfl | rfl | rfl | rfl | rfl | rfl | rfl | rfl
      · exact .int _
      · exact .int _
      · exact .int _
      · exact .int _
      · exact .int _
      · exact .int _
      · exact tx.kp k9
      · exact .int _
      · exact .int _
end
end My
namespace My
open PySem PySem.Spec PyProof.Rows L2
/-- texts of one small sign each -/
def Small (l : List Str) : Prop := ∀ x ∈ l, ∃ c, x = sign c ∧ c < 128
theorem join_small : ∀ l : List Str, Small l → (Str.join "" l).cps.toList.length = l.length ∧ ∀ c ∈ (Str.join "" l).cps.toList, c < 128
  | [], _ => ⟨rfl, fun c h => by simp [Str.join, Str.empty] at h⟩
  | [x], h => by
    obtain ⟨c, rfl, hc⟩ := h x List.mem_cons_self
    exact ⟨rfl, fun d hd => by
      have : d = c := by simpa [Str.join, sign] using hd
      omega⟩
  | x :: y :: r, h => by
    obtain ⟨c, rfl, hc⟩ := h x List.mem_cons_self
    obtain ⟨i1, i2⟩ := join_small (y :: r) fun z hz => h z (List.mem_cons_of_mem _ hz)
    have e : (Str.join "" (sign c :: y :: r)).cps.toList = c :: (Str.join "" (y :: r)).cps.toList := by
      show ((sign c ++ ("" : Str) ++ Str.join "" (y :: r)) : Str).cps.toList = _
      show (((sign c).cps ++ (("" : Str)).cps) ++ (Str.join "" (y :: r)).cps).toList = _
      rw [show (("" : Str)).cps = #[] by decide +kernel]
      simp [sign]
    rw [e]
    refine ⟨by rw [List.length_cons, i1]; rfl, fun d hd => ?_⟩
    rcases List.mem_cons.mp hd with rfl | hd
    · exact hc
    · exact i2 d hd
theorem sum_small : ∀ l : List Str, Small l → (l.map (·.length)).sum = l.length
  | [], _ => rfl
  | x :: l, h => by
    obtain ⟨c, rfl, _⟩ := h x List.mem_cons_self
    rw [List.map_cons, List.sum_cons, sum_small l fun z hz => h z (List.mem_cons_of_mem _ hz), List.length_cons]
    show 1 + _ = _
    omega
section
variable {P : Program} {w : World} {K : PySem.W.Frag} {mg : Str → Option Value} {base : Heap}
/-- a text whose signs are small, not empty -/
def Sig (z : Str) : Prop := 0 < z.cps.size ∧ z.cps.size ≤ 20 ∧ ∀ c ∈ z.cps.toList, c < 128
theorem sig_of {z : Str} (h : 0 < z.cps.size ∧ z.cps.size ≤ 20 ∧ (z.cps.toList.all fun c => decide (c < 128)) = true) : Sig z := ⟨h.1, h.2.1, fun c hc => by simpa using List.all_eq_true.mp h.2.2 c hc⟩
theorem p__law_text (T : Mo K mg) : Gx.Pr P w K mg base CX0 3 "_law_text" s__law_text ["_law_rng_here", "_law_many"] spThing := by
  refine T.d__law_text.ok sc__law_text (fun vs H Q E h => ?_) (fun f cdv A outer s H vs Q E hr h => ?_)
  · obtain ⟨p, y, rfl, _⟩ := h
    rfl
  · obtain ⟨p, y, rfl, hR, ty, q⟩ := h
    refine ⟨_, (Evl.pss_cut (ps_set (i := 2) sc__law_text.nd rfl (Or.inl rfl) (pe_ifExp (pt_val (Gx.pe_pos (p__law_is_bits T) hr (by decide) (by rfl) b__law_is_bits pass0 (pa_cons (pv 1) pa_nil))) (pe_op op_sub (pe_op op_add (pv 1) (Gx.pe_pos (p__law_draw T) hr (by decide) (by rfl) b__law_draw pass0 (pa_cons (pv 0) (pa_cons pe_int pa_nil)))) pe_int) pe_int))
      (Evl.pss_cut (ps_set (i := 2) sc__law_text.nd rfl (Or.inl rfl) (pe_ix ix_list (pe_lst (pa_cons (pv 2) (pa_cons (Gx.pe_pos (p__law_draw T) hr (by decide) (by rfl) b__law_draw pass0 (pa_cons (pv 0) (pa_cons pe_int pa_nil))) pa_nil))) (Gx.pe_pos (p__law_draw T) hr (by decide) (by rfl) b__law_draw pass0 (pa_cons (pv 0) (pa_cons pe_int pa_nil))) (fun _ _ => rfl)))
      (Evl.pss_cut (ps_set (i := 3) sc__law_text.nd rfl (Or.inr rfl) (pe_ix ix_list (pe_lst (pa_cons pe_str (pa_cons pe_str (pa_cons pe_str (pa_cons pe_str pa_nil))))) (Gx.pe_pos (p__law_draw T) hr (by decide) (by rfl) b__law_draw pass0 (pa_cons (pv 0) (pa_cons pe_int pa_nil))) (fun _ _ => rfl)))
      (pss_one (ps_ret (pe_bm PySem.F.plainAttrs_str PySem.F.slot_str_join PySem.F.type_str_join mt_join pe_str (pa_cons (pe_lc (own := [("_law_k", 4)]) (g := gName 4) (tt := tYes) rfl sc__law_text.nd (pi_range1 (by rfl) T.b_range (pa_cons (pv 2) pa_nil)) (blkOk_by (N := N__law_text) (sc := defScope s__law_text) (by decide +kernel)) (fun _ _ _ _ _ => (pg_name (i := 4) sc__law_text.nd rfl (Or.inl rfl))) (fun _ _ _ _ _ => pts_nil) (fun _ _ _ _ _ => (pe_ix ix_str (pv 3) (Gx.pe_pos (p__law_draw T) hr (by decide) (by rfl) b__law_draw pass0 (pa_cons (pv 0) (pa_cons (pe_callB call_len_str (by rfl) T.b_len (by decide +kernel) (pa_cons (pv 3) pa_nil)) pa_nil))) (fun _ _ => rfl)))) pa_nil))))))), ?_⟩
    refine ⟨fun σ H' => Rng p H' ∧ Kp p H H' ∧ ∃ n : Nat, n ≤ 12 ∧ σ = [some (.ref p), some y, some (.int n), none, none], ?_, fun σ H1 h => ?_⟩
    · refine ⟨y, rfl, p, y, rfl, ty, _, rfl, ?_⟩
      cases hy : isBt y with
      | true =>
        obtain ⟨b, rfl, b1, b2⟩ := isBt_inv hy
        refine iteT ⟨_, rfl, _, rfl, p, _, rfl, hR, by decide, by decide, fun r H1 r0 r1 R1 k1 => ⟨_, _, rfl, rfl, _, _, rfl, rfl, R1, k1, (b + r - 1).toNat, by omega, ?_⟩⟩
        show [some (V.ref p), some (V.int b), some (V.int (b + r - 1)), none, none] = _
        rw [Int.toNat_of_nonneg (by omega)]
      | false => exact iteF ⟨hR, Kp.refl, 4, by decide, rfl⟩
    obtain ⟨R1, k1, n, hn, rfl⟩ := h
    refine ⟨fun σ H' => Rng p H' ∧ Kp p H H' ∧ ∃ n : Nat, n ≤ 12 ∧ σ = [some (.ref p), some y, some (.int n), none, none], ?_, fun σ H2 h => ?_⟩
    · refine ⟨_, rfl, _, rfl, p, _, rfl, R1, by decide, by decide, fun r H2 r0 r1 R2 k2 => ⟨by show 2 ≤ sizeLine; decide, fun l nl => ?_⟩⟩
      have R3 := R2.same (Same.upd (o := .lst [.int n, .int r]) nl)
      refine ⟨_, rfl, p, _, rfl, R3, by decide, by decide, fun i H4 i0 i1 R4 k4 => ?_⟩
      have hl : H4 l = some (.lst [.int n, .int r]) := k4 _ _ (R2.ne nl) upd_same
      have kk : Kp p H H4 := ((k1.trans k2).trans (same_kp (Same.upd nl))).trans k4
      have ci : i = 0 ∨ i = 1 := by omega
      rcases ci with rfl | rfl
      · exact ⟨l, _, _, .int n, rfl, rfl, SqL.of hl, rfl, R4, kk, n, hn, rfl⟩
      · refine ⟨l, _, _, .int r, rfl, rfl, SqL.of hl, rfl, R4, kk, r.toNat, by omega, ?_⟩
        show [some (V.ref p), some y, some (V.int r), none, none] = _
        rw [Int.toNat_of_nonneg (by omega)]
    obtain ⟨R2, k2, n, hn, rfl⟩ := h
    refine ⟨fun σ H' => Rng p H' ∧ Kp p H H' ∧ ∃ z : Str, Sig z ∧ σ = [some (.ref p), some y, some (.int n), some (.str z), none], ?_, fun σ H3 h => ?_⟩
    · refine ⟨by show 4 ≤ sizeLine; decide, fun l nl => ?_⟩
      have R3 := R2.same (Same.upd (o := .lst [.str "01", .str "01", .str "01", .str "01 2x*,-"]) nl)
      refine ⟨_, rfl, p, _, rfl, R3, by decide, by decide, fun i H4 i0 i1 R4 k4 => ?_⟩
      have hl : H4 l = some (.lst [.str "01", .str "01", .str "01", .str "01 2x*,-"]) := k4 _ _ (R2.ne nl) upd_same
      have kk : Kp p H H4 := (k2.trans (same_kp (Same.upd nl))).trans k4
      have ci : i = 0 ∨ i = 1 ∨ i = 2 ∨ i = 3 := by omega
      rcases ci with rfl | rfl | rfl | rfl
      · exact ⟨l, _, _, .str "01", rfl, rfl, SqL.of hl, rfl, R4, kk, _, sig_of (by decide +kernel), rfl⟩
      · exact ⟨l, _, _, .str "01", rfl, rfl, SqL.of hl, rfl, R4, kk, _, sig_of (by decide +kernel), rfl⟩
      · exact ⟨l, _, _, .str "01", rfl, rfl, SqL.of hl, rfl, R4, kk, _, sig_of (by decide +kernel), rfl⟩
      · exact ⟨l, _, _, .str "01 2x*,-", rfl, rfl, SqL.of hl, rfl, R4, kk, _, sig_of (by decide +kernel), rfl⟩
    obtain ⟨R3, k3, z, hz, rfl⟩ := h
    refine ⟨rfl, _, rfl, (n : Int), rfl, by omega, by omega, fun D hD => ?_⟩
    rw [Int.toNat_natCast]
    have nDp := R3.ne hD
    refine lc_range (lo := 0) (n := n) (fun i H' => Rng p H' ∧ Kp p H3 H' ∧ ∃ l : List Str, l.length = i ∧ Small l ∧ H' D = some (.lst (l.map V.str)))
      ⟨R3.same (Same.upd hD), same_kp (Same.upd hD), [], rfl, (fun _ h => nomatch h), upd_same⟩ (fun i H4 hi h => ?_) fun H4 h => ?_
    · obtain ⟨R4, k4, l, hl, hs, hd⟩ := h
      refine ⟨rfl, _, rfl, _, rfl, _, rfl, z, rfl, Nat.le_trans (show z.length ≤ 20 from hz.2.1) (by decide), p, _, rfl, R4, ?_, ?_, fun r H5 r0 r1 R5 k5 => ?_⟩
      · have := hz.1
        show (0 : Int) < ((z.cps.size : Nat) : Int)
        omega
      · have := hz.2.1
        show ((z.cps.size : Nat) : Int) < 10 ^ 40
        omega
      · obtain ⟨m, rfl⟩ : ∃ m : Nat, r = (m : Int) := ⟨r.toNat, by omega⟩
        have hm : m < z.cps.toList.length := by
          have r1 : (m : Int) < ((z.cps.size : Nat) : Int) := r1
          simp
          omega
        have hd5 : H5 D = some (.lst (l.map V.str)) := k5 _ _ nDp hd
        refine ⟨z, _, z.cps.toList[m], rfl, rfl, Nat.le_trans (show z.length ≤ 20 from hz.2.1) (by decide), atI_nat (List.getElem?_eq_getElem hm), _, hd5, ?_, ?_, ?_, l ++ [sign z.cps.toList[m]], ?_, ?_, ?_⟩
        · rw [List.length_map, hl]
          exact Nat.lt_of_le_of_lt (show i ≤ 12 by omega) (by decide)
        · obtain ⟨a, b, e, o⟩ := R5
          exact ⟨a, b, by rw [upd_ne nDp.symm]; exact e, o⟩
        · intro b o nb e
          rw [upd_ne (ne_of_none e hD)]
          exact (k4.trans k5) b o nb e
        · rw [List.length_append, hl]
          rfl
        · intro x hx
          rcases List.mem_append.mp hx with h | h
          · exact hs x h
          · exact ⟨_, List.mem_singleton.mp h, hz.2.2 _ (List.getElem_mem hm)⟩
        · rw [upd_same, List.map_append]
          rfl
    · obtain ⟨R4, k4, l, hl, hs, hd⟩ := h
      refine ⟨"", D, l, rfl, rfl, .inl (SqL.of hd), ?_, ?_⟩
      · rw [sum_small l hs]
        show l.length + l.length * 0 ≤ _
        omega
      · refine q _ _ ?_ R4 (k3.trans k4)
        obtain ⟨j1, j2⟩ := join_small l hs
        rw [show Txt.join "" l = Str.join "" l from StrLaws.glued_eq_join _ _]
        exact str_small ⟨by omega, j2⟩ p H4
end
end My
namespace My
open PySem PySem.Spec PyProof.Rows L2
/-! ### what a list of bools shows -/
theorem dqBools {K : PySem.W.Frag} {H : Hp} : ∀ l : List Bool, Gx.DqAll K H (l.map V.bl) (l.map PyData.bool)
  | [] => .nil
  | x :: l => .cons (.bl x) (dqBools l)
theorem bools_show : ∀ l : List Bool, PyData.showableAll (l.map PyData.bool) = true
  | [] => by simp [PyData.showableAll]
  | x :: l => by simp [PyData.showableAll, PyData.showable, bools_show l]
theorem bools_dict : ∀ l : List Bool, PyData.hasDictAll (l.map PyData.bool) = false
  | [] => by simp [PyData.hasDictAll]
  | x :: l => by simp [PyData.hasDictAll, PyData.hasDict, bools_dict l]
theorem bools_deep : ∀ l : List Bool, PyData.depthAll (l.map PyData.bool) = 0
  | [] => by simp [PyData.depthAll]
  | x :: l => by simp [PyData.depthAll, PyData.depth, bools_deep l]
theorem bools_sum : ∀ l : List Bool, ((PyData.shownAll (l.map PyData.bool)).map (·.length)).sum ≤ 5 * l.length ∧ (PyData.shownAll (l.map PyData.bool)).length = l.length
  | [] => by simp [PyData.shownAll]
  | x :: l => by
    obtain ⟨h1, h2⟩ := bools_sum l
    have h0 : (PyData.shown (.bool x)).length ≤ 5 := by cases x <;> simp only [PyData.shown] <;> decide +kernel
    simp only [List.map_cons, PyData.shownAll, List.sum_cons, List.length_cons]
    omega
theorem bools_size (l : List Bool) (h : l.length ≤ 1000) : (PyData.shown (.list (l.map PyData.bool))).length ≤ sizeLine := by
  obtain ⟨h1, h2⟩ := bools_sum l
  have h3 := listText_len_le (PyData.shownAll (l.map PyData.bool))
  simp only [PyData.shown]
  refine Nat.le_trans (show _ ≤ 10000 by omega) (by decide)
section
variable {P : Program} {w : World} {K : PySem.W.Frag} {mg : Str → Option Value} {base : Heap}
theorem bools_ok (l : List Bool) (h : l.length ≤ 1000) : PyData.showable (.list (l.map PyData.bool)) = true ∧ (PyData.hasDict (.list (l.map PyData.bool)) = true → PyData.list (l.map PyData.bool) = .dict []) ∧ PyData.depth (.list (l.map PyData.bool)) ≤ 30 ∧
    (PyData.shown (.list (l.map PyData.bool))).length ≤ sizeLine :=
  ⟨by simp only [PyData.showable]; exact bools_show l, (fun z => by simp only [PyData.hasDict, bools_dict] at z; cases z), (by simp only [PyData.depth, bools_deep]; decide), bools_size l h⟩
def spRight : Sp := fun vs H Q _ => ∃ (p : Addr) (x y : V), vs = [x, y] ∧ Th p H x ∧ Th p H y ∧ ∀ H', Same H H' → Q (.bl true) H'
theorem p__law_right (T : Mo K mg) : Gx.PrG P w K mg base CX0 4 "_law_right" s__law_right ["_law_many", "_law_thing_here"] spRight := by
  refine T.d__law_right.okG sc__law_right (fun vs H Q E h => ?_) (fun f cdv A outer s H vs Q E hgd hr h => ?_)
  · obtain ⟨p, x, y, rfl, _⟩ := h
    rfl
  · obtain ⟨p, x, y, rfl, tx, ty, q⟩ := h
    have hu64 := hr.units
    refine ⟨_, (pss_cons (ps_set (i := 2) sc__law_right.nd rfl (Or.inl rfl) (pe_lst (pa_cons (Gx.pe_pos (p_is_bits T) hr (by decide) (by rfl) b_is_bits pass0 (pa_cons (pv 1) pa_nil)) (pa_cons (Gx.pe_pos (p_is_value T) hr (by decide) (by rfl) b_is_value pass0 (pa_cons (pv 1) (pa_cons (pv 0) pa_nil))) (pa_cons (Gx.pe_pos (p_is_range T) hr (by decide) (by rfl) b_is_range pass0 (pa_cons (pv 1) (pa_cons (pv 0) pa_nil))) pa_nil)))))
      (pss_cons (ps_set (i := 2) sc__law_right.nd rfl (Or.inl rfl) (pe_op op_cat (pv 2) (pe_lst (pa_cons (Gx.pe_kw (p_is_bits T) hr (by decide) (by rfl) kb_is_bits_value pass0 (pk_cons (pv 1) pk_nil)) (pa_cons (Gx.pe_kw (p_is_value T) hr (by decide) (by rfl) kb_is_value_value_bits pass0 (pk_cons (pv 1) (pk_cons (pv 0) pk_nil))) (pa_cons (Gx.pe_kw (p_is_range T) hr (by decide) (by rfl) kb_is_range_value_bits pass0 (pk_cons (pv 1) (pk_cons (pv 0) pk_nil))) pa_nil))))))
      (pss_cons (ps_set (i := 3) sc__law_right.nd rfl (Or.inl rfl) (pe_lst (pa_cons (Gx.pe_pos (p__law_is_bits T) hr (by decide) (by rfl) b__law_is_bits pass0 (pa_cons (pv 1) pa_nil)) (pa_cons (Gx.pe_pos (p__law_is_value T) hr (by decide) (by rfl) b__law_is_value pass0 (pa_cons (pv 1) (pa_cons (pv 0) pa_nil))) (pa_cons (Gx.pe_pos (p__law_is_range T) hr (by decide) (by rfl) b__law_is_range pass0 (pa_cons (pv 1) (pa_cons (pv 0) pa_nil))) pa_nil)))))
      (pss_one (ps_ret (pe_cmpR op_eq (pe_callB (Gx.call_reprK (K := K) rfl hgd hu64) (by rfl) T.b_repr (show bootBuiltins "repr" = some (.builtin "repr") by decide +kernel) (pa_cons (pv 2) pa_nil)) (pe_callB (Gx.call_reprK (K := K) rfl hgd hu64) (by rfl) T.b_repr (show bootBuiltins "repr" = some (.builtin "repr") by decide +kernel) (pa_cons (pe_op op_cat (pv 3) (pv 3)) pa_nil)) (nomark _))))))), ?_⟩
    refine ⟨_, rfl, p, y, rfl, ty, _, rfl, _, rfl, p, y, x, rfl, ty, tx, _, rfl, _, rfl, p, y, x, rfl, ty, tx, by show 3 ≤ sizeLine; decide, fun a na => ?_⟩
    have s1 := Same.upd (o := .lst [.bl (isBt y), .bl (isVl y x), .bl (isRg y x)]) na
    have tx1 := tx.kp (same_kp s1)
    have ty1 := ty.kp (same_kp s1)
    refine ⟨_, rfl, _, rfl, rfl, p, y, rfl, ty1, _, rfl, _, rfl, rfl, p, y, x, rfl, ty1, tx1, _, rfl, _, rfl, rfl, p, y, x, rfl, ty1, tx1, by show 3 ≤ sizeLine; decide, fun b nb => ?_⟩
    have s2 := Same.upd (o := .lst [.bl (isBt y), .bl (isVl y x), .bl (isRg y x)]) nb
    refine ⟨a, b, _, _, rfl, rfl, s2 _ _ upd_same, upd_same, by show 6 ≤ sizeLine; decide, fun c nc => ?_⟩
    have s3 := Same.upd (o := .lst ([.bl (isBt y), .bl (isVl y x), .bl (isRg y x)] ++ [.bl (isBt y), .bl (isVl y x), .bl (isRg y x)])) nc
    have tx3 := (tx1.kp (same_kp s2)).kp (same_kp s3)
    have ty3 := (ty1.kp (same_kp s2)).kp (same_kp s3)
    refine ⟨_, rfl, p, y, rfl, ty3, _, rfl, _, rfl, p, y, x, rfl, ty3, tx3, _, rfl, _, rfl, p, y, x, rfl, ty3, tx3, fun H4 s4 => ⟨by show 3 ≤ sizeLine; decide, fun d nd => ?_⟩⟩
    have s5 := Same.upd (o := .lst [.bl (isBt y), .bl (isVl y x), .bl (isRg y x)]) nd
    have hc := s5 _ _ (s4 _ _ (upd_same (H := upd (upd H a _) b _) (a := c)))
    refine ⟨_, rfl, ?_⟩
    obtain ⟨r1, r2, r3, r4⟩ := bools_ok [isBt y, isVl y x, isRg y x, isBt y, isVl y x, isRg y x] (by show 6 ≤ 1000; decide)
    refine ⟨_, _, rfl, .lst (SqL.of hc) (dqBools [isBt y, isVl y x, isRg y x, isBt y, isVl y x, isRg y x]), r1, r2, r3, r4, ?_⟩
    refine ⟨_, rfl, _, rfl, d, d, _, _, rfl, rfl, upd_same, upd_same, by show 6 ≤ sizeLine; decide, fun e ne => ?_⟩
    refine ⟨_, _, rfl, .lst (SqL.of upd_same) (dqBools [isBt y, isVl y x, isRg y x, isBt y, isVl y x, isRg y x]), r1, r2, r3, r4, ?_⟩
    refine ⟨rfl, ?_⟩
    rw [decide_eq_true rfl]
    exact q _ ((((((s1.trans s2).trans s3).trans s4).trans s5)).trans (Same.upd ne))
def spLaw (K : PySem.W.Frag) : Sp := fun vs H Q _ => ∃ (a : Addr) (ns : List Int), vs = [.ref a] ∧ SqL K H a (ns.map V.int) ∧ ns.length ≤ 63 ∧ ∀ H', Q (.bl true) H'
theorem p_law (T : Mo K mg) : Gx.PrG P w K mg base CX0 5 "law" s_law ["_law_script"] (spLaw K) := by
  refine T.d_law.okG sc_law (fun vs H Q E h => ?_) (fun f cdv A outer s H vs Q E hgd hr h => ?_)
  · obtain ⟨a, ns, rfl, _⟩ := h
    rfl
  · obtain ⟨a, ns, rfl, hS, hl, q⟩ := h
    refine ⟨_, (pss_cons (ps_for PassesOwn.never rfl (pi_range1 (by rfl) T.b_range (pa_cons (pe_callB (call_max2 rfl) (by rfl) T.b_max (by decide +kernel) (pa_cons pe_int (pa_cons (pe_callB (call_min2 rfl) (by rfl) T.b_min (by decide +kernel) (pa_cons (pe_callB call_len_seq (by rfl) T.b_len (by decide +kernel) (pa_cons (pv 0) pa_nil)) (pa_cons pe_int pa_nil))) pa_nil))) pa_nil)) (pg_name (i := 1) sc_law.nd rfl (Or.inl rfl)) (pss_cons (ps_set (i := 2) sc_law.nd rfl (Or.inl rfl) (Gx.pe_pos (p__law_rng T) hr (by decide) (by rfl) b__law_rng pass0 (pa_cons (pv 0) (pa_cons (pv 1) pa_nil))))
      (pss_one (ps_for PassesOwn.never rfl (pi_range1 (by rfl) T.b_range (pa_cons pe_int pa_nil)) (pg_name (i := 3) sc_law.nd rfl (Or.inl rfl)) (pss_cons (ps_set (i := 4) sc_law.nd rfl (Or.inl rfl) (Gx.pe_pos (p__law_bits T) hr (by decide) (by rfl) b__law_bits pass0 (pa_cons (pv 2) pa_nil)))
      (pss_one (ps_for PassesOwn.never rfl (pi_tup (pe_tup (pa_cons (pv 4) (pa_cons (Gx.pe_pos (p__law_thing T) hr (by decide) (by rfl) b__law_thing pass0 (pa_cons (pv 2) (pa_cons (pv 4) pa_nil))) (pa_cons (Gx.pe_pos (p__law_text T) hr (by decide) (by rfl) b__law_text pass0 (pa_cons (pv 2) (pa_cons (pv 4) pa_nil))) pa_nil))))) (pg_name (i := 5) sc_law.nd rfl (Or.inl rfl)) (pss_one (ps_if (pt_not (pt_val (Gx.pe_posG hgd (p__law_right T) hr (by decide) (by rfl) b__law_right pass0 (pa_cons (pv 4) (pa_cons (pv 5) pa_nil))))) (pss_one (ps_ret pe_bl)) pss_nil)))))))))
      (pss_one (ps_ret pe_bl))), ?_⟩
    have top : ∃ m : Nat, m ≤ 8 ∧ (if (if (8 : Int) < ((ns.map V.int).length : Int) then (8 : Int) else ((ns.map V.int).length : Int)) > 1 then (if (8 : Int) < ((ns.map V.int).length : Int) then (8 : Int) else ((ns.map V.int).length : Int)) else 1) = (m : Int) := by
      rw [List.length_map]
      refine ⟨(if (if (8 : Int) < (ns.length : Int) then (8 : Int) else (ns.length : Int)) > 1 then (if (8 : Int) < (ns.length : Int) then (8 : Int) else (ns.length : Int)) else 1).toNat, ?_, ?_⟩ <;> split <;> split <;> omega
    obtain ⟨m, hm, em⟩ := top
    refine ⟨_, rfl, a, _, rfl, .inl hS, _, _, rfl, _, _, rfl, (m : Int), by rw [← em], by omega, by omega, ?_⟩
    rw [Int.toNat_natCast]
    refine for_range (lo := 0) (n := m) (fun i σ H' => Same H H' ∧ ∃ t1 t2 t3 t4 t5, σ = [some (.ref a), t1, t2, t3, t4, t5]) ⟨Same.refl H, _, _, _, _, _, rfl⟩ (fun i σ H1 hi h => ?_) fun σ H1 h => ?_
    · obtain ⟨s1, t1, t2, t3, t4, t5, rfl⟩ := h
      refine ⟨_, rfl, _, rfl, a, ns, i, by rw [Int.zero_add]; rfl, s1.seq hS, by omega, fun p H2 np R2 s2 => ?_⟩
      have s12 := s1.trans s2
      -- thirty turns
      refine ⟨30, rfl, by decide, by decide, ?_⟩
      refine for_range (lo := 0) (n := 30) (fun j σ H' => Rng p H' ∧ Same H H' ∧ ∃ t3 t4 t5, σ = [some (.ref a), some (.int (0 + (i : Int))), some (.ref p), t3, t4, t5]) ⟨R2, s12, _, _, _, rfl⟩ (fun j σ H3 hj h => ?_) fun σ H3 h => ?_
      · obtain ⟨R3, s3, t3, t4, t5, rfl⟩ := h
        have npH : ∀ b o, H b = some o → b ≠ p := fun b o e z => by
          have := s1 b o e
          rw [z, np] at this
          cases this
        refine ⟨_, rfl, p, rfl, R3, fun x H4 tx R4 k4 => ?_⟩
        refine ⟨_, rfl, _, rfl, _, rfl, p, x, rfl, R4, tx, fun y H5 ty R5 k5 => ?_⟩
        have tx5 := tx.kp k5
        refine ⟨_, rfl, _, rfl, p, x, rfl, R5, tx5, fun z H6 tz R6 k6 => ⟨by show 3 ≤ sizeLine; decide, fun t nt => ?_⟩⟩
        have R7 := R6.same (Same.upd (o := .tup [x, y, z]) nt)
        have kt := same_kp (p := p) (Same.upd (o := .tup [x, y, z]) nt)
        have sH : Same H (upd H6 t (.tup [x, y, z])) := fun b o e => kt b o (npH b o e) (k6 b o (npH b o e) (k5 b o (npH b o e) (k4 b o (npH b o e) (s3 b o e))))
        refine ⟨t, rfl, ⟨_, SqT.of upd_same⟩, ?_⟩
        have tx7 := (tx5.kp k6).kp kt
        have ty7 := (ty.kp k6).kp kt
        have tz7 := tz.kp kt
        refine for_tup (xs := [x, y, z]) (fun j σ H' => Rng p H' ∧ Same (upd H6 t (.tup [x, y, z])) H' ∧ ∃ t3 t5, σ = [some (.ref a), some (.int (0 + (i : Int))), some (.ref p), t3, some x, t5]) ⟨R7, Same.refl _, _, _, rfl⟩ (fun j σ H' _ h => SqT.of (h.2.1 _ _ upd_same)) (fun j v σ H8 hv h => ?_) fun σ H8 h => ?_
        · obtain ⟨R8, s8, t3, t5, rfl⟩ := h
          have tv : Th p H8 v := by
            have hv : v ∈ [x, y, z] := List.mem_of_getElem? hv
            simp only [List.mem_cons, List.not_mem_nil, or_false] at hv
            rcases hv with rfl | rfl | rfl
            · exact tx7.kp (same_kp s8)
            · exact ty7.kp (same_kp s8)
            · exact tz7.kp (same_kp s8)
          refine ⟨_, rfl, _, rfl, p, x, v, rfl, tx7.kp (same_kp s8), tv, fun H9 s9 => ⟨_, rfl, ?_⟩⟩
          exact iteF ⟨R8.same s9, s8.trans s9, _, _, rfl⟩
        · obtain ⟨R8, s8, t3, t5, rfl⟩ := h
          exact ⟨R8, sH.trans s8, _, _, _, rfl⟩
      · obtain ⟨R3, s3, t3, t4, t5, rfl⟩ := h
        exact ⟨s3, _, _, _, _, _, rfl⟩
    · obtain ⟨s1, t1, t2, t3, t4, t5, rfl⟩ := h
      exact q H1
end
end My
namespace My
open PySem PySem.Spec PyProof.Rows L2
theorem go {l : PySem.W.OpenLaw} {q : Program} {loose : List Str} {XP : (Str → Option Value) → Heap → Prop} {YP : World → Heap → Prop} {d : DefRec} {K : Params → PySem.W.Frag} (hn : l.most = some 63) (hdf : d.params.defaults = [])
    (hY : ∀ (w : World) (h : Heap), YP w h → (K w.params).In h) (hnm : d.name = "law") (F : ∀ (w : World) (mg : Str → Option Value) (h : Heap), (K w.params).In h → h.Ns mainGlobals mg → Mo (K w.params) mg) :
    PySem.W.WalkO q loose XP YP l.row.toRowW d [] (fun f vs => PySem.call f vs) :=
  Gx.walkG (n := 63) (k := 5) (sp := fun w => spLaw (K w.params)) hn (by decide) hdf ⟨rfl, by decide, by decide⟩ hY hnm b_law (fun w mg h kx g _ _ _ => p_law (F w mg h kx g)) fun _ _ a ns hl hS => ⟨a, ns, rfl, hS, hl, fun _ => rfl⟩
section
variable {K : PySem.W.Frag} {mg : Str → Option Value} {h : Heap}
theorem mo_mk {f0 f1 f2 f3 f4 f5 f6 f7 f8 f9 f10 f11 f12 f13 f14 f15 f16 f17 : Addr}  {oc0 kV0 dc0 pm0 cd0 ct0 oc1 kV1 dc1 pm1 cd1 ct1 oc2 kV2 dc2 pm2 cd2 ct2 oc3 kV3 dc3 pm3 cd3 ct3 oc4 kV4 dc4 pm4 cd4 ct4 oc5 kV5 dc5 pm5 cd5 ct5 oc6 kV6 dc6 pm6 cd6 ct6 oc7 kV7 dc7 pm7 cd7 ct7 oc8 kV8 dc8 pm8 cd8 ct8 oc9 kV9 dc9 pm9 cd9 ct9 oc10 kV10 dc10 pm10 cd10 ct10 oc11 kV11 dc11 pm11 cd11 ct11 oc12 kV12 dc12 pm12 cd12 ct12 oc13 kV13 dc13 pm13 cd13 ct13 oc14 kV14 dc14 pm14 cd14 ct14 oc15 kV15 dc15 pm15 cd15 ct15 oc16 kV16 dc16 pm16 cd16 ct16 oc17 kV17 dc17 pm17 cd17 ct17 u_MAX_BITS : Value} {od0 an0 od1 an1 od2 an2 od3 an3 od4 an4 od5 an5 od6 an6 od7 an7 od8 an8 od9 an9 od10 an10 od11 an11 od12 an12 od13 an13 od14 an14 od15 an15 od16 an16 od17 an17 : Option Addr} {sl0 sl1 sl2 sl3 sl4 sl5 sl6 sl7 sl8 sl9 sl10 sl11 sl12 sl13 sl14 sl15 sl16 sl17 : Array (Option Value)} (X : K.In h) (G : h.Ns mainGlobals mg)
    (a0 : PySem.W.nsIn K mainGlobals "is_int" = some (some (.ref f0))) (l0 : K.lookup f0 = some ⟨oc0, od0, .func (PySem.W.fnOf "is_int" "is_int" (defArgs s_is_int) (defBody s_is_int) (defScope s_is_int) .none kV0 dc0 pm0 an0 cd0 ct0), sl0⟩) (c0 : PySem.W.codeIn K cd0 "is_int" = true) (k0 : PySem.W.keepIn K (.ref f0) = true)
    (a1 : PySem.W.nsIn K mainGlobals "is_bits" = some (some (.ref f1))) (l1 : K.lookup f1 = some ⟨oc1, od1, .func (PySem.W.fnOf "is_bits" "is_bits" (defArgs s_is_bits) (defBody s_is_bits) (defScope s_is_bits) .none kV1 dc1 pm1 an1 cd1 ct1), sl1⟩) (c1 : PySem.W.codeIn K cd1 "is_bits" = true) (k1 : PySem.W.keepIn K (.ref f1) = true)
    (a2 : PySem.W.nsIn K mainGlobals "is_value" = some (some (.ref f2))) (l2 : K.lookup f2 = some ⟨oc2, od2, .func (PySem.W.fnOf "is_value" "is_value" (defArgs s_is_value) (defBody s_is_value) (defScope s_is_value) .none kV2 dc2 pm2 an2 cd2 ct2), sl2⟩) (c2 : PySem.W.codeIn K cd2 "is_value" = true) (k2 : PySem.W.keepIn K (.ref f2) = true)
    (a3 : PySem.W.nsIn K mainGlobals "is_range" = some (some (.ref f3))) (l3 : K.lookup f3 = some ⟨oc3, od3, .func (PySem.W.fnOf "is_range" "is_range" (defArgs s_is_range) (defBody s_is_range) (defScope s_is_range) .none kV3 dc3 pm3 an3 cd3 ct3), sl3⟩) (c3 : PySem.W.codeIn K cd3 "is_range" = true) (k3 : PySem.W.keepIn K (.ref f3) = true)
    (a4 : PySem.W.nsIn K mainGlobals "_law_rng" = some (some (.ref f4))) (l4 : K.lookup f4 = some ⟨oc4, od4, .func (PySem.W.fnOf "_law_rng" "_law_rng" (defArgs s__law_rng) (defBody s__law_rng) (defScope s__law_rng) .none kV4 dc4 pm4 an4 cd4 ct4), sl4⟩) (c4 : PySem.W.codeIn K cd4 "_law_rng" = true) (k4 : PySem.W.keepIn K (.ref f4) = true)
    (a5 : PySem.W.nsIn K mainGlobals "_law_draw" = some (some (.ref f5))) (l5 : K.lookup f5 = some ⟨oc5, od5, .func (PySem.W.fnOf "_law_draw" "_law_draw" (defArgs s__law_draw) (defBody s__law_draw) (defScope s__law_draw) .none kV5 dc5 pm5 an5 cd5 ct5), sl5⟩) (c5 : PySem.W.codeIn K cd5 "_law_draw" = true) (k5 : PySem.W.keepIn K (.ref f5) = true)
    (a6 : PySem.W.nsIn K mainGlobals "_law_choice" = some (some (.ref f6))) (l6 : K.lookup f6 = some ⟨oc6, od6, .func (PySem.W.fnOf "_law_choice" "_law_choice" (defArgs s__law_choice) (defBody s__law_choice) (defScope s__law_choice) .none kV6 dc6 pm6 an6 cd6 ct6), sl6⟩) (c6 : PySem.W.codeIn K cd6 "_law_choice" = true) (k6 : PySem.W.keepIn K (.ref f6) = true)
    (a7 : PySem.W.nsIn K mainGlobals "_law_is_integer" = some (some (.ref f7))) (l7 : K.lookup f7 = some ⟨oc7, od7, .func (PySem.W.fnOf "_law_is_integer" "_law_is_integer" (defArgs s__law_is_integer) (defBody s__law_is_integer) (defScope s__law_is_integer) .none kV7 dc7 pm7 an7 cd7 ct7), sl7⟩) (c7 : PySem.W.codeIn K cd7 "_law_is_integer" = true) (k7 : PySem.W.keepIn K (.ref f7) = true)
    (a8 : PySem.W.nsIn K mainGlobals "_law_power" = some (some (.ref f8))) (l8 : K.lookup f8 = some ⟨oc8, od8, .func (PySem.W.fnOf "_law_power" "_law_power" (defArgs s__law_power) (defBody s__law_power) (defScope s__law_power) .none kV8 dc8 pm8 an8 cd8 ct8), sl8⟩) (c8 : PySem.W.codeIn K cd8 "_law_power" = true) (k8 : PySem.W.keepIn K (.ref f8) = true)
    (a9 : PySem.W.nsIn K mainGlobals "_law_is_bits" = some (some (.ref f9))) (l9 : K.lookup f9 = some ⟨oc9, od9, .func (PySem.W.fnOf "_law_is_bits" "_law_is_bits" (defArgs s__law_is_bits) (defBody s__law_is_bits) (defScope s__law_is_bits) .none kV9 dc9 pm9 an9 cd9 ct9), sl9⟩) (c9 : PySem.W.codeIn K cd9 "_law_is_bits" = true) (k9 : PySem.W.keepIn K (.ref f9) = true)
    (a10 : PySem.W.nsIn K mainGlobals "_law_is_value" = some (some (.ref f10))) (l10 : K.lookup f10 = some ⟨oc10, od10, .func (PySem.W.fnOf "_law_is_value" "_law_is_value" (defArgs s__law_is_value) (defBody s__law_is_value) (defScope s__law_is_value) .none kV10 dc10 pm10 an10 cd10 ct10), sl10⟩) (c10 : PySem.W.codeIn K cd10 "_law_is_value" = true) (k10 : PySem.W.keepIn K (.ref f10) = true)
    (a11 : PySem.W.nsIn K mainGlobals "_law_is_range" = some (some (.ref f11))) (l11 : K.lookup f11 = some ⟨oc11, od11, .func (PySem.W.fnOf "_law_is_range" "_law_is_range" (defArgs s__law_is_range) (defBody s__law_is_range) (defScope s__law_is_range) .none kV11 dc11 pm11 an11 cd11 ct11), sl11⟩) (c11 : PySem.W.codeIn K cd11 "_law_is_range" = true) (k11 : PySem.W.keepIn K (.ref f11) = true)
    (a12 : PySem.W.nsIn K mainGlobals "_law_odd" = some (some (.ref f12))) (l12 : K.lookup f12 = some ⟨oc12, od12, .func (PySem.W.fnOf "_law_odd" "_law_odd" (defArgs s__law_odd) (defBody s__law_odd) (defScope s__law_odd) .none kV12 dc12 pm12 an12 cd12 ct12), sl12⟩) (c12 : PySem.W.codeIn K cd12 "_law_odd" = true) (k12 : PySem.W.keepIn K (.ref f12) = true)
    (a13 : PySem.W.nsIn K mainGlobals "_law_bits" = some (some (.ref f13))) (l13 : K.lookup f13 = some ⟨oc13, od13, .func (PySem.W.fnOf "_law_bits" "_law_bits" (defArgs s__law_bits) (defBody s__law_bits) (defScope s__law_bits) .none kV13 dc13 pm13 an13 cd13 ct13), sl13⟩) (c13 : PySem.W.codeIn K cd13 "_law_bits" = true) (k13 : PySem.W.keepIn K (.ref f13) = true)
    (a14 : PySem.W.nsIn K mainGlobals "_law_thing" = some (some (.ref f14))) (l14 : K.lookup f14 = some ⟨oc14, od14, .func (PySem.W.fnOf "_law_thing" "_law_thing" (defArgs s__law_thing) (defBody s__law_thing) (defScope s__law_thing) .none kV14 dc14 pm14 an14 cd14 ct14), sl14⟩) (c14 : PySem.W.codeIn K cd14 "_law_thing" = true) (k14 : PySem.W.keepIn K (.ref f14) = true)
    (a15 : PySem.W.nsIn K mainGlobals "_law_text" = some (some (.ref f15))) (l15 : K.lookup f15 = some ⟨oc15, od15, .func (PySem.W.fnOf "_law_text" "_law_text" (defArgs s__law_text) (defBody s__law_text) (defScope s__law_text) .none kV15 dc15 pm15 an15 cd15 ct15), sl15⟩) (c15 : PySem.W.codeIn K cd15 "_law_text" = true) (k15 : PySem.W.keepIn K (.ref f15) = true)
    (a16 : PySem.W.nsIn K mainGlobals "_law_right" = some (some (.ref f16))) (l16 : K.lookup f16 = some ⟨oc16, od16, .func (PySem.W.fnOf "_law_right" "_law_right" (defArgs s__law_right) (defBody s__law_right) (defScope s__law_right) .none kV16 dc16 pm16 an16 cd16 ct16), sl16⟩) (c16 : PySem.W.codeIn K cd16 "_law_right" = true) (k16 : PySem.W.keepIn K (.ref f16) = true)
    (a17 : PySem.W.nsIn K mainGlobals "law" = some (some (.ref f17))) (l17 : K.lookup f17 = some ⟨oc17, od17, .func (PySem.W.fnOf "law" "law" (defArgs s_law) (defBody s_law) (defScope s_law) .none kV17 dc17 pm17 an17 cd17 ct17), sl17⟩) (c17 : PySem.W.codeIn K cd17 "law" = true) (k17 : PySem.W.keepIn K (.ref f17) = true)
    (z_abs : PySem.W.nsIn K mainGlobals "abs" = some none)
    (z_bool : PySem.W.nsIn K mainGlobals "bool" = some none)
    (z_divmod : PySem.W.nsIn K mainGlobals "divmod" = some none)
    (z_int : PySem.W.nsIn K mainGlobals "int" = some none)
    (z_isinstance : PySem.W.nsIn K mainGlobals "isinstance" = some none)
    (z_len : PySem.W.nsIn K mainGlobals "len" = some none)
    (z_max : PySem.W.nsIn K mainGlobals "max" = some none)
    (z_min : PySem.W.nsIn K mainGlobals "min" = some none)
    (z_range : PySem.W.nsIn K mainGlobals "range" = some none)
    (z_repr : PySem.W.nsIn K mainGlobals "repr" = some none)
    (z_str : PySem.W.nsIn K mainGlobals "str" = some none)
    (g_MAX_BITS : PySem.W.nsIn K mainGlobals "MAX_BITS" = some (some u_MAX_BITS)) (r_MAX_BITS : RelV (.int 10) u_MAX_BITS)
    : Mo K mg := ⟨⟨_, _, PySem.W.mg_of X G a0, fun_mk (st := s_is_int) l0 c0 k0⟩, ⟨_, _, PySem.W.mg_of X G a1, fun_mk (st := s_is_bits) l1 c1 k1⟩, ⟨_, _, PySem.W.mg_of X G a2, fun_mk (st := s_is_value) l2 c2 k2⟩, ⟨_, _, PySem.W.mg_of X G a3, fun_mk (st := s_is_range) l3 c3 k3⟩, ⟨_, _, PySem.W.mg_of X G a4, fun_mk (st := s__law_rng) l4 c4 k4⟩, ⟨_, _, PySem.W.mg_of X G a5, fun_mk (st := s__law_draw) l5 c5 k5⟩, ⟨_, _, PySem.W.mg_of X G a6, fun_mk (st := s__law_choice) l6 c6 k6⟩, ⟨_, _, PySem.W.mg_of X G a7, fun_mk (st := s__law_is_integer) l7 c7 k7⟩, ⟨_, _, PySem.W.mg_of X G a8, fun_mk (st := s__law_power) l8 c8 k8⟩, ⟨_, _, PySem.W.mg_of X G a9, fun_mk (st := s__law_is_bits) l9 c9 k9⟩, ⟨_, _, PySem.W.mg_of X G a10, fun_mk (st := s__law_is_value) l10 c10 k10⟩, ⟨_, _, PySem.W.mg_of X G a11, fun_mk (st := s__law_is_range) l11 c11 k11⟩, ⟨_, _, PySem.W.mg_of X G a12, fun_mk (st := s__law_odd) l12 c12 k12⟩, ⟨_, _, PySem.W.mg_of X G a13, fun_mk (st := s__law_bits) l13 c13 k13⟩, ⟨_, _, PySem.W.mg_of X G a14, fun_mk (st := s__law_thing) l14 c14 k14⟩, ⟨_, _, PySem.W.mg_of X G a15, fun_mk (st := s__law_text) l15 c15 k15⟩, ⟨_, _, PySem.W.mg_of X G a16, fun_mk (st := s__law_right) l16 c16 k16⟩, ⟨_, _, PySem.W.mg_of X G a17, fun_mk (st := s_law) l17 c17 k17⟩, PySem.W.mg_none_of X G z_abs, PySem.W.mg_none_of X G z_bool, PySem.W.mg_none_of X G z_divmod, PySem.W.mg_none_of X G z_int, PySem.W.mg_none_of X G z_isinstance, PySem.W.mg_none_of X G z_len, PySem.W.mg_none_of X G z_max, PySem.W.mg_none_of X G z_min, PySem.W.mg_none_of X G z_range, PySem.W.mg_none_of X G z_repr, PySem.W.mg_none_of X G z_str, ⟨u_MAX_BITS, PySem.W.mg_of X G g_MAX_BITS, r_MAX_BITS⟩⟩
end
end My
open PySem PySem.W PyProof.Rows
set_option maxRecDepth 100000 in
set_option maxHeartbeats 0 in
theorem PySem.Challenge.cw_coverstore_k11_bits_values_ranges_holds : PySem.Challenge.rw_coverstore_k11_bits_values_ranges.Holds := by
  w_on; o_law; k_head; (case hw => w_witness2)
  k_fill
  refine My.go (l := PySem.Challenge.rw_coverstore_k11_bits_values_ranges) rfl rfl (fun w h Y => PySem.W.kIn_of Y) rfl ?F
  case F =>
    intro w mg h KX G
    refine' My.mo_mk KX G ?a0 ?l0 ?c0 ?k0 ?a1 ?l1 ?c1 ?k1 ?a2 ?l2 ?c2 ?k2 ?a3 ?l3 ?c3 ?k3 ?a4 ?l4 ?c4 ?k4 ?a5 ?l5 ?c5 ?k5 ?a6 ?l6 ?c6 ?k6 ?a7 ?l7 ?c7 ?k7 ?a8 ?l8 ?c8 ?k8 ?a9 ?l9 ?c9 ?k9 ?a10 ?l10 ?c10 ?k10 ?a11 ?l11 ?c11 ?k11 ?a12 ?l12 ?c12 ?k12 ?a13 ?l13 ?c13 ?k13 ?a14 ?l14 ?c14 ?k14 ?a15 ?l15 ?c15 ?k15 ?a16 ?l16 ?c16 ?k16 ?a17 ?l17 ?c17 ?k17 ?z_abs ?z_bool ?z_divmod ?z_int ?z_isinstance ?z_len ?z_max ?z_min ?z_range ?z_repr ?z_str ?g_MAX_BITS ?r_MAX_BITS
    (case a0 => k_is)
    (case l0 => k_is)
    (case c0 => k_is)
    (case k0 => k_is)
    (case a1 => k_is)
    (case l1 => k_is)
    (case c1 => k_is)
    (case k1 => k_is)
    (case a2 => k_is)
    (case l2 => k_is)
    (case c2 => k_is)
    (case k2 => k_is)
    (case a3 => k_is)
    (case l3 => k_is)
    (case c3 => k_is)
    (case k3 => k_is)
    (case a4 => k_is)
    (case l4 => k_is)
    (case c4 => k_is)
    (case k4 => k_is)
    (case a5 => k_is)
    (case l5 => k_is)
    (case c5 => k_is)
    (case k5 => k_is)
    (case a6 => k_is)
    (case l6 => k_is)
    (case c6 => k_is)
    (case k6 => k_is)
    (case a7 => k_is)
    (case l7 => k_is)
    (case c7 => k_is)
    (case k7 => k_is)
    (case a8 => k_is)
    (case l8 => k_is)
    (case c8 => k_is)
    (case k8 => k_is)
    (case a9 => k_is)
    (case l9 => k_is)
    (case c9 => k_is)
    (case k9 => k_is)
    (case a10 => k_is)
    (case l10 => k_is)
    (case c10 => k_is)
    (case k10 => k_is)
    (case a11 => k_is)
    (case l11 => k_is)
    (case c11 => k_is)
    (case k11 => k_is)
    (case a12 => k_is)
    (case l12 => k_is)
    (case c12 => k_is)
    (case k12 => k_is)
    (case a13 => k_is)
    (case l13 => k_is)
    (case c13 => k_is)
    (case k13 => k_is)
    (case a14 => k_is)
    (case l14 => k_is)
    (case c14 => k_is)
    (case k14 => k_is)
    (case a15 => k_is)
    (case l15 => k_is)
    (case c15 => k_is)
    (case k15 => k_is)
    (case a16 => k_is)
    (case l16 => k_is)
    (case c16 => k_is)
    (case k16 => k_is)
    (case a17 => k_is)
    (case l17 => k_is)
    (case c17 => k_is)
    (case k17 => k_is)
    (case z_abs => k_is)
    (case z_bool => k_is)
    (case z_divmod => k_is)
    (case z_int => k_is)
    (case z_isinstance => k_is)
    (case z_len => k_is)
    (case z_max => k_is)
    (case z_min => k_is)
    (case z_range => k_is)
    (case z_repr => k_is)
    (case z_str => k_is)
    (case g_MAX_BITS => k_is)
    (case r_MAX_BITS => exact ⟨_, rfl⟩)
