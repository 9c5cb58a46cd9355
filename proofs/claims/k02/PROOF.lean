import PyProof.Rows.All
import Wide.All
import OpenK.AllK
import Wide.FinOn
import HandS.ForMost
import HandS.ForExc
import HandS.Codes
import HandS.Wide
import HandS.WideBits
import HandS.IsInst
import HandS.Defaults
import KE.KExcSuper
import HandS.ExcInit
import HandS.ExcIs
import HandS.More
import HandS.ExcCtx
import HandS.ExcField
import HandS.HotCalls
import HandS.SlotsOwn
import HandS.MakeKwOnly
import HandS.TryMany
import HandS.Gcd
import HandS.TupLe
import PySem.Challenge.RW_keptbudgets_k02_shares_in_lowest_terms
set_option Elab.async false
set_option linter.all false
set_option maxRecDepth 100000
set_option maxHeartbeats 4000000
namespace KB
open PySem PySem.Spec PyProof.Rows L2

/-! ### heaps -/
theorem same_upd {H : Hp} {p : Addr} {o : HO} (h : H p = none) : Same H (upd H p o) := fun b x e => by
  rw [upd_ne (ne_of_none e h)]
  exact e
theorem same_set {B H : Hp} {p : Addr} {o : HO} (s : Same B H) : Same (upd B p o) (upd H p o) := fun b x e => by
  by_cases hb : b = p
  · subst hb
    rw [upd_same] at e ⊢
    exact e
  · rw [upd_ne hb] at e ⊢
    exact s b x e
theorem same_out {B H : Hp} {p : Addr} {o : HO} (s : Same B H) (h : B p = none) : Same B (upd H p o) := fun b x e => by
  rw [upd_ne (ne_of_none e h)]
  exact s b x e
theorem sz (n : Nat) (h : n ≤ 16777216 := by decide) : n ≤ sizeLine := by
  rw [sizeLine_eq]
  exact h
theorem szl {n : Nat} (h : n < 16777216) : n < sizeLine := by
  rw [sizeLine_eq]
  exact h
theorem szle {n : Nat} (h : n ≤ 16777216) : n ≤ sizeLine := by
  rw [sizeLine_eq]
  exact h

/-! ### the tape: B is all that stands beside it -/
structure Tp (B H : Hp) (t : Addr) (c : Nat) : Prop where
  same : Same B H
  bt : B t = none
  ex : ∃ (g : Addr) (gs : List Int) (sd ct : Int), B g = none ∧ t ≠ g ∧ H t = some (.lst [.ref g, .int sd, .int ct]) ∧ H g = some (.lst (gs.map V.int)) ∧
    gs.length ≤ 63 ∧ 0 ≤ sd ∧ sd < 2147483647 ∧ 0 ≤ ct ∧ ct ≤ (c : Int)
theorem Tp.le {B H : Hp} {t : Addr} {c d : Nat} (T : Tp B H t c) (h : c ≤ d) : Tp B H t d := by
  obtain ⟨s, b, g, gs, sd, ct, h1, h2, h3, h4, h5, h6, h7, h8, h9⟩ := T
  exact ⟨s, b, g, gs, sd, ct, h1, h2, h3, h4, h5, h6, h7, h8, by omega⟩
theorem Tp.new {B H : Hp} {t p : Addr} {c : Nat} {o : HO} (T : Tp B H t c) (h : H p = none) : Tp (upd B p o) (upd H p o) t c := by
  obtain ⟨s, b, g, gs, sd, ct, h1, h2, h3, h4, h5⟩ := T
  have e1 : t ≠ p := ne_of_none h3 h
  have e2 : g ≠ p := ne_of_none h4 h
  exact ⟨same_set s, by rw [upd_ne e1]; exact b, g, gs, sd, ct, by rw [upd_ne e2]; exact h1, h2, by rw [upd_ne e1]; exact h3, by rw [upd_ne e2]; exact h4, h5⟩
theorem Tp.set {B H : Hp} {t p : Addr} {c : Nat} {o o' : HO} (T : Tp B H t c) (h : B p = some o) : Tp (upd B p o') (upd H p o') t c := by
  obtain ⟨s, b, g, gs, sd, ct, h1, h2, h3, h4, h5⟩ := T
  have e1 : t ≠ p := fun z => by rw [z, h] at b; cases b
  have e2 : g ≠ p := fun z => by rw [z, h] at h1; cases h1
  exact ⟨same_set s, by rw [upd_ne e1]; exact b, g, gs, sd, ct, by rw [upd_ne e2]; exact h1, h2, by rw [upd_ne e1]; exact h3, by rw [upd_ne e2]; exact h4, h5⟩
theorem Tp.free {B H : Hp} {t p : Addr} {c : Nat} (T : Tp B H t c) (h : H p = none) : B p = none := T.same.free h
theorem Tp.at {B H : Hp} {t p : Addr} {c : Nat} {o : HO} (T : Tp B H t c) (h : B p = some o) : H p = some o := T.same _ _ h
theorem Tp.inst {B H : Hp} {t x dx C : Addr} {c : Nat} {fs : List (Str × V)} (T : Tp B H t c) (hx : H x = none) (hd : H dx = none) (ne : dx ≠ x) : Tp (upd (upd B dx (.own x)) x (.ins C dx fs)) (upd (upd H dx (.own x)) x (.ins C dx fs)) t c :=
  (T.new hd).new (by rw [upd_ne ne.symm]; exact hx)
theorem Tp.ext {B H H' : Hp} {t : Addr} {c : Nat} (T : Tp B H t c) (s : Same H H') : Tp B H' t c := by
  obtain ⟨sm, b, g, gs, sd, ct, h1, h2, h3, h4, h5⟩ := T
  exact ⟨sm.trans s, b, g, gs, sd, ct, h1, h2, s _ _ h3, s _ _ h4, h5⟩
theorem Tp.ext1 {B H H' : Hp} {t p : Addr} {c : Nat} {o : HO} (T : Tp B H t c) (s : Same H H') (hp : H p = none) (ho : H' p = some o) : Tp (upd B p o) H' t c := by
  obtain ⟨sm, b, g, gs, sd, ct, h1, h2, h3, h4, h5⟩ := T
  have e1 : t ≠ p := ne_of_none h3 hp
  have e2 : g ≠ p := ne_of_none h4 hp
  refine ⟨fun b x e => ?_, by rw [upd_ne e1]; exact b, g, gs, sd, ct, by rw [upd_ne e2]; exact h1, h2, s _ _ h3, s _ _ h4, h5⟩
  by_cases hb : b = p
  · subst hb
    rw [upd_same] at e
    rw [ho]
    exact e
  · rw [upd_ne hb] at e
    exact s _ _ (sm _ _ e)
theorem Tp.isn {B H : Hp} {t p : Addr} {c : Nat} (T : Tp B H t c) (h : H p = none) : B p = none := T.same.free h
theorem same_ins {B : Hp} {x dx C : Addr} {fs : List (Str × V)} (hx : B x = none) (hd : B dx = none) (ne : dx ≠ x) : Same B (upd (upd B dx (.own x)) x (.ins C dx fs)) :=
  (same_upd hd).trans (same_upd (by rw [upd_ne ne.symm]; exact hx))
/-- a draw's number is a natural one -/
theorem nat_of {n : Int} (h : 0 ≤ n) : ∃ k : Nat, n = (k : Int) := ⟨n.toNat, by omega⟩
end KB

namespace KB
open PySem PySem.Spec PyProof.Rows L2
section
variable {P : Program} {w : World} {K : PySem.W.Frag} {mg : Str → Option Value} {base : Heap}
/-- a def of the module that raises nothing, to be called by its name -/
structure Cal (P : Program) (w : World) (K : PySem.W.Frag) (mg : Str → Option Value) (base : Heap) (k : Nat) (x : Str) (sp : Sp) : Prop where
  ex : ∃ (f : Addr) (fd : FuncData) (ps : List Str), FnOk P w K mg base CX0 k f fd ps sp ∧ mg x = some (.ref f) ∧ PySem.W.keepIn K (.ref f) = true ∧ Binds K fd ps []
/-- .. called by keywords alone -/
structure CalK (P : Program) (w : World) (K : PySem.W.Frag) (mg : Str → Option Value) (base : Heap) (k : Nat) (x : Str) (n : Nat) (ks : List Str) (gV : List V → List V → List V) (sp : Sp) : Prop where
  ex : ∃ (f : Addr) (fd : FuncData) (ps : List Str) (g : List Value → List Value → List Value), FnOk P w K mg base CX0 k f fd ps sp ∧ mg x = some (.ref f) ∧ PySem.W.keepIn K (.ref f) = true ∧ KBn K fd ps n ks g gV
/-- a method of the class at C -/
structure Met (P : Program) (w : World) (K : PySem.W.Frag) (mg : Str → Option Value) (base : Heap) (k : Nat) (C : Addr) (m : Str) (sp : Sp) : Prop where
  ex : ∃ (f : Addr) (fd : FuncData) (ps : List Str), Cls K C ∧ Meth K C m f ∧ FnOk P w K mg base CX0 k f fd ps sp ∧ Binds K fd ps []
theorem L2Fun_kbn {x qual : Str} {st : Stmt} {f : Addr} {fd : FuncData} {ps ks : List Str} {n : Nat} {g : List Value → List Value → List Value} {gV : List V → List V → List V} (F : Fun K x qual st f fd)
    (h : ∀ (kV doc pm : Value) (an : Option Addr) (cdv ct : Value) (us ws : List Value), us.length = n → ws.length = ks.length → bindArgs (PySem.W.fnOf x qual (defArgs st) (defBody st) (defScope st) .none kV doc pm an cdv ct) ⟨us, ks.zip ws⟩ = pure (ps.zip (g us ws)))
    (hrel : ∀ {vs : List V} {us : List Value} {zs : List V} {ws : List Value}, Vals vs us → Vals zs ws → Vals (gV vs zs) (g us ws)) : KBn K fd ps n ks g gV := by
  obtain ⟨oc, od, kV, doc, pm, an, cdv, ct, osl, rfl, lk, hcd⟩ := F.ex
  exact ⟨fun s us ws _ l1 l2 => .of_eq (h kV doc pm an cdv ct us ws l1 l2), fun r1 r2 => hrel r1 r2⟩
end
theorem vals_rev : ∀ {vs : List V} {us : List Value}, Vals vs us → Vals vs.reverse us.reverse
  | _, _, .nil => .nil
  | _, _, .cons r t => by
    rw [List.reverse_cons, List.reverse_cons]
    exact (vals_rev t).append (.cons r .nil)
section
variable {X : Cx} {k j n : Nat} {C : Addr} {x m : Str} {sp : Sp} {p pos apos : Pos} {e o : Expr} {es : List Expr} {kws : List Keyword} {ta : TE} {t tk : TA} {ks : List Str} {gV : List V → List V → List V}
theorem pe_c (c : Cal X.prog X.w X.K X.mg X.base k x sp) (hr : Room j X.A) (hk : k ≤ j) (hg : Gl X x) (ha : PA X (e :: es) t)
    (hdb : (x == ("__debug__" : Str)) = false := by decide) (he : starEach (e :: es) X.env = (false, eval e X.env) :: starEach es X.env := by rfl) (hpl : (backTo pos (starEach es X.env)).any (·.1) = false := by rfl) :
    PE X (.Call (.Name x p) (e :: es) [] pos) (tCall sp [] E0 t) := by
  obtain ⟨f, fd, ps, F, hm, kp, b⟩ := c.ex
  exact pe_call F (hr.mono hk) hg hm kp b .nil pass0 ha hdb he hpl
theorem pe_c0 (c : Cal X.prog X.w X.K X.mg X.base k x sp) (hr : Room j X.A) (hk : k ≤ j) (hg : Gl X x)
    (hdb : (x == ("__debug__" : Str)) = false := by decide) :
    PE X (.Call (.Name x p) [] [] pos) (tCall sp [] E0 tNil) := by
  obtain ⟨f, fd, ps, F, hm, kp, b⟩ := c.ex
  exact pe_call0 F (hr.mono hk) hg hm kp b .nil pass0 hdb
theorem pe_mt {pl : Sem Bool} (c : Met X.prog X.w X.K X.mg X.base k C m sp) (hr : Room j X.A) (hk : k ≤ j) (he : PE X o ta) (ha : PA X (e :: es) t)
    (hst : starEach (e :: es) X.env = (false, eval e X.env) :: starEach es X.env := by rfl) (hpl : (backTo pos (starEach es X.env)).any (·.1) = false := by rfl)
    (ht : eval (.Call (.Attribute o m apos) (e :: es) [] pos) X.env = (do
      let ov ← eval o X.env
      standAt apos.atName
      let (f, first) ← holding [ov] (getMethod ov m pl)
      callWith pos f first (backTo pos (starEach (e :: es) X.env)) (backToKw pos (keywordEach [] X.env))) := by rfl) :
    PE X (.Call (.Attribute o m apos) (e :: es) [] pos) (tMeth C m sp [] E0 ta t) := by
  obtain ⟨f, fd, ps, hc, hm, F, b⟩ := c.ex
  exact pe_meth (pl := pl) he hc hm F (hr.mono hk) b .nil pass0 ha hst hpl ht
theorem pe_mt0 {pl : Sem Bool} (c : Met X.prog X.w X.K X.mg X.base k C m sp) (hr : Room j X.A) (hk : k ≤ j) (he : PE X o ta)
    (ht : eval (.Call (.Attribute o m apos) [] [] pos) X.env = (do
      let ov ← eval o X.env
      standAt apos.atName
      let (f, first) ← holding [ov] (getMethod ov m pl)
      callWith pos f first (backTo pos (starEach [] X.env)) (backToKw pos (keywordEach [] X.env))) := by rfl) :
    PE X (.Call (.Attribute o m apos) [] [] pos) (tMeth C m sp [] E0 ta tNil) := by
  obtain ⟨f, fd, ps, hc, hm, F, b⟩ := c.ex
  exact pe_meth0 (pl := pl) he hc hm F (hr.mono hk) b .nil pass0 ht
/-- f(k = v, ..) -/
def tCallK0 (m : Nat) (sp : Sp) (gV : List V → List V → List V) (E : XK) (tk : TA) : TE := fun σ H Q => tk σ H fun zs H2 => zs.length = m ∧ sp (gV [] zs) H2 Q E
theorem pe_cK0 (c : CalK X.prog X.w X.K X.mg X.base k x 0 ks gV sp) (hr : Room j X.A) (hk : k ≤ j) (hg : Gl X x) (hkw : PK X kws tk)
    (hall : (backToKw pos (keywordEach kws X.env)).all (·.1.isSome) = true := by rfl) (hks : (backToKw pos (keywordEach kws X.env)).filterMap (·.1) = ks := by rfl) (hdb : (x == ("__debug__" : Str)) = false := by decide)
    (hpl : ((backTo pos (starEach [] X.env)).any (·.1) || (backToKw pos (keywordEach kws X.env)).any (·.1.isNone)) = false := by rfl) :
    PE X (.Call (.Name x p) [] kws pos) (tCallK0 ks.length sp gV E0 tk) := by
  obtain ⟨f, fd, ps, g, F, hm, kp, hb⟩ := c.ex
  refine ⟨fun pins s σ H Q I h => ?_⟩
  refine wpAny_Call_Name_kw (ld_glob I hg hm ?_ hdb)
  refine PySem.W.callWith_KW0 (h₀ := X.base) I.ok.mod.kin kp hall ?_ hpl
  refine thn (hkw.run pos pins s σ H _ I h) fun ws s2 ⟨zs, H2, I2, rz, l2, q2⟩ => ⟨I2.kIn, ?_⟩
  rw [hks]
  have r2 : Vals (gV [] zs) (g [] ws) := hb.rel (vs := []) (us := []) .nil rz
  refine wpAny_call (codeAny_mono (F.run X.A X.stack s2 H2 ⟨[], ks.zip ws⟩ (g [] ws) (gV [] zs) Q E0 (hr.mono hk) I2.env0 (hb.to s2 [] ws I2.kIn rfl (rz.length.symm.trans l2)) r2 q2) fun r s' hq => ?_)
  cases r with
  | error e => exact pass0 pins σ H2 s2 e s' I2 hq
  | ok fl =>
    cases fl with
    | ret u => exact I2.after hq
    | next => exact False.elim hq
    | brk => exact False.elim hq
    | cont => exact False.elim hq
/-- C() of a class that has no __init__ of its own -/
structure Mk0 (K : PySem.W.Frag) (C : Addr) : Prop where
  makes : PySem.W.makesIn K C = true
  init : PySem.W.findIn K (.ref C) "__init__" = some (some (.builtin "object.__init__"))
  kp : PySem.W.keepIn K (.ref C) = true
  top : PySem.W.mroIn K C (.type "object") = some true
def tNew0 (C : Addr) : TE := fun _ H Q => ∀ x dx, H x = none → H dx = none → dx ≠ x → Q (.ref x) (upd (upd H dx (.own x)) x (.ins C dx []))
theorem pe_new0 (M : Mk0 X.K C) (hg : Gl X x) (hm : X.mg x = some (.ref C)) (hdb : (x == ("__debug__" : Str)) = false := by decide) : PE X (.Call (.Name x p) [] [] pos) (tNew0 C) := by
  refine ⟨fun pins s σ H Q I h => ?_⟩
  refine wpAny_Call_Name_kw (ld_glob I hg hm ?_ hdb)
  refine PySem.W.callWith_K0 I.kIn M.kp ?_
  have hq := h (s.heap.objs.size + 1) s.heap.objs.size (I.hok.fresh (Nat.le_succ _)) (I.hok.fresh (Nat.le_refl _)) (Nat.ne_of_lt (Nat.lt_succ_self _))
  have I2 := Inv.made (C := C) I
  have hx : ((s.heap.push PySem.W.emptyDict).push (PySem.W.instObj C s.heap.objs.size)).get? (s.heap.objs.size + 1) = some (PySem.W.instObj C s.heap.objs.size) := by
    have := Heap.get?_push_size (s.heap.push PySem.W.emptyDict) (o := PySem.W.instObj C s.heap.objs.size) rfl
    rwa [Heap.size_push] at this
  have t1 : PySem.W.Looks (model X.prog X.w) ((s.heap.push PySem.W.emptyDict).push (PySem.W.instObj C s.heap.objs.size)) (typeOf (.ref (s.heap.objs.size + 1))) (.ref C) := (PySem.W.Looks.ld hx).andThen .now
  have t2 : PySem.W.Looks (model X.prog X.w) ((s.heap.push PySem.W.emptyDict).push (PySem.W.instObj C s.heap.objs.size)) (isInstance (.ref (s.heap.objs.size + 1)) (.type "object")) true := t1.andThen (PySem.W.looks_mroIn I2.kIn M.top)
  refine wpAny_call (make_map0 I.kIn M.makes M.init (fun self => PySem.W.Looks.of_pure (PySem.W.oi_bind self)) ?_)
  refine codeAny_call_builtin PySem.W.oi_plain PySem.W.entry_oi (@PySem.W.check_slot (model X.prog X.w) _ _ _ "object.__init__" "object" "__init__" (.ref (s.heap.objs.size + 1)) [] [] _ PySem.W.oi_kind PySem.W.oi_split t2 (PySem.W.oi_args _) ?_)
  rw [PySem.W.oi_run]
  exact wpAny_pure (And.intro rfl ⟨V.ref (s.heap.objs.size + 1), _, I2, rfl, hq⟩)
end
end KB

/-! own errors: super().__init__('..'), then one or two fields -/
namespace KB
open PySem PySem.W PySem.Calls PyProof.Rows PySem.HandSPX
def xSup (msg : Str) (j : Nat) (p0 p1 p2 p3 p4 p5 : Pos) : Stmt := .Expr (.Call (.Attribute (.Call (.Name "super" p0) [] [] p1) "__init__" p2) [.Constant (.str msg) j p3] [] p4) p5
def xSet (f : Str) (q1 q2 q3 q4 : Pos) : Stmt := .Assign [.Attribute (.Name "self" q1) f q2] (.Name f q3) q4
def xArg (x : Str) (p : Pos) : Arg := { arg := x, annotation := none, pos := p }
def xArgs (l : List Arg) : Arguments := { posonlyargs := [], args := l, vararg := none, kwonlyargs := [], kw_defaults := [], kwarg := none, defaults := [] }
/-- what the written part says of the class at C, of its __init__ at fI, whose class cell is at cc -/
structure XCls (P : Program) (K : Frag) (mg : Str → Option Value) (x qual : Str) (C fI : Addr) (st : Stmt) : Prop where
  gC : mg x = some (.ref C)
  cls : ∃ nm q N bs bm sn sub ab col dd k0 k1 k2 k3 k5, K.lookup C = some (excClassObj nm q C N bs bm true sn sub ab col dd k0 k1 k2 k3 k5 "ValueError.__new__") ∧ refsVE bm = true
  sa : findIn K (.ref C) "__setattr__" = some (some (.builtin "object.__setattr__"))
  ga : findIn K (.ref C) "__getattribute__" = some (some (.builtin "BaseException.__getattribute__"))
  gg : findIn K (.ref C) "__getattr__" = some none
  iC : findIn K (.ref C) "__init__" = some (some (.ref fI))
  tC : typeIn K (.ref fI) = some (.type "function")
  kC : keepIn K (.ref C) = true
  exC : subIn K (.ref C) (.type "BaseException") = some true
  veC : subIn K (.ref C) (.type "ValueError") = some true
  self : mroIn K C (.ref C) = some true
  tyC : typeIn K (.ref C) = some (.type "type")
  hdC : hasDictIn K C = true
  te : exmOne K (.ref C) (.ref C) = some true
  up : ks_superIn K C C "__init__" = some (some (.builtin "ValueError.__init__"))
  sup : mg "super" = none
  opq : nsIn K cStatics "thirdparty.any" = some none
  top : (P.main.scope.names.lookup ("super" : Str)).isSome = false
  fn : ∃ (oc : Value) (od : Option Addr) (doc pm : Value) (an : Option Addr) (ct : Value) (osl : Array (Option Value)) (cda cc : Addr) (ccl cl : Value) (cdd cld : Option Addr) (ccs csl : Array (Option Value)) (vs : Array Value) (file : Str) (tf : Tok),
    K.lookup fI = some ⟨oc, od, .func (ksFn "__init__" qual (L2.defArgs st) (L2.defBody st) (L2.defScope st) .none .none doc pm an (.ref cda) ct cc), osl⟩ ∧ codeIn K (.ref cda) qual = true ∧
    K.lookup cda = some ⟨ccl, cdd, .fields vs, ccs⟩ ∧ vs[2]? = some (.str file tf) ∧ ((P.main.file : Str) == file) = true ∧ K.lookup cc = some ⟨cl, cld, .cell (some (.ref C)), csl⟩
/-- the scope of such an __init__ with these fields -/
structure XScope (sc : Scope) (fs : List Str) : Prop where
  kind : sc.kind = .function
  co : sc.isCoroutine = false
  gen : sc.isGenerator = false
  nocell : ∀ x ∈ sc.names, x.2 ≠ .cell
  self : sc.names.lookup ("self" : Str) = some NameKind.local
  fld : ∀ f ∈ fs, sc.names.lookup f = some NameKind.local
  cls : sc.names.lookup ("__class__" : Str) = some NameKind.free
  sup : sc.names.lookup ("super" : Str) = some NameKind.globalImplicit

section
variable {prog : Program} {w : World} {A : Around} {E : Value → Shared → Prop} {h : Heap} {g : Array GenState} {d : Drawn} {t : Nat} {os : OsState} {K : Frag} {mg : Str → Option Value}
/-- a call of a method of super(), its words in one line -/
theorem x_call {env : Env} {msg nm : Str} {j : Nat} {p0 p1 p2 p3 p4 : Pos} (hl : (p2.endLine == p4.line) = true) :
    eval (.Call (.Attribute (.Call (.Name "super" p0) [] [] p1) nm p2) [.Constant (.str msg) j p3] [] p4) env = (do
      let ov ← attributeBase (.Call (.Name "super" p0) [] [] p1) nm env (eval (.Call (.Name "super" p0) [] [] p1) env)
      standAt p2.atName
      let (f, first) ← holding [ov] (getMethod ov nm (do return (← importBound (.Call (.Name "super" p0) [] [] p1) env).getD true))
      callWith p4 f first (backTo p4 (starEach [.Constant (.str msg) j p3] env)) []) := by
  have e : methodCallPos true (.Call (.Name "super" p0) [] [] p1) env p2 p4 = pure p4 := by
    unfold methodCallPos
    rw [hl]
    rfl
  have e2 : methodCallForm ([Expr.Constant (.str msg) j p3].length + 0) (backTo p4 (starEach [.Constant (.str msg) j p3] env)) [] = true := rfl
  show (attributeBase _ _ _ _ >>= fun ov => standAt _ >>= fun _ => methodCall _ _ _ _ _ ov _ _ _) = _
  unfold methodCall
  show (attributeBase _ _ _ _ >>= fun ov => standAt _ >>= fun _ => holding [ov] (calleeOf (methodCallForm ([Expr.Constant (.str msg) j p3].length + 0) (backTo p4 (starEach [.Constant (.str msg) j p3] env)) []) _ _ ov _) >>= fun z =>
    methodCallPos (methodCallForm ([Expr.Constant (.str msg) j p3].length + 0) (backTo p4 (starEach [.Constant (.str msg) j p3] env)) []) _ _ _ _ >>= fun cp => callWith cp z.1 z.2 _ _) = _
  rw [e2, e]
  rfl
/-- super().__init__('..') as the first statement -/
theorem x_super {x C fI t0 L cc cda : Addr} {qual nm2 : Str} {fs : List Str} {mL : Str → Option Value} {st : Stmt} {sc : Scope} {body rest : List Stmt} {fd : FuncData} {ar : Arg} {vs : Array Value} {file : Str} {tf : Tok} {oc ccl cl : Value} {od cdd cld : Option Addr} {osl ccs csl : Array (Option Value)}
    {msg : Str} {j : Nat} {p0 p1 p2 p3 p4 p5 : Pos} {Q : Flow → Shared → Prop} (T : XCls prog K mg nm2 qual C fI st) (S : XScope sc fs) (X : K.In h) (hg : h.Ns mainGlobals mg) (hb : ∃ mb, h.Ns builtinsNs mb ∧ ∀ x : Str, x ≠ "__name__" → mb x = bootBuiltins x)
    (hns : h.Ns L mL) (hL : mL ar.arg = some (.ref x)) (hlo : sc.names.lookup ar.arg = some .local)
    (hl : (p2.endLine == p4.line) = true) (hx : h.get? x = some (excO C t0)) (hf : K.lookup fI = some ⟨oc, od, .func fd, osl⟩) (hp : (fd.params.posonlyargs ++ fd.params.args).head? = some ar)
    (hcode : K.lookup cda = some ⟨ccl, cdd, .fields vs, ccs⟩) (hvs : vs[2]? = some (.str file tf)) (hfile : ((prog.main.file : Str) == file) = true) (hcell : K.lookup cc = some ⟨cl, cld, .cell (some (.ref C)), csl⟩)
    (hq : ∀ h' t' t1, (∀ b o, b ≠ x → h.get? b = some o → h'.get? b = some o) → h'.get? x = some (excO C t1) → wpAny (model prog w) A (execs rest (ksEnv qual sc L fI (.ref cda) cc)) Q E ⟨h', g, d, t', os⟩) :
    _root_.PySem.wpAt (model prog w) A (.func body (ksEnv qual sc L fI (.ref cda) cc)) (execs (xSup msg j p0 p1 p2 p3 p4 p5 :: rest) (ksEnv qual sc L fI (.ref cda) cc)) Q E ⟨h, g, d, t, os⟩ := by
  obtain ⟨kind, nms, ig, ic, mo⟩ := sc
  have ek : kind = .function := S.kind
  subst ek
  obtain ⟨nm, q, N, bs, bm, sn, sub, ab, col, dd, k0, k1, k2, k3, k5, hC, hbm⟩ := T.cls
  obtain ⟨mb, hb1, hb2⟩ := hb
  have hcl : clsIn K C = some { name := nm, bases := bs, mro := .ref C :: bm, ns := N, qualname := q, hasDict := true, slotNames := sn, subclasses := sub, abstract := ab, collection := col, hasDel := false } := by unfold clsIn; rw [hC] <;> rfl
  have hCh := X _ _ hC
  refine ks_wpAt_execs_cons (ks_wpAt_Expr_any (ks_wpAt_MethodCall ?_ (x_call hl)) (by rfl) (by rfl))
  refine ks_wpAt_super_base (env := ksEnv qual { kind := .function, names := nms, isGenerator := ig, isCoroutine := ic, more := mo } L fI (.ref cda) cc) S.sup S.cls (by decide) rfl (X _ _ hf) rfl hp rfl (X _ _ hcode) rfl hvs hfile T.top ?_
  refine ks_loadName_global S.kind S.sup (loadGlobal_builtin (env := ksEnv qual { kind := .function, names := nms, isGenerator := ig, isCoroutine := ic, more := mo } L fI (.ref cda) cc) hg T.sup hb1 ((hb2 _ (by decide)).trans (by decide +kernel)) ⟨rfl, ?_⟩)
  refine wpAny_loadName_free S.kind S.cls rfl ⟨_, X _ _ hcell, rfl⟩ ?_
  refine wpAny_loadName_local S.kind hlo hns hL ?_
  refine ks_wpAny_isType_cls hCh rfl ⟨rfl, ?_⟩
  refine ks_wpAny_call_super hCh rfl hx rfl (fun c e => by cases e) (looks_mroIn X T.self) (fun h1 e1 kk1 => ?_)
  have X1 : K.In h1 := X.keeps kk1
  have hx1 := kk1 _ _ hx
  have hxC : x ≠ C := fun e => by rw [e, hCh] at hx; cases hx
  have I1 : InstAt h1 x (excO C t0) C none := ⟨hx1, rfl, rfl, trivial⟩
  have up := T.up
  unfold ks_superIn at up
  rw [hcl] at up
  refine kxs_getMethod kxs_ValueError e1 (looks_opaque X1 T.opq) (l₀ := .ref C :: bm) (fun A Q E s k q => wpAny_bind ((looks_clsIn X1 hcl) A _ E s k (wpAny_pure q))) rfl X1 up (I1.type.andThen (looks_subIn X1 T.veC)) hxC (by decide) ?_
  have hu : (h1.push (kxs_mw "ValueError.__init__" x)).get? h1.objs.size = some (kxs_mw "ValueError.__init__" x) := Heap.get?_push_at rfl rfl
  have kk2 : ∀ b o, h1.get? b = some o → (h1.push (kxs_mw "ValueError.__init__" x)).get? b = some o := fun b o e => Heap.get?_push_of_some _ e
  refine kxs_callWith (i := "ValueError.__init__") (x := x) (by rfl) ?_
  refine L2.FK.evalArgs_any (by rfl) (spliced_more (e := .Constant (.str msg) j p3) (rest := []) ?_ (by rfl))
  refine Calls.Constant_str ?_
  refine spliced_none ⟨hu, ?_⟩
  refine wpAny_call (codeAny_of_tree ?_)
  show wpAny _ A.in1 (callAny (.ref h1.objs.size) ⟨_, []⟩) _ _ _
  simp only [callAny]
  refine wpAny_bind (wpAny_load hu ?_)
  simp only [kxs_mw, show (Value.type "method-wrapper" == Value.type "method" || Value.type "method-wrapper" == Value.type "builtin_function_or_method" || Value.type "method-wrapper" == Value.type "method-wrapper") = true by decide, if_true]
  refine KFB.if_so (by decide) ?_
  refine wpAny_bind (check_bound_init F.excBase_ValueError.toExcCallFacts (kk2 _ _ (kk1 _ _ hCh)) (kk2 _ _ hx1) rfl ?_)
  refine wpAny_bind (wpAny_pure (wpAny_pure ?_))
  refine ⟨plainId_quiet F.excBase_ValueError.init.plain _, codeAny_builtin F.excBase_ValueError.initEntry ?_⟩
  refine exc_init_tree (cls := .ref C) (t0 := t0) (dv := none) (c2 := .none) (c3 := .none) (b4 := .bool false) (kk2 _ _ hx1) (by show 1 ≤ sizeLine; rw [sizeLine_eq]; decide) (fun h' kk3 e3 _ => ?_)
  exact wpAt_of_wpAny (hq _ _ _ (fun b o hb e => kk3 b o hb (kk2 _ _ (kk1 _ _ e))) e3)

theorem x_ld {M : Model} {s : Shared} {qual : Str} {sc : Scope} {L a cc : Addr} {cd : Value} {m : Str → Option Value} {x : Str} {pos : Pos} {v : Value} {Q : Value → Shared → Prop} (hn : s.heap.Ns L m) (hv : m x = some v) (h : Q v s)
    (hk : sc.kind = .function) (hl : sc.names.lookup x = some .local) (hd : (x == ("__debug__" : Str)) = false) :
    wpAny M A (eval (.Name x pos) (ksEnv qual sc L a cd cc)) Q E s := wpAny_Name (wpAny_loadName_local hk hl hn hv h) hd
/-- what the made exception's __init__ leaves -/
structure XEnd (h h' : Heap) (x C dx : Addr) (m : Str → Option Value) : Prop where
  keep : ∀ b o, b ≠ x → h.get? b = some o → h'.get? b = some o
  obj : ∃ t1, h'.get? x = some { cls := .ref C, dict := some dx, data := .fields #[.ref t1, .none, .none, .none, .bool false, .none] }
  dbig : h.objs.size ≤ dx
  dne : dx ≠ x
  ns : h'.Ns1 dx m
structure XBody (st : Stmt) (fs : List Str) : Prop where
  ex : ∃ (msg : Str) (j : Nat) (p0 p1 p2 p3 p4 p5 : Pos) (sets : List Stmt), (p2.endLine == p4.line) = true ∧ L2.defBody st = xSup msg j p0 p1 p2 p3 p4 p5 :: sets ∧
    ((∃ f q1 q2 q3 q4, fs = [f] ∧ sets = [xSet f q1 q2 q3 q4]) ∨ ∃ f f2 q1 q2 q3 q4 r1 r2 r3 r4, fs = [f, f2] ∧ sets = [xSet f q1 q2 q3 q4, xSet f2 r1 r2 r3 r4])
  head : ∃ ar, ((L2.defArgs st).posonlyargs ++ (L2.defArgs st).args).head? = some ar ∧ ar.arg = "self"
  bind : ∀ (qual : Str) (doc pm : Value) (an : Option Addr) (cd ct : Value) (cc : Addr) (u : Value) (us : List Value), us.length = fs.length →
    bindArgs (ksFn "__init__" qual (L2.defArgs st) (L2.defBody st) (L2.defScope st) .none .none doc pm an cd ct cc) ⟨u :: us, []⟩ = pure ((("self" : Str), u) :: fs.zip us)
  sc : XScope (L2.defScope st) fs
  dbg : ∀ f ∈ fs, (f == ("__debug__" : Str)) = false
  nd : (("self" : Str) :: fs).Nodup
def mOf (l : List (Str × Value)) : Str → Option Value := fun y => l.lookup y

theorem x_set {s : Shared} {x C fI L cc : Addr} {cda : Value} {qual nm2 f : Str} {fs : List Str} {mL : Str → Option Value} {st : Stmt} {sc : Scope} {v : Value} {ox : Obj} {od : Option Obj} {q1 q2 q3 q4 : Pos} {Q : Flow → Shared → Prop}
    (T : XCls prog K mg nm2 qual C fI st) (S : XScope sc fs) (X : K.In s.heap) (hns : s.heap.Ns L mL) (hself : mL "self" = some (.ref x)) (hf : f ∈ fs) (hv : mL f = some v) (hd : (f == ("__debug__" : Str)) = false) (J : InstAt s.heap x ox C od)
    (h : codeAny (model prog w) A (.call (.builtin "object.__setattr__") ⟨[.ref x, .str f s.toks, v], []⟩) (fun r s' => match r with | .ok (.ret _) => Q .next s' | .ok _ => False | .error e => E e s') { s with toks := s.toks + 1 }) :
    wpAny (model prog w) A (exec (xSet f q1 q2 q3 q4) (ksEnv qual sc L fI cda cc)) Q E s := by
  refine plainObj_wpAny_Assign_Attribute ?_ (by rfl)
  refine x_ld hns hv ?_ S.kind (S.fld f hf) hd
  refine x_ld hns hself ?_ S.kind S.self (by decide)
  exact set_plain X J T.sa h
theorem x_init1 {s : Shared} {x C fI t0 : Addr} {qual nm2 f : Str} {st : Stmt} {v : Value} {R : Result → Shared → Prop} (T : XCls prog K mg nm2 qual C fI st) (B : XBody st [f]) (noF : findIn K (.ref C) f = some none)
    (X : K.In s.heap) (hg : s.heap.Ns mainGlobals mg) (hb : ∃ mb, s.heap.Ns builtinsNs mb ∧ ∀ x : Str, x ≠ "__name__" → mb x = bootBuiltins x) (hlim : s.heap.NoLimit) (hx : s.heap.get? x = some (excO C t0)) (hnx : K.lookup x = none) (hgx : x ≠ mainGlobals) (hbx : x ≠ builtinsNs) (hroom : A.depth < recursionLimit)
    (hq : ∀ h' tk dx, XEnd s.heap h' x C dx (fun y => if y = f then some v else none) → R (.ok (.ret .none)) { s with heap := h', toks := tk }) :
    codeAny (model prog w) A (.call (.ref fI) ⟨[.ref x, v], []⟩) R s := by
  obtain ⟨oc, od, doc, pm, an, ct, osl, cda, cc, ccl, cl, cdd, cld, ccs, csl, vs, file, tf, ho, hcd, hcode, hvs, hfile, hcell⟩ := T.fn
  obtain ⟨nm, q, N, bs, bm, sn, sub, ab, col, dd, k0, k1, k2, k3, k5, hC, hbm⟩ := T.cls
  have hcl : clsIn K C = some { name := nm, bases := bs, mro := .ref C :: bm, ns := N, qualname := q, hasDict := true, slotNames := sn, subclasses := sub, abstract := ab, collection := col, hasDel := false } := by unfold clsIn; rw [hC] <;> rfl
  obtain ⟨msg, j, p0, p1, p2, p3, p4, p5, sets, hl, eB, eS⟩ := B.ex
  obtain ⟨q1, q2, q3, q4, rfl⟩ : ∃ q1 q2 q3 q4, sets = [xSet f q1 q2 q3 q4] := by
    rcases eS with ⟨f', q1, q2, q3, q4, e1, e2⟩ | ⟨f', f2, q1, q2, q3, q4, r1, r2, r3, r4, e1, e2⟩
    · cases e1
      exact ⟨q1, q2, q3, q4, e2⟩
    · cases e1
  obtain ⟨ar, hhead, har⟩ := B.head
  have hbd := B.bind qual doc pm an (.ref cda) ct cc (.ref x) [v] rfl
  rw [eB] at ho hbd
  have S := B.sc
  generalize L2.defScope st = sc at ho S hbd
  have fne : f ≠ "self" := by
    have z := B.nd
    rw [List.nodup_cons] at z
    exact fun e => z.1 (by rw [e]; exact List.mem_cons_self ..)
  have hb1 : (([(("self" : Str), Value.ref x), (f, v)]).reverse.lookup ("self" : Str)) = some (.ref x) := by
    show List.lookup ("self" : Str) [(f, v), (("self" : Str), Value.ref x)] = _
    have z : (("self" : Str) == f) = false := by simpa using fun e => fne e.symm
    simp [List.lookup, z]
  have hb2 : (([(("self" : Str), Value.ref x), (f, v)]).reverse.lookup f) = some v := by
    show List.lookup f [(f, v), (("self" : Str), Value.ref x)] = _
    simp [List.lookup]
  refine ks_codeAny_call_defAt (binds := [("self", .ref x), (f, v)]) hroom (X _ _ ho) rfl hlim (codeRec_of X hcd) rfl (.of_eq hbd) S.nocell ?_ (fun h₁ hns hk₁ => ?_) S.co S.gen S.kind
  · intro y hy
    rcases List.mem_cons.mp hy with rfl | hy
    · exact S.self
    · rcases List.mem_cons.mp hy with rfl | hy
      · exact S.fld f (by simp)
      · cases hy
  have X₁ : K.In h₁ := X.keeps hk₁
  have hx₁ := hk₁ _ _ hx
  obtain ⟨mb, hb3, hb4⟩ := hb
  refine x_super T S X₁ (hg.keeps hk₁) ⟨mb, hb3.keeps hk₁, hb4⟩ hns (by rw [har]; exact hb1) (by rw [har]; exact S.self) hl hx₁ ho hhead hcode hvs hfile hcell (fun h2 t2 t1 kk2 hx2 => ?_)
  have hLx : s.heap.objs.size ≠ x := Nat.ne_of_gt (Heap.lt_size hx)
  have X2 : K.In h2 := fun b o e => kk2 b o (fun z => by rw [z, hnx] at e; cases e) (X₁ b o e)
  have hns2 : h2.Ns s.heap.objs.size (fun y => [(("self" : Str), Value.ref x), (f, v)].reverse.lookup y) := by
    obtain ⟨oL, es, ep, e1, r⟩ := hns
    exact ⟨oL, es, ep, kk2 _ _ hLx e1, r⟩
  refine wpAny_execs_cons (x_set T S X2 hns2 hb1 (by simp) hb2 (B.dbg f (by simp)) (ox := excO C t1) (od := none) ⟨hx2, rfl, rfl, trivial⟩ ?_)
  refine exc_osa X2 hx2 hcl (show refsVE (.ref C :: bm) = true from hbm) rfl noF (fun h3 tk3 dx kk3 dn dne hx3 hn3 => ?_)
  show wpAny _ _ (execs _ _) _ _ _
  have z2 : s.heap.objs.size < h2.objs.size := hns2.lt
  exact wpAny_execs_nil (hq h3 tk3 dx ⟨fun b o hb e => kk3 b o hb (kk2 b o hb (hk₁ b o e)), ⟨t1, hx3⟩, Nat.le_of_lt (Nat.lt_of_lt_of_le z2 dn), dne, hn3⟩)
theorem x_init2 {s : Shared} {x C fI t0 : Addr} {qual nm2 f f2 : Str} {st : Stmt} {v v2 : Value} {R : Result → Shared → Prop} (T : XCls prog K mg nm2 qual C fI st) (B : XBody st [f, f2]) (noF : findIn K (.ref C) f = some none) (noF2 : findIn K (.ref C) f2 = some none)
    (X : K.In s.heap) (hg : s.heap.Ns mainGlobals mg) (hb : ∃ mb, s.heap.Ns builtinsNs mb ∧ ∀ x : Str, x ≠ "__name__" → mb x = bootBuiltins x) (hlim : s.heap.NoLimit) (hx : s.heap.get? x = some (excO C t0)) (hnx : K.lookup x = none) (hgx : x ≠ mainGlobals) (hbx : x ≠ builtinsNs) (hroom : A.depth < recursionLimit)
    (hq : ∀ h' tk dx, XEnd s.heap h' x C dx (fun y => if y = f2 then some v2 else if y = f then some v else none) → R (.ok (.ret .none)) { s with heap := h', toks := tk }) :
    codeAny (model prog w) A (.call (.ref fI) ⟨[.ref x, v, v2], []⟩) R s := by
  obtain ⟨oc, od, doc, pm, an, ct, osl, cda, cc, ccl, cl, cdd, cld, ccs, csl, vs, file, tf, ho, hcd, hcode, hvs, hfile, hcell⟩ := T.fn
  obtain ⟨nm, q, N, bs, bm, sn, sub, ab, col, dd, k0, k1, k2, k3, k5, hC, hbm⟩ := T.cls
  have hcl : clsIn K C = some { name := nm, bases := bs, mro := .ref C :: bm, ns := N, qualname := q, hasDict := true, slotNames := sn, subclasses := sub, abstract := ab, collection := col, hasDel := false } := by unfold clsIn; rw [hC] <;> rfl
  obtain ⟨msg, j, p0, p1, p2, p3, p4, p5, sets, hl, eB, eS⟩ := B.ex
  obtain ⟨q1, q2, q3, q4, r1, r2, r3, r4, rfl⟩ : ∃ q1 q2 q3 q4 r1 r2 r3 r4, sets = [xSet f q1 q2 q3 q4, xSet f2 r1 r2 r3 r4] := by
    rcases eS with ⟨f', q1, q2, q3, q4, e1, e2⟩ | ⟨f', f2', q1, q2, q3, q4, r1, r2, r3, r4, e1, e2⟩
    · cases e1
    · cases e1
      exact ⟨q1, q2, q3, q4, r1, r2, r3, r4, e2⟩
  obtain ⟨ar, hhead, har⟩ := B.head
  have hbd := B.bind qual doc pm an (.ref cda) ct cc (.ref x) [v, v2] rfl
  rw [eB] at ho hbd
  have S := B.sc
  generalize L2.defScope st = sc at ho S hbd
  have fne : f ≠ "self" ∧ f2 ≠ "self" ∧ f ≠ f2 := by
    have z := B.nd
    rw [List.nodup_cons, List.nodup_cons] at z
    exact ⟨fun e => z.1 (by rw [e]; simp), fun e => z.1 (by rw [e]; simp), fun e => z.2.1 (by rw [e]; simp)⟩
  have hb1 : (([(("self" : Str), Value.ref x), (f, v), (f2, v2)]).reverse.lookup ("self" : Str)) = some (.ref x) := by
    show List.lookup ("self" : Str) [(f2, v2), (f, v), (("self" : Str), Value.ref x)] = _
    have z : (("self" : Str) == f) = false := by simpa using fun e => fne.1 e.symm
    have z2 : (("self" : Str) == f2) = false := by simpa using fun e => fne.2.1 e.symm
    simp [List.lookup, z, z2]
  have hb2 : (([(("self" : Str), Value.ref x), (f, v), (f2, v2)]).reverse.lookup f) = some v := by
    show List.lookup f [(f2, v2), (f, v), (("self" : Str), Value.ref x)] = _
    have z : (f == f2) = false := by simpa using fne.2.2
    simp [List.lookup, z]
  have hb2' : (([(("self" : Str), Value.ref x), (f, v), (f2, v2)]).reverse.lookup f2) = some v2 := by
    show List.lookup f2 [(f2, v2), (f, v), (("self" : Str), Value.ref x)] = _
    simp [List.lookup]
  refine ks_codeAny_call_defAt (binds := [("self", .ref x), (f, v), (f2, v2)]) hroom (X _ _ ho) rfl hlim (codeRec_of X hcd) rfl (.of_eq hbd) S.nocell ?_ (fun h₁ hns hk₁ => ?_) S.co S.gen S.kind
  · intro y hy
    rcases List.mem_cons.mp hy with rfl | hy
    · exact S.self
    · rcases List.mem_cons.mp hy with rfl | hy
      · exact S.fld f (by simp)
      · rcases List.mem_cons.mp hy with rfl | hy
        · exact S.fld f2 (by simp)
        · cases hy
  have X₁ : K.In h₁ := X.keeps hk₁
  have hx₁ := hk₁ _ _ hx
  obtain ⟨mb, hb3, hb4⟩ := hb
  refine x_super T S X₁ (hg.keeps hk₁) ⟨mb, hb3.keeps hk₁, hb4⟩ hns (by rw [har]; exact hb1) (by rw [har]; exact S.self) hl hx₁ ho hhead hcode hvs hfile hcell (fun h2 t2 t1 kk2 hx2 => ?_)
  have hLx : s.heap.objs.size ≠ x := Nat.ne_of_gt (Heap.lt_size hx)
  have X2 : K.In h2 := fun b o e => kk2 b o (fun z => by rw [z, hnx] at e; cases e) (X₁ b o e)
  have hns2 : h2.Ns s.heap.objs.size (fun y => [(("self" : Str), Value.ref x), (f, v), (f2, v2)].reverse.lookup y) := by
    obtain ⟨oL, es, ep, e1, r⟩ := hns
    exact ⟨oL, es, ep, kk2 _ _ hLx e1, r⟩
  refine wpAny_execs_cons (x_set T S X2 hns2 hb1 (by simp) hb2 (B.dbg f (by simp)) (ox := excO C t1) (od := none) ⟨hx2, rfl, rfl, trivial⟩ ?_)
  refine exc_osa X2 hx2 hcl (show refsVE (.ref C :: bm) = true from hbm) rfl noF (fun h3 tk3 dx kk3 dn dne hx3 hn3 => ?_)
  show wpAny _ _ (execs _ _) _ _ _
  have z2 : s.heap.objs.size < h2.objs.size := hns2.lt
  have X3 : K.In h3 := fun b o e => kk3 b o (fun z => by rw [z, hnx] at e; cases e) (X2 b o e)
  have hns3 : h3.Ns s.heap.objs.size (fun y => [(("self" : Str), Value.ref x), (f, v), (f2, v2)].reverse.lookup y) := by
    obtain ⟨oL, es, ep, e1, r⟩ := hns2
    exact ⟨oL, es, ep, kk3 _ _ hLx e1, r⟩
  have W1 : Within (fun y => if y = f then some v else none) [f] := Within.cons f v Within.nil
  obtain ⟨oD, esD, epD, hoD, hdD, _⟩ := hn3.count W1
  refine wpAny_execs_cons (x_set T S X3 hns3 hb1 (by simp) hb2' (B.dbg f2 (by simp)) (ox := { cls := .ref C, dict := some dx, data := .fields #[.ref t1, .none, .none, .none, .bool false, .none] }) (od := some oD) ⟨hx3, rfl, rfl, hoD⟩ ?_)
  refine PySem.OEX.osa_old X3 hx3 hn3 W1 (by show 1 ≤ 1000; decide) hcl (show refsVE (.ref C :: bm) = true from hbm) rfl noF2 (fun h4 tk4 kk4 hn4 => ?_)
  show wpAny _ _ (execs _ _) _ _ _
  refine wpAny_execs_nil (hq h4 tk4 dx ⟨fun b o hb e => ?_, ⟨t1, kk4 _ _ (Ne.symm dne) hx3⟩, Nat.le_of_lt (Nat.lt_of_lt_of_le z2 dn), dne, hn4⟩)
  have hbd' : b ≠ dx := fun z => by
    have y := Heap.lt_size e
    rw [z] at y
    exact absurd (Nat.lt_of_lt_of_le y (Nat.le_trans (Nat.le_of_lt z2) dn)) (Nat.lt_irrefl _)
  exact kk4 b o hbd' (kk3 b o hb (kk2 b o hb (hk₁ b o e)))

/-- a made error -/
structure XMade (h h' : Heap) (e C d : Addr) (m : Str → Option Value) : Prop where
  keep : ∀ b o, h.get? b = some o → h'.get? b = some o
  new : h.objs.size ≤ e
  obj : ∃ oe vs, h'.get? e = some oe ∧ oe.cls = .ref C ∧ oe.dict = some d ∧ oe.data = .fields vs ∧ vs[1]? = some .none ∧ vs[2]? = some .none
  dbig : h.objs.size ≤ d
  dne : d ≠ e
  ns : h'.Ns1 d m
theorem x_made {s : Shared} {C fI : Addr} {qual nm2 : Str} {fs : List Str} {st : Stmt} {vs : List Value} {m : Str → Option Value} {R : Result → Shared → Prop} (T : XCls prog K mg nm2 qual C fI st)
    (hv : (∃ f v, fs = [f] ∧ vs = [v] ∧ m = fun y => if y = f then some v else none) ∨ ∃ f f2 v v2, fs = [f, f2] ∧ vs = [v, v2] ∧ m = fun y => if y = f2 then some v2 else if y = f then some v else none)
    (B : XBody st fs) (noF : ∀ f ∈ fs, findIn K (.ref C) f = some none)
    (X : K.In s.heap) (hg : s.heap.Ns mainGlobals mg) (hb : ∃ mb, s.heap.Ns builtinsNs mb ∧ ∀ x : Str, x ≠ "__name__" → mb x = bootBuiltins x) (hlim : s.heap.NoLimit) (hroom : A.depth + 1 < recursionLimit)
    (hq : ∀ h' tk e d, XMade s.heap h' e C d m → R (.ok (.ret (.ref e))) { s with heap := h', toks := tk }) :
    codeAny (model prog w) A (.call (.ref C) ⟨vs, []⟩) R s := by
  obtain ⟨nm, q, N, bs, bm, sn, sub, ab, col, dd, k0, k1, k2, k3, k5, hC, hbm⟩ := T.cls
  obtain ⟨hp, g, dr, tk, os⟩ := s
  have lv : vs.length ≤ sizeLine := by
    rw [sizeLine_eq]
    rcases hv with ⟨f, v, _, rfl, _⟩ | ⟨f, f2, v, v2, _, rfl, _⟩
    · exact (by decide : 1 ≤ 16777216)
    · exact (by decide : 2 ≤ 16777216)
  have k : ∀ b o, hp.get? b = some o → ((hp.push (kdv_tup vs)).push (excO C hp.objs.size)).get? b = some o := fun b o e => Heap.get?_push_of_some _ (Heap.get?_push_of_some _ e)
  have hget : ((hp.push (kdv_tup vs)).push (excO C hp.objs.size)).get? (hp.objs.size + 1) = some (excO C hp.objs.size) := by
    have z := Heap.get?_push_size (hp.push (kdv_tup vs)) (o := excO C hp.objs.size) rfl
    rwa [Heap.size_push] at z
  have beyond : ∀ {o}, hp.get? (hp.objs.size + 1) = some o → False := fun z => absurd (Nat.lt_of_succ_lt (Heap.lt_size z)) (Nat.lt_irrefl _)
  have hnx : K.lookup (hp.objs.size + 1) = none := by
    cases e : K.lookup (hp.objs.size + 1) with
    | none => rfl
    | some o => exact (beyond (X _ _ e)).elim
  have ngx : hp.objs.size + 1 ≠ mainGlobals := fun z => by
    have y := hg.lt
    rw [← z] at y
    exact absurd (Nat.lt_of_succ_lt y) (Nat.lt_irrefl _)
  obtain ⟨mb, hb1, hb2⟩ := hb
  have nbx : hp.objs.size + 1 ≠ builtinsNs := fun z => by
    have y := hb1.lt
    rw [← z] at y
    exact absurd (Nat.lt_of_succ_lt y) (Nat.lt_irrefl _)
  refine call_own F.excBase_ValueError (fun X => refsVE_contains X bm hbm) (X _ _ hC) (looks_findIn X T.iC) (fun self => bind_fn X self T.tC) lv ?_
  have fin : ∀ h' tk' dx, XEnd ((hp.push (kdv_tup vs)).push (excO C hp.objs.size)) h' (hp.objs.size + 1) C dx m → InitBack (hp.objs.size + 1) R (.ok (.ret .none)) ⟨h', g, dr, tk', os⟩ := fun h' tk' dx ⟨k', ⟨t1, hx⟩, dn, dne, hns⟩ => by
    have old : ∀ b o, hp.get? b = some o → h'.get? b = some o := fun b o e => k' b o (Nat.ne_of_lt (Nat.lt_succ_of_lt (Heap.lt_size e))) (k b o e)
    have z : hp.objs.size + 1 + 1 ≤ dx := by
      have y := dn
      rw [Heap.size_push, Heap.size_push] at y
      exact y
    exact ⟨rfl, hq h' tk' (hp.objs.size + 1) dx ⟨old, Nat.le_succ _, ⟨_, _, hx, rfl, rfl, rfl, rfl, rfl⟩, Nat.le_trans (Nat.le_trans (Nat.le_succ _) (Nat.le_succ _)) z, dne, hns⟩⟩
  rcases hv with ⟨f, v, rfl, rfl, rfl⟩ | ⟨f, f2, v, v2, rfl, rfl, rfl⟩
  · exact codeAny_mono (x_init1 (s := ⟨(hp.push (kdv_tup [v])).push (excO C hp.objs.size), g, dr, tk, os⟩) T B (noF f (by simp)) (X.keeps k) (hg.keeps k) ⟨mb, hb1.keeps k, hb2⟩ (hlim.keeps k) hget hnx ngx nbx hroom (R := InitBack (hp.objs.size + 1) R) fun h' tk' dx x => fin h' tk' dx x) fun r s2 z => z
  · exact codeAny_mono (x_init2 (s := ⟨(hp.push (kdv_tup [v, v2])).push (excO C hp.objs.size), g, dr, tk, os⟩) T B (noF f (by simp)) (noF f2 (by simp)) (X.keeps k) (hg.keeps k) ⟨mb, hb1.keeps k, hb2⟩ (hlim.keeps k) hget hnx ngx nbx hroom (R := InitBack (hp.objs.size + 1) R) fun h' tk' dx x => fin h' tk' dx x) fun r s2 z => z
end
end KB

namespace KB
open PySem PySem.Spec PyProof.Rows L2
theorem relO1 {v : V} {u : Value} {f : Str} (r : RelV v u) (g : Str) : RelO (List.lookup g [(f, v)]) (if g = f then some u else none) := by
  by_cases h : g = f
  · subst h
    rw [if_pos rfl]
    have q : List.lookup g [(g, v)] = some v := by simp [List.lookup]
    rw [q]
    exact r
  · rw [if_neg h]
    have q : List.lookup g [(f, v)] = none := by
      have z : (g == f) = false := by simpa using h
      simp [List.lookup, z]
    rw [q]
    trivial
theorem relO2 {v v2 : V} {u u2 : Value} {f f2 : Str} (hne : f ≠ f2) (r : RelV v u) (r2 : RelV v2 u2) (g : Str) : RelO (List.lookup g [(f, v), (f2, v2)]) (if g = f2 then some u2 else if g = f then some u else none) := by
  by_cases h2 : g = f2
  · subst h2
    rw [if_pos rfl]
    have z : (g == f) = false := by simpa using fun e => hne e.symm
    have q : List.lookup g [(f, v), (g, v2)] = some v2 := by simp [List.lookup, z]
    rw [q]
    exact r2
  · rw [if_neg h2]
    have z2 : (g == f2) = false := by simpa using h2
    by_cases h : g = f
    · subst h
      rw [if_pos rfl]
      have q : List.lookup g [(g, v), (f2, v2)] = some v := by simp [List.lookup]
      rw [q]
      exact r
    · rw [if_neg h]
      have z : (g == f) = false := by simpa using h
      have q : List.lookup g [(f, v), (f2, v2)] = none := by simp [List.lookup, z, z2]
      rw [q]
      trivial
/-- the error's class x, at C, with the fields fs -/
structure XErr (P : Program) (K : PySem.W.Frag) (mg : Str → Option Value) (x : Str) (C : Addr) (fs : List Str) : Prop where
  ex : ∃ (qual : Str) (fI : Addr) (st : Stmt), XCls P K mg x qual C fI st ∧ XBody st fs ∧ ∀ f ∈ fs, PySem.W.findIn K (.ref C) f = some none
theorem XErr.te {P : Program} {K : PySem.W.Frag} {mg : Str → Option Value} {x : Str} {C : Addr} {fs : List Str} (T : XErr P K mg x C fs) : PySem.W.exmOne K (.ref C) (.ref C) = some true := by
  obtain ⟨_, _, _, h, _⟩ := T.ex
  exact h.te
theorem XErr.gC {P : Program} {K : PySem.W.Frag} {mg : Str → Option Value} {x : Str} {C : Addr} {fs : List Str} (T : XErr P K mg x C fs) : mg x = some (.ref C) := by
  obtain ⟨_, _, _, h, _⟩ := T.ex
  exact h.gC
theorem XErr.xf {P : Program} {K : PySem.W.Frag} {mg : Str → Option Value} {x : Str} {C : Addr} {fs : List Str} (T : XErr P K mg x C fs) : XfC K C := by
  obtain ⟨_, _, _, h, _⟩ := T.ex
  exact ⟨h.ga, h.gg, h.exC, h.hdC⟩
theorem XErr.no {P : Program} {K : PySem.W.Frag} {mg : Str → Option Value} {x : Str} {C : Addr} {fs : List Str} (T : XErr P K mg x C fs) {f : Str} (h : f ∈ fs) : PySem.W.findIn K (.ref C) f = some none := by
  obtain ⟨_, _, _, _, _, z⟩ := T.ex
  exact z f h
/-- X(e, ..) -/
def tMkX (C : Addr) (fs : List Str) (ta : TA) : L2.St → Hp → XK → Prop := fun σ H Q => ta σ H fun vs H1 => vs.length = fs.length ∧ ∀ d, H1 d = none → Q (.ref C) (some d) (upd H1 d (.xd (fs.zip vs)))
section
variable {X : Cx} {C : Addr} {fs : List Str} {x : Str}
theorem pmk_x {a : Expr} {as : List Expr} {ta : TA} {p pos : Pos} {k : Nat} (T : XErr X.prog X.K X.mg x C fs) (hr : Room k X.A) (ha : PA X (a :: as) ta) (hg : Gl X x := by rfl) (hdb : (x == ("__debug__" : Str)) = false := by decide)
    (he : starEach (a :: as) X.env = (false, eval a X.env) :: starEach as X.env := by rfl) (hpl : (backTo pos (starEach as X.env)).any (·.1) = false := by rfl) :
    L2N.PMk X (.Call (.Name x p) (a :: as) [] pos) (tMkX C fs ta) := by
  intro pins s σ H Q I h
  obtain ⟨qual, fI, st, T1, B, nof⟩ := T.ex
  refine wpAny_Call_Name_kw (ld_glob I hg T1.gC ?_ hdb)
  refine PySem.W.callWith_K (h₀ := X.base) I.ok.mod.kin T1.kC (thn (ha.run pos pins s σ H _ I h) fun us s1 hh => ?_) he hpl
  obtain ⟨vs, H1, I1, r1, lv, q1⟩ := hh
  refine ⟨I1.kIn, ?_⟩
  show wpAny _ _ (call (.ref C) us) _ _ _
  have hlim := I1.nolimit
  obtain ⟨mb, b1, b2⟩ := I1.mod.blt
  have hm : ∃ m : Str → Option Value, ((∃ f v, fs = [f] ∧ us = [v] ∧ m = fun y => if y = f then some v else none) ∨ ∃ f f2 v v2, fs = [f, f2] ∧ us = [v, v2] ∧ m = fun y => if y = f2 then some v2 else if y = f then some v else none) ∧
      ∀ g, RelO (List.lookup g (fs.zip vs)) (m g) := by
    obtain ⟨msg, j, p0, p1, p2, p3, p4, p5, sets, hl, eB, eS⟩ := B.ex
    rcases eS with ⟨f, q1, q2, q3, q4, rfl, _⟩ | ⟨f, f2, q1, q2, q3, q4, r1', r2, r3, r4, rfl, _⟩
    · cases r1 with
      | nil => cases lv
      | cons rv rn =>
        cases rn with
        | nil => exact ⟨_, .inl ⟨f, _, rfl, rfl, rfl⟩, fun g => relO1 rv g⟩
        | cons _ _ => simp at lv
    · have fne : f ≠ f2 := by
        have z := B.nd
        rw [List.nodup_cons, List.nodup_cons] at z
        exact fun e => z.2.1 (by rw [e]; simp)
      cases r1 with
      | nil => cases lv
      | cons rv rn =>
        cases rn with
        | nil => simp at lv
        | cons rv2 rn2 =>
          cases rn2 with
          | nil => exact ⟨_, .inr ⟨f, f2, _, _, rfl, rfl, rfl⟩, fun g => relO2 fne rv rv2 g⟩
          | cons _ _ => simp at lv
  obtain ⟨m, hv, hrel⟩ := hm
  have kI := I1.kIn
  have gI := I1.mod.glob.keeps I1.bk
  have bI := b1.keeps I1.bk
  obtain ⟨hp, g, dr, tk, os⟩ := s1
  refine wpAny_call (x_made T1 hv B nof kI gI ⟨mb, bI, b2⟩ hlim (by have := hr.dp; omega) fun h' tk' e d M => ?_)
  show L2N.MkP X pins σ Q (.ref e) ⟨h', g, dr, tk', os⟩
  obtain ⟨oe, fv, hoe, hc, hd, hdat, h1, h2⟩ := M.obj
  have hns := M.ns
  obtain ⟨G', g1, g2⟩ := restrict h' fun b => decide (b ≠ e)
  have gk : ∀ b, b ≠ e → G'.get? b = h'.get? b := fun b hb => g1 b (decide_eq_true hb)
  have ge : G'.get? e = none := g2 e (by simp)
  have old : ∀ b o, hp.get? b = some o → G'.get? b = some o := fun b o q => (gk b (Nat.ne_of_lt (Nat.lt_of_lt_of_le (Heap.lt_size q) M.new))).trans (M.keep b o q)
  have ob : ObjOk X.prog X.w (upd H1 d (.xd (fs.zip vs))) G' d (.xd (fs.zip vs)) := ⟨_, hns.at (fun o q => (gk d M.dne).trans q), fun f => hrel f⟩
  have J : Inv X pins σ (upd H1 d (.xd (fs.zip vs))) ⟨G', g, dr, tk', os⟩ := I1.laid (t' := tk') old M.dbig ob
  refine ⟨e, oe, fv, ⟨G', g, dr, tk', os⟩, _, .ref C, some d, rfl, J, fun b o q => ?_, ge, hoe, ⟨hc, hd, ?_⟩, hdat, h1, ?_, rfl, I1.bare, raises_own T1.exC T1.tyC, q1 d (I1.hok.fresh M.dbig)⟩
  · by_cases hb : b = e
    · have q' : G'.get? b = some o := q
      rw [hb, ge] at q'; cases q'
    · exact (gk b hb).symm.trans q
  · intro vs' e'
    rw [hdat] at e'
    cases e'
    exact h2
  · rw [upd_ne (Ne.symm M.dne)]
    exact I1.hok.fresh M.new
end
end KB

/-! operators of own classes -/
namespace KB
open PySem PySem.W PySem.Calls PyProof.Rows
theorem ne_bind (self : Value) : bindSpecial (.builtin "object.__ne__") self = pure (.builtin "object.__ne__", [self]) := F.slot_object_ne.bind self
section
variable {prog : Program} {w : World} {A : Around} {E : Value → Shared → Prop} {s : Shared} {K : Frag} {x C f : Addr} {ox : Obj} {od : Option Obj} {b tb : Value}
/-- object.__ne__ asks the own __eq__ -/
theorem ne_own {Q : Value → Shared → Prop} (hu : A.units + 1 < cLine) (X : K.In s.heap) (I : InstAt s.heap x ox C od) (hb : Looks (model prog w) s.heap (typeOf b) tb) (hn : notFirst K C tb = true)
    (hs : findIn K (.ref C) "__ne__" = some (some (.builtin "object.__ne__"))) (he : findIn K (.ref C) "__eq__" = some (some (.ref f))) (hf : isFn K (.ref f) = true) (top : mroIn K C (.type "object") = some true)
    (h : wpAny (model prog w) A.in1 (call (.ref f) [.ref x, b]) (fun v s' => ∃ k, v = .bool k ∧ Q (.bool (!k)) s') E s) : wpAny (model prog w) A (richCompare .NotEq (.ref x) b) Q E s := by
  have sub : Looks (model prog w) s.heap (isInstance (.ref x) (.type "object")) true := I.type.andThen (looks_mroIn X top)
  have inner : wpAny (model prog w) A (call (.builtin "object.__ne__") ([.ref x] ++ [b])) (fun v s' => Q v s' ∧ v ≠ .notImplemented) E s := by
    refine wpAny_call (codeAny_call_builtin F.slot_object_ne.plain F.cmpEntry_ne (@check_slot (model prog w) _ _ s "object.__ne__" "object" "__ne__" (.ref x) [b] [] _ F.cmpKind_ne F.cmpSplit_ne sub (F.cmpArgs_ne _ _) ?_))
    have go : wpAny (model prog w) A.in1 (callSpecialIfBound? (.ref x) "__eq__" [b]) (fun r s' => ∃ k, r = some (.bool k) ∧ Q (.bool (!k)) s') E s := by
      refine ifBound_K X I he hf (wpAny_mono h (fun v s' hv => ?_) fun _ _ e => e)
      obtain ⟨k, rfl, q⟩ := hv
      exact ⟨k, rfl, q⟩
    unfold Builtin.«object.__ne__»
    refine wpAny_bind (wpAny_of_eq (a := ((Value.ref x : Value), [b])) (by first | rfl | (simp only [Builtin.slotArgs]; rfl)) ?_)
    refine wpAny_bind (wpAny_cRoomFor hu ?_)
    refine wpAny_bind (wpAny_mono go (fun r s' hr => ?_) fun _ _ e => e)
    obtain ⟨k, rfl, q⟩ := hr
    refine wpAny_bind (wpAny_truthy_bool ?_)
    exact wpAny_pure ⟨q, fun z => by cases z⟩
  have one : wpAny (model prog w) A (tryCompare (.ref x) (cmpInfo .NotEq).2.1 b) (fun r s' => ∃ v, r = some v ∧ Q v s') E s := by
    have bound : wpAny (model prog w) A (callSpecialIfBound? (.ref x) "__ne__" [b]) (fun r s' => ∃ v, r = some v ∧ Q v s' ∧ v ≠ .notImplemented) E s := by
      simp only [callSpecialIfBound?, bindSpecialIfBound?]
      refine wpAny_holding (wpAny_bind (wpAny_bind (wpAny_bind (I.type.here ((looks_findIn X hs).here ?_)))))
      refine wpAny_bind (wpAny_askSetting (wpAny_ite ?_))
      have fin : wpAny (model prog w) A (call (.builtin "object.__ne__") ([.ref x] ++ [b]) >>= fun v => pure (some v)) (fun r s' => ∃ v, r = some v ∧ Q v s' ∧ v ≠ .notImplemented) E s :=
        wpAny_bind (wpAny_mono inner (fun v s' h' => wpAny_pure ⟨v, rfl, h'⟩) fun _ _ h' => h')
      split
      · rw [ne_bind]
        exact wpAny_bind (wpAny_pure (wpAny_pure (by exact fin)))
      · refine wpAny_tryCatch ?_
        rw [ne_bind]
        exact wpAny_bind (wpAny_pure (wpAny_pure (by exact fin)))
    unfold tryCompare
    refine wpAny_bind (wpAny_mono bound (fun r s' hr => ?_) fun _ _ e => e)
    obtain ⟨v, rfl, q, nn⟩ := hr
    cases v <;> first | exact absurd rfl nn | exact wpAny_pure ⟨_, rfl, q⟩
  unfold richCompare
  simp only [oneThing_ref]
  refine wpAny_holding (wpAny_bind (wpAny_cRoomFor (Nat.lt_of_succ_lt hu) ?_))
  refine wpAny_bind (I.type.here (wpAny_bind (hb.here ?_)))
  split
  · rename_i q
    have e : subIn K tb (.ref C) = some false := by
      rcases Bool.or_eq_true_iff.mp hn with e | e
      · rw [beq_iff_eq.mp e] at q; simp at q
      · exact beq_iff_eq.mp e
    refine wpAny_bind ((looks_subIn X e).here ?_)
    simp only [Bool.false_eq_true, if_false]
    refine wpAny_bind (wpAny_mono one (fun r s' z => ?_) fun _ _ e => e)
    obtain ⟨v, rfl, hq⟩ := z
    exact wpAny_pure hq
  · refine wpAny_bind (wpAny_pure ?_)
    simp only [Bool.false_eq_true, if_false]
    refine wpAny_bind (wpAny_mono one (fun r s' z => ?_) fun _ _ e => e)
    obtain ⟨v, rfl, hq⟩ := z
    exact wpAny_pure hq
end
end KB
namespace KB
open PySem PySem.Spec PyProof.Rows L2
section
variable {X : Cx} {k j : Nat} {C : Addr} {m : Str} {sp : Sp}
/-- what an operator of the class at C wants of the class -/
structure OpC (K : PySem.W.Frag) (C : Addr) : Prop where
  first : PySem.W.selfFirst K C = true
  ne : PySem.W.findIn K (.ref C) "__ne__" = some (some (.builtin "object.__ne__"))
  top : PySem.W.mroIn K C (.type "object") = some true
def rBin (C : Addr) (sp : Sp) : R2 := fun x y H Q => ∃ a dx fs b dy gs, x = .ref a ∧ y = .ref b ∧ H a = some (.ins C dx fs) ∧ H b = some (.ins C dy gs) ∧ sp [x, y] H Q E0
theorem op_bin {op : Operator} (o : OpC X.K C) (c : Met X.prog X.w X.K X.mg X.base k C m sp) (hr : Room j X.A) (hk : k ≤ j) (hm : PySem.dunder op.info.2 = m := by rfl) : OpR X (binaryOp op) (rBin C sp) := by
  intro pins s σ H x y v u Q I rx ry h
  obtain ⟨f, fd, ps, hc, hme, F, b⟩ := c.ex
  obtain ⟨a, dx, fs, b', dy, gs, rfl, rfl, ha, hb, q⟩ := h
  cases (show v = Value.ref a from rx)
  cases (show u = Value.ref b' from ry)
  obtain ⟨mA, O, _⟩ := ins_get I.hok ha
  obtain ⟨od, J, _⟩ := O.look
  obtain ⟨mB, O', _⟩ := ins_get I.hok hb
  obtain ⟨od', J', _⟩ := O'.look
  obtain ⟨m', hF⟩ := I.fr
  have hs : PySem.W.findIn X.K (.ref C) (PySem.dunder op.info.2) = some (some (.ref f)) := by rw [hm]; exact hme.at_
  refine PySem.W.binop_K hF I.ok.mod.kin J J'.type o.first hs hme.fn ?_
  refine wpAny_mono (run_fn (us := [.ref a, .ref b']) (vs := [.ref a, .ref b']) F (hr.mono hk) b .nil pass0 I (.cons rfl (.cons rfl .nil)) q) (fun w s' z => ?_) fun _ _ x => x
  obtain ⟨z', H', I', rz, qz⟩ := z
  exact SlX.cmpback rz ⟨z', H', I', rz, qz⟩
/-- x == y, x an instance of C, y anything whose type is known -/
def rEqO (K : PySem.W.Frag) (C : Addr) (sp : Sp) : R2 := fun x y H Q => ∃ a dx fs t, x = .ref a ∧ H a = some (.ins C dx fs) ∧ TyX K H y t ∧ PySem.W.notFirst K C t = true ∧ sp [x, y] H Q E0
theorem op_eqO (c : Met X.prog X.w X.K X.mg X.base k C "__eq__" sp) (hr : Room j X.A) (hk : k ≤ j) : OpR X (compareOp .Eq) (rEqO X.K C sp) := by
  intro pins s σ H x y v u Q I rx ry h
  obtain ⟨f, fd, ps, hc, hme, F, b⟩ := c.ex
  obtain ⟨a, dx, fs, t, rfl, ha, ty, hn, q⟩ := h
  cases (show v = Value.ref a from rx)
  obtain ⟨mA, O, _⟩ := ins_get I.hok ha
  obtain ⟨od, J, _⟩ := O.look
  obtain ⟨m', hF⟩ := I.fr
  obtain ⟨P, Z, p, hne⟩ := kit_of I ry ty
  refine PySem.W.cmp_ofEq ?_
  refine PySem.W.cmp_K (op := .Eq) (tb := t) hr.units0 hF I.ok.mod.kin J (Z.ty _ _ I.kIn p) hn hme.at_ hme.fn ?_
  refine wpAny_mono (run_fn (us := [.ref a, u]) (vs := [.ref a, y]) F (hr.mono hk) b .nil pass0 I (.cons rfl (.cons ry .nil)) q) (fun w s' z => ?_) fun _ _ x => x
  obtain ⟨z', H', I', rz, qz⟩ := z
  exact SlX.cmpback rz ⟨z', H', I', rz, qz⟩
/-- x != y likewise -/
def rNeO (K : PySem.W.Frag) (C : Addr) (sp : Sp) : R2 := fun x y H Q => ∃ a dx fs t, x = .ref a ∧ H a = some (.ins C dx fs) ∧ TyX K H y t ∧ PySem.W.notFirst K C t = true ∧ sp [x, y] H (fun v H' => ∃ k, v = .bl k ∧ Q (.bl (!k)) H') E0
theorem op_neO (o : OpC X.K C) (c : Met X.prog X.w X.K X.mg X.base k C "__eq__" sp) (hr : Room j X.A) (hk : k + 1 ≤ j) : OpR X (compareOp .NotEq) (rNeO X.K C sp) := by
  intro pins s σ H x y v u Q I rx ry h
  obtain ⟨f, fd, ps, hc, hme, F, b⟩ := c.ex
  obtain ⟨a, dx, fs, t, rfl, ha, ty, hn, q⟩ := h
  cases (show v = Value.ref a from rx)
  obtain ⟨mA, O, _⟩ := ins_get I.hok ha
  obtain ⟨od, J, _⟩ := O.look
  obtain ⟨P, Z, p, hne⟩ := kit_of I ry ty
  refine PySem.W.cmp_ofNotEq ?_
  have l2 : ([V.ref a, y] : List V).length = ps.length := F.len _ _ _ _ q
  have b2 := b s [Value.ref a, u] I.kIn (by rw [List.append_nil]; exact l2)
  rw [List.append_nil] at b2
  refine ne_own (hu_of hr) I.kIn J (Z.ty _ _ I.kIn p) hn o.ne hme.at_ hme.fn o.top ?_
  refine wpAny_call (codeAny_mono (F.run X.A.in1 X.stack s H ⟨[.ref a, u], []⟩ [.ref a, u] [.ref a, y] _ E0 (hr.mono hk).in1 I.env0.in1 b2 (.cons rfl (.cons ry .nil)) q) fun r s' hq => ?_)
  cases r with
  | error e => exact pass0 pins σ H s e s' I hq
  | ok fl =>
    cases fl with
    | ret w =>
      obtain ⟨z, H', I', rz, kk, ez, qz⟩ := I.after hq
      subst ez
      cases (show w = Value.bool kk from rz)
      exact ⟨kk, rfl, .bl (!kk), H', I', rfl, qz⟩
    | next => exact False.elim hq
    | brk => exact False.elim hq
    | cont => exact False.elim hq
end
end KB

/-! defs that may raise: called where nothing is raised, and in a try -/
namespace KB
open PySem PySem.Spec PyProof.Rows L2
theorem passN0 {X : Cx} : Passes (L2N.CX X.prog X.w) X E0 := fun _ _ _ _ _ _ _ h => by
  obtain ⟨_, _, _, _, _, _, _, _, _, _, _, _, z⟩ := h
  exact z.elim
theorem takesN0 {X : Cx} : L2N.Takes X (fun _ _ _ _ => False) := fun _ _ x => by
  obtain ⟨_, _, _, _, _, _, _, _, _, _, _, _, _, _, _, _, z⟩ := x
  exact z.elim
section
variable {P : Program} {w : World} {K : PySem.W.Frag} {mg : Str → Option Value} {base : Heap}
structure CalX (P : Program) (w : World) (K : PySem.W.Frag) (mg : Str → Option Value) (base : Heap) (k : Nat) (x : Str) (sp : Sp) : Prop where
  ex : ∃ (f : Addr) (fd : FuncData) (ps : List Str), FnOk P w K mg base (L2N.CX P w) k f fd ps sp ∧ mg x = some (.ref f) ∧ PySem.W.keepIn K (.ref f) = true ∧ Binds K fd ps []
structure MetX (P : Program) (w : World) (K : PySem.W.Frag) (mg : Str → Option Value) (base : Heap) (k : Nat) (C : Addr) (m : Str) (sp : Sp) : Prop where
  ex : ∃ (f : Addr) (fd : FuncData) (ps : List Str), Cls K C ∧ Meth K C m f ∧ FnOk P w K mg base (L2N.CX P w) k f fd ps sp ∧ Binds K fd ps []
structure MakX (P : Program) (w : World) (K : PySem.W.Frag) (mg : Str → Option Value) (base : Heap) (k : Nat) (x : Str) (C : Addr) (sp : Sp) : Prop where
  ex : ∃ (f : Addr) (fd : FuncData) (ps : List Str), Mk K C f ∧ FnOk P w K mg base (L2N.CX P w) k f fd ps sp ∧ mg x = some (.ref C) ∧ Binds K fd ps []
structure MakXK (P : Program) (w : World) (K : PySem.W.Frag) (mg : Str → Option Value) (base : Heap) (k : Nat) (x : Str) (C : Addr) (ks : List Str) (gV : List V → List V → List V) (sp : Sp) : Prop where
  ex : ∃ (f : Addr) (fd : FuncData) (ps : List Str) (g : List Value → List Value → List Value), Mk K C f ∧ FnOk P w K mg base (L2N.CX P w) k f fd ps sp ∧ mg x = some (.ref C) ∧ KBn K fd ps 1 ks g gV
structure CalXK (P : Program) (w : World) (K : PySem.W.Frag) (mg : Str → Option Value) (base : Heap) (k : Nat) (x : Str) (n : Nat) (ks : List Str) (gV : List V → List V → List V) (sp : Sp) : Prop where
  ex : ∃ (f : Addr) (fd : FuncData) (ps : List Str) (g : List Value → List Value → List Value), FnOk P w K mg base (L2N.CX P w) k f fd ps sp ∧ mg x = some (.ref f) ∧ PySem.W.keepIn K (.ref f) = true ∧ KBn K fd ps n ks g gV
/-- a def that may raise keeps its promise -/
theorem Fun_okN {x qual : Str} {st : Stmt} {f : Addr} {fd : FuncData} {N ps : List Str} {k : Nat} {sp : Sp} (F : Fun K x qual st f fd) (S : FnScope N ps (defScope st)) (len : ∀ vs H Q E, sp vs H Q E → vs.length = ps.length)
    (hbody : ∀ (cdv : Value) (A : Around) (outer : List Env) (s : Shared) (H : Hp) (vs : List V) (Q : VK) (E : XK), Room k (A.deeper (envOfC qual (defScope st) s.heap.objs.size f cdv)) → sp vs H Q E →
      ∃ t, PSs (cxOf (L2N.CX P w) P w K mg base N qual (defScope st) f cdv A outer s H E) (defBody st) t ∧ t { nx := fun _ H' => Q .non H', rt := Q } (start N vs) H) : FnOk P w K mg base (L2N.CX P w) (k + 1) f fd ps sp := by
  obtain ⟨oc, od, kV, doc, pm, an, cdv, ct, osl, rfl, lk, hcd⟩ := F.ex
  exact fn_of lk hcd S len fun A outer s H vs Q E hr hsp => hbody cdv A outer s H vs Q E hr hsp
end
section
variable {X : Cx} {k j n : Nat} {C : Addr} {x m : Str} {sp : Sp} {p pos apos : Pos} {e o : Expr} {es : List Expr} {kws : List Keyword} {ta : TE} {t tk : TA} {ks : List Str} {gV : List V → List V → List V} {W : WX}
theorem pe_x (c : CalX X.prog X.w X.K X.mg X.base k x sp) (hr : Room j X.A) (hk : k ≤ j) (hg : Gl X x) (ha : PA X (e :: es) t)
    (hdb : (x == ("__debug__" : Str)) = false := by decide) (he : starEach (e :: es) X.env = (false, eval e X.env) :: starEach es X.env := by rfl) (hpl : (backTo pos (starEach es X.env)).any (·.1) = false := by rfl) :
    PE X (.Call (.Name x p) (e :: es) [] pos) (tCall sp [] E0 t) := by
  obtain ⟨f, fd, ps, F, hm, kp, b⟩ := c.ex
  exact pe_call F (hr.mono hk) hg hm kp b .nil passN0 ha hdb he hpl
theorem pe_xS (c : CalX X.prog X.w X.K X.mg X.base k x sp) (hr : Room j X.A) (hk : k ≤ j) (hg : Gl X x) (tk : L2N.Takes X W) (ha : PA X (e :: es) t)
    (hdb : (x == ("__debug__" : Str)) = false := by decide) (he : starEach (e :: es) X.env = (false, eval e X.env) :: starEach es X.env := by rfl) (hpl : (backTo pos (starEach es X.env)).any (·.1) = false := by rfl) :
    PE X (.Call (.Name x p) (e :: es) [] pos) (tCallS sp (WE W) t) := by
  obtain ⟨f, fd, ps, F, hm, kp, b⟩ := c.ex
  exact pe_callS F (hr.mono hk) hg hm kp b (fun σ => L2N.passAt tk σ) ha hdb he hpl
/-- f(k = v, ..) in a try -/
def tCallSK0 (m : Nat) (sp : Sp) (gV : List V → List V → List V) (E : L2.St → XK) (tk : TA) : TE := fun σ H Q => tk σ H fun zs H2 => zs.length = m ∧ sp (gV [] zs) H2 Q (E σ)
theorem pe_xSK0 (c : CalXK X.prog X.w X.K X.mg X.base k x 0 ks gV sp) (hr : Room j X.A) (hk : k ≤ j) (hg : Gl X x) (tke : L2N.Takes X W) (hkw : PK X kws tk)
    (hall : (backToKw pos (keywordEach kws X.env)).all (·.1.isSome) = true := by rfl) (hks : (backToKw pos (keywordEach kws X.env)).filterMap (·.1) = ks := by rfl) (hdb : (x == ("__debug__" : Str)) = false := by decide)
    (hpl : ((backTo pos (starEach [] X.env)).any (·.1) || (backToKw pos (keywordEach kws X.env)).any (·.1.isNone)) = false := by rfl) :
    PE X (.Call (.Name x p) [] kws pos) (tCallSK0 ks.length sp gV (WE W) tk) := by
  obtain ⟨f, fd, ps, g, F, hm, kp, hb⟩ := c.ex
  refine ⟨fun pins s σ H Q I h => ?_⟩
  refine wpAny_Call_Name_kw (ld_glob I hg hm ?_ hdb)
  refine PySem.W.callWith_KW0 (h₀ := X.base) I.ok.mod.kin kp hall ?_ hpl
  refine thn (hkw.run pos pins s σ H _ I h) fun ws s2 ⟨zs, H2, I2, rz, l2, q2⟩ => ⟨I2.kIn, ?_⟩
  rw [hks]
  have r2 : Vals (gV [] zs) (g [] ws) := hb.rel (vs := []) (us := []) .nil rz
  refine wpAny_call (codeAny_mono (F.run X.A X.stack s2 H2 ⟨[], ks.zip ws⟩ (g [] ws) (gV [] zs) Q (WE W σ) (hr.mono hk) I2.env0 (hb.to s2 [] ws I2.kIn rfl (rz.length.symm.trans l2)) r2 q2) fun r s' hq => ?_)
  cases r with
  | error e => exact L2N.passAt tke σ pins H2 s2 e s' I2 hq
  | ok fl =>
    cases fl with
    | ret u => exact I2.after hq
    | next => exact False.elim hq
    | brk => exact False.elim hq
    | cont => exact False.elim hq
/-- f(k = v, ..) where nothing is raised -/
theorem pe_xK0 (c : CalXK X.prog X.w X.K X.mg X.base k x 0 ks gV sp) (hr : Room j X.A) (hk : k ≤ j) (hg : Gl X x) (hkw : PK X kws tk)
    (hall : (backToKw pos (keywordEach kws X.env)).all (·.1.isSome) = true := by rfl) (hks : (backToKw pos (keywordEach kws X.env)).filterMap (·.1) = ks := by rfl) (hdb : (x == ("__debug__" : Str)) = false := by decide)
    (hpl : ((backTo pos (starEach [] X.env)).any (·.1) || (backToKw pos (keywordEach kws X.env)).any (·.1.isNone)) = false := by rfl) :
    PE X (.Call (.Name x p) [] kws pos) (tCallK0 ks.length sp gV E0 tk) := by
  obtain ⟨f, fd, ps, g, F, hm, kp, hb⟩ := c.ex
  refine ⟨fun pins s σ H Q I h => ?_⟩
  refine wpAny_Call_Name_kw (ld_glob I hg hm ?_ hdb)
  refine PySem.W.callWith_KW0 (h₀ := X.base) I.ok.mod.kin kp hall ?_ hpl
  refine thn (hkw.run pos pins s σ H _ I h) fun ws s2 ⟨zs, H2, I2, rz, l2, q2⟩ => ⟨I2.kIn, ?_⟩
  rw [hks]
  have r2 : Vals (gV [] zs) (g [] ws) := hb.rel (vs := []) (us := []) .nil rz
  refine wpAny_call (codeAny_mono (F.run X.A X.stack s2 H2 ⟨[], ks.zip ws⟩ (g [] ws) (gV [] zs) Q E0 (hr.mono hk) I2.env0 (hb.to s2 [] ws I2.kIn rfl (rz.length.symm.trans l2)) r2 q2) fun r s' hq => ?_)
  cases r with
  | error e => exact passN0 pins σ H2 s2 e s' I2 hq
  | ok fl =>
    cases fl with
    | ret u => exact I2.after hq
    | next => exact False.elim hq
    | brk => exact False.elim hq
    | cont => exact False.elim hq
theorem pe_mtx {pl : Sem Bool} (c : MetX X.prog X.w X.K X.mg X.base k C m sp) (hr : Room j X.A) (hk : k ≤ j) (he : PE X o ta) (ha : PA X (e :: es) t)
    (hst : starEach (e :: es) X.env = (false, eval e X.env) :: starEach es X.env := by rfl) (hpl : (backTo pos (starEach es X.env)).any (·.1) = false := by rfl)
    (ht : eval (.Call (.Attribute o m apos) (e :: es) [] pos) X.env = (do
      let ov ← eval o X.env
      standAt apos.atName
      let (f, first) ← holding [ov] (getMethod ov m pl)
      callWith pos f first (backTo pos (starEach (e :: es) X.env)) (backToKw pos (keywordEach [] X.env))) := by rfl) :
    PE X (.Call (.Attribute o m apos) (e :: es) [] pos) (tMeth C m sp [] E0 ta t) := by
  obtain ⟨f, fd, ps, hc, hm, F, b⟩ := c.ex
  exact pe_meth (pl := pl) he hc hm F (hr.mono hk) b .nil passN0 ha hst hpl ht
/-- o.m(e, ..) in a try -/
def tMethS (C : Addr) (m : Str) (sp : Sp) (E : L2.St → XK) (ta : TE) (t : TA) : TE := fun σ H Q => ta σ H fun x H1 => ∃ a dx fs, x = .ref a ∧ H1 a = some (.ins C dx fs) ∧ fs.lookup m = none ∧ t σ H1 fun vs H2 => sp (x :: vs) H2 Q (E σ)
theorem pe_mtxS {pl : Sem Bool} (c : MetX X.prog X.w X.K X.mg X.base k C m sp) (hr : Room j X.A) (hk : k ≤ j) (tk : L2N.Takes X W) (he : PE X o ta) (ha : PA X (e :: es) t)
    (hst : starEach (e :: es) X.env = (false, eval e X.env) :: starEach es X.env := by rfl) (hpl : (backTo pos (starEach es X.env)).any (·.1) = false := by rfl)
    (ht : eval (.Call (.Attribute o m apos) (e :: es) [] pos) X.env = (do
      let ov ← eval o X.env
      standAt apos.atName
      let (f, first) ← holding [ov] (getMethod ov m pl)
      callWith pos f first (backTo pos (starEach (e :: es) X.env)) (backToKw pos (keywordEach [] X.env))) := by rfl) :
    PE X (.Call (.Attribute o m apos) (e :: es) [] pos) (tMethS C m sp (WE W) ta t) := by
  obtain ⟨f, fd, ps, hc, hm, F, b⟩ := c.ex
  refine ⟨fun pins s σ H Q I h => ?_⟩
  refine PySem.W.methodCall_KW (pl := pl) (thn (he.run pins s σ H _ I h) fun u s1 ⟨x, H1, I1, rx, a, dx, fs, ex, ea, l, q⟩ => ?_) ht
  subst ex
  obtain rfl : u = Value.ref a := rx
  refine getmeth_ok I1 ea hc hm l ?_
  refine PySem.W.callWith_K (first := [.ref a]) (h₀ := X.base) I.ok.mod.kin hm.kp (thn (ha.run pos pins s1 σ H1 _ I1 q) fun us s2 ⟨vs, H2, I2, r, q2⟩ => ⟨I2.kIn, ?_⟩) hst hpl
  exact run_fnS (us := .ref a :: us) (vs := .ref a :: vs) F (hr.mono hk) b (L2N.passAt tk σ) I2 (.cons rfl r) q2
theorem pe_mkx (c : MakX X.prog X.w X.K X.mg X.base k x C sp) (hr : Room j X.A) (hk : k + 1 ≤ j) (hg : Gl X x) (ha : PA X (e :: es) t)
    (hdb : (x == ("__debug__" : Str)) = false := by decide) (he : starEach (e :: es) X.env = (false, eval e X.env) :: starEach es X.env := by rfl) (hpl : (backTo pos (starEach es X.env)).any (·.1) = false := by rfl) :
    PE X (.Call (.Name x p) (e :: es) [] pos) (tMake C sp [] E0 t) := by
  obtain ⟨f, fd, ps, M, F, hm, b⟩ := c.ex
  exact pe_make M F (hr.mono hk) hg hm b .nil passN0 ha hdb he hpl
theorem pe_mkxK0 (c : MakXK X.prog X.w X.K X.mg X.base k x C ks gV sp) (hr : Room j X.A) (hk : k + 1 ≤ j) (hg : Gl X x) (hkw : PK X kws tk)
    (hall : (backToKw pos (keywordEach kws X.env)).all (·.1.isSome) = true := by rfl) (hks : (backToKw pos (keywordEach kws X.env)).filterMap (·.1) = ks := by rfl) (hdb : (x == ("__debug__" : Str)) = false := by decide)
    (hpl : ((backTo pos (starEach [] X.env)).any (·.1) || (backToKw pos (keywordEach kws X.env)).any (·.1.isNone)) = false := by rfl) :
    PE X (.Call (.Name x p) [] kws pos) (tMakeK C 0 ks.length sp gV E0 tNil tk) := by
  obtain ⟨f, fd, ps, g, M, F, hm, b⟩ := c.ex
  exact pe_makeK0 M F (hr.mono hk) hg hm b passN0 hkw hall hks hdb hpl
/-- C(e, ..) in a try -/
def tMakeS (C : Addr) (sp : Sp) (E : L2.St → XK) (t : TA) : TE := fun σ H Q => t σ H fun vs H1 => ∀ x dx, H1 x = none → H1 dx = none → dx ≠ x → sp (.ref x :: vs) (upd (upd H1 dx (.own x)) x (.ins C dx [])) (fun v H2 => v = .non ∧ Q (.ref x) H2) (E σ)
theorem run_makeS {pins : List (Addr × Obj)} {σ : L2.St} {H : Hp} {s : Shared} {Q : VK} {f : Addr} {fd : FuncData} {ps : List Str} {us : List Value} {ws : List (Str × Value)} {ul : List Value} {vl : List V} (M : Mk X.K C f) (F : FnOk X.prog X.w X.K X.mg X.base (L2N.CX X.prog X.w) k f fd ps sp) (hr : Room (k + 1) X.A)
    (tk : L2N.Takes X W) (I : Inv X pins σ H s) (r : ∀ x, Vals (.ref x :: vl) (.ref x :: ul))
    (hb : ∀ (s' : Shared) (x : Addr), X.K.In s'.heap → BindsTo s' fd ⟨.ref x :: us, ws⟩ (ps.zip (.ref x :: ul)))
    (h : ∀ x dx, H x = none → H dx = none → dx ≠ x → sp (.ref x :: vl) (upd (upd H dx (.own x)) x (.ins C dx [])) (fun v H2 => v = .non ∧ Q (.ref x) H2) (WE W σ)) :
    wpAny (model X.prog X.w) X.A (call (.ref C) us ws) (EP X pins σ Q) X.xe s := by
  have hq := h (s.heap.objs.size + 1) s.heap.objs.size (I.hok.fresh (Nat.le_succ _)) (I.hok.fresh (Nat.le_refl _)) (Nat.ne_of_lt (Nat.lt_succ_self _))
  have I2 := Inv.made (C := C) I
  refine wpAny_call (make_map (f := f) I.kIn M.makes M.init (beq_iff_eq.mp M.fn) (codeAny_mono (F.run _ X.stack _ _ ⟨Value.ref (s.heap.objs.size + 1) :: us, ws⟩ (Value.ref (s.heap.objs.size + 1) :: ul) _ _ (WE W σ) (hr.make C us ws)
    (I2.env0.make C us ws) (hb _ _ I2.kIn) (r _) hq) fun r s' hq' => ?_))
  cases r with
  | error e => exact L2N.passAt tk σ pins _ _ e s' I2 hq'
  | ok fl =>
    cases fl with
    | ret u =>
      obtain ⟨v, H', I3, rv, ev, q3⟩ := I2.after hq'
      subst ev
      exact ⟨rv, ⟨V.ref (s.heap.objs.size + 1), H', I3, rfl, q3⟩⟩
    | next => exact False.elim hq'
    | brk => exact False.elim hq'
    | cont => exact False.elim hq'
theorem pe_mkxS (c : MakX X.prog X.w X.K X.mg X.base k x C sp) (hr : Room j X.A) (hk : k + 1 ≤ j) (hg : Gl X x) (tk : L2N.Takes X W) (ha : PA X (e :: es) t)
    (hdb : (x == ("__debug__" : Str)) = false := by decide) (he : starEach (e :: es) X.env = (false, eval e X.env) :: starEach es X.env := by rfl) (hpl : (backTo pos (starEach es X.env)).any (·.1) = false := by rfl) :
    PE X (.Call (.Name x p) (e :: es) [] pos) (tMakeS C sp (WE W) t) := by
  obtain ⟨f, fd, ps, M, F, hm, b⟩ := c.ex
  refine ⟨fun pins s σ H Q I h => ?_⟩
  refine wpAny_Call_Name_kw (ld_glob I hg hm ?_ hdb)
  refine PySem.W.callWith_K (h₀ := X.base) I.ok.mod.kin M.kp (thn (ha.run pos pins s σ H _ I h) fun us s1 ⟨vs, H1, I1, r, q⟩ => ⟨I1.kIn, ?_⟩) he hpl
  have hq := q (s1.heap.objs.size + 1) s1.heap.objs.size (I1.hok.fresh (Nat.le_succ _)) (I1.hok.fresh (Nat.le_refl _)) (Nat.ne_of_lt (Nat.lt_succ_self _))
  have hl : ∀ x : Addr, (Value.ref x :: us).length = ps.length := fun x => by
    have e1 := F.len _ _ _ _ hq
    rw [List.length_cons] at e1 ⊢
    rw [← r.length]
    exact e1
  refine run_makeS (ws := []) (ul := us) (vl := vs) M F (hr.mono hk) tk I1 (fun x => .cons rfl r) (fun s' x hK => ?_) q
  have b2 := b s' (Value.ref x :: us) hK (by rw [List.append_nil]; exact hl x)
  rw [List.append_nil] at b2
  exact b2
def tMakeSK (C : Addr) (m : Nat) (sp : Sp) (gV : List V → List V → List V) (E : L2.St → XK) (tk : TA) : TE := fun σ H Q => tk σ H fun zs H1 => zs.length = m ∧ ∃ vl, (∀ x, gV [.ref x] zs = .ref x :: vl) ∧ ∀ x dx, H1 x = none → H1 dx = none → dx ≠ x →
  sp (.ref x :: vl) (upd (upd H1 dx (.own x)) x (.ins C dx [])) (fun v H2 => v = .non ∧ Q (.ref x) H2) (E σ)
theorem pe_mkxSK0 (c : MakXK X.prog X.w X.K X.mg X.base k x C ks gV sp) (hr : Room j X.A) (hk : k + 1 ≤ j) (hg : Gl X x) (tke : L2N.Takes X W) (hkw : PK X kws tk)
    (hall : (backToKw pos (keywordEach kws X.env)).all (·.1.isSome) = true := by rfl) (hks : (backToKw pos (keywordEach kws X.env)).filterMap (·.1) = ks := by rfl) (hdb : (x == ("__debug__" : Str)) = false := by decide)
    (hpl : ((backTo pos (starEach [] X.env)).any (·.1) || (backToKw pos (keywordEach kws X.env)).any (·.1.isNone)) = false := by rfl) :
    PE X (.Call (.Name x p) [] kws pos) (tMakeSK C ks.length sp gV (WE W) tk) := by
  obtain ⟨f, fd, ps, g, M, F, hm, hb⟩ := c.ex
  refine ⟨fun pins s σ H Q I h => ?_⟩
  refine wpAny_Call_Name_kw (ld_glob I hg hm ?_ hdb)
  refine PySem.W.callWith_KW0 (h₀ := X.base) I.ok.mod.kin M.kp hall ?_ hpl
  refine thn (hkw.run pos pins s σ H _ I h) fun ws s2 ⟨zs, H2, I2, rz, l2, vl, ev, q⟩ => ⟨I2.kIn, ?_⟩
  rw [hks]
  have hq := q (s2.heap.objs.size + 1) s2.heap.objs.size (I2.hok.fresh (Nat.le_succ _)) (I2.hok.fresh (Nat.le_refl _)) (Nat.ne_of_lt (Nat.lt_succ_self _))
  have I3 := Inv.made (C := C) I2
  have r2 : Vals (gV [.ref (s2.heap.objs.size + 1)] zs) (g [.ref (s2.heap.objs.size + 1)] ws) := hb.rel (.cons rfl .nil) rz
  rw [ev] at r2
  refine wpAny_call (make_map (f := f) (vs := []) I2.kIn M.makes M.init (beq_iff_eq.mp M.fn) (codeAny_mono (F.run _ X.stack _ _ ⟨[Value.ref (s2.heap.objs.size + 1)], ks.zip ws⟩ (g [.ref (s2.heap.objs.size + 1)] ws) _ _ (WE W σ) ((hr.mono hk).make C [] (ks.zip ws))
    (I3.env0.make C [] (ks.zip ws)) (hb.to _ [Value.ref (s2.heap.objs.size + 1)] ws I3.kIn rfl (rz.length.symm.trans l2)) r2 hq) fun r s' hq' => ?_))
  cases r with
  | error e => exact L2N.passAt tke σ pins _ _ e s' I3 hq'
  | ok fl =>
    cases fl with
    | ret u =>
      obtain ⟨v, H', I4, rv, ev', q3⟩ := I3.after hq'
      subst ev'
      exact ⟨rv, ⟨V.ref (s2.heap.objs.size + 1), H', I4, rfl, q3⟩⟩
    | next => exact False.elim hq'
    | brk => exact False.elim hq'
    | cont => exact False.elim hq'
/-- raise X(e, ..) -/
def tRaiseX (C : Addr) (fs : List Str) (W : WX) (ta : TA) : TS := fun _ σ H => tMkX C fs ta σ H fun cls d H' => W cls d σ H'
theorem ps_raiseX {a : Expr} {as : List Expr} {fs : List Str} {p pos pos2 : Pos} (hc : X.calm = true) (T : XErr X.prog X.K X.mg x C fs) (hr : Room k X.A) (tk : L2N.Takes X W) (ha : PA X (a :: as) t) (hg : Gl X x := by rfl) (hdb : (x == ("__debug__" : Str)) = false := by decide)
    (he : starEach (a :: as) X.env = (false, eval a X.env) :: starEach as X.env := by rfl) (hpl : (backTo pos (starEach as X.env)).any (·.1) = false := by rfl) :
    PS X (.Raise (some (.Call (.Name x p) (a :: as) [] pos)) none pos2) (tRaiseX C fs W t) := L2N.ps_raise hc tk (pmk_x T hr ha hg hdb he hpl)
end
end KB
namespace KB
open PySem PySem.Spec PyProof.Rows L2
section
variable {P : Program} {w : World} {K : PySem.W.Frag} {mg : Str → Option Value} {base : Heap}
/-- a def that raises nothing, called within an except suite -/
structure CalH (P : Program) (w : World) (K : PySem.W.Frag) (mg : Str → Option Value) (base : Heap) (k : Nat) (x : Str) (sp : Sp) : Prop where
  ex : ∃ (f : Addr) (fd : FuncData) (ps : List Str), L2H.FnH P w K mg base CX0 k f fd ps sp ∧ mg x = some (.ref f) ∧ PySem.W.keepIn K (.ref f) = true ∧ Binds K fd ps []
theorem Fun_okH {x qual : Str} {st : Stmt} {f : Addr} {fd : FuncData} {N ps : List Str} {k : Nat} {sp : Sp} (F : Fun K x qual st f fd) (S : FnScope N ps (defScope st)) (len : ∀ vs H Q E, sp vs H Q E → vs.length = ps.length)
    (hbody : ∀ (cdv : Value) (A : Around) (outer : List Env) (s : Shared) (H : Hp) (vs : List V) (Q : VK) (E : XK) (p : Addr × Obj), L2H.Hot1 A p → L2H.RoomH k (A.deeper (envOfC qual (defScope st) s.heap.objs.size f cdv)) → sp vs H Q E →
      ∃ t, PSs (L2H.cxH CX0 P w K mg base N qual (defScope st) f cdv A outer s H E p).nox (defBody st) t ∧ t { nx := fun _ H' => Q .non H', rt := Q } (start N vs) H) : L2H.FnH P w K mg base CX0 (k + 1) f fd ps sp := by
  obtain ⟨oc, od, kV, doc, pm, an, cdv, ct, osl, rfl, lk, hcd⟩ := F.ex
  refine L2H.fn_ofH lk hcd S len fun A outer s H vs Q E p hot hr hsp => ?_
  obtain ⟨t, h, q⟩ := hbody cdv A outer s H vs Q E p hot hr hsp
  exact ⟨t, h.nox, q⟩
theorem exm_own {K : PySem.W.Frag} {S B : Addr} (h1 : PySem.W.subIn K (.ref S) (.type "BaseException") = some true) (h2 : PySem.W.isClsIn K S = true) (h3 : PySem.W.typeIn K (.ref S) = some (.type "type")) {b : Bool} (h4 : PySem.W.subIn K (.ref B) (.ref S) = some b) :
    PySem.W.exmOne K (.ref B) (.ref S) = some b := by
  have e1 : (PySem.W.subIn K (.ref S) (.type "BaseException") == some true) = true := by rw [h1] <;> rfl
  have e2 : ((PySem.W.clsIn K S).isSome && PySem.W.typeIn K (.ref S) == some (.type "type")) = true := by
    have h2' : (PySem.W.clsIn K S).isSome = true := h2
    rw [h2', h3] <;> rfl
  show (if (PySem.W.subIn K (.ref S) (.type "BaseException") == some true) = true then (if ((PySem.W.clsIn K S).isSome && PySem.W.typeIn K (.ref S) == some (.type "type")) = true then PySem.W.subIn K (.ref B) (.ref S) else none) else none) = some b
  rw [if_pos e1, if_pos e2]
  exact h4
end
section
variable {X : Cx} {k j : Nat} {x : Str} {sp : Sp} {p pos : Pos} {e : Expr} {es : List Expr} {t : TA}
theorem hotS {a : Addr} {oe : Obj} {cls : Value} {d : Option Addr} {pn : List (Addr × Obj)} (hz : L2N.Zn cls d oe) (hf : ∃ vs, oe.data = .fields vs) : L2H.HotC (X.suite a ((a, oe) :: pn)) := by
  obtain ⟨vs, h⟩ := hf
  exact ⟨(a, oe), ⟨rfl, vs, h, hz.2.2 vs h⟩, List.mem_cons_self ..⟩
theorem pe_cH (c : CalH X.prog X.w X.K X.mg X.base k x sp) (hr : L2H.RoomH j X.A) (hk : k ≤ j) (hot : L2H.HotC X) (hg : Gl X x) (ha : PA X (e :: es) t)
    (hdb : (x == ("__debug__" : Str)) = false := by decide) (he : starEach (e :: es) X.env = (false, eval e X.env) :: starEach es X.env := by rfl) (hpl : (backTo pos (starEach es X.env)).any (·.1) = false := by rfl) :
    PE X (.Call (.Name x p) (e :: es) [] pos) (tCallS sp (fun _ => E0) t) := by
  obtain ⟨f, fd, ps, F, hm, kp, b⟩ := c.ex
  exact L2H.pe_callH F (hr.mono hk) hot hg hm kp b (fun σ pins H s e s' _ h => h.elim) ha hdb he hpl
/-- // by any number that is not 0, below 9,000 bits -/
def CDivV (_ j : Int) : Prop := j ≠ 0 ∧ j.natAbs.log2 < 9000
theorem op_fdivV : OpR X (binaryOp .FloorDiv) (rI CDivV fun i j => .int (i.fdiv j)) := opI fun i j _ _ _ _ _ hc q => PyProof.Rows.floordiv_int hc.1 q (.inl (PyProof.noPylong_of_log2 hc.2))
end
end KB
namespace KB
open PySem PySem.Spec PyProof.Rows L2
section
variable {P : Program} {w : World} {K : PySem.W.Frag} {mg : Str → Option Value} {base : Heap}
structure MetK (CX : CXT) (P : Program) (w : World) (K : PySem.W.Frag) (mg : Str → Option Value) (base : Heap) (k : Nat) (C : Addr) (m : Str) (ks : List Str) (gV : List V → List V → List V) (sp : Sp) : Prop where
  ex : ∃ (f : Addr) (fd : FuncData) (ps : List Str) (g : List Value → List Value → List Value), Cls K C ∧ Meth K C m f ∧ FnOk P w K mg base CX k f fd ps sp ∧ KBn K fd ps 1 ks g gV
end
section
variable {X : Cx} {k j n : Nat} {C : Addr} {x m : Str} {sp : Sp} {p pos apos : Pos} {o : Expr} {kws : List Keyword} {ta : TE} {tk : TA} {ks : List Str} {gV : List V → List V → List V} {W : WX}
/-- o.m(k = v, ..) -/
def tMethSK (C : Addr) (m : Str) (n : Nat) (sp : Sp) (gV : List V → List V → List V) (E : L2.St → XK) (ta : TE) (tk : TA) : TE := fun σ H Q => ta σ H fun x H1 => ∃ a dx fs, x = .ref a ∧ H1 a = some (.ins C dx fs) ∧ fs.lookup m = none ∧ tk σ H1 fun zs H2 => zs.length = n ∧ sp (gV [x] zs) H2 Q (E σ)
theorem pe_mtKg {CX : CXT} {E : L2.St → XK} {pl : Sem Bool} (c : MetK CX X.prog X.w X.K X.mg X.base k C m ks gV sp) (hr : Room j X.A) (hk : k ≤ j) (hx : ∀ σ, PassesAt CX X σ (E σ)) (he : PE X o ta) (hkw : PK X kws tk)
    (hall : (backToKw pos (keywordEach kws X.env)).all (·.1.isSome) = true := by rfl) (hks : (backToKw pos (keywordEach kws X.env)).filterMap (·.1) = ks := by rfl)
    (hpl : ((backTo pos (starEach [] X.env)).any (·.1) || (backToKw pos (keywordEach kws X.env)).any (·.1.isNone)) = false := by rfl)
    (ht : eval (.Call (.Attribute o m apos) [] kws pos) X.env = (do
      let ov ← eval o X.env
      standAt apos.atName
      let (f, first) ← holding [ov] (getMethod ov m pl)
      callWith pos f first (backTo pos (starEach [] X.env)) (backToKw pos (keywordEach kws X.env))) := by rfl) :
    PE X (.Call (.Attribute o m apos) [] kws pos) (tMethSK C m ks.length sp gV E ta tk) := by
  obtain ⟨f, fd, ps, g, hc, hm, F, hb⟩ := c.ex
  refine ⟨fun pins s σ H Q I h => ?_⟩
  refine PySem.W.methodCall_KW (pl := pl) (thn (he.run pins s σ H _ I h) fun u s1 ⟨x, H1, I1, rx, a, dx, fs, ex, ea, l, q⟩ => ?_) ht
  subst ex
  obtain rfl : u = Value.ref a := rx
  refine getmeth_ok I1 ea hc hm l ?_
  refine PySem.W.callWith_KW0 (first := [.ref a]) (h₀ := X.base) I.ok.mod.kin hm.kp hall ?_ hpl
  refine thn (hkw.run pos pins s1 σ H1 _ I1 q) fun ws s2 ⟨zs, H2, I2, rz, l2, q2⟩ => ⟨I2.kIn, ?_⟩
  rw [hks]
  have r2 : Vals (gV [.ref a] zs) (g [.ref a] ws) := hb.rel (.cons rfl .nil) rz
  refine wpAny_call (codeAny_mono (F.run X.A X.stack s2 H2 ⟨[.ref a], ks.zip ws⟩ (g [.ref a] ws) (gV [.ref a] zs) Q (E σ) (hr.mono hk) I2.env0 (hb.to s2 [.ref a] ws I2.kIn rfl (rz.length.symm.trans l2)) r2 q2) fun r s' hq => ?_)
  cases r with
  | error e => exact hx σ pins H2 s2 e s' I2 hq
  | ok fl =>
    cases fl with
    | ret u => exact I2.after hq
    | next => exact False.elim hq
    | brk => exact False.elim hq
    | cont => exact False.elim hq
theorem pe_mtK0 {pl : Sem Bool} (c : MetK CX0 X.prog X.w X.K X.mg X.base k C m ks gV sp) (hr : Room j X.A) (hk : k ≤ j) (he : PE X o ta) (hkw : PK X kws tk)
    (hall : (backToKw pos (keywordEach kws X.env)).all (·.1.isSome) = true := by rfl) (hks : (backToKw pos (keywordEach kws X.env)).filterMap (·.1) = ks := by rfl)
    (hpl : ((backTo pos (starEach [] X.env)).any (·.1) || (backToKw pos (keywordEach kws X.env)).any (·.1.isNone)) = false := by rfl)
    (ht : eval (.Call (.Attribute o m apos) [] kws pos) X.env = (do
      let ov ← eval o X.env
      standAt apos.atName
      let (f, first) ← holding [ov] (getMethod ov m pl)
      callWith pos f first (backTo pos (starEach [] X.env)) (backToKw pos (keywordEach kws X.env))) := by rfl) :
    PE X (.Call (.Attribute o m apos) [] kws pos) (tMethSK C m ks.length sp gV (fun _ => E0) ta tk) :=
  pe_mtKg (pl := pl) c hr hk (fun σ pins H s e s' _ h => h.elim) he hkw hall hks hpl ht
theorem pe_mtxSK0 {pl : Sem Bool} (c : MetK (L2N.CX X.prog X.w) X.prog X.w X.K X.mg X.base k C m ks gV sp) (hr : Room j X.A) (hk : k ≤ j) (tke : L2N.Takes X W) (he : PE X o ta) (hkw : PK X kws tk)
    (hall : (backToKw pos (keywordEach kws X.env)).all (·.1.isSome) = true := by rfl) (hks : (backToKw pos (keywordEach kws X.env)).filterMap (·.1) = ks := by rfl)
    (hpl : ((backTo pos (starEach [] X.env)).any (·.1) || (backToKw pos (keywordEach kws X.env)).any (·.1.isNone)) = false := by rfl)
    (ht : eval (.Call (.Attribute o m apos) [] kws pos) X.env = (do
      let ov ← eval o X.env
      standAt apos.atName
      let (f, first) ← holding [ov] (getMethod ov m pl)
      callWith pos f first (backTo pos (starEach [] X.env)) (backToKw pos (keywordEach kws X.env))) := by rfl) :
    PE X (.Call (.Attribute o m apos) [] kws pos) (tMethSK C m ks.length sp gV (WE W) ta tk) :=
  pe_mtKg (pl := pl) c hr hk (fun σ => L2N.passAt tke σ) he hkw hall hks hpl ht
end
end KB

/-! shares: the numbers, and how an object of the class stands on the heap -/
namespace KB
open PySem PySem.Spec PyProof.Rows L2
section
variable {X : Cx} {a b c : Expr} {tA t1 t2 : TT} {pos : Pos}
/-- a if c else b, as a test -/
def tIfT (c t u : TT) : TT := fun σ H Q => c σ H fun k H1 => if k = true then t σ H1 Q else u σ H1 Q
theorem pt_ifT (hc : PT X c tA) (ha : PT X a t1) (hb : PT X b t2) : PT X (.IfExp c a b pos) (tIfT tA t1 t2) := by
  refine ⟨fun pins s σ H Q I h => ?_⟩
  refine isTrue_IfExp (thn (hc.run pins s σ H _ I h) fun d s1 ⟨H1, I1, q1⟩ => ?_)
  cases d with
  | true => exact ha.run pins s1 σ H1 Q I1 q1
  | false => exact hb.run pins s1 σ H1 Q I1 q1
end
theorem roomS {X : Cx} {k : Nat} {a : Addr} {pn : List (Addr × Obj)} (hr : Room k X.A) : L2H.RoomH k (X.suite a pn).A := ⟨hr.dp, hr.un⟩
theorem kit_me {K : PySem.W.Frag} {C : Addr} : PySem.W.kitOne K (.ref C) (.ref C) = some true := by
  unfold PySem.W.kitOne
  rw [if_pos (by simp)]
theorem kit_no {K : PySem.W.Frag} {C : Addr} {n : String} {b : Bool} (h1 : PySem.W.isClsIn K C = true) (h2 : PySem.W.typeIn K (.ref C) = some (.type "type")) (h3 : PySem.W.subIn K (.type n) (.ref C) = some b) : PySem.W.kitOne K (.type n) (.ref C) = some b := by
  have e0 : ((Value.type n) == (Value.ref C)) = false := by rfl
  have e2 : ((PySem.W.clsIn K C).isSome && PySem.W.typeIn K (.ref C) == some (.type "type")) = true := by
    have h1' : (PySem.W.clsIn K C).isSome = true := h1
    rw [h1', h2] <;> rfl
  unfold PySem.W.kitOne
  rw [e0]
  show (if ((PySem.W.clsIn K C).isSome && PySem.W.typeIn K (.ref C) == some (.type "type")) = true then PySem.W.subIn K (.type n) (.ref C) else none) = some b
  rw [if_pos e2]
  exact h3
def gN (o u : Int) : Nat := Nat.gcd o.natAbs u.natAbs
def rOd (o u : Int) : Int := if u < 0 then -(o / (gN o u : Int)) else o / (gN o u : Int)
def rUd (o u : Int) : Int := if u < 0 then -(u / (gN o u : Int)) else u / (gN o u : Int)
theorem gN_pos {o u : Int} (h : u ≠ 0) : 0 < gN o u := Nat.gcd_pos_of_pos_right _ (by omega)
theorem gN_o (o u : Int) : (gN o u : Int) ∣ o := Int.ofNat_dvd_left.mpr (Nat.gcd_dvd_left _ _)
theorem gN_u (o u : Int) : (gN o u : Int) ∣ u := Int.ofNat_dvd_left.mpr (Nat.gcd_dvd_right _ _)
theorem gN_le {o u : Int} (h : u ≠ 0) : gN o u ≤ u.natAbs := Nat.le_of_dvd (by omega) (Nat.gcd_dvd_right _ _)
/-- the sign of the divisor -/
def cN (o u : Int) : Int := if u < 0 then -(gN o u : Int) else (gN o u : Int)
theorem cN_ne {o u : Int} (h : u ≠ 0) : cN o u ≠ 0 := by
  have := gN_pos (o := o) h
  unfold cN
  split <;> omega
theorem cN_abs {o u : Int} : (cN o u).natAbs = gN o u := by
  unfold cN
  split <;> omega
theorem fdiv_of {a g : Int} (x : Int) (hg : g ≠ 0) (e : a = g * x) : a.fdiv g = x := by
  subst e
  rw [Int.fdiv_eq_ediv_of_dvd (Int.dvd_mul_right _ _)]
  exact Int.mul_ediv_cancel_left _ hg
theorem div_of {a g : Int} (x : Int) (hg : g ≠ 0) (e : a = g * x) : a / g = x := by
  subst e
  exact Int.mul_ediv_cancel_left _ hg
theorem fdiv_o {o u : Int} (h : u ≠ 0) : o.fdiv (cN o u) = rOd o u := by
  have g := gN_pos (o := o) h
  obtain ⟨x, e⟩ := gN_o o u
  have g0 : (gN o u : Int) ≠ 0 := by omega
  unfold rOd cN
  rw [div_of x g0 e]
  split
  · exact fdiv_of _ (by omega) (by rw [Int.neg_mul_neg]; exact e)
  · exact fdiv_of _ g0 e
theorem fdiv_u {o u : Int} (h : u ≠ 0) : u.fdiv (cN o u) = rUd o u := by
  have g := gN_pos (o := o) h
  obtain ⟨x, e⟩ := gN_u o u
  have g0 : (gN o u : Int) ≠ 0 := by omega
  unfold rUd cN
  rw [div_of x g0 e]
  split
  · exact fdiv_of _ (by omega) (by rw [Int.neg_mul_neg]; exact e)
  · exact fdiv_of _ g0 e
theorem rU_pos {o u : Int} (h : u ≠ 0) : 0 < rUd o u := by
  have g := gN_pos (o := o) h
  obtain ⟨x, e⟩ := gN_u o u
  have g0 : (gN o u : Int) ≠ 0 := by omega
  have gp : (0 : Int) < gN o u := by omega
  unfold rUd
  rw [div_of x g0 e]
  split
  · rename_i hu
    have : x < 0 := by
      rcases Int.lt_or_le x 0 with z | z
      · exact z
      · have := Int.mul_nonneg (Int.le_of_lt gp) z
        omega
    omega
  · rename_i hu
    rcases Int.lt_or_le 0 x with z | z
    · exact z
    · have : (gN o u : Int) * x ≤ 0 := Int.mul_nonpos_of_nonneg_of_nonpos (Int.le_of_lt gp) z
      omega
theorem rO_le (o u : Int) : (rOd o u).natAbs ≤ o.natAbs := by
  have z : (o / (gN o u : Int)).natAbs ≤ o.natAbs := Int.natAbs_ediv_le_natAbs _ _
  unfold rOd
  split
  · rw [Int.natAbs_neg]
    exact z
  · exact z
theorem rU_le (o u : Int) : (rUd o u).natAbs ≤ u.natAbs := by
  have z : (u / (gN o u : Int)).natAbs ≤ u.natAbs := Int.natAbs_ediv_le_natAbs _ _
  unfold rUd
  split
  · rw [Int.natAbs_neg]
    exact z
  · exact z
theorem gN_scale {g : Int} (a b : Int) (hg : 0 < g) : (gN (g * a) (g * b) : Int) = g * gN a b := by
  unfold gN
  rw [Int.natAbs_mul, Int.natAbs_mul, Nat.gcd_mul_left, Int.natCast_mul]
  congr 1
  omega
theorem rOd_scale {g : Int} (a b : Int) (hg : 0 < g) : rOd (g * a) (g * b) = rOd a b := by
  have e : (g * a) / (gN (g * a) (g * b) : Int) = a / (gN a b : Int) := by
    rw [gN_scale a b hg]
    exact Int.mul_ediv_mul_of_pos _ _ hg
  unfold rOd
  rw [e]
  by_cases h : b < 0
  · rw [if_pos h, if_pos (Int.mul_neg_of_pos_of_neg hg h)]
  · rw [if_neg h, if_neg (Int.not_lt.mpr (Int.mul_nonneg (Int.le_of_lt hg) (Int.not_lt.mp h)))]
theorem rUd_scale {g : Int} (a b : Int) (hg : 0 < g) : rUd (g * a) (g * b) = rUd a b := by
  have e : (g * b) / (gN (g * a) (g * b) : Int) = b / (gN a b : Int) := by
    rw [gN_scale a b hg]
    exact Int.mul_ediv_mul_of_pos _ _ hg
  unfold rUd
  rw [e]
  by_cases h : b < 0
  · rw [if_pos h, if_pos (Int.mul_neg_of_pos_of_neg hg h)]
  · rw [if_neg h, if_neg (Int.not_lt.mpr (Int.mul_nonneg (Int.le_of_lt hg) (Int.not_lt.mp h)))]
theorem red_ex {o u : Int} (hu : 0 < u) : ∃ g : Int, 0 < g ∧ o = g * rOd o u ∧ u = g * rUd o u := by
  have g0 := gN_pos (o := o) (Int.ne_of_gt hu)
  refine ⟨gN o u, by omega, ?_, ?_⟩
  · unfold rOd
    rw [if_neg (by omega), Int.mul_ediv_cancel' (gN_o o u)]
  · unfold rUd
    rw [if_neg (by omega), Int.mul_ediv_cancel' (gN_u o u)]
theorem red_sum {n d o u : Int} (hu : 0 < u) : rOd (n * u + o * d) (d * u) = rOd (n * rUd o u + rOd o u * d) (d * rUd o u) ∧ rUd (n * u + o * d) (d * u) = rUd (n * rUd o u + rOd o u * d) (d * rUd o u) := by
  obtain ⟨g, g0, eo, eu⟩ := red_ex (o := o) hu
  generalize rOd o u = o' at *
  generalize rUd o u = u' at *
  subst eo eu
  have e1 : n * (g * u') + (g * o') * d = g * (n * u' + o' * d) := by
    rw [Int.mul_add, Int.mul_left_comm n, Int.mul_assoc g o']
  have e2 : d * (g * u') = g * (d * u') := Int.mul_left_comm _ _ _
  rw [e1, e2]
  exact ⟨rOd_scale _ _ g0, rUd_scale _ _ g0⟩
theorem red_less {n d o u : Int} (hu : 0 < u) : rOd (n * u - o * d) (d * u) = rOd (n * rUd o u - rOd o u * d) (d * rUd o u) ∧ rUd (n * u - o * d) (d * u) = rUd (n * rUd o u - rOd o u * d) (d * rUd o u) := by
  obtain ⟨g, g0, eo, eu⟩ := red_ex (o := o) hu
  generalize rOd o u = o' at *
  generalize rUd o u = u' at *
  subst eo eu
  have e1 : n * (g * u') - (g * o') * d = g * (n * u' - o' * d) := by
    rw [Int.mul_sub, Int.mul_left_comm n, Int.mul_assoc g o']
  have e2 : d * (g * u') = g * (d * u') := Int.mul_left_comm _ _ _
  rw [e1, e2]
  exact ⟨rOd_scale _ _ g0, rUd_scale _ _ g0⟩
theorem red_times {n d o u : Int} (hu : 0 < u) : rOd (n * o) (d * u) = rOd (n * rOd o u) (d * rUd o u) ∧ rUd (n * o) (d * u) = rUd (n * rOd o u) (d * rUd o u) := by
  obtain ⟨g, g0, eo, eu⟩ := red_ex (o := o) hu
  generalize rOd o u = o' at *
  generalize rUd o u = u' at *
  subst eo eu
  have e1 : n * (g * o') = g * (n * o') := by
    rw [Int.mul_left_comm n]
  have e2 : d * (g * u') = g * (d * u') := Int.mul_left_comm _ _ _
  rw [e1, e2]
  exact ⟨rOd_scale _ _ g0, rUd_scale _ _ g0⟩
theorem gN_one (n : Int) : gN n 1 = 1 := Nat.gcd_one_right _
theorem gN_one' (n : Int) : gN 1 n = 1 := Nat.gcd_one_left _
theorem rOd_one (n : Int) : rOd n 1 = n := by
  unfold rOd
  rw [if_neg (by decide), gN_one]
  exact Int.ediv_one _
theorem rUd_one (n : Int) : rUd n 1 = 1 := by
  unfold rUd
  rw [if_neg (by decide), gN_one]
  rfl
theorem rOd_one' {n : Int} (h : 0 < n) : rOd 1 n = 1 := by
  unfold rOd
  rw [if_neg (by omega), gN_one']
  rfl
theorem rUd_one' {n : Int} (h : 0 < n) : rUd 1 n = n := by
  unfold rUd
  rw [if_neg (by omega), gN_one']
  exact Int.ediv_one _
/-- Euclid's turns: k turns done of a pair with the product M -/
structure Eu (o u : Int) (k l r : Nat) : Prop where
  g : Nat.gcd l r = gN o u
  l0 : 0 < l
  m : (k = 0 ∧ l = u.natAbs ∧ r = o.natAbs) ∨ (r ≤ l ∧ 2 ^ k * (l * r) ≤ 2 * (u.natAbs * o.natAbs))
theorem Eu.ini {o u : Int} (h : u ≠ 0) : Eu o u 0 u.natAbs o.natAbs := ⟨Nat.gcd_comm _ _, by omega, .inl ⟨rfl, rfl, rfl⟩⟩
theorem Eu.nxt {o u : Int} {k l r : Nat} (E : Eu o u k l r) (h : r ≠ 0) : Eu o u (k + 1) r (l % r) := by
  obtain ⟨g, l0, m⟩ := E
  have lt : l % r < r := Nat.mod_lt _ (by omega)
  refine ⟨?_, by omega, .inr ⟨by omega, ?_⟩⟩
  · rw [Nat.gcd_comm, ← Nat.gcd_rec, Nat.gcd_comm]
    exact g
  · rcases m with ⟨rfl, rfl, rfl⟩ | ⟨hr, hm⟩
    · have a1 : o.natAbs * (u.natAbs % o.natAbs) ≤ o.natAbs * u.natAbs := Nat.mul_le_mul_left _ (Nat.mod_le _ _)
      have a2 : o.natAbs * u.natAbs = u.natAbs * o.natAbs := Nat.mul_comm _ _
      show 2 ^ 1 * _ ≤ _
      omega
    · have h2 : 2 * (l % r) ≤ l := by
        have e := Nat.div_add_mod l r
        have d : 1 ≤ l / r := Nat.div_pos hr (by omega)
        have : r * 1 ≤ r * (l / r) := Nat.mul_le_mul_left _ d
        omega
      have h3 : 2 ^ (k + 1) * (r * (l % r)) = 2 ^ k * (r * (2 * (l % r))) := by
        rw [Nat.pow_succ, Nat.mul_assoc, ← Nat.mul_assoc 2 r, Nat.mul_comm 2 r, Nat.mul_assoc r 2]
      rw [h3]
      refine Nat.le_trans (Nat.mul_le_mul_left _ (Nat.mul_le_mul_left r h2)) ?_
      rw [Nat.mul_comm r l]
      exact hm
theorem Eu.fin {o u : Int} {l r : Nat} (E : Eu o u 9000 l r) (h1 : o.natAbs < 2 ^ 4000) (h2 : u.natAbs < 2 ^ 4000) : r = 0 := by
  obtain ⟨g, l0, m⟩ := E
  rcases m with ⟨z, _⟩ | ⟨hr, hm⟩
  · cases z
  · rcases Nat.eq_zero_or_pos r with z | z
    · exact z
    · exfalso
      have a1 : 1 ≤ l * r := Nat.mul_pos l0 z
      have a2 : 2 ^ 9000 * 1 ≤ 2 ^ 9000 * (l * r) := Nat.mul_le_mul_left _ a1
      have a3 : u.natAbs * o.natAbs ≤ 2 ^ 4000 * 2 ^ 4000 := Nat.mul_le_mul (Nat.le_of_lt h2) (Nat.le_of_lt h1)
      have a4 : (2 : Nat) ^ 4000 * 2 ^ 4000 = 2 ^ 8000 := by rw [← Nat.pow_add]
      have a5 : (2 : Nat) * 2 ^ 8000 = 2 ^ 8001 := (Nat.pow_succ' (m := 2) (n := 8000)).symm
      have a6 : (2 : Nat) ^ 8001 < 2 ^ 9000 := Nat.pow_lt_pow_right (by decide) (by decide)
      generalize (2 : Nat) ^ 9000 = A at *
      generalize (2 : Nat) ^ 8001 = B at *
      generalize (2 : Nat) ^ 8000 = D at *
      generalize (2 : Nat) ^ 4000 * 2 ^ 4000 = F at *
      omega
theorem Eu.gcd {o u : Int} {k l : Nat} (E : Eu o u k l 0) : l = gN o u := by
  have := E.g
  rwa [Nat.gcd_zero_right] at this
theorem bits_mul {x y : Int} {a b : Nat} (h1 : x.natAbs < 2 ^ a) (h2 : y.natAbs < 2 ^ b) : (x * y).natAbs < 2 ^ (a + b) := wide_lt h1 h2
theorem bits_add {x y : Int} {a : Nat} (h1 : x.natAbs < 2 ^ a) (h2 : y.natAbs < 2 ^ a) : (x + y).natAbs < 2 ^ (a + 1) := by
  rw [Nat.pow_succ]
  omega
theorem bits_sub {x y : Int} {a : Nat} (h1 : x.natAbs < 2 ^ a) (h2 : y.natAbs < 2 ^ a) : (x - y).natAbs < 2 ^ (a + 1) := by
  rw [Nat.pow_succ]
  omega
theorem bits_le {x : Int} {a b : Nat} (h : x.natAbs < 2 ^ a) (hb : a ≤ b) : x.natAbs < 2 ^ b := Nat.lt_of_lt_of_le h (Nat.pow_le_pow_right (by decide) hb)
theorem bits_of {x : Int} {a : Nat} (h : x.natAbs ≤ 2 ^ a) : x.natAbs < 2 ^ (a + 1) := by
  have : 0 < 2 ^ a := Nat.pow_pos (by decide)
  rw [Nat.pow_succ]
  omega

/-! ### an object of the class -/
structure ShC (K : PySem.W.Frag) (C : Addr) : Prop where
  ins : C8.InsC K C
  no : NoAttr K C "over"
  nu : NoAttr K C "under"
  op : OpC K C
  nf : PySem.W.notFirst K C (.ref C) = true
def fz (n d : Int) : List (Str × V) := [("over", .int n), ("under", .int d)]
theorem fz_o {n d : Int} : List.lookup ("over" : Str) (fz n d) = some (V.int n) := rfl
theorem fz_u {n d : Int} : List.lookup ("under" : Str) (fz n d) = some (V.int d) := rfl
def Sh (C : Addr) (H : Hp) (x : Addr) (n d : Int) : Prop := ∃ dx, H x = some (.ins C dx (fz n d))
theorem Sh.mono {C : Addr} {H H' : Hp} {x : Addr} {n d : Int} (h : Sh C H x n d) (s : Same H H') : Sh C H' x n d := by
  obtain ⟨dx, e⟩ := h
  exact ⟨dx, s _ _ e⟩
theorem ShC.ty {K : PySem.W.Frag} {C : Addr} (c : ShC K C) {H : Hp} {x : Addr} {n d : Int} (h : Sh C H x n d) : TyX K H (.ref x) (.ref C) := by
  obtain ⟨dx, e⟩ := h
  exact .base (.ins e c.ins.cl c.ins.ha c.ins.hn c.ins.htk c.ins.hm)
/-- a kind that is no share's -/
structure Foe (K : PySem.W.Frag) (C : Addr) (t : Value) : Prop where
  k : PySem.W.kitOne K t (.ref C) = some false
  nf : PySem.W.notFirst K C t = true
/-- a share is made at x, its dict at dx -/
def mkS (C : Addr) (H : Hp) (x dx : Addr) (n d : Int) : Hp := upd (upd H dx (.own x)) x (.ins C dx (fz n d))
theorem mkS_same {C : Addr} {H : Hp} {x dx : Addr} {n d : Int} (hx : H x = none) (hd : H dx = none) : Same H (mkS C H x dx n d) := (same_out (same_upd hd) hx)
theorem mkS_sh {C : Addr} {H : Hp} {x dx : Addr} {n d : Int} : Sh C (mkS C H x dx n d) x n d := ⟨dx, upd_same⟩
theorem Tp.mkSh {B H H' : Hp} {t x dx C : Addr} {c : Nat} {n d : Int} (T : Tp B H t c) (hx : H x = none) (hdx : H dx = none) (hne : dx ≠ x) (e : H' = upd (upd (upd H dx (.own x)) x (.ins C dx [])) x (.ins C dx (fz n d))) : ∃ B', Same B B' ∧ Tp B' H' t c ∧ Sh C B' x n d := by
  rw [upd_upd] at e
  subst e
  exact ⟨mkS C B x dx n d, mkS_same (T.isn hx) (T.isn hdx), T.inst hx hdx hne, mkS_sh⟩
def pick3 {α : Type} (a b c : α) : Nat → α
  | 0 => a
  | 1 => b
  | _ => c
theorem get3 {S : Nat → Addr} {i : Nat} (h : i < 3) : [V.ref (S 0), V.ref (S 1), V.ref (S 2)][i]? = some (V.ref (S i)) := by
  rcases (by omega : i = 0 ∨ i = 1 ∨ i = 2) with rfl | rfl | rfl <;> rfl
def spInit (C CN : Addr) : Sp := fun vs H Q E => ∃ x dx o u, vs = [.ref x, .int o, .int u] ∧ H x = some (.ins C dx []) ∧ u.natAbs < 2 ^ 9000 ∧
  ((u ≠ 0 ∧ ∀ H', H' = upd H x (.ins C dx (fz (rOd o u) (rUd o u))) → Q .non H') ∨ (u = 0 ∧ ∀ d, H d = none → E (.ref CN) (some d) (upd H d (.xd [("number", .int 0)]))))
/-- a binary operator of two shares -/
def spOp (C : Addr) (fo fu : Int → Int → Int → Int → Int) : Sp := fun vs H Q _ => ∃ a b n d m e, vs = [.ref a, .ref b] ∧ Sh C H a n d ∧ Sh C H b m e ∧ 0 < d ∧ 0 < e ∧ (n.natAbs < 2 ^ 4000 ∧ d.natAbs < 2 ^ 4000 ∧ m.natAbs < 2 ^ 4000 ∧ e.natAbs < 2 ^ 4000) ∧
  ∀ x dx, H x = none → H dx = none → dx ≠ x → Q (.ref x) (mkS C H x dx (rOd (fo n d m e) (fu n d m e)) (rUd (fo n d m e) (fu n d m e)))
def spAdd (C : Addr) : Sp := spOp C (fun n d m e => n * e + m * d) (fun _ d _ e => d * e)
def spSub (C : Addr) : Sp := spOp C (fun n d m e => n * e - m * d) (fun _ d _ e => d * e)
def spMul (C : Addr) : Sp := spOp C (fun n _ m _ => n * m) (fun _ d _ e => d * e)
def spEq (K : PySem.W.Frag) (C : Addr) : Sp := fun vs H Q _ => ∃ a y n d, vs = [.ref a, y] ∧ Sh C H a n d ∧ ((∃ b m e, y = .ref b ∧ Sh C H b m e ∧ Q (.bl (decide (n = m) && decide (d = e))) H) ∨ ∃ t, TyX K H y t ∧ Foe K C t ∧ Q (.bl false) H)
def spBelow (C : Addr) : Sp := fun vs H Q _ => ∃ a b n d m e, vs = [.ref a, .ref b] ∧ Sh C H a n d ∧ Sh C H b m e ∧ (n.natAbs < 2 ^ 4000 ∧ d.natAbs < 2 ^ 4000 ∧ m.natAbs < 2 ^ 4000 ∧ e.natAbs < 2 ^ 4000) ∧ Q (.bl (decide (n * e < m * d))) H
def spHalf (C : Addr) : Sp := fun vs H Q _ => ∃ n : Nat, vs = [.int n] ∧ n ≤ 8000 ∧ ∀ x dx, H x = none → H dx = none → dx ≠ x → Q (.ref x) (mkS C H x dx (rOd 1 (2 ^ n)) (rUd 1 (2 ^ n)))
end KB

namespace K02
open PySem PySem.Spec PyProof.Rows L2 KB
local macro_rules | `(tactic| walk_at "hp") => `(tactic| (repeat' (first | exact upd_same | assumption | (refine same_upd (by assumption) _ _ ?_) | (rw [upd_ne (by assumption)]) | (rw [upd_ne (Ne.symm (by assumption))]))))

def topS (i : Nat) : Stmt := PySem.Challenge.pw_keptbudgets_k02_shares_in_lowest_terms.main.body.getD i (.Pass ⟨0, 0, 0, 0⟩)
abbrev s_InvalidNumber___init__ : Stmt := inClass (topS 3) 0
theorem xb_InvalidNumber : XBody s_InvalidNumber___init__ ["number"] := ⟨⟨_, _, _, _, _, _, _, _, _, rfl, rfl, .inl ⟨_, _, _, _, _, rfl, rfl⟩⟩, ⟨_, rfl, rfl⟩, fun _ _ _ _ _ _ _ _ us hl => match us, hl with | [_], _ => rfl, ⟨rfl, rfl, rfl, by decide +kernel, rfl, by decide +kernel, rfl, rfl⟩, by decide +kernel, by decide +kernel⟩
abbrev s_Share___init__ : Stmt := inClass (topS 5) 0
theorem sc_Share___init__ : FnScope ["self", "over", "under", "common"] ["self", "over", "under"] (defScope s_Share___init__) := ⟨rfl, rfl, rfl, by decide +kernel, rfl, by decide +kernel, by decide +kernel⟩
abbrev s_Share___add__ : Stmt := inClass (topS 5) 1
theorem sc_Share___add__ : FnScope ["self", "other"] ["self", "other"] (defScope s_Share___add__) := ⟨rfl, rfl, rfl, by decide +kernel, rfl, by decide +kernel, by decide +kernel⟩
abbrev s_Share___sub__ : Stmt := inClass (topS 5) 2
theorem sc_Share___sub__ : FnScope ["self", "other"] ["self", "other"] (defScope s_Share___sub__) := ⟨rfl, rfl, rfl, by decide +kernel, rfl, by decide +kernel, by decide +kernel⟩
abbrev s_Share___mul__ : Stmt := inClass (topS 5) 3
theorem sc_Share___mul__ : FnScope ["self", "other"] ["self", "other"] (defScope s_Share___mul__) := ⟨rfl, rfl, rfl, by decide +kernel, rfl, by decide +kernel, by decide +kernel⟩
abbrev s_Share___eq__ : Stmt := inClass (topS 5) 4
theorem sc_Share___eq__ : FnScope ["self", "other"] ["self", "other"] (defScope s_Share___eq__) := ⟨rfl, rfl, rfl, by decide +kernel, rfl, by decide +kernel, by decide +kernel⟩
abbrev s_Share_is_below : Stmt := inClass (topS 5) 5
theorem sc_Share_is_below : FnScope ["self", "other"] ["self", "other"] (defScope s_Share_is_below) := ⟨rfl, rfl, rfl, by decide +kernel, rfl, by decide +kernel, by decide +kernel⟩
abbrev s_half_of : Stmt := topS 6
theorem sc_half_of : FnScope ["length"] ["length"] (defScope s_half_of) := ⟨rfl, rfl, rfl, by decide +kernel, rfl, by decide +kernel, by decide +kernel⟩
abbrev s_law_tape : Stmt := topS 8
theorem sc_law_tape : FnScope ["script", "great", "seed", "cell"] ["script"] (defScope s_law_tape) := ⟨rfl, rfl, rfl, by decide +kernel, rfl, by decide +kernel, by decide +kernel⟩
abbrev s_law_draw : Stmt := topS 9
theorem sc_law_draw : FnScope ["tape", "limit", "great", "number", "mixed"] ["tape", "limit"] (defScope s_law_draw) := ⟨rfl, rfl, rfl, by decide +kernel, rfl, by decide +kernel, by decide +kernel⟩
abbrev s_law_number : Stmt := topS 10
theorem sc_law_number : FnScope ["tape", "kind", "number", "k"] ["tape"] (defScope s_law_number) := ⟨rfl, rfl, rfl, by decide +kernel, rfl, by decide +kernel, by decide +kernel⟩
abbrev s_law_lowest : Stmt := topS 11
theorem sc_law_lowest : FnScope ["over", "under", "low", "rest", "k", "more"] ["over", "under"] (defScope s_law_lowest) := ⟨rfl, rfl, rfl, by decide +kernel, rfl, by decide +kernel, by decide +kernel⟩
abbrev s_law_integer : Stmt := topS 12
theorem sc_law_integer : FnScope ["told", "due"] ["told", "due"] (defScope s_law_integer) := ⟨rfl, rfl, rfl, by decide +kernel, rfl, by decide +kernel, by decide +kernel⟩
abbrev s_law_is : Stmt := topS 13
theorem sc_law_is : FnScope ["told", "due"] ["told", "due"] (defScope s_law_is) := ⟨rfl, rfl, rfl, by decide +kernel, rfl, by decide +kernel, by decide +kernel⟩
abbrev s_law_sum : Stmt := topS 14
theorem sc_law_sum : FnScope ["one", "other"] ["one", "other"] (defScope s_law_sum) := ⟨rfl, rfl, rfl, by decide +kernel, rfl, by decide +kernel, by decide +kernel⟩
abbrev s_law_less : Stmt := topS 15
theorem sc_law_less : FnScope ["one", "other"] ["one", "other"] (defScope s_law_less) := ⟨rfl, rfl, rfl, by decide +kernel, rfl, by decide +kernel, by decide +kernel⟩
abbrev s_law_times : Stmt := topS 16
theorem sc_law_times : FnScope ["one", "other"] ["one", "other"] (defScope s_law_times) := ⟨rfl, rfl, rfl, by decide +kernel, rfl, by decide +kernel, by decide +kernel⟩
abbrev s_law_pair_right : Stmt := topS 17
theorem sc_law_pair_right : FnScope ["one", "other", "first", "second", "alike", "told", "below"] ["one", "other", "first", "second"] (defScope s_law_pair_right) := ⟨rfl, rfl, rfl, by decide +kernel, rfl, by decide +kernel, by decide +kernel⟩
abbrev s_law_strangers_right : Stmt := topS 18
theorem sc_law_strangers_right : FnScope ["share", "due", "things", "thing", "told"] ["share", "due"] (defScope s_law_strangers_right) := ⟨rfl, rfl, rfl, by decide +kernel, rfl, by decide +kernel, by decide +kernel⟩
abbrev s_law_refused : Stmt := topS 19
theorem sc_law_refused : FnScope ["over", "by_name", "e"] ["over", "by_name"] (defScope s_law_refused) := ⟨rfl, rfl, rfl, by decide +kernel, rfl, by decide +kernel, by decide +kernel⟩
abbrev s_law_chain_right : Stmt := topS 20
theorem sc_law_chain_right : FnScope ["tape", "due", "share", "k", "over", "under", "step", "kind"] ["tape"] (defScope s_law_chain_right) := ⟨rfl, rfl, rfl, by decide +kernel, rfl, by decide +kernel, by decide +kernel⟩
abbrev s_law_asks : Stmt := topS 21
theorem sc_law_asks : FnScope ["script", "tape", "numbers", "k", "under", "shape", "times", "made", "due", "pair", "length"] ["script"] (defScope s_law_asks) := ⟨rfl, rfl, rfl, by decide +kernel, rfl, by decide +kernel, by decide +kernel⟩
abbrev s_law : Stmt := topS 22
theorem sc_law : FnScope ["script"] ["script"] (defScope s_law) := ⟨rfl, rfl, rfl, by decide +kernel, rfl, by decide +kernel, by decide +kernel⟩
structure Txt (K : PySem.W.Frag) (mg : Str → Option Value) (C_Share : Addr) : Prop where
  b_super : mg "super" = none
  b_isinstance : mg "isinstance" = none
  b_int : mg "int" = none
  b_abs : mg "abs" = none
  b_range : mg "range" = none
  b_bool : mg "bool" = none
  f_gcd : mg "gcd" = some (.builtin "math.gcd")
  g_Share : mg "Share" = some (.ref C_Share)
/-! ### the tape's two defs -/
def spTape (K : PySem.W.Frag) : Sp := fun vs H Q _ => ∃ (a : Addr) (ns : List Int), vs = [.ref a] ∧ SqL K H a (ns.map V.int) ∧ ns.length ≤ 63 ∧ ∀ H' t, Tp H H' t 0 → Q (.ref t) H'
def spDraw : Sp := fun vs H Q _ => ∃ (B : Hp) (t : Addr) (c : Nat) (lim : Int), vs = [.ref t, .int lim] ∧ Tp B H t c ∧ 0 < lim ∧ lim < 1073741824 ∧ c < 1000000000 ∧ ∀ H' n, Tp B H' t (c + 1) → 0 ≤ n → n < lim → Q (.int n) H'
section
variable {P : Program} {w : World} {K : PySem.W.Frag} {mg : Str → Option Value} {base : Heap} {C_Share : Addr}
theorem ok_law_tape {f : Addr} {fd : FuncData} (F : Fun K "_law_tape" "_law_tape" s_law_tape f fd) (T : Txt K mg C_Share) : FnOk P w K mg base CX0 1 f fd ["script"] (spTape K) := by
  refine F.ok sc_law_tape (fun vs H Q E h => ?_) (fun cdv A outer s H vs Q E hr h => ?_)
  · obtain ⟨a, ns, rfl, _⟩ := h
    rfl
  · obtain ⟨a, ns, rfl, hS, hlen, q⟩ := h
    refine ⟨_, (pss_cons (ps_set (i := 1) sc_law_tape.nd rfl (by first | exact Or.inl rfl | exact Or.inr rfl) (pe_lst pa_nil))
    (pss_cons (ps_set (i := 2) sc_law_tape.nd rfl (by first | exact Or.inl rfl | exact Or.inr rfl) pe_int)
    (pss_cons (ps_for PassesOwn.never rfl (pi_list (pe_slice sl_list (pv 0) po_none (po_some pe_int))) (pg_name (i := 3) sc_law_tape.nd rfl (by first | exact Or.inl rfl | exact Or.inr rfl))
      (pss_cons (ps_set (i := 2) sc_law_tape.nd rfl (by first | exact Or.inl rfl | exact Or.inr rfl) (pe_op op_mod (pe_callTy call_int1 (by rfl) T.b_int (by decide +kernel) (pa_cons (pe_op op_add (pe_op op_mul (pv 2) pe_int) (pe_callTy call_int1 (by rfl) T.b_int (by decide +kernel) (pa_cons (pv 3) pa_nil))) pa_nil)) pe_int))
        (pss_one (ps_if (pt_cmpR op_ge (pe_callB call_abs (by rfl) T.b_abs (by decide +kernel) (pa_cons (pe_callTy call_int1 (by rfl) T.b_int (by decide +kernel) (pa_cons (pv 3) pa_nil)) pa_nil)) (pe_op op_pow pe_int pe_int) (nomark _))
          (pss_one (ps_expr (pe_bm PySem.F.plainAttrs_list PySem.F.slot_list_append PySem.F.type_list_append mt_append (pv 1) (pa_cons (pe_callB call_abs (by rfl) T.b_abs (by decide +kernel) (pa_cons (pe_callTy call_int1 (by rfl) T.b_int (by decide +kernel) (pa_cons (pv 3) pa_nil)) pa_nil)) pa_nil))))
          pss_nil))))
    (pss_cons (ps_expr (pe_bm0 PySem.F.plainAttrs_list PySem.F.slot_list_reverse PySem.F.type_list_reverse mt_reverse (pv 1)))
    (pss_one (ps_ret (pe_lst (pa_cons (pv 1) (pa_cons (pv 2) (pa_cons pe_int pa_nil)))))))))), ?_⟩
    refine ⟨Nat.zero_le _, fun g hg => ?_⟩
    have s1 : Same H (upd H g (.lst [])) := same_upd hg
    refine ⟨_, rfl, 63, rfl, a, _, rfl, s1.seq hS, fun p hp => ?_⟩
    have hpg : g ≠ p := ne_of_none upd_same hp
    have hHp : H p = none := s1.free hp
    obtain ⟨ms, em, lm⟩ : ∃ ms : List Int, cutV (ns.map V.int) none (some 63) = ms.map V.int ∧ ms.length ≤ 63 := by
      refine ⟨(ns.drop (HT.sIx (ns.map V.int).length 0 none)).take (HT.sIx (ns.map V.int).length (ns.map V.int).length (some 63) - HT.sIx (ns.map V.int).length 0 none), ?_, ?_⟩
      · unfold cutV
        rw [List.map_take, List.map_drop]
      · rw [List.length_take, List.length_drop]
        omega
    rw [em]
    refine ⟨p, rfl, ⟨_, SqL.of upd_same⟩, for_list (K := K) (a := p) (xs := ms.map V.int) (fun i σ H' => ∃ (gs : List Int) (sd : Int) (v : Option V), σ = [some (.ref a), some (.ref g), some (.int sd), v] ∧ Same H H' ∧ H' g = some (.lst (gs.map V.int)) ∧ H' p = some (.lst (ms.map V.int)) ∧ gs.length ≤ i ∧ 0 ≤ sd ∧ sd < 2147483647)
      ⟨[], _, none, rfl, ?_, ?_, upd_same, Nat.le_refl _, by decide, by decide⟩ (fun i σ H' _ h => ?_) ?_ ?_⟩
    · exact s1.trans (same_upd hp)
    · rw [upd_ne hpg, upd_same]
      rfl
    · obtain ⟨_, _, _, _, _, _, h, _⟩ := h
      exact SqL.of h
    · rintro i x σ H' hi ⟨gs, sd, v, rfl, sm, eg, ep, hl, h0, h1⟩
      obtain ⟨u, rfl⟩ : ∃ u, x = V.int u := by
        rw [List.getElem?_map] at hi
        cases e : ms[i]? with
        | none => rw [e] at hi; cases hi
        | some u => rw [e] at hi; exact ⟨u, (Option.some.inj hi).symm⟩
      have hi63 : i < 63 := by
        have q := (List.getElem?_eq_some_iff.mp hi).1
        rw [List.length_map] at q
        omega
      refine ⟨_, rfl, _, _, rfl, rfl, .inl ⟨by omega, by omega⟩, _, rfl, .inl ⟨_, rfl, _, _, rfl, rfl, .inl ⟨_, rfl, _, _, rfl, rfl, (by show (0 : Int) < 2147483647; decide), ?_⟩⟩⟩
      have b0 := Int.emod_nonneg (sd * 48271 + u) (b := 2147483647) (by decide)
      have b1 := Int.emod_lt_of_pos (sd * 48271 + u) (b := 2147483647) (by decide)
      refine ⟨_, rfl, .inl ⟨_, rfl, _, rfl, _, _, rfl, rfl, ⟨by decide, by decide, by decide⟩, _, _, rfl, rfl, _, rfl, ite2 (fun _ => ?_) (fun _ => ?_)⟩⟩
      · refine ⟨_, rfl, .inl ⟨rfl, _, SqL.of eg⟩, _, rfl, .inl ⟨_, rfl, _, rfl, g, _, _, rfl, rfl, eg, ?_, ?_⟩⟩
        · rw [List.length_map]
          exact szl (by omega)
        · refine ⟨gs ++ [if u < 0 then -u else u], _, _, rfl, same_out sm hg, ?_, ?_, ?_, b0, b1⟩
          · rw [upd_same, List.map_append]
            rfl
          · rw [upd_ne hpg.symm]
            exact ep
          · rw [List.length_append]
            simp only [List.length_cons, List.length_nil]
            omega
      · exact ⟨gs, _, _, rfl, sm, eg, ep, by omega, b0, b1⟩
    · rintro σ H' ⟨gs, sd, v, rfl, sm, eg, ep, hl, h0, h1⟩
      refine ⟨_, rfl, .inl ⟨rfl, _, SqL.of eg⟩, g, _, rfl, rfl, eg, ?_⟩
      refine ⟨_, rfl, _, rfl, szle (by show 3 ≤ 16777216; decide), fun t ht => ?_⟩
      have ht' : H' t = none := by
        by_cases e : t = g
        · rw [e, upd_same] at ht
          cases ht
        · rw [upd_ne e] at ht
          exact ht
      have htg : t ≠ g := fun e => by rw [e, upd_same] at ht; cases ht
      refine q _ t ⟨same_out (same_out sm hg) (sm.free ht'), sm.free ht', g, gs.reverse, sd, 0, hg, htg, upd_same, ?_, ?_, h0, h1, by decide, by decide⟩
      · rw [upd_ne htg.symm, upd_same, List.map_reverse]
      · rw [List.length_reverse]
        rw [List.length_map] at hl
        omega
theorem ok_law_draw {f : Addr} {fd : FuncData} (F : Fun K "_law_draw" "_law_draw" s_law_draw f fd) (T : Txt K mg C_Share) : FnOk P w K mg base CX0 1 f fd ["tape", "limit"] spDraw := by
  refine F.ok sc_law_draw (fun vs H Q E h => ?_) (fun cdv A outer s H vs Q E hr h => ?_)
  · obtain ⟨B, t, c, lim, rfl, _⟩ := h
    rfl
  · obtain ⟨B, t, c, lim, rfl, ⟨sm, bt, g, gs, sd, ct, bg, htg, et, eg, hgl, s0, s1, c0, c1⟩, l0, l1, hc, q⟩ := h
    refine ⟨_, (pss_cons (ps_set (i := 2) sc_law_draw.nd rfl (by first | exact Or.inl rfl | exact Or.inr rfl) (pe_ix ix_list (pv 0) pe_int (fun _ _ => rfl)))
    (pss_cons (ps_if (pt_truth (pv 2) (by intro _; rfl))
      (pss_cons (ps_set (i := 3) sc_law_draw.nd rfl (by first | exact Or.inl rfl | exact Or.inr rfl) (pe_bm0 PySem.F.plainAttrs_list PySem.F.slot_list_pop PySem.F.type_list_pop mt_pop (pv 2)))
        (pss_cons (ps_if (pt_cmpR op_ge (pv 3) (pv 1) (nomark _))
          (pss_one (ps_expr (pe_bm PySem.F.plainAttrs_list PySem.F.slot_list_append PySem.F.type_list_append mt_append (pv 2) (pa_cons (pe_op op_fdivN (pv 3) (pv 1)) pa_nil))))
          pss_nil)
        (pss_one (ps_ret (pe_op op_mod (pe_callTy call_int1 (by rfl) T.b_int (by decide +kernel) (pa_cons (pv 3) pa_nil)) (pv 1))))))
      pss_nil)
    (pss_cons (ps_asg (pe_op op_add (pe_ix ix_list (pv 0) pe_int (fun _ _ => rfl)) pe_int) (pg_sub (pv 0) pe_int set_list))
    (pss_cons (ps_set (i := 4) sc_law_draw.nd rfl (by first | exact Or.inl rfl | exact Or.inr rfl) (pe_op op_mod (pe_callTy call_int1 (by rfl) T.b_int (by decide +kernel) (pa_cons (pe_op op_add (pe_op op_mul (pe_callTy call_int1 (by rfl) T.b_int (by decide +kernel) (pa_cons (pe_op op_add (pe_ix ix_list (pv 0) pe_int (fun _ _ => rfl)) (pe_ix ix_list (pv 0) pe_int (fun _ _ => rfl))) pa_nil)) pe_int) (pe_op op_mul (pe_op op_mul (pe_ix ix_list (pv 0) pe_int (fun _ _ => rfl)) (pe_ix ix_list (pv 0) pe_int (fun _ _ => rfl))) pe_int)) pa_nil)) pe_int))
    (pss_one (ps_ret (pe_op op_mod (pe_op op_fdiv (pe_op op_mod (pe_callTy call_int1 (by rfl) T.b_int (by decide +kernel) (pa_cons (pe_op op_add (pe_op op_mul (pv 4) (pv 4)) (pe_op op_mul (pe_ix ix_list (pv 0) pe_int (fun _ _ => rfl)) pe_int)) pa_nil)) pe_int) pe_int) (pv 1)))))))), ?_⟩
    refine ⟨_, rfl, t, _, _, _, rfl, rfl, SqL.of et, atI_nat (j := 0) rfl, ?_⟩
    refine ⟨_, rfl, _, .inl ⟨_, SqL.of eg, rfl⟩, ?_⟩
    cases hgs : gs.reverse with
    | nil =>
      have e0 : gs = [] := by
        have := congrArg List.reverse hgs
        rwa [List.reverse_reverse] at this
      subst e0
      refine iteF ?_
      refine ⟨_, rfl, t, _, _, _, rfl, rfl, SqL.of et, atI_nat (j := 2) rfl, _, _, rfl, rfl, ?_⟩
      refine ⟨_, rfl, t, _, _, _, rfl, rfl, et, rfl, ?_⟩
      have eg' : ∀ o, upd H t o g = some (.lst (([] : List Int).map V.int)) := fun o => by rw [upd_ne htg.symm]; exact eg
      have et2 : (upd H t (.lst [.ref g, .int sd, .int (ct + 1)])) t = some (.lst [.ref g, .int sd, .int (ct + 1)]) := upd_same
      have at1 : atI [V.ref g, V.int sd, V.int (ct + 1)] 1 = some (.int sd) := atI_nat (j := 1) rfl
      have at2 : atI [V.ref g, V.int sd, V.int (ct + 1)] 2 = some (.int (ct + 1)) := atI_nat (j := 2) rfl
      have hb : ct + 1 ≤ 1000000000 := by omega
      have hsq : 0 ≤ (ct + 1) * (ct + 1) ∧ (ct + 1) * (ct + 1) ≤ 1000000000 * 1000000000 := ⟨Int.mul_nonneg (by omega) (by omega), Int.mul_le_mul hb hb (by omega) (by decide)⟩
      refine ⟨_, rfl, t, _, _, _, rfl, rfl, SqL.of et2, at1, _, rfl, t, _, _, _, rfl, rfl, SqL.of et2, at2, _, _, rfl, rfl, .inl ⟨_, rfl, _, _, rfl, rfl, .inl ⟨by omega, by omega⟩, ?_⟩⟩
      refine ⟨_, rfl, t, _, _, _, rfl, rfl, SqL.of et2, at2, _, rfl, t, _, _, _, rfl, rfl, SqL.of et2, at2, _, _, rfl, rfl, .inl ⟨by omega, by omega⟩, ?_⟩
      refine ⟨_, _, rfl, rfl, .inl ⟨by omega, by omega⟩, _, _, rfl, rfl, .inl ⟨_, rfl, _, _, rfl, rfl, (by show (0 : Int) < 2147483629; decide), ?_⟩⟩
      have b0 := Int.emod_nonneg ((sd + (ct + 1)) * 69621 + (ct + 1) * (ct + 1) * 40692) (b := 2147483629) (by decide)
      have b1 := Int.emod_lt_of_pos ((sd + (ct + 1)) * 69621 + (ct + 1) * (ct + 1) * 40692) (b := 2147483629) (by decide)
      refine ⟨_, rfl, _, rfl, _, _, rfl, rfl, .inl ⟨by omega, by omega⟩, _, rfl, t, _, _, _, rfl, rfl, SqL.of et2, at2, _, _, rfl, rfl, .inl ⟨by omega, by omega⟩, _, _, rfl, rfl, .inl ⟨_, rfl, _, _, rfl, rfl, (by show (0 : Int) < 2147483647; decide), _, _, rfl, rfl, ⟨by decide, by decide⟩, _, rfl, _, _, rfl, rfl, l0, ?_⟩⟩
      refine q _ _ ⟨same_out sm bt, bt, g, [], sd, ct + 1, bg, htg, upd_same, eg' _, Nat.zero_le _, s0, s1, by omega, by omega⟩ (Int.emod_nonneg _ (by omega)) (Int.emod_lt_of_pos _ l0)
    | cons n r =>
      have e0 : gs = r.reverse ++ [n] := by
        have := congrArg List.reverse hgs
        rwa [List.reverse_reverse, List.reverse_cons] at this
      subst e0
      have eT : (!((r.reverse ++ [n]).map V.int).isEmpty) = true := by
        rw [List.map_append]
        cases List.map V.int r.reverse <;> rfl
      rw [eT]
      refine iteT ?_
      have lr : r.length ≤ 62 := by
        rw [List.length_append, List.length_reverse] at hgl
        simp only [List.length_cons, List.length_nil] at hgl
        omega
      have eg2 : H g = some (.lst (r.reverse.map V.int ++ [V.int n])) := by
        rw [eg, List.map_append]
        rfl
      have hpop : (r.reverse.map V.int ++ [V.int n])[(r.reverse.map V.int ++ [V.int n]).length - 1]? = some (V.int n) := by
        rw [List.length_append]
        simp
      refine ⟨_, rfl, .inl ⟨rfl, _, SqL.of eg2⟩, g, _, _, rfl, rfl, eg2, hpop, ?_⟩
      rw [List.dropLast_concat]
      have fin : ∀ H' gs', Same B H' → H' t = some (.lst [.ref g, .int sd, .int ct]) → H' g = some (.lst (List.map V.int gs')) → gs'.length ≤ 63 → Q (.int (n % lim)) H' := fun H' gs' a1 a2 a3 a4 =>
        q _ _ ⟨a1, bt, g, gs', sd, ct, bg, htg, a2, a3, a4, s0, s1, c0, by omega⟩ (Int.emod_nonneg _ (by omega)) (Int.emod_lt_of_pos _ l0)
      refine ⟨_, rfl, _, rfl, _, _, rfl, rfl, _, rfl, ite2 (fun _ => ?_) (fun _ => ?_)⟩
      · refine ⟨_, rfl, .inl ⟨rfl, _, SqL.of upd_same⟩, _, rfl, _, rfl, _, _, rfl, rfl, ⟨by omega, by omega⟩, g, _, _, rfl, rfl, upd_same, ?_, ?_⟩
        · rw [List.length_map, List.length_reverse]
          exact szl (by omega)
        · refine ⟨_, rfl, .inl ⟨_, rfl, _, rfl, _, _, rfl, rfl, l0, ?_⟩⟩
          refine fin _ (r.reverse ++ [n.fdiv lim]) (same_out (same_out sm bg) bg) ?_ ?_ ?_
          · rw [upd_ne htg, upd_ne htg]
            exact et
          · rw [upd_same, List.map_append]
            rfl
          · rw [List.length_append, List.length_reverse]
            simp only [List.length_cons, List.length_nil]
            omega
      · refine ⟨_, rfl, .inl ⟨_, rfl, _, rfl, _, _, rfl, rfl, l0, ?_⟩⟩
        refine fin _ r.reverse (same_out sm bg) ?_ upd_same ?_
        · rw [upd_ne htg]
          exact et
        · rw [List.length_reverse]
          omega
end

/-! ### the class of shares -/
section
variable {P : Program} {w : World} {K : PySem.W.Frag} {mg : Str → Option Value} {base : Heap} {C_Share : Addr} {C_InvalidNumber : Addr}
theorem ok_Share___init__ {f : Addr} {fd : FuncData} (F : Fun K "__init__" "Share.__init__" s_Share___init__ f fd) (T : Txt K mg C_Share) (x_InvalidNumber : XErr P K mg "InvalidNumber" C_InvalidNumber ["number"]) (c : ShC K C_Share) : FnOk P w K mg base (L2N.CX P w) 1 f fd ["self", "over", "under"] (spInit C_Share C_InvalidNumber) := by
  refine Fun_okN F sc_Share___init__ (fun vs H Q E h => ?_) (fun cdv A outer s H vs Q E hr h => ?_)
  · obtain ⟨x, dx, o, u, rfl, _⟩ := h
    rfl
  · obtain ⟨x, dx, o, u, rfl, hx, hu, q⟩ := h
    refine ⟨_, (pss_cons (ps_if (pt_cmpR op_eq (pv 2) pe_int (nomark _))
      (pss_one (ps_raiseX rfl x_InvalidNumber hr (L2N.takes_of rfl rfl rfl rfl) (pa_cons (pv 2) pa_nil)))
      pss_nil)
    (pss_cons (ps_set (i := 3) sc_Share___init__.nd rfl (by first | exact Or.inl rfl | exact Or.inr rfl) (pe_callBfun cr_gcd (by rfl) T.f_gcd (pa_cons (pv 1) (pa_cons (pv 2) pa_nil))))
    (pss_cons (ps_if (pt_cmpR op_lt (pv 2) pe_int (nomark _))
      (pss_one (ps_set (i := 3) sc_Share___init__.nd rfl (by first | exact Or.inl rfl | exact Or.inr rfl) (pe_un un_neg (pv 3))))
      pss_nil)
    (pss_cons (ps_fld (pv 0) (pe_op op_fdivV (pv 1) (pv 3)) rfl)
    (pss_one (ps_fld (pv 0) (pe_op op_fdivV (pv 2) (pv 3)) rfl)))))), ?_⟩
    have z0 : decide (V.int u = V.int 0) = decide (u = 0) := by simp
    rcases q with ⟨hn, q⟩ | ⟨rfl, q⟩
    · replace q := q _ rfl
      refine ⟨_, rfl, rfl, _, rfl, ?_⟩
      rw [z0, decide_eq_false hn]
      refine iteF ?_
      have l9 : ∀ g : Int, g.natAbs = gN o u → g.natAbs.log2 < 9000 := fun g e => by
        have := gN_pos (o := o) hn
        have := gN_le (o := o) hn
        exact (Nat.log2_lt (by omega)).mpr (by omega)
      refine ⟨_, rfl, _, rfl, _, _, rfl, _, rfl, _, _, rfl, rfl, _, rfl, ?_⟩
      by_cases hu0 : u < 0
      · have ec : -((Nat.gcd o.natAbs u.natAbs : Nat) : Int) = cN o u := by unfold cN gN; rw [if_pos hu0]
        have cc : ∀ i : Int, CDivV i (-((Nat.gcd o.natAbs u.natAbs : Nat) : Int)) := fun i => by rw [ec]; exact ⟨cN_ne hn, l9 _ cN_abs⟩
        have e1 : o.fdiv (-((Nat.gcd o.natAbs u.natAbs : Nat) : Int)) = rOd o u := by rw [ec]; exact fdiv_o hn
        have e2 : u.fdiv (-((Nat.gcd o.natAbs u.natAbs : Nat) : Int)) = rUd o u := by rw [ec]; exact fdiv_u hn
        rw [← e1, ← e2, ← upd_upd (o := .ins C_Share dx [("over", V.int (o.fdiv (-((Nat.gcd o.natAbs u.natAbs : Nat) : Int))))])] at q
        rw [decide_eq_true hu0]
        refine iteT ?_
        refine ⟨_, rfl, _, rfl, ?_⟩
        refine ⟨_, rfl, _, rfl, _, _, rfl, rfl, cc _, _, rfl, x, _, dx, _, rfl, hx, c.ins.cl, c.no, by decide, ?_⟩
        refine ⟨_, rfl, _, rfl, _, _, rfl, rfl, cc _, _, rfl, x, _, dx, _, rfl, upd_same, c.ins.cl, c.nu, by show 1 < 1000; decide, ?_⟩
        exact q
      · have ec : ((Nat.gcd o.natAbs u.natAbs : Nat) : Int) = cN o u := by unfold cN gN; rw [if_neg hu0]
        have cc : ∀ i : Int, CDivV i ((Nat.gcd o.natAbs u.natAbs : Nat) : Int) := fun i => by rw [ec]; exact ⟨cN_ne hn, l9 _ cN_abs⟩
        have e1 : o.fdiv ((Nat.gcd o.natAbs u.natAbs : Nat) : Int) = rOd o u := by rw [ec]; exact fdiv_o hn
        have e2 : u.fdiv ((Nat.gcd o.natAbs u.natAbs : Nat) : Int) = rUd o u := by rw [ec]; exact fdiv_u hn
        rw [← e1, ← e2, ← upd_upd (o := .ins C_Share dx [("over", V.int (o.fdiv ((Nat.gcd o.natAbs u.natAbs : Nat) : Int)))])] at q
        rw [decide_eq_false hu0]
        refine iteF ?_
        refine ⟨_, rfl, _, rfl, _, _, rfl, rfl, cc _, _, rfl, x, _, dx, _, rfl, hx, c.ins.cl, c.no, by decide, ?_⟩
        refine ⟨_, rfl, _, rfl, _, _, rfl, rfl, cc _, _, rfl, x, _, dx, _, rfl, upd_same, c.ins.cl, c.nu, by show 1 < 1000; decide, ?_⟩
        exact q
    · refine ⟨_, rfl, rfl, _, rfl, ?_⟩
      rw [z0, decide_eq_true rfl]
      refine iteT ?_
      exact ⟨_, rfl, rfl, fun d hd => q d hd⟩
theorem ok_Share___add__ {f : Addr} {fd : FuncData} (F : Fun K "__add__" "Share.__add__" s_Share___add__ f fd) (T : Txt K mg C_Share) (m_Share : MakX P w K mg base 1 "Share" C_Share (spInit C_Share C_InvalidNumber)) (c : ShC K C_Share) : FnOk P w K mg base CX0 3 f fd ["self", "other"] (spAdd C_Share) := by
  refine F.ok sc_Share___add__ (fun vs H Q E h => ?_) (fun cdv A outer s H vs Q E hr h => ?_)
  · obtain ⟨a, b, n, d, m, e, rfl, _⟩ := h
    rfl
  · obtain ⟨a, b, n, d, m, e, rfl, ⟨da, ha⟩, ⟨db, hb⟩, h1, h2, ⟨b1, b2, b3, b4⟩, q⟩ := h
    refine ⟨_, (pss_one (ps_ret (pe_mkx m_Share hr (by omega) (by rfl) (pa_cons (pe_op op_add (pe_op op_mulW (pe_fld (pv 0) rfl) (pe_fld (pv 1) rfl)) (pe_op op_mulW (pe_fld (pv 1) rfl) (pe_fld (pv 0) rfl))) (pa_cons (pe_op op_mulW (pe_fld (pv 0) rfl) (pe_fld (pv 1) rfl)) pa_nil))))), ?_⟩
    refine ⟨_, rfl, a, C_Share, da, _, _, rfl, ha, c.ins.cl, c.no, fz_o, _, rfl, b, C_Share, db, _, _, rfl, hb, c.ins.cl, c.nu, fz_u, _, _, rfl, rfl, wide_mul b1 b4 (by decide) (by decide) (by decide), ?_⟩
    refine ⟨_, rfl, b, C_Share, db, _, _, rfl, hb, c.ins.cl, c.no, fz_o, _, rfl, a, C_Share, da, _, _, rfl, ha, c.ins.cl, c.nu, fz_u, _, _, rfl, rfl, wide_mul b3 b2 (by decide) (by decide) (by decide), _, _, rfl, rfl, ?_⟩
    refine ⟨_, rfl, a, C_Share, da, _, _, rfl, ha, c.ins.cl, c.nu, fz_u, _, rfl, b, C_Share, db, _, _, rfl, hb, c.ins.cl, c.nu, fz_u, _, _, rfl, rfl, wide_mul b2 b4 (by decide) (by decide) (by decide), ?_⟩
    refine fun x dx hx hdx hne => ⟨x, dx, _, _, rfl, upd_same, bits_le (bits_mul b2 b4) (by decide), .inl ⟨Int.ne_of_gt (Int.mul_pos h1 h2), fun H' e' => ⟨rfl, ?_⟩⟩⟩
    subst e'
    have := q x dx hx hdx hne
    unfold mkS at this
    rw [← upd_upd (o := .ins C_Share dx [])] at this
    exact this
theorem ok_Share___sub__ {f : Addr} {fd : FuncData} (F : Fun K "__sub__" "Share.__sub__" s_Share___sub__ f fd) (T : Txt K mg C_Share) (m_Share : MakX P w K mg base 1 "Share" C_Share (spInit C_Share C_InvalidNumber)) (c : ShC K C_Share) : FnOk P w K mg base CX0 3 f fd ["self", "other"] (spSub C_Share) := by
  refine F.ok sc_Share___sub__ (fun vs H Q E h => ?_) (fun cdv A outer s H vs Q E hr h => ?_)
  · obtain ⟨a, b, n, d, m, e, rfl, _⟩ := h
    rfl
  · obtain ⟨a, b, n, d, m, e, rfl, ⟨da, ha⟩, ⟨db, hb⟩, h1, h2, ⟨b1, b2, b3, b4⟩, q⟩ := h
    refine ⟨_, (pss_one (ps_ret (pe_mkx m_Share hr (by omega) (by rfl) (pa_cons (pe_op op_sub (pe_op op_mulW (pe_fld (pv 0) rfl) (pe_fld (pv 1) rfl)) (pe_op op_mulW (pe_fld (pv 1) rfl) (pe_fld (pv 0) rfl))) (pa_cons (pe_op op_mulW (pe_fld (pv 0) rfl) (pe_fld (pv 1) rfl)) pa_nil))))), ?_⟩
    refine ⟨_, rfl, a, C_Share, da, _, _, rfl, ha, c.ins.cl, c.no, fz_o, _, rfl, b, C_Share, db, _, _, rfl, hb, c.ins.cl, c.nu, fz_u, _, _, rfl, rfl, wide_mul b1 b4 (by decide) (by decide) (by decide), ?_⟩
    refine ⟨_, rfl, b, C_Share, db, _, _, rfl, hb, c.ins.cl, c.no, fz_o, _, rfl, a, C_Share, da, _, _, rfl, ha, c.ins.cl, c.nu, fz_u, _, _, rfl, rfl, wide_mul b3 b2 (by decide) (by decide) (by decide), _, _, rfl, rfl, ?_⟩
    refine ⟨_, rfl, a, C_Share, da, _, _, rfl, ha, c.ins.cl, c.nu, fz_u, _, rfl, b, C_Share, db, _, _, rfl, hb, c.ins.cl, c.nu, fz_u, _, _, rfl, rfl, wide_mul b2 b4 (by decide) (by decide) (by decide), ?_⟩
    refine fun x dx hx hdx hne => ⟨x, dx, _, _, rfl, upd_same, bits_le (bits_mul b2 b4) (by decide), .inl ⟨Int.ne_of_gt (Int.mul_pos h1 h2), fun H' e' => ⟨rfl, ?_⟩⟩⟩
    subst e'
    have := q x dx hx hdx hne
    unfold mkS at this
    rw [← upd_upd (o := .ins C_Share dx [])] at this
    exact this
theorem ok_Share___mul__ {f : Addr} {fd : FuncData} (F : Fun K "__mul__" "Share.__mul__" s_Share___mul__ f fd) (T : Txt K mg C_Share) (m_Share : MakX P w K mg base 1 "Share" C_Share (spInit C_Share C_InvalidNumber)) (c : ShC K C_Share) : FnOk P w K mg base CX0 3 f fd ["self", "other"] (spMul C_Share) := by
  refine F.ok sc_Share___mul__ (fun vs H Q E h => ?_) (fun cdv A outer s H vs Q E hr h => ?_)
  · obtain ⟨a, b, n, d, m, e, rfl, _⟩ := h
    rfl
  · obtain ⟨a, b, n, d, m, e, rfl, ⟨da, ha⟩, ⟨db, hb⟩, h1, h2, ⟨b1, b2, b3, b4⟩, q⟩ := h
    refine ⟨_, (pss_one (ps_ret (pe_mkx m_Share hr (by omega) (by rfl) (pa_cons (pe_op op_mulW (pe_fld (pv 0) rfl) (pe_fld (pv 1) rfl)) (pa_cons (pe_op op_mulW (pe_fld (pv 0) rfl) (pe_fld (pv 1) rfl)) pa_nil))))), ?_⟩
    refine ⟨_, rfl, a, C_Share, da, _, _, rfl, ha, c.ins.cl, c.no, fz_o, _, rfl, b, C_Share, db, _, _, rfl, hb, c.ins.cl, c.no, fz_o, _, _, rfl, rfl, wide_mul b1 b3 (by decide) (by decide) (by decide), ?_⟩
    refine ⟨_, rfl, a, C_Share, da, _, _, rfl, ha, c.ins.cl, c.nu, fz_u, _, rfl, b, C_Share, db, _, _, rfl, hb, c.ins.cl, c.nu, fz_u, _, _, rfl, rfl, wide_mul b2 b4 (by decide) (by decide) (by decide), ?_⟩
    refine fun x dx hx hdx hne => ⟨x, dx, _, _, rfl, upd_same, bits_le (bits_mul b2 b4) (by decide), .inl ⟨Int.ne_of_gt (Int.mul_pos h1 h2), fun H' e' => ⟨rfl, ?_⟩⟩⟩
    subst e'
    have := q x dx hx hdx hne
    unfold mkS at this
    rw [← upd_upd (o := .ins C_Share dx [])] at this
    exact this
theorem ok_Share___eq__ {f : Addr} {fd : FuncData} (F : Fun K "__eq__" "Share.__eq__" s_Share___eq__ f fd) (T : Txt K mg C_Share) (c : ShC K C_Share) : FnOk P w K mg base CX0 1 f fd ["self", "other"] (spEq K C_Share) := by
  refine F.ok sc_Share___eq__ (fun vs H Q E h => ?_) (fun cdv A outer s H vs Q E hr h => ?_)
  · obtain ⟨a, y, n, d, rfl, _⟩ := h
    rfl
  · obtain ⟨a, y, n, d, rfl, ⟨da, ha⟩, q⟩ := h
    refine ⟨_, (pss_one (ps_ret (pe_and (pe_callB call_isi (by rfl) T.b_isinstance (by decide +kernel) (pa_cons (pv 1) (pa_cons (pe_glob (v := .ref C_Share) (by rfl) T.g_Share rfl) pa_nil))) (pe_and (pe_cmpR op_eq (pe_fld (pv 0) rfl) (pe_fld (pv 1) rfl) (nomark _)) (pe_one (pe_cmpR op_eq (pe_fld (pv 0) rfl) (pe_fld (pv 1) rfl) (nomark _))))))), ?_⟩
    refine ⟨_, rfl, ?_⟩
    have dI : ∀ i j : Int, decide (V.int i = V.int j) = decide (i = j) := fun i j => by simp
    rcases q with ⟨b, m, e, rfl, ⟨db, hb⟩, q⟩ | ⟨t, ty, foe, q⟩
    · refine ⟨_, _, _, _, _, rfl, .own _, c.ty ⟨db, hb⟩, c.ins.me, _, rfl, iteT ?_⟩
      refine ⟨_, rfl, a, C_Share, da, _, _, rfl, ha, c.ins.cl, c.no, fz_o, _, rfl, b, C_Share, db, _, _, rfl, hb, c.ins.cl, c.no, fz_o, rfl, _, rfl, ?_⟩
      rw [dI]
      by_cases h1 : n = m
      · rw [decide_eq_true h1] at q ⊢
        refine iteT ?_
        refine ⟨_, rfl, a, C_Share, da, _, _, rfl, ha, c.ins.cl, c.nu, fz_u, _, rfl, b, C_Share, db, _, _, rfl, hb, c.ins.cl, c.nu, fz_u, rfl, ?_⟩
        rw [← dI] at q
        exact q
      · rw [decide_eq_false h1] at q ⊢
        exact iteF q
    · exact ⟨_, _, _, _, _, rfl, .own _, ty, foe.k, _, rfl, iteF q⟩
theorem ok_Share_is_below {f : Addr} {fd : FuncData} (F : Fun K "is_below" "Share.is_below" s_Share_is_below f fd) (T : Txt K mg C_Share) (c : ShC K C_Share) : FnOk P w K mg base CX0 1 f fd ["self", "other"] (spBelow C_Share) := by
  refine F.ok sc_Share_is_below (fun vs H Q E h => ?_) (fun cdv A outer s H vs Q E hr h => ?_)
  · obtain ⟨a, b, n, d, m, e, rfl, _⟩ := h
    rfl
  · obtain ⟨a, b, n, d, m, e, rfl, ⟨da, ha⟩, ⟨db, hb⟩, ⟨b1, b2, b3, b4⟩, q⟩ := h
    refine ⟨_, (pss_one (ps_ret (pe_cmpR op_lt (pe_op op_mulW (pe_fld (pv 0) rfl) (pe_fld (pv 1) rfl)) (pe_op op_mulW (pe_fld (pv 1) rfl) (pe_fld (pv 0) rfl)) (nomark _)))), ?_⟩
    refine ⟨_, rfl, a, C_Share, da, _, _, rfl, ha, c.ins.cl, c.no, fz_o, _, rfl, b, C_Share, db, _, _, rfl, hb, c.ins.cl, c.nu, fz_u, _, _, rfl, rfl, wide_mul b1 b4 (by decide) (by decide) (by decide), ?_⟩
    exact ⟨_, rfl, b, C_Share, db, _, _, rfl, hb, c.ins.cl, c.no, fz_o, _, rfl, a, C_Share, da, _, _, rfl, ha, c.ins.cl, c.nu, fz_u, _, _, rfl, rfl, wide_mul b3 b2 (by decide) (by decide) (by decide), _, _, rfl, rfl, q⟩
theorem ok_half_of {f : Addr} {fd : FuncData} (F : Fun K "half_of" "half_of" s_half_of f fd) (T : Txt K mg C_Share) (m_Share : MakX P w K mg base 1 "Share" C_Share (spInit C_Share C_InvalidNumber)) : FnOk P w K mg base CX0 3 f fd ["length"] (spHalf C_Share) := by
  refine F.ok sc_half_of (fun vs H Q E h => ?_) (fun cdv A outer s H vs Q E hr h => ?_)
  · obtain ⟨n, rfl, _⟩ := h
    rfl
  · obtain ⟨n, rfl, hn, q⟩ := h
    refine ⟨_, (pss_one (ps_ret (pe_mkx m_Share hr (by omega) (by rfl) (pa_cons pe_int (pa_cons (pe_op op_shlW pe_int (pv 0)) pa_nil))))), ?_⟩
    have e : (1 : Int) * 2 ^ ((n : Int)).toNat = 2 ^ n := by rw [Int.one_mul, Int.toNat_natCast]
    have ab : ((2 : Int) ^ n).natAbs = 2 ^ n := by rw [Int.natAbs_pow]; rfl
    have p0 : (2 : Int) ^ n ≠ 0 := by
      have : 0 < 2 ^ n := Nat.pow_pos (by decide : 0 < 2)
      omega
    have cs : CShl 1 (n : Int) := ⟨by omega, by rw [show Builtin.Int.intBits 1 = 1 by decide]; omega⟩
    rw [← e] at q ab p0
    refine ⟨_, rfl, _, _, rfl, rfl, cs, ?_⟩
    refine fun x dx hx hdx hne => ⟨x, dx, _, _, rfl, upd_same, ?_, .inl ⟨p0, fun H' e' => ⟨rfl, ?_⟩⟩⟩
    · rw [ab]
      exact Nat.pow_lt_pow_right (by decide) (by omega)
    · subst e'
      have := q x dx hx hdx hne
      unfold mkS at this
      rw [← upd_upd (o := .ins C_Share dx [])] at this
      exact this
end

/-! ### what the law reckons -/
def Pr (H : Hp) (p : Addr) (n d : Int) : Prop := H p = some (.lst [.int n, .int d])
def spLow : Sp := fun vs H Q _ => ∃ o u : Int, vs = [.int o, .int u] ∧ u ≠ 0 ∧ o.natAbs < 2 ^ 4000 ∧ u.natAbs < 2 ^ 4000 ∧ ∀ p, H p = none → Q (.ref p) (upd H p (.lst [.int (rOd o u), .int (rUd o u)]))
def spInteger : Sp := fun vs H Q _ => ∃ a b : Int, vs = [.int a, .int b] ∧ Q (.bl (decide (a = b))) H
def spIs (C : Addr) : Sp := fun vs H Q _ => ∃ a p n d, vs = [.ref a, .ref p] ∧ Sh C H a n d ∧ Pr H p n d ∧ Q (.bl true) H
def spPair (fo fu : Int → Int → Int → Int → Int) : Sp := fun vs H Q _ => ∃ p q n d m e, vs = [.ref p, .ref q] ∧ Pr H p n d ∧ Pr H q m e ∧ 0 < d ∧ 0 < e ∧ (n.natAbs < 2 ^ 1990 ∧ d.natAbs < 2 ^ 1990 ∧ m.natAbs < 2 ^ 1990 ∧ e.natAbs < 2 ^ 1990) ∧
  ∀ x, H x = none → Q (.ref x) (upd H x (.lst [.int (rOd (fo n d m e) (fu n d m e)), .int (rUd (fo n d m e) (fu n d m e))]))
def spSumL : Sp := spPair (fun n d m e => n * e + m * d) (fun _ d _ e => d * e)
def spLessL : Sp := spPair (fun n d m e => n * e - m * d) (fun _ d _ e => d * e)
def spTimesL : Sp := spPair (fun n _ m _ => n * m) (fun _ d _ e => d * e)
section
variable {P : Program} {w : World} {K : PySem.W.Frag} {mg : Str → Option Value} {base : Heap} {C_Share : Addr} {C_InvalidNumber : Addr}
theorem ok_law_lowest {f : Addr} {fd : FuncData} (F : Fun K "_law_lowest" "_law_lowest" s_law_lowest f fd) (T : Txt K mg C_Share) : FnOk P w K mg base CX0 1 f fd ["over", "under"] spLow := by
  refine F.ok sc_law_lowest (fun vs H Q E h => ?_) (fun cdv A outer s H vs Q E hr h => ?_)
  · obtain ⟨o, u, rfl, _⟩ := h
    rfl
  · obtain ⟨o, u, rfl, hu, h1, h2, q⟩ := h
    refine ⟨_, (pss_cons (ps_set (i := 2) sc_law_lowest.nd rfl (by first | exact Or.inl rfl | exact Or.inr rfl) (pe_callB call_abs (by rfl) T.b_abs (by decide +kernel) (pa_cons (pv 1) pa_nil)))
    (pss_cons (ps_set (i := 3) sc_law_lowest.nd rfl (by first | exact Or.inl rfl | exact Or.inr rfl) (pe_callB call_abs (by rfl) T.b_abs (by decide +kernel) (pa_cons (pv 0) pa_nil)))
    (C8.pss_cut (ps_for PassesOwn.never rfl (pi_range1 (by rfl) T.b_range (pa_cons pe_int pa_nil)) (pg_name (i := 4) sc_law_lowest.nd rfl (by first | exact Or.inl rfl | exact Or.inr rfl))
      (pss_cons (ps_if (pt_cmpR op_eq (pv 3) pe_int (nomark _))
          (pss_one ps_break)
          pss_nil)
        (pss_cons (ps_set (i := 5) sc_law_lowest.nd rfl (by first | exact Or.inl rfl | exact Or.inr rfl) (pe_op op_mod (pe_callTy call_int1 (by rfl) T.b_int (by decide +kernel) (pa_cons (pv 2) pa_nil)) (pv 3)))
        (pss_cons (ps_set (i := 2) sc_law_lowest.nd rfl (by first | exact Or.inl rfl | exact Or.inr rfl) (pv 3))
        (pss_one (ps_set (i := 3) sc_law_lowest.nd rfl (by first | exact Or.inl rfl | exact Or.inr rfl) (pv 5)))))))
    (pss_cons (ps_if (pt_cmpR op_lt (pv 1) pe_int (nomark _))
      (pss_one (ps_ret (pe_lst (pa_cons (pe_op op_fdivW (pe_un un_neg (pv 0)) (pv 2)) (pa_cons (pe_op op_fdivW (pe_un un_neg (pv 1)) (pv 2)) pa_nil)))))
      pss_nil)
    (pss_one (ps_ret (pe_lst (pa_cons (pe_op op_fdivW (pv 0) (pv 2)) (pa_cons (pe_op op_fdivW (pv 1) (pv 2)) pa_nil))))))))), ?_⟩
    have ab : ∀ i : Int, (if i < 0 then -i else i) = (i.natAbs : Int) := fun i => by split <;> omega
    refine ⟨_, rfl, _, rfl, _, rfl, _, rfl, ?_⟩
    refine ⟨fun σ H' => ∃ (v4 v5 : Option V) (x r0 : Int) (i : Nat), σ = [some (.int o), some (.int u), some (.int x), some (.int r0), v4, v5] ∧ H' = H ∧ x = (gN o u : Int), ?_, ?_⟩
    · refine ⟨9000, rfl, by omega, by omega, for_range (n := 9000) (fun i σ H' => ∃ (v4 v5 : Option V) (x y : Int) (l r : Nat), σ = [some (.int o), some (.int u), some (.int x), some (.int y), v4, v5] ∧ H' = H ∧ x = (l : Int) ∧ y = (r : Int) ∧ Eu o u i l r)
        ⟨_, _, _, _, _, _, rfl, rfl, ab u, ab o, Eu.ini hu⟩ ?_ ?_⟩
      · rintro i σ H' hi ⟨v4, v5, x, y, l, r, rfl, rfl, rfl, rfl, E0⟩
        refine ⟨_, rfl, rfl, _, rfl, ?_⟩
        rw [show decide (V.int (r : Int) = V.int 0) = decide (r = 0) by simp [Int.natCast_eq_zero]]
        by_cases hr0 : r = 0
        · subst hr0
          refine iteT ?_
          exact ⟨_, _, _, _, 0, rfl, rfl, by rw [E0.gcd]⟩
        · rw [decide_eq_false hr0]
          refine iteF ?_
          refine ⟨_, rfl, .inl ⟨_, rfl, _, rfl, _, _, rfl, rfl, by show (0 : Int) < r; omega, _, rfl, _, rfl, ?_⟩⟩
          exact ⟨_, _, _, _, _, _, rfl, rfl, rfl, rfl, E0.nxt hr0⟩
      · rintro σ H' ⟨v4, v5, x, y, l, r, rfl, rfl, rfl, rfl, E0⟩
        have z := E0.fin h1 h2
        subst z
        exact ⟨_, _, _, _, 0, rfl, rfl, by rw [E0.gcd]⟩
    · rintro σ H' ⟨v4, v5, x, r0, i, rfl, rfl, ex⟩
      subst ex
      have g0 := gN_pos (o := o) hu
      have gl := gN_le (o := o) hu
      have gn : (gN o u : Int) ≠ 0 := by omega
      have cd : ∀ i : Int, CDivW i (gN o u : Int) := fun i => ⟨by omega, by rw [Int.natAbs_natCast]; exact Nat.lt_of_lt_of_le ((Nat.log2_lt (by omega)).mpr (Nat.lt_of_le_of_lt gl h2)) (by decide)⟩
      refine ⟨_, rfl, _, _, rfl, rfl, _, rfl, ?_⟩
      by_cases hs : u < 0
      · have e1 : (-o) / (gN o u : Int) = rOd o u := by
          unfold rOd
          rw [if_pos hs]
          exact Int.neg_ediv_of_dvd (gN_o o u)
        have e2 : (-u) / (gN o u : Int) = rUd o u := by
          unfold rUd
          rw [if_pos hs]
          exact Int.neg_ediv_of_dvd (gN_u o u)
        rw [← e1, ← e2] at q
        rw [decide_eq_true hs]
        refine iteT ?_
        exact ⟨_, rfl, _, rfl, _, rfl, _, _, rfl, rfl, cd _, _, rfl, _, rfl, _, rfl, _, _, rfl, rfl, cd _, szle (by show 2 ≤ 16777216; decide), fun p hp => q p hp⟩
      · have e1 : o / (gN o u : Int) = rOd o u := by
          unfold rOd
          rw [if_neg hs]
        have e2 : u / (gN o u : Int) = rUd o u := by
          unfold rUd
          rw [if_neg hs]
        rw [← e1, ← e2] at q
        rw [decide_eq_false hs]
        refine iteF ?_
        exact ⟨_, rfl, _, rfl, _, _, rfl, rfl, cd _, _, rfl, _, rfl, _, _, rfl, rfl, cd _, szle (by show 2 ≤ 16777216; decide), fun p hp => q p hp⟩
theorem ok_law_integer {f : Addr} {fd : FuncData} (F : Fun K "_law_integer" "_law_integer" s_law_integer f fd) (T : Txt K mg C_Share) : FnOk P w K mg base CX0 1 f fd ["told", "due"] spInteger := by
  refine F.ok sc_law_integer (fun vs H Q E h => ?_) (fun cdv A outer s H vs Q E hr h => ?_)
  · obtain ⟨a, b, rfl, _⟩ := h
    rfl
  · obtain ⟨a, b, rfl, q⟩ := h
    refine ⟨_, (pss_one (ps_ret (pe_and (pe_callB call_isi (by rfl) T.b_isinstance (by decide +kernel) (pa_cons (pv 0) (pa_cons (pe_bltn (v := .ty "int") (by rfl) T.b_int (by decide +kernel) rfl) pa_nil))) (pe_and (pe_not (pe_callB call_isi (by rfl) T.b_isinstance (by decide +kernel) (pa_cons (pv 0) (pa_cons (pe_bltn (v := .ty "bool") (by rfl) T.b_bool (by decide +kernel) rfl) pa_nil)))) (pe_one (pe_cmpR op_eq (pv 0) (pv 1) (nomark _))))))), ?_⟩
    refine ⟨_, rfl, _, _, _, _, _, rfl, .ty _, .base (.int a), kit_ty (r := true) (by decide), _, rfl, iteT ?_⟩
    refine ⟨_, rfl, _, _, _, _, _, rfl, .ty _, .base (.int a), kit_ty (r := false) (by decide), _, rfl, _, rfl, iteT ?_⟩
    rw [← show decide (V.int a = V.int b) = decide (a = b) by simp] at q
    exact ⟨_, rfl, _, rfl, rfl, q⟩
theorem okH_law_integer {f : Addr} {fd : FuncData} (F : Fun K "_law_integer" "_law_integer" s_law_integer f fd) (T : Txt K mg C_Share) : L2H.FnH P w K mg base CX0 1 f fd ["told", "due"] spInteger := by
  refine Fun_okH F sc_law_integer (fun vs H Q E h => ?_) (fun cdv A outer s H vs Q E p hot hr h => ?_)
  · obtain ⟨a, b, rfl, _⟩ := h
    rfl
  · obtain ⟨a, b, rfl, q⟩ := h
    refine ⟨_, (pss_one (ps_ret (pe_and (pe_callB call_isi (by rfl) T.b_isinstance (by decide +kernel) (pa_cons (pv 0) (pa_cons (pe_bltn (v := .ty "int") (by rfl) T.b_int (by decide +kernel) rfl) pa_nil))) (pe_and (pe_not (pe_callB call_isi (by rfl) T.b_isinstance (by decide +kernel) (pa_cons (pv 0) (pa_cons (pe_bltn (v := .ty "bool") (by rfl) T.b_bool (by decide +kernel) rfl) pa_nil)))) (pe_one (pe_cmpR op_eq (pv 0) (pv 1) (nomark _))))))), ?_⟩
    refine ⟨_, rfl, _, _, _, _, _, rfl, .ty _, .base (.int a), kit_ty (r := true) (by decide), _, rfl, iteT ?_⟩
    refine ⟨_, rfl, _, _, _, _, _, rfl, .ty _, .base (.int a), kit_ty (r := false) (by decide), _, rfl, _, rfl, iteT ?_⟩
    rw [← show decide (V.int a = V.int b) = decide (a = b) by simp] at q
    exact ⟨_, rfl, _, rfl, rfl, q⟩
theorem ok_law_is {f : Addr} {fd : FuncData} (F : Fun K "_law_is" "_law_is" s_law_is f fd) (T : Txt K mg C_Share) (c_law_integer : Cal P w K mg base 1 "_law_integer" spInteger) (c : ShC K C_Share) : FnOk P w K mg base CX0 2 f fd ["told", "due"] (spIs C_Share) := by
  refine F.ok sc_law_is (fun vs H Q E h => ?_) (fun cdv A outer s H vs Q E hr h => ?_)
  · obtain ⟨a, p, n, d, rfl, _⟩ := h
    rfl
  · obtain ⟨a, p, n, d, rfl, ⟨da, ha⟩, hp, q⟩ := h
    refine ⟨_, (pss_cons (ps_if (pt_not (pt_val (pe_callB call_isi (by rfl) T.b_isinstance (by decide +kernel) (pa_cons (pv 0) (pa_cons (pe_glob (v := .ref C_Share) (by rfl) T.g_Share rfl) pa_nil)))))
      (pss_one (ps_ret pe_bl))
      pss_nil)
    (pss_one (ps_ret (pe_and (pe_c c_law_integer hr (by omega) (by rfl) (pa_cons (pe_fld (pv 0) rfl) (pa_cons (pe_ix ix_list (pv 1) pe_int (fun _ _ => rfl)) pa_nil))) (pe_one (pe_c c_law_integer hr (by omega) (by rfl) (pa_cons (pe_fld (pv 0) rfl) (pa_cons (pe_ix ix_list (pv 1) pe_int (fun _ _ => rfl)) pa_nil)))))))), ?_⟩
    have a0 : atI [V.int n, V.int d] 0 = some (.int n) := atI_nat (j := 0) rfl
    have a1 : atI [V.int n, V.int d] 1 = some (.int d) := atI_nat (j := 1) rfl
    refine ⟨_, rfl, _, _, _, _, _, rfl, .own _, c.ty ⟨da, ha⟩, c.ins.me, _, rfl, iteF ?_⟩
    refine ⟨_, rfl, a, C_Share, da, _, _, rfl, ha, c.ins.cl, c.no, fz_o, _, rfl, p, _, _, _, rfl, rfl, SqL.of hp, a0, n, n, rfl, ?_⟩
    rw [decide_eq_true rfl]
    refine ⟨_, rfl, iteT ?_⟩
    refine ⟨_, rfl, a, C_Share, da, _, _, rfl, ha, c.ins.cl, c.nu, fz_u, _, rfl, p, _, _, _, rfl, rfl, SqL.of hp, a1, d, d, rfl, ?_⟩
    rw [decide_eq_true rfl]
    exact q
theorem ok_law_sum {f : Addr} {fd : FuncData} (F : Fun K "_law_sum" "_law_sum" s_law_sum f fd) (T : Txt K mg C_Share) (c_law_lowest : Cal P w K mg base 1 "_law_lowest" spLow) : FnOk P w K mg base CX0 2 f fd ["one", "other"] spSumL := by
  refine F.ok sc_law_sum (fun vs H Q E h => ?_) (fun cdv A outer s H vs Q E hr h => ?_)
  · obtain ⟨p, q', n, d, m, e, rfl, _⟩ := h
    rfl
  · obtain ⟨p, q', n, d, m, e, rfl, hp, hq, h1, h2, ⟨b1, b2, b3, b4⟩, q⟩ := h
    have a0 : ∀ n d : Int, atI [V.int n, V.int d] 0 = some (.int n) := fun _ _ => atI_nat (j := 0) rfl
    have a1 : ∀ n d : Int, atI [V.int n, V.int d] 1 = some (.int d) := fun _ _ => atI_nat (j := 1) rfl
    have wm : ∀ x y : Int, x.natAbs < 2 ^ 1990 → y.natAbs < 2 ^ 1990 → CMulW x y := fun x y a b => wide_mul a b (by decide) (by decide) (by decide)
    refine ⟨_, (pss_one (ps_ret (pe_c c_law_lowest hr (by omega) (by rfl) (pa_cons (pe_op op_add (pe_op op_mulW (pe_ix ix_list (pv 0) pe_int (fun _ _ => rfl)) (pe_ix ix_list (pv 1) pe_int (fun _ _ => rfl))) (pe_op op_mulW (pe_ix ix_list (pv 1) pe_int (fun _ _ => rfl)) (pe_ix ix_list (pv 0) pe_int (fun _ _ => rfl)))) (pa_cons (pe_op op_mulW (pe_ix ix_list (pv 0) pe_int (fun _ _ => rfl)) (pe_ix ix_list (pv 1) pe_int (fun _ _ => rfl))) pa_nil))))), ?_⟩
    refine ⟨_, rfl, p, _, _, _, rfl, rfl, SqL.of hp, a0 _ _, _, rfl, q', _, _, _, rfl, rfl, SqL.of hq, a1 _ _, _, _, rfl, rfl, wm _ _ b1 b4, ?_⟩
    refine ⟨_, rfl, q', _, _, _, rfl, rfl, SqL.of hq, a0 _ _, _, rfl, p, _, _, _, rfl, rfl, SqL.of hp, a1 _ _, _, _, rfl, rfl, wm _ _ b3 b2, _, _, rfl, rfl, ?_⟩
    refine ⟨_, rfl, p, _, _, _, rfl, rfl, SqL.of hp, a1 _ _, _, rfl, q', _, _, _, rfl, rfl, SqL.of hq, a1 _ _, _, _, rfl, rfl, wm _ _ b2 b4, ?_⟩
    exact ⟨_, _, rfl, Int.ne_of_gt (Int.mul_pos h1 h2), bits_le (bits_add (bits_mul b1 b4) (bits_mul b3 b2)) (by decide), bits_le (bits_mul b2 b4) (by decide), q⟩
theorem ok_law_less {f : Addr} {fd : FuncData} (F : Fun K "_law_less" "_law_less" s_law_less f fd) (T : Txt K mg C_Share) (c_law_lowest : Cal P w K mg base 1 "_law_lowest" spLow) : FnOk P w K mg base CX0 2 f fd ["one", "other"] spLessL := by
  refine F.ok sc_law_less (fun vs H Q E h => ?_) (fun cdv A outer s H vs Q E hr h => ?_)
  · obtain ⟨p, q', n, d, m, e, rfl, _⟩ := h
    rfl
  · obtain ⟨p, q', n, d, m, e, rfl, hp, hq, h1, h2, ⟨b1, b2, b3, b4⟩, q⟩ := h
    have a0 : ∀ n d : Int, atI [V.int n, V.int d] 0 = some (.int n) := fun _ _ => atI_nat (j := 0) rfl
    have a1 : ∀ n d : Int, atI [V.int n, V.int d] 1 = some (.int d) := fun _ _ => atI_nat (j := 1) rfl
    have wm : ∀ x y : Int, x.natAbs < 2 ^ 1990 → y.natAbs < 2 ^ 1990 → CMulW x y := fun x y a b => wide_mul a b (by decide) (by decide) (by decide)
    refine ⟨_, (pss_one (ps_ret (pe_c c_law_lowest hr (by omega) (by rfl) (pa_cons (pe_op op_sub (pe_op op_mulW (pe_ix ix_list (pv 0) pe_int (fun _ _ => rfl)) (pe_ix ix_list (pv 1) pe_int (fun _ _ => rfl))) (pe_op op_mulW (pe_ix ix_list (pv 1) pe_int (fun _ _ => rfl)) (pe_ix ix_list (pv 0) pe_int (fun _ _ => rfl)))) (pa_cons (pe_op op_mulW (pe_ix ix_list (pv 0) pe_int (fun _ _ => rfl)) (pe_ix ix_list (pv 1) pe_int (fun _ _ => rfl))) pa_nil))))), ?_⟩
    refine ⟨_, rfl, p, _, _, _, rfl, rfl, SqL.of hp, a0 _ _, _, rfl, q', _, _, _, rfl, rfl, SqL.of hq, a1 _ _, _, _, rfl, rfl, wm _ _ b1 b4, ?_⟩
    refine ⟨_, rfl, q', _, _, _, rfl, rfl, SqL.of hq, a0 _ _, _, rfl, p, _, _, _, rfl, rfl, SqL.of hp, a1 _ _, _, _, rfl, rfl, wm _ _ b3 b2, _, _, rfl, rfl, ?_⟩
    refine ⟨_, rfl, p, _, _, _, rfl, rfl, SqL.of hp, a1 _ _, _, rfl, q', _, _, _, rfl, rfl, SqL.of hq, a1 _ _, _, _, rfl, rfl, wm _ _ b2 b4, ?_⟩
    exact ⟨_, _, rfl, Int.ne_of_gt (Int.mul_pos h1 h2), bits_le (bits_sub (bits_mul b1 b4) (bits_mul b3 b2)) (by decide), bits_le (bits_mul b2 b4) (by decide), q⟩
theorem ok_law_times {f : Addr} {fd : FuncData} (F : Fun K "_law_times" "_law_times" s_law_times f fd) (T : Txt K mg C_Share) (c_law_lowest : Cal P w K mg base 1 "_law_lowest" spLow) : FnOk P w K mg base CX0 2 f fd ["one", "other"] spTimesL := by
  refine F.ok sc_law_times (fun vs H Q E h => ?_) (fun cdv A outer s H vs Q E hr h => ?_)
  · obtain ⟨p, q', n, d, m, e, rfl, _⟩ := h
    rfl
  · obtain ⟨p, q', n, d, m, e, rfl, hp, hq, h1, h2, ⟨b1, b2, b3, b4⟩, q⟩ := h
    have a0 : ∀ n d : Int, atI [V.int n, V.int d] 0 = some (.int n) := fun _ _ => atI_nat (j := 0) rfl
    have a1 : ∀ n d : Int, atI [V.int n, V.int d] 1 = some (.int d) := fun _ _ => atI_nat (j := 1) rfl
    have wm : ∀ x y : Int, x.natAbs < 2 ^ 1990 → y.natAbs < 2 ^ 1990 → CMulW x y := fun x y a b => wide_mul a b (by decide) (by decide) (by decide)
    refine ⟨_, (pss_one (ps_ret (pe_c c_law_lowest hr (by omega) (by rfl) (pa_cons (pe_op op_mulW (pe_ix ix_list (pv 0) pe_int (fun _ _ => rfl)) (pe_ix ix_list (pv 1) pe_int (fun _ _ => rfl))) (pa_cons (pe_op op_mulW (pe_ix ix_list (pv 0) pe_int (fun _ _ => rfl)) (pe_ix ix_list (pv 1) pe_int (fun _ _ => rfl))) pa_nil))))), ?_⟩
    refine ⟨_, rfl, p, _, _, _, rfl, rfl, SqL.of hp, a0 _ _, _, rfl, q', _, _, _, rfl, rfl, SqL.of hq, a0 _ _, _, _, rfl, rfl, wm _ _ b1 b3, ?_⟩
    refine ⟨_, rfl, p, _, _, _, rfl, rfl, SqL.of hp, a1 _ _, _, rfl, q', _, _, _, rfl, rfl, SqL.of hq, a1 _ _, _, _, rfl, rfl, wm _ _ b2 b4, ?_⟩
    exact ⟨_, _, rfl, Int.ne_of_gt (Int.mul_pos h1 h2), bits_le (bits_mul b1 b3) (by decide), bits_le (bits_mul b2 b4) (by decide), q⟩
end

def spNumber : Sp := fun vs H Q _ => ∃ (B : Hp) (t : Addr) (c : Nat), vs = [.ref t] ∧ Tp B H t c ∧ c < 1000000 ∧ ∀ H' n, Tp B H' t (c + 12) → n.natAbs < 2 ^ 1300 → Q (.int n) H'
def spPR (C : Addr) : Sp := fun vs H Q _ => ∃ a b p q n d m e, vs = [.ref a, .ref b, .ref p, .ref q] ∧ Sh C H a n d ∧ Sh C H b m e ∧ Pr H p n d ∧ Pr H q m e ∧ 0 < d ∧ 0 < e ∧ (n.natAbs < 2 ^ 1990 ∧ d.natAbs < 2 ^ 1990 ∧ m.natAbs < 2 ^ 1990 ∧ e.natAbs < 2 ^ 1990) ∧ ∀ H', Same H H' → Q (.bl true) H'
section
variable {P : Program} {w : World} {K : PySem.W.Frag} {mg : Str → Option Value} {base : Heap} {C_Share : Addr} {C_InvalidNumber : Addr}
theorem ok_law_number {f : Addr} {fd : FuncData} (F : Fun K "_law_number" "_law_number" s_law_number f fd) (T : Txt K mg C_Share) (c_law_draw : Cal P w K mg base 1 "_law_draw" spDraw) : FnOk P w K mg base CX0 2 f fd ["tape"] spNumber := by
  refine F.ok sc_law_number (fun vs H Q E h => ?_) (fun cdv A outer s H vs Q E hr h => ?_)
  · obtain ⟨B, t, c, rfl, _⟩ := h
    rfl
  · obtain ⟨B, t, c, rfl, TT, hc, q⟩ := h
    refine ⟨_, (pss_cons (ps_set (i := 1) sc_law_number.nd rfl (by first | exact Or.inl rfl | exact Or.inr rfl) (pe_c c_law_draw hr (by omega) (by rfl) (pa_cons (pv 0) (pa_cons pe_int pa_nil))))
    (pss_cons (ps_set (i := 2) sc_law_number.nd rfl (by first | exact Or.inl rfl | exact Or.inr rfl) (pe_op op_sub (pe_c c_law_draw hr (by omega) (by rfl) (pa_cons (pv 0) (pa_cons pe_int pa_nil))) pe_int))
    (C8.pss_cut (ps_if (pt_cmpR op_eq (pv 1) pe_int (nomark _))
      (pss_cons (ps_set (i := 2) sc_law_number.nd rfl (by first | exact Or.inl rfl | exact Or.inr rfl) (pe_op op_add (pe_op op_pow pe_int pe_int) (pe_c c_law_draw hr (by omega) (by rfl) (pa_cons (pv 0) (pa_cons pe_int pa_nil)))))
        (pss_one (ps_for PassesOwn.never rfl (pi_range1 (by rfl) T.b_range (pa_cons (pe_c c_law_draw hr (by omega) (by rfl) (pa_cons (pv 0) (pa_cons pe_int pa_nil))) pa_nil)) (pg_name (i := 3) sc_law_number.nd rfl (by first | exact Or.inl rfl | exact Or.inr rfl))
          (pss_one (ps_set (i := 2) sc_law_number.nd rfl (by first | exact Or.inl rfl | exact Or.inr rfl) (pe_op op_mulW (pv 2) (pe_op op_add (pe_op op_pow pe_int pe_int) (pe_c c_law_draw hr (by omega) (by rfl) (pa_cons (pv 0) (pa_cons pe_int pa_nil))))))))))
      pss_nil)
    (C8.pss_cut (ps_if (pt_cmpR op_eq (pv 1) pe_int (nomark _))
      (pss_one (ps_set (i := 2) sc_law_number.nd rfl (by first | exact Or.inl rfl | exact Or.inr rfl) (pe_op op_add (pe_op op_mul (pe_c c_law_draw hr (by omega) (by rfl) (pa_cons (pv 0) (pa_cons pe_int pa_nil))) pe_int) (pe_c c_law_draw hr (by omega) (by rfl) (pa_cons (pv 0) (pa_cons pe_int pa_nil))))))
      pss_nil)
    (pss_cons (ps_if (PW.pt (pw_and (pt_cmpR op_lt (pv 1) pe_int (nomark _)) (pw_and1 (pt_cmpR op_eq (pe_c c_law_draw hr (by omega) (by rfl) (pa_cons (pv 0) (pa_cons pe_int pa_nil))) pe_int (nomark _)))))
      (pss_one (ps_ret (pe_un un_neg (pv 2))))
      pss_nil)
    (pss_one (ps_ret (pv 2)))))))), ?_⟩
    have pb : ∀ d : Int, 0 ≤ d → d < 10000 → ((10 : Int) ^ (64 : Int).toNat + d).natAbs < 2 ^ 214 := fun d h0 h1 => by
      rw [show (64 : Int).toNat = 64 from rfl]
      omega
    refine ⟨_, rfl, B, t, c, 6, rfl, TT, by decide, by decide, by omega, fun H1 k T1 k0 k1 => ?_⟩
    refine ⟨_, rfl, B, t, c + 1, 25, rfl, T1, by decide, by decide, by omega, fun H2 m T2 m0 m1 => ⟨_, _, rfl, rfl, ?_⟩⟩
    refine ⟨fun σ H' => ∃ (v : Option V) (x : Int), σ = [some (.ref t), some (.int k), some (.int x), v] ∧ Tp B H' t (c + 9) ∧ x.natAbs < 2 ^ 1300, ?_, ?_⟩
    · refine ⟨_, rfl, rfl, _, rfl, ?_⟩
      rw [show decide (V.int k = V.int 0) = decide (k = 0) by simp]
      refine ite2 (fun _ => ?_) (fun _ => ?_)
      · refine ⟨_, _, rfl, rfl, ⟨by decide, by decide, by decide⟩, _, rfl, B, t, c + 2, 10000, rfl, T2, by decide, by decide, by omega, fun H3 d T3 d0 d1 => ⟨_, _, rfl, rfl, ?_⟩⟩
        refine ⟨_, rfl, B, t, c + 3, 6, rfl, T3, by decide, by decide, by omega, fun H4 z T4 z0 z1 => ?_⟩
        obtain ⟨n, rfl⟩ := nat_of z0
        refine ⟨n, rfl, by omega, by omega, for_range (n := n) (fun i σ H' => ∃ (v : Option V) (x : Int), σ = [some (.ref t), some (.int k), some (.int x), v] ∧ Tp B H' t (c + 4 + i) ∧ x.natAbs < 2 ^ (214 * (i + 1)))
          ⟨_, _, rfl, T4, pb d d0 d1⟩ ?_ ?_⟩
        · rintro i σ H' hi ⟨v, x, rfl, T5, bx⟩
          refine ⟨_, rfl, _, _, rfl, rfl, ⟨by decide, by decide, by decide⟩, _, rfl, B, t, c + 4 + i, 10000, rfl, T5, by decide, by decide, by omega, fun H6 d2 T6 e0 e1 => ⟨_, _, rfl, rfl, ?_⟩⟩
          refine ⟨_, _, rfl, rfl, wide_mul bx (pb d2 e0 e1) (by omega) (by decide) (by omega), ?_⟩
          exact ⟨_, _, rfl, T6, bits_le (bits_mul bx (pb d2 e0 e1)) (by omega)⟩
        · rintro σ H' ⟨v, x, rfl, T5, bx⟩
          exact ⟨_, _, rfl, T5.le (by omega), bits_le bx (by omega)⟩
      · exact ⟨_, _, rfl, T2.le (by omega), Nat.lt_of_lt_of_le (by omega : _ < 2 ^ 5) (Nat.pow_le_pow_right (by decide) (by decide))⟩
    · rintro σ H' ⟨v, x, rfl, T3, bx⟩
      refine ⟨fun σ H' => ∃ (v : Option V) (x : Int), σ = [some (.ref t), some (.int k), some (.int x), v] ∧ Tp B H' t (c + 11) ∧ x.natAbs < 2 ^ 1300, ?_, ?_⟩
      · refine ⟨_, rfl, rfl, _, rfl, ?_⟩
        rw [show decide (V.int k = V.int 1) = decide (k = 1) by simp]
        refine ite2 (fun _ => ?_) (fun _ => ?_)
        · refine ⟨_, rfl, B, t, c + 9, 100000, rfl, T3, by decide, by decide, by omega, fun H4 d T4 d0 d1 => ⟨_, _, rfl, rfl, .inl ⟨by omega, by omega⟩, ?_⟩⟩
          refine ⟨_, rfl, B, t, c + 9 + 1, 100000, rfl, T4, by decide, by decide, by omega, fun H5 e T5 e0 e1 => ⟨_, _, rfl, rfl, ?_⟩⟩
          exact ⟨_, _, rfl, T5.le (by omega), Nat.lt_of_lt_of_le (by omega : _ < 2 ^ 40) (Nat.pow_le_pow_right (by decide) (by decide))⟩
        · exact ⟨_, _, rfl, T3.le (by omega), bx⟩
      · rintro σ H' ⟨v, x, rfl, T4, bx⟩
        refine ⟨_, rfl, _, _, rfl, rfl, _, rfl, ite2 (fun _ => ?_) (fun _ => iteF ?_)⟩
        · refine ⟨_, rfl, B, t, c + 11, 2, rfl, T4, by decide, by decide, by omega, fun H5 e T5 e0 e1 => ⟨rfl, _, rfl, ?_⟩⟩
          refine ite2 (fun _ => ?_) (fun _ => ?_)
          · exact ⟨_, rfl, _, rfl, q _ _ T5 (by rw [Int.natAbs_neg]; exact bx)⟩
          · exact ⟨_, rfl, q _ _ T5 bx⟩
        · exact ⟨_, rfl, q _ _ (T4.le (by omega)) bx⟩
theorem ok_law_pair_right {f : Addr} {fd : FuncData} (F : Fun K "_law_pair_right" "_law_pair_right" s_law_pair_right f fd) (T : Txt K mg C_Share) (c : ShC K C_Share) (o_Share : OpC K C_Share) (c_law_is : Cal P w K mg base 2 "_law_is" (spIs C_Share)) (c_law_sum : Cal P w K mg base 2 "_law_sum" spSumL) (c_law_less : Cal P w K mg base 2 "_law_less" spLessL) (c_law_times : Cal P w K mg base 2 "_law_times" spTimesL)
    (c_Share___add__ : Met P w K mg base 3 C_Share "__add__" (spAdd C_Share)) (c_Share___sub__ : Met P w K mg base 3 C_Share "__sub__" (spSub C_Share)) (c_Share___mul__ : Met P w K mg base 3 C_Share "__mul__" (spMul C_Share)) (c_Share___eq__ : Met P w K mg base 1 C_Share "__eq__" (spEq K C_Share)) (c_Share_is_below : Met P w K mg base 1 C_Share "is_below" (spBelow C_Share))
    (ck_Share_is_below_other : MetK CX0 P w K mg base 1 C_Share "is_below" ["other"] (fun xs zs => xs ++ zs) (spBelow C_Share)) : FnOk P w K mg base CX0 4 f fd ["one", "other", "first", "second"] (spPR C_Share) := by
  refine F.ok sc_law_pair_right (fun vs H Q E h => ?_) (fun cdv A outer s H vs Q E hr h => ?_)
  · obtain ⟨a, b, p, q', n, d, m, e, rfl, _⟩ := h
    rfl
  · obtain ⟨a, b, p, q', n, d, m, e, rfl, ⟨da, ha⟩, ⟨db, hb⟩, hp, hq, h1, h2, ⟨b1, b2, b3, b4⟩, q⟩ := h
    refine ⟨_, (C8.pss_cut (ps_if (pt_not (pt_val (pe_c c_law_is hr (by omega) (by rfl) (pa_cons (pe_op (op_bin o_Share c_Share___add__ hr (by omega)) (pv 0) (pv 1)) (pa_cons (pe_c c_law_sum hr (by omega) (by rfl) (pa_cons (pv 2) (pa_cons (pv 3) pa_nil))) pa_nil)))))
      (pss_one (ps_ret pe_bl))
      pss_nil)
    (C8.pss_cut (ps_if (pt_not (pt_val (pe_c c_law_is hr (by omega) (by rfl) (pa_cons (pe_op (op_bin o_Share c_Share___sub__ hr (by omega)) (pv 0) (pv 1)) (pa_cons (pe_c c_law_less hr (by omega) (by rfl) (pa_cons (pv 2) (pa_cons (pv 3) pa_nil))) pa_nil)))))
      (pss_one (ps_ret pe_bl))
      pss_nil)
    (C8.pss_cut (ps_if (pt_not (pt_val (pe_c c_law_is hr (by omega) (by rfl) (pa_cons (pe_op (op_bin o_Share c_Share___mul__ hr (by omega)) (pv 0) (pv 1)) (pa_cons (pe_c c_law_times hr (by omega) (by rfl) (pa_cons (pv 2) (pa_cons (pv 3) pa_nil))) pa_nil)))))
      (pss_one (ps_ret pe_bl))
      pss_nil)
    (C8.pss_cut (ps_set (i := 4) sc_law_pair_right.nd rfl (by first | exact Or.inl rfl | exact Or.inr rfl) (pe_and (pe_cmpR op_eq (pe_ix ix_list (pv 2) pe_int (fun _ _ => rfl)) (pe_ix ix_list (pv 3) pe_int (fun _ _ => rfl)) (nomark _)) (pe_one (pe_cmpR op_eq (pe_ix ix_list (pv 2) pe_int (fun _ _ => rfl)) (pe_ix ix_list (pv 3) pe_int (fun _ _ => rfl)) (nomark _)))))
    (pss_cons (ps_set (i := 5) sc_law_pair_right.nd rfl (by first | exact Or.inl rfl | exact Or.inr rfl) (pe_cmpR (op_eqO c_Share___eq__ hr (by omega)) (pv 0) (pv 1) (nomark _)))
    (C8.pss_cut (ps_if (pt_not (pt_ifT (pt_val (pv 4)) (pt_cmpR op_is_bl (pv 5) pe_bl (nomark _)) (pt_cmpR op_is_bl (pv 5) pe_bl (nomark _))))
      (pss_one (ps_ret pe_bl))
      pss_nil)
    (pss_cons (ps_set (i := 5) sc_law_pair_right.nd rfl (by first | exact Or.inl rfl | exact Or.inr rfl) (pe_cmpR (op_neO o_Share c_Share___eq__ hr (by omega)) (pv 0) (pv 1) (nomark _)))
    (C8.pss_cut (ps_if (pt_not (pt_ifT (pt_val (pv 4)) (pt_cmpR op_is_bl (pv 5) pe_bl (nomark _)) (pt_cmpR op_is_bl (pv 5) pe_bl (nomark _))))
      (pss_one (ps_ret pe_bl))
      pss_nil)
    (C8.pss_cut (ps_set (i := 6) sc_law_pair_right.nd rfl (by first | exact Or.inl rfl | exact Or.inr rfl) (pe_cmpR op_lt (pe_op op_mulW (pe_ix ix_list (pv 2) pe_int (fun _ _ => rfl)) (pe_ix ix_list (pv 3) pe_int (fun _ _ => rfl))) (pe_op op_mulW (pe_ix ix_list (pv 3) pe_int (fun _ _ => rfl)) (pe_ix ix_list (pv 2) pe_int (fun _ _ => rfl))) (nomark _)))
    (pss_cons (ps_set (i := 5) sc_law_pair_right.nd rfl (by first | exact Or.inl rfl | exact Or.inr rfl) (pe_mt c_Share_is_below hr (by omega) (pv 0) (pa_cons (pv 1) pa_nil)))
    (C8.pss_cut (ps_if (pt_not (pt_ifT (pt_val (pv 6)) (pt_cmpR op_is_bl (pv 5) pe_bl (nomark _)) (pt_cmpR op_is_bl (pv 5) pe_bl (nomark _))))
      (pss_one (ps_ret pe_bl))
      pss_nil)
    (pss_cons (ps_set (i := 5) sc_law_pair_right.nd rfl (by first | exact Or.inl rfl | exact Or.inr rfl) (pe_mtK0 ck_Share_is_below_other hr (by omega) (pv 0) (pk_cons (pv 1) pk_nil)))
    (pss_one (ps_ret (pe_ifExp (pt_val (pv 6)) (pe_cmpR op_is_bl (pv 5) pe_bl (nomark _)) (pe_cmpR op_is_bl (pv 5) pe_bl (nomark _))))))))))))))))), ?_⟩
    have up : ∀ {x : Int}, x.natAbs < 2 ^ 1990 → x.natAbs < 2 ^ 4000 := fun h => bits_le h (by decide)
    have a0 : ∀ n d : Int, atI [V.int n, V.int d] 0 = some (.int n) := fun _ _ => atI_nat (j := 0) rfl
    have a1 : ∀ n d : Int, atI [V.int n, V.int d] 1 = some (.int d) := fun _ _ => atI_nat (j := 1) rfl
    have wm : ∀ x y : Int, x.natAbs < 2 ^ 1990 → y.natAbs < 2 ^ 1990 → CMulW x y := fun x y a b => wide_mul a b (by decide) (by decide) (by decide)
    have dI : ∀ i j : Int, decide (V.int i = V.int j) = decide (i = j) := fun i j => by simp
    -- three operators
    refine ⟨fun σ H' => σ = [some (.ref a), some (.ref b), some (.ref p), some (.ref q'), none, none, none] ∧ Same H H', ?_, ?_⟩
    · refine ⟨_, rfl, _, rfl, a, da, _, b, db, _, rfl, rfl, ha, hb, a, b, n, d, m, e, rfl, ⟨da, ha⟩, ⟨db, hb⟩, h1, h2, ⟨up b1, up b2, up b3, up b4⟩, fun x dx hx hdx hne => ?_⟩
      have s1 := mkS_same (C := C_Share) (n := rOd (n * e + m * d) (d * e)) (d := rUd (n * e + m * d) (d * e)) hx hdx
      refine ⟨_, rfl, _, rfl, p, q', n, d, m, e, rfl, s1 _ _ hp, s1 _ _ hq, h1, h2, ⟨b1, b2, b3, b4⟩, fun z hz => ?_⟩
      have s2 := same_upd (o := .lst [.int (rOd (n * e + m * d) (d * e)), .int (rUd (n * e + m * d) (d * e))]) hz
      exact ⟨x, z, _, _, rfl, mkS_sh.mono s2, upd_same, _, rfl, iteF ⟨rfl, s1.trans s2⟩⟩
    rintro σ H1 ⟨rfl, S1⟩
    refine ⟨fun σ H' => σ = [some (.ref a), some (.ref b), some (.ref p), some (.ref q'), none, none, none] ∧ Same H H', ?_, ?_⟩
    · refine ⟨_, rfl, _, rfl, a, da, _, b, db, _, rfl, rfl, S1 _ _ ha, S1 _ _ hb, a, b, n, d, m, e, rfl, ⟨da, S1 _ _ ha⟩, ⟨db, S1 _ _ hb⟩, h1, h2, ⟨up b1, up b2, up b3, up b4⟩, fun x dx hx hdx hne => ?_⟩
      have s1 := mkS_same (C := C_Share) (n := rOd (n * e - m * d) (d * e)) (d := rUd (n * e - m * d) (d * e)) hx hdx
      refine ⟨_, rfl, _, rfl, p, q', n, d, m, e, rfl, s1 _ _ (S1 _ _ hp), s1 _ _ (S1 _ _ hq), h1, h2, ⟨b1, b2, b3, b4⟩, fun z hz => ?_⟩
      have s2 := same_upd (o := .lst [.int (rOd (n * e - m * d) (d * e)), .int (rUd (n * e - m * d) (d * e))]) hz
      exact ⟨x, z, _, _, rfl, mkS_sh.mono s2, upd_same, _, rfl, iteF ⟨rfl, (S1.trans s1).trans s2⟩⟩
    rintro σ H2 ⟨rfl, S2⟩
    refine ⟨fun σ H' => σ = [some (.ref a), some (.ref b), some (.ref p), some (.ref q'), none, none, none] ∧ Same H H', ?_, ?_⟩
    · refine ⟨_, rfl, _, rfl, a, da, _, b, db, _, rfl, rfl, S2 _ _ ha, S2 _ _ hb, a, b, n, d, m, e, rfl, ⟨da, S2 _ _ ha⟩, ⟨db, S2 _ _ hb⟩, h1, h2, ⟨up b1, up b2, up b3, up b4⟩, fun x dx hx hdx hne => ?_⟩
      have s1 := mkS_same (C := C_Share) (n := rOd (n * m) (d * e)) (d := rUd (n * m) (d * e)) hx hdx
      refine ⟨_, rfl, _, rfl, p, q', n, d, m, e, rfl, s1 _ _ (S2 _ _ hp), s1 _ _ (S2 _ _ hq), h1, h2, ⟨b1, b2, b3, b4⟩, fun z hz => ?_⟩
      have s2 := same_upd (o := .lst [.int (rOd (n * m) (d * e)), .int (rUd (n * m) (d * e))]) hz
      exact ⟨x, z, _, _, rfl, mkS_sh.mono s2, upd_same, _, rfl, iteF ⟨rfl, (S2.trans s1).trans s2⟩⟩
    rintro σ H3 ⟨rfl, S3⟩
    have ha3 := S3 _ _ ha
    have hb3 := S3 _ _ hb
    have hp3 := S3 _ _ hp
    have hq3 := S3 _ _ hq
    -- ==, !=
    refine ⟨fun σ H' => σ = [some (.ref a), some (.ref b), some (.ref p), some (.ref q'), some (.bl (decide (n = m) && decide (d = e))), none, none] ∧ H' = H3, ?_, ?_⟩
    · refine ⟨_, rfl, p, _, _, _, rfl, rfl, SqL.of hp3, a0 _ _, _, rfl, q', _, _, _, rfl, rfl, SqL.of hq3, a0 _ _, rfl, _, rfl, ?_⟩
      rw [dI]
      by_cases h1 : n = m
      · rw [decide_eq_true h1]
        refine iteT ?_
        refine ⟨_, rfl, p, _, _, _, rfl, rfl, SqL.of hp3, a1 _ _, _, rfl, q', _, _, _, rfl, rfl, SqL.of hq3, a1 _ _, rfl, ?_⟩
        rw [dI]
        exact ⟨rfl, rfl⟩
      · rw [decide_eq_false h1]
        exact iteF ⟨rfl, rfl⟩
    rintro σ H4 ⟨rfl, rfl⟩
    refine ⟨_, rfl, _, rfl, a, da, _, _, rfl, ha3, c.ty ⟨db, hb3⟩, c.nf, a, _, n, d, rfl, ⟨da, ha3⟩, .inl ⟨b, m, e, rfl, ⟨db, hb3⟩, ?_⟩⟩
    generalize hA : (decide (n = m) && decide (d = e)) = A
    refine ⟨fun σ H' => σ = [some (.ref a), some (.ref b), some (.ref p), some (.ref q'), some (.bl A), some (.bl A), none] ∧ H' = H4, ?_, ?_⟩
    · refine ⟨_, rfl, _, rfl, ?_⟩
      cases A
      · exact iteF ⟨_, rfl, _, _, rfl, rfl, _, rfl, iteF ⟨rfl, rfl⟩⟩
      · exact iteT ⟨_, rfl, _, _, rfl, rfl, _, rfl, iteF ⟨rfl, rfl⟩⟩
    rintro σ H5 ⟨rfl, rfl⟩
    refine ⟨_, rfl, _, rfl, a, da, _, _, rfl, ha3, c.ty ⟨db, hb3⟩, c.nf, a, _, n, d, rfl, ⟨da, ha3⟩, .inl ⟨b, m, e, rfl, ⟨db, hb3⟩, _, rfl, ?_⟩⟩
    rw [hA]
    refine ⟨fun σ H' => σ = [some (.ref a), some (.ref b), some (.ref p), some (.ref q'), some (.bl A), some (.bl (!A)), none] ∧ H' = H5, ?_, ?_⟩
    · refine ⟨_, rfl, _, rfl, ?_⟩
      cases A
      · exact iteF ⟨_, rfl, _, _, rfl, rfl, _, rfl, iteF ⟨rfl, rfl⟩⟩
      · exact iteT ⟨_, rfl, _, _, rfl, rfl, _, rfl, iteF ⟨rfl, rfl⟩⟩
    rintro σ H6 ⟨rfl, rfl⟩
    -- <
    generalize hB : decide (n * e < m * d) = B
    refine ⟨fun σ H' => σ = [some (.ref a), some (.ref b), some (.ref p), some (.ref q'), some (.bl A), some (.bl (!A)), some (.bl B)] ∧ H' = H6, ?_, ?_⟩
    · refine ⟨_, rfl, p, _, _, _, rfl, rfl, SqL.of hp3, a0 _ _, _, rfl, q', _, _, _, rfl, rfl, SqL.of hq3, a1 _ _, _, _, rfl, rfl, wm _ _ b1 b4, ?_⟩
      refine ⟨_, rfl, q', _, _, _, rfl, rfl, SqL.of hq3, a0 _ _, _, rfl, p, _, _, _, rfl, rfl, SqL.of hp3, a1 _ _, _, _, rfl, rfl, wm _ _ b3 b2, _, _, rfl, rfl, ?_⟩
      rw [← hB]
      exact ⟨rfl, rfl⟩
    rintro σ H6' ⟨rfl, rfl⟩
    refine ⟨_, rfl, a, da, _, rfl, ha3, rfl, _, rfl, a, b, n, d, m, e, rfl, ⟨da, ha3⟩, ⟨db, hb3⟩, ⟨up b1, up b2, up b3, up b4⟩, ?_⟩
    rw [hB]
    refine ⟨fun σ H' => σ = [some (.ref a), some (.ref b), some (.ref p), some (.ref q'), some (.bl A), some (.bl B), some (.bl B)] ∧ H' = H6', ?_, ?_⟩
    · refine ⟨_, rfl, _, rfl, ?_⟩
      cases B
      · exact iteF ⟨_, rfl, _, _, rfl, rfl, _, rfl, iteF ⟨rfl, rfl⟩⟩
      · exact iteT ⟨_, rfl, _, _, rfl, rfl, _, rfl, iteF ⟨rfl, rfl⟩⟩
    rintro σ H7 ⟨rfl, rfl⟩
    refine ⟨_, rfl, a, da, _, rfl, ha3, rfl, _, rfl, rfl, a, b, n, d, m, e, rfl, ⟨da, ha3⟩, ⟨db, hb3⟩, ⟨up b1, up b2, up b3, up b4⟩, ?_⟩
    rw [hB]
    refine ⟨_, rfl, _, rfl, ?_⟩
    cases B
    · exact iteF ⟨_, rfl, _, _, rfl, rfl, q _ S3⟩
    · exact iteT ⟨_, rfl, _, _, rfl, rfl, q _ S3⟩
end

def spStr (C : Addr) : Sp := fun vs H Q _ => ∃ a p n d, vs = [.ref a, .ref p] ∧ Sh C H a n d ∧ Pr H p n d ∧ 0 < d ∧ d.natAbs < 2 ^ 4000 ∧ ∀ H', Same H H' → Q (.bl true) H'
def spRef : Sp := fun vs H Q _ => ∃ (o : Int) (b : Bool), vs = [.int o, .bl b] ∧ ∀ H', Same H H' → Q (.bl true) H'
/-- the kinds of things that are no shares -/
structure Foes (K : PySem.W.Frag) (C : Addr) : Prop where
  non : Foe K C (.type "NoneType")
  int : Foe K C (.type "int")
  bl : Foe K C (.type "bool")
  tup : Foe K C (.type "tuple")
  lst : Foe K C (.type "list")
  str : Foe K C (.type "str")
section
variable {P : Program} {w : World} {K : PySem.W.Frag} {mg : Str → Option Value} {base : Heap} {C_Share : Addr} {C_InvalidNumber : Addr}
theorem ok_law_strangers_right {f : Addr} {fd : FuncData} (F : Fun K "_law_strangers_right" "_law_strangers_right" s_law_strangers_right f fd) (T : Txt K mg C_Share) (c : ShC K C_Share) (o_Share : OpC K C_Share) (fo : Foes K C_Share) (c_Share___eq__ : Met P w K mg base 1 C_Share "__eq__" (spEq K C_Share)) : FnOk P w K mg base CX0 3 f fd ["share", "due"] (spStr C_Share) := by
  refine F.ok sc_law_strangers_right (fun vs H Q E h => ?_) (fun cdv A outer s H vs Q E hr h => ?_)
  · obtain ⟨a, p, n, d, rfl, _⟩ := h
    rfl
  · obtain ⟨a, p, n, d, rfl, ⟨da, ha⟩, hp, h1, b1, q⟩ := h
    refine ⟨_, (pss_cons (ps_set (i := 2) sc_law_strangers_right.nd rfl (by first | exact Or.inl rfl | exact Or.inr rfl) (pe_lst (pa_cons pe_non (pa_cons (pe_ix ix_list (pv 1) pe_int (fun _ _ => rfl)) (pa_cons (pe_cmpR op_eq (pe_ix ix_list (pv 1) pe_int (fun _ _ => rfl)) (pe_ix ix_list (pv 1) pe_int (fun _ _ => rfl)) (nomark _)) (pa_cons (pe_tup (pa_cons (pe_ix ix_list (pv 1) pe_int (fun _ _ => rfl)) (pa_cons (pe_ix ix_list (pv 1) pe_int (fun _ _ => rfl)) pa_nil))) (pa_cons (pe_lst (pa_cons (pe_ix ix_list (pv 1) pe_int (fun _ _ => rfl)) (pa_cons (pe_ix ix_list (pv 1) pe_int (fun _ _ => rfl)) pa_nil))) (pa_cons pe_str (pa_cons (pe_op op_fdivW (pe_ix ix_list (pv 1) pe_int (fun _ _ => rfl)) (pe_ix ix_list (pv 1) pe_int (fun _ _ => rfl))) pa_nil)))))))))
    (pss_cons (ps_for PassesOwn.never rfl (pi_list (pv 2)) (pg_name (i := 3) sc_law_strangers_right.nd rfl (by first | exact Or.inl rfl | exact Or.inr rfl))
      (pss_cons (ps_set (i := 4) sc_law_strangers_right.nd rfl (by first | exact Or.inl rfl | exact Or.inr rfl) (pe_cmpR (op_eqO c_Share___eq__ hr (by omega)) (pv 0) (pv 3) (nomark _)))
        (pss_cons (ps_if (pt_cmpR op_isnot_bl (pv 4) pe_bl (nomark _))
          (pss_one (ps_ret pe_bl))
          pss_nil)
        (pss_cons (ps_set (i := 4) sc_law_strangers_right.nd rfl (by first | exact Or.inl rfl | exact Or.inr rfl) (pe_cmpR (op_neO o_Share c_Share___eq__ hr (by omega)) (pv 0) (pv 3) (nomark _)))
        (pss_one (ps_if (pt_cmpR op_isnot_bl (pv 4) pe_bl (nomark _))
          (pss_one (ps_ret pe_bl))
          pss_nil))))))
    (pss_one (ps_ret pe_bl)))), ?_⟩
    have a0 : atI [V.int n, V.int d] 0 = some (.int n) := atI_nat (j := 0) rfl
    have a1 : atI [V.int n, V.int d] 1 = some (.int d) := atI_nat (j := 1) rfl
    have i0 : ∀ {H' : Hp}, Same H H' → SqL K H' p [V.int n, V.int d] := fun s => SqL.of (s _ _ hp)
    have sr : Same H H := fun _ _ e => e
    refine ⟨_, rfl, p, _, _, _, rfl, rfl, i0 sr, a0, ?_⟩
    refine ⟨_, rfl, p, _, _, _, rfl, rfl, i0 sr, a0, _, rfl, p, _, _, _, rfl, rfl, i0 sr, a1, rfl, ?_⟩
    refine ⟨_, rfl, p, _, _, _, rfl, rfl, i0 sr, a0, _, rfl, p, _, _, _, rfl, rfl, i0 sr, a1, szle (by show 2 ≤ 16777216; decide), fun tp htp => ?_⟩
    have s1 := same_upd (o := .tup [V.int n, V.int d]) htp
    refine ⟨_, rfl, p, _, _, _, rfl, rfl, i0 s1, a0, _, rfl, p, _, _, _, rfl, rfl, i0 s1, a1, szle (by show 2 ≤ 16777216; decide), fun lp hlp => ?_⟩
    have s2 := s1.trans (same_upd (o := .lst [V.int n, V.int d]) hlp)
    refine ⟨_, rfl, p, _, _, _, rfl, rfl, i0 s2, a0, _, rfl, p, _, _, _, rfl, rfl, i0 s2, a1, _, _, rfl, rfl, ⟨h1, Nat.lt_of_lt_of_le ((Nat.log2_lt (by omega)).mpr b1) (by decide)⟩, szle (by show 7 ≤ 16777216; decide), fun th hth => ?_⟩
    generalize decide (V.int n = V.int d) = e
    have s3 := s2.trans (same_upd (o := .lst [.non, .int n, .bl e, .ref tp, .ref lp, .str "1", .int (n / d)]) hth)
    have hlt : tp ≠ lp := ne_of_none upd_same hlp
    have ht : upd (upd (upd H tp (.tup [V.int n, V.int d])) lp (.lst [V.int n, V.int d])) th (.lst [.non, .int n, .bl e, .ref tp, .ref lp, .str "1", .int (n / d)]) tp = some (.tup [V.int n, V.int d]) := same_upd hth _ _ (by rw [upd_ne hlt]; exact upd_same)
    have hl : upd (upd (upd H tp (.tup [V.int n, V.int d])) lp (.lst [V.int n, V.int d])) th (.lst [.non, .int n, .bl e, .ref tp, .ref lp, .str "1", .int (n / d)]) lp = some (.lst [V.int n, V.int d]) := same_upd hth _ _ upd_same
    have hh : upd (upd (upd H tp (.tup [V.int n, V.int d])) lp (.lst [V.int n, V.int d])) th (.lst [.non, .int n, .bl e, .ref tp, .ref lp, .str "1", .int (n / d)]) th = some (.lst [.non, .int n, .bl e, .ref tp, .ref lp, .str "1", .int (n / d)]) := upd_same
    obtain ⟨H3, e3⟩ : ∃ H3, upd (upd (upd H tp (.tup [V.int n, V.int d])) lp (.lst [V.int n, V.int d])) th (.lst [.non, .int n, .bl e, .ref tp, .ref lp, .str "1", .int (n / d)]) = H3 := ⟨_, rfl⟩
    rw [e3] at s3 ht hl hh
    refine ⟨_, rfl, th, rfl, ⟨_, by rw [← e3] at hh; exact SqL.of hh⟩, for_list (K := K) (a := th) (xs := [.non, .int n, .bl e, .ref tp, .ref lp, .str "1", .int (n / d)]) (fun i σ H' => ∃ v3 v4 : Option V, σ = [some (.ref a), some (.ref p), some (.ref th), v3, v4] ∧ H' = H3) ⟨_, _, rfl, e3⟩ ?_ ?_ ?_⟩
    · rintro i σ H' _ ⟨_, _, rfl, rfl⟩
      exact SqL.of hh
    · rintro i x σ H' hi ⟨v3, v4, rfl, rfl⟩
      have hx : ∃ t, TyX K H' x t ∧ Foe K C_Share t := by
        have := List.mem_of_getElem? hi
        simp only [List.mem_cons, List.not_mem_nil, or_false] at this
        rcases this with rfl | rfl | rfl | rfl | rfl | rfl | rfl
        · exact ⟨_, .base .non, fo.non⟩
        · exact ⟨_, .base (.int _), fo.int⟩
        · exact ⟨_, .base (.bl _), fo.bl⟩
        · exact ⟨_, .base (.tup ht), fo.tup⟩
        · exact ⟨_, .base (.lst hl), fo.lst⟩
        · exact ⟨_, .base (.str _), fo.str⟩
        · exact ⟨_, .base (.int _), fo.int⟩
      obtain ⟨t, ty, foe⟩ := hx
      refine ⟨_, rfl, _, rfl, a, da, _, t, rfl, s3 _ _ ha, ty, foe.nf, a, _, n, d, rfl, ⟨da, s3 _ _ ha⟩, .inr ⟨t, ty, foe, ?_⟩⟩
      refine ⟨_, rfl, _, _, rfl, rfl, _, rfl, iteF ?_⟩
      refine ⟨_, rfl, _, rfl, a, da, _, t, rfl, s3 _ _ ha, ty, foe.nf, a, _, n, d, rfl, ⟨da, s3 _ _ ha⟩, .inr ⟨t, ty, foe, _, rfl, ?_⟩⟩
      exact ⟨_, rfl, _, _, rfl, rfl, _, rfl, iteF ⟨_, _, rfl, rfl⟩⟩
    · rintro σ H' ⟨v3, v4, rfl, rfl⟩
      exact q _ s3
theorem ok_law_refused {f : Addr} {fd : FuncData} (F : Fun K "_law_refused" "_law_refused" s_law_refused f fd) (T : Txt K mg C_Share) (x_InvalidNumber : XErr P K mg "InvalidNumber" C_InvalidNumber ["number"]) (m_Share : MakX P w K mg base 1 "Share" C_Share (spInit C_Share C_InvalidNumber))
    (mk_Share_under_over : MakXK P w K mg base 1 "Share" C_Share ["under", "over"] (fun xs zs => xs ++ zs.reverse) (spInit C_Share C_InvalidNumber)) (ch_law_integer : CalH P w K mg base 1 "_law_integer" spInteger) : FnOk P w K mg base CX0 3 f fd ["over", "by_name"] spRef := by
  refine F.ok sc_law_refused (fun vs H Q E h => ?_) (fun cdv A outer s H vs Q E hr h => ?_)
  · obtain ⟨o, b, rfl, _⟩ := h
    rfl
  · obtain ⟨o, b, rfl, q⟩ := h
    refine ⟨_, (pss_cons (L2N.ps_try_as (i := 2) (tb := fun W => (tIfS (tB (tVar 1)) (tDrop (tMakeSK C_Share 2 (spInit C_Share C_InvalidNumber) (fun xs zs => xs ++ zs.reverse) (WE W) (tCons (tC (.int 0)) (tCons (tVar 0) tNil)))) (tDrop (tMakeS C_Share (spInit C_Share C_InvalidNumber) (WE W) (tCons (tVar 0) (tCons (tC (.int 0)) tNil))))))
      (ts := fun a cls d => (tRet (tCallS spInteger (fun _ => E0) (tCons (tXf a cls d C_InvalidNumber "number" (tVar 2)) (tCons (tC (.int 0)) tNil))))) rfl rfl sc_law_refused.nd rfl rfl ⟨rfl, by decide, .inl x_InvalidNumber.gC⟩ takesN0
      (fun W pn xe tk _ => (pss_one (ps_if (pt_val (pv 1))
          (pss_one (ps_expr (pe_mkxSK0 mk_Share_under_over hr (by omega) (by rfl) tk (pk_cons pe_int (pk_cons (pv 0) pk_nil)))))
          (pss_one (ps_expr (pe_mkxS m_Share hr (by omega) (by rfl) tk (pa_cons (pv 0) (pa_cons pe_int pa_nil))))))))
      (fun a oe cls d pn hz hf => (pss_one (ps_ret (pe_cH ch_law_integer (roomS hr) (by omega) (hotS hz hf) (by rfl) (pa_cons (pe_xf x_InvalidNumber.xf (x_InvalidNumber.no (by simp)) hz.zc hf (pv 2)) (pa_cons pe_int pa_nil)))))))
    (pss_one (ps_ret pe_bl))), ?_⟩
    have catch_ : ∀ x dx d : Addr, H x = none → H dx = none → dx ≠ x → (upd (upd H dx (.own x)) x (.ins C_Share dx [])) d = none → ∀ xx, xx = upd (upd (upd H dx (.own x)) x (.ins C_Share dx [])) d (.xd [("number", V.int 0)]) → Same H xx := fun x dx d hx hdx _ hd xx e => by
      rw [e]
      exact (same_out (same_upd hdx) hx).trans (same_upd hd)
    refine ⟨_, rfl, _, rfl, ?_⟩
    cases b
    · refine iteF ?_
      refine ⟨_, rfl, fun x dx hx hdx hne => ⟨x, dx, o, 0, rfl, upd_same, Nat.pow_pos (by decide), .inr ⟨rfl, fun d hd => ?_⟩⟩⟩
      refine ⟨true, x_InvalidNumber.te, fun _ z hz => ?_, fun z => by cases z⟩
      exact ⟨_, rfl, rfl, rfl, d, _, _, rfl, upd_same, rfl, 0, 0, rfl, q _ (catch_ x dx d hx hdx hne hd _ rfl)⟩
    · refine iteT ?_
      refine ⟨_, rfl, rfl, [.int o, .int 0], fun _ => rfl, fun x dx hx hdx hne => ⟨x, dx, o, 0, rfl, upd_same, Nat.pow_pos (by decide), .inr ⟨rfl, fun d hd => ?_⟩⟩⟩
      refine ⟨true, x_InvalidNumber.te, fun _ z hz => ?_, fun z => by cases z⟩
      exact ⟨_, rfl, rfl, rfl, d, _, _, rfl, upd_same, rfl, 0, 0, rfl, q _ (catch_ x dx d hx hdx hne hd _ rfl)⟩
end

def spChain : Sp := fun vs H Q _ => ∃ (B : Hp) (t : Addr) (c : Nat), vs = [.ref t] ∧ Tp B H t c ∧ c < 1000000 ∧ ∀ B' H', Same B B' → Tp B' H' t (c + 20) → Q (.bl true) H'
section
variable {P : Program} {w : World} {K : PySem.W.Frag} {mg : Str → Option Value} {base : Heap} {C_Share : Addr} {C_InvalidNumber : Addr}
theorem ok_law_chain_right {f : Addr} {fd : FuncData} (F : Fun K "_law_chain_right" "_law_chain_right" s_law_chain_right f fd) (T : Txt K mg C_Share) (c : ShC K C_Share) (o_Share : OpC K C_Share) (c_law_draw : Cal P w K mg base 1 "_law_draw" spDraw) (m_Share : MakX P w K mg base 1 "Share" C_Share (spInit C_Share C_InvalidNumber))
    (c_law_is : Cal P w K mg base 2 "_law_is" (spIs C_Share)) (c_law_sum : Cal P w K mg base 2 "_law_sum" spSumL) (c_law_less : Cal P w K mg base 2 "_law_less" spLessL) (c_law_times : Cal P w K mg base 2 "_law_times" spTimesL)
    (c_Share___add__ : Met P w K mg base 3 C_Share "__add__" (spAdd C_Share)) (c_Share___sub__ : Met P w K mg base 3 C_Share "__sub__" (spSub C_Share)) (c_Share___mul__ : Met P w K mg base 3 C_Share "__mul__" (spMul C_Share)) : FnOk P w K mg base CX0 4 f fd ["tape"] spChain := by
  refine F.ok sc_law_chain_right (fun vs H Q E h => ?_) (fun cdv A outer s H vs Q E hr h => ?_)
  · obtain ⟨B, t, c', rfl, _⟩ := h
    rfl
  · obtain ⟨B, t, c', rfl, TT, hc, q⟩ := h
    refine ⟨_, (pss_cons (ps_set (i := 1) sc_law_chain_right.nd rfl (by first | exact Or.inl rfl | exact Or.inr rfl) (pe_lst (pa_cons (pe_op op_sub (pe_c c_law_draw hr (by omega) (by rfl) (pa_cons (pv 0) (pa_cons pe_int pa_nil))) pe_int) (pa_cons pe_int pa_nil))))
    (pss_cons (ps_set (i := 2) sc_law_chain_right.nd rfl (by first | exact Or.inl rfl | exact Or.inr rfl) (pe_mkx m_Share hr (by omega) (by rfl) (pa_cons (pe_ix ix_list (pv 1) pe_int (fun _ _ => rfl)) (pa_cons pe_int pa_nil))))
    (pss_cons (ps_for PassesOwn.never rfl (pi_range1 (by rfl) T.b_range (pa_cons (pe_c c_law_draw hr (by omega) (by rfl) (pa_cons (pv 0) (pa_cons pe_int pa_nil))) pa_nil)) (pg_name (i := 3) sc_law_chain_right.nd rfl (by first | exact Or.inl rfl | exact Or.inr rfl))
      (pss_cons (ps_set (i := 4) sc_law_chain_right.nd rfl (by first | exact Or.inl rfl | exact Or.inr rfl) (pe_op op_sub (pe_c c_law_draw hr (by omega) (by rfl) (pa_cons (pv 0) (pa_cons pe_int pa_nil))) pe_int))
        (pss_cons (ps_set (i := 5) sc_law_chain_right.nd rfl (by first | exact Or.inl rfl | exact Or.inr rfl) (pe_op op_add (pe_c c_law_draw hr (by omega) (by rfl) (pa_cons (pv 0) (pa_cons pe_int pa_nil))) pe_int))
        (pss_cons (ps_set (i := 6) sc_law_chain_right.nd rfl (by first | exact Or.inl rfl | exact Or.inr rfl) (pe_mkx m_Share hr (by omega) (by rfl) (pa_cons (pv 4) (pa_cons (pv 5) pa_nil))))
        (pss_cons (ps_set (i := 7) sc_law_chain_right.nd rfl (by first | exact Or.inl rfl | exact Or.inr rfl) (pe_c c_law_draw hr (by omega) (by rfl) (pa_cons (pv 0) (pa_cons pe_int pa_nil))))
        (pss_cons (ps_if (pt_cmpR op_eq (pv 7) pe_int (nomark _))
          (pss_cons (ps_set (i := 2) sc_law_chain_right.nd rfl (by first | exact Or.inl rfl | exact Or.inr rfl) (pe_op (op_bin o_Share c_Share___add__ hr (by omega)) (pv 2) (pv 6)))
            (pss_one (ps_set (i := 1) sc_law_chain_right.nd rfl (by first | exact Or.inl rfl | exact Or.inr rfl) (pe_c c_law_sum hr (by omega) (by rfl) (pa_cons (pv 1) (pa_cons (pe_lst (pa_cons (pv 4) (pa_cons (pv 5) pa_nil))) pa_nil))))))
          pss_nil)
        (pss_cons (ps_if (pt_cmpR op_eq (pv 7) pe_int (nomark _))
          (pss_cons (ps_set (i := 2) sc_law_chain_right.nd rfl (by first | exact Or.inl rfl | exact Or.inr rfl) (pe_op (op_bin o_Share c_Share___sub__ hr (by omega)) (pv 2) (pv 6)))
            (pss_one (ps_set (i := 1) sc_law_chain_right.nd rfl (by first | exact Or.inl rfl | exact Or.inr rfl) (pe_c c_law_less hr (by omega) (by rfl) (pa_cons (pv 1) (pa_cons (pe_lst (pa_cons (pv 4) (pa_cons (pv 5) pa_nil))) pa_nil))))))
          pss_nil)
        (pss_cons (ps_if (pt_cmpR op_eq (pv 7) pe_int (nomark _))
          (pss_cons (ps_set (i := 2) sc_law_chain_right.nd rfl (by first | exact Or.inl rfl | exact Or.inr rfl) (pe_op (op_bin o_Share c_Share___mul__ hr (by omega)) (pv 2) (pv 6)))
            (pss_one (ps_set (i := 1) sc_law_chain_right.nd rfl (by first | exact Or.inl rfl | exact Or.inr rfl) (pe_c c_law_times hr (by omega) (by rfl) (pa_cons (pv 1) (pa_cons (pe_lst (pa_cons (pv 4) (pa_cons (pv 5) pa_nil))) pa_nil))))))
          pss_nil)
        (pss_one (ps_if (pt_not (pt_val (pe_c c_law_is hr (by omega) (by rfl) (pa_cons (pv 2) (pa_cons (pv 1) pa_nil)))))
          (pss_one (ps_ret pe_bl))
          pss_nil))))))))))
    (pss_one (ps_ret pe_bl))))), ?_⟩
    have a0 : ∀ n d : Int, atI [V.int n, V.int d] 0 = some (.int n) := fun _ _ => atI_nat (j := 0) rfl
    refine ⟨_, rfl, B, t, c', 9, rfl, TT, by decide, by decide, by omega, fun H1 m T1 m0 m1 => ⟨_, _, rfl, rfl, szle (by show 2 ≤ 16777216; decide), fun p hp => ?_⟩⟩
    obtain ⟨n, en⟩ : ∃ n, m - 4 = n := ⟨_, rfl⟩
    have T2 := T1.new (o := .lst [V.int n, V.int 1]) hp
    have S2 : Same B (upd B p (.lst [V.int n, V.int 1])) := same_upd (T1.isn hp)
    rw [← en] at T2 S2
    refine ⟨_, rfl, p, _, _, _, rfl, rfl, SqL.of upd_same, a0 _ _, fun x dx hx hdx hne => ⟨x, dx, _, 1, rfl, upd_same, Nat.one_lt_two_pow (by decide), .inl ⟨by decide, fun H3 e3 => ⟨rfl, ?_⟩⟩⟩⟩
    rw [upd_upd] at e3
    have T3 := T2.inst (C := C_Share) (fs := fz (rOd (m - 4) 1) (rUd (m - 4) 1)) hx hdx hne
    rw [← e3] at T3
    have S3 := S2.trans (mkS_same (C := C_Share) (n := rOd (m - 4) 1) (d := rUd (m - 4) 1) (T2.isn hx) (T2.isn hdx))
    have sh3 := mkS_sh (C := C_Share) (H := upd B p (.lst [V.int (m - 4), V.int 1])) (x := x) (dx := dx) (n := rOd (m - 4) 1) (d := rUd (m - 4) 1)
    have pr3 : Pr (mkS C_Share (upd B p (.lst [V.int (m - 4), V.int 1])) x dx (rOd (m - 4) 1) (rUd (m - 4) 1)) p (m - 4) 1 := mkS_same (T2.isn hx) (T2.isn hdx) _ _ upd_same
    obtain ⟨B3, eB⟩ : ∃ B3, mkS C_Share (upd B p (.lst [V.int (m - 4), V.int 1])) x dx (rOd (m - 4) 1) (rUd (m - 4) 1) = B3 := ⟨_, rfl⟩
    have T3' : Tp B3 H3 t (c' + 1) := by rw [← eB]; exact T3
    rw [eB] at S3 sh3 pr3
    rw [rOd_one, rUd_one] at sh3
    refine ⟨_, rfl, B3, t, c' + 1, 6, rfl, T3', by decide, by decide, by omega, fun H4 zz T4 z0 z1 => ?_⟩
    obtain ⟨r, rfl⟩ := nat_of z0
    refine ⟨r, rfl, by omega, by omega, for_range (n := r) (fun i σ H' => ∃ (v3 v4 v5 v6 v7 : Option V) (B' : Hp) (a p : Addr) (n d : Int), σ = [some (.ref t), some (.ref p), some (.ref a), v3, v4, v5, v6, v7] ∧ Same B B' ∧ Tp B' H' t (c' + 2 + 3 * i) ∧ Sh C_Share B' a n d ∧ Pr B' p n d ∧ 0 < d ∧ n.natAbs < 2 ^ (3 + 6 * i) ∧ d.natAbs < 2 ^ (3 + 6 * i))
      ⟨_, _, _, _, _, B3, x, p, _, _, rfl, S3, T4, sh3, pr3, by decide, by show _ < 8; omega, by decide⟩ ?_ ?_⟩
    · rintro i σ H' hi ⟨v3, v4, v5, v6, v7, B', a, p, n, d, rfl, S, TT', ⟨da, ha⟩, pr, d0, bn, bd⟩
      refine ⟨_, rfl, B', t, c' + 2 + 3 * i, 41, rfl, TT', by decide, by decide, by omega, fun H5 x5 T5 x50 x51 => ⟨_, _, rfl, rfl, ?_⟩⟩
      refine ⟨_, rfl, B', t, c' + 2 + 3 * i + 1, 12, rfl, T5, by decide, by decide, by omega, fun H6 y6 T6 y60 y61 => ⟨_, _, rfl, rfl, ?_⟩⟩
      have bO : (x5 - 20).natAbs < 2 ^ 5 := by omega
      have bU : (y6 + 1).natAbs < 2 ^ 4 := by omega
      refine ⟨_, rfl, _, rfl, fun x dx hx hdx hne => ⟨x, dx, x5 - 20, y6 + 1, rfl, upd_same, bits_le bU (by decide), .inl ⟨by omega, fun H7 e7 => ⟨rfl, ?_⟩⟩⟩⟩
      rw [upd_upd] at e7
      have T7' := T6.inst (C := C_Share) (fs := fz (rOd (x5 - 20) (y6 + 1)) (rUd (x5 - 20) (y6 + 1))) hx hdx hne
      rw [← e7] at T7'
      have bo := Nat.lt_of_le_of_lt (rO_le (x5 - 20) (y6 + 1)) bO
      have bu := Nat.lt_of_le_of_lt (rU_le (x5 - 20) (y6 + 1)) bU
      have u10 := rU_pos (o := x5 - 20) (u := y6 + 1) (by omega)
      have S7 := mkS_same (C := C_Share) (n := rOd (x5 - 20) (y6 + 1)) (d := rUd (x5 - 20) (y6 + 1)) (T6.isn hx) (T6.isn hdx)
      have hx7 : mkS C_Share B' x dx (rOd (x5 - 20) (y6 + 1)) (rUd (x5 - 20) (y6 + 1)) x = some (.ins C_Share dx (fz (rOd (x5 - 20) (y6 + 1)) (rUd (x5 - 20) (y6 + 1)))) := upd_same
      obtain ⟨B7, eB7⟩ : ∃ B7, mkS C_Share B' x dx (rOd (x5 - 20) (y6 + 1)) (rUd (x5 - 20) (y6 + 1)) = B7 := ⟨_, rfl⟩
      have T7 : Tp B7 H7 t (c' + 2 + 3 * i + 2) := by rw [← eB7]; exact T7'
      rw [eB7] at S7 hx7
      have ha7 := S7 _ _ ha
      obtain ⟨o1, eo1⟩ : ∃ o1, rOd (x5 - 20) (y6 + 1) = o1 := ⟨_, rfl⟩
      obtain ⟨u1, eu1⟩ : ∃ u1, rUd (x5 - 20) (y6 + 1) = u1 := ⟨_, rfl⟩
      rw [eo1] at hx7 bo
      rw [eu1] at hx7 bu u10
      clear T7' eB7 e7
      refine ⟨_, rfl, B7, t, c' + 2 + 3 * i + 2, 3, rfl, T7, by decide, by decide, by omega, fun H8 kd T8 k0 k1 => ?_⟩
      refine ⟨_, rfl, rfl, _, rfl, ?_⟩
      rcases (by omega : kd = 0 ∨ kd = 1 ∨ kd = 2) with hk | hk | hk <;> subst hk
      · skip
        refine ite2 (fun _ => ?_) (fun z => absurd (by simp) z)
        refine ⟨_, rfl, _, rfl, a, da, _, x, dx, _, rfl, rfl, T8.at ha7, T8.at hx7, a, x, n, d, o1, u1, rfl, ⟨da, T8.at ha7⟩, ⟨dx, T8.at hx7⟩, d0, u10, ⟨bits_le bn (by omega), bits_le bd (by omega), bits_le bo (by decide), bits_le bu (by decide)⟩, fun y dy hy hdy hne2 => ?_⟩
        have T9 := T8.inst (C := C_Share) (fs := fz (rOd (n * u1 + o1 * d) (d * u1)) (rUd (n * u1 + o1 * d) (d * u1))) hy hdy hne2
        have S9 := mkS_same (C := C_Share) (n := rOd (n * u1 + o1 * d) (d * u1)) (d := rUd (n * u1 + o1 * d) (d * u1)) (T8.isn hy) (T8.isn hdy)
        refine ⟨_, rfl, _, rfl, _, rfl, szle (by show 2 ≤ 16777216; decide), fun l hl => ?_⟩
        have T10 := T9.new (o := .lst [V.int (x5 - 20), V.int (y6 + 1)]) hl
        have S10 := S9.trans (same_upd (o := .lst [V.int (x5 - 20), V.int (y6 + 1)]) (T9.isn hl))
        refine ⟨p, l, n, d, (x5 - 20), (y6 + 1), rfl, T10.at (S10 _ _ (S7 _ _ pr)), upd_same, d0, by omega, ⟨bits_le bn (by omega), bits_le bd (by omega), bits_le bO (by decide), bits_le bU (by decide)⟩, fun z hz => ?_⟩
        have T11 := T10.new (o := .lst [V.int (rOd (n * (y6 + 1) + (x5 - 20) * d) (d * (y6 + 1))), V.int (rUd (n * (y6 + 1) + (x5 - 20) * d) (d * (y6 + 1)))]) hz
        have S11 := S10.trans (same_upd (o := .lst [V.int (rOd (n * (y6 + 1) + (x5 - 20) * d) (d * (y6 + 1))), V.int (rUd (n * (y6 + 1) + (x5 - 20) * d) (d * (y6 + 1)))]) (T10.isn hz))
        have shY : Sh C_Share (upd (upd (mkS C_Share B7 y dy (rOd (n * u1 + o1 * d) (d * u1)) (rUd (n * u1 + o1 * d) (d * u1))) l (.lst [V.int (x5 - 20), V.int (y6 + 1)])) z (.lst [V.int (rOd (n * (y6 + 1) + (x5 - 20) * d) (d * (y6 + 1))), V.int (rUd (n * (y6 + 1) + (x5 - 20) * d) (d * (y6 + 1)))])) y (rOd (n * (y6 + 1) + (x5 - 20) * d) (d * (y6 + 1))) (rUd (n * (y6 + 1) + (x5 - 20) * d) (d * (y6 + 1))) := by
          have h1 := mkS_sh (C := C_Share) (H := B7) (x := y) (dx := dy) (n := rOd (n * u1 + o1 * d) (d * u1)) (d := rUd (n * u1 + o1 * d) (d * u1))
          have h2 := (h1.mono (same_upd (T9.isn hl))).mono (same_upd (o := .lst [V.int (rOd (n * (y6 + 1) + (x5 - 20) * d) (d * (y6 + 1))), V.int (rUd (n * (y6 + 1) + (x5 - 20) * d) (d * (y6 + 1)))]) (T10.isn hz))
          rw [← eo1, ← eu1] at h2 ⊢
          rw [(red_sum (n := n) (d := d) (o := (x5 - 20)) (u := (y6 + 1)) (by omega)).1, (red_sum (n := n) (d := d) (o := (x5 - 20)) (u := (y6 + 1)) (by omega)).2]
          rw [(red_sum (n := n) (d := d) (o := (x5 - 20)) (u := (y6 + 1)) (by omega)).1, (red_sum (n := n) (d := d) (o := (x5 - 20)) (u := (y6 + 1)) (by omega)).2] at h2
          exact h2
        have shY2 := shY.mono T11.same
        refine ⟨_, rfl, rfl, _, rfl, ?_⟩
        refine ite2 (fun z => absurd z (by simp)) (fun _ => ?_)
        refine ⟨_, rfl, rfl, _, rfl, ?_⟩
        refine ite2 (fun z => absurd z (by simp)) (fun _ => ?_)
        refine ⟨_, rfl, _, rfl, y, z, _, _, rfl, shY2, upd_same, _, rfl, iteF ?_⟩
        exact ⟨_, _, _, _, _, _, y, z, _, _, rfl, S.trans (S7.trans S11), T11.le (by omega), shY, upd_same, rU_pos (Int.ne_of_gt (Int.mul_pos d0 (by omega))), Nat.lt_of_le_of_lt (rO_le _ _) (bits_le (bits_add (bits_le (bits_mul bn bU) (by omega : _ ≤ 3 + 6 * i + 5)) (bits_le (bits_mul bO bd) (by omega))) (by omega)), Nat.lt_of_le_of_lt (rU_le _ _) (bits_le (bits_mul bd bU) (by omega))⟩
      · skip
        refine ite2 (fun z => absurd z (by simp)) (fun _ => ?_)
        refine ⟨_, rfl, rfl, _, rfl, ?_⟩
        refine ite2 (fun _ => ?_) (fun z => absurd (by simp) z)
        refine ⟨_, rfl, _, rfl, a, da, _, x, dx, _, rfl, rfl, T8.at ha7, T8.at hx7, a, x, n, d, o1, u1, rfl, ⟨da, T8.at ha7⟩, ⟨dx, T8.at hx7⟩, d0, u10, ⟨bits_le bn (by omega), bits_le bd (by omega), bits_le bo (by decide), bits_le bu (by decide)⟩, fun y dy hy hdy hne2 => ?_⟩
        have T9 := T8.inst (C := C_Share) (fs := fz (rOd (n * u1 - o1 * d) (d * u1)) (rUd (n * u1 - o1 * d) (d * u1))) hy hdy hne2
        have S9 := mkS_same (C := C_Share) (n := rOd (n * u1 - o1 * d) (d * u1)) (d := rUd (n * u1 - o1 * d) (d * u1)) (T8.isn hy) (T8.isn hdy)
        refine ⟨_, rfl, _, rfl, _, rfl, szle (by show 2 ≤ 16777216; decide), fun l hl => ?_⟩
        have T10 := T9.new (o := .lst [V.int (x5 - 20), V.int (y6 + 1)]) hl
        have S10 := S9.trans (same_upd (o := .lst [V.int (x5 - 20), V.int (y6 + 1)]) (T9.isn hl))
        refine ⟨p, l, n, d, (x5 - 20), (y6 + 1), rfl, T10.at (S10 _ _ (S7 _ _ pr)), upd_same, d0, by omega, ⟨bits_le bn (by omega), bits_le bd (by omega), bits_le bO (by decide), bits_le bU (by decide)⟩, fun z hz => ?_⟩
        have T11 := T10.new (o := .lst [V.int (rOd (n * (y6 + 1) - (x5 - 20) * d) (d * (y6 + 1))), V.int (rUd (n * (y6 + 1) - (x5 - 20) * d) (d * (y6 + 1)))]) hz
        have S11 := S10.trans (same_upd (o := .lst [V.int (rOd (n * (y6 + 1) - (x5 - 20) * d) (d * (y6 + 1))), V.int (rUd (n * (y6 + 1) - (x5 - 20) * d) (d * (y6 + 1)))]) (T10.isn hz))
        have shY : Sh C_Share (upd (upd (mkS C_Share B7 y dy (rOd (n * u1 - o1 * d) (d * u1)) (rUd (n * u1 - o1 * d) (d * u1))) l (.lst [V.int (x5 - 20), V.int (y6 + 1)])) z (.lst [V.int (rOd (n * (y6 + 1) - (x5 - 20) * d) (d * (y6 + 1))), V.int (rUd (n * (y6 + 1) - (x5 - 20) * d) (d * (y6 + 1)))])) y (rOd (n * (y6 + 1) - (x5 - 20) * d) (d * (y6 + 1))) (rUd (n * (y6 + 1) - (x5 - 20) * d) (d * (y6 + 1))) := by
          have h1 := mkS_sh (C := C_Share) (H := B7) (x := y) (dx := dy) (n := rOd (n * u1 - o1 * d) (d * u1)) (d := rUd (n * u1 - o1 * d) (d * u1))
          have h2 := (h1.mono (same_upd (T9.isn hl))).mono (same_upd (o := .lst [V.int (rOd (n * (y6 + 1) - (x5 - 20) * d) (d * (y6 + 1))), V.int (rUd (n * (y6 + 1) - (x5 - 20) * d) (d * (y6 + 1)))]) (T10.isn hz))
          rw [← eo1, ← eu1] at h2 ⊢
          rw [(red_less (n := n) (d := d) (o := (x5 - 20)) (u := (y6 + 1)) (by omega)).1, (red_less (n := n) (d := d) (o := (x5 - 20)) (u := (y6 + 1)) (by omega)).2]
          rw [(red_less (n := n) (d := d) (o := (x5 - 20)) (u := (y6 + 1)) (by omega)).1, (red_less (n := n) (d := d) (o := (x5 - 20)) (u := (y6 + 1)) (by omega)).2] at h2
          exact h2
        have shY2 := shY.mono T11.same
        refine ⟨_, rfl, rfl, _, rfl, ?_⟩
        refine ite2 (fun z => absurd z (by simp)) (fun _ => ?_)
        refine ⟨_, rfl, _, rfl, y, z, _, _, rfl, shY2, upd_same, _, rfl, iteF ?_⟩
        exact ⟨_, _, _, _, _, _, y, z, _, _, rfl, S.trans (S7.trans S11), T11.le (by omega), shY, upd_same, rU_pos (Int.ne_of_gt (Int.mul_pos d0 (by omega))), Nat.lt_of_le_of_lt (rO_le _ _) (bits_le (bits_sub (bits_le (bits_mul bn bU) (by omega : _ ≤ 3 + 6 * i + 5)) (bits_le (bits_mul bO bd) (by omega))) (by omega)), Nat.lt_of_le_of_lt (rU_le _ _) (bits_le (bits_mul bd bU) (by omega))⟩
      · skip
        refine ite2 (fun z => absurd z (by simp)) (fun _ => ?_)
        refine ⟨_, rfl, rfl, _, rfl, ?_⟩
        refine ite2 (fun z => absurd z (by simp)) (fun _ => ?_)
        refine ⟨_, rfl, rfl, _, rfl, ?_⟩
        refine ite2 (fun _ => ?_) (fun z => absurd (by simp) z)
        refine ⟨_, rfl, _, rfl, a, da, _, x, dx, _, rfl, rfl, T8.at ha7, T8.at hx7, a, x, n, d, o1, u1, rfl, ⟨da, T8.at ha7⟩, ⟨dx, T8.at hx7⟩, d0, u10, ⟨bits_le bn (by omega), bits_le bd (by omega), bits_le bo (by decide), bits_le bu (by decide)⟩, fun y dy hy hdy hne2 => ?_⟩
        have T9 := T8.inst (C := C_Share) (fs := fz (rOd (n * o1) (d * u1)) (rUd (n * o1) (d * u1))) hy hdy hne2
        have S9 := mkS_same (C := C_Share) (n := rOd (n * o1) (d * u1)) (d := rUd (n * o1) (d * u1)) (T8.isn hy) (T8.isn hdy)
        refine ⟨_, rfl, _, rfl, _, rfl, szle (by show 2 ≤ 16777216; decide), fun l hl => ?_⟩
        have T10 := T9.new (o := .lst [V.int (x5 - 20), V.int (y6 + 1)]) hl
        have S10 := S9.trans (same_upd (o := .lst [V.int (x5 - 20), V.int (y6 + 1)]) (T9.isn hl))
        refine ⟨p, l, n, d, (x5 - 20), (y6 + 1), rfl, T10.at (S10 _ _ (S7 _ _ pr)), upd_same, d0, by omega, ⟨bits_le bn (by omega), bits_le bd (by omega), bits_le bO (by decide), bits_le bU (by decide)⟩, fun z hz => ?_⟩
        have T11 := T10.new (o := .lst [V.int (rOd (n * (x5 - 20)) (d * (y6 + 1))), V.int (rUd (n * (x5 - 20)) (d * (y6 + 1)))]) hz
        have S11 := S10.trans (same_upd (o := .lst [V.int (rOd (n * (x5 - 20)) (d * (y6 + 1))), V.int (rUd (n * (x5 - 20)) (d * (y6 + 1)))]) (T10.isn hz))
        have shY : Sh C_Share (upd (upd (mkS C_Share B7 y dy (rOd (n * o1) (d * u1)) (rUd (n * o1) (d * u1))) l (.lst [V.int (x5 - 20), V.int (y6 + 1)])) z (.lst [V.int (rOd (n * (x5 - 20)) (d * (y6 + 1))), V.int (rUd (n * (x5 - 20)) (d * (y6 + 1)))])) y (rOd (n * (x5 - 20)) (d * (y6 + 1))) (rUd (n * (x5 - 20)) (d * (y6 + 1))) := by
          have h1 := mkS_sh (C := C_Share) (H := B7) (x := y) (dx := dy) (n := rOd (n * o1) (d * u1)) (d := rUd (n * o1) (d * u1))
          have h2 := (h1.mono (same_upd (T9.isn hl))).mono (same_upd (o := .lst [V.int (rOd (n * (x5 - 20)) (d * (y6 + 1))), V.int (rUd (n * (x5 - 20)) (d * (y6 + 1)))]) (T10.isn hz))
          rw [← eo1, ← eu1] at h2 ⊢
          rw [(red_times (n := n) (d := d) (o := (x5 - 20)) (u := (y6 + 1)) (by omega)).1, (red_times (n := n) (d := d) (o := (x5 - 20)) (u := (y6 + 1)) (by omega)).2]
          rw [(red_times (n := n) (d := d) (o := (x5 - 20)) (u := (y6 + 1)) (by omega)).1, (red_times (n := n) (d := d) (o := (x5 - 20)) (u := (y6 + 1)) (by omega)).2] at h2
          exact h2
        have shY2 := shY.mono T11.same
        refine ⟨_, rfl, _, rfl, y, z, _, _, rfl, shY2, upd_same, _, rfl, iteF ?_⟩
        exact ⟨_, _, _, _, _, _, y, z, _, _, rfl, S.trans (S7.trans S11), T11.le (by omega), shY, upd_same, rU_pos (Int.ne_of_gt (Int.mul_pos d0 (by omega))), Nat.lt_of_le_of_lt (rO_le _ _) (bits_le (bits_mul bn bO) (by omega)), Nat.lt_of_le_of_lt (rU_le _ _) (bits_le (bits_mul bd bU) (by omega))⟩
    · rintro σ H' ⟨v3, v4, v5, v6, v7, B', a, p, n, d, rfl, S, TT', sh, pr, d0, bn, bd⟩
      exact q _ _ S (TT'.le (by omega))
end

def spAsks (K : PySem.W.Frag) : Sp := fun vs H Q _ => ∃ (a : Addr) (ns : List Int), vs = [.ref a] ∧ SqL K H a (ns.map V.int) ∧ ns.length ≤ 63 ∧ ∀ H', Q (.bl true) H'
abbrev spLaw := spAsks
/-- numbers that are drawn: each list's place, over, under -/
def nR (x : Addr × Int × Int) : V := .ref x.1
structure Nm (w : Nat) (B : Hp) (sn : Addr) (xs : List (Addr × Int × Int)) : Prop where
  l : B sn = some (.lst (xs.map nR))
  e : ∀ x ∈ xs, x.1 ≠ sn ∧ Pr B x.1 x.2.1 x.2.2 ∧ x.2.2 ≠ 0 ∧ x.2.1.natAbs < 2 ^ w ∧ x.2.2.natAbs < 2 ^ w
theorem Nm.mono {w v : Nat} {B B' : Hp} {sn : Addr} {xs : List (Addr × Int × Int)} (N : Nm w B sn xs) (s : Same B B') (h : w ≤ v) : Nm v B' sn xs :=
  ⟨s _ _ N.l, fun x hx => have z := N.e x hx; ⟨z.1, s _ _ z.2.1, z.2.2.1, bits_le z.2.2.2.1 h, bits_le z.2.2.2.2 h⟩⟩
theorem Nm.put {w : Nat} {B : Hp} {sn p : Addr} {xs : List (Addr × Int × Int)} {o u : Int} (N : Nm w B sn xs) (hp : B p = none) (ys : List (Addr × Int × Int)) (hy : ∀ y ∈ ys, y ∈ xs ∨ y = (p, o, u)) (hu : u ≠ 0) (b1 : o.natAbs < 2 ^ w) (b2 : u.natAbs < 2 ^ w) :
    Nm w (upd (upd B p (.lst [.int o, .int u])) sn (.lst (ys.map nR))) sn ys := by
  refine ⟨upd_same, fun y hm => ?_⟩
  rcases hy y hm with h | rfl
  · obtain ⟨h1, h2, h3⟩ := N.e y h
    refine ⟨h1, ?_, h3⟩
    unfold Pr
    rw [upd_ne h1]
    exact same_upd hp _ _ h2
  · have : sn ≠ p := ne_of_none N.l hp
    refine ⟨this.symm, ?_, hu, b1, b2⟩
    unfold Pr
    rw [upd_ne this.symm]
    exact upd_same
/-- three shares and what is due of them -/
structure Got (C : Addr) (B : Hp) (m dl : Addr) (S L : Nat → Addr) (N D : Nat → Int) : Prop where
  m : B m = some (.lst [.ref (S 0), .ref (S 1), .ref (S 2)])
  d : B dl = some (.lst [.ref (L 0), .ref (L 1), .ref (L 2)])
  e : ∀ j, j < 3 → Sh C B (S j) (N j) (D j) ∧ Pr B (L j) (N j) (D j) ∧ 0 < D j ∧ (N j).natAbs < 2 ^ 1306 ∧ (D j).natAbs < 2 ^ 1306
theorem Got.mono {C : Addr} {B B' : Hp} {m dl : Addr} {S L : Nat → Addr} {N D : Nat → Int} (G : Got C B m dl S L N D) (s : Same B B') : Got C B' m dl S L N D :=
  ⟨s _ _ G.m, s _ _ G.d, fun j hj => have z := G.e j hj; ⟨z.1.mono s, s _ _ z.2.1, z.2.2⟩⟩
section
variable {P : Program} {w : World} {K : PySem.W.Frag} {mg : Str → Option Value} {base : Heap} {C_Share : Addr} {C_InvalidNumber : Addr}
theorem ok_law_asks {f : Addr} {fd : FuncData} (F : Fun K "_law_asks" "_law_asks" s_law_asks f fd) (T : Txt K mg C_Share) (c : ShC K C_Share) (c_law_tape : Cal P w K mg base 1 "_law_tape" (spTape K)) (c_law_draw : Cal P w K mg base 1 "_law_draw" spDraw) (c_law_number : Cal P w K mg base 2 "_law_number" spNumber) (c_law_lowest : Cal P w K mg base 1 "_law_lowest" spLow)
    (m_Share : MakX P w K mg base 1 "Share" C_Share (spInit C_Share C_InvalidNumber)) (mk_Share_over_under : MakXK P w K mg base 1 "Share" C_Share ["over", "under"] (fun xs zs => xs ++ zs) (spInit C_Share C_InvalidNumber))
    (c_law_is : Cal P w K mg base 2 "_law_is" (spIs C_Share)) (c_law_strangers_right : Cal P w K mg base 3 "_law_strangers_right" (spStr C_Share)) (c_law_pair_right : Cal P w K mg base 4 "_law_pair_right" (spPR C_Share)) (c_law_refused : Cal P w K mg base 3 "_law_refused" spRef)
    (c_law_chain_right : Cal P w K mg base 4 "_law_chain_right" spChain) (c_half_of : Cal P w K mg base 3 "half_of" (spHalf C_Share)) (ck_half_of_length : CalK P w K mg base 3 "half_of" 0 ["length"] (fun xs zs => xs ++ zs) (spHalf C_Share)) : FnOk P w K mg base CX0 5 f fd ["script"] (spAsks K) := by
  refine F.ok sc_law_asks (fun vs H Q E h => ?_) (fun cdv A outer s H vs Q E hr h => ?_)
  · obtain ⟨a, ns, rfl, _⟩ := h
    rfl
  · obtain ⟨a, ns, rfl, hS, hlen, q⟩ := h
    refine ⟨_, (pss_cons (ps_set (i := 1) sc_law_asks.nd rfl (by first | exact Or.inl rfl | exact Or.inr rfl) (pe_c c_law_tape hr (by omega) (by rfl) (pa_cons (pv 0) pa_nil)))
    (pss_cons (ps_set (i := 2) sc_law_asks.nd rfl (by first | exact Or.inl rfl | exact Or.inr rfl) (pe_lst pa_nil))
    (C8.pss_cut (ps_for PassesOwn.never rfl (pi_range1 (by rfl) T.b_range (pa_cons pe_int pa_nil)) (pg_name (i := 3) sc_law_asks.nd rfl (by first | exact Or.inl rfl | exact Or.inr rfl))
      (pss_cons (ps_set (i := 4) sc_law_asks.nd rfl (by first | exact Or.inl rfl | exact Or.inr rfl) (pe_c c_law_number hr (by omega) (by rfl) (pa_cons (pv 1) pa_nil)))
        (C8.pss_cut (ps_if (pt_cmpR op_eq (pv 4) pe_int (nomark _))
          (pss_one (ps_set (i := 4) sc_law_asks.nd rfl (by first | exact Or.inl rfl | exact Or.inr rfl) (pe_un un_neg pe_int)))
          pss_nil)
        (pss_one (ps_expr (pe_bm PySem.F.plainAttrs_list PySem.F.slot_list_append PySem.F.type_list_append mt_append (pv 2) (pa_cons (pe_lst (pa_cons (pe_c c_law_number hr (by omega) (by rfl) (pa_cons (pv 1) pa_nil)) (pa_cons (pv 4) pa_nil))) pa_nil)))))))
    (pss_cons (ps_set (i := 5) sc_law_asks.nd rfl (by first | exact Or.inl rfl | exact Or.inr rfl) (pe_c c_law_draw hr (by omega) (by rfl) (pa_cons (pv 1) (pa_cons pe_int pa_nil))))
    (C8.pss_cut (ps_if (pt_cmpR op_eq (pv 5) pe_int (nomark _))
      (pss_cons (ps_set (i := 6) sc_law_asks.nd rfl (by first | exact Or.inl rfl | exact Or.inr rfl) (pe_op op_sub (pe_c c_law_draw hr (by omega) (by rfl) (pa_cons (pv 1) (pa_cons pe_int pa_nil))) pe_int))
        (C8.pss_cut (ps_if (pt_cmpR op_eq (pv 6) pe_int (nomark _))
          (pss_one (ps_set (i := 6) sc_law_asks.nd rfl (by first | exact Or.inl rfl | exact Or.inr rfl) (pe_un un_neg pe_int)))
          pss_nil)
        (pss_one (ps_asg (pe_lst (pa_cons (pe_op op_mulW (pe_ix ix_list (pe_ix ix_list (pv 2) pe_int (fun _ _ => rfl)) pe_int (fun _ _ => rfl)) (pv 6)) (pa_cons (pe_op op_mulW (pe_ix ix_list (pe_ix ix_list (pv 2) pe_int (fun _ _ => rfl)) pe_int (fun _ _ => rfl)) (pv 6)) pa_nil))) (pg_sub (pv 2) pe_int set_list)))))
      pss_nil)
    (C8.pss_cut (ps_if (pt_cmpR op_eq (pv 5) pe_int (nomark _))
      (pss_one (ps_asg (pe_lst (pa_cons (pe_op op_add (pe_op op_fdiv (pe_ix ix_list (pe_ix ix_list (pv 2) pe_int (fun _ _ => rfl)) pe_int (fun _ _ => rfl)) pe_int) pe_int) (pa_cons (pe_ix ix_list (pe_ix ix_list (pv 2) pe_int (fun _ _ => rfl)) pe_int (fun _ _ => rfl)) pa_nil))) (pg_sub (pv 2) pe_int set_list)))
      pss_nil)
    (pss_cons (ps_set (i := 7) sc_law_asks.nd rfl (by first | exact Or.inl rfl | exact Or.inr rfl) (pe_lst (pa_cons (pe_mkx m_Share hr (by omega) (by rfl) (pa_cons (pe_ix ix_list (pe_ix ix_list (pv 2) pe_int (fun _ _ => rfl)) pe_int (fun _ _ => rfl)) (pa_cons (pe_ix ix_list (pe_ix ix_list (pv 2) pe_int (fun _ _ => rfl)) pe_int (fun _ _ => rfl)) pa_nil))) (pa_cons (pe_mkxK0 mk_Share_over_under hr (by omega) (by rfl) (pk_cons (pe_ix ix_list (pe_ix ix_list (pv 2) pe_int (fun _ _ => rfl)) pe_int (fun _ _ => rfl)) (pk_cons (pe_ix ix_list (pe_ix ix_list (pv 2) pe_int (fun _ _ => rfl)) pe_int (fun _ _ => rfl)) pk_nil))) pa_nil))))
    (C8.pss_cut (ps_expr (pe_bm PySem.F.plainAttrs_list PySem.F.slot_list_append PySem.F.type_list_append mt_append (pv 7) (pa_cons (pe_mkx m_Share hr (by omega) (by rfl) (pa_cons (pe_ix ix_list (pe_ix ix_list (pv 2) pe_int (fun _ _ => rfl)) pe_int (fun _ _ => rfl)) (pa_cons (pe_ix ix_list (pe_ix ix_list (pv 2) pe_int (fun _ _ => rfl)) pe_int (fun _ _ => rfl)) pa_nil))) pa_nil)))
    (C8.pss_cut (ps_setLc (i := 8) (own := [("pair", 9)]) rfl sc_law_asks.nd rfl rfl (sw_true rfl rfl rfl (by decide +kernel)) (pi_list (pv 2)) (blkOk_by (own := [("pair", 9)]) (N := ["script", "tape", "numbers", "k", "under", "shape", "times", "made", "due", "pair", "length"]) (sc := defScope s_law_asks) (by decide +kernel)) (fun _ _ _ _ _ => (pg_name (i := 9) sc_law_asks.nd rfl (by first | exact Or.inl rfl | exact Or.inr rfl))) (fun _ _ _ _ _ => pts_nil) (fun _ _ _ _ _ => (pe_c c_law_lowest hr (by omega) (by rfl) (pa_cons (pe_ix (show IxR _ (rIxL K) from ix_list) (pv 9) pe_int (fun _ _ => rfl)) (pa_cons (pe_ix (show IxR _ (rIxL K) from ix_list) (pv 9) pe_int (fun _ _ => rfl)) pa_nil)))))
    (C8.pss_cut (ps_for PassesOwn.never rfl (pi_range1 (by rfl) T.b_range (pa_cons pe_int pa_nil)) (pg_name (i := 3) sc_law_asks.nd rfl (by first | exact Or.inl rfl | exact Or.inr rfl))
      (pss_one (ps_if (PW.pt (pw_or (pt_not (pt_val (pe_c c_law_is hr (by omega) (by rfl) (pa_cons (pe_ix ix_list (pv 7) (pv 3) (fun _ _ => rfl)) (pa_cons (pe_ix ix_list (pv 8) (pv 3) (fun _ _ => rfl)) pa_nil))))) (pw_or1 (pt_not (pt_val (pe_c c_law_strangers_right hr (by omega) (by rfl) (pa_cons (pe_ix ix_list (pv 7) (pv 3) (fun _ _ => rfl)) (pa_cons (pe_ix ix_list (pv 8) (pv 3) (fun _ _ => rfl)) pa_nil))))))))
          (pss_one (ps_ret pe_bl))
          pss_nil)))
    (C8.pss_cut (ps_for PassesOwn.never rfl (pi_list (pe_lst (pa_cons (pe_tup (pa_cons pe_int (pa_cons pe_int pa_nil))) (pa_cons (pe_tup (pa_cons pe_int (pa_cons pe_int pa_nil))) (pa_cons (pe_tup (pa_cons pe_int (pa_cons pe_int pa_nil))) (pa_cons (pe_tup (pa_cons pe_int (pa_cons pe_int pa_nil))) pa_nil)))))) (pg_name (i := 9) sc_law_asks.nd rfl (by first | exact Or.inl rfl | exact Or.inr rfl))
      (pss_one (ps_if (pt_not (pt_val (pe_c c_law_pair_right hr (by omega) (by rfl) (pa_cons (pe_ix ix_list (pv 7) (pe_ix ix_tup (pv 9) pe_int (fun _ _ => rfl)) (fun _ _ => rfl)) (pa_cons (pe_ix ix_list (pv 7) (pe_ix ix_tup (pv 9) pe_int (fun _ _ => rfl)) (fun _ _ => rfl)) (pa_cons (pe_ix ix_list (pv 8) (pe_ix ix_tup (pv 9) pe_int (fun _ _ => rfl)) (fun _ _ => rfl)) (pa_cons (pe_ix ix_list (pv 8) (pe_ix ix_tup (pv 9) pe_int (fun _ _ => rfl)) (fun _ _ => rfl)) pa_nil)))))))
          (pss_one (ps_ret pe_bl))
          pss_nil)))
    (C8.pss_cut (ps_for PassesOwn.never rfl (pi_range1 (by rfl) T.b_range (pa_cons pe_int pa_nil)) (pg_name (i := 3) sc_law_asks.nd rfl (by first | exact Or.inl rfl | exact Or.inr rfl))
      (pss_one (ps_if (pt_not (pt_val (pe_c c_law_is hr (by omega) (by rfl) (pa_cons (pe_ix ix_list (pv 7) (pv 3) (fun _ _ => rfl)) (pa_cons (pe_ix ix_list (pv 8) (pv 3) (fun _ _ => rfl)) pa_nil)))))
          (pss_one (ps_ret pe_bl))
          pss_nil)))
    (pss_cons (ps_if (PW.pt (pw_or (pt_not (pt_val (pe_c c_law_refused hr (by omega) (by rfl) (pa_cons (pe_ix ix_list (pe_ix ix_list (pv 2) pe_int (fun _ _ => rfl)) pe_int (fun _ _ => rfl)) (pa_cons (pe_cmpR op_eq (pv 5) pe_int (nomark _)) pa_nil))))) (pw_or1 (pt_not (pt_val (pe_c c_law_chain_right hr (by omega) (by rfl) (pa_cons (pv 1) pa_nil)))))))
      (pss_one (ps_ret pe_bl))
      pss_nil)
    (pss_cons (ps_set (i := 10) sc_law_asks.nd rfl (by first | exact Or.inl rfl | exact Or.inr rfl) (pe_c c_law_draw hr (by omega) (by rfl) (pa_cons (pv 1) (pa_cons pe_int pa_nil))))
    (C8.pss_cut (ps_if (pt_cmpR op_eq (pv 5) pe_int (nomark _))
      (pss_one (ps_set (i := 10) sc_law_asks.nd rfl (by first | exact Or.inl rfl | exact Or.inr rfl) (pe_c c_law_draw hr (by omega) (by rfl) (pa_cons (pv 1) (pa_cons pe_int pa_nil)))))
      pss_nil)
    (pss_one (ps_ret (pe_and (pe_c c_law_is hr (by omega) (by rfl) (pa_cons (pe_c c_half_of hr (by omega) (by rfl) (pa_cons (pv 10) pa_nil)) (pa_cons (pe_lst (pa_cons pe_int (pa_cons (pe_op op_shlW pe_int (pv 10)) pa_nil))) pa_nil))) (pe_one (pe_c c_law_is hr (by omega) (by rfl) (pa_cons (pe_cK0 ck_half_of_length hr (by omega) (by rfl) (pk_cons (pv 10) pk_nil)) (pa_cons (pe_lst (pa_cons pe_int (pa_cons (pe_op op_shlW pe_int (pv 10)) pa_nil))) pa_nil)))))))))))))))))))))), ?_⟩
    have a0 : ∀ n d : Int, atI [V.int n, V.int d] 0 = some (.int n) := fun _ _ => atI_nat (j := 0) rfl
    have a1 : ∀ n d : Int, atI [V.int n, V.int d] 1 = some (.int d) := fun _ _ => atI_nat (j := 1) rfl
    refine ⟨_, rfl, a, ns, rfl, hS, hlen, fun H1 t T1 => ?_⟩
    refine ⟨Nat.zero_le _, fun sn hsn => ?_⟩
    have hsn0 := T1.isn hsn
    refine ⟨fun σ H' => ∃ (v3 v4 : Option V) (B : Hp) (xs : List (Addr × Int × Int)), σ = [some (.ref a), some (.ref t), some (.ref sn), v3, v4, none, none, none, none, none, none] ∧ Same H B ∧ Tp B H' t 72 ∧ Nm 1300 B sn xs ∧ xs.length = 3, ?_, ?_⟩
    · refine ⟨3, rfl, by omega, by omega, for_range (n := 3) (fun i σ H' => ∃ (v3 v4 : Option V) (B : Hp) (xs : List (Addr × Int × Int)), σ = [some (.ref a), some (.ref t), some (.ref sn), v3, v4, none, none, none, none, none, none] ∧ Same H B ∧ Tp B H' t (24 * i) ∧ Nm 1300 B sn xs ∧ xs.length = i)
        ⟨none, none, _, [], rfl, same_upd hsn0, T1.new hsn, ⟨upd_same, fun x hx => by cases hx⟩, rfl⟩ ?_ ?_⟩
      · rintro i σ H' hi ⟨v3, v4, B, xs, rfl, S, TT, N, hl⟩
        refine ⟨_, rfl, B, t, 24 * i, rfl, TT, by omega, fun H3 u0 T3 bu0 => ?_⟩
        refine ⟨fun σ H' => ∃ u : Int, σ = [some (.ref a), some (.ref t), some (.ref sn), some (.int (0 + (i : Int))), some (.int u), none, none, none, none, none, none] ∧ H' = H3 ∧ u ≠ 0 ∧ u.natAbs < 2 ^ 1300, ?_, ?_⟩
        · refine ⟨_, rfl, rfl, _, rfl, ?_⟩
          rw [show decide (V.int u0 = V.int 0) = decide (u0 = 0) by simp]
          refine ite2 (fun hz => ?_) (fun hz => ?_)
          · exact ⟨_, rfl, _, rfl, rfl, by decide, by show 1 < _; exact Nat.one_lt_two_pow (by decide)⟩
          · exact ⟨_, rfl, rfl, by simpa using hz, bu0⟩
        · rintro σ H4 ⟨u, rfl, rfl, hu, bu⟩
          refine ⟨_, rfl, .inl ⟨rfl, _, SqL.of (T3.at N.l)⟩, _, rfl, B, t, 24 * i + 12, rfl, T3, by omega, fun H5 o T5 bo => ⟨_, rfl, szle (by show 2 ≤ 16777216; decide), fun p hp => ?_⟩⟩
          have T6 := T5.new (o := .lst [V.int o, V.int u]) hp
          have hs6 := same_upd (o := .lst [V.int o, V.int u]) (T5.isn hp) _ _ N.l
          refine ⟨sn, _, _, rfl, rfl, T6.at hs6, szl (by rw [List.length_map]; omega), ?_⟩
          have T7 := T6.set (o' := .lst (xs.map nR ++ [V.ref p])) hs6
          refine ⟨_, _, _, xs ++ [(p, o, u)], rfl, same_out (S.trans (same_upd (T5.isn hp))) hsn0, T7.le (by omega), ?_, by simp [hl]⟩
          have := N.put (o := o) (u := u) (T5.isn hp) (xs ++ [(p, o, u)]) (fun y hy => by simpa using hy) hu bo bu
          rw [List.map_append] at this
          exact this
      · rintro σ H' ⟨v3, v4, B, xs, rfl, S, TT, N, hl⟩
        exact ⟨_, _, _, _, rfl, S, TT.le (by omega), N, hl⟩
    rintro σ H2 ⟨v3, v4, B, xs, rfl, S, TT, N, hl⟩
    obtain ⟨x0, x1, x2, rfl⟩ : ∃ x0 x1 x2, xs = [x0, x1, x2] := match xs, hl with | [x0, x1, x2], _ => ⟨x0, x1, x2, rfl⟩
    have g0 : ∀ y : Addr × Int × Int, atI ([x0, y, x2].map nR) 0 = some (.ref x0.1) := fun _ => atI_nat (j := 0) rfl
    have g1 : ∀ y : Addr × Int × Int, atI ([x0, y, x2].map nR) 1 = some (.ref y.1) := fun _ => atI_nat (j := 1) rfl
    have g2 : ∀ y : Addr × Int × Int, atI ([x0, y, x2].map nR) 2 = some (.ref x2.1) := fun _ => atI_nat (j := 2) rfl
    refine ⟨_, rfl, B, t, 72, 4, rfl, TT, by decide, by decide, by omega, fun H3 sh T3 s0 s1 => ?_⟩
    refine ⟨fun σ H' => ∃ (v6 : Option V) (B' : Hp) (y : Addr × Int × Int), σ = [some (.ref a), some (.ref t), some (.ref sn), v3, v4, some (.int sh), v6, none, none, none, none] ∧ Same H B' ∧ Tp B' H' t 74 ∧ Nm 1304 B' sn [x0, y, x2], ?_, ?_⟩
    · refine ⟨_, rfl, rfl, _, rfl, ?_⟩
      rw [show decide (V.int sh = V.int 0) = decide (sh = 0) by simp]
      refine ite2 (fun _ => ?_) (fun _ => ?_)
      · refine ⟨_, rfl, B, t, 73, 13, rfl, T3, by decide, by decide, by omega, fun H4 m T4 m0 m1 => ⟨_, _, rfl, rfl, ?_⟩⟩
        refine ⟨fun σ H' => ∃ z : Int, σ = [some (.ref a), some (.ref t), some (.ref sn), v3, v4, some (.int sh), some (.int z), none, none, none, none] ∧ H' = H4 ∧ z ≠ 0 ∧ z.natAbs < 2 ^ 4, ?_, ?_⟩
        · refine ⟨_, rfl, rfl, _, rfl, ?_⟩
          rw [show decide (V.int (m - 6) = V.int 0) = decide (m - 6 = 0) by simp]
          refine ite2 (fun hz => ?_) (fun hz => ?_)
          · exact ⟨_, rfl, _, rfl, rfl, by decide, by decide⟩
          · exact ⟨_, rfl, rfl, by simpa using hz, by omega⟩
        · rintro σ H5 ⟨z, rfl, rfl, hz, bz⟩
          have e0 := N.e x0 (by simp)
          refine ⟨_, rfl, sn, _, _, _, rfl, rfl, SqL.of (T4.at N.l), g0 x1, x0.1, _, _, _, rfl, rfl, SqL.of (T4.at e0.2.1), a0 _ _, _, rfl, _, _, rfl, rfl, wide_mul e0.2.2.2.1 bz (by decide) (by decide) (by decide), ?_⟩
          refine ⟨_, rfl, sn, _, _, _, rfl, rfl, SqL.of (T4.at N.l), g0 x1, x0.1, _, _, _, rfl, rfl, SqL.of (T4.at e0.2.1), a1 _ _, _, rfl, _, _, rfl, rfl, wide_mul e0.2.2.2.2 bz (by decide) (by decide) (by decide), szle (by show 2 ≤ 16777216; decide), fun p hp => ?_⟩
          have T6 := T4.new (o := .lst [V.int (x0.2.1 * z), V.int (x0.2.2 * z)]) hp
          have hs6 := same_upd (o := .lst [V.int (x0.2.1 * z), V.int (x0.2.2 * z)]) (T4.isn hp) _ _ N.l
          refine ⟨_, rfl, sn, _, _, 1, rfl, rfl, T6.at hs6, by rfl, ?_⟩
          have T7 := T6.set (o' := .lst ([x0, (p, x0.2.1 * z, x0.2.2 * z), x2].map nR)) hs6
          refine ⟨_, _, (p, x0.2.1 * z, x0.2.2 * z), rfl, same_out (S.trans (same_upd (T4.isn hp))) hsn0, T7.le (by omega), ?_⟩
          exact (N.mono (v := 1304) (fun _ _ h => h) (by decide)).put (T4.isn hp) _ (fun y hy => by simp only [List.mem_cons, List.not_mem_nil, or_false] at hy ⊢; rcases hy with h | h | h <;> simp [h]) (Int.mul_ne_zero e0.2.2.1 hz) (bits_mul e0.2.2.2.1 bz) (bits_mul e0.2.2.2.2 bz)
      · exact ⟨_, _, x1, rfl, S, T3.le (by omega), N.mono (fun _ _ h => h) (by decide)⟩
    rintro σ H4 ⟨v6, B4, y4, rfl, S4, T4, N4⟩
    refine ⟨fun σ H' => ∃ (B' : Hp) (y : Addr × Int × Int), σ = [some (.ref a), some (.ref t), some (.ref sn), v3, v4, some (.int sh), v6, none, none, none, none] ∧ Same H B' ∧ Tp B' H' t 74 ∧ Nm 1306 B' sn [x0, y, x2], ?_, ?_⟩
    · refine ⟨_, rfl, rfl, _, rfl, ?_⟩
      rw [show decide (V.int sh = V.int 1) = decide (sh = 1) by simp]
      refine ite2 (fun _ => ?_) (fun _ => ?_)
      · have e0 := N4.e x0 (by simp)
        refine ⟨_, rfl, sn, _, _, _, rfl, rfl, SqL.of (T4.at N4.l), g0 y4, x0.1, _, _, _, rfl, rfl, SqL.of (T4.at e0.2.1), a0 _ _, _, _, rfl, rfl, ⟨by decide, by decide⟩, _, _, rfl, rfl, ?_⟩
        refine ⟨_, rfl, sn, _, _, _, rfl, rfl, SqL.of (T4.at N4.l), g0 y4, x0.1, _, _, _, rfl, rfl, SqL.of (T4.at e0.2.1), a1 _ _, szle (by show 2 ≤ 16777216; decide), fun p hp => ?_⟩
        have T6 := T4.new (o := .lst [V.int (x0.2.1 / 7 + 1), V.int x0.2.2]) hp
        have hs6 := same_upd (o := .lst [V.int (x0.2.1 / 7 + 1), V.int x0.2.2]) (T4.isn hp) _ _ N4.l
        refine ⟨_, rfl, sn, _, _, 1, rfl, rfl, T6.at hs6, by rfl, ?_⟩
        have T7 := T6.set (o' := .lst ([x0, (p, x0.2.1 / 7 + 1, x0.2.2), x2].map nR)) hs6
        refine ⟨_, (p, x0.2.1 / 7 + 1, x0.2.2), rfl, same_out (S4.trans (same_upd (T4.isn hp))) hsn0, T7.le (by omega), ?_⟩
        have b7 : (x0.2.1 / 7 + 1).natAbs < 2 ^ 1306 := by
          have h1 := e0.2.2.2.1
          have h2 : (x0.2.1 / 7).natAbs ≤ x0.2.1.natAbs := Int.natAbs_ediv_le_natAbs _ _
          have h3 : (x0.2.1 / 7 + 1).natAbs ≤ 2 ^ 1304 := by omega
          exact Nat.lt_of_le_of_lt h3 (Nat.pow_lt_pow_right (by decide) (by decide))
        exact (N4.mono (v := 1306) (fun _ _ h => h) (by decide)).put (T4.isn hp) _ (fun y hy => by simp only [List.mem_cons, List.not_mem_nil, or_false] at hy ⊢; rcases hy with h | h | h <;> simp [h]) e0.2.2.1 b7 (bits_le e0.2.2.2.2 (by decide))
      · exact ⟨_, y4, rfl, S4, T4, N4.mono (fun _ _ h => h) (by decide)⟩
    rintro σ H5 ⟨B5, y, rfl, S5, T5, N5⟩
    have e0 := N5.e x0 (by simp)
    have ey := N5.e y (by simp)
    have e2 := N5.e x2 (by simp)
    refine ⟨_, rfl, sn, _, _, _, rfl, rfl, SqL.of (T5.at N5.l), g0 y, x0.1, _, _, _, rfl, rfl, SqL.of (T5.at e0.2.1), a0 _ _, _, rfl, sn, _, _, _, rfl, rfl, SqL.of (T5.at N5.l), g0 y, x0.1, _, _, _, rfl, rfl, SqL.of (T5.at e0.2.1), a1 _ _, fun s0' d0' hx hdx hne => ⟨s0', d0', _, _, rfl, upd_same, bits_le e0.2.2.2.2 (by decide), .inl ⟨e0.2.2.1, fun H6 e6 => ⟨rfl, ?_⟩⟩⟩⟩
    obtain ⟨B6, S6, T6, sh0⟩ := T5.mkSh hx hdx hne e6
    have N6 := N5.mono (v := 1306) S6 (Nat.le_refl _)
    have ey6 := N6.e y (by simp)
    refine ⟨_, rfl, sn, _, _, _, rfl, rfl, SqL.of (T6.at N6.l), g1 y, y.1, _, _, _, rfl, rfl, SqL.of (T6.at ey6.2.1), a0 _ _, _, rfl, sn, _, _, _, rfl, rfl, SqL.of (T6.at N6.l), g1 y, y.1, _, _, _, rfl, rfl, SqL.of (T6.at ey6.2.1), a1 _ _, rfl, rfl, fun s1' d1' hx hdx hne => ⟨s1', d1', _, _, rfl, upd_same, bits_le ey.2.2.2.2 (by decide), .inl ⟨ey.2.2.1, fun H7 e7 => ⟨rfl, szle (by show 2 ≤ 16777216; decide), fun m hm => ?_⟩⟩⟩⟩
    obtain ⟨B7, S7, T7, sh1⟩ := T6.mkSh hx hdx hne e7
    have N7 := N6.mono (v := 1306) S7 (Nat.le_refl _)
    replace sh0 := sh0.mono S7
    have S57 := (S5.trans S6).trans S7
    have hm7 := T7.isn hm
    have T8 := T7.new (o := .lst [V.ref s0', V.ref s1']) hm
    have S8 := same_upd (o := .lst [V.ref s0', V.ref s1']) hm7
    have N8 := N7.mono (v := 1306) S8 (Nat.le_refl _)
    have e28 := N8.e x2 (by simp)
    -- made.append
    refine ⟨fun σ H' => ∃ (B' : Hp) (s2' : Addr), σ = [some (.ref a), some (.ref t), some (.ref sn), v3, v4, some (.int sh), v6, some (.ref m), none, none, none] ∧ Same H B' ∧ Tp B' H' t 74 ∧ Nm 1306 B' sn [x0, y, x2] ∧ B' m = some (.lst [.ref s0', .ref s1', .ref s2']) ∧ Sh C_Share B' s0' (rOd x0.2.1 x0.2.2) (rUd x0.2.1 x0.2.2) ∧ Sh C_Share B' s1' (rOd y.2.1 y.2.2) (rUd y.2.1 y.2.2) ∧ Sh C_Share B' s2' (rOd x2.2.1 x2.2.2) (rUd x2.2.1 x2.2.2), ?_, ?_⟩
    · refine ⟨_, rfl, .inl ⟨rfl, _, SqL.of upd_same⟩, _, rfl, sn, _, _, _, rfl, rfl, SqL.of (T8.at N8.l), g2 y, x2.1, _, _, _, rfl, rfl, SqL.of (T8.at e28.2.1), a0 _ _, _, rfl, sn, _, _, _, rfl, rfl, SqL.of (T8.at N8.l), g2 y, x2.1, _, _, _, rfl, rfl, SqL.of (T8.at e28.2.1), a1 _ _, fun s2' d2' hx hdx hne => ⟨s2', d2', _, _, rfl, upd_same, bits_le e2.2.2.2.2 (by decide), .inl ⟨e2.2.2.1, fun H9 e9 => ⟨rfl, ?_⟩⟩⟩⟩
      have hxm : m ≠ s2' := ne_of_none upd_same hx
      obtain ⟨B9, S9, T9, ⟨dz, sh2⟩⟩ := T8.mkSh hx hdx hne e9
      have hm9 : B9 m = some (.lst [V.ref s0', V.ref s1']) := S9 _ _ upd_same
      refine ⟨m, _, _, rfl, rfl, T9.at hm9, szl (by show 2 < 16777216; decide), ?_⟩
      have S79 : Same B7 (upd B9 m (.lst ([V.ref s0', V.ref s1'] ++ [V.ref s2']))) := same_out (S8.trans S9) hm7
      exact ⟨_, s2', rfl, S57.trans S79, T9.set hm9, N7.mono S79 (Nat.le_refl _), upd_same, sh0.mono S79, sh1.mono S79, ⟨dz, by rw [upd_ne hxm.symm]; exact sh2⟩⟩
    clear T5 T6 T7 T8 N6 N7 N8 S8 N4 T4 S4
    rintro σ H10 ⟨B10, s2', rfl, S10, T10, N10, hm10, h0, h1, h2⟩
    -- due
    refine ⟨fun σ H' => ∃ (B' : Hp) (dl : Addr) (L : Nat → Addr), σ = [some (.ref a), some (.ref t), some (.ref sn), v3, v4, some (.int sh), v6, some (.ref m), some (.ref dl), none, none] ∧ Same H B' ∧ Tp B' H' t 74 ∧ Nm 1306 B' sn [x0, y, x2] ∧ Got C_Share B' m dl (pick3 s0' s1' s2') L (fun j => rOd (pick3 x0 y x2 j).2.1 (pick3 x0 y x2 j).2.2) (fun j => rUd (pick3 x0 y x2 j).2.1 (pick3 x0 y x2 j).2.2), ?_, ?_⟩
    · refine ⟨_, rfl, sn, rfl, ⟨_, SqL.of (T10.at N10.l)⟩, fun D hD => lc_list (K := K) (a := sn) (xs := [x0, y, x2].map nR) (fun i H' => ∃ (B' : Hp) (zs : List Addr), Same B10 B' ∧ Tp B' H' t 74 ∧ B' D = some (.lst (zs.map V.ref)) ∧ zs.length = i ∧ ∀ (j : Nat) (z : Addr) (x : Addr × Int × Int), zs[j]? = some z → [x0, y, x2][j]? = some x → z ≠ D ∧ Pr B' z (rOd x.2.1 x.2.2) (rUd x.2.1 x.2.2)) ?_ ?_ ?_ ?_⟩
      · exact ⟨_, [], same_upd (T10.isn hD), T10.new hD, upd_same, rfl, fun j z x hz => by simp at hz⟩
      · rintro i H' _ ⟨B', zs, sB, TT, _⟩
        exact SqL.of (TT.at (sB _ _ N10.l))
      · rintro i v H' hi ⟨B', zs, sB, TT, eD, lz, hz⟩
        obtain ⟨x, hxi, rfl⟩ : ∃ x, [x0, y, x2][i]? = some x ∧ v = nR x := by
          rw [List.getElem?_map] at hi
          cases e : [x0, y, x2][i]? with
          | none => rw [e] at hi; cases hi
          | some x => rw [e] at hi; exact ⟨x, rfl, (Option.some.inj hi).symm⟩
        have ex := N10.e x (List.mem_of_getElem? hxi)
        have px := TT.at (sB _ _ ex.2.1)
        have hi3 : i < 3 := (List.getElem?_eq_some_iff.mp hxi).1
        refine ⟨rfl, iteT (B := ∃ (B' : Hp) (zs : List Addr), Same B10 B' ∧ Tp B' H' t 74 ∧ B' D = some (.lst (zs.map V.ref)) ∧ zs.length = i + 1 ∧ ∀ (j : Nat) (z : Addr) (x : Addr × Int × Int), zs[j]? = some z → [x0, y, x2][j]? = some x → z ≠ D ∧ Pr B' z (rOd x.2.1 x.2.2) (rUd x.2.1 x.2.2)) ?_⟩
        refine ⟨_, rfl, x.1, _, _, _, rfl, rfl, SqL.of px, a0 _ _, _, rfl, x.1, _, _, _, rfl, rfl, SqL.of px, a1 _ _, _, _, rfl, ex.2.2.1, bits_le ex.2.2.2.1 (by decide), bits_le ex.2.2.2.2 (by decide), fun p hp => ?_⟩
        have hp' := TT.isn hp
        have T11 := TT.new (o := .lst [V.int (rOd x.2.1 x.2.2), V.int (rUd x.2.1 x.2.2)]) hp
        have s11 := same_upd (o := .lst [V.int (rOd x.2.1 x.2.2), V.int (rUd x.2.1 x.2.2)]) hp'
        have hDp : D ≠ p := ne_of_none eD hp'
        refine ⟨zs.map V.ref, T11.at (s11 _ _ eD), szl (by rw [List.length_map]; omega), _, zs ++ [p], same_out (sB.trans s11) (T10.isn hD), T11.set (s11 _ _ eD), by rw [upd_same, List.map_append]; rfl, by simp [lz], ?_⟩
        intro j z x' hz' hx'
        by_cases hj : j < zs.length
        · rw [List.getElem?_append_left hj] at hz'
          obtain ⟨q1, q2⟩ := hz j z x' hz' hx'
          refine ⟨q1, ?_⟩
          unfold Pr
          rw [upd_ne q1]
          exact s11 _ _ q2
        · have ej : j = i := by
            have := (List.getElem?_eq_some_iff.mp hz').1
            rw [List.length_append] at this
            simp only [List.length_cons, List.length_nil] at this
            omega
          subst ej
          rw [List.getElem?_append_right (by omega), lz, Nat.sub_self] at hz'
          cases Option.some.inj hz'
          rw [hxi] at hx'
          cases Option.some.inj hx'
          refine ⟨hDp.symm, ?_⟩
          unfold Pr
          rw [upd_ne hDp.symm]
          exact upd_same
      · rintro H' ⟨B', zs, sB, TT, eD, lz, hz⟩
        obtain ⟨z0, z1, z2, rfl⟩ : ∃ z0 z1 z2, zs = [z0, z1, z2] := match zs, lz with | [z0, z1, z2], _ => ⟨z0, z1, z2, rfl⟩
        refine ⟨B', D, pick3 z0 z1 z2, rfl, S10.trans sB, TT, N10.mono sB (Nat.le_refl _), sB _ _ hm10, eD, fun j hj => ?_⟩
        have hb : ∀ x : Addr × Int × Int, x ∈ [x0, y, x2] → 0 < rUd x.2.1 x.2.2 ∧ (rOd x.2.1 x.2.2).natAbs < 2 ^ 1306 ∧ (rUd x.2.1 x.2.2).natAbs < 2 ^ 1306 := fun x hx => by
          have ex := N10.e x hx
          exact ⟨rU_pos ex.2.2.1, Nat.lt_of_le_of_lt (rO_le _ _) ex.2.2.2.1, Nat.lt_of_le_of_lt (rU_le _ _) ex.2.2.2.2⟩
        rcases (by omega : j = 0 ∨ j = 1 ∨ j = 2) with rfl | rfl | rfl
        · exact ⟨h0.mono sB, (hz 0 z0 x0 rfl rfl).2, hb x0 (by simp)⟩
        · exact ⟨h1.mono sB, (hz 1 z1 y rfl rfl).2, hb y (by simp)⟩
        · exact ⟨h2.mono sB, (hz 2 z2 x2 rfl rfl).2, hb x2 (by simp)⟩
    clear T10 N10 N5 S5 S10 h0 h1 h2 hm10 sh0 sh1
    rintro σ H11 ⟨B, dl, L, rfl, SB, T11, N, G⟩
    have bb : ∀ {x : Int}, x.natAbs < 2 ^ 1306 → x.natAbs < 2 ^ 1990 := fun h => bits_le h (by decide)
    -- each one
    refine ⟨fun σ H' => ∃ v3, σ = [some (.ref a), some (.ref t), some (.ref sn), v3, v4, some (.int sh), v6, some (.ref m), some (.ref dl), none, none] ∧ Tp B H' t 74, ?_, ?_⟩
    · refine ⟨3, rfl, by omega, by omega, for_range (n := 3) (fun i σ H' => ∃ v3, σ = [some (.ref a), some (.ref t), some (.ref sn), v3, v4, some (.int sh), v6, some (.ref m), some (.ref dl), none, none] ∧ Tp B H' t 74) ⟨_, rfl, T11⟩ ?_ ?_⟩
      · rintro i σ H' hi ⟨w3, rfl, TT⟩
        obtain ⟨g1', g2', g3', g4', g5'⟩ := G.e i hi
        refine ⟨_, rfl, _, rfl, m, _, _, _, rfl, rfl, SqL.of (TT.at G.m), at_of (j := i) (by omega) (get3 (by omega)), _, rfl, _, rfl, dl, _, _, _, rfl, rfl, SqL.of (TT.at G.d), at_of (j := i) (by omega) (get3 (by omega)), _, _, _, _, rfl, g1'.mono TT.same, TT.at g2', _, rfl, iteF ?_⟩
        refine ⟨_, rfl, _, rfl, m, _, _, _, rfl, rfl, SqL.of (TT.at G.m), at_of (j := i) (by omega) (get3 (by omega)), _, rfl, _, rfl, dl, _, _, _, rfl, rfl, SqL.of (TT.at G.d), at_of (j := i) (by omega) (get3 (by omega)), _, _, _, _, rfl, g1'.mono TT.same, TT.at g2', g3', bits_le g5' (by decide), fun H'' ss => ⟨_, rfl, iteF ⟨_, rfl, TT.ext ss⟩⟩⟩
      · rintro σ H' ⟨w3, rfl, TT⟩
        exact ⟨_, rfl, TT⟩
    rintro σ H12 ⟨w3, rfl, T12⟩
    -- the pairs
    refine ⟨fun σ H' => ∃ v9, σ = [some (.ref a), some (.ref t), some (.ref sn), w3, v4, some (.int sh), v6, some (.ref m), some (.ref dl), v9, none] ∧ Tp B H' t 74, ?_, ?_⟩
    · refine ⟨szle (by show 2 ≤ 16777216; decide), fun p1 hp1 => ⟨szle (by show 2 ≤ 16777216; decide), fun p2 hp2 => ⟨szle (by show 2 ≤ 16777216; decide), fun p3 hp3 => ⟨szle (by show 2 ≤ 16777216; decide), fun p4 hp4 => ⟨szle (by show 4 ≤ 16777216; decide), fun pl hpl => ?_⟩⟩⟩⟩⟩
      obtain ⟨Hc, eHc⟩ : ∃ Hc, upd (upd (upd (upd (upd H12 p1 (.tup [.int 0, .int 1])) p2 (.tup [.int 1, .int 2])) p3 (.tup [.int 2, .int 0])) p4 (.tup [.int 1, .int 1])) pl (.lst [.ref p1, .ref p2, .ref p3, .ref p4]) = Hc := ⟨_, rfl⟩
      have c5 := same_upd (o := .lst [.ref p1, .ref p2, .ref p3, .ref p4]) hpl
      have c4 := (same_upd (o := .tup [.int 1, .int 1]) hp4).trans c5
      have c3 := (same_upd (o := .tup [.int 2, .int 0]) hp3).trans c4
      have c2 := (same_upd (o := .tup [.int 1, .int 2]) hp2).trans c3
      have c1 := (same_upd (o := .tup [.int 0, .int 1]) hp1).trans c2
      have f1 := c2 _ _ (upd_same (H := H12) (a := p1) (o := .tup [.int 0, .int 1]))
      have f2 := c3 _ _ upd_same
      have f3 := c4 _ _ upd_same
      have f4 := c5 _ _ upd_same
      have f5 : upd (upd (upd (upd (upd H12 p1 (.tup [.int 0, .int 1])) p2 (.tup [.int 1, .int 2])) p3 (.tup [.int 2, .int 0])) p4 (.tup [.int 1, .int 1])) pl (.lst [.ref p1, .ref p2, .ref p3, .ref p4]) pl = some (.lst [.ref p1, .ref p2, .ref p3, .ref p4]) := upd_same
      rw [eHc] at c1 f1 f2 f3 f4 f5
      refine ⟨pl, rfl, ⟨_, SqL.of upd_same⟩, for_list (K := K) (a := pl) (xs := [.ref p1, .ref p2, .ref p3, .ref p4]) (fun i σ H' => ∃ v9, σ = [some (.ref a), some (.ref t), some (.ref sn), w3, v4, some (.int sh), v6, some (.ref m), some (.ref dl), v9, none] ∧ Tp B H' t 74 ∧ Same Hc H') ⟨_, rfl, T12.ext (by rw [← eHc] at c1; exact c1), fun b o e => by rw [← eHc] at e; exact e⟩ ?_ ?_ ?_⟩
      · rintro i σ H' _ ⟨_, rfl, _, SS⟩
        exact SqL.of (SS _ _ f5)
      · rintro i x σ H' hi ⟨v9, rfl, TT, SS⟩
        obtain ⟨q', j, k, rfl, hj, hk, hq⟩ : ∃ (q' : Addr) (j k : Nat), x = .ref q' ∧ j < 3 ∧ k < 3 ∧ Hc q' = some (.tup [.int j, .int k]) := by
          have := List.mem_of_getElem? hi
          simp only [List.mem_cons, List.not_mem_nil, or_false] at this
          rcases this with rfl | rfl | rfl | rfl
          · exact ⟨p1, 0, 1, rfl, by decide, by decide, f1⟩
          · exact ⟨p2, 1, 2, rfl, by decide, by decide, f2⟩
          · exact ⟨p3, 2, 0, rfl, by decide, by decide, f3⟩
          · exact ⟨p4, 1, 1, rfl, by decide, by decide, f4⟩
        obtain ⟨g1', g2', g3', g4', g5'⟩ := G.e j hj
        obtain ⟨k1', k2', k3', k4', k5'⟩ := G.e k hk
        refine ⟨_, rfl, _, rfl, q', _, _, _, rfl, rfl, SqT.of (SS _ _ hq), a0 _ _, m, _, _, _, rfl, rfl, SqL.of (TT.at G.m), at_of (j := j) rfl (get3 (by omega)), _, rfl, _, rfl, q', _, _, _, rfl, rfl, SqT.of (SS _ _ hq), a1 _ _, m, _, _, _, rfl, rfl, SqL.of (TT.at G.m), at_of (j := k) rfl (get3 (by omega)), _, rfl, _, rfl, q', _, _, _, rfl, rfl, SqT.of (SS _ _ hq), a0 _ _, dl, _, _, _, rfl, rfl, SqL.of (TT.at G.d), at_of (j := j) rfl (get3 (by omega)), _, rfl, _, rfl, q', _, _, _, rfl, rfl, SqT.of (SS _ _ hq), a1 _ _, dl, _, _, _, rfl, rfl, SqL.of (TT.at G.d), at_of (j := k) rfl (get3 (by omega)), ?_⟩
        exact ⟨_, _, _, _, _, _, _, _, rfl, g1'.mono TT.same, k1'.mono TT.same, TT.at g2', TT.at k2', g3', k3', ⟨bb g4', bb g5', bb k4', bb k5'⟩, fun H'' ss => ⟨_, rfl, iteF ⟨_, rfl, TT.ext ss, SS.trans ss⟩⟩⟩
      · rintro σ H' ⟨v9, rfl, TT, SS⟩
        exact ⟨_, rfl, TT⟩
    rintro σ H13 ⟨v9, rfl, T13⟩
    -- each one again
    refine ⟨fun σ H' => ∃ v3, σ = [some (.ref a), some (.ref t), some (.ref sn), v3, v4, some (.int sh), v6, some (.ref m), some (.ref dl), v9, none] ∧ Tp B H' t 74, ?_, ?_⟩
    · refine ⟨3, rfl, by omega, by omega, for_range (n := 3) (fun i σ H' => ∃ v3, σ = [some (.ref a), some (.ref t), some (.ref sn), v3, v4, some (.int sh), v6, some (.ref m), some (.ref dl), v9, none] ∧ Tp B H' t 74) ⟨_, rfl, T13⟩ ?_ ?_⟩
      · rintro i σ H' hi ⟨w3, rfl, TT⟩
        obtain ⟨g1', g2', g3', g4', g5'⟩ := G.e i hi
        exact ⟨_, rfl, _, rfl, m, _, _, _, rfl, rfl, SqL.of (TT.at G.m), at_of (j := i) (by omega) (get3 (by omega)), _, rfl, _, rfl, dl, _, _, _, rfl, rfl, SqL.of (TT.at G.d), at_of (j := i) (by omega) (get3 (by omega)), _, _, _, _, rfl, g1'.mono TT.same, TT.at g2', _, rfl, iteF ⟨_, rfl, TT⟩⟩
      · rintro σ H' ⟨w3, rfl, TT⟩
        exact ⟨_, rfl, TT⟩
    rintro σ H14 ⟨u3, rfl, T14⟩
    have f0 := N.e x0 (by simp)
    refine ⟨_, rfl, sn, _, _, _, rfl, rfl, SqL.of (T14.at N.l), g0 y, x0.1, _, _, _, rfl, rfl, SqL.of (T14.at f0.2.1), a0 _ _, _, rfl, rfl, _, _, rfl, fun H15 s15 => ⟨_, rfl, iteF ?_⟩⟩
    refine ⟨_, rfl, B, t, 74, rfl, T14.ext s15, by decide, fun B16 H16 S16 T16 => ⟨_, rfl, iteF ?_⟩⟩
    refine ⟨_, rfl, B16, t, 94, 201, rfl, T16, by decide, by decide, by decide, fun H17 n T17 n0 n1 => ?_⟩
    obtain ⟨n, rfl⟩ := nat_of n0
    refine ⟨fun σ H' => ∃ n : Nat, σ = [some (.ref a), some (.ref t), some (.ref sn), u3, v4, some (.int sh), v6, some (.ref m), some (.ref dl), v9, some (.int n)] ∧ n ≤ 200, ?_, ?_⟩
    · refine ⟨_, rfl, rfl, _, rfl, ?_⟩
      rw [show decide (V.int sh = V.int 3) = decide (sh = 3) by simp]
      refine ite2 (fun _ => ?_) (fun _ => ?_)
      · refine ⟨_, rfl, B16, t, 95, 4, rfl, T17, by decide, by decide, by decide, fun H18 l T18 l0 l1 => ?_⟩
        obtain ⟨l, rfl⟩ := nat_of l0
        exact ⟨l, rfl, by omega⟩
      · exact ⟨n, rfl, by omega⟩
    rintro σ H18 ⟨n, rfl, hn⟩
    have e : (1 : Int) * 2 ^ ((n : Int)).toNat = 2 ^ n := by rw [Int.one_mul, Int.toNat_natCast]
    have p2 : (0 : Int) < 2 ^ n := Int.pow_pos (by decide)
    have cs : CShl 1 (n : Int) := ⟨by omega, by rw [show Builtin.Int.intBits 1 = 1 by decide]; omega⟩
    have fin : ∀ (H' : Hp) (x dx l : Addr), Sh C_Share (upd (mkS C_Share H' x dx (rOd 1 (2 ^ n)) (rUd 1 (2 ^ n))) l (.lst [V.int 1, V.int (1 * 2 ^ ((n : Int)).toNat)])) x (rOd 1 (2 ^ n)) (rUd 1 (2 ^ n)) → Sh C_Share (upd (mkS C_Share H' x dx (rOd 1 (2 ^ n)) (rUd 1 (2 ^ n))) l (.lst [V.int 1, V.int (1 * 2 ^ ((n : Int)).toNat)])) x 1 (1 * 2 ^ ((n : Int)).toNat) := fun H' x dx l h => by
      have h' := h
      rw [rOd_one' p2, rUd_one' p2, ← e] at h'
      rw [rOd_one' p2, rUd_one' p2, ← e]
      exact h'
    refine ⟨_, rfl, n, rfl, by omega, fun x dx hx hdx hne => ⟨_, rfl, _, _, rfl, rfl, cs, szle (by show 2 ≤ 16777216; decide), fun l hl => ?_⟩⟩
    refine ⟨x, l, 1, _, rfl, fin _ _ _ _ (mkS_sh.mono (same_upd hl)), upd_same, _, rfl, iteT ?_⟩
    refine ⟨_, rfl, rfl, n, rfl, by omega, fun x dx hx hdx hne => ⟨_, rfl, _, _, rfl, rfl, cs, szle (by show 2 ≤ 16777216; decide), fun l hl => ?_⟩⟩
    exact ⟨x, l, 1, _, rfl, fin _ _ _ _ (mkS_sh.mono (same_upd hl)), upd_same, q _⟩
theorem ok_law {f : Addr} {fd : FuncData} (F : Fun K "law" "law" s_law f fd) (T : Txt K mg C_Share) (c_law_asks : Cal P w K mg base 5 "_law_asks" (spAsks K)) : FnOk P w K mg base CX0 6 f fd ["script"] (spLaw K) := by
  refine F.ok sc_law (fun vs H Q E h => ?_) (fun cdv A outer s H vs Q E hr h => ?_)
  · obtain ⟨a, ns, rfl, _⟩ := h
    rfl
  · obtain ⟨a, ns, rfl, hS, hlen, q⟩ := h
    refine ⟨_, (pss_one (ps_try_thru0
      (pss_one (ps_ret (pe_c c_law_asks hr (by omega) (by rfl) (pa_cons (pv 0) pa_nil)))))), ?_⟩
    exact ⟨_, rfl, a, ns, rfl, hS, hlen, fun H' => q H'⟩
end

theorem all_mk {l : PySem.W.OpenLaw} {w : World} {K : PySem.W.Frag} {h : Heap} {mg : Str → Option Value} {fa f_Share___init__ f_Share___add__ f_Share___sub__ f_Share___mul__ f_Share___eq__ f_Share_is_below f_half_of f_law_tape f_law_draw f_law_number f_law_lowest f_law_integer f_law_is f_law_sum f_law_less f_law_times f_law_pair_right f_law_strangers_right f_law_refused f_law_chain_right f_law_asks f_law C_InvalidNumber C_Share : Addr} (X : K.In h) (G : h.Ns mainGlobals mg) (hfa : mg "law" = some (.ref fa))
    {nm_InvalidNumber qn_InvalidNumber : Str} {N_InvalidNumber B_InvalidNumber : Addr} {bs_InvalidNumber sub_InvalidNumber : List Value} {sn_InvalidNumber : List Str} {ab_InvalidNumber : Bool} {col_InvalidNumber : Option Bool} {dd_InvalidNumber : Option Addr} {m0_InvalidNumber m1_InvalidNumber m2_InvalidNumber m3_InvalidNumber m5_InvalidNumber : Option Value} {oc_InvalidNumber dc_InvalidNumber pm_InvalidNumber ct_InvalidNumber ccl_InvalidNumber cl_InvalidNumber : Value} {od_InvalidNumber an_InvalidNumber cdd_InvalidNumber cld_InvalidNumber : Option Addr} {sl_InvalidNumber ccs_InvalidNumber csl_InvalidNumber : Array (Option Value)} {f_InvalidNumber cda_InvalidNumber cc_InvalidNumber : Addr} {vs_InvalidNumber : Array Value} {file_InvalidNumber : Str} {tf_InvalidNumber : Tok}
    {od_Share___init__ an_Share___init__ : Option Addr} {sl_Share___init__ : Array (Option Value)} {oc_Share___init__ kV_Share___init__ dc_Share___init__ pm_Share___init__ cd_Share___init__ ct_Share___init__ : Value}
    {od_Share___add__ an_Share___add__ : Option Addr} {sl_Share___add__ : Array (Option Value)} {oc_Share___add__ kV_Share___add__ dc_Share___add__ pm_Share___add__ cd_Share___add__ ct_Share___add__ : Value}
    {od_Share___sub__ an_Share___sub__ : Option Addr} {sl_Share___sub__ : Array (Option Value)} {oc_Share___sub__ kV_Share___sub__ dc_Share___sub__ pm_Share___sub__ cd_Share___sub__ ct_Share___sub__ : Value}
    {od_Share___mul__ an_Share___mul__ : Option Addr} {sl_Share___mul__ : Array (Option Value)} {oc_Share___mul__ kV_Share___mul__ dc_Share___mul__ pm_Share___mul__ cd_Share___mul__ ct_Share___mul__ : Value}
    {od_Share___eq__ an_Share___eq__ : Option Addr} {sl_Share___eq__ : Array (Option Value)} {oc_Share___eq__ kV_Share___eq__ dc_Share___eq__ pm_Share___eq__ cd_Share___eq__ ct_Share___eq__ : Value}
    {od_Share_is_below an_Share_is_below : Option Addr} {sl_Share_is_below : Array (Option Value)} {oc_Share_is_below kV_Share_is_below dc_Share_is_below pm_Share_is_below cd_Share_is_below ct_Share_is_below : Value}
    {od_half_of an_half_of : Option Addr} {sl_half_of : Array (Option Value)} {oc_half_of kV_half_of dc_half_of pm_half_of cd_half_of ct_half_of : Value}
    {od_law_tape an_law_tape : Option Addr} {sl_law_tape : Array (Option Value)} {oc_law_tape kV_law_tape dc_law_tape pm_law_tape cd_law_tape ct_law_tape : Value}
    {od_law_draw an_law_draw : Option Addr} {sl_law_draw : Array (Option Value)} {oc_law_draw kV_law_draw dc_law_draw pm_law_draw cd_law_draw ct_law_draw : Value}
    {od_law_number an_law_number : Option Addr} {sl_law_number : Array (Option Value)} {oc_law_number kV_law_number dc_law_number pm_law_number cd_law_number ct_law_number : Value}
    {od_law_lowest an_law_lowest : Option Addr} {sl_law_lowest : Array (Option Value)} {oc_law_lowest kV_law_lowest dc_law_lowest pm_law_lowest cd_law_lowest ct_law_lowest : Value}
    {od_law_integer an_law_integer : Option Addr} {sl_law_integer : Array (Option Value)} {oc_law_integer kV_law_integer dc_law_integer pm_law_integer cd_law_integer ct_law_integer : Value}
    {od_law_is an_law_is : Option Addr} {sl_law_is : Array (Option Value)} {oc_law_is kV_law_is dc_law_is pm_law_is cd_law_is ct_law_is : Value}
    {od_law_sum an_law_sum : Option Addr} {sl_law_sum : Array (Option Value)} {oc_law_sum kV_law_sum dc_law_sum pm_law_sum cd_law_sum ct_law_sum : Value}
    {od_law_less an_law_less : Option Addr} {sl_law_less : Array (Option Value)} {oc_law_less kV_law_less dc_law_less pm_law_less cd_law_less ct_law_less : Value}
    {od_law_times an_law_times : Option Addr} {sl_law_times : Array (Option Value)} {oc_law_times kV_law_times dc_law_times pm_law_times cd_law_times ct_law_times : Value}
    {od_law_pair_right an_law_pair_right : Option Addr} {sl_law_pair_right : Array (Option Value)} {oc_law_pair_right kV_law_pair_right dc_law_pair_right pm_law_pair_right cd_law_pair_right ct_law_pair_right : Value}
    {od_law_strangers_right an_law_strangers_right : Option Addr} {sl_law_strangers_right : Array (Option Value)} {oc_law_strangers_right kV_law_strangers_right dc_law_strangers_right pm_law_strangers_right cd_law_strangers_right ct_law_strangers_right : Value}
    {od_law_refused an_law_refused : Option Addr} {sl_law_refused : Array (Option Value)} {oc_law_refused kV_law_refused dc_law_refused pm_law_refused cd_law_refused ct_law_refused : Value}
    {od_law_chain_right an_law_chain_right : Option Addr} {sl_law_chain_right : Array (Option Value)} {oc_law_chain_right kV_law_chain_right dc_law_chain_right pm_law_chain_right cd_law_chain_right ct_law_chain_right : Value}
    {od_law_asks an_law_asks : Option Addr} {sl_law_asks : Array (Option Value)} {oc_law_asks kV_law_asks dc_law_asks pm_law_asks cd_law_asks ct_law_asks : Value}
    {od_law an_law : Option Addr} {sl_law : Array (Option Value)} {oc_law kV_law dc_law pm_law cd_law ct_law : Value}
    (aS : PySem.W.nsIn K mainGlobals "Share" = some (some (.ref C_Share)))
    (aG : PySem.W.nsIn K mainGlobals "gcd" = some (some (.builtin "math.gcd")))
    (xgC_InvalidNumber : PySem.W.nsIn K mainGlobals "InvalidNumber" = some (some (.ref C_InvalidNumber)))
    (xxL_InvalidNumber : K.lookup C_InvalidNumber = some (excClassObj nm_InvalidNumber qn_InvalidNumber C_InvalidNumber N_InvalidNumber bs_InvalidNumber [.ref B_InvalidNumber, .type "ValueError", .type "Exception", .type "BaseException", .type "object"] true sn_InvalidNumber sub_InvalidNumber ab_InvalidNumber col_InvalidNumber dd_InvalidNumber m0_InvalidNumber m1_InvalidNumber m2_InvalidNumber m3_InvalidNumber m5_InvalidNumber "ValueError.__new__"))
    (xsa_InvalidNumber : PySem.W.findIn K (.ref C_InvalidNumber) "__setattr__" = some (some (.builtin "object.__setattr__")))
    (xga_InvalidNumber : PySem.W.findIn K (.ref C_InvalidNumber) "__getattribute__" = some (some (.builtin "BaseException.__getattribute__")))
    (xgg_InvalidNumber : PySem.W.findIn K (.ref C_InvalidNumber) "__getattr__" = some none)
    (xiC_InvalidNumber : PySem.W.findIn K (.ref C_InvalidNumber) "__init__" = some (some (.ref f_InvalidNumber)))
    (xtI_InvalidNumber : PySem.W.typeIn K (.ref f_InvalidNumber) = some (.type "function"))
    (xkC_InvalidNumber : PySem.W.keepIn K (.ref C_InvalidNumber) = true)
    (xeC_InvalidNumber : PySem.W.subIn K (.ref C_InvalidNumber) (.type "BaseException") = some true)
    (xvC_InvalidNumber : PySem.W.subIn K (.ref C_InvalidNumber) (.type "ValueError") = some true)
    (xse_InvalidNumber : PySem.W.mroIn K C_InvalidNumber (.ref C_InvalidNumber) = some true)
    (xtC_InvalidNumber : PySem.W.typeIn K (.ref C_InvalidNumber) = some (.type "type"))
    (xhC_InvalidNumber : PySem.W.hasDictIn K C_InvalidNumber = true)
    (xcC_InvalidNumber : PySem.W.isClsIn K C_InvalidNumber = true)
    (xsC_InvalidNumber : PySem.W.subIn K (.ref C_InvalidNumber) (.ref C_InvalidNumber) = some true)
    (xlI_InvalidNumber : K.lookup f_InvalidNumber = some ⟨oc_InvalidNumber, od_InvalidNumber, .func (PySem.W.ksFn "__init__" "InvalidNumber.__init__" (defArgs s_InvalidNumber___init__) (defBody s_InvalidNumber___init__) (defScope s_InvalidNumber___init__) .none .none dc_InvalidNumber pm_InvalidNumber an_InvalidNumber (.ref cda_InvalidNumber) ct_InvalidNumber cc_InvalidNumber), sl_InvalidNumber⟩)
    (xcI_InvalidNumber : PySem.W.codeIn K (.ref cda_InvalidNumber) "InvalidNumber.__init__" = true)
    (xcd_InvalidNumber : K.lookup cda_InvalidNumber = some ⟨ccl_InvalidNumber, cdd_InvalidNumber, .fields vs_InvalidNumber, ccs_InvalidNumber⟩)
    (xcc_InvalidNumber : K.lookup cc_InvalidNumber = some ⟨cl_InvalidNumber, cld_InvalidNumber, .cell (some (.ref C_InvalidNumber)), csl_InvalidNumber⟩)
    (xfi_InvalidNumber : vs_InvalidNumber[2]? = some (.str file_InvalidNumber tf_InvalidNumber))
    (xff_InvalidNumber : ((l.prog.main.file : Str) == file_InvalidNumber) = true)
    (xup_InvalidNumber : PySem.W.ks_superIn K C_InvalidNumber C_InvalidNumber "__init__" = some (some (.builtin "ValueError.__init__")))
    (xn_InvalidNumber_number : PySem.W.findIn K (.ref C_InvalidNumber) "number" = some none)
    (xsu : PySem.W.nsIn K mainGlobals "super" = some none)
    (xop : PySem.W.nsIn K cStatics "thirdparty.any" = some none)
    (xtp : (l.prog.main.scope.names.lookup ("super" : Str)).isSome = false)
    (a_Share___init__ : PySem.W.findIn K (.ref C_Share) "__init__" = some (some (.ref f_Share___init__)))
    (i_Share___init__ : PySem.W.isFn K (.ref f_Share___init__) = true)
    (l_Share___init__ : K.lookup f_Share___init__ = some ⟨oc_Share___init__, od_Share___init__, .func (PySem.W.fnOf "__init__" "Share.__init__" (defArgs s_Share___init__) (defBody s_Share___init__) (defScope s_Share___init__) .none kV_Share___init__ dc_Share___init__ pm_Share___init__ an_Share___init__ cd_Share___init__ ct_Share___init__), sl_Share___init__⟩)
    (c_Share___init__ : PySem.W.codeIn K cd_Share___init__ "Share.__init__" = true)
    (k_Share___init__ : PySem.W.keepIn K (.ref f_Share___init__) = true)
    (a_Share___add__ : PySem.W.findIn K (.ref C_Share) "__add__" = some (some (.ref f_Share___add__)))
    (i_Share___add__ : PySem.W.isFn K (.ref f_Share___add__) = true)
    (l_Share___add__ : K.lookup f_Share___add__ = some ⟨oc_Share___add__, od_Share___add__, .func (PySem.W.fnOf "__add__" "Share.__add__" (defArgs s_Share___add__) (defBody s_Share___add__) (defScope s_Share___add__) .none kV_Share___add__ dc_Share___add__ pm_Share___add__ an_Share___add__ cd_Share___add__ ct_Share___add__), sl_Share___add__⟩)
    (c_Share___add__ : PySem.W.codeIn K cd_Share___add__ "Share.__add__" = true)
    (k_Share___add__ : PySem.W.keepIn K (.ref f_Share___add__) = true)
    (a_Share___sub__ : PySem.W.findIn K (.ref C_Share) "__sub__" = some (some (.ref f_Share___sub__)))
    (i_Share___sub__ : PySem.W.isFn K (.ref f_Share___sub__) = true)
    (l_Share___sub__ : K.lookup f_Share___sub__ = some ⟨oc_Share___sub__, od_Share___sub__, .func (PySem.W.fnOf "__sub__" "Share.__sub__" (defArgs s_Share___sub__) (defBody s_Share___sub__) (defScope s_Share___sub__) .none kV_Share___sub__ dc_Share___sub__ pm_Share___sub__ an_Share___sub__ cd_Share___sub__ ct_Share___sub__), sl_Share___sub__⟩)
    (c_Share___sub__ : PySem.W.codeIn K cd_Share___sub__ "Share.__sub__" = true)
    (k_Share___sub__ : PySem.W.keepIn K (.ref f_Share___sub__) = true)
    (a_Share___mul__ : PySem.W.findIn K (.ref C_Share) "__mul__" = some (some (.ref f_Share___mul__)))
    (i_Share___mul__ : PySem.W.isFn K (.ref f_Share___mul__) = true)
    (l_Share___mul__ : K.lookup f_Share___mul__ = some ⟨oc_Share___mul__, od_Share___mul__, .func (PySem.W.fnOf "__mul__" "Share.__mul__" (defArgs s_Share___mul__) (defBody s_Share___mul__) (defScope s_Share___mul__) .none kV_Share___mul__ dc_Share___mul__ pm_Share___mul__ an_Share___mul__ cd_Share___mul__ ct_Share___mul__), sl_Share___mul__⟩)
    (c_Share___mul__ : PySem.W.codeIn K cd_Share___mul__ "Share.__mul__" = true)
    (k_Share___mul__ : PySem.W.keepIn K (.ref f_Share___mul__) = true)
    (a_Share___eq__ : PySem.W.findIn K (.ref C_Share) "__eq__" = some (some (.ref f_Share___eq__)))
    (i_Share___eq__ : PySem.W.isFn K (.ref f_Share___eq__) = true)
    (l_Share___eq__ : K.lookup f_Share___eq__ = some ⟨oc_Share___eq__, od_Share___eq__, .func (PySem.W.fnOf "__eq__" "Share.__eq__" (defArgs s_Share___eq__) (defBody s_Share___eq__) (defScope s_Share___eq__) .none kV_Share___eq__ dc_Share___eq__ pm_Share___eq__ an_Share___eq__ cd_Share___eq__ ct_Share___eq__), sl_Share___eq__⟩)
    (c_Share___eq__ : PySem.W.codeIn K cd_Share___eq__ "Share.__eq__" = true)
    (k_Share___eq__ : PySem.W.keepIn K (.ref f_Share___eq__) = true)
    (a_Share_is_below : PySem.W.findIn K (.ref C_Share) "is_below" = some (some (.ref f_Share_is_below)))
    (i_Share_is_below : PySem.W.isFn K (.ref f_Share_is_below) = true)
    (l_Share_is_below : K.lookup f_Share_is_below = some ⟨oc_Share_is_below, od_Share_is_below, .func (PySem.W.fnOf "is_below" "Share.is_below" (defArgs s_Share_is_below) (defBody s_Share_is_below) (defScope s_Share_is_below) .none kV_Share_is_below dc_Share_is_below pm_Share_is_below an_Share_is_below cd_Share_is_below ct_Share_is_below), sl_Share_is_below⟩)
    (c_Share_is_below : PySem.W.codeIn K cd_Share_is_below "Share.is_below" = true)
    (k_Share_is_below : PySem.W.keepIn K (.ref f_Share_is_below) = true)
    (a_half_of : PySem.W.nsIn K mainGlobals "half_of" = some (some (.ref f_half_of)))
    (l_half_of : K.lookup f_half_of = some ⟨oc_half_of, od_half_of, .func (PySem.W.fnOf "half_of" "half_of" (defArgs s_half_of) (defBody s_half_of) (defScope s_half_of) .none kV_half_of dc_half_of pm_half_of an_half_of cd_half_of ct_half_of), sl_half_of⟩)
    (c_half_of : PySem.W.codeIn K cd_half_of "half_of" = true)
    (k_half_of : PySem.W.keepIn K (.ref f_half_of) = true)
    (a_law_tape : PySem.W.nsIn K mainGlobals "_law_tape" = some (some (.ref f_law_tape)))
    (l_law_tape : K.lookup f_law_tape = some ⟨oc_law_tape, od_law_tape, .func (PySem.W.fnOf "_law_tape" "_law_tape" (defArgs s_law_tape) (defBody s_law_tape) (defScope s_law_tape) .none kV_law_tape dc_law_tape pm_law_tape an_law_tape cd_law_tape ct_law_tape), sl_law_tape⟩)
    (c_law_tape : PySem.W.codeIn K cd_law_tape "_law_tape" = true)
    (k_law_tape : PySem.W.keepIn K (.ref f_law_tape) = true)
    (a_law_draw : PySem.W.nsIn K mainGlobals "_law_draw" = some (some (.ref f_law_draw)))
    (l_law_draw : K.lookup f_law_draw = some ⟨oc_law_draw, od_law_draw, .func (PySem.W.fnOf "_law_draw" "_law_draw" (defArgs s_law_draw) (defBody s_law_draw) (defScope s_law_draw) .none kV_law_draw dc_law_draw pm_law_draw an_law_draw cd_law_draw ct_law_draw), sl_law_draw⟩)
    (c_law_draw : PySem.W.codeIn K cd_law_draw "_law_draw" = true)
    (k_law_draw : PySem.W.keepIn K (.ref f_law_draw) = true)
    (a_law_number : PySem.W.nsIn K mainGlobals "_law_number" = some (some (.ref f_law_number)))
    (l_law_number : K.lookup f_law_number = some ⟨oc_law_number, od_law_number, .func (PySem.W.fnOf "_law_number" "_law_number" (defArgs s_law_number) (defBody s_law_number) (defScope s_law_number) .none kV_law_number dc_law_number pm_law_number an_law_number cd_law_number ct_law_number), sl_law_number⟩)
    (c_law_number : PySem.W.codeIn K cd_law_number "_law_number" = true)
    (k_law_number : PySem.W.keepIn K (.ref f_law_number) = true)
    (a_law_lowest : PySem.W.nsIn K mainGlobals "_law_lowest" = some (some (.ref f_law_lowest)))
    (l_law_lowest : K.lookup f_law_lowest = some ⟨oc_law_lowest, od_law_lowest, .func (PySem.W.fnOf "_law_lowest" "_law_lowest" (defArgs s_law_lowest) (defBody s_law_lowest) (defScope s_law_lowest) .none kV_law_lowest dc_law_lowest pm_law_lowest an_law_lowest cd_law_lowest ct_law_lowest), sl_law_lowest⟩)
    (c_law_lowest : PySem.W.codeIn K cd_law_lowest "_law_lowest" = true)
    (k_law_lowest : PySem.W.keepIn K (.ref f_law_lowest) = true)
    (a_law_integer : PySem.W.nsIn K mainGlobals "_law_integer" = some (some (.ref f_law_integer)))
    (l_law_integer : K.lookup f_law_integer = some ⟨oc_law_integer, od_law_integer, .func (PySem.W.fnOf "_law_integer" "_law_integer" (defArgs s_law_integer) (defBody s_law_integer) (defScope s_law_integer) .none kV_law_integer dc_law_integer pm_law_integer an_law_integer cd_law_integer ct_law_integer), sl_law_integer⟩)
    (c_law_integer : PySem.W.codeIn K cd_law_integer "_law_integer" = true)
    (k_law_integer : PySem.W.keepIn K (.ref f_law_integer) = true)
    (a_law_is : PySem.W.nsIn K mainGlobals "_law_is" = some (some (.ref f_law_is)))
    (l_law_is : K.lookup f_law_is = some ⟨oc_law_is, od_law_is, .func (PySem.W.fnOf "_law_is" "_law_is" (defArgs s_law_is) (defBody s_law_is) (defScope s_law_is) .none kV_law_is dc_law_is pm_law_is an_law_is cd_law_is ct_law_is), sl_law_is⟩)
    (c_law_is : PySem.W.codeIn K cd_law_is "_law_is" = true)
    (k_law_is : PySem.W.keepIn K (.ref f_law_is) = true)
    (a_law_sum : PySem.W.nsIn K mainGlobals "_law_sum" = some (some (.ref f_law_sum)))
    (l_law_sum : K.lookup f_law_sum = some ⟨oc_law_sum, od_law_sum, .func (PySem.W.fnOf "_law_sum" "_law_sum" (defArgs s_law_sum) (defBody s_law_sum) (defScope s_law_sum) .none kV_law_sum dc_law_sum pm_law_sum an_law_sum cd_law_sum ct_law_sum), sl_law_sum⟩)
    (c_law_sum : PySem.W.codeIn K cd_law_sum "_law_sum" = true)
    (k_law_sum : PySem.W.keepIn K (.ref f_law_sum) = true)
    (a_law_less : PySem.W.nsIn K mainGlobals "_law_less" = some (some (.ref f_law_less)))
    (l_law_less : K.lookup f_law_less = some ⟨oc_law_less, od_law_less, .func (PySem.W.fnOf "_law_less" "_law_less" (defArgs s_law_less) (defBody s_law_less) (defScope s_law_less) .none kV_law_less dc_law_less pm_law_less an_law_less cd_law_less ct_law_less), sl_law_less⟩)
    (c_law_less : PySem.W.codeIn K cd_law_less "_law_less" = true)
    (k_law_less : PySem.W.keepIn K (.ref f_law_less) = true)
    (a_law_times : PySem.W.nsIn K mainGlobals "_law_times" = some (some (.ref f_law_times)))
    (l_law_times : K.lookup f_law_times = some ⟨oc_law_times, od_law_times, .func (PySem.W.fnOf "_law_times" "_law_times" (defArgs s_law_times) (defBody s_law_times) (defScope s_law_times) .none kV_law_times dc_law_times pm_law_times an_law_times cd_law_times ct_law_times), sl_law_times⟩)
    (c_law_times : PySem.W.codeIn K cd_law_times "_law_times" = true)
    (k_law_times : PySem.W.keepIn K (.ref f_law_times) = true)
    (a_law_pair_right : PySem.W.nsIn K mainGlobals "_law_pair_right" = some (some (.ref f_law_pair_right)))
    (l_law_pair_right : K.lookup f_law_pair_right = some ⟨oc_law_pair_right, od_law_pair_right, .func (PySem.W.fnOf "_law_pair_right" "_law_pair_right" (defArgs s_law_pair_right) (defBody s_law_pair_right) (defScope s_law_pair_right) .none kV_law_pair_right dc_law_pair_right pm_law_pair_right an_law_pair_right cd_law_pair_right ct_law_pair_right), sl_law_pair_right⟩)
    (c_law_pair_right : PySem.W.codeIn K cd_law_pair_right "_law_pair_right" = true)
    (k_law_pair_right : PySem.W.keepIn K (.ref f_law_pair_right) = true)
    (a_law_strangers_right : PySem.W.nsIn K mainGlobals "_law_strangers_right" = some (some (.ref f_law_strangers_right)))
    (l_law_strangers_right : K.lookup f_law_strangers_right = some ⟨oc_law_strangers_right, od_law_strangers_right, .func (PySem.W.fnOf "_law_strangers_right" "_law_strangers_right" (defArgs s_law_strangers_right) (defBody s_law_strangers_right) (defScope s_law_strangers_right) .none kV_law_strangers_right dc_law_strangers_right pm_law_strangers_right an_law_strangers_right cd_law_strangers_right ct_law_strangers_right), sl_law_strangers_right⟩)
    (c_law_strangers_right : PySem.W.codeIn K cd_law_strangers_right "_law_strangers_right" = true)
    (k_law_strangers_right : PySem.W.keepIn K (.ref f_law_strangers_right) = true)
    (a_law_refused : PySem.W.nsIn K mainGlobals "_law_refused" = some (some (.ref f_law_refused)))
    (l_law_refused : K.lookup f_law_refused = some ⟨oc_law_refused, od_law_refused, .func (PySem.W.fnOf "_law_refused" "_law_refused" (defArgs s_law_refused) (defBody s_law_refused) (defScope s_law_refused) .none kV_law_refused dc_law_refused pm_law_refused an_law_refused cd_law_refused ct_law_refused), sl_law_refused⟩)
    (c_law_refused : PySem.W.codeIn K cd_law_refused "_law_refused" = true)
    (k_law_refused : PySem.W.keepIn K (.ref f_law_refused) = true)
    (a_law_chain_right : PySem.W.nsIn K mainGlobals "_law_chain_right" = some (some (.ref f_law_chain_right)))
    (l_law_chain_right : K.lookup f_law_chain_right = some ⟨oc_law_chain_right, od_law_chain_right, .func (PySem.W.fnOf "_law_chain_right" "_law_chain_right" (defArgs s_law_chain_right) (defBody s_law_chain_right) (defScope s_law_chain_right) .none kV_law_chain_right dc_law_chain_right pm_law_chain_right an_law_chain_right cd_law_chain_right ct_law_chain_right), sl_law_chain_right⟩)
    (c_law_chain_right : PySem.W.codeIn K cd_law_chain_right "_law_chain_right" = true)
    (k_law_chain_right : PySem.W.keepIn K (.ref f_law_chain_right) = true)
    (a_law_asks : PySem.W.nsIn K mainGlobals "_law_asks" = some (some (.ref f_law_asks)))
    (l_law_asks : K.lookup f_law_asks = some ⟨oc_law_asks, od_law_asks, .func (PySem.W.fnOf "_law_asks" "_law_asks" (defArgs s_law_asks) (defBody s_law_asks) (defScope s_law_asks) .none kV_law_asks dc_law_asks pm_law_asks an_law_asks cd_law_asks ct_law_asks), sl_law_asks⟩)
    (c_law_asks : PySem.W.codeIn K cd_law_asks "_law_asks" = true)
    (k_law_asks : PySem.W.keepIn K (.ref f_law_asks) = true)
    (a_law : PySem.W.nsIn K mainGlobals "law" = some (some (.ref f_law)))
    (l_law : K.lookup f_law = some ⟨oc_law, od_law, .func (PySem.W.fnOf "law" "law" (defArgs s_law) (defBody s_law) (defScope s_law) .none kV_law dc_law pm_law an_law cd_law ct_law), sl_law⟩)
    (c_law : PySem.W.codeIn K cd_law "law" = true)
    (k_law : PySem.W.keepIn K (.ref f_law) = true)
    (z_super : PySem.W.nsIn K mainGlobals "super" = some none)
    (z_isinstance : PySem.W.nsIn K mainGlobals "isinstance" = some none)
    (z_int : PySem.W.nsIn K mainGlobals "int" = some none)
    (z_abs : PySem.W.nsIn K mainGlobals "abs" = some none)
    (z_range : PySem.W.nsIn K mainGlobals "range" = some none)
    (z_bool : PySem.W.nsIn K mainGlobals "bool" = some none)
    (sPg : PySem.W.plainGet K C_Share Str.empty = true)
    (sHd : PySem.W.hasDictIn K C_Share = true)
    (sPo : PySem.W.plainOver K C_Share = true)
    (sSa : PySem.W.findIn K (.ref C_Share) "__setattr__" = some (some (.builtin "object.__setattr__")))
    (sHa : PySem.W.findIn K (.ref C_Share) "__class__" = some (some (.builtin "object.__class__")))
    (sHn : PySem.W.specialIn K (.builtin "object.__class__") "__get__" = some (some (.builtin "getset_descriptor.__get__")))
    (sTk : PySem.W.takesIn K (.builtin "object.__class__") = some true)
    (sHm : PySem.W.mroIn K C_Share (.type "object") = some true)
    (sCl : PySem.W.isClsIn K C_Share = true)
    (sTy : PySem.W.typeIn K (.ref C_Share) = some (.type "type"))
    (sNo : PySem.W.findIn K (.ref C_Share) "over" = some none)
    (sNu : PySem.W.findIn K (.ref C_Share) "under" = some none)
    (sFi : PySem.W.selfFirst K C_Share = true)
    (sNe : PySem.W.findIn K (.ref C_Share) "__ne__" = some (some (.builtin "object.__ne__")))
    (sNf : PySem.W.notFirst K C_Share (.ref C_Share) = true)
    (sMk : PySem.W.makesIn K C_Share = true)
    (sKc : PySem.W.keepIn K (.ref C_Share) = true)
    (qNoneType : PySem.W.subIn K (.type "NoneType") (.ref C_Share) = some false)
    (qint : PySem.W.subIn K (.type "int") (.ref C_Share) = some false)
    (qbool : PySem.W.subIn K (.type "bool") (.ref C_Share) = some false)
    (qtuple : PySem.W.subIn K (.type "tuple") (.ref C_Share) = some false)
    (qlist : PySem.W.subIn K (.type "list") (.ref C_Share) = some false)
    (qstr : PySem.W.subIn K (.type "str") (.ref C_Share) = some false)
    (rNoneType : PySem.W.notFirst K C_Share (.type "NoneType") = true)
    (rint : PySem.W.notFirst K C_Share (.type "int") = true)
    (rbool : PySem.W.notFirst K C_Share (.type "bool") = true)
    (rtuple : PySem.W.notFirst K C_Share (.type "tuple") = true)
    (rlist : PySem.W.notFirst K C_Share (.type "list") = true)
    (rstr : PySem.W.notFirst K C_Share (.type "str") = true)
    : ∃ fd : FuncData, (∀ (s : Shared) (v : Value), BindsTo s fd ⟨[v], []⟩ [("script", v)]) ∧ ∀ base : Heap, K.In base → base.Ns mainGlobals mg → FnOk l.prog w K mg base CX0 6 fa fd ["script"] (spLaw K) := by
  have e := hfa.symm.trans (PySem.W.mg_of X G a_law)
  cases e
  have T : Txt K mg C_Share := ⟨PySem.W.mg_none_of X G z_super, PySem.W.mg_none_of X G z_isinstance, PySem.W.mg_none_of X G z_int, PySem.W.mg_none_of X G z_abs, PySem.W.mg_none_of X G z_range, PySem.W.mg_none_of X G z_bool, PySem.W.mg_of X G aG, PySem.W.mg_of X G aS⟩
  have x_InvalidNumber : XErr l.prog K mg "InvalidNumber" C_InvalidNumber ["number"] := ⟨"InvalidNumber.__init__", f_InvalidNumber, s_InvalidNumber___init__, ⟨PySem.W.mg_of X G xgC_InvalidNumber, ⟨_, _, _, _, _, _, _, _, _, _, _, _, _, _, _, xxL_InvalidNumber, by rfl⟩, xsa_InvalidNumber, xga_InvalidNumber, xgg_InvalidNumber, xiC_InvalidNumber, xtI_InvalidNumber, xkC_InvalidNumber, xeC_InvalidNumber, xvC_InvalidNumber, xse_InvalidNumber, xtC_InvalidNumber, xhC_InvalidNumber, exm_own xeC_InvalidNumber xcC_InvalidNumber xtC_InvalidNumber xsC_InvalidNumber, xup_InvalidNumber, PySem.W.mg_none_of X G xsu, xop, xtp, _, _, _, _, _, _, _, _, _, _, _, _, _, _, _, _, _, _, xlI_InvalidNumber, xcI_InvalidNumber, xcd_InvalidNumber, xfi_InvalidNumber, xff_InvalidNumber, xcc_InvalidNumber⟩, xb_InvalidNumber, by simpa using xn_InvalidNumber_number⟩
  have F_Share___init__ := fun_mk (x := "__init__") (qual := "Share.__init__") (st := s_Share___init__) l_Share___init__ c_Share___init__ k_Share___init__
  have b_Share___init__ := F_Share___init__.binds (ps := ["self", "over", "under"]) fun _ _ _ _ _ _ us hl => match us, hl with | [_, _, _], _ => rfl
  have F_Share___add__ := fun_mk (x := "__add__") (qual := "Share.__add__") (st := s_Share___add__) l_Share___add__ c_Share___add__ k_Share___add__
  have b_Share___add__ := F_Share___add__.binds (ps := ["self", "other"]) fun _ _ _ _ _ _ us hl => match us, hl with | [_, _], _ => rfl
  have F_Share___sub__ := fun_mk (x := "__sub__") (qual := "Share.__sub__") (st := s_Share___sub__) l_Share___sub__ c_Share___sub__ k_Share___sub__
  have b_Share___sub__ := F_Share___sub__.binds (ps := ["self", "other"]) fun _ _ _ _ _ _ us hl => match us, hl with | [_, _], _ => rfl
  have F_Share___mul__ := fun_mk (x := "__mul__") (qual := "Share.__mul__") (st := s_Share___mul__) l_Share___mul__ c_Share___mul__ k_Share___mul__
  have b_Share___mul__ := F_Share___mul__.binds (ps := ["self", "other"]) fun _ _ _ _ _ _ us hl => match us, hl with | [_, _], _ => rfl
  have F_Share___eq__ := fun_mk (x := "__eq__") (qual := "Share.__eq__") (st := s_Share___eq__) l_Share___eq__ c_Share___eq__ k_Share___eq__
  have b_Share___eq__ := F_Share___eq__.binds (ps := ["self", "other"]) fun _ _ _ _ _ _ us hl => match us, hl with | [_, _], _ => rfl
  have F_Share_is_below := fun_mk (x := "is_below") (qual := "Share.is_below") (st := s_Share_is_below) l_Share_is_below c_Share_is_below k_Share_is_below
  have b_Share_is_below := F_Share_is_below.binds (ps := ["self", "other"]) fun _ _ _ _ _ _ us hl => match us, hl with | [_, _], _ => rfl
  have F_half_of := fun_mk (x := "half_of") (qual := "half_of") (st := s_half_of) l_half_of c_half_of k_half_of
  have b_half_of := F_half_of.binds (ps := ["length"]) fun _ _ _ _ _ _ us hl => match us, hl with | [_], _ => rfl
  have F_law_tape := fun_mk (x := "_law_tape") (qual := "_law_tape") (st := s_law_tape) l_law_tape c_law_tape k_law_tape
  have b_law_tape := F_law_tape.binds (ps := ["script"]) fun _ _ _ _ _ _ us hl => match us, hl with | [_], _ => rfl
  have F_law_draw := fun_mk (x := "_law_draw") (qual := "_law_draw") (st := s_law_draw) l_law_draw c_law_draw k_law_draw
  have b_law_draw := F_law_draw.binds (ps := ["tape", "limit"]) fun _ _ _ _ _ _ us hl => match us, hl with | [_, _], _ => rfl
  have F_law_number := fun_mk (x := "_law_number") (qual := "_law_number") (st := s_law_number) l_law_number c_law_number k_law_number
  have b_law_number := F_law_number.binds (ps := ["tape"]) fun _ _ _ _ _ _ us hl => match us, hl with | [_], _ => rfl
  have F_law_lowest := fun_mk (x := "_law_lowest") (qual := "_law_lowest") (st := s_law_lowest) l_law_lowest c_law_lowest k_law_lowest
  have b_law_lowest := F_law_lowest.binds (ps := ["over", "under"]) fun _ _ _ _ _ _ us hl => match us, hl with | [_, _], _ => rfl
  have F_law_integer := fun_mk (x := "_law_integer") (qual := "_law_integer") (st := s_law_integer) l_law_integer c_law_integer k_law_integer
  have b_law_integer := F_law_integer.binds (ps := ["told", "due"]) fun _ _ _ _ _ _ us hl => match us, hl with | [_, _], _ => rfl
  have F_law_is := fun_mk (x := "_law_is") (qual := "_law_is") (st := s_law_is) l_law_is c_law_is k_law_is
  have b_law_is := F_law_is.binds (ps := ["told", "due"]) fun _ _ _ _ _ _ us hl => match us, hl with | [_, _], _ => rfl
  have F_law_sum := fun_mk (x := "_law_sum") (qual := "_law_sum") (st := s_law_sum) l_law_sum c_law_sum k_law_sum
  have b_law_sum := F_law_sum.binds (ps := ["one", "other"]) fun _ _ _ _ _ _ us hl => match us, hl with | [_, _], _ => rfl
  have F_law_less := fun_mk (x := "_law_less") (qual := "_law_less") (st := s_law_less) l_law_less c_law_less k_law_less
  have b_law_less := F_law_less.binds (ps := ["one", "other"]) fun _ _ _ _ _ _ us hl => match us, hl with | [_, _], _ => rfl
  have F_law_times := fun_mk (x := "_law_times") (qual := "_law_times") (st := s_law_times) l_law_times c_law_times k_law_times
  have b_law_times := F_law_times.binds (ps := ["one", "other"]) fun _ _ _ _ _ _ us hl => match us, hl with | [_, _], _ => rfl
  have F_law_pair_right := fun_mk (x := "_law_pair_right") (qual := "_law_pair_right") (st := s_law_pair_right) l_law_pair_right c_law_pair_right k_law_pair_right
  have b_law_pair_right := F_law_pair_right.binds (ps := ["one", "other", "first", "second"]) fun _ _ _ _ _ _ us hl => match us, hl with | [_, _, _, _], _ => rfl
  have F_law_strangers_right := fun_mk (x := "_law_strangers_right") (qual := "_law_strangers_right") (st := s_law_strangers_right) l_law_strangers_right c_law_strangers_right k_law_strangers_right
  have b_law_strangers_right := F_law_strangers_right.binds (ps := ["share", "due"]) fun _ _ _ _ _ _ us hl => match us, hl with | [_, _], _ => rfl
  have F_law_refused := fun_mk (x := "_law_refused") (qual := "_law_refused") (st := s_law_refused) l_law_refused c_law_refused k_law_refused
  have b_law_refused := F_law_refused.binds (ps := ["over", "by_name"]) fun _ _ _ _ _ _ us hl => match us, hl with | [_, _], _ => rfl
  have F_law_chain_right := fun_mk (x := "_law_chain_right") (qual := "_law_chain_right") (st := s_law_chain_right) l_law_chain_right c_law_chain_right k_law_chain_right
  have b_law_chain_right := F_law_chain_right.binds (ps := ["tape"]) fun _ _ _ _ _ _ us hl => match us, hl with | [_], _ => rfl
  have F_law_asks := fun_mk (x := "_law_asks") (qual := "_law_asks") (st := s_law_asks) l_law_asks c_law_asks k_law_asks
  have b_law_asks := F_law_asks.binds (ps := ["script"]) fun _ _ _ _ _ _ us hl => match us, hl with | [_], _ => rfl
  have F_law := fun_mk (x := "law") (qual := "law") (st := s_law) l_law c_law k_law
  have b_law := F_law.binds (ps := ["script"]) fun _ _ _ _ _ _ us hl => match us, hl with | [_], _ => rfl
  refine ⟨PySem.W.fnOf "law" "law" (defArgs s_law) (defBody s_law) (defScope s_law) .none kV_law dc_law pm_law an_law cd_law ct_law, fun s v => .of_eq rfl, fun base KB GB => ?_⟩
  have sc : ShC K C_Share := ⟨⟨⟨sPg, sHd, sPo, sSa⟩, sHa, sHn, sTk, sHm, kit_me⟩, sNo, sNu, ⟨sFi, sNe, sHm⟩, sNf⟩
  have fo : Foes K C_Share := ⟨⟨kit_no sCl sTy qNoneType, rNoneType⟩, ⟨kit_no sCl sTy qint, rint⟩, ⟨kit_no sCl sTy qbool, rbool⟩, ⟨kit_no sCl sTy qtuple, rtuple⟩, ⟨kit_no sCl sTy qlist, rlist⟩, ⟨kit_no sCl sTy qstr, rstr⟩⟩
  have cl_Share := sc.ins.cl
  have G_Share___init__ := ok_Share___init__ (P := l.prog) (w := w) (base := base) F_Share___init__ T x_InvalidNumber sc
  have M_Share : Mk K C_Share f_Share___init__ := ⟨sMk, a_Share___init__, i_Share___init__, sKc⟩
  have m_Share : MakX l.prog w K mg base 1 "Share" C_Share (spInit C_Share C_InvalidNumber) := ⟨_, _, _, M_Share, G_Share___init__, PySem.W.mg_of X G aS, b_Share___init__⟩
  have mk_ou : MakXK l.prog w K mg base 1 "Share" C_Share ["over", "under"] (fun xs zs => xs ++ zs) (spInit C_Share C_InvalidNumber) := ⟨_, _, _, fun us ws => us ++ ws, M_Share, G_Share___init__, PySem.W.mg_of X G aS, L2Fun_kbn F_Share___init__ (fun _ _ _ _ _ _ us ws h1 h2 => match us, ws, h1, h2 with | [_], [_, _], _, _ => rfl) (fun r1 r2 => r1.append r2)⟩
  have mk_uo : MakXK l.prog w K mg base 1 "Share" C_Share ["under", "over"] (fun xs zs => xs ++ zs.reverse) (spInit C_Share C_InvalidNumber) := ⟨_, _, _, fun us ws => us ++ ws.reverse, M_Share, G_Share___init__, PySem.W.mg_of X G aS, L2Fun_kbn F_Share___init__ (fun _ _ _ _ _ _ us ws h1 h2 => match us, ws, h1, h2 with | [_], [_, _], _, _ => rfl) (fun r1 r2 => r1.append (vals_rev r2))⟩
  have G_Share___add__ := ok_Share___add__ (P := l.prog) (w := w) (base := base) F_Share___add__ T m_Share sc
  have c_Share___add__ : Met l.prog w K mg base 3 C_Share "__add__" (spAdd C_Share) := ⟨_, _, _, cl_Share, ⟨a_Share___add__, i_Share___add__, k_Share___add__⟩, G_Share___add__, b_Share___add__⟩
  have G_Share___sub__ := ok_Share___sub__ (P := l.prog) (w := w) (base := base) F_Share___sub__ T m_Share sc
  have c_Share___sub__ : Met l.prog w K mg base 3 C_Share "__sub__" (spSub C_Share) := ⟨_, _, _, cl_Share, ⟨a_Share___sub__, i_Share___sub__, k_Share___sub__⟩, G_Share___sub__, b_Share___sub__⟩
  have G_Share___mul__ := ok_Share___mul__ (P := l.prog) (w := w) (base := base) F_Share___mul__ T m_Share sc
  have c_Share___mul__ : Met l.prog w K mg base 3 C_Share "__mul__" (spMul C_Share) := ⟨_, _, _, cl_Share, ⟨a_Share___mul__, i_Share___mul__, k_Share___mul__⟩, G_Share___mul__, b_Share___mul__⟩
  have G_Share___eq__ := ok_Share___eq__ (P := l.prog) (w := w) (base := base) F_Share___eq__ T sc
  have c_Share___eq__ : Met l.prog w K mg base 1 C_Share "__eq__" (spEq K C_Share) := ⟨_, _, _, cl_Share, ⟨a_Share___eq__, i_Share___eq__, k_Share___eq__⟩, G_Share___eq__, b_Share___eq__⟩
  have G_Share_is_below := ok_Share_is_below (P := l.prog) (w := w) (base := base) F_Share_is_below T sc
  have c_Share_is_below : Met l.prog w K mg base 1 C_Share "is_below" (spBelow C_Share) := ⟨_, _, _, cl_Share, ⟨a_Share_is_below, i_Share_is_below, k_Share_is_below⟩, G_Share_is_below, b_Share_is_below⟩
  have ck_below : MetK CX0 l.prog w K mg base 1 C_Share "is_below" ["other"] (fun xs zs => xs ++ zs) (spBelow C_Share) := ⟨_, _, _, fun us ws => us ++ ws, cl_Share, ⟨a_Share_is_below, i_Share_is_below, k_Share_is_below⟩, G_Share_is_below, L2Fun_kbn F_Share_is_below (fun _ _ _ _ _ _ us ws h1 h2 => match us, ws, h1, h2 with | [_], [_], _, _ => rfl) (fun r1 r2 => r1.append r2)⟩
  have G_half_of := ok_half_of (P := l.prog) (w := w) (base := base) F_half_of T m_Share
  have c_half_of : Cal l.prog w K mg base 3 "half_of" (spHalf C_Share) := ⟨_, _, _, G_half_of, PySem.W.mg_of X G a_half_of, k_half_of, b_half_of⟩
  have ck_half : CalK l.prog w K mg base 3 "half_of" 0 ["length"] (fun xs zs => xs ++ zs) (spHalf C_Share) := ⟨_, _, _, fun us ws => us ++ ws, G_half_of, PySem.W.mg_of X G a_half_of, k_half_of, L2Fun_kbn F_half_of (fun _ _ _ _ _ _ us ws h1 h2 => match us, ws, h1, h2 with | [], [_], _, _ => rfl) (fun r1 r2 => r1.append r2)⟩
  have G_law_tape := ok_law_tape (P := l.prog) (w := w) (base := base) F_law_tape T 
  have c_law_tape : Cal l.prog w K mg base 1 "_law_tape" (spTape K) := ⟨_, _, _, G_law_tape, PySem.W.mg_of X G a_law_tape, k_law_tape, b_law_tape⟩
  have G_law_draw := ok_law_draw (P := l.prog) (w := w) (base := base) F_law_draw T 
  have c_law_draw : Cal l.prog w K mg base 1 "_law_draw" (spDraw) := ⟨_, _, _, G_law_draw, PySem.W.mg_of X G a_law_draw, k_law_draw, b_law_draw⟩
  have G_law_number := ok_law_number (P := l.prog) (w := w) (base := base) F_law_number T c_law_draw
  have c_law_number : Cal l.prog w K mg base 2 "_law_number" (spNumber) := ⟨_, _, _, G_law_number, PySem.W.mg_of X G a_law_number, k_law_number, b_law_number⟩
  have G_law_lowest := ok_law_lowest (P := l.prog) (w := w) (base := base) F_law_lowest T 
  have c_law_lowest : Cal l.prog w K mg base 1 "_law_lowest" (spLow) := ⟨_, _, _, G_law_lowest, PySem.W.mg_of X G a_law_lowest, k_law_lowest, b_law_lowest⟩
  have G_law_integer := ok_law_integer (P := l.prog) (w := w) (base := base) F_law_integer T 
  have c_law_integer : Cal l.prog w K mg base 1 "_law_integer" (spInteger) := ⟨_, _, _, G_law_integer, PySem.W.mg_of X G a_law_integer, k_law_integer, b_law_integer⟩
  have ch_integer : CalH l.prog w K mg base 1 "_law_integer" spInteger := ⟨_, _, _, okH_law_integer (P := l.prog) (w := w) (base := base) F_law_integer T, PySem.W.mg_of X G a_law_integer, k_law_integer, b_law_integer⟩
  have G_law_is := ok_law_is (P := l.prog) (w := w) (base := base) F_law_is T c_law_integer sc
  have c_law_is : Cal l.prog w K mg base 2 "_law_is" (spIs C_Share) := ⟨_, _, _, G_law_is, PySem.W.mg_of X G a_law_is, k_law_is, b_law_is⟩
  have G_law_sum := ok_law_sum (P := l.prog) (w := w) (base := base) F_law_sum T c_law_lowest
  have c_law_sum : Cal l.prog w K mg base 2 "_law_sum" (spSumL) := ⟨_, _, _, G_law_sum, PySem.W.mg_of X G a_law_sum, k_law_sum, b_law_sum⟩
  have G_law_less := ok_law_less (P := l.prog) (w := w) (base := base) F_law_less T c_law_lowest
  have c_law_less : Cal l.prog w K mg base 2 "_law_less" (spLessL) := ⟨_, _, _, G_law_less, PySem.W.mg_of X G a_law_less, k_law_less, b_law_less⟩
  have G_law_times := ok_law_times (P := l.prog) (w := w) (base := base) F_law_times T c_law_lowest
  have c_law_times : Cal l.prog w K mg base 2 "_law_times" (spTimesL) := ⟨_, _, _, G_law_times, PySem.W.mg_of X G a_law_times, k_law_times, b_law_times⟩
  have G_law_pair_right := ok_law_pair_right (P := l.prog) (w := w) (base := base) F_law_pair_right T sc sc.op c_law_is c_law_sum c_law_less c_law_times c_Share___add__ c_Share___sub__ c_Share___mul__ c_Share___eq__ c_Share_is_below ck_below
  have c_law_pair_right : Cal l.prog w K mg base 4 "_law_pair_right" (spPR C_Share) := ⟨_, _, _, G_law_pair_right, PySem.W.mg_of X G a_law_pair_right, k_law_pair_right, b_law_pair_right⟩
  have G_law_strangers_right := ok_law_strangers_right (P := l.prog) (w := w) (base := base) F_law_strangers_right T sc sc.op fo c_Share___eq__
  have c_law_strangers_right : Cal l.prog w K mg base 3 "_law_strangers_right" (spStr C_Share) := ⟨_, _, _, G_law_strangers_right, PySem.W.mg_of X G a_law_strangers_right, k_law_strangers_right, b_law_strangers_right⟩
  have G_law_refused := ok_law_refused (P := l.prog) (w := w) (base := base) F_law_refused T x_InvalidNumber m_Share mk_uo ch_integer
  have c_law_refused : Cal l.prog w K mg base 3 "_law_refused" (spRef) := ⟨_, _, _, G_law_refused, PySem.W.mg_of X G a_law_refused, k_law_refused, b_law_refused⟩
  have G_law_chain_right := ok_law_chain_right (P := l.prog) (w := w) (base := base) F_law_chain_right T sc sc.op c_law_draw m_Share c_law_is c_law_sum c_law_less c_law_times c_Share___add__ c_Share___sub__ c_Share___mul__
  have c_law_chain_right : Cal l.prog w K mg base 4 "_law_chain_right" (spChain) := ⟨_, _, _, G_law_chain_right, PySem.W.mg_of X G a_law_chain_right, k_law_chain_right, b_law_chain_right⟩
  have G_law_asks := ok_law_asks (P := l.prog) (w := w) (base := base) F_law_asks T sc c_law_tape c_law_draw c_law_number c_law_lowest m_Share mk_ou c_law_is c_law_strangers_right c_law_pair_right c_law_refused c_law_chain_right c_half_of ck_half
  have c_law_asks : Cal l.prog w K mg base 5 "_law_asks" (spAsks K) := ⟨_, _, _, G_law_asks, PySem.W.mg_of X G a_law_asks, k_law_asks, b_law_asks⟩
  have G_law := ok_law (P := l.prog) (w := w) (base := base) F_law T c_law_asks
  exact G_law
end K02
open PySem PySem.W PyProof.Rows
set_option maxRecDepth 100000 in
set_option maxHeartbeats 0 in
theorem PySem.Challenge.cw_keptbudgets_k02_shares_in_lowest_terms_holds : PySem.Challenge.rw_keptbudgets_k02_shares_in_lowest_terms.Holds := by
  w_on; o_law; k_head; (case hw => w_witness2)
  k_fill
  refine L2.walk_of (l := PySem.Challenge.rw_keptbudgets_k02_shares_in_lowest_terms) (n := 63) (k := 6) (x := "script") (CX := fun w => L2.CX0) (sp := fun w => K02.spLaw _) rfl (by decide) rfl ⟨rfl, by decide, by decide⟩ (fun w h Y => PySem.W.kIn_of Y) ?F (fun _ _ a ns hl _ hS => ⟨a, ns, rfl, hS, hl, fun _ => rfl⟩) (fun _ _ _ _ _ h => h)
  case F =>
    intro w mg fa h KX G hmg
    refine' K02.all_mk KX G hmg ?aS ?aG ?xgC_InvalidNumber ?xxL_InvalidNumber ?xsa_InvalidNumber ?xga_InvalidNumber ?xgg_InvalidNumber ?xiC_InvalidNumber ?xtI_InvalidNumber ?xkC_InvalidNumber ?xeC_InvalidNumber ?xvC_InvalidNumber ?xse_InvalidNumber ?xtC_InvalidNumber ?xhC_InvalidNumber ?xcC_InvalidNumber ?xsC_InvalidNumber ?xlI_InvalidNumber ?xcI_InvalidNumber ?xcd_InvalidNumber ?xcc_InvalidNumber ?xfi_InvalidNumber ?xff_InvalidNumber ?xup_InvalidNumber ?xn_InvalidNumber_number ?xsu ?xop ?xtp ?a_Share___init__ ?i_Share___init__ ?l_Share___init__ ?c_Share___init__ ?k_Share___init__ ?a_Share___add__ ?i_Share___add__ ?l_Share___add__ ?c_Share___add__ ?k_Share___add__ ?a_Share___sub__ ?i_Share___sub__ ?l_Share___sub__ ?c_Share___sub__ ?k_Share___sub__ ?a_Share___mul__ ?i_Share___mul__ ?l_Share___mul__ ?c_Share___mul__ ?k_Share___mul__ ?a_Share___eq__ ?i_Share___eq__ ?l_Share___eq__ ?c_Share___eq__ ?k_Share___eq__ ?a_Share_is_below ?i_Share_is_below ?l_Share_is_below ?c_Share_is_below ?k_Share_is_below ?a_half_of ?l_half_of ?c_half_of ?k_half_of ?a_law_tape ?l_law_tape ?c_law_tape ?k_law_tape ?a_law_draw ?l_law_draw ?c_law_draw ?k_law_draw ?a_law_number ?l_law_number ?c_law_number ?k_law_number ?a_law_lowest ?l_law_lowest ?c_law_lowest ?k_law_lowest ?a_law_integer ?l_law_integer ?c_law_integer ?k_law_integer ?a_law_is ?l_law_is ?c_law_is ?k_law_is ?a_law_sum ?l_law_sum ?c_law_sum ?k_law_sum ?a_law_less ?l_law_less ?c_law_less ?k_law_less ?a_law_times ?l_law_times ?c_law_times ?k_law_times ?a_law_pair_right ?l_law_pair_right ?c_law_pair_right ?k_law_pair_right ?a_law_strangers_right ?l_law_strangers_right ?c_law_strangers_right ?k_law_strangers_right ?a_law_refused ?l_law_refused ?c_law_refused ?k_law_refused ?a_law_chain_right ?l_law_chain_right ?c_law_chain_right ?k_law_chain_right ?a_law_asks ?l_law_asks ?c_law_asks ?k_law_asks ?a_law ?l_law ?c_law ?k_law ?z_super ?z_isinstance ?z_int ?z_abs ?z_range ?z_bool ?sPg ?sHd ?sPo ?sSa ?sHa ?sHn ?sTk ?sHm ?sCl ?sTy ?sNo ?sNu ?sFi ?sNe ?sNf ?sMk ?sKc ?qNoneType ?qint ?qbool ?qtuple ?qlist ?qstr ?rNoneType ?rint ?rbool ?rtuple ?rlist ?rstr
    (case aS => k_is)
    (case aG => k_is)
    (case xgC_InvalidNumber => k_is)
    (case xxL_InvalidNumber => k_is)
    (case xsa_InvalidNumber => k_is)
    (case xga_InvalidNumber => k_is)
    (case xgg_InvalidNumber => k_is)
    (case xiC_InvalidNumber => k_is)
    (case xtI_InvalidNumber => k_is)
    (case xkC_InvalidNumber => k_is)
    (case xeC_InvalidNumber => k_is)
    (case xvC_InvalidNumber => k_is)
    (case xse_InvalidNumber => k_is)
    (case xtC_InvalidNumber => k_is)
    (case xhC_InvalidNumber => k_is)
    (case xcC_InvalidNumber => k_is)
    (case xsC_InvalidNumber => k_is)
    (case xlI_InvalidNumber => k_is)
    (case xcI_InvalidNumber => k_is)
    (case xcd_InvalidNumber => k_is)
    (case xcc_InvalidNumber => k_is)
    (case xfi_InvalidNumber => exact rfl)
    (case xff_InvalidNumber => first | rfl | decide +kernel)
    (case xup_InvalidNumber => first | k_is | ks_is)
    (case xn_InvalidNumber_number => k_is)
    (case xsu => k_is)
    (case xop => k_is)
    (case xtp => first | rfl | decide +kernel)
    (case a_Share___init__ => k_is)
    (case i_Share___init__ => k_is)
    (case l_Share___init__ => k_is)
    (case c_Share___init__ => k_is)
    (case k_Share___init__ => k_is)
    (case a_Share___add__ => k_is)
    (case i_Share___add__ => k_is)
    (case l_Share___add__ => k_is)
    (case c_Share___add__ => k_is)
    (case k_Share___add__ => k_is)
    (case a_Share___sub__ => k_is)
    (case i_Share___sub__ => k_is)
    (case l_Share___sub__ => k_is)
    (case c_Share___sub__ => k_is)
    (case k_Share___sub__ => k_is)
    (case a_Share___mul__ => k_is)
    (case i_Share___mul__ => k_is)
    (case l_Share___mul__ => k_is)
    (case c_Share___mul__ => k_is)
    (case k_Share___mul__ => k_is)
    (case a_Share___eq__ => k_is)
    (case i_Share___eq__ => k_is)
    (case l_Share___eq__ => k_is)
    (case c_Share___eq__ => k_is)
    (case k_Share___eq__ => k_is)
    (case a_Share_is_below => k_is)
    (case i_Share_is_below => k_is)
    (case l_Share_is_below => k_is)
    (case c_Share_is_below => k_is)
    (case k_Share_is_below => k_is)
    (case a_half_of => k_is)
    (case l_half_of => k_is)
    (case c_half_of => k_is)
    (case k_half_of => k_is)
    (case a_law_tape => k_is)
    (case l_law_tape => k_is)
    (case c_law_tape => k_is)
    (case k_law_tape => k_is)
    (case a_law_draw => k_is)
    (case l_law_draw => k_is)
    (case c_law_draw => k_is)
    (case k_law_draw => k_is)
    (case a_law_number => k_is)
    (case l_law_number => k_is)
    (case c_law_number => k_is)
    (case k_law_number => k_is)
    (case a_law_lowest => k_is)
    (case l_law_lowest => k_is)
    (case c_law_lowest => k_is)
    (case k_law_lowest => k_is)
    (case a_law_integer => k_is)
    (case l_law_integer => k_is)
    (case c_law_integer => k_is)
    (case k_law_integer => k_is)
    (case a_law_is => k_is)
    (case l_law_is => k_is)
    (case c_law_is => k_is)
    (case k_law_is => k_is)
    (case a_law_sum => k_is)
    (case l_law_sum => k_is)
    (case c_law_sum => k_is)
    (case k_law_sum => k_is)
    (case a_law_less => k_is)
    (case l_law_less => k_is)
    (case c_law_less => k_is)
    (case k_law_less => k_is)
    (case a_law_times => k_is)
    (case l_law_times => k_is)
    (case c_law_times => k_is)
    (case k_law_times => k_is)
    (case a_law_pair_right => k_is)
    (case l_law_pair_right => k_is)
    (case c_law_pair_right => k_is)
    (case k_law_pair_right => k_is)
    (case a_law_strangers_right => k_is)
    (case l_law_strangers_right => k_is)
    (case c_law_strangers_right => k_is)
    (case k_law_strangers_right => k_is)
    (case a_law_refused => k_is)
    (case l_law_refused => k_is)
    (case c_law_refused => k_is)
    (case k_law_refused => k_is)
    (case a_law_chain_right => k_is)
    (case l_law_chain_right => k_is)
    (case c_law_chain_right => k_is)
    (case k_law_chain_right => k_is)
    (case a_law_asks => k_is)
    (case l_law_asks => k_is)
    (case c_law_asks => k_is)
    (case k_law_asks => k_is)
    (case a_law => k_is)
    (case l_law => k_is)
    (case c_law => k_is)
    (case k_law => k_is)
    (case z_super => k_is)
    (case z_isinstance => k_is)
    (case z_int => k_is)
    (case z_abs => k_is)
    (case z_range => k_is)
    (case z_bool => k_is)
    (case sPg => k_is)
    (case sHd => k_is)
    (case sPo => k_is)
    (case sSa => k_is)
    (case sHa => k_is)
    (case sHn => k_is)
    (case sTk => k_is)
    (case sHm => k_is)
    (case sCl => k_is)
    (case sTy => k_is)
    (case sNo => k_is)
    (case sNu => k_is)
    (case sFi => k_is)
    (case sNe => k_is)
    (case sNf => k_is)
    (case sMk => k_is)
    (case sKc => k_is)
    (case qNoneType => k_is)
    (case qint => k_is)
    (case qbool => k_is)
    (case qtuple => k_is)
    (case qlist => k_is)
    (case qstr => k_is)
    (case rNoneType => k_is)
    (case rint => k_is)
    (case rbool => k_is)
    (case rtuple => k_is)
    (case rlist => k_is)
    (case rstr => k_is)
#print axioms PySem.Challenge.cw_keptbudgets_k02_shares_in_lowest_terms_holds
