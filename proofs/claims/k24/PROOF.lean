import PyProof.Rows.All
import Wide.All
import OpenK.AllK
import Wide.FinOn
import HandS.ForMost
import HandS.ForExc
import HandS.Codes
import HandS.Wide
import HandS.WideBits
import HandS.IsInst
import HandS.Defaults
import KE.KExcSuper
import HandS.ExcInit
import HandS.ExcIs
import HandS.More
import HandS.ExcCtx
import HandS.ExcField
import HandS.HotCalls
import HandS.SlotsOwn
import HandS.MakeKwOnly
import HandS.TryMany
import HandS.Gcd
import HandS.TupLe
import PyProof.FString3
import HandS.FStr
import PyProof.Rows.StrIntSpec
import HandS.StrMore
import KE.GoesMore
import HandS.SortInts
import PyProof.TupleIter
import HandS.SortRule
import KE.DataMinMax
import HandS.SortKw
import KE.KMathGC
import KE.KDictZip
import HandS.ExcValue
import KE.GoesEnum
import HandS.Flt
import PyProof.Rows.StrPadFill
import PyProof.Rows.StrPadWhole
import PySem.Challenge.RW_keptbudgets_k24_worst_language
set_option Elab.async false
set_option linter.all false
set_option maxRecDepth 100000
set_option maxHeartbeats 4000000
namespace KB
open PySem PySem.Spec PyProof.Rows L2

/-! ### heaps -/
theorem same_upd {H : Hp} {p : Addr} {o : HO} (h : H p = none) : Same H (upd H p o) := fun b x e => by
  rw [upd_ne (ne_of_none e h)]
  exact e
theorem same_set {B H : Hp} {p : Addr} {o : HO} (s : Same B H) : Same (upd B p o) (upd H p o) := fun b x e => by
  by_cases hb : b = p
  · subst hb
    rw [upd_same] at e ⊢
    exact e
  · rw [upd_ne hb] at e ⊢
    exact s b x e
theorem same_out {B H : Hp} {p : Addr} {o : HO} (s : Same B H) (h : B p = none) : Same B (upd H p o) := fun b x e => by
  rw [upd_ne (ne_of_none e h)]
  exact s b x e
theorem sz (n : Nat) (h : n ≤ 16777216 := by decide) : n ≤ sizeLine := by
  rw [sizeLine_eq]
  exact h
theorem szl {n : Nat} (h : n < 16777216) : n < sizeLine := by
  rw [sizeLine_eq]
  exact h
theorem szle {n : Nat} (h : n ≤ 16777216) : n ≤ sizeLine := by
  rw [sizeLine_eq]
  exact h

/-! ### the tape: B is all that stands beside it -/
structure Tp (B H : Hp) (t : Addr) (c : Nat) : Prop where
  same : Same B H
  bt : B t = none
  ex : ∃ (g : Addr) (gs : List Int) (sd ct : Int), B g = none ∧ t ≠ g ∧ H t = some (.lst [.ref g, .int sd, .int ct]) ∧ H g = some (.lst (gs.map V.int)) ∧
    gs.length ≤ 63 ∧ 0 ≤ sd ∧ sd < 2147483647 ∧ 0 ≤ ct ∧ ct ≤ (c : Int)
theorem Tp.le {B H : Hp} {t : Addr} {c d : Nat} (T : Tp B H t c) (h : c ≤ d) : Tp B H t d := by
  obtain ⟨s, b, g, gs, sd, ct, h1, h2, h3, h4, h5, h6, h7, h8, h9⟩ := T
  exact ⟨s, b, g, gs, sd, ct, h1, h2, h3, h4, h5, h6, h7, h8, by omega⟩
theorem Tp.new {B H : Hp} {t p : Addr} {c : Nat} {o : HO} (T : Tp B H t c) (h : H p = none) : Tp (upd B p o) (upd H p o) t c := by
  obtain ⟨s, b, g, gs, sd, ct, h1, h2, h3, h4, h5⟩ := T
  have e1 : t ≠ p := ne_of_none h3 h
  have e2 : g ≠ p := ne_of_none h4 h
  exact ⟨same_set s, by rw [upd_ne e1]; exact b, g, gs, sd, ct, by rw [upd_ne e2]; exact h1, h2, by rw [upd_ne e1]; exact h3, by rw [upd_ne e2]; exact h4, h5⟩
theorem Tp.set {B H : Hp} {t p : Addr} {c : Nat} {o o' : HO} (T : Tp B H t c) (h : B p = some o) : Tp (upd B p o') (upd H p o') t c := by
  obtain ⟨s, b, g, gs, sd, ct, h1, h2, h3, h4, h5⟩ := T
  have e1 : t ≠ p := fun z => by rw [z, h] at b; cases b
  have e2 : g ≠ p := fun z => by rw [z, h] at h1; cases h1
  exact ⟨same_set s, by rw [upd_ne e1]; exact b, g, gs, sd, ct, by rw [upd_ne e2]; exact h1, h2, by rw [upd_ne e1]; exact h3, by rw [upd_ne e2]; exact h4, h5⟩
theorem Tp.free {B H : Hp} {t p : Addr} {c : Nat} (T : Tp B H t c) (h : H p = none) : B p = none := T.same.free h
theorem Tp.at {B H : Hp} {t p : Addr} {c : Nat} {o : HO} (T : Tp B H t c) (h : B p = some o) : H p = some o := T.same _ _ h
theorem Tp.inst {B H : Hp} {t x dx C : Addr} {c : Nat} {fs : List (Str × V)} (T : Tp B H t c) (hx : H x = none) (hd : H dx = none) (ne : dx ≠ x) : Tp (upd (upd B dx (.own x)) x (.ins C dx fs)) (upd (upd H dx (.own x)) x (.ins C dx fs)) t c :=
  (T.new hd).new (by rw [upd_ne ne.symm]; exact hx)
theorem Tp.ext {B H H' : Hp} {t : Addr} {c : Nat} (T : Tp B H t c) (s : Same H H') : Tp B H' t c := by
  obtain ⟨sm, b, g, gs, sd, ct, h1, h2, h3, h4, h5⟩ := T
  exact ⟨sm.trans s, b, g, gs, sd, ct, h1, h2, s _ _ h3, s _ _ h4, h5⟩
theorem Tp.ext1 {B H H' : Hp} {t p : Addr} {c : Nat} {o : HO} (T : Tp B H t c) (s : Same H H') (hp : H p = none) (ho : H' p = some o) : Tp (upd B p o) H' t c := by
  obtain ⟨sm, b, g, gs, sd, ct, h1, h2, h3, h4, h5⟩ := T
  have e1 : t ≠ p := ne_of_none h3 hp
  have e2 : g ≠ p := ne_of_none h4 hp
  refine ⟨fun b x e => ?_, by rw [upd_ne e1]; exact b, g, gs, sd, ct, by rw [upd_ne e2]; exact h1, h2, s _ _ h3, s _ _ h4, h5⟩
  by_cases hb : b = p
  · subst hb
    rw [upd_same] at e
    rw [ho]
    exact e
  · rw [upd_ne hb] at e
    exact s _ _ (sm _ _ e)
theorem Tp.isn {B H : Hp} {t p : Addr} {c : Nat} (T : Tp B H t c) (h : H p = none) : B p = none := T.same.free h
theorem same_ins {B : Hp} {x dx C : Addr} {fs : List (Str × V)} (hx : B x = none) (hd : B dx = none) (ne : dx ≠ x) : Same B (upd (upd B dx (.own x)) x (.ins C dx fs)) :=
  (same_upd hd).trans (same_upd (by rw [upd_ne ne.symm]; exact hx))
/-- a draw's number is a natural one -/
theorem nat_of {n : Int} (h : 0 ≤ n) : ∃ k : Nat, n = (k : Int) := ⟨n.toNat, by omega⟩
end KB

namespace KB
open PySem PySem.Spec PyProof.Rows L2
section
variable {P : Program} {w : World} {K : PySem.W.Frag} {mg : Str → Option Value} {base : Heap}
/-- a def of the module that raises nothing, to be called by its name -/
structure Cal (P : Program) (w : World) (K : PySem.W.Frag) (mg : Str → Option Value) (base : Heap) (k : Nat) (x : Str) (sp : Sp) : Prop where
  ex : ∃ (f : Addr) (fd : FuncData) (ps : List Str), FnOk P w K mg base CX0 k f fd ps sp ∧ mg x = some (.ref f) ∧ PySem.W.keepIn K (.ref f) = true ∧ Binds K fd ps []
/-- .. called by keywords alone -/
structure CalK (P : Program) (w : World) (K : PySem.W.Frag) (mg : Str → Option Value) (base : Heap) (k : Nat) (x : Str) (n : Nat) (ks : List Str) (gV : List V → List V → List V) (sp : Sp) : Prop where
  ex : ∃ (f : Addr) (fd : FuncData) (ps : List Str) (g : List Value → List Value → List Value), FnOk P w K mg base CX0 k f fd ps sp ∧ mg x = some (.ref f) ∧ PySem.W.keepIn K (.ref f) = true ∧ KBn K fd ps n ks g gV
/-- a method of the class at C -/
structure Met (P : Program) (w : World) (K : PySem.W.Frag) (mg : Str → Option Value) (base : Heap) (k : Nat) (C : Addr) (m : Str) (sp : Sp) : Prop where
  ex : ∃ (f : Addr) (fd : FuncData) (ps : List Str), Cls K C ∧ Meth K C m f ∧ FnOk P w K mg base CX0 k f fd ps sp ∧ Binds K fd ps []
theorem L2Fun_kbn {x qual : Str} {st : Stmt} {f : Addr} {fd : FuncData} {ps ks : List Str} {n : Nat} {g : List Value → List Value → List Value} {gV : List V → List V → List V} (F : Fun K x qual st f fd)
    (h : ∀ (kV doc pm : Value) (an : Option Addr) (cdv ct : Value) (us ws : List Value), us.length = n → ws.length = ks.length → bindArgs (PySem.W.fnOf x qual (defArgs st) (defBody st) (defScope st) .none kV doc pm an cdv ct) ⟨us, ks.zip ws⟩ = pure (ps.zip (g us ws)))
    (hrel : ∀ {vs : List V} {us : List Value} {zs : List V} {ws : List Value}, Vals vs us → Vals zs ws → Vals (gV vs zs) (g us ws)) : KBn K fd ps n ks g gV := by
  obtain ⟨oc, od, kV, doc, pm, an, cdv, ct, osl, rfl, lk, hcd⟩ := F.ex
  exact ⟨fun s us ws _ l1 l2 => .of_eq (h kV doc pm an cdv ct us ws l1 l2), fun r1 r2 => hrel r1 r2⟩
end
theorem vals_rev : ∀ {vs : List V} {us : List Value}, Vals vs us → Vals vs.reverse us.reverse
  | _, _, .nil => .nil
  | _, _, .cons r t => by
    rw [List.reverse_cons, List.reverse_cons]
    exact (vals_rev t).append (.cons r .nil)
section
variable {X : Cx} {k j n : Nat} {C : Addr} {x m : Str} {sp : Sp} {p pos apos : Pos} {e o : Expr} {es : List Expr} {kws : List Keyword} {ta : TE} {t tk : TA} {ks : List Str} {gV : List V → List V → List V}
theorem pe_c (c : Cal X.prog X.w X.K X.mg X.base k x sp) (hr : Room j X.A) (hk : k ≤ j) (hg : Gl X x) (ha : PA X (e :: es) t)
    (hdb : (x == ("__debug__" : Str)) = false := by decide) (he : starEach (e :: es) X.env = (false, eval e X.env) :: starEach es X.env := by rfl) (hpl : (backTo pos (starEach es X.env)).any (·.1) = false := by rfl) :
    PE X (.Call (.Name x p) (e :: es) [] pos) (tCall sp [] E0 t) := by
  obtain ⟨f, fd, ps, F, hm, kp, b⟩ := c.ex
  exact pe_call F (hr.mono hk) hg hm kp b .nil pass0 ha hdb he hpl
theorem pe_c0 (c : Cal X.prog X.w X.K X.mg X.base k x sp) (hr : Room j X.A) (hk : k ≤ j) (hg : Gl X x)
    (hdb : (x == ("__debug__" : Str)) = false := by decide) :
    PE X (.Call (.Name x p) [] [] pos) (tCall sp [] E0 tNil) := by
  obtain ⟨f, fd, ps, F, hm, kp, b⟩ := c.ex
  exact pe_call0 F (hr.mono hk) hg hm kp b .nil pass0 hdb
theorem pe_mt {pl : Sem Bool} (c : Met X.prog X.w X.K X.mg X.base k C m sp) (hr : Room j X.A) (hk : k ≤ j) (he : PE X o ta) (ha : PA X (e :: es) t)
    (hst : starEach (e :: es) X.env = (false, eval e X.env) :: starEach es X.env := by rfl) (hpl : (backTo pos (starEach es X.env)).any (·.1) = false := by rfl)
    (ht : eval (.Call (.Attribute o m apos) (e :: es) [] pos) X.env = (do
      let ov ← eval o X.env
      standAt apos.atName
      let (f, first) ← holding [ov] (getMethod ov m pl)
      callWith pos f first (backTo pos (starEach (e :: es) X.env)) (backToKw pos (keywordEach [] X.env))) := by rfl) :
    PE X (.Call (.Attribute o m apos) (e :: es) [] pos) (tMeth C m sp [] E0 ta t) := by
  obtain ⟨f, fd, ps, hc, hm, F, b⟩ := c.ex
  exact pe_meth (pl := pl) he hc hm F (hr.mono hk) b .nil pass0 ha hst hpl ht
theorem pe_mt0 {pl : Sem Bool} (c : Met X.prog X.w X.K X.mg X.base k C m sp) (hr : Room j X.A) (hk : k ≤ j) (he : PE X o ta)
    (ht : eval (.Call (.Attribute o m apos) [] [] pos) X.env = (do
      let ov ← eval o X.env
      standAt apos.atName
      let (f, first) ← holding [ov] (getMethod ov m pl)
      callWith pos f first (backTo pos (starEach [] X.env)) (backToKw pos (keywordEach [] X.env))) := by rfl) :
    PE X (.Call (.Attribute o m apos) [] [] pos) (tMeth C m sp [] E0 ta tNil) := by
  obtain ⟨f, fd, ps, hc, hm, F, b⟩ := c.ex
  exact pe_meth0 (pl := pl) he hc hm F (hr.mono hk) b .nil pass0 ht
/-- f(k = v, ..) -/
def tCallK0 (m : Nat) (sp : Sp) (gV : List V → List V → List V) (E : XK) (tk : TA) : TE := fun σ H Q => tk σ H fun zs H2 => zs.length = m ∧ sp (gV [] zs) H2 Q E
theorem pe_cK0 (c : CalK X.prog X.w X.K X.mg X.base k x 0 ks gV sp) (hr : Room j X.A) (hk : k ≤ j) (hg : Gl X x) (hkw : PK X kws tk)
    (hall : (backToKw pos (keywordEach kws X.env)).all (·.1.isSome) = true := by rfl) (hks : (backToKw pos (keywordEach kws X.env)).filterMap (·.1) = ks := by rfl) (hdb : (x == ("__debug__" : Str)) = false := by decide)
    (hpl : ((backTo pos (starEach [] X.env)).any (·.1) || (backToKw pos (keywordEach kws X.env)).any (·.1.isNone)) = false := by rfl) :
    PE X (.Call (.Name x p) [] kws pos) (tCallK0 ks.length sp gV E0 tk) := by
  obtain ⟨f, fd, ps, g, F, hm, kp, hb⟩ := c.ex
  refine ⟨fun pins s σ H Q I h => ?_⟩
  refine wpAny_Call_Name_kw (ld_glob I hg hm ?_ hdb)
  refine PySem.W.callWith_KW0 (h₀ := X.base) I.ok.mod.kin kp hall ?_ hpl
  refine thn (hkw.run pos pins s σ H _ I h) fun ws s2 ⟨zs, H2, I2, rz, l2, q2⟩ => ⟨I2.kIn, ?_⟩
  rw [hks]
  have r2 : Vals (gV [] zs) (g [] ws) := hb.rel (vs := []) (us := []) .nil rz
  refine wpAny_call (codeAny_mono (F.run X.A X.stack s2 H2 ⟨[], ks.zip ws⟩ (g [] ws) (gV [] zs) Q E0 (hr.mono hk) I2.env0 (hb.to s2 [] ws I2.kIn rfl (rz.length.symm.trans l2)) r2 q2) fun r s' hq => ?_)
  cases r with
  | error e => exact pass0 pins σ H2 s2 e s' I2 hq
  | ok fl =>
    cases fl with
    | ret u => exact I2.after hq
    | next => exact False.elim hq
    | brk => exact False.elim hq
    | cont => exact False.elim hq
/-- C() of a class that has no __init__ of its own -/
structure Mk0 (K : PySem.W.Frag) (C : Addr) : Prop where
  makes : PySem.W.makesIn K C = true
  init : PySem.W.findIn K (.ref C) "__init__" = some (some (.builtin "object.__init__"))
  kp : PySem.W.keepIn K (.ref C) = true
  top : PySem.W.mroIn K C (.type "object") = some true
def tNew0 (C : Addr) : TE := fun _ H Q => ∀ x dx, H x = none → H dx = none → dx ≠ x → Q (.ref x) (upd (upd H dx (.own x)) x (.ins C dx []))
theorem pe_new0 (M : Mk0 X.K C) (hg : Gl X x) (hm : X.mg x = some (.ref C)) (hdb : (x == ("__debug__" : Str)) = false := by decide) : PE X (.Call (.Name x p) [] [] pos) (tNew0 C) := by
  refine ⟨fun pins s σ H Q I h => ?_⟩
  refine wpAny_Call_Name_kw (ld_glob I hg hm ?_ hdb)
  refine PySem.W.callWith_K0 I.kIn M.kp ?_
  have hq := h (s.heap.objs.size + 1) s.heap.objs.size (I.hok.fresh (Nat.le_succ _)) (I.hok.fresh (Nat.le_refl _)) (Nat.ne_of_lt (Nat.lt_succ_self _))
  have I2 := Inv.made (C := C) I
  have hx : ((s.heap.push PySem.W.emptyDict).push (PySem.W.instObj C s.heap.objs.size)).get? (s.heap.objs.size + 1) = some (PySem.W.instObj C s.heap.objs.size) := by
    have := Heap.get?_push_size (s.heap.push PySem.W.emptyDict) (o := PySem.W.instObj C s.heap.objs.size) rfl
    rwa [Heap.size_push] at this
  have t1 : PySem.W.Looks (model X.prog X.w) ((s.heap.push PySem.W.emptyDict).push (PySem.W.instObj C s.heap.objs.size)) (typeOf (.ref (s.heap.objs.size + 1))) (.ref C) := (PySem.W.Looks.ld hx).andThen .now
  have t2 : PySem.W.Looks (model X.prog X.w) ((s.heap.push PySem.W.emptyDict).push (PySem.W.instObj C s.heap.objs.size)) (isInstance (.ref (s.heap.objs.size + 1)) (.type "object")) true := t1.andThen (PySem.W.looks_mroIn I2.kIn M.top)
  refine wpAny_call (make_map0 I.kIn M.makes M.init (fun self => PySem.W.Looks.of_pure (PySem.W.oi_bind self)) ?_)
  refine codeAny_call_builtin PySem.W.oi_plain PySem.W.entry_oi (@PySem.W.check_slot (model X.prog X.w) _ _ _ "object.__init__" "object" "__init__" (.ref (s.heap.objs.size + 1)) [] [] _ PySem.W.oi_kind PySem.W.oi_split t2 (PySem.W.oi_args _) ?_)
  rw [PySem.W.oi_run]
  exact wpAny_pure (And.intro rfl ⟨V.ref (s.heap.objs.size + 1), _, I2, rfl, hq⟩)
end
end KB

/-! own errors: super().__init__('..'), then one or two fields -/
namespace KB
open PySem PySem.W PySem.Calls PyProof.Rows PySem.HandSPX
def xSup (msg : Str) (j : Nat) (p0 p1 p2 p3 p4 p5 : Pos) : Stmt := .Expr (.Call (.Attribute (.Call (.Name "super" p0) [] [] p1) "__init__" p2) [.Constant (.str msg) j p3] [] p4) p5
def xSet (f : Str) (q1 q2 q3 q4 : Pos) : Stmt := .Assign [.Attribute (.Name "self" q1) f q2] (.Name f q3) q4
def xArg (x : Str) (p : Pos) : Arg := { arg := x, annotation := none, pos := p }
def xArgs (l : List Arg) : Arguments := { posonlyargs := [], args := l, vararg := none, kwonlyargs := [], kw_defaults := [], kwarg := none, defaults := [] }
/-- what the written part says of the class at C, of its __init__ at fI, whose class cell is at cc -/
structure XCls (P : Program) (K : Frag) (mg : Str → Option Value) (x qual : Str) (C fI : Addr) (st : Stmt) : Prop where
  gC : mg x = some (.ref C)
  cls : ∃ nm q N bs bm sn sub ab col dd k0 k1 k2 k3 k5, K.lookup C = some (excClassObj nm q C N bs bm true sn sub ab col dd k0 k1 k2 k3 k5 "ValueError.__new__") ∧ refsVE bm = true
  sa : findIn K (.ref C) "__setattr__" = some (some (.builtin "object.__setattr__"))
  ga : findIn K (.ref C) "__getattribute__" = some (some (.builtin "BaseException.__getattribute__"))
  gg : findIn K (.ref C) "__getattr__" = some none
  iC : findIn K (.ref C) "__init__" = some (some (.ref fI))
  tC : typeIn K (.ref fI) = some (.type "function")
  kC : keepIn K (.ref C) = true
  exC : subIn K (.ref C) (.type "BaseException") = some true
  veC : subIn K (.ref C) (.type "ValueError") = some true
  self : mroIn K C (.ref C) = some true
  tyC : typeIn K (.ref C) = some (.type "type")
  hdC : hasDictIn K C = true
  te : exmOne K (.ref C) (.ref C) = some true
  up : ks_superIn K C C "__init__" = some (some (.builtin "ValueError.__init__"))
  sup : mg "super" = none
  opq : nsIn K cStatics "thirdparty.any" = some none
  top : (P.main.scope.names.lookup ("super" : Str)).isSome = false
  fn : ∃ (oc : Value) (od : Option Addr) (doc pm : Value) (an : Option Addr) (ct : Value) (osl : Array (Option Value)) (cda cc : Addr) (ccl cl : Value) (cdd cld : Option Addr) (ccs csl : Array (Option Value)) (vs : Array Value) (file : Str) (tf : Tok),
    K.lookup fI = some ⟨oc, od, .func (ksFn "__init__" qual (L2.defArgs st) (L2.defBody st) (L2.defScope st) .none .none doc pm an (.ref cda) ct cc), osl⟩ ∧ codeIn K (.ref cda) qual = true ∧
    K.lookup cda = some ⟨ccl, cdd, .fields vs, ccs⟩ ∧ vs[2]? = some (.str file tf) ∧ ((P.main.file : Str) == file) = true ∧ K.lookup cc = some ⟨cl, cld, .cell (some (.ref C)), csl⟩
/-- the scope of such an __init__ with these fields -/
structure XScope (sc : Scope) (fs : List Str) : Prop where
  kind : sc.kind = .function
  co : sc.isCoroutine = false
  gen : sc.isGenerator = false
  nocell : ∀ x ∈ sc.names, x.2 ≠ .cell
  self : sc.names.lookup ("self" : Str) = some NameKind.local
  fld : ∀ f ∈ fs, sc.names.lookup f = some NameKind.local
  cls : sc.names.lookup ("__class__" : Str) = some NameKind.free
  sup : sc.names.lookup ("super" : Str) = some NameKind.globalImplicit

section
variable {prog : Program} {w : World} {A : Around} {E : Value → Shared → Prop} {h : Heap} {g : Array GenState} {d : Drawn} {t : Nat} {os : OsState} {K : Frag} {mg : Str → Option Value}
/-- a call of a method of super(), its words in one line -/
theorem x_call {env : Env} {msg nm : Str} {j : Nat} {p0 p1 p2 p3 p4 : Pos} (hl : (p2.endLine == p4.line) = true) :
    eval (.Call (.Attribute (.Call (.Name "super" p0) [] [] p1) nm p2) [.Constant (.str msg) j p3] [] p4) env = (do
      let ov ← attributeBase (.Call (.Name "super" p0) [] [] p1) nm env (eval (.Call (.Name "super" p0) [] [] p1) env)
      standAt p2.atName
      let (f, first) ← holding [ov] (getMethod ov nm (do return (← importBound (.Call (.Name "super" p0) [] [] p1) env).getD true))
      callWith p4 f first (backTo p4 (starEach [.Constant (.str msg) j p3] env)) []) := by
  have e : methodCallPos true (.Call (.Name "super" p0) [] [] p1) env p2 p4 = pure p4 := by
    unfold methodCallPos
    rw [hl]
    rfl
  have e2 : methodCallForm ([Expr.Constant (.str msg) j p3].length + 0) (backTo p4 (starEach [.Constant (.str msg) j p3] env)) [] = true := rfl
  show (attributeBase _ _ _ _ >>= fun ov => standAt _ >>= fun _ => methodCall _ _ _ _ _ ov _ _ _) = _
  unfold methodCall
  show (attributeBase _ _ _ _ >>= fun ov => standAt _ >>= fun _ => holding [ov] (calleeOf (methodCallForm ([Expr.Constant (.str msg) j p3].length + 0) (backTo p4 (starEach [.Constant (.str msg) j p3] env)) []) _ _ ov _) >>= fun z =>
    methodCallPos (methodCallForm ([Expr.Constant (.str msg) j p3].length + 0) (backTo p4 (starEach [.Constant (.str msg) j p3] env)) []) _ _ _ _ >>= fun cp => callWith cp z.1 z.2 _ _) = _
  rw [e2, e]
  rfl
/-- super().__init__('..') as the first statement -/
theorem x_super {x C fI t0 L cc cda : Addr} {qual nm2 : Str} {fs : List Str} {mL : Str → Option Value} {st : Stmt} {sc : Scope} {body rest : List Stmt} {fd : FuncData} {ar : Arg} {vs : Array Value} {file : Str} {tf : Tok} {oc ccl cl : Value} {od cdd cld : Option Addr} {osl ccs csl : Array (Option Value)}
    {msg : Str} {j : Nat} {p0 p1 p2 p3 p4 p5 : Pos} {Q : Flow → Shared → Prop} (T : XCls prog K mg nm2 qual C fI st) (S : XScope sc fs) (X : K.In h) (hg : h.Ns mainGlobals mg) (hb : ∃ mb, h.Ns builtinsNs mb ∧ ∀ x : Str, x ≠ "__name__" → mb x = bootBuiltins x)
    (hns : h.Ns L mL) (hL : mL ar.arg = some (.ref x)) (hlo : sc.names.lookup ar.arg = some .local)
    (hl : (p2.endLine == p4.line) = true) (hx : h.get? x = some (excO C t0)) (hf : K.lookup fI = some ⟨oc, od, .func fd, osl⟩) (hp : (fd.params.posonlyargs ++ fd.params.args).head? = some ar)
    (hcode : K.lookup cda = some ⟨ccl, cdd, .fields vs, ccs⟩) (hvs : vs[2]? = some (.str file tf)) (hfile : ((prog.main.file : Str) == file) = true) (hcell : K.lookup cc = some ⟨cl, cld, .cell (some (.ref C)), csl⟩)
    (hq : ∀ h' t' t1, (∀ b o, b ≠ x → h.get? b = some o → h'.get? b = some o) → h'.get? x = some (excO C t1) → wpAny (model prog w) A (execs rest (ksEnv qual sc L fI (.ref cda) cc)) Q E ⟨h', g, d, t', os⟩) :
    _root_.PySem.wpAt (model prog w) A (.func body (ksEnv qual sc L fI (.ref cda) cc)) (execs (xSup msg j p0 p1 p2 p3 p4 p5 :: rest) (ksEnv qual sc L fI (.ref cda) cc)) Q E ⟨h, g, d, t, os⟩ := by
  obtain ⟨kind, nms, ig, ic, mo⟩ := sc
  have ek : kind = .function := S.kind
  subst ek
  obtain ⟨nm, q, N, bs, bm, sn, sub, ab, col, dd, k0, k1, k2, k3, k5, hC, hbm⟩ := T.cls
  obtain ⟨mb, hb1, hb2⟩ := hb
  have hcl : clsIn K C = some { name := nm, bases := bs, mro := .ref C :: bm, ns := N, qualname := q, hasDict := true, slotNames := sn, subclasses := sub, abstract := ab, collection := col, hasDel := false } := by unfold clsIn; rw [hC] <;> rfl
  have hCh := X _ _ hC
  refine ks_wpAt_execs_cons (ks_wpAt_Expr_any (ks_wpAt_MethodCall ?_ (x_call hl)) (by rfl) (by rfl))
  refine ks_wpAt_super_base (env := ksEnv qual { kind := .function, names := nms, isGenerator := ig, isCoroutine := ic, more := mo } L fI (.ref cda) cc) S.sup S.cls (by decide) rfl (X _ _ hf) rfl hp rfl (X _ _ hcode) rfl hvs hfile T.top ?_
  refine ks_loadName_global S.kind S.sup (loadGlobal_builtin (env := ksEnv qual { kind := .function, names := nms, isGenerator := ig, isCoroutine := ic, more := mo } L fI (.ref cda) cc) hg T.sup hb1 ((hb2 _ (by decide)).trans (by decide +kernel)) ⟨rfl, ?_⟩)
  refine wpAny_loadName_free S.kind S.cls rfl ⟨_, X _ _ hcell, rfl⟩ ?_
  refine wpAny_loadName_local S.kind hlo hns hL ?_
  refine ks_wpAny_isType_cls hCh rfl ⟨rfl, ?_⟩
  refine ks_wpAny_call_super hCh rfl hx rfl (fun c e => by cases e) (looks_mroIn X T.self) (fun h1 e1 kk1 => ?_)
  have X1 : K.In h1 := X.keeps kk1
  have hx1 := kk1 _ _ hx
  have hxC : x ≠ C := fun e => by rw [e, hCh] at hx; cases hx
  have I1 : InstAt h1 x (excO C t0) C none := ⟨hx1, rfl, rfl, trivial⟩
  have up := T.up
  unfold ks_superIn at up
  rw [hcl] at up
  refine kxs_getMethod kxs_ValueError e1 (looks_opaque X1 T.opq) (l₀ := .ref C :: bm) (fun A Q E s k q => wpAny_bind ((looks_clsIn X1 hcl) A _ E s k (wpAny_pure q))) rfl X1 up (I1.type.andThen (looks_subIn X1 T.veC)) hxC (by decide) ?_
  have hu : (h1.push (kxs_mw "ValueError.__init__" x)).get? h1.objs.size = some (kxs_mw "ValueError.__init__" x) := Heap.get?_push_at rfl rfl
  have kk2 : ∀ b o, h1.get? b = some o → (h1.push (kxs_mw "ValueError.__init__" x)).get? b = some o := fun b o e => Heap.get?_push_of_some _ e
  refine kxs_callWith (i := "ValueError.__init__") (x := x) (by rfl) ?_
  refine L2.FK.evalArgs_any (by rfl) (spliced_more (e := .Constant (.str msg) j p3) (rest := []) ?_ (by rfl))
  refine Calls.Constant_str ?_
  refine spliced_none ⟨hu, ?_⟩
  refine wpAny_call (codeAny_of_tree ?_)
  show wpAny _ A.in1 (callAny (.ref h1.objs.size) ⟨_, []⟩) _ _ _
  simp only [callAny]
  refine wpAny_bind (wpAny_load hu ?_)
  simp only [kxs_mw, show (Value.type "method-wrapper" == Value.type "method" || Value.type "method-wrapper" == Value.type "builtin_function_or_method" || Value.type "method-wrapper" == Value.type "method-wrapper") = true by decide, if_true]
  refine KFB.if_so (by decide) ?_
  refine wpAny_bind (check_bound_init F.excBase_ValueError.toExcCallFacts (kk2 _ _ (kk1 _ _ hCh)) (kk2 _ _ hx1) rfl ?_)
  refine wpAny_bind (wpAny_pure (wpAny_pure ?_))
  refine ⟨plainId_quiet F.excBase_ValueError.init.plain _, codeAny_builtin F.excBase_ValueError.initEntry ?_⟩
  refine exc_init_tree (cls := .ref C) (t0 := t0) (dv := none) (c2 := .none) (c3 := .none) (b4 := .bool false) (kk2 _ _ hx1) (by show 1 ≤ sizeLine; rw [sizeLine_eq]; decide) (fun h' kk3 e3 _ => ?_)
  exact wpAt_of_wpAny (hq _ _ _ (fun b o hb e => kk3 b o hb (kk2 _ _ (kk1 _ _ e))) e3)

theorem x_ld {M : Model} {s : Shared} {qual : Str} {sc : Scope} {L a cc : Addr} {cd : Value} {m : Str → Option Value} {x : Str} {pos : Pos} {v : Value} {Q : Value → Shared → Prop} (hn : s.heap.Ns L m) (hv : m x = some v) (h : Q v s)
    (hk : sc.kind = .function) (hl : sc.names.lookup x = some .local) (hd : (x == ("__debug__" : Str)) = false) :
    wpAny M A (eval (.Name x pos) (ksEnv qual sc L a cd cc)) Q E s := wpAny_Name (wpAny_loadName_local hk hl hn hv h) hd
/-- what the made exception's __init__ leaves -/
structure XEnd (h h' : Heap) (x C dx : Addr) (m : Str → Option Value) : Prop where
  keep : ∀ b o, b ≠ x → h.get? b = some o → h'.get? b = some o
  obj : ∃ t1, h'.get? x = some { cls := .ref C, dict := some dx, data := .fields #[.ref t1, .none, .none, .none, .bool false, .none] }
  dbig : h.objs.size ≤ dx
  dne : dx ≠ x
  ns : h'.Ns1 dx m
structure XBody (st : Stmt) (fs : List Str) : Prop where
  ex : ∃ (msg : Str) (j : Nat) (p0 p1 p2 p3 p4 p5 : Pos) (sets : List Stmt), (p2.endLine == p4.line) = true ∧ L2.defBody st = xSup msg j p0 p1 p2 p3 p4 p5 :: sets ∧
    ((∃ f q1 q2 q3 q4, fs = [f] ∧ sets = [xSet f q1 q2 q3 q4]) ∨ ∃ f f2 q1 q2 q3 q4 r1 r2 r3 r4, fs = [f, f2] ∧ sets = [xSet f q1 q2 q3 q4, xSet f2 r1 r2 r3 r4])
  head : ∃ ar, ((L2.defArgs st).posonlyargs ++ (L2.defArgs st).args).head? = some ar ∧ ar.arg = "self"
  bind : ∀ (qual : Str) (doc pm : Value) (an : Option Addr) (cd ct : Value) (cc : Addr) (u : Value) (us : List Value), us.length = fs.length →
    bindArgs (ksFn "__init__" qual (L2.defArgs st) (L2.defBody st) (L2.defScope st) .none .none doc pm an cd ct cc) ⟨u :: us, []⟩ = pure ((("self" : Str), u) :: fs.zip us)
  sc : XScope (L2.defScope st) fs
  dbg : ∀ f ∈ fs, (f == ("__debug__" : Str)) = false
  nd : (("self" : Str) :: fs).Nodup
def mOf (l : List (Str × Value)) : Str → Option Value := fun y => l.lookup y

theorem x_set {s : Shared} {x C fI L cc : Addr} {cda : Value} {qual nm2 f : Str} {fs : List Str} {mL : Str → Option Value} {st : Stmt} {sc : Scope} {v : Value} {ox : Obj} {od : Option Obj} {q1 q2 q3 q4 : Pos} {Q : Flow → Shared → Prop}
    (T : XCls prog K mg nm2 qual C fI st) (S : XScope sc fs) (X : K.In s.heap) (hns : s.heap.Ns L mL) (hself : mL "self" = some (.ref x)) (hf : f ∈ fs) (hv : mL f = some v) (hd : (f == ("__debug__" : Str)) = false) (J : InstAt s.heap x ox C od)
    (h : codeAny (model prog w) A (.call (.builtin "object.__setattr__") ⟨[.ref x, .str f s.toks, v], []⟩) (fun r s' => match r with | .ok (.ret _) => Q .next s' | .ok _ => False | .error e => E e s') { s with toks := s.toks + 1 }) :
    wpAny (model prog w) A (exec (xSet f q1 q2 q3 q4) (ksEnv qual sc L fI cda cc)) Q E s := by
  refine plainObj_wpAny_Assign_Attribute ?_ (by rfl)
  refine x_ld hns hv ?_ S.kind (S.fld f hf) hd
  refine x_ld hns hself ?_ S.kind S.self (by decide)
  exact set_plain X J T.sa h
theorem x_init1 {s : Shared} {x C fI t0 : Addr} {qual nm2 f : Str} {st : Stmt} {v : Value} {R : Result → Shared → Prop} (T : XCls prog K mg nm2 qual C fI st) (B : XBody st [f]) (noF : findIn K (.ref C) f = some none)
    (X : K.In s.heap) (hg : s.heap.Ns mainGlobals mg) (hb : ∃ mb, s.heap.Ns builtinsNs mb ∧ ∀ x : Str, x ≠ "__name__" → mb x = bootBuiltins x) (hlim : s.heap.NoLimit) (hx : s.heap.get? x = some (excO C t0)) (hnx : K.lookup x = none) (hgx : x ≠ mainGlobals) (hbx : x ≠ builtinsNs) (hroom : A.depth < recursionLimit)
    (hq : ∀ h' tk dx, XEnd s.heap h' x C dx (fun y => if y = f then some v else none) → R (.ok (.ret .none)) { s with heap := h', toks := tk }) :
    codeAny (model prog w) A (.call (.ref fI) ⟨[.ref x, v], []⟩) R s := by
  obtain ⟨oc, od, doc, pm, an, ct, osl, cda, cc, ccl, cl, cdd, cld, ccs, csl, vs, file, tf, ho, hcd, hcode, hvs, hfile, hcell⟩ := T.fn
  obtain ⟨nm, q, N, bs, bm, sn, sub, ab, col, dd, k0, k1, k2, k3, k5, hC, hbm⟩ := T.cls
  have hcl : clsIn K C = some { name := nm, bases := bs, mro := .ref C :: bm, ns := N, qualname := q, hasDict := true, slotNames := sn, subclasses := sub, abstract := ab, collection := col, hasDel := false } := by unfold clsIn; rw [hC] <;> rfl
  obtain ⟨msg, j, p0, p1, p2, p3, p4, p5, sets, hl, eB, eS⟩ := B.ex
  obtain ⟨q1, q2, q3, q4, rfl⟩ : ∃ q1 q2 q3 q4, sets = [xSet f q1 q2 q3 q4] := by
    rcases eS with ⟨f', q1, q2, q3, q4, e1, e2⟩ | ⟨f', f2, q1, q2, q3, q4, r1, r2, r3, r4, e1, e2⟩
    · cases e1
      exact ⟨q1, q2, q3, q4, e2⟩
    · cases e1
  obtain ⟨ar, hhead, har⟩ := B.head
  have hbd := B.bind qual doc pm an (.ref cda) ct cc (.ref x) [v] rfl
  rw [eB] at ho hbd
  have S := B.sc
  generalize L2.defScope st = sc at ho S hbd
  have fne : f ≠ "self" := by
    have z := B.nd
    rw [List.nodup_cons] at z
    exact fun e => z.1 (by rw [e]; exact List.mem_cons_self ..)
  have hb1 : (([(("self" : Str), Value.ref x), (f, v)]).reverse.lookup ("self" : Str)) = some (.ref x) := by
    show List.lookup ("self" : Str) [(f, v), (("self" : Str), Value.ref x)] = _
    have z : (("self" : Str) == f) = false := by simpa using fun e => fne e.symm
    simp [List.lookup, z]
  have hb2 : (([(("self" : Str), Value.ref x), (f, v)]).reverse.lookup f) = some v := by
    show List.lookup f [(f, v), (("self" : Str), Value.ref x)] = _
    simp [List.lookup]
  refine ks_codeAny_call_defAt (binds := [("self", .ref x), (f, v)]) hroom (X _ _ ho) rfl hlim (codeRec_of X hcd) rfl (.of_eq hbd) S.nocell ?_ (fun h₁ hns hk₁ => ?_) S.co S.gen S.kind
  · intro y hy
    rcases List.mem_cons.mp hy with rfl | hy
    · exact S.self
    · rcases List.mem_cons.mp hy with rfl | hy
      · exact S.fld f (by simp)
      · cases hy
  have X₁ : K.In h₁ := X.keeps hk₁
  have hx₁ := hk₁ _ _ hx
  obtain ⟨mb, hb3, hb4⟩ := hb
  refine x_super T S X₁ (hg.keeps hk₁) ⟨mb, hb3.keeps hk₁, hb4⟩ hns (by rw [har]; exact hb1) (by rw [har]; exact S.self) hl hx₁ ho hhead hcode hvs hfile hcell (fun h2 t2 t1 kk2 hx2 => ?_)
  have hLx : s.heap.objs.size ≠ x := Nat.ne_of_gt (Heap.lt_size hx)
  have X2 : K.In h2 := fun b o e => kk2 b o (fun z => by rw [z, hnx] at e; cases e) (X₁ b o e)
  have hns2 : h2.Ns s.heap.objs.size (fun y => [(("self" : Str), Value.ref x), (f, v)].reverse.lookup y) := by
    obtain ⟨oL, es, ep, e1, r⟩ := hns
    exact ⟨oL, es, ep, kk2 _ _ hLx e1, r⟩
  refine wpAny_execs_cons (x_set T S X2 hns2 hb1 (by simp) hb2 (B.dbg f (by simp)) (ox := excO C t1) (od := none) ⟨hx2, rfl, rfl, trivial⟩ ?_)
  refine exc_osa X2 hx2 hcl (show refsVE (.ref C :: bm) = true from hbm) rfl noF (fun h3 tk3 dx kk3 dn dne hx3 hn3 => ?_)
  show wpAny _ _ (execs _ _) _ _ _
  have z2 : s.heap.objs.size < h2.objs.size := hns2.lt
  exact wpAny_execs_nil (hq h3 tk3 dx ⟨fun b o hb e => kk3 b o hb (kk2 b o hb (hk₁ b o e)), ⟨t1, hx3⟩, Nat.le_of_lt (Nat.lt_of_lt_of_le z2 dn), dne, hn3⟩)
theorem x_init2 {s : Shared} {x C fI t0 : Addr} {qual nm2 f f2 : Str} {st : Stmt} {v v2 : Value} {R : Result → Shared → Prop} (T : XCls prog K mg nm2 qual C fI st) (B : XBody st [f, f2]) (noF : findIn K (.ref C) f = some none) (noF2 : findIn K (.ref C) f2 = some none)
    (X : K.In s.heap) (hg : s.heap.Ns mainGlobals mg) (hb : ∃ mb, s.heap.Ns builtinsNs mb ∧ ∀ x : Str, x ≠ "__name__" → mb x = bootBuiltins x) (hlim : s.heap.NoLimit) (hx : s.heap.get? x = some (excO C t0)) (hnx : K.lookup x = none) (hgx : x ≠ mainGlobals) (hbx : x ≠ builtinsNs) (hroom : A.depth < recursionLimit)
    (hq : ∀ h' tk dx, XEnd s.heap h' x C dx (fun y => if y = f2 then some v2 else if y = f then some v else none) → R (.ok (.ret .none)) { s with heap := h', toks := tk }) :
    codeAny (model prog w) A (.call (.ref fI) ⟨[.ref x, v, v2], []⟩) R s := by
  obtain ⟨oc, od, doc, pm, an, ct, osl, cda, cc, ccl, cl, cdd, cld, ccs, csl, vs, file, tf, ho, hcd, hcode, hvs, hfile, hcell⟩ := T.fn
  obtain ⟨nm, q, N, bs, bm, sn, sub, ab, col, dd, k0, k1, k2, k3, k5, hC, hbm⟩ := T.cls
  have hcl : clsIn K C = some { name := nm, bases := bs, mro := .ref C :: bm, ns := N, qualname := q, hasDict := true, slotNames := sn, subclasses := sub, abstract := ab, collection := col, hasDel := false } := by unfold clsIn; rw [hC] <;> rfl
  obtain ⟨msg, j, p0, p1, p2, p3, p4, p5, sets, hl, eB, eS⟩ := B.ex
  obtain ⟨q1, q2, q3, q4, r1, r2, r3, r4, rfl⟩ : ∃ q1 q2 q3 q4 r1 r2 r3 r4, sets = [xSet f q1 q2 q3 q4, xSet f2 r1 r2 r3 r4] := by
    rcases eS with ⟨f', q1, q2, q3, q4, e1, e2⟩ | ⟨f', f2', q1, q2, q3, q4, r1, r2, r3, r4, e1, e2⟩
    · cases e1
    · cases e1
      exact ⟨q1, q2, q3, q4, r1, r2, r3, r4, e2⟩
  obtain ⟨ar, hhead, har⟩ := B.head
  have hbd := B.bind qual doc pm an (.ref cda) ct cc (.ref x) [v, v2] rfl
  rw [eB] at ho hbd
  have S := B.sc
  generalize L2.defScope st = sc at ho S hbd
  have fne : f ≠ "self" ∧ f2 ≠ "self" ∧ f ≠ f2 := by
    have z := B.nd
    rw [List.nodup_cons, List.nodup_cons] at z
    exact ⟨fun e => z.1 (by rw [e]; simp), fun e => z.1 (by rw [e]; simp), fun e => z.2.1 (by rw [e]; simp)⟩
  have hb1 : (([(("self" : Str), Value.ref x), (f, v), (f2, v2)]).reverse.lookup ("self" : Str)) = some (.ref x) := by
    show List.lookup ("self" : Str) [(f2, v2), (f, v), (("self" : Str), Value.ref x)] = _
    have z : (("self" : Str) == f) = false := by simpa using fun e => fne.1 e.symm
    have z2 : (("self" : Str) == f2) = false := by simpa using fun e => fne.2.1 e.symm
    simp [List.lookup, z, z2]
  have hb2 : (([(("self" : Str), Value.ref x), (f, v), (f2, v2)]).reverse.lookup f) = some v := by
    show List.lookup f [(f2, v2), (f, v), (("self" : Str), Value.ref x)] = _
    have z : (f == f2) = false := by simpa using fne.2.2
    simp [List.lookup, z]
  have hb2' : (([(("self" : Str), Value.ref x), (f, v), (f2, v2)]).reverse.lookup f2) = some v2 := by
    show List.lookup f2 [(f2, v2), (f, v), (("self" : Str), Value.ref x)] = _
    simp [List.lookup]
  refine ks_codeAny_call_defAt (binds := [("self", .ref x), (f, v), (f2, v2)]) hroom (X _ _ ho) rfl hlim (codeRec_of X hcd) rfl (.of_eq hbd) S.nocell ?_ (fun h₁ hns hk₁ => ?_) S.co S.gen S.kind
  · intro y hy
    rcases List.mem_cons.mp hy with rfl | hy
    · exact S.self
    · rcases List.mem_cons.mp hy with rfl | hy
      · exact S.fld f (by simp)
      · rcases List.mem_cons.mp hy with rfl | hy
        · exact S.fld f2 (by simp)
        · cases hy
  have X₁ : K.In h₁ := X.keeps hk₁
  have hx₁ := hk₁ _ _ hx
  obtain ⟨mb, hb3, hb4⟩ := hb
  refine x_super T S X₁ (hg.keeps hk₁) ⟨mb, hb3.keeps hk₁, hb4⟩ hns (by rw [har]; exact hb1) (by rw [har]; exact S.self) hl hx₁ ho hhead hcode hvs hfile hcell (fun h2 t2 t1 kk2 hx2 => ?_)
  have hLx : s.heap.objs.size ≠ x := Nat.ne_of_gt (Heap.lt_size hx)
  have X2 : K.In h2 := fun b o e => kk2 b o (fun z => by rw [z, hnx] at e; cases e) (X₁ b o e)
  have hns2 : h2.Ns s.heap.objs.size (fun y => [(("self" : Str), Value.ref x), (f, v), (f2, v2)].reverse.lookup y) := by
    obtain ⟨oL, es, ep, e1, r⟩ := hns
    exact ⟨oL, es, ep, kk2 _ _ hLx e1, r⟩
  refine wpAny_execs_cons (x_set T S X2 hns2 hb1 (by simp) hb2 (B.dbg f (by simp)) (ox := excO C t1) (od := none) ⟨hx2, rfl, rfl, trivial⟩ ?_)
  refine exc_osa X2 hx2 hcl (show refsVE (.ref C :: bm) = true from hbm) rfl noF (fun h3 tk3 dx kk3 dn dne hx3 hn3 => ?_)
  show wpAny _ _ (execs _ _) _ _ _
  have z2 : s.heap.objs.size < h2.objs.size := hns2.lt
  have X3 : K.In h3 := fun b o e => kk3 b o (fun z => by rw [z, hnx] at e; cases e) (X2 b o e)
  have hns3 : h3.Ns s.heap.objs.size (fun y => [(("self" : Str), Value.ref x), (f, v), (f2, v2)].reverse.lookup y) := by
    obtain ⟨oL, es, ep, e1, r⟩ := hns2
    exact ⟨oL, es, ep, kk3 _ _ hLx e1, r⟩
  have W1 : Within (fun y => if y = f then some v else none) [f] := Within.cons f v Within.nil
  obtain ⟨oD, esD, epD, hoD, hdD, _⟩ := hn3.count W1
  refine wpAny_execs_cons (x_set T S X3 hns3 hb1 (by simp) hb2' (B.dbg f2 (by simp)) (ox := { cls := .ref C, dict := some dx, data := .fields #[.ref t1, .none, .none, .none, .bool false, .none] }) (od := some oD) ⟨hx3, rfl, rfl, hoD⟩ ?_)
  refine PySem.OEX.osa_old X3 hx3 hn3 W1 (by show 1 ≤ 1000; decide) hcl (show refsVE (.ref C :: bm) = true from hbm) rfl noF2 (fun h4 tk4 kk4 hn4 => ?_)
  show wpAny _ _ (execs _ _) _ _ _
  refine wpAny_execs_nil (hq h4 tk4 dx ⟨fun b o hb e => ?_, ⟨t1, kk4 _ _ (Ne.symm dne) hx3⟩, Nat.le_of_lt (Nat.lt_of_lt_of_le z2 dn), dne, hn4⟩)
  have hbd' : b ≠ dx := fun z => by
    have y := Heap.lt_size e
    rw [z] at y
    exact absurd (Nat.lt_of_lt_of_le y (Nat.le_trans (Nat.le_of_lt z2) dn)) (Nat.lt_irrefl _)
  exact kk4 b o hbd' (kk3 b o hb (kk2 b o hb (hk₁ b o e)))

/-- a made error -/
structure XMade (h h' : Heap) (e C d : Addr) (m : Str → Option Value) : Prop where
  keep : ∀ b o, h.get? b = some o → h'.get? b = some o
  new : h.objs.size ≤ e
  obj : ∃ oe vs, h'.get? e = some oe ∧ oe.cls = .ref C ∧ oe.dict = some d ∧ oe.data = .fields vs ∧ vs[1]? = some .none ∧ vs[2]? = some .none
  dbig : h.objs.size ≤ d
  dne : d ≠ e
  ns : h'.Ns1 d m
theorem x_made {s : Shared} {C fI : Addr} {qual nm2 : Str} {fs : List Str} {st : Stmt} {vs : List Value} {m : Str → Option Value} {R : Result → Shared → Prop} (T : XCls prog K mg nm2 qual C fI st)
    (hv : (∃ f v, fs = [f] ∧ vs = [v] ∧ m = fun y => if y = f then some v else none) ∨ ∃ f f2 v v2, fs = [f, f2] ∧ vs = [v, v2] ∧ m = fun y => if y = f2 then some v2 else if y = f then some v else none)
    (B : XBody st fs) (noF : ∀ f ∈ fs, findIn K (.ref C) f = some none)
    (X : K.In s.heap) (hg : s.heap.Ns mainGlobals mg) (hb : ∃ mb, s.heap.Ns builtinsNs mb ∧ ∀ x : Str, x ≠ "__name__" → mb x = bootBuiltins x) (hlim : s.heap.NoLimit) (hroom : A.depth + 1 < recursionLimit)
    (hq : ∀ h' tk e d, XMade s.heap h' e C d m → R (.ok (.ret (.ref e))) { s with heap := h', toks := tk }) :
    codeAny (model prog w) A (.call (.ref C) ⟨vs, []⟩) R s := by
  obtain ⟨nm, q, N, bs, bm, sn, sub, ab, col, dd, k0, k1, k2, k3, k5, hC, hbm⟩ := T.cls
  obtain ⟨hp, g, dr, tk, os⟩ := s
  have lv : vs.length ≤ sizeLine := by
    rw [sizeLine_eq]
    rcases hv with ⟨f, v, _, rfl, _⟩ | ⟨f, f2, v, v2, _, rfl, _⟩
    · exact (by decide : 1 ≤ 16777216)
    · exact (by decide : 2 ≤ 16777216)
  have k : ∀ b o, hp.get? b = some o → ((hp.push (kdv_tup vs)).push (excO C hp.objs.size)).get? b = some o := fun b o e => Heap.get?_push_of_some _ (Heap.get?_push_of_some _ e)
  have hget : ((hp.push (kdv_tup vs)).push (excO C hp.objs.size)).get? (hp.objs.size + 1) = some (excO C hp.objs.size) := by
    have z := Heap.get?_push_size (hp.push (kdv_tup vs)) (o := excO C hp.objs.size) rfl
    rwa [Heap.size_push] at z
  have beyond : ∀ {o}, hp.get? (hp.objs.size + 1) = some o → False := fun z => absurd (Nat.lt_of_succ_lt (Heap.lt_size z)) (Nat.lt_irrefl _)
  have hnx : K.lookup (hp.objs.size + 1) = none := by
    cases e : K.lookup (hp.objs.size + 1) with
    | none => rfl
    | some o => exact (beyond (X _ _ e)).elim
  have ngx : hp.objs.size + 1 ≠ mainGlobals := fun z => by
    have y := hg.lt
    rw [← z] at y
    exact absurd (Nat.lt_of_succ_lt y) (Nat.lt_irrefl _)
  obtain ⟨mb, hb1, hb2⟩ := hb
  have nbx : hp.objs.size + 1 ≠ builtinsNs := fun z => by
    have y := hb1.lt
    rw [← z] at y
    exact absurd (Nat.lt_of_succ_lt y) (Nat.lt_irrefl _)
  refine call_own F.excBase_ValueError (fun X => refsVE_contains X bm hbm) (X _ _ hC) (looks_findIn X T.iC) (fun self => bind_fn X self T.tC) lv ?_
  have fin : ∀ h' tk' dx, XEnd ((hp.push (kdv_tup vs)).push (excO C hp.objs.size)) h' (hp.objs.size + 1) C dx m → InitBack (hp.objs.size + 1) R (.ok (.ret .none)) ⟨h', g, dr, tk', os⟩ := fun h' tk' dx ⟨k', ⟨t1, hx⟩, dn, dne, hns⟩ => by
    have old : ∀ b o, hp.get? b = some o → h'.get? b = some o := fun b o e => k' b o (Nat.ne_of_lt (Nat.lt_succ_of_lt (Heap.lt_size e))) (k b o e)
    have z : hp.objs.size + 1 + 1 ≤ dx := by
      have y := dn
      rw [Heap.size_push, Heap.size_push] at y
      exact y
    exact ⟨rfl, hq h' tk' (hp.objs.size + 1) dx ⟨old, Nat.le_succ _, ⟨_, _, hx, rfl, rfl, rfl, rfl, rfl⟩, Nat.le_trans (Nat.le_trans (Nat.le_succ _) (Nat.le_succ _)) z, dne, hns⟩⟩
  rcases hv with ⟨f, v, rfl, rfl, rfl⟩ | ⟨f, f2, v, v2, rfl, rfl, rfl⟩
  · exact codeAny_mono (x_init1 (s := ⟨(hp.push (kdv_tup [v])).push (excO C hp.objs.size), g, dr, tk, os⟩) T B (noF f (by simp)) (X.keeps k) (hg.keeps k) ⟨mb, hb1.keeps k, hb2⟩ (hlim.keeps k) hget hnx ngx nbx hroom (R := InitBack (hp.objs.size + 1) R) fun h' tk' dx x => fin h' tk' dx x) fun r s2 z => z
  · exact codeAny_mono (x_init2 (s := ⟨(hp.push (kdv_tup [v, v2])).push (excO C hp.objs.size), g, dr, tk, os⟩) T B (noF f (by simp)) (noF f2 (by simp)) (X.keeps k) (hg.keeps k) ⟨mb, hb1.keeps k, hb2⟩ (hlim.keeps k) hget hnx ngx nbx hroom (R := InitBack (hp.objs.size + 1) R) fun h' tk' dx x => fin h' tk' dx x) fun r s2 z => z
end
end KB

namespace KB
open PySem PySem.Spec PyProof.Rows L2
theorem relO1 {v : V} {u : Value} {f : Str} (r : RelV v u) (g : Str) : RelO (List.lookup g [(f, v)]) (if g = f then some u else none) := by
  by_cases h : g = f
  · subst h
    rw [if_pos rfl]
    have q : List.lookup g [(g, v)] = some v := by simp [List.lookup]
    rw [q]
    exact r
  · rw [if_neg h]
    have q : List.lookup g [(f, v)] = none := by
      have z : (g == f) = false := by simpa using h
      simp [List.lookup, z]
    rw [q]
    trivial
theorem relO2 {v v2 : V} {u u2 : Value} {f f2 : Str} (hne : f ≠ f2) (r : RelV v u) (r2 : RelV v2 u2) (g : Str) : RelO (List.lookup g [(f, v), (f2, v2)]) (if g = f2 then some u2 else if g = f then some u else none) := by
  by_cases h2 : g = f2
  · subst h2
    rw [if_pos rfl]
    have z : (g == f) = false := by simpa using fun e => hne e.symm
    have q : List.lookup g [(f, v), (g, v2)] = some v2 := by simp [List.lookup, z]
    rw [q]
    exact r2
  · rw [if_neg h2]
    have z2 : (g == f2) = false := by simpa using h2
    by_cases h : g = f
    · subst h
      rw [if_pos rfl]
      have q : List.lookup g [(g, v), (f2, v2)] = some v := by simp [List.lookup]
      rw [q]
      exact r
    · rw [if_neg h]
      have z : (g == f) = false := by simpa using h
      have q : List.lookup g [(f, v), (f2, v2)] = none := by simp [List.lookup, z, z2]
      rw [q]
      trivial
/-- the error's class x, at C, with the fields fs -/
structure XErr (P : Program) (K : PySem.W.Frag) (mg : Str → Option Value) (x : Str) (C : Addr) (fs : List Str) : Prop where
  ex : ∃ (qual : Str) (fI : Addr) (st : Stmt), XCls P K mg x qual C fI st ∧ XBody st fs ∧ ∀ f ∈ fs, PySem.W.findIn K (.ref C) f = some none
theorem XErr.te {P : Program} {K : PySem.W.Frag} {mg : Str → Option Value} {x : Str} {C : Addr} {fs : List Str} (T : XErr P K mg x C fs) : PySem.W.exmOne K (.ref C) (.ref C) = some true := by
  obtain ⟨_, _, _, h, _⟩ := T.ex
  exact h.te
theorem XErr.gC {P : Program} {K : PySem.W.Frag} {mg : Str → Option Value} {x : Str} {C : Addr} {fs : List Str} (T : XErr P K mg x C fs) : mg x = some (.ref C) := by
  obtain ⟨_, _, _, h, _⟩ := T.ex
  exact h.gC
theorem XErr.xf {P : Program} {K : PySem.W.Frag} {mg : Str → Option Value} {x : Str} {C : Addr} {fs : List Str} (T : XErr P K mg x C fs) : XfC K C := by
  obtain ⟨_, _, _, h, _⟩ := T.ex
  exact ⟨h.ga, h.gg, h.exC, h.hdC⟩
theorem XErr.no {P : Program} {K : PySem.W.Frag} {mg : Str → Option Value} {x : Str} {C : Addr} {fs : List Str} (T : XErr P K mg x C fs) {f : Str} (h : f ∈ fs) : PySem.W.findIn K (.ref C) f = some none := by
  obtain ⟨_, _, _, _, _, z⟩ := T.ex
  exact z f h
/-- X(e, ..) -/
def tMkX (C : Addr) (fs : List Str) (ta : TA) : L2.St → Hp → XK → Prop := fun σ H Q => ta σ H fun vs H1 => vs.length = fs.length ∧ ∀ d, H1 d = none → Q (.ref C) (some d) (upd H1 d (.xd (fs.zip vs)))
section
variable {X : Cx} {C : Addr} {fs : List Str} {x : Str}
theorem pmk_x {a : Expr} {as : List Expr} {ta : TA} {p pos : Pos} {k : Nat} (T : XErr X.prog X.K X.mg x C fs) (hr : Room k X.A) (ha : PA X (a :: as) ta) (hg : Gl X x := by rfl) (hdb : (x == ("__debug__" : Str)) = false := by decide)
    (he : starEach (a :: as) X.env = (false, eval a X.env) :: starEach as X.env := by rfl) (hpl : (backTo pos (starEach as X.env)).any (·.1) = false := by rfl) :
    L2N.PMk X (.Call (.Name x p) (a :: as) [] pos) (tMkX C fs ta) := by
  intro pins s σ H Q I h
  obtain ⟨qual, fI, st, T1, B, nof⟩ := T.ex
  refine wpAny_Call_Name_kw (ld_glob I hg T1.gC ?_ hdb)
  refine PySem.W.callWith_K (h₀ := X.base) I.ok.mod.kin T1.kC (thn (ha.run pos pins s σ H _ I h) fun us s1 hh => ?_) he hpl
  obtain ⟨vs, H1, I1, r1, lv, q1⟩ := hh
  refine ⟨I1.kIn, ?_⟩
  show wpAny _ _ (call (.ref C) us) _ _ _
  have hlim := I1.nolimit
  obtain ⟨mb, b1, b2⟩ := I1.mod.blt
  have hm : ∃ m : Str → Option Value, ((∃ f v, fs = [f] ∧ us = [v] ∧ m = fun y => if y = f then some v else none) ∨ ∃ f f2 v v2, fs = [f, f2] ∧ us = [v, v2] ∧ m = fun y => if y = f2 then some v2 else if y = f then some v else none) ∧
      ∀ g, RelO (List.lookup g (fs.zip vs)) (m g) := by
    obtain ⟨msg, j, p0, p1, p2, p3, p4, p5, sets, hl, eB, eS⟩ := B.ex
    rcases eS with ⟨f, q1, q2, q3, q4, rfl, _⟩ | ⟨f, f2, q1, q2, q3, q4, r1', r2, r3, r4, rfl, _⟩
    · cases r1 with
      | nil => cases lv
      | cons rv rn =>
        cases rn with
        | nil => exact ⟨_, .inl ⟨f, _, rfl, rfl, rfl⟩, fun g => relO1 rv g⟩
        | cons _ _ => simp at lv
    · have fne : f ≠ f2 := by
        have z := B.nd
        rw [List.nodup_cons, List.nodup_cons] at z
        exact fun e => z.2.1 (by rw [e]; simp)
      cases r1 with
      | nil => cases lv
      | cons rv rn =>
        cases rn with
        | nil => simp at lv
        | cons rv2 rn2 =>
          cases rn2 with
          | nil => exact ⟨_, .inr ⟨f, f2, _, _, rfl, rfl, rfl⟩, fun g => relO2 fne rv rv2 g⟩
          | cons _ _ => simp at lv
  obtain ⟨m, hv, hrel⟩ := hm
  have kI := I1.kIn
  have gI := I1.mod.glob.keeps I1.bk
  have bI := b1.keeps I1.bk
  obtain ⟨hp, g, dr, tk, os⟩ := s1
  refine wpAny_call (x_made T1 hv B nof kI gI ⟨mb, bI, b2⟩ hlim (by have := hr.dp; omega) fun h' tk' e d M => ?_)
  show L2N.MkP X pins σ Q (.ref e) ⟨h', g, dr, tk', os⟩
  obtain ⟨oe, fv, hoe, hc, hd, hdat, h1, h2⟩ := M.obj
  have hns := M.ns
  obtain ⟨G', g1, g2⟩ := restrict h' fun b => decide (b ≠ e)
  have gk : ∀ b, b ≠ e → G'.get? b = h'.get? b := fun b hb => g1 b (decide_eq_true hb)
  have ge : G'.get? e = none := g2 e (by simp)
  have old : ∀ b o, hp.get? b = some o → G'.get? b = some o := fun b o q => (gk b (Nat.ne_of_lt (Nat.lt_of_lt_of_le (Heap.lt_size q) M.new))).trans (M.keep b o q)
  have ob : ObjOk X.prog X.w (upd H1 d (.xd (fs.zip vs))) G' d (.xd (fs.zip vs)) := ⟨_, hns.at (fun o q => (gk d M.dne).trans q), fun f => hrel f⟩
  have J : Inv X pins σ (upd H1 d (.xd (fs.zip vs))) ⟨G', g, dr, tk', os⟩ := I1.laid (t' := tk') old M.dbig ob
  refine ⟨e, oe, fv, ⟨G', g, dr, tk', os⟩, _, .ref C, some d, rfl, J, fun b o q => ?_, ge, hoe, ⟨hc, hd, ?_⟩, hdat, h1, ?_, rfl, I1.bare, raises_own T1.exC T1.tyC, q1 d (I1.hok.fresh M.dbig)⟩
  · by_cases hb : b = e
    · have q' : G'.get? b = some o := q
      rw [hb, ge] at q'; cases q'
    · exact (gk b hb).symm.trans q
  · intro vs' e'
    rw [hdat] at e'
    cases e'
    exact h2
  · rw [upd_ne (Ne.symm M.dne)]
    exact I1.hok.fresh M.new
end
end KB

/-! operators of own classes -/
namespace KB
open PySem PySem.W PySem.Calls PyProof.Rows
theorem ne_bind (self : Value) : bindSpecial (.builtin "object.__ne__") self = pure (.builtin "object.__ne__", [self]) := F.slot_object_ne.bind self
section
variable {prog : Program} {w : World} {A : Around} {E : Value → Shared → Prop} {s : Shared} {K : Frag} {x C f : Addr} {ox : Obj} {od : Option Obj} {b tb : Value}
/-- object.__ne__ asks the own __eq__ -/
theorem ne_own {Q : Value → Shared → Prop} (hu : A.units + 1 < cLine) (X : K.In s.heap) (I : InstAt s.heap x ox C od) (hb : Looks (model prog w) s.heap (typeOf b) tb) (hn : notFirst K C tb = true)
    (hs : findIn K (.ref C) "__ne__" = some (some (.builtin "object.__ne__"))) (he : findIn K (.ref C) "__eq__" = some (some (.ref f))) (hf : isFn K (.ref f) = true) (top : mroIn K C (.type "object") = some true)
    (h : wpAny (model prog w) A.in1 (call (.ref f) [.ref x, b]) (fun v s' => ∃ k, v = .bool k ∧ Q (.bool (!k)) s') E s) : wpAny (model prog w) A (richCompare .NotEq (.ref x) b) Q E s := by
  have sub : Looks (model prog w) s.heap (isInstance (.ref x) (.type "object")) true := I.type.andThen (looks_mroIn X top)
  have inner : wpAny (model prog w) A (call (.builtin "object.__ne__") ([.ref x] ++ [b])) (fun v s' => Q v s' ∧ v ≠ .notImplemented) E s := by
    refine wpAny_call (codeAny_call_builtin F.slot_object_ne.plain F.cmpEntry_ne (@check_slot (model prog w) _ _ s "object.__ne__" "object" "__ne__" (.ref x) [b] [] _ F.cmpKind_ne F.cmpSplit_ne sub (F.cmpArgs_ne _ _) ?_))
    have go : wpAny (model prog w) A.in1 (callSpecialIfBound? (.ref x) "__eq__" [b]) (fun r s' => ∃ k, r = some (.bool k) ∧ Q (.bool (!k)) s') E s := by
      refine ifBound_K X I he hf (wpAny_mono h (fun v s' hv => ?_) fun _ _ e => e)
      obtain ⟨k, rfl, q⟩ := hv
      exact ⟨k, rfl, q⟩
    unfold Builtin.«object.__ne__»
    refine wpAny_bind (wpAny_of_eq (a := ((Value.ref x : Value), [b])) (by first | rfl | (simp only [Builtin.slotArgs]; rfl)) ?_)
    refine wpAny_bind (wpAny_cRoomFor hu ?_)
    refine wpAny_bind (wpAny_mono go (fun r s' hr => ?_) fun _ _ e => e)
    obtain ⟨k, rfl, q⟩ := hr
    refine wpAny_bind (wpAny_truthy_bool ?_)
    exact wpAny_pure ⟨q, fun z => by cases z⟩
  have one : wpAny (model prog w) A (tryCompare (.ref x) (cmpInfo .NotEq).2.1 b) (fun r s' => ∃ v, r = some v ∧ Q v s') E s := by
    have bound : wpAny (model prog w) A (callSpecialIfBound? (.ref x) "__ne__" [b]) (fun r s' => ∃ v, r = some v ∧ Q v s' ∧ v ≠ .notImplemented) E s := by
      simp only [callSpecialIfBound?, bindSpecialIfBound?]
      refine wpAny_holding (wpAny_bind (wpAny_bind (wpAny_bind (I.type.here ((looks_findIn X hs).here ?_)))))
      refine wpAny_bind (wpAny_askSetting (wpAny_ite ?_))
      have fin : wpAny (model prog w) A (call (.builtin "object.__ne__") ([.ref x] ++ [b]) >>= fun v => pure (some v)) (fun r s' => ∃ v, r = some v ∧ Q v s' ∧ v ≠ .notImplemented) E s :=
        wpAny_bind (wpAny_mono inner (fun v s' h' => wpAny_pure ⟨v, rfl, h'⟩) fun _ _ h' => h')
      split
      · rw [ne_bind]
        exact wpAny_bind (wpAny_pure (wpAny_pure (by exact fin)))
      · refine wpAny_tryCatch ?_
        rw [ne_bind]
        exact wpAny_bind (wpAny_pure (wpAny_pure (by exact fin)))
    unfold tryCompare
    refine wpAny_bind (wpAny_mono bound (fun r s' hr => ?_) fun _ _ e => e)
    obtain ⟨v, rfl, q, nn⟩ := hr
    cases v <;> first | exact absurd rfl nn | exact wpAny_pure ⟨_, rfl, q⟩
  unfold richCompare
  simp only [oneThing_ref]
  refine wpAny_holding (wpAny_bind (wpAny_cRoomFor (Nat.lt_of_succ_lt hu) ?_))
  refine wpAny_bind (I.type.here (wpAny_bind (hb.here ?_)))
  split
  · rename_i q
    have e : subIn K tb (.ref C) = some false := by
      rcases Bool.or_eq_true_iff.mp hn with e | e
      · rw [beq_iff_eq.mp e] at q; simp at q
      · exact beq_iff_eq.mp e
    refine wpAny_bind ((looks_subIn X e).here ?_)
    simp only [Bool.false_eq_true, if_false]
    refine wpAny_bind (wpAny_mono one (fun r s' z => ?_) fun _ _ e => e)
    obtain ⟨v, rfl, hq⟩ := z
    exact wpAny_pure hq
  · refine wpAny_bind (wpAny_pure ?_)
    simp only [Bool.false_eq_true, if_false]
    refine wpAny_bind (wpAny_mono one (fun r s' z => ?_) fun _ _ e => e)
    obtain ⟨v, rfl, hq⟩ := z
    exact wpAny_pure hq
end
end KB
namespace KB
open PySem PySem.Spec PyProof.Rows L2
section
variable {X : Cx} {k j : Nat} {C : Addr} {m : Str} {sp : Sp}
/-- what an operator of the class at C wants of the class -/
structure OpC (K : PySem.W.Frag) (C : Addr) : Prop where
  first : PySem.W.selfFirst K C = true
  ne : PySem.W.findIn K (.ref C) "__ne__" = some (some (.builtin "object.__ne__"))
  top : PySem.W.mroIn K C (.type "object") = some true
def rBin (C : Addr) (sp : Sp) : R2 := fun x y H Q => ∃ a dx fs b dy gs, x = .ref a ∧ y = .ref b ∧ H a = some (.ins C dx fs) ∧ H b = some (.ins C dy gs) ∧ sp [x, y] H Q E0
theorem op_bin {op : Operator} (o : OpC X.K C) (c : Met X.prog X.w X.K X.mg X.base k C m sp) (hr : Room j X.A) (hk : k ≤ j) (hm : PySem.dunder op.info.2 = m := by rfl) : OpR X (binaryOp op) (rBin C sp) := by
  intro pins s σ H x y v u Q I rx ry h
  obtain ⟨f, fd, ps, hc, hme, F, b⟩ := c.ex
  obtain ⟨a, dx, fs, b', dy, gs, rfl, rfl, ha, hb, q⟩ := h
  cases (show v = Value.ref a from rx)
  cases (show u = Value.ref b' from ry)
  obtain ⟨mA, O, _⟩ := ins_get I.hok ha
  obtain ⟨od, J, _⟩ := O.look
  obtain ⟨mB, O', _⟩ := ins_get I.hok hb
  obtain ⟨od', J', _⟩ := O'.look
  obtain ⟨m', hF⟩ := I.fr
  have hs : PySem.W.findIn X.K (.ref C) (PySem.dunder op.info.2) = some (some (.ref f)) := by rw [hm]; exact hme.at_
  refine PySem.W.binop_K hF I.ok.mod.kin J J'.type o.first hs hme.fn ?_
  refine wpAny_mono (run_fn (us := [.ref a, .ref b']) (vs := [.ref a, .ref b']) F (hr.mono hk) b .nil pass0 I (.cons rfl (.cons rfl .nil)) q) (fun w s' z => ?_) fun _ _ x => x
  obtain ⟨z', H', I', rz, qz⟩ := z
  exact SlX.cmpback rz ⟨z', H', I', rz, qz⟩
/-- x == y, x an instance of C, y anything whose type is known -/
def rEqO (K : PySem.W.Frag) (C : Addr) (sp : Sp) : R2 := fun x y H Q => ∃ a dx fs t, x = .ref a ∧ H a = some (.ins C dx fs) ∧ TyX K H y t ∧ PySem.W.notFirst K C t = true ∧ sp [x, y] H Q E0
theorem op_eqO (c : Met X.prog X.w X.K X.mg X.base k C "__eq__" sp) (hr : Room j X.A) (hk : k ≤ j) : OpR X (compareOp .Eq) (rEqO X.K C sp) := by
  intro pins s σ H x y v u Q I rx ry h
  obtain ⟨f, fd, ps, hc, hme, F, b⟩ := c.ex
  obtain ⟨a, dx, fs, t, rfl, ha, ty, hn, q⟩ := h
  cases (show v = Value.ref a from rx)
  obtain ⟨mA, O, _⟩ := ins_get I.hok ha
  obtain ⟨od, J, _⟩ := O.look
  obtain ⟨m', hF⟩ := I.fr
  obtain ⟨P, Z, p, hne⟩ := kit_of I ry ty
  refine PySem.W.cmp_ofEq ?_
  refine PySem.W.cmp_K (op := .Eq) (tb := t) hr.units0 hF I.ok.mod.kin J (Z.ty _ _ I.kIn p) hn hme.at_ hme.fn ?_
  refine wpAny_mono (run_fn (us := [.ref a, u]) (vs := [.ref a, y]) F (hr.mono hk) b .nil pass0 I (.cons rfl (.cons ry .nil)) q) (fun w s' z => ?_) fun _ _ x => x
  obtain ⟨z', H', I', rz, qz⟩ := z
  exact SlX.cmpback rz ⟨z', H', I', rz, qz⟩
/-- x != y likewise -/
def rNeO (K : PySem.W.Frag) (C : Addr) (sp : Sp) : R2 := fun x y H Q => ∃ a dx fs t, x = .ref a ∧ H a = some (.ins C dx fs) ∧ TyX K H y t ∧ PySem.W.notFirst K C t = true ∧ sp [x, y] H (fun v H' => ∃ k, v = .bl k ∧ Q (.bl (!k)) H') E0
theorem op_neO (o : OpC X.K C) (c : Met X.prog X.w X.K X.mg X.base k C "__eq__" sp) (hr : Room j X.A) (hk : k + 1 ≤ j) : OpR X (compareOp .NotEq) (rNeO X.K C sp) := by
  intro pins s σ H x y v u Q I rx ry h
  obtain ⟨f, fd, ps, hc, hme, F, b⟩ := c.ex
  obtain ⟨a, dx, fs, t, rfl, ha, ty, hn, q⟩ := h
  cases (show v = Value.ref a from rx)
  obtain ⟨mA, O, _⟩ := ins_get I.hok ha
  obtain ⟨od, J, _⟩ := O.look
  obtain ⟨P, Z, p, hne⟩ := kit_of I ry ty
  refine PySem.W.cmp_ofNotEq ?_
  have l2 : ([V.ref a, y] : List V).length = ps.length := F.len _ _ _ _ q
  have b2 := b s [Value.ref a, u] I.kIn (by rw [List.append_nil]; exact l2)
  rw [List.append_nil] at b2
  refine ne_own (hu_of hr) I.kIn J (Z.ty _ _ I.kIn p) hn o.ne hme.at_ hme.fn o.top ?_
  refine wpAny_call (codeAny_mono (F.run X.A.in1 X.stack s H ⟨[.ref a, u], []⟩ [.ref a, u] [.ref a, y] _ E0 (hr.mono hk).in1 I.env0.in1 b2 (.cons rfl (.cons ry .nil)) q) fun r s' hq => ?_)
  cases r with
  | error e => exact pass0 pins σ H s e s' I hq
  | ok fl =>
    cases fl with
    | ret w =>
      obtain ⟨z, H', I', rz, kk, ez, qz⟩ := I.after hq
      subst ez
      cases (show w = Value.bool kk from rz)
      exact ⟨kk, rfl, .bl (!kk), H', I', rfl, qz⟩
    | next => exact False.elim hq
    | brk => exact False.elim hq
    | cont => exact False.elim hq
end
end KB

/-! defs that may raise: called where nothing is raised, and in a try -/
namespace KB
open PySem PySem.Spec PyProof.Rows L2
theorem passN0 {X : Cx} : Passes (L2N.CX X.prog X.w) X E0 := fun _ _ _ _ _ _ _ h => by
  obtain ⟨_, _, _, _, _, _, _, _, _, _, _, _, z⟩ := h
  exact z.elim
theorem takesN0 {X : Cx} : L2N.Takes X (fun _ _ _ _ => False) := fun _ _ x => by
  obtain ⟨_, _, _, _, _, _, _, _, _, _, _, _, _, _, _, _, z⟩ := x
  exact z.elim
section
variable {P : Program} {w : World} {K : PySem.W.Frag} {mg : Str → Option Value} {base : Heap}
structure CalX (P : Program) (w : World) (K : PySem.W.Frag) (mg : Str → Option Value) (base : Heap) (k : Nat) (x : Str) (sp : Sp) : Prop where
  ex : ∃ (f : Addr) (fd : FuncData) (ps : List Str), FnOk P w K mg base (L2N.CX P w) k f fd ps sp ∧ mg x = some (.ref f) ∧ PySem.W.keepIn K (.ref f) = true ∧ Binds K fd ps []
structure MetX (P : Program) (w : World) (K : PySem.W.Frag) (mg : Str → Option Value) (base : Heap) (k : Nat) (C : Addr) (m : Str) (sp : Sp) : Prop where
  ex : ∃ (f : Addr) (fd : FuncData) (ps : List Str), Cls K C ∧ Meth K C m f ∧ FnOk P w K mg base (L2N.CX P w) k f fd ps sp ∧ Binds K fd ps []
structure MakX (P : Program) (w : World) (K : PySem.W.Frag) (mg : Str → Option Value) (base : Heap) (k : Nat) (x : Str) (C : Addr) (sp : Sp) : Prop where
  ex : ∃ (f : Addr) (fd : FuncData) (ps : List Str), Mk K C f ∧ FnOk P w K mg base (L2N.CX P w) k f fd ps sp ∧ mg x = some (.ref C) ∧ Binds K fd ps []
structure MakXK (P : Program) (w : World) (K : PySem.W.Frag) (mg : Str → Option Value) (base : Heap) (k : Nat) (x : Str) (C : Addr) (ks : List Str) (gV : List V → List V → List V) (sp : Sp) : Prop where
  ex : ∃ (f : Addr) (fd : FuncData) (ps : List Str) (g : List Value → List Value → List Value), Mk K C f ∧ FnOk P w K mg base (L2N.CX P w) k f fd ps sp ∧ mg x = some (.ref C) ∧ KBn K fd ps 1 ks g gV
structure CalXK (P : Program) (w : World) (K : PySem.W.Frag) (mg : Str → Option Value) (base : Heap) (k : Nat) (x : Str) (n : Nat) (ks : List Str) (gV : List V → List V → List V) (sp : Sp) : Prop where
  ex : ∃ (f : Addr) (fd : FuncData) (ps : List Str) (g : List Value → List Value → List Value), FnOk P w K mg base (L2N.CX P w) k f fd ps sp ∧ mg x = some (.ref f) ∧ PySem.W.keepIn K (.ref f) = true ∧ KBn K fd ps n ks g gV
/-- a def that may raise keeps its promise -/
theorem Fun_okN {x qual : Str} {st : Stmt} {f : Addr} {fd : FuncData} {N ps : List Str} {k : Nat} {sp : Sp} (F : Fun K x qual st f fd) (S : FnScope N ps (defScope st)) (len : ∀ vs H Q E, sp vs H Q E → vs.length = ps.length)
    (hbody : ∀ (cdv : Value) (A : Around) (outer : List Env) (s : Shared) (H : Hp) (vs : List V) (Q : VK) (E : XK), Room k (A.deeper (envOfC qual (defScope st) s.heap.objs.size f cdv)) → sp vs H Q E →
      ∃ t, PSs (cxOf (L2N.CX P w) P w K mg base N qual (defScope st) f cdv A outer s H E) (defBody st) t ∧ t { nx := fun _ H' => Q .non H', rt := Q } (start N vs) H) : FnOk P w K mg base (L2N.CX P w) (k + 1) f fd ps sp := by
  obtain ⟨oc, od, kV, doc, pm, an, cdv, ct, osl, rfl, lk, hcd⟩ := F.ex
  exact fn_of lk hcd S len fun A outer s H vs Q E hr hsp => hbody cdv A outer s H vs Q E hr hsp
end
section
variable {X : Cx} {k j n : Nat} {C : Addr} {x m : Str} {sp : Sp} {p pos apos : Pos} {e o : Expr} {es : List Expr} {kws : List Keyword} {ta : TE} {t tk : TA} {ks : List Str} {gV : List V → List V → List V} {W : WX}
theorem pe_x (c : CalX X.prog X.w X.K X.mg X.base k x sp) (hr : Room j X.A) (hk : k ≤ j) (hg : Gl X x) (ha : PA X (e :: es) t)
    (hdb : (x == ("__debug__" : Str)) = false := by decide) (he : starEach (e :: es) X.env = (false, eval e X.env) :: starEach es X.env := by rfl) (hpl : (backTo pos (starEach es X.env)).any (·.1) = false := by rfl) :
    PE X (.Call (.Name x p) (e :: es) [] pos) (tCall sp [] E0 t) := by
  obtain ⟨f, fd, ps, F, hm, kp, b⟩ := c.ex
  exact pe_call F (hr.mono hk) hg hm kp b .nil passN0 ha hdb he hpl
theorem pe_xS (c : CalX X.prog X.w X.K X.mg X.base k x sp) (hr : Room j X.A) (hk : k ≤ j) (hg : Gl X x) (tk : L2N.Takes X W) (ha : PA X (e :: es) t)
    (hdb : (x == ("__debug__" : Str)) = false := by decide) (he : starEach (e :: es) X.env = (false, eval e X.env) :: starEach es X.env := by rfl) (hpl : (backTo pos (starEach es X.env)).any (·.1) = false := by rfl) :
    PE X (.Call (.Name x p) (e :: es) [] pos) (tCallS sp (WE W) t) := by
  obtain ⟨f, fd, ps, F, hm, kp, b⟩ := c.ex
  exact pe_callS F (hr.mono hk) hg hm kp b (fun σ => L2N.passAt tk σ) ha hdb he hpl
/-- f(k = v, ..) in a try -/
def tCallSK0 (m : Nat) (sp : Sp) (gV : List V → List V → List V) (E : L2.St → XK) (tk : TA) : TE := fun σ H Q => tk σ H fun zs H2 => zs.length = m ∧ sp (gV [] zs) H2 Q (E σ)
theorem pe_xSK0 (c : CalXK X.prog X.w X.K X.mg X.base k x 0 ks gV sp) (hr : Room j X.A) (hk : k ≤ j) (hg : Gl X x) (tke : L2N.Takes X W) (hkw : PK X kws tk)
    (hall : (backToKw pos (keywordEach kws X.env)).all (·.1.isSome) = true := by rfl) (hks : (backToKw pos (keywordEach kws X.env)).filterMap (·.1) = ks := by rfl) (hdb : (x == ("__debug__" : Str)) = false := by decide)
    (hpl : ((backTo pos (starEach [] X.env)).any (·.1) || (backToKw pos (keywordEach kws X.env)).any (·.1.isNone)) = false := by rfl) :
    PE X (.Call (.Name x p) [] kws pos) (tCallSK0 ks.length sp gV (WE W) tk) := by
  obtain ⟨f, fd, ps, g, F, hm, kp, hb⟩ := c.ex
  refine ⟨fun pins s σ H Q I h => ?_⟩
  refine wpAny_Call_Name_kw (ld_glob I hg hm ?_ hdb)
  refine PySem.W.callWith_KW0 (h₀ := X.base) I.ok.mod.kin kp hall ?_ hpl
  refine thn (hkw.run pos pins s σ H _ I h) fun ws s2 ⟨zs, H2, I2, rz, l2, q2⟩ => ⟨I2.kIn, ?_⟩
  rw [hks]
  have r2 : Vals (gV [] zs) (g [] ws) := hb.rel (vs := []) (us := []) .nil rz
  refine wpAny_call (codeAny_mono (F.run X.A X.stack s2 H2 ⟨[], ks.zip ws⟩ (g [] ws) (gV [] zs) Q (WE W σ) (hr.mono hk) I2.env0 (hb.to s2 [] ws I2.kIn rfl (rz.length.symm.trans l2)) r2 q2) fun r s' hq => ?_)
  cases r with
  | error e => exact L2N.passAt tke σ pins H2 s2 e s' I2 hq
  | ok fl =>
    cases fl with
    | ret u => exact I2.after hq
    | next => exact False.elim hq
    | brk => exact False.elim hq
    | cont => exact False.elim hq
/-- f(k = v, ..) where nothing is raised -/
theorem pe_xK0 (c : CalXK X.prog X.w X.K X.mg X.base k x 0 ks gV sp) (hr : Room j X.A) (hk : k ≤ j) (hg : Gl X x) (hkw : PK X kws tk)
    (hall : (backToKw pos (keywordEach kws X.env)).all (·.1.isSome) = true := by rfl) (hks : (backToKw pos (keywordEach kws X.env)).filterMap (·.1) = ks := by rfl) (hdb : (x == ("__debug__" : Str)) = false := by decide)
    (hpl : ((backTo pos (starEach [] X.env)).any (·.1) || (backToKw pos (keywordEach kws X.env)).any (·.1.isNone)) = false := by rfl) :
    PE X (.Call (.Name x p) [] kws pos) (tCallK0 ks.length sp gV E0 tk) := by
  obtain ⟨f, fd, ps, g, F, hm, kp, hb⟩ := c.ex
  refine ⟨fun pins s σ H Q I h => ?_⟩
  refine wpAny_Call_Name_kw (ld_glob I hg hm ?_ hdb)
  refine PySem.W.callWith_KW0 (h₀ := X.base) I.ok.mod.kin kp hall ?_ hpl
  refine thn (hkw.run pos pins s σ H _ I h) fun ws s2 ⟨zs, H2, I2, rz, l2, q2⟩ => ⟨I2.kIn, ?_⟩
  rw [hks]
  have r2 : Vals (gV [] zs) (g [] ws) := hb.rel (vs := []) (us := []) .nil rz
  refine wpAny_call (codeAny_mono (F.run X.A X.stack s2 H2 ⟨[], ks.zip ws⟩ (g [] ws) (gV [] zs) Q E0 (hr.mono hk) I2.env0 (hb.to s2 [] ws I2.kIn rfl (rz.length.symm.trans l2)) r2 q2) fun r s' hq => ?_)
  cases r with
  | error e => exact passN0 pins σ H2 s2 e s' I2 hq
  | ok fl =>
    cases fl with
    | ret u => exact I2.after hq
    | next => exact False.elim hq
    | brk => exact False.elim hq
    | cont => exact False.elim hq
theorem pe_mtx {pl : Sem Bool} (c : MetX X.prog X.w X.K X.mg X.base k C m sp) (hr : Room j X.A) (hk : k ≤ j) (he : PE X o ta) (ha : PA X (e :: es) t)
    (hst : starEach (e :: es) X.env = (false, eval e X.env) :: starEach es X.env := by rfl) (hpl : (backTo pos (starEach es X.env)).any (·.1) = false := by rfl)
    (ht : eval (.Call (.Attribute o m apos) (e :: es) [] pos) X.env = (do
      let ov ← eval o X.env
      standAt apos.atName
      let (f, first) ← holding [ov] (getMethod ov m pl)
      callWith pos f first (backTo pos (starEach (e :: es) X.env)) (backToKw pos (keywordEach [] X.env))) := by rfl) :
    PE X (.Call (.Attribute o m apos) (e :: es) [] pos) (tMeth C m sp [] E0 ta t) := by
  obtain ⟨f, fd, ps, hc, hm, F, b⟩ := c.ex
  exact pe_meth (pl := pl) he hc hm F (hr.mono hk) b .nil passN0 ha hst hpl ht
/-- o.m(e, ..) in a try -/
def tMethS (C : Addr) (m : Str) (sp : Sp) (E : L2.St → XK) (ta : TE) (t : TA) : TE := fun σ H Q => ta σ H fun x H1 => ∃ a dx fs, x = .ref a ∧ H1 a = some (.ins C dx fs) ∧ fs.lookup m = none ∧ t σ H1 fun vs H2 => sp (x :: vs) H2 Q (E σ)
theorem pe_mtxS {pl : Sem Bool} (c : MetX X.prog X.w X.K X.mg X.base k C m sp) (hr : Room j X.A) (hk : k ≤ j) (tk : L2N.Takes X W) (he : PE X o ta) (ha : PA X (e :: es) t)
    (hst : starEach (e :: es) X.env = (false, eval e X.env) :: starEach es X.env := by rfl) (hpl : (backTo pos (starEach es X.env)).any (·.1) = false := by rfl)
    (ht : eval (.Call (.Attribute o m apos) (e :: es) [] pos) X.env = (do
      let ov ← eval o X.env
      standAt apos.atName
      let (f, first) ← holding [ov] (getMethod ov m pl)
      callWith pos f first (backTo pos (starEach (e :: es) X.env)) (backToKw pos (keywordEach [] X.env))) := by rfl) :
    PE X (.Call (.Attribute o m apos) (e :: es) [] pos) (tMethS C m sp (WE W) ta t) := by
  obtain ⟨f, fd, ps, hc, hm, F, b⟩ := c.ex
  refine ⟨fun pins s σ H Q I h => ?_⟩
  refine PySem.W.methodCall_KW (pl := pl) (thn (he.run pins s σ H _ I h) fun u s1 ⟨x, H1, I1, rx, a, dx, fs, ex, ea, l, q⟩ => ?_) ht
  subst ex
  obtain rfl : u = Value.ref a := rx
  refine getmeth_ok I1 ea hc hm l ?_
  refine PySem.W.callWith_K (first := [.ref a]) (h₀ := X.base) I.ok.mod.kin hm.kp (thn (ha.run pos pins s1 σ H1 _ I1 q) fun us s2 ⟨vs, H2, I2, r, q2⟩ => ⟨I2.kIn, ?_⟩) hst hpl
  exact run_fnS (us := .ref a :: us) (vs := .ref a :: vs) F (hr.mono hk) b (L2N.passAt tk σ) I2 (.cons rfl r) q2
theorem pe_mkx (c : MakX X.prog X.w X.K X.mg X.base k x C sp) (hr : Room j X.A) (hk : k + 1 ≤ j) (hg : Gl X x) (ha : PA X (e :: es) t)
    (hdb : (x == ("__debug__" : Str)) = false := by decide) (he : starEach (e :: es) X.env = (false, eval e X.env) :: starEach es X.env := by rfl) (hpl : (backTo pos (starEach es X.env)).any (·.1) = false := by rfl) :
    PE X (.Call (.Name x p) (e :: es) [] pos) (tMake C sp [] E0 t) := by
  obtain ⟨f, fd, ps, M, F, hm, b⟩ := c.ex
  exact pe_make M F (hr.mono hk) hg hm b .nil passN0 ha hdb he hpl
theorem pe_mkxK0 (c : MakXK X.prog X.w X.K X.mg X.base k x C ks gV sp) (hr : Room j X.A) (hk : k + 1 ≤ j) (hg : Gl X x) (hkw : PK X kws tk)
    (hall : (backToKw pos (keywordEach kws X.env)).all (·.1.isSome) = true := by rfl) (hks : (backToKw pos (keywordEach kws X.env)).filterMap (·.1) = ks := by rfl) (hdb : (x == ("__debug__" : Str)) = false := by decide)
    (hpl : ((backTo pos (starEach [] X.env)).any (·.1) || (backToKw pos (keywordEach kws X.env)).any (·.1.isNone)) = false := by rfl) :
    PE X (.Call (.Name x p) [] kws pos) (tMakeK C 0 ks.length sp gV E0 tNil tk) := by
  obtain ⟨f, fd, ps, g, M, F, hm, b⟩ := c.ex
  exact pe_makeK0 M F (hr.mono hk) hg hm b passN0 hkw hall hks hdb hpl
/-- C(e, ..) in a try -/
def tMakeS (C : Addr) (sp : Sp) (E : L2.St → XK) (t : TA) : TE := fun σ H Q => t σ H fun vs H1 => ∀ x dx, H1 x = none → H1 dx = none → dx ≠ x → sp (.ref x :: vs) (upd (upd H1 dx (.own x)) x (.ins C dx [])) (fun v H2 => v = .non ∧ Q (.ref x) H2) (E σ)
theorem run_makeS {pins : List (Addr × Obj)} {σ : L2.St} {H : Hp} {s : Shared} {Q : VK} {f : Addr} {fd : FuncData} {ps : List Str} {us : List Value} {ws : List (Str × Value)} {ul : List Value} {vl : List V} (M : Mk X.K C f) (F : FnOk X.prog X.w X.K X.mg X.base (L2N.CX X.prog X.w) k f fd ps sp) (hr : Room (k + 1) X.A)
    (tk : L2N.Takes X W) (I : Inv X pins σ H s) (r : ∀ x, Vals (.ref x :: vl) (.ref x :: ul))
    (hb : ∀ (s' : Shared) (x : Addr), X.K.In s'.heap → BindsTo s' fd ⟨.ref x :: us, ws⟩ (ps.zip (.ref x :: ul)))
    (h : ∀ x dx, H x = none → H dx = none → dx ≠ x → sp (.ref x :: vl) (upd (upd H dx (.own x)) x (.ins C dx [])) (fun v H2 => v = .non ∧ Q (.ref x) H2) (WE W σ)) :
    wpAny (model X.prog X.w) X.A (call (.ref C) us ws) (EP X pins σ Q) X.xe s := by
  have hq := h (s.heap.objs.size + 1) s.heap.objs.size (I.hok.fresh (Nat.le_succ _)) (I.hok.fresh (Nat.le_refl _)) (Nat.ne_of_lt (Nat.lt_succ_self _))
  have I2 := Inv.made (C := C) I
  refine wpAny_call (make_map (f := f) I.kIn M.makes M.init (beq_iff_eq.mp M.fn) (codeAny_mono (F.run _ X.stack _ _ ⟨Value.ref (s.heap.objs.size + 1) :: us, ws⟩ (Value.ref (s.heap.objs.size + 1) :: ul) _ _ (WE W σ) (hr.make C us ws)
    (I2.env0.make C us ws) (hb _ _ I2.kIn) (r _) hq) fun r s' hq' => ?_))
  cases r with
  | error e => exact L2N.passAt tk σ pins _ _ e s' I2 hq'
  | ok fl =>
    cases fl with
    | ret u =>
      obtain ⟨v, H', I3, rv, ev, q3⟩ := I2.after hq'
      subst ev
      exact ⟨rv, ⟨V.ref (s.heap.objs.size + 1), H', I3, rfl, q3⟩⟩
    | next => exact False.elim hq'
    | brk => exact False.elim hq'
    | cont => exact False.elim hq'
theorem pe_mkxS (c : MakX X.prog X.w X.K X.mg X.base k x C sp) (hr : Room j X.A) (hk : k + 1 ≤ j) (hg : Gl X x) (tk : L2N.Takes X W) (ha : PA X (e :: es) t)
    (hdb : (x == ("__debug__" : Str)) = false := by decide) (he : starEach (e :: es) X.env = (false, eval e X.env) :: starEach es X.env := by rfl) (hpl : (backTo pos (starEach es X.env)).any (·.1) = false := by rfl) :
    PE X (.Call (.Name x p) (e :: es) [] pos) (tMakeS C sp (WE W) t) := by
  obtain ⟨f, fd, ps, M, F, hm, b⟩ := c.ex
  refine ⟨fun pins s σ H Q I h => ?_⟩
  refine wpAny_Call_Name_kw (ld_glob I hg hm ?_ hdb)
  refine PySem.W.callWith_K (h₀ := X.base) I.ok.mod.kin M.kp (thn (ha.run pos pins s σ H _ I h) fun us s1 ⟨vs, H1, I1, r, q⟩ => ⟨I1.kIn, ?_⟩) he hpl
  have hq := q (s1.heap.objs.size + 1) s1.heap.objs.size (I1.hok.fresh (Nat.le_succ _)) (I1.hok.fresh (Nat.le_refl _)) (Nat.ne_of_lt (Nat.lt_succ_self _))
  have hl : ∀ x : Addr, (Value.ref x :: us).length = ps.length := fun x => by
    have e1 := F.len _ _ _ _ hq
    rw [List.length_cons] at e1 ⊢
    rw [← r.length]
    exact e1
  refine run_makeS (ws := []) (ul := us) (vl := vs) M F (hr.mono hk) tk I1 (fun x => .cons rfl r) (fun s' x hK => ?_) q
  have b2 := b s' (Value.ref x :: us) hK (by rw [List.append_nil]; exact hl x)
  rw [List.append_nil] at b2
  exact b2
def tMakeSK (C : Addr) (m : Nat) (sp : Sp) (gV : List V → List V → List V) (E : L2.St → XK) (tk : TA) : TE := fun σ H Q => tk σ H fun zs H1 => zs.length = m ∧ ∃ vl, (∀ x, gV [.ref x] zs = .ref x :: vl) ∧ ∀ x dx, H1 x = none → H1 dx = none → dx ≠ x →
  sp (.ref x :: vl) (upd (upd H1 dx (.own x)) x (.ins C dx [])) (fun v H2 => v = .non ∧ Q (.ref x) H2) (E σ)
theorem pe_mkxSK0 (c : MakXK X.prog X.w X.K X.mg X.base k x C ks gV sp) (hr : Room j X.A) (hk : k + 1 ≤ j) (hg : Gl X x) (tke : L2N.Takes X W) (hkw : PK X kws tk)
    (hall : (backToKw pos (keywordEach kws X.env)).all (·.1.isSome) = true := by rfl) (hks : (backToKw pos (keywordEach kws X.env)).filterMap (·.1) = ks := by rfl) (hdb : (x == ("__debug__" : Str)) = false := by decide)
    (hpl : ((backTo pos (starEach [] X.env)).any (·.1) || (backToKw pos (keywordEach kws X.env)).any (·.1.isNone)) = false := by rfl) :
    PE X (.Call (.Name x p) [] kws pos) (tMakeSK C ks.length sp gV (WE W) tk) := by
  obtain ⟨f, fd, ps, g, M, F, hm, hb⟩ := c.ex
  refine ⟨fun pins s σ H Q I h => ?_⟩
  refine wpAny_Call_Name_kw (ld_glob I hg hm ?_ hdb)
  refine PySem.W.callWith_KW0 (h₀ := X.base) I.ok.mod.kin M.kp hall ?_ hpl
  refine thn (hkw.run pos pins s σ H _ I h) fun ws s2 ⟨zs, H2, I2, rz, l2, vl, ev, q⟩ => ⟨I2.kIn, ?_⟩
  rw [hks]
  have hq := q (s2.heap.objs.size + 1) s2.heap.objs.size (I2.hok.fresh (Nat.le_succ _)) (I2.hok.fresh (Nat.le_refl _)) (Nat.ne_of_lt (Nat.lt_succ_self _))
  have I3 := Inv.made (C := C) I2
  have r2 : Vals (gV [.ref (s2.heap.objs.size + 1)] zs) (g [.ref (s2.heap.objs.size + 1)] ws) := hb.rel (.cons rfl .nil) rz
  rw [ev] at r2
  refine wpAny_call (make_map (f := f) (vs := []) I2.kIn M.makes M.init (beq_iff_eq.mp M.fn) (codeAny_mono (F.run _ X.stack _ _ ⟨[Value.ref (s2.heap.objs.size + 1)], ks.zip ws⟩ (g [.ref (s2.heap.objs.size + 1)] ws) _ _ (WE W σ) ((hr.mono hk).make C [] (ks.zip ws))
    (I3.env0.make C [] (ks.zip ws)) (hb.to _ [Value.ref (s2.heap.objs.size + 1)] ws I3.kIn rfl (rz.length.symm.trans l2)) r2 hq) fun r s' hq' => ?_))
  cases r with
  | error e => exact L2N.passAt tke σ pins _ _ e s' I3 hq'
  | ok fl =>
    cases fl with
    | ret u =>
      obtain ⟨v, H', I4, rv, ev', q3⟩ := I3.after hq'
      subst ev'
      exact ⟨rv, ⟨V.ref (s2.heap.objs.size + 1), H', I4, rfl, q3⟩⟩
    | next => exact False.elim hq'
    | brk => exact False.elim hq'
    | cont => exact False.elim hq'
/-- raise X(e, ..) -/
def tRaiseX (C : Addr) (fs : List Str) (W : WX) (ta : TA) : TS := fun _ σ H => tMkX C fs ta σ H fun cls d H' => W cls d σ H'
theorem ps_raiseX {a : Expr} {as : List Expr} {fs : List Str} {p pos pos2 : Pos} (hc : X.calm = true) (T : XErr X.prog X.K X.mg x C fs) (hr : Room k X.A) (tk : L2N.Takes X W) (ha : PA X (a :: as) t) (hg : Gl X x := by rfl) (hdb : (x == ("__debug__" : Str)) = false := by decide)
    (he : starEach (a :: as) X.env = (false, eval a X.env) :: starEach as X.env := by rfl) (hpl : (backTo pos (starEach as X.env)).any (·.1) = false := by rfl) :
    PS X (.Raise (some (.Call (.Name x p) (a :: as) [] pos)) none pos2) (tRaiseX C fs W t) := L2N.ps_raise hc tk (pmk_x T hr ha hg hdb he hpl)
end
end KB
namespace KB
open PySem PySem.Spec PyProof.Rows L2
section
variable {P : Program} {w : World} {K : PySem.W.Frag} {mg : Str → Option Value} {base : Heap}
/-- a def that raises nothing, called within an except suite -/
structure CalH (P : Program) (w : World) (K : PySem.W.Frag) (mg : Str → Option Value) (base : Heap) (k : Nat) (x : Str) (sp : Sp) : Prop where
  ex : ∃ (f : Addr) (fd : FuncData) (ps : List Str), L2H.FnH P w K mg base CX0 k f fd ps sp ∧ mg x = some (.ref f) ∧ PySem.W.keepIn K (.ref f) = true ∧ Binds K fd ps []
theorem Fun_okH {x qual : Str} {st : Stmt} {f : Addr} {fd : FuncData} {N ps : List Str} {k : Nat} {sp : Sp} (F : Fun K x qual st f fd) (S : FnScope N ps (defScope st)) (len : ∀ vs H Q E, sp vs H Q E → vs.length = ps.length)
    (hbody : ∀ (cdv : Value) (A : Around) (outer : List Env) (s : Shared) (H : Hp) (vs : List V) (Q : VK) (E : XK) (p : Addr × Obj), L2H.Hot1 A p → L2H.RoomH k (A.deeper (envOfC qual (defScope st) s.heap.objs.size f cdv)) → sp vs H Q E →
      ∃ t, PSs (L2H.cxH CX0 P w K mg base N qual (defScope st) f cdv A outer s H E p).nox (defBody st) t ∧ t { nx := fun _ H' => Q .non H', rt := Q } (start N vs) H) : L2H.FnH P w K mg base CX0 (k + 1) f fd ps sp := by
  obtain ⟨oc, od, kV, doc, pm, an, cdv, ct, osl, rfl, lk, hcd⟩ := F.ex
  refine L2H.fn_ofH lk hcd S len fun A outer s H vs Q E p hot hr hsp => ?_
  obtain ⟨t, h, q⟩ := hbody cdv A outer s H vs Q E p hot hr hsp
  exact ⟨t, h.nox, q⟩
theorem exm_own {K : PySem.W.Frag} {S B : Addr} (h1 : PySem.W.subIn K (.ref S) (.type "BaseException") = some true) (h2 : PySem.W.isClsIn K S = true) (h3 : PySem.W.typeIn K (.ref S) = some (.type "type")) {b : Bool} (h4 : PySem.W.subIn K (.ref B) (.ref S) = some b) :
    PySem.W.exmOne K (.ref B) (.ref S) = some b := by
  have e1 : (PySem.W.subIn K (.ref S) (.type "BaseException") == some true) = true := by rw [h1] <;> rfl
  have e2 : ((PySem.W.clsIn K S).isSome && PySem.W.typeIn K (.ref S) == some (.type "type")) = true := by
    have h2' : (PySem.W.clsIn K S).isSome = true := h2
    rw [h2', h3] <;> rfl
  show (if (PySem.W.subIn K (.ref S) (.type "BaseException") == some true) = true then (if ((PySem.W.clsIn K S).isSome && PySem.W.typeIn K (.ref S) == some (.type "type")) = true then PySem.W.subIn K (.ref B) (.ref S) else none) else none) = some b
  rw [if_pos e1, if_pos e2]
  exact h4
end
section
variable {X : Cx} {k j : Nat} {x : Str} {sp : Sp} {p pos : Pos} {e : Expr} {es : List Expr} {t : TA}
theorem hotS {a : Addr} {oe : Obj} {cls : Value} {d : Option Addr} {pn : List (Addr × Obj)} (hz : L2N.Zn cls d oe) (hf : ∃ vs, oe.data = .fields vs) : L2H.HotC (X.suite a ((a, oe) :: pn)) := by
  obtain ⟨vs, h⟩ := hf
  exact ⟨(a, oe), ⟨rfl, vs, h, hz.2.2 vs h⟩, List.mem_cons_self ..⟩
theorem pe_cH (c : CalH X.prog X.w X.K X.mg X.base k x sp) (hr : L2H.RoomH j X.A) (hk : k ≤ j) (hot : L2H.HotC X) (hg : Gl X x) (ha : PA X (e :: es) t)
    (hdb : (x == ("__debug__" : Str)) = false := by decide) (he : starEach (e :: es) X.env = (false, eval e X.env) :: starEach es X.env := by rfl) (hpl : (backTo pos (starEach es X.env)).any (·.1) = false := by rfl) :
    PE X (.Call (.Name x p) (e :: es) [] pos) (tCallS sp (fun _ => E0) t) := by
  obtain ⟨f, fd, ps, F, hm, kp, b⟩ := c.ex
  exact L2H.pe_callH F (hr.mono hk) hot hg hm kp b (fun σ pins H s e s' _ h => h.elim) ha hdb he hpl
/-- // by any number that is not 0, below 9,000 bits -/
def CDivV (_ j : Int) : Prop := j ≠ 0 ∧ j.natAbs.log2 < 9000
theorem op_fdivV : OpR X (binaryOp .FloorDiv) (rI CDivV fun i j => .int (i.fdiv j)) := opI fun i j _ _ _ _ _ hc q => PyProof.Rows.floordiv_int hc.1 q (.inl (PyProof.noPylong_of_log2 hc.2))
end
end KB
namespace KB
open PySem PySem.Spec PyProof.Rows L2
section
variable {P : Program} {w : World} {K : PySem.W.Frag} {mg : Str → Option Value} {base : Heap}
structure MetK (CX : CXT) (P : Program) (w : World) (K : PySem.W.Frag) (mg : Str → Option Value) (base : Heap) (k : Nat) (C : Addr) (m : Str) (ks : List Str) (gV : List V → List V → List V) (sp : Sp) : Prop where
  ex : ∃ (f : Addr) (fd : FuncData) (ps : List Str) (g : List Value → List Value → List Value), Cls K C ∧ Meth K C m f ∧ FnOk P w K mg base CX k f fd ps sp ∧ KBn K fd ps 1 ks g gV
end
section
variable {X : Cx} {k j n : Nat} {C : Addr} {x m : Str} {sp : Sp} {p pos apos : Pos} {o : Expr} {kws : List Keyword} {ta : TE} {tk : TA} {ks : List Str} {gV : List V → List V → List V} {W : WX}
/-- o.m(k = v, ..) -/
def tMethSK (C : Addr) (m : Str) (n : Nat) (sp : Sp) (gV : List V → List V → List V) (E : L2.St → XK) (ta : TE) (tk : TA) : TE := fun σ H Q => ta σ H fun x H1 => ∃ a dx fs, x = .ref a ∧ H1 a = some (.ins C dx fs) ∧ fs.lookup m = none ∧ tk σ H1 fun zs H2 => zs.length = n ∧ sp (gV [x] zs) H2 Q (E σ)
theorem pe_mtKg {CX : CXT} {E : L2.St → XK} {pl : Sem Bool} (c : MetK CX X.prog X.w X.K X.mg X.base k C m ks gV sp) (hr : Room j X.A) (hk : k ≤ j) (hx : ∀ σ, PassesAt CX X σ (E σ)) (he : PE X o ta) (hkw : PK X kws tk)
    (hall : (backToKw pos (keywordEach kws X.env)).all (·.1.isSome) = true := by rfl) (hks : (backToKw pos (keywordEach kws X.env)).filterMap (·.1) = ks := by rfl)
    (hpl : ((backTo pos (starEach [] X.env)).any (·.1) || (backToKw pos (keywordEach kws X.env)).any (·.1.isNone)) = false := by rfl)
    (ht : eval (.Call (.Attribute o m apos) [] kws pos) X.env = (do
      let ov ← eval o X.env
      standAt apos.atName
      let (f, first) ← holding [ov] (getMethod ov m pl)
      callWith pos f first (backTo pos (starEach [] X.env)) (backToKw pos (keywordEach kws X.env))) := by rfl) :
    PE X (.Call (.Attribute o m apos) [] kws pos) (tMethSK C m ks.length sp gV E ta tk) := by
  obtain ⟨f, fd, ps, g, hc, hm, F, hb⟩ := c.ex
  refine ⟨fun pins s σ H Q I h => ?_⟩
  refine PySem.W.methodCall_KW (pl := pl) (thn (he.run pins s σ H _ I h) fun u s1 ⟨x, H1, I1, rx, a, dx, fs, ex, ea, l, q⟩ => ?_) ht
  subst ex
  obtain rfl : u = Value.ref a := rx
  refine getmeth_ok I1 ea hc hm l ?_
  refine PySem.W.callWith_KW0 (first := [.ref a]) (h₀ := X.base) I.ok.mod.kin hm.kp hall ?_ hpl
  refine thn (hkw.run pos pins s1 σ H1 _ I1 q) fun ws s2 ⟨zs, H2, I2, rz, l2, q2⟩ => ⟨I2.kIn, ?_⟩
  rw [hks]
  have r2 : Vals (gV [.ref a] zs) (g [.ref a] ws) := hb.rel (.cons rfl .nil) rz
  refine wpAny_call (codeAny_mono (F.run X.A X.stack s2 H2 ⟨[.ref a], ks.zip ws⟩ (g [.ref a] ws) (gV [.ref a] zs) Q (E σ) (hr.mono hk) I2.env0 (hb.to s2 [.ref a] ws I2.kIn rfl (rz.length.symm.trans l2)) r2 q2) fun r s' hq => ?_)
  cases r with
  | error e => exact hx σ pins H2 s2 e s' I2 hq
  | ok fl =>
    cases fl with
    | ret u => exact I2.after hq
    | next => exact False.elim hq
    | brk => exact False.elim hq
    | cont => exact False.elim hq
theorem pe_mtK0 {pl : Sem Bool} (c : MetK CX0 X.prog X.w X.K X.mg X.base k C m ks gV sp) (hr : Room j X.A) (hk : k ≤ j) (he : PE X o ta) (hkw : PK X kws tk)
    (hall : (backToKw pos (keywordEach kws X.env)).all (·.1.isSome) = true := by rfl) (hks : (backToKw pos (keywordEach kws X.env)).filterMap (·.1) = ks := by rfl)
    (hpl : ((backTo pos (starEach [] X.env)).any (·.1) || (backToKw pos (keywordEach kws X.env)).any (·.1.isNone)) = false := by rfl)
    (ht : eval (.Call (.Attribute o m apos) [] kws pos) X.env = (do
      let ov ← eval o X.env
      standAt apos.atName
      let (f, first) ← holding [ov] (getMethod ov m pl)
      callWith pos f first (backTo pos (starEach [] X.env)) (backToKw pos (keywordEach kws X.env))) := by rfl) :
    PE X (.Call (.Attribute o m apos) [] kws pos) (tMethSK C m ks.length sp gV (fun _ => E0) ta tk) :=
  pe_mtKg (pl := pl) c hr hk (fun σ pins H s e s' _ h => h.elim) he hkw hall hks hpl ht
theorem pe_mtxSK0 {pl : Sem Bool} (c : MetK (L2N.CX X.prog X.w) X.prog X.w X.K X.mg X.base k C m ks gV sp) (hr : Room j X.A) (hk : k ≤ j) (tke : L2N.Takes X W) (he : PE X o ta) (hkw : PK X kws tk)
    (hall : (backToKw pos (keywordEach kws X.env)).all (·.1.isSome) = true := by rfl) (hks : (backToKw pos (keywordEach kws X.env)).filterMap (·.1) = ks := by rfl)
    (hpl : ((backTo pos (starEach [] X.env)).any (·.1) || (backToKw pos (keywordEach kws X.env)).any (·.1.isNone)) = false := by rfl)
    (ht : eval (.Call (.Attribute o m apos) [] kws pos) X.env = (do
      let ov ← eval o X.env
      standAt apos.atName
      let (f, first) ← holding [ov] (getMethod ov m pl)
      callWith pos f first (backTo pos (starEach [] X.env)) (backToKw pos (keywordEach kws X.env))) := by rfl) :
    PE X (.Call (.Attribute o m apos) [] kws pos) (tMethSK C m ks.length sp gV (WE W) ta tk) :=
  pe_mtKg (pl := pl) c hr hk (fun σ => L2N.passAt tke σ) he hkw hall hks hpl ht
end
end KB

/-! shares: the numbers, and how an object of the class stands on the heap -/
namespace KB
open PySem PySem.Spec PyProof.Rows L2
section
variable {X : Cx} {a b c : Expr} {tA t1 t2 : TT} {pos : Pos}
/-- a if c else b, as a test -/
def tIfT (c t u : TT) : TT := fun σ H Q => c σ H fun k H1 => if k = true then t σ H1 Q else u σ H1 Q
theorem pt_ifT (hc : PT X c tA) (ha : PT X a t1) (hb : PT X b t2) : PT X (.IfExp c a b pos) (tIfT tA t1 t2) := by
  refine ⟨fun pins s σ H Q I h => ?_⟩
  refine isTrue_IfExp (thn (hc.run pins s σ H _ I h) fun d s1 ⟨H1, I1, q1⟩ => ?_)
  cases d with
  | true => exact ha.run pins s1 σ H1 Q I1 q1
  | false => exact hb.run pins s1 σ H1 Q I1 q1
end
theorem roomS {X : Cx} {k : Nat} {a : Addr} {pn : List (Addr × Obj)} (hr : Room k X.A) : L2H.RoomH k (X.suite a pn).A := ⟨hr.dp, hr.un⟩
theorem kit_me {K : PySem.W.Frag} {C : Addr} : PySem.W.kitOne K (.ref C) (.ref C) = some true := by
  unfold PySem.W.kitOne
  rw [if_pos (by simp)]
theorem kit_no {K : PySem.W.Frag} {C : Addr} {n : String} {b : Bool} (h1 : PySem.W.isClsIn K C = true) (h2 : PySem.W.typeIn K (.ref C) = some (.type "type")) (h3 : PySem.W.subIn K (.type n) (.ref C) = some b) : PySem.W.kitOne K (.type n) (.ref C) = some b := by
  have e0 : ((Value.type n) == (Value.ref C)) = false := by rfl
  have e2 : ((PySem.W.clsIn K C).isSome && PySem.W.typeIn K (.ref C) == some (.type "type")) = true := by
    have h1' : (PySem.W.clsIn K C).isSome = true := h1
    rw [h1', h2] <;> rfl
  unfold PySem.W.kitOne
  rw [e0]
  show (if ((PySem.W.clsIn K C).isSome && PySem.W.typeIn K (.ref C) == some (.type "type")) = true then PySem.W.subIn K (.type n) (.ref C) else none) = some b
  rw [if_pos e2]
  exact h3
def gN (o u : Int) : Nat := Nat.gcd o.natAbs u.natAbs
def rOd (o u : Int) : Int := if u < 0 then -(o / (gN o u : Int)) else o / (gN o u : Int)
def rUd (o u : Int) : Int := if u < 0 then -(u / (gN o u : Int)) else u / (gN o u : Int)
theorem gN_pos {o u : Int} (h : u ≠ 0) : 0 < gN o u := Nat.gcd_pos_of_pos_right _ (by omega)
theorem gN_o (o u : Int) : (gN o u : Int) ∣ o := Int.ofNat_dvd_left.mpr (Nat.gcd_dvd_left _ _)
theorem gN_u (o u : Int) : (gN o u : Int) ∣ u := Int.ofNat_dvd_left.mpr (Nat.gcd_dvd_right _ _)
theorem gN_le {o u : Int} (h : u ≠ 0) : gN o u ≤ u.natAbs := Nat.le_of_dvd (by omega) (Nat.gcd_dvd_right _ _)
/-- the sign of the divisor -/
def cN (o u : Int) : Int := if u < 0 then -(gN o u : Int) else (gN o u : Int)
theorem cN_ne {o u : Int} (h : u ≠ 0) : cN o u ≠ 0 := by
  have := gN_pos (o := o) h
  unfold cN
  split <;> omega
theorem cN_abs {o u : Int} : (cN o u).natAbs = gN o u := by
  unfold cN
  split <;> omega
theorem fdiv_of {a g : Int} (x : Int) (hg : g ≠ 0) (e : a = g * x) : a.fdiv g = x := by
  subst e
  rw [Int.fdiv_eq_ediv_of_dvd (Int.dvd_mul_right _ _)]
  exact Int.mul_ediv_cancel_left _ hg
theorem div_of {a g : Int} (x : Int) (hg : g ≠ 0) (e : a = g * x) : a / g = x := by
  subst e
  exact Int.mul_ediv_cancel_left _ hg
theorem fdiv_o {o u : Int} (h : u ≠ 0) : o.fdiv (cN o u) = rOd o u := by
  have g := gN_pos (o := o) h
  obtain ⟨x, e⟩ := gN_o o u
  have g0 : (gN o u : Int) ≠ 0 := by omega
  unfold rOd cN
  rw [div_of x g0 e]
  split
  · exact fdiv_of _ (by omega) (by rw [Int.neg_mul_neg]; exact e)
  · exact fdiv_of _ g0 e
theorem fdiv_u {o u : Int} (h : u ≠ 0) : u.fdiv (cN o u) = rUd o u := by
  have g := gN_pos (o := o) h
  obtain ⟨x, e⟩ := gN_u o u
  have g0 : (gN o u : Int) ≠ 0 := by omega
  unfold rUd cN
  rw [div_of x g0 e]
  split
  · exact fdiv_of _ (by omega) (by rw [Int.neg_mul_neg]; exact e)
  · exact fdiv_of _ g0 e
theorem rU_pos {o u : Int} (h : u ≠ 0) : 0 < rUd o u := by
  have g := gN_pos (o := o) h
  obtain ⟨x, e⟩ := gN_u o u
  have g0 : (gN o u : Int) ≠ 0 := by omega
  have gp : (0 : Int) < gN o u := by omega
  unfold rUd
  rw [div_of x g0 e]
  split
  · rename_i hu
    have : x < 0 := by
      rcases Int.lt_or_le x 0 with z | z
      · exact z
      · have := Int.mul_nonneg (Int.le_of_lt gp) z
        omega
    omega
  · rename_i hu
    rcases Int.lt_or_le 0 x with z | z
    · exact z
    · have : (gN o u : Int) * x ≤ 0 := Int.mul_nonpos_of_nonneg_of_nonpos (Int.le_of_lt gp) z
      omega
theorem rO_le (o u : Int) : (rOd o u).natAbs ≤ o.natAbs := by
  have z : (o / (gN o u : Int)).natAbs ≤ o.natAbs := Int.natAbs_ediv_le_natAbs _ _
  unfold rOd
  split
  · rw [Int.natAbs_neg]
    exact z
  · exact z
theorem rU_le (o u : Int) : (rUd o u).natAbs ≤ u.natAbs := by
  have z : (u / (gN o u : Int)).natAbs ≤ u.natAbs := Int.natAbs_ediv_le_natAbs _ _
  unfold rUd
  split
  · rw [Int.natAbs_neg]
    exact z
  · exact z
theorem gN_scale {g : Int} (a b : Int) (hg : 0 < g) : (gN (g * a) (g * b) : Int) = g * gN a b := by
  unfold gN
  rw [Int.natAbs_mul, Int.natAbs_mul, Nat.gcd_mul_left, Int.natCast_mul]
  congr 1
  omega
theorem rOd_scale {g : Int} (a b : Int) (hg : 0 < g) : rOd (g * a) (g * b) = rOd a b := by
  have e : (g * a) / (gN (g * a) (g * b) : Int) = a / (gN a b : Int) := by
    rw [gN_scale a b hg]
    exact Int.mul_ediv_mul_of_pos _ _ hg
  unfold rOd
  rw [e]
  by_cases h : b < 0
  · rw [if_pos h, if_pos (Int.mul_neg_of_pos_of_neg hg h)]
  · rw [if_neg h, if_neg (Int.not_lt.mpr (Int.mul_nonneg (Int.le_of_lt hg) (Int.not_lt.mp h)))]
theorem rUd_scale {g : Int} (a b : Int) (hg : 0 < g) : rUd (g * a) (g * b) = rUd a b := by
  have e : (g * b) / (gN (g * a) (g * b) : Int) = b / (gN a b : Int) := by
    rw [gN_scale a b hg]
    exact Int.mul_ediv_mul_of_pos _ _ hg
  unfold rUd
  rw [e]
  by_cases h : b < 0
  · rw [if_pos h, if_pos (Int.mul_neg_of_pos_of_neg hg h)]
  · rw [if_neg h, if_neg (Int.not_lt.mpr (Int.mul_nonneg (Int.le_of_lt hg) (Int.not_lt.mp h)))]
theorem red_ex {o u : Int} (hu : 0 < u) : ∃ g : Int, 0 < g ∧ o = g * rOd o u ∧ u = g * rUd o u := by
  have g0 := gN_pos (o := o) (Int.ne_of_gt hu)
  refine ⟨gN o u, by omega, ?_, ?_⟩
  · unfold rOd
    rw [if_neg (by omega), Int.mul_ediv_cancel' (gN_o o u)]
  · unfold rUd
    rw [if_neg (by omega), Int.mul_ediv_cancel' (gN_u o u)]
theorem red_sum {n d o u : Int} (hu : 0 < u) : rOd (n * u + o * d) (d * u) = rOd (n * rUd o u + rOd o u * d) (d * rUd o u) ∧ rUd (n * u + o * d) (d * u) = rUd (n * rUd o u + rOd o u * d) (d * rUd o u) := by
  obtain ⟨g, g0, eo, eu⟩ := red_ex (o := o) hu
  generalize rOd o u = o' at *
  generalize rUd o u = u' at *
  subst eo eu
  have e1 : n * (g * u') + (g * o') * d = g * (n * u' + o' * d) := by
    rw [Int.mul_add, Int.mul_left_comm n, Int.mul_assoc g o']
  have e2 : d * (g * u') = g * (d * u') := Int.mul_left_comm _ _ _
  rw [e1, e2]
  exact ⟨rOd_scale _ _ g0, rUd_scale _ _ g0⟩
theorem red_less {n d o u : Int} (hu : 0 < u) : rOd (n * u - o * d) (d * u) = rOd (n * rUd o u - rOd o u * d) (d * rUd o u) ∧ rUd (n * u - o * d) (d * u) = rUd (n * rUd o u - rOd o u * d) (d * rUd o u) := by
  obtain ⟨g, g0, eo, eu⟩ := red_ex (o := o) hu
  generalize rOd o u = o' at *
  generalize rUd o u = u' at *
  subst eo eu
  have e1 : n * (g * u') - (g * o') * d = g * (n * u' - o' * d) := by
    rw [Int.mul_sub, Int.mul_left_comm n, Int.mul_assoc g o']
  have e2 : d * (g * u') = g * (d * u') := Int.mul_left_comm _ _ _
  rw [e1, e2]
  exact ⟨rOd_scale _ _ g0, rUd_scale _ _ g0⟩
theorem red_times {n d o u : Int} (hu : 0 < u) : rOd (n * o) (d * u) = rOd (n * rOd o u) (d * rUd o u) ∧ rUd (n * o) (d * u) = rUd (n * rOd o u) (d * rUd o u) := by
  obtain ⟨g, g0, eo, eu⟩ := red_ex (o := o) hu
  generalize rOd o u = o' at *
  generalize rUd o u = u' at *
  subst eo eu
  have e1 : n * (g * o') = g * (n * o') := by
    rw [Int.mul_left_comm n]
  have e2 : d * (g * u') = g * (d * u') := Int.mul_left_comm _ _ _
  rw [e1, e2]
  exact ⟨rOd_scale _ _ g0, rUd_scale _ _ g0⟩
theorem gN_one (n : Int) : gN n 1 = 1 := Nat.gcd_one_right _
theorem gN_one' (n : Int) : gN 1 n = 1 := Nat.gcd_one_left _
theorem rOd_one (n : Int) : rOd n 1 = n := by
  unfold rOd
  rw [if_neg (by decide), gN_one]
  exact Int.ediv_one _
theorem rUd_one (n : Int) : rUd n 1 = 1 := by
  unfold rUd
  rw [if_neg (by decide), gN_one]
  rfl
theorem rOd_one' {n : Int} (h : 0 < n) : rOd 1 n = 1 := by
  unfold rOd
  rw [if_neg (by omega), gN_one']
  rfl
theorem rUd_one' {n : Int} (h : 0 < n) : rUd 1 n = n := by
  unfold rUd
  rw [if_neg (by omega), gN_one']
  exact Int.ediv_one _
/-- Euclid's turns: k turns done of a pair with the product M -/
structure Eu (o u : Int) (k l r : Nat) : Prop where
  g : Nat.gcd l r = gN o u
  l0 : 0 < l
  m : (k = 0 ∧ l = u.natAbs ∧ r = o.natAbs) ∨ (r ≤ l ∧ 2 ^ k * (l * r) ≤ 2 * (u.natAbs * o.natAbs))
theorem Eu.ini {o u : Int} (h : u ≠ 0) : Eu o u 0 u.natAbs o.natAbs := ⟨Nat.gcd_comm _ _, by omega, .inl ⟨rfl, rfl, rfl⟩⟩
theorem Eu.nxt {o u : Int} {k l r : Nat} (E : Eu o u k l r) (h : r ≠ 0) : Eu o u (k + 1) r (l % r) := by
  obtain ⟨g, l0, m⟩ := E
  have lt : l % r < r := Nat.mod_lt _ (by omega)
  refine ⟨?_, by omega, .inr ⟨by omega, ?_⟩⟩
  · rw [Nat.gcd_comm, ← Nat.gcd_rec, Nat.gcd_comm]
    exact g
  · rcases m with ⟨rfl, rfl, rfl⟩ | ⟨hr, hm⟩
    · have a1 : o.natAbs * (u.natAbs % o.natAbs) ≤ o.natAbs * u.natAbs := Nat.mul_le_mul_left _ (Nat.mod_le _ _)
      have a2 : o.natAbs * u.natAbs = u.natAbs * o.natAbs := Nat.mul_comm _ _
      show 2 ^ 1 * _ ≤ _
      omega
    · have h2 : 2 * (l % r) ≤ l := by
        have e := Nat.div_add_mod l r
        have d : 1 ≤ l / r := Nat.div_pos hr (by omega)
        have : r * 1 ≤ r * (l / r) := Nat.mul_le_mul_left _ d
        omega
      have h3 : 2 ^ (k + 1) * (r * (l % r)) = 2 ^ k * (r * (2 * (l % r))) := by
        rw [Nat.pow_succ, Nat.mul_assoc, ← Nat.mul_assoc 2 r, Nat.mul_comm 2 r, Nat.mul_assoc r 2]
      rw [h3]
      refine Nat.le_trans (Nat.mul_le_mul_left _ (Nat.mul_le_mul_left r h2)) ?_
      rw [Nat.mul_comm r l]
      exact hm
theorem Eu.fin {o u : Int} {l r : Nat} (E : Eu o u 9000 l r) (h1 : o.natAbs < 2 ^ 4000) (h2 : u.natAbs < 2 ^ 4000) : r = 0 := by
  obtain ⟨g, l0, m⟩ := E
  rcases m with ⟨z, _⟩ | ⟨hr, hm⟩
  · cases z
  · rcases Nat.eq_zero_or_pos r with z | z
    · exact z
    · exfalso
      have a1 : 1 ≤ l * r := Nat.mul_pos l0 z
      have a2 : 2 ^ 9000 * 1 ≤ 2 ^ 9000 * (l * r) := Nat.mul_le_mul_left _ a1
      have a3 : u.natAbs * o.natAbs ≤ 2 ^ 4000 * 2 ^ 4000 := Nat.mul_le_mul (Nat.le_of_lt h2) (Nat.le_of_lt h1)
      have a4 : (2 : Nat) ^ 4000 * 2 ^ 4000 = 2 ^ 8000 := by rw [← Nat.pow_add]
      have a5 : (2 : Nat) * 2 ^ 8000 = 2 ^ 8001 := (Nat.pow_succ' (m := 2) (n := 8000)).symm
      have a6 : (2 : Nat) ^ 8001 < 2 ^ 9000 := Nat.pow_lt_pow_right (by decide) (by decide)
      generalize (2 : Nat) ^ 9000 = A at *
      generalize (2 : Nat) ^ 8001 = B at *
      generalize (2 : Nat) ^ 8000 = D at *
      generalize (2 : Nat) ^ 4000 * 2 ^ 4000 = F at *
      omega
theorem Eu.gcd {o u : Int} {k l : Nat} (E : Eu o u k l 0) : l = gN o u := by
  have := E.g
  rwa [Nat.gcd_zero_right] at this
theorem bits_mul {x y : Int} {a b : Nat} (h1 : x.natAbs < 2 ^ a) (h2 : y.natAbs < 2 ^ b) : (x * y).natAbs < 2 ^ (a + b) := wide_lt h1 h2
theorem bits_add {x y : Int} {a : Nat} (h1 : x.natAbs < 2 ^ a) (h2 : y.natAbs < 2 ^ a) : (x + y).natAbs < 2 ^ (a + 1) := by
  rw [Nat.pow_succ]
  omega
theorem bits_sub {x y : Int} {a : Nat} (h1 : x.natAbs < 2 ^ a) (h2 : y.natAbs < 2 ^ a) : (x - y).natAbs < 2 ^ (a + 1) := by
  rw [Nat.pow_succ]
  omega
theorem bits_le {x : Int} {a b : Nat} (h : x.natAbs < 2 ^ a) (hb : a ≤ b) : x.natAbs < 2 ^ b := Nat.lt_of_lt_of_le h (Nat.pow_le_pow_right (by decide) hb)
theorem bits_of {x : Int} {a : Nat} (h : x.natAbs ≤ 2 ^ a) : x.natAbs < 2 ^ (a + 1) := by
  have : 0 < 2 ^ a := Nat.pow_pos (by decide)
  rw [Nat.pow_succ]
  omega

/-! ### an object of the class -/
structure ShC (K : PySem.W.Frag) (C : Addr) : Prop where
  ins : C8.InsC K C
  no : NoAttr K C "over"
  nu : NoAttr K C "under"
  op : OpC K C
  nf : PySem.W.notFirst K C (.ref C) = true
def fz (n d : Int) : List (Str × V) := [("over", .int n), ("under", .int d)]
theorem fz_o {n d : Int} : List.lookup ("over" : Str) (fz n d) = some (V.int n) := rfl
theorem fz_u {n d : Int} : List.lookup ("under" : Str) (fz n d) = some (V.int d) := rfl
def Sh (C : Addr) (H : Hp) (x : Addr) (n d : Int) : Prop := ∃ dx, H x = some (.ins C dx (fz n d))
theorem Sh.mono {C : Addr} {H H' : Hp} {x : Addr} {n d : Int} (h : Sh C H x n d) (s : Same H H') : Sh C H' x n d := by
  obtain ⟨dx, e⟩ := h
  exact ⟨dx, s _ _ e⟩
theorem ShC.ty {K : PySem.W.Frag} {C : Addr} (c : ShC K C) {H : Hp} {x : Addr} {n d : Int} (h : Sh C H x n d) : TyX K H (.ref x) (.ref C) := by
  obtain ⟨dx, e⟩ := h
  exact .base (.ins e c.ins.cl c.ins.ha c.ins.hn c.ins.htk c.ins.hm)
/-- a kind that is no share's -/
structure Foe (K : PySem.W.Frag) (C : Addr) (t : Value) : Prop where
  k : PySem.W.kitOne K t (.ref C) = some false
  nf : PySem.W.notFirst K C t = true
/-- a share is made at x, its dict at dx -/
def mkS (C : Addr) (H : Hp) (x dx : Addr) (n d : Int) : Hp := upd (upd H dx (.own x)) x (.ins C dx (fz n d))
theorem mkS_same {C : Addr} {H : Hp} {x dx : Addr} {n d : Int} (hx : H x = none) (hd : H dx = none) : Same H (mkS C H x dx n d) := (same_out (same_upd hd) hx)
theorem mkS_sh {C : Addr} {H : Hp} {x dx : Addr} {n d : Int} : Sh C (mkS C H x dx n d) x n d := ⟨dx, upd_same⟩
theorem Tp.mkSh {B H H' : Hp} {t x dx C : Addr} {c : Nat} {n d : Int} (T : Tp B H t c) (hx : H x = none) (hdx : H dx = none) (hne : dx ≠ x) (e : H' = upd (upd (upd H dx (.own x)) x (.ins C dx [])) x (.ins C dx (fz n d))) : ∃ B', Same B B' ∧ Tp B' H' t c ∧ Sh C B' x n d := by
  rw [upd_upd] at e
  subst e
  exact ⟨mkS C B x dx n d, mkS_same (T.isn hx) (T.isn hdx), T.inst hx hdx hne, mkS_sh⟩
def pick3 {α : Type} (a b c : α) : Nat → α
  | 0 => a
  | 1 => b
  | _ => c
theorem get3 {S : Nat → Addr} {i : Nat} (h : i < 3) : [V.ref (S 0), V.ref (S 1), V.ref (S 2)][i]? = some (V.ref (S i)) := by
  rcases (by omega : i = 0 ∨ i = 1 ∨ i = 2) with rfl | rfl | rfl <;> rfl
def spInit (C CN : Addr) : Sp := fun vs H Q E => ∃ x dx o u, vs = [.ref x, .int o, .int u] ∧ H x = some (.ins C dx []) ∧ u.natAbs < 2 ^ 9000 ∧
  ((u ≠ 0 ∧ ∀ H', H' = upd H x (.ins C dx (fz (rOd o u) (rUd o u))) → Q .non H') ∨ (u = 0 ∧ ∀ d, H d = none → E (.ref CN) (some d) (upd H d (.xd [("number", .int 0)]))))
/-- a binary operator of two shares -/
def spOp (C : Addr) (fo fu : Int → Int → Int → Int → Int) : Sp := fun vs H Q _ => ∃ a b n d m e, vs = [.ref a, .ref b] ∧ Sh C H a n d ∧ Sh C H b m e ∧ 0 < d ∧ 0 < e ∧ (n.natAbs < 2 ^ 4000 ∧ d.natAbs < 2 ^ 4000 ∧ m.natAbs < 2 ^ 4000 ∧ e.natAbs < 2 ^ 4000) ∧
  ∀ x dx, H x = none → H dx = none → dx ≠ x → Q (.ref x) (mkS C H x dx (rOd (fo n d m e) (fu n d m e)) (rUd (fo n d m e) (fu n d m e)))
def spAdd (C : Addr) : Sp := spOp C (fun n d m e => n * e + m * d) (fun _ d _ e => d * e)
def spSub (C : Addr) : Sp := spOp C (fun n d m e => n * e - m * d) (fun _ d _ e => d * e)
def spMul (C : Addr) : Sp := spOp C (fun n _ m _ => n * m) (fun _ d _ e => d * e)
def spEq (K : PySem.W.Frag) (C : Addr) : Sp := fun vs H Q _ => ∃ a y n d, vs = [.ref a, y] ∧ Sh C H a n d ∧ ((∃ b m e, y = .ref b ∧ Sh C H b m e ∧ Q (.bl (decide (n = m) && decide (d = e))) H) ∨ ∃ t, TyX K H y t ∧ Foe K C t ∧ Q (.bl false) H)
def spBelow (C : Addr) : Sp := fun vs H Q _ => ∃ a b n d m e, vs = [.ref a, .ref b] ∧ Sh C H a n d ∧ Sh C H b m e ∧ (n.natAbs < 2 ^ 4000 ∧ d.natAbs < 2 ^ 4000 ∧ m.natAbs < 2 ^ 4000 ∧ e.natAbs < 2 ^ 4000) ∧ Q (.bl (decide (n * e < m * d))) H
def spHalf (C : Addr) : Sp := fun vs H Q _ => ∃ n : Nat, vs = [.int n] ∧ n ≤ 8000 ∧ ∀ x dx, H x = none → H dx = none → dx ≠ x → Q (.ref x) (mkS C H x dx (rOd 1 (2 ^ n)) (rUd 1 (2 ^ n)))
end KB

/-! things: values of data on the heap -/
namespace KB
open PySem PySem.Spec PyProof.Rows L2
theorem sameT {K : PySem.W.Frag} {H H' : Hp} {a : Addr} {xs : List V} (e : Same H H') (h : SqT K H a xs) : SqT K H' a xs := by
  rcases h with (h | ⟨o, h⟩) | h
  · exact .inl (.inl (e _ _ h))
  · exact .inl (.inr ⟨o, e _ _ h⟩)
  · exact .inr h
mutual
theorem Dp.mono {K : PySem.W.Frag} {H H' : Hp} (s : Same H H') : ∀ (d : PyData) (v : V), Dp K H v d → Dp K H' v d
  | .none, _, h => by cases h; exact .non
  | .bool b, _, h => by cases h; exact .bl b
  | .int i, _, h => by cases h; exact .int i
  | .str x, _, h => by cases h; exact .str x
  | .list ds, _, h => by
    cases h with
    | lst hs ha => exact .lst (s.seq hs) (DpAll.mono s ds _ ha)
  | .tuple ds, _, h => by
    cases h with
    | tup hs ha => exact .tup (sameT s hs) (DpAll.mono s ds _ ha)
  | .dict _, _, h => by cases h
theorem DpAll.mono {K : PySem.W.Frag} {H H' : Hp} (s : Same H H') : ∀ (ds : List PyData) (vs : List V), DpAll K H vs ds → DpAll K H' vs ds
  | [], _, h => by cases h; exact .nil
  | d :: ds, _, h => by
    cases h with
    | cons h1 h2 => exact .cons (Dp.mono s d _ h1) (DpAll.mono s ds _ h2)
end
theorem DpAll.len {K : PySem.W.Frag} {H : Hp} : ∀ {ds : List PyData} {vs : List V}, DpAll K H vs ds → vs.length = ds.length
  | [], _, h => by cases h; rfl
  | d :: ds, _, h => by
    cases h with
    | cons h1 h2 => rw [List.length_cons, List.length_cons, DpAll.len h2]
theorem DpAll.get {K : PySem.W.Frag} {H : Hp} : ∀ {ds : List PyData} {vs : List V} {k : Nat} {d : PyData}, DpAll K H vs ds → ds[k]? = some d → ∃ v, vs[k]? = some v ∧ Dp K H v d
  | [], _, _, _, _, e => by simp at e
  | d :: ds, _, 0, d', h, e => by
    cases h with
    | cons h1 h2 =>
      cases Option.some.inj e
      exact ⟨_, rfl, h1⟩
  | d :: ds, _, k + 1, d', h, e => by
    cases h with
    | cons h1 h2 =>
      obtain ⟨v, h3, h4⟩ := DpAll.get h2 (show ds[k]? = some d' from e)
      exact ⟨v, h3, h4⟩
theorem DpAll.get' {K : PySem.W.Frag} {H : Hp} {ds : List PyData} {vs : List V} {k : Nat} {v : V} (h : DpAll K H vs ds) (e : vs[k]? = some v) : ∃ d, ds[k]? = some d ∧ Dp K H v d := by
  have hk : k < vs.length := (List.getElem?_eq_some_iff.mp e).1
  have hk' : k < ds.length := by rw [← DpAll.len h]; exact hk
  obtain ⟨v', h3, h4⟩ := DpAll.get h (List.getElem?_eq_getElem hk')
  rw [e] at h3
  cases Option.some.inj h3
  exact ⟨_, List.getElem?_eq_getElem hk', h4⟩
theorem DpAll.snoc {K : PySem.W.Frag} {H : Hp} {v : V} {d : PyData} (hd : Dp K H v d) : ∀ {ds : List PyData} {vs : List V}, DpAll K H vs ds → DpAll K H (vs ++ [v]) (ds ++ [d])
  | [], _, h => by cases h; exact .cons hd .nil
  | e :: ds, _, h => by
    cases h with
    | cons h1 h2 => exact .cons h1 (DpAll.snoc hd h2)
/-- data of a height below n, its sequences not long -/
def okD : Nat → PyData → Bool
  | 0, _ => false
  | _ + 1, .none => true
  | _ + 1, .bool _ => true
  | _ + 1, .int _ => true
  | _ + 1, .str _ => true
  | n + 1, .list ds => decide (ds.length ≤ 100000) && ds.all (okD n)
  | n + 1, .tuple ds => decide (ds.length ≤ 100000) && ds.all (okD n)
  | _ + 1, .dict _ => false
theorem okD_seq {n : Nat} {ds : List PyData} (h : (decide (ds.length ≤ 100000) && ds.all (okD n)) = true) : ds.length ≤ 100000 ∧ ∀ d ∈ ds, okD n d = true := by
  rw [Bool.and_eq_true] at h
  exact ⟨of_decide_eq_true h.1, List.all_eq_true.mp h.2⟩
theorem okD_mk {n : Nat} {ds : List PyData} (h1 : ds.length ≤ 100000) (h2 : ∀ d ∈ ds, okD n d = true) : (decide (ds.length ≤ 100000) && ds.all (okD n)) = true := by
  rw [Bool.and_eq_true]
  exact ⟨decide_eq_true h1, List.all_eq_true.mpr h2⟩
theorem ty_seq {K : PySem.W.Frag} {H : Hp} {a : Addr} {xs : List V} (h : SqL K H a xs) : TyX K H (.ref a) (.type "list") := by
  rcases h with (h | ⟨o, h⟩) | ⟨o, its, n, h1, h2, _⟩
  · exact .base (.lst h)
  · exact .base (.frz h)
  · exact .kList h1 h2
theorem ty_tup {K : PySem.W.Frag} {H : Hp} {a : Addr} {xs : List V} (h : SqT K H a xs) : TyX K H (.ref a) (.type "tuple") := by
  rcases h with (h | ⟨o, h⟩) | ⟨o, its, n, h1, h2, _⟩
  · exact .base (.tup h)
  · exact .fTuple h
  · exact .kTuple h1 h2
def tn : PyData → String
  | .none => "NoneType"
  | .bool _ => "bool"
  | .int _ => "int"
  | .str _ => "str"
  | .list _ => "list"
  | .tuple _ => "tuple"
  | .dict _ => "dict"
theorem ty_dp {K : PySem.W.Frag} {H : Hp} {d : PyData} {v : V} (h : Dp K H v d) : TyX K H v (.type (tn d)) := by
  cases h with
  | non => exact .base .non
  | bl b => exact .base (.bl b)
  | int i => exact .base (.int i)
  | str x => exact .base (.str x)
  | lst hs _ => exact ty_seq hs
  | tup hs _ => exact ty_tup hs
/-- x is b, b a bool -/
theorem op_isB {X : Cx} : OpR X (compareOp .Is) (fun x y H Q => ∃ b, y = .bl b ∧ Q (.bl (decide (x = .bl b))) H) := by
  intro pins s σ H x y v u Q I rx ry h
  obtain ⟨b, rfl, q⟩ := h
  cases (show u = Value.bool b from ry)
  have go : ∀ v : Value, PySem.plainIs v (.bool b) = true → RelV x v → wpAny (model X.prog X.w) X.A (compareOp .Is v (.bool b)) (EP X pins σ Q) X.xe s := fun v hp r => by
    refine PySem.wpAny_is_plain hp ⟨.bl (v == .bool b), H, I, rfl, ?_⟩
    have e : (v == Value.bool b) = decide (x = .bl b) := by
      rw [Bool.eq_iff_iff, beq_iff_eq, decide_eq_true_iff]
      constructor
      · intro z
        subst z
        exact RelV.inj r rfl
      · intro z
        subst z
        exact r
    rw [e]
    exact q
  refine go v ?_ rx
  cases x with
  | non => cases rx; rfl
  | bl j => cases rx; rfl
  | int j => obtain ⟨t, rfl⟩ := rx; rfl
  | str j => obtain ⟨t, rfl⟩ := rx; rfl
  | byt j => obtain ⟨t, rfl⟩ := rx; rfl
  | flt j => obtain ⟨t, rfl⟩ := rx; rfl
  | ref j => cases rx; rfl
  | ty j => cases rx; rfl
def spSame (K : PySem.W.Frag) (n : Nat) : Sp := fun vs H Q _ => ∃ x y d, vs = [x, y] ∧ okD n d = true ∧ Dp K H x d ∧ Dp K H y d ∧ Q (.bl true) H
/-- N: cells that are new behind H, as they stand in H' -/
structure Nw (N H H' : Hp) : Prop where
  same : Same N H'
  new : ∀ p, N p ≠ none → H p = none
def mrg (N M : Hp) : Hp := fun p => match N p with
  | some o => some o
  | none => M p
theorem mrg_l {N M : Hp} : Same N (mrg N M) := fun p o e => by
  unfold mrg
  rw [e]
theorem mrg_r {N M : Hp} (h : ∀ p, M p ≠ none → N p = none) : Same M (mrg N M) := fun p o e => by
  unfold mrg
  rw [h p (by rw [e]; exact fun z => by cases z)]
  exact e
theorem mrg_none {N M : Hp} {p : Addr} (h1 : N p = none) (h2 : M p = none) : mrg N M p = none := by
  unfold mrg
  rw [h1]
  exact h2
theorem mrg_same {N M H : Hp} (h1 : Same N H) (h2 : Same M H) : Same (mrg N M) H := fun p o e => by
  unfold mrg at e
  split at e
  · rename_i o' e'
    cases e
    exact h1 _ _ e'
  · exact h2 _ _ e
theorem Nw.nil {H : Hp} : Nw (fun _ => none) H H := ⟨fun _ _ e => (by cases e), fun _ h => absurd rfl h⟩
theorem Nw.disj {N M H H1 H2 : Hp} (h1 : Nw N H H1) (h2 : Nw M H1 H2) : ∀ p, M p ≠ none → N p = none := fun p h => h1.same.free (h2.new p h)
theorem Nw.add {N M H H1 H2 : Hp} (h1 : Nw N H H1) (h2 : Nw M H1 H2) (s : Same H H1) (s2 : Same H1 H2) : Nw (mrg N M) H H2 := by
  refine ⟨mrg_same (h1.same.trans s2) h2.same, fun p h => ?_⟩
  cases e : N p with
  | some o => exact h1.new p (by rw [e]; exact fun z => by cases z)
  | none =>
    refine s.free (h2.new p fun z => h ?_)
    exact mrg_none e z
theorem Nw.put {N H H1 : Hp} {l : Addr} {o : HO} (h1 : Nw N H H1) (s : Same H H1) (hl : H1 l = none) : Nw (upd N l o) H (upd H1 l o) := by
  refine ⟨same_set h1.same, fun p h => ?_⟩
  by_cases e : p = l
  · subst e
    exact s.free hl
  · rw [upd_ne e] at h
    exact h1.new p h
theorem Nw.out {N H H1 : Hp} {l : Addr} {o : HO} (h1 : Nw N H H1) (hl : N l = none) : Nw N H (upd H1 l o) := ⟨same_out h1.same hl, h1.new⟩
theorem Nw.own {N H H1 : Hp} {l : Addr} {o : HO} (h1 : Nw N H H1) (hl : H l = none) (e : H1 l = some o) : Nw (upd N l o) H H1 := by
  refine ⟨fun p x hx => ?_, fun p h => ?_⟩
  · by_cases z : p = l
    · subst z
      rw [upd_same] at hx
      cases hx
      exact e
    · rw [upd_ne z] at hx
      exact h1.same _ _ hx
  · by_cases z : p = l
    · subst z
      exact hl
    · rw [upd_ne z] at h
      exact h1.new p h
def spCopy (K : PySem.W.Frag) (n : Nat) : Sp := fun vs H Q _ => ∃ x d, vs = [x] ∧ okD n d = true ∧ Dp K H x d ∧ ∀ H' v N, Same H H' → Nw N H H' → Dp K N v d → Q v H'
end KB
namespace KB
open PySem PySem.Spec PyProof.Rows L2
/-- a text so many times -/
def repS (z : Str) (k : Int) : Str := ⟨((List.replicate k.toNat z.cps.toList).flatten).toArray⟩
theorem foldl_app (z : Array Nat) : ∀ (n : Nat) (b : Array Nat), ((List.replicate n z).foldl (· ++ ·) b).toList = b.toList ++ (List.replicate n z.toList).flatten
  | 0, b => by simp
  | n + 1, b => by
    rw [List.replicate_succ, List.foldl_cons, foldl_app z n, List.replicate_succ, List.flatten_cons, Array.toList_append, List.append_assoc]
theorem repS_len (z : Str) (k : Int) : (repS z k).length = k.toNat * z.length := by
  show ((List.replicate k.toNat z.cps.toList).flatten.toArray).size = _
  rw [List.size_toArray, List.length_flatten]
  simp
  rfl
def rRepS : R2 := fun x y H Q => ∃ (z : Str) (k : Int), x = .str z ∧ y = .int k ∧ -(2 ^ 63) ≤ k ∧ k < 2 ^ 63 ∧ k.toNat * z.length ≤ 16777216 ∧ Q (.str (repS z k)) H
theorem op_repS {X : Cx} : OpR X (binaryOp .Mult) rRepS := by
  intro pins s σ H x y v u Q I rx ry h
  obtain ⟨z, k, rfl, rfl, h1, h2, hz, q⟩ := h
  obtain ⟨t, rfl⟩ := rx
  obtain ⟨t', rfl⟩ := ry
  have hk : ¬ k < 1 → ((k.toNat * z.length : Nat) : Int) = (z.length : Int) * k := fun hk => by
    rw [Int.natCast_mul, Int.toNat_of_nonneg (by omega), Int.mul_comm]
  refine PySem.P.mul_str (by rw [decide_eq_false (by omega), decide_eq_false (by omega)] <;> rfl) (fun hk1 _ hgt => ?_) (fun hk1 _ => ?_) ?_
  · have e := hk hk1
    have : (z.length : Int) ≤ (2 ^ 63 - 1) / k := Int.le_ediv_of_mul_le (by omega) (by omega)
    omega
  · rw [Nat.mul_comm]
    unfold Builtin.Str.tooLong
    have e := sizeLine_eq
    simp only [decide_eq_false_iff_not]
    omega
  · have len := repS_len z k
    have e1 : k < 1 → Str.empty = repS z k := fun h => by
      unfold repS
      rw [show k.toNat = 0 by omega]
      rfl
    have e2 : (k == 1 || z.length == 0) = true → z = repS z k := fun h => by
      unfold repS
      rw [Bool.or_eq_true, beq_iff_eq, beq_iff_eq] at h
      rcases h with h | h
      · subst h
        obtain ⟨c⟩ := z
        simp
      · obtain ⟨c⟩ := z
        have : c = #[] := Array.eq_empty_of_size_eq_zero h
        subst this
        simp
    have e3 : (⟨(List.replicate k.toNat z.cps).foldl (· ++ ·) #[]⟩ : Str) = repS z k := by
      unfold repS
      congr 1
      apply Array.toList_inj.mp
      rw [foldl_app]
      simp
    have sl := sizeLine_eq
    by_cases c1 : k < 1
    · rw [if_pos c1, e1 c1]
      exact ⟨by rw [len]; omega, .str _, H, I.tok _, ⟨_, rfl⟩, q⟩
    · rw [if_neg c1]
      by_cases c2 : (k == 1 || z.length == 0) = true
      · rw [if_pos c2]
        rw [← e2 c2] at q
        exact ⟨.str _, H, I, ⟨_, rfl⟩, q⟩
      · rw [if_neg c2, e3]
        exact ⟨by rw [len]; omega, .str _, H, I.tok _, ⟨_, rfl⟩, q⟩
end KB
namespace KB
open PySem PySem.Spec PyProof.Rows L2
theorem Tp.shrink {B B' H : Hp} {t : Addr} {c : Nat} (T : Tp B' H t c) (s : Same B B') : Tp B H t c := by
  obtain ⟨sm, bt, g, gs, sd, ct, h1, h2⟩ := T
  exact ⟨s.trans sm, s.free bt, g, gs, sd, ct, s.free h1, h2⟩
theorem mrg_e {B : Hp} : mrg B (fun _ => none) = B := by
  funext p
  unfold mrg
  split
  · rename_i o e
    exact e.symm
  · rename_i e
    exact e.symm
theorem mrg_assoc {B N M : Hp} : mrg (mrg B N) M = mrg B (mrg N M) := by
  funext p
  unfold mrg
  cases B p <;> cases N p <;> rfl
theorem mrg_upd {B N : Hp} {D : Addr} {o : HO} : mrg (upd B D o) N = upd (mrg B N) D o := by
  funext p
  unfold mrg upd
  by_cases h : p = D
  · simp only [if_pos h]
  · simp only [if_neg h]
theorem mrg_move {B N : Hp} {D : Addr} {o : HO} (hB : B D = none) : mrg (upd B D o) N = mrg B (upd N D o) := by
  funext p
  unfold mrg upd
  by_cases h : p = D
  · subst h
    simp only [if_true, hB]
  · simp only [if_neg h]
theorem mrg_put {B N : Hp} {D : Addr} {o : HO} (hB : B D = none) : upd (mrg B N) D o = mrg B (upd N D o) := by rw [← mrg_upd, mrg_move hB]
/-- N's cells are new behind H -/
def New (N H : Hp) : Prop := ∀ p, N p ≠ none → H p = none
theorem New.nil {H : Hp} : New (fun _ => none) H := fun _ h => absurd rfl h
theorem New.off {N H : Hp} {p : Addr} {o : HO} (h : New N H) (e : H p = some o) : N p = none := by
  cases z : N p with
  | none => rfl
  | some o' =>
    have := h p (by rw [z]; exact fun z => by cases z)
    rw [e] at this
    cases this
theorem New.put {N H : Hp} {p : Addr} {o : HO} (h : New N H) (hp : H p = none) : New (upd N p o) H := fun q hq => by
  by_cases e : q = p
  · subst e
    exact hp
  · rw [upd_ne e] at hq
    exact h q hq
theorem New.r {B N H : Hp} (h : New N H) (s : Same B H) : Same N (mrg B N) := mrg_r fun p hp => s.free (h p hp)
/-- the tape behind a def that drew a thing: N is the thing -/
theorem Tp.e {B H : Hp} {t : Addr} {c : Nat} (T : Tp B H t c) : Tp (mrg B (fun _ => none)) H t c := by rw [mrg_e]; exact T
theorem at_some {α : Type} {xs : List α} {i : Int} (h0 : 0 ≤ i) (h1 : i < xs.length) : ∃ c, atI xs i = some c := by
  obtain ⟨j, rfl⟩ := nat_of h0
  exact ⟨_, atI_nat (List.getElem?_eq_getElem (by omega))⟩
end KB
namespace KB
open PySem PySem.Spec PyProof.Rows L2
theorem New.mrg {B N M : Hp} (h1 : New N B) (h2 : New M (mrg B N)) : New (mrg N M) B := fun p hp => by
  cases e : N p with
  | some o => exact h1 p (by rw [e]; exact fun z => by cases z)
  | none =>
    have : M p ≠ none := fun z => hp (mrg_none e z)
    have h3 := h2 p this
    unfold KB.mrg at h3
    cases eB : B p with
    | none => rfl
    | some o => rw [eB] at h3; cases h3
theorem mrg_nl {B N : Hp} {p : Addr} (h : mrg B N p = none) : B p = none := by
  unfold mrg at h
  cases e : B p with
  | none => rfl
  | some o => rw [e] at h; cases h
theorem mrg_nr {B N : Hp} {p : Addr} (h : mrg B N p = none) : N p = none := by
  have hb := mrg_nl h
  unfold mrg at h
  rw [hb] at h
  exact h
theorem dp_ints {K : PySem.W.Frag} {N : Hp} : ∀ is : List Int, DpAll K N (is.map V.int) (is.map PyData.int)
  | [] => .nil
  | i :: is => .cons (.int i) (dp_ints is)
/-- a list of things at D, drawn: ready to be handed on -/
structure Lst (K : PySem.W.Frag) (B H : Hp) (t : Addr) (c : Nat) (D : Addr) (zs : List V) (ds : List PyData) (N : Hp) : Prop where
  tp : Tp (mrg (upd B D (.lst zs)) N) H t c
  new : New N B
  bD : B D = none
  nD : N D = none
  all : DpAll K N zs ds
theorem Lst.ini {K : PySem.W.Frag} {B H : Hp} {t D : Addr} {c : Nat} (T : Tp B H t c) (hD : H D = none) : Lst K B (upd H D (.lst [])) t c D [] [] (fun _ => none) :=
  ⟨by rw [mrg_e]; exact T.new hD, New.nil, T.isn hD, rfl, .nil⟩
theorem Lst.hD {K : PySem.W.Frag} {B H : Hp} {t D : Addr} {c : Nat} {zs : List V} {ds : List PyData} {N : Hp} (L : Lst K B H t c D zs ds N) : H D = some (.lst zs) := L.tp.at (mrg_l _ _ upd_same)
/-- one thing more -/
theorem Lst.add {K : PySem.W.Frag} {B H H' : Hp} {t D : Addr} {c c' : Nat} {zs : List V} {ds : List PyData} {N M : Hp} {v : V} {d : PyData} (L : Lst K B H t c D zs ds N) (T : Tp (mrg (mrg (upd B D (.lst zs)) N) M) H' t c') (hM : New M (mrg (upd B D (.lst zs)) N)) (hv : Dp K M v d) :
    H' D = some (.lst zs) ∧ Lst K B (upd H' D (.lst (zs ++ [v]))) t c' D (zs ++ [v]) (ds ++ [d]) (mrg N M) := by
  rw [mrg_assoc] at T
  have hb : mrg (upd B D (.lst zs)) (mrg N M) D = some (.lst zs) := mrg_l _ _ upd_same
  have T2 := T.set (o' := .lst (zs ++ [v])) hb
  rw [← mrg_upd, upd_upd] at T2
  have mD : M D = none := hM.off (mrg_l _ _ upd_same)
  have dj : ∀ p, M p ≠ none → N p = none := fun p hp => mrg_nr (hM p hp)
  refine ⟨T.at hb, T2, L.new.mrg (M := M) fun p hp => ?_, L.bD, mrg_none L.nD mD, DpAll.snoc (Dp.mono (mrg_r dj) _ _ hv) (DpAll.mono mrg_l _ _ L.all)⟩
  have z := hM p hp
  have zn := mrg_nr z
  have zb := mrg_nl z
  refine mrg_none ?_ zn
  by_cases e : p = D
  · subst e
    exact L.bD
  · rw [upd_ne e] at zb
    exact zb
theorem Lst.asList {K : PySem.W.Frag} {B H : Hp} {t D : Addr} {c : Nat} {zs : List V} {ds : List PyData} {N : Hp} (L : Lst K B H t c D zs ds N) : Tp (mrg B (upd N D (.lst zs))) H t c ∧ New (upd N D (.lst zs)) B ∧ Dp K (upd N D (.lst zs)) (.ref D) (.list ds) :=
  ⟨by rw [← mrg_move L.bD]; exact L.tp, L.new.put L.bD, .lst (SqL.of upd_same) (DpAll.mono (same_upd L.nD) _ _ L.all)⟩
theorem Lst.asTup {K : PySem.W.Frag} {B H : Hp} {t D l : Addr} {c : Nat} {zs : List V} {ds : List PyData} {N : Hp} (L : Lst K B H t c D zs ds N) (hl : H l = none) : ∃ M, Tp (mrg B M) (upd H l (.tup zs)) t c ∧ New M B ∧ Dp K M (.ref l) (.tuple ds) := by
  have z := L.tp.isn hl
  have bl : upd B D (.lst zs) l = none := mrg_nl z
  have nl : N l = none := mrg_nr z
  have hne : D ≠ l := ne_of_none upd_same bl
  have bl2 : B l = none := by rw [upd_ne hne.symm] at bl; exact bl
  have T := L.tp.new (o := .tup zs) hl
  rw [mrg_put bl, mrg_move L.bD] at T
  have nD2 : upd N l (.tup zs) D = none := by rw [upd_ne hne]; exact L.nD
  exact ⟨_, T, (L.new.put bl2).put L.bD, .tup (SqT.of (same_upd nD2 _ _ upd_same)) (DpAll.mono ((same_upd nl).trans (same_upd nD2)) _ _ L.all)⟩
end KB
namespace KB
open PySem PySem.Spec PyProof.Rows L2
def isI : V → Bool
  | .int _ => true
  | _ => false
def isS (m : Nat) : V → Bool
  | .str z => decide (z.length ≤ m)
  | _ => false
theorem at_int {xs : List V} {i : Int} (h0 : 0 ≤ i) (h1 : i < xs.length) (h : xs.all isI = true) : ∃ z, atI xs i = some (.int z) := by
  obtain ⟨j, rfl⟩ := nat_of h0
  have e := List.getElem?_eq_getElem (l := xs) (i := j) (by omega)
  have m := List.all_eq_true.mp h _ (List.mem_of_getElem? e)
  cases q : xs[j]'(by omega) with
  | int z => exact ⟨z, atI_nat (by rw [e, q])⟩
  | _ => rw [q] at m; cases m
theorem at_str {m : Nat} {xs : List V} {i : Int} (h0 : 0 ≤ i) (h1 : i < xs.length) (h : xs.all (isS m) = true) : ∃ z : Str, atI xs i = some (.str z) ∧ z.length ≤ m := by
  obtain ⟨j, rfl⟩ := nat_of h0
  have e := List.getElem?_eq_getElem (l := xs) (i := j) (by omega)
  have mm := List.all_eq_true.mp h _ (List.mem_of_getElem? e)
  cases q : xs[j]'(by omega) with
  | str z => exact ⟨z, atI_nat (by rw [e, q]), by rw [q] at mm; exact of_decide_eq_true mm⟩
  | _ => rw [q] at mm; cases mm
end KB
namespace KB
open PySem PySem.Spec PyProof.Rows L2
theorem str_app_len (a b : Str) : (a ++ b).length = a.length + b.length := by
  show (a.cps ++ b.cps).size = a.cps.size + b.cps.size
  rw [Array.size_append]
end KB

/-! a number in base two: f'{n:b}' -/
namespace KB
open PySem PySem.Spec PyProof.Rows L2
def dgB (n : Nat) : List Nat := (Nat.toDigits 2 n).map fun c => c.toNat
def binS (n : Nat) : Str := ⟨(dgB n).toArray⟩
def padB (ds : List Nat) : List Nat := List.replicate (((-1 : Int) - ((([] : List Nat).length : Nat) + (([] : List Nat).length : Nat) + (([] : List Nat).length : Nat) : Int)) - ds.length).toNat 32
def dsB (n : Nat) : List Nat := if (dgB n).isEmpty then [] else List.replicate ((0 : Int).toNat - (dgB n).length) 48 ++ dgB n
theorem int_fmt (n : Nat) (t u : Tok) : Builtin.«int.__format__» ⟨[.int (n : Int) t, .str ("b" : Str) u], []⟩ = (typeNameOf (.str ("b" : Str) u) >>= fun _ => typeNameOfCut 200 (.int (n : Int) t) >>= fun _ => retStr ⟨(padB (dsB n) ++ [] ++ [] ++ List.replicate 0 32 ++ dsB n ++ [] ++ List.replicate 0 32).toArray⟩) := by
  rfl
theorem binS_eq (n : Nat) : (⟨(padB (dsB n) ++ [] ++ [] ++ List.replicate 0 32 ++ dsB n ++ [] ++ List.replicate 0 32).toArray⟩ : Str) = binS n := by
  have e1 : padB (dsB n) = [] := by
    unfold padB
    rw [show (((-1 : Int) - ((([] : List Nat).length : Nat) + (([] : List Nat).length : Nat) + (([] : List Nat).length : Nat) : Int)) - (dsB n).length).toNat = 0 by simp]
    rfl
  have e2 : dsB n = dgB n := by
    unfold dsB
    split
    · rename_i h
      exact (List.isEmpty_iff.mp h).symm
    · show List.replicate (0 - (dgB n).length) 48 ++ dgB n = dgB n
      rw [Nat.zero_sub]
      rfl
  rw [e1, e2]
  unfold binS
  simp
theorem gives_fmtB (n : Nat) (t u : Tok) : Gives (Builtin.«int.__format__» ⟨[.int (n : Int) t, .str ("b" : Str) u], []⟩) (.str (binS n)) := by
  rw [int_fmt, binS_eq]
  intro prog w A R s hq
  refine wpAny_bind (wpAny_typeNameOf (T := "str") (typeIs_str _ _ _) (by decide) fun _ => ?_)
  refine wpAny_bind (wpAny_typeNameOfCut_int ?_)
  exact (Gives.of_eq (t := retStr (binS n)) (m := .str (binS n)) rfl) prog w A R s hq
/-- {n:b}, n a number -/
def tFmtB (te : TE) : TE := fun σ H Q => te σ H fun x H1 => ∃ n : Nat, x = .int n ∧ (binS n).length ≤ sizeLine ∧ Q (.str (binS n)) H1
theorem pe_fmtB {X : Cx} {e sp : Expr} {te : TE} {pos : Pos} (he : PE X e te) (hs : PE X sp (tC (.str "b"))) : PE X (.FormattedValue e (-1) (some sp) pos) (tFmtB te) := by
  refine ⟨fun pins s σ H Q I h => ?_⟩
  refine wpAny_FormattedValue_spec (thn (he.run pins s σ H _ I h) fun v s1 ⟨x, H1, I1, r1, n, ex, hz, q⟩ => ?_)
  subst ex
  obtain ⟨t, rfl⟩ := r1
  refine thn (hs.run pins s1 σ H1 (fun y H2 => y = .str "b" ∧ Q (.str (binS n)) H2) I1 ⟨rfl, q⟩) fun r s2 ⟨y, H2, I2, r2, ey, q2⟩ => ?_
  subst ey
  obtain ⟨t2, rfl⟩ := r2
  refine ⟨_, _, rfl, ?_⟩
  exact wpAny_formatField_spec (T := "int") (by decide) (fun s' => typeIs_int s' _ _) F.slot_int_format F.entry_int_format F.args_int_format_2 (fun u => gives_fmtB n t u) ⟨.str (binS n), H2, (I2.tok _), ⟨_, rfl⟩, q2⟩ (by rw [sizeLine_eq]; decide) hz
end KB

/-! words: texts of the signs 0 and 1 -/
namespace KB
open PySem PySem.Spec PyProof.Rows L2 Builtin.Str
theorem tw_len {p : Nat → Bool} : ∀ l : List Nat, (l.takeWhile p).length ≤ l.length
  | [] => Nat.le_refl _
  | c :: r => by
    rw [List.takeWhile_cons]
    split
    · rw [List.length_cons, List.length_cons]
      exact Nat.succ_le_succ (tw_len r)
    · exact Nat.zero_le _
theorem tw_all {p : Nat → Bool} : ∀ l : List Nat, (l.takeWhile p).length = l.length ↔ l.all p = true
  | [] => by simp
  | c :: r => by
    rw [List.takeWhile_cons, List.all_cons, List.length_cons]
    cases h : p c with
    | true =>
      rw [if_pos rfl, List.length_cons, Bool.true_and, ← tw_all r]
      omega
    | false => simp
theorem tw_drop {p : Nat → Bool} : ∀ l : List Nat, l.all p = false → ∃ c r, l.drop (l.takeWhile p).length = c :: r ∧ p c = false
  | [], h => by cases h
  | c :: r, h => by
    rw [List.takeWhile_cons]
    cases hc : p c with
    | true =>
      rw [if_pos rfl, List.length_cons, List.drop_succ_cons]
      rw [List.all_cons, hc, Bool.true_and] at h
      exact tw_drop r h
    | false =>
      rw [if_neg (by simp)]
      exact ⟨c, r, rfl, hc⟩
theorem strSub_len (z : Str) (lo hi : Nat) (h : hi ≤ z.length) : (strSub z lo hi).length = hi - lo := by
  show (z.cps.extract lo hi).size = hi - lo
  rw [Array.size_extract]
  have h' : hi ≤ z.cps.size := h
  omega
theorem strip_len {p : Nat → Bool} (z : Str) : (Txt.stripBy p true true z).length = 0 ↔ z.cps.toList.all p = true := by
  have hn : z.cps.toList.length = z.length := Array.length_toList
  have hlo : stripLo p true z = (z.cps.toList.takeWhile p).length := by unfold stripLo; rw [if_pos rfl]
  have hle := tw_len (p := p) z.cps.toList
  cases ha : z.cps.toList.all p with
  | true =>
    have e := (tw_all z.cps.toList).mpr ha
    refine ⟨fun _ => rfl, fun _ => ?_⟩
    have hhi : stripHi p true z (stripLo p true z) = z.length := by
      unfold stripHi
      rw [if_pos rfl, hlo, e, List.drop_length]
      simp
    unfold Txt.stripBy stripSame stripped
    rw [hhi, hlo, e, hn]
    split
    · rename_i h
      simp at h
      exact h
    · rw [strSub_len _ _ _ (Nat.le_refl _), Nat.sub_self]
  | false =>
    refine ⟨fun h => ?_, fun h => by cases h⟩
    exfalso
    obtain ⟨c, r, hd, hc⟩ := tw_drop z.cps.toList ha
    have hk : (((z.cps.toList.drop (z.cps.toList.takeWhile p).length).reverse).takeWhile p).length < (z.cps.toList.drop (z.cps.toList.takeWhile p).length).length := by
      have h1 := tw_len (p := p) (z.cps.toList.drop (z.cps.toList.takeWhile p).length).reverse
      rw [List.length_reverse] at h1
      rcases Nat.lt_or_ge (((z.cps.toList.drop (z.cps.toList.takeWhile p).length).reverse).takeWhile p).length (z.cps.toList.drop (z.cps.toList.takeWhile p).length).length with h2 | h2
      · exact h2
      · have h3 := (tw_all (p := p) (z.cps.toList.drop (z.cps.toList.takeWhile p).length).reverse).mp (by rw [List.length_reverse]; omega)
        rw [List.all_reverse, hd, List.all_cons, hc] at h3
        cases h3
    rw [List.length_drop] at hk
    have hhi : stripHi p true z (stripLo p true z) = z.length - (((z.cps.toList.drop (z.cps.toList.takeWhile p).length).reverse).takeWhile p).length := by
      unfold stripHi
      rw [if_pos rfl, hlo]
    unfold Txt.stripBy stripSame stripped at h
    split at h
    · omega
    · rw [hhi, hlo, strSub_len _ _ _ (by omega)] at h
      omega
/-- all signs 0 or 1 -/
def isB (z : Str) : Bool := z.cps.toList.all (("01" : Str)).cps.contains
theorem strip01 (z : Str) : decide (V.str (Txt.stripChars z "01") = V.str "") = isB z := by
  have h := strip_len (p := (("01" : Str)).cps.contains) z
  rw [Bool.eq_iff_iff, decide_eq_true_iff]
  unfold isB
  rw [← h]
  constructor
  · intro e
    have e' := V.str.inj e
    show (Txt.stripChars z "01").length = 0
    rw [e'] <;> rfl
  · intro e
    have e' : (Txt.stripChars z "01").length = 0 := e
    congr 1
    generalize Txt.stripChars z "01" = y at e'
    obtain ⟨y⟩ := y
    have : y = #[] := Array.eq_empty_of_size_eq_zero e'
    subst this
    rfl
theorem isB_mem {z : Str} (h : isB z = true) {c : Nat} (hc : c ∈ z.cps.toList) : c = 48 ∨ c = 49 := by
  have := List.all_eq_true.mp h c hc
  have e : (("01" : Str)).cps = #[48, 49] := by decide
  rw [e] at this
  simpa using this
/-- is_word, of a datum -/
def isW : PyData → Bool
  | .str z => isB z
  | _ => false
def spIsWord (K : PySem.W.Frag) : Sp := fun vs H Q _ => ∃ v d, vs = [v] ∧ Dp K H v d ∧ (∀ z, d = .str z → z.length ≤ 100000) ∧ Q (.bl (isW d)) H
end KB
namespace KB
open PySem PySem.Spec PyProof.Rows L2
/-! ### enumerate(text) -/
def Ites (x : Str) : It := ⟨fun i _ => i < x.cps.size, fun i H v H' => ∃ T c, v = .ref T ∧ H T = none ∧ H' = upd H T (.tup [.int (i : Nat), .str ⟨#[c]⟩]) ∧ x.cps[i]? = some c, fun i _ => i = x.cps.size⟩
theorem turn_enumS {P : Program} {w : World} {K : PySem.W.Frag} {elts : List Expr} {kk : Nat} {tpos : Pos} (e it : Addr) (x : Str) (t : Tok) :
    Turn P w K (.Tuple elts kk tpos) (Ites x) [e, it] e (fun i h => (∃ old, IsEnum h e it ((i : Nat) : Int) old) ∧ h.IsStrIter it (strIterType x) x t i ∧ e ≠ it) where
  mem := by simp
  obj := fun i h st b hb => by
    obtain ⟨⟨old, he⟩, ⟨o, ho, hc, hd⟩, _⟩ := st
    have e' : b = e ∨ b = it := by simpa using hb
    rcases e' with z | z
    · rw [z]; exact ⟨_, he, fun v q => nomatch q⟩
    · rw [z]; exact ⟨o, ho, fun v q => by rw [hd] at q; cases q⟩
  keep := fun i h h' st k => let ⟨⟨old, he⟩, ⟨o, ho, r⟩, hne⟩ := st; ⟨⟨old, k e (by simp) _ he⟩, ⟨o, k it (by simp) o ho, r⟩, hne⟩
  item := by
    intro X hP hw hK hc i pins s σ H E I hf st hg
    subst hP hw hK
    obtain ⟨⟨old, he⟩, hit, hne⟩ := st
    have hel : e < s.heap.objs.size := Heap.lt_size he
    have hil : it < s.heap.objs.size := by obtain ⟨_, q, _⟩ := hit; exact Heap.lt_size q
    have D := Draws.text (prog := X.prog) (w := X.w) (A := X.A.in1) (show X.A.in1.handled = none from I.ok.hd hc) it x t
    refine wpAny_pyNext_enum_itemD (A := X.A) D he hit hg hne (by simpa using hne) fun v h' tk hv ho hit' hT hsz hk => ?_
    obtain ⟨c, u, hcx, rfl⟩ := hv
    refine ⟨_, rfl, wpAny_letOwnedTupleGo_enum (s := { s with heap := h', toks := tk + 1 }) ho fun h'' he' sb => ?_⟩
    have hT2 : h''.get? s.heap.objs.size = some { cls := .type "tuple", data := .seq #[.int i tk, .str ⟨#[c]⟩ u] } := (sb.2 _ (Nat.ne_of_gt hel)).trans hT
    have new : ObjOk X.prog X.w (upd H s.heap.objs.size (.tup [.int (i : Nat), .str ⟨#[c]⟩])) h'' s.heap.objs.size (.tup [.int (i : Nat), .str ⟨#[c]⟩]) :=
      ⟨by show 2 ≤ sizeLine; decide, [.int i tk, .str ⟨#[c]⟩ u], .cons ⟨_, rfl⟩ (.cons ⟨_, rfl⟩ .nil), ⟨_, hT2, rfl, _, rfl⟩⟩
    have I1 : Inv X pins σ (upd H s.heap.objs.size (.tup [.int (i : Nat), .str ⟨#[c]⟩])) { s with heap := h'', toks := tk + 1 } :=
      I.turnedNew (ch := [e, it]) (fun b ob hb q => (sb.2 b (fun z => hb (by simp [z]))).trans (hk b ob (fun z => hb (by simp [z])) (fun z => hb (by simp [z])) q)) hf (Nat.le_refl _) new
    refine ⟨.ref s.heap.objs.size, _, I1, rfl, ⟨_, c, rfl, I.hok.fresh (Nat.le_refl _), rfl, hcx⟩, ⟨⟨.str ⟨#[c]⟩ u, ?_⟩, ?_, hne⟩, fun b hb => ?_⟩
    · have e1 : ((i + 1 : Nat) : Int) = (i : Int) + 1 := by omega
      rw [e1]; exact he'
    · obtain ⟨o, ho', r⟩ := hit'
      exact ⟨o, (sb.2 it (Ne.symm hne)).trans ho', r⟩
    · have hb' : b < s.heap.objs.size := by
        have e' : b = e ∨ b = it := by simpa using hb
        rcases e' with z | z
        · rw [z]; exact hel
        · rw [z]; exact hil
      rw [upd_ne (Nat.ne_of_lt hb')]
      exact (hf b hb).1
  done := by
    intro X hP hw hK hc i pins s σ H E I hf st hg
    subst hP hw hK
    obtain ⟨⟨old, he⟩, hit, hne⟩ := st
    obtain ⟨f0, f1, f2, f3, f4, f5⟩ := hf it (by simp)
    have D := Draws.text (prog := X.prog) (w := X.w) (A := X.A.in1) (show X.A.in1.handled = none from I.ok.hd hc) it x t
    have en : i = x.cps.size := hg
    subst en
    exact wpAny_pyNext_enum_endD (A := X.A) D he hit fun h' eb => ⟨rfl, I.turned (t' := s.toks) (fun b o hb q => eb b o hb q) f0 f1 f3 f4 f5⟩
  self := fun A i s Q E st h => let ⟨⟨_, he⟩, _⟩ := st; wpAny_pyIter_enum he h
def iEnumS (ta : TA) : TI := fun σ H R => ta σ H fun vs H1 => ∃ x, vs = [.str x] ∧ R (Ites x) H1
theorem pi_enumS {X : Cx} {e : Expr} {ta : TA} {p pos tpos : Pos} {elts : List Expr} {kk : Nat} (hg : Gl X "enumerate") (hm : X.mg "enumerate" = none) (ha : PA X [e] ta) (hs : starEach [e] X.env = [(false, eval e X.env)] := by rfl) :
    PI X (.Tuple elts kk tpos) (.Call (.Name "enumerate" p) [e] [] pos) (iEnumS ta) := by
  refine ⟨fun pins s σ H R I h => ?_⟩
  refine Call_ (ld_blt I hg hm boot_enumerate (PyProof.Rows.callWith_type1 (thn (ha.run pos pins s σ H _ I h) fun us s1 ⟨vs, H1, I1, r1, q1⟩ => ?_) hs rfl))
  obtain ⟨x, ex, q⟩ := q1
  subst ex
  obtain ⟨u, rfl, t, rfl⟩ := vals1 r1
  refine call_enumerate_str fun h' he hit hsz hk => wpAny_pyIter_enum he ?_
  have I2 : Inv X pins σ H1 { s1 with heap := h' } := I1.kept (t' := s1.toks) hk
  refine ⟨s1.heap.objs.size + 1, [s1.heap.objs.size + 1, s1.heap.objs.size], _, _, H1, rfl, I2, turn_enumS (s1.heap.objs.size + 1) s1.heap.objs.size x t, ⟨⟨.none, he⟩, hit, Nat.succ_ne_self _⟩, fun b hb => ?_, q⟩
  have e' : b = s1.heap.objs.size + 1 ∨ b = s1.heap.objs.size := by simpa using hb
  have hle : s1.heap.objs.size ≤ b := by
    rcases e' with z | z
    · rw [z]; exact Nat.le_add_right _ _
    · rw [z]; exact Nat.le_refl _
  exact I1.fpOk hle (I1.hok.fresh hle)
/-- for at, sign in enumerate(text) -/
theorem for_enumS {x : Str} {g : TG} {tb : TS} {D : Ends} {σ : L2.St} {H : Hp} (Pv : Nat → L2.St → Hp → Prop) (h0 : Pv 0 σ H)
    (hs : ∀ i c σ H, x.cps[i]? = some c → Pv i σ H → ∀ T, H T = none → g (.ref T) σ (upd H T (.tup [.int (i : Nat), .str ⟨#[c]⟩])) fun σ2 H2 => tb { D with nx := Pv (i + 1), ct := Pv (i + 1), bk := D.nx } σ2 H2) (hd : ∀ σ H, Pv x.cps.size σ H → D.nx σ H) :
    ∃ W : Nat → Nat → L2.St → Hp → Prop, (∃ m, W 0 m σ H) ∧ ∀ i m σ H, W i m σ H →
      ((Ites x).stop i H ∧ D.nx σ H) ∨ ((Ites x).go i H ∧ ∃ N : L2.St → Hp → Prop, (∀ σ' H', N σ' H' → ∃ m', m' < m ∧ W (i + 1) m' σ' H') ∧ ∀ v H', (Ites x).yld i H v H' → g v σ H' fun σ2 H2 => tb { D with nx := N, ct := N, bk := D.nx } σ2 H2) := by
  refine ⟨fun i m σ H => m = x.cps.size - i ∧ i ≤ x.cps.size ∧ Pv i σ H, ⟨x.cps.size, by simp, Nat.zero_le _, h0⟩, ?_⟩
  rintro i m σ H ⟨rfl, hi, p⟩
  by_cases hlt : i < x.cps.size
  · refine .inr ⟨hlt, Pv (i + 1), fun σ' H' p' => ⟨x.cps.size - (i + 1), by omega, rfl, hlt, p'⟩, fun v H' y => ?_⟩
    obtain ⟨T, c, rfl, hT, rfl, hc⟩ := y
    exact hs i c σ H hc p T hT
  · have e : i = x.cps.size := by omega
    subst e
    exact .inl ⟨rfl, hd σ H p⟩
end KB

/-! sorted of a tuple of ints -/
namespace KB
open PySem PyProof.Rows Srt SrtO
section
variable {prog : Program} {w : World} {A : Around} {E : Value → Shared → Prop} {s : Shared}
theorem collect_tup {l : Addr} {vs : List Value} {Q : List Value → Shared → Prop} (hl : s.heap.IsTuple l vs.toArray)
    (h : Q vs { s with heap := (s.heap.push (seqObj "list" #[] 0)).update s.heap.objs.size (Obj.mapSeq (· ++ vs.toArray)) }) (hsz : vs.length ≤ sizeLine := by size_fits) :
    wpAny (model prog w) A (collect (.ref l)) Q E s := by
  obtain ⟨o, ho, hc, n, hd⟩ := id hl
  unfold collect
  refine wpAny_bind (wpAny_runValue (codeAny_builtin entry_proto_collect' ?_))
  show wpAny _ _ (do again (.builtin "list.__iadd__" ⟨[← newList [], .ref l], []⟩)) _ _ s
  refine wpAny_bind (wpAny_newList (wpAny_pure ⟨Code.quiet_builtin _ (by decide +kernel), codeAny_builtin entry_list_iadd' ?_⟩))
  show wpAny _ _ (Builtin.List.listExtendWith (.ref s.heap.objs.size) (.ref l) (.ref s.heap.objs.size)) _ _ { s with heap := s.heap.push (seqObj "list" #[] 0) }
  unfold Builtin.List.listExtendWith
  have ho' : (s.heap.push (seqObj "list" #[] 0)).get? l = some o := Heap.get?_push_of_some _ ho
  refine wpAny_bind (wpAny_typeOf (T := "tuple") ⟨o, ho', hc⟩ ?_)
  have ht : (Value.type "tuple" == Value.type "tuple") = true := by rfl
  rw [if_pos (by rw [ht]; simp)]
  refine wpAny_bind (listItems_at ho' hd ?_)
  refine wpAny_bind (listItems_at (xs := #[]) (n := 0) (Heap.get?_push_size _ rfl) rfl ?_)
  rw [if_neg (by simp)]
  refine wpAny_bind (listUpdate_at (xs := #[]) (n := 0) (Heap.get?_push_size _ rfl) rfl ?_ (Nat.zero_le _) (by show (#[] ++ vs.toArray).size ≤ sizeLine + 1; simp only [Array.size_append, List.size_toArray, List.length_nil]; omega))
  refine wpAny_pure ?_
  show wpAny (model prog w) A (do
      let o ← load s.heap.objs.size
      match o.data with
      | .seq xs _ => pure xs.toList
      | _ => unsupported "internal:collect") Q E { s with heap := (s.heap.push (seqObj "list" #[] 0)).update s.heap.objs.size (Obj.mapSeq (· ++ vs.toArray)) }
  refine wpAny_bind (wpAny_load (get?_update_seq (Heap.get?_push_size _ rfl) _) ?_)
  show wpAny _ _ (pure ((#[] : Array Value) ++ vs.toArray).toList) Q E _
  rw [show ((#[] : Array Value) ++ vs.toArray).toList = vs by simp]
  exact wpAny_pure h
theorem sorted_ordT {l : Addr} {vs : List Value} {ltv : Value → Value → Bool} {Q : Value → Shared → Prop} (O : Swo ltv) (hl : s.heap.IsTuple l vs.toArray) (hz : vs.length ≤ sizeLine)
    (hS : 2 ≤ vs.length → ∀ (h₁ : Heap) (a : Addr), h₁.get? a = some (seqObj "list" vs.toArray 0) → (∀ b o, s.heap.get? b = some o → b ≠ a ∧ h₁.get? b = some o) → SortableO prog w A.in1.in1 { s with heap := h₁ } a vs ltv)
    (h : ∀ out : List Value, Srtd ltv out → Stb ltv out vs → Q (.ref (s.heap.objs.size + 1)) { s with heap := sortedAll s.heap vs out.toArray }) :
    wpAny (model prog w) A (call (.builtin "sorted") [.ref l]) Q E s := by
  refine Calls.call_function_entry kind_sorted plain_sorted entry_sorted (args_sorted1 _) ?_
  unfold Builtin.«sorted»
  refine wpAny_bind (m := checkCount "sorted" 1 1 _) (wpAny_pure ?_)
  refine wpAny_bind (collect_tup hl ?_ hz)
  refine wpAny_bind (wpAny_newList ?_ hz)
  have hsz : ((s.heap.push (seqObj "list" #[] 0)).update s.heap.objs.size (Obj.mapSeq (· ++ vs.toArray))).objs.size = s.heap.objs.size + 1 := by
    rw [Heap.size_update, size_push']
  have hoL : (((s.heap.push (seqObj "list" #[] 0)).update s.heap.objs.size (Obj.mapSeq (· ++ vs.toArray))).push (seqObj "list" vs.toArray 0)).get? (s.heap.objs.size + 1) = some (seqObj "list" vs.toArray 0) := by
    rw [← hsz]; exact Heap.get?_push_size _ rfl
  have keep : ∀ b o, s.heap.get? b = some o → b ≠ s.heap.objs.size + 1 ∧ (((s.heap.push (seqObj "list" #[] 0)).update s.heap.objs.size (Obj.mapSeq (· ++ vs.toArray))).push (seqObj "list" vs.toArray 0)).get? b = some o := fun b o q => by
    have hlt : b < s.heap.objs.size := Heap.lt_size q
    refine ⟨Nat.ne_of_lt (Nat.lt_succ_of_lt hlt), Heap.get?_push_of_some _ ?_⟩
    rw [Heap.get?_update_ne _ _ _ _ (Nat.ne_of_lt hlt)]
    exact Heap.get?_push_of_some _ q
  show wpAny _ _ _ _ _ { s with heap := ((s.heap.push (seqObj "list" #[] 0)).update s.heap.objs.size (Obj.mapSeq (· ++ vs.toArray))).push (seqObj "list" vs.toArray 0) }
  rw [hsz]
  refine wpAny_bind (wpAny_holding (wpAny_call_entry slot_list_sort ⟨_, hoL, rfl⟩ entry_list_sort (list_sort_ord O hoL hz (fun h2 => hS h2 _ _ hoL keep) fun out hs hb => ⟨_, rfl, ?_⟩) (args_list_sort _)))
  exact wpAny_pure ⟨_, rfl, h out hs hb⟩
end
end KB
namespace KB
open PySem PySem.Spec PyProof.Rows L2
/-- sorted(xs), a list or a tuple of ints -/
def rSortedLT (K : PySem.W.Frag) : List V → Hp → VK → Prop := fun vs H Q => ∃ (a : Addr) (ns : List Int), vs = [V.ref a] ∧ (SqL K H a (ns.map V.int) ∨ SqT K H a (ns.map V.int)) ∧
  ∀ (ns' : List Int) (p : Addr), ns'.Perm ns → ns'.Pairwise (· ≤ ·) → H p = none → Q (.ref p) (upd H p (.lst (ns'.map V.int)))
theorem cr_sortedLT {X : Cx} : CallR X (.builtin "sorted") (rSortedLT X.K) := by
  intro pins s σ H vs us Q I r h
  obtain ⟨a, ns, rfl, hs, q⟩ := h
  rcases hs with hs | hs
  · exact cr_sortedI pins s σ H _ us Q I r ⟨a, ns, rfl, hs, q⟩
  · obtain ⟨its, rv, hl, hz⟩ := I.tuple hs
    rw [Vals.ref1 r]
    have hi := rv.ints
    refine sorted_ordT SrtO.swo_int (show s.heap.IsTuple a its.toArray from hl) (by rw [← rv.length]; exact hz) (fun h2 h₁ a' _ _ => SrtO.ints_sortable hi h2) fun out h1 h2 => ?_
    obtain ⟨k1, k2, k3⟩ := SrtO.ints_out hi h1 h2
    obtain ⟨ep, he'⟩ := PyProof.Rows.sortedAll_at s.heap its out.toArray
    have hlen : ((out.map SrtO.iv).map V.int).length ≤ sizeLine := by
      rw [List.length_map, k2.length_eq]
      rw [List.length_map] at hz
      exact hz
    exact ⟨.ref _, upd H (s.heap.objs.size + 1) (.lst ((out.map SrtO.iv).map V.int)), I.laid (t' := s.toks) (fun _ _ => PyProof.Rows.sortedAll_old) (Nat.le_succ _) ⟨hlen, out, ep, vals_of_ints k1, he'⟩, rfl, q _ _ k2 k3 (I.hok.fresh (Nat.le_succ _))⟩
end KB
/-! ### enumerate of a tuple -/
namespace KB
open PySem PyProof.Rows
open AutoSeq1 (wpAny_loadPart')
theorem new_enumT (l : Addr) (items : Array Value) (n : Nat) (dct : Option Addr) (sl : Array (Option Value)) :
    Meets (Builtin.«enumerate.__new__» ⟨[.type "enumerate", .ref l], []⟩) (fun _ R s => s.heap.get? l = some { cls := .type "tuple", dict := dct, data := .seq items n, slots := sl } ∧
      R (.ok (.ret (.ref (s.heap.push { cls := .type "tuple_iterator", data := .fields #[.ref l, .int 0 0] }).objs.size)))
        { s with heap := (s.heap.push { cls := .type "tuple_iterator", data := .fields #[.ref l, .int 0 0] }).push { cls := .type "enumerate", data := .fields #[.none, .bool false, .ref s.heap.objs.size, rawInt 0, .none, .none] } }) :=
  .of_wp fun prog w A R s h => by
    obtain ⟨hp, g, d, tk, os⟩ := s
    obtain ⟨hl, h⟩ := h
    have hsub := sub_enumerate
    have hT : Heap.IsTuple (Shared.heap ⟨hp, g, d, tk, os⟩) l items := ⟨_, hl, rfl, n, rfl⟩
    wp_walk using wpAny_loadPart' hl
    refine wpAny_stack_any fun st => wpAny_pure ?_
    split
    · rename_i c _ _ _ _ _
      cases (c == Value.type "enumerate") <;> (wp_walk using wpAny_loadPart' hl, wpAny_pyIter_tuple hT; exact ⟨_, rfl, h⟩)
    · wp_walk using wpAny_loadPart' hl, wpAny_pyIter_tuple hT
      exact ⟨_, rfl, h⟩
section
variable {prog : Program} {w : World} {A : Around} {E : Value → Shared → Prop} {s : Shared}
theorem call_enumT {l : Addr} {items : Array Value} {Q : Value → Shared → Prop} (hL : s.heap.IsTuple l items)
    (h : ∀ h', IsEnum h' (s.heap.objs.size + 1) s.heap.objs.size 0 .none → h'.IsTupleIter s.heap.objs.size l 0 → (∀ b o, s.heap.get? b = some o → h'.get? b = some o) → Q (.ref (s.heap.objs.size + 1)) { s with heap := h' }) :
    wpAny (model prog w) A (call (.type "enumerate") [.ref l]) Q E s := by
  obtain ⟨⟨c, dct, dt, sl⟩, hl, hc, n, hd⟩ := hL
  replace hc : c = .type "tuple" := hc
  replace hd : dt = .seq items n := hd
  subst hc hd
  refine callType_new F.called_enumerate (by decide) (F.typeCall_enumerate_1 _) (F.newCall_enumerate_1 _) (fun obj => F.args_object_init_2 obj _) F.entry_enumerate_new (new_enumT l items n dct sl) ⟨hl, ?_⟩
  have hz : (s.heap.push { cls := .type "tuple_iterator", data := .fields #[.ref l, .int 0 0] }).objs.size = s.heap.objs.size + 1 := Heap.size_push ..
  have he := Heap.get?_push_size (s.heap.push { cls := .type "tuple_iterator", data := .fields #[.ref l, .int 0 0] }) (o := { cls := .type "enumerate", data := .fields #[.none, .bool false, .ref s.heap.objs.size, rawInt 0, .none, .none] }) rfl
  show _ ∧ _
  rw [hz] at he ⊢
  exact ⟨⟨_, he, rfl⟩, h _ he ⟨_, Heap.get?_push_of_some _ (Heap.get?_push_size _ rfl), rfl, rfl⟩ fun b o x => Heap.get?_push_of_some _ (Heap.get?_push_of_some _ x)⟩
end
end KB
namespace KB
open PySem PySem.Spec PyProof.Rows L2
/-- the tuple at a, its items in new pairs -/
def Itet (K : PySem.W.Frag) (a : Addr) : It :=
  ⟨fun i H => ∃ (xs : List V) (x : V), SqT K H a xs ∧ xs[i]? = some x, fun i H v H' => ∃ T x, v = .ref T ∧ H T = none ∧ H' = upd H T (.tup [.int (i : Nat), x]) ∧ ∀ xs, SqT K H a xs → xs[i]? = some x, fun i H => ∃ xs : List V, SqT K H a xs ∧ xs.length = i⟩
theorem turn_enumT {P : Program} {w : World} {K : PySem.W.Frag} {elts : List Expr} {kk : Nat} {tpos : Pos} (a e it : Addr) :
    Turn P w K (.Tuple elts kk tpos) (Itet K a) [e, it] e (fun i h => (∃ old, IsEnum h e it ((i : Nat) : Int) old) ∧ h.IsTupleIter it a i ∧ e ≠ it ∧ a < it ∧ a < e) where
  mem := by simp
  obj := fun i h st b hb => by
    obtain ⟨⟨old, he⟩, ⟨o, ho, hc, hd⟩, _⟩ := st
    rcases (by simpa using hb : b = e ∨ b = it) with rfl | rfl
    · exact ⟨_, he, fun v q => nomatch q⟩
    · exact ⟨o, ho, fun v q => by rw [hd] at q; cases q⟩
  keep := fun i h h' st k => let ⟨⟨old, he⟩, hi, hne⟩ := st; ⟨⟨old, k e (by simp) _ he⟩, hi.at fun o q => k it (by simp) o q, hne⟩
  item := by
    intro X hP hw hK hc i pins s σ H E I hf st hg
    subst hP hw hK
    obtain ⟨⟨old, he⟩, hit, hne, hai, hae⟩ := st
    obtain ⟨xs, x, hq, hx⟩ := hg
    obtain ⟨its, rv, p, hz⟩ := I.tuple hq
    obtain ⟨u, hu, ru⟩ := rv.get hx
    have hel : e < s.heap.objs.size := Heap.lt_size he
    have hil : it < s.heap.objs.size := by obtain ⟨_, q, _⟩ := hit; exact Heap.lt_size q
    have D := PySem.Draws.tuple (prog := X.prog) (w := X.w) (A := X.A.in1) (show X.A.in1.handled = none from I.ok.hd hc) it a (Nat.ne_of_lt hai) its.toArray
    have hi' : i < its.toArray.size := by simpa using (List.getElem?_eq_some_iff.mp hu).1
    refine wpAny_pyNext_enum_itemD (A := X.A) D he ⟨hit, p⟩ hi' hne (by simp [hne]; exact Nat.ne_of_gt hae) fun v h' tk hv ho hit' hT hsz hk => ?_
    have ev : v = u := by
      have : its[i]? = some v := by simpa using hv
      rw [hu] at this
      exact (Option.some.inj this).symm
    subst ev
    refine ⟨_, rfl, wpAny_letOwnedTupleGo_enum (s := { s with heap := h', toks := tk + 1 }) ho fun h'' he' sb => ?_⟩
    have hT2 := (sb.2 _ (Nat.ne_of_gt hel)).trans hT
    have new : ObjOk X.prog X.w (upd H s.heap.objs.size (.tup [.int (i : Nat), x])) h'' s.heap.objs.size (.tup [.int (i : Nat), x]) :=
      ⟨by show 2 ≤ sizeLine; decide, [.int i tk, v], .cons ⟨_, rfl⟩ (.cons ru .nil), ⟨_, hT2, rfl, _, rfl⟩⟩
    have I1 : Inv X pins σ (upd H s.heap.objs.size (.tup [.int (i : Nat), x])) { s with heap := h'', toks := tk + 1 } :=
      I.turnedNew (ch := [e, it]) (fun b ob hb q => (sb.2 b (fun z => hb (by simp [z]))).trans (hk b ob (fun z => hb (by simp [z])) (fun z => hb (by simp [z])) q)) hf (Nat.le_refl _) new
    refine ⟨.ref s.heap.objs.size, _, I1, rfl, ⟨_, x, rfl, I.hok.fresh (Nat.le_refl _), rfl, fun ys hy => ?_⟩, ⟨⟨v, ?_⟩, hit'.1.at fun o q => (sb.2 it (Ne.symm hne)).trans q, hne, hai, hae⟩, fun b hb => ?_⟩
    · obtain ⟨its2, rv2, p2, _⟩ := I.tuple hy
      obtain ⟨o1, g1, _, n1, d1⟩ := p
      obtain ⟨o2, g2, _, n2, d2⟩ := p2
      rw [g1] at g2
      cases Option.some.inj g2
      rw [d1] at d2
      have ei : its = its2 := by injection d2 with z _; simpa using congrArg Array.toList z
      subst ei
      rw [Vals.inj rv2 rv]
      exact hx
    · rw [show ((i + 1 : Nat) : Int) = (i : Int) + 1 by omega]
      exact he'
    · have hb' : b < s.heap.objs.size := by
        rcases (by simpa using hb : b = e ∨ b = it) with rfl | rfl
        · exact hel
        · exact hil
      rw [upd_ne (Nat.ne_of_lt hb')]
      exact (hf b hb).1
  done := by
    intro X hP hw hK hc i pins s σ H E I hf st hg
    subst hP hw hK
    obtain ⟨⟨old, he⟩, hit, hne, hai, hae⟩ := st
    obtain ⟨xs, hq, hx⟩ := hg
    obtain ⟨its, rv, p, hz⟩ := I.tuple hq
    obtain ⟨f0, f1, f2, f3, f4, f5⟩ := hf it (by simp)
    have D := PySem.Draws.tuple (prog := X.prog) (w := X.w) (A := X.A.in1) (show X.A.in1.handled = none from I.ok.hd hc) it a (Nat.ne_of_lt hai) its.toArray
    have en : i = its.toArray.size := by rw [List.size_toArray, ← rv.length]; exact hx.symm
    subst en
    exact wpAny_pyNext_enum_endD (A := X.A) D he ⟨hit, p⟩ fun h' eb => ⟨rfl, I.turned (t' := s.toks) (fun b o hb q => eb b o hb q) f0 f1 f3 f4 f5⟩
  self := fun A i s Q E st h => let ⟨⟨_, he⟩, _⟩ := st; wpAny_pyIter_enum he h
/-- enumerate(x), a list or a tuple -/
def iEnumA (K : PySem.W.Frag) (ta : TA) : TI := fun σ H R => ta σ H fun vs H1 => ∃ a xs, vs = [.ref a] ∧ ((SqL K H1 a xs ∧ R (Ite K a) H1) ∨ (SqT K H1 a xs ∧ R (Itet K a) H1))
theorem pi_enumA {X : Cx} {e : Expr} {ta : TA} {p pos tpos : Pos} {elts : List Expr} {kk : Nat} (hg : Gl X "enumerate") (hm : X.mg "enumerate" = none) (ha : PA X [e] ta) (hs : starEach [e] X.env = [(false, eval e X.env)] := by rfl) :
    PI X (.Tuple elts kk tpos) (.Call (.Name "enumerate" p) [e] [] pos) (iEnumA X.K ta) := by
  refine ⟨fun pins s σ H R I h => ?_⟩
  refine Call_ (ld_blt I hg hm boot_enumerate (PyProof.Rows.callWith_type1 (thn (ha.run pos pins s σ H _ I h) fun us s1 ⟨vs, H1, I1, r1, q1⟩ => ?_) hs rfl))
  obtain ⟨a, xs, ex, q⟩ := q1
  subst ex
  have fr : ∀ b, b ∈ [s1.heap.objs.size + 1, s1.heap.objs.size] → FpOk X pins H1 b := fun b hb => by
    have hle : s1.heap.objs.size ≤ b := by
      rcases (by simpa using hb : b = s1.heap.objs.size + 1 ∨ b = s1.heap.objs.size) with z | z
      · rw [z]; exact Nat.le_add_right _ _
      · rw [z]; exact Nat.le_refl _
    exact I1.fpOk hle (I1.hok.fresh hle)
  cases r1 with
  | cons r rr =>
    cases rr
    cases r
    rcases q with ⟨hq, q⟩ | ⟨hq, q⟩
    · obtain ⟨its, rv, p', hz⟩ := I1.list hq
      refine call_enumerate_list p'.isList fun h' he hit hsz hk => wpAny_pyIter_enum he ?_
      have I2 : Inv X pins σ H1 { s1 with heap := h' } := I1.kept (t' := s1.toks) hk
      exact ⟨s1.heap.objs.size + 1, [s1.heap.objs.size + 1, s1.heap.objs.size], _, _, H1, rfl, I2, turn_enum a (s1.heap.objs.size + 1) s1.heap.objs.size, ⟨⟨.none, he⟩, hit, Nat.succ_ne_self _⟩, fr, q⟩
    · obtain ⟨its, rv, p', hz⟩ := I1.tuple hq
      have al : a < s1.heap.objs.size := by obtain ⟨o, g, _⟩ := id p'; exact Heap.lt_size g
      refine call_enumT p' fun h' he hit hk => wpAny_pyIter_enum he ?_
      have I2 : Inv X pins σ H1 { s1 with heap := h' } := I1.kept (t' := s1.toks) hk
      exact ⟨s1.heap.objs.size + 1, [s1.heap.objs.size + 1, s1.heap.objs.size], _, _, H1, rfl, I2, turn_enumT a (s1.heap.objs.size + 1) s1.heap.objs.size, ⟨⟨.none, he⟩, hit, Nat.succ_ne_self _, al, Nat.lt_succ_of_lt al⟩, fr, q⟩
theorem lc_enumL {K : PySem.W.Frag} {a : Addr} {xs : List V} {g : TG} {tt : TT} {te : TE} {vs : List Nat} {σ : L2.St} {H1 : Hp} {D : Addr} {Qd : Hp → Prop} (Pv : Nat → Hp → Prop) (h0 : Pv 0 (upd H1 D (.lst []))) (hl : ∀ i H, i ≤ xs.length → Pv i H → SqL K H a xs)
    (hs : ∀ i x H, xs[i]? = some x → Pv i H → ∀ T, H T = none → g (.ref T) (wipe σ vs) (upd H T (.tup [.int (i : Nat), x])) fun σ2 H2 => wipe σ2 vs = wipe σ vs ∧ tt σ2 H2 fun b H3 =>
      if b = true then te σ2 H3 fun y H4 => ∃ acc, H4 D = some (.lst acc) ∧ acc.length < sizeLine ∧ Pv (i + 1) (upd H4 D (.lst (acc ++ [y]))) else Pv (i + 1) H3) (hd : ∀ H, Pv xs.length H → Qd H) :
    ∃ W : Nat → Nat → Hp → Prop, (∃ m, W 0 m (upd H1 D (.lst []))) ∧ ∀ i m H, W i m H →
      ((Ite K a).stop i H ∧ Qd H) ∨ ((Ite K a).go i H ∧ ∃ Nx : Hp → Prop, (∀ H', Nx H' → ∃ m', m' < m ∧ W (i + 1) m' H') ∧ ∀ x H', (Ite K a).yld i H x H' → g x (wipe σ vs) H' fun σ2 H2 => wipe σ2 vs = wipe σ vs ∧ tt σ2 H2 fun b H3 =>
        if b = true then te σ2 H3 fun y H4 => ∃ acc, H4 D = some (.lst acc) ∧ acc.length < sizeLine ∧ Nx (upd H4 D (.lst (acc ++ [y]))) else Nx H3) := by
  refine ⟨fun i m H => m = xs.length - i ∧ i ≤ xs.length ∧ Pv i H, ⟨xs.length, by simp, Nat.zero_le _, h0⟩, ?_⟩
  rintro i m H ⟨rfl, hi, p⟩
  have q := hl i H hi p
  by_cases hlt : i < xs.length
  · refine .inr ⟨⟨xs, xs[i], q, by simp [hlt]⟩, Pv (i + 1), fun H' p' => ⟨xs.length - (i + 1), by omega, rfl, hlt, p'⟩, fun v H' y => ?_⟩
    obtain ⟨T, x, rfl, hT, rfl, y⟩ := y
    exact hs i x H (y xs q) p T hT
  · have e : i = xs.length := by omega
    subst e
    exact .inl ⟨⟨xs, q, Nat.le_refl _⟩, hd H p⟩
theorem lc_enumT {K : PySem.W.Frag} {a : Addr} {xs : List V} {g : TG} {tt : TT} {te : TE} {vs : List Nat} {σ : L2.St} {H1 : Hp} {D : Addr} {Qd : Hp → Prop} (Pv : Nat → Hp → Prop) (h0 : Pv 0 (upd H1 D (.lst []))) (hl : ∀ i H, i ≤ xs.length → Pv i H → SqT K H a xs)
    (hs : ∀ i x H, xs[i]? = some x → Pv i H → ∀ T, H T = none → g (.ref T) (wipe σ vs) (upd H T (.tup [.int (i : Nat), x])) fun σ2 H2 => wipe σ2 vs = wipe σ vs ∧ tt σ2 H2 fun b H3 =>
      if b = true then te σ2 H3 fun y H4 => ∃ acc, H4 D = some (.lst acc) ∧ acc.length < sizeLine ∧ Pv (i + 1) (upd H4 D (.lst (acc ++ [y]))) else Pv (i + 1) H3) (hd : ∀ H, Pv xs.length H → Qd H) :
    ∃ W : Nat → Nat → Hp → Prop, (∃ m, W 0 m (upd H1 D (.lst []))) ∧ ∀ i m H, W i m H →
      ((Itet K a).stop i H ∧ Qd H) ∨ ((Itet K a).go i H ∧ ∃ Nx : Hp → Prop, (∀ H', Nx H' → ∃ m', m' < m ∧ W (i + 1) m' H') ∧ ∀ x H', (Itet K a).yld i H x H' → g x (wipe σ vs) H' fun σ2 H2 => wipe σ2 vs = wipe σ vs ∧ tt σ2 H2 fun b H3 =>
        if b = true then te σ2 H3 fun y H4 => ∃ acc, H4 D = some (.lst acc) ∧ acc.length < sizeLine ∧ Nx (upd H4 D (.lst (acc ++ [y]))) else Nx H3) := by
  refine ⟨fun i m H => m = xs.length - i ∧ i ≤ xs.length ∧ Pv i H, ⟨xs.length, by simp, Nat.zero_le _, h0⟩, ?_⟩
  rintro i m H ⟨rfl, hi, p⟩
  have q := hl i H hi p
  by_cases hlt : i < xs.length
  · refine .inr ⟨⟨xs, xs[i], q, by simp [hlt]⟩, Pv (i + 1), fun H' p' => ⟨xs.length - (i + 1), by omega, rfl, hlt, p'⟩, fun v H' y => ?_⟩
    obtain ⟨T, x, rfl, hT, rfl, y⟩ := y
    exact hs i x H (y xs q) p T hT
  · have e : i = xs.length := by omega
    subst e
    exact .inl ⟨⟨xs, q, rfl⟩, hd H p⟩
end KB
namespace KB
open PySem PySem.Spec PyProof.Rows L2
section
variable {X : Cx} {tg l : Expr} {tl : TE}
/-- for x in e, e a list or a tuple -/
def iSeqA (K : PySem.W.Frag) (tl : TE) : TI := fun σ H R => tl σ H fun x H1 => ∃ a xs, x = .ref a ∧ ((SqL K H1 a xs ∧ R (Itl K a) H1) ∨ (SqT K H1 a xs ∧ R (Itt K a) H1))
theorem pi_seqA (hl : PE X l tl) : PI X tg l (iSeqA X.K tl) := by
  refine ⟨fun pins s σ H R I h => thn (hl.run pins s σ H _ I h) fun v s1 ⟨x, H1, I1, r1, a, xs, ex, q⟩ => ?_⟩
  subst ex
  cases r1
  have fr : ∀ b, b ∈ [s1.heap.objs.size] → FpOk X pins H1 b := fun b hb => by
    rw [List.mem_singleton.mp hb]
    exact I1.fpOk (Nat.le_refl _) (I1.hok.fresh (Nat.le_refl _))
  have kp : ∀ (o : Obj), Inv X pins σ H1 { s1 with heap := s1.heap.push o } := fun o => I1.kept (t' := s1.toks) fun b o' e => Heap.get?_push_of_some _ e
  rcases q with ⟨hq, q⟩ | ⟨hq, q⟩
  · obtain ⟨its, rv, p, hz⟩ := I1.list hq
    exact wpAny_pyIter_list p.isList ⟨_, [s1.heap.objs.size], _, _, H1, rfl, kp _, turn_list a _, ⟨_, Heap.get?_push_size _ rfl, rfl, rfl⟩, fr, q⟩
  · obtain ⟨its, rv, p, hz⟩ := I1.tuple hq
    exact wpAny_pyIter_tuple (show s1.heap.IsTuple a its.toArray from p) ⟨_, [s1.heap.objs.size], _, _, H1, rfl, kp _, turn_tuple a _, ⟨_, Heap.get?_push_size _ rfl, rfl, rfl⟩, fr, q⟩
end
/-! ### kinds of things -/
def isIntD : PyData → Bool
  | .int _ => true
  | _ => false
def isNumD : PyData → Bool
  | .int z => decide (0 ≤ z)
  | _ => false
def isSeqD : PyData → Bool
  | .list _ => true
  | .tuple _ => true
  | _ => false
def spKind (K : PySem.W.Frag) (p : PyData → Bool) : Sp := fun vs H Q _ => ∃ v d, vs = [v] ∧ Dp K H v d ∧ Q (.bl (p d)) H
def spSeq (K : PySem.W.Frag) : Sp := fun vs H Q _ => ∃ v d, vs = [v] ∧ Dp K H v d ∧ ∀ H', Same H H' → Q (.bl (isSeqD d)) H'
end KB
namespace KB
open PySem PySem.Spec PyProof.Rows L2
/-- a sequence of numbers -/
def rowD : PyData → Bool
  | .list ds => ds.all isNumD
  | .tuple ds => ds.all isNumD
  | _ => false
def spRow (K : PySem.W.Frag) : Sp := fun vs H Q _ => ∃ v d n, vs = [v] ∧ Dp K H v d ∧ okD n d = true ∧ ∀ H', Same H H' → Q (.bl (rowD d)) H'
end KB
namespace KB
open PySem PySem.Spec PyProof.Rows L2
/-- the sum of 2 ** (40 - n) -/
def kr : List Nat → Nat
  | [] => 0
  | n :: r => 2 ^ (40 - n) + kr r
theorem kr_app : ∀ a b : List Nat, kr (a ++ b) = kr a + kr b
  | [], b => by simp [kr]
  | n :: a, b => by
    show 2 ^ (40 - n) + kr (a ++ b) = 2 ^ (40 - n) + kr a + kr b
    rw [kr_app a b, Nat.add_assoc]
theorem kr_take {ls : List Nat} {i l : Nat} (h : ls[i]? = some l) : kr (ls.take (i + 1)) = kr (ls.take i) + 2 ^ (40 - l) := by
  rw [List.take_succ, h, kr_app]
  rfl
theorem kr_more {ls : List Nat} {i l : Nat} (h : ls[i]? = some l) : kr (ls.take i) < kr ls := by
  have e : ls = ls.take (i + 1) ++ ls.drop (i + 1) := (List.take_append_drop _ _).symm
  have h1 := kr_take h
  have h2 : kr ls = kr (ls.take (i + 1)) + kr (ls.drop (i + 1)) := by rw [← kr_app, ← e]
  have : 0 < 2 ^ (40 - l) := Nat.pow_pos (by decide)
  omega
def nI (n : Nat) : V := .int (n : Int)
/-- whether there is room: free of the words of length depth are left -/
structure Rm (ls : List Nat) (i free depth : Nat) : Prop where
  eq : free * 2 ^ (40 - depth) + kr (ls.take i) = 2 ^ 40
  d40 : depth ≤ 40
  at_ : (i = 0 ∧ depth = 0) ∨ ∃ k, i = k + 1 ∧ ls[k]? = some depth
theorem Rm.ini (ls : List Nat) : Rm ls 0 1 0 := ⟨by simp [kr], by omega, .inl ⟨rfl, rfl⟩⟩
theorem Rm.le {ls : List Nat} {i free depth l : Nat} (R : Rm ls i free depth) (hs : ls.Pairwise (· ≤ ·)) (h : ls[i]? = some l) : depth ≤ l := by
  rcases R.at_ with ⟨_, e⟩ | ⟨k, rfl, hk⟩
  · omega
  · obtain ⟨h1, e1⟩ := List.getElem?_eq_some_iff.mp hk
    obtain ⟨h2, e2⟩ := List.getElem?_eq_some_iff.mp h
    have := List.pairwise_iff_getElem.mp hs k (k + 1) h1 h2 (Nat.lt_succ_self _)
    rw [e1, e2] at this
    exact this
theorem Rm.small {ls : List Nat} {i free depth : Nat} (R : Rm ls i free depth) : free ≤ 2 ^ 40 := by
  have : 1 ≤ 2 ^ (40 - depth) := Nat.pow_pos (by decide)
  have h := R.eq
  have := Nat.mul_le_mul_left free this
  omega
theorem Rm.nxt {ls : List Nat} {i free depth l : Nat} (R : Rm ls i free depth) (hs : ls.Pairwise (· ≤ ·)) (h : ls[i]? = some l) (h40 : l ≤ 40) (hf : free ≠ 0) : 1 ≤ free * 2 ^ (l - depth) ∧ Rm ls (i + 1) (free * 2 ^ (l - depth) - 1) l := by
  have hd := R.le hs h
  have p : 1 ≤ 2 ^ (l - depth) := Nat.pow_pos (by decide)
  have f1 : 1 ≤ free * 2 ^ (l - depth) := Nat.mul_pos (by omega) p
  refine ⟨f1, ?_, h40, .inr ⟨i, rfl, h⟩⟩
  have e : free * 2 ^ (40 - depth) = free * 2 ^ (l - depth) * 2 ^ (40 - l) := by
    rw [Nat.mul_assoc, ← Nat.pow_add]
    congr 2
    omega
  have q := R.eq
  rw [e] at q
  rw [kr_take h, Nat.sub_mul, Nat.one_mul]
  have : 2 ^ (40 - l) ≤ free * 2 ^ (l - depth) * 2 ^ (40 - l) := by
    have := Nat.mul_le_mul_right (2 ^ (40 - l)) f1
    omega
  omega
def spRoom (K : PySem.W.Frag) : Sp := fun vs H Q _ => ∃ (a : Addr) (ls : List Nat), vs = [.ref a] ∧ SqL K H a (ls.map nI) ∧ ls.Pairwise (· ≤ ·) ∧ (∀ n ∈ ls, n ≤ 40) ∧ Q (.bl (decide (kr ls ≤ 2 ^ 40))) H
end KB

/-! the bits of a number in a width -/
namespace KB
open PySem PySem.Spec PyProof.Rows L2
/-- l bits of v, the highest first -/
def bitsL : Nat → Nat → List Nat
  | 0, _ => []
  | l + 1, v => bitsL l (v / 2) ++ [48 + v % 2]
theorem bitsL_len : ∀ l v, (bitsL l v).length = l
  | 0, _ => rfl
  | l + 1, v => by
    show (bitsL l (v / 2) ++ [48 + v % 2]).length = l + 1
    rw [List.length_append, bitsL_len l]
    rfl
theorem bitsL_get : ∀ (l v k : Nat), k < l → (bitsL l v)[k]? = some (48 + v / 2 ^ (l - 1 - k) % 2)
  | 0, _, _, h => absurd h (Nat.not_lt_zero _)
  | l + 1, v, k, h => by
    show (bitsL l (v / 2) ++ [48 + v % 2])[k]? = _
    have hl := bitsL_len l (v / 2)
    by_cases e : k < l
    · rw [List.getElem?_append_left (by omega), bitsL_get l (v / 2) k e, Nat.div_div_eq_div_mul, ← Nat.pow_succ']
      rw [show (l - 1 - k).succ = l + 1 - 1 - k by omega]
    · have : k = l := by omega
      subst this
      rw [List.getElem?_append_right (by omega), hl, Nat.sub_self]
      simp
theorem dg_digit (n : Nat) (h : n < 2) : (n.digitChar).toNat = 48 + n := by
  rcases (by omega : n = 0 ∨ n = 1) with rfl | rfl <;> rfl
theorem dgB_step {n : Nat} (h : 2 ≤ n) : dgB n = dgB (n / 2) ++ [48 + n % 2] := by
  unfold dgB
  rw [Nat.toDigits_of_base_le (by decide) h, List.map_append]
  congr 1
  show [(n % 2).digitChar.toNat] = _
  rw [dg_digit _ (Nat.mod_lt _ (by decide))]
theorem dgB_bits : ∀ (l v : Nat), v < 2 ^ l → dgB (2 ^ l + v) = 49 :: bitsL l v
  | 0, v, h => by
    have : v = 0 := by simpa using h
    subst this
    decide
  | l + 1, v, h => by
    have h2 : 2 ^ (l + 1) = 2 * 2 ^ l := Nat.pow_succ'
    have p : 1 ≤ 2 ^ l := Nat.pow_pos (by decide)
    rw [dgB_step (by omega), show (2 ^ (l + 1) + v) / 2 = 2 ^ l + v / 2 by omega, show (2 ^ (l + 1) + v) % 2 = v % 2 by omega, dgB_bits l (v / 2) (by omega)]
    rfl
/-- the word of v in l bits -/
def wordS (l v : Nat) : Str := ⟨(bitsL l v).toArray⟩
theorem wordS_len (l v : Nat) : (wordS l v).length = l := by
  show (bitsL l v).toArray.size = l
  rw [List.size_toArray, bitsL_len]
def spWordOf : Sp := fun vs H Q _ => ∃ v l : Nat, vs = [.int v, .int l] ∧ v < 2 ^ l ∧ l ≤ 1000 ∧ Q (.str (wordS l v)) H
end KB
namespace KB
open PySem PySem.Spec PyProof.Rows L2
def chS (c : Nat) : Str := ⟨#[c]⟩
theorem joinL_signs : ∀ cs : List Nat, TL.joinL [] (cs.map fun c => [c]) = cs
  | [] => rfl
  | [c] => rfl
  | c :: d :: r => by
    have := joinL_signs (d :: r)
    simp only [List.map_cons] at this ⊢
    simp only [TL.joinL, List.append_nil, List.nil_append, List.singleton_append] at this ⊢
    rw [this]
theorem join_signs (cs : List Nat) : Txt.join ("" : Str) (cs.map chS) = ⟨cs.toArray⟩ := by
  have h := SX.join_S [] (cs.map fun c => [c])
  rw [joinL_signs, List.map_map] at h
  exact h
theorem bit_sign (l v k : Nat) (h : k < l) : atI (("01" : Str)).cps.toList ((v : Int) / 2 ^ ((l : Int) - 1 - (k : Int)).toNat % 2 ^ 1) = some (48 + v / 2 ^ (l - 1 - k) % 2) := by
  have e : ((v : Int) / 2 ^ ((l : Int) - 1 - (k : Int)).toNat % 2 ^ 1) = ((v / 2 ^ (l - 1 - k) % 2 : Nat) : Int) := by
    rw [show ((l : Int) - 1 - (k : Int)).toNat = l - 1 - k by omega, Int.natCast_emod, Int.natCast_ediv, Int.natCast_pow]
    rfl
  rw [e]
  refine atI_nat ?_
  rcases (by omega : v / 2 ^ (l - 1 - k) % 2 = 0 ∨ v / 2 ^ (l - 1 - k) % 2 = 1) with h | h <;> rw [h] <;> rfl
def spLawWord : Sp := fun vs H Q _ => ∃ v l : Nat, vs = [.int v, .int l] ∧ l ≤ 1000 ∧ ∀ H', Same H H' → Q (.str (wordS l v)) H'
end KB

/-! sorted pairs: there is one order alone -/
namespace KB
open PySem PySem.Spec PyProof.Rows L2
theorem lex_anti {p q : Int × Int} (h1 : SrtO.lexB p q = false) (h2 : SrtO.lexB q p = false) : p = q := by
  have a := SrtO.lexB_no.mp h1
  have b := SrtO.lexB_no.mp h2
  obtain ⟨p1, p2⟩ := p
  obtain ⟨q1, q2⟩ := q
  simp only at a b
  have e1 : p1 = q1 := by omega
  have e2 : p2 = q2 := by omega
  rw [e1, e2]
theorem pairs_one : ∀ (a b : List (Int × Int)), a.Perm b → a.Pairwise (fun p q => SrtO.lexB q p = false) → b.Pairwise (fun p q => SrtO.lexB q p = false) → a = b
  | [], b, h, _, _ => h.nil_eq
  | x :: a, [], h, _, _ => absurd h.length_eq (by simp)
  | x :: a, y :: b, h, ha, hb => by
    have e : x = y := by
      have hx : x ∈ y :: b := h.mem_iff.mp (List.mem_cons_self ..)
      have hy : y ∈ x :: a := h.mem_iff.mpr (List.mem_cons_self ..)
      rcases List.mem_cons.mp hx with z | z
      · exact z
      · rcases List.mem_cons.mp hy with z' | z'
        · exact z'.symm
        · exact lex_anti ((List.pairwise_cons.mp hb).1 x z) ((List.pairwise_cons.mp ha).1 y z')
    subst e
    rw [pairs_one a b (List.Perm.cons_inv h) (List.pairwise_cons.mp ha).2 (List.pairwise_cons.mp hb).2]
end KB
namespace KB
open PySem PySem.Spec PyProof.Rows L2
def natD : PyData → Nat
  | .int z => z.toNat
  | _ => 0
/-- the numbers of a sequence of numbers -/
def lensD : PyData → List Nat
  | .list ds => ds.map natD
  | .tuple ds => ds.map natD
  | _ => []
def areD (d : PyData) : Bool := rowD d && decide (kr (lensD d) ≤ 2 ^ 40)
theorem kr_sum : ∀ ls : List Nat, (∀ n ∈ ls, n ≤ 40) → (ls.map fun n : Nat => (1 : Int) * 2 ^ ((40 : Int) - (n : Int)).toNat).sum = (kr ls : Int)
  | [], _ => rfl
  | n :: r, h => by
    have hn := h n (List.mem_cons_self ..)
    rw [List.map_cons, List.sum_cons, kr_sum r (fun m hm => h m (List.mem_cons_of_mem _ hm))]
    show _ = ((2 ^ (40 - n) + kr r : Nat) : Int)
    rw [Int.natCast_add, Int.natCast_pow, Int.one_mul, show ((40 : Int) - (n : Int)).toNat = 40 - n by omega]
    rfl
def spAre (K : PySem.W.Frag) : Sp := fun vs H Q _ => ∃ v d n, vs = [v] ∧ Dp K H v d ∧ okD n d = true ∧ (∀ ds, (d = .list ds ∨ d = .tuple ds) → ∀ z, .int z ∈ ds → z ≤ 40) ∧ ∀ H', Same H H' → Q (.bl (areD d)) H'
end KB

/-! max(xs, default=d), min(xs, default=d) of ints; sums of halves -/
namespace KB
open PySem PySem.Spec PyProof.Rows L2
def rBestD (K : PySem.W.Frag) (le : Int → Int → Prop) : List V → List V → Hp → VK → Prop := fun vs zs H Q => ∃ (a : Addr) (ns : List Int) (d : V), vs = [V.ref a] ∧ zs = [d] ∧ (SqL K H a (ns.map V.int) ∨ SqT K H a (ns.map V.int)) ∧ (ns = [] → Q d H) ∧ ∀ m, m ∈ ns → (∀ y ∈ ns, le y m) → Q (.int m) H
theorem best_gt {ns : List Int} {xs : Array (Int × Tok)} (hn : ns = xs.toList.map (·.1)) (hp : 0 < xs.size) : numAt xs (argBest (fun i j => decide (numAt xs i > numAt xs j)) (xs.size - 1)) ∈ ns ∧ ∀ y ∈ ns, y ≤ numAt xs (argBest (fun i j => decide (numAt xs i > numAt xs j)) (xs.size - 1)) := by
  obtain ⟨h1, h2⟩ := argBest_gt (numAt xs) (xs.size - 1)
  subst hn
  refine ⟨?_, fun y hy => ?_⟩
  · rw [numAt_eq]
    exact PySem.getD_mem (by rw [List.length_map, Array.length_toList]; omega)
  · obtain ⟨j, hj, rfl⟩ := mem_getD hy
    rw [List.length_map, Array.length_toList] at hj
    rw [← numAt_eq]
    exact h2 j (by omega)
theorem best_lt {ns : List Int} {xs : Array (Int × Tok)} (hn : ns = xs.toList.map (·.1)) (hp : 0 < xs.size) : numAt xs (argBest (fun i j => decide (numAt xs i < numAt xs j)) (xs.size - 1)) ∈ ns ∧ ∀ y ∈ ns, numAt xs (argBest (fun i j => decide (numAt xs i < numAt xs j)) (xs.size - 1)) ≤ y := by
  obtain ⟨h1, h2⟩ := argBest_lt (numAt xs) (xs.size - 1)
  subst hn
  refine ⟨?_, fun y hy => ?_⟩
  · rw [numAt_eq]
    exact PySem.getD_mem (by rw [List.length_map, Array.length_toList]; omega)
  · obtain ⟨j, hj, rfl⟩ := mem_getD hy
    rw [List.length_map, Array.length_toList] at hj
    rw [← numAt_eq]
    exact h2 j (by omega)
theorem ints_arr {its : List Value} {ns : List Int} (hi : IntsAre its ns) : ∃ xs : Array (Int × Tok), its.toArray = intItems xs ∧ ns = xs.toList.map (·.1) := by
  obtain ⟨xs, e⟩ := hi.allInts.items
  refine ⟨xs, e, ?_⟩
  have hn : numsOf (intItems xs).toList = ns := by rw [← e]; exact hi.numsOf
  rw [nums_intItems] at hn
  exact hn.symm
section
variable {X : Cx}
theorem cr_maxDef (hc : X.calm = true) : CallRK X (.builtin "max") [Str.ofString "default"] (rBestD X.K (· ≤ ·)) := by
  intro pins s σ H vs zs us ws Q I r rz h
  obtain ⟨a, ns, d, rfl, rfl, hs, q0, q⟩ := h
  obtain rfl := Vals.ref1 r
  obtain ⟨w1, rfl, rd⟩ := vals1 rz
  have hh := I.ok.hd hc
  show wpAny _ _ (call (.builtin "max") [.ref a] [(Str.ofString "default", w1)]) _ _ _
  rcases hs with hs | hs
  · obtain ⟨its, rv, hl, _⟩ := I.list hs
    obtain ⟨xs, e, hn⟩ := ints_arr rv.ints
    have hl' := hl.isList
    rw [e] at hl'
    have sz : (intItems xs).size = xs.size := by simp [intItems]
    refine call_max_walkD (PySem.W.iter_listW (A := X.A.in1) hh hl' fun s₂ e2 W st hfp hw hk => ?_)
    refine ⟨_, _, _, _, _, _, _, s.heap, (fun i j => decide (numAt xs i > numAt xs j)), rfl, W, st, hfp, hw, hk, fun hz s' m => ?_, fun hp => ⟨fun i j vi vj s1 Q1 E1 _ hi hj hq => CmpOf.ints_gt (P := fun i v => (intItems xs)[i]? = some v) (numAt xs) (fun i v h => intItems_at h) i j vi vj s1 Q1 E1 hi hj hq, fun v s' hP m => ?_⟩⟩
    · obtain ⟨h', tk, rfl, hk'⟩ := PySem.W.moved_old e2 rfl m
      refine ⟨d, H, I.kept hk', rd, q0 ?_⟩
      rw [hn]
      have : xs.size = 0 := by omega
      simp [Array.eq_empty_of_size_eq_zero this]
    · obtain ⟨h', tk, rfl, hk'⟩ := PySem.W.moved_old e2 rfl m
      obtain ⟨t, rfl⟩ := intItems_at hP
      rw [sz] at hp ⊢
      obtain ⟨b1, b2⟩ := best_gt hn hp
      exact ⟨.int _, H, I.kept hk', ⟨_, rfl⟩, q _ b1 b2⟩
  · obtain ⟨its, rv, hl, _⟩ := I.tuple hs
    obtain ⟨xs, e, hn⟩ := ints_arr rv.ints
    have hl' : s.heap.IsTuple a its.toArray := hl
    rw [e] at hl'
    have sz : (intItems xs).size = xs.size := by simp [intItems]
    refine call_max_walkD (PySem.W.iter_tupleW (A := X.A.in1) hh hl' fun s₂ e2 W st hfp hw hk => ?_)
    refine ⟨_, _, _, _, _, _, _, s.heap, (fun i j => decide (numAt xs i > numAt xs j)), rfl, W, st, hfp, hw, hk, fun hz s' m => ?_, fun hp => ⟨fun i j vi vj s1 Q1 E1 _ hi hj hq => CmpOf.ints_gt (P := fun i v => (intItems xs)[i]? = some v) (numAt xs) (fun i v h => intItems_at h) i j vi vj s1 Q1 E1 hi hj hq, fun v s' hP m => ?_⟩⟩
    · obtain ⟨h', tk, rfl, hk'⟩ := PySem.W.moved_old e2 rfl m
      refine ⟨d, H, I.kept hk', rd, q0 ?_⟩
      rw [hn]
      have : xs.size = 0 := by omega
      simp [Array.eq_empty_of_size_eq_zero this]
    · obtain ⟨h', tk, rfl, hk'⟩ := PySem.W.moved_old e2 rfl m
      obtain ⟨t, rfl⟩ := intItems_at hP
      rw [sz] at hp ⊢
      obtain ⟨b1, b2⟩ := best_gt hn hp
      exact ⟨.int _, H, I.kept hk', ⟨_, rfl⟩, q _ b1 b2⟩
theorem cr_minDef (hc : X.calm = true) : CallRK X (.builtin "min") [Str.ofString "default"] (rBestD X.K (· ≥ ·)) := by
  intro pins s σ H vs zs us ws Q I r rz h
  obtain ⟨a, ns, d, rfl, rfl, hs, q0, q⟩ := h
  obtain rfl := Vals.ref1 r
  obtain ⟨w1, rfl, rd⟩ := vals1 rz
  have hh := I.ok.hd hc
  show wpAny _ _ (call (.builtin "min") [.ref a] [(Str.ofString "default", w1)]) _ _ _
  rcases hs with hs | hs
  · obtain ⟨its, rv, hl, _⟩ := I.list hs
    obtain ⟨xs, e, hn⟩ := ints_arr rv.ints
    have hl' := hl.isList
    rw [e] at hl'
    have sz : (intItems xs).size = xs.size := by simp [intItems]
    refine call_min_walkD (PySem.W.iter_listW (A := X.A.in1) hh hl' fun s₂ e2 W st hfp hw hk => ?_)
    refine ⟨_, _, _, _, _, _, _, s.heap, (fun i j => decide (numAt xs i < numAt xs j)), rfl, W, st, hfp, hw, hk, fun hz s' m => ?_, fun hp => ⟨fun i j vi vj s1 Q1 E1 _ hi hj hq => CmpOf.ints_lt (P := fun i v => (intItems xs)[i]? = some v) (numAt xs) (fun i v h => intItems_at h) i j vi vj s1 Q1 E1 hi hj hq, fun v s' hP m => ?_⟩⟩
    · obtain ⟨h', tk, rfl, hk'⟩ := PySem.W.moved_old e2 rfl m
      refine ⟨d, H, I.kept hk', rd, q0 ?_⟩
      rw [hn]
      have : xs.size = 0 := by omega
      simp [Array.eq_empty_of_size_eq_zero this]
    · obtain ⟨h', tk, rfl, hk'⟩ := PySem.W.moved_old e2 rfl m
      obtain ⟨t, rfl⟩ := intItems_at hP
      rw [sz] at hp ⊢
      obtain ⟨b1, b2⟩ := best_lt hn hp
      exact ⟨.int _, H, I.kept hk', ⟨_, rfl⟩, q _ b1 b2⟩
  · obtain ⟨its, rv, hl, _⟩ := I.tuple hs
    obtain ⟨xs, e, hn⟩ := ints_arr rv.ints
    have hl' : s.heap.IsTuple a its.toArray := hl
    rw [e] at hl'
    have sz : (intItems xs).size = xs.size := by simp [intItems]
    refine call_min_walkD (PySem.W.iter_tupleW (A := X.A.in1) hh hl' fun s₂ e2 W st hfp hw hk => ?_)
    refine ⟨_, _, _, _, _, _, _, s.heap, (fun i j => decide (numAt xs i < numAt xs j)), rfl, W, st, hfp, hw, hk, fun hz s' m => ?_, fun hp => ⟨fun i j vi vj s1 Q1 E1 _ hi hj hq => CmpOf.ints_lt (P := fun i v => (intItems xs)[i]? = some v) (numAt xs) (fun i v h => intItems_at h) i j vi vj s1 Q1 E1 hi hj hq, fun v s' hP m => ?_⟩⟩
    · obtain ⟨h', tk, rfl, hk'⟩ := PySem.W.moved_old e2 rfl m
      refine ⟨d, H, I.kept hk', rd, q0 ?_⟩
      rw [hn]
      have : xs.size = 0 := by omega
      simp [Array.eq_empty_of_size_eq_zero this]
    · obtain ⟨h', tk, rfl, hk'⟩ := PySem.W.moved_old e2 rfl m
      obtain ⟨t, rfl⟩ := intItems_at hP
      rw [sz] at hp ⊢
      obtain ⟨b1, b2⟩ := best_lt hn hp
      exact ⟨.int _, H, I.kept hk', ⟨_, rfl⟩, q _ b1 b2⟩
end
end KB
namespace KB
open PySem PySem.Spec PyProof.Rows L2
/-- the sum of 2 ** (L - n) -/
def hs (L : Nat) : List Nat → Nat
  | [] => 0
  | n :: r => 2 ^ (L - n) + hs L r
theorem hs_kr : ∀ ls, hs 40 ls = kr ls
  | [] => rfl
  | n :: r => by
    show 2 ^ (40 - n) + hs 40 r = 2 ^ (40 - n) + kr r
    rw [hs_kr r]
theorem hs_up {m L : Nat} (h : m ≤ L) : ∀ {ls : List Nat}, (∀ n ∈ ls, n ≤ m) → hs L ls = 2 ^ (L - m) * hs m ls
  | [], _ => rfl
  | n :: r, hn => by
    have h1 := hn n (List.mem_cons_self ..)
    show 2 ^ (L - n) + hs L r = 2 ^ (L - m) * (2 ^ (m - n) + hs m r)
    rw [hs_up h (fun k hk => hn k (List.mem_cons_of_mem _ hk)), Nat.mul_add, ← Nat.pow_add]
    congr 2
    omega
theorem hs_app (L : Nat) : ∀ a b : List Nat, hs L (a ++ b) = hs L a + hs L b
  | [], b => by simp [hs]
  | n :: a, b => by
    show 2 ^ (L - n) + hs L (a ++ b) = 2 ^ (L - n) + hs L a + hs L b
    rw [hs_app L a b, Nat.add_assoc]
theorem hs_sum (m : Nat) : ∀ ls : List Nat, (∀ n ∈ ls, n ≤ m) → (ls.map fun n : Nat => (1 : Int) * 2 ^ ((m : Int) - (n : Int)).toNat).sum = (hs m ls : Int)
  | [], _ => rfl
  | n :: r, h => by
    have hn := h n (List.mem_cons_self ..)
    rw [List.map_cons, List.sum_cons, hs_sum m r (fun k hk => h k (List.mem_cons_of_mem _ hk))]
    show _ = ((2 ^ (m - n) + hs m r : Nat) : Int)
    rw [Int.natCast_add, Int.natCast_pow, Int.one_mul, show ((m : Int) - (n : Int)).toNat = m - n by omega]
    rfl
theorem red_hs {m L : Nat} {ls : List Nat} (h : m ≤ L) (hn : ∀ n ∈ ls, n ≤ m) : rOd (hs m ls) (2 ^ m) = rOd (hs L ls) (2 ^ L) ∧ rUd (hs m ls) (2 ^ m) = rUd (hs L ls) (2 ^ L) := by
  have p : (0 : Int) < 2 ^ (L - m) := Int.pow_pos (by decide)
  have e1 : ((hs L ls : Nat) : Int) = 2 ^ (L - m) * (hs m ls : Int) := by
    rw [hs_up h hn, Int.natCast_mul, Int.natCast_pow]
    rfl
  have e2 : (2 : Int) ^ L = 2 ^ (L - m) * 2 ^ m := by
    rw [← Int.pow_add]
    congr 1
    omega
  rw [e1, e2]
  exact ⟨(rOd_scale _ _ p).symm, (rUd_scale _ _ p).symm⟩
/-- all ints of a sequence of numbers -/
theorem dp_nums {K : PySem.W.Frag} {H : Hp} : ∀ {xs : List V} {ds : List PyData}, DpAll K H xs ds → ds.all isNumD = true → xs = (ds.map natD).map nI
  | _, _, .nil, _ => rfl
  | x :: xs, d :: ds, .cons hd ha, h => by
    rw [List.all_cons, Bool.and_eq_true] at h
    obtain ⟨h1, h2⟩ := h
    rw [List.map_cons, List.map_cons, dp_nums ha h2]
    cases d with
    | int z =>
      cases hd
      have : 0 ≤ z := of_decide_eq_true h1
      show V.int z :: _ = V.int ((z.toNat : Nat) : Int) :: _
      rw [Int.toNat_of_nonneg this]
    | _ => cases h1
end KB
namespace KB
open PySem PySem.Spec PyProof.Rows L2
/-- a walk over a list or a tuple that stands: S tells that it stands -/
structure LikeSeq (J : It) (S : Hp → Prop) (xs : List V) : Prop where
  mono : ∀ H H', Same H H' → S H → S H'
  go : ∀ i H, S H → i < xs.length → J.go i H
  yld : ∀ i H x H', S H → J.yld i H x H' → H' = H ∧ xs[i]? = some x
  stop : ∀ H, S H → J.stop xs.length H
theorem likeL (K : PySem.W.Frag) (a : Addr) (xs : List V) : LikeSeq (Itl K a) (fun H => SqL K H a xs) xs :=
  ⟨fun _ _ s q => s.seq q, fun i _ q h => ⟨xs, xs[i], q, by simp [h]⟩, fun _ _ _ _ q y => ⟨y.1, y.2 xs q⟩, fun _ q => ⟨xs, q, Nat.le_refl _⟩⟩
theorem likeT (K : PySem.W.Frag) (a : Addr) (xs : List V) : LikeSeq (Itt K a) (fun H => SqT K H a xs) xs :=
  ⟨fun _ _ s q => sameT s q, fun i _ q h => ⟨xs, xs[i], q, by simp [h]⟩, fun _ _ _ _ q y => ⟨y.1, y.2 xs q⟩, fun _ q => ⟨xs, q, Nat.le_refl _⟩⟩
theorem seq_two {K : PySem.W.Frag} {a : Addr} {xs : List V} {H : Hp} {R : It → Hp → Prop} (hs : SqL K H a xs ∨ SqT K H a xs) (h : ∀ J S, LikeSeq J S xs → S H → R J H) : (SqL K H a xs ∧ R (Itl K a) H) ∨ (SqT K H a xs ∧ R (Itt K a) H) := by
  rcases hs with q | q
  · exact .inl ⟨q, h _ _ (likeL K a xs) q⟩
  · exact .inr ⟨q, h _ _ (likeT K a xs) q⟩
theorem for_J {J : It} {S : Hp → Prop} {xs : List V} (L : LikeSeq J S xs) {g : TG} {tb : TS} {D : Ends} {σ : L2.St} {H : Hp} (Pv : Nat → L2.St → Hp → Prop) (h0 : Pv 0 σ H) (hl : ∀ i σ H, i ≤ xs.length → Pv i σ H → S H)
    (hs : ∀ i x σ H, xs[i]? = some x → Pv i σ H → g x σ H fun σ2 H2 => tb { D with nx := Pv (i + 1), ct := Pv (i + 1), bk := D.nx } σ2 H2) (hd : ∀ σ H, Pv xs.length σ H → D.nx σ H) :
    ∃ W : Nat → Nat → L2.St → Hp → Prop, (∃ m, W 0 m σ H) ∧ ∀ i m σ H, W i m σ H →
      (J.stop i H ∧ D.nx σ H) ∨ (J.go i H ∧ ∃ N : L2.St → Hp → Prop, (∀ σ' H', N σ' H' → ∃ m', m' < m ∧ W (i + 1) m' σ' H') ∧ ∀ x H', J.yld i H x H' → g x σ H' fun σ2 H2 => tb { D with nx := N, ct := N, bk := D.nx } σ2 H2) := by
  refine ⟨fun i m σ H => m = xs.length - i ∧ i ≤ xs.length ∧ Pv i σ H, ⟨xs.length, by simp, Nat.zero_le _, h0⟩, ?_⟩
  rintro i m σ H ⟨rfl, hi, p⟩
  have q := hl i σ H hi p
  by_cases hlt : i < xs.length
  · refine .inr ⟨L.go i H q hlt, Pv (i + 1), fun σ' H' p' => ⟨xs.length - (i + 1), by omega, rfl, hlt, p'⟩, fun x H' y => ?_⟩
    obtain ⟨e, yy⟩ := L.yld i H x H' q y; clear y
    subst e
    exact hs i x σ _ yy p
  · have e : i = xs.length := by omega
    subst e
    exact .inl ⟨L.stop H q, hd σ H p⟩
theorem lc_J {J : It} {S : Hp → Prop} {xs : List V} (L : LikeSeq J S xs) {g : TG} {tt : TT} {te : TE} {vs : List Nat} {σ : L2.St} {H1 : Hp} {D : Addr} {Qd : Hp → Prop} (Pv : Nat → Hp → Prop) (h0 : Pv 0 (upd H1 D (.lst []))) (hl : ∀ i H, i ≤ xs.length → Pv i H → S H)
    (hs : ∀ i x H, xs[i]? = some x → Pv i H → g x (wipe σ vs) H fun σ2 H2 => wipe σ2 vs = wipe σ vs ∧ tt σ2 H2 fun b H3 =>
      if b = true then te σ2 H3 fun y H4 => ∃ acc, H4 D = some (.lst acc) ∧ acc.length < sizeLine ∧ Pv (i + 1) (upd H4 D (.lst (acc ++ [y]))) else Pv (i + 1) H3) (hd : ∀ H, Pv xs.length H → Qd H) :
    ∃ W : Nat → Nat → Hp → Prop, (∃ m, W 0 m (upd H1 D (.lst []))) ∧ ∀ i m H, W i m H →
      (J.stop i H ∧ Qd H) ∨ (J.go i H ∧ ∃ Nx : Hp → Prop, (∀ H', Nx H' → ∃ m', m' < m ∧ W (i + 1) m' H') ∧ ∀ x H', J.yld i H x H' → g x (wipe σ vs) H' fun σ2 H2 => wipe σ2 vs = wipe σ vs ∧ tt σ2 H2 fun b H3 =>
        if b = true then te σ2 H3 fun y H4 => ∃ acc, H4 D = some (.lst acc) ∧ acc.length < sizeLine ∧ Nx (upd H4 D (.lst (acc ++ [y]))) else Nx H3) := by
  refine ⟨fun i m H => m = xs.length - i ∧ i ≤ xs.length ∧ Pv i H, ⟨xs.length, by simp, Nat.zero_le _, h0⟩, ?_⟩
  rintro i m H ⟨rfl, hi, p⟩
  have q := hl i H hi p
  by_cases hlt : i < xs.length
  · refine .inr ⟨L.go i H q hlt, Pv (i + 1), fun H' p' => ⟨xs.length - (i + 1), by omega, rfl, hlt, p'⟩, fun x H' y => ?_⟩
    obtain ⟨e, yy⟩ := L.yld i H x H' q y; clear y
    subst e
    exact hs i x _ yy p
  · have e : i = xs.length := by omega
    subst e
    exact .inl ⟨L.stop H q, hd H p⟩
theorem maxD_nat {K : PySem.W.Frag} {H : Hp} {a : Addr} {ls : List Nat} {L : Nat} {Q : VK} (hs : SqL K H a (ls.map nI) ∨ SqT K H a (ls.map nI)) (hL : ∀ n ∈ ls, n ≤ L) (h : ∀ m : Nat, m ≤ L → (∀ n ∈ ls, n ≤ m) → Q (.int m) H) : rBestD K (· ≤ ·) [.ref a] [.int 0] H Q := by
  have em : (ls.map fun n : Nat => (n : Int)).map V.int = ls.map nI := by rw [List.map_map]; rfl
  refine ⟨a, ls.map fun n : Nat => (n : Int), V.int 0, rfl, rfl, by rw [em]; exact hs, fun e0 => ?_, fun m hm hmax => ?_⟩
  · have : ls = [] := by simpa using e0
    subst this
    exact h 0 (Nat.zero_le _) (fun n hn => by cases hn)
  · obtain ⟨n, hn, rfl⟩ := List.mem_map.mp hm
    exact h n (hL n hn) fun k hk => by
      have := hmax _ (List.mem_map.mpr ⟨k, hk, rfl⟩)
      omega
end KB
namespace KB
open PySem PySem.Spec PyProof.Rows L2
section
variable {X : Cx} {tg l : Expr} {tl : TE}
/-- for x in e, e a list or a tuple: told once for both -/
def iSeqJ (K : PySem.W.Frag) (tl : TE) : TI := fun σ H R => tl σ H fun x H1 => ∃ a xs, x = .ref a ∧ (SqL K H1 a xs ∨ SqT K H1 a xs) ∧ ∀ J S, LikeSeq J S xs → S H1 → R J H1
theorem pi_seqJ (hl : PE X l tl) : PI X tg l (iSeqJ X.K tl) := by
  refine ⟨fun pins s σ H R I h => thn (hl.run pins s σ H _ I h) fun v s1 ⟨x, H1, I1, r1, a, xs, ex, hs, q⟩ => ?_⟩
  subst ex
  cases r1
  have fr : ∀ b, b ∈ [s1.heap.objs.size] → FpOk X pins H1 b := fun b hb => by
    rw [List.mem_singleton.mp hb]
    exact I1.fpOk (Nat.le_refl _) (I1.hok.fresh (Nat.le_refl _))
  have kp : ∀ (o : Obj), Inv X pins σ H1 { s1 with heap := s1.heap.push o } := fun o => I1.kept (t' := s1.toks) fun b o' e => Heap.get?_push_of_some _ e
  rcases hs with hq | hq
  · have q' := q _ _ (likeL X.K a xs) hq
    obtain ⟨its, rv, p, hz⟩ := I1.list hq
    exact wpAny_pyIter_list p.isList ⟨_, [s1.heap.objs.size], _, _, H1, rfl, kp _, turn_list a _, ⟨_, Heap.get?_push_size _ rfl, rfl, rfl⟩, fr, q'⟩
  · have q' := q _ _ (likeT X.K a xs) hq
    obtain ⟨its, rv, p, hz⟩ := I1.tuple hq
    exact wpAny_pyIter_tuple (show s1.heap.IsTuple a its.toArray from p) ⟨_, [s1.heap.objs.size], _, _, H1, rfl, kp _, turn_tuple a _, ⟨_, Heap.get?_push_size _ rfl, rfl, rfl⟩, fr, q'⟩
end
end KB
namespace KB
open PySem PySem.Spec PyProof.Rows L2
theorem row_at {K : PySem.W.Frag} {H : Hp} {v : V} {d : PyData} {n : Nat} (hv : Dp K H v d) (hok : okD n d = true) (hr : rowD d = true) : ∃ a, v = .ref a ∧ (SqL K H a ((lensD d).map nI) ∨ SqT K H a ((lensD d).map nI)) ∧ (lensD d).length ≤ 100000 := by
  cases n with
  | zero => cases d <;> first | (cases hok; done) | (cases hr; done)
  | succ n =>
  cases d with
  | list ds =>
    cases hv with
    | lst sx ax => exact ⟨_, rfl, .inl (by have e := dp_nums ax hr; rw [e] at sx; exact sx), by show (ds.map natD).length ≤ _; rw [List.length_map]; exact (okD_seq hok).1⟩
  | tuple ds =>
    cases hv with
    | tup sx ax => exact ⟨_, rfl, .inr (by have e := dp_nums ax hr; rw [e] at sx; exact sx), by show (ds.map natD).length ≤ _; rw [List.length_map]; exact (okD_seq hok).1⟩
  | _ => cases hr
theorem for_enumL {K : PySem.W.Frag} {a : Addr} {xs : List V} {g : TG} {tb : TS} {D : Ends} {σ : L2.St} {H : Hp} (Pv : Nat → L2.St → Hp → Prop) (h0 : Pv 0 σ H) (hl : ∀ i σ H, i ≤ xs.length → Pv i σ H → SqL K H a xs)
    (hs : ∀ i x σ H, xs[i]? = some x → Pv i σ H → ∀ T, H T = none → g (.ref T) σ (upd H T (.tup [.int (i : Nat), x])) fun σ2 H2 => tb { D with nx := Pv (i + 1), ct := Pv (i + 1), bk := D.nx } σ2 H2) (hd : ∀ σ H, Pv xs.length σ H → D.nx σ H) :
    ∃ W : Nat → Nat → L2.St → Hp → Prop, (∃ m, W 0 m σ H) ∧ ∀ i m σ H, W i m σ H →
      ((Ite K a).stop i H ∧ D.nx σ H) ∨ ((Ite K a).go i H ∧ ∃ N : L2.St → Hp → Prop, (∀ σ' H', N σ' H' → ∃ m', m' < m ∧ W (i + 1) m' σ' H') ∧ ∀ v H', (Ite K a).yld i H v H' → g v σ H' fun σ2 H2 => tb { D with nx := N, ct := N, bk := D.nx } σ2 H2) := by
  refine ⟨fun i m σ H => m = xs.length - i ∧ i ≤ xs.length ∧ Pv i σ H, ⟨xs.length, by simp, Nat.zero_le _, h0⟩, ?_⟩
  rintro i m σ H ⟨rfl, hi, p⟩
  have q := hl i σ H hi p
  by_cases hlt : i < xs.length
  · refine .inr ⟨⟨xs, xs[i], q, by simp [hlt]⟩, Pv (i + 1), fun σ' H' p' => ⟨xs.length - (i + 1), by omega, rfl, hlt, p'⟩, fun v H' y => ?_⟩
    obtain ⟨T, x, rfl, hT, rfl, y⟩ := y
    exact hs i x σ H (y xs q) p T hT
  · have e : i = xs.length := by omega
    subst e
    exact .inl ⟨⟨xs, q, Nat.le_refl _⟩, hd σ H p⟩
theorem bits_up {n m : Nat} (h : Builtin.Int.intBits (n : Int) ≤ m) : n < 2 ^ m := by
  unfold Builtin.Int.intBits at h
  split at h
  · rename_i h0
    have h0' : n = 0 := by simpa using h0
    subst h0'
    exact Nat.pow_pos (by decide)
  · have h2 := Nat.lt_log2_self (n := n)
    have h3 : 2 ^ ((n : Int).natAbs.log2 + 1) ≤ 2 ^ m := Nat.pow_le_pow_right (by decide) h
    have : (n : Int).natAbs = n := by omega
    rw [this] at h3
    omega
theorem bits_dn {n m : Nat} (h : n < 2 ^ m) : Builtin.Int.intBits (n : Int) ≤ m := by
  unfold Builtin.Int.intBits
  split
  · omega
  · have : (n : Int).natAbs = n := by omega
    rw [this]
    rename_i h0
    exact (Nat.log2_lt (fun z => h0 (by subst z; rfl))).mpr h
theorem kr_le {l : Nat} : ∀ {ys : List Nat}, (∀ y ∈ ys, l ≤ y) → kr ys ≤ ys.length * 2 ^ (40 - l)
  | [], _ => Nat.zero_le _
  | y :: r, h => by
    have h1 := h y (List.mem_cons_self ..)
    have h2 := kr_le (ys := r) fun z hz => h z (List.mem_cons_of_mem _ hz)
    have h3 : 2 ^ (40 - y) ≤ 2 ^ (40 - l) := Nat.pow_le_pow_right (by decide) (by omega)
    show 2 ^ (40 - y) + kr r ≤ (r.length + 1) * 2 ^ (40 - l)
    rw [Nat.add_mul]
    omega
theorem kr_drop {ls : List Nat} {i l : Nat} (hs : ls.Pairwise (· ≤ ·)) (h : ls[i]? = some l) : kr ls ≤ kr (ls.take i) + (ls.length - i) * 2 ^ (40 - l) := by
  have e : ls = ls.take i ++ ls.drop i := (List.take_append_drop _ _).symm
  have h2 : kr ls = kr (ls.take i) + kr (ls.drop i) := by rw [← kr_app, ← e]
  have h3 : kr (ls.drop i) ≤ (ls.drop i).length * 2 ^ (40 - l) := kr_le fun y hy => by
    obtain ⟨k, hk, rfl⟩ := List.getElem_of_mem hy
    rw [List.getElem_drop]
    obtain ⟨hi, ei⟩ := List.getElem?_eq_some_iff.mp h
    rw [List.length_drop] at hk
    rw [← ei]
    rcases Nat.eq_zero_or_pos k with z | z
    · subst z
      exact Nat.le_refl _
    · exact List.pairwise_iff_getElem.mp hs i (i + k) hi (by omega) (by omega)
  rw [List.length_drop] at h3
  omega
theorem kr_perm {a b : List Nat} (h : a.Perm b) : kr a = kr b := by
  induction h with
  | nil => rfl
  | cons x _ ih => show 2 ^ (40 - x) + _ = 2 ^ (40 - x) + _; rw [ih]
  | swap x y l => show 2 ^ (40 - y) + (2 ^ (40 - x) + _) = 2 ^ (40 - x) + (2 ^ (40 - y) + _); omega
  | trans _ _ h1 h2 => exact h1.trans h2
/-- room for T: room of the words of length depth are left -/
structure Rk (T : Nat) (ls : List Nat) (i room depth : Nat) : Prop where
  eq : room * 2 ^ (40 - depth) + kr (ls.take i) = T
  d40 : depth ≤ 40
  pos : 0 < room
  at_ : (i = 0 ∧ depth = 0) ∨ ∃ k, i = k + 1 ∧ ls[k]? = some depth
theorem Rk.ini (ls : List Nat) {r : Nat} (h : 0 < r) : Rk (r * 2 ^ 40) ls 0 r 0 := ⟨by simp [kr], by omega, h, .inl ⟨rfl, rfl⟩⟩
theorem Rk.le {T : Nat} {ls : List Nat} {i free depth l : Nat} (R : Rk T ls i free depth) (hs : ls.Pairwise (· ≤ ·)) (h : ls[i]? = some l) : depth ≤ l := by
  rcases R.at_ with ⟨_, e⟩ | ⟨k, rfl, hk⟩
  · omega
  · obtain ⟨h1, e1⟩ := List.getElem?_eq_some_iff.mp hk
    obtain ⟨h2, e2⟩ := List.getElem?_eq_some_iff.mp h
    have := List.pairwise_iff_getElem.mp hs k (k + 1) h1 h2 (Nat.lt_succ_self _)
    rw [e1, e2] at this
    exact this
theorem Rk.small {T : Nat} {ls : List Nat} {i free depth : Nat} (R : Rk T ls i free depth) : free ≤ T := by
  have : 1 ≤ 2 ^ (40 - depth) := Nat.pow_pos (by decide)
  have h := R.eq
  have := Nat.mul_le_mul_left free this
  omega
/-- all that are left do not fill the room -/
theorem Rk.enough {T : Nat} {ls : List Nat} {i room depth l : Nat} (R : Rk T ls i room depth) (hs : ls.Pairwise (· ≤ ·)) (h : ls[i]? = some l) (h40 : l ≤ 40) (hb : ls.length - i < 2 ^ (l - depth)) : kr ls < T := by
  have hd := R.le hs h
  have e := R.eq
  have k := kr_drop hs h
  have p : 0 < 2 ^ (40 - l) := Nat.pow_pos (by decide)
  have h1 : (ls.length - i) * 2 ^ (40 - l) < 2 ^ (l - depth) * 2 ^ (40 - l) := Nat.mul_lt_mul_of_pos_right hb p
  have h2 : 2 ^ (l - depth) * 2 ^ (40 - l) = 2 ^ (40 - depth) := by
    rw [← Nat.pow_add]
    congr 1
    omega
  have h3 : 1 * 2 ^ (40 - depth) ≤ room * 2 ^ (40 - depth) := Nat.mul_le_mul_right _ R.pos
  omega
theorem Rk.nxt {T : Nat} {ls : List Nat} {i free depth l : Nat} (R : Rk T ls i free depth) (hs : ls.Pairwise (· ≤ ·)) (h : ls[i]? = some l) (h40 : l ≤ 40) :
    1 ≤ free * 2 ^ (l - depth) ∧ (free * 2 ^ (l - depth) - 1 = 0 → T ≤ kr ls) ∧ (free * 2 ^ (l - depth) - 1 ≠ 0 → Rk T ls (i + 1) (free * 2 ^ (l - depth) - 1) l) := by
  have hd := R.le hs h
  have p : 1 ≤ 2 ^ (l - depth) := Nat.pow_pos (by decide)
  have f1 : 1 ≤ free * 2 ^ (l - depth) := Nat.mul_pos R.pos p
  have e : free * 2 ^ (40 - depth) = free * 2 ^ (l - depth) * 2 ^ (40 - l) := by
    rw [Nat.mul_assoc, ← Nat.pow_add]
    congr 2
    omega
  have q := R.eq
  rw [e] at q
  have hle : 1 * 2 ^ (40 - l) ≤ free * 2 ^ (l - depth) * 2 ^ (40 - l) := Nat.mul_le_mul_right _ f1
  have kt := kr_take h
  have kl : kr (ls.take (i + 1)) ≤ kr ls := by
    have e2 : ls = ls.take (i + 1) ++ ls.drop (i + 1) := (List.take_append_drop _ _).symm
    have : kr ls = kr (ls.take (i + 1)) + kr (ls.drop (i + 1)) := by rw [← kr_app, ← e2]
    omega
  refine ⟨f1, fun z => ?_, fun z => ⟨?_, h40, by omega, .inr ⟨i, rfl, h⟩⟩⟩
  · have : free * 2 ^ (l - depth) = 1 := by omega
    rw [this] at q
    omega
  · rw [kt, Nat.sub_mul]
    omega
theorem Rk.fin {T : Nat} {ls : List Nat} {room depth : Nat} (R : Rk T ls ls.length room depth) : kr ls < T := by
  have h := R.eq
  rw [List.take_length] at h
  have : 1 * 2 ^ (40 - depth) ≤ room * 2 ^ (40 - depth) := Nat.mul_le_mul_right _ R.pos
  have p : 0 < 2 ^ (40 - depth) := Nat.pow_pos (by decide)
  omega
end KB
namespace KB
open PySem PySem.Spec PyProof.Rows L2
theorem red_div {o u : Int} (hu : 0 < u) : rOd o u / rUd o u = o / u := by
  obtain ⟨g, g0, eo, eu⟩ := red_ex (o := o) hu
  generalize rOd o u = n at *
  generalize rUd o u = d at *
  rw [eo, eu, Int.mul_ediv_mul_of_pos _ _ g0]
theorem bits_log {q : Nat} : (if ((Builtin.Int.intBits (q : Int) : Nat) : Int) - 1 > 0 then ((Builtin.Int.intBits (q : Int) : Nat) : Int) - 1 else 0) = ((Nat.log2 q : Nat) : Int) := by
  by_cases h : q = 0
  · subst h
    rfl
  · have e : Builtin.Int.intBits (q : Int) = Nat.log2 q + 1 := by
      unfold Builtin.Int.intBits
      rw [if_neg (by simpa using h), show (q : Int).natAbs = q by omega]
    rw [e]
    split <;> omega
theorem kit2 {K : PySem.W.Frag} (t : String) (a b : String) (r1 r2 : Bool) (h1 : kitB t a = some r1) (h2 : kitB t b = some r2) : PySem.W.kitAny K (.type t) [.type a, .type b] = some (r1 || r2) :=
  kitAny_cons (kit_ty h1) (fun e => by subst e; exact kitAny_cons (kit_ty h2) (fun e => by subst e; rfl) (fun e => by subst e; rfl)) (fun e => by subst e; rfl)
end KB
namespace KB
open PySem PySem.Spec PyProof.Rows L2
theorem atN {ls : List Nat} {k l : Nat} (h : ls[k]? = some l) : atI (ls.map nI) (k : Int) = some (nI l) := atI_nat (by rw [List.getElem?_map, h]; rfl)
theorem flatN : ∀ ls : List Nat, (ls.map nI).all flatV = true
  | [] => rfl
  | n :: r => by
    rw [List.map_cons, List.all_cons, flatN r]
    rfl
theorem getN {ls : List Nat} {k : Nat} {v : V} (h : (ls.map nI)[k]? = some v) : ∃ n, ls[k]? = some n ∧ v = nI n := by
  rw [List.getElem?_map] at h
  cases e : ls[k]? with
  | none => rw [e] at h; cases h
  | some n => rw [e] at h; exact ⟨n, rfl, (Option.some.inj h).symm⟩
theorem idxN {m : Nat} : ∀ {ls : List Nat}, m ∈ ls → ∃ j : Nat, ls[j]? = some m ∧ ∀ (k : Nat) (z : Nat), k < j → ls[k]? = some z → z ≠ m
  | [], h => by cases h
  | n :: r, h => by
    by_cases e : n = m
    · exact ⟨0, by rw [e]; rfl, fun k z hk => absurd hk (Nat.not_lt_zero _)⟩
    · have hr : m ∈ r := by
        rcases List.mem_cons.mp h with z | z
        · exact absurd z.symm e
        · exact z
      obtain ⟨j, h1, h2⟩ := idxN hr
      refine ⟨j + 1, by rw [List.getElem?_cons_succ]; exact h1, fun k z hk hz => ?_⟩
      cases k with
      | zero => cases Option.some.inj hz; exact e
      | succ k => exact h2 k z (by omega) (by rw [List.getElem?_cons_succ] at hz; exact hz)
theorem indexN {K : PySem.W.Frag} {H : Hp} {a : Addr} {ls : List Nat} {m : Nat} {Q : VK} (hS : SqL K H a (ls.map nI)) (hm : m ∈ ls) (q : ∀ j, ls[j]? = some m → Q (.int (j : Nat)) H) : rIndex K (.ref a) [.int (m : Int)] H Q := by
  obtain ⟨j, h1, h2⟩ := idxN hm
  refine ⟨a, ls.map nI, .int (m : Int), j, nI m, rfl, rfl, hS, rfl, flatN ls, by rw [List.getElem?_map, h1]; rfl, ?_, fun k z hk hz => ?_, q j h1⟩
  · simp [eqV, nI]
  · obtain ⟨n, hn, rfl⟩ := getN hz
    have := h2 k n hk hn
    simp [eqV, nI]
    omega
theorem maxN {K : PySem.W.Frag} {H : Hp} {a : Addr} {ls : List Nat} {Q : VK} (hS : SqL K H a (ls.map nI)) (h0 : 0 < ls.length) (q : ∀ m, m ∈ ls → (∀ n ∈ ls, n ≤ m) → Q (.int (m : Int)) H) : rMax K [.ref a] H Q := by
  have em : (ls.map fun n : Nat => (n : Int)).map V.int = ls.map nI := by rw [List.map_map]; rfl
  refine ⟨a, ls.map fun n : Nat => (n : Int), rfl, by rw [em]; exact hS, by rw [List.length_map]; exact h0, fun m hm hmax => ?_⟩
  obtain ⟨n, hn, rfl⟩ := List.mem_map.mp hm
  exact q n hn fun k hk => by
    have := hmax _ (List.mem_map.mpr ⟨k, hk, rfl⟩)
    omega
/-- a list of numbers that stands by itself, beside the tape -/
structure Nl (B0 B H : Hp) (t p : Addr) (c : Nat) (bs : List Nat) : Prop where
  same : Same B0 B
  tp : Tp B H t c
  at_ : B p = some (.lst (bs.map nI))
  nb : B0 p = none
theorem Nl.set {B0 B H : Hp} {t p : Addr} {c : Nat} {bs : List Nat} (N : Nl B0 B H t p c bs) (zs : List Nat) : Nl B0 (upd B p (.lst (zs.map nI))) (upd H p (.lst (zs.map nI))) t p c zs :=
  ⟨same_out N.same N.nb, N.tp.set N.at_, upd_same, N.nb⟩
theorem Nl.hd {B0 B H : Hp} {t p : Addr} {c : Nat} {bs : List Nat} (N : Nl B0 B H t p c bs) : H p = some (.lst (bs.map nI)) := N.tp.at N.at_
theorem Nl.le {B0 B H : Hp} {t p : Addr} {c d : Nat} {bs : List Nat} (N : Nl B0 B H t p c bs) (h : c ≤ d) : Nl B0 B H t p d bs := ⟨N.same, N.tp.le h, N.at_, N.nb⟩
theorem Nl.drw {B0 B H H' : Hp} {t p : Addr} {c d : Nat} {bs : List Nat} (N : Nl B0 B H t p c bs) (T : Tp B H' t d) : Nl B0 B H' t p d bs := ⟨N.same, T, N.at_, N.nb⟩
theorem setN (ls : List Nat) (k n : Nat) : (ls.map nI).set k (nI n) = (ls.set k n).map nI := by rw [List.map_set]
end KB
namespace KB
open PySem PySem.Spec PyProof.Rows L2
theorem sqI {K : PySem.W.Frag} {H : Hp} {a : Addr} {ls : List Nat} (hS : SqL K H a (ls.map nI)) : SqL K H a ((ls.map fun n : Nat => (n : Int)).map V.int) := by
  rw [List.map_map]
  exact hS
theorem ix_get {ls : List Nat} {j m : Nat} (h : ls[j]? = some m) : (ls.map nI)[j]? = some (nI m) := by rw [List.getElem?_map, h]; rfl
theorem ix_eq (m : Nat) : eqV (nI m) (.int (m : Int)) = true := by simp [eqV, nI]
theorem ix_min {ls : List Nat} {j m : Nat} (h : ∀ (k : Nat) (z : Nat), k < j → ls[k]? = some z → z ≠ m) : ∀ (k : Nat) (z' : V), k < j → (ls.map nI)[k]? = some z' → eqV z' (.int (m : Int)) = false := fun k z hk hz => by
  obtain ⟨n, hn, rfl⟩ := getN hz
  have := h k n hk hn
  simp [eqV, nI]
  omega
end KB
namespace KB
open PySem PySem.Spec PyProof.Rows L2
theorem ixN_nat {n j : Nat} (h : j < n) : ixN n (j : Int) = some j := by
  unfold ixN
  rw [if_pos (by omega), if_pos (by omega)]
  rfl
theorem Nl.put {B0 B H : Hp} {t p : Addr} {c : Nat} {bs : List Nat} (N : Nl B0 B H t p c bs) (j n : Nat) : Nl B0 (upd B p (.lst ((bs.map nI).set j (nI n)))) (upd H p (.lst ((bs.map nI).set j (nI n)))) t p c (bs.set j n) := by
  rw [setN]
  exact N.set _
theorem Nl.app {B0 B H : Hp} {t p : Addr} {c : Nat} {bs : List Nat} (N : Nl B0 B H t p c bs) (n : Nat) : Nl B0 (upd B p (.lst (bs.map nI ++ [nI n]))) (upd H p (.lst (bs.map nI ++ [nI n]))) t p c (bs ++ [n]) := by
  rw [show bs.map nI ++ [nI n] = (bs ++ [n]).map nI by rw [List.map_append]; rfl]
  exact N.set _
theorem mem_set_le {bs : List Nat} {j n m : Nat} (h : ∀ k ∈ bs, k ≤ m) (hn : n ≤ m) : ∀ k ∈ bs.set j n, k ≤ m := fun k hk => by
  rcases List.mem_or_eq_of_mem_set hk with z | z
  · exact h k z
  · omega
theorem mem_app_le {bs : List Nat} {n m : Nat} (h : ∀ k ∈ bs, k ≤ m) (hn : n ≤ m) : ∀ k ∈ bs ++ [n], k ≤ m := fun k hk => by
  rcases List.mem_append.mp hk with z | z
  · exact h k z
  · rw [List.mem_singleton.mp z]
    exact hn
end KB
namespace KB
open PySem PySem.Spec PyProof.Rows L2
theorem seqIx_nat {n j : Nat} (h : j < n) : seqIndex? (j : Int) n = some j := by
  unfold seqIndex?
  simp
  omega
theorem eraN : ∀ (bs : List Nat) (j : Nat), (bs.map nI).eraseIdx j = (bs.eraseIdx j).map nI
  | [], _ => rfl
  | _ :: _, 0 => rfl
  | b :: r, j + 1 => by
    rw [List.map_cons, List.eraseIdx_cons_succ, List.eraseIdx_cons_succ, List.map_cons, eraN r j]
theorem Nl.era {B0 B H : Hp} {t p : Addr} {c : Nat} {bs : List Nat} (N : Nl B0 B H t p c bs) (j : Nat) : Nl B0 (upd B p (.lst ((bs.map nI).eraseIdx j))) (upd H p (.lst ((bs.map nI).eraseIdx j))) t p c (bs.eraseIdx j) := by
  rw [eraN bs j]
  exact N.set _
theorem Nl.ins {B0 B H : Hp} {t p : Addr} {c : Nat} {bs : List Nat} (N : Nl B0 B H t p c bs) (j n : Nat) : Nl B0 (upd B p (.lst ((bs.map nI).take j ++ [nI n] ++ (bs.map nI).drop j))) (upd H p (.lst ((bs.map nI).take j ++ [nI n] ++ (bs.map nI).drop j))) t p c (bs.take j ++ [n] ++ bs.drop j) := by
  rw [show (bs.map nI).take j ++ [nI n] ++ (bs.map nI).drop j = (bs.take j ++ [n] ++ bs.drop j).map nI by simp [List.map_take, List.map_drop]]
  exact N.set _
theorem mem_era_le {bs : List Nat} {j m : Nat} (h : ∀ k ∈ bs, k ≤ m) : ∀ k ∈ bs.eraseIdx j, k ≤ m := fun k hk => h k (List.mem_of_mem_eraseIdx hk)
theorem mem_ins_le {bs : List Nat} {j n m : Nat} (h : ∀ k ∈ bs, k ≤ m) (hn : n ≤ m) : ∀ k ∈ bs.take j ++ [n] ++ bs.drop j, k ≤ m := fun k hk => by
  rcases List.mem_append.mp hk with z | z
  · rcases List.mem_append.mp z with z | z
    · exact h k (List.mem_of_mem_take z)
    · rw [List.mem_singleton.mp z]
      exact hn
  · exact h k (List.mem_of_mem_drop z)
end KB
namespace KB
open PySem PySem.Spec PyProof.Rows L2
theorem cut_from (bs : List Nat) (x : Nat) (h : x ≤ bs.length) : cutV (bs.map nI) (some (x : Int)) none = (bs.drop x).map nI := by
  have e : HT.sIx (bs.map nI).length 0 (some (x : Int)) = x := by rw [HT.sIx_nat, List.length_map]; omega
  have e2 : HT.sIx (bs.map nI).length (bs.map nI).length none = (bs.map nI).length := rfl
  unfold cutV
  rw [e, e2, ← List.map_drop, List.take_of_length_le (by simp)]
theorem cut_to (bs : List Nat) (x : Nat) (h : x ≤ bs.length) : cutV (bs.map nI) none (some (x : Int)) = (bs.take x).map nI := by
  have e : HT.sIx (bs.map nI).length (bs.map nI).length (some (x : Int)) = x := by rw [HT.sIx_nat, List.length_map]; omega
  have e2 : HT.sIx (bs.map nI).length 0 none = 0 := rfl
  unfold cutV
  rw [e, e2, List.drop_zero, Nat.sub_zero, ← List.map_take]
end KB
namespace KB
open PySem PySem.Spec PyProof.Rows L2
def ndD (ls : List Nat) : List PyData := ls.map fun n : Nat => PyData.int (n : Int)
theorem dp_nd {K : PySem.W.Frag} {H : Hp} : ∀ ls : List Nat, DpAll K H (ls.map nI) (ndD ls)
  | [] => .nil
  | n :: r => .cons (.int _) (dp_nd r)
theorem ndD_len (ls : List Nat) : (ndD ls).length = ls.length := List.length_map ..
theorem ndD_nat (ls : List Nat) : (ndD ls).map natD = ls := by
  unfold ndD
  rw [List.map_map]
  exact List.map_id'' (fun n => by simp [natD]) ls
theorem ndD_ok (ls : List Nat) (n : Nat) : ∀ d ∈ ndD ls, okD (n + 1) d = true := fun d hd => by
  obtain ⟨k, _, rfl⟩ := List.mem_map.mp hd
  rfl
theorem nums_dp {K : PySem.W.Frag} {H : Hp} {a : Addr} {ls : List Nat} (h : H a = some (.lst (ls.map nI)) ∨ H a = some (.tup (ls.map nI))) (hl : ls.length ≤ 100000) (h40 : ∀ n ∈ ls, n ≤ 40) :
    ∃ d, Dp K H (.ref a) d ∧ okD 4 d = true ∧ (rowD d = true → (lensD d).length ≤ 100000 ∧ ∀ n ∈ lensD d, n ≤ 40) := by
  rcases h with h | h
  · refine ⟨.list (ndD ls), .lst (SqL.of h) (dp_nd ls), okD_mk (by rw [ndD_len]; exact hl) (ndD_ok ls 2), fun _ => ?_⟩
    show ((ndD ls).map natD).length ≤ 100000 ∧ ∀ n ∈ (ndD ls).map natD, n ≤ 40
    rw [ndD_nat]
    exact ⟨hl, h40⟩
  · refine ⟨.tuple (ndD ls), .tup (SqT.of h) (dp_nd ls), okD_mk (by rw [ndD_len]; exact hl) (ndD_ok ls 2), fun _ => ?_⟩
    show ((ndD ls).map natD).length ≤ 100000 ∧ ∀ n ∈ (ndD ls).map natD, n ≤ 40
    rw [ndD_nat]
    exact ⟨hl, h40⟩
theorem DpAll.set' {K : PySem.W.Frag} {H : Hp} {v : V} {d : PyData} (hv : Dp K H v d) : ∀ {vs : List V} {ds : List PyData} (k : Nat), DpAll K H vs ds → DpAll K H (vs.set k v) (ds.set k d)
  | _, _, _, .nil => .nil
  | _, _, 0, .cons _ t => .cons hv t
  | _, _, k + 1, .cons h t => .cons h (DpAll.set' hv k t)
theorem sIx_m1 (n : Nat) : HT.sIx n n (some ((n : Int) - 1)) = n - 1 := by
  cases n with
  | zero => rfl
  | succ n =>
    rw [show (((n + 1 : Nat) : Int) - 1) = ((n : Nat) : Int) by omega, HT.sIx_nat]
    omega
theorem cut_m1 (bs : List Nat) : cutV (bs.map nI) none (some (((bs.map nI).length : Nat) - 1 : Int)) = (bs.take (bs.length - 1)).map nI := by
  unfold cutV
  rw [sIx_m1, show HT.sIx (bs.map nI).length 0 none = 0 from rfl, List.drop_zero, Nat.sub_zero, List.length_map, List.map_take]
theorem cut_k (bs : List Nat) (x : Nat) : cutV (bs.map nI) none (some (x : Int)) = (bs.take x).map nI := by
  unfold cutV
  rw [HT.sIx_nat, show HT.sIx (bs.map nI).length 0 none = 0 from rfl, List.drop_zero, Nat.sub_zero, List.map_take, List.length_map]
  rcases Nat.le_total x bs.length with h | h
  · rw [Nat.min_eq_left h]
  · rw [Nat.min_eq_right h, List.take_of_length_le (by simp), List.take_of_length_le (by simpa using h)]
end KB
namespace KB
open PySem PySem.Spec PyProof.Rows L2
/-- a, b = .., two names -/
theorem pg_two {X : Cx} (K : PySem.W.Frag) {i j : Nat} {x y : Str} {px py pos : Pos} {kk : Nat} (hN : X.N.Nodup) (hi : X.N[i]? = some x) (hj : X.N[j]? = some y)
    (hx : Loc X.env.scope x := by first | exact Or.inl rfl | exact Or.inr rfl) (hy : Loc X.env.scope y := by first | exact Or.inl rfl | exact Or.inr rfl)
    (hfx : X.fn x = true ∨ X.env.scope.names.lookup x = some .local := by first | exact .inl rfl | exact .inr rfl | assumption) (hfy : X.fn y = true ∨ X.env.scope.names.lookup y = some .local := by first | exact .inl rfl | exact .inr rfl | assumption)
    (hc : X.calm = true := by rfl) (hK : X.K = K := by rfl) : PG X (.Tuple [.Name x px, .Name y py] kk pos) (gTup K 2 (gCons (gName i) (gCons (gName j) gNil))) := by
  subst hK
  exact pg_tup hc (pgs_cons (pg_name hN hi hx hfx) (pgs_cons (pg_name hN hj hy hfy) pgs_nil))
end KB
namespace KB
open PySem PySem.Spec PyProof.Rows L2
/-- o.m(e) of a built-in, within a comprehension -/
theorem pe_bmC {X : Cx} (K : PySem.W.Frag) {o e : Expr} {es : List Expr} {to : TE} {t : TA} {name : Str} {apos cpos : Pos} {T id : String} {r : V → List V → Hp → VK → Prop} (pa : PlainAttrs T) (slot : Slot T name id) (hty : typeOf (.builtin id) = pure (.type "method_descriptor")) (hm : MtR X id r) (ho : PE X o to) (ha : PA X (e :: es) t)
    (hbase : attributeBase o name X.env (eval o X.env) = eval o X.env := by rfl)
    (hfew : ((backTo cpos (starEach (e :: es) X.env)).all (fun x => !x.1) && (backToKw cpos (keywordEach [] X.env)).all (fun x => x.1.isSome)
      && decide ((e :: es).length + ([] : List Keyword).length + (if ([] : List Keyword).isEmpty then 0 else 1) < 30)) = true := by rfl)
    (hline : (apos.endLine == cpos.line) = true := by rfl) (hs : starEach (e :: es) X.env = (false, eval e X.env) :: starEach es X.env := by rfl) (hplain : (backTo cpos (starEach es X.env)).any (·.1) = false := by rfl)
    (hK : X.K = K := by rfl) : PE X (.Call (.Attribute o name apos) (e :: es) [] cpos) (tBM K T r to t) := by
  subst hK
  exact pe_bm pa slot hty hm ho ha hbase hfew hline hs hplain
end KB
namespace KB
open PySem PySem.Spec PyProof.Rows L2
theorem ixN_m1 {n : Nat} (h : 0 < n) : ixN n (-1) = some (n - 1) := by
  unfold ixN
  rw [if_neg (by decide), if_pos (by omega)]
  congr 1
  omega
theorem at_m1 {ls : List Nat} {l : Nat} (h : ls[ls.length - 1]? = some l) : atI (ls.map nI) (-1) = some (nI l) := by
  have hp : 0 < ls.length := by
    have := (List.getElem?_eq_some_iff.mp h).1
    omega
  unfold atI
  rw [List.length_map, ixN_m1 hp]
  show (ls.map nI)[ls.length - 1]? = _
  rw [List.getElem?_map, h]
  rfl
end KB

/-! enumerate of a list or a tuple, told once; codes of lengths -/
namespace KB
open PySem PySem.Spec PyProof.Rows L2
/-- a walk over the numbered items of a list or a tuple that stands -/
structure LikeEn (J : It) (S : Hp → Prop) (xs : List V) : Prop where
  mono : ∀ H H', Same H H' → S H → S H'
  go : ∀ i H, S H → i < xs.length → J.go i H
  yld : ∀ i H v H', S H → J.yld i H v H' → ∃ T x, v = .ref T ∧ H T = none ∧ H' = upd H T (.tup [.int (i : Nat), x]) ∧ xs[i]? = some x
  stop : ∀ H, S H → J.stop xs.length H
theorem likeEnL (K : PySem.W.Frag) (a : Addr) (xs : List V) : LikeEn (Ite K a) (fun H => SqL K H a xs) xs :=
  ⟨fun _ _ s q => s.seq q, fun i _ q h => ⟨xs, xs[i], q, by simp [h]⟩, fun _ _ _ _ q y => by
    obtain ⟨T, x, e, h1, h2, h3⟩ := y
    exact ⟨T, x, e, h1, h2, h3 xs q⟩, fun _ q => ⟨xs, q, Nat.le_refl _⟩⟩
theorem likeEnT (K : PySem.W.Frag) (a : Addr) (xs : List V) : LikeEn (Itet K a) (fun H => SqT K H a xs) xs :=
  ⟨fun _ _ s q => sameT s q, fun i _ q h => ⟨xs, xs[i], q, by simp [h]⟩, fun _ _ _ _ q y => by
    obtain ⟨T, x, e, h1, h2, h3⟩ := y
    exact ⟨T, x, e, h1, h2, h3 xs q⟩, fun _ q => ⟨xs, q, rfl⟩⟩
def iEnumJ (K : PySem.W.Frag) (ta : TA) : TI := fun σ H R => ta σ H fun vs H1 => ∃ a xs, vs = [.ref a] ∧ (SqL K H1 a xs ∨ SqT K H1 a xs) ∧ ∀ J S, LikeEn J S xs → S H1 → R J H1
theorem pi_enumJ {X : Cx} {e : Expr} {ta : TA} {p pos tpos : Pos} {elts : List Expr} {kk : Nat} (hg : Gl X "enumerate") (hm : X.mg "enumerate" = none) (ha : PA X [e] ta) (hs : starEach [e] X.env = [(false, eval e X.env)] := by rfl) :
    PI X (.Tuple elts kk tpos) (.Call (.Name "enumerate" p) [e] [] pos) (iEnumJ X.K ta) := by
  refine ⟨fun pins s σ H R I h => ?_⟩
  refine Call_ (ld_blt I hg hm boot_enumerate (PyProof.Rows.callWith_type1 (thn (ha.run pos pins s σ H _ I h) fun us s1 ⟨vs, H1, I1, r1, q1⟩ => ?_) hs rfl))
  obtain ⟨a, xs, ex, hs', q⟩ := q1
  subst ex
  have fr : ∀ b, b ∈ [s1.heap.objs.size + 1, s1.heap.objs.size] → FpOk X pins H1 b := fun b hb => by
    have hle : s1.heap.objs.size ≤ b := by
      rcases (by simpa using hb : b = s1.heap.objs.size + 1 ∨ b = s1.heap.objs.size) with z | z
      · rw [z]; exact Nat.le_add_right _ _
      · rw [z]; exact Nat.le_refl _
    exact I1.fpOk hle (I1.hok.fresh hle)
  cases r1 with
  | cons r rr =>
    cases rr
    cases r
    rcases hs' with hq | hq
    · have q' := q _ _ (likeEnL X.K a xs) hq
      obtain ⟨its, rv, p', hz⟩ := I1.list hq
      refine call_enumerate_list p'.isList fun h' he hit hsz hk => wpAny_pyIter_enum he ?_
      have I2 : Inv X pins σ H1 { s1 with heap := h' } := I1.kept (t' := s1.toks) hk
      exact ⟨s1.heap.objs.size + 1, [s1.heap.objs.size + 1, s1.heap.objs.size], _, _, H1, rfl, I2, turn_enum a (s1.heap.objs.size + 1) s1.heap.objs.size, ⟨⟨.none, he⟩, hit, Nat.succ_ne_self _⟩, fr, q'⟩
    · have q' := q _ _ (likeEnT X.K a xs) hq
      obtain ⟨its, rv, p', hz⟩ := I1.tuple hq
      have al : a < s1.heap.objs.size := by obtain ⟨o, g, _⟩ := id p'; exact Heap.lt_size g
      refine call_enumT p' fun h' he hit hk => wpAny_pyIter_enum he ?_
      have I2 : Inv X pins σ H1 { s1 with heap := h' } := I1.kept (t' := s1.toks) hk
      exact ⟨s1.heap.objs.size + 1, [s1.heap.objs.size + 1, s1.heap.objs.size], _, _, H1, rfl, I2, turn_enumT a (s1.heap.objs.size + 1) s1.heap.objs.size, ⟨⟨.none, he⟩, hit, Nat.succ_ne_self _, al, Nat.lt_succ_of_lt al⟩, fr, q'⟩
theorem for_enumJ {J : It} {S : Hp → Prop} {xs : List V} (L : LikeEn J S xs) {g : TG} {tb : TS} {D : Ends} {σ : L2.St} {H : Hp} (Pv : Nat → L2.St → Hp → Prop) (h0 : Pv 0 σ H) (hl : ∀ i σ H, i ≤ xs.length → Pv i σ H → S H)
    (hs : ∀ i x σ H, xs[i]? = some x → Pv i σ H → ∀ T, H T = none → g (.ref T) σ (upd H T (.tup [.int (i : Nat), x])) fun σ2 H2 => tb { D with nx := Pv (i + 1), ct := Pv (i + 1), bk := D.nx } σ2 H2) (hd : ∀ σ H, Pv xs.length σ H → D.nx σ H) :
    ∃ W : Nat → Nat → L2.St → Hp → Prop, (∃ m, W 0 m σ H) ∧ ∀ i m σ H, W i m σ H →
      (J.stop i H ∧ D.nx σ H) ∨ (J.go i H ∧ ∃ N : L2.St → Hp → Prop, (∀ σ' H', N σ' H' → ∃ m', m' < m ∧ W (i + 1) m' σ' H') ∧ ∀ v H', J.yld i H v H' → g v σ H' fun σ2 H2 => tb { D with nx := N, ct := N, bk := D.nx } σ2 H2) := by
  refine ⟨fun i m σ H => m = xs.length - i ∧ i ≤ xs.length ∧ Pv i σ H, ⟨xs.length, by simp, Nat.zero_le _, h0⟩, ?_⟩
  rintro i m σ H ⟨rfl, hi, p⟩
  have q := hl i σ H hi p
  by_cases hlt : i < xs.length
  · refine .inr ⟨L.go i H q hlt, Pv (i + 1), fun σ' H' p' => ⟨xs.length - (i + 1), by omega, rfl, hlt, p'⟩, fun v H' y => ?_⟩
    obtain ⟨T, x, rfl, hT, rfl, hx⟩ := L.yld i H v H' q y
    exact hs i x σ H hx p T hT
  · have e : i = xs.length := by omega
    subst e
    exact .inl ⟨L.stop H q, hd σ H p⟩
theorem lc_enumJ {J : It} {S : Hp → Prop} {xs : List V} (L : LikeEn J S xs) {g : TG} {tt : TT} {te : TE} {vs : List Nat} {σ : L2.St} {H1 : Hp} {D : Addr} {Qd : Hp → Prop} (Pv : Nat → Hp → Prop) (h0 : Pv 0 (upd H1 D (.lst []))) (hl : ∀ i H, i ≤ xs.length → Pv i H → S H)
    (hs : ∀ i x H, xs[i]? = some x → Pv i H → ∀ T, H T = none → g (.ref T) (wipe σ vs) (upd H T (.tup [.int (i : Nat), x])) fun σ2 H2 => wipe σ2 vs = wipe σ vs ∧ tt σ2 H2 fun b H3 =>
      if b = true then te σ2 H3 fun y H4 => ∃ acc, H4 D = some (.lst acc) ∧ acc.length < sizeLine ∧ Pv (i + 1) (upd H4 D (.lst (acc ++ [y]))) else Pv (i + 1) H3) (hd : ∀ H, Pv xs.length H → Qd H) :
    ∃ W : Nat → Nat → Hp → Prop, (∃ m, W 0 m (upd H1 D (.lst []))) ∧ ∀ i m H, W i m H →
      (J.stop i H ∧ Qd H) ∨ (J.go i H ∧ ∃ Nx : Hp → Prop, (∀ H', Nx H' → ∃ m', m' < m ∧ W (i + 1) m' H') ∧ ∀ x H', J.yld i H x H' → g x (wipe σ vs) H' fun σ2 H2 => wipe σ2 vs = wipe σ vs ∧ tt σ2 H2 fun b H3 =>
        if b = true then te σ2 H3 fun y H4 => ∃ acc, H4 D = some (.lst acc) ∧ acc.length < sizeLine ∧ Nx (upd H4 D (.lst (acc ++ [y]))) else Nx H3) := by
  refine ⟨fun i m H => m = xs.length - i ∧ i ≤ xs.length ∧ Pv i H, ⟨xs.length, by simp, Nat.zero_le _, h0⟩, ?_⟩
  rintro i m H ⟨rfl, hi, p⟩
  have q := hl i H hi p
  by_cases hlt : i < xs.length
  · refine .inr ⟨L.go i H q hlt, Pv (i + 1), fun H' p' => ⟨xs.length - (i + 1), by omega, rfl, hlt, p'⟩, fun v H' y => ?_⟩
    obtain ⟨T, x, rfl, hT, rfl, hx⟩ := L.yld i H v H' q y
    exact hs i x H hx p T hT
  · have e : i = xs.length := by omega
    subst e
    exact .inl ⟨L.stop H q, hd H p⟩

/-! ### pairs in order -/
def kOf (H : Hp) : V → Int × Int
  | .ref t => match H t with
    | some (.tup [.int a, .int b]) => (a, b)
    | _ => (0, 0)
  | _ => (0, 0)
theorem kOf_at {H : Hp} {t : Addr} {a b : Int} (h : H t = some (.tup [.int a, .int b])) : kOf H (.ref t) = (a, b) := by
  show (match H t with | some (.tup [.int a, .int b]) => (a, b) | _ => (0, 0)) = _
  rw [h]
def prs (ls : List Nat) : List (Int × Int) := (List.range ls.length).map fun j => ((ls.getD j 0 : Nat), (j : Int))
theorem prs_len (ls : List Nat) : (prs ls).length = ls.length := by simp [prs]
theorem prs_get {ls : List Nat} {j l : Nat} (h : ls[j]? = some l) : (prs ls)[j]? = some ((l : Int), (j : Int)) := by
  have hj := (List.getElem?_eq_some_iff.mp h).1
  unfold prs
  rw [List.getElem?_map, List.getElem?_range hj]
  show some (((ls.getD j 0 : Nat) : Int), (j : Int)) = _
  rw [List.getD_eq_getElem?_getD, h]
  rfl
def IsOrd (ls : List Nat) (ks : List (Int × Int)) : Prop := ks.Perm (prs ls) ∧ ks.Pairwise (fun p q => SrtO.lexB q p = false)
theorem IsOrd.uniq {ls : List Nat} {ks ks' : List (Int × Int)} (h : IsOrd ls ks) (h' : IsOrd ls ks') : ks = ks' := pairs_one _ _ (h.1.trans h'.1.symm) h.2 h'.2
theorem IsOrd.mem {ls : List Nat} {ks : List (Int × Int)} (h : IsOrd ls ks) {p : Int × Int} (hp : p ∈ ks) : ∃ l k : Nat, p = ((l : Int), (k : Int)) ∧ ls[k]? = some l := by
  have := h.1.mem_iff.mp hp
  unfold prs at this
  obtain ⟨j, hj, rfl⟩ := List.mem_map.mp this
  have hj' := List.mem_range.mp hj
  refine ⟨_, j, rfl, ?_⟩
  rw [List.getD_eq_getElem?_getD, List.getElem?_eq_getElem hj']
  rfl
theorem IsOrd.len {ls : List Nat} {ks : List (Int × Int)} (h : IsOrd ls ks) : ks.length = ls.length := by rw [h.1.length_eq, prs_len]
theorem prs_fst (ls : List Nat) : (prs ls).map (fun p => p.1.toNat) = ls := by
  unfold prs
  rw [List.map_map]
  refine List.ext_getElem? fun j => ?_
  rw [List.getElem?_map]
  by_cases h : j < ls.length
  · rw [List.getElem?_range h, List.getElem?_eq_getElem h]
    show some ((((ls.getD j 0 : Nat) : Int)).toNat) = _
    rw [Int.toNat_natCast, List.getD_eq_getElem?_getD, List.getElem?_eq_getElem h]
    rfl
  · rw [List.getElem?_eq_none (by simpa using h), List.getElem?_eq_none (by omega)]
    rfl
theorem IsOrd.kr {ls : List Nat} {ks : List (Int × Int)} (h : IsOrd ls ks) : kr (ks.map fun p => p.1.toNat) = kr ls := by
  have := kr_perm (h.1.map fun p => p.1.toNat)
  rw [prs_fst] at this
  exact this
theorem IsOrd.fst {ls : List Nat} {ks : List (Int × Int)} (h : IsOrd ls ks) : (ks.map fun p => p.1.toNat).Pairwise (· ≤ ·) := by
  rw [List.pairwise_map]
  refine h.2.imp fun {p q} hpq => ?_
  have := SrtO.lexB_no.mp hpq
  omega
theorem ord_of {H : Hp} {xs ys : List V} {ls : List Nat} (hx : xs.map (kOf H) = prs ls) (h1 : SrtO.Srtd (ltP (kOf H)) ys) (h2 : ys.Perm xs) : IsOrd ls (ys.map (kOf H)) := by
  refine ⟨by rw [← hx]; exact h2.map _, ?_⟩
  rw [List.pairwise_map]
  exact h1

/-! ### the words of a code -/
def fillW : List (Int × Int) → Nat → List Str → List Str
  | [], _, ws => ws
  | p :: r, used, ws => fillW r (used + 2 ^ (40 - p.1.toNat)) (ws.set p.2.toNat (wordS p.1.toNat (used / 2 ^ (40 - p.1.toNat))))
def codeS (ks : List (Int × Int)) (n : Nat) : List Str := fillW ks 0 (List.replicate n "")
structure Cd (ks : List (Int × Int)) (n i used : Nat) (ws : List Str) : Prop where
  len : ws.length = n
  sum : used = kr ((ks.map fun p => p.1.toNat).take i)
  fil : fillW (ks.drop i) used ws = codeS ks n
theorem Cd.ini (ks : List (Int × Int)) (n : Nat) : Cd ks n 0 0 (List.replicate n "") := ⟨List.length_replicate, by simp [kr], rfl⟩
theorem Cd.nxt {ks : List (Int × Int)} {n i used : Nat} {ws : List Str} (C : Cd ks n i used ws) {l k : Nat} (h : ks[i]? = some ((l : Int), (k : Int))) : Cd ks n (i + 1) (used + 2 ^ (40 - l)) (ws.set k (wordS l (used / 2 ^ (40 - l)))) := by
  obtain ⟨hi, he⟩ := List.getElem?_eq_some_iff.mp h
  refine ⟨by rw [List.length_set]; exact C.len, ?_, ?_⟩
  · rw [kr_take (l := l) (by rw [List.getElem?_map, h]; rfl), C.sum]
  · have := C.fil
    rw [List.drop_eq_getElem_cons hi, he] at this
    exact this
theorem Cd.fin {ks : List (Int × Int)} {n used : Nat} {ws : List Str} (C : Cd ks n ks.length used ws) : ws = codeS ks n := by
  have := C.fil
  rw [List.drop_length] at this
  exact this
theorem Cd.room {ks : List (Int × Int)} {n i used : Nat} {ws : List Str} (C : Cd ks n i used ws) {l k : Nat} (h : ks[i]? = some ((l : Int), (k : Int))) (hk : kr (ks.map fun p => p.1.toNat) ≤ 2 ^ 40) : used + 2 ^ (40 - l) ≤ 2 ^ 40 := by
  have e := kr_take (ls := ks.map fun p => p.1.toNat) (i := i) (l := l) (by rw [List.getElem?_map, h]; rfl)
  have s := C.sum
  have : kr ((ks.map fun p => p.1.toNat).take (i + 1)) ≤ kr (ks.map fun p => p.1.toNat) := by
    have e2 := List.take_append_drop (i + 1) (ks.map fun p => p.1.toNat)
    have := kr_app ((ks.map fun p => p.1.toNat).take (i + 1)) ((ks.map fun p => p.1.toNat).drop (i + 1))
    rw [e2] at this
    omega
  omega
theorem val_step {used value before l : Nat} (e : used = value * 2 ^ (40 - before)) (hb : before ≤ l) (h40 : l ≤ 40) (hr : used + 2 ^ (40 - l) ≤ 2 ^ 40) :
    value * 2 ^ (l - before) = used / 2 ^ (40 - l) ∧ value * 2 ^ (l - before) < 2 ^ l ∧ used + 2 ^ (40 - l) = (value * 2 ^ (l - before) + 1) * 2 ^ (40 - l) := by
  have p : 0 < 2 ^ (40 - l) := Nat.pow_pos (by decide)
  have e2 : used = value * 2 ^ (l - before) * 2 ^ (40 - l) := by
    rw [e, Nat.mul_assoc, ← Nat.pow_add]
    congr 2
    omega
  have e3 : (2 : Nat) ^ 40 = 2 ^ l * 2 ^ (40 - l) := by
    rw [← Nat.pow_add]
    congr 1
    omega
  refine ⟨?_, ?_, ?_⟩
  · rw [e2, Nat.mul_div_cancel _ p]
  · rw [e3] at hr
    refine Nat.lt_of_mul_lt_mul_right (a := 2 ^ (40 - l)) ?_
    rw [← e2]
    omega
  · rw [Nat.add_mul, Nat.one_mul, ← e2]
end KB
namespace KB
open PySem PySem.Spec PyProof.Rows L2
theorem pairs_made {H : Hp} {ts : List V} {ls : List Nat} (hl : ts.length = ls.length) (h : ∀ (j : Nat) (y : V), ts[j]? = some y → ∃ (t : Addr) (l : Nat), y = .ref t ∧ ls[j]? = some l ∧ H t = some (.tup [.int (l : Int), .int (j : Int)])) :
    ts.map (kOf H) = prs ls ∧ ∀ x ∈ ts, ∃ t, x = .ref t ∧ H t = some (.tup [.int (kOf H x).1, .int (kOf H x).2]) := by
  constructor
  · refine List.ext_getElem? fun j => ?_
    rw [List.getElem?_map]
    by_cases hj : j < ts.length
    · have e := List.getElem?_eq_getElem hj
      obtain ⟨t, l, ey, hlj, ht⟩ := h j _ e
      rw [e, prs_get hlj, ey]
      exact congrArg some (kOf_at ht)
    · rw [List.getElem?_eq_none (by omega), List.getElem?_eq_none (by rw [prs_len]; omega)]
      rfl
  · intro x hx
    obtain ⟨j, hj, e⟩ := List.getElem_of_mem hx
    obtain ⟨t, l, ey, _, ht⟩ := h j x (by rw [List.getElem?_eq_getElem hj, e])
    exact ⟨t, ey, by rw [ey, kOf_at ht]; exact ht⟩
/-- a heap without one cell -/
def rem (H : Hp) (a : Addr) : Hp := fun b => if b = a then none else H b
theorem rem_self {H : Hp} {a : Addr} : rem H a a = none := by unfold rem; simp
theorem rem_at {H : Hp} {a b : Addr} {o : HO} (h : H b = some o) (ne : b ≠ a) : rem H a b = some o := by unfold rem; rw [if_neg ne]; exact h
theorem rem_same {H : Hp} {a : Addr} : Same (rem H a) H := fun b o e => by
  unfold rem at e
  split at e
  · cases e
  · exact e
theorem same_rem {B H : Hp} {a : Addr} (s : Same B H) (h : B a = none) : Same B (rem H a) := fun b o e => rem_at (s _ _ e) (ne_of_none e h)
theorem rep_flat (n : Nat) (v : V) : (List.replicate n [v]).flatten = List.replicate n v := by
  rw [show ([v] : List V) = List.replicate 1 v from rfl, List.flatten_replicate_replicate, Nat.mul_one]
end KB
namespace KB
open PySem PySem.Spec PyProof.Rows L2
theorem bitsL_take : ∀ (l v m : Nat), m ≤ l → (bitsL l v).take m = bitsL m (v / 2 ^ (l - m))
  | 0, v, m, h => by
    have : m = 0 := by omega
    subst this
    rfl
  | l + 1, v, m, h => by
    have hl := bitsL_len l (v / 2)
    by_cases e : m = l + 1
    · subst e
      rw [Nat.sub_self, Nat.pow_zero, Nat.div_one, List.take_of_length_le (by rw [bitsL_len]; omega)]
    · show (bitsL l (v / 2) ++ [48 + v % 2]).take m = _
      rw [List.take_append_of_le_length (by omega), bitsL_take l (v / 2) m (by omega), Nat.div_div_eq_div_mul, ← Nat.pow_succ', show (l - m).succ = l + 1 - m by omega]
theorem bitsL_inj : ∀ (l v w : Nat), v < 2 ^ l → w < 2 ^ l → bitsL l v = bitsL l w → v = w
  | 0, v, w, hv, hw, _ => by
    have a : v = 0 := by simpa using hv
    have b : w = 0 := by simpa using hw
    rw [a, b]
  | l + 1, v, w, hv, hw, h => by
    have h1 : bitsL l (v / 2) ++ [48 + v % 2] = bitsL l (w / 2) ++ [48 + w % 2] := h
    have h2 := List.append_inj h1 (by rw [bitsL_len, bitsL_len])
    have p : 2 ^ (l + 1) = 2 * 2 ^ l := Nat.pow_succ'
    have e1 := bitsL_inj l (v / 2) (w / 2) (by omega) (by omega) h2.1
    have e2 : 48 + v % 2 = 48 + w % 2 := by simpa using h2.2
    omega
theorem starts_word {l v m u : Nat} (hm : m ≤ l) (hv : v < 2 ^ l) (hu : u < 2 ^ m) : Txt.startswith (wordS l v) (wordS m u) = decide (v / 2 ^ (l - m) = u) := by
  have e : Txt.startswith (wordS l v) (wordS m u) = ((bitsL l v).take m == bitsL m u) := by
    unfold Txt.startswith
    rw [wordS_len, wordS_len, PySem.StrLaws.subAt_eq, wordS_len, List.drop_zero]
    rw [show decide (0 + m ≤ l) = true from decide_eq_true (by omega), Bool.true_and]
    rfl
  rw [e, bitsL_take l v m hm]
  by_cases h : v / 2 ^ (l - m) = u
  · rw [h]
    simp
  · rw [decide_eq_false h]
    have hlt : v / 2 ^ (l - m) < 2 ^ m := by
      rw [Nat.div_lt_iff_lt_mul (Nat.pow_pos (by decide)), ← Nat.pow_add, show m + (l - m) = l by omega]
      exact hv
    refine beq_eq_false_iff_ne.mpr fun z => h (bitsL_inj m _ _ hlt hu z)
/-- the words ahead -/
def tkS (ks : List (Int × Int)) (j : Nat) : Str := wordS ((ks.map fun p => p.1.toNat).getD j 0) (kr ((ks.map fun p => p.1.toNat).take j) / 2 ^ (40 - (ks.map fun p => p.1.toNat).getD j 0))
def ua (fs : List Nat) (j : Nat) : Nat := kr (fs.take j)
theorem ua_succ {fs : List Nat} {j l : Nat} (h : fs[j]? = some l) : ua fs (j + 1) = ua fs j + 2 ^ (40 - l) := kr_take h
theorem ua_dvd {fs : List Nat} (hs : fs.Pairwise (· ≤ ·)) {l i : Nat} (h : fs[i]? = some l) : ∀ j, j ≤ i → 2 ^ (40 - l) ∣ ua fs j
  | 0, _ => by simp [ua, kr]
  | j + 1, hj => by
    obtain ⟨hi, ei⟩ := List.getElem?_eq_some_iff.mp h
    have e := List.getElem?_eq_getElem (show j < fs.length by omega)
    rw [ua_succ e]
    refine Nat.dvd_add (ua_dvd hs h j (by omega)) (Nat.pow_dvd_pow 2 ?_)
    have : fs[j] ≤ l := by
      rw [← ei]
      exact List.pairwise_iff_getElem.mp hs j i (by omega) hi (by omega)
    omega
theorem ua_mono {fs : List Nat} : ∀ {i j : Nat}, i ≤ j → j ≤ fs.length → ua fs i ≤ ua fs j
  | i, 0, h, _ => by
    have : i = 0 := by omega
    subst this
    exact Nat.le_refl _
  | i, j + 1, h, hl => by
    by_cases e : i = j + 1
    · subst e; exact Nat.le_refl _
    · have := ua_mono (fs := fs) (i := i) (j := j) (by omega) (by omega)
      rw [ua_succ (List.getElem?_eq_getElem (show j < fs.length by omega))]
      exact Nat.le_trans this (Nat.le_add_right _ _)
/-- a value in l bits is begun by an earlier word exactly if it lies below what is used -/
theorem begun_iff {fs : List Nat} (hs : fs.Pairwise (· ≤ ·)) (h40 : ∀ n ∈ fs, n ≤ 40) (hk : kr fs ≤ 2 ^ 40) {i l v : Nat} (h : fs[i]? = some l) (hv : v < 2 ^ l) :
    ((List.range i).map fun j => Txt.startswith (wordS l v) (wordS (fs.getD j 0) (ua fs j / 2 ^ (40 - fs.getD j 0)))).any id = decide (v * 2 ^ (40 - l) < ua fs i) := by
  obtain ⟨hi, ei⟩ := List.getElem?_eq_some_iff.mp h
  have hl40 := h40 l (List.mem_of_getElem? h)
  have one : ∀ j, j < i → (Txt.startswith (wordS l v) (wordS (fs.getD j 0) (ua fs j / 2 ^ (40 - fs.getD j 0))) = decide (ua fs j ≤ v * 2 ^ (40 - l) ∧ v * 2 ^ (40 - l) < ua fs (j + 1))) := fun j hj => by
    have hjl : j < fs.length := by omega
    have e := List.getElem?_eq_getElem hjl
    obtain ⟨m, em⟩ : ∃ m, fs[j] = m := ⟨_, rfl⟩
    rw [em] at e
    have gd : fs.getD j 0 = m := by rw [List.getD_eq_getElem?_getD, e]; rfl
    rw [gd]
    have hml : m ≤ l := by
      rw [← em, ← ei]
      exact List.pairwise_iff_getElem.mp hs j i hjl hi hj
    obtain ⟨u, hu⟩ := ua_dvd hs e j (Nat.le_refl _)
    have p : 0 < 2 ^ (40 - m) := Nat.pow_pos (by decide)
    have hsu : ua fs (j + 1) = 2 ^ (40 - m) * (u + 1) := by rw [ua_succ e, hu, Nat.mul_add, Nat.mul_one]
    have hle : ua fs (j + 1) ≤ 2 ^ 40 := by
      have h1 := ua_mono (fs := fs) (i := j + 1) (j := fs.length) (by omega) (Nat.le_refl _)
      have : ua fs fs.length = kr fs := by unfold ua; rw [List.take_length]
      omega
    have e40 : (2 : Nat) ^ 40 = 2 ^ (40 - m) * 2 ^ m := by
      rw [← Nat.pow_add]
      congr 1
      omega
    have hu2 : u < 2 ^ m := by
      rw [hsu, e40] at hle
      have := Nat.le_of_mul_le_mul_left hle p
      omega
    have ep : 2 ^ (40 - m) = 2 ^ (40 - l) * 2 ^ (l - m) := by
      rw [← Nat.pow_add]
      congr 1
      omega
    have pl : 0 < 2 ^ (40 - l) := Nat.pow_pos (by decide)
    have plm : 0 < 2 ^ (l - m) := Nat.pow_pos (by decide)
    rw [hu, Nat.mul_div_cancel_left _ p, starts_word hml hv hu2, hsu]
    refine decide_eq_decide.mpr ?_
    rw [ep, Nat.mul_assoc, Nat.mul_assoc, Nat.mul_comm v]
    constructor
    · intro z
      have := (Nat.div_eq_iff plm).mp z
      refine ⟨Nat.mul_le_mul_left _ ?_, Nat.mul_lt_mul_of_pos_left ?_ pl⟩
      · rw [Nat.mul_comm]; omega
      · rw [Nat.mul_comm, Nat.add_mul]; omega
    · rintro ⟨z1, z2⟩
      have z1' := Nat.le_of_mul_le_mul_left z1 pl
      have z2' := Nat.lt_of_mul_lt_mul_left z2
      refine (Nat.div_eq_iff plm).mpr ?_
      rw [Nat.mul_comm] at z1'
      rw [Nat.mul_comm, Nat.add_mul] at z2'
      omega
  rw [List.any_map]
  by_cases hlt : v * 2 ^ (40 - l) < ua fs i
  · rw [decide_eq_true hlt]
    have ex : ∀ n, n ≤ i → v * 2 ^ (40 - l) < ua fs n → ∃ j, j < n ∧ ua fs j ≤ v * 2 ^ (40 - l) ∧ v * 2 ^ (40 - l) < ua fs (j + 1) := by
      intro n
      induction n with
      | zero => intro _ z; simp [ua, kr] at z
      | succ n ih =>
        intro hn z
        by_cases y : v * 2 ^ (40 - l) < ua fs n
        · obtain ⟨j, h1, h2⟩ := ih (by omega) y
          exact ⟨j, by omega, h2⟩
        · exact ⟨n, Nat.lt_succ_self _, by omega, z⟩
    obtain ⟨j, hj, h2⟩ := ex i (Nat.le_refl _) hlt
    refine List.any_eq_true.mpr ⟨j, List.mem_range.mpr hj, ?_⟩
    show Txt.startswith _ _ = true
    rw [one j hj]
    exact decide_eq_true h2
  · rw [decide_eq_false hlt]
    refine List.any_eq_false.mpr fun j hj => ?_
    have hj' := List.mem_range.mp hj
    show ¬ Txt.startswith _ _ = true
    rw [one j hj']
    intro z
    have := of_decide_eq_true z
    have := ua_mono (fs := fs) (i := j + 1) (j := i) (by omega) (by omega)
    omega
end KB
namespace KB
open PySem PySem.Spec PyProof.Rows L2
theorem fillW_len : ∀ (ks : List (Int × Int)) (u : Nat) (ws : List Str), (fillW ks u ws).length = ws.length
  | [], _, _ => rfl
  | p :: r, u, ws => by
    show (fillW r _ _).length = _
    rw [fillW_len r, List.length_set]
theorem codeS_len (ks : List (Int × Int)) (n : Nat) : (codeS ks n).length = n := by
  unfold codeS
  rw [fillW_len, List.length_replicate]
end KB

namespace KB
open PySem PySem.Spec PyProof.Rows L2
/-! ### the box: the tape of the later stages; B is all that stands beside it -/
structure Bx (B H : Hp) (t : Addr) (c : Nat) : Prop where
  same : Same B H
  bt : B t = none
  ex : ∃ (g : Addr) (gs : List Int) (j : Nat) (w sd ct : Int), B g = none ∧ t ≠ g ∧ H t = some (.lst [.ref g, .int j, .int w, .int sd, .int ct]) ∧ H g = some (.lst (gs.map V.int)) ∧
    gs.length ≤ 63 ∧ j ≤ 63 ∧ 0 ≤ sd ∧ sd < 2147483647 ∧ 0 ≤ ct ∧ ct ≤ (c : Int)
theorem Bx.le {B H : Hp} {t : Addr} {c d : Nat} (T : Bx B H t c) (h : c ≤ d) : Bx B H t d := by
  obtain ⟨s, b, g, gs, j, w, sd, ct, h1, h2, h3, h4, h5, h5', h6, h7, h8, h9⟩ := T
  exact ⟨s, b, g, gs, j, w, sd, ct, h1, h2, h3, h4, h5, h5', h6, h7, h8, by omega⟩
theorem Bx.new {B H : Hp} {t p : Addr} {c : Nat} {o : HO} (T : Bx B H t c) (h : H p = none) : Bx (upd B p o) (upd H p o) t c := by
  obtain ⟨s, b, g, gs, j, w, sd, ct, h1, h2, h3, h4, h5⟩ := T
  have e1 : t ≠ p := ne_of_none h3 h
  have e2 : g ≠ p := ne_of_none h4 h
  exact ⟨same_set s, by rw [upd_ne e1]; exact b, g, gs, j, w, sd, ct, by rw [upd_ne e2]; exact h1, h2, by rw [upd_ne e1]; exact h3, by rw [upd_ne e2]; exact h4, h5⟩
theorem Bx.set {B H : Hp} {t p : Addr} {c : Nat} {o o' : HO} (T : Bx B H t c) (h : B p = some o) : Bx (upd B p o') (upd H p o') t c := by
  obtain ⟨s, b, g, gs, j, w, sd, ct, h1, h2, h3, h4, h5⟩ := T
  have e1 : t ≠ p := fun z => by rw [z, h] at b; cases b
  have e2 : g ≠ p := fun z => by rw [z, h] at h1; cases h1
  exact ⟨same_set s, by rw [upd_ne e1]; exact b, g, gs, j, w, sd, ct, by rw [upd_ne e2]; exact h1, h2, by rw [upd_ne e1]; exact h3, by rw [upd_ne e2]; exact h4, h5⟩
theorem Bx.free {B H : Hp} {t p : Addr} {c : Nat} (T : Bx B H t c) (h : H p = none) : B p = none := T.same.free h
theorem Bx.isn {B H : Hp} {t p : Addr} {c : Nat} (T : Bx B H t c) (h : H p = none) : B p = none := T.same.free h
theorem Bx.at {B H : Hp} {t p : Addr} {c : Nat} {o : HO} (T : Bx B H t c) (h : B p = some o) : H p = some o := T.same _ _ h
theorem Bx.inst {B H : Hp} {t x dx C : Addr} {c : Nat} {fs : List (Str × V)} (T : Bx B H t c) (hx : H x = none) (hd : H dx = none) (ne : dx ≠ x) : Bx (upd (upd B dx (.own x)) x (.ins C dx fs)) (upd (upd H dx (.own x)) x (.ins C dx fs)) t c :=
  (T.new hd).new (by rw [upd_ne ne.symm]; exact hx)
theorem Bx.ext {B H H' : Hp} {t : Addr} {c : Nat} (T : Bx B H t c) (s : Same H H') : Bx B H' t c := by
  obtain ⟨sm, b, g, gs, j, w, sd, ct, h1, h2, h3, h4, h5⟩ := T
  exact ⟨sm.trans s, b, g, gs, j, w, sd, ct, h1, h2, s _ _ h3, s _ _ h4, h5⟩
theorem Bx.ext1 {B H H' : Hp} {t p : Addr} {c : Nat} {o : HO} (T : Bx B H t c) (s : Same H H') (hp : H p = none) (ho : H' p = some o) : Bx (upd B p o) H' t c := by
  obtain ⟨sm, b, g, gs, j, w, sd, ct, h1, h2, h3, h4, h5⟩ := T
  have e1 : t ≠ p := ne_of_none h3 hp
  have e2 : g ≠ p := ne_of_none h4 hp
  refine ⟨fun b x e => ?_, by rw [upd_ne e1]; exact b, g, gs, j, w, sd, ct, by rw [upd_ne e2]; exact h1, h2, s _ _ h3, s _ _ h4, h5⟩
  by_cases hb : b = p
  · subst hb
    rw [upd_same] at e
    rw [ho]
    exact e
  · rw [upd_ne hb] at e
    exact s _ _ (sm _ _ e)
/-- the base shrinks to what a heap below it holds -/
theorem Bx.low {A B H : Hp} {t : Addr} {c : Nat} (T : Bx B H t c) (s : Same A B) : Bx A H t c := by
  obtain ⟨sm, b, g, gs, j, w, sd, ct, h1, h5⟩ := T
  exact ⟨s.trans sm, s.free b, g, gs, j, w, sd, ct, s.free h1, h5⟩
/-- what a def leaves that only adds cells: the base takes them up -/
theorem Bx.up {B B' H H' : Hp} {t : Addr} {c : Nat} (T : Bx B H t c) (s : Same H H') (sb : Same B B') (s' : Same B' H') (h : ∀ a, B' a ≠ none → B a = none → H a = none) : Bx B' H' t c := by
  obtain ⟨sm, b, g, gs, j, w, sd, ct, h1, h2, h3, h4, h5⟩ := T
  refine ⟨s', ?_, g, gs, j, w, sd, ct, ?_, h2, s _ _ h3, s _ _ h4, h5⟩
  · exact Classical.byContradiction fun z => by have := h t z b; rw [h3] at this; cases this
  · exact Classical.byContradiction fun z => by have := h g z h1; rw [h4] at this; cases this

/-! ### math.comb -/
section
variable {X : Cx}
def rComb : List V → Hp → VK → Prop := fun vs H Q => ∃ a b : Nat, vs = [.int a, .int b] ∧ a ≤ 18000 ∧ Q (.int (PySem.W.mcComb a b)) H
theorem cr_comb : CallR X (.builtin "math.comb") rComb := by
  intro pins s σ H vs us Q I r h
  obtain ⟨a, b, rfl, ha, q⟩ := h
  obtain ⟨t, u, rfl⟩ := Vals.int2 r
  exact PySem.W.mc_comb (by omega) (by omega) (by omega) (.inr (by omega)) fun _ => ⟨.int _, H, I.tok _, ⟨_, rfl⟩, q⟩
end
end KB

namespace KZ
open PySem
open PySem.Sem (wp)
/-! ### zip's next while the tuple that it gave out is still held, over iterators of any kind -/
section
variable {prog : Program} {w : World} {A : Around} {E : Value → Shared → Prop} {s : Shared} {z TI TO T i1 i2 : Addr} {f : Bool} {oT : Obj} {fp1 fp2 : List Addr} {n1 n2 i : Nat} {P1 P2 : Nat → Value → Prop} {St1 St2 : Nat → Heap → Prop}
theorem next_item_held {Q : Value → Shared → Prop} (S : ZipSep2 z TI TO i1 i2 fp1 fp2) (D1 : Draws prog w A i1 fp1 n1 P1 St1) (D2 : Draws prog w A i2 fp2 n2 P2 St2)
    (hz : IsZipHeld s.heap z TI TO T f) (hT : s.heap.get? T = some oT) (hTI : IsTupOf2 s.heap TI (.ref i1) (.ref i2)) (st1 : St1 i s.heap) (st2 : St2 i s.heap) (hlt1 : i < n1) (hlt2 : i < n2)
    (hQ : ∀ x1 x2 h' tk, P1 i x1 → P2 i x2 → IsZipHeld h' z TI TO T true → St1 (i + 1) h' → St2 (i + 1) h' → IsTupOf2 h' s.heap.objs.size x1 x2 → h'.objs.size = s.heap.objs.size + 1 →
      (∀ c o, c ≠ z → c ≠ i1 → c ≠ i2 → s.heap.get? c = some o → h'.get? c = some o) → Q (.ref s.heap.objs.size) { s with heap := h', toks := tk }) :
    wpAny (model prog w) A (Builtin.«zip.__next__» ⟨[.ref z], []⟩) (fun fin s' => ∃ v, fin = .done (.ret v) ∧ Q v s') E s := by
  obtain ⟨hp, g, d, tk0, os⟩ := s
  show wpAny _ _ (field (.ref z) 2 >>= _) _ _ _
  refine wpAny_bind (wpAny_field hz rfl (x := .bool false) rfl ?_)
  show wpAny _ _ (field (.ref z) 3 >>= _) _ _ _
  refine wpAny_bind (wpAny_field hz rfl (x := .ref TI) rfl ?_)
  refine wpAny_bind (wpAny_seqItems hTI rfl ?_)
  show wpAny _ _ (Builtin.SmallTypes.ownedTupleIsFree (.ref z) >>= _) _ _ _
  refine wpAny_bind (wpAny_tupleHeld_zip hz hT fun h₁ hz₁ hs₁ => ?_)
  replace hs₁ : Heap.SameBut z hp h₁ := hs₁
  simp only [Bool.false_eq_true, if_false]
  refine wpAny_bind ?_
  rw [← Array.forIn_toList]
  simp only [List.forIn_cons, List.forIn_nil]
  refine wpAny_bind (wpAny_bind (wpAny_holding ?_))
  show wpAny _ _ (Builtin.SmallTypes.nextOf (.ref i1) >>= _) _ _ ⟨h₁, g, d, tk0, os⟩
  refine wpAny_bind (D1.item i _ _ _ hlt1 (D1.over st1 hs₁ S.zf1) fun x1 p1 tk1 hx1 sn1 hp1 => wpAny_pure ?_)
  replace hp1 : Heap.SameBut i1 h₁ p1 := hp1
  refine wpAny_pure ?_
  refine wpAny_bind (wpAny_bind (wpAny_holding ?_))
  show wpAny _ _ (Builtin.SmallTypes.nextOf (.ref i2) >>= _) _ _ ⟨p1, g, d, tk1, os⟩
  refine wpAny_bind (D2.item i _ _ _ hlt2 (D2.over (D2.over st2 hs₁ S.zf2) hp1 S.sep1_2) fun x2 p2 tk2 hx2 sn2 hp2 => wpAny_pure ?_)
  replace hp2 : Heap.SameBut i2 p1 p2 := hp2
  refine wpAny_pure (wpAny_pure ?_)
  show wpAny _ _ (newTuple [x1, x2] >>= _) _ _ ⟨p2, g, d, tk2, os⟩
  refine wpAny_bind (wpAny_newTuple ?_)
  have hsz : p2.objs.size = hp.objs.size := by rw [hp2.1, hp1.1, hs₁.1]
  have hz₃ : IsZipHeld p2 z TI TO T true := hp2.extBut _ _ S.zi2 (hp1.extBut _ _ S.zi1 hz₁)
  have hk : ∀ c o, c ≠ z → c ≠ i1 → c ≠ i2 → hp.get? c = some o → p2.get? c = some o := fun c o c1 c2 c3 e => hp2.extBut _ _ c3 (hp1.extBut _ _ c2 (hs₁.extBut _ _ c1 e))
  have hj1 : St1 (i + 1) p2 := D1.over sn1 hp2 S.sep2_1
  refine wpAny_pure ⟨_, rfl, ?_⟩
  show Q (.ref p2.objs.size) ⟨p2.push { cls := .type "tuple", data := .seq #[x1, x2] }, g, d, tk2, os⟩
  have hpp : IsTupOf2 (p2.push { cls := .type "tuple", data := .seq #[x1, x2] }) p2.objs.size x1 x2 := Heap.get?_push_size _ rfl
  have hz4 : (p2.push { cls := .type "tuple", data := .seq #[x1, x2] }).objs.size = p2.objs.size + 1 := Heap.size_push ..
  rw [hsz] at hpp hz4 ⊢
  exact hQ x1 x2 _ tk2 hx1 hx2 (Heap.get?_push_of_some _ hz₃) (D1.frame _ _ _ hj1 fun b _ o e => Heap.get?_push_of_some _ e) (D2.frame _ _ _ sn2 fun b _ o e => Heap.get?_push_of_some _ e) hpp hz4 fun c o c1 c2 c3 e => Heap.get?_push_of_some _ (hk c o c1 c2 c3 e)
theorem next_end_held {Q : Fin → Shared → Prop} (S : ZipSep2 z TI TO i1 i2 fp1 fp2) (D1 : Draws prog w A i1 fp1 n1 P1 St1) (D2 : Draws prog w A i2 fp2 n2 P2 St2)
    (hz : IsZipHeld s.heap z TI TO T f) (hT : s.heap.get? T = some oT) (hTI : IsTupOf2 s.heap TI (.ref i1) (.ref i2)) (st1 : St1 i s.heap) (st2 : St2 i s.heap) (hle1 : i ≤ n1) (hle2 : i ≤ n2) (hend : i = n1 ∨ i = n2)
    (hE : ∀ h' tk e, (∀ c o, c ≠ z → c ≠ i1 → c ≠ i2 → s.heap.get? c = some o → h'.get? c = some o) → (∃ o, h'.get? e = some o ∧ o.cls = .type "StopIteration") → E (.ref e) { s with heap := h', toks := tk }) :
    wpAny (model prog w) A (Builtin.«zip.__next__» ⟨[.ref z], []⟩) Q E s := by
  obtain ⟨hp, g, d, tk0, os⟩ := s
  show wpAny _ _ (field (.ref z) 2 >>= _) _ _ _
  refine wpAny_bind (wpAny_field hz rfl (x := .bool false) rfl ?_)
  show wpAny _ _ (field (.ref z) 3 >>= _) _ _ _
  refine wpAny_bind (wpAny_field hz rfl (x := .ref TI) rfl ?_)
  refine wpAny_bind (wpAny_seqItems hTI rfl ?_)
  show wpAny _ _ (Builtin.SmallTypes.ownedTupleIsFree (.ref z) >>= _) _ _ _
  refine wpAny_bind (wpAny_tupleHeld_zip hz hT fun h₁ hz₁ hs₁ => ?_)
  replace hs₁ : Heap.SameBut z hp h₁ := hs₁
  simp only [Bool.false_eq_true, if_false]
  refine wpAny_bind ?_
  rw [← Array.forIn_toList]
  simp only [List.forIn_cons, List.forIn_nil]
  refine wpAny_bind (wpAny_bind (wpAny_holding ?_))
  show wpAny _ _ (Builtin.SmallTypes.nextOf (.ref i1) >>= _) _ _ ⟨h₁, g, d, tk0, os⟩
  by_cases hlt1 : i < n1
  · refine wpAny_bind (D1.item i _ _ _ hlt1 (D1.over st1 hs₁ S.zf1) fun x1 p1 tk1 hx1 sn1 hp1 => wpAny_pure ?_)
    replace hp1 : Heap.SameBut i1 h₁ p1 := hp1
    have hi2 : i = n2 := by omega
    refine wpAny_pure ?_
    refine wpAny_bind (wpAny_bind (wpAny_holding ?_))
    show wpAny _ _ (Builtin.SmallTypes.nextOf (.ref i2) >>= _) _ _ ⟨p1, g, d, tk1, os⟩
    refine wpAny_bind (D2.done ⟨p1, g, d, tk1, os⟩ _ _ (by rw [← hi2]; exact (D2.over (D2.over st2 hs₁ S.zf2) hp1 S.sep1_2)) fun q e hq he => ?_)
    exact hE q tk1 e (fun c o c1 c2 c3 x => hq _ _ c3 (hp1.extBut _ _ c2 (hs₁.extBut _ _ c1 x))) he
  · have hi1 : i = n1 := by omega
    refine wpAny_bind (D1.done ⟨h₁, g, d, tk0, os⟩ _ _ (by rw [← hi1]; exact (D1.over st1 hs₁ S.zf1)) fun q e hq he => ?_)
    exact hE q tk0 e (fun c o c1 c2 _ x => hq _ _ c2 (hs₁.extBut _ _ c1 x)) he
theorem pyNext_item_held {Q : Option Value → Shared → Prop} (S : ZipSep2 z TI TO i1 i2 fp1 fp2) (D1 : Draws prog w A.in1 i1 fp1 n1 P1 St1) (D2 : Draws prog w A.in1 i2 fp2 n2 P2 St2)
    (hz : IsZipHeld s.heap z TI TO T f) (hT : s.heap.get? T = some oT) (hTI : IsTupOf2 s.heap TI (.ref i1) (.ref i2)) (st1 : St1 i s.heap) (st2 : St2 i s.heap) (hlt1 : i < n1) (hlt2 : i < n2)
    (hQ : ∀ x1 x2 h' tk, P1 i x1 → P2 i x2 → IsZipHeld h' z TI TO T true → St1 (i + 1) h' → St2 (i + 1) h' → IsTupOf2 h' s.heap.objs.size x1 x2 → h'.objs.size = s.heap.objs.size + 1 →
      (∀ c o, c ≠ z → c ≠ i1 → c ≠ i2 → s.heap.get? c = some o → h'.get? c = some o) → Q (some (.ref s.heap.objs.size)) { s with heap := h', toks := tk }) :
    wpAny (model prog w) A (pyNext (.ref z)) Q E s := by
  have hTy : s.TypeIs (.ref z) "zip" := ⟨_, hz, rfl⟩
  unfold pyNext
  exact wpAny_bind (wpAny_attempt (wpAny_callSpecial?_slot (name := Str.ofString "__next__") hTy F.slot_zip_next
    (wpAny_call_entry F.slot_zip_next hTy F.entry_zip_next
      (next_item_held S D1 D2 hz hT hTI st1 st2 hlt1 hlt2 fun x1 x2 h' tk a1 a2 a3 a4 a5 a6 a7 a8 => wpAny_pure (hQ x1 x2 h' tk a1 a2 a3 a4 a5 a6 a7 a8)) (F.args_zip_next_1 _))))
theorem pyNext_end_held {Q : Option Value → Shared → Prop} (S : ZipSep2 z TI TO i1 i2 fp1 fp2) (D1 : Draws prog w A.in1 i1 fp1 n1 P1 St1) (D2 : Draws prog w A.in1 i2 fp2 n2 P2 St2)
    (hz : IsZipHeld s.heap z TI TO T f) (hT : s.heap.get? T = some oT) (hTI : IsTupOf2 s.heap TI (.ref i1) (.ref i2)) (st1 : St1 i s.heap) (st2 : St2 i s.heap) (hle1 : i ≤ n1) (hle2 : i ≤ n2) (hend : i = n1 ∨ i = n2)
    (hQ : ∀ h' tk, (∀ c o, c ≠ z → c ≠ i1 → c ≠ i2 → s.heap.get? c = some o → h'.get? c = some o) → Q none { s with heap := h', toks := tk }) : wpAny (model prog w) A (pyNext (.ref z)) Q E s := by
  have hTy : s.TypeIs (.ref z) "zip" := ⟨_, hz, rfl⟩
  unfold pyNext
  refine wpAny_bind (wpAny_attempt (wpAny_callSpecial?_slot (name := Str.ofString "__next__") hTy F.slot_zip_next
    (wpAny_call_entry F.slot_zip_next hTy F.entry_zip_next (next_end_held S D1 D2 hz hT hTI st1 st2 hle1 hle2 hend fun h' tk e hk he => ?_) (F.args_zip_next_1 _))))
  obtain ⟨o, ho, hc⟩ := he
  refine wpAny_bind (wpAny_isInstance (T := "StopIteration") (b := true) ⟨o, ho, hc⟩ isSubtype_stop ?_)
  exact wpAny_pure (hQ _ _ hk)
end

/-! ### list(zip(..)): the loop that fills the list -/
/-- the tuples that were made: new, apart, of the items in their order -/
structure Made (as bs : Array Value) (base : Nat) (h : Heap) (Ts : List Addr) : Prop where
  nodup : Ts.Nodup
  new : ∀ T ∈ Ts, base ≤ T ∧ T < h.objs.size
  at_ : ∀ (j : Nat) (T : Addr), Ts[j]? = some T → ∃ x y, as[j]? = some x ∧ bs[j]? = some y ∧ IsTupOf2 h T x y
theorem Made.nil {as bs : Array Value} {base : Nat} {h : Heap} : Made as bs base h [] := ⟨List.nodup_nil, (fun T hT => by cases hT), (fun j T hj => by cases hj)⟩
theorem Made.over {as bs : Array Value} {base : Nat} {h h' : Heap} {Ts : List Addr} (M : Made as bs base h Ts) (hs : h.objs.size ≤ h'.objs.size) (k : ∀ b o, base ≤ b → h.get? b = some o → h'.get? b = some o) : Made as bs base h' Ts :=
  ⟨M.nodup, fun T hT => ⟨(M.new T hT).1, Nat.lt_of_lt_of_le (M.new T hT).2 hs⟩, fun j T hj => let ⟨x, y, h1, h2, h3⟩ := M.at_ j T hj; ⟨x, y, h1, h2, k T _ (M.new T (List.mem_of_getElem? hj)).1 h3⟩⟩
theorem Made.push {as bs : Array Value} {base : Nat} {h h' : Heap} {Ts : List Addr} {x y : Value} (M : Made as bs base h Ts) (hb : base ≤ h.objs.size) (hx : as[Ts.length]? = some x) (hy : bs[Ts.length]? = some y) (hT : IsTupOf2 h' h.objs.size x y) (hs : h'.objs.size = h.objs.size + 1) (k : ∀ b o, base ≤ b → h.get? b = some o → h'.get? b = some o) : Made as bs base h' (Ts ++ [h.objs.size]) := by
  have M' := M.over (h' := h') (by omega) k
  refine ⟨List.nodup_append.mpr ⟨M.nodup, by simp, fun a ha b hb' e => ?_⟩, fun T hT' => ?_, fun j T hj => ?_⟩
  · rw [List.mem_singleton.mp hb'] at e
    have := (M.new a ha).2
    rw [e] at this
    exact absurd this (Nat.lt_irrefl _)
  · rcases List.mem_append.mp hT' with q | q
    · exact M'.new T q
    · rw [List.mem_singleton.mp q]
      exact ⟨hb, by rw [hs]; exact Nat.lt_succ_self _⟩
  · by_cases hl : j < Ts.length
    · rw [List.getElem?_append_left hl] at hj
      exact M'.at_ j T hj
    · rw [List.getElem?_append_right (by omega)] at hj
      have e : j - Ts.length = 0 := by
        cases e : j - Ts.length with
        | zero => rfl
        | succ m => rw [e] at hj; cases hj
      rw [e] at hj
      cases hj
      have ej : j = Ts.length := by omega
      rw [ej]
      exact ⟨x, y, hx, hy, hT⟩
/-- how zip stands when its next is to come -/
def Zst (z TI TO i1 i2 : Addr) (St1 St2 : Nat → Heap → Prop) (Ts : List Addr) (h : Heap) : Prop :=
  IsTupOf2 h TI (.ref i1) (.ref i2) ∧ St1 Ts.length h ∧ St2 Ts.length h ∧ ((IsZip h z TI TO .none ∧ ∃ a b, IsTupOf2 h TO a b) ∨ ∃ T f, T ∈ Ts ∧ IsZipHeld h z TI TO T f)
section
variable {prog : Program} {w : World} {A : Around} {z TI TO i1 i2 SS : Addr} {fp1 fp2 : List Addr} {as bs : Array Value} {St1 St2 : Nat → Heap → Prop} {base : Nat} {n : Nat}
theorem zst_over (S : ZipSep2 z TI TO i1 i2 fp1 fp2) (D1 : Draws prog w A i1 fp1 as.size (fun i v => as[i]? = some v) St1) (D2 : Draws prog w A i2 fp2 bs.size (fun i v => bs[i]? = some v) St2) {h h' : Heap} {Ts : List Addr} (st : Zst z TI TO i1 i2 St1 St2 Ts h) (n1 : SS ∉ fp1) (n2 : SS ∉ fp2) (nz : SS ≠ z) (nTI : SS ≠ TI) (nTO : SS ≠ TO)
    (k : ∀ b o, b ≠ SS → h.get? b = some o → h'.get? b = some o) : Zst z TI TO i1 i2 St1 St2 Ts h' := by
  obtain ⟨h1, h2, h3, h4⟩ := st
  refine ⟨k _ _ nTI.symm h1, D1.frame _ _ _ h2 fun b hb o e => k b o (fun q => n1 (q ▸ hb)) e, D2.frame _ _ _ h3 fun b hb o e => k b o (fun q => n2 (q ▸ hb)) e, ?_⟩
  rcases h4 with ⟨hz, a, b, hO⟩ | ⟨T, f, hT, hz⟩
  · exact .inl ⟨k _ _ nz.symm hz, a, b, k _ _ nTO.symm hO⟩
  · exact .inr ⟨T, f, hT, k _ _ nz.symm hz⟩
/-- the next tuple -/
theorem next_pair {E : Value → Shared → Prop} {Q : Option Value → Shared → Prop} {s : Shared} {Ts : List Addr} (S : ZipSep2 z TI TO i1 i2 fp1 fp2) (D1 : Draws prog w A.in1 i1 fp1 as.size (fun i v => as[i]? = some v) St1) (D2 : Draws prog w A.in1 i2 fp2 bs.size (fun i v => bs[i]? = some v) St2) (st : Zst z TI TO i1 i2 St1 St2 Ts s.heap) (M : Made as bs base s.heap Ts)
    (hb : base ≤ s.heap.objs.size) (bz : z < base) (bO : TO < base) (bI : TI < base) (b1 : i1 < base) (b2 : i2 < base) (l1 : Ts.length < as.size) (l2 : Ts.length < bs.size)
    (hQ : ∀ h' tk, Zst z TI TO i1 i2 St1 St2 (Ts ++ [s.heap.objs.size]) h' → Made as bs base h' (Ts ++ [s.heap.objs.size]) → s.heap.objs.size ≤ h'.objs.size → (∀ c o, c ≠ z → c ≠ TO → c ≠ i1 → c ≠ i2 → s.heap.get? c = some o → h'.get? c = some o) → Q (some (.ref s.heap.objs.size)) { s with heap := h', toks := tk }) :
    wpAny (model prog w) A (pyNext (.ref z)) Q E s := by
  obtain ⟨hTI, st1, st2, h4⟩ := st
  have far : ∀ {h' : Heap}, (∀ c o, c ≠ z → c ≠ TO → c ≠ i1 → c ≠ i2 → s.heap.get? c = some o → h'.get? c = some o) → ∀ b o, base ≤ b → s.heap.get? b = some o → h'.get? b = some o := fun k b o hb' e =>
    k b o (Nat.ne_of_gt (Nat.lt_of_lt_of_le bz hb')) (Nat.ne_of_gt (Nat.lt_of_lt_of_le bO hb')) (Nat.ne_of_gt (Nat.lt_of_lt_of_le b1 hb')) (Nat.ne_of_gt (Nat.lt_of_lt_of_le b2 hb')) e
  rcases h4 with ⟨hz, a, b, hO⟩ | ⟨T, f, hT, hz⟩
  · refine wpAny_pyNext_zipD2_item S D1 D2 hz hTI hO st1 st2 l1 l2 fun x1 x2 h' tk p1 p2 hz' _ st1' st2' hT' hs k => ?_
    exact hQ h' tk ⟨k _ _ S.TIz S.TITO S.TIi1 S.TIi2 hTI, by rw [List.length_append]; exact st1', by rw [List.length_append]; exact st2', .inr ⟨_, false, List.mem_append_right _ (List.mem_singleton.mpr rfl), hz'⟩⟩ (M.push hb p1 p2 hT' hs (far k)) (by omega) k
  · obtain ⟨j, hj⟩ := List.mem_iff_getElem?.mp hT
    obtain ⟨x0, y0, _, _, hTt⟩ := M.at_ j T hj
    refine pyNext_item_held S D1 D2 hz hTt hTI st1 st2 l1 l2 fun x1 x2 h' tk p1 p2 hz' st1' st2' hT' hs k => ?_
    have k' : ∀ c o, c ≠ z → c ≠ TO → c ≠ i1 → c ≠ i2 → s.heap.get? c = some o → h'.get? c = some o := fun c o c1 _ c3 c4 e => k c o c1 c3 c4 e
    exact hQ h' tk ⟨k _ _ S.TIz S.TIi1 S.TIi2 hTI, by rw [List.length_append]; exact st1', by rw [List.length_append]; exact st2', .inr ⟨T, true, List.mem_append_left _ hT, hz'⟩⟩ (M.push hb p1 p2 hT' hs (far k')) (by omega) k'
theorem next_none {E : Value → Shared → Prop} {Q : Option Value → Shared → Prop} {s : Shared} {Ts : List Addr} (S : ZipSep2 z TI TO i1 i2 fp1 fp2) (D1 : Draws prog w A.in1 i1 fp1 as.size (fun i v => as[i]? = some v) St1) (D2 : Draws prog w A.in1 i2 fp2 bs.size (fun i v => bs[i]? = some v) St2) (st : Zst z TI TO i1 i2 St1 St2 Ts s.heap) (M : Made as bs base s.heap Ts)
    (l1 : Ts.length ≤ as.size) (l2 : Ts.length ≤ bs.size) (he : Ts.length = as.size ∨ Ts.length = bs.size)
    (hQ : ∀ h' tk, (∀ c o, c ≠ z → c ≠ TO → c ≠ i1 → c ≠ i2 → s.heap.get? c = some o → h'.get? c = some o) → Q none { s with heap := h', toks := tk }) :
    wpAny (model prog w) A (pyNext (.ref z)) Q E s := by
  obtain ⟨hTI, st1, st2, h4⟩ := st
  rcases h4 with ⟨hz, a, b, hO⟩ | ⟨T, f, hT, hz⟩
  · exact wpAny_pyNext_zipD2_end S D1 D2 hz hTI hO st1 st2 l1 l2 he fun h' tk k => hQ h' tk k
  · obtain ⟨j, hj⟩ := List.mem_iff_getElem?.mp hT
    obtain ⟨x0, y0, _, _, hTt⟩ := M.at_ j T hj
    exact pyNext_end_held S D1 D2 hz hTt hTI st1 st2 l1 l2 he fun h' tk k => hQ h' tk fun c o c1 _ c3 c4 e => k c o c1 c3 c4 e
end
section
variable {prog : Program} {w : World} {A : Around} {R : Result → Shared → Prop} {z TI TO i1 i2 SS : Addr} {fp1 fp2 : List Addr} {as bs : Array Value} {St1 St2 : Nat → Heap → Prop} {base : Nat} {n : Nat}
theorem loop_zip (S : ZipSep2 z TI TO i1 i2 fp1 fp2) (D1 : Draws prog w A.in1.in1 i1 fp1 as.size (fun i v => as[i]? = some v) St1) (D2 : Draws prog w A.in1.in1 i2 fp2 bs.size (fun i v => bs[i]? = some v) St2)
    (hn1 : as.size = n) (hn2 : bs.size = n) (hn : n ≤ 1000000) (bz : z < base) (bO : TO < base) (bI : TI < base) (b1 : i1 < base) (b2 : i2 < base) (bS : SS < base) (s1 : SS ∉ fp1) (s2 : SS ∉ fp2) (nz : SS ≠ z) (nTI : SS ≠ TI) (nTO : SS ≠ TO) (ni1 : SS ≠ i1) (ni2 : SS ≠ i2) (res : Value) :
    ∀ (k : Nat) (s : Shared) (Ts : List Addr) (c : Nat), n - Ts.length = k → Ts.length ≤ n → base ≤ s.heap.objs.size → Zst z TI TO i1 i2 St1 St2 Ts s.heap → Made as bs base s.heap Ts → s.heap.get? SS = some { cls := .type "list", dict := none, data := .seq (Ts.map Value.ref).toArray c, slots := #[] } →
    (∀ h' tk Ts' c', (∀ c o, c ≠ z → c ≠ TO → c ≠ i1 → c ≠ i2 → c ≠ SS → s.heap.get? c = some o → h'.get? c = some o) → Made as bs base h' Ts' → Ts'.length = n → h'.get? SS = some { cls := .type "list", dict := none, data := .seq (Ts'.map Value.ref).toArray c', slots := #[] } → R (.ok (.ret res)) { s with heap := h', toks := tk }) →
    codeAny (model prog w) A (.builtin "list.extend.loop" ⟨[.ref SS, .ref z, res], []⟩) R s := by
  have line : (1000000 : Nat) < sizeLine := by rw [sizeLine_eq]; decide
  intro k
  induction k with
  | zero =>
    intro s Ts c hk hle hb st M hS hR
    have hlen : Ts.length = n := by omega
    refine codeAny_builtin F.entry_extend_loop ?_
    rw [Around.under_plainId F.plain_extend_loop _]
    show wpAny _ A.in1 (pyNext (.ref z) >>= _) _ _ s
    refine wpAny_bind (next_none S D1 D2 st M (by omega) (by omega) (.inl (by omega)) fun h' tk k => ?_)
    have kk : ∀ b o, base ≤ b → s.heap.get? b = some o → h'.get? b = some o := fun b o hb' e => k b o (Nat.ne_of_gt (Nat.lt_of_lt_of_le bz hb')) (Nat.ne_of_gt (Nat.lt_of_lt_of_le bO hb')) (Nat.ne_of_gt (Nat.lt_of_lt_of_le b1 hb')) (Nat.ne_of_gt (Nat.lt_of_lt_of_le b2 hb')) e
    have M' : Made as bs base h' Ts := by
      refine ⟨M.nodup, fun T hT => ⟨(M.new T hT).1, ?_⟩, fun j T hj => let ⟨x, y, h1, h2, h3⟩ := M.at_ j T hj; ⟨x, y, h1, h2, kk T _ (M.new T (List.mem_of_getElem? hj)).1 h3⟩⟩
      obtain ⟨j, hj⟩ := List.mem_iff_getElem?.mp hT
      obtain ⟨x, y, _, _, h3⟩ := M.at_ j T hj
      exact Heap.lt_size (kk T _ (M.new T hT).1 h3)
    exact wpAny_pure (hR h' tk Ts c (fun b o c1 c2 c3 c4 _ e => k b o c1 c2 c3 c4 e) M' hlen (k _ _ nz nTO ni1 ni2 hS))
  | succ k ih =>
    intro s Ts c hk hle hb st M hS hR
    refine codeAny_builtin F.entry_extend_loop ?_
    rw [Around.under_plainId F.plain_extend_loop _]
    show wpAny _ A.in1 (pyNext (.ref z) >>= _) _ _ s
    refine wpAny_bind (next_pair S D1 D2 st M hb bz bO bI b1 b2 (by omega) (by omega) fun h' tk st' M' hsz k' => ?_)
    have hS' := k' _ _ nz nTO ni1 ni2 hS
    show wpAny _ A.in1 (updateSeq SS (·.push (.ref s.heap.objs.size)) >>= _) _ _ _
    refine wpAny_bind ?_
    have hlen : (Ts.map Value.ref).toArray.size = Ts.length := by simp
    have oth : ∀ b o, b ≠ SS → h'.get? b = some o → (h'.update SS (Obj.mapSeq (·.push (.ref s.heap.objs.size)))).get? b = some o := fun b o hb' e => (Heap.get?_update_other _ _ (Ne.symm hb')).trans e
    have hS2 := Heap.get?_update_self (Obj.mapSeq (·.push (Value.ref s.heap.objs.size))) hS' rfl
    have hTm : ((Ts ++ [s.heap.objs.size]).map Value.ref).toArray = (Ts.map Value.ref).toArray.push (.ref s.heap.objs.size) := by simp
    refine wpAny_updateSeq hS' rfl (wpAny_pure ⟨plainId_quiet F.plain_extend_loop _, ih { s with heap := h'.update SS (Obj.mapSeq (·.push (.ref s.heap.objs.size))), toks := tk } (Ts ++ [s.heap.objs.size]) _ (by rw [List.length_append]; simp; omega) (by rw [List.length_append]; simp; omega) ?_ ?_ ?_ (by rw [hTm]; exact hS2) fun h'' tk'' Ts' c' k'' M'' hl'' hS'' => ?_⟩)
      (by rw [hlen]; omega) (by show ((Ts.map Value.ref).toArray.push (.ref s.heap.objs.size)).size ≤ sizeLine + 1; rw [Array.size_push, hlen]; omega)
    · show base ≤ (h'.update SS _).objs.size
      rw [Heap.size_update]
      omega
    · exact zst_over S D1 D2 st' s1 s2 nz nTI nTO oth
    · exact M'.over (by rw [Heap.size_update]; exact Nat.le_refl _) fun b o hb' e => oth b o (Nat.ne_of_gt (Nat.lt_of_lt_of_le bS hb')) e
    · exact hR h'' tk'' Ts' c' (fun b o c1 c2 c3 c4 c5 e => k'' b o c1 c2 c3 c4 c5 (oth b o c5 (k' b o c1 c2 c3 c4 e))) M'' hl'' hS''
end
theorem zip_no_len : typeLookup (.type "zip") "__len__" = pure none := am_miss_of_fast (by decide +kernel)
theorem zip_no_hint : typeLookup (.type "zip") "__length_hint__" = pure none := am_miss_of_fast (by decide +kernel)
section
variable {prog : Program} {w : World} {A : Around} {s : Shared} {R : Result → Shared → Prop} {z TI TO i1 i2 : Addr} {fp1 fp2 : List Addr} {as bs : Array Value} {St1 St2 : Nat → Heap → Prop} {n : Nat}
theorem extend_zip (S : ZipSep2 z TI TO i1 i2 fp1 fp2) (D1 : Draws prog w A.in1.in1 i1 fp1 as.size (fun i v => as[i]? = some v) St1) (D2 : Draws prog w A.in1.in1 i2 fp2 bs.size (fun i v => bs[i]? = some v) St2)
    (hn1 : as.size = n) (hn2 : bs.size = n) (hn : n ≤ 1000000) (SS : Addr) (bz : z < SS) (bO : TO < SS) (bI : TI < SS) (b1 : i1 < SS) (b2 : i2 < SS) (bS : SS < s.heap.objs.size) (s1 : SS ∉ fp1) (s2 : SS ∉ fp2) (res : Value) (c₀ : Nat)
    (hz : IsZip s.heap z TI TO .none) (hO : ∃ a b, IsTupOf2 s.heap TO a b) (hTI : IsTupOf2 s.heap TI (.ref i1) (.ref i2)) (st1 : St1 0 s.heap) (st2 : St2 0 s.heap)
    (hS : s.heap.get? SS = some { cls := .type "list", data := .seq #[] c₀ })
    (hR : ∀ h' tk Ts' c', (∀ c o, c ≠ z → c ≠ TO → c ≠ i1 → c ≠ i2 → c ≠ SS → s.heap.get? c = some o → h'.get? c = some o) → Made as bs (SS + 1) h' Ts' → Ts'.length = n → h'.get? SS = some { cls := .type "list", dict := none, data := .seq (Ts'.map Value.ref).toArray c', slots := #[] } → R (.ok (.ret res)) { s with heap := h', toks := tk }) :
    wpAny (model prog w) A.in1 (Builtin.List.listExtendWith (.ref SS) (.ref z) res)
      (fun fin s' => match fin with | .done f => R (.ok f) s' | .again c' => c'.quiet = true ∧ codeAny (model prog w) A c' R s') (fun e s' => R (.error e) s') s := by
  have hSz : SS ≠ z := Nat.ne_of_gt bz
  have hT : s.TypeIs (.ref z) "zip" := ⟨_, hz, rfl⟩
  unfold Builtin.List.listExtendWith
  refine wpAny_bind (wpAny_typeOf hT ?_)
  have h1 : Builtin.List.listSameRef (.ref SS) (.ref z) = false := by simp [Builtin.List.listSameRef, hSz]
  have h2 : (Value.type "zip" == Value.type "list") = false := by decide
  have h3 : (Value.type "zip" == Value.type "tuple") = false := by decide
  simp only [h1, h2, h3, Bool.or_false, Bool.false_eq_true, if_false]
  refine wpAny_bind (wpAny_pyIter_zip hz ?_)
  refine wpAny_bind (wpAny_holding ?_)
  unfold Builtin.List.listLengthHint
  refine wpAny_bind (wpAny_specialOf hT zip_no_len ?_)
  show wpAny _ A.in1 (specialOf (Value.ref z) (Str.ofString "__length_hint__") >>= _) _ _ _
  refine wpAny_bind (wpAny_specialOf hT zip_no_hint ?_)
  refine wpAny_pure ?_
  show wpAny _ A.in1 (rule "list.extend.makes-room" >>= fun _ => Builtin.List.listTouch (.ref SS) >>= fun _ =>
    again (.builtin "list.extend.loop" ⟨[.ref SS, .ref z, res], []⟩)) _ _ _
  refine wpAny_bind (wpAny_rule ?_)
  refine wpAny_bind ?_
  show wpAny _ A.in1 (updateSeq SS (·.push .none) >>= fun _ => updateSeq SS (·.pop)) _ _ _
  refine wpAny_bind (wpAny_updateSeq hS rfl ?_)
  have hS₂ := Heap.get?_update_self (Obj.mapSeq (·.push Value.none)) hS rfl
  refine wpAny_updateSeq (hz := by seq_fits) hS₂ rfl ?_
  have hS₃ := Heap.get?_update_self (Obj.mapSeq (·.pop)) hS₂ rfl
  have oth : ∀ b o, b ≠ SS → s.heap.get? b = some o → ((s.heap.update SS (Obj.mapSeq (·.push Value.none))).update SS (Obj.mapSeq (·.pop))).get? b = some o :=
    fun b o hb e => (Heap.get?_update_other _ _ (Ne.symm hb)).trans ((Heap.get?_update_other _ _ (Ne.symm hb)).trans e)
  have st0 : Zst z TI TO i1 i2 St1 St2 [] s.heap := ⟨hTI, st1, st2, .inl ⟨hz, hO⟩⟩
  have hsz : ((s.heap.update SS (Obj.mapSeq (·.push Value.none))).update SS (Obj.mapSeq (·.pop))).objs.size = s.heap.objs.size := by rw [Heap.size_update, Heap.size_update]
  refine wpAny_pure ⟨plainId_quiet F.plain_extend_loop _, loop_zip (base := SS + 1) S D1 D2 hn1 hn2 hn (Nat.lt_succ_of_lt bz) (Nat.lt_succ_of_lt bO) (Nat.lt_succ_of_lt bI) (Nat.lt_succ_of_lt b1) (Nat.lt_succ_of_lt b2) (Nat.lt_succ_self _) s1 s2 hSz (Nat.ne_of_gt bI) (Nat.ne_of_gt bO) (Nat.ne_of_gt b1) (Nat.ne_of_gt b2) res n _ [] _ rfl (Nat.zero_le _) (by show SS + 1 ≤ Array.size _; rw [hsz]; exact bS) (zst_over S D1 D2 st0 s1 s2 hSz (Nat.ne_of_gt bI) (Nat.ne_of_gt bO) oth) Made.nil hS₃ fun h' tk Ts' c' k M hl hS' => ?_⟩
  exact hR h' tk Ts' c' (fun b o c1 c2 c3 c4 c5 e => k b o c1 c2 c3 c4 c5 (oth b o c5 e)) M hl hS'
theorem call_list_zip {E : Value → Shared → Prop} {Q : Value → Shared → Prop} (S : ZipSep2 z TI TO i1 i2 fp1 fp2) (D1 : Draws prog w A.in1.in1.in1 i1 fp1 as.size (fun i v => as[i]? = some v) St1) (D2 : Draws prog w A.in1.in1.in1 i2 fp2 bs.size (fun i v => bs[i]? = some v) St2)
    (hn1 : as.size = n) (hn2 : bs.size = n) (hn : n ≤ 1000000) (bz : z < s.heap.objs.size) (bO : TO < s.heap.objs.size) (bI : TI < s.heap.objs.size) (b1 : i1 < s.heap.objs.size) (b2 : i2 < s.heap.objs.size) (s1 : ∀ b ∈ fp1, b < s.heap.objs.size) (s2 : ∀ b ∈ fp2, b < s.heap.objs.size)
    (hz : IsZip s.heap z TI TO .none) (hO : ∃ a b, IsTupOf2 s.heap TO a b) (hTI : IsTupOf2 s.heap TI (.ref i1) (.ref i2)) (st1 : St1 0 s.heap) (st2 : St2 0 s.heap)
    (hQ : ∀ h' tk Ts' c', (∀ c o, c ≠ z → c ≠ TO → c ≠ i1 → c ≠ i2 → s.heap.get? c = some o → h'.get? c = some o) → Made as bs (s.heap.objs.size + 1) h' Ts' → Ts'.length = n → h'.get? s.heap.objs.size = some { cls := .type "list", dict := none, data := .seq (Ts'.map Value.ref).toArray c', slots := #[] } → Q (.ref s.heap.objs.size) { s with heap := h', toks := tk }) :
    wpAny (model prog w) A (call (.type "list") [.ref z]) Q E s := by
  refine callType_codes (Q₁ := fun obj s₁ => obj = .ref s.heap.objs.size ∧ s₁ = { s with heap := s.heap.push { cls := .type "list", data := .seq #[] } }) F.called_list (F.typeCall_list_1 _) F.entry_list_init
    (code_list_new _ ⟨rfl, rfl⟩) fun obj s₁ h₁ => ?_
  obtain ⟨rfl, rfl⟩ := h₁
  have hS : (s.heap.push { cls := .type "list", data := .seq #[] }).get? s.heap.objs.size = some { cls := .type "list", data := .seq #[] } := Heap.get?_push_size _ rfl
  have nfp1 : s.heap.objs.size ∉ fp1 := fun q => Nat.lt_irrefl _ (s1 _ q)
  have nfp2 : s.heap.objs.size ∉ fp2 := fun q => Nat.lt_irrefl _ (s2 _ q)
  refine ⟨⟨_, hS, rfl⟩, F.args_list_init_2 _ _, ?_⟩
  show wpAny _ A.in1.in1 (do let old ← Builtin.List.listItems (.ref s.heap.objs.size); Builtin.List.listUpdate (.ref s.heap.objs.size) (fun _ => #[]); letGo old.toList.reverse; Builtin.List.listExtendWith (.ref s.heap.objs.size) (.ref z) .none) _ _ _
  refine wpAny_bind ?_
  unfold Builtin.List.listItems
  refine wpAny_bind (wpAny_seqItems hS rfl (wpAny_pure ?_))
  show wpAny _ A.in1.in1 (updateSeq s.heap.objs.size (fun _ => #[]) >>= fun _ => letGo (#[] : Array Value).toList.reverse >>= fun _ => Builtin.List.listExtendWith (.ref s.heap.objs.size) (.ref z) .none) _ _ _
  refine wpAny_bind (wpAny_updateSeq hS rfl ?_)
  have hS₂ := Heap.get?_update_self (Obj.mapSeq (fun _ => (#[] : Array Value))) hS rfl
  have oth : ∀ b o, b ≠ s.heap.objs.size → s.heap.get? b = some o → ((s.heap.push { cls := .type "list", data := .seq #[] }).update s.heap.objs.size (Obj.mapSeq (fun _ => (#[] : Array Value)))).get? b = some o :=
    fun b o hb e => (Heap.get?_update_other _ _ (Ne.symm hb)).trans (Heap.get?_push_of_some _ e)
  refine wpAny_bind (wpAny_letGo ?_)
  have o' : ∀ b o, b < s.heap.objs.size → s.heap.get? b = some o → _ := fun b o hb e => oth b o (Nat.ne_of_lt hb) e
  obtain ⟨a, b, hO⟩ := hO
  refine extend_zip (A := A.in1) (n := n) S D1 D2 hn1 hn2 hn s.heap.objs.size bz bO bI b1 b2 (by show s.heap.objs.size < Array.size _; rw [Heap.size_update, Heap.size_push]; exact Nat.lt_succ_self _) nfp1 nfp2 .none _ (o' _ _ bz hz) ⟨a, b, o' _ _ bO hO⟩ (o' _ _ bI hTI) (D1.frame _ _ _ st1 fun b hb o e => o' b o (s1 b hb) e) (D2.frame _ _ _ st2 fun b hb o e => o' b o (s2 b hb) e) hS₂ fun h' tk Ts' c' k M hl hS' => ?_
  exact ⟨rfl, hQ h' tk Ts' c' (fun b o c1 c2 c3 c4 e => k b o c1 c2 c3 c4 (Nat.ne_of_lt (Heap.lt_size e)) (o' b o (Heap.lt_size e) e)) M hl hS'⟩
end
end KZ

namespace KB
open PySem PySem.Spec PyProof.Rows L2 KZ
theorem sep2 {sz a b : Addr} (ha : a < sz) (hb : b < sz) : ZipSep2 (sz + 4) (sz + 2) (sz + 3) sz (sz + 1) [sz, a] [sz + 1, b] := by
  have k : ∀ i j : Nat, i ≠ j → (sz + i : Nat) ≠ sz + j := fun i j h e => h (Nat.add_left_cancel e)
  have n : ∀ (c : Addr) (i : Nat), c < sz → (sz + i : Nat) ≠ c := fun c i h => Nat.ne_of_gt (Nat.lt_of_lt_of_le h (Nat.le_add_right _ _))
  have m1 : ∀ i : Nat, i ≠ 0 → (sz + i : Addr) ∉ [sz, a] := fun i h q => by
    rcases List.mem_cons.mp q with e | q
    · exact k i 0 h e
    · exact n a i ha (List.mem_singleton.mp q)
  have m2 : ∀ i : Nat, i ≠ 1 → (sz + i : Addr) ∉ [(sz + 1 : Addr), b] := fun i h q => by
    rcases List.mem_cons.mp q with e | q
    · exact k i 1 h e
    · exact n b i hb (List.mem_singleton.mp q)
  exact ⟨k 2 4 (by decide), k 3 4 (by decide), k 2 3 (by decide), k 2 0 (by decide), List.mem_cons_self .., m1 4 (by decide), m1 3 (by decide), k 2 1 (by decide), List.mem_cons_self .., m2 4 (by decide), m2 3 (by decide), m2 0 (by decide), m1 1 (by decide)⟩
section
variable {X : Cx} {pins : List (Addr × Obj)} {σ : L2.St} {H : Hp} {s : Shared}
/-- where zip may draw from: a list or a tuple -/
theorem zsrc {a : Addr} {xs : List V} (I : Inv X pins σ H s) (h : SqL X.K H a xs ∨ SqT X.K H a xs) : ∃ (its : List Value) (o : Obj) (H0 : Heap → Prop), Vals xs its ∧ Begins (.ref a) o H0 ∧ H0 s.heap ∧ a < s.heap.objs.size ∧
    ∀ (A : Around) (it : Addr), A.handled = none → a ≠ it → ∃ St : Nat → Heap → Prop, Draws X.prog X.w A it [it, a] its.toArray.size (fun i v => its.toArray[i]? = some v) St ∧ ∀ h', H0 h' → h'.get? it = some o → St 0 h' := by
  rcases h with h | h
  · obtain ⟨its, rv, p, _⟩ := I.list h
    exact ⟨its, _, _, rv, begins_list a its.toArray, p.isList, p.lt, fun A it hh hne => ⟨_, Draws.list hh it a hne its.toArray, fun h' hl hi => ⟨⟨_, hi, rfl, rfl⟩, hl⟩⟩⟩
  · obtain ⟨its, rv, p, _⟩ := I.tuple h
    have lt : a < s.heap.objs.size := by obtain ⟨o, ho, _⟩ := id p; exact Heap.lt_size ho
    exact ⟨its, _, _, rv, begins_tuple a its.toArray, (show s.heap.IsTuple a its.toArray from p), lt, fun A it hh hne => ⟨_, Draws.tuple hh it a hne its.toArray, fun h' hl hi => ⟨⟨_, hi, rfl, rfl⟩, hl⟩⟩⟩
theorem un_add {fs ex : List Addr} {H H1 : Hp} {h h1 : Heap} {a : Addr} {o : HO} (u : Un fs ex H H1 h h1) (hp : h.objs.size ≤ a) (hn : H1 a = none) : Un fs ex H (upd H1 a o) h h1 where
  keep := u.keep
  slot := u.slot
  free := fun b ob e n x => by
    rw [upd_ne (Nat.ne_of_lt (Nat.lt_of_lt_of_le (Heap.lt_size e) hp))]
    exact u.free b ob e n x
  there := u.there
  tups := fun b xs e => by
    have q := u.tups b xs e
    rw [upd_ne (ne_of_none q hn)]
    exact q
  frzs := fun b o u' e => by
    have q := u.frzs b o u' e
    rw [upd_ne (ne_of_none q hn)]
    exact q
  tbls := fun b ps e => by
    obtain ⟨more, q⟩ := u.tbls b ps e
    exact ⟨more, by rw [upd_ne (ne_of_none q hn)]; exact q⟩
theorem vals_ref : ∀ ts : List Addr, Vals (ts.map V.ref) (ts.map Value.ref)
  | [] => .nil
  | t :: r => .cons rfl (vals_ref r)
/-- the tuples taken up, one after another -/
theorem took {P : Program} {w : World} {fs : List Addr} {H : Hp} {h0 h : Heap} {base : Nat} {Ts : List Addr} {xs ys : List V} {its its2 : List Value} (k : ∀ b o, h0.get? b = some o → h.get? b = some o) (ok : HOk P w H h0) (M : Made its.toArray its2.toArray base h Ts) (hb : h0.objs.size ≤ base) (rx : Vals xs its) (ry : Vals ys its2) :
    ∀ j, j ≤ Ts.length → ∃ H', Un fs [] H H' h0 h ∧ HOk P w H' h ∧ Same H H' ∧ (∀ i, i < j → ∀ t x y, Ts[i]? = some t → xs[i]? = some x → ys[i]? = some y → H' t = some (.tup [x, y])) ∧ ∀ a, H' a ≠ none → H a ≠ none ∨ ∃ i, i < j ∧ Ts[i]? = some a
  | 0, _ => ⟨H, Un.kept k, ok.kept k, fun _ _ e => e, fun i hi => absurd hi (Nat.not_lt_zero _), fun a ha => .inl ha⟩
  | j + 1, hj => by
    obtain ⟨H', u, ok', sm, f, g⟩ := took k ok M hb rx ry j (Nat.le_of_succ_le hj)
    have hjl : j < Ts.length := hj
    have ht : Ts[j]? = some Ts[j] := List.getElem?_eq_getElem hjl
    obtain ⟨v, v2, hv, hv2, hT⟩ := M.at_ j _ ht
    have hv' : its[j]? = some v := by simpa using hv
    have hv2' : its2[j]? = some v2 := by simpa using hv2
    have lx := rx.length
    have ly := ry.length
    have jx : j < xs.length := by have := (List.getElem?_eq_some_iff.mp hv').1; omega
    have jy : j < ys.length := by have := (List.getElem?_eq_some_iff.mp hv2').1; omega
    obtain ⟨v', hv'', r1⟩ := rx.get (List.getElem?_eq_getElem jx)
    obtain ⟨v2', hv2'', r2⟩ := ry.get (List.getElem?_eq_getElem jy)
    rw [hv'] at hv''
    rw [hv2'] at hv2''
    cases hv''
    cases hv2''
    have hge : h0.objs.size ≤ Ts[j] := Nat.le_trans hb (M.new _ (List.getElem_mem hjl)).1
    have hn : H' Ts[j] = none := by
      refine Classical.byContradiction fun z => ?_
      rcases g _ z with q | ⟨i, hi, q⟩
      · exact q (ok.fresh hge)
      · have il := (List.getElem?_eq_some_iff.mp q).1
        have e := (List.getElem?_eq_some_iff.mp q).2
        have := (List.pairwise_iff_getElem.mp M.nodup i j il hjl hi)
        exact this e
    refine ⟨upd H' Ts[j] (.tup [xs[j], ys[j]]), un_add u hge hn, HOk.laidN ok' (fun _ _ e => e) hn ⟨by show 2 ≤ sizeLine; rw [sizeLine_eq]; decide, [v, v2], .cons r1 (.cons r2 .nil), ⟨_, hT, rfl, _, rfl⟩⟩, sm.trans (same_upd hn), fun i hi t x y h1 h2 h3 => ?_, fun a ha => ?_⟩
    · by_cases e : i = j
      · subst e
        rw [ht] at h1
        cases h1
        rw [List.getElem?_eq_getElem jx] at h2
        rw [List.getElem?_eq_getElem jy] at h3
        cases h2
        cases h3
        exact upd_same
      · have q := f i (by omega) t x y h1 h2 h3
        rw [upd_ne (ne_of_none q hn)]
        exact q
    · by_cases e : a = Ts[j]
      · exact .inr ⟨j, Nat.lt_succ_self _, by rw [e]; exact ht⟩
      · rw [upd_ne e] at ha
        rcases g a ha with q | ⟨i, hi, q⟩
        · exact .inl q
        · exact .inr ⟨i, by omega, q⟩
end
section
variable {X : Cx} {e e2 : Expr} {ta : TA} {p p2 pos pos2 : Pos}
/-- list(zip(x, y)), x and y lists or tuples of one length -/
def tZipL (K : PySem.W.Frag) (ta : TA) : TE := fun σ H Q => ta σ H fun vs H1 => ∃ (a b : Addr) (xs ys : List V), vs = [.ref a, .ref b] ∧ (SqL K H1 a xs ∨ SqT K H1 a xs) ∧ (SqL K H1 b ys ∨ SqT K H1 b ys) ∧ xs.length = ys.length ∧ xs.length ≤ 1000000 ∧
  ∀ (H' : Hp) (l : Addr) (ts : List Addr), Same H1 H' → H' l = some (.lst (ts.map V.ref)) → ts.length = xs.length → (∀ (i : Nat) (t : Addr) (x y : V), ts[i]? = some t → xs[i]? = some x → ys[i]? = some y → H' t = some (.tup [x, y])) → Q (.ref l) H'
theorem pe_listzip (hc : X.calm = true) (hgl : Gl X "list") (hml : X.mg "list" = none) (hgz : Gl X "zip") (hmz : X.mg "zip" = none) (ha : PA X [e, e2] ta)
    (hs2 : starEach [e, e2] X.env = (false, eval e X.env) :: starEach [e2] X.env := by rfl) (hpl2 : (backTo pos2 (starEach [e2] X.env)).any (·.1) = false := by rfl)
    (hs : starEach [.Call (.Name "zip" p2) [e, e2] [] pos2] X.env = (false, eval (.Call (.Name "zip" p2) [e, e2] [] pos2) X.env) :: starEach [] X.env := by rfl) (hpl : (backTo pos (starEach [] X.env)).any (·.1) = false := by rfl) :
    PE X (.Call (.Name "list" p) [.Call (.Name "zip" p2) [e, e2] [] pos2] [] pos) (tZipL X.K ta) := by
  refine ⟨fun pins s σ H Q I h => ?_⟩
  refine wpAny_Call_Name_kw (ld_blt I hgl hml (u := .type "list") (by decide +kernel) ?_)
  refine PyProof.Rows.callWith_type1 ?_ hs hpl
  rw [hs]
  show wpAny _ _ (spliced ((false, eval (.Call (.Name "zip" p2) [e, e2] [] pos2) X.env) :: backTo pos (starEach [] X.env))) _ _ s
  refine Calls.spliced_cons ?_
  refine wpAny_Call_Name_kw (ld_blt I hgz hmz PyProof.Rows.boot_zip ?_)
  refine PyProof.Rows.callWith_type1 (thn (ha.run pos2 pins s σ H _ I h) fun us s1 ⟨vs, H1, I1, r1, q1⟩ => ?_) hs2 hpl2
  obtain ⟨a, b, xs, ys, ex, hqa, hqb, hlen, hmil, q⟩ := q1
  subst ex
  cases r1 with
  | cons r rr =>
  cases rr with
  | cons r' rr =>
  cases rr
  cases r
  cases r'
  obtain ⟨its, o1, P1, rx, B1, c1, la, D1⟩ := zsrc I1 hqa
  obtain ⟨its2, o2, P2, ry, B2, c2, lb, D2⟩ := zsrc I1 hqb
  have lx := rx.length
  have ly := ry.length
  refine zip_begins2 B1 B2 c1 c2 fun h' hz hTI hTO g1 g2 hsz hk => ?_
  refine Calls.spliced_nil ?_
  have hh : X.A.in1.in1.in1.handled = none := I1.ok.hd hc
  have hS := sep2 la lb
  have na : a ≠ s1.heap.objs.size := Nat.ne_of_lt la
  have nb : b ≠ s1.heap.objs.size + 1 := Nat.ne_of_lt (Nat.lt_succ_of_lt lb)
  obtain ⟨St1, E1, F1⟩ := D1 X.A.in1.in1.in1 s1.heap.objs.size hh na
  obtain ⟨St2, E2, F2⟩ := D2 X.A.in1.in1.in1 (s1.heap.objs.size + 1) hh nb
  have up : ∀ c : Addr, c < s1.heap.objs.size → c < h'.objs.size := fun c hc' => by rw [hsz]; exact Nat.lt_of_lt_of_le hc' (Nat.le_add_right _ _)
  have upi : ∀ i : Nat, i < 5 → (s1.heap.objs.size + i : Addr) < h'.objs.size := fun i hi => by rw [hsz]; exact Nat.add_lt_add_left hi _
  refine call_list_zip (s := { s1 with heap := h' }) (n := its.length) hS E1 E2 (by simp) (by simp; omega) (by omega) (upi 4 (by decide)) (upi 3 (by decide)) (upi 2 (by decide)) (upi 0 (by decide)) (upi 1 (by decide))
    (fun c hc' => by
      rcases List.mem_cons.mp hc' with z | z
      · rw [z]; exact upi 0 (by decide)
      · rw [List.mem_singleton.mp z]; exact up a la)
    (fun c hc' => by
      rcases List.mem_cons.mp hc' with z | z
      · rw [z]; exact upi 1 (by decide)
      · rw [List.mem_singleton.mp z]; exact up b lb)
    hz ⟨_, _, hTO⟩ hTI (F1 h' (B1.keeps _ _ c1 hk) g1) (F2 h' (B2.keeps _ _ c2 hk) g2) fun h2 tk Ts c' k M hl hS2 => ?_
  have old : ∀ c o, s1.heap.get? c = some o → h2.get? c = some o := fun c o e => by
    have lt := Heap.lt_size e
    have n : ∀ i : Nat, c ≠ s1.heap.objs.size + i := fun i => Nat.ne_of_lt (Nat.lt_of_lt_of_le lt (Nat.le_add_right _ _))
    exact k c o (n 4) (n 3) (n 0) (n 1) (hk c o e)
  have hbase : s1.heap.objs.size ≤ h'.objs.size + 1 := by rw [hsz]; omega
  obtain ⟨H2, u, ok, sm, f, g⟩ := took old I1.hok M hbase rx ry Ts.length (Nat.le_refl _)
  have hlge : s1.heap.objs.size ≤ h'.objs.size := by rw [hsz]; omega
  have hln : H2 h'.objs.size = none := by
    refine Classical.byContradiction fun z => ?_
    rcases g _ z with q' | ⟨i, _, q'⟩
    · exact q' (I1.hok.fresh hlge)
    · exact absurd (M.new _ (List.mem_of_getElem? q')).1 (Nat.not_succ_le_self _)
  have hTl : Ts.length ≤ sizeLine := by rw [sizeLine_eq]; omega
  have ok2 := HOk.laidN (a := h'.objs.size) (o := .lst (Ts.map V.ref)) ok (fun _ _ e => e) hln ⟨by rw [List.length_map]; exact hTl, Ts.map Value.ref, c', vals_ref Ts, hS2⟩
  have I2 := I1.un (t' := tk) (un_add (o := .lst (Ts.map V.ref)) u hlge hln) ok2
  exact ⟨.ref h'.objs.size, _, I2, rfl, q _ _ Ts (sm.trans (same_upd hln)) upd_same (by omega) fun i t x y h1 h2 h3 => by
    have w := f i (List.getElem?_eq_some_iff.mp h1).1 t x y h1 h2 h3
    rw [upd_ne (ne_of_none w hln)]
    exact w⟩
end
end KB

namespace KB
open PySem PySem.Spec PyProof.Rows L2
/-! ### words as lists of signs; which begins which -/
theorem starts_iff {a b : Str} : Txt.startswith a b = true ↔ b.cps.toList <+: a.cps.toList := by
  unfold Txt.startswith
  rw [PySem.StrLaws.subAt_eq, List.drop_zero]
  have l : ∀ z : Str, z.length = z.cps.toList.length := fun z => by simp [Str.length]
  constructor
  · intro h
    rw [Bool.and_eq_true] at h
    have := eq_of_beq h.2
    rw [l] at this
    have t := List.take_append_drop b.cps.toList.length a.cps.toList
    rw [this] at t
    exact ⟨_, t⟩
  · rintro ⟨t, ht⟩
    rw [l, l, ← ht, Bool.and_eq_true]
    refine ⟨decide_eq_true (by simp), ?_⟩
    simp
/-- one of two rows of signs begins the other -/
def Cmp (x y : List Nat) : Prop := x <+: y ∨ y <+: x
theorem Cmp.symm {x y : List Nat} (h : Cmp x y) : Cmp y x := h.elim .inr .inl
theorem cmp_app {x y : List Nat} {c : Nat} (h : Cmp (x ++ [c]) y) : Cmp x y := by
  rcases h with h | h
  · exact .inl (List.IsPrefix.trans ⟨[c], rfl⟩ h)
  · exact List.prefix_or_prefix_of_prefix ⟨[c], rfl⟩ h
theorem cmp_two {x : List Nat} {c d : Nat} (h : c ≠ d) : ¬ Cmp (x ++ [c]) (x ++ [d]) := by
  rintro (⟨t, e⟩ | ⟨t, e⟩)
  · rw [List.append_assoc] at e
    have := List.append_cancel_left e
    simp at this
    exact h this.1
  · rw [List.append_assoc] at e
    have := List.append_cancel_left e
    simp at this
    exact h this.1.symm
def Bits (x : List Nat) : Prop := ∀ c ∈ x, c = 48 ∨ c = 49
theorem cmp_split {x y : List Nat} (hy : Bits y) (h : Cmp x y) : Cmp (x ++ [49]) y ∨ Cmp (x ++ [48]) y := by
  rcases h with ⟨t, rfl⟩ | h
  · cases t with
    | nil => exact .inl (.inr (by rw [List.append_nil]; exact ⟨[49], rfl⟩))
    | cons c t =>
      rcases hy c (by simp) with e | e <;> subst e
      · exact .inr (.inl ⟨t, by simp⟩)
      · exact .inl (.inl ⟨t, by simp⟩)
  · exact .inl (.inr (List.IsPrefix.trans h ⟨[49], rfl⟩))
/-- the leaves of a drawn tree over s -/
structure Leaf (s : List Nat) (ls : List (List Nat)) : Prop where
  bits : ∀ x ∈ ls, Bits x ∧ x.length ≤ 40
  apart : ls.Pairwise fun x y => ¬ Cmp x y
  sum : (ls.map fun x => 2 ^ (60 - x.length)).sum = 2 ^ (60 - s.length)
  cover : s = [] → ∀ y, Bits y → ∃ x ∈ ls, Cmp x y
theorem Leaf.one {s : List Nat} (hb : Bits s) (hl : s.length ≤ 40) : Leaf s [s] :=
  ⟨fun x hx => by rw [List.mem_singleton.mp hx]; exact ⟨hb, hl⟩, List.pairwise_singleton _ _, by simp, fun e y _ => ⟨s, List.mem_singleton.mpr rfl, .inl (by rw [e]; exact List.nil_prefix)⟩⟩
theorem Leaf.perm {s : List Nat} {ls ls' : List (List Nat)} (L : Leaf s ls) (p : ls.Perm ls') : Leaf s ls' :=
  ⟨fun x hx => L.bits x (p.mem_iff.mpr hx), (p.pairwise_iff fun h z => h z.symm).mp L.apart, by rw [← L.sum]; exact ((p.map _).sum_nat).symm, fun e y hy => by
    obtain ⟨x, hx, h⟩ := L.cover e y hy
    exact ⟨x, p.mem_iff.mp hx, h⟩⟩
theorem Leaf.split {s x : List Nat} {r : List (List Nat)} (L : Leaf s (x :: r)) (hx : x.length < 40) : Leaf s ((x ++ [49]) :: (x ++ [48]) :: r) := by
  have bx := L.bits x (List.mem_cons_self ..)
  have ap := List.pairwise_cons.mp L.apart
  refine ⟨fun y hy => ?_, ?_, ?_, fun e y hy => ?_⟩
  · rcases List.mem_cons.mp hy with e | hy
    · rw [e]
      exact ⟨fun c hc => (List.mem_append.mp hc).elim (bx.1 c) fun z => .inr (List.mem_singleton.mp z), by rw [List.length_append]; simp; omega⟩
    rcases List.mem_cons.mp hy with e | hy
    · rw [e]
      exact ⟨fun c hc => (List.mem_append.mp hc).elim (bx.1 c) fun z => .inl (List.mem_singleton.mp z), by rw [List.length_append]; simp; omega⟩
    · exact L.bits y (List.mem_cons_of_mem _ hy)
  · refine List.pairwise_cons.mpr ⟨fun y hy => ?_, List.pairwise_cons.mpr ⟨fun y hy h => ap.1 y hy (cmp_app h), ap.2⟩⟩
    rcases List.mem_cons.mp hy with e | hy
    · rw [e]
      exact cmp_two (by decide)
    · exact fun h => ap.1 y hy (cmp_app h)
  · rw [← L.sum]
    simp only [List.map_cons, List.sum_cons, List.length_append, List.length_cons, List.length_nil]
    rw [← Nat.add_assoc, ← Nat.two_mul, ← Nat.pow_succ', show (60 - (x.length + (0 + 1))).succ = 60 - x.length by omega]
  · obtain ⟨z, hz, h⟩ := L.cover e y hy
    rcases List.mem_cons.mp hz with e | hz
    · rw [e] at h
      rcases cmp_split hy h with h | h
      · exact ⟨_, List.mem_cons_self .., h⟩
      · exact ⟨_, List.mem_cons_of_mem _ (List.mem_cons_self ..), h⟩
    · exact ⟨z, List.mem_cons_of_mem _ (List.mem_cons_of_mem _ hz), h⟩
/-- some of them -/
theorem Leaf.sum_le {s : List Nat} {ls : List (List Nat)} (L : Leaf s ls) : (ls.map fun x => 2 ^ (60 - x.length)).sum ≤ 2 ^ 60 := by
  rw [L.sum]
  exact Nat.pow_le_pow_right (by decide) (by omega)
theorem perm_erase {α : Type} : ∀ (ls : List α) (j : Nat) (x : α), ls[j]? = some x → ls.Perm (x :: ls.eraseIdx j)
  | [], j, x, h => by cases j <;> cases h
  | a :: r, 0, x, h => by cases h; exact .refl _
  | a :: r, j + 1, x, h => (List.Perm.cons a (perm_erase r j x h)).trans (List.Perm.swap x a _)
theorem perm_set {α : Type} : ∀ (ls : List α) (j : Nat) (y : α), j < ls.length → (ls.set j y).Perm (y :: ls.eraseIdx j)
  | [], j, y, h => absurd h (Nat.not_lt_zero _)
  | a :: r, 0, y, h => .refl _
  | a :: r, j + 1, y, h => (List.Perm.cons a (perm_set r j y (Nat.lt_of_succ_lt_succ h))).trans (List.Perm.swap y a _)
theorem Leaf.ins {s x : List Nat} {ls : List (List Nat)} {j n : Nat} (L : Leaf s ls) (hj : ls[j]? = some x) (h40 : x.length < 40) : Leaf s ((ls.set j (x ++ [49])).take n ++ [x ++ [48]] ++ (ls.set j (x ++ [49])).drop n) := by
  have hl := (List.getElem?_eq_some_iff.mp hj).1
  have hx := (List.getElem?_eq_some_iff.mp hj).2
  have p1 : ls.Perm (x :: ls.eraseIdx j) := perm_erase _ _ _ hj
  have p2 : (ls.set j (x ++ [49])).Perm ((x ++ [49]) :: ls.eraseIdx j) := perm_set _ _ _ hl
  refine ((L.perm p1).split h40).perm ?_
  have p3 : ((ls.set j (x ++ [49])).take n ++ [x ++ [48]] ++ (ls.set j (x ++ [49])).drop n).Perm ((x ++ [48]) :: ls.set j (x ++ [49])) := by
    rw [List.append_assoc, List.singleton_append]
    refine List.perm_middle.trans ?_
    rw [List.take_append_drop]
  exact ((List.Perm.swap _ _ _).trans ((List.Perm.cons _ p2.symm).trans p3.symm))
def Lc (w : Str) : List Nat := w.cps.toList
theorem Lc_one (w : Str) : Lc (w ++ ("1" : Str)) = Lc w ++ [49] := by
  show (w.cps ++ (("1" : Str)).cps).toList = w.cps.toList ++ [49]
  rw [Array.toList_append]
  rfl
theorem Lc_nil (w : Str) : Lc (w ++ ("0" : Str)) = Lc w ++ [48] := by
  show (w.cps ++ (("0" : Str)).cps).toList = w.cps.toList ++ [48]
  rw [Array.toList_append]
  rfl
theorem Lc_len (w : Str) : (Lc w).length = w.length := by simp [Lc, Str.length]
theorem leaf_turn {s : List Nat} {ws : List Str} {j n : Nat} {w : Str} (L : Leaf s (ws.map Lc)) (hj : ws[j]? = some w) (h40 : w.length < 40) : Leaf s (((ws.set j (w ++ ("1" : Str))).take n ++ [w ++ ("0" : Str)] ++ (ws.set j (w ++ ("1" : Str))).drop n).map Lc) := by
  have := L.ins (n := n) (j := j) (x := Lc w) (by rw [List.getElem?_map, hj]; rfl) (by rw [Lc_len]; exact h40)
  rw [List.map_append, List.map_append, List.map_take, List.map_drop, List.map_set, Lc_one, List.map_cons, Lc_nil]
  exact this
theorem cut_tk (xs : List V) (x : Nat) : cutV xs none (some (x : Int)) = xs.take x := by
  have e2 : HT.sIx xs.length 0 none = 0 := rfl
  unfold cutV
  rw [HT.sIx_nat, e2, Nat.sub_zero, List.drop_zero]
  by_cases h : x ≤ xs.length
  · rw [show min x xs.length = x by omega]
  · rw [show min x xs.length = xs.length by omega, List.take_length, List.take_of_length_le (by omega)]
theorem cut_dr (xs : List V) (x : Nat) : cutV xs (some (x : Int)) none = xs.drop x := by
  have e2 : HT.sIx xs.length xs.length none = xs.length := rfl
  unfold cutV
  rw [HT.sIx_nat, e2]
  by_cases h : x ≤ xs.length
  · rw [show min x xs.length = x by omega, List.take_of_length_le (by rw [List.length_drop]; exact Nat.le_refl _)]
  · rw [show min x xs.length = xs.length by omega, List.drop_of_length_le (Nat.le_refl _), List.drop_of_length_le (by omega), List.take_nil]
end KB
namespace KB
open PySem PySem.Spec PyProof.Rows L2
theorem gN_odd {o : Nat} (j : Nat) (h : o % 2 = 1) : gN (o : Int) ((2 ^ j : Nat) : Int) = 1 := by
  show Nat.gcd o (2 ^ j) = 1
  have e : Nat.gcd o 2 = 1 := by
    rw [Nat.gcd_comm, Nat.gcd_rec, h]
    decide
  exact Nat.Coprime.pow_right j e
theorem red_odd {o : Nat} (j : Nat) (h : o % 2 = 1) : rOd (o : Int) ((2 ^ j : Nat) : Int) = o ∧ rUd (o : Int) ((2 ^ j : Nat) : Int) = ((2 ^ j : Nat) : Int) := by
  have g := gN_odd j h
  have p : ¬ ((2 ^ j : Nat) : Int) < 0 := Int.not_lt.mpr (Int.natCast_nonneg _)
  constructor
  · unfold rOd
    rw [if_neg p, g]
    simp
  · unfold rUd
    rw [if_neg p, g]
    simp
theorem red_half {o j : Nat} (h : o % 2 = 0) : rOd (o : Int) ((2 ^ (j + 1) : Nat) : Int) = rOd ((o / 2 : Nat) : Int) ((2 ^ j : Nat) : Int) ∧ rUd (o : Int) ((2 ^ (j + 1) : Nat) : Int) = rUd ((o / 2 : Nat) : Int) ((2 ^ j : Nat) : Int) := by
  have e1 : (o : Int) = 2 * ((o / 2 : Nat) : Int) := by omega
  have e2 : ((2 ^ (j + 1) : Nat) : Int) = 2 * ((2 ^ j : Nat) : Int) := by rw [Nat.pow_succ]; omega
  rw [e2]
  constructor
  · have := rOd_scale (g := 2) ((o / 2 : Nat) : Int) ((2 ^ j : Nat) : Int) (by decide)
    rw [← e1] at this
    exact this
  · have := rUd_scale (g := 2) ((o / 2 : Nat) : Int) ((2 ^ j : Nat) : Int) (by decide)
    rw [← e1] at this
    exact this
end KB
namespace KB
open PySem PySem.Spec PyProof.Rows L2
/-- a loop over the signs of a text -/
theorem for_sgn {x : Str} {g : TG} {tb : TS} {D : Ends} {σ : L2.St} {H : Hp} (Pv : Nat → L2.St → Hp → Prop) (h0 : Pv 0 σ H)
    (hs : ∀ i c σ H, x.cps[i]? = some c → Pv i σ H → g (.str ⟨#[c]⟩) σ H fun σ2 H2 => tb { D with nx := Pv (i + 1), ct := Pv (i + 1), bk := D.nx } σ2 H2) (hd : ∀ σ H, Pv x.cps.size σ H → D.nx σ H) :
    ∃ W : Nat → Nat → L2.St → Hp → Prop, (∃ m, W 0 m σ H) ∧ ∀ i m σ H, W i m σ H →
      ((Its x).stop i H ∧ D.nx σ H) ∨ ((Its x).go i H ∧ ∃ N : L2.St → Hp → Prop, (∀ σ' H', N σ' H' → ∃ m', m' < m ∧ W (i + 1) m' σ' H') ∧ ∀ v H', (Its x).yld i H v H' → g v σ H' fun σ2 H2 => tb { D with nx := N, ct := N, bk := D.nx } σ2 H2) := by
  refine ⟨fun i m σ H => m = x.cps.size - i ∧ i ≤ x.cps.size ∧ Pv i σ H, ⟨x.cps.size, by simp, Nat.zero_le _, h0⟩, ?_⟩
  rintro i m σ H ⟨rfl, hi, p⟩
  by_cases hlt : i < x.cps.size
  · refine .inr ⟨hlt, Pv (i + 1), fun σ' H' p' => ⟨x.cps.size - (i + 1), by omega, rfl, hlt, p'⟩, fun v H' y => ?_⟩
    obtain ⟨rfl, c, hc, rfl⟩ := y
    exact hs i c σ _ hc p
  · have e : i = x.cps.size := by omega
    subst e
    exact .inl ⟨Nat.le_refl _, hd σ H p⟩
end KB
namespace KB
open PySem PySem.Spec PyProof.Rows L2
/-! ### the words of a code do not begin one another -/
theorem fill_keep {k : Nat} : ∀ (ks : List (Int × Int)) (u : Nat) (ws : List Str), (∀ p ∈ ks, p.2.toNat ≠ k) → (fillW ks u ws)[k]? = ws[k]?
  | [], _, _, _ => rfl
  | p :: r, u, ws, h => by
    show (fillW r _ _)[k]? = _
    rw [fill_keep r _ _ fun q hq => h q (List.mem_cons_of_mem _ hq), List.getElem?_set_ne (h p (List.mem_cons_self ..))]
theorem fill_get : ∀ (ks : List (Int × Int)) (u : Nat) (ws : List Str), (ks.map fun p => p.2.toNat).Nodup → ∀ (j : Nat) (p : Int × Int), ks[j]? = some p → p.2.toNat < ws.length →
    (fillW ks u ws)[p.2.toNat]? = some (wordS p.1.toNat ((u + kr ((ks.map fun p => p.1.toNat).take j)) / 2 ^ (40 - p.1.toNat)))
  | [], _, _, _, j, p, h, _ => by cases j <;> cases h
  | q :: r, u, ws, nd, 0, p, h, hl => by
    cases h
    rw [List.map_cons, List.nodup_cons] at nd
    show (fillW r _ _)[q.2.toNat]? = _
    rw [fill_keep r _ _ fun x hx e => nd.1 (List.mem_map.mpr ⟨x, hx, e⟩), List.getElem?_set_self hl]
    rfl
  | q :: r, u, ws, nd, j + 1, p, h, hl => by
    rw [List.map_cons, List.nodup_cons] at nd
    show (fillW r _ _)[p.2.toNat]? = _
    rw [fill_get r _ _ nd.2 j p h (by rw [List.length_set]; exact hl), List.map_cons, List.take_succ_cons]
    show some (wordS _ ((u + 2 ^ (40 - q.1.toNat) + _) / _)) = some (wordS _ ((u + (2 ^ (40 - q.1.toNat) + _)) / _))
    rw [Nat.add_assoc]
theorem Lc_word (l v : Nat) : Lc (wordS l v) = bitsL l v := by
  unfold Lc wordS
  simp
/-- of two words of a code, sorted, none begins the other -/
theorem code_apart {fs : List Nat} (hs : fs.Pairwise (· ≤ ·)) (h40 : ∀ n ∈ fs, n ≤ 40) (hk : kr fs ≤ 2 ^ 40) {i j l m : Nat} (hi : fs[i]? = some l) (hj : fs[j]? = some m) (hji : j < i) :
    ¬ Cmp (Lc (wordS m (ua fs j / 2 ^ (40 - m)))) (Lc (wordS l (ua fs i / 2 ^ (40 - l)))) := by
  have hil := (List.getElem?_eq_some_iff.mp hi).1
  have hjl := (List.getElem?_eq_some_iff.mp hj).1
  have ei := (List.getElem?_eq_some_iff.mp hi).2
  have ej := (List.getElem?_eq_some_iff.mp hj).2
  have hml : m ≤ l := by
    have := List.pairwise_iff_getElem.mp hs j i hjl hil hji
    omega
  have hl40 := h40 l (List.mem_of_getElem? hi)
  have p : 0 < 2 ^ (40 - l) := Nat.pow_pos (by decide)
  have dv := ua_dvd hs hi i (Nat.le_refl _)
  have room : ua fs i + 2 ^ (40 - l) ≤ 2 ^ 40 := by
    rw [← ua_succ hi]
    have e2 := List.take_append_drop (i + 1) fs
    have := kr_app (fs.take (i + 1)) (fs.drop (i + 1))
    rw [e2] at this
    unfold ua
    omega
  have back : ua fs i / 2 ^ (40 - l) * 2 ^ (40 - l) = ua fs i := Nat.div_mul_cancel dv
  have hv : ua fs i / 2 ^ (40 - l) < 2 ^ l := by
    rw [Nat.div_lt_iff_lt_mul p, ← Nat.pow_add, show l + (40 - l) = 40 by omega]
    omega
  have b := begun_iff hs h40 hk hi hv
  rw [back, decide_eq_false (Nat.lt_irrefl _)] at b
  have gj : fs.getD j 0 = m := by rw [List.getD_eq_getElem?_getD, hj]; rfl
  have no : ¬ Txt.startswith (wordS l (ua fs i / 2 ^ (40 - l))) (wordS m (ua fs j / 2 ^ (40 - m))) = true := fun z => by
    have := List.any_eq_false.mp b _ (List.mem_map.mpr ⟨j, List.mem_range.mpr hji, rfl⟩)
    rw [gj] at this
    exact this z
  rintro (z | z)
  · exact no (starts_iff.mpr z)
  · have le := z.length_le
    rw [Lc_word, Lc_word, bitsL_len, bitsL_len] at le
    have e : Lc (wordS l (ua fs i / 2 ^ (40 - l))) = Lc (wordS m (ua fs j / 2 ^ (40 - m))) := z.eq_of_length (by rw [Lc_word, Lc_word, bitsL_len, bitsL_len]; omega)
    exact no (starts_iff.mpr ⟨[], by rw [List.append_nil]; exact e.symm⟩)
theorem bitsL_bits : ∀ l v, Bits (bitsL l v)
  | 0, _ => fun c hc => by cases hc
  | l + 1, v => fun c hc => by
    rcases List.mem_append.mp (show c ∈ bitsL l (v / 2) ++ [48 + v % 2] from hc) with z | z
    · exact bitsL_bits l _ c z
    · rw [List.mem_singleton.mp z]
      omega
theorem Lc_bits (l v : Nat) : Bits (Lc (wordS l v)) := by
  rw [Lc_word]
  exact bitsL_bits l v
theorem prs_snd (ls : List Nat) : (prs ls).map (fun p => p.2.toNat) = List.range ls.length := by
  unfold prs
  rw [List.map_map]
  refine List.ext_getElem? fun j => ?_
  rw [List.getElem?_map]
  by_cases h : j < ls.length
  · rw [List.getElem?_range h]
    show some (((j : Int)).toNat) = _
    rw [Int.toNat_natCast]
  · rw [List.getElem?_eq_none (by simpa using h)]
    rfl
theorem code_words {ls : List Nat} {ks : List (Int × Int)} (h : IsOrd ls ks) (h40 : ∀ n ∈ ls, n ≤ 40) (hk : kr ls ≤ 2 ^ 40) :
    (∀ (k l : Nat), ls[k]? = some l → ∃ v, (codeS ks ls.length)[k]? = some (wordS l v)) ∧ ((codeS ks ls.length).map Lc).Pairwise fun x y => ¬ Cmp x y := by
  have nd : (ks.map fun p => p.2.toNat).Nodup := by
    have := (h.1.map fun p => p.2.toNat).nodup_iff.mpr (by rw [prs_snd]; exact List.nodup_range)
    exact this
  obtain ⟨fs, hfs⟩ : ∃ fs, fs = ks.map fun p => p.1.toNat := ⟨_, rfl⟩
  have hs : fs.Pairwise (· ≤ ·) := by rw [hfs]; exact h.fst
  have hkf : kr fs ≤ 2 ^ 40 := by rw [hfs, h.kr]; exact hk
  have f40 : ∀ n ∈ fs, n ≤ 40 := fun n hn => by
    rw [hfs] at hn
    obtain ⟨p, hp, rfl⟩ := List.mem_map.mp hn
    obtain ⟨l, k, rfl, hl⟩ := h.mem hp
    show ((l : Int)).toNat ≤ 40
    rw [Int.toNat_natCast]
    exact h40 l (List.mem_of_getElem? hl)
  have one : ∀ (k l : Nat), ls[k]? = some l → ∃ j, ks[j]? = some ((l : Int), (k : Int)) ∧ fs[j]? = some l ∧ (codeS ks ls.length)[k]? = some (wordS l (ua fs j / 2 ^ (40 - l))) := fun k l hl => by
    have hkl := (List.getElem?_eq_some_iff.mp hl).1
    have hm : ((l : Int), (k : Int)) ∈ ks := h.1.mem_iff.mpr (List.mem_of_getElem? (prs_get hl))
    obtain ⟨j, hj⟩ := List.mem_iff_getElem?.mp hm
    have g := fill_get ks 0 (List.replicate ls.length "") nd j _ hj (by rw [List.length_replicate]; exact hkl)
    refine ⟨j, hj, by rw [hfs, List.getElem?_map, hj]; rfl, ?_⟩
    rw [Nat.zero_add] at g
    have e1 : ((l : Int), (k : Int)).1.toNat = l := rfl
    have e2 : ((l : Int), (k : Int)).2.toNat = k := rfl
    rw [e1, e2, ← hfs] at g
    exact g
  refine ⟨fun k l hl => let ⟨j, _, _, h3⟩ := one k l hl; ⟨_, h3⟩, ?_⟩
  rw [List.pairwise_iff_getElem]
  intro x y hx hy hxy
  have cl := codeS_len ks ls.length
  have hx' : x < ls.length := by rw [List.length_map, cl] at hx; exact hx
  have hy' : y < ls.length := by rw [List.length_map, cl] at hy; exact hy
  obtain ⟨jx, a1, a2, a3⟩ := one x _ (List.getElem?_eq_getElem hx')
  obtain ⟨jy, b1, b2, b3⟩ := one y _ (List.getElem?_eq_getElem hy')
  have ex := (List.getElem?_eq_some_iff.mp a3).2
  have ey := (List.getElem?_eq_some_iff.mp b3).2
  rw [List.getElem_map, List.getElem_map, ex, ey]
  rcases Nat.lt_trichotomy jx jy with z | z | z
  · exact code_apart hs f40 hkf b2 a2 z
  · rw [z, b1] at a1
    have := congrArg (fun o : Option (Int × Int) => match o with | some p => p.2 | none => 0) a1
    have e : (y : Int) = (x : Int) := this
    omega
  · exact fun c => code_apart hs f40 hkf a2 b2 z c.symm
end KB

namespace KB
open PySem PySem.Spec PyProof.Rows L2
/-! ### a list of numbers beside the box -/
structure Nb (B0 B H : Hp) (t p : Addr) (c : Nat) (bs : List Nat) : Prop where
  same : Same B0 B
  bx : Bx B H t c
  at_ : B p = some (.lst (bs.map nI))
  nb : B0 p = none
theorem Nb.set {B0 B H : Hp} {t p : Addr} {c : Nat} {bs : List Nat} (N : Nb B0 B H t p c bs) (zs : List Nat) : Nb B0 (upd B p (.lst (zs.map nI))) (upd H p (.lst (zs.map nI))) t p c zs :=
  ⟨same_out N.same N.nb, N.bx.set N.at_, upd_same, N.nb⟩
theorem Nb.hd {B0 B H : Hp} {t p : Addr} {c : Nat} {bs : List Nat} (N : Nb B0 B H t p c bs) : H p = some (.lst (bs.map nI)) := N.bx.at N.at_
theorem Nb.le {B0 B H : Hp} {t p : Addr} {c d : Nat} {bs : List Nat} (N : Nb B0 B H t p c bs) (h : c ≤ d) : Nb B0 B H t p d bs := ⟨N.same, N.bx.le h, N.at_, N.nb⟩
theorem Nb.drw {B0 B H H' : Hp} {t p : Addr} {c d : Nat} {bs : List Nat} (N : Nb B0 B H t p c bs) (T : Bx B H' t d) : Nb B0 B H' t p d bs := ⟨N.same, T, N.at_, N.nb⟩
theorem Nb.put {B0 B H : Hp} {t p : Addr} {c : Nat} {bs : List Nat} (N : Nb B0 B H t p c bs) (j n : Nat) : Nb B0 (upd B p (.lst ((bs.map nI).set j (nI n)))) (upd H p (.lst ((bs.map nI).set j (nI n)))) t p c (bs.set j n) := by
  rw [setN]
  exact N.set _
theorem Nb.app {B0 B H : Hp} {t p : Addr} {c : Nat} {bs : List Nat} (N : Nb B0 B H t p c bs) (n : Nat) : Nb B0 (upd B p (.lst (bs.map nI ++ [nI n]))) (upd H p (.lst (bs.map nI ++ [nI n]))) t p c (bs ++ [n]) := by
  rw [show bs.map nI ++ [nI n] = (bs ++ [n]).map nI by rw [List.map_append]; rfl]
  exact N.set _
theorem Nb.era {B0 B H : Hp} {t p : Addr} {c : Nat} {bs : List Nat} (N : Nb B0 B H t p c bs) (j : Nat) : Nb B0 (upd B p (.lst ((bs.map nI).eraseIdx j))) (upd H p (.lst ((bs.map nI).eraseIdx j))) t p c (bs.eraseIdx j) := by
  rw [eraN bs j]
  exact N.set _
theorem Nb.ins {B0 B H : Hp} {t p : Addr} {c : Nat} {bs : List Nat} (N : Nb B0 B H t p c bs) (j n : Nat) : Nb B0 (upd B p (.lst ((bs.map nI).take j ++ [nI n] ++ (bs.map nI).drop j))) (upd H p (.lst ((bs.map nI).take j ++ [nI n] ++ (bs.map nI).drop j))) t p c (bs.take j ++ [n] ++ bs.drop j) := by
  rw [show (bs.map nI).take j ++ [nI n] ++ (bs.map nI).drop j = (bs.take j ++ [n] ++ bs.drop j).map nI by simp [List.map_take, List.map_drop]]
  exact N.set _
/-- a new list of numbers -/
theorem Bx.nb {B H : Hp} {t p : Addr} {c : Nat} (T : Bx B H t c) (hp : H p = none) (bs : List Nat) : Nb B (upd B p (.lst (bs.map nI))) (upd H p (.lst (bs.map nI))) t p c bs :=
  ⟨same_upd (T.isn hp), T.new hp, upd_same, T.isn hp⟩
/-- what is below the base, too -/
theorem Nb.low {A B0 B H : Hp} {t p : Addr} {c : Nat} {bs : List Nat} (N : Nb B0 B H t p c bs) (s : Same A B0) : Nb A B H t p c bs := ⟨s.trans N.same, N.bx, N.at_, s.free N.nb⟩
/-- the list's place, from its members -/
theorem Nb.at_nat {B0 B H : Hp} {t p : Addr} {c : Nat} {bs : List Nat} {i : Nat} (hi : i < bs.length) : atI (bs.map nI) (i : Int) = some (.int (bs.getD i 0 : Nat)) :=
  atI_nat (j := i) (by rw [List.getElem?_map, List.getD_eq_getElem?_getD, List.getElem?_eq_getElem hi]; rfl)
theorem at_num {bs : List Nat} {i : Nat} (hi : i < bs.length) : atI (bs.map nI) (i : Int) = some (.int (bs.getD i 0 : Nat)) :=
  atI_nat (j := i) (by rw [List.getElem?_map, List.getD_eq_getElem?_getD, List.getElem?_eq_getElem hi]; rfl)
theorem getD_le {bs : List Nat} {i m : Nat} (h : ∀ n ∈ bs, n ≤ m) : bs.getD i 0 ≤ m := by
  rw [List.getD_eq_getElem?_getD]
  cases e : bs[i]? with
  | none => exact Nat.zero_le _
  | some n => exact h n (List.mem_of_getElem? e)
end KB

namespace KB
open PySem PySem.Spec PyProof.Rows L2
/-! ### math.lcm of wide numbers -/
section
variable {X : Cx}
def rLcm : List V → Hp → VK → Prop := fun vs H Q => ∃ a b : Nat, vs = [.int a, .int b] ∧ a < 2 ^ 12000 ∧ b < 2 ^ 12000 ∧ Q (.int (Nat.lcm a b : Nat)) H
theorem cr_lcm : CallR X (.builtin "math.lcm") rLcm := by
  intro pins s σ H vs us Q I r h
  obtain ⟨a, b, rfl, ha, hb, q⟩ := h
  obtain ⟨t, u, rfl⟩ := Vals.int2 r
  have lg : ∀ n : Nat, n < 2 ^ 12000 → n.log2 < 12000 := fun n hn => by
    by_cases h0 : n = 0
    · subst h0
      decide
    · exact (Nat.log2_lt h0).mpr hn
  have h1 : (max 1 ((a : Int)).natAbs).log2 < 12000 := lg _ (by rw [Int.natAbs_natCast]; exact Nat.max_lt.mpr ⟨Nat.lt_of_lt_of_le (by decide) (Nat.pow_le_pow_right (by decide : 0 < 2) (show 1 ≤ 12000 by decide)), ha⟩)
  have h2 : (max ((a : Int)).natAbs ((b : Int)).natAbs).log2 < 12000 := lg _ (by rw [Int.natAbs_natCast, Int.natAbs_natCast]; exact Nat.max_lt.mpr ⟨ha, hb⟩)
  have h3 : ((((Nat.lcm 1 ((a : Int)).natAbs).lcm ((b : Int)).natAbs : Nat) : Int)).natAbs.log2 < bitsLine := by
    rw [PySem.W.mc_lcm_one, Int.natAbs_natCast, Int.natAbs_natCast, Int.natAbs_natCast]
    have e : bitsLine = 134217728 := by decide
    rw [e]
    by_cases h0 : a.lcm b = 0
    · rw [h0]
      decide
    · refine (Nat.log2_lt h0).mpr (Nat.lt_of_le_of_lt (PySem.W.mc_lcm_le a b) ?_)
      have h4 : a * b ≤ 2 ^ 12000 * 2 ^ 12000 := Nat.mul_le_mul (Nat.le_of_lt ha) (Nat.le_of_lt hb)
      rw [← Nat.pow_add] at h4
      exact Nat.lt_of_le_of_lt h4 (Nat.pow_lt_pow_right (by decide) (by decide))
  refine call_function_meets PySem.W.MGF.kind_lcm PySem.W.MGF.plain_lcm PySem.W.MGF.entry_lcm (PySem.W.MGF.args_lcm _ _) (PySem.W.mg_run_lcm a t b u (by omega) (by omega) h3).meets ?_
  rw [PySem.W.mc_lcm_one, Int.natAbs_natCast, Int.natAbs_natCast]
  exact ⟨.int _, H, I.tok _, ⟨_, rfl⟩, q⟩
end
end KB
namespace KB
open PySem PySem.Spec PyProof.Rows L2
/-- e.f within a comprehension -/
theorem pe_fldC {X : Cx} (K : PySem.W.Frag) {e : Expr} {f : Str} {pos : Pos} {ta : TE} (he : PE X e ta) (hb : attributeBase e f X.env (eval e X.env) = eval e X.env) (hK : X.K = K := by rfl) : PE X (.Attribute e f pos) (tFld K ta f) := by
  subst hK
  exact pe_fld he hb
end KB
namespace KB
open PySem PySem.Spec PyProof.Rows L2
/-- a comprehension without a condition -/
theorem tyes {σ : L2.St} {H : Hp} {A B : Hp → Prop} (h : A H) : tYes σ H fun b H3 => if b = true then A H3 else B H3 := by
  show if true = true then A H else B H
  rw [if_pos rfl]
  exact h
end KB
namespace KB
open PySem PySem.Spec PyProof.Rows L2
theorem Sh.lst {C D x : Addr} {H : Hp} {n d : Int} {xs : List V} {o : HO} (h : Sh C H x n d) (e : H D = some (.lst xs)) : Sh C (upd H D o) x n d := by
  obtain ⟨dx, h⟩ := h
  exact ⟨dx, by rw [upd_ne (fun z => by rw [z, e] at h; cases h)]; exact h⟩
end KB

namespace KB
open PySem PySem.Spec PyProof.Rows L2
/-! ### zip(one, other), each a list, a tuple or a text -/
inductive Src | lst (a : Addr) | tup (a : Addr) | txt (x : Str)
def sgnsV (x : Str) : List V := x.cps.toList.map fun c => V.str ⟨#[c]⟩
def Src.v : Src → V
  | .lst a => .ref a
  | .tup a => .ref a
  | .txt x => .str x
def Src.has (K : PySem.W.Frag) (H : Hp) : Src → List V → Prop
  | .lst a, xs => SqL K H a xs
  | .tup a, xs => SqT K H a xs
  | .txt x, xs => xs = sgnsV x
def Src.fp : Src → List Addr
  | .lst a => [a]
  | .tup a => [a]
  | .txt _ => []
def Src.at (t : Tok) (it : Addr) (i : Nat) (h : Heap) : Src → Prop
  | .lst a => h.IsListIter it a i
  | .tup a => h.IsTupleIter it a i
  | .txt x => h.IsStrIter it (strIterType x) x t i
def ItZ (K : PySem.W.Frag) (u1 u2 : Src) : It := ⟨
  fun i H => ∃ (xs ys : List V) (x y : V), u1.has K H xs ∧ u2.has K H ys ∧ xs[i]? = some x ∧ ys[i]? = some y,
  fun i H v H' => ∃ T x y, v = .ref T ∧ H T = none ∧ H' = upd H T (.tup [x, y]) ∧ (∀ xs, u1.has K H xs → xs[i]? = some x) ∧ (∀ ys, u2.has K H ys → ys[i]? = some y),
  fun i H => ∃ xs ys : List V, u1.has K H xs ∧ u2.has K H ys ∧ i ≤ xs.length ∧ i ≤ ys.length ∧ (i = xs.length ∨ i = ys.length)⟩
section
variable {X : Cx} {pins : List (Addr × Obj)} {σ : L2.St} {H : Hp} {s : Shared}
theorem Src.inj (I : Inv X pins σ H s) : ∀ {u : Src} {xs ys : List V}, u.has X.K H xs → u.has X.K H ys → xs = ys
  | .lst _, _, _, h1, h2 => I.list_inj h1 h2
  | .tup _, _, _, h1, h2 => I.tuple_inj h1 h2
  | .txt _, _, _, h1, h2 => h1.trans h2.symm
theorem vals_of {xs : List V} {its : List Value} (rv : Vals xs its) {j : Nat} {x : Value} (h : its.toArray[j]? = some x) : ∃ y, xs[j]? = some y ∧ RelV y x := by
  have hl := rv.length
  have hj : j < its.length := by
    have := (Array.getElem?_eq_some_iff.mp h).1
    simpa using this
  have e : xs[j]? = some xs[j] := List.getElem?_eq_getElem (by omega)
  obtain ⟨u, hu, ru⟩ := rv.get e
  have h' : its[j]? = some x := by simpa using h
  rw [hu] at h'
  cases h'
  exact ⟨_, e, ru⟩
theorem src_draws (I : Inv X pins σ H s) {A : Around} (hh : A.handled = none) {t : Tok} {it : Addr} {i : Nat} : ∀ {u : Src} {xs : List V}, u.has X.K H xs → u.at t it i s.heap → (∀ a ∈ u.fp, a ≠ it) →
    ∃ (St : Nat → Heap → Prop) (P : Nat → Value → Prop), Draws X.prog X.w A it (it :: u.fp) xs.length P St ∧ St i s.heap ∧ (∀ j x, P j x → ∃ y, xs[j]? = some y ∧ RelV y x) ∧ ∀ j h', St j h' → u.at t it j h'
  | .lst a, xs, h, hat, hne => by
    obtain ⟨its, rv, p, _⟩ := I.list h
    have hl : xs.length = its.toArray.size := by rw [rv.length]; simp
    rw [hl]
    exact ⟨_, _, Draws.list hh it a (hne a (List.mem_singleton.mpr rfl)) its.toArray, ⟨hat, p.isList⟩, fun j x hx => vals_of rv hx, fun j h' st => st.1⟩
  | .tup a, xs, h, hat, hne => by
    obtain ⟨its, rv, p, _⟩ := I.tuple h
    have hl : xs.length = its.toArray.size := by rw [rv.length]; simp
    rw [hl]
    exact ⟨_, _, Draws.tuple hh it a (hne a (List.mem_singleton.mpr rfl)) its.toArray, ⟨hat, (show s.heap.IsTuple a its.toArray from p)⟩, fun j x hx => vals_of rv hx, fun j h' st => st.1⟩
  | .txt x, xs, h, hat, hne => by
    have e : xs = sgnsV x := h
    subst e
    have hl : (sgnsV x).length = x.cps.size := by unfold sgnsV; simp
    rw [hl]
    refine ⟨_, _, Draws.text hh it x t, hat, fun j v hv => ?_, fun j h' st => st⟩
    obtain ⟨c, u, hc, rfl⟩ := hv
    refine ⟨.str ⟨#[c]⟩, ?_, ⟨_, rfl⟩⟩
    unfold sgnsV
    rw [List.getElem?_map, Array.getElem?_toList, hc]
    rfl
theorem src_begins (I : Inv X pins σ H s) : ∀ {u : Src} {xs : List V} {val : Value}, u.has X.K H xs → RelV u.v val → ∃ (t : Tok) (o : Obj) (H0 : Heap → Prop), Begins val o H0 ∧ H0 s.heap ∧ (∀ a ∈ u.fp, a < s.heap.objs.size) ∧ ∀ h' it, h'.get? it = some o → u.at t it 0 h'
  | .lst a, xs, val, h, r => by
    obtain ⟨its, rv, p, _⟩ := I.list h
    cases r
    exact ⟨0, _, _, begins_list a its.toArray, p.isList, fun b hb => by rw [List.mem_singleton.mp hb]; exact p.lt, fun h' it hi => ⟨_, hi, rfl, rfl⟩⟩
  | .tup a, xs, val, h, r => by
    obtain ⟨its, rv, p, _⟩ := I.tuple h
    cases r
    have lt : a < s.heap.objs.size := by obtain ⟨o, ho, _⟩ := id p; exact Heap.lt_size ho
    exact ⟨0, _, _, begins_tuple a its.toArray, (show s.heap.IsTuple a its.toArray from p), fun b hb => by rw [List.mem_singleton.mp hb]; exact lt, fun h' it hi => ⟨_, hi, rfl, rfl⟩⟩
  | .txt x, xs, val, h, r => by
    obtain ⟨t, rfl⟩ := r
    exact ⟨t, _, _, begins_text x t, trivial, fun b hb => (by cases hb), fun h' it hi => ⟨_, hi, rfl, rfl⟩⟩
end
theorem turn_zipG {P : Program} {w : World} {K : PySem.W.Frag} {elts : List Expr} {kk : Nat} {tpos : Pos} {u1 u2 : Src} {t1 t2 : Tok} {z TI TO i1 i2 : Addr} (D : ZipSep2 z TI TO i1 i2 (i1 :: u1.fp) (i2 :: u2.fp)) (n1 : ∀ a ∈ u1.fp, a ≠ i1) (n2 : ∀ a ∈ u2.fp, a ≠ i2) :
    Turn P w K (.Tuple elts kk tpos) (ItZ K u1 u2) [z, TI, TO, i1, i2] z (fun i h => IsZip h z TI TO .none ∧ IsTupOf2 h TI (.ref i1) (.ref i2) ∧ (∃ x y, IsTupOf2 h TO x y) ∧ u1.at t1 i1 i h ∧ u2.at t2 i2 i h) where
  mem := by simp
  obj := fun i h st c hc => by
    have atO : ∀ {u : Src} {t : Tok} {it : Addr}, u.at t it i h → ∃ o, h.get? it = some o ∧ ∀ v, o.data ≠ .cell v := fun {u t it} hu => by
      cases u with
      | lst a => obtain ⟨o, e, _, d⟩ := hu; exact ⟨o, e, fun v q => by rw [d] at q; cases q⟩
      | tup a => obtain ⟨o, e, _, d⟩ := hu; exact ⟨o, e, fun v q => by rw [d] at q; cases q⟩
      | txt x => obtain ⟨o, e, _, d⟩ := hu; exact ⟨o, e, fun v q => by rw [d] at q; cases q⟩
    obtain ⟨hz, hTI, ⟨x, y, hTO⟩, h1, h2⟩ := st
    have e' : c = z ∨ c = TI ∨ c = TO ∨ c = i1 ∨ c = i2 := by simpa using hc
    rcases e' with q | q | q | q | q
    · rw [q]; exact ⟨_, hz, fun v q => nomatch q⟩
    · rw [q]; exact ⟨_, hTI, fun v q => nomatch q⟩
    · rw [q]; exact ⟨_, hTO, fun v q => nomatch q⟩
    · rw [q]; exact atO h1
    · rw [q]; exact atO h2
  keep := fun i h h' st k => by
    have atK : ∀ {u : Src} {t : Tok} {it : Addr}, it ∈ [z, TI, TO, i1, i2] → u.at t it i h → u.at t it i h' := fun {u t it} hm hu => by
      cases u with
      | lst a => obtain ⟨o, e, r⟩ := hu; exact ⟨o, k it hm o e, r⟩
      | tup a => obtain ⟨o, e, r⟩ := hu; exact ⟨o, k it hm o e, r⟩
      | txt x => obtain ⟨o, e, r⟩ := hu; exact ⟨o, k it hm o e, r⟩
    obtain ⟨hz, hTI, ⟨x, y, hTO⟩, h1, h2⟩ := st
    exact ⟨k z (by simp) _ hz, k TI (by simp) _ hTI, ⟨x, y, k TO (by simp) _ hTO⟩, atK (by simp) h1, atK (by simp) h2⟩
  item := by
    intro X hP hw hK hc i pins s σ H E I hf st hg
    subst hP hw hK
    obtain ⟨hz, hTI, ⟨x0, y0, hTO⟩, h1, h2⟩ := st
    obtain ⟨xs, ys, x, y, hqx, hqy, hx, hy⟩ := hg
    obtain ⟨St1, P1, D1, s1, r1, b1⟩ := src_draws I (A := X.A.in1) (show X.A.in1.handled = none from I.ok.hd hc) hqx h1 n1
    obtain ⟨St2, P2, D2, s2, r2, b2⟩ := src_draws I (A := X.A.in1) (show X.A.in1.handled = none from I.ok.hd hc) hqy h2 n2
    have hzl : z < s.heap.objs.size := Heap.lt_size hz
    have l1 := (List.getElem?_eq_some_iff.mp hx).1
    have l2 := (List.getElem?_eq_some_iff.mp hy).1
    have li : ∀ {u : Src} {t : Tok} {it : Addr}, u.at t it i s.heap → it < s.heap.objs.size := fun {u t it} hu => by
      cases u with
      | lst a => obtain ⟨o, e, _⟩ := hu; exact Heap.lt_size e
      | tup a => obtain ⟨o, e, _⟩ := hu; exact Heap.lt_size e
      | txt x => obtain ⟨o, e, _⟩ := hu; exact Heap.lt_size e
    have li1 := li h1
    have li2 := li h2
    refine wpAny_pyNext_zipD2_item D D1 D2 hz hTI hTO s1 s2 l1 l2 fun u v h' tk p1 p2 z' TO' s1' s2' hT hsz hk => ?_
    obtain ⟨x', hx', ru⟩ := r1 i u p1
    obtain ⟨y', hy', rv⟩ := r2 i v p2
    rw [hx] at hx'
    cases hx'
    rw [hy] at hy'
    cases hy'
    refine ⟨_, rfl, wpAny_letOwnedTupleGo_zip (s := { s with heap := h', toks := tk }) z' fun h'' z'' sb => ?_⟩
    have hT2 : h''.get? s.heap.objs.size = some { cls := .type "tuple", data := .seq #[u, v] } := (sb.2 _ (Nat.ne_of_gt hzl)).trans hT
    have new : ObjOk X.prog X.w (upd H s.heap.objs.size (.tup [x, y])) h'' s.heap.objs.size (.tup [x, y]) :=
      ⟨by show 2 ≤ sizeLine; decide, [u, v], .cons ru (.cons rv .nil), ⟨_, hT2, rfl, _, rfl⟩⟩
    have I1 : Inv X pins σ (upd H s.heap.objs.size (.tup [x, y])) { s with heap := h'', toks := tk } :=
      I.turnedNew (t' := tk) (ch := [z, TI, TO, i1, i2]) (fun c o hb q => (sb.2 c (fun q' => hb (by simp [q']))).trans (hk c o (fun q' => hb (by simp [q'])) (fun q' => hb (by simp [q'])) (fun q' => hb (by simp [q'])) (fun q' => hb (by simp [q'])) q)) hf (Nat.le_refl _) new
    have aK : ∀ {u : Src} {t : Tok} {it : Addr}, it ≠ z → u.at t it (i + 1) h' → u.at t it (i + 1) h'' := fun {u t it} hm hu => by
      cases u with
      | lst a => obtain ⟨o, e, r⟩ := hu; exact ⟨o, (sb.2 it hm).trans e, r⟩
      | tup a => obtain ⟨o, e, r⟩ := hu; exact ⟨o, (sb.2 it hm).trans e, r⟩
      | txt x => obtain ⟨o, e, r⟩ := hu; exact ⟨o, (sb.2 it hm).trans e, r⟩
    refine ⟨.ref s.heap.objs.size, _, I1, rfl, ⟨_, x, y, rfl, I.hok.fresh (Nat.le_refl _), rfl, fun l hl => by rw [Src.inj I hl hqx]; exact hx, fun l hl => by rw [Src.inj I hl hqy]; exact hy⟩, ⟨z'', ?_, ⟨u, v, ?_⟩, aK D.zi1.symm (b1 _ _ s1'), aK D.zi2.symm (b2 _ _ s2')⟩, fun c hcm => ?_⟩
    · exact (sb.2 _ D.TIz).trans (hk _ _ D.TIz D.TITO D.TIi1 D.TIi2 hTI)
    · exact (sb.2 _ D.TOz).trans TO'
    · have hlt : c < s.heap.objs.size := by
        have e' : c = z ∨ c = TI ∨ c = TO ∨ c = i1 ∨ c = i2 := by simpa using hcm
        rcases e' with q | q | q | q | q
        · rw [q]; exact hzl
        · rw [q]; exact Heap.lt_size hTI
        · rw [q]; exact Heap.lt_size hTO
        · rw [q]; exact li1
        · rw [q]; exact li2
      rw [upd_ne (Nat.ne_of_lt hlt)]
      exact (hf c hcm).1
  done := by
    intro X hP hw hK hc i pins s σ H E I hf st hg
    subst hP hw hK
    obtain ⟨hz, hTI, ⟨x0, y0, hTO⟩, h1, h2⟩ := st
    obtain ⟨xs, ys, hqx, hqy, le1, le2, hend⟩ := hg
    obtain ⟨St1, P1, D1, s1, r1, b1⟩ := src_draws I (A := X.A.in1) (show X.A.in1.handled = none from I.ok.hd hc) hqx h1 n1
    obtain ⟨St2, P2, D2, s2, r2, b2⟩ := src_draws I (A := X.A.in1) (show X.A.in1.handled = none from I.ok.hd hc) hqy h2 n2
    exact wpAny_pyNext_zipD2_end D D1 D2 hz hTI hTO s1 s2 le1 le2 hend fun h' tk hk => ⟨rfl, I.turnedL (t' := tk) (ch := [z, TI, TO, i1, i2]) (fun c o hb q =>
      hk c o (fun q' => hb (by simp [q'])) (fun q' => hb (by simp [q'])) (fun q' => hb (by simp [q'])) (fun q' => hb (by simp [q'])) q) hf⟩
  self := fun A i s Q E st h => wpAny_pyIter_zip st.1 h
/-- what a walk over a zip needs to know -/
structure LikeZp (J : It) (S : Hp → Prop) (xs ys : List V) : Prop where
  mono : ∀ H H', Same H H' → S H → S H'
  go : ∀ i H, S H → i < xs.length → i < ys.length → J.go i H
  yld : ∀ i H v H', S H → J.yld i H v H' → ∃ T x y, v = .ref T ∧ H T = none ∧ H' = upd H T (.tup [x, y]) ∧ xs[i]? = some x ∧ ys[i]? = some y
  stop : ∀ i H, S H → i ≤ xs.length → i ≤ ys.length → (i = xs.length ∨ i = ys.length) → J.stop i H
theorem Src.mono {K : PySem.W.Frag} {H H' : Hp} (sm : Same H H') : ∀ {u : Src} {xs : List V}, u.has K H xs → u.has K H' xs
  | .lst _, _, h => sm.seq h
  | .tup _, _, h => sameT sm h
  | .txt _, _, h => h
theorem likeZp (K : PySem.W.Frag) (u1 u2 : Src) (xs ys : List V) : LikeZp (ItZ K u1 u2) (fun H => u1.has K H xs ∧ u2.has K H ys) xs ys where
  mono := fun H H' sm h => ⟨Src.mono sm h.1, Src.mono sm h.2⟩
  go := fun i H h l1 l2 => ⟨xs, ys, _, _, h.1, h.2, List.getElem?_eq_getElem l1, List.getElem?_eq_getElem l2⟩
  yld := fun i H v H' h y => by
    obtain ⟨T, x, y', rfl, hT, rfl, f1, f2⟩ := y
    exact ⟨T, x, y', rfl, hT, rfl, f1 _ h.1, f2 _ h.2⟩
  stop := fun i H h l1 l2 e => ⟨xs, ys, h.1, h.2, l1, l2, e⟩
def iZipJ (K : PySem.W.Frag) (ta : TA) : TI := fun σ H R => ta σ H fun vs H1 => ∃ (u1 u2 : Src) (xs ys : List V), vs = [u1.v, u2.v] ∧ u1.has K H1 xs ∧ u2.has K H1 ys ∧ ∀ J S, LikeZp J S xs ys → S H1 → R J H1
theorem pi_zipJ {X : Cx} {e e2 : Expr} {ta : TA} {p pos tpos : Pos} {elts : List Expr} {kk : Nat} (hg : Gl X "zip") (hm : X.mg "zip" = none) (ha : PA X [e, e2] ta)
    (hs : starEach [e, e2] X.env = (false, eval e X.env) :: starEach [e2] X.env := by rfl) (hpl : (backTo pos (starEach [e2] X.env)).any (·.1) = false := by rfl) :
    PI X (.Tuple elts kk tpos) (.Call (.Name "zip" p) [e, e2] [] pos) (iZipJ X.K ta) := by
  refine ⟨fun pins s σ H R I h => ?_⟩
  refine Call_ (ld_blt I hg hm PyProof.Rows.boot_zip (PyProof.Rows.callWith_type1 (thn (ha.run pos pins s σ H _ I h) fun us s1 ⟨vs, H1, I1, r1, q1⟩ => ?_) hs hpl))
  obtain ⟨u1, u2, xs, ys, ex, hx, hy, q1⟩ := q1
  subst ex
  cases r1 with
  | cons r rr =>
    cases rr with
    | cons r' rr =>
      cases rr
      obtain ⟨t1, o1, H01, B1, k1, a1, c1⟩ := src_begins I1 hx r
      obtain ⟨t2, o2, H02, B2, k2, a2, c2⟩ := src_begins I1 hy r'
      refine zip_begins2 B1 B2 k1 k2 fun h' hz hTI hTO g1 g2 hsz hk => wpAny_pyIter_zip hz ?_
      have I2 : Inv X pins σ H1 { s1 with heap := h' } := I1.kept (t' := s1.toks) hk
      have fresh5 : ∀ c, c ∈ [s1.heap.objs.size + 4, s1.heap.objs.size + 2, s1.heap.objs.size + 3, s1.heap.objs.size, s1.heap.objs.size + 1] → FpOk X pins H1 c := fun c hcm => by
        have e' : c = s1.heap.objs.size + 4 ∨ c = s1.heap.objs.size + 2 ∨ c = s1.heap.objs.size + 3 ∨ c = s1.heap.objs.size ∨ c = s1.heap.objs.size + 1 := by simpa using hcm
        have hle : s1.heap.objs.size ≤ c := by
          rcases e' with z | z | z | z | z
          · rw [z]; exact Nat.le_add_right _ _
          · rw [z]; exact Nat.le_add_right _ _
          · rw [z]; exact Nat.le_add_right _ _
          · rw [z]; exact Nat.le_refl _
          · rw [z]; exact Nat.le_add_right _ _
        exact I1.fpOk hle (I1.hok.fresh hle)
      have S : ZipSep2 (s1.heap.objs.size + 4) (s1.heap.objs.size + 2) (s1.heap.objs.size + 3) s1.heap.objs.size (s1.heap.objs.size + 1) (s1.heap.objs.size :: u1.fp) ((s1.heap.objs.size + 1) :: u2.fp) := zip_sep2 a1 a2
      refine ⟨s1.heap.objs.size + 4, [s1.heap.objs.size + 4, s1.heap.objs.size + 2, s1.heap.objs.size + 3, s1.heap.objs.size, s1.heap.objs.size + 1], _, _, H1, rfl, I2, turn_zipG (t1 := t1) (t2 := t2) S (fun a ha => Nat.ne_of_lt (a1 a ha)) (fun a ha => Nat.ne_of_lt (Nat.lt_succ_of_lt (a2 a ha))), ⟨hz, hTI, ⟨_, _, hTO⟩, c1 _ _ g1, c2 _ _ g2⟩, fresh5, q1 _ _ (likeZp X.K u1 u2 xs ys) ⟨hx, hy⟩⟩
theorem for_zipJ {J : It} {S : Hp → Prop} {xs ys : List V} (L : LikeZp J S xs ys) {n : Nat} (hn : n = min xs.length ys.length) {g : TG} {tb : TS} {D : Ends} {σ : L2.St} {H : Hp} (Pv : Nat → L2.St → Hp → Prop) (h0 : Pv 0 σ H) (hl : ∀ i σ H, i ≤ n → Pv i σ H → S H)
    (hs : ∀ i x y σ H, xs[i]? = some x → ys[i]? = some y → Pv i σ H → ∀ T, H T = none → g (.ref T) σ (upd H T (.tup [x, y])) fun σ2 H2 => tb { D with nx := Pv (i + 1), ct := Pv (i + 1), bk := D.nx } σ2 H2) (hd : ∀ σ H, Pv n σ H → D.nx σ H) :
    ∃ W : Nat → Nat → L2.St → Hp → Prop, (∃ m, W 0 m σ H) ∧ ∀ i m σ H, W i m σ H →
      (J.stop i H ∧ D.nx σ H) ∨ (J.go i H ∧ ∃ N : L2.St → Hp → Prop, (∀ σ' H', N σ' H' → ∃ m', m' < m ∧ W (i + 1) m' σ' H') ∧ ∀ v H', J.yld i H v H' → g v σ H' fun σ2 H2 => tb { D with nx := N, ct := N, bk := D.nx } σ2 H2) := by
  subst hn
  refine ⟨fun i m σ H => m = min xs.length ys.length - i ∧ i ≤ min xs.length ys.length ∧ Pv i σ H, ⟨_, rfl, Nat.zero_le _, h0⟩, ?_⟩
  rintro i m σ H ⟨rfl, hi, p⟩
  have q := hl i σ H hi p
  by_cases hlt : i < min xs.length ys.length
  · refine .inr ⟨L.go i H q (by omega) (by omega), Pv (i + 1), fun σ' H' p' => ⟨min xs.length ys.length - (i + 1), by omega, rfl, hlt, p'⟩, fun v H' y => ?_⟩
    obtain ⟨T, x, y', rfl, hT, rfl, hx, hy⟩ := L.yld i H v H' q y
    exact hs i x y' σ H hx hy p T hT
  · have e : i = min xs.length ys.length := by omega
    subst e
    exact .inl ⟨L.stop _ H q (by omega) (by omega) (by omega), hd σ H p⟩
theorem lc_zipJ {J : It} {S : Hp → Prop} {xs ys : List V} (L : LikeZp J S xs ys) {n : Nat} (hn : n = min xs.length ys.length) {g : TG} {tt : TT} {te : TE} {vs : List Nat} {σ : L2.St} {H1 : Hp} {D : Addr} {Qd : Hp → Prop} (Pv : Nat → Hp → Prop) (h0 : Pv 0 (upd H1 D (.lst []))) (hl : ∀ i H, i ≤ n → Pv i H → S H)
    (hs : ∀ i x y H, xs[i]? = some x → ys[i]? = some y → Pv i H → ∀ T, H T = none → g (.ref T) (wipe σ vs) (upd H T (.tup [x, y])) fun σ2 H2 => wipe σ2 vs = wipe σ vs ∧ tt σ2 H2 fun b H3 =>
      if b = true then te σ2 H3 fun y H4 => ∃ acc, H4 D = some (.lst acc) ∧ acc.length < sizeLine ∧ Pv (i + 1) (upd H4 D (.lst (acc ++ [y]))) else Pv (i + 1) H3) (hd : ∀ H, Pv n H → Qd H) :
    ∃ W : Nat → Nat → Hp → Prop, (∃ m, W 0 m (upd H1 D (.lst []))) ∧ ∀ i m H, W i m H →
      (J.stop i H ∧ Qd H) ∨ (J.go i H ∧ ∃ Nx : Hp → Prop, (∀ H', Nx H' → ∃ m', m' < m ∧ W (i + 1) m' H') ∧ ∀ x H', J.yld i H x H' → g x (wipe σ vs) H' fun σ2 H2 => wipe σ2 vs = wipe σ vs ∧ tt σ2 H2 fun b H3 =>
        if b = true then te σ2 H3 fun y H4 => ∃ acc, H4 D = some (.lst acc) ∧ acc.length < sizeLine ∧ Nx (upd H4 D (.lst (acc ++ [y]))) else Nx H3) := by
  subst hn
  refine ⟨fun i m H => m = min xs.length ys.length - i ∧ i ≤ min xs.length ys.length ∧ Pv i H, ⟨_, rfl, Nat.zero_le _, h0⟩, ?_⟩
  rintro i m H ⟨rfl, hi, p⟩
  have q := hl i H hi p
  by_cases hlt : i < min xs.length ys.length
  · refine .inr ⟨L.go i H q (by omega) (by omega), Pv (i + 1), fun H' p' => ⟨min xs.length ys.length - (i + 1), by omega, rfl, hlt, p'⟩, fun v H' y => ?_⟩
    obtain ⟨T, x, y', rfl, hT, rfl, hx, hy⟩ := L.yld i H v H' q y
    exact hs i x y' H hx hy p T hT
  · have e : i = min xs.length ys.length := by omega
    subst e
    exact .inl ⟨L.stop _ H q (by omega) (by omega) (by omega), hd H p⟩
end KB

namespace KB
open PySem PySem.Spec PyProof.Rows L2
/-! ### an own class whose __init__ lets nothing out -/
structure Mak (P : Program) (w : World) (K : PySem.W.Frag) (mg : Str → Option Value) (base : Heap) (k : Nat) (x : Str) (C : Addr) (sp : Sp) : Prop where
  ex : ∃ (f : Addr) (fd : FuncData) (ps : List Str), Mk K C f ∧ FnOk P w K mg base CX0 k f fd ps sp ∧ mg x = some (.ref C) ∧ Binds K fd ps []
section
variable {X : Cx} {x C : _} {k j : Nat} {sp : Sp} {e : Expr} {es : List Expr} {t : TA} {p pos : Pos}
theorem pe_mk {x : Str} {C : Addr} (c : Mak X.prog X.w X.K X.mg X.base k x C sp) (hr : Room j X.A) (hk : k + 1 ≤ j) (hg : Gl X x) (ha : PA X (e :: es) t)
    (hdb : (x == ("__debug__" : Str)) = false := by decide) (he : starEach (e :: es) X.env = (false, eval e X.env) :: starEach es X.env := by rfl) (hpl : (backTo pos (starEach es X.env)).any (·.1) = false := by rfl) :
    PE X (.Call (.Name x p) (e :: es) [] pos) (tMake C sp [] E0 t) := by
  obtain ⟨f, fd, ps, M, F, hm, b⟩ := c.ex
  exact pe_make M F (hr.mono hk) hg hm b .nil pass0 ha hdb he hpl
end
/-- the list's repetition by a text's or number's count, and numbers not at their place -/
def misL (w r : Str) : Nat := ((w.cps.toList.zip r.cps.toList).filter fun p => p.1 != p.2).length
end KB
namespace KB
open PySem PySem.Spec PyProof.Rows L2
theorem SqL.offI {K : PySem.W.Frag} {H : Hp} {a x C dx : Addr} {xs : List V} {fs : List (Str × V)} {o : HO} (h : SqL K H a xs) (hx : H x = some (.ins C dx fs)) : SqL K (upd H x o) a xs := by
  rcases h with (h | ⟨o', h⟩) | h
  · exact .inl (.inl (by rw [upd_ne (fun e => by rw [e, hx] at h; cases h)]; exact h))
  · exact .inl (.inr ⟨o', by rw [upd_ne (fun e => by rw [e, hx] at h; cases h)]; exact h⟩)
  · exact .inr h
theorem SqT.offI {K : PySem.W.Frag} {H : Hp} {a x C dx : Addr} {xs : List V} {fs : List (Str × V)} {o : HO} (h : SqT K H a xs) (hx : H x = some (.ins C dx fs)) : SqT K (upd H x o) a xs := by
  rcases h with (h | ⟨o', h⟩) | h
  · exact .inl (.inl (by rw [upd_ne (fun e => by rw [e, hx] at h; cases h)]; exact h))
  · exact .inl (.inr ⟨o', by rw [upd_ne (fun e => by rw [e, hx] at h; cases h)]; exact h⟩)
  · exact .inr h
/-- tuple(x) of a list or a tuple -/
theorem tuple_of {K : PySem.W.Frag} {H : Hp} {a : Addr} {xs : List V} {Q : VK} (h : SqL K H a xs ∨ SqT K H a xs) (q : ∀ H' p, Same H H' → SqT K H' p xs → Q (.ref p) H') :
    ∃ p ys, [V.ref a] = [V.ref p] ∧ ((SqL K H p ys ∧ ∀ l, H l = none → Q (.ref l) (upd H l (.tup ys))) ∨ SqT K H p ys ∧ Q (.ref p) H) := by
  rcases h with h | h
  · exact ⟨a, xs, rfl, .inl ⟨h, fun l hl => q _ l (same_upd hl) (SqT.of upd_same)⟩⟩
  · exact ⟨a, xs, rfl, .inr ⟨h, q H a (fun _ _ e => e) h⟩⟩
end KB
namespace KB
open PySem PySem.Spec PyProof.Rows L2
theorem tup_or {K : PySem.W.Frag} {H : Hp} {a : Addr} {xs : List V} {Q : VK} (h : SqL K H a xs ∨ SqT K H a xs) (q : ∀ H' p, Same H H' → SqT K H' p xs → Q (.ref p) H') :
    (SqL K H a xs ∧ ∀ l, H l = none → Q (.ref l) (upd H l (.tup xs))) ∨ SqT K H a xs ∧ Q (.ref a) H := by
  rcases h with h | h
  · exact .inl ⟨h, fun l hl => q _ l (same_upd hl) (SqT.of upd_same)⟩
  · exact .inr ⟨h, q H a (fun _ _ e => e) h⟩
end KB
namespace KB
theorem filt_step (p : Nat → Bool) (i : Nat) : (List.range (i + 1)).filter p = (List.range i).filter p ++ (if p i = true then [i] else []) := by
  rw [List.range_succ, List.filter_append]
  congr 1
  cases h : p i <;> simp [h]
theorem filt_le (p : Nat → Bool) (i : Nat) : ((List.range i).filter p).length ≤ i := by
  have := List.length_filter_le p (List.range i)
  rwa [List.length_range] at this
end KB
namespace KB
open PySem PySem.Spec PyProof.Rows L2
theorem in_addS {X : Cx} : InOp X .Add (fun x y H Q => ∃ i j, x = .str i ∧ y = .str j ∧ i.length + j.length ≤ sizeLine ∧ Q (.str (i ++ j)) H) := fun pins s σ H x y u v Q I rx ry h => iop_add_str pins s σ H x y u v Q I rx ry h
def LB : Nat := 1000
theorem LB_eq : LB = 1000 := rfl
theorem len_app (a b : Str) : (a ++ b).length = a.length + b.length := by
  show (a.cps ++ b.cps).size = a.cps.size + b.cps.size
  rw [Array.size_append]
end KB
namespace KB
open PySem PySem.Spec PyProof.Rows L2
theorem same_self {H : Hp} {x : Addr} {o : HO} (h : H x = some o) : Same (upd H x o) H := fun b u e => by
  by_cases hb : b = x
  · subst hb
    rw [upd_same] at e
    rw [h]
    exact e
  · rw [upd_ne hb] at e
    exact e
end KB
namespace KB
open PySem PySem.Spec PyProof.Rows L2
/-- sep.join(xs) within a comprehension -/
def tJoinC (K : PySem.W.Frag) (to te : TE) : TE := tM1 (fun x xs H Q => ∃ a p, ∃ ys : List Str, x = .str a ∧ xs = [.ref p] ∧ (SqL K H p (ys.map V.str) ∨ SqT K H p (ys.map V.str)) ∧ (ys.map (·.length)).sum + ys.length * a.length ≤ 16777216 ∧ Q (.str (Txt.join a ys)) H) to te
theorem pe_joinC {X : Cx} (K : PySem.W.Frag) {o e : Expr} {to te : TE} {apos pos : Pos} (ho : PE X o to) (he : PE X e te) (hs : starEach [e] X.env = [(false, eval e X.env)] := by rfl) (hbase : attributeBase o "join" X.env (eval o X.env) = eval o X.env := by rfl) (hline : (apos.endLine == pos.line) = true := by rfl) (hK : X.K = K := by rfl) :
    PE X (.Call (.Attribute o "join" apos) [e] [] pos) (tJoinC K to te) := by
  subst hK
  exact pe_join ho he hs hbase hline
end KB
namespace KB
open PySem PySem.Spec PyProof.Rows L2
/-! ### a list of strings beside the tape -/
structure Ns (B0 B H : Hp) (t p : Addr) (c : Nat) (ws : List Str) : Prop where
  same : Same B0 B
  tp : Tp B H t c
  at_ : B p = some (.lst (ws.map V.str))
  nb : B0 p = none
theorem Ns.set {B0 B H : Hp} {t p : Addr} {c : Nat} {ws : List Str} (N : Ns B0 B H t p c ws) (zs : List Str) : Ns B0 (upd B p (.lst (zs.map V.str))) (upd H p (.lst (zs.map V.str))) t p c zs :=
  ⟨same_out N.same N.nb, N.tp.set N.at_, upd_same, N.nb⟩
theorem Ns.hd {B0 B H : Hp} {t p : Addr} {c : Nat} {ws : List Str} (N : Ns B0 B H t p c ws) : H p = some (.lst (ws.map V.str)) := N.tp.at N.at_
theorem Ns.le {B0 B H : Hp} {t p : Addr} {c d : Nat} {ws : List Str} (N : Ns B0 B H t p c ws) (h : c ≤ d) : Ns B0 B H t p d ws := ⟨N.same, N.tp.le h, N.at_, N.nb⟩
theorem Ns.drw {B0 B H H' : Hp} {t p : Addr} {c d : Nat} {ws : List Str} (N : Ns B0 B H t p c ws) (T : Tp B H' t d) : Ns B0 B H' t p d ws := ⟨N.same, T, N.at_, N.nb⟩
theorem Ns.app {B0 B H : Hp} {t p : Addr} {c : Nat} {ws : List Str} (N : Ns B0 B H t p c ws) (z : Str) : Ns B0 (upd B p (.lst (ws.map V.str ++ [.str z]))) (upd H p (.lst (ws.map V.str ++ [.str z]))) t p c (ws ++ [z]) := by
  rw [show ws.map V.str ++ [V.str z] = (ws ++ [z]).map V.str by rw [List.map_append]; rfl]
  exact N.set _
theorem Tp.ns {B H : Hp} {t p : Addr} {c : Nat} (T : Tp B H t c) (hp : H p = none) (ws : List Str) : Ns B (upd B p (.lst (ws.map V.str))) (upd H p (.lst (ws.map V.str))) t p c ws :=
  ⟨same_upd (T.isn hp), T.new hp, upd_same, T.isn hp⟩
theorem at_strs {ws : List Str} {i : Nat} (hi : i < ws.length) : atI (ws.map V.str) (i : Int) = some (.str (ws.getD i "")) :=
  atI_nat (j := i) (by rw [List.getElem?_map, List.getD_eq_getElem?_getD, List.getElem?_eq_getElem hi]; rfl)
/-! ### bit words -/
theorem isB_all {z : Str} : isB z = true ↔ ∀ c ∈ z.cps.toList, c = 48 ∨ c = 49 := by
  constructor
  · intro h c hc
    exact isB_mem h hc
  · intro h
    show z.cps.toList.all (("01" : Str)).cps.contains = true
    have e01 : (("01" : Str)).cps = #[48, 49] := by decide
    rw [e01, List.all_eq_true]
    intro c hc
    rcases h c hc with e | e <;> rw [e] <;> simp
theorem isB_app {a b : Str} (h1 : isB a = true) (h2 : isB b = true) : isB (a ++ b) = true := by
  rw [isB_all] at h1 h2 ⊢
  intro c hc
  have hc' : c ∈ (a.cps ++ b.cps).toList := hc
  rw [Array.toList_append] at hc'
  rcases List.mem_append.mp hc' with z | z
  · exact h1 c z
  · exact h2 c z
theorem isB_rep {z : Str} {k : Int} (h : isB z = true) : isB (repS z k) = true := by
  rw [isB_all] at h ⊢
  intro c hc
  have hc' : c ∈ ((List.replicate k.toNat z.cps.toList).flatten).toArray.toList := hc
  have hc2 : c ∈ (List.replicate k.toNat z.cps.toList).flatten := by simpa using hc'
  obtain ⟨l, hl, hcl⟩ := List.mem_flatten.mp hc2
  rw [List.eq_of_mem_replicate hl] at hcl
  exact h c hcl
theorem isB_cut {z : Str} {lo hi : Option Int} (h : isB z = true) : isB (cutS z lo hi) = true := by
  rw [isB_all] at h ⊢
  intro c hc
  have hc' : c ∈ ((z.cps.toList.drop (HT.sIx z.length 0 lo)).take (HT.sIx z.length z.length hi - HT.sIx z.length 0 lo)).toArray.toList := hc
  have hc2 : c ∈ (z.cps.toList.drop (HT.sIx z.length 0 lo)).take (HT.sIx z.length z.length hi - HT.sIx z.length 0 lo) := by simpa using hc'
  exact h c (List.mem_of_mem_drop (List.mem_of_mem_take hc2))
theorem cut_len {z : Str} {k : Nat} (h : k ≤ z.length) : (cutS z none (some (k : Int))).length = k := by
  show (((z.cps.toList.drop (HT.sIx z.length 0 none)).take (HT.sIx z.length z.length (some (k : Int)) - HT.sIx z.length 0 none)).toArray).size = k
  have e2 : HT.sIx z.length 0 none = 0 := rfl
  rw [HT.sIx_nat, e2, Nat.sub_zero, List.drop_zero, List.size_toArray, List.length_take, Array.length_toList]
  have : z.length = z.cps.size := rfl
  omega
end KB
namespace KB
open PySem PySem.Spec PyProof.Rows L2
theorem isB_one : isB "1" = true := isB_all.mpr fun c hc => .inr (by
  have e : (("1" : Str)).cps.toList = [49] := by decide
  rw [e] at hc
  exact List.mem_singleton.mp hc)
theorem isB_zero : isB "0" = true := isB_all.mpr fun c hc => .inl (by
  have e : (("0" : Str)).cps.toList = [48] := by decide
  rw [e] at hc
  exact List.mem_singleton.mp hc)
theorem four_bits (a b c d : Bool) : ∃ n : Nat, n ≤ 4 ∧ ((((if a = true then 1 else 0) + (if b = true then 1 else 0) : Int) + (if c = true then 1 else 0) : Int) + (if d = true then 1 else 0) : Int) = (n : Int) := by
  cases a <;> cases b <;> cases c <;> cases d <;> exact ⟨_, by decide, rfl⟩
theorem sum_signs (cs : List Nat) : ((cs.map chS).map (·.length)).sum = cs.length := by
  induction cs with
  | nil => rfl
  | cons c r ih =>
    rw [List.map_cons, List.map_cons, List.sum_cons, ih, List.length_cons]
    show 1 + r.length = _
    omega
end KB
namespace KB
open PySem PySem.Spec PyProof.Rows L2
/-- the base takes up all that is no list -/
theorem Tp.grow {B H : Hp} {t : Addr} {c : Nat} (T : Tp B H t c) : ∃ B', Same B B' ∧ Tp B' H t c ∧ ∀ a o, H a = some o → (∀ xs, o ≠ .lst xs) → B' a = some o := by
  obtain ⟨sm, b, g, gs, sd, ct, h1, h2, h3, h4, h5⟩ := T
  refine ⟨fun a => if a = t ∨ a = g then none else H a, fun a o e => ?_, ⟨fun a o e => ?_, ?_, g, gs, sd, ct, ?_, h2, h3, h4, h5⟩, fun a o e n => ?_⟩
  · have n1 : a ≠ t := fun z => by rw [z, b] at e; cases e
    have n2 : a ≠ g := fun z => by rw [z, h1] at e; cases e
    show (if a = t ∨ a = g then none else H a) = some o
    rw [if_neg (fun z => z.elim n1 n2)]
    exact sm _ _ e
  · have e' : (if a = t ∨ a = g then none else H a) = some o := e
    split at e'
    · cases e'
    · exact e'
  · show (if t = t ∨ t = g then none else H t) = none
    rw [if_pos (.inl rfl)]
  · show (if g = t ∨ g = g then none else H g) = none
    rw [if_pos (.inr rfl)]
  · have n1 : a ≠ t := fun z => by rw [z, h3] at e; exact n _ (Option.some.inj e).symm
    have n2 : a ≠ g := fun z => by rw [z, h4] at e; exact n _ (Option.some.inj e).symm
    show (if a = t ∨ a = g then none else H a) = some o
    rw [if_neg (fun z => z.elim n1 n2)]
    exact e
theorem SqT.up {K : PySem.W.Frag} {H B : Hp} {a : Addr} {xs : List V} (h : SqT K H a xs) (k : ∀ a o, H a = some o → (∀ xs, o ≠ .lst xs) → B a = some o) : SqT K B a xs := by
  rcases h with (h | ⟨o', h⟩) | h
  · exact .inl (.inl (k _ _ h fun _ e => by cases e))
  · exact .inl (.inr ⟨o', k _ _ h fun _ e => by cases e⟩)
  · exact .inr h
theorem int_zero : PySem.intText? (⟨#[48]⟩ : Str) = some 0 := by decide +kernel
theorem int_one : PySem.intText? (⟨#[49]⟩ : Str) = some 1 := by decide +kernel
end KB

namespace KB
open PySem PySem.Spec PyProof.Rows L2
/-! ### what a heap holds beside another one; bases that take up what was made -/
def dif (B B' : Hp) : Hp := fun a => match B a with
  | none => B' a
  | some _ => none
theorem dif_at {B B' : Hp} {a : Addr} {o : HO} (h : B a = none) (h' : B' a = some o) : dif B B' a = some o := by
  unfold dif
  rw [h]
  exact h'
theorem dif_same {B B' : Hp} : Same (dif B B') B' := fun a o e => by
  unfold dif at e
  split at e
  · exact e
  · cases e
theorem dif_off {B B' : Hp} {a : Addr} {o : HO} (h : B a = some o) : dif B B' a = none := by
  unfold dif
  rw [h]
/-- B and what H' holds beside H -/
def uni (B H H' : Hp) : Hp := fun a => match H a with
  | none => H' a
  | some _ => B a
theorem uni_new {B H H' : Hp} {a : Addr} {o : HO} (h : H a = none) (h' : H' a = some o) : uni B H H' a = some o := by
  unfold uni
  rw [h]
  exact h'
theorem uni_old {B H H' : Hp} (s : Same B H) : Same B (uni B H H') := fun a o e => by
  unfold uni
  rw [s _ _ e]
  exact e
theorem uni_up {B H H' : Hp} (s : Same B H) (s' : Same H H') : Same (uni B H H') H' := fun a o e => by
  unfold uni at e
  split at e
  · exact e
  · exact s' _ _ (s _ _ e)
theorem uni_ne {B H H' : Hp} {a : Addr} (h : uni B H H' a ≠ none) (h' : B a = none) : H a = none := by
  unfold uni at h
  cases e : H a with
  | none => rfl
  | some o => rw [e] at h; exact absurd h' h
theorem Bx.more {B H H' : Hp} {t : Addr} {c : Nat} (T : Bx B H t c) (s : Same H H') : ∃ B', Same B B' ∧ Bx B' H' t c ∧ ∀ a o, H a = none → H' a = some o → B' a = some o :=
  ⟨uni B H H', uni_old T.same, T.up s (uni_old T.same) (uni_up T.same s) fun _ h h' => uni_ne h h', fun _ _ h h' => uni_new h h'⟩
theorem Tp.more {B H H' : Hp} {t : Addr} {c : Nat} (T : Tp B H t c) (s : Same H H') : ∃ B', Same B B' ∧ Tp B' H' t c ∧ ∀ a o, H a = none → H' a = some o → B' a = some o := by
  have T0 := T
  obtain ⟨sm, b, g, gs, sd, ct, h1, h2, h3, h4, h5⟩ := T
  refine ⟨uni B H H', uni_old sm, ⟨uni_up sm s, ?_, g, gs, sd, ct, ?_, h2, s _ _ h3, s _ _ h4, h5⟩, fun _ _ h h' => uni_new h h'⟩
  · exact Classical.byContradiction fun z => by have := uni_ne z b; rw [h3] at this; cases this
  · exact Classical.byContradiction fun z => by have := uni_ne z h1; rw [h4] at this; cases this
theorem cut_len2 {z : Str} {k : Nat} (h : k ≤ z.length) : (cutS z (some (k : Int)) none).length = z.length - k := by
  have e1 : HT.sIx z.length z.length none = z.length := rfl
  show ((z.cps.toList.drop (HT.sIx z.length 0 (some (k : Int)))).take _).toArray.size = _
  have hl : z.cps.toList.length = z.length := by rw [Array.length_toList]; rfl
  rw [HT.sIx_nat, e1, List.size_toArray, List.length_take, List.length_drop, hl]
  omega
theorem bit_ch {n : Int} {ch : Nat} (n0 : 0 ≤ n) (n1 : n < 2) (hch : atI (("01" : Str)).cps.toList n = some ch) : ch = 48 ∨ ch = 49 := by
  have e01 : (("01" : Str)).cps = #[48, 49] := by decide
  rw [e01] at hch
  obtain ⟨j, rfl⟩ := nat_of n0
  rcases (by omega : j = 0 ∨ j = 1) with e | e <;> subst e
  · exact .inl (Option.some.inj hch).symm
  · exact .inr (Option.some.inj hch).symm
theorem isB_chs {cs : List Nat} (h : ∀ y ∈ cs, y = 48 ∨ y = 49) : isB (⟨cs.toArray⟩ : Str) = true := isB_all.mpr fun c hc => h c (by simpa using hc)
theorem okD_up : ∀ {n : Nat} {d : PyData}, okD n d = true → okD (n + 1) d = true
  | 0, d, h => by cases d <;> cases h
  | n + 1, .none, _ => rfl
  | n + 1, .bool _, _ => rfl
  | n + 1, .int _, _ => rfl
  | n + 1, .str _, _ => rfl
  | n + 1, .list ds, h => okD_mk (okD_seq h).1 fun d hd => okD_up ((okD_seq h).2 d hd)
  | n + 1, .tuple ds, h => okD_mk (okD_seq h).1 fun d hd => okD_up ((okD_seq h).2 d hd)
  | n + 1, .dict _, h => by cases h
theorem cut_any (xs : List V) (x : Nat) : cutV xs none (some (x : Int)) = xs.take x := by
  have e2 : HT.sIx xs.length 0 none = 0 := rfl
  unfold cutV
  rw [HT.sIx_nat, e2, Nat.sub_zero, List.drop_zero]
  by_cases h : x ≤ xs.length
  · rw [show min x xs.length = x by omega]
  · rw [show min x xs.length = xs.length by omega, List.take_length, List.take_of_length_le (by omega)]
theorem at_ints {ls : List Int} {i : Nat} (h : i < ls.length) : atI (ls.map V.int) (i : Int) = some (.int (ls.getD i 0)) := atI_nat (by
  rw [List.getElem?_map, List.getD_eq_getElem?_getD, List.getElem?_eq_getElem h]
  rfl)
theorem sgnsV_len (x : Str) : (sgnsV x).length = x.length := by
  unfold sgnsV
  rw [List.length_map, Array.length_toList]
  rfl
theorem likeS (x : Str) : LikeSeq (Its x) (fun _ => True) (sgnsV x) :=
  ⟨fun _ _ _ q => q, fun i _ _ h => by rw [sgnsV_len] at h; exact h, fun i H v H' _ y => ⟨y.1, by
    obtain ⟨_, c, hc, rfl⟩ := y
    unfold sgnsV
    rw [List.getElem?_map, Array.getElem?_toList, hc]
    rfl⟩, fun _ _ => by rw [sgnsV_len]; exact Nat.le_refl _⟩
theorem sgn_at {z : Str} {i : Nat} {x : V} (h : (sgnsV z)[i]? = some x) : ∃ c, z.cps[i]? = some c ∧ x = .str ⟨#[c]⟩ := by
  unfold sgnsV at h
  rw [List.getElem?_map, Array.getElem?_toList] at h
  cases e : z.cps[i]? with
  | none => rw [e] at h; cases h
  | some c => rw [e] at h; exact ⟨c, rfl, (Option.some.inj h).symm⟩
theorem getS {ws : List Str} {k : Nat} {v : V} (h : (ws.map V.str)[k]? = some v) : ∃ z, ws[k]? = some z ∧ v = .str z := by
  rw [List.getElem?_map] at h
  cases e : ws[k]? with
  | none => rw [e] at h; cases h
  | some n => rw [e] at h; exact ⟨n, rfl, (Option.some.inj h).symm⟩
/-- one of two -/
def pk {α : Type} (x y : α) : Nat → α
  | 0 => x
  | _ => y
theorem two_at {α : Type} {f : Nat → α} {j : Nat} (h : j < 2) : [f 0, f 1][j]? = some (f j) := by
  rcases (by omega : j = 0 ∨ j = 1) with e | e <;> subst e <;> rfl
theorem nums_is {K : PySem.W.Frag} {H : Hp} {a : Addr} {ls : List Nat} (hS : H a = some (.lst (ls.map nI)) ∨ H a = some (.tup (ls.map nI))) (hl : ls.length ≤ 100000) : ∃ d, Dp K H (.ref a) d ∧ okD 2 d = true ∧ rowD d = true ∧ lensD d = ls := by
  have al : (ndD ls).all isNumD = true := by
    rw [List.all_eq_true]
    intro d hd
    obtain ⟨n, _, rfl⟩ := List.mem_map.mp hd
    exact decide_eq_true (Int.natCast_nonneg n)
  have okm := okD_mk (n := 1) (ds := ndD ls) (by rw [ndD_len]; exact hl) fun d hd => ndD_ok ls 0 d hd
  rcases hS with h | h
  · exact ⟨.list (ndD ls), .lst (SqL.of h) (dp_nd ls), okm, al, ndD_nat ls⟩
  · exact ⟨.tuple (ndD ls), .tup (SqT.of h) (dp_nd ls), okm, al, ndD_nat ls⟩
end KB

namespace KB
open PySem PySem.Spec PyProof.Rows L2
/-! ### calls with a keyword-only parameter -/
theorem un1 {n c : Nat} (h : n + 64 < c) : n + 1 < c := by omega
section
variable {P : Program} {w : World} {K : PySem.W.Frag} {mg : Str → Option Value} {base : Heap}
/-- C(e, ..), the defaults dvs behind -/
structure MakXD (P : Program) (w : World) (K : PySem.W.Frag) (mg : Str → Option Value) (base : Heap) (k : Nat) (x : Str) (C : Addr) (dvs : List V) (sp : Sp) : Prop where
  ex : ∃ (f : Addr) (fd : FuncData) (ps : List Str) (ds : List Value), Mk K C f ∧ FnOk P w K mg base (L2N.CX P w) k f fd ps sp ∧ mg x = some (.ref C) ∧ Binds K fd ps ds ∧ Vals dvs ds
/-- C(e, .., k = v, ..): n values by place -/
structure MakXN (P : Program) (w : World) (K : PySem.W.Frag) (mg : Str → Option Value) (base : Heap) (k : Nat) (x : Str) (C : Addr) (n : Nat) (ks : List Str) (gV : List V → List V → List V) (sp : Sp) : Prop where
  ex : ∃ (f : Addr) (fd : FuncData) (ps : List Str) (g : List Value → List Value → List Value), Mk K C f ∧ FnOk P w K mg base (L2N.CX P w) k f fd ps sp ∧ mg x = some (.ref C) ∧ KBn K fd ps (n + 1) ks g gV
/-- f(e, ..), the defaults dvs behind; f may raise -/
structure CalXD (P : Program) (w : World) (K : PySem.W.Frag) (mg : Str → Option Value) (base : Heap) (k : Nat) (x : Str) (dvs : List V) (sp : Sp) : Prop where
  ex : ∃ (f : Addr) (fd : FuncData) (ps : List Str) (ds : List Value), FnOk P w K mg base (L2N.CX P w) k f fd ps sp ∧ mg x = some (.ref f) ∧ PySem.W.keepIn K (.ref f) = true ∧ Binds K fd ps ds ∧ Vals dvs ds
end
section
variable {X : Cx} {k j n : Nat} {C : Addr} {x : Str} {sp : Sp} {p pos apos : Pos} {e o : Expr} {es : List Expr} {kws : List Keyword} {ta : TE} {t tk : TA} {ks : List Str} {gV : List V → List V → List V} {dvs : List V}
theorem pe_mkxD (c : MakXD X.prog X.w X.K X.mg X.base k x C dvs sp) (hr : Room j X.A) (hk : k + 1 ≤ j) (hg : Gl X x) (ha : PA X (e :: es) t)
    (hdb : (x == ("__debug__" : Str)) = false := by decide) (he : starEach (e :: es) X.env = (false, eval e X.env) :: starEach es X.env := by rfl) (hpl : (backTo pos (starEach es X.env)).any (·.1) = false := by rfl) :
    PE X (.Call (.Name x p) (e :: es) [] pos) (tMake C sp dvs E0 t) := by
  obtain ⟨f, fd, ps, ds, M, F, hm, b, hd⟩ := c.ex
  exact pe_make M F (hr.mono hk) hg hm b hd passN0 ha hdb he hpl
theorem pe_mkxN (c : MakXN X.prog X.w X.K X.mg X.base k x C n ks gV sp) (hr : Room j X.A) (hk : k + 1 ≤ j) (hg : Gl X x) (ha : PA X (e :: es) t) (hkw : PK X kws tk)
    (hall : (backToKw pos (keywordEach kws X.env)).all (·.1.isSome) = true := by rfl) (hks : (backToKw pos (keywordEach kws X.env)).filterMap (·.1) = ks := by rfl) (hdb : (x == ("__debug__" : Str)) = false := by decide)
    (he : starEach (e :: es) X.env = (false, eval e X.env) :: starEach es X.env := by rfl) (hpl : ((backTo pos (starEach (e :: es) X.env)).any (·.1) || (backToKw pos (keywordEach kws X.env)).any (·.1.isNone)) = false := by rfl) :
    PE X (.Call (.Name x p) (e :: es) kws pos) (tMakeK C n ks.length sp gV E0 t tk) := by
  obtain ⟨f, fd, ps, g, M, F, hm, b⟩ := c.ex
  exact pe_makeK M F (hr.mono hk) hg hm b passN0 ha hkw hall hks hdb he hpl
end
/-! ### C(e, ..) with defaults, in a try -/
def tMakeSD (C : Addr) (sp : Sp) (dvs : List V) (E : L2.St → XK) (t : TA) : TE := fun σ H Q => t σ H fun vs H1 => ∀ x dx, H1 x = none → H1 dx = none → dx ≠ x → sp (.ref x :: (vs ++ dvs)) (upd (upd H1 dx (.own x)) x (.ins C dx [])) (fun v H2 => v = .non ∧ Q (.ref x) H2) (E σ)
section
variable {X : Cx} {k j : Nat} {C : Addr} {x : Str} {sp : Sp} {p pos : Pos} {e : Expr} {es : List Expr} {t : TA} {dvs : List V} {W : WX}
theorem pe_mkxSD (c : MakXD X.prog X.w X.K X.mg X.base k x C dvs sp) (hr : Room j X.A) (hk : k + 1 ≤ j) (hg : Gl X x) (tk : L2N.Takes X W) (ha : PA X (e :: es) t)
    (hdb : (x == ("__debug__" : Str)) = false := by decide) (he : starEach (e :: es) X.env = (false, eval e X.env) :: starEach es X.env := by rfl) (hpl : (backTo pos (starEach es X.env)).any (·.1) = false := by rfl) :
    PE X (.Call (.Name x p) (e :: es) [] pos) (tMakeSD C sp dvs (WE W) t) := by
  obtain ⟨f, fd, ps, ds, M, F, hm, b, hd⟩ := c.ex
  refine ⟨fun pins s σ H Q I h => ?_⟩
  refine wpAny_Call_Name_kw (ld_glob I hg hm ?_ hdb)
  refine PySem.W.callWith_K (h₀ := X.base) I.ok.mod.kin M.kp (thn (ha.run pos pins s σ H _ I h) fun us s1 ⟨vs, H1, I1, r, q⟩ => ⟨I1.kIn, ?_⟩) he hpl
  have hq := q (s1.heap.objs.size + 1) s1.heap.objs.size (I1.hok.fresh (Nat.le_succ _)) (I1.hok.fresh (Nat.le_refl _)) (Nat.ne_of_lt (Nat.lt_succ_self _))
  have hl : ∀ x : Addr, (Value.ref x :: us ++ ds).length = ps.length := fun x => by
    have e1 := F.len _ _ _ _ hq
    rw [List.length_cons, List.length_append] at e1
    rw [List.length_append, List.length_cons, ← r.length, ← hd.length, ← e1]
    omega
  exact run_makeS (us := us) (ws := []) (ul := us ++ ds) (vl := vs ++ dvs) M F (hr.mono hk) tk I1 (fun x => .cons rfl (r.append hd)) (fun s' x hK => b s' (Value.ref x :: us) hK (hl x)) q
end
/-! ### walks: backwards over a list, and comprehensions with two fors -/
theorem for_rev {K : PySem.W.Frag} {a : Addr} {xs : List V} {g : TG} {tb : TS} {D : Ends} {σ : L2.St} {H : Hp} (Pv : Nat → L2.St → Hp → Prop) (h0 : Pv 0 σ H) (hl : ∀ i σ H, i ≤ xs.length → Pv i σ H → SqL K H a xs)
    (hs : ∀ i x σ H, i < xs.length → xs[xs.length - 1 - i]? = some x → Pv i σ H → g x σ H fun σ2 H2 => tb { D with nx := Pv (i + 1), ct := Pv (i + 1), bk := D.nx } σ2 H2) (hd : ∀ σ H, Pv xs.length σ H → D.nx σ H) :
    ∃ W : Nat → Nat → L2.St → Hp → Prop, (∃ m, W 0 m σ H) ∧ ∀ i m σ H, W i m σ H →
      ((Itv K a xs.length).stop i H ∧ D.nx σ H) ∨ ((Itv K a xs.length).go i H ∧ ∃ N : L2.St → Hp → Prop, (∀ σ' H', N σ' H' → ∃ m', m' < m ∧ W (i + 1) m' σ' H') ∧ ∀ x H', (Itv K a xs.length).yld i H x H' → g x σ H' fun σ2 H2 => tb { D with nx := N, ct := N, bk := D.nx } σ2 H2) := by
  refine ⟨fun i m σ H => m = xs.length - i ∧ i ≤ xs.length ∧ Pv i σ H, ⟨xs.length, by simp, Nat.zero_le _, h0⟩, ?_⟩
  rintro i m σ H ⟨rfl, hi, p⟩
  have q := hl i σ H hi p
  by_cases hlt : i < xs.length
  · have e := List.getElem?_eq_getElem (show xs.length - 1 - i < xs.length by omega)
    refine .inr ⟨⟨hlt, xs, _, q, e⟩, Pv (i + 1), fun σ' H' p' => ⟨xs.length - (i + 1), by omega, rfl, hlt, p'⟩, fun x H' y => ?_⟩
    obtain ⟨e, y⟩ := y
    subst e
    exact hs i x σ _ hlt (y xs q) p
  · have e : i = xs.length := by omega
    subst e
    exact .inl ⟨Nat.le_refl _, hd σ H p⟩
theorem lc2_J {J : It} {S : Hp → Prop} {xs : List V} (L : LikeSeq J S xs) {g : TG} {tt : TT} {wi1 : TI} {g1 : TG} {tt1 : TT} {te : TE} {vs vs1 : List Nat} {σ : L2.St} {H1 : Hp} {D : Addr} {Qd : Hp → Prop} (Pv : Nat → Hp → Prop) (h0 : Pv 0 (upd H1 D (.lst []))) (hl : ∀ i H, i ≤ xs.length → Pv i H → S H)
    (hs : ∀ i x H, xs[i]? = some x → Pv i H → g x (wipe σ vs) H fun σ2 H2 => wipe σ2 vs = wipe σ vs ∧ tt σ2 H2 fun b H3 =>
      if b = true then wi1 σ2 H3 fun J1 H4 => ∃ W1 : Nat → Nat → Hp → Prop, (∃ m, W1 0 m H4) ∧ ∀ j k H, W1 j k H →
        (J1.stop j H ∧ Pv (i + 1) H) ∨ (J1.go j H ∧ ∃ Nx1 : Hp → Prop, (∀ H', Nx1 H' → ∃ k', k' < k ∧ W1 (j + 1) k' H') ∧ ∀ x H', J1.yld j H x H' → g1 x (wipe σ2 vs1) H' fun σ3 H5 => wipe σ3 vs1 = wipe σ2 vs1 ∧ tt1 σ3 H5 fun b H6 =>
          if b = true then te σ3 H6 fun y H7 => ∃ acc, H7 D = some (.lst acc) ∧ acc.length < sizeLine ∧ Nx1 (upd H7 D (.lst (acc ++ [y]))) else Nx1 H6)
      else Pv (i + 1) H3) (hd : ∀ H, Pv xs.length H → Qd H) :
    ∃ W : Nat → Nat → Hp → Prop, (∃ m, W 0 m (upd H1 D (.lst []))) ∧ ∀ i m H, W i m H →
      (J.stop i H ∧ Qd H) ∨ (J.go i H ∧ ∃ Nx : Hp → Prop, (∀ H', Nx H' → ∃ m', m' < m ∧ W (i + 1) m' H') ∧ ∀ x H', J.yld i H x H' → g x (wipe σ vs) H' fun σ2 H2 => wipe σ2 vs = wipe σ vs ∧ tt σ2 H2 fun b H3 =>
        if b = true then wi1 σ2 H3 fun J1 H4 => ∃ W1 : Nat → Nat → Hp → Prop, (∃ m, W1 0 m H4) ∧ ∀ j k H, W1 j k H →
          (J1.stop j H ∧ Nx H) ∨ (J1.go j H ∧ ∃ Nx1 : Hp → Prop, (∀ H', Nx1 H' → ∃ k', k' < k ∧ W1 (j + 1) k' H') ∧ ∀ x H', J1.yld j H x H' → g1 x (wipe σ2 vs1) H' fun σ3 H5 => wipe σ3 vs1 = wipe σ2 vs1 ∧ tt1 σ3 H5 fun b H6 =>
            if b = true then te σ3 H6 fun y H7 => ∃ acc, H7 D = some (.lst acc) ∧ acc.length < sizeLine ∧ Nx1 (upd H7 D (.lst (acc ++ [y]))) else Nx1 H6)
        else Nx H3) := by
  refine ⟨fun i m H => m = xs.length - i ∧ i ≤ xs.length ∧ Pv i H, ⟨xs.length, by simp, Nat.zero_le _, h0⟩, ?_⟩
  rintro i m H ⟨rfl, hi, p⟩
  have q := hl i H hi p
  by_cases hlt : i < xs.length
  · refine .inr ⟨L.go i H q hlt, Pv (i + 1), fun H' p' => ⟨xs.length - (i + 1), by omega, rfl, hlt, p'⟩, fun x H' y => ?_⟩
    obtain ⟨e, yy⟩ := L.yld i H x H' q y; clear y
    subst e
    exact hs i x _ yy p
  · have e : i = xs.length := by omega
    subst e
    exact .inl ⟨L.stop H q, hd H p⟩
theorem lc2_in {J1 : It} {S1 : Hp → Prop} {ys : List V} (L : LikeSeq J1 S1 ys) {g1 : TG} {tt1 : TT} {te : TE} {vs1 : List Nat} {σ2 : L2.St} {H4 : Hp} {D : Addr} {Nx : Hp → Prop} (Pw : Nat → Hp → Prop) (h0 : Pw 0 H4) (hl : ∀ i H, i ≤ ys.length → Pw i H → S1 H)
    (hs : ∀ j y H, ys[j]? = some y → Pw j H → g1 y (wipe σ2 vs1) H fun σ3 H5 => wipe σ3 vs1 = wipe σ2 vs1 ∧ tt1 σ3 H5 fun b H6 =>
      if b = true then te σ3 H6 fun y H7 => ∃ acc, H7 D = some (.lst acc) ∧ acc.length < sizeLine ∧ Pw (j + 1) (upd H7 D (.lst (acc ++ [y]))) else Pw (j + 1) H6) (hd : ∀ H, Pw ys.length H → Nx H) :
    ∃ W1 : Nat → Nat → Hp → Prop, (∃ m, W1 0 m H4) ∧ ∀ j k H, W1 j k H →
      (J1.stop j H ∧ Nx H) ∨ (J1.go j H ∧ ∃ Nx1 : Hp → Prop, (∀ H', Nx1 H' → ∃ k', k' < k ∧ W1 (j + 1) k' H') ∧ ∀ x H', J1.yld j H x H' → g1 x (wipe σ2 vs1) H' fun σ3 H5 => wipe σ3 vs1 = wipe σ2 vs1 ∧ tt1 σ3 H5 fun b H6 =>
        if b = true then te σ3 H6 fun y H7 => ∃ acc, H7 D = some (.lst acc) ∧ acc.length < sizeLine ∧ Nx1 (upd H7 D (.lst (acc ++ [y]))) else Nx1 H6) := by
  refine ⟨fun i m H => m = ys.length - i ∧ i ≤ ys.length ∧ Pw i H, ⟨ys.length, by simp, Nat.zero_le _, h0⟩, ?_⟩
  rintro i m H ⟨rfl, hi, p⟩
  have q := hl i H hi p
  by_cases hlt : i < ys.length
  · refine .inr ⟨L.go i H q hlt, Pw (i + 1), fun H' p' => ⟨ys.length - (i + 1), by omega, rfl, hlt, p'⟩, fun x H' y => ?_⟩
    obtain ⟨e, yy⟩ := L.yld i H x H' q y; clear y
    subst e
    exact hs i x _ yy p
  · have e : i = ys.length := by omega
    subst e
    exact .inl ⟨L.stop H q, hd H p⟩
theorem max3 (a b c : Int) : nuMax3 (.int a) (.int b) (.int c) = some (.int (if (if a < b then b else a) < c then c else (if a < b then b else a))) := by
  have l : ∀ x y : Int, nuLt (.int x) (.int y) = some (decide (x < y)) := fun _ _ => rfl
  have m : ∀ x y : Int, nuMax2 (.int x) (.int y) = some (.int (if x < y then y else x)) := fun x y => by
    unfold nuMax2
    rw [l]
    by_cases h : x < y
    · rw [decide_eq_true h, if_pos h]
      rfl
    · rw [decide_eq_false h, if_neg h]
      rfl
  unfold nuMax3
  rw [m]
  exact m _ _
end KB

/-! ### a try with several clauses that all give the exception the same name (the library has one such clause, or several without a name) -/
namespace L2N
open PySem PySem.Spec PyProof.Rows L2
/-- the ends of a suite behind which the name in slot i is gone -/
def gone (i : Nat) (D : Ends) : Ends := { nx := fun σ H => D.nx (σ.set i none) H, rt := D.rt, bk := fun σ H => D.bk (σ.set i none) H, ct := fun σ H => D.ct (σ.set i none) H }
def wNamed (K : PySem.W.Frag) (i : Nat) (Wout : WX) (D : Ends) : List (Value × (Addr → Value → Option Addr → TS)) → WX
  | [] => Wout
  | z :: r => fun cls d σ H => ∃ b, PySem.W.exmOne K cls z.1 = some b ∧ (b = true → ∀ a, H a = none → z.2 a cls d (gone i D) (σ.set i (some (.ref a))) H) ∧ (b = false → wNamed K i Wout D r cls d σ H)
inductive NamedOk (X : Cx) (n : Str) : List ExceptHandler → List (Value × (Addr → Value → Option Addr → TS)) → Prop
  | nil : NamedOk X n [] []
  | cons {x : Str} {c : Value} {ts : Addr → Value → Option Addr → TS} {s0 : Stmt} {ss : List Stmt} {p1 p2 : Pos} {hs : List ExceptHandler} {l : List (Value × (Addr → Value → Option Addr → TS))} (nm : Names X x c)
      (su : ∀ (a : Addr) (oe : Obj) (cls : Value) (d : Option Addr) (pn : List (Addr × Obj)), Zn cls d oe → (∃ vs, oe.data = .fields vs) → PSs (X.suite a ((a, oe) :: pn)) (s0 :: ss) (ts a cls d)) (rest : NamedOk X n hs l) :
      NamedOk X n (.ExceptHandler (some (.Name x p1)) (some n) (s0 :: ss) p2 :: hs) ((c, ts) :: l)
section
variable {X : Cx} {n : Str} {i : Nat} {body : List Stmt} {h0 : ExceptHandler} {hds : List ExceptHandler} {l : List (Value × (Addr → Value → Option Addr → TS))} {pos : Pos} {tb : WX → TS} {Wout : WX}
theorem ps_try_named (hst : X.stack = X.env :: X.outer) (hfr : X.env.frame = some X.env.locals) (nd : X.N.Nodup) (hi : X.N[i]? = some n) (loc : X.env.kindOf n = some .local) (tk : Takes X Wout)
    (hb : ∀ (W : WX) (pn : List (Addr × Obj)) (xe : Value → Shared → Prop), Takes (X.tr pn xe) W → PassesOwn (model X.prog X.w) X.A X.env xe → PSs (X.tr pn xe) body (tb W))
    (hh : NamedOk X n (h0 :: hds) l) : PS X (.Try body (h0 :: hds) [] [] pos) (fun D σ H => tb (wNamed X.K i Wout D l) D σ H) := by
  refine ⟨fun pins s σ H D I h => ?_⟩
  have ok := I.ok
  have af : X.A.frames = some (X.env :: X.outer) := by rw [ok.frames, hst]
  refine wpAny_Try_except (wpAny_mono ((hb (wNamed X.K i Wout D l) (X.pn ++ pins) (fun e s1 => wpAny (model X.prog X.w) X.A (noteFrame e X.env) (fun _ s2 => wpAny (model X.prog X.w) X.A (setFlight e none) (fun _ s3 =>
    wpAny (model X.prog X.w) X.A (handleBy e X.env (h0 :: hds)) (SP X pins D) X.xe s3) X.xe s2) X.xe s1) (fun u s' caught => ?_) PassesOwn.looking).run [] s σ H D (I.toTry _) h) (fun f s1 q => ?_) (fun e s1 he => he))
  · obtain ⟨a, B, sI, pins', σ', H', cls, d, rfl, J', nb, up, sky, na, os, ag, want⟩ := caught
    have J : Inv X pins σ' H' sI := J'.ofTry ok
    refine Sky.land Zn.steady af hfr (by rw [← hst]; exact sky) fun h3 fl up3 => ?_
    have J3 : Inv X pins σ' H' { s' with heap := h3 } := J.landed nb fl.1 (up.trans up3) os ag
    obtain ⟨o3, vs3, at3, z3, d3⟩ := fl.there
    have apart : a ∉ frs (X.env :: X.outer) := fun hm => by
      obtain ⟨_, o', e', no⟩ := fl.2.2.1.mem hm
      rw [at3] at e'
      cases e'
      exact no _ d3
    have nL : a ≠ X.env.locals := fun z => apart (List.mem_filterMap.mpr ⟨X.env, List.mem_cons_self, by rw [hfr, z]⟩)
    have nF : a ∉ X.fs := fun hm => by
      obtain ⟨e, he, q⟩ := List.mem_filterMap.mp hm
      exact apart (List.mem_filterMap.mpr ⟨e, List.mem_cons_of_mem _ he, q⟩)
    have S3 := J3.suite at3 d3 na nL nF
    have ty : PySem.W.Looks (model X.prog X.w) h3 (typeOf (.ref a)) cls := fun A Q E s k q => wpAny_typeOf_ref (k _ _ at3) (by rw [z3.1]; exact q)
    have along : ∀ {hs : List ExceptHandler} {m : List (Value × (Addr → Value → Option Addr → TS))}, NamedOk X n hs m → wNamed X.K i Wout D m cls d σ' H' → wpAny (model X.prog X.w) X.A (handleBy (.ref a) X.env hs) (SP X pins D) X.xe { s' with heap := h3 } := by
      intro hs m k
      induction k with
      | nil =>
        intro w
        obtain ⟨_, _, _, oe, vs, T, _, _, he, _, hd, h1, _⟩ := id fl
        have out : wpAny (model X.prog X.w) X.A (setFlight (.ref a) X.env.frame) (fun _ s4 => wpAny (model X.prog X.w) X.A (throw (.ref a) : Sem Flow) (SP X pins D) X.xe s4) X.xe { s' with heap := h3 } := by
          rw [hfr]
          exact HandSPX.setFlight_upZ fl fun h4 hh4 up4 => wpAny_throw (tk _ _ ⟨a, B, sI, pins, σ', H', cls, d, rfl, J, nb, (up.trans up3).trans up4, .inr (.inr (by rw [hst]; exact hh4)), na, os, ag, w⟩)
        refine wpAny_handleBy_nil ?_
        unfold PySem.passOn
        refine wpAny_bind (wpAny_field he hd h1 ?_)
        rw [if_neg (show ¬ ((Value.ref T == Value.none) = true) from by simp)]
        first
          | exact wpAny_bind (wpAny_pure (wpAny_bind out))
          | exact wpAny_bind out
      | @cons x c ts s0 ss p1 p2 hs2 l2 nm su rest ih =>
        intro w
        obtain ⟨b, hb1, yes, no⟩ := w
        have named : ∀ {Q : Value → Shared → Prop} {E : Value → Shared → Prop}, Q c { s' with heap := h3 } → wpAny (model X.prog X.w) (X.A.mark (some (.ref a))) (eval (.Name x p1) X.env) Q E { s' with heap := h3 } := fun {Q E} q => by
          rcases nm with ⟨hg, hdb, hm | ⟨hm, hv, hn⟩⟩
          · exact ld_glob (X := X.suite a ((a, o3) :: (X.pn ++ pins))) S3 hg hm q hdb
          · exact ld_blt (X := X.suite a ((a, o3) :: (X.pn ++ pins))) S3 hg hm hv q hn hdb
        refine wpAny_handleBy_cons (codeAny_handlers_test ?_) (by intro q; cases q)
        refine named ((PySem.W.exm_one (M := model X.prog X.w) J3.kIn ty hb1).here ?_)
        cases b with
        | false => exact ih (no rfl)
        | true =>
          refine codeAny_handlers_suite_as (HandSPX.lands_againZ fl fun h4 fl4 up4 => ?_)
          have J4 : Inv X pins σ' H' { s' with heap := h4 } := J.landed nb fl4.1 ((up.trans up3).trans up4) os ag
          obtain ⟨o4, vs4, at4, z4, d4⟩ := fl4.there
          refine store_ok (X := X.suite a ((a, o4) :: (X.pn ++ pins))) (v := .ref a) (J4.suite at4 d4 na nL nF) nd hi (.inl loc) rfl (fun s5 S5 => ?_) (.inr loc)
          refine wpAny_mono ((su a o4 cls d (X.pn ++ pins) z4 ⟨_, d4⟩).run [] s5 _ H' _ S5 (yes rfl a na)) (fun f s6 q => ?_) (fun _ _ z => False.elim z)
          have leave : ∀ {σ6 : St} {H6 : Hp} {Q : Shared → Prop}, Inv (X.suite a ((a, o4) :: (X.pn ++ pins))) [] σ6 H6 s6 → (∀ s7, Inv X pins (σ6.set i none) H6 s7 → Q s7) →
              wpAny (model X.prog X.w) X.A (do bindName X.env n .none; unbindBehindTheSuite X.env n p2) (fun _ s7 => Q s7) X.xe s6 := fun {σ6 H6 Q} S6 hq => gone_ok (S6.unsuite ok) nd hi loc hq
          cases f with
          | next =>
            obtain ⟨_, _, S6, q6⟩ := q
            exact leave S6 fun s7 J7 => ⟨_, _, J7, q6⟩
          | brk =>
            obtain ⟨_, _, S6, q6⟩ := q
            exact leave S6 fun s7 J7 => ⟨_, _, J7, q6⟩
          | cont =>
            obtain ⟨_, _, S6, q6⟩ := q
            exact leave S6 fun s7 J7 => ⟨_, _, J7, q6⟩
          | ret u =>
            obtain ⟨_, _, _, S6, r6, q6⟩ := q
            exact leave S6 fun s7 J7 => ⟨_, _, _, J7, r6, q6⟩
    exact along hh want
  · cases f with
    | next =>
      obtain ⟨_, _, K1, q1⟩ := q
      exact wpAny_execs_nil ⟨_, _, K1.ofTry ok, q1⟩
    | brk =>
      obtain ⟨_, _, K1, q1⟩ := q
      exact ⟨_, _, K1.ofTry ok, q1⟩
    | cont =>
      obtain ⟨_, _, K1, q1⟩ := q
      exact ⟨_, _, K1.ofTry ok, q1⟩
    | ret u =>
      obtain ⟨_, _, _, K1, r1, q1⟩ := q
      exact ⟨_, _, _, K1.ofTry ok, r1, q1⟩
end
end L2N

/-! # KSL: xs[a:c] = ys, a list stored into a slice of another -/
namespace KB
open PySem PySem.Spec PyProof.Rows L2
def rSetSl : V → Option Int → Option Int → V → Hp → (Hp → Prop) → Prop := fun o lo hi v H Q => ∃ l b xs ys a c, o = .ref l ∧ v = .ref b ∧ lo = some a ∧ hi = some c ∧ H l = some (.lst xs) ∧ H b = some (.lst ys) ∧ l ≠ b ∧ 0 ≤ a ∧ a ≤ c ∧ c ≤ (xs.length : Int) ∧ xs.length + ys.length ≤ sizeLine ∧ Q (upd H l (.lst (xs.take a.toNat ++ ys ++ xs.drop c.toNat)))
def gSlice (to : TE) (tl th : TO) : TG := fun v σ H Q => to σ H fun o H1 => tl σ H1 fun lo H2 => th σ H2 fun hi H3 => rSetSl o lo hi v H3 fun H4 => Q σ H4
section
variable {X : Cx} {pos p2 : Pos}
theorem pg_slice {o : Expr} {lo hi : Option Expr} {to : TE} {tl th : TO} (ho : PE X o to) (hl : PO X lo tl) (hu : PO X hi th)
    (ha : ∀ v, assign (.Subscript o (.Slice lo hi none p2) pos) X.env v = (do
      let ov ← holding [v] (eval o X.env)
      let iv ← holding [v, ov] (eval (.Slice lo hi none p2) X.env)
      standAt pos
      holding [v, ov, iv] (setItem ov iv v)
      release [iv, v, ov] []) := by intro _; rfl) : PG X (.Subscript o (.Slice lo hi none p2) pos) (gSlice to tl th) := by
  refine ⟨fun pins s σ H v u Q I r h => ?_⟩
  rw [ha]
  refine wpAny_bind (wpAny_holding (thn (ho.run pins s σ H _ I h) fun ov s1 ⟨x, H1, I1, r1, q1⟩ => ?_))
  refine wpAny_bind (wpAny_holding (wpAny_Slice (thn (hl.run pins s1 σ H1 _ I1 q1) fun vl s2 ⟨l, H2, I2, pl, q2⟩ => thn (hu.run pins s2 σ H2 _ I2 q2) fun vu s3 ⟨y, H3, I3, pu, q3⟩ => ?_)))
  rw [evalPart_none]
  refine wpAny_pure ?_
  have I4 : Inv X pins σ H3 { s3 with heap := s3.heap.push { cls := .type "slice", data := .fields #[vl, vu, .none] } } := I3.kept (t' := s3.toks) fun b ob q => Heap.get?_push_of_some _ q
  obtain ⟨l', b, xs, ys, a, c, rfl, rfl, rfl, rfl, hH, hB, hne, h0, hac, hc, hz, q⟩ := q3
  cases r1
  cases r
  have ra : RelV (.int a) vl := by cases pl; exact ⟨_, rfl⟩
  have rc : RelV (.int c) vu := by cases pu; exact ⟨_, rfl⟩
  refine wpAny_bind (wpAny_standAt (wpAny_bind (wpAny_holding (set_slice I4 hH hB hne (Heap.IsSliceOf.new ..) ra rc h0 hac hc hz fun s5 I5 => ?_))))
  exact wpAny_release ⟨σ, _, I5, q⟩
end
end KB

/-! # KAS: xs[k] += text, k a place of a list; text.ljust(n, sign); what a heap holds beside some cells -/
namespace KB
open PySem PySem.Spec PyProof.Rows L2
def rGetL (K : PySem.W.Frag) : V → V → Hp → VK → Prop := fun x y H Q => ∃ p xs k v, x = .ref p ∧ y = .int ((k : Nat) : Int) ∧ SqL K H p xs ∧ xs[k]? = some v ∧ Q v H
theorem get_list {X : Cx} : PGet X (rGetL X.K) := by
  intro pins s σ H o i ov iv Q I ro ri h
  obtain ⟨p, xs, k, v, rfl, rfl, hq, he, q⟩ := h
  cases ro
  obtain ⟨t, rfl⟩ := ri
  obtain ⟨its, r, pl, hz⟩ := I.list hq
  obtain ⟨w, ew, rw'⟩ := r.get he
  have hl := r.length
  have hn := line63
  have hk := (List.getElem?_eq_some_iff.mp he).1
  exact wpAny_getItem_list pl.isList (by omega) (by omega) (by rw [Int.toNat_natCast]; simpa using ew) ⟨v, H, I, rw', q⟩
theorem ip_addS {X : Cx} : PIp X .Add (fun x y H Q => ∃ i j, x = .str i ∧ y = .str j ∧ i.length + j.length ≤ sizeLine ∧ Q (.str (i ++ j)) H) := fun pins s σ H x y v u Q I rx ry h => iop_add_str pins s σ H x y v u Q I rx ry h
theorem mt_ljustF {X : Cx} : MtR X "str.ljust" (fun x xs H Q => ∃ (a f : Str) (i : Int), x = .str a ∧ xs = [.int i, .str f] ∧ PadOk i = true ∧ f.length = 1 ∧ Q (.str (Txt.ljustF a i (f.cps.getD 0 0))) H) := by
  intro pins s σ H x xs v us Q I rx rs h
  obtain ⟨a, f, i, rfl, rfl, hp, hf, h⟩ := h
  obtain ⟨t, rfl⟩ := rx
  cases rs with
  | cons r1 rs =>
    cases rs with
    | cons r2 rs =>
      cases rs
      obtain ⟨u, rfl⟩ := r1
      obtain ⟨z, rfl⟩ := r2
      exact ljust_fill hp hf fun t2 k => ⟨.str (Txt.ljustF a i (f.cps.getD 0 0)), H, I.tok k, ⟨t2, rfl⟩, h⟩
/-- a heap without some cells -/
def hid (S : List Addr) (H : Hp) : Hp := fun a => if a ∈ S then none else H a
theorem hid_at {S : List Addr} {H : Hp} {a : Addr} (h : a ∉ S) : hid S H a = H a := if_neg h
theorem hid_in {S : List Addr} {H : Hp} {a : Addr} (h : a ∈ S) : hid S H a = none := if_pos h
theorem hid_sub {S : List Addr} {H : Hp} : Same (hid S H) H := fun a o e => by
  by_cases h : a ∈ S
  · rw [hid_in h] at e; cases e
  · rw [hid_at h] at e; exact e
theorem hid_more {S : List Addr} {H : Hp} {q : Addr} : Same (hid (q :: S) H) (hid S H) := fun a o e => by
  by_cases h : a ∈ q :: S
  · rw [hid_in h] at e; cases e
  · rw [hid_at h] at e
    rw [hid_at (fun z => h (List.mem_cons_of_mem _ z))]
    exact e
theorem hid_same {S : List Addr} {H H' : Hp} (s : Same H H') : Same (hid S H) (hid S H') := fun a o e => by
  by_cases h : a ∈ S
  · rw [hid_in h] at e; cases e
  · rw [hid_at h] at e ⊢
    exact s _ _ e
theorem hid_upd {S : List Addr} {H : Hp} {q : Addr} {o : HO} (h : q ∈ S) : hid S (upd H q o) = hid S H := by
  funext a
  by_cases ha : a ∈ S
  · rw [hid_in ha, hid_in ha]
  · rw [hid_at ha, hid_at ha, upd_ne (fun e => ha (by rw [e]; exact h))]
/-- what stands does not see a change of a hidden cell -/
theorem Same.hidden {S : List Addr} {H0 H : Hp} {q : Addr} {o : HO} (s : Same (hid S H0) H) (h : q ∈ S) : Same (hid S H0) (upd H q o) := fun a o' e => by
  by_cases ha : a = q
  · subst ha
    rw [hid_in h] at e
    cases e
  · rw [upd_ne ha]
    exact s _ _ e
theorem Same.hid_all {S : List Addr} {H0 H : Hp} (s : Same H0 H) (h : ∀ a ∈ S, H0 a = none) : Same H0 (hid S H) := fun a o e => by
  by_cases ha : a ∈ S
  · rw [h a ha] at e; cases e
  · rw [hid_at ha]
    exact s _ _ e
theorem app_assoc (a b c : Str) : a ++ b ++ c = a ++ (b ++ c) := congrArg Str.mk Array.append_assoc
theorem app_nil (a : Str) : a ++ ("" : Str) = a := congrArg Str.mk (Array.append_empty)
theorem nil_app (a : Str) : ("" : Str) ++ a = a := congrArg Str.mk (Array.empty_append)
def iZipK (K : PySem.W.Frag) (ta : TA) : TI := fun σ H R => ta σ H fun vs H1 => ∃ (u1 u2 : Src) (xs ys : List V), vs = [u1.v, u2.v] ∧ u1.has K H1 xs ∧ u2.has K H1 ys ∧ ∀ J, LikeZp J (fun H => u1.has K H xs ∧ u2.has K H ys) xs ys → R J H1
theorem pi_zipK {X : Cx} {e e2 : Expr} {ta : TA} {p pos tpos : Pos} {elts : List Expr} {kk : Nat} (hg : Gl X "zip") (hm : X.mg "zip" = none) (ha : PA X [e, e2] ta)
    (hs : starEach [e, e2] X.env = (false, eval e X.env) :: starEach [e2] X.env := by rfl) (hpl : (backTo pos (starEach [e2] X.env)).any (·.1) = false := by rfl) :
    PI X (.Tuple elts kk tpos) (.Call (.Name "zip" p) [e, e2] [] pos) (iZipK X.K ta) := by
  refine ⟨fun pins s σ H R I h => ?_⟩
  refine Call_ (ld_blt I hg hm PyProof.Rows.boot_zip (PyProof.Rows.callWith_type1 (thn (ha.run pos pins s σ H _ I h) fun us s1 ⟨vs, H1, I1, r1, q1⟩ => ?_) hs hpl))
  obtain ⟨u1, u2, xs, ys, ex, hx, hy, q1⟩ := q1
  subst ex
  cases r1 with
  | cons r rr =>
    cases rr with
    | cons r' rr =>
      cases rr
      obtain ⟨t1, o1, H01, B1, k1, a1, c1⟩ := src_begins I1 hx r
      obtain ⟨t2, o2, H02, B2, k2, a2, c2⟩ := src_begins I1 hy r'
      refine zip_begins2 B1 B2 k1 k2 fun h' hz hTI hTO g1 g2 hsz hk => wpAny_pyIter_zip hz ?_
      have I2 : Inv X pins σ H1 { s1 with heap := h' } := I1.kept (t' := s1.toks) hk
      have fresh5 : ∀ c, c ∈ [s1.heap.objs.size + 4, s1.heap.objs.size + 2, s1.heap.objs.size + 3, s1.heap.objs.size, s1.heap.objs.size + 1] → FpOk X pins H1 c := fun c hcm => by
        have e' : c = s1.heap.objs.size + 4 ∨ c = s1.heap.objs.size + 2 ∨ c = s1.heap.objs.size + 3 ∨ c = s1.heap.objs.size ∨ c = s1.heap.objs.size + 1 := by simpa using hcm
        have hle : s1.heap.objs.size ≤ c := by
          rcases e' with z | z | z | z | z
          · rw [z]; exact Nat.le_add_right _ _
          · rw [z]; exact Nat.le_add_right _ _
          · rw [z]; exact Nat.le_add_right _ _
          · rw [z]; exact Nat.le_refl _
          · rw [z]; exact Nat.le_add_right _ _
        exact I1.fpOk hle (I1.hok.fresh hle)
      have S : ZipSep2 (s1.heap.objs.size + 4) (s1.heap.objs.size + 2) (s1.heap.objs.size + 3) s1.heap.objs.size (s1.heap.objs.size + 1) (s1.heap.objs.size :: u1.fp) ((s1.heap.objs.size + 1) :: u2.fp) := zip_sep2 a1 a2
      refine ⟨s1.heap.objs.size + 4, [s1.heap.objs.size + 4, s1.heap.objs.size + 2, s1.heap.objs.size + 3, s1.heap.objs.size, s1.heap.objs.size + 1], _, _, H1, rfl, I2, turn_zipG (t1 := t1) (t2 := t2) S (fun a ha => Nat.ne_of_lt (a1 a ha)) (fun a ha => Nat.ne_of_lt (Nat.lt_succ_of_lt (a2 a ha))), ⟨hz, hTI, ⟨_, _, hTO⟩, c1 _ _ g1, c2 _ _ g2⟩, fresh5, q1 _ (likeZp X.K u1 u2 xs ys)⟩
end KB

namespace K24
open PySem PySem.Spec PyProof.Rows L2 KB
local macro_rules | `(tactic| walk_at "hp") => `(tactic| (repeat' (first | exact upd_same | assumption | (refine same_upd (by assumption) _ _ ?_) | (rw [upd_ne (by assumption)]) | (rw [upd_ne (Ne.symm (by assumption))]))))

def topS (i : Nat) : Stmt := PySem.Challenge.pw_keptbudgets_k24_worst_language.main.body.getD i (.Pass ⟨0, 0, 0, 0⟩)
abbrev s_InvalidNumber___init__ : Stmt := inClass (topS 2) 0
theorem xb_InvalidNumber : XBody s_InvalidNumber___init__ ["number"] := ⟨⟨_, _, _, _, _, _, _, _, _, rfl, rfl, .inl ⟨_, _, _, _, _, rfl, rfl⟩⟩, ⟨_, rfl, rfl⟩, fun _ _ _ _ _ _ _ _ us hl => match us, hl with | [_], _ => rfl, ⟨rfl, rfl, rfl, by decide +kernel, rfl, by decide +kernel, rfl, rfl⟩, by decide +kernel, by decide +kernel⟩
abbrev s_InvalidBudgets___init__ : Stmt := inClass (topS 3) 0
theorem xb_InvalidBudgets : XBody s_InvalidBudgets___init__ ["budgets"] := ⟨⟨_, _, _, _, _, _, _, _, _, rfl, rfl, .inl ⟨_, _, _, _, _, rfl, rfl⟩⟩, ⟨_, rfl, rfl⟩, fun _ _ _ _ _ _ _ _ us hl => match us, hl with | [_], _ => rfl, ⟨rfl, rfl, rfl, by decide +kernel, rfl, by decide +kernel, rfl, rfl⟩, by decide +kernel, by decide +kernel⟩
abbrev s_is_integer : Stmt := topS 5
theorem sc_is_integer : FnScope ["value"] ["value"] (defScope s_is_integer) := ⟨rfl, rfl, rfl, by decide +kernel, rfl, by decide +kernel, by decide +kernel⟩
abbrev s_is_number : Stmt := topS 6
theorem sc_is_number : FnScope ["value"] ["value"] (defScope s_is_number) := ⟨rfl, rfl, rfl, by decide +kernel, rfl, by decide +kernel, by decide +kernel⟩
abbrev s_is_bit : Stmt := topS 7
theorem sc_is_bit : FnScope ["value"] ["value"] (defScope s_is_bit) := ⟨rfl, rfl, rfl, by decide +kernel, rfl, by decide +kernel, by decide +kernel⟩
abbrev s_is_sequence : Stmt := topS 8
theorem sc_is_sequence : FnScope ["value"] ["value"] (defScope s_is_sequence) := ⟨rfl, rfl, rfl, by decide +kernel, rfl, by decide +kernel, by decide +kernel⟩
abbrev s_are_numbers : Stmt := topS 9
theorem sc_are_numbers : FnScope ["value", "part"] ["value"] (defScope s_are_numbers) := ⟨rfl, rfl, rfl, by decide +kernel, rfl, by decide +kernel, by decide +kernel⟩
abbrev s_check_budgets : Stmt := topS 12
theorem sc_check_budgets : FnScope ["budgets"] ["budgets"] (defScope s_check_budgets) := ⟨rfl, rfl, rfl, by decide +kernel, rfl, by decide +kernel, by decide +kernel⟩
abbrev s_can_keep : Stmt := topS 14
theorem sc_can_keep : FnScope ["budgets", "room", "depth", "place", "budget", "left", "down"] ["budgets"] (defScope s_can_keep) := ⟨rfl, rfl, rfl, by decide +kernel, rfl, by decide +kernel, by decide +kernel⟩
abbrev s_check_bit : Stmt := topS 11
theorem sc_check_bit : FnScope ["bit"] ["bit"] (defScope s_check_bit) := ⟨rfl, rfl, rfl, by decide +kernel, rfl, by decide +kernel, by decide +kernel⟩
abbrev s_in_order : Stmt := topS 18
theorem sc_in_order : FnScope ["budgets", "program", "budget"] ["budgets"] (defScope s_in_order) := ⟨rfl, rfl, rfl, by decide +kernel, rfl, by decide +kernel, by decide +kernel⟩
abbrev s_with_less : Stmt := topS 21
theorem sc_with_less : FnScope ["side", "budget", "program"] ["side"] (defScope s_with_less) := ⟨rfl, rfl, rfl, by decide +kernel, rfl, by decide +kernel, by decide +kernel⟩
abbrev s_check_breakable : Stmt := topS 17
theorem sc_check_breakable : FnScope ["budgets"] ["budgets"] (defScope s_check_breakable) := ⟨rfl, rfl, rfl, by decide +kernel, rfl, by decide +kernel, by decide +kernel⟩
abbrev s_broken_on : Stmt := topS 20
theorem sc_broken_on : FnScope ["side", "budget", "program"] ["side"] (defScope s_broken_on) := ⟨rfl, rfl, rfl, by decide +kernel, rfl, by decide +kernel, by decide +kernel⟩
abbrev s_sides_of : Stmt := topS 19
theorem sc_sides_of : FnScope ["living", "room", "depth", "many", "budget"] ["living"] (defScope s_sides_of) := ⟨rfl, rfl, rfl, by decide +kernel, rfl, by decide +kernel, by decide +kernel⟩
abbrev s_Breaker___init__ : Stmt := inClass (topS 15) 0
theorem sc_Breaker___init__ : FnScope ["self", "budgets"] ["self", "budgets"] (defScope s_Breaker___init__) := ⟨rfl, rfl, rfl, by decide +kernel, rfl, by decide +kernel, by decide +kernel⟩
abbrev s_Breaker_answer : Stmt := inClass (topS 15) 1
theorem sc_Breaker_answer : FnScope ["self", "bit", "told", "side"] ["self", "bit"] (defScope s_Breaker_answer) := ⟨rfl, rfl, rfl, by decide +kernel, rfl, by decide +kernel, by decide +kernel⟩
abbrev s_write_sides : Stmt := topS 22
theorem sc_write_sides : FnScope ["rows", "living", "sign", "side", "_", "program"] ["rows", "living"] (defScope s_write_sides) := ⟨rfl, rfl, rfl, by decide +kernel, rfl, by decide +kernel, by decide +kernel⟩
abbrev s_worst_language : Stmt := topS 16
theorem sc_worst_language : FnScope ["budgets", "rows", "longest", "row"] ["budgets"] (defScope s_worst_language) := ⟨rfl, rfl, rfl, by decide +kernel, rfl, by decide +kernel, by decide +kernel⟩
abbrev s_law_tape : Stmt := topS 24
theorem sc_law_tape : FnScope ["script", "great", "seed", "cell"] ["script"] (defScope s_law_tape) := ⟨rfl, rfl, rfl, by decide +kernel, rfl, by decide +kernel, by decide +kernel⟩
abbrev s_law_draw : Stmt := topS 25
theorem sc_law_draw : FnScope ["tape", "limit", "great", "number", "mixed"] ["tape", "limit"] (defScope s_law_draw) := ⟨rfl, rfl, rfl, by decide +kernel, rfl, by decide +kernel, by decide +kernel⟩
abbrev s_law_same : Stmt := topS 27
theorem sc_law_same : FnScope ["told", "due", "k"] ["told", "due"] (defScope s_law_same) := ⟨rfl, rfl, rfl, by decide +kernel, rfl, by decide +kernel, by decide +kernel⟩
abbrev s_law_copy : Stmt := topS 26
theorem sc_law_copy : FnScope ["thing", "part"] ["thing"] (defScope s_law_copy) := ⟨rfl, rfl, rfl, by decide +kernel, rfl, by decide +kernel, by decide +kernel⟩
abbrev s_law_stranger : Stmt := topS 28
theorem sc_law_stranger : FnScope ["tape", "number", "k", "menu"] ["tape"] (defScope s_law_stranger) := ⟨rfl, rfl, rfl, by decide +kernel, rfl, by decide +kernel, by decide +kernel⟩
abbrev s_law_budgets : Stmt := topS 29
theorem sc_law_budgets : FnScope ["tape", "budgets", "k", "many", "shape", "at"] ["tape"] (defScope s_law_budgets) := ⟨rfl, rfl, rfl, by decide +kernel, rfl, by decide +kernel, by decide +kernel⟩
abbrev s_law_rows : Stmt := topS 30
theorem sc_law_rows : FnScope ["budgets", "rows", "part", "groups", "q", "place", "later", "group", "total", "sides", "pair", "which", "side", "most", "row"] ["budgets"] (defScope s_law_rows) := ⟨rfl, rfl, rfl, by decide +kernel, rfl, by decide +kernel, by decide +kernel⟩
abbrev s_law_told : Stmt := topS 31
theorem sc_law_told : FnScope ["value", "by_name", "e"] ["value", "by_name"] (defScope s_law_told) := ⟨rfl, rfl, rfl, by decide +kernel, rfl, by decide +kernel, by decide +kernel⟩
abbrev s_law_breaks : Stmt := topS 32
theorem sc_law_breaks : FnScope ["value", "part"] ["value"] (defScope s_law_breaks) := ⟨rfl, rfl, rfl, by decide +kernel, rfl, by decide +kernel, by decide +kernel⟩
abbrev s_law_right : Stmt := topS 33
theorem sc_law_right : FnScope ["value", "by_name", "kept", "told"] ["value", "by_name"] (defScope s_law_right) := ⟨rfl, rfl, rfl, by decide +kernel, rfl, by decide +kernel, by decide +kernel⟩
abbrev s_law_breaker_right : Stmt := topS 34
theorem sc_law_breaker_right : FnScope ["tape", "budgets", "rows", "constant", "breaker", "k", "bit", "broken", "row"] ["tape", "budgets", "rows", "constant"] (defScope s_law_breaker_right) := ⟨rfl, rfl, rfl, by decide +kernel, rfl, by decide +kernel, by decide +kernel⟩
abbrev s_law_asks : Stmt := topS 35
theorem sc_law_asks : FnScope ["script", "tape", "budgets", "named", "rows", "k", "at", "spoilt", "less", "higher", "value"] ["script"] (defScope s_law_asks) := ⟨rfl, rfl, rfl, by decide +kernel, rfl, by decide +kernel, by decide +kernel⟩
abbrev s_law : Stmt := topS 36
theorem sc_law : FnScope ["script"] ["script"] (defScope s_law) := ⟨rfl, rfl, rfl, by decide +kernel, rfl, by decide +kernel, by decide +kernel⟩
structure Txt (K : PySem.W.Frag) (mg : Str → Option Value) (C_Breaker : Addr) : Prop where
  b_super : mg "super" = none
  b_isinstance : mg "isinstance" = none
  b_int : mg "int" = none
  b_bool : mg "bool" = none
  b_tuple : mg "tuple" = none
  b_list : mg "list" = none
  b_all : mg "all" = none
  b_enumerate : mg "enumerate" = none
  b_sorted : mg "sorted" = none
  b_len : mg "len" = none
  b_min : mg "min" = none
  b_str : mg "str" = none
  b_zip : mg "zip" = none
  b_max : mg "max" = none
  b_abs : mg "abs" = none
  b_range : mg "range" = none
  b_any : mg "any" = none
  b_sum : mg "sum" = none
/-! ### the tape's two defs -/
def spTape (K : PySem.W.Frag) : Sp := fun vs H Q _ => ∃ (a : Addr) (ns : List Int), vs = [.ref a] ∧ SqL K H a (ns.map V.int) ∧ ns.length ≤ 63 ∧ ∀ H' t, Tp H H' t 0 → Q (.ref t) H'
def spDraw : Sp := fun vs H Q _ => ∃ (B : Hp) (t : Addr) (c : Nat) (lim : Int), vs = [.ref t, .int lim] ∧ Tp B H t c ∧ 0 < lim ∧ lim < 1073741824 ∧ c < 1000000000 ∧ ∀ H' n, Tp B H' t (c + 1) → 0 ≤ n → n < lim → Q (.int n) H'
section
variable {P : Program} {w : World} {K : PySem.W.Frag} {mg : Str → Option Value} {base : Heap} {C_Breaker : Addr}
theorem ok_law_tape {f : Addr} {fd : FuncData} (F : Fun K "_law_tape" "_law_tape" s_law_tape f fd) (T : Txt K mg C_Breaker) : FnOk P w K mg base CX0 1 f fd ["script"] (spTape K) := by
  refine F.ok sc_law_tape (fun vs H Q E h => ?_) (fun cdv A outer s H vs Q E hr h => ?_)
  · obtain ⟨a, ns, rfl, _⟩ := h
    rfl
  · obtain ⟨a, ns, rfl, hS, hlen, q⟩ := h
    refine ⟨_, (pss_cons (ps_set (i := 1) sc_law_tape.nd rfl (by first | exact Or.inl rfl | exact Or.inr rfl) (pe_lst pa_nil))
    (pss_cons (ps_set (i := 2) sc_law_tape.nd rfl (by first | exact Or.inl rfl | exact Or.inr rfl) pe_int)
    (pss_cons (ps_for PassesOwn.never rfl (pi_list (pe_slice sl_list (pv 0) po_none (po_some pe_int))) (pg_name (i := 3) sc_law_tape.nd rfl (by first | exact Or.inl rfl | exact Or.inr rfl))
      (pss_cons (ps_set (i := 2) sc_law_tape.nd rfl (by first | exact Or.inl rfl | exact Or.inr rfl) (pe_op op_mod (pe_callTy call_int1 (by rfl) T.b_int (by decide +kernel) (pa_cons (pe_op op_add (pe_op op_mul (pv 2) pe_int) (pe_callTy call_int1 (by rfl) T.b_int (by decide +kernel) (pa_cons (pv 3) pa_nil))) pa_nil)) pe_int))
        (pss_one (ps_if (pt_cmpR op_ge (pe_callB call_abs (by rfl) T.b_abs (by decide +kernel) (pa_cons (pe_callTy call_int1 (by rfl) T.b_int (by decide +kernel) (pa_cons (pv 3) pa_nil)) pa_nil)) (pe_op op_pow pe_int pe_int) (nomark _))
          (pss_one (ps_expr (pe_bm PySem.F.plainAttrs_list PySem.F.slot_list_append PySem.F.type_list_append mt_append (pv 1) (pa_cons (pe_callB call_abs (by rfl) T.b_abs (by decide +kernel) (pa_cons (pe_callTy call_int1 (by rfl) T.b_int (by decide +kernel) (pa_cons (pv 3) pa_nil)) pa_nil)) pa_nil))))
          pss_nil))))
    (pss_cons (ps_expr (pe_bm0 PySem.F.plainAttrs_list PySem.F.slot_list_reverse PySem.F.type_list_reverse mt_reverse (pv 1)))
    (pss_one (ps_ret (pe_lst (pa_cons (pv 1) (pa_cons (pv 2) (pa_cons pe_int pa_nil)))))))))), ?_⟩
    refine ⟨Nat.zero_le _, fun g hg => ?_⟩
    have s1 : Same H (upd H g (.lst [])) := same_upd hg
    refine ⟨_, rfl, 63, rfl, a, _, rfl, s1.seq hS, fun p hp => ?_⟩
    have hpg : g ≠ p := ne_of_none upd_same hp
    have hHp : H p = none := s1.free hp
    obtain ⟨ms, em, lm⟩ : ∃ ms : List Int, cutV (ns.map V.int) none (some 63) = ms.map V.int ∧ ms.length ≤ 63 := by
      refine ⟨(ns.drop (HT.sIx (ns.map V.int).length 0 none)).take (HT.sIx (ns.map V.int).length (ns.map V.int).length (some 63) - HT.sIx (ns.map V.int).length 0 none), ?_, ?_⟩
      · unfold cutV
        rw [List.map_take, List.map_drop]
      · rw [List.length_take, List.length_drop]
        omega
    rw [em]
    refine ⟨p, rfl, ⟨_, SqL.of upd_same⟩, for_list (K := K) (a := p) (xs := ms.map V.int) (fun i σ H' => ∃ (gs : List Int) (sd : Int) (v : Option V), σ = [some (.ref a), some (.ref g), some (.int sd), v] ∧ Same H H' ∧ H' g = some (.lst (gs.map V.int)) ∧ H' p = some (.lst (ms.map V.int)) ∧ gs.length ≤ i ∧ 0 ≤ sd ∧ sd < 2147483647)
      ⟨[], _, none, rfl, ?_, ?_, upd_same, Nat.le_refl _, by decide, by decide⟩ (fun i σ H' _ h => ?_) ?_ ?_⟩
    · exact s1.trans (same_upd hp)
    · rw [upd_ne hpg, upd_same]
      rfl
    · obtain ⟨_, _, _, _, _, _, h, _⟩ := h
      exact SqL.of h
    · rintro i x σ H' hi ⟨gs, sd, v, rfl, sm, eg, ep, hl, h0, h1⟩
      obtain ⟨u, rfl⟩ : ∃ u, x = V.int u := by
        rw [List.getElem?_map] at hi
        cases e : ms[i]? with
        | none => rw [e] at hi; cases hi
        | some u => rw [e] at hi; exact ⟨u, (Option.some.inj hi).symm⟩
      have hi63 : i < 63 := by
        have q := (List.getElem?_eq_some_iff.mp hi).1
        rw [List.length_map] at q
        omega
      refine ⟨_, rfl, _, _, rfl, rfl, .inl ⟨by omega, by omega⟩, _, rfl, .inl ⟨_, rfl, _, _, rfl, rfl, .inl ⟨_, rfl, _, _, rfl, rfl, (by show (0 : Int) < 2147483647; decide), ?_⟩⟩⟩
      have b0 := Int.emod_nonneg (sd * 48271 + u) (b := 2147483647) (by decide)
      have b1 := Int.emod_lt_of_pos (sd * 48271 + u) (b := 2147483647) (by decide)
      refine ⟨_, rfl, .inl ⟨_, rfl, _, rfl, _, _, rfl, rfl, ⟨by decide, by decide, by decide⟩, _, _, rfl, rfl, _, rfl, ite2 (fun _ => ?_) (fun _ => ?_)⟩⟩
      · refine ⟨_, rfl, .inl ⟨rfl, _, SqL.of eg⟩, _, rfl, .inl ⟨_, rfl, _, rfl, g, _, _, rfl, rfl, eg, ?_, ?_⟩⟩
        · rw [List.length_map]
          exact szl (by omega)
        · refine ⟨gs ++ [if u < 0 then -u else u], _, _, rfl, same_out sm hg, ?_, ?_, ?_, b0, b1⟩
          · rw [upd_same, List.map_append]
            rfl
          · rw [upd_ne hpg.symm]
            exact ep
          · rw [List.length_append]
            simp only [List.length_cons, List.length_nil]
            omega
      · exact ⟨gs, _, _, rfl, sm, eg, ep, by omega, b0, b1⟩
    · rintro σ H' ⟨gs, sd, v, rfl, sm, eg, ep, hl, h0, h1⟩
      refine ⟨_, rfl, .inl ⟨rfl, _, SqL.of eg⟩, g, _, rfl, rfl, eg, ?_⟩
      refine ⟨_, rfl, _, rfl, szle (by show 3 ≤ 16777216; decide), fun t ht => ?_⟩
      have ht' : H' t = none := by
        by_cases e : t = g
        · rw [e, upd_same] at ht
          cases ht
        · rw [upd_ne e] at ht
          exact ht
      have htg : t ≠ g := fun e => by rw [e, upd_same] at ht; cases ht
      refine q _ t ⟨same_out (same_out sm hg) (sm.free ht'), sm.free ht', g, gs.reverse, sd, 0, hg, htg, upd_same, ?_, ?_, h0, h1, by decide, by decide⟩
      · rw [upd_ne htg.symm, upd_same, List.map_reverse]
      · rw [List.length_reverse]
        rw [List.length_map] at hl
        omega
theorem ok_law_draw {f : Addr} {fd : FuncData} (F : Fun K "_law_draw" "_law_draw" s_law_draw f fd) (T : Txt K mg C_Breaker) : FnOk P w K mg base CX0 1 f fd ["tape", "limit"] spDraw := by
  refine F.ok sc_law_draw (fun vs H Q E h => ?_) (fun cdv A outer s H vs Q E hr h => ?_)
  · obtain ⟨B, t, c, lim, rfl, _⟩ := h
    rfl
  · obtain ⟨B, t, c, lim, rfl, ⟨sm, bt, g, gs, sd, ct, bg, htg, et, eg, hgl, s0, s1, c0, c1⟩, l0, l1, hc, q⟩ := h
    refine ⟨_, (pss_cons (ps_set (i := 2) sc_law_draw.nd rfl (by first | exact Or.inl rfl | exact Or.inr rfl) (pe_ix ix_list (pv 0) pe_int (fun _ _ => rfl)))
    (pss_cons (ps_if (pt_truth (pv 2) (by intro _; rfl))
      (pss_cons (ps_set (i := 3) sc_law_draw.nd rfl (by first | exact Or.inl rfl | exact Or.inr rfl) (pe_bm0 PySem.F.plainAttrs_list PySem.F.slot_list_pop PySem.F.type_list_pop mt_pop (pv 2)))
        (pss_cons (ps_if (pt_cmpR op_ge (pv 3) (pv 1) (nomark _))
          (pss_one (ps_expr (pe_bm PySem.F.plainAttrs_list PySem.F.slot_list_append PySem.F.type_list_append mt_append (pv 2) (pa_cons (pe_op op_fdivN (pv 3) (pv 1)) pa_nil))))
          pss_nil)
        (pss_one (ps_ret (pe_op op_mod (pe_callTy call_int1 (by rfl) T.b_int (by decide +kernel) (pa_cons (pv 3) pa_nil)) (pv 1))))))
      pss_nil)
    (pss_cons (ps_asg (pe_op op_add (pe_ix ix_list (pv 0) pe_int (fun _ _ => rfl)) pe_int) (pg_sub (pv 0) pe_int set_list))
    (pss_cons (ps_set (i := 4) sc_law_draw.nd rfl (by first | exact Or.inl rfl | exact Or.inr rfl) (pe_op op_mod (pe_callTy call_int1 (by rfl) T.b_int (by decide +kernel) (pa_cons (pe_op op_add (pe_op op_mul (pe_callTy call_int1 (by rfl) T.b_int (by decide +kernel) (pa_cons (pe_op op_add (pe_ix ix_list (pv 0) pe_int (fun _ _ => rfl)) (pe_ix ix_list (pv 0) pe_int (fun _ _ => rfl))) pa_nil)) pe_int) (pe_op op_mul (pe_op op_mul (pe_ix ix_list (pv 0) pe_int (fun _ _ => rfl)) (pe_ix ix_list (pv 0) pe_int (fun _ _ => rfl))) pe_int)) pa_nil)) pe_int))
    (pss_one (ps_ret (pe_op op_mod (pe_op op_fdiv (pe_op op_mod (pe_callTy call_int1 (by rfl) T.b_int (by decide +kernel) (pa_cons (pe_op op_add (pe_op op_mul (pv 4) (pv 4)) (pe_op op_mul (pe_ix ix_list (pv 0) pe_int (fun _ _ => rfl)) pe_int)) pa_nil)) pe_int) pe_int) (pv 1)))))))), ?_⟩
    refine ⟨_, rfl, t, _, _, _, rfl, rfl, SqL.of et, atI_nat (j := 0) rfl, ?_⟩
    refine ⟨_, rfl, _, .inl ⟨_, SqL.of eg, rfl⟩, ?_⟩
    cases hgs : gs.reverse with
    | nil =>
      have e0 : gs = [] := by
        have := congrArg List.reverse hgs
        rwa [List.reverse_reverse] at this
      subst e0
      refine iteF ?_
      refine ⟨_, rfl, t, _, _, _, rfl, rfl, SqL.of et, atI_nat (j := 2) rfl, _, _, rfl, rfl, ?_⟩
      refine ⟨_, rfl, t, _, _, _, rfl, rfl, et, rfl, ?_⟩
      have eg' : ∀ o, upd H t o g = some (.lst (([] : List Int).map V.int)) := fun o => by rw [upd_ne htg.symm]; exact eg
      have et2 : (upd H t (.lst [.ref g, .int sd, .int (ct + 1)])) t = some (.lst [.ref g, .int sd, .int (ct + 1)]) := upd_same
      have at1 : atI [V.ref g, V.int sd, V.int (ct + 1)] 1 = some (.int sd) := atI_nat (j := 1) rfl
      have at2 : atI [V.ref g, V.int sd, V.int (ct + 1)] 2 = some (.int (ct + 1)) := atI_nat (j := 2) rfl
      have hb : ct + 1 ≤ 1000000000 := by omega
      have hsq : 0 ≤ (ct + 1) * (ct + 1) ∧ (ct + 1) * (ct + 1) ≤ 1000000000 * 1000000000 := ⟨Int.mul_nonneg (by omega) (by omega), Int.mul_le_mul hb hb (by omega) (by decide)⟩
      refine ⟨_, rfl, t, _, _, _, rfl, rfl, SqL.of et2, at1, _, rfl, t, _, _, _, rfl, rfl, SqL.of et2, at2, _, _, rfl, rfl, .inl ⟨_, rfl, _, _, rfl, rfl, .inl ⟨by omega, by omega⟩, ?_⟩⟩
      refine ⟨_, rfl, t, _, _, _, rfl, rfl, SqL.of et2, at2, _, rfl, t, _, _, _, rfl, rfl, SqL.of et2, at2, _, _, rfl, rfl, .inl ⟨by omega, by omega⟩, ?_⟩
      refine ⟨_, _, rfl, rfl, .inl ⟨by omega, by omega⟩, _, _, rfl, rfl, .inl ⟨_, rfl, _, _, rfl, rfl, (by show (0 : Int) < 2147483629; decide), ?_⟩⟩
      have b0 := Int.emod_nonneg ((sd + (ct + 1)) * 69621 + (ct + 1) * (ct + 1) * 40692) (b := 2147483629) (by decide)
      have b1 := Int.emod_lt_of_pos ((sd + (ct + 1)) * 69621 + (ct + 1) * (ct + 1) * 40692) (b := 2147483629) (by decide)
      refine ⟨_, rfl, _, rfl, _, _, rfl, rfl, .inl ⟨by omega, by omega⟩, _, rfl, t, _, _, _, rfl, rfl, SqL.of et2, at2, _, _, rfl, rfl, .inl ⟨by omega, by omega⟩, _, _, rfl, rfl, .inl ⟨_, rfl, _, _, rfl, rfl, (by show (0 : Int) < 2147483647; decide), _, _, rfl, rfl, ⟨by decide, by decide⟩, _, rfl, _, _, rfl, rfl, l0, ?_⟩⟩
      refine q _ _ ⟨same_out sm bt, bt, g, [], sd, ct + 1, bg, htg, upd_same, eg' _, Nat.zero_le _, s0, s1, by omega, by omega⟩ (Int.emod_nonneg _ (by omega)) (Int.emod_lt_of_pos _ l0)
    | cons n r =>
      have e0 : gs = r.reverse ++ [n] := by
        have := congrArg List.reverse hgs
        rwa [List.reverse_reverse, List.reverse_cons] at this
      subst e0
      have eT : (!((r.reverse ++ [n]).map V.int).isEmpty) = true := by
        rw [List.map_append]
        cases List.map V.int r.reverse <;> rfl
      rw [eT]
      refine iteT ?_
      have lr : r.length ≤ 62 := by
        rw [List.length_append, List.length_reverse] at hgl
        simp only [List.length_cons, List.length_nil] at hgl
        omega
      have eg2 : H g = some (.lst (r.reverse.map V.int ++ [V.int n])) := by
        rw [eg, List.map_append]
        rfl
      have hpop : (r.reverse.map V.int ++ [V.int n])[(r.reverse.map V.int ++ [V.int n]).length - 1]? = some (V.int n) := by
        rw [List.length_append]
        simp
      refine ⟨_, rfl, .inl ⟨rfl, _, SqL.of eg2⟩, g, _, _, rfl, rfl, eg2, hpop, ?_⟩
      rw [List.dropLast_concat]
      have fin : ∀ H' gs', Same B H' → H' t = some (.lst [.ref g, .int sd, .int ct]) → H' g = some (.lst (List.map V.int gs')) → gs'.length ≤ 63 → Q (.int (n % lim)) H' := fun H' gs' a1 a2 a3 a4 =>
        q _ _ ⟨a1, bt, g, gs', sd, ct, bg, htg, a2, a3, a4, s0, s1, c0, by omega⟩ (Int.emod_nonneg _ (by omega)) (Int.emod_lt_of_pos _ l0)
      refine ⟨_, rfl, _, rfl, _, _, rfl, rfl, _, rfl, ite2 (fun _ => ?_) (fun _ => ?_)⟩
      · refine ⟨_, rfl, .inl ⟨rfl, _, SqL.of upd_same⟩, _, rfl, _, rfl, _, _, rfl, rfl, ⟨by omega, by omega⟩, g, _, _, rfl, rfl, upd_same, ?_, ?_⟩
        · rw [List.length_map, List.length_reverse]
          exact szl (by omega)
        · refine ⟨_, rfl, .inl ⟨_, rfl, _, rfl, _, _, rfl, rfl, l0, ?_⟩⟩
          refine fin _ (r.reverse ++ [n.fdiv lim]) (same_out (same_out sm bg) bg) ?_ ?_ ?_
          · rw [upd_ne htg, upd_ne htg]
            exact et
          · rw [upd_same, List.map_append]
            rfl
          · rw [List.length_append, List.length_reverse]
            simp only [List.length_cons, List.length_nil]
            omega
      · refine ⟨_, rfl, .inl ⟨_, rfl, _, rfl, _, _, rfl, rfl, l0, ?_⟩⟩
        refine fin _ r.reverse (same_out sm bg) ?_ upd_same ?_
        · rw [upd_ne htg]
          exact et
        · rw [List.length_reverse]
          omega
end

/-! ### copies of things, and whether two are the same -/
section
variable {P : Program} {w : World} {K : PySem.W.Frag} {mg : Str → Option Value} {base : Heap} {C_Breaker : Addr}
theorem ok_law_same1 {n : Nat} {f : Addr} {fd : FuncData} (F : Fun K "_law_same" "_law_same" s_law_same f fd) (T : Txt K mg C_Breaker) (c_law_same : Cal P w K mg base n "_law_same" (spSame K n)) : FnOk P w K mg base CX0 (n + 1) f fd ["told", "due"] (spSame K (n + 1)) := by
  refine F.ok sc_law_same (fun vs H Q E h => ?_) (fun cdv A outer s H vs Q E hr h => ?_)
  · obtain ⟨x, y, d, rfl, _⟩ := h
    rfl
  · obtain ⟨x, y, d, rfl, ok, hx, hy, q⟩ := h
    refine ⟨_, (pss_cons (ps_if (pt_cmpR op_isN (pv 1) pe_non (nomark _))
      (pss_one (ps_ret (pe_cmpR op_isN (pv 0) pe_non (nomark _))))
      pss_nil)
    (pss_cons (ps_if (pt_cmpR op_isB (pv 1) pe_bl (nomark _))
      (pss_one (ps_ret (pe_cmpR op_isB (pv 0) pe_bl (nomark _))))
      pss_nil)
    (pss_cons (ps_if (pt_cmpR op_isB (pv 1) pe_bl (nomark _))
      (pss_one (ps_ret (pe_cmpR op_isB (pv 0) pe_bl (nomark _))))
      pss_nil)
    (pss_cons (ps_if (pt_val (pe_callB call_isi (by rfl) T.b_isinstance (by decide +kernel) (pa_cons (pv 1) (pa_cons (pe_bltn (v := .ty "str") (by rfl) T.b_str (by decide +kernel) rfl) pa_nil))))
      (pss_one (ps_ret (pe_and (pe_callB call_isi (by rfl) T.b_isinstance (by decide +kernel) (pa_cons (pv 0) (pa_cons (pe_bltn (v := .ty "str") (by rfl) T.b_str (by decide +kernel) rfl) pa_nil))) (pe_one (pe_cmpR op_eq (pv 0) (pv 1) (nomark _))))))
      pss_nil)
    (pss_cons (ps_if (pt_val (pe_callB call_isi (by rfl) T.b_isinstance (by decide +kernel) (pa_cons (pv 1) (pa_cons (pe_bltn (v := .ty "int") (by rfl) T.b_int (by decide +kernel) rfl) pa_nil))))
      (pss_one (ps_ret (pe_and (pe_callB call_isi (by rfl) T.b_isinstance (by decide +kernel) (pa_cons (pv 0) (pa_cons (pe_bltn (v := .ty "int") (by rfl) T.b_int (by decide +kernel) rfl) pa_nil))) (pe_and (pe_not (pe_callB call_isi (by rfl) T.b_isinstance (by decide +kernel) (pa_cons (pv 0) (pa_cons (pe_bltn (v := .ty "bool") (by rfl) T.b_bool (by decide +kernel) rfl) pa_nil)))) (pe_one (pe_cmpR op_eq (pv 0) (pv 1) (nomark _)))))))
      pss_nil)
    (pss_cons (ps_if (PW.pt (pw_and (pt_val (pe_callB call_isi (by rfl) T.b_isinstance (by decide +kernel) (pa_cons (pv 1) (pa_cons (pe_bltn (v := .ty "tuple") (by rfl) T.b_tuple (by decide +kernel) rfl) pa_nil)))) (pw_and1 (pt_not (pt_val (pe_callB call_isi (by rfl) T.b_isinstance (by decide +kernel) (pa_cons (pv 0) (pa_cons (pe_bltn (v := .ty "tuple") (by rfl) T.b_tuple (by decide +kernel) rfl) pa_nil))))))))
      (pss_one (ps_ret pe_bl))
      pss_nil)
    (pss_cons (ps_if (PW.pt (pw_and (pt_val (pe_callB call_isi (by rfl) T.b_isinstance (by decide +kernel) (pa_cons (pv 1) (pa_cons (pe_bltn (v := .ty "list") (by rfl) T.b_list (by decide +kernel) rfl) pa_nil)))) (pw_and1 (pt_not (pt_val (pe_callB call_isi (by rfl) T.b_isinstance (by decide +kernel) (pa_cons (pv 0) (pa_cons (pe_bltn (v := .ty "list") (by rfl) T.b_list (by decide +kernel) rfl) pa_nil))))))))
      (pss_one (ps_ret pe_bl))
      pss_nil)
    (pss_cons (ps_if (pt_cmpR op_ne (pe_callB call_len_seq (by rfl) T.b_len PySem.boot_len (pa_cons (pv 0) pa_nil)) (pe_callB call_len_seq (by rfl) T.b_len PySem.boot_len (pa_cons (pv 1) pa_nil)) (nomark _))
      (pss_one (ps_ret pe_bl))
      pss_nil)
    (pss_cons (ps_for PassesOwn.never rfl (pi_range1 (by rfl) T.b_range (pa_cons (pe_callB call_len_seq (by rfl) T.b_len PySem.boot_len (pa_cons (pv 1) pa_nil)) pa_nil)) (pg_name (i := 2) sc_law_same.nd rfl (by first | exact Or.inl rfl | exact Or.inr rfl))
      (pss_one (ps_if (pt_not (pt_val (pe_c c_law_same hr (by omega) (by rfl) (pa_cons (pe_ix ix_seq (pv 0) (pv 2) (fun _ _ => rfl)) (pa_cons (pe_ix ix_seq (pv 1) (pv 2) (fun _ _ => rfl)) pa_nil)))))
          (pss_one (ps_ret pe_bl))
          pss_nil)))
    (pss_one (ps_ret pe_bl))))))))))), ?_⟩
    have nn : ∀ v e, Dp K H v e → e ≠ .none → decide (v = .non) = false := fun v e h he => by cases h <;> simp_all
    have nb : ∀ v e b, Dp K H v e → e ≠ .bool b → decide (v = .bl b) = false := fun v e b h he => by cases h <;> simp_all
    -- None
    by_cases h0 : d = .none
    · subst h0
      cases hx
      cases hy
      exact ⟨_, rfl, rfl, _, rfl, iteT ⟨_, rfl, rfl, q⟩⟩
    refine ⟨_, rfl, rfl, _, rfl, ?_⟩
    rw [nn y d hy h0]
    refine iteF ?_
    by_cases h1 : d = .bool true
    · subst h1
      cases hx
      cases hy
      exact ⟨_, rfl, _, rfl, _, rfl, iteT ⟨_, rfl, _, rfl, q⟩⟩
    refine ⟨_, rfl, _, rfl, _, rfl, ?_⟩
    rw [nb y d true hy h1]
    refine iteF ?_
    by_cases h2 : d = .bool false
    · subst h2
      cases hx
      cases hy
      exact ⟨_, rfl, _, rfl, _, rfl, iteT ⟨_, rfl, _, rfl, q⟩⟩
    refine ⟨_, rfl, _, rfl, _, rfl, ?_⟩
    rw [nb y d false hy h2]
    refine iteF ?_
    have tx := ty_dp hx
    have ty := ty_dp hy
    cases d with
    | none => exact absurd rfl h0
    | bool b => cases b <;> simp at h1 h2
    | dict kvs => cases hx
    | str z =>
      cases hx
      cases hy
      refine ⟨_, rfl, _, _, _, _, _, rfl, .ty _, .base (.str z), kit_ty (r := true) (by decide), _, rfl, iteT ?_⟩
      refine ⟨_, rfl, _, _, _, _, _, rfl, .ty _, .base (.str z), kit_ty (r := true) (by decide), _, rfl, iteT ?_⟩
      rw [← show decide (V.str z = V.str z) = true by simp] at q
      exact ⟨_, rfl, _, rfl, rfl, q⟩
    | int z =>
      cases hx
      cases hy
      refine ⟨_, rfl, _, _, _, _, _, rfl, .ty _, .base (.int z), kit_ty (r := false) (by decide), _, rfl, iteF ?_⟩
      refine ⟨_, rfl, _, _, _, _, _, rfl, .ty _, .base (.int z), kit_ty (r := true) (by decide), _, rfl, iteT ?_⟩
      refine ⟨_, rfl, _, _, _, _, _, rfl, .ty _, .base (.int z), kit_ty (r := true) (by decide), _, rfl, iteT ?_⟩
      refine ⟨_, rfl, _, _, _, _, _, rfl, .ty _, .base (.int z), kit_ty (r := false) (by decide), _, rfl, _, rfl, iteT ?_⟩
      rw [← show decide (V.int z = V.int z) = true by simp] at q
      exact ⟨_, rfl, _, rfl, rfl, q⟩
    | list ds =>
      cases hx with
      | lst sx ax =>
      cases hy with
      | lst sy ay =>
      rename_i px xs py ys
      obtain ⟨lz, hall⟩ := okD_seq ok
      have lx := DpAll.len ax
      have ly := DpAll.len ay
      have tx := ty_seq sx
      have ty := ty_seq sy
      refine ⟨_, rfl, _, _, _, _, _, rfl, .ty _, ty, kit_ty (r := false) (by decide), _, rfl, iteF ?_⟩
      refine ⟨_, rfl, _, _, _, _, _, rfl, .ty _, ty, kit_ty (r := false) (by decide), _, rfl, iteF ?_⟩
      refine ⟨_, rfl, _, _, _, _, _, rfl, .ty _, ty, kit_ty (r := false) (by decide), _, rfl, iteF (iteF ?_)⟩
      refine ⟨_, rfl, _, _, _, _, _, rfl, .ty _, ty, kit_ty (r := true) (by decide), _, rfl, iteT ⟨_, rfl, _, _, _, _, _, rfl, .ty _, tx, kit_ty (r := true) (by decide), _, rfl, iteF ?_⟩⟩
      refine ⟨_, rfl, px, xs, rfl, .inl sx, _, rfl, py, ys, rfl, .inl sy, rfl, _, rfl, ?_⟩
      rw [show (!decide (V.int (xs.length : Int) = V.int (ys.length : Int))) = false by rw [lx, ly]; simp]
      refine iteF ?_
      refine ⟨_, rfl, py, ys, rfl, .inl sy, ys.length, rfl, by omega, by omega, for_range (n := ys.length) (fun i σ H' => ∃ v, σ = [some (.ref px), some (.ref py), v] ∧ H' = H) ⟨_, rfl, rfl⟩ ?_ ?_⟩
      · rintro i σ H' hi ⟨v, rfl, rfl⟩
        have hd : ds[i]? = some ds[i] := List.getElem?_eq_getElem (by omega)
        obtain ⟨v1, e1, d1⟩ := DpAll.get ax hd
        obtain ⟨v2, e2, d2⟩ := DpAll.get ay hd
        refine ⟨_, rfl, _, rfl, .inl ⟨px, _, _, _, rfl, rfl, sx, at_of (j := i) (by omega) e1, _, rfl, _, rfl, .inl ⟨py, _, _, _, rfl, rfl, sy, at_of (j := i) (by omega) e2, ?_⟩⟩⟩
        exact ⟨_, _, ds[i], rfl, hall _ (List.mem_of_getElem? hd), d1, d2, _, rfl, iteF ⟨_, rfl, rfl⟩⟩
      · rintro σ H' ⟨v, rfl, rfl⟩
        exact q
    | tuple ds =>
      cases hx with
      | tup sx ax =>
      cases hy with
      | tup sy ay =>
      rename_i px xs py ys
      obtain ⟨lz, hall⟩ := okD_seq ok
      have lx := DpAll.len ax
      have ly := DpAll.len ay
      have tx := ty_tup sx
      have ty := ty_tup sy
      refine ⟨_, rfl, _, _, _, _, _, rfl, .ty _, ty, kit_ty (r := false) (by decide), _, rfl, iteF ?_⟩
      refine ⟨_, rfl, _, _, _, _, _, rfl, .ty _, ty, kit_ty (r := false) (by decide), _, rfl, iteF ?_⟩
      refine ⟨_, rfl, _, _, _, _, _, rfl, .ty _, ty, kit_ty (r := true) (by decide), _, rfl, iteT ⟨_, rfl, _, _, _, _, _, rfl, .ty _, tx, kit_ty (r := true) (by decide), _, rfl, iteF ?_⟩⟩
      refine ⟨_, rfl, _, _, _, _, _, rfl, .ty _, ty, kit_ty (r := false) (by decide), _, rfl, iteF (iteF ?_)⟩
      refine ⟨_, rfl, px, xs, rfl, .inr sx, _, rfl, py, ys, rfl, .inr sy, rfl, _, rfl, ?_⟩
      rw [show (!decide (V.int (xs.length : Int) = V.int (ys.length : Int))) = false by rw [lx, ly]; simp]
      refine iteF ?_
      refine ⟨_, rfl, py, ys, rfl, .inr sy, ys.length, rfl, by omega, by omega, for_range (n := ys.length) (fun i σ H' => ∃ v, σ = [some (.ref px), some (.ref py), v] ∧ H' = H) ⟨_, rfl, rfl⟩ ?_ ?_⟩
      · rintro i σ H' hi ⟨v, rfl, rfl⟩
        have hd : ds[i]? = some ds[i] := List.getElem?_eq_getElem (by omega)
        obtain ⟨v1, e1, d1⟩ := DpAll.get ax hd
        obtain ⟨v2, e2, d2⟩ := DpAll.get ay hd
        refine ⟨_, rfl, _, rfl, .inr (.inl ⟨px, _, _, _, rfl, rfl, sx, at_of (j := i) (by omega) e1, _, rfl, _, rfl, .inr (.inl ⟨py, _, _, _, rfl, rfl, sy, at_of (j := i) (by omega) e2, ?_⟩)⟩)⟩
        exact ⟨_, _, ds[i], rfl, hall _ (List.mem_of_getElem? hd), d1, d2, _, rfl, iteF ⟨_, rfl, rfl⟩⟩
      · rintro σ H' ⟨v, rfl, rfl⟩
        exact q
end
section
variable {P : Program} {w : World} {K : PySem.W.Frag} {mg : Str → Option Value} {base : Heap} {C_Breaker : Addr}
theorem ok_law_copy1 {n : Nat} {f : Addr} {fd : FuncData} (F : Fun K "_law_copy" "_law_copy" s_law_copy f fd) (T : Txt K mg C_Breaker) (c_law_copy : Cal P w K mg base n "_law_copy" (spCopy K n)) : FnOk P w K mg base CX0 (n + 1) f fd ["thing"] (spCopy K (n + 1)) := by
  refine F.ok sc_law_copy (fun vs H Q E h => ?_) (fun cdv A outer s H vs Q E hr h => ?_)
  · obtain ⟨x, d, rfl, _⟩ := h
    rfl
  · obtain ⟨x, d, rfl, ok, hx, q⟩ := h
    refine ⟨_, (pss_cons (ps_if (pt_val (pe_callB call_isi (by rfl) T.b_isinstance (by decide +kernel) (pa_cons (pv 0) (pa_cons (pe_bltn (v := .ty "tuple") (by rfl) T.b_tuple (by decide +kernel) rfl) pa_nil))))
      (pss_one (ps_ret (pe_callTy call_tuple_of (by rfl) T.b_tuple (by decide +kernel) (pa_cons (pe_lc (own := [("part", 1)]) rfl sc_law_copy.nd (pi_tup (pv 0)) (blkOk_by (own := [("part", 1)]) (N := ["thing", "part"]) (sc := defScope s_law_copy) (by decide +kernel)) (fun _ _ _ _ _ => (pg_name (i := 1) sc_law_copy.nd rfl (by first | exact Or.inl rfl | exact Or.inr rfl))) (fun _ _ _ _ _ => pts_nil) (fun _ _ _ _ _ => (pe_c c_law_copy hr (by omega) (by rfl) (pa_cons (pv 1) pa_nil)))) pa_nil))))
      pss_nil)
    (pss_cons (ps_if (pt_val (pe_callB call_isi (by rfl) T.b_isinstance (by decide +kernel) (pa_cons (pv 0) (pa_cons (pe_bltn (v := .ty "list") (by rfl) T.b_list (by decide +kernel) rfl) pa_nil))))
      (pss_one (ps_ret (pe_lc (own := [("part", 1)]) rfl sc_law_copy.nd (pi_list (pv 0)) (blkOk_by (own := [("part", 1)]) (N := ["thing", "part"]) (sc := defScope s_law_copy) (by decide +kernel)) (fun _ _ _ _ _ => (pg_name (i := 1) sc_law_copy.nd rfl (by first | exact Or.inl rfl | exact Or.inr rfl))) (fun _ _ _ _ _ => pts_nil) (fun _ _ _ _ _ => (pe_c c_law_copy hr (by omega) (by rfl) (pa_cons (pv 1) pa_nil))))))
      pss_nil)
    (pss_one (ps_ret (pv 0))))), ?_⟩
    have qs : ∀ N, Nw N H H → Dp K N x d → Q x H := fun N h1 h2 => q H x N (fun _ _ e => e) h1 h2
    cases d with
    | none =>
      cases hx
      exact ⟨_, rfl, _, _, _, _, _, rfl, .ty _, .base .non, kit_ty (r := false) (by decide), _, rfl, iteF ⟨_, rfl, _, _, _, _, _, rfl, .ty _, .base .non, kit_ty (r := false) (by decide), _, rfl, iteF ⟨_, rfl, qs _ Nw.nil .non⟩⟩⟩
    | bool b =>
      cases hx
      exact ⟨_, rfl, _, _, _, _, _, rfl, .ty _, .base (.bl b), kit_ty (r := false) (by decide), _, rfl, iteF ⟨_, rfl, _, _, _, _, _, rfl, .ty _, .base (.bl b), kit_ty (r := false) (by decide), _, rfl, iteF ⟨_, rfl, qs _ Nw.nil (.bl b)⟩⟩⟩
    | int b =>
      cases hx
      exact ⟨_, rfl, _, _, _, _, _, rfl, .ty _, .base (.int b), kit_ty (r := false) (by decide), _, rfl, iteF ⟨_, rfl, _, _, _, _, _, rfl, .ty _, .base (.int b), kit_ty (r := false) (by decide), _, rfl, iteF ⟨_, rfl, qs _ Nw.nil (.int b)⟩⟩⟩
    | str b =>
      cases hx
      exact ⟨_, rfl, _, _, _, _, _, rfl, .ty _, .base (.str b), kit_ty (r := false) (by decide), _, rfl, iteF ⟨_, rfl, _, _, _, _, _, rfl, .ty _, .base (.str b), kit_ty (r := false) (by decide), _, rfl, iteF ⟨_, rfl, qs _ Nw.nil (.str b)⟩⟩⟩
    | dict kvs => cases hx
    | tuple ds =>
      cases hx with
      | tup sx ax =>
      rename_i px xs
      obtain ⟨lz, hall⟩ := okD_seq ok
      have lx := DpAll.len ax
      refine ⟨_, rfl, _, _, _, _, _, rfl, .ty _, ty_tup sx, kit_ty (r := true) (by decide), _, rfl, iteT ?_⟩
      refine ⟨_, rfl, px, rfl, ⟨_, sx⟩, fun D hD => lc_tup (K := K) (a := px) (xs := xs) (fun i H' => ∃ zs N, Same H H' ∧ H' D = some (.lst zs) ∧ N D = none ∧ Nw N H H' ∧ DpAll K N zs (ds.take i)) ⟨[], fun _ => none, same_upd hD, upd_same, rfl, ⟨fun _ _ e => (by cases e), fun _ h => absurd rfl h⟩, .nil⟩ ?_ ?_ ?_⟩
      · rintro i H' _ ⟨zs, N, sm, _⟩
        exact sameT sm sx
      · rintro i v H' hi ⟨zs, N, sm, eD, nD, nw, az⟩
        obtain ⟨d, hd, dv⟩ := DpAll.get' ax hi
        have hi' := (List.getElem?_eq_some_iff.mp hd).1
        refine ⟨rfl, iteT (B := ∃ zs N, Same H H' ∧ H' D = some (.lst zs) ∧ N D = none ∧ Nw N H H' ∧ DpAll K N zs (ds.take (i + 1))) ?_⟩
        refine ⟨_, rfl, v, d, rfl, hall _ (List.mem_of_getElem? hd), Dp.mono sm d v dv, fun H2 v2 N2 s2 nw2 d2 => ?_⟩
        have lz' := DpAll.len az
        rw [List.length_take] at lz'
        have e2 := s2 _ _ eD
        have nD2 : N2 D = none := by
          cases e : N2 D with
          | none => rfl
          | some o =>
            have := nw2.new D (by rw [e]; exact fun z => by cases z)
            rw [eD] at this
            cases this
        have nD3 := mrg_none nD nD2
        have nw3 := nw.add nw2 sm s2
        have az3 := DpAll.snoc (Dp.mono (mrg_r (nw.disj nw2)) _ _ d2) (DpAll.mono (mrg_l (M := N2)) _ _ az)
        rw [show ds.take i ++ [d] = ds.take (i + 1) by rw [List.take_succ, hd]; rfl] at az3
        exact ⟨zs, e2, szl (by omega), zs ++ [v2], mrg N N2, same_out (sm.trans s2) hD, upd_same, nD3, nw3.out nD3, az3⟩
      · rintro H' ⟨zs, N, sm, eD, nD, nw, az⟩
        rw [List.take_of_length_le (by omega)] at az
        exact ⟨D, zs, rfl, .inl ⟨SqL.of eD, fun l hl => q _ _ _ (sm.trans (same_upd hl)) (nw.put sm hl) (.tup (SqT.of upd_same) (DpAll.mono (same_upd (nw.same.free hl)) _ _ az))⟩⟩
    | list ds =>
      cases hx with
      | lst sx ax =>
      rename_i px xs
      obtain ⟨lz, hall⟩ := okD_seq ok
      have lx := DpAll.len ax
      refine ⟨_, rfl, _, _, _, _, _, rfl, .ty _, ty_seq sx, kit_ty (r := false) (by decide), _, rfl, iteF ⟨_, rfl, _, _, _, _, _, rfl, .ty _, ty_seq sx, kit_ty (r := true) (by decide), _, rfl, iteT ?_⟩⟩
      refine ⟨_, rfl, px, rfl, ⟨_, sx⟩, fun D hD => lc_list (K := K) (a := px) (xs := xs) (fun i H' => ∃ zs N, Same H H' ∧ H' D = some (.lst zs) ∧ N D = none ∧ Nw N H H' ∧ DpAll K N zs (ds.take i)) ⟨[], fun _ => none, same_upd hD, upd_same, rfl, ⟨fun _ _ e => (by cases e), fun _ h => absurd rfl h⟩, .nil⟩ ?_ ?_ ?_⟩
      · rintro i H' _ ⟨zs, N, sm, _⟩
        exact sm.seq sx
      · rintro i v H' hi ⟨zs, N, sm, eD, nD, nw, az⟩
        obtain ⟨d, hd, dv⟩ := DpAll.get' ax hi
        have hi' := (List.getElem?_eq_some_iff.mp hd).1
        refine ⟨rfl, iteT (B := ∃ zs N, Same H H' ∧ H' D = some (.lst zs) ∧ N D = none ∧ Nw N H H' ∧ DpAll K N zs (ds.take (i + 1))) ?_⟩
        refine ⟨_, rfl, v, d, rfl, hall _ (List.mem_of_getElem? hd), Dp.mono sm d v dv, fun H2 v2 N2 s2 nw2 d2 => ?_⟩
        have lz' := DpAll.len az
        rw [List.length_take] at lz'
        have e2 := s2 _ _ eD
        have nD2 : N2 D = none := by
          cases e : N2 D with
          | none => rfl
          | some o =>
            have := nw2.new D (by rw [e]; exact fun z => by cases z)
            rw [eD] at this
            cases this
        have nD3 := mrg_none nD nD2
        have nw3 := nw.add nw2 sm s2
        have az3 := DpAll.snoc (Dp.mono (mrg_r (nw.disj nw2)) _ _ d2) (DpAll.mono (mrg_l (M := N2)) _ _ az)
        rw [show ds.take i ++ [d] = ds.take (i + 1) by rw [List.take_succ, hd]; rfl] at az3
        exact ⟨zs, e2, szl (by omega), zs ++ [v2], mrg N N2, same_out (sm.trans s2) hD, upd_same, nD3, nw3.out nD3, az3⟩
      · rintro H' ⟨zs, N, sm, eD, nD, nw, az⟩
        rw [List.take_of_length_le (by omega)] at az
        exact q _ _ _ sm (nw.own hD eD) (.lst (SqL.of upd_same) (DpAll.mono (same_upd nD) _ _ az))
end
section
variable {P : Program} {w : World} {K : PySem.W.Frag} {mg : Str → Option Value} {base : Heap} {C_Breaker : Addr}
theorem cal_law_same {f : Addr} {fd : FuncData} (F : Fun K "_law_same" "_law_same" s_law_same f fd) (T : Txt K mg C_Breaker) (hm : mg "_law_same" = some (.ref f)) (kp : PySem.W.keepIn K (.ref f) = true) (b : Binds K fd ["told", "due"] []) : ∀ n, Cal P w K mg base n "_law_same" (spSame K n)
  | 0 => ⟨_, _, _, ⟨fun _ _ _ _ ⟨_, _, _, _, z, _⟩ => (by cases z), fun _ _ _ _ _ _ _ _ _ _ _ _ _ ⟨_, _, _, _, z, _⟩ => (by cases z)⟩, hm, kp, b⟩
  | n + 1 => ⟨_, _, _, ok_law_same1 F T (cal_law_same F T hm kp b n), hm, kp, b⟩
theorem cal_law_copy {f : Addr} {fd : FuncData} (F : Fun K "_law_copy" "_law_copy" s_law_copy f fd) (T : Txt K mg C_Breaker) (hm : mg "_law_copy" = some (.ref f)) (kp : PySem.W.keepIn K (.ref f) = true) (b : Binds K fd ["thing"] []) : ∀ n, Cal P w K mg base n "_law_copy" (spCopy K n)
  | 0 => ⟨_, _, _, ⟨fun _ _ _ _ ⟨_, _, _, z, _⟩ => (by cases z), fun _ _ _ _ _ _ _ _ _ _ _ _ _ ⟨_, _, _, z, _⟩ => (by cases z)⟩, hm, kp, b⟩
  | n + 1 => ⟨_, _, _, ok_law_copy1 F T (cal_law_copy F T hm kp b n), hm, kp, b⟩
end

/-! ### is_integer, is_number, is_sequence -/
section
variable {P : Program} {w : World} {K : PySem.W.Frag} {mg : Str → Option Value} {base : Heap} {C_Breaker : Addr}
theorem ok_is_integer {f : Addr} {fd : FuncData} (F : Fun K "is_integer" "is_integer" s_is_integer f fd) (T : Txt K mg C_Breaker) : FnOk P w K mg base CX0 1 f fd ["value"] (spKind K isIntD) := by
  refine F.ok sc_is_integer (fun vs H Q E h => ?_) (fun cdv A outer s H vs Q E hr h => ?_)
  · obtain ⟨v, d, rfl, _⟩ := h
    rfl
  · obtain ⟨v, d, rfl, hv, q⟩ := h
    refine ⟨_, (pss_one (ps_ret (pe_and (pe_callB call_isi (by rfl) T.b_isinstance (by decide +kernel) (pa_cons (pv 0) (pa_cons (pe_bltn (v := .ty "int") (by rfl) T.b_int (by decide +kernel) rfl) pa_nil))) (pe_one (pe_not (pe_callB call_isi (by rfl) T.b_isinstance (by decide +kernel) (pa_cons (pv 0) (pa_cons (pe_bltn (v := .ty "bool") (by rfl) T.b_bool (by decide +kernel) rfl) pa_nil)))))))), ?_⟩
    cases d with
    | int z =>
      cases hv
      exact ⟨_, rfl, _, _, _, _, _, rfl, .ty _, .base (.int z), kit_ty (r := true) (by decide), _, rfl, iteT ⟨_, rfl, _, _, _, _, _, rfl, .ty _, .base (.int z), kit_ty (r := false) (by decide), _, rfl, q⟩⟩
    | bool b =>
      cases hv
      exact ⟨_, rfl, _, _, _, _, _, rfl, .ty _, .base (.bl b), kit_ty (r := true) (by decide), _, rfl, iteT ⟨_, rfl, _, _, _, _, _, rfl, .ty _, .base (.bl b), kit_ty (r := true) (by decide), _, rfl, q⟩⟩
    | str z => cases hv; exact ⟨_, rfl, _, _, _, _, _, rfl, .ty _, .base (.str z), kit_ty (r := false) (by decide), _, rfl, iteF q⟩
    | none => cases hv; exact ⟨_, rfl, _, _, _, _, _, rfl, .ty _, .base .non, kit_ty (r := false) (by decide), _, rfl, iteF q⟩
    | list ds =>
      cases hv with
      | lst sx _ => exact ⟨_, rfl, _, _, _, _, _, rfl, .ty _, ty_seq sx, kit_ty (r := false) (by decide), _, rfl, iteF q⟩
    | tuple ds =>
      cases hv with
      | tup sx _ => exact ⟨_, rfl, _, _, _, _, _, rfl, .ty _, ty_tup sx, kit_ty (r := false) (by decide), _, rfl, iteF q⟩
    | dict ds => cases hv
theorem ok_is_number {f : Addr} {fd : FuncData} (F : Fun K "is_number" "is_number" s_is_number f fd) (T : Txt K mg C_Breaker) (c_is_integer : Cal P w K mg base 1 "is_integer" (spKind K isIntD)) : FnOk P w K mg base CX0 2 f fd ["value"] (spKind K isNumD) := by
  refine F.ok sc_is_number (fun vs H Q E h => ?_) (fun cdv A outer s H vs Q E hr h => ?_)
  · obtain ⟨v, d, rfl, _⟩ := h
    rfl
  · obtain ⟨v, d, rfl, hv, q⟩ := h
    refine ⟨_, (pss_one (ps_ret (pe_and (pe_c c_is_integer hr (by omega) (by rfl) (pa_cons (pv 0) pa_nil)) (pe_one (pe_cmpR op_ge (pv 0) pe_int (nomark _)))))), ?_⟩
    cases d with
    | int z =>
      cases hv
      exact ⟨_, rfl, _, .int z, rfl, .int z, _, rfl, iteT ⟨_, rfl, _, _, rfl, rfl, q⟩⟩
    | dict ds => cases hv
    | _ => exact ⟨_, rfl, _, _, rfl, hv, _, rfl, iteF q⟩
theorem ok_is_sequence {f : Addr} {fd : FuncData} (F : Fun K "is_sequence" "is_sequence" s_is_sequence f fd) (T : Txt K mg C_Breaker) : FnOk P w K mg base CX0 1 f fd ["value"] (spSeq K) := by
  refine F.ok sc_is_sequence (fun vs H Q E h => ?_) (fun cdv A outer s H vs Q E hr h => ?_)
  · obtain ⟨v, d, rfl, _⟩ := h
    rfl
  · obtain ⟨v, d, rfl, hv, q⟩ := h
    refine ⟨_, (pss_one (ps_ret (pe_callB call_isiT (by rfl) T.b_isinstance (by decide +kernel) (pa_cons (pv 0) (pa_cons (pe_tup (pa_cons (pe_bltn (v := .ty "tuple") (by rfl) T.b_tuple (by decide +kernel) rfl) (pa_cons (pe_bltn (v := .ty "list") (by rfl) T.b_list (by decide +kernel) rfl) pa_nil))) pa_nil))))), ?_⟩
    refine ⟨_, rfl, szle (by show 2 ≤ 16777216; decide), fun tp htp => ?_⟩
    have s1 := same_upd (o := .tup [.ty "tuple", .ty "list"]) htp
    have ty := ty_dp (Dp.mono s1 _ _ hv)
    have kk : ∀ b, PySem.W.kitAny K (.type (tn d)) [.type "tuple", .type "list"] = some b → b = isSeqD d → _ := fun b hb e => (⟨v, tp, [.ty "tuple", .ty "list"], _, [.type "tuple", .type "list"], b, rfl, upd_same, .cons (.ty _) (.cons (.ty _) .nil), ty, hb, by rw [e]; exact q _ s1⟩ : rIsiT K [v, .ref tp] (upd H tp (.tup [.ty "tuple", .ty "list"])) Q)
    have k2 : ∀ r1 r2, kitB (tn d) "tuple" = some r1 → kitB (tn d) "list" = some r2 → PySem.W.kitAny K (.type (tn d)) [.type "tuple", .type "list"] = some (r1 || r2) := fun r1 r2 h1 h2 =>
      kitAny_cons (kit_ty h1) (fun e => by subst e; exact kitAny_cons (kit_ty h2) (fun e => by subst e; rfl) (fun e => by subst e; rfl)) (fun e => by subst e; rfl)
    cases d with
    | none => exact kk _ (k2 false false (by decide) (by decide)) rfl
    | bool b => exact kk _ (k2 false false (by show kitB "bool" _ = _; decide) (by show kitB "bool" _ = _; decide)) rfl
    | int b => exact kk _ (k2 false false (by show kitB "int" _ = _; decide) (by show kitB "int" _ = _; decide)) rfl
    | str b => exact kk _ (k2 false false (by show kitB "str" _ = _; decide) (by show kitB "str" _ = _; decide)) rfl
    | list b => exact kk _ (k2 false true (by show kitB "list" _ = _; decide) (by show kitB "list" _ = _; decide)) rfl
    | tuple b => exact kk _ (k2 true false (by show kitB "tuple" _ = _; decide) (by show kitB "tuple" _ = _; decide)) rfl
    | dict b => cases hv
end

section
variable {P : Program} {w : World} {K : PySem.W.Frag} {mg : Str → Option Value} {base : Heap} {C_Breaker : Addr}
theorem ok_are_numbers {f : Addr} {fd : FuncData} (F : Fun K "are_numbers" "are_numbers" s_are_numbers f fd) (T : Txt K mg C_Breaker) (c_is_sequence : Cal P w K mg base 1 "is_sequence" (spSeq K)) (c_is_number : Cal P w K mg base 2 "is_number" (spKind K isNumD)) : FnOk P w K mg base CX0 3 f fd ["value"] (spRow K) := by
  refine F.ok sc_are_numbers (fun vs H Q E h => ?_) (fun cdv A outer s H vs Q E hr h => ?_)
  · obtain ⟨v, d, n, rfl, _⟩ := h
    rfl
  · obtain ⟨v, d, n, rfl, hv, hok, q⟩ := h
    refine ⟨_, (pss_one (ps_ret (pe_and (pe_c c_is_sequence hr (by omega) (by rfl) (pa_cons (pv 0) pa_nil)) (pe_one (pe_callB (cr_all rfl) (by rfl) T.b_all (by decide +kernel) (pa_cons (pe_lc (own := [("part", 1)]) rfl sc_are_numbers.nd (pi_seqA (pv 0)) (blkOk_by (own := [("part", 1)]) (N := ["value", "part"]) (sc := defScope s_are_numbers) (by decide +kernel)) (fun _ _ _ _ _ => (pg_name (i := 1) sc_are_numbers.nd rfl (by first | exact Or.inl rfl | exact Or.inr rfl))) (fun _ _ _ _ _ => pts_nil) (fun _ _ _ _ _ => (pe_c c_is_number hr (by omega) (by rfl) (pa_cons (pv 1) pa_nil)))) pa_nil)))))), ?_⟩
    refine ⟨_, rfl, v, d, rfl, hv, fun H1 s1 => ⟨_, rfl, ?_⟩⟩
    cases d with
    | none => exact iteF (q _ s1)
    | bool b => exact iteF (q _ s1)
    | int b => exact iteF (q _ s1)
    | str b => exact iteF (q _ s1)
    | dict b => cases hv
    | list ds =>
      cases hv with
      | lst sx ax =>
      rename_i a xs
      cases n with
      | zero => cases hok
      | succ n =>
      obtain ⟨lz, _⟩ := okD_seq hok
      have lx := DpAll.len ax
      refine iteT ?_
      refine ⟨_, rfl, a, xs, rfl, .inl ⟨s1.seq sx, fun D hD => lc_list (K := K) (a := a) (xs := xs) (fun i H' => Same H1 H' ∧ H' D = some (.lst (((ds.take i).map isNumD).map V.bl))) ⟨same_upd hD, upd_same⟩ ?_ ?_ ?_⟩⟩
      · rintro i H' _ ⟨sm, _⟩
        exact (s1.trans sm).seq sx
      · rintro i x H' hi ⟨sm, eD⟩
        obtain ⟨e, he, dx⟩ := DpAll.get' ax hi
        have hi' := (List.getElem?_eq_some_iff.mp he).1
        refine ⟨rfl, iteT (B := Same H1 H' ∧ H' D = some (.lst (((ds.take (i + 1)).map isNumD).map V.bl))) ?_⟩
        refine ⟨_, rfl, x, e, rfl, Dp.mono (s1.trans sm) _ _ dx, _, eD, szl (by rw [List.length_map, List.length_map, List.length_take]; omega), same_out sm hD, ?_⟩
        rw [upd_same, List.take_succ, he, List.map_append, List.map_append]
        rfl
      · rintro H' ⟨sm, eD⟩
        rw [List.take_of_length_le (by omega)] at eD
        refine ⟨D, ds.map isNumD, rfl, SqL.of eD, ?_⟩
        rw [List.all_map]
        exact q H' (s1.trans sm)
    | tuple ds =>
      cases hv with
      | tup sx ax =>
      rename_i a xs
      cases n with
      | zero => cases hok
      | succ n =>
      obtain ⟨lz, _⟩ := okD_seq hok
      have lx := DpAll.len ax
      refine iteT ?_
      refine ⟨_, rfl, a, xs, rfl, .inr ⟨sameT s1 sx, fun D hD => lc_tup (K := K) (a := a) (xs := xs) (fun i H' => Same H1 H' ∧ H' D = some (.lst (((ds.take i).map isNumD).map V.bl))) ⟨same_upd hD, upd_same⟩ ?_ ?_ ?_⟩⟩
      · rintro i H' _ ⟨sm, _⟩
        exact sameT (s1.trans sm) sx
      · rintro i x H' hi ⟨sm, eD⟩
        obtain ⟨e, he, dx⟩ := DpAll.get' ax hi
        have hi' := (List.getElem?_eq_some_iff.mp he).1
        refine ⟨rfl, iteT (B := Same H1 H' ∧ H' D = some (.lst (((ds.take (i + 1)).map isNumD).map V.bl))) ?_⟩
        refine ⟨_, rfl, x, e, rfl, Dp.mono (s1.trans sm) _ _ dx, _, eD, szl (by rw [List.length_map, List.length_map, List.length_take]; omega), same_out sm hD, ?_⟩
        rw [upd_same, List.take_succ, he, List.map_append, List.map_append]
        rfl
      · rintro H' ⟨sm, eD⟩
        rw [List.take_of_length_le (by omega)] at eD
        refine ⟨D, ds.map isNumD, rfl, SqL.of eD, ?_⟩
        rw [List.all_map]
        exact q H' (s1.trans sm)
end

/-! ### refused unless a row of numbers -/
def spCheckB (K : PySem.W.Frag) (CB : Addr) : Sp := fun vs H Q E => ∃ v d n, vs = [v] ∧ Dp K H v d ∧ okD n d = true ∧ ((rowD d = true ∧ ∀ H', Same H H' → Q .non H') ∨ (rowD d = false ∧ ∀ H' dd, Same H H' → H' dd = some (.xd [("budgets", v)]) → E (.ref CB) (some dd) H'))
section
variable {P : Program} {w : World} {K : PySem.W.Frag} {mg : Str → Option Value} {base : Heap} {C_Breaker : Addr} {C_InvalidBudgets : Addr}
theorem ok_check_budgets {f : Addr} {fd : FuncData} (F : Fun K "check_budgets" "check_budgets" s_check_budgets f fd) (T : Txt K mg C_Breaker) (x_InvalidBudgets : XErr P K mg "InvalidBudgets" C_InvalidBudgets ["budgets"]) (c_are_numbers : Cal P w K mg base 3 "are_numbers" (spRow K)) : FnOk P w K mg base (L2N.CX P w) 4 f fd ["budgets"] (spCheckB K C_InvalidBudgets) := by
  refine Fun_okN F sc_check_budgets (fun vs H Q E h => ?_) (fun cdv A outer s H vs Q E hr h => ?_)
  · obtain ⟨v, d, n, rfl, _⟩ := h
    rfl
  · obtain ⟨v, d, n, rfl, hv, hok, q⟩ := h
    refine ⟨_, (pss_one (ps_if (pt_not (pt_val (pe_c c_are_numbers hr (by omega) (by rfl) (pa_cons (pv 0) pa_nil))))
      (pss_one (ps_raiseX rfl x_InvalidBudgets hr (L2N.takes_of rfl rfl rfl rfl) (pa_cons (pv 0) pa_nil)))
      pss_nil)), ?_⟩
    refine ⟨_, rfl, v, d, n, rfl, hv, hok, fun H1 s1 => ⟨_, rfl, ?_⟩⟩
    rcases q with ⟨hr, q⟩ | ⟨hr, q⟩
    · rw [hr]
      exact iteF (q _ s1)
    · rw [hr]
      exact iteT ⟨_, rfl, rfl, fun dd hd => q _ dd (s1.trans (same_upd hd)) upd_same⟩
end

def spCanKeep (K : PySem.W.Frag) (CB : Addr) : Sp := fun vs H Q E => ∃ v d n, vs = [v] ∧ Dp K H v d ∧ okD n d = true ∧ (rowD d = true → (lensD d).length ≤ 100000 ∧ ∀ n ∈ lensD d, n ≤ 40) ∧ ((rowD d = true ∧ ∀ H', Same H H' → Q (.bl (decide (kr (lensD d) < 2 * 2 ^ 40))) H') ∨ (rowD d = false ∧ ∀ H' dd, Same H H' → H' dd = some (.xd [("budgets", v)]) → E (.ref CB) (some dd) H'))
section
variable {P : Program} {w : World} {K : PySem.W.Frag} {mg : Str → Option Value} {base : Heap} {C_Breaker : Addr} {C_InvalidBudgets : Addr}
theorem ok_can_keep {f : Addr} {fd : FuncData} (F : Fun K "can_keep" "can_keep" s_can_keep f fd) (T : Txt K mg C_Breaker) (c_check_budgets : CalX P w K mg base 4 "check_budgets" (spCheckB K C_InvalidBudgets)) : FnOk P w K mg base (L2N.CX P w) 5 f fd ["budgets"] (spCanKeep K C_InvalidBudgets) := by
  refine Fun_okN F sc_can_keep (fun vs H Q E h => ?_) (fun cdv A outer s H vs Q E hr h => ?_)
  · obtain ⟨v, d, n, rfl, _⟩ := h
    rfl
  · obtain ⟨v, d, n, rfl, hv, hok, hlen, q⟩ := h
    refine ⟨_, (pss_cons (ps_expr (pe_xS c_check_budgets hr (by omega) (by rfl) (L2N.takes_of rfl rfl rfl rfl) (pa_cons (pv 0) pa_nil)))
    (pss_cons (ps_set (i := 1) sc_can_keep.nd rfl (by first | exact Or.inl rfl | exact Or.inr rfl) pe_int)
    (pss_cons (ps_set (i := 2) sc_can_keep.nd rfl (by first | exact Or.inl rfl | exact Or.inr rfl) pe_int)
    (pss_cons (ps_for (passes_of rfl) rfl (pi_enum (by rfl) T.b_enumerate (pa_cons (pe_callB cr_sortedLT (by rfl) T.b_sorted (by decide +kernel) (pa_cons (pv 0) pa_nil)) pa_nil)) (pg_tup rfl (pgs_cons (pg_name (i := 3) sc_can_keep.nd rfl (by first | exact Or.inl rfl | exact Or.inr rfl)) (pgs_cons (pg_name (i := 4) sc_can_keep.nd rfl (by first | exact Or.inl rfl | exact Or.inr rfl)) pgs_nil)))
      (pss_cons (ps_set (i := 5) sc_can_keep.nd rfl (by first | exact Or.inl rfl | exact Or.inr rfl) (pe_op op_sub (pe_callB call_len_seq (by rfl) T.b_len PySem.boot_len (pa_cons (pv 0) pa_nil)) (pv 3)))
        (pss_cons (ps_set (i := 6) sc_can_keep.nd rfl (by first | exact Or.inl rfl | exact Or.inr rfl) (pe_op op_sub (pv 4) (pv 2)))
        (pss_cons (ps_if (pt_cmpR op_ge (pv 6) (pe_bits (pv 5)) (nomark _))
          (pss_one (ps_ret pe_bl))
          pss_nil)
        (pss_cons (ps_set (i := 1) sc_can_keep.nd rfl (by first | exact Or.inl rfl | exact Or.inr rfl) (pe_op op_sub (pe_op op_shlW (pv 1) (pv 6)) pe_int))
        (pss_cons (ps_set (i := 2) sc_can_keep.nd rfl (by first | exact Or.inl rfl | exact Or.inr rfl) (pv 4))
        (pss_one (ps_if (pt_cmpR op_eq (pv 1) pe_int (nomark _))
          (pss_one (ps_ret pe_bl))
          pss_nil))))))))
    (pss_one (ps_ret pe_bl)))))), ?_⟩
    rcases q with ⟨hr, q⟩ | ⟨hr, q⟩
    · refine ⟨_, rfl, v, d, n, rfl, hv, hok, .inl ⟨hr, fun H1 s1 => ?_⟩⟩
      obtain ⟨a, rfl, hS, _⟩ := row_at hv hok hr
      obtain ⟨h5, h40⟩ := hlen hr
      obtain ⟨ls, el⟩ : ∃ ls, lensD d = ls := ⟨_, rfl⟩
      rw [el] at hS h5 h40 q
      have em : (ls.map fun n : Nat => (n : Int)).map V.int = ls.map nI := by rw [List.map_map]; rfl
      have hS1 : SqL K H1 a (ls.map nI) ∨ SqT K H1 a (ls.map nI) := hS.imp (fun z => s1.seq z) fun z => sameT s1 z
      refine ⟨_, rfl, a, ls.map fun n : Nat => (n : Int), rfl, by rw [em]; exact hS1, fun ns p hp hpw hn => ?_⟩
      obtain ⟨ss, rfl⟩ : ∃ ss : List Nat, ns = ss.map fun n : Nat => (n : Int) := by
        refine ⟨ns.map Int.toNat, ?_⟩
        rw [List.map_map]
        refine (List.map_id' ns).symm.trans (List.map_congr_left fun z hz => ?_)
        obtain ⟨k, _, rfl⟩ := List.mem_map.mp (hp.mem_iff.mp hz)
        simp
      have hperm : ss.Perm ls := by
        have := hp.map Int.toNat
        rw [List.map_map, List.map_map, show (Int.toNat ∘ fun n : Nat => (n : Int)) = id from funext fun n => Int.toNat_natCast n, List.map_id, List.map_id] at this
        exact this
      have hsort : ss.Pairwise (· ≤ ·) := by
        rw [List.pairwise_map] at hpw
        exact hpw.imp fun z => by omega
      have hkr : kr ls = kr ss := (kr_perm hperm).symm
      have hlen2 : ss.length = ls.length := hperm.length_eq
      have s40 : ∀ n ∈ ss, n ≤ 40 := fun n hn => h40 n (hperm.mem_iff.mp hn)
      have s2 : Same H1 (upd H1 p (.lst ((ss.map fun n : Nat => (n : Int)).map V.int))) := same_upd hn
      have eP : upd H1 p (.lst ((ss.map fun n : Nat => (n : Int)).map V.int)) p = some (.lst (ss.map nI)) := by
        rw [upd_same, List.map_map]
        rfl
      obtain ⟨H2, e2⟩ : ∃ H2, upd H1 p (.lst ((ss.map fun n : Nat => (n : Int)).map V.int)) = H2 := ⟨_, rfl⟩
      rw [e2] at s2 eP ⊢
      rw [hkr] at q
      have fin : ∀ H', Same H2 H' → Q (.bl (decide (kr ss < 2 * 2 ^ 40))) H' := fun H' s3 => q H' ((s1.trans s2).trans s3)
      refine ⟨p, _, rfl, SqL.of eP, for_enumL (xs := ss.map nI) (fun i σ H' => ∃ (v3 v4 v5 v6 : Option V) (room depth : Nat) (x y : Int), σ = [some (.ref a), some (.int x), some (.int y), v3, v4, v5, v6] ∧ Same H2 H' ∧ x = (room : Int) ∧ y = (depth : Int) ∧ Rk (2 * 2 ^ 40) ss i room depth)
        ⟨_, _, _, _, 2, 0, 2, 0, rfl, fun _ _ e => e, rfl, rfl, Rk.ini ss (by decide)⟩ (fun i σ H' _ h => ?_) ?_ ?_⟩
      · obtain ⟨_, _, _, _, _, _, _, _, _, s3, _⟩ := h
        exact SqL.of (s3 _ _ eP)
      · rintro i x σ H' hi ⟨v3, v4, v5, v6, room, depth, x1, y1, rfl, s3, rfl, rfl, R⟩ TT hT
        obtain ⟨l, hl, rfl⟩ : ∃ l, ss[i]? = some l ∧ nI l = x := by
          rw [List.getElem?_map] at hi
          cases e : ss[i]? with
          | none => rw [e] at hi; cases hi
          | some n => rw [e] at hi; exact ⟨n, rfl, Option.some.inj hi⟩
        have hil := (List.getElem?_eq_some_iff.mp hl).1
        have hl40 := s40 l (List.mem_of_getElem? hl)
        have hd := R.le hsort hl
        have s4 : Same H2 (upd H' TT (.tup [.int (i : Nat), nI l])) := s3.trans (same_upd hT)
        have hS4 := hS1.imp (fun z => (s2.trans s4).seq z) fun z => sameT (s2.trans s4) z
        obtain ⟨H4, e4⟩ : ∃ H4, upd H' TT (.tup [.int (i : Nat), nI l]) = H4 := ⟨_, rfl⟩
        have eT : H4 TT = some (.tup [.int (i : Nat), nI l]) := by rw [← e4]; exact upd_same
        rw [e4] at s4 hS4 ⊢
        refine ⟨TT, _, rfl, SqT.of eT, rfl, _, _, rfl, _, _, rfl, rfl, ?_⟩
        -- left, down
        have hll : i < ls.length := by omega
        refine ⟨_, rfl, a, _, rfl, hS4, _, rfl, _, _, rfl, rfl, ?_⟩
        refine ⟨_, rfl, _, rfl, _, _, rfl, rfl, ?_⟩
        refine ⟨_, rfl, _, rfl, _, rfl, _, _, rfl, rfl, _, rfl, ?_⟩
        have e1 : (((ls.map nI).length : Nat) : Int) - (i : Int) = ((ls.length - i : Nat) : Int) := by rw [List.length_map]; omega
        have e2 : (l : Int) - (depth : Int) = ((l - depth : Nat) : Int) := by omega
        refine ite2 (fun hb => ?_) (fun hb => ?_)
        · have hb1 : ((Builtin.Int.intBits ((((ls.map nI).length : Nat) : Int) - (i : Int)) : Nat) : Int) ≤ (l : Int) - (depth : Int) := of_decide_eq_true hb
          rw [e1, e2] at hb1
          have lt := R.enough hsort hl hl40 (by rw [hlen2]; exact bits_up (by omega))
          have := fin _ s4
          rw [decide_eq_true lt] at this
          exact this
        · have hb1 : ¬ ((Builtin.Int.intBits ((((ls.map nI).length : Nat) : Int) - (i : Int)) : Nat) : Int) ≤ (l : Int) - (depth : Int) := fun z => hb (decide_eq_true z)
          have hbs := bits_dn (n := room) (m := 42) (by have := R.small; omega)
          have cs : CShl (room : Int) ((l : Int) - (depth : Int)) := ⟨by omega, by omega⟩
          obtain ⟨n1, n2, n3⟩ := R.nxt hsort hl hl40
          have er : (room : Int) * 2 ^ ((l : Int) - (depth : Int)).toNat - 1 = ((room * 2 ^ (l - depth) - 1 : Nat) : Int) := by
            rw [e2, Int.toNat_natCast, Int.natCast_sub n1, Int.natCast_mul, Int.natCast_pow]
            rfl
          refine ⟨_, rfl, _, rfl, _, _, rfl, rfl, cs, _, _, rfl, rfl, ?_⟩
          refine ⟨_, rfl, ?_⟩
          refine ⟨_, rfl, rfl, _, rfl, ?_⟩
          refine ite2 (fun hz => ?_) (fun hz => ?_)
          · have hz1 : (room : Int) * 2 ^ ((l : Int) - (depth : Int)).toNat - 1 = 0 := V.int.inj (of_decide_eq_true hz)
            have := fin _ s4
            rw [decide_eq_false (by have := n2 (by omega); omega)] at this
            exact this
          · have hz1 : (room : Int) * 2 ^ ((l : Int) - (depth : Int)).toNat - 1 ≠ 0 := fun z => hz (decide_eq_true (congrArg V.int z))
            exact ⟨_, _, _, _, room * 2 ^ (l - depth) - 1, l, _, _, rfl, s4, er, rfl, n3 (by omega)⟩
      · rintro σ H' ⟨v3, v4, v5, v6, room, depth, x1, y1, rfl, s3, rfl, rfl, R⟩
        rw [List.length_map] at R
        have := fin H' s3
        rw [decide_eq_true R.fin] at this
        exact this
    · exact ⟨_, rfl, v, d, n, rfl, hv, hok, .inr ⟨hr, fun H1 dd s1 hd => q H1 dd s1 hd⟩⟩
end

/-! ### bits -/
def isBitD : PyData → Bool
  | .int i => decide (0 ≤ i) && decide (i ≤ 1)
  | _ => false
def spCheckBit (K : PySem.W.Frag) (CN : Addr) : Sp := fun vs H Q E => ∃ v d, vs = [v] ∧ Dp K H v d ∧ ((isBitD d = true ∧ Q .non H) ∨ (isBitD d = false ∧ ∀ H' dd, Same H H' → H' dd = some (.xd [("number", v)]) → E (.ref CN) (some dd) H'))
section
variable {P : Program} {w : World} {K : PySem.W.Frag} {mg : Str → Option Value} {base : Heap} {C_Breaker : Addr} {C_InvalidNumber : Addr}
theorem ok_is_bit {f : Addr} {fd : FuncData} (F : Fun K "is_bit" "is_bit" s_is_bit f fd) (T : Txt K mg C_Breaker) (c_is_integer : Cal P w K mg base 1 "is_integer" (spKind K isIntD)) : FnOk P w K mg base CX0 2 f fd ["value"] (spKind K isBitD) := by
  refine F.ok sc_is_bit (fun vs H Q E h => ?_) (fun cdv A outer s H vs Q E hr h => ?_)
  · obtain ⟨v, d, rfl, _⟩ := h
    rfl
  · obtain ⟨v, d, rfl, hv, q⟩ := h
    refine ⟨_, (pss_one (ps_ret (pe_and (pe_c c_is_integer hr (by omega) (by rfl) (pa_cons (pv 0) pa_nil)) (pe_one (pe_chain op_le op_le pe_int (pv 0) pe_int))))), ?_⟩
    cases d with
    | int z =>
      cases hv
      refine ⟨_, rfl, _, .int z, rfl, .int z, _, rfl, iteT ⟨_, rfl, _, _, rfl, rfl, _, rfl, ite2 (fun h => ?_) (fun h => ?_)⟩⟩
      · have h' : decide (0 ≤ z) = true := h
        refine ⟨_, _, rfl, rfl, ?_⟩
        have e : isBitD (.int z) = decide (z ≤ 1) := by show (decide (0 ≤ z) && decide (z ≤ 1)) = _; rw [h', Bool.true_and]
        rw [e] at q
        exact q
      · have h' : decide (0 ≤ z) = false := Bool.eq_false_iff.mpr h
        have e : isBitD (.int z) = false := by show (decide (0 ≤ z) && decide (z ≤ 1)) = _; rw [h', Bool.false_and]
        rw [e] at q
        exact q
    | dict ds => cases hv
    | _ => exact ⟨_, rfl, _, _, rfl, hv, _, rfl, iteF q⟩
theorem ok_check_bit {f : Addr} {fd : FuncData} (F : Fun K "check_bit" "check_bit" s_check_bit f fd) (T : Txt K mg C_Breaker) (x_InvalidNumber : XErr P K mg "InvalidNumber" C_InvalidNumber ["number"]) (c_is_bit : Cal P w K mg base 2 "is_bit" (spKind K isBitD)) : FnOk P w K mg base (L2N.CX P w) 3 f fd ["bit"] (spCheckBit K C_InvalidNumber) := by
  refine Fun_okN F sc_check_bit (fun vs H Q E h => ?_) (fun cdv A outer s H vs Q E hr h => ?_)
  · obtain ⟨v, d, rfl, _⟩ := h
    rfl
  · obtain ⟨v, d, rfl, hv, q⟩ := h
    refine ⟨_, (pss_one (ps_if (pt_not (pt_val (pe_c c_is_bit hr (by omega) (by rfl) (pa_cons (pv 0) pa_nil))))
      (pss_one (ps_raiseX rfl x_InvalidNumber hr (L2N.takes_of rfl rfl rfl rfl) (pa_cons (pv 0) pa_nil)))
      pss_nil)), ?_⟩
    refine ⟨_, rfl, v, d, rfl, hv, _, rfl, ?_⟩
    rcases q with ⟨hr, q⟩ | ⟨hr, q⟩
    · rw [hr]
      exact iteF q
    · rw [hr]
      exact iteT ⟨_, rfl, rfl, fun dd hd => q _ dd (same_upd hd) upd_same⟩
end

/-! ### breakers: pairs of a budget and a program -/
/-- a list of pairs -/
def Prs (H : Hp) (ys : List V) (ks : List (Int × Int)) : Prop := ys.length = ks.length ∧ ∀ (i : Nat) (y : V), ys[i]? = some y → ∃ (t : Addr) (p : Int × Int), y = .ref t ∧ ks[i]? = some p ∧ H t = some (.tup [.int p.1, .int p.2])
theorem Prs.mono {H H' : Hp} {ys : List V} {ks : List (Int × Int)} (h : Prs H ys ks) (s : Same H H') : Prs H' ys ks := ⟨h.1, fun i y hi => by
  obtain ⟨t, p, e1, e2, e3⟩ := h.2 i y hi
  exact ⟨t, p, e1, e2, s _ _ e3⟩⟩
theorem Prs.nil {H : Hp} : Prs H [] [] := ⟨rfl, fun i y h => by cases h⟩
theorem Prs.snoc {H : Hp} {ys : List V} {ks : List (Int × Int)} (h : Prs H ys ks) {t : Addr} {p : Int × Int} (ht : H t = some (.tup [.int p.1, .int p.2])) : Prs H (ys ++ [.ref t]) (ks ++ [p]) := by
  refine ⟨by simp [h.1], fun i y hi => ?_⟩
  by_cases hlt : i < ys.length
  · rw [List.getElem?_append_left hlt] at hi
    obtain ⟨t2, p2, e1, e2, e3⟩ := h.2 i y hi
    exact ⟨t2, p2, e1, by rw [List.getElem?_append_left (by rw [← h.1]; exact hlt)]; exact e2, e3⟩
  · have hj2 := (List.getElem?_eq_some_iff.mp hi).1
    have e : i = ys.length := by simp at hj2; omega
    subst e
    rw [List.getElem?_append_right (Nat.le_refl _), Nat.sub_self] at hi
    cases Option.some.inj hi
    refine ⟨t, p, rfl, ?_, ht⟩
    rw [h.1, List.getElem?_append_right (Nat.le_refl _), Nat.sub_self]
    rfl
theorem Prs.off {H : Hp} {ys xs : List V} {ks : List (Int × Int)} {D : Addr} {o : HO} (h : Prs H ys ks) (hD : H D = some (.lst xs)) : Prs (upd H D o) ys ks := ⟨h.1, fun i y hi => by
  obtain ⟨t, p, e1, e2, e3⟩ := h.2 i y hi
  exact ⟨t, p, e1, e2, by rw [upd_ne (fun e => by rw [e, hD] at e3; cases e3)]; exact e3⟩⟩
def spInOrd (K : PySem.W.Frag) : Sp := fun vs H Q _ => ∃ (a : Addr) (ls : List Nat), vs = [.ref a] ∧ (SqL K H a (ls.map nI) ∨ SqT K H a (ls.map nI)) ∧ ls.length ≤ 100000 ∧ ∀ H' po ys ks, Same H H' → H po = none → H' po = some (.lst ys) → Prs H' ys ks → IsOrd ls ks → Q (.ref po) H'
def spLess (K : PySem.W.Frag) : Sp := fun vs H Q _ => ∃ (a : Addr) (ys : List V) (ks : List (Int × Int)), vs = [.ref a] ∧ SqL K H a ys ∧ Prs H ys ks ∧ ks.length ≤ 100000 ∧ ∀ H' po ys', Same H H' → H po = none → H' po = some (.lst ys') → Prs H' ys' (ks.map fun p => (p.1 - 1, p.2)) → Q (.ref po) H'
def Brk (ks : List (Int × Int)) (v : V) : Prop := ((∀ p ∈ ks, p.1 ≠ 0) ∧ v = .non) ∨ ∃ m : Int, v = .int m ∧ (∃ p ∈ ks, p.1 = 0 ∧ p.2 = m) ∧ ∀ p ∈ ks, p.1 = 0 → m ≤ p.2
def spBrk (K : PySem.W.Frag) : Sp := fun vs H Q _ => ∃ (a : Addr) (ys : List V) (ks : List (Int × Int)), vs = [.ref a] ∧ SqL K H a ys ∧ Prs H ys ks ∧ ks.length ≤ 100000 ∧ ∀ H' v, Same H H' → Brk ks v → Q v H'
def spSides (K : PySem.W.Frag) : Sp := fun vs H Q _ => ∃ (a : Addr) (ys : List V) (ks : List (Int × Int)) (ls : List Nat), vs = [.ref a] ∧ SqL K H a ys ∧ Prs H ys ks ∧ ks.length ≤ 100000 ∧ ls.length = ks.length ∧ (∀ (i : Nat) (p : Int × Int), ks[i]? = some p → ∃ l : Nat, ls[i]? = some l ∧ p.1 = l) ∧ ls.Pairwise (· ≤ ·) ∧ (∀ l ∈ ls, l ≤ 40) ∧ 2 ^ 40 ≤ kr ls ∧
  ∀ H' p pa pb m, Same H H' → m ≤ ls.length → kr (ls.take m) = 2 ^ 40 → H' p = some (.tup [.ref pa, .ref pb]) → H' pa = some (.lst (ys.take m)) → H' pb = some (.lst (ys.drop m)) → Q (.ref p) H'
def spBreakable (K : PySem.W.Frag) (CB : Addr) : Sp := fun vs H Q E => ∃ v d n, vs = [v] ∧ Dp K H v d ∧ okD n d = true ∧ (rowD d = true → (lensD d).length ≤ 100000 ∧ ∀ n ∈ lensD d, n ≤ 40) ∧ (((rowD d && !decide (kr (lensD d) < 2 * 2 ^ 40)) = true ∧ ∀ H', Same H H' → Q .non H') ∨ ((rowD d && !decide (kr (lensD d) < 2 * 2 ^ 40)) = false ∧ ∀ H' dd, Same H H' → H' dd = some (.xd [("budgets", v)]) → E (.ref CB) (some dd) H'))
section
variable {P : Program} {w : World} {K : PySem.W.Frag} {mg : Str → Option Value} {base : Heap} {C_Breaker : Addr} {C_InvalidBudgets : Addr}
theorem ok_in_order {f : Addr} {fd : FuncData} (F : Fun K "_in_order" "_in_order" s_in_order f fd) (T : Txt K mg C_Breaker) : FnOk P w K mg base CX0 1 f fd ["budgets"] (spInOrd K) := by
  refine F.ok sc_in_order (fun vs H Q E h => ?_) (fun cdv A outer s H vs Q E hr h => ?_)
  · obtain ⟨a, ls, rfl, _⟩ := h
    rfl
  · obtain ⟨a, ls, rfl, hS, hl5, q⟩ := h
    refine ⟨_, (pss_one (ps_ret (pe_callB cr_sortedPO (by rfl) T.b_sorted (by decide +kernel) (pa_cons (pe_lc (own := [("program", 1), ("budget", 2)]) rfl sc_in_order.nd (pi_enumJ (by rfl) T.b_enumerate (pa_cons (pv 0) pa_nil)) (blkOk_by (own := [("program", 1), ("budget", 2)]) (N := ["budgets", "program", "budget"]) (sc := defScope s_in_order) (by decide +kernel)) (fun _ _ _ _ _ => (pg_two K (i := 1) (j := 2) sc_in_order.nd rfl rfl)) (fun _ _ _ _ _ => pts_nil) (fun _ _ _ _ _ => (pe_tup (pa_cons (pv 2) (pa_cons (pv 1) pa_nil))))) pa_nil)))), ?_⟩
    refine ⟨_, rfl, a, _, rfl, hS, fun J S LE sJ => fun D hD => lc_enumJ LE (fun i H' => ∃ ts : List V, Same H H' ∧ H' D = some (.lst ts) ∧ ts.length = i ∧ ∀ (j : Nat) (y : V), ts[j]? = some y → ∃ (t : Addr) (l : Nat), y = .ref t ∧ ls[j]? = some l ∧ H' t = some (.tup [.int (l : Int), .int (j : Int)])) ⟨[], same_upd hD, upd_same, rfl, fun j y h => by cases h⟩ (fun i H' _ h => by obtain ⟨_, sm, _⟩ := h; exact LE.mono _ _ sm sJ) ?_ ?_⟩
    · rintro i x H' hi ⟨ts, sm, eD, hl, hts⟩ T hT
      obtain ⟨l, hil, rfl⟩ := getN hi
      have hil' := (List.getElem?_eq_some_iff.mp hil).1
      refine ⟨T, _, rfl, SqT.of upd_same, rfl, _, _, rfl, _, _, rfl, rfl, ?_⟩
      refine ⟨rfl, iteT (B := ∃ ts : List V, Same H H' ∧ H' D = some (.lst ts) ∧ ts.length = i + 1 ∧ ∀ (j : Nat) (y : V), ts[j]? = some y → ∃ (t : Addr) (l : Nat), y = .ref t ∧ ls[j]? = some l ∧ H' t = some (.tup [.int (l : Int), .int (j : Int)])) ?_⟩
      have sT := sm.trans (same_upd (o := .tup [.int (i : Nat), nI l]) hT)
      refine ⟨_, rfl, _, rfl, szle (by show 2 ≤ 16777216; decide), fun t2 ht2 => ?_⟩
      have nD2 : D ≠ t2 := fun z => by
        have nDT : D ≠ T := ne_of_none eD hT
        rw [← z, upd_ne nDT, eD] at ht2
        cases ht2
      have nDT : D ≠ T := ne_of_none eD hT
      have sT2 := sT.trans (same_upd (o := .tup [nI l, .int (i : Nat)]) ht2)
      refine ⟨ts, by rw [upd_ne nD2, upd_ne nDT]; exact eD, szl (by omega), ts ++ [.ref t2], same_out sT2 hD, upd_same, by simp [hl], fun j y hj => ?_⟩
      by_cases hlt : j < ts.length
      · rw [List.getElem?_append_left hlt] at hj
        obtain ⟨t, l', ey, hlj, ht⟩ := hts j y hj
        refine ⟨t, l', ey, hlj, ?_⟩
        have ntD : t ≠ D := fun z => by rw [z, eD] at ht; cases ht
        rw [upd_ne ntD]
        exact same_upd ht2 _ _ (same_upd hT _ _ ht)
      · have hj2 := (List.getElem?_eq_some_iff.mp hj).1
        have e : j = i := by simp at hj2; omega
        subst e
        rw [List.getElem?_append_right (by omega), hl, Nat.sub_self] at hj
        cases Option.some.inj hj
        exact ⟨t2, l, rfl, hil, by rw [upd_ne nD2.symm]; exact upd_same⟩
    rintro H4 ⟨ts, sm, eD, hl, hts⟩
    rw [List.length_map] at hl
    obtain ⟨pm1, pm2⟩ := pairs_made hl hts
    refine ⟨D, ts, kOf H4, rfl, SqL.of eD, pm2, fun ys po srt stb hpo => ?_⟩
    have ho := ord_of pm1 srt stb.perm
    have hperm2 := stb.perm
    have s6 := same_upd (o := .lst ys) hpo
    refine q _ po ys (ys.map (kOf H4)) (sm.trans s6) (sm.free hpo) upd_same ⟨by rw [List.length_map], fun i y hi => ?_⟩ ho
    obtain ⟨t, ey, ht⟩ := pm2 y (hperm2.mem_iff.mp (List.mem_of_getElem? hi))
    exact ⟨t, kOf H4 y, ey, by rw [List.getElem?_map, hi]; rfl, s6 _ _ ht⟩
theorem ok_with_less {f : Addr} {fd : FuncData} (F : Fun K "_with_less" "_with_less" s_with_less f fd) (T : Txt K mg C_Breaker) : FnOk P w K mg base CX0 1 f fd ["side"] (spLess K) := by
  refine F.ok sc_with_less (fun vs H Q E h => ?_) (fun cdv A outer s H vs Q E hr h => ?_)
  · obtain ⟨a, ys, ks, rfl, _⟩ := h
    rfl
  · obtain ⟨a, ys, ks, rfl, hS, hP, hl, q⟩ := h
    refine ⟨_, (pss_one (ps_ret (pe_lc (own := [("budget", 1), ("program", 2)]) rfl sc_with_less.nd (pi_list (pv 0)) (blkOk_by (own := [("budget", 1), ("program", 2)]) (N := ["side", "budget", "program"]) (sc := defScope s_with_less) (by decide +kernel)) (fun _ _ _ _ _ => (pg_two K (i := 1) (j := 2) sc_with_less.nd rfl rfl)) (fun _ _ _ _ _ => pts_nil) (fun _ _ _ _ _ => (pe_tup (pa_cons (pe_op op_sub (pv 1) pe_int) (pa_cons (pv 2) pa_nil))))))), ?_⟩
    refine ⟨_, rfl, a, rfl, ⟨_, hS⟩, fun D hD => lc_list (K := K) (a := a) (xs := ys) (fun i H' => ∃ zs : List V, Same H H' ∧ H' D = some (.lst zs) ∧ zs.length = i ∧ Prs H' zs ((ks.take i).map fun p => (p.1 - 1, p.2))) ⟨[], same_upd hD, upd_same, rfl, Prs.nil⟩ (fun i H' _ h => ?_) ?_ ?_⟩
    · obtain ⟨_, sm, _⟩ := h
      exact sm.seq hS
    · rintro i x H' hi ⟨zs, sm, eD, hz, hp⟩
      obtain ⟨t, p, rfl, hk, ht⟩ := hP.2 i x hi
      have hil := (List.getElem?_eq_some_iff.mp hk).1
      refine ⟨t, _, rfl, SqT.of (sm _ _ ht), rfl, _, _, rfl, _, _, rfl, rfl, ?_⟩
      refine ⟨rfl, ?_⟩
      refine tyes ?_
      refine ⟨_, rfl, _, _, rfl, rfl, _, rfl, szle (by show 2 ≤ 16777216; decide), fun t2 ht2 => ?_⟩
      have nD2 : D ≠ t2 := ne_of_none eD ht2
      have s2 := same_upd (o := .tup [.int (p.1 - 1), .int p.2]) ht2
      have eD2 := s2 _ _ eD
      refine ⟨zs, eD2, szl (by omega), zs ++ [.ref t2], same_out (sm.trans s2) hD, upd_same, by simp [hz], ?_⟩
      rw [List.take_succ, hk]
      show Prs _ _ (((ks.take i) ++ [p]).map _)
      rw [List.map_append]
      exact ((hp.mono s2).snoc (p := (p.1 - 1, p.2)) upd_same).off eD2
    · rintro H' ⟨zs, sm, eD, hz, hp⟩
      rw [hP.1, List.take_length] at hp
      exact q _ D zs sm hD eD hp
theorem ok_check_breakable {f : Addr} {fd : FuncData} (F : Fun K "_check_breakable" "_check_breakable" s_check_breakable f fd) (T : Txt K mg C_Breaker) (x_InvalidBudgets : XErr P K mg "InvalidBudgets" C_InvalidBudgets ["budgets"]) (c_are_numbers : Cal P w K mg base 3 "are_numbers" (spRow K)) (c_can_keep : CalX P w K mg base 5 "can_keep" (spCanKeep K C_InvalidBudgets)) : FnOk P w K mg base (L2N.CX P w) 6 f fd ["budgets"] (spBreakable K C_InvalidBudgets) := by
  refine Fun_okN F sc_check_breakable (fun vs H Q E h => ?_) (fun cdv A outer s H vs Q E hr h => ?_)
  · obtain ⟨v, d, n, rfl, _⟩ := h
    rfl
  · obtain ⟨v, d, n, rfl, hv, hok, h40, q⟩ := h
    refine ⟨_, (pss_one (ps_if (PW.pt (pw_or (pt_not (pt_val (pe_c c_are_numbers hr (by omega) (by rfl) (pa_cons (pv 0) pa_nil)))) (pw_or1 (pt_val (pe_xS c_can_keep hr (by omega) (by rfl) (L2N.takes_of rfl rfl rfl rfl) (pa_cons (pv 0) pa_nil))))))
      (pss_one (ps_raiseX rfl x_InvalidBudgets hr (L2N.takes_of rfl rfl rfl rfl) (pa_cons (pv 0) pa_nil)))
      pss_nil)), ?_⟩
    refine ⟨_, rfl, v, d, n, rfl, hv, hok, fun H1 s1 => ⟨_, rfl, ?_⟩⟩
    cases hrd : rowD d with
    | false =>
      rw [hrd] at q
      rcases q with ⟨z, _⟩ | ⟨_, q⟩
      · cases z
      · refine iteT ?_
        exact ⟨_, rfl, rfl, fun dd hd => q _ dd (s1.trans (same_upd hd)) upd_same⟩
    | true =>
      refine iteF ?_
      have hv1 := Dp.mono s1 _ _ hv
      refine ⟨_, rfl, v, d, n, rfl, hv1, hok, h40, .inl ⟨hrd, fun H2 s2 => ⟨_, rfl, ?_⟩⟩⟩
      rw [hrd, Bool.true_and] at q
      cases hk : decide (kr (lensD d) < 2 * 2 ^ 40) with
      | true =>
        rw [hk] at q
        rcases q with ⟨z, _⟩ | ⟨_, q⟩
        · cases z
        · refine iteT ?_
          exact ⟨_, rfl, rfl, fun dd hd => q _ dd ((s1.trans s2).trans (same_upd hd)) upd_same⟩
      | false =>
        rw [hk] at q
        rcases q with ⟨_, q⟩ | ⟨z, _⟩
        · exact iteF (q _ (s1.trans s2))
        · cases z
theorem ok_broken_on {f : Addr} {fd : FuncData} (F : Fun K "_broken_on" "_broken_on" s_broken_on f fd) (T : Txt K mg C_Breaker) : FnOk P w K mg base CX0 1 f fd ["side"] (spBrk K) := by
  refine F.ok sc_broken_on (fun vs H Q E h => ?_) (fun cdv A outer s H vs Q E hr h => ?_)
  · obtain ⟨a, ys, ks, rfl, _⟩ := h
    rfl
  · obtain ⟨a, ys, ks, rfl, hS, hP, hl, q⟩ := h
    refine ⟨_, (pss_one (ps_ret (pe_callBK (cr_minDef rfl) (by rfl) T.b_min (by decide +kernel) (pa_cons (pe_lc (own := [("budget", 1), ("program", 2)]) rfl sc_broken_on.nd (pi_list (pv 0)) (blkOk_by (own := [("budget", 1), ("program", 2)]) (N := ["side", "budget", "program"]) (sc := defScope s_broken_on) (by decide +kernel)) (fun _ _ _ _ _ => (pg_two K (i := 1) (j := 2) sc_broken_on.nd rfl rfl)) (fun _ _ _ _ _ => (pts_one (pt_cmpR op_eq (pv 1) pe_int (nomark _)))) (fun _ _ _ _ _ => (pv 2))) pa_nil) (pk_cons pe_non pk_nil)))), ?_⟩
    refine ⟨_, rfl, a, rfl, ⟨_, hS⟩, fun D hD => lc_list (K := K) (a := a) (xs := ys) (fun i H' => Same H H' ∧ H' D = some (.lst ((((ks.take i).filter fun p => decide (p.1 = 0)).map Prod.snd).map V.int))) ⟨same_upd hD, upd_same⟩ (fun i H' _ h => h.1.seq hS) ?_ ?_⟩
    · rintro i x H' hi ⟨sm, eD⟩
      obtain ⟨t, p, rfl, hk, ht⟩ := hP.2 i x hi
      have hil := (List.getElem?_eq_some_iff.mp hk).1
      refine ⟨t, _, rfl, SqT.of (sm _ _ ht), rfl, _, _, rfl, _, _, rfl, rfl, ?_⟩
      have ln : ((((ks.take i).filter fun p => decide (p.1 = 0)).map Prod.snd).map V.int).length ≤ 100000 := by
        rw [List.length_map, List.length_map]
        refine Nat.le_trans (List.length_filter_le _ _) ?_
        rw [List.length_take]
        omega
      have tk : (ks.take (i + 1)).filter (fun p => decide (p.1 = 0)) = (ks.take i).filter (fun p => decide (p.1 = 0)) ++ (if p.1 = 0 then [p] else []) := by
        rw [List.take_succ, hk]
        show ((ks.take i) ++ [p]).filter _ = _
        rw [List.filter_append]
        congr 1
        by_cases z : p.1 = 0
        · rw [if_pos z]
          simp [z]
        · rw [if_neg z]
          simp [z]
      refine ⟨rfl, ?_⟩
      refine ⟨_, rfl, rfl, _, rfl, ite2 (fun h => ?_) (fun h => ?_)⟩
      · have z : p.1 = 0 := V.int.inj (of_decide_eq_true h)
        rw [if_pos z] at tk
        refine ⟨_, rfl, _, eD, szl (by omega), same_out sm hD, ?_⟩
        rw [upd_same, tk, List.map_append, List.map_append]
        rfl
      · have z : ¬ p.1 = 0 := fun w => h (decide_eq_true (congrArg V.int w))
        rw [if_neg z, List.append_nil] at tk
        rw [tk]
        exact ⟨sm, eD⟩
    · rintro H' ⟨sm, eD⟩
      rw [hP.1, List.take_length] at eD
      refine ⟨D, (ks.filter fun p => decide (p.1 = 0)).map Prod.snd, .non, rfl, rfl, .inl (SqL.of eD), fun z => q _ _ sm (.inl ⟨fun p hp hz => ?_, rfl⟩), fun m hm hle => q _ _ sm (.inr ⟨m, rfl, ?_, fun p hp hz => ?_⟩)⟩
      · have : p ∈ ks.filter fun p => decide (p.1 = 0) := List.mem_filter.mpr ⟨hp, decide_eq_true hz⟩
        have h2 := List.mem_map_of_mem (f := Prod.snd) this
        rw [z] at h2
        cases h2
      · obtain ⟨p, hp, e⟩ := List.mem_map.mp hm
        obtain ⟨h1, h2⟩ := List.mem_filter.mp hp
        exact ⟨p, h1, of_decide_eq_true h2, e⟩
      · exact hle _ (List.mem_map_of_mem (f := Prod.snd) (List.mem_filter.mpr ⟨hp, decide_eq_true hz⟩))
theorem ok_sides_of {f : Addr} {fd : FuncData} (F : Fun K "_sides_of" "_sides_of" s_sides_of f fd) (T : Txt K mg C_Breaker) : FnOk P w K mg base CX0 1 f fd ["living"] (spSides K) := by
  refine F.ok sc_sides_of (fun vs H Q E h => ?_) (fun cdv A outer s H vs Q E hr h => ?_)
  · obtain ⟨a, ys, ks, ls, rfl, _⟩ := h
    rfl
  · obtain ⟨a, ys, ks, ls, rfl, hS, hP, hl, hll, hfst, hs, h40, hk, q⟩ := h
    refine ⟨_, (pss_cons (ps_set (i := 1) sc_sides_of.nd rfl (by first | exact Or.inl rfl | exact Or.inr rfl) pe_int)
    (pss_cons (ps_set (i := 2) sc_sides_of.nd rfl (by first | exact Or.inl rfl | exact Or.inr rfl) pe_int)
    (pss_cons (ps_set (i := 3) sc_sides_of.nd rfl (by first | exact Or.inl rfl | exact Or.inr rfl) pe_int)
    (pss_cons (ps_while PassesOwn.never (pt_cmpR op_gt (pv 1) pe_int (nomark _))
      (pss_cons (ps_set (i := 4) sc_sides_of.nd rfl (by first | exact Or.inl rfl | exact Or.inr rfl) (pe_ix ix_tup (pe_ix ix_list (pv 0) (pv 3) (fun _ _ => rfl)) pe_int (fun _ _ => rfl)))
        (pss_cons (ps_set (i := 1) sc_sides_of.nd rfl (by first | exact Or.inl rfl | exact Or.inr rfl) (pe_op op_sub (pe_op op_shlW (pv 1) (pe_op op_sub (pv 4) (pv 2))) pe_int))
        (pss_cons (ps_set (i := 2) sc_sides_of.nd rfl (by first | exact Or.inl rfl | exact Or.inr rfl) (pv 4))
        (pss_one (ps_aug (i := 3) sc_sides_of.nd rfl (by first | exact Or.inl rfl | exact Or.inr rfl) pe_int ip_add))))))
    (pss_one (ps_ret (pe_tup (pa_cons (pe_slice sl_list (pv 0) po_none (po_some (pv 3))) (pa_cons (pe_slice sl_list (pv 0) (po_some (pv 3)) po_none) pa_nil))))))))), ?_⟩
    refine ⟨fun n σ H' => ∃ (i free depth : Nat) (v4 : Option V), σ = [some (.ref a), some (.int (free : Int)), some (.int (depth : Int)), some (.int (i : Int)), v4] ∧ H' = H ∧ Rm ls i free depth ∧ n + i = ls.length, ⟨ls.length, 0, 1, 0, none, rfl, rfl, Rm.ini ls, rfl⟩, ?_⟩
    rintro n σ Hc ⟨i, free, depth, v4, rfl, rfl, R, hn⟩
    refine ⟨_, rfl, _, _, rfl, rfl, _, rfl, ite2 (fun h => ?_) (fun h => ?_)⟩
    · have hf : free ≠ 0 := by have := of_decide_eq_true h; omega
      have hil : i < ls.length := by
        refine Classical.byContradiction fun z => ?_
        have e := R.eq
        rw [List.take_of_length_le (by omega)] at e
        have : 0 < free * 2 ^ (40 - depth) := Nat.mul_pos (by omega) (Nat.pow_pos (by decide))
        omega
      have hyl : i < ys.length := by rw [hP.1, ← hll]; exact hil
      obtain ⟨t, p, ey, hkp, ht⟩ := hP.2 i ys[i] (List.getElem?_eq_getElem hyl)
      obtain ⟨l, hli, hpl⟩ := hfst i p hkp
      have hl40 := h40 l (List.mem_of_getElem? hli)
      have hd := R.le hs hli
      obtain ⟨n1, R2⟩ := R.nxt hs hli hl40 hf
      have hsm := R.small
      have hb : Builtin.Int.intBits (free : Int) ≤ 41 := by
        unfold Builtin.Int.intBits
        split
        · omega
        · have := PySem.Flt.log2_lt_of (by decide : 0 < 41) (show ((free : Int)).natAbs < 2 ^ 41 by omega)
          omega
      have cs : CShl (free : Int) ((l : Int) - (depth : Int)) := ⟨by omega, by omega⟩
      refine ⟨fun σ H' => ∃ (i free depth : Nat) (v4 : Option V), σ = [some (.ref a), some (.int (free : Int)), some (.int (depth : Int)), some (.int (i : Int)), v4] ∧ H' = Hc ∧ Rm ls i free depth ∧ n - 1 + i = ls.length, fun σ' H' h => ⟨n - 1, by omega, h⟩, ?_⟩
      refine ⟨_, rfl, _, rfl, a, _, _, _, rfl, rfl, hS, by rw [← ey]; exact atI_nat (List.getElem?_eq_getElem hyl), t, _, _, _, rfl, rfl, SqT.of ht, atI_nat (j := 0) rfl, ?_⟩
      rw [hpl]
      refine ⟨_, rfl, _, rfl, _, rfl, _, _, rfl, rfl, _, _, rfl, rfl, cs, _, _, rfl, rfl, ?_⟩
      refine ⟨_, rfl, ?_⟩
      refine ⟨_, rfl, _, _, rfl, rfl, i + 1, free * 2 ^ (l - depth) - 1, l, some (.int (l : Int)), ?_, rfl, R2, by omega⟩
      rw [show ((l : Int) - (depth : Int)).toNat = l - depth by omega, Int.natCast_sub n1, Int.natCast_mul, Int.natCast_pow, Int.natCast_add]
      rfl
    · have hf : free = 0 := by
        refine Classical.byContradiction fun z => h (decide_eq_true ?_)
        omega
      have e := R.eq
      rw [hf, Nat.zero_mul, Nat.zero_add] at e
      refine ⟨_, rfl, _, rfl, _, rfl, a, _, rfl, hS, fun p2 hp2 => ?_⟩
      have s2 := same_upd (o := .lst (cutV ys none (some (i : Int)))) hp2
      refine ⟨_, rfl, _, rfl, _, rfl, a, _, rfl, s2.seq hS, fun p3 hp3 => ⟨szle (by show 2 ≤ 16777216; decide), fun p4 hp4 => ?_⟩⟩
      have s3 := same_upd (o := .lst (cutV ys (some (i : Int)) none)) hp3
      have s4 := same_upd (o := .tup [.ref p2, .ref p3]) hp4
      have e1 : cutV ys (some (i : Int)) none = ys.drop i := cut_dr _ _
      have e2 : cutV ys none (some (i : Int)) = ys.take i := cut_tk _ _
      exact q _ p4 p2 p3 i ((s2.trans s3).trans s4) (by omega) e upd_same (by rw [← e2]; exact s4 _ _ (s3 _ _ upd_same)) (by rw [← e1]; exact s4 _ _ upd_same)
end

/-! ### class Breaker -/
structure BrC (K : PySem.W.Frag) (C : Addr) : Prop where
  ins : C8.InsC K C
  nb : NoAttr K C "broken"
  nr : NoAttr K C "row"
  nl : NoAttr K C "_living"
def bfz (v : V) (row : Str) (p : Addr) : List (Str × V) := [("broken", v), ("row", .str row), ("_living", .ref p)]
theorem bfz_b {v : V} {row : Str} {p : Addr} : List.lookup ("broken" : Str) (bfz v row p) = some v := rfl
theorem bfz_r {v : V} {row : Str} {p : Addr} : List.lookup ("row" : Str) (bfz v row p) = some (V.str row) := rfl
theorem bfz_l {v : V} {row : Str} {p : Addr} : List.lookup ("_living" : Str) (bfz v row p) = some (V.ref p) := rfl
def spBInit (K : PySem.W.Frag) (C CB : Addr) : Sp := fun vs H Q E => ∃ (x dx : Addr) (v : V) (d : PyData) (n : Nat), vs = [.ref x, v] ∧ H x = some (.ins C dx []) ∧ Dp K H v d ∧ okD n d = true ∧ (rowD d = true → (lensD d).length ≤ 100000 ∧ ∀ n ∈ lensD d, n ≤ 40) ∧
  (((rowD d && !decide (kr (lensD d) < 2 * 2 ^ 40)) = true ∧ ∀ H' p ys ks, Same (upd H x (.ins C dx (bfz .non "" p))) H' → H p = none → H' p = some (.lst ys) → Prs H' ys ks → IsOrd (lensD d) ks → Q .non H') ∨ ((rowD d && !decide (kr (lensD d) < 2 * 2 ^ 40)) = false ∧ ∀ H' dd, Same H H' → H' dd = some (.xd [("budgets", v)]) → E (.ref CB) (some dd) H'))
theorem Prs.offI {H : Hp} {ys : List V} {ks : List (Int × Int)} {x C dx : Addr} {fs : List (Str × V)} {o : HO} (h : Prs H ys ks) (hx : H x = some (.ins C dx fs)) : Prs (upd H x o) ys ks := ⟨h.1, fun i y hi => by
  obtain ⟨t, p, e1, e2, e3⟩ := h.2 i y hi
  exact ⟨t, p, e1, e2, by rw [upd_ne (fun e => by rw [e, hx] at e3; cases e3)]; exact e3⟩⟩
theorem Prs.take {H : Hp} {ys : List V} {ks : List (Int × Int)} (h : Prs H ys ks) (m : Nat) : Prs H (ys.take m) (ks.take m) := ⟨by rw [List.length_take, List.length_take, h.1], fun i y hi => by
  rw [List.getElem?_take] at hi
  split at hi
  case isTrue z =>
    obtain ⟨t, p, e1, e2, e3⟩ := h.2 i y hi
    exact ⟨t, p, e1, by rw [List.getElem?_take, if_pos z]; exact e2, e3⟩
  case isFalse => cases hi⟩
theorem Prs.drop {H : Hp} {ys : List V} {ks : List (Int × Int)} (h : Prs H ys ks) (m : Nat) : Prs H (ys.drop m) (ks.drop m) := ⟨by rw [List.length_drop, List.length_drop, h.1], fun i y hi => by
  rw [List.getElem?_drop] at hi
  obtain ⟨t, p, e1, e2, e3⟩ := h.2 _ y hi
  exact ⟨t, p, e1, by rw [List.getElem?_drop]; exact e2, e3⟩⟩
def tolS : Nat → Str
  | 0 => "0"
  | _ => "1"
def sideK (b m : Nat) (ks : List (Int × Int)) : List (Int × Int) := if b = 1 then ks.take m else ks.drop m
def spBA (K : PySem.W.Frag) (C CN : Addr) : Sp := fun vs H Q E => ∃ (x dx : Addr) (v : V) (d : PyData) (brk : V) (row : Str) (p : Addr), vs = [.ref x, v] ∧ H x = some (.ins C dx (bfz brk row p)) ∧ Dp K H v d ∧
  ((isBitD d = false ∧ ∀ H' dd, Same H H' → H' dd = some (.xd [("number", v)]) → E (.ref CN) (some dd) H') ∨ ∃ b : Nat, b ≤ 1 ∧ v = .int b ∧ d = .int b ∧ ((∃ m : Int, brk = .int m ∧ Q .non H) ∨ (brk = .non ∧ row.length ≤ 1000 ∧ ∃ (ys : List V) (ks : List (Int × Int)) (ls : List Nat), H p = some (.lst ys) ∧ Prs H ys ks ∧ ks.length ≤ 100000 ∧ ls.length = ks.length ∧ (∀ (i : Nat) (p : Int × Int), ks[i]? = some p → ∃ l : Nat, ls[i]? = some l ∧ p.1 = l) ∧ ls.Pairwise (· ≤ ·) ∧ (∀ l ∈ ls, l ≤ 40) ∧ 2 ^ 40 ≤ kr ls ∧
    ∀ H' m p' ys' v', Same (upd H x (.ins C dx (bfz v' (row ++ tolS (1 - b)) p'))) H' → H p' = none → m ≤ ls.length → kr (ls.take m) = 2 ^ 40 → H' p' = some (.lst ys') → Prs H' ys' ((sideK b m ks).map fun p => (p.1 - 1, p.2)) → Brk (sideK b m ks) v' → Q (.int (1 - b : Nat)) H')))
section
variable {P : Program} {w : World} {K : PySem.W.Frag} {mg : Str → Option Value} {base : Heap} {C_Breaker : Addr} {C_InvalidBudgets C_InvalidNumber : Addr}
theorem ok_Breaker___init__ {f : Addr} {fd : FuncData} (F : Fun K "__init__" "Breaker.__init__" s_Breaker___init__ f fd) (T : Txt K mg C_Breaker) (c : BrC K C_Breaker) (c_check_breakable : CalX P w K mg base 6 "_check_breakable" (spBreakable K C_InvalidBudgets)) (c_in_order : Cal P w K mg base 1 "_in_order" (spInOrd K)) : FnOk P w K mg base (L2N.CX P w) 7 f fd ["self", "budgets"] (spBInit K C_Breaker C_InvalidBudgets) := by
  refine Fun_okN F sc_Breaker___init__ (fun vs H Q E h => ?_) (fun cdv A outer s H vs Q E hr h => ?_)
  · obtain ⟨x, dx, v, d, n, rfl, _⟩ := h
    rfl
  · obtain ⟨x, dx, v, d, n, rfl, hx, hv, hok, h40, q⟩ := h
    refine ⟨_, (pss_cons (ps_expr (pe_xS c_check_breakable hr (by omega) (by rfl) (L2N.takes_of rfl rfl rfl rfl) (pa_cons (pv 1) pa_nil)))
    (pss_cons (ps_fld (pv 0) pe_non rfl)
    (C8.pss_cut (ps_fld (pv 0) pe_str rfl)
    (pss_one (ps_fld (pv 0) (pe_c c_in_order hr (by omega) (by rfl) (pa_cons (pv 1) pa_nil)) rfl))))), ?_⟩
    rcases q with ⟨hb, q⟩ | ⟨hb, q⟩
    case inr => exact ⟨_, rfl, v, d, n, rfl, hv, hok, h40, .inr ⟨hb, fun H1 dd s1 h1 => q H1 dd s1 h1⟩⟩
    refine ⟨_, rfl, v, d, n, rfl, hv, hok, h40, .inl ⟨hb, fun H1 s1 => ?_⟩⟩
    have hrw : rowD d = true := (Bool.and_eq_true_iff.mp hb).1
    obtain ⟨a, rfl, hS, hl5⟩ := row_at (Dp.mono s1 _ _ hv) hok hrw
    have hx1 := s1 _ _ hx
    refine ⟨_, rfl, x, _, dx, _, rfl, hx1, c.ins.cl, c.nb, by decide, ?_⟩
    refine ⟨fun σ H' => σ = [some (.ref x), some (.ref a)] ∧ H' = upd H1 x (.ins C_Breaker dx [("broken", .non), ("row", .str "")]), ?_, ?_⟩
    · refine ⟨_, rfl, x, _, dx, _, rfl, upd_same, c.ins.cl, c.nr, by show 1 < 1000; decide, rfl, ?_⟩
      rw [upd_upd]
      rfl
    rintro σ H4 ⟨rfl, rfl⟩
    have hS4 : SqL K (upd H1 x (.ins C_Breaker dx [("broken", .non), ("row", .str "")])) a ((lensD d).map nI) ∨ SqT K (upd H1 x (.ins C_Breaker dx [("broken", .non), ("row", .str "")])) a ((lensD d).map nI) := hS.imp (fun z => SqL.offI z hx1) (fun z => SqT.offI z hx1)
    refine ⟨_, rfl, a, lensD d, rfl, hS4, (h40 hrw).1, fun H5 po ys ks s5 npo hpo hP hO => ?_⟩
    have hx5 := s5 _ _ upd_same
    refine ⟨_, rfl, x, _, dx, _, rfl, hx5, c.ins.cl, c.nl, by show 2 < 1000; decide, ?_⟩
    have sf : Same (upd H x (.ins C_Breaker dx (bfz .non "" po))) (upd H5 x (.ins C_Breaker dx (bfz .non "" po))) := by
      have := same_set (p := x) (o := .ins C_Breaker dx (bfz .non "" po)) s5
      rw [upd_upd] at this
      exact (same_set s1).trans this
    have nx : po ≠ x := fun e => by rw [e, upd_same] at npo; cases npo
    exact q _ po ys ks sf (s1.free (by rw [upd_ne nx] at npo; exact npo)) (by rw [upd_ne nx]; exact hpo) ⟨hP.1, fun i y hi => by
      obtain ⟨t, p, e1, e2, e3⟩ := hP.2 i y hi
      exact ⟨t, p, e1, e2, by rw [upd_ne (fun e => by rw [e, hx5] at e3; cases e3)]; exact e3⟩⟩ hO
theorem ok_Breaker_answer {f : Addr} {fd : FuncData} (F : Fun K "answer" "Breaker.answer" s_Breaker_answer f fd) (T : Txt K mg C_Breaker) (c : BrC K C_Breaker) (c_check_bit : CalX P w K mg base 3 "check_bit" (spCheckBit K C_InvalidNumber)) (c_sides_of : Cal P w K mg base 1 "_sides_of" (spSides K)) (c_broken_on : Cal P w K mg base 1 "_broken_on" (spBrk K)) (c_with_less : Cal P w K mg base 1 "_with_less" (spLess K)) : FnOk P w K mg base (L2N.CX P w) 4 f fd ["self", "bit"] (spBA K C_Breaker C_InvalidNumber) := by
  refine Fun_okN F sc_Breaker_answer (fun vs H Q E h => ?_) (fun cdv A outer s H vs Q E hr h => ?_)
  · obtain ⟨x, dx, v, d, brk, row, p, rfl, _⟩ := h
    rfl
  · obtain ⟨x, dx, v, d, brk, row, p, rfl, hx, hv, hq⟩ := h
    refine ⟨_, (pss_cons (ps_expr (pe_xS c_check_bit hr (by omega) (by rfl) (L2N.takes_of rfl rfl rfl rfl) (pa_cons (pv 1) pa_nil)))
    (pss_cons (ps_if (pt_cmpR op_notN (pe_fld (pv 0) rfl) pe_non (nomark _))
      (pss_one (ps_ret pe_non))
      pss_nil)
    (pss_cons (ps_set (i := 2) sc_Breaker_answer.nd rfl (by first | exact Or.inl rfl | exact Or.inr rfl) (pe_op op_sub pe_int (pv 1)))
    (pss_cons (ps_set (i := 3) sc_Breaker_answer.nd rfl (by first | exact Or.inl rfl | exact Or.inr rfl) (pe_ix ix_tup (pe_c c_sides_of hr (by omega) (by rfl) (pa_cons (pe_fld (pv 0) rfl) pa_nil)) (pv 2) (fun _ _ => rfl)))
    (C8.pss_cut (ps_fldaug (pv 0) (pe_callTy call_str_int (by rfl) T.b_str (by decide +kernel) (pa_cons (pv 2) pa_nil)) in_addS)
    (C8.pss_cut (ps_fld (pv 0) (pe_c c_broken_on hr (by omega) (by rfl) (pa_cons (pv 3) pa_nil)) rfl)
    (pss_cons (ps_fld (pv 0) (pe_c c_with_less hr (by omega) (by rfl) (pa_cons (pv 3) pa_nil)) rfl)
    (pss_one (ps_ret (pv 2)))))))))), ?_⟩
    rcases hq with ⟨hb, q⟩ | ⟨b, hb1, rfl, rfl, hq⟩
    · exact ⟨_, rfl, _, d, rfl, hv, .inr ⟨hb, fun H1 dd s1 h1 => q H1 dd s1 h1⟩⟩
    have hbd : isBitD (.int (b : Int)) = true := by
      show (decide ((0 : Int) ≤ (b : Int)) && decide ((b : Int) ≤ 1)) = true
      rw [decide_eq_true (show (0 : Int) ≤ (b : Int) by omega), decide_eq_true (show (b : Int) ≤ 1 by omega)]
      rfl
    refine ⟨_, rfl, _, .int (b : Int), rfl, .int _, .inl ⟨hbd, ?_⟩⟩
    rcases hq with ⟨m, rfl, q⟩ | ⟨rfl, hrl, ys, ks, ls, hp, hP, hl, hll, hfst, hs, h40, hk, q⟩
    · refine ⟨_, rfl, x, C_Breaker, dx, _, _, rfl, hx, c.ins.cl, c.nb, bfz_b, rfl, _, rfl, iteT ?_⟩
      exact q
    refine ⟨_, rfl, x, C_Breaker, dx, _, _, rfl, hx, c.ins.cl, c.nb, bfz_b, rfl, _, rfl, iteF ?_⟩
    refine ⟨_, rfl, _, _, rfl, rfl, ?_⟩
    refine ⟨_, rfl, x, C_Breaker, dx, _, _, rfl, hx, c.ins.cl, c.nl, bfz_l, p, ys, ks, ls, rfl, SqL.of hp, hP, hl, hll, hfst, hs, h40, hk, fun H1 pp pa pb m s1 hm hkr hpp hpa hpb => ?_⟩
    have hP1 := hP.mono s1
    have hx1 := s1 _ _ hx
    obtain ⟨ps, yss, hat, hps, hPs⟩ : ∃ ps yss, atI [V.ref pa, .ref pb] (1 - (b : Int)) = some (.ref ps) ∧ H1 ps = some (.lst yss) ∧ Prs H1 yss (sideK b m ks) := by
      rcases (by omega : b = 0 ∨ b = 1) with z | z <;> subst z
      · exact ⟨pb, ys.drop m, atI_nat (j := 1) rfl, hpb, hP1.drop m⟩
      · exact ⟨pa, ys.take m, atI_nat (j := 0) rfl, hpa, hP1.take m⟩
    have sl : (sideK b m ks).length ≤ 100000 := by
      unfold sideK
      split
      · rw [List.length_take]; omega
      · rw [List.length_drop]; omega
    have e1b : (1 : Int) - (b : Int) = ((1 - b : Nat) : Int) := by omega
    refine ⟨_, rfl, pp, _, _, _, rfl, rfl, SqT.of hpp, hat, ?_⟩
    refine ⟨fun σ H' => σ = [some (.ref x), some (.int (b : Int)), some (.int (1 - b : Nat)), some (.ref ps)] ∧ H' = upd H1 x (.ins C_Breaker dx (bfz .non (row ++ tolS (1 - b)) p)), ?_, ?_⟩
    · have htl : Str.ofString (toString ((1 : Int) - (b : Int))) = tolS (1 - b) := by
        rcases (by omega : b = 0 ∨ b = 1) with z | z <;> subst z <;> rfl
      refine ⟨_, rfl, x, C_Breaker, dx, _, _, rfl, hx1, c.ins.cl, c.nr, bfz_r, _, rfl, ((1 : Int) - (b : Int)), rfl, ?_, row, tolS (1 - b), rfl, congrArg V.str htl, szle ?_, dx, _, hx1, by show 3 < 1000; decide, ?_⟩
      · rcases (by omega : b = 0 ∨ b = 1) with z | z <;> subst z <;> decide
      · have : (tolS (1 - b)).length = 1 := by rcases (by omega : b = 0 ∨ b = 1) with z | z <;> subst z <;> rfl
        omega
      · refine ⟨?_, rfl⟩
        rw [← e1b]
        rfl
    rintro σ H2 ⟨rfl, rfl⟩
    have nxs : ps ≠ x := fun e => by rw [e, hx1] at hps; cases hps
    refine ⟨fun σ H' => ∃ v', σ = [some (.ref x), some (.int (b : Int)), some (.int (1 - b : Nat)), some (.ref ps)] ∧ Brk (sideK b m ks) v' ∧ Same (upd H1 x (.ins C_Breaker dx (bfz v' (row ++ tolS (1 - b)) p))) H', ?_, ?_⟩
    · refine ⟨_, rfl, ps, yss, sideK b m ks, rfl, SqL.of (by rw [upd_ne nxs]; exact hps), hPs.offI hx1, sl, fun H3 v' s3 hbk => ?_⟩
      have hx3 := s3 _ _ upd_same
      refine ⟨_, rfl, x, _, dx, _, rfl, hx3, c.ins.cl, c.nb, by show 3 < 1000; decide, v', rfl, hbk, ?_⟩
      have := same_set (p := x) (o := .ins C_Breaker dx (bfz v' (row ++ tolS (1 - b)) p)) s3
      rw [upd_upd] at this
      exact this
    rintro σ H3 ⟨v', rfl, hbk, s3⟩
    have hx3 := s3 _ _ upd_same
    have hps3 : H3 ps = some (.lst yss) := s3 _ _ (by rw [upd_ne nxs]; exact hps)
    refine ⟨_, rfl, ps, yss, sideK b m ks, rfl, SqL.of hps3, (hPs.offI hx1).mono s3, sl, fun H4 po ys' s4 npo hpo hP4 => ?_⟩
    have hx4 := s4 _ _ hx3
    refine ⟨_, rfl, x, _, dx, _, rfl, hx4, c.ins.cl, c.nl, by show 3 < 1000; decide, _, rfl, ?_⟩
    have nxo : po ≠ x := fun e => by rw [e, hx3] at npo; cases npo
    refine q _ m po ys' v' ?_ (s1.free (by have := s3.free npo; rwa [upd_ne nxo] at this)) hm hkr (by rw [upd_ne nxo]; exact hpo) (hP4.offI hx4) hbk
    have t := same_set (p := x) (o := .ins C_Breaker dx (bfz v' (row ++ tolS (1 - b)) po)) (s3.trans s4)
    rw [upd_upd] at t
    exact (same_set s1).trans t
end

/-! ### strangers to a bit and to budgets that a breaker takes (k23, k24) -/
/-- what a heap holds beside another one -/
def dif (B B' : Hp) : Hp := fun a => match B a with
  | none => B' a
  | some _ => none
theorem dif_at {B B' : Hp} {a : Addr} {o : HO} (h : B a = none) (h' : B' a = some o) : dif B B' a = some o := by
  unfold dif
  rw [h]
  exact h'
theorem dif_same {B B' : Hp} : Same (dif B B') B' := fun a o e => by
  unfold dif at e
  split at e
  · exact e
  · cases e
theorem dif_off {B B' : Hp} {a : Addr} {o : HO} (h : B a = some o) : dif B B' a = none := by
  unfold dif
  rw [h]
def spStr23 (K : PySem.W.Frag) : Sp := fun vs H Q _ => ∃ (B : Hp) (t : Addr) (c : Nat), vs = [.ref t] ∧ Tp B H t c ∧ c < 1000000 ∧ ∀ B' H' v d, Same B B' → Tp B' H' t (c + 12) → Dp K (dif B B') v d → okD 3 d = true → isBitD d = false → (rowD d = true → (lensD d).length ≤ 1 ∧ (∀ n ∈ lensD d, n ≤ 10) ∧ kr (lensD d) ≤ 2 ^ 40) → isNumD d = false → Q v H'
section
variable {P : Program} {w : World} {K : PySem.W.Frag} {mg : Str → Option Value} {base : Heap} {C_Breaker : Addr}
theorem ok_law_stranger {f : Addr} {fd : FuncData} (F : Fun K "_law_stranger" "_law_stranger" s_law_stranger f fd) (T : Txt K mg C_Breaker) (c_law_draw : Cal P w K mg base 1 "_law_draw" spDraw) : FnOk P w K mg base CX0 2 f fd ["tape"] (spStr23 K) := by
  refine F.ok sc_law_stranger (fun vs H Q E h => ?_) (fun cdv A outer s H vs Q E hr h => ?_)
  · obtain ⟨B, t, c, rfl, _⟩ := h
    rfl
  · obtain ⟨B, t, c, rfl, TT, hc, q⟩ := h
    refine ⟨_, (pss_cons (ps_set (i := 1) sc_law_stranger.nd rfl (by first | exact Or.inl rfl | exact Or.inr rfl) (pe_op op_sub (pe_un un_neg pe_int) (pe_c c_law_draw hr (by omega) (by rfl) (pa_cons (pv 0) (pa_cons pe_int pa_nil)))))
    (pss_cons (ps_for PassesOwn.never rfl (pi_range1 (by rfl) T.b_range (pa_cons (pe_c c_law_draw hr (by omega) (by rfl) (pa_cons (pv 0) (pa_cons pe_int pa_nil))) pa_nil)) (pg_name (i := 2) sc_law_stranger.nd rfl (by first | exact Or.inl rfl | exact Or.inr rfl))
      (pss_one (ps_set (i := 1) sc_law_stranger.nd rfl (by first | exact Or.inl rfl | exact Or.inr rfl) (pe_op op_mulW (pv 1) (pe_op op_add (pe_op op_pow pe_int pe_int) (pe_c c_law_draw hr (by omega) (by rfl) (pa_cons (pv 0) (pa_cons pe_int pa_nil))))))))
    (pss_cons (ps_set (i := 3) sc_law_stranger.nd rfl (by first | exact Or.inl rfl | exact Or.inr rfl) (pe_lst (pa_cons pe_non (pa_cons pe_bl (pa_cons pe_bl (pa_cons (pe_un un_neg pe_int) (pa_cons pe_str (pa_cons pe_str (pa_cons pe_str (pa_cons (pe_tup (pa_cons pe_int pa_nil)) (pa_cons (pe_lst (pa_cons pe_int pa_nil)) (pa_cons (pv 1) (pa_cons pe_str (pa_cons (pe_tup pa_nil) (pa_cons (pe_lst (pa_cons (pe_lst (pa_cons pe_int pa_nil)) pa_nil)) (pa_cons (pe_lst pa_nil) (pa_cons pe_str pa_nil)))))))))))))))))
    (pss_one (ps_ret (pe_ix ix_list (pv 3) (pe_c c_law_draw hr (by omega) (by rfl) (pa_cons (pv 0) (pa_cons pe_int pa_nil))) (fun _ _ => rfl))))))), ?_⟩
    have pb : ∀ d : Int, 0 ≤ d → d < 1000 → ((10 : Int) ^ (64 : Int).toNat + d).natAbs < 2 ^ 213 ∧ 0 < (10 : Int) ^ (64 : Int).toNat + d := fun d h0 h1 => by
      rw [show (64 : Int).toNat = 64 from rfl]
      omega
    refine ⟨_, rfl, _, rfl, B, t, c, 3, rfl, TT, by decide, by decide, by omega, fun H1 k T1 k0 k1 => ⟨_, _, rfl, rfl, ?_⟩⟩
    refine ⟨_, rfl, B, t, _, 6, rfl, T1, by decide, by decide, by omega, fun H4 z T4 z0 z1 => ?_⟩
    obtain ⟨n, rfl⟩ := nat_of z0
    refine ⟨n, rfl, by omega, by omega, for_range (n := n) (fun i σ H' => ∃ (v : Option V) (x : Int), σ = [some (.ref t), some (.int x), v, none] ∧ Tp B H' t (c + 3 + i) ∧ x < 0 ∧ x.natAbs < 2 ^ (214 * (i + 1)))
          ⟨_, _, rfl, T4.le (by omega), by omega, bits_le (a := 4) (by omega) (by omega)⟩ ?_ ?_⟩
    · rintro i σ H' hi ⟨v, x, rfl, T5, nx, bx⟩
      refine ⟨_, rfl, _, _, rfl, rfl, ⟨by decide, by decide, by decide⟩, _, rfl, B, t, c + 3 + i, 1000, rfl, T5, by decide, by decide, by omega, fun H6 d2 T6 e0 e1 => ⟨_, _, rfl, rfl, ?_⟩⟩
      refine ⟨_, _, rfl, rfl, wide_mul bx (pb d2 e0 e1).1 (by omega) (by decide) (by omega), ?_⟩
      exact ⟨_, _, rfl, T6, Int.mul_neg_of_neg_of_pos nx (pb d2 e0 e1).2, bits_le (bits_mul bx (pb d2 e0 e1).1) (by omega)⟩
    · rintro σ H' ⟨v, x, rfl, T5, nx, bx⟩
      refine ⟨_, rfl, szle (by show 1 ≤ 16777216; decide), fun p1 h1 => ?_⟩
      refine ⟨szle (by show 1 ≤ 16777216; decide), fun p2 h2 => ?_⟩
      refine ⟨_, rfl, ?_⟩
      refine ⟨szle (by show 0 ≤ 16777216; decide), fun p3 h3 => ?_⟩
      refine ⟨szle (by show 1 ≤ 16777216; decide), fun p4 h4 => ?_⟩
      refine ⟨szle (by show 1 ≤ 16777216; decide), fun p5 h5 => ?_⟩
      refine ⟨szle (by show 0 ≤ 16777216; decide), fun p7 h7 => ?_⟩
      refine ⟨szle (by show 15 ≤ 16777216; decide), fun p6 h6 => ?_⟩
      have U1 := T5.new (o := .tup [V.int 0]) h1
      have U2 := U1.new (o := .lst [V.int 1]) h2
      have U3 := U2.new (o := .tup []) h3
      have U4 := U3.new (o := .lst [V.int 0]) h4
      have U5 := U4.new (o := .lst [V.ref p4]) h5
      have U7 := U5.new (o := .lst []) h7
      obtain ⟨B5, hB5⟩ : ∃ B5, B5 = upd (upd (upd (upd (upd (upd B p1 (.tup [V.int 0])) p2 (.lst [V.int 1])) p3 (.tup [])) p4 (.lst [V.int 0])) p5 (.lst [V.ref p4])) p7 (.lst []) := ⟨_, rfl⟩
      rw [← hB5] at U7
      have s7 := same_upd (o := .lst []) (U5.isn h7)
      have sB : Same B B5 := by
        rw [hB5]
        exact (((((same_upd (T5.isn h1)).trans (same_upd (U1.isn h2))).trans (same_upd (U2.isn h3))).trans (same_upd (U3.isn h4))).trans (same_upd (U4.isn h5))).trans s7
      have g5 : B5 p5 = some (.lst [V.ref p4]) := by rw [hB5]; exact s7 _ _ upd_same
      have g4 : B5 p4 = some (.lst [V.int 0]) := by rw [hB5]; exact s7 _ _ (same_upd (U4.isn h5) _ _ upd_same)
      have g3 : B5 p3 = some (.tup []) := by rw [hB5]; exact s7 _ _ (same_upd (U4.isn h5) _ _ (same_upd (U3.isn h4) _ _ upd_same))
      have g2 : B5 p2 = some (.lst [V.int 1]) := by rw [hB5]; exact s7 _ _ (same_upd (U4.isn h5) _ _ (same_upd (U3.isn h4) _ _ (same_upd (U2.isn h3) _ _ upd_same)))
      have g1 : B5 p1 = some (.tup [V.int 0]) := by rw [hB5]; exact s7 _ _ (same_upd (U4.isn h5) _ _ (same_upd (U3.isn h4) _ _ (same_upd (U2.isn h3) _ _ (same_upd (U1.isn h2) _ _ upd_same))))
      have g7 : B5 p7 = some (.lst []) := by rw [hB5]; exact upd_same
      have e1 := same_upd (o := .tup [V.int 0]) (T5.isn h1)
      have e2 := e1.trans (same_upd (o := .lst [V.int 1]) (U1.isn h2))
      have e3 := e2.trans (same_upd (o := .tup []) (U2.isn h3))
      have e4 := e3.trans (same_upd (o := .lst [V.int 0]) (U3.isn h4))
      have e5 := e4.trans (same_upd (o := .lst [V.ref p4]) (U4.isn h5))
      replace g1 := dif_at (T5.isn h1) g1
      replace g2 := dif_at (e1.free (U1.isn h2)) g2
      replace g3 := dif_at (e2.free (U2.isn h3)) g3
      replace g4 := dif_at (e3.free (U3.isn h4)) g4
      replace g5 := dif_at (e4.free (U4.isn h5)) g5
      replace g7 := dif_at (e5.free (U5.isn h7)) g7
      have U6 := U7.new (o := .lst [V.non, .bl true, .bl false, .int (-1), .str "0", .str "1", .str "", .ref p1, .ref p2, .int x, .str "bit", .ref p3, .ref p5, .ref p7, .str "000"]) h6
      have b6 := U7.isn h6
      have nb : ∀ z : Int, z < 0 ∨ 1 < z → isBitD (.int z) = false := fun z hz => by
        show (decide ((0 : Int) ≤ z) && decide (z ≤ 1)) = false
        rcases hz with h | h
        · rw [decide_eq_false (show ¬ (0 : Int) ≤ z by omega)]
          rfl
        · rw [decide_eq_false (show ¬ z ≤ 1 by omega), Bool.and_false]
      have all : ∀ v ∈ [V.non, .bl true, .bl false, .int (-1), .str "0", .str "1", .str "", .ref p1, .ref p2, .int x, .str "bit", .ref p3, .ref p5, .ref p7, .str "000"], ∃ d, Dp K (dif B B5) v d ∧ okD 3 d = true ∧ isBitD d = false ∧ (rowD d = true → (lensD d).length ≤ 1 ∧ (∀ n ∈ lensD d, n ≤ 10) ∧ kr (lensD d) ≤ 2 ^ 40) ∧ isNumD d = false := by
        have nr : ∀ d : PyData, rowD d = false → (rowD d = true → (lensD d).length ≤ 1 ∧ (∀ n ∈ lensD d, n ≤ 10) ∧ kr (lensD d) ≤ 2 ^ 40) := fun d h z => by rw [h] at z; cases z
        simp only [List.forall_mem_cons]
        refine ⟨⟨_, .non, rfl, rfl, nr _ rfl, rfl⟩, ⟨_, .bl _, rfl, rfl, nr _ rfl, rfl⟩, ⟨_, .bl _, rfl, rfl, nr _ rfl, rfl⟩, ⟨_, .int _, rfl, rfl, nr _ rfl, rfl⟩, ⟨_, .str _, rfl, rfl, nr _ rfl, rfl⟩, ⟨_, .str _, rfl, rfl, nr _ rfl, rfl⟩, ⟨_, .str _, rfl, rfl, nr _ rfl, rfl⟩, ⟨_, .tup (SqT.of g1) (.cons (.int _) .nil), rfl, rfl, fun _ => ⟨by decide, by decide, by decide⟩, rfl⟩, ⟨_, .lst (SqL.of g2) (.cons (.int _) .nil), rfl, rfl, fun _ => ⟨by decide, by decide, by decide⟩, rfl⟩, ⟨_, .int _, rfl, nb _ (by omega), nr _ rfl, decide_eq_false (by omega)⟩, ⟨_, .str _, rfl, rfl, nr _ rfl, rfl⟩, ⟨_, .tup (SqT.of g3) .nil, rfl, rfl, fun _ => ⟨by decide, by decide, by decide⟩, rfl⟩, ⟨_, .lst (SqL.of g5) (.cons (.lst (SqL.of g4) (.cons (.int _) .nil)) .nil), rfl, rfl, nr _ rfl, rfl⟩, ⟨_, .lst (SqL.of g7) .nil, rfl, rfl, fun _ => ⟨by decide, by decide, by decide⟩, rfl⟩, ⟨_, .str _, rfl, rfl, nr _ rfl, rfl⟩, fun v hv => by cases hv⟩
      refine ⟨_, rfl, _, rfl, _, t, _, 15, rfl, U6, by decide, by decide, by omega, fun H7 i T7 i0 i1 => ?_⟩
      obtain ⟨i, rfl⟩ := nat_of i0
      have hil : i < 15 := by omega
      obtain ⟨y, hy⟩ : ∃ y, [V.non, .bl true, .bl false, .int (-1), .str "0", .str "1", .str "", .ref p1, .ref p2, .int x, .str "bit", .ref p3, .ref p5, .ref p7, .str "000"][i]? = some y := ⟨_, List.getElem?_eq_getElem hil⟩
      obtain ⟨d, hd, ok, hb, hr, hn⟩ := all y (List.mem_of_getElem? hy)
      refine ⟨p6, _, _, _, rfl, rfl, SqL.of (T7.at upd_same), atI_nat hy, ?_⟩
      exact q B5 H7 _ d sB ((T7.shrink (same_upd b6)).le (by omega)) hd ok hb hr hn
end

/-! ### budgets that a breaker takes, drawn -/
theorem hs_perm (L : Nat) {a b : List Nat} (h : a.Perm b) : hs L a = hs L b := by
  induction h with
  | nil => rfl
  | cons x _ ih =>
    show 2 ^ (L - x) + _ = 2 ^ (L - x) + _
    rw [ih]
  | swap x y l =>
    show 2 ^ (L - y) + (2 ^ (L - x) + hs L l) = 2 ^ (L - x) + (2 ^ (L - y) + hs L l)
    omega
  | trans _ _ h1 h2 => rw [h1, h2]
theorem hs_set {L j n : Nat} : ∀ {bs : List Nat}, j < bs.length → hs L (bs.set j n) + 2 ^ (L - bs.getD j 0) = hs L bs + 2 ^ (L - n)
  | [], h => by simp at h
  | x :: r, h => by
    cases j with
    | zero =>
      show 2 ^ (L - n) + hs L r + 2 ^ (L - x) = 2 ^ (L - x) + hs L r + 2 ^ (L - n)
      omega
    | succ j =>
      have ih := hs_set (L := L) (n := n) (bs := r) (j := j) (by simpa using h)
      show 2 ^ (L - x) + hs L (r.set j n) + 2 ^ (L - r.getD j 0) = 2 ^ (L - x) + hs L r + 2 ^ (L - n)
      omega
/-- one split in two of the next depth -/
theorem hs_split {j : Nat} {bs : List Nat} (h : j < bs.length) (h9 : bs.getD j 0 < 10) : hs 10 (bs.set j (bs.getD j 0 + 1) ++ [bs.getD j 0 + 1]) = hs 10 bs := by
  have e := hs_set (L := 10) (n := bs.getD j 0 + 1) h
  rw [hs_app]
  show _ + (2 ^ (10 - (bs.getD j 0 + 1)) + 0) = _
  have p : 2 ^ (10 - bs.getD j 0) = 2 * 2 ^ (10 - (bs.getD j 0 + 1)) := by
    rw [show 10 - bs.getD j 0 = (10 - (bs.getD j 0 + 1)) + 1 by omega, Nat.pow_succ, Nat.mul_comm]
  omega
theorem era_perm : ∀ {l : List Nat} {i : Nat} (h : i < l.length), (l[i] :: l.eraseIdx i).Perm l
  | [], i, h => by simp at h
  | x :: r, 0, _ => List.Perm.refl _
  | x :: r, i + 1, h => by
    have ih := era_perm (l := r) (i := i) (by simpa using h)
    rw [List.getElem_cons_succ, List.eraseIdx_cons_succ]
    exact (List.Perm.swap _ _ _).trans (ih.cons x)
def spBud23 : Sp := fun vs H Q _ => ∃ (B : Hp) (t : Addr) (c : Nat), vs = [.ref t] ∧ Tp B H t c ∧ c < 1000000 ∧ ∀ B' H' p bs, Nl B B' H' t p (c + 100) bs → 2 ≤ bs.length → bs.length ≤ 12 → (∀ b ∈ bs, b ≤ 10) → 2 ^ 11 ≤ hs 10 bs → Q (.ref p) H'
section
variable {P : Program} {w : World} {K : PySem.W.Frag} {mg : Str → Option Value} {base : Heap} {C_Breaker : Addr}
theorem ok_law_budgets {f : Addr} {fd : FuncData} (F : Fun K "_law_budgets" "_law_budgets" s_law_budgets f fd) (T : Txt K mg C_Breaker) (c_law_draw : Cal P w K mg base 1 "_law_draw" spDraw) : FnOk P w K mg base CX0 2 f fd ["tape"] spBud23 := by
  refine F.ok sc_law_budgets (fun vs H Q E h => ?_) (fun cdv A outer s H vs Q E hr h => ?_)
  · obtain ⟨B, t, c, rfl, _⟩ := h
    rfl
  · obtain ⟨B, t, c, rfl, T0, hc0, q⟩ := h
    refine ⟨_, (C8.pss_cut (ps_setLc (i := 1) (own := [("k", 2)]) rfl sc_law_budgets.nd rfl rfl (sw_true rfl rfl rfl (by decide +kernel)) (pi_range1 (by rfl) T.b_range (pa_cons (pe_op op_add pe_int (pe_op op_fdiv (pe_c c_law_draw hr (by omega) (by rfl) (pa_cons (pv 0) (pa_cons pe_int pa_nil))) pe_int)) pa_nil)) (blkOk_by (own := [("k", 2)]) (N := ["tape", "budgets", "k", "many", "shape", "at"]) (sc := defScope s_law_budgets) (by decide +kernel)) (fun _ _ _ _ _ => (pg_name (i := 2) sc_law_budgets.nd rfl (by first | exact Or.inl rfl | exact Or.inr rfl))) (fun _ _ _ _ _ => pts_nil) (fun _ _ _ _ _ => pe_int))
    (pss_cons (ps_set (i := 3) sc_law_budgets.nd rfl (by first | exact Or.inl rfl | exact Or.inr rfl) (pe_c c_law_draw hr (by omega) (by rfl) (pa_cons (pv 0) (pa_cons pe_int pa_nil))))
    (C8.pss_cut (ps_if (pt_cmpR op_eq (pe_c c_law_draw hr (by omega) (by rfl) (pa_cons (pv 0) (pa_cons pe_int pa_nil))) pe_int (nomark _))
      (pss_one (ps_set (i := 3) sc_law_budgets.nd rfl (by first | exact Or.inl rfl | exact Or.inr rfl) (pe_c c_law_draw hr (by omega) (by rfl) (pa_cons (pv 0) (pa_cons pe_int pa_nil)))))
      pss_nil)
    (pss_cons (ps_set (i := 4) sc_law_budgets.nd rfl (by first | exact Or.inl rfl | exact Or.inr rfl) (pe_c c_law_draw hr (by omega) (by rfl) (pa_cons (pv 0) (pa_cons pe_int pa_nil))))
    (pss_cons (ps_for PassesOwn.never rfl (pi_range1 (by rfl) T.b_range (pa_cons (pv 3) pa_nil)) (pg_name (i := 2) sc_law_budgets.nd rfl (by first | exact Or.inl rfl | exact Or.inr rfl))
      (pss_cons (ps_set (i := 5) sc_law_budgets.nd rfl (by first | exact Or.inl rfl | exact Or.inr rfl) (pe_c c_law_draw hr (by omega) (by rfl) (pa_cons (pv 0) (pa_cons (pe_callB call_len_seq (by rfl) T.b_len PySem.boot_len (pa_cons (pv 1) pa_nil)) pa_nil))))
        (C8.pss_cut (ps_if (pt_cmpR op_eq (pv 4) pe_int (nomark _))
          (pss_one (ps_set (i := 5) sc_law_budgets.nd rfl (by first | exact Or.inl rfl | exact Or.inr rfl) (pe_op op_sub (pe_callB call_len_seq (by rfl) T.b_len PySem.boot_len (pa_cons (pv 1) pa_nil)) pe_int)))
          pss_nil)
        (C8.pss_cut (ps_if (pt_cmpR op_eq (pv 4) pe_int (nomark _))
          (pss_one (ps_set (i := 5) sc_law_budgets.nd rfl (by first | exact Or.inl rfl | exact Or.inr rfl) (pe_bm PySem.F.plainAttrs_list PySem.F.slot_list_index PySem.F.type_list_index mt_index (pv 1) (pa_cons (pe_callB (cr_min rfl) (by rfl) T.b_min (by decide +kernel) (pa_cons (pv 1) pa_nil)) pa_nil))))
          pss_nil)
        (pss_one (ps_if (PW.pt (pw_and (pt_cmpR op_lt (pe_ix ix_list (pv 1) (pv 5) (fun _ _ => rfl)) pe_int (nomark _)) (pw_and1 (pt_cmpR op_lt (pe_callB call_len_seq (by rfl) T.b_len PySem.boot_len (pa_cons (pv 1) pa_nil)) pe_int (nomark _)))))
          (pss_cons (ps_asg (pe_op op_add (pe_ix ix_list (pv 1) (pv 5) (fun _ _ => rfl)) pe_int) (pg_sub (pv 1) (pv 5) set_list))
            (pss_one (ps_expr (pe_bm PySem.F.plainAttrs_list PySem.F.slot_list_append PySem.F.type_list_append mt_append (pv 1) (pa_cons (pe_ix ix_list (pv 1) (pv 5) (fun _ _ => rfl)) pa_nil)))))
          pss_nil))))))
    (C8.pss_cut (ps_if (PW.pt (pw_and (pt_cmpR op_eq (pv 4) pe_int (nomark _)) (pw_and1 (pt_cmpR op_lt (pe_callB call_len_seq (by rfl) T.b_len PySem.boot_len (pa_cons (pv 1) pa_nil)) pe_int (nomark _)))))
      (pss_one (ps_expr (pe_bm PySem.F.plainAttrs_list PySem.F.slot_list_append PySem.F.type_list_append mt_append (pv 1) (pa_cons (pe_c c_law_draw hr (by omega) (by rfl) (pa_cons (pv 0) (pa_cons pe_int pa_nil))) pa_nil))))
      pss_nil)
    (pss_cons (ps_for PassesOwn.never rfl (pi_range1 (by rfl) T.b_range (pa_cons (pe_callB call_len_seq (by rfl) T.b_len PySem.boot_len (pa_cons (pv 1) pa_nil)) pa_nil)) (pg_name (i := 2) sc_law_budgets.nd rfl (by first | exact Or.inl rfl | exact Or.inr rfl))
      (pss_cons (ps_set (i := 5) sc_law_budgets.nd rfl (by first | exact Or.inl rfl | exact Or.inr rfl) (pe_c c_law_draw hr (by omega) (by rfl) (pa_cons (pv 0) (pa_cons (pe_callB call_len_seq (by rfl) T.b_len PySem.boot_len (pa_cons (pv 1) pa_nil)) pa_nil))))
        (pss_one (ps_expr (pe_bm PySem.F.plainAttrs_list PySem.F.slot_list_append PySem.F.type_list_append mt_append (pv 1) (pa_cons (pe_bm PySem.F.plainAttrs_list PySem.F.slot_list_pop PySem.F.type_list_pop mt_popAt (pv 1) (pa_cons (pv 5) pa_nil)) pa_nil))))))
    (pss_one (ps_ret (pv 1)))))))))), ?_⟩
    have hrep : ∀ k, hs 10 (List.replicate k 0) = k * 2 ^ 10 := fun k => by
      induction k with
      | zero => rfl
      | succ k ih =>
        show 2 ^ (10 - 0) + hs 10 (List.replicate k 0) = _
        rw [ih]
        omega
    refine ⟨fun σ H' => ∃ (B1 : Hp) (p : Addr) (bs : List Nat), σ = [some (.ref t), some (.ref p), none, none, none, none] ∧ Nl B B1 H' t p (c + 1) bs ∧ 2 ≤ bs.length ∧ bs.length ≤ 3 ∧ (∀ b ∈ bs, b ≤ 10) ∧ 2 ^ 11 ≤ hs 10 bs, ?_, ?_⟩
    · refine ⟨_, rfl, B, t, c, 3, rfl, T0, by decide, by decide, by omega, fun H1 x T1 x0 x1 => ⟨_, _, rfl, rfl, ⟨by decide, by decide⟩, _, _, rfl, rfl, ?_⟩⟩
      refine ⟨2 + x / 2, rfl, by omega, by omega, fun D hD => lc_range (lo := 0) (n := (2 + x / 2).toNat) (fun i H' => ∃ B', Nl B B' H' t D (c + 1) (List.replicate i 0)) ⟨_, same_upd (T1.isn hD), T1.new (o := .lst []) hD, upd_same, T1.isn hD⟩ ?_ ?_⟩
      · rintro i H' hi ⟨B', N⟩
        refine ⟨rfl, ?_⟩
        refine tyes ?_
        have N8 := N.app 0
        rw [← List.replicate_succ'] at N8
        exact ⟨_, N.hd, szl (by rw [List.length_map, List.length_replicate]; omega), _, N8⟩
      · rintro H2 ⟨B2, N⟩
        refine ⟨B2, D, _, rfl, N, by rw [List.length_replicate]; omega, by rw [List.length_replicate]; omega, fun b hb => by rw [List.eq_of_mem_replicate hb]; omega, ?_⟩
        rw [hrep]
        omega
    rintro σ H2 ⟨B2, p, bs0, rfl, N2, l20, l30, h100, hs0⟩
    refine ⟨_, rfl, B2, t, _, 8, rfl, N2.tp, by decide, by decide, by omega, fun H3 m0 T3 m00 m01 => ?_⟩
    obtain ⟨m0, rfl⟩ := nat_of m00
    have N3 := N2.drw T3
    refine ⟨fun σ H' => ∃ m : Nat, σ = [some (.ref t), some (.ref p), none, some (.int (m : Int)), none, none] ∧ Nl B B2 H' t p (c + 4) bs0 ∧ m ≤ 12, ?_, ?_⟩
    · refine ⟨_, rfl, B2, t, _, 5, rfl, N3.tp, by decide, by decide, by omega, fun H4 y T4 _ _ => ⟨rfl, _, rfl, ite2 (fun _ => ?_) (fun _ => ?_)⟩⟩
      · refine ⟨_, rfl, B2, t, _, 12, rfl, T4, by decide, by decide, by omega, fun H5 n T5 n0 n1 => ?_⟩
        obtain ⟨n, rfl⟩ := nat_of n0
        exact ⟨n, rfl, (N3.drw T5).le (by omega), by omega⟩
      · exact ⟨m0, rfl, (N3.drw T4).le (by omega), by omega⟩
    rintro σ H5 ⟨m, rfl, N5, hm⟩
    refine ⟨_, rfl, B2, t, _, 5, rfl, N5.tp, by decide, by decide, by omega, fun H6 sh T6 _ _ => ?_⟩
    have N6 := N5.drw T6
    refine ⟨_, rfl, ((m : Nat) : Int), rfl, by omega, by omega, for_range (n := m) (fun i σ H' => ∃ (B' : Hp) (bs : List Nat) (v2 v5 : Option V), σ = [some (.ref t), some (.ref p), v2, some (.int (m : Int)), some (.int sh), v5] ∧ Nl B B' H' t p (c + 5 + i) bs ∧ 2 ≤ bs.length ∧ bs.length ≤ 12 ∧ (∀ b ∈ bs, b ≤ 10) ∧ 2 ^ 11 ≤ hs 10 bs) ⟨B2, bs0, none, none, rfl, N6.le (by omega), l20, by omega, h100, hs0⟩ ?_ ?_⟩
    · rintro i σ H' hi ⟨B', bs, v2, v5, rfl, N, l2, l12, h10, hsb⟩
      refine ⟨_, rfl, _, rfl, p, _, rfl, .inl (SqL.of N.hd), ?_⟩
      refine ⟨B', t, _, (bs.length : Int), by rw [List.length_map]; rfl, N.tp, by omega, by omega, by omega, fun H6 a0 T6 a00 a01 => ?_⟩
      obtain ⟨a0, rfl⟩ := nat_of a00
      have N6 := N.drw T6
      refine ⟨fun σ H2 => ∃ at1 : Nat, σ = [some (.ref t), some (.ref p), some (.int (0 + (i : Int))), some (.int (m : Int)), some (.int sh), some (.int (at1 : Int))] ∧ H2 = H6 ∧ at1 < bs.length, ?_, ?_⟩
      · refine ⟨_, rfl, rfl, _, rfl, ite2 (fun _ => ?_) (fun _ => ?_)⟩
        · refine ⟨_, rfl, p, _, rfl, .inl (SqL.of N6.hd), _, _, rfl, rfl, bs.length - 1, ?_, rfl, by omega⟩
          show [_, _, _, _, _, some (V.int (((bs.map nI).length : Nat) - 1 : Int))] = _
          rw [List.length_map, show ((bs.length : Nat) : Int) - 1 = ((bs.length - 1 : Nat) : Int) by omega]
        · exact ⟨a0, rfl, rfl, by omega⟩
      rintro σ H7 ⟨at1, rfl, rfl, hat1⟩
      refine ⟨fun σ H2 => ∃ at1 : Nat, σ = [some (.ref t), some (.ref p), some (.int (0 + (i : Int))), some (.int (m : Int)), some (.int sh), some (.int (at1 : Int))] ∧ H2 = H7 ∧ at1 < bs.length, ?_, ?_⟩
      · refine ⟨_, rfl, rfl, _, rfl, ite2 (fun _ => ?_) (fun _ => ⟨at1, rfl, rfl, hat1⟩)⟩
        refine ⟨_, rfl, .inl ⟨rfl, _, SqL.of N6.hd⟩, _, rfl, p, _, rfl, sqI (SqL.of N6.hd), by rw [List.length_map]; omega, fun mx hmx _ => ?_⟩
        obtain ⟨n, hn, rfl⟩ := List.mem_map.mp hmx
        obtain ⟨j, hj, hmin⟩ := idxN hn
        exact ⟨p, _, .int (n : Int), j, nI n, rfl, rfl, SqL.of N6.hd, rfl, flatN bs, ix_get hj, ix_eq n, ix_min hmin, j, rfl, rfl, (List.getElem?_eq_some_iff.mp hj).1⟩
      rintro σ H8 ⟨at2, rfl, rfl, hat⟩
      refine ⟨_, rfl, _, rfl, p, _, _, _, rfl, rfl, SqL.of N6.hd, at_num hat, _, _, rfl, rfl, _, rfl, ite2 (fun h => ?_) (fun h => iteF ?_)⟩
      · have h9 := of_decide_eq_true h
        refine ⟨_, rfl, p, _, rfl, .inl (SqL.of N6.hd), _, _, rfl, rfl, _, rfl, ite2 (fun h2 => ?_) (fun h2 => ?_)⟩
        · have h12 := of_decide_eq_true h2
          rw [List.length_map] at h12
          have N8 := N6.put at2 (bs.getD at2 0 + 1)
          refine ⟨_, rfl, _, rfl, p, _, _, _, rfl, rfl, SqL.of N6.hd, at_num hat, _, _, rfl, rfl, _, rfl, _, rfl, p, _, _, at2, rfl, rfl, N6.hd, ixN_nat (by rw [List.length_map]; omega), ?_⟩
          have hg : (bs.set at2 (bs.getD at2 0 + 1)).getD at2 0 = bs.getD at2 0 + 1 := by
            rw [List.getD_eq_getElem?_getD, List.getElem?_set_self hat]
            rfl
          have hgat : atI ((bs.map nI).set at2 (nI (bs.getD at2 0 + 1))) (at2 : Int) = some (.int ((bs.getD at2 0 + 1 : Nat) : Int)) := by
            rw [setN]
            have := at_num (bs := bs.set at2 (bs.getD at2 0 + 1)) (i := at2) (by rw [List.length_set]; exact hat)
            rwa [hg] at this
          refine ⟨_, rfl, .inl ⟨rfl, _, SqL.of upd_same⟩, _, rfl, _, rfl, p, _, _, _, rfl, rfl, SqL.of upd_same, hgat, p, _, _, rfl, rfl, upd_same, szl (by rw [List.length_set, List.length_map]; omega), ?_⟩
          have N9 := N8.app (bs.getD at2 0 + 1)
          rw [← setN] at N9
          exact ⟨_, bs.set at2 (bs.getD at2 0 + 1) ++ [bs.getD at2 0 + 1], _, _, rfl, N9.le (by omega), by simp; omega, by simp; omega, mem_app_le (mem_set_le h10 (by omega)) (by omega), by rw [hs_split hat (by omega)]; exact hsb⟩
        · exact ⟨B', bs, _, _, rfl, N6.le (by omega), l2, l12, h10, hsb⟩
      · exact ⟨B', bs, _, _, rfl, N6.le (by omega), l2, l12, h10, hsb⟩
    · rintro σ H9 ⟨B9, bs, v2, v5, rfl, N9, l2, l12, h10, hsb⟩
      refine ⟨fun σ H' => ∃ (B' : Hp) (bs : List Nat) (v2 v5 : Option V), σ = [some (.ref t), some (.ref p), v2, some (.int (m : Int)), some (.int sh), v5] ∧ Nl B B' H' t p (c + 40) bs ∧ 2 ≤ bs.length ∧ bs.length ≤ 12 ∧ (∀ b ∈ bs, b ≤ 10) ∧ 2 ^ 11 ≤ hs 10 bs, ?_, ?_⟩
      · refine ⟨_, rfl, rfl, _, rfl, ite2 (fun _ => ?_) (fun _ => iteF ⟨B9, bs, v2, v5, rfl, N9.le (by omega), l2, l12, h10, hsb⟩)⟩
        refine ⟨_, rfl, p, _, rfl, .inl (SqL.of N9.hd), _, _, rfl, rfl, _, rfl, ite2 (fun h => ?_) (fun _ => ⟨B9, bs, v2, v5, rfl, N9.le (by omega), l2, l12, h10, hsb⟩)⟩
        have h12 := of_decide_eq_true h
        rw [List.length_map] at h12
        refine ⟨_, rfl, .inl ⟨rfl, _, SqL.of N9.hd⟩, _, rfl, B9, t, _, 11, rfl, N9.tp, by decide, by decide, by omega, fun H10 y T10 y0 y1 => ?_⟩
        obtain ⟨y, rfl⟩ := nat_of y0
        have N10 := N9.drw T10
        refine ⟨p, _, _, rfl, rfl, N10.hd, szl (by rw [List.length_map]; omega), ?_⟩
        exact ⟨_, bs ++ [y], v2, v5, rfl, (N10.app y).le (by omega), by simp; omega, by simp; omega, mem_app_le h10 (by omega), by rw [hs_app]; omega⟩
      rintro σ H11 ⟨B11, bs1, w2, w5, rfl, N11, l21, l121, h101, hsb1⟩
      refine ⟨_, rfl, p, _, rfl, .inl (SqL.of N11.hd), ((bs1.length : Nat) : Int), by rw [List.length_map], by omega, by omega, for_range (n := bs1.length) (fun i σ H' => ∃ (B' : Hp) (bs : List Nat) (v2 v5 : Option V), σ = [some (.ref t), some (.ref p), v2, some (.int (m : Int)), some (.int sh), v5] ∧ Nl B B' H' t p (c + 40 + i) bs ∧ bs.Perm bs1) ⟨B11, bs1, w2, w5, rfl, N11, List.Perm.refl _⟩ ?_ ?_⟩
      · rintro i σ H' hi ⟨B', bs, v2, v5, rfl, N, hp⟩
        have hlen := hp.length_eq
        refine ⟨_, rfl, _, rfl, p, _, rfl, .inl (SqL.of N.hd), ?_⟩
        refine ⟨B', t, _, (bs.length : Int), by rw [List.length_map]; rfl, N.tp, by omega, by omega, by omega, fun H6 a0 T6 a00 a01 => ?_⟩
        obtain ⟨a0, rfl⟩ := nat_of a00
        have N6 := N.drw T6
        have ha : a0 < bs.length := by omega
        have N7 := N6.era a0
        refine ⟨_, rfl, .inl ⟨rfl, _, SqL.of N6.hd⟩, _, rfl, .inl ⟨rfl, _, SqL.of N6.hd⟩, _, rfl, p, _, a0, a0, _, rfl, rfl, N6.hd, by omega, by omega, seqIx_nat (by rw [List.length_map]; omega), by rw [List.getElem?_map, List.getElem?_eq_getElem ha]; rfl, ?_⟩
        have N8 := N7.app bs[a0]
        refine ⟨p, _, _, rfl, rfl, upd_same, szl (by rw [List.length_eraseIdx, List.length_map]; split <;> omega), ?_⟩
        rw [← eraN bs a0] at N8
        exact ⟨_, _, _, _, rfl, N8.le (by omega), ((List.perm_append_singleton _ _).trans (era_perm ha)).trans hp⟩
      · rintro σ H12 ⟨B12, bs, v2, v5, rfl, N12, hp⟩
        have hlen := hp.length_eq
        exact ⟨_, rfl, q _ _ p bs (N12.le (by omega)) (by omega) (by omega) (fun b hb => h101 b (hp.mem_iff.mp hb)) (by rw [hs_perm 10 hp]; exact hsb1)⟩
end

theorem hs_take_lt {L i m : Nat} {ls : List Nat} (hi : i < m) (hm : m ≤ ls.length) : hs L (ls.take i) < hs L (ls.take m) := by
  have e : ls.take m = ls.take i ++ (ls.take m).drop i := by
    have := List.take_append_drop i (ls.take m)
    rw [List.take_take, Nat.min_eq_left (by omega)] at this
    exact this.symm
  rw [e, hs_app]
  have : (ls.take m).drop i ≠ [] := fun z => by
    have := congrArg List.length z
    rw [List.length_drop, List.length_take] at this
    simp at this
    omega
  cases h : (ls.take m).drop i with
  | nil => exact absurd h this
  | cons x r =>
    show _ < _ + (2 ^ (L - x) + hs L r)
    have := Nat.pow_pos (n := L - x) (show 0 < 2 by decide)
    omega

/-! ### a breaker and the law's own one, side by side -/
def fsN (kb : List (Int × Int)) : List Nat := kb.map fun p => p.1.toNat
structure Bk (ko kb : List (Int × Int)) : Prop where
  len : kb.length ≤ 1000
  perm : kb.Perm ko
  srt : kb.Pairwise (fun p q => SrtO.lexB q p = false)
  nat : ∀ p ∈ kb, 0 ≤ p.1 ∧ p.1 ≤ 10
  big : 2 ^ 11 ≤ hs 10 (fsN kb)
theorem Bk.le {ko kb : List (Int × Int)} (h : Bk ko kb) : ∀ l ∈ fsN kb, l ≤ 10 := fun l hl => by
  obtain ⟨p, hp, rfl⟩ := List.mem_map.mp hl
  have := h.nat p hp
  omega
theorem Bk.get {ko kb : List (Int × Int)} (h : Bk ko kb) (i : Nat) (p : Int × Int) (hi : kb[i]? = some p) : ∃ l : Nat, (fsN kb)[i]? = some l ∧ p.1 = l := by
  have := h.nat p (List.mem_of_getElem? hi)
  refine ⟨p.1.toNat, ?_, by omega⟩
  unfold fsN
  rw [List.getElem?_map, hi]
  rfl
theorem Bk.fst {ko kb : List (Int × Int)} (h : Bk ko kb) : (fsN kb).Pairwise (· ≤ ·) := by
  unfold fsN
  rw [List.pairwise_map]
  refine h.srt.imp fun {p q} hpq => ?_
  have := SrtO.lexB_no.mp hpq
  omega
theorem kr_hs {ls : List Nat} (h : ∀ l ∈ ls, l ≤ 10) : kr ls = 2 ^ 30 * hs 10 ls := by
  rw [← hs_kr]
  exact hs_up (by decide) h
theorem Bk.kr {ko kb : List (Int × Int)} (h : Bk ko kb) : 2 ^ 41 ≤ KB.kr (fsN kb) := by
  rw [kr_hs h.le]
  have := h.big
  omega
/-- a beginning fills the room exactly -/
theorem cut_at {ls : List Nat} (hs : ls.Pairwise (· ≤ ·)) (h40 : ∀ l ∈ ls, l ≤ 40) (hk : 2 ^ 40 ≤ KB.kr ls) : ∃ m, m ≤ ls.length ∧ KB.kr (ls.take m) = 2 ^ 40 := by
  have key : ∀ n, n ≤ ls.length → (∃ m, m ≤ ls.length ∧ KB.kr (ls.take m) = 2 ^ 40) ∨ KB.kr (ls.take n) < 2 ^ 40 := by
    intro n
    induction n with
    | zero => exact fun _ => .inr (by show 0 < 2 ^ 40; decide)
    | succ n ih =>
      intro hn
      rcases ih (by omega) with h | h
      · exact .inl h
      have hg := List.getElem?_eq_getElem (show n < ls.length by omega)
      have d1 := ua_dvd hs hg n (Nat.le_refl _)
      unfold ua at d1
      have d2 : 2 ^ (40 - ls[n]) ∣ 2 ^ 40 := Nat.pow_dvd_pow 2 (by omega)
      have e := kr_take hg
      have le : KB.kr (ls.take n) + 2 ^ (40 - ls[n]) ≤ 2 ^ 40 := by
        obtain ⟨a, ha⟩ := d1
        obtain ⟨b, hb⟩ := d2
        rw [ha, hb] at h ⊢
        have := Nat.lt_of_mul_lt_mul_left h
        rw [← Nat.mul_succ]
        exact Nat.mul_le_mul_left _ this
      rcases Nat.lt_or_eq_of_le le with z | z
      · exact .inr (by omega)
      · exact .inl ⟨n + 1, hn, by omega⟩
  rcases key ls.length (Nat.le_refl _) with h | h
  · exact h
  · rw [List.take_length] at h
    omega
theorem cut_one {ls : List Nat} {m n : Nat} (hm : m ≤ ls.length) (hn : n ≤ ls.length) (h : KB.kr (ls.take m) = KB.kr (ls.take n)) : m = n := by
  rw [← hs_kr, ← hs_kr] at h
  rcases Nat.lt_trichotomy m n with z | z | z
  · have := hs_take_lt (L := 40) z hn
    omega
  · exact z
  · have := hs_take_lt (L := 40) z hm
    omega
theorem Bk.cut {ko kb : List (Int × Int)} (h : Bk ko kb) : ∃ m, m ≤ (fsN kb).length ∧ hs 10 ((fsN kb).take m) = 2 ^ 10 ∧ KB.kr ((fsN kb).take m) = 2 ^ 40 := by
  obtain ⟨m, hm, e⟩ := cut_at h.fst (fun l hl => by have := h.le l hl; omega) (by have := h.kr; omega)
  refine ⟨m, hm, ?_, e⟩
  rw [kr_hs fun l hl => h.le l (List.mem_of_mem_take hl)] at e
  omega
def lessK (ks : List (Int × Int)) : List (Int × Int) := ks.map fun p => (p.1 - 1, p.2)
theorem hs_lessK : ∀ {ks : List (Int × Int)}, (∀ p ∈ ks, 1 ≤ p.1 ∧ p.1 ≤ 10) → hs 10 (fsN (lessK ks)) = 2 * hs 10 (fsN ks)
  | [], _ => rfl
  | p :: r, h => by
    have ih := hs_lessK (ks := r) fun q hq => h q (List.mem_cons_of_mem _ hq)
    have hp := h p (List.mem_cons_self ..)
    show 2 ^ (10 - (p.1 - 1).toNat) + hs 10 (fsN (lessK r)) = 2 * (2 ^ (10 - p.1.toNat) + hs 10 (fsN r))
    rw [ih, show 10 - (p.1 - 1).toNat = (10 - p.1.toNat) + 1 by omega, Nat.pow_succ]
    omega
theorem sideK_sub (b m : Nat) (ks : List (Int × Int)) : (sideK b m ks).Sublist ks := by
  unfold sideK
  split
  · exact List.take_sublist _ _
  · exact List.drop_sublist _ _
theorem Bk.less {ko kb : List (Int × Int)} (h : Bk ko kb) {b m : Nat} (hm : hs 10 ((fsN kb).take m) = 2 ^ 10) (h0 : ∀ p ∈ sideK b m kb, p.1 ≠ 0) : Bk (lessK (sideK b m kb)) (lessK (sideK b m kb)) := by
  have sub := sideK_sub b m kb
  have hn : ∀ p ∈ sideK b m kb, 1 ≤ p.1 ∧ p.1 ≤ 10 := fun p hp => by
    have := h.nat p (sub.subset hp)
    have := h0 p hp
    omega
  refine ⟨?_, List.Perm.refl _, ?_, fun p hp => ?_, ?_⟩
  · unfold lessK
    rw [List.length_map]
    exact Nat.le_trans sub.length_le h.len
  · unfold lessK
    rw [List.pairwise_map]
    refine (h.srt.sublist sub).imp fun {p q} hpq => ?_
    have := SrtO.lexB_no.mp hpq
    exact SrtO.lexB_no.mpr (by simp only; omega)
  · obtain ⟨q, hq, rfl⟩ := List.mem_map.mp hp
    have := hn q hq
    show 0 ≤ q.1 - 1 ∧ q.1 - 1 ≤ 10
    omega
  · rw [hs_lessK hn]
    have : 2 ^ 10 ≤ hs 10 (fsN (sideK b m kb)) := by
      have e : hs 10 (fsN kb) = hs 10 ((fsN kb).take m) + hs 10 ((fsN kb).drop m) := by
        rw [← hs_app, List.take_append_drop]
      have := h.big
      unfold sideK
      split
      · unfold fsN at hm ⊢
        rw [List.map_take]
        omega
      · unfold fsN at hm e this ⊢
        rw [List.map_drop]
        omega
    omega
/-! ### lengths of told signs -/
theorem tolS_len (k : Nat) : (tolS k).length = 1 := by cases k <;> rfl

/-! ### the rows that the sides write (k24) -/
def cutN (ls : List Nat) : Nat := ((List.range (ls.length + 1)).find? fun m => decide (hs 10 (ls.take m) = 2 ^ 10)).getD 0
theorem cutN_is {ls : List Nat} {m : Nat} (hm : m ≤ ls.length) (h : hs 10 (ls.take m) = 2 ^ 10) : cutN ls = m := by
  unfold cutN
  cases e : (List.range (ls.length + 1)).find? fun m => decide (hs 10 (ls.take m) = 2 ^ 10) with
  | none => exact absurd (decide_eq_true h) (List.find?_eq_none.mp e m (List.mem_range.mpr (by omega)))
  | some k =>
    have h1 : hs 10 (ls.take k) = 2 ^ 10 := by have := List.find?_some e; exact of_decide_eq_true this
    have h2 := List.mem_range.mp (List.mem_of_find?_eq_some e)
    show k = m
    rcases Nat.lt_trichotomy k m with z | z | z
    · have := hs_take_lt (L := 10) z hm
      omega
    · exact z
    · have := hs_take_lt (L := 10) z (show k ≤ ls.length by omega)
      omega
/-- the side of a sign -/
def sd (s : Nat) (ks : List (Int × Int)) : List (Int × Int) := sideK (1 - s) (cutN (fsN ks)) ks
theorem sd_zero (ks : List (Int × Int)) : sd 0 ks = ks.take (cutN (fsN ks)) := rfl
theorem sd_one (ks : List (Int × Int)) : sd 1 ks = ks.drop (cutN (fsN ks)) := rfl
theorem sd_sub (s : Nat) (ks : List (Int × Int)) : (sd s ks).Sublist ks := sideK_sub _ _ _
def bkB (ks : List (Int × Int)) : Bool := ks.any fun p => p.1 == 0
def hasQ (q : Int) (ks : List (Int × Int)) : Bool := ks.any fun p => p.2 == q
theorem hasQ_iff {q : Int} {ks : List (Int × Int)} : hasQ q ks = true ↔ ∃ p ∈ ks, p.2 = q := by
  unfold hasQ
  rw [List.any_eq_true]
  exact ⟨fun ⟨p, h, e⟩ => ⟨p, h, by simpa using e⟩, fun ⟨p, h, e⟩ => ⟨p, h, by simpa using e⟩⟩
theorem hasQ_no {q : Int} {ks : List (Int × Int)} : hasQ q ks = false ↔ ∀ p ∈ ks, p.2 ≠ q := by
  rw [← Bool.not_eq_true, hasQ_iff]
  exact ⟨fun h p hp e => h ⟨p, hp, e⟩, fun h ⟨p, hp, e⟩ => h p hp e⟩
theorem hasQ_less (q : Int) (ks : List (Int × Int)) : hasQ q (lessK ks) = hasQ q ks := by
  unfold hasQ lessK
  rw [List.any_map]
  rfl
theorem hasQ_sub {q : Int} {xs ys : List (Int × Int)} (s : xs.Sublist ys) (h : hasQ q ys = false) : hasQ q xs = false := hasQ_no.mpr fun p hp => hasQ_no.mp h p (s.subset hp)
def wr : Nat → List (Int × Int) → Int → Str
  | 0, _, _ => ("" : Str)
  | n + 1, ks, q => if hasQ q (sd 0 ks) = true then tolS 0 ++ (if bkB (sd 0 ks) = true then ("" : Str) else wr n (lessK (sd 0 ks)) q) else if hasQ q (sd 1 ks) = true then tolS 1 ++ (if bkB (sd 1 ks) = true then ("" : Str) else wr n (lessK (sd 1 ks)) q) else ("" : Str)
/-- what a side writes -/
def sg (n s : Nat) (ks : List (Int × Int)) (q : Int) : Str := if hasQ q (sd s ks) = true then tolS s ++ (if bkB (sd s ks) = true then ("" : Str) else wr n (lessK (sd s ks)) q) else ("" : Str)
theorem wr_no : ∀ {n : Nat} {ks : List (Int × Int)} {q : Int}, hasQ q ks = false → wr n ks q = ""
  | 0, _, _, _ => rfl
  | n + 1, ks, q, h => by
    unfold wr
    rw [hasQ_sub (sd_sub 0 ks) h, hasQ_sub (sd_sub 1 ks) h]
    rfl
theorem wr_len : ∀ {n : Nat} {ks : List (Int × Int)} {q : Int}, (wr n ks q).length ≤ n
  | 0, _, _ => Nat.le_refl _
  | n + 1, ks, q => by
    have e : (("" : Str)).length = 0 := rfl
    have h0 := wr_len (n := n) (ks := lessK (sd 0 ks)) (q := q)
    have h1 := wr_len (n := n) (ks := lessK (sd 1 ks)) (q := q)
    unfold wr
    split
    · rw [len_app, tolS_len]
      split <;> omega
    · split
      · rw [len_app, tolS_len]
        split <;> omega
      · omega
def Nd (ks : List (Int × Int)) : Prop := (ks.map Prod.snd).Nodup
theorem Nd.sub {xs ys : List (Int × Int)} (h : Nd ys) (s : xs.Sublist ys) : Nd xs := List.Nodup.sublist (s.map _) h
theorem snd_less (ks : List (Int × Int)) : (lessK ks).map Prod.snd = ks.map Prod.snd := by
  unfold lessK
  rw [List.map_map]
  rfl
theorem Nd.less {ks : List (Int × Int)} (h : Nd ks) : Nd (lessK ks) := by
  unfold Nd
  rw [snd_less]
  exact h
theorem nd_two {ks : List (Int × Int)} (h : Nd ks) (m : Nat) {q : Int} (h0 : hasQ q (ks.take m) = true) : hasQ q (ks.drop m) = false := by
  obtain ⟨p, hp, rfl⟩ := hasQ_iff.mp h0
  refine hasQ_no.mpr fun p2 hp2 e => ?_
  unfold Nd at h
  rw [← List.take_append_drop m ks, List.map_append] at h
  exact (List.nodup_append.mp h).2.2 _ (List.mem_map_of_mem hp) _ (List.mem_map_of_mem hp2) e.symm
theorem wr_two {n : Nat} {ks : List (Int × Int)} (h : Nd ks) (q : Int) : wr (n + 1) ks q = sg n 0 ks q ++ sg n 1 ks q := by
  have : wr (n + 1) ks q = if hasQ q (sd 0 ks) = true then tolS 0 ++ (if bkB (sd 0 ks) = true then ("" : Str) else wr n (lessK (sd 0 ks)) q) else sg n 1 ks q := rfl
  rw [this]
  unfold sg
  by_cases h0 : hasQ q (sd 0 ks) = true
  · rw [if_pos h0, if_pos h0, if_neg (show ¬ hasQ q (sd 1 ks) = true by rw [sd_one, nd_two h _ h0]; decide), app_nil]
  · rw [if_neg h0, if_neg h0, nil_app]
theorem has_side {ks : List (Int × Int)} {q : Int} (h : hasQ q ks = true) : hasQ q (sd 0 ks) = true ∨ hasQ q (sd 1 ks) = true := by
  obtain ⟨p, hp, e⟩ := hasQ_iff.mp h
  rw [← List.take_append_drop (cutN (fsN ks)) ks] at hp
  rcases List.mem_append.mp hp with z | z
  · exact .inl (hasQ_iff.mpr ⟨p, z, e⟩)
  · exact .inr (hasQ_iff.mpr ⟨p, z, e⟩)
theorem wr_pos {n : Nat} {ks : List (Int × Int)} {q : Int} (h : hasQ q ks = true) : 0 < (wr (n + 1) ks q).length := by
  unfold wr
  by_cases h0 : hasQ q (sd 0 ks) = true
  · rw [if_pos h0, len_app, tolS_len]; omega
  · rw [if_neg h0]
    rcases has_side h with z | z
    · exact absurd z h0
    · rw [if_pos z, len_app, tolS_len]; omega
/-- the row of a program on a side -/
theorem wr_side {n s : Nat} {ks : List (Int × Int)} {q : Int} (nd : Nd ks) (hs : s ≤ 1) (h : hasQ q (sd s ks) = true) : wr (n + 1) ks q = tolS s ++ (if bkB (sd s ks) = true then ("" : Str) else wr n (lessK (sd s ks)) q) := by
  rw [wr_two nd]
  rcases (by omega : s = 0 ∨ s = 1) with e | e <;> subst e
  · have : sg n 1 ks q = "" := by
      unfold sg
      rw [if_neg (show ¬ hasQ q (sd 1 ks) = true by rw [sd_one, nd_two nd _ h]; decide)]
    rw [this, app_nil]
    unfold sg
    rw [if_pos h]
  · have : sg n 0 ks q = "" := by
      unfold sg
      rw [if_neg]
      intro h0
      have := nd_two nd _ h0
      rw [sd_one, this] at h
      cases h
    rw [this, nil_app]
    unfold sg
    rw [if_pos h]
theorem brk_non {ks : List (Int × Int)} : Brk ks .non ↔ bkB ks = false := by
  unfold bkB
  constructor
  · rintro (⟨h, _⟩ | ⟨m, e, _⟩)
    · rw [List.any_eq_false]
      intro p hp z
      exact h p hp (by simpa using z)
    · cases e
  · intro h
    rw [List.any_eq_false] at h
    exact .inl ⟨fun p hp e => h p hp (by simpa using e), rfl⟩
theorem brk_some {ks : List (Int × Int)} {m : Int} (h : Brk ks (.int m)) : bkB ks = true ∧ hasQ m ks = true ∧ ∃ p ∈ ks, p.1 = 0 ∧ p.2 = m := by
  rcases h with ⟨_, e⟩ | ⟨m', e, ⟨p, hp, p0, pm⟩, _⟩
  · cases e
  · cases e
    exact ⟨List.any_eq_true.mpr ⟨p, hp, by simpa using p0⟩, hasQ_iff.mpr ⟨p, hp, pm⟩, p, hp, p0, pm⟩
theorem Bk.next {ko kb : List (Int × Int)} (h : Bk ko kb) {s : Nat} (h0 : bkB (sd s kb) = false) : Bk (lessK (sd s kb)) (lessK (sd s kb)) := by
  obtain ⟨m, hm, e, _⟩ := h.cut
  have ec := cutN_is hm e
  unfold sd at h0 ⊢
  rw [ec] at h0 ⊢
  refine h.less e fun p hp z => ?_
  unfold bkB at h0
  rw [List.any_eq_false] at h0
  exact h0 p hp (by simpa using z)
theorem Bk.cutn {ko kb : List (Int × Int)} (h : Bk ko kb) : cutN (fsN kb) ≤ (fsN kb).length ∧ hs 10 ((fsN kb).take (cutN (fsN kb))) = 2 ^ 10 ∧ KB.kr ((fsN kb).take (cutN (fsN kb))) = 2 ^ 40 := by
  obtain ⟨m, hm, e, e2⟩ := h.cut
  rw [cutN_is hm e]
  exact ⟨hm, e, e2⟩
/-- what groups still write -/
def cat (n : Nat) (q : Int) : List (List (Int × Int)) → Str
  | [] => ""
  | ks :: r => wr n ks q ++ cat n q r
theorem cat_app (n : Nat) (q : Int) : ∀ a b, cat n q (a ++ b) = cat n q a ++ cat n q b
  | [], b => (nil_app _).symm
  | x :: a, b => by
    show wr n x q ++ cat n q (a ++ b) = wr n x q ++ cat n q a ++ cat n q b
    rw [cat_app n q a b, app_assoc]
theorem cat_no {n : Nat} {q : Int} : ∀ {a : List (List (Int × Int))}, (∀ ks ∈ a, hasQ q ks = false) → cat n q a = ""
  | [], _ => rfl
  | x :: a, h => by
    show wr n x q ++ cat n q a = ""
    rw [wr_no (h x (List.mem_cons_self ..)), cat_no fun ks hk => h ks (List.mem_cons_of_mem _ hk)]
    rfl
def Nds (kss : List (List (Int × Int))) : Prop := (kss.flatten.map Prod.snd).Nodup
/-- the groups behind a group -/
def nxt (s : Nat) (ks : List (Int × Int)) : List (List (Int × Int)) := if bkB (sd s ks) = true then [] else [lessK (sd s ks)]
theorem cat_nxt (n s : Nat) (ks : List (Int × Int)) (q : Int) : cat n q (nxt s ks) = if bkB (sd s ks) = true then ("" : Str) else wr n (lessK (sd s ks)) q := by
  unfold nxt
  split
  · rfl
  · exact app_nil _
theorem sg_eq (n s : Nat) (ks : List (Int × Int)) (q : Int) : sg n s ks q = (if hasQ q (sd s ks) = true then tolS s else ("" : Str)) ++ cat n q (nxt s ks) := by
  rw [cat_nxt]
  unfold sg
  by_cases h : hasQ q (sd s ks) = true
  · rw [if_pos h, if_pos h]
  · rw [if_neg h, if_neg h, wr_no (by rw [hasQ_less]; simpa using h)]
    split <;> rfl
theorem nds_no {a : List (List (Int × Int))} {g : List (Int × Int)} {b : List (List (Int × Int))} (h : Nds (a ++ g :: b)) {q : Int} (hq : hasQ q g = true) : ∀ ks ∈ a, hasQ q ks = false := by
  intro ks hk
  refine hasQ_no.mpr fun p hp e => ?_
  obtain ⟨p2, hp2, e2⟩ := hasQ_iff.mp hq
  unfold Nds at h
  rw [List.flatten_append, List.map_append] at h
  refine (List.nodup_append.mp h).2.2 p.2 (List.mem_map_of_mem (List.mem_flatten.mpr ⟨ks, hk, hp⟩)) p2.2 (List.mem_map_of_mem (List.mem_flatten.mpr ⟨g, List.mem_cons_self .., hp2⟩)) (by rw [e, e2])
theorem nds_one {a : List (List (Int × Int))} {g : List (Int × Int)} {b : List (List (Int × Int))} (h : Nds (a ++ g :: b)) : Nd g := by
  unfold Nds at h
  rw [List.flatten_append, List.map_append] at h
  have := (List.nodup_append.mp h).2.1
  rw [List.flatten_cons, List.map_append] at this
  exact (List.nodup_append.mp this).1
theorem cat_step {n : Nat} {later rest : List (List (Int × Int))} {g : List (Int × Int)} (h : Nds (later ++ g :: rest)) (q : Int) (r : Str) :
    (r ++ ((if hasQ q (sd 0 g) = true then tolS 0 else ("" : Str)) ++ (if hasQ q (sd 1 g) = true then tolS 1 else ("" : Str)))) ++ (cat n q (later ++ nxt 0 g ++ nxt 1 g) ++ cat (n + 1) q rest) = r ++ (cat n q later ++ cat (n + 1) q (g :: rest)) := by
  have nd := nds_one h
  show _ = r ++ (cat n q later ++ (wr (n + 1) g q ++ cat (n + 1) q rest))
  rw [wr_two nd, sg_eq, sg_eq, cat_app, cat_app]
  have eb : ∀ a b c d e f : Str, a ++ (b ++ c) ++ (d ++ e ++ f) = a ++ (b ++ (c ++ (d ++ (e ++ f)))) := fun a b c d e f => by simp only [app_assoc]
  by_cases hq : hasQ q g = true
  · rw [cat_no (nds_no h hq), nil_app, nil_app]
    by_cases h0 : hasQ q (sd 0 g) = true
    · have h1 : hasQ q (sd 1 g) = false := nd_two nd _ h0
      have c1 : cat n q (nxt 1 g) = "" := by
        rw [cat_nxt, wr_no (by rw [hasQ_less]; exact h1)]
        split <;> rfl
      rw [h1, c1]
      simp only [app_nil, nil_app, app_assoc, Bool.false_eq_true, if_false]
    · have h0' : hasQ q (sd 0 g) = false := by simpa using h0
      have c0 : cat n q (nxt 0 g) = "" := by
        rw [cat_nxt, wr_no (by rw [hasQ_less]; exact h0')]
        split <;> rfl
      rw [h0', c0]
      simp only [app_nil, nil_app, app_assoc, Bool.false_eq_true, if_false]
  · have hq' : hasQ q g = false := by simpa using hq
    have c : ∀ s, cat n q (nxt s g) = "" := fun s => by
      rw [cat_nxt, wr_no (by rw [hasQ_less]; exact hasQ_sub (sd_sub s g) hq')]
      split <;> rfl
    rw [hasQ_sub (sd_sub 0 g) hq', hasQ_sub (sd_sub 1 g) hq', c, c]
    simp only [app_nil, nil_app, Bool.false_eq_true, if_false]
theorem nxt_sub (s : Nat) (g : List (Int × Int)) : ((nxt s g).flatten.map Prod.snd).Sublist ((sd s g).map Prod.snd) := by
  unfold nxt
  split
  · exact List.nil_sublist _
  · rw [List.flatten_cons, List.flatten_nil, List.append_nil, snd_less]
    exact List.Sublist.refl _
theorem nds_step {later rest : List (List (Int × Int))} {g : List (Int × Int)} (h : Nds (later ++ g :: rest)) : Nds (later ++ nxt 0 g ++ nxt 1 g ++ rest) := by
  unfold Nds at h ⊢
  refine List.Nodup.sublist ?_ h
  rw [List.flatten_append, List.flatten_append, List.flatten_append, List.flatten_append, List.flatten_cons, List.map_append, List.map_append, List.map_append, List.map_append, List.map_append, List.append_assoc, List.append_assoc]
  refine List.Sublist.append (List.Sublist.refl _) ?_
  rw [← List.append_assoc]
  refine List.Sublist.append ?_ (List.Sublist.refl _)
  have e : g.map Prod.snd = (sd 0 g).map Prod.snd ++ (sd 1 g).map Prod.snd := by
    rw [← List.map_append, sd_zero, sd_one, List.take_append_drop]
  rw [e]
  exact List.Sublist.append (nxt_sub 0 g) (nxt_sub 1 g)

/-! ### worst_language -/
theorem cut_of {ko kb : List (Int × Int)} (h : Bk ko kb) {m : Nat} (hm : m ≤ (fsN kb).length) (e : KB.kr ((fsN kb).take m) = 2 ^ 40) : m = cutN (fsN kb) := by
  obtain ⟨h1, _, h3⟩ := h.cutn
  exact cut_one hm h1 (e.trans h3.symm)
def spWS (K : PySem.W.Frag) (n : Nat) : Sp := fun vs H Q _ => ∃ (r a : Addr) (ss : List Str) (ys : List V) (ks : List (Int × Int)), vs = [.ref r, .ref a] ∧ r ≠ a ∧ H r = some (.lst (ss.map V.str)) ∧ H a = some (.lst ys) ∧ Prs H ys ks ∧ Bk ks ks ∧ Nd ks ∧ (∀ p ∈ ks, 0 ≤ p.2 ∧ p.2 < ss.length) ∧ (∀ p ∈ ks, p.1 < n) ∧ ss.length ≤ 1000 ∧ (∀ q : Nat, hasQ (q : Int) ks = true → (ss.getD q "").length + n ≤ 1000) ∧
  ∀ (H' : Hp) (ss' : List Str), Same (upd H r (.lst (ss'.map V.str))) H' → ss'.length = ss.length → (∀ q : Nat, q < ss.length → ss'.getD q "" = ss.getD q "" ++ wr n ks q) → Q .non H'
def acc (n : Nat) (ks : List (Int × Int)) (i : Nat) (q : Int) : Str := (if 0 < i then sg n 0 ks q else ("" : Str)) ++ (if 1 < i then sg n 1 ks q else ("" : Str))
theorem acc_zero (n : Nat) (ks : List (Int × Int)) (q : Int) : acc n ks 0 q = "" := rfl
theorem acc_step (n : Nat) (ks : List (Int × Int)) (q : Int) {i : Nat} (hi : i < 2) : acc n ks (i + 1) q = acc n ks i q ++ sg n i ks q := by
  rcases (by omega : i = 0 ∨ i = 1) with e | e <;> subst e
  · show sg n 0 ks q ++ ("" : Str) = ("" : Str) ++ ("" : Str) ++ sg n 0 ks q
    rw [app_nil, app_nil, nil_app]
  · show sg n 0 ks q ++ sg n 1 ks q = sg n 0 ks q ++ ("" : Str) ++ sg n 1 ks q
    rw [app_nil]
theorem acc_two (n : Nat) {ks : List (Int × Int)} (q : Int) (nd : Nd ks) : acc n ks 2 q = wr (n + 1) ks q := (wr_two nd q).symm
theorem sd_ne {ko kb : List (Int × Int)} (bk : Bk ko kb) (i : Nat) (hi : i < 2) : sd i kb ≠ [] := by
  obtain ⟨h1, h2, _⟩ := bk.cutn
  have hb := bk.big
  have e : hs 10 (fsN kb) = hs 10 ((fsN kb).take (cutN (fsN kb))) + hs 10 ((fsN kb).drop (cutN (fsN kb))) := by rw [← hs_app, List.take_append_drop]
  intro z
  have hz : hs 10 (fsN (sd i kb)) = 0 := by rw [z]; rfl
  rcases (by omega : i = 0 ∨ i = 1) with w | w <;> subst w
  · rw [sd_zero] at hz
    unfold fsN at hz h2
    rw [List.map_take] at hz
    omega
  · rw [sd_one] at hz
    unfold fsN at hz h2 e hb
    rw [List.map_drop] at hz
    omega
theorem brk_nv {ks : List (Int × Int)} {v : V} (h : Brk ks v) (hb : bkB ks = false) : v = .non := by
  rcases h with ⟨_, e⟩ | ⟨m, rfl, ⟨p, hp, p0, _⟩, _⟩
  · exact e
  · unfold bkB at hb
    rw [List.any_eq_false] at hb
    exact absurd (by simpa using p0) (hb p hp)
theorem acc_has {n : Nat} {ks : List (Int × Int)} {i : Nat} {q : Int} (hi : i < 2) (nd : Nd ks) (h : hasQ q (sd i ks) = true) : acc n ks i q = "" := by
  rcases (by omega : i = 0 ∨ i = 1) with w | w <;> subst w
  · rfl
  · have : acc n ks 1 q = sg n 0 ks q := app_nil _
    rw [this]
    unfold sg
    rw [if_neg]
    intro h0
    have := nd_two nd _ h0
    rw [sd_one, this] at h
    cases h
theorem hasQ_up {q : Int} {xs ys : List (Int × Int)} (s : xs.Sublist ys) (h : hasQ q xs = true) : hasQ q ys = true := by
  obtain ⟨p, hp, e⟩ := hasQ_iff.mp h
  exact hasQ_iff.mpr ⟨p, s.subset hp, e⟩
section
variable {P : Program} {w : World} {K : PySem.W.Frag} {mg : Str → Option Value} {base : Heap} {C_Breaker : Addr}
theorem ok_write_sides1 {n : Nat} {f : Addr} {fd : FuncData} (F : Fun K "_write_sides" "_write_sides" s_write_sides f fd) (T : Txt K mg C_Breaker) (c_sides_of : Cal P w K mg base 1 "_sides_of" (spSides K)) (c_broken_on : Cal P w K mg base 1 "_broken_on" (spBrk K)) (c_with_less : Cal P w K mg base 1 "_with_less" (spLess K)) (c_write_sides : Cal P w K mg base (n + 1) "_write_sides" (spWS K n)) : FnOk P w K mg base CX0 (n + 2) f fd ["rows", "living"] (spWS K (n + 1)) := by
  refine F.ok sc_write_sides (fun vs H Q E h => ?_) (fun cdv A outer s H vs Q E hr h => ?_)
  · obtain ⟨r, a, ss, ys, ks, rfl, _⟩ := h
    rfl
  · obtain ⟨r, a, ss, ys, ks, rfl, nra, hr0, ha, hP, bk, nd, hq, hlt, hsl, hl, q⟩ := h
    refine ⟨_, (pss_one (ps_for PassesOwn.never rfl (pi_zipK (by rfl) T.b_zip (pa_cons pe_str (pa_cons (pe_c c_sides_of hr (by omega) (by rfl) (pa_cons (pv 1) pa_nil)) pa_nil))) (pg_tup rfl (pgs_cons (pg_name (i := 2) sc_write_sides.nd rfl (by first | exact Or.inl rfl | exact Or.inr rfl)) (pgs_cons (pg_name (i := 3) sc_write_sides.nd rfl (by first | exact Or.inl rfl | exact Or.inr rfl)) pgs_nil)))
      (pss_cons (ps_for PassesOwn.never rfl (pi_list (pv 3)) (pg_tup rfl (pgs_cons (pg_name (i := 4) sc_write_sides.nd rfl (by first | exact Or.inl rfl | exact Or.inr rfl)) (pgs_cons (pg_name (i := 5) sc_write_sides.nd rfl (by first | exact Or.inl rfl | exact Or.inr rfl)) pgs_nil)))
          (pss_one (ps_augS (pv 0) (pv 5) get_list (pv 2) ip_addS set_list)))
        (pss_one (ps_if (pt_cmpR op_isN (pe_c c_broken_on hr (by omega) (by rfl) (pa_cons (pv 3) pa_nil)) pe_non (nomark _))
          (pss_one (ps_expr (pe_c c_write_sides hr (by omega) (by rfl) (pa_cons (pv 0) (pa_cons (pe_c c_with_less hr (by omega) (by rfl) (pa_cons (pv 3) pa_nil)) pa_nil)))))
          pss_nil))))), ?_⟩
    refine ⟨_, rfl, a, ys, ks, fsN ks, rfl, SqL.of ha, hP, by have := bk.len; omega, by unfold fsN; rw [List.length_map], bk.get, bk.fst, fun l hl => by have := bk.le l hl; omega, by have := bk.kr; omega, fun H1 p pa pb m s1 hm hkr hp hpa hpb => ?_⟩
    have em := cut_of bk hm hkr
    subst em
    refine ⟨Src.txt "01", Src.tup p, sgnsV "01", [.ref pa, .ref pb], rfl, rfl, SqT.of hp, fun J LS => ?_⟩
    have npr : p ≠ r := fun e => by rw [e, s1 _ _ hr0] at hp; cases hp
    have hr1 := s1 _ _ hr0
    have hP1 := hP.mono s1
    refine for_zipJ LS (n := 2) rfl (fun i σ H' => ∃ (si : List Str) (v2 v3 v4 v5 : Option V), σ = [some (.ref r), some (.ref a), v2, v3, v4, v5] ∧ Same (upd H1 r (.lst (si.map V.str))) H' ∧ si.length = ss.length ∧ ∀ q : Nat, q < ss.length → si.getD q "" = ss.getD q "" ++ acc n ks i q)
      ⟨ss, none, none, none, none, rfl, same_self hr1, rfl, fun q _ => by rw [acc_zero, app_nil]⟩ (fun i σ H' _ h => ?_) ?_ ?_
    · obtain ⟨si, _, _, _, _, _, sm, _⟩ := h
      exact ⟨rfl, SqT.of (sm _ _ (by rw [upd_ne npr]; exact hp))⟩
    · rintro i x y σ H' hx hy ⟨si, v2, v3, v4, v5, rfl, sm, el, hv⟩ T hT
      have hi : i < 2 := (List.getElem?_eq_some_iff.mp hy).1
      obtain ⟨ps, yss, rfl, rfl, hps, hPs⟩ : ∃ ps yss, x = .str (tolS i) ∧ y = .ref ps ∧ H1 ps = some (.lst yss) ∧ Prs H1 yss (sd i ks) := by
        rcases (by omega : i = 0 ∨ i = 1) with z | z <;> subst z
        · exact ⟨pa, _, (Option.some.inj hx).symm, (Option.some.inj hy).symm, hpa, hP1.take _⟩
        · exact ⟨pb, _, (Option.some.inj hx).symm, (Option.some.inj hy).symm, hpb, hP1.drop _⟩
      refine ⟨T, _, rfl, SqT.of upd_same, rfl, _, _, rfl, _, _, rfl, rfl, ?_⟩
      have sm2 := sm.trans (same_upd (o := .tup [.str (tolS i), .ref ps]) hT)
      generalize upd H' T (.tup [.str (tolS i), .ref ps]) = H2 at *
      have ntr : ∀ {z : Addr} {o : HO}, H1 z = some o → z ≠ r → H2 z = some o := fun {z o} hz ne => sm2 _ _ (by rw [upd_ne ne]; exact hz)
      have nps : ps ≠ r := fun e => by
        rw [e, hr1] at hps
        have e2 := HO.lst.inj (Option.some.inj hps)
        have hne : sd i ks ≠ [] := sd_ne bk i hi
        cases h2 : sd i ks with
        | nil => exact hne h2
        | cons p0 r0 =>
          have hl2 := hPs.1
          rw [h2] at hl2
          obtain ⟨y0, hy0⟩ : ∃ y0, yss[0]? = some y0 := ⟨yss[0]'(by rw [hl2]; exact Nat.succ_pos _), List.getElem?_eq_getElem _⟩
          obtain ⟨t0, _, ey, _, _⟩ := hPs.2 0 y0 hy0
          rw [← e2, List.getElem?_map] at hy0
          cases h3 : ss[0]? with
          | none => rw [h3] at hy0; cases hy0
          | some z => rw [h3] at hy0; rw [ey] at hy0; cases hy0
      have sub := sd_sub i ks
      have ndS := nd.sub sub
      have lS : (sd i ks).length ≤ 1000 := Nat.le_trans sub.length_le bk.len
      refine ⟨_, rfl, ps, rfl, ⟨_, SqL.of (ntr hps nps)⟩, for_list (K := K) (a := ps) (xs := yss) (fun j σ H'' => ∃ (sj : List Str) (v4 v5 : Option V), σ = [some (.ref r), some (.ref a), some (.str (tolS i)), some (.ref ps), v4, v5] ∧ Same (upd H1 r (.lst (sj.map V.str))) H'' ∧ sj.length = ss.length ∧ ∀ q : Nat, q < ss.length → sj.getD q "" = si.getD q "" ++ (if hasQ q ((sd i ks).take j) = true then tolS i else ("" : Str)))
        ⟨si, v4, v5, rfl, sm2, el, fun q _ => by rw [List.take_zero]; exact (app_nil _).symm⟩ (fun j σ H'' _ h => ?_) ?_ ?_⟩
      · obtain ⟨sj, _, _, _, sm, _⟩ := h
        exact SqL.of (sm _ _ (by rw [upd_ne nps]; exact hps))
      · rintro j x σ H'' hx ⟨sj, w4, w5, rfl, sm3, el3, hv3⟩
        obtain ⟨t, pp, rfl, hk, ht⟩ := hPs.2 j x hx
        have ntr2 : t ≠ r := fun e => by rw [e, hr1] at ht; cases ht
        obtain ⟨h0, h1⟩ := hq pp (sub.subset (List.mem_of_getElem? hk))
        obtain ⟨k, hkk⟩ := nat_of h0
        have hks : k < ss.length := by omega
        have hr3 : H'' r = some (.lst (sj.map V.str)) := sm3 _ _ upd_same
        have hgk : (sj.map V.str)[k]? = some (.str (sj.getD k "")) := by rw [List.getElem?_map, List.getD_eq_getElem?_getD, List.getElem?_eq_getElem (by omega)]; rfl
        have hno : hasQ (k : Int) ((sd i ks).take j) = false := by
          refine hasQ_no.mpr fun p hp e => ?_
          have nn := ndS
          unfold Nd at nn
          obtain ⟨m, hm, em⟩ := List.getElem_of_mem hp
          rw [List.length_take] at hm
          obtain ⟨hj, ej⟩ := List.getElem?_eq_some_iff.mp hk
          have h2 := List.pairwise_iff_getElem.mp nn m j (by rw [List.length_map]; omega) (by rw [List.length_map]; exact hj) (by omega)
          rw [List.getElem_map, List.getElem_map, ej] at h2
          rw [List.getElem_take] at em
          rw [em, e, hkk] at h2
          exact h2 rfl
        have hgl : (sj.getD k "").length ≤ 1000 := by
          rw [hv3 k hks, hno, hv k hks]
          have hkq : hasQ (k : Int) (sd i ks) = true := hasQ_iff.mpr ⟨pp, List.mem_of_getElem? hk, hkk⟩
          have := hl k (hasQ_up sub hkq)
          rw [if_neg (by decide), app_nil, acc_has hi nd hkq, app_nil]
          omega
        refine ⟨t, _, rfl, SqT.of (sm3 _ _ (by rw [upd_ne ntr2]; exact ht)), rfl, _, _, rfl, _, _, rfl, rfl, ?_⟩
        refine ⟨_, rfl, _, rfl, r, _, k, _, rfl, congrArg V.int hkk, SqL.of hr3, hgk, ?_⟩
        refine ⟨_, rfl, _, _, rfl, rfl, szle (by rw [tolS_len]; omega), ?_⟩
        refine ⟨r, _, k, _, rfl, congrArg V.int hkk, hr3, ixN_nat (by rw [List.length_map]; omega), ?_⟩
        refine ⟨sj.set k (sj.getD k "" ++ tolS i), _, _, rfl, ?_, by rw [List.length_set]; exact el3, fun q hq' => ?_⟩
        · rw [List.map_set]
          have t := same_set (p := r) (o := .lst ((sj.map V.str).set k (.str (sj.getD k "" ++ tolS i)))) sm3
          rw [upd_upd] at t
          exact t
        · have etk : (sd i ks).take (j + 1) = (sd i ks).take j ++ [pp] := by rw [List.take_succ, hk]; rfl
          have ehas : hasQ (q : Int) ((sd i ks).take (j + 1)) = (hasQ (q : Int) ((sd i ks).take j) || decide (k = q)) := by
            rw [etk]
            unfold hasQ
            rw [List.any_append]
            congr 1
            show (pp.2 == (q : Int) || false) = _
            rw [hkk, Bool.or_false]
            by_cases z : k = q
            · simp [z]
            · rw [decide_eq_false z]
              simpa using fun w : (k : Int) = (q : Int) => z (Int.ofNat.inj w)
          rw [ehas]
          by_cases z : k = q
          · subst z
            rw [List.getD_eq_getElem?_getD, List.getElem?_set_self (by omega), decide_eq_true rfl, Bool.or_true, if_pos rfl]
            show sj.getD k "" ++ tolS i = _
            rw [hv3 k hks, hno, if_neg (by decide), app_nil]
          · rw [decide_eq_false z, Bool.or_false, ← hv3 q hq', List.getD_eq_getElem?_getD, List.getElem?_set_ne z, ← List.getD_eq_getElem?_getD]
      · rintro σ H3 ⟨sj, w4, w5, rfl, sm3, el3, hv3⟩
        rw [hPs.1, List.take_length] at hv3
        have hps3 : H3 ps = some (.lst yss) := sm3 _ _ (by rw [upd_ne nps]; exact hps)
        have hP3 : Prs H3 yss (sd i ks) := (hPs.off hr1).mono sm3
        refine ⟨_, rfl, ps, yss, sd i ks, rfl, SqL.of hps3, hP3, by omega, fun H4 v s4 hbk => ?_⟩
        have sm4 := sm3.trans s4
        cases hb : bkB (sd i ks) with
        | true =>
          have hnv : decide (v = .non) = false := decide_eq_false fun e => by
            rw [e] at hbk
            rw [brk_non.mp hbk] at hb
            cases hb
          refine ⟨rfl, _, rfl, ?_⟩
          rw [hnv]
          refine iteF ⟨sj, _, _, _, _, rfl, sm4, el3, fun q hq' => ?_⟩
          rw [hv3 q hq', hv q hq', acc_step n ks _ hi, app_assoc]
          unfold sg
          rw [hb]
          congr 2
        | false =>
          have hnv : decide (v = .non) = true := decide_eq_true (brk_nv hbk hb)
          refine ⟨rfl, _, rfl, ?_⟩
          rw [hnv]
          refine iteT ?_
          have bk2 := bk.next hb
          refine ⟨_, rfl, _, rfl, ps, yss, sd i ks, rfl, SqL.of (s4 _ _ hps3), hP3.mono s4, by omega, fun H5 po ys' s5 npo hpo hP5 => ?_⟩
          have sm5 := sm4.trans s5
          have hr5 : H5 r = some (.lst (sj.map V.str)) := sm5 _ _ upd_same
          refine ⟨r, po, sj, ys', lessK (sd i ks), rfl, fun e => ?_, hr5, hpo, hP5, bk2, ndS.less, fun p hp => ?_, fun p hp => ?_, by omega, fun q h => ?_, fun H6 s6' sm6 el6 hv6 => ?_⟩
          · rw [← e, sm4 _ _ upd_same] at npo
            cases npo
          · obtain ⟨p0, hp0, rfl⟩ := List.mem_map.mp hp
            rw [el3]
            exact hq p0 (sub.subset hp0)
          · obtain ⟨p0, hp0, rfl⟩ := List.mem_map.mp hp
            have := hlt p0 (sub.subset hp0)
            show p0.1 - 1 < n
            omega
          · rw [hasQ_less] at h
            have hh := hasQ_up sub h
            obtain ⟨p0, hp0, e0⟩ := hasQ_iff.mp hh
            have := (hq p0 hp0).2
            rw [hv3 q (by omega), hv q (by omega), acc_has hi nd h, app_nil, if_pos h, len_app, tolS_len]
            have := hl q hh
            omega
          · refine ⟨s6', _, _, _, _, rfl, ?_, by omega, fun q hq' => ?_⟩
            · have t := same_set (p := r) (o := .lst (s6'.map V.str)) sm5
              rw [upd_upd] at t
              exact t.trans sm6
            · rw [hv6 q (by omega), hv3 q hq', hv q hq', acc_step n ks _ hi, app_assoc, app_assoc]
              unfold sg
              rw [hb, if_neg (show ¬ false = true by decide)]
              by_cases z : hasQ (q : Int) (sd i ks) = true
              · rw [if_pos z, if_pos z]
              · rw [if_neg z, if_neg z, wr_no (by rw [hasQ_less]; simpa using z)]
                rfl
    · rintro σ H' ⟨si, v2, v3, v4, v5, rfl, sm, el, hv⟩
      exact q H' si ((same_set s1).trans sm) el fun q hq' => by rw [hv q hq', acc_two n _ nd]
theorem spWS_zero {vs : List V} {H : Hp} {Q : VK} {E : Value → Option Addr → Hp → Prop} : ¬ spWS K 0 vs H Q E := by
  rintro ⟨r, a, ss, ys, ks, _, _, _, _, _, bk, nd, _, hlt, _⟩
  cases h : ks with
  | nil =>
    have := bk.big
    rw [h] at this
    exact absurd this (by decide)
  | cons p r =>
    have h1 := bk.nat p (by rw [h]; exact List.mem_cons_self ..)
    have h2 := hlt p (by rw [h]; exact List.mem_cons_self ..)
    omega
theorem cal_write_sides {f : Addr} {fd : FuncData} (F : Fun K "_write_sides" "_write_sides" s_write_sides f fd) (T : Txt K mg C_Breaker) (hm : mg "_write_sides" = some (.ref f)) (kp : PySem.W.keepIn K (.ref f) = true) (b : Binds K fd ["rows", "living"] []) (c_sides_of : Cal P w K mg base 1 "_sides_of" (spSides K)) (c_broken_on : Cal P w K mg base 1 "_broken_on" (spBrk K)) (c_with_less : Cal P w K mg base 1 "_with_less" (spLess K)) : ∀ n, Cal P w K mg base (n + 1) "_write_sides" (spWS K n)
  | 0 => ⟨_, _, _, ⟨fun _ _ _ _ h => (spWS_zero h).elim, fun _ _ _ _ _ _ _ _ _ _ _ _ _ h => (spWS_zero h).elim⟩, hm, kp, b⟩
  | n + 1 => ⟨_, _, _, ok_write_sides1 F T c_sides_of c_broken_on c_with_less (cal_write_sides F T hm kp b c_sides_of c_broken_on c_with_less n), hm, kp, b⟩
end
def wrL (ks : List (Int × Int)) (n : Nat) : List Str := (List.range n).map fun q => wr 11 ks (q : Nat)
def padTo (m : Nat) (z : Str) : Str := z ++ repS "0" ((m : Int) - (z.length : Int))
def Mx (m : Nat) (ws : List Str) : Prop := (∃ z ∈ ws, z.length = m) ∧ ∀ z ∈ ws, z.length ≤ m
theorem Mx.uniq {m m' : Nat} {ws : List Str} (h : Mx m ws) (h' : Mx m' ws) : m = m' := by
  obtain ⟨⟨z, hz, e⟩, hl⟩ := h
  obtain ⟨⟨z', hz', e'⟩, hl'⟩ := h'
  have := hl z' hz'
  have := hl' z hz
  omega
def spWorst (K : PySem.W.Frag) (CB : Addr) : Sp := fun vs H Q E => ∃ (v : V) (d : PyData) (n : Nat), vs = [v] ∧ Dp K H v d ∧ okD n d = true ∧ (rowD d = true → (lensD d).length ≤ 100 ∧ ∀ n ∈ lensD d, n ≤ 10) ∧
  (((rowD d && !decide (kr (lensD d) < 2 * 2 ^ 40)) = true ∧ ∀ H' p ks m, Same H H' → IsOrd (lensD d) ks → Mx m (wrL ks (lensD d).length) → H' p = some (.tup (((wrL ks (lensD d).length).map (padTo m)).map V.str)) → Q (.ref p) H') ∨ ((rowD d && !decide (kr (lensD d) < 2 * 2 ^ 40)) = false ∧ ∀ H' dd, Same H H' → H' dd = some (.xd [("budgets", v)]) → E (.ref CB) (some dd) H'))
theorem Bk.ord {ls : List Nat} {ks : List (Int × Int)} (h : IsOrd ls ks) (hl : ls.length ≤ 100) (h10 : ∀ n ∈ ls, n ≤ 10) (hb : 2 ^ 11 ≤ hs 10 ls) : Bk (prs ls) ks := by
  refine ⟨by rw [h.len]; omega, h.1, h.2, fun z hz => ?_, ?_⟩
  · obtain ⟨l, q, rfl, hl⟩ := h.mem hz
    have := h10 l (List.mem_of_getElem? hl)
    show 0 ≤ (l : Int) ∧ (l : Int) ≤ 10
    omega
  · have hp := h.1.map fun z => z.1.toNat
    rw [prs_fst] at hp
    rw [show hs 10 (fsN ks) = hs 10 ls from hs_perm 10 hp]
    exact hb
theorem Bk.self {ko kb : List (Int × Int)} (h : Bk ko kb) : Bk kb kb := ⟨h.len, List.Perm.refl _, h.srt, h.nat, h.big⟩
theorem prs_nd (ls : List Nat) : Nd (prs ls) := by
  unfold Nd prs
  rw [List.map_map]
  refine List.pairwise_iff_getElem.mpr fun i j hi hj hij => ?_
  rw [List.getElem_map, List.getElem_map, List.getElem_range, List.getElem_range]
  show ((i : Nat) : Int) ≠ ((j : Nat) : Int)
  omega
theorem Nd.ord {ls : List Nat} {ks : List (Int × Int)} (h : IsOrd ls ks) : Nd ks := (h.1.map Prod.snd).nodup_iff.mpr (prs_nd ls)
theorem pad_eq {m : Nat} {z : Str} : Txt.ljustF z (m : Int) 48 = padTo m z := by
  refine PyProof.Rows.str_of_list ?_
  rw [PyProof.Rows.ljustF_list]
  show _ = (z.cps ++ (repS "0" ((m : Int) - (z.length : Int))).cps).toList
  rw [Array.toList_append]
  congr 1
  unfold repS
  show _ = (List.replicate ((m : Int) - (z.length : Int)).toNat [48]).flatten
  rw [show ((m : Int) - (z.length : Int)).toNat = (m : Int).toNat - z.length by omega]
  generalize (m : Int).toNat - z.length = k
  induction k with
  | zero => rfl
  | succ k ih => rw [List.replicate_succ, List.replicate_succ, List.flatten_cons, ih]; rfl
section
variable {P : Program} {w : World} {K : PySem.W.Frag} {mg : Str → Option Value} {base : Heap} {C_Breaker : Addr} {C_InvalidBudgets : Addr}
theorem ok_worst_language {f : Addr} {fd : FuncData} (F : Fun K "worst_language" "worst_language" s_worst_language f fd) (T : Txt K mg C_Breaker) (c_check_breakable : CalX P w K mg base 6 "_check_breakable" (spBreakable K C_InvalidBudgets)) (c_in_order : Cal P w K mg base 1 "_in_order" (spInOrd K)) (c_write_sides : Cal P w K mg base 12 "_write_sides" (spWS K 11)) : FnOk P w K mg base (L2N.CX P w) 14 f fd ["budgets"] (spWorst K C_InvalidBudgets) := by
  refine Fun_okN F sc_worst_language (fun vs H Q E h => ?_) (fun cdv A outer s H vs Q E hr h => ?_)
  · obtain ⟨v, d, n, rfl, _⟩ := h
    rfl
  · obtain ⟨v, d, n, rfl, hv, hok, h10, q⟩ := h
    refine ⟨_, (pss_cons (ps_expr (pe_xS c_check_breakable hr (by omega) (by rfl) (L2N.takes_of rfl rfl rfl rfl) (pa_cons (pv 0) pa_nil)))
    (pss_cons (ps_set (i := 1) sc_worst_language.nd rfl (by first | exact Or.inl rfl | exact Or.inr rfl) (pe_op op_rep (pe_lst (pa_cons pe_str pa_nil)) (pe_callB call_len_seq (by rfl) T.b_len PySem.boot_len (pa_cons (pv 0) pa_nil))))
    (pss_cons (ps_expr (pe_c c_write_sides hr (by omega) (by rfl) (pa_cons (pv 1) (pa_cons (pe_c c_in_order hr (by omega) (by rfl) (pa_cons (pv 0) pa_nil)) pa_nil))))
    (pss_cons (ps_set (i := 2) sc_worst_language.nd rfl (by first | exact Or.inl rfl | exact Or.inr rfl) (pe_callB (cr_max rfl) (by rfl) T.b_max (by decide +kernel) (pa_cons (pe_lc (own := [("row", 3)]) rfl sc_worst_language.nd (pi_list (pv 1)) (blkOk_by (own := [("row", 3)]) (N := ["budgets", "rows", "longest", "row"]) (sc := defScope s_worst_language) (by decide +kernel)) (fun _ _ _ _ _ => (pg_name (i := 3) sc_worst_language.nd rfl (by first | exact Or.inl rfl | exact Or.inr rfl))) (fun _ _ _ _ _ => pts_nil) (fun _ _ _ _ _ => (pe_callB call_len_str (by rfl) T.b_len (by decide +kernel) (pa_cons (pv 3) pa_nil)))) pa_nil)))
    (pss_one (ps_ret (pe_callTy call_tuple_of (by rfl) T.b_tuple (by decide +kernel) (pa_cons (pe_lc (own := [("row", 3)]) rfl sc_worst_language.nd (pi_list (pv 1)) (blkOk_by (own := [("row", 3)]) (N := ["budgets", "rows", "longest", "row"]) (sc := defScope s_worst_language) (by decide +kernel)) (fun _ _ _ _ _ => (pg_name (i := 3) sc_worst_language.nd rfl (by first | exact Or.inl rfl | exact Or.inr rfl))) (fun _ _ _ _ _ => pts_nil) (fun _ _ _ _ _ => (pe_bmC K PySem.F.plainAttrs_str PySem.F.slot_str_ljust PySem.F.type_str_ljust mt_ljustF (pv 3) (pa_cons (pv 2) (pa_cons pe_str pa_nil))))) pa_nil)))))))), ?_⟩
    have h40 : rowD d = true → (lensD d).length ≤ 100000 ∧ ∀ n ∈ lensD d, n ≤ 40 := fun z => ⟨by have := (h10 z).1; omega, fun n hn => by have := (h10 z).2 n hn; omega⟩
    rcases q with ⟨hb, q⟩ | ⟨hb, q⟩
    case inr => exact ⟨_, rfl, v, d, n, rfl, hv, hok, h40, .inr ⟨hb, fun H1 dd s1 h1 => q H1 dd s1 h1⟩⟩
    refine ⟨_, rfl, v, d, n, rfl, hv, hok, h40, .inl ⟨hb, fun H1 s1 => ?_⟩⟩
    obtain ⟨hrw, hkr⟩ := Bool.and_eq_true_iff.mp hb
    obtain ⟨hl, h10'⟩ := h10 hrw
    obtain ⟨a, rfl, hS, hl5⟩ := row_at (Dp.mono s1 _ _ hv) hok hrw
    have hkr2 : ¬ kr (lensD d) < 2 * 2 ^ 40 := fun z => by rw [decide_eq_true z] at hkr; cases hkr
    have hb11 : 2 ^ 11 ≤ hs 10 (lensD d) := by
      have := kr_hs h10'
      omega
    have lpos : 0 < (lensD d).length := by
      cases h : lensD d with
      | nil => rw [h] at hb11; exact absurd hb11 (by decide)
      | cons _ _ => exact Nat.succ_pos _
    generalize lensD d = ls at *
    refine ⟨szle (by show 1 ≤ 16777216; decide), fun p hp => ?_⟩
    have t1 := same_upd (o := .lst [V.str ""]) hp
    refine ⟨_, rfl, a, _, rfl, hS.imp (fun z => t1.seq z) (fun z => sameT t1 z), p, _, _, rfl, rfl, upd_same, by omega, by rw [List.length_map]; omega, szle (by rw [List.length_map]; simp; omega), fun r hr => ?_⟩
    have e0 : (List.replicate (((ls.map nI).length : Nat) : Int).toNat [V.str ""]).flatten = (List.replicate ls.length ("" : Str)).map V.str := by
      rw [List.length_map, Int.toNat_natCast]
      generalize ls.length = k
      induction k with
      | zero => rfl
      | succ k ih => rw [List.replicate_succ, List.flatten_cons, ih]; rfl
    rw [e0]
    have t2 := same_upd (o := .lst ((List.replicate ls.length ("" : Str)).map V.str)) hr
    have t12 := t1.trans t2
    have hr2 : upd (upd H1 p (.lst [V.str ""])) r (.lst ((List.replicate ls.length ("" : Str)).map V.str)) r = some (.lst ((List.replicate ls.length ("" : Str)).map V.str)) := upd_same
    have fr1 : H1 r = none := t1.free hr
    generalize upd (upd H1 p (.lst [V.str ""])) r (.lst ((List.replicate ls.length ("" : Str)).map V.str)) = H2 at *
    refine ⟨_, rfl, _, rfl, a, ls, rfl, hS.imp (fun z => t12.seq z) (fun z => sameT t12 z), by omega, fun H3 po ys ks s3 npo hpo hP hO => ?_⟩
    have bk : Bk ks ks := (Bk.ord hO hl h10' hb11).self
    have nd := Nd.ord hO
    have nrp : r ≠ po := fun e => by rw [← e, hr2] at npo; cases npo
    have hr3 := s3 _ _ hr2
    have hqs : ∀ p ∈ ks, 0 ≤ p.2 ∧ p.2 < ls.length := fun p hp => by
      obtain ⟨l, k, rfl, hk⟩ := hO.mem hp
      have := (List.getElem?_eq_some_iff.mp hk).1
      show 0 ≤ (k : Int) ∧ (k : Int) < _
      omega
    have gr : ∀ q : Nat, (List.replicate ls.length ("" : Str)).getD q "" = "" := fun q => by
      rw [List.getD_eq_getElem?_getD, List.getElem?_replicate]
      split <;> rfl
    refine ⟨r, po, _, ys, ks, rfl, nrp, hr3, hpo, hP, bk, nd, by rw [List.length_replicate]; exact hqs, fun p hp => by have := bk.nat p hp; omega, by rw [List.length_replicate]; omega, fun q _ => by rw [gr]; decide, fun H4 ws s4 elw hw => ?_⟩
    rw [List.length_replicate] at elw hw
    have ew : ws = wrL ks ls.length := by
      refine List.ext_getElem? fun i => ?_
      unfold wrL
      by_cases hi : i < ls.length
      · have := hw i hi
        rw [gr, nil_app, List.getD_eq_getElem?_getD, List.getElem?_eq_getElem (by omega)] at this
        rw [List.getElem?_eq_getElem (by omega), List.getElem?_map, List.getElem?_range hi]
        exact congrArg some this
      · rw [List.getElem?_eq_none (by omega), List.getElem?_eq_none (by rw [List.length_map, List.length_range]; omega)]
    subst ew
    have s14 : Same H1 (upd H3 r (.lst ((wrL ks ls.length).map V.str))) := fun b o e => by
      rw [upd_ne (fun z => by rw [z, fr1] at e; cases e)]
      exact s3 _ _ (t12 _ _ e)
    have hr4 := s4 _ _ upd_same
    have s15 := s14.trans s4
    obtain ⟨W, eW⟩ : ∃ W, wrL ks ls.length = W := ⟨_, rfl⟩
    have W12 : ∀ z ∈ W, z.length ≤ 11 := fun z hz => by
      rw [← eW] at hz
      obtain ⟨k, _, rfl⟩ := List.mem_map.mp hz
      exact wr_len
    have Wl : W.length = ls.length := by rw [← eW]; unfold wrL; rw [List.length_map, List.length_range]
    rw [eW] at hr4
    refine ⟨_, rfl, r, rfl, ⟨_, SqL.of hr4⟩, fun D hD => lc_list (K := K) (a := r) (xs := W.map V.str) (fun i H' => Same H4 H' ∧ H' D = some (.lst (((W.take i).map (fun z : Str => (z.length : Int))).map V.int))) ⟨same_upd hD, upd_same⟩ (fun i H' _ h => SqL.of (h.1 _ _ hr4)) ?_ ?_⟩
    · rintro i x H' hi ⟨sm, eD⟩
      obtain ⟨z, hz, rfl⟩ := getS hi
      refine ⟨rfl, ?_⟩
      refine tyes ?_
      have zl := W12 z (List.mem_of_getElem? hz)
      have lt : (((W.take i).map (fun z : Str => (z.length : Int))).map V.int).length ≤ 1000 := by
        rw [List.length_map, List.length_map, List.length_take]
        omega
      refine ⟨_, rfl, z, rfl, szle (by omega), _, eD, szl (by omega), same_out sm hD, ?_⟩
      rw [upd_same, List.take_succ, hz, List.map_append, List.map_append]
      rfl
    · rintro H5 ⟨s5, eD⟩
      rw [List.length_map, List.take_length] at eD
      have hr5 := s5 _ _ hr4
      refine ⟨D, W.map (fun z : Str => (z.length : Int)), rfl, SqL.of eD, by rw [List.length_map, Wl]; exact lpos, fun mi hm hle => ?_⟩
      obtain ⟨zm, hzm, rfl⟩ := List.mem_map.mp hm
      have hMx : Mx zm.length W := ⟨⟨zm, hzm, rfl⟩, fun z hz => by have := hle _ (List.mem_map_of_mem hz); omega⟩
      generalize zm.length = m at *
      have hm11 : m ≤ 11 := by
        obtain ⟨⟨z, hz, rfl⟩, _⟩ := hMx
        exact W12 z hz
      have hpad : PadOk (m : Int) = true := (by decide : ∀ k : Nat, k ≤ 11 → PadOk (k : Int) = true) m hm11
      have hpl : ∀ z, z.length ≤ 11 → (padTo m z).length ≤ 22 := fun z hz => by
        unfold padTo
        rw [len_app, repS_len]
        show _ + _ * 1 ≤ _
        omega
      refine ⟨_, rfl, r, rfl, ⟨_, SqL.of hr5⟩, fun D2 hD2 => lc_list (K := K) (a := r) (xs := W.map V.str) (fun i H' => Same H5 H' ∧ H' D2 = some (.lst (((W.take i).map (padTo m)).map V.str))) ⟨same_upd hD2, upd_same⟩ (fun i H' _ h => SqL.of (h.1 _ _ hr5)) ?_ ?_⟩
      · rintro i x H' hi ⟨sm, eD2⟩
        obtain ⟨z, hz, rfl⟩ := getS hi
        refine ⟨rfl, ?_⟩
        refine tyes ?_
        have lt : (((W.take i).map (padTo m)).map V.str).length ≤ 1000 := by
          rw [List.length_map, List.length_map, List.length_take]
          omega
        refine ⟨_, rfl, rfl, _, rfl, z, "0", _, rfl, rfl, hpad, rfl, _, eD2, szl (by omega), same_out sm hD2, ?_⟩
        rw [upd_same, List.take_succ, hz, List.map_append, List.map_append]
        show some (HO.lst (_ ++ [V.str (Txt.ljustF z (m : Int) 48)])) = _
        rw [pad_eq]
        rfl
      · rintro H6 ⟨s6, eD2⟩
        rw [List.length_map, List.take_length] at eD2
        refine ⟨D2, _, rfl, .inl ⟨SqL.of eD2, fun l hl => ?_⟩⟩
        exact q _ l ks m (s1.trans ((s15.trans (s5.trans s6)).trans (same_upd hl))) hO (by rw [eW]; exact hMx) (by rw [upd_same, eW])
end

/-! ### the rows as the law writes them -/
theorem ord_ex (ls : List Nat) : ∃ ks, IsOrd ls ks := by
  refine ⟨(prs ls).mergeSort (fun p q => !SrtO.lexB q p), List.mergeSort_perm _ _, ?_⟩
  have h := List.pairwise_mergeSort (le := fun p q : Int × Int => !SrtO.lexB q p) (fun a b c h1 h2 => ?_) (fun a b => ?_) (prs ls)
  · exact h.imp fun {p q} hpq => by simpa using hpq
  · have e1 := SrtO.lexB_no.mp (by simpa using h1)
    have e2 := SrtO.lexB_no.mp (by simpa using h2)
    have : SrtO.lexB c a = false := SrtO.lexB_no.mpr (by omega)
    rw [this]
    rfl
  · by_cases h : SrtO.lexB b a = false
    · rw [h]; rfl
    · have : SrtO.lexB a b = false := SrtO.lexB_no.mpr (by
        have := mt SrtO.lexB_no.mpr h
        omega)
      rw [this, Bool.or_eq_true]
      exact .inr rfl
def Grp (H : Hp) (gs : List V) (kbs : List (List (Int × Int))) : Prop := gs.length = kbs.length ∧ ∀ (i : Nat) (y : V), gs[i]? = some y → ∃ (a : Addr) (ys : List V) (ko kb : List (Int × Int)), y = .ref a ∧ kbs[i]? = some kb ∧ H a = some (.lst ys) ∧ Prs H ys ko ∧ Bk ko kb
theorem Grp.mono {A B : Hp} {gs : List V} {kbs : List (List (Int × Int))} (h : Grp A gs kbs) (s : Same A B) : Grp B gs kbs := ⟨h.1, fun i y hi => by
  obtain ⟨a, ys, ko, kb, e1, e2, e3, e4, e5⟩ := h.2 i y hi
  exact ⟨a, ys, ko, kb, e1, e2, s _ _ e3, e4.mono s, e5⟩⟩
theorem Grp.nil {H : Hp} : Grp H [] [] := ⟨rfl, fun i y h => by cases h⟩
theorem Grp.snoc {H : Hp} {gs : List V} {kbs : List (List (Int × Int))} (h : Grp H gs kbs) {a : Addr} {ys : List V} {ko kb : List (Int × Int)} (ha : H a = some (.lst ys)) (hP : Prs H ys ko) (bk : Bk ko kb) : Grp H (gs ++ [.ref a]) (kbs ++ [kb]) := by
  refine ⟨by simp [h.1], fun i y hi => ?_⟩
  by_cases hlt : i < gs.length
  · rw [List.getElem?_append_left hlt] at hi
    obtain ⟨a2, ys2, ko2, kb2, e1, e2, e3⟩ := h.2 i y hi
    exact ⟨a2, ys2, ko2, kb2, e1, by rw [List.getElem?_append_left (by rw [← h.1]; exact hlt)]; exact e2, e3⟩
  · have hj2 := (List.getElem?_eq_some_iff.mp hi).1
    have e : i = gs.length := by simp at hj2; omega
    subst e
    rw [List.getElem?_append_right (Nat.le_refl _), Nat.sub_self] at hi
    cases Option.some.inj hi
    refine ⟨a, ys, ko, kb, rfl, ?_, ha, hP, bk⟩
    rw [h.1, List.getElem?_append_right (Nat.le_refl _), Nat.sub_self]
    rfl
theorem sorted_prs {H : Hp} {ys zs : List V} {ko kb : List (Int × Int)} (hP : Prs H ys ko) (hpm : kb.Perm ko) (hpw : kb.Pairwise (fun p q => SrtO.lexB q p = false)) (srt : (zs.map (kOf H)).Pairwise (fun p q => SrtO.lexB q p = false)) (pm : zs.Perm ys) : Prs H zs kb := by
  have eks : ys.map (kOf H) = ko := by
    refine List.ext_getElem? fun i => ?_
    rw [List.getElem?_map]
    by_cases hi : i < ys.length
    · obtain ⟨tt, pp, e1, e2, e3⟩ := hP.2 i _ (List.getElem?_eq_getElem hi)
      rw [List.getElem?_eq_getElem hi, e2, e1]
      show some (kOf H (.ref tt)) = _
      rw [kOf_at e3]
    · rw [List.getElem?_eq_none (by omega), List.getElem?_eq_none (by rw [← hP.1]; omega)]
      rfl
  have ezs : zs.map (kOf H) = kb := pairs_one _ _ (((pm.map (kOf H)).trans (by rw [eks])).trans hpm.symm) srt hpw
  refine ⟨by rw [← ezs, List.length_map], fun i y hi => ?_⟩
  obtain ⟨j, hj, e⟩ := List.getElem_of_mem (pm.mem_iff.mp (List.mem_of_getElem? hi))
  obtain ⟨tt, pp, e1, e2, e3⟩ := hP.2 j _ (List.getElem?_eq_getElem hj)
  rw [e] at e1
  refine ⟨tt, pp, e1, ?_, e3⟩
  rw [← ezs, List.getElem?_map, hi, e1]
  show some (kOf H (.ref tt)) = _
  rw [kOf_at e3]
theorem nd_new {ks : List (Int × Int)} (h : Nd ks) {j : Nat} {pp : Int × Int} (hk : ks[j]? = some pp) : hasQ pp.2 (ks.take j) = false := by
  refine hasQ_no.mpr fun p hp e => ?_
  unfold Nd at h
  obtain ⟨m, hm, em⟩ := List.getElem_of_mem hp
  rw [List.length_take] at hm
  obtain ⟨hj, ej⟩ := List.getElem?_eq_some_iff.mp hk
  have h2 := List.pairwise_iff_getElem.mp h m j (by rw [List.length_map]; omega) (by rw [List.length_map]; exact hj) (by omega)
  rw [List.getElem_map, List.getElem_map, ej] at h2
  rw [List.getElem_take] at em
  rw [em, e] at h2
  exact h2 rfl
theorem any_cg {α : Type} {f g : α → Bool} : ∀ {l : List α}, (∀ x ∈ l, f x = g x) → l.any f = l.any g
  | [], _ => rfl
  | x :: l, h => by
    show (f x || l.any f) = (g x || l.any g)
    rw [h x (List.mem_cons_self ..), any_cg fun y hy => h y (List.mem_cons_of_mem _ hy)]
theorem cat_zero (q : Int) : ∀ kbs, cat 0 q kbs = ""
  | [] => rfl
  | x :: r => by
    show ("" : Str) ++ cat 0 q r = ""
    rw [cat_zero q r]
    rfl
def nx (kb : List (Int × Int)) : Nat → List (List (Int × Int))
  | 0 => []
  | 1 => nxt 0 kb
  | _ => nxt 0 kb ++ nxt 1 kb
theorem nxt_len (s : Nat) (kb : List (Int × Int)) : (nxt s kb).length ≤ 1 := by
  unfold nxt
  split <;> simp
theorem nx_len (kb : List (Int × Int)) (i : Nat) : (nx kb i).length ≤ 2 := by
  have h0 := nxt_len 0 kb
  have h1 := nxt_len 1 kb
  unfold nx
  split <;> simp <;> omega
theorem nx_step (kb : List (Int × Int)) {i : Nat} (hi : i < 2) : nx kb (i + 1) = nx kb i ++ nxt i kb := by
  rcases (by omega : i = 0 ∨ i = 1) with e | e <;> subst e
  · exact (List.nil_append _).symm
  · rfl
theorem Prs.hidS {H : Hp} {ys : List V} {ks : List (Int × Int)} {S : List Addr} (h : Prs H ys ks) (hS : ∀ a ∈ S, ∃ xs, H a = some (.lst xs)) : Prs (hid S H) ys ks := ⟨h.1, fun i y hi => by
  obtain ⟨t, p, e1, e2, e3⟩ := h.2 i y hi
  refine ⟨t, p, e1, e2, ?_⟩
  rw [hid_at]
  · exact e3
  · intro z
    obtain ⟨xs, e⟩ := hS _ z
    rw [e] at e3
    cases e3⟩
theorem hid_more2 {a b : Addr} {H : Hp} : Same (hid [a, b] H) (hid [a] H) := fun c o e => by
  by_cases h : c ∈ [a, b]
  · rw [hid_in h] at e; cases e
  · rw [hid_at h] at e
    rw [hid_at (fun z => h (by rw [List.mem_singleton.mp z]; exact List.mem_cons_self ..))]
    exact e
theorem Prs.hid1 {H : Hp} {ys xs : List V} {ks : List (Int × Int)} {r : Addr} (h : Prs H ys ks) (hr : H r = some (.lst xs)) : Prs (hid [r] H) ys ks := ⟨h.1, fun i y hi => by
  obtain ⟨t, p, e1, e2, e3⟩ := h.2 i y hi
  refine ⟨t, p, e1, e2, ?_⟩
  rw [hid_at]
  · exact e3
  · intro z
    rw [List.mem_singleton.mp z, hr] at e3
    cases e3⟩
def spRows24 (K : PySem.W.Frag) : Sp := fun vs H Q _ => ∃ (a : Addr) (ls : List Nat), vs = [.ref a] ∧ (SqL K H a (ls.map nI) ∨ SqT K H a (ls.map nI)) ∧ ls.length ≤ 100 ∧ (∀ n ∈ ls, n ≤ 10) ∧ 2 ^ 11 ≤ hs 10 ls ∧
  ∀ H' p ks m, Same H H' → IsOrd ls ks → Mx m (wrL ks ls.length) → H' p = some (.tup (((wrL ks ls.length).map (padTo m)).map V.str)) → Q (.ref p) H'
section
variable {P : Program} {w : World} {K : PySem.W.Frag} {mg : Str → Option Value} {base : Heap} {C_Breaker : Addr}
theorem ok_law_rows {f : Addr} {fd : FuncData} (F : Fun K "_law_rows" "_law_rows" s_law_rows f fd) (T : Txt K mg C_Breaker) : FnOk P w K mg base CX0 1 f fd ["budgets"] (spRows24 K) := by
  refine F.ok sc_law_rows (fun vs H Q E h => ?_) (fun cdv A outer s H vs Q E hr h => ?_)
  · obtain ⟨a, ls, rfl, _⟩ := h
    rfl
  · obtain ⟨a, ls, rfl, hS, hl, h10, hb11, q⟩ := h
    refine ⟨_, (pss_cons (ps_setLc (i := 1) (own := [("part", 2)]) rfl sc_law_rows.nd rfl rfl (sw_true rfl rfl rfl (by decide +kernel)) (pi_seqJ (pv 0)) (blkOk_by (own := [("part", 2)]) (N := ["budgets", "rows", "part", "groups", "q", "place", "later", "group", "total", "sides", "pair", "which", "side", "most", "row"]) (sc := defScope s_law_rows) (by decide +kernel)) (fun _ _ _ _ _ => (pg_name (i := 2) sc_law_rows.nd rfl (by first | exact Or.inl rfl | exact Or.inr rfl))) (fun _ _ _ _ _ => pts_nil) (fun _ _ _ _ _ => pe_str))
    (pss_cons (ps_set (i := 3) sc_law_rows.nd rfl (by first | exact Or.inl rfl | exact Or.inr rfl) (pe_lst (pa_cons (pe_lc (own := [("q", 4)]) rfl sc_law_rows.nd (pi_range1 (by rfl) T.b_range (pa_cons (pe_callB (show CallR _ (.builtin "len") (fun xs H Q => ∃ p ys, xs = [V.ref p] ∧ (SqL K H p ys ∨ SqT K H p ys) ∧ Q (.int (ys.length : Nat)) H) from call_len_seq) (by rfl) T.b_len (by decide +kernel) (pa_cons (pv 0) pa_nil)) pa_nil)) (blkOk_by (own := [("q", 4)]) (N := ["budgets", "rows", "part", "groups", "q", "place", "later", "group", "total", "sides", "pair", "which", "side", "most", "row"]) (sc := defScope s_law_rows) (by decide +kernel)) (fun _ _ _ _ _ => (pg_name (i := 4) sc_law_rows.nd rfl (by first | exact Or.inl rfl | exact Or.inr rfl))) (fun _ _ _ _ _ => pts_nil) (fun _ _ _ _ _ => (pe_tup (pa_cons (pe_ix (show IxR _ (rIx K) from ix_seq) (pv 0) (pv 4) (fun _ _ => rfl)) (pa_cons (pv 4) pa_nil))))) pa_nil)))
    (pss_cons (ps_for PassesOwn.never rfl (pi_range1 (by rfl) T.b_range (pa_cons pe_int pa_nil)) (pg_name (i := 5) sc_law_rows.nd rfl (by first | exact Or.inl rfl | exact Or.inr rfl))
      (pss_cons (ps_set (i := 6) sc_law_rows.nd rfl (by first | exact Or.inl rfl | exact Or.inr rfl) (pe_lst pa_nil))
        (pss_cons (ps_for PassesOwn.never rfl (pi_list (pv 3)) (pg_name (i := 7) sc_law_rows.nd rfl (by first | exact Or.inl rfl | exact Or.inr rfl))
          (pss_cons (ps_set (i := 8) sc_law_rows.nd rfl (by first | exact Or.inl rfl | exact Or.inr rfl) pe_int)
            (pss_cons (ps_set (i := 9) sc_law_rows.nd rfl (by first | exact Or.inl rfl | exact Or.inr rfl) (pe_lst (pa_cons (pe_lst pa_nil) (pa_cons (pe_lst pa_nil) pa_nil))))
            (pss_cons (ps_for PassesOwn.never rfl (pi_list (pe_callB cr_sortedPO (by rfl) T.b_sorted (by decide +kernel) (pa_cons (pv 7) pa_nil))) (pg_name (i := 10) sc_law_rows.nd rfl (by first | exact Or.inl rfl | exact Or.inr rfl))
              (pss_cons (ps_set (i := 11) sc_law_rows.nd rfl (by first | exact Or.inl rfl | exact Or.inr rfl) (pe_callTy call_int1 (by rfl) T.b_int (by decide +kernel) (pa_cons (pe_cmpR op_ge (pv 8) (pe_op op_shlW pe_int pe_int) (nomark _)) pa_nil)))
                (pss_cons (ps_set (i := 12) sc_law_rows.nd rfl (by first | exact Or.inl rfl | exact Or.inr rfl) (pe_ix ix_list (pv 9) (pv 11) (fun _ _ => rfl)))
                (pss_cons (ps_expr (pe_bm PySem.F.plainAttrs_list PySem.F.slot_list_append PySem.F.type_list_append mt_append (pv 12) (pa_cons (pe_tup (pa_cons (pe_op op_sub (pe_ix ix_tup (pv 10) pe_int (fun _ _ => rfl)) pe_int) (pa_cons (pe_ix ix_tup (pv 10) pe_int (fun _ _ => rfl)) pa_nil))) pa_nil)))
                (pss_cons (ps_asg (pe_op op_add_str (pe_ix ix_list (pv 1) (pe_ix ix_tup (pv 10) pe_int (fun _ _ => rfl)) (fun _ _ => rfl)) (pe_ix ix_str pe_str (pv 11) (fun _ _ => rfl))) (pg_sub (pv 1) (pe_ix ix_tup (pv 10) pe_int (fun _ _ => rfl)) set_list))
                (pss_one (ps_if (pt_cmpR op_eq (pv 11) pe_int (nomark _))
                  (pss_one (ps_set (i := 8) sc_law_rows.nd rfl (by first | exact Or.inl rfl | exact Or.inr rfl) (pe_op op_add (pv 8) (pe_op op_shlW pe_int (pe_op op_sub pe_int (pe_ix ix_tup (pv 10) pe_int (fun _ _ => rfl)))))))
                  pss_nil)))))))
            (pss_one (ps_for PassesOwn.never rfl (pi_list (pv 9)) (pg_name (i := 12) sc_law_rows.nd rfl (by first | exact Or.inl rfl | exact Or.inr rfl))
              (pss_one (ps_if (pt_not (pt_val (pe_callB (cr_any rfl) (by rfl) T.b_any (by decide +kernel) (pa_cons (pe_lc (own := [("pair", 10)]) rfl sc_law_rows.nd (pi_list (pv 12)) (blkOk_by (own := [("pair", 10)]) (N := ["budgets", "rows", "part", "groups", "q", "place", "later", "group", "total", "sides", "pair", "which", "side", "most", "row"]) (sc := defScope s_law_rows) (by decide +kernel)) (fun _ _ _ _ _ => (pg_name (i := 10) sc_law_rows.nd rfl (by first | exact Or.inl rfl | exact Or.inr rfl))) (fun _ _ _ _ _ => pts_nil) (fun _ _ _ _ _ => (pe_cmpR op_lt (pe_ix (show IxR _ (rIxT K) from ix_tup) (pv 10) pe_int (fun _ _ => rfl)) pe_int (nomark _)))) pa_nil))))
                  (pss_one (ps_expr (pe_bm PySem.F.plainAttrs_list PySem.F.slot_list_append PySem.F.type_list_append mt_append (pv 6) (pa_cons (pv 12) pa_nil))))
                  pss_nil))))))))
        (pss_one (ps_set (i := 3) sc_law_rows.nd rfl (by first | exact Or.inl rfl | exact Or.inr rfl) (pv 6))))))
    (pss_cons (ps_set (i := 13) sc_law_rows.nd rfl (by first | exact Or.inl rfl | exact Or.inr rfl) (pe_callB (cr_max rfl) (by rfl) T.b_max (by decide +kernel) (pa_cons (pe_lc (own := [("row", 14)]) rfl sc_law_rows.nd (pi_list (pv 1)) (blkOk_by (own := [("row", 14)]) (N := ["budgets", "rows", "part", "groups", "q", "place", "later", "group", "total", "sides", "pair", "which", "side", "most", "row"]) (sc := defScope s_law_rows) (by decide +kernel)) (fun _ _ _ _ _ => (pg_name (i := 14) sc_law_rows.nd rfl (by first | exact Or.inl rfl | exact Or.inr rfl))) (fun _ _ _ _ _ => pts_nil) (fun _ _ _ _ _ => (pe_callB call_len_str (by rfl) T.b_len (by decide +kernel) (pa_cons (pv 14) pa_nil)))) pa_nil)))
    (pss_one (ps_ret (pe_callTy call_tuple_of (by rfl) T.b_tuple (by decide +kernel) (pa_cons (pe_lc (own := [("row", 14)]) rfl sc_law_rows.nd (pi_list (pv 1)) (blkOk_by (own := [("row", 14)]) (N := ["budgets", "rows", "part", "groups", "q", "place", "later", "group", "total", "sides", "pair", "which", "side", "most", "row"]) (sc := defScope s_law_rows) (by decide +kernel)) (fun _ _ _ _ _ => (pg_name (i := 14) sc_law_rows.nd rfl (by first | exact Or.inl rfl | exact Or.inr rfl))) (fun _ _ _ _ _ => pts_nil) (fun _ _ _ _ _ => (pe_op op_add_str (pv 14) (pe_op op_repS pe_str (pe_op op_sub (pv 13) (pe_callB call_len_str (by rfl) T.b_len (by decide +kernel) (pa_cons (pv 14) pa_nil))))))) pa_nil)))))))), ?_⟩
    obtain ⟨ks, hO⟩ := ord_ex ls
    have hSm : ∀ {H'}, Same H H' → SqL K H' a (ls.map nI) ∨ SqT K H' a (ls.map nI) := fun {H'} s => hS.imp (fun z => s.seq z) (fun z => sameT s z)
    refine ⟨_, rfl, a, _, rfl, hS, fun J S LE sJ D hD => lc_J LE (fun i H' => Same H H' ∧ H' D = some (.lst ((List.replicate i ("" : Str)).map V.str))) ⟨same_upd hD, upd_same⟩ (fun i H' _ h => LE.mono _ _ h.1 sJ) ?_ ?_⟩
    · rintro i x H' hi ⟨sm, eD⟩
      have hil := (List.getElem?_eq_some_iff.mp hi).1
      rw [List.length_map] at hil
      refine ⟨rfl, ?_⟩
      refine tyes ?_
      refine ⟨_, eD, szl (by rw [List.length_map, List.length_replicate]; omega), same_out sm hD, ?_⟩
      rw [upd_same, List.replicate_succ', List.map_append]
      rfl
    rintro H1 ⟨s1, hr1⟩
    rw [List.length_map] at hr1
    obtain ⟨r, er⟩ : ∃ r, D = r := ⟨_, rfl⟩
    subst er
    have fr : H D = none := hD
    have hkl : (prs ls).length = ls.length := prs_len ls
    refine ⟨_, rfl, a, _, rfl, hSm s1, (ls.length : Int), by rw [List.length_map], by omega, by omega, fun D1 hD1 => lc_range (lo := 0) (n := ls.length) (fun i H' => ∃ ts : List V, Same H1 H' ∧ H' D1 = some (.lst ts) ∧ Prs H' ts ((prs ls).take i)) ⟨[], same_upd hD1, upd_same, Prs.nil⟩ ?_ ?_⟩
    · rintro i H' hi ⟨ts, sm, eD, hP⟩
      refine ⟨rfl, ?_⟩
      refine tyes ?_
      have hli := List.getElem?_eq_getElem hi
      have hg := prs_get hli
      have ai : (ls.map nI)[i]? = some (nI ls[i]) := by rw [List.getElem?_map, hli]; rfl
      have ax : atI (ls.map nI) (0 + (i : Int)) = some (nI ls[i]) := by rw [Int.zero_add]; exact atI_nat (j := i) ai
      have sHm := hSm (s1.trans sm)
      have fin : ∀ t, H' t = none → ∃ acc, upd H' t (.tup [nI ls[i], V.int (0 + (i : Int))]) D1 = some (.lst acc) ∧ acc.length < sizeLine ∧ ∃ ts, Same H1 (upd (upd H' t (.tup [nI ls[i], V.int (0 + (i : Int))])) D1 (.lst (acc ++ [.ref t]))) ∧ upd (upd H' t (.tup [nI ls[i], V.int (0 + (i : Int))])) D1 (.lst (acc ++ [.ref t])) D1 = some (.lst ts) ∧ Prs (upd (upd H' t (.tup [nI ls[i], V.int (0 + (i : Int))])) D1 (.lst (acc ++ [.ref t]))) ts (List.take (i + 1) (prs ls)) := fun t ht => by
        rw [Int.zero_add]
        have st := same_upd (o := .tup [nI ls[i], V.int (i : Int)]) ht
        have eD2 := st _ _ eD
        refine ⟨ts, eD2, szl (by rw [hP.1, List.length_take]; omega), ts ++ [.ref t], same_out (sm.trans st) hD1, upd_same, ?_⟩
        rw [List.take_succ, hg]
        exact ((hP.mono st).snoc (p := ((ls[i] : Nat), (i : Int))) upd_same).off eD2
      rcases sHm with z | z
      · exact ⟨_, rfl, _, rfl, .inl ⟨a, _, _, _, rfl, rfl, z, ax, _, rfl, szle (by show 2 ≤ 16777216; decide), fin⟩⟩
      · exact ⟨_, rfl, _, rfl, .inr (.inl ⟨a, _, _, _, rfl, rfl, z, ax, _, rfl, szle (by show 2 ≤ 16777216; decide), fin⟩)⟩
    rintro H2 ⟨ts, s2, eD1, hP2⟩
    rw [← hkl, List.take_length] at hP2
    refine ⟨szle (by show 1 ≤ 16777216; decide), fun G hG => ?_⟩
    have hr2 := s2 _ _ hr1
    have bk0 : Bk (prs ls) ks := Bk.ord hO hl h10 hb11
    have nd0 := Nd.ord hO
    have s3 := same_upd (o := .lst [.ref D1]) hG
    have n1 : D1 ≠ D := fun e => by rw [e, hr1] at hD1; cases hD1
    have nG : G ≠ D := fun e => by rw [e, hr2] at hG; cases hG
    obtain ⟨H3, e3⟩ : ∃ H3, upd H2 G (.lst [.ref D1]) = H3 := ⟨_, rfl⟩
    have hr3 : H3 D = some (.lst ((List.replicate ls.length ("" : Str)).map V.str)) := by rw [← e3]; exact s3 _ _ hr2
    have hG3 : H3 G = some (.lst [.ref D1]) := by rw [← e3]; exact upd_same
    have s03 : Same H H3 := by rw [← e3]; exact (s1.trans s2).trans s3
    have g0 : Grp (hid [D] H3) [.ref D1] [ks] := Grp.nil.snoc (by rw [hid_at (by simpa using n1), ← e3]; exact s3 _ _ eD1) (Prs.hid1 (by rw [← e3]; exact hP2.mono s3) hr3) bk0
    rw [e3]
    clear e3 s3 hP2 eD1 s2 hr1 hr2 hG s1
    refine ⟨11, rfl, by decide, by decide, for_range (n := 11) (fun i σ H' => ∃ (rs : List Str) (G : Addr) (gs : List V) (kbs : List (List (Int × Int))) (v5 v6 v7 v8 v9 v10 v11 v12 : Option V), σ = [some (.ref a), some (.ref D), none, some (.ref G), none, v5, v6, v7, v8, v9, v10, v11, v12, none, none] ∧ Same H (hid [D] H') ∧ H' D = some (.lst (rs.map V.str)) ∧ G ≠ D ∧ H' G = some (.lst gs) ∧ Grp (hid [D] H') gs kbs ∧ rs.length = ls.length ∧ Nds kbs ∧ kbs.length ≤ 2 ^ i ∧ (∀ kb ∈ kbs, ∀ p ∈ kb, 0 ≤ p.2 ∧ p.2 < ls.length) ∧ ∀ q : Nat, q < ls.length → rs.getD q "" ++ cat (11 - i) q kbs = wr 11 ks q)
      ⟨_, G, _, [ks], _, _, _, _, _, _, _, _, rfl, KB.Same.hid_all s03 (by simpa using fr), hr3, nG, hG3, g0, by rw [List.length_replicate], by unfold Nds; rw [List.flatten_cons, List.flatten_nil, List.append_nil]; exact nd0, Nat.le_refl _, ?_, ?_⟩ ?_ ?_⟩
    · intro kb hkb p hp
      rw [List.mem_singleton.mp hkb] at hp
      obtain ⟨l, k, rfl, hk⟩ := hO.mem hp
      have := (List.getElem?_eq_some_iff.mp hk).1
      show 0 ≤ (k : Int) ∧ (k : Int) < _
      omega
    · intro q hq
      have e : (List.replicate ls.length ("" : Str)).getD q "" = "" := by
        rw [List.getD_eq_getElem?_getD, List.getElem?_replicate]
        split <;> rfl
      rw [e, nil_app]
      exact app_nil _
    · clear hr3 hG3 s03 g0 H3 nG n1 hD1 G
      rintro i σ H3 hi ⟨rs, G, gs, kbs, v5, v6, v7, v8, v9, v10, v11, v12, rfl, sA, hr3, nG, hG3, gG, hrl, nds, hkb, hbd, hv⟩
      obtain ⟨m, em⟩ : ∃ m, 10 - i = m := ⟨_, rfl⟩
      rw [show 11 - i = m + 1 by omega] at hv
      rw [show 11 - (i + 1) = m by omega]
      refine ⟨szle (by show 0 ≤ 16777216; decide), fun l hl0 => ?_⟩
      have nlD : l ≠ D := fun e => by rw [e, hr3] at hl0; cases hl0
      obtain ⟨A, eA⟩ : ∃ A, hid [D] H3 = A := ⟨_, rfl⟩
      have aD : A D = none := by rw [← eA]; exact hid_in (List.mem_singleton.mpr rfl)
      have al : A l = none := by rw [← eA, hid_at (by simpa using nlD)]; exact hl0
      have aG : A G = some (.lst gs) := by rw [← eA, hid_at (by simpa using nG)]; exact hG3
      rw [eA] at gG sA
      have sA3 : Same A (upd H3 l (.lst [])) := by
        rw [← eA]
        exact hid_sub.trans (same_upd hl0)
      refine ⟨_, rfl, G, rfl, ⟨_, SqL.of (sA3 _ _ aG)⟩, for_list (K := K) (a := G) (xs := gs) (fun j σ H4 => ∃ (rs : List Str) (lt : List V) (kl : List (List (Int × Int))) (v7 v8 v9 v10 v11 v12 : Option V), σ = [some (.ref a), some (.ref D), none, some (.ref G), none, some (.int (0 + (i : Int))), some (.ref l), v7, v8, v9, v10, v11, v12, none, none] ∧ Same A H4 ∧ H4 D = some (.lst (rs.map V.str)) ∧ H4 l = some (.lst lt) ∧ Grp (hid [D, l] H4) lt kl ∧ rs.length = ls.length ∧ Nds (kl ++ kbs.drop j) ∧ kl.length ≤ 2 * j ∧ (∀ kb ∈ kl, ∀ p ∈ kb, 0 ≤ p.2 ∧ p.2 < ls.length) ∧ ∀ q : Nat, q < ls.length → rs.getD q "" ++ (cat m q kl ++ cat (m + 1) q (kbs.drop j)) = wr 11 ks q)
        ⟨rs, [], [], _, _, _, _, _, _, rfl, sA3, by rw [upd_ne nlD.symm]; exact hr3, upd_same, Grp.nil, hrl, nds, Nat.zero_le _, (fun kb h => (by cases h)), fun q hq => (by rw [← hv q hq]; show _ ++ (("" : Str) ++ _) = _; rw [nil_app]; rfl)⟩ (fun j σ H4 _ h => ?_) ?_ ?_⟩
      · obtain ⟨_, _, _, _, _, _, _, _, _, _, sm, _⟩ := h
        exact SqL.of (sm _ _ aG)
      · rintro j x σ H4 hx ⟨rs, lt, kl, w7, w8, w9, w10, w11, w12, rfl, sm4, hr4, hl4, gl, hrl4, nds4, hkl4, hbd4, hv4⟩
        obtain ⟨ag, yg, ko, kb, rfl, hkb4, hag, hPg, bk⟩ := gG.2 j x hx
        have hjl := (List.getElem?_eq_some_iff.mp hkb4).1
        have edr : kbs.drop j = kb :: kbs.drop (j + 1) := by
          rw [List.drop_eq_getElem_cons hjl, (List.getElem?_eq_some_iff.mp hkb4).2]
        rw [edr] at nds4 hv4
        have ndk := nds_one nds4
        have hbk := hbd kb (List.mem_of_getElem? hkb4)
        refine ⟨szle (by show 0 ≤ 16777216; decide), fun q0 hq0 => ⟨szle (by show 0 ≤ 16777216; decide), fun q1 hq1 => ⟨szle (by show 2 ≤ 16777216; decide), fun sp hsp => ?_⟩⟩⟩
        have t0 := same_upd (o := .lst []) hq0
        have t1 := same_upd (o := .lst []) hq1
        have t2 := same_upd (o := .lst [.ref q0, .ref q1]) hsp
        have nq : q0 ≠ q1 := fun e => by rw [← e, upd_same] at hq1; cases hq1
        have nsp0 : sp ≠ q0 := fun e => by rw [e, upd_ne nq, upd_same] at hsp; cases hsp
        have nsp1 : sp ≠ q1 := fun e => by rw [e, upd_same] at hsp; cases hsp
        have nspD : sp ≠ D := fun e => by rw [e, t1 _ _ (t0 _ _ hr4)] at hsp; cases hsp
        have nq0D : q0 ≠ D := fun e => by rw [e, hr4] at hq0; cases hq0
        have nq1D : q1 ≠ D := fun e => by rw [e, t0 _ _ hr4] at hq1; cases hq1
        have nspl : sp ≠ l := fun e => by rw [e, t1 _ _ (t0 _ _ hl4)] at hsp; cases hsp
        have nq0l : q0 ≠ l := fun e => by rw [e, hl4] at hq0; cases hq0
        have nq1l : q1 ≠ l := fun e => by rw [e, t0 _ _ hl4] at hq1; cases hq1
        have e0 : upd (upd (upd H4 q0 (.lst [])) q1 (.lst [])) sp (.lst [.ref q0, .ref q1]) q0 = some (.lst []) := by rw [upd_ne nsp0.symm, upd_ne nq, upd_same]
        have e1 : upd (upd (upd H4 q0 (.lst [])) q1 (.lst [])) sp (.lst [.ref q0, .ref q1]) q1 = some (.lst []) := by rw [upd_ne nsp1.symm, upd_same]
        have esp : upd (upd (upd H4 q0 (.lst [])) q1 (.lst [])) sp (.lst [.ref q0, .ref q1]) sp = some (.lst [.ref q0, .ref q1]) := upd_same
        have f1 : H4 q1 = none := t0.free hq1
        have t := (t0.trans t1).trans t2
        generalize upd (upd (upd H4 q0 (.lst [])) q1 (.lst [])) sp (.lst [.ref q0, .ref q1]) = H5 at *
        have sm5 := sm4.trans t
        refine ⟨_, rfl, ag, yg, kOf A, rfl, SqL.of (sm5 _ _ hag), fun y hy => ?_, fun zs po srt stb hpo => ?_⟩
        · obtain ⟨i, hi, rfl⟩ := List.getElem_of_mem hy
          obtain ⟨tt, pp, e1, e2, e3⟩ := hPg.2 i _ (List.getElem?_eq_getElem hi)
          rw [e1, kOf_at e3]
          exact ⟨tt, rfl, sm5 _ _ e3⟩
        have hzP : Prs A zs kb := sorted_prs hPg bk.perm bk.srt (by rw [List.pairwise_map]; exact srt) stb.perm
        have t3 := same_upd (o := .lst zs) hpo
        have sm6 := sm5.trans t3
        have e06 := t3 _ _ e0
        have e16 := t3 _ _ e1
        have esp6 := t3 _ _ esp
        have hr6 := t3 _ _ (t _ _ hr4)
        have hl6 := t3 _ _ (t _ _ hl4)
        have epo6 : upd H5 po (.lst zs) po = some (.lst zs) := upd_same
        have npq0 : po ≠ q0 := fun e => by rw [e, e0] at hpo; cases hpo
        have npq1 : po ≠ q1 := fun e => by rw [e, e1] at hpo; cases hpo
        have npD : po ≠ D := fun e => by rw [e, t _ _ hr4] at hpo; cases hpo
        generalize upd H5 po (.lst zs) = H6 at *
        obtain ⟨hM1, hM2, _⟩ := bk.cutn
        obtain ⟨M, eM⟩ : ∃ M, cutN (fsN kb) = M := ⟨_, rfl⟩
        rw [eM] at hM1 hM2
        have kl' : (fsN kb).length = kb.length := by unfold fsN; rw [List.length_map]
        have aq0 : A q0 = none := sm4.free hq0
        have aq1 : A q1 = none := sm4.free f1
        have inS : ∀ z, z ∈ [D, q0, q1] ↔ z = D ∨ z = q0 ∨ z = q1 := fun z => by simp
        obtain ⟨Bq, eB⟩ : ∃ Bq, hid [D, q0, q1] H6 = Bq := ⟨_, rfl⟩
        have sB : Same A Bq := by
          rw [← eB]
          refine KB.Same.hid_all sm6 fun z hz => ?_
          rcases (inS z).mp hz with e | e | e <;> rw [e] <;> assumption
        have bpo : Bq po = some (.lst zs) := by
          rw [← eB, hid_at (fun z => by rcases (inS po).mp z with e | e | e <;> contradiction)]
          exact epo6
        have bsp : Bq sp = some (.lst [.ref q0, .ref q1]) := by
          rw [← eB, hid_at (fun z => by rcases (inS sp).mp z with e | e | e <;> contradiction)]
          exact esp6
        have bl : Bq l = some (.lst lt) := by
          rw [← eB, hid_at (fun z => (inS l).mp z |>.elim nlD fun z => z.elim (fun e => nq0l e.symm) (fun e => nq1l e.symm))]
          exact hl6
        have bS : ∀ {H7 : Hp} {z : Addr} {o : HO}, z = D ∨ z = q0 ∨ z = q1 → Same Bq H7 → Same Bq (upd H7 z o) := fun {H7 z o} hz s => by
          rw [← eB] at s ⊢
          exact KB.Same.hidden s ((inS z).mpr hz)
        have sX : Same (hid [D, l] H4) Bq := by
          rw [← eB]
          refine KB.Same.hid_all (hid_sub.trans (t.trans t3)) fun z hz => ?_
          rcases (inS z).mp hz with e | e | e <;> rw [e]
          · exact hid_in (List.mem_cons_self ..)
          · rw [hid_at (by simp [nq0D, nq0l])]
            exact hq0
          · rw [hid_at (by simp [nq1D, nq1l])]
            exact f1
        have sB6 : Same Bq H6 := by rw [← eB]; exact hid_sub
        have hr10 : ∀ q : Nat, q < ls.length → (rs.getD q "").length ≤ 11 := fun q hq => by
          have e := congrArg Str.length (hv4 q hq)
          rw [len_app] at e
          have := @wr_len 11 ks (q : Int)
          omega
        clear eB inS
        refine ⟨po, rfl, ⟨_, SqL.of epo6⟩, for_list (K := K) (a := po) (xs := zs) (fun k σ H7 => ∃ (r2 : List Str) (z0 z1 : List V) (v10 v11 v12 : Option V), σ = [some (.ref a), some (.ref D), none, some (.ref G), none, some (.int (0 + (i : Int))), some (.ref l), some (.ref ag), some (.int (hs 10 ((fsN kb).take (min k M)) : Nat)), some (.ref sp), v10, v11, v12, none, none] ∧ Same Bq H7 ∧ H7 D = some (.lst (r2.map V.str)) ∧ H7 q0 = some (.lst z0) ∧ H7 q1 = some (.lst z1) ∧ Prs H7 z0 (lessK ((kb.take k).take M)) ∧ Prs H7 z1 (lessK ((kb.take k).drop M)) ∧ r2.length = ls.length ∧ ∀ q : Nat, q < ls.length → r2.getD q "" = rs.getD q "" ++ ((if hasQ q ((kb.take k).take M) = true then tolS 0 else ("" : Str)) ++ (if hasQ q ((kb.take k).drop M) = true then tolS 1 else ("" : Str))))
          ⟨rs, [], [], _, _, _, rfl, sB6, hr6, e06, e16, by rw [List.take_zero, List.take_nil]; exact Prs.nil, by rw [List.take_zero, List.drop_nil]; exact Prs.nil, hrl4, fun q _ => by rw [List.take_zero, List.take_nil, List.drop_nil]; exact (app_nil _).symm⟩ (fun k σ H7 _ h => ?_) ?_ ?_⟩
        · obtain ⟨_, _, _, _, _, _, _, sm, _⟩ := h
          exact SqL.of (sm _ _ bpo)
        · rintro k x σ H7 hx ⟨r2, z0, z1, v10, v11, v12, rfl, sm7, hr7, h07, h17, P0, P1, el7, hv7⟩
          obtain ⟨tt, pp, rfl, hk, ht⟩ := hzP.2 k x hx
          obtain ⟨lv, hlv, hpl⟩ := bk.get k pp hk
          have hlv10 := bk.le lv (List.mem_of_getElem? hlv)
          obtain ⟨hp0, hp1⟩ := hbk pp (List.mem_of_getElem? hk)
          obtain ⟨n, hn⟩ := nat_of hp0
          have hnl : n < ls.length := by omega
          have cs10 : CShl 1 10 := ⟨by decide, by decide⟩
          have e10 : (1 : Int) * 2 ^ ((10 : Int)).toNat = 1024 := by decide
          have htt : H7 tt = some (.tup [.int pp.1, .int pp.2]) := sm7 _ _ (sB _ _ ht)
          have tot : decide ((1 : Int) * 2 ^ ((10 : Int)).toNat ≤ ((hs 10 ((fsN kb).take (min k M)) : Nat) : Int)) = decide (M ≤ k) := by
            rw [decide_eq_decide, e10]
            constructor
            · intro z
              refine Classical.byContradiction fun w => ?_
              have := hs_take_lt (L := 10) (i := k) (m := M) (ls := fsN kb) (by omega) hM1
              rw [Nat.min_eq_left (by omega)] at z
              omega
            · intro z
              rw [Nat.min_eq_right z, hM2]
              decide
          refine ⟨_, rfl, _, _, rfl, rfl, cs10, _, _, rfl, rfl, .inr ⟨_, rfl, ?_⟩⟩
          rw [tot]
          obtain ⟨w, qw, zw, hwi, hw1, hat, hqw, hzw, nqw⟩ : ∃ (w : Nat) (qw : Addr) (zw : List V), (if decide (M ≤ k) = true then (1 : Int) else 0) = (w : Int) ∧ w = (if M ≤ k then 1 else 0) ∧ [V.ref q0, V.ref q1][w]? = some (.ref qw) ∧ H7 qw = some (.lst zw) ∧ (w = 0 ∧ qw = q0 ∧ zw = z0 ∨ w = 1 ∧ qw = q1 ∧ zw = z1) ∧ qw ≠ D := by
            by_cases h : M ≤ k
            · exact ⟨1, q1, z1, by rw [decide_eq_true h]; rfl, by rw [if_pos h], rfl, h17, .inr ⟨rfl, rfl, rfl⟩, nq1D⟩
            · exact ⟨0, q0, z0, by rw [decide_eq_false h]; rfl, by rw [if_neg h], rfl, h07, .inl ⟨rfl, rfl, rfl⟩, nq0D⟩
          rw [hwi]
          have hzl : zw.length ≤ 1000 := by
            have := bk.len
            rcases hzw with ⟨_, _, e⟩ | ⟨_, _, e⟩ <;> rw [e]
            · rw [P0.1, show (lessK ((kb.take k).take M)).length = ((kb.take k).take M).length by unfold lessK; rw [List.length_map], List.length_take, List.length_take]
              omega
            · rw [P1.1, show (lessK ((kb.take k).drop M)).length = ((kb.take k).drop M).length by unfold lessK; rw [List.length_map], List.length_drop, List.length_take]
              omega
          have hsp7 := sm7 _ _ bsp
          refine ⟨_, rfl, _, rfl, sp, _, _, _, rfl, rfl, SqL.of hsp7, atI_nat hat, ?_⟩
          refine ⟨_, rfl, .inl ⟨rfl, _, SqL.of hqw⟩, ?_⟩
          refine ⟨_, rfl, tt, _, _, _, rfl, rfl, SqT.of htt, atI_nat (j := 0) rfl, _, _, rfl, rfl, _, rfl, tt, _, _, _, rfl, rfl, SqT.of htt, atI_nat (j := 1) rfl, szle (by show 2 ≤ 16777216; decide), fun t2 ht2 => ?_⟩
          have u2 := same_upd (o := .tup [.int (pp.1 - 1), .int pp.2]) ht2
          have nt2D : t2 ≠ D := fun e => by rw [e, hr7] at ht2; cases ht2
          have nt20 : t2 ≠ q0 := fun e => by rw [e, h07] at ht2; cases ht2
          have nt21 : t2 ≠ q1 := fun e => by rw [e, h17] at ht2; cases ht2
          refine ⟨qw, _, _, rfl, rfl, u2 _ _ hqw, szl (by omega), ?_⟩
          have htt8 : (upd (upd H7 t2 (.tup [.int (pp.1 - 1), .int pp.2])) qw (.lst (zw ++ [.ref t2]))) tt = some (.tup [.int pp.1, .int pp.2]) := by
            rw [upd_ne (fun e => by rw [e, hqw] at htt; cases htt)]
            exact u2 _ _ htt
          have hr8 : (upd (upd H7 t2 (.tup [.int (pp.1 - 1), .int pp.2])) qw (.lst (zw ++ [.ref t2]))) D = some (.lst (r2.map V.str)) := by
            rw [upd_ne nqw.symm]
            exact u2 _ _ hr7
          have sm8 : Same Bq (upd (upd H7 t2 (.tup [.int (pp.1 - 1), .int pp.2])) qw (.lst (zw ++ [.ref t2]))) := bS (by rcases hzw with ⟨_, e, _⟩ | ⟨_, e, _⟩ <;> rw [e] <;> simp) (sm7.trans u2)
          have ht28 : (upd (upd H7 t2 (.tup [.int (pp.1 - 1), .int pp.2])) qw (.lst (zw ++ [.ref t2]))) t2 = some (.tup [.int (pp.1 - 1), .int pp.2]) := by
            rw [upd_ne (fun e => by rw [e, hqw] at ht2; cases ht2)]
            exact upd_same
          have P08 : Prs (upd (upd H7 t2 (.tup [.int (pp.1 - 1), .int pp.2])) qw (.lst (zw ++ [.ref t2]))) z0 (lessK ((kb.take k).take M)) := (P0.mono u2).off (u2 _ _ hqw)
          have P18 : Prs (upd (upd H7 t2 (.tup [.int (pp.1 - 1), .int pp.2])) qw (.lst (zw ++ [.ref t2]))) z1 (lessK ((kb.take k).drop M)) := (P1.mono u2).off (u2 _ _ hqw)
          have h0w : (upd (upd H7 t2 (.tup [.int (pp.1 - 1), .int pp.2])) qw (.lst (zw ++ [.ref t2]))) q0 = some (.lst (if w = 0 then z0 ++ [.ref t2] else z0)) := by
            rcases hzw with ⟨e1, e2, e3⟩ | ⟨e1, e2, e3⟩
            · rw [e1, e2, e3, upd_same]; rfl
            · rw [e1, e2, upd_ne nq]; exact u2 _ _ h07
          have h1w : (upd (upd H7 t2 (.tup [.int (pp.1 - 1), .int pp.2])) qw (.lst (zw ++ [.ref t2]))) q1 = some (.lst (if w = 1 then z1 ++ [.ref t2] else z1)) := by
            rcases hzw with ⟨e1, e2, e3⟩ | ⟨e1, e2, e3⟩
            · rw [e1, e2, upd_ne nq.symm]; exact u2 _ _ h17
            · rw [e1, e2, e3, upd_same]; rfl
          generalize upd (upd H7 t2 (.tup [.int (pp.1 - 1), .int pp.2])) qw (.lst (zw ++ [.ref t2])) = H8 at *
          obtain ⟨c, hc, ec⟩ : ∃ c, atI ("01" : Str).cps.toList (w : Int) = some c ∧ (⟨#[c]⟩ : Str) = tolS w := by
            rcases hzw with ⟨e, _⟩ | ⟨e, _⟩ <;> rw [e]
            · exact ⟨48, rfl, rfl⟩
            · exact ⟨49, rfl, rfl⟩
          have hatr : atI (r2.map V.str) pp.2 = some (.str (r2.getD n "")) := by
            rw [hn]
            exact at_strs (by omega)
          have hzn : (r2.getD n "").length ≤ 13 := by
            rw [hv7 n hnl, len_app, len_app]
            have := hr10 n hnl
            have e : (("" : Str)).length = 0 := rfl
            split <;> split <;> simp only [tolS_len, e] <;> omega
          refine ⟨_, rfl, _, rfl, tt, _, _, _, rfl, rfl, SqT.of htt8, atI_nat (j := 1) rfl, D, _, _, _, rfl, rfl, SqL.of hr8, hatr, ?_⟩
          refine ⟨_, rfl, _, _, c, rfl, rfl, szle (by show 2 ≤ _; decide), hc, _, _, rfl, rfl, szle (by show _ + 1 ≤ _; omega), ?_⟩
          refine ⟨_, rfl, _, rfl, tt, _, _, _, rfl, rfl, SqT.of htt8, atI_nat (j := 1) rfl, D, _, n, _, rfl, congrArg V.int hn, hr8, ixN_nat (by rw [List.length_map]; omega), ?_⟩
          rw [ec]
          have hkl9 := (List.getElem?_eq_some_iff.mp hk).1
          have fin : ∃ (r3 : List Str) (y0 y1 : List V), Same Bq (upd H8 D (.lst ((r2.map V.str).set n (.str (r2.getD n "" ++ tolS w))))) ∧ (upd H8 D (.lst ((r2.map V.str).set n (.str (r2.getD n "" ++ tolS w))))) D = some (.lst (r3.map V.str)) ∧ (upd H8 D (.lst ((r2.map V.str).set n (.str (r2.getD n "" ++ tolS w))))) q0 = some (.lst y0) ∧ (upd H8 D (.lst ((r2.map V.str).set n (.str (r2.getD n "" ++ tolS w))))) q1 = some (.lst y1) ∧ Prs (upd H8 D (.lst ((r2.map V.str).set n (.str (r2.getD n "" ++ tolS w))))) y0 (lessK ((kb.take (k + 1)).take M)) ∧ Prs (upd H8 D (.lst ((r2.map V.str).set n (.str (r2.getD n "" ++ tolS w))))) y1 (lessK ((kb.take (k + 1)).drop M)) ∧ r3.length = ls.length ∧ ∀ q : Nat, q < ls.length → r3.getD q "" = rs.getD q "" ++ ((if hasQ q ((kb.take (k + 1)).take M) = true then tolS 0 else ("" : Str)) ++ (if hasQ q ((kb.take (k + 1)).drop M) = true then tolS 1 else ("" : Str))) := by
            have hnew := nd_new ndk hk
            rw [hn] at hnew
            have hn0 : hasQ (n : Int) ((kb.take k).take M) = false := hasQ_sub (List.take_sublist _ _) hnew
            have hn1 : hasQ (n : Int) ((kb.take k).drop M) = false := hasQ_sub (List.drop_sublist _ _) hnew
            have e1k : kb.take (k + 1) = kb.take k ++ [pp] := by rw [List.take_succ, hk]; rfl
            have hone : ∀ q : Nat, hasQ (q : Int) [pp] = decide (n = q) := fun q => by
              unfold hasQ
              show (pp.2 == (q : Int) || false) = _
              rw [hn, Bool.or_false]
              by_cases z : n = q
              · simp [z]
              · rw [decide_eq_false z]
                simpa using fun w : (n : Int) = (q : Int) => z (Int.ofNat.inj w)
            have happ : ∀ (q : Int) (x y : List (Int × Int)), hasQ q (x ++ y) = (hasQ q x || hasQ q y) := fun q x y => List.any_append
            have less1 : ∀ x : List (Int × Int), lessK (x ++ [pp]) = lessK x ++ [(pp.1 - 1, pp.2)] := fun x => List.map_append
            have hset : ∀ q : Nat, q < ls.length → (r2.set n (r2.getD n "" ++ tolS w)).getD q "" = r2.getD q "" ++ (if n = q then tolS w else ("" : Str)) := fun q hq => by
              by_cases z : n = q
              · subst z
                rw [if_pos rfl, List.getD_eq_getElem?_getD, List.getElem?_set_self (by omega)]
                rfl
              · rw [if_neg z, app_nil, List.getD_eq_getElem?_getD, List.getElem?_set_ne z, ← List.getD_eq_getElem?_getD]
            refine ⟨r2.set n (r2.getD n "" ++ tolS w), _, _, bS (.inl rfl) sm8, by rw [upd_same, List.map_set], by rw [upd_ne nq0D]; exact h0w, by rw [upd_ne nq1D]; exact h1w, ?_, ?_, by rw [List.length_set]; exact el7, fun q hq => ?_⟩
            · by_cases h : M ≤ k
              · rw [hw1, if_pos h, if_neg (by decide), e1k, List.take_append_of_le_length (by rw [List.length_take]; omega)]
                exact P08.off hr8
              · rw [hw1, if_neg h, if_pos rfl, e1k, List.take_of_length_le (by rw [List.length_append, List.length_take]; simp; omega), less1]
                have : (kb.take k).take M = kb.take k := List.take_of_length_le (by rw [List.length_take]; omega)
                rw [this] at P08
                exact (P08.snoc (p := (pp.1 - 1, pp.2)) ht28).off hr8
            · by_cases h : M ≤ k
              · rw [hw1, if_pos h, if_pos rfl, e1k, List.drop_append_of_le_length (by rw [List.length_take]; omega), less1]
                exact (P18.snoc (p := (pp.1 - 1, pp.2)) ht28).off hr8
              · rw [hw1, if_neg h, if_neg (by decide), e1k, List.drop_eq_nil_of_le (by rw [List.length_append, List.length_take]; simp; omega)]
                have : (kb.take k).drop M = [] := List.drop_eq_nil_of_le (by rw [List.length_take]; omega)
                rw [this] at P18
                exact P18.off hr8
            · rw [hset q hq, hv7 q hq]
              by_cases h : M ≤ k
              · rw [e1k, List.take_append_of_le_length (by rw [List.length_take]; omega), List.drop_append_of_le_length (by rw [List.length_take]; omega), happ, hone, hw1, if_pos h]
                by_cases z : n = q
                · subst z
                  rw [hn0, hn1, decide_eq_true rfl]
                  simp only [app_assoc, app_nil, nil_app, Bool.false_eq_true, if_false, Bool.or_true, if_true]
                · rw [decide_eq_false z, if_neg z]
                  simp only [app_assoc, app_nil, nil_app, Bool.or_false]
              · have d0 : (kb.take k).drop M = [] := List.drop_eq_nil_of_le (by rw [List.length_take]; omega)
                have d1 : (kb.take k ++ [pp]).drop M = [] := List.drop_eq_nil_of_le (by rw [List.length_append, List.length_take]; simp; omega)
                have d2 : (kb.take k).take M = kb.take k := List.take_of_length_le (by rw [List.length_take]; omega)
                have d3 : (kb.take k ++ [pp]).take M = kb.take k ++ [pp] := List.take_of_length_le (by rw [List.length_append, List.length_take]; simp; omega)
                have d4 : hasQ (q : Int) ([] : List (Int × Int)) = false := rfl
                rw [e1k, d0, d1, d2, d3, happ, hone, hw1, if_neg h, d4]
                by_cases z : n = q
                · subst z
                  rw [hnew, decide_eq_true rfl]
                  simp only [app_assoc, app_nil, nil_app, Bool.false_eq_true, if_false, Bool.or_true, if_true]
                · rw [decide_eq_false z, if_neg z]
                  simp only [app_assoc, app_nil, nil_app, Bool.or_false]
          have htt9 : (upd H8 D (.lst ((r2.map V.str).set n (.str (r2.getD n "" ++ tolS w))))) tt = some (.tup [.int pp.1, .int pp.2]) := by
            rw [upd_ne (fun e => by rw [e, hr8] at htt8; cases htt8)]
            exact htt8
          generalize upd H8 D (.lst ((r2.map V.str).set n (.str (r2.getD n "" ++ tolS w)))) = H9 at *
          obtain ⟨r3, y0, y1, f1, f2, f3, f4, f5, f6, f7, f8⟩ := fin
          have hw01 : w = 0 ∧ ¬ M ≤ k ∨ w = 1 ∧ M ≤ k := by
            by_cases h : M ≤ k
            · rw [if_pos h] at hw1; exact .inr ⟨hw1, h⟩
            · rw [if_neg h] at hw1; exact .inl ⟨hw1, h⟩
          refine ⟨_, rfl, rfl, _, rfl, ite2 (fun h => ?_) (fun h => ?_)⟩
          · have h0 : (w : Int) = 0 := V.int.inj (of_decide_eq_true h)
            have hMk : ¬ M ≤ k := by
              rcases hw01 with ⟨_, z⟩ | ⟨z, _⟩
              · exact z
              · rw [z] at h0; cases h0
            refine ⟨_, rfl, _, rfl, tt, _, _, _, rfl, rfl, SqT.of htt9, atI_nat (j := 0) rfl, ?_⟩
            rw [hpl]
            have cs : CShl 1 ((10 : Int) - (lv : Int)) := ⟨by omega, by rw [show Builtin.Int.intBits 1 = 1 by decide]; omega⟩
            have ev : (1 : Int) * 2 ^ ((10 : Int) - (lv : Int)).toNat = ((2 ^ (10 - lv) : Nat) : Int) := by
              rw [Int.one_mul, show ((10 : Int) - (lv : Int)).toNat = 10 - lv by omega, Int.natCast_pow]
              rfl
            have et : hs 10 ((fsN kb).take (min (k + 1) M)) = hs 10 ((fsN kb).take (min k M)) + 2 ^ (10 - lv) := by
              rw [Nat.min_eq_left (show k + 1 ≤ M by omega), Nat.min_eq_left (show k ≤ M by omega), List.take_succ, hlv]
              show hs 10 ((fsN kb).take k ++ [lv]) = _
              rw [hs_app]
              rfl
            refine ⟨_, _, rfl, rfl, _, _, rfl, rfl, cs, _, _, rfl, rfl, ?_⟩
            refine ⟨r3, y0, y1, some (.ref tt), some (.int (w : Int)), some (.ref qw), ?_, f1, f2, f3, f4, f5, f6, f7, f8⟩
            rw [ev, et, Int.natCast_add]
            rfl
          · have hMk : M ≤ k := by
              rcases hw01 with ⟨z, _⟩ | ⟨_, z⟩
              · exact absurd (decide_eq_true (congrArg V.int (by rw [z]; rfl))) h
              · exact z
            refine ⟨r3, y0, y1, some (.ref tt), some (.int (w : Int)), some (.ref qw), ?_, f1, f2, f3, f4, f5, f6, f7, f8⟩
            rw [Nat.min_eq_right (show M ≤ k + 1 by omega), Nat.min_eq_right hMk]
            rfl
        · rintro σ H7 ⟨r2, z0, z1, v10, v11, v12, rfl, sm7, hr7, h07, h17, P0, P1, el7, hv7⟩
          rw [hzP.1, List.take_length] at P0 P1 hv7
          have c0 : kb.take M = sd 0 kb := by rw [sd_zero, eM]
          have c1 : kb.drop M = sd 1 kb := by rw [sd_one, eM]
          rw [c0] at P0 hv7
          rw [c1] at P1 hv7
          have hsp7 := sm7 _ _ bsp
          have hl7 := sm7 _ _ bl
          have sA7 := sB.trans sm7
          have sX7 : Same (hid [D, l] H4) (hid [D, l] H7) := by
            refine KB.Same.hid_all (sX.trans sm7) fun z hz => ?_
            exact hid_in hz
          have nl1 : ∀ {z : Addr}, z ≠ l → hid [l] H7 z = H7 z := fun {z} h => hid_at (by simpa using h)
          obtain ⟨C, eC⟩ : ∃ C, hid [l] H7 = C := ⟨_, rfl⟩
          rw [eC] at nl1
          have csp : C sp = some (.lst [.ref q0, .ref q1]) := by rw [nl1 nspl]; exact hsp7
          have cD : C D = some (.lst (r2.map V.str)) := by rw [nl1 nlD.symm]; exact hr7
          have cS : ∀ i, i < 2 → ∃ qs zs', [V.ref q0, V.ref q1][i]? = some (.ref qs) ∧ C qs = some (.lst zs') ∧ Prs C zs' (lessK (sd i kb)) ∧ qs ≠ D ∧ qs ≠ l := fun i hi => by
            rcases (by omega : i = 0 ∨ i = 1) with e | e <;> subst e
            · exact ⟨q0, z0, rfl, by rw [nl1 nq0l]; exact h07, by rw [← eC]; exact P0.hid1 hl7, nq0D, nq0l⟩
            · exact ⟨q1, z1, rfl, by rw [nl1 nq1l]; exact h17, by rw [← eC]; exact P1.hid1 hl7, nq1D, nq1l⟩
          have cA : Same A C := by rw [← eC]; exact KB.Same.hid_all sA7 (by simpa using al)
          have cl : C l = none := by rw [← eC]; exact hid_in (List.mem_singleton.mpr rfl)
          refine ⟨_, rfl, sp, rfl, ⟨_, SqL.of hsp7⟩, for_list (K := K) (a := sp) (xs := [.ref q0, .ref q1]) (fun i3 σ H8 => ∃ (l2 : List V) (v10 v12 : Option V), σ = [some (.ref a), some (.ref D), none, some (.ref G), none, some (.int (0 + (i : Int))), some (.ref l), some (.ref ag), some (.int (hs 10 ((fsN kb).take (min zs.length M)) : Nat)), some (.ref sp), v10, v11, v12, none, none] ∧ Same C H8 ∧ H8 l = some (.lst l2) ∧ Grp (hid [D, l] H8) l2 (kl ++ nx kb i3))
            ⟨lt, _, _, rfl, by rw [← eC]; exact hid_sub, hl7, by rw [show nx kb 0 = [] from rfl, List.append_nil]; exact gl.mono sX7⟩ (fun i3 σ H8 _ h => ?_) ?_ ?_⟩
          · obtain ⟨_, _, _, _, sm, _⟩ := h
            exact SqL.of (sm _ _ csp)
          · rintro i3 x σ H8 hx ⟨l2, v10, v12, rfl, sm8, hl8, g8⟩
            have hi3 : i3 < 2 := (List.getElem?_eq_some_iff.mp hx).1
            obtain ⟨qs, z9, hqs, cqs, P9, nqD, nql⟩ := cS i3 hi3
            cases hx.symm.trans hqs
            have hqs8 := sm8 _ _ cqs
            have P98 := P9.mono sm8
            have hl2 : l2.length ≤ 100000 := by
              rw [g8.1, List.length_append]
              have := nx_len kb i3
              have h5 : kbs.length ≤ 2 ^ 10 := Nat.le_trans hkb (Nat.pow_le_pow_right (by decide) (by omega))
              omega
            have lsd : (sd i3 kb).length ≤ 1000 := Nat.le_trans (sd_sub i3 kb).length_le bk.len
            refine ⟨_, rfl, qs, rfl, ⟨_, SqL.of hqs8⟩, fun D9 hD9 => lc_list (K := K) (a := qs) (xs := z9) (fun j H' => Same H8 H' ∧ H' D9 = some (.lst ((((lessK (sd i3 kb)).take j).map (fun p : Int × Int => decide (p.1 < 0))).map V.bl))) ⟨same_upd hD9, upd_same⟩ (fun j H' _ h => SqL.of (h.1 _ _ hqs8)) ?_ ?_⟩
            · rintro j9 x H' hx9 ⟨sm, eD⟩
              obtain ⟨tt, pp, rfl, hk, ht⟩ := P98.2 j9 x hx9
              have ll : ((((lessK (sd i3 kb)).take j9).map (fun p : Int × Int => decide (p.1 < 0))).map V.bl).length ≤ 1000 := by
                rw [List.length_map, List.length_map, List.length_take]
                unfold lessK
                rw [List.length_map]
                omega
              refine ⟨rfl, ?_⟩
              refine tyes ?_
              refine ⟨_, rfl, tt, _, _, _, rfl, rfl, SqT.of (sm _ _ ht), atI_nat (j := 0) rfl, _, _, rfl, rfl, _, eD, szl (by omega), same_out sm hD9, ?_⟩
              rw [upd_same, List.take_succ, hk, List.map_append, List.map_append]
              rfl
            · rintro H9 ⟨s9, eD⟩
              rw [P98.1, List.take_length] at eD
              refine ⟨D9, _, rfl, SqL.of eD, ?_⟩
              have hany : (((lessK (sd i3 kb)).map (fun p : Int × Int => decide (p.1 < 0))).any id) = bkB (sd i3 kb) := by
                unfold bkB lessK
                rw [List.any_map, List.any_map]
                refine any_cg fun p hp => ?_
                have := bk.nat p ((sd_sub i3 kb).subset hp)
                show decide (p.1 - 1 < 0) = (p.1 == 0)
                by_cases z : p.1 = 0
                · rw [decide_eq_true (by omega)]
                  simp [z]
                · rw [decide_eq_false (by omega)]
                  simp [z]
              refine ⟨bkB (sd i3 kb), congrArg V.bl hany, ?_⟩
              have sm9 := sm8.trans s9
              have g9 : Grp (hid [D, l] H9) l2 (kl ++ nx kb i3) := g8.mono (hid_same s9)
              have hl9 := s9 _ _ hl8
              rw [nx_step kb hi3, ← List.append_assoc]
              cases hb : bkB (sd i3 kb) with
              | true =>
                refine iteF ⟨l2, _, _, rfl, sm9, hl9, ?_⟩
                rw [show nxt i3 kb = [] by unfold nxt; rw [hb]; rfl, List.append_nil]
                exact g9
              | false =>
                refine iteT ?_
                refine ⟨_, rfl, .inl ⟨rfl, _, SqL.of hl9⟩, _, rfl, l, _, _, rfl, rfl, hl9, szl (by omega), ?_⟩
                have sm10 : Same C (upd H9 l (.lst (l2 ++ [.ref qs]))) := same_out sm9 cl
                refine ⟨l2 ++ [.ref qs], _, _, rfl, sm10, upd_same, ?_⟩
                rw [show nxt i3 kb = [lessK (sd i3 kb)] by unfold nxt; rw [hb]; rfl]
                have eh : hid [D, l] (upd H9 l (.lst (l2 ++ [.ref qs]))) = hid [D, l] H9 := hid_upd (by simp)
                rw [eh]
                refine g9.snoc (a := qs) (ys := z9) (ko := lessK (sd i3 kb)) ?_ ?_ (bk.next hb)
                · rw [hid_at (by simp [nqD, nql])]
                  exact s9 _ _ hqs8
                · refine (P98.mono s9).hidS fun z hz => ?_
                  rcases (by simpa using hz : z = D ∨ z = l) with e | e <;> rw [e]
                  · exact ⟨_, sm9 _ _ cD⟩
                  · exact ⟨_, hl9⟩
          · rintro σ H8 ⟨l2, v10, v12, rfl, sm8, hl8, g8⟩
            rw [show nx kb [V.ref q0, V.ref q1].length = nxt 0 kb ++ nxt 1 kb from rfl, ← List.append_assoc] at g8
            refine ⟨r2, l2, kl ++ nxt 0 kb ++ nxt 1 kb, _, _, _, _, _, _, rfl, cA.trans sm8, sm8 _ _ cD, hl8, g8, el7, nds_step nds4, ?_, ?_, fun q hq => ?_⟩
            · rw [List.length_append, List.length_append]
              have := nxt_len 0 kb
              have := nxt_len 1 kb
              omega
            · intro kb' hk' p hp
              rw [List.append_assoc] at hk'
              rcases List.mem_append.mp hk' with z | z
              · exact hbd4 kb' z p hp
              · have : ∃ s, kb' ∈ nxt s kb := by
                  rcases List.mem_append.mp z with z | z
                  · exact ⟨0, z⟩
                  · exact ⟨1, z⟩
                obtain ⟨s', hs'⟩ := this
                unfold nxt at hs'
                split at hs'
                · cases hs'
                · rw [List.mem_singleton.mp hs'] at hp
                  obtain ⟨p0, hp0, rfl⟩ := List.mem_map.mp hp
                  exact hbk p0 ((sd_sub s' kb).subset hp0)
            · rw [hv7 q hq, ← hv4 q hq]
              exact cat_step nds4 q _
      · rintro σ H4 ⟨rs, lt, kl, w7, w8, w9, w10, w11, w12, rfl, sm4, hr4, hl4, gl, hrl4, nds4, hkl4, hbd4, hv4⟩
        rw [gG.1, List.drop_length, List.append_nil] at nds4
        refine ⟨_, rfl, rs, l, lt, kl, _, _, _, _, _, _, _, _, rfl, ?_, hr4, nlD, hl4, ?_, hrl4, nds4, ?_, hbd4, fun q hq => ?_⟩
        · exact KB.Same.hid_all (sA.trans sm4) (by simpa using fr)
        · exact gl.mono hid_more2
        · rw [gG.1] at hkl4
          rw [Nat.pow_succ]
          omega
        · rw [← hv4 q hq, gG.1, List.drop_length]
          show _ = _ ++ (_ ++ ("" : Str))
          rw [app_nil]
    · clear hr3 hG3 s03 g0 H3 nG n1 hD1 G
      rintro σ H4 ⟨rs, G, gs, kbs, v5, v6, v7, v8, v9, v10, v11, v12, rfl, sA, hr4, _, _, _, hrl, _, _, _, hv⟩
      have s04 := sA.trans hid_sub
      have ers : rs = wrL ks ls.length := by
        refine List.ext_getElem? fun i => ?_
        unfold wrL
        by_cases hi : i < ls.length
        · have h := hv i hi
          rw [cat_zero, app_nil, List.getD_eq_getElem?_getD, List.getElem?_eq_getElem (by omega)] at h
          rw [List.getElem?_eq_getElem (by omega), List.getElem?_map, List.getElem?_range hi]
          exact congrArg some h
        · rw [List.getElem?_eq_none (by omega), List.getElem?_eq_none (by rw [List.length_map, List.length_range]; omega)]
      clear hv sA
      obtain ⟨W, eW⟩ : ∃ W, wrL ks ls.length = W := ⟨_, rfl⟩
      rw [ers, eW] at hr4
      have W12 : ∀ z ∈ W, z.length ≤ 11 := fun z hz => by
        rw [← eW] at hz
        obtain ⟨k, _, rfl⟩ := List.mem_map.mp hz
        exact wr_len
      have Wl : W.length = ls.length := by rw [← eW]; unfold wrL; rw [List.length_map, List.length_range]
      have lpos : 0 < ls.length := by
        cases h : ls with
        | nil => rw [h] at hb11; exact absurd hb11 (by decide)
        | cons _ _ => exact Nat.succ_pos _
      refine ⟨_, rfl, D, rfl, ⟨_, SqL.of hr4⟩, fun D1 hD1 => lc_list (K := K) (a := D) (xs := W.map V.str) (fun i H' => Same H4 H' ∧ H' D1 = some (.lst (((W.take i).map (fun z : Str => (z.length : Int))).map V.int))) ⟨same_upd hD1, upd_same⟩ (fun i H' _ h => SqL.of (h.1 _ _ hr4)) ?_ ?_⟩
      · rintro i x H' hi ⟨sm, eD⟩
        obtain ⟨z, hz, rfl⟩ := getS hi
        refine ⟨rfl, ?_⟩
        refine tyes ?_
        have zl := W12 z (List.mem_of_getElem? hz)
        have lt : (((W.take i).map (fun z : Str => (z.length : Int))).map V.int).length ≤ 1000 := by
          rw [List.length_map, List.length_map, List.length_take]
          omega
        refine ⟨_, rfl, z, rfl, szle (by omega), _, eD, szl (by omega), same_out sm hD1, ?_⟩
        rw [upd_same, List.take_succ, hz, List.map_append, List.map_append]
        rfl
      · rintro H5 ⟨s5, eD⟩
        rw [List.length_map, List.take_length] at eD
        have hr5 := s5 _ _ hr4
        refine ⟨D1, W.map (fun z : Str => (z.length : Int)), rfl, SqL.of eD, by rw [List.length_map, Wl]; exact lpos, fun mi hm hle => ?_⟩
        obtain ⟨zm, hzm, rfl⟩ := List.mem_map.mp hm
        have hMx : Mx zm.length W := ⟨⟨zm, hzm, rfl⟩, fun z hz => by have := hle _ (List.mem_map_of_mem hz); omega⟩
        generalize zm.length = m at *
        have hm11 : m ≤ 11 := by
          obtain ⟨⟨z, hz, rfl⟩, _⟩ := hMx
          exact W12 z hz
        refine ⟨_, rfl, D, rfl, ⟨_, SqL.of hr5⟩, fun D2 hD2 => lc_list (K := K) (a := D) (xs := W.map V.str) (fun i H' => Same H5 H' ∧ H' D2 = some (.lst (((W.take i).map (padTo m)).map V.str))) ⟨same_upd hD2, upd_same⟩ (fun i H' _ h => SqL.of (h.1 _ _ hr5)) ?_ ?_⟩
        · rintro i x H' hi ⟨sm, eD2⟩
          obtain ⟨z, hz, rfl⟩ := getS hi
          have zl := W12 z (List.mem_of_getElem? hz)
          refine ⟨rfl, ?_⟩
          refine tyes ?_
          have lt : (((W.take i).map (padTo m)).map V.str).length ≤ 1000 := by
            rw [List.length_map, List.length_map, List.length_take]
            omega
          have hp : (repS "0" ((m : Int) - (z.length : Int))).length ≤ 11 := by
            rw [repS_len]
            show _ * 1 ≤ _
            omega
          refine ⟨_, rfl, _, rfl, _, rfl, z, rfl, szle (by omega), _, _, rfl, rfl, "0", _, rfl, rfl, by omega, by omega, by show _ * 1 ≤ _; omega, _, _, rfl, rfl, szle (by omega), _, eD2, szl (by omega), same_out sm hD2, ?_⟩
          rw [upd_same, List.take_succ, hz, List.map_append, List.map_append]
          rfl
        · rintro H6 ⟨s6, eD2⟩
          rw [List.length_map, List.take_length] at eD2
          refine ⟨D2, _, rfl, .inl ⟨SqL.of eD2, fun l hl => ?_⟩⟩
          exact q _ l ks m (s04.trans ((s5.trans s6).trans (same_upd hl))) hO (by rw [eW]; exact hMx) (by rw [upd_same, eW])
end

/-! ### what worst_language tells of any value -/
def brkD (d : PyData) : Bool := rowD d && !decide (kr (lensD d) < 2 * 2 ^ 40)
def spLBrk (K : PySem.W.Frag) : Sp := fun vs H Q _ => ∃ v d n, vs = [v] ∧ Dp K H v d ∧ okD n d = true ∧ (rowD d = true → (lensD d).length ≤ 100000 ∧ ∀ n ∈ lensD d, n ≤ 10) ∧ ∀ H', Same H H' → Q (.bl (brkD d)) H'
theorem dp_strs {K : PySem.W.Frag} {H : Hp} : ∀ ws : List Str, DpAll K H (ws.map V.str) (ws.map PyData.str)
  | [] => .nil
  | z :: r => .cons (.str z) (dp_strs r)
def spTold24 (K : PySem.W.Frag) : Sp := fun vs H Q _ => ∃ (v : V) (d : PyData) (n : Nat) (b : Bool), vs = [v, .bl b] ∧ Dp K H v d ∧ okD n d = true ∧ (rowD d = true → (lensD d).length ≤ 100 ∧ ∀ n ∈ lensD d, n ≤ 10) ∧ ∀ H' p, Same H H' → ((brkD d = true ∧ ∃ pw ks m, IsOrd (lensD d) ks ∧ Mx m (wrL ks (lensD d).length) ∧ H' p = some (.lst [.bl true, .ref pw]) ∧ H' pw = some (.tup (((wrL ks (lensD d).length).map (padTo m)).map V.str))) ∨ (brkD d = false ∧ H' p = some (.lst [.bl false, v]))) → Q (.ref p) H'
def spRight24 (K : PySem.W.Frag) : Sp := fun vs H Q _ => ∃ (v : V) (d : PyData) (b : Bool), vs = [v, .bl b] ∧ Dp K H v d ∧ okD 4 d = true ∧ (rowD d = true → (lensD d).length ≤ 100 ∧ ∀ n ∈ lensD d, n ≤ 10) ∧ ∀ H', Same H H' → Q (.bl true) H'
section
variable {P : Program} {w : World} {K : PySem.W.Frag} {mg : Str → Option Value} {base : Heap} {C_Breaker : Addr} {C_InvalidBudgets : Addr}
theorem ok_law_told {f : Addr} {fd : FuncData} (F : Fun K "_law_told" "_law_told" s_law_told f fd) (T : Txt K mg C_Breaker) (x_InvalidBudgets : XErr P K mg "InvalidBudgets" C_InvalidBudgets ["budgets"]) (c_worst_language : CalX P w K mg base 14 "worst_language" (spWorst K C_InvalidBudgets)) (ck_worst_language_budgets : CalXK P w K mg base 14 "worst_language" 0 ["budgets"] (fun xs zs => xs ++ zs) (spWorst K C_InvalidBudgets)) : FnOk P w K mg base CX0 15 f fd ["value", "by_name"] (spTold24 K) := by
  refine F.ok sc_law_told (fun vs H Q E h => ?_) (fun cdv A outer s H vs Q E hr h => ?_)
  · obtain ⟨v, d, n, b, rfl, _⟩ := h
    rfl
  · obtain ⟨v, d, n, b, rfl, hv, hok, hlen, q⟩ := h
    refine ⟨_, (pss_one (L2N.ps_try_as (i := 2) (tb := fun W => (tRet (tLst (tCons (tC (.bl true)) (tCons (tIf (tB (tVar 1)) (tCallSK0 1 (spWorst K C_InvalidBudgets) (fun xs zs => xs ++ zs) (WE W) (tCons (tVar 0) tNil)) (tCallS (spWorst K C_InvalidBudgets) (WE W) (tCons (tVar 0) tNil))) tNil)))))
      (ts := fun a cls d => (tRet (tLst (tCons (tC (.bl false)) (tCons (tXf a cls d C_InvalidBudgets "budgets" (tVar 2)) tNil))))) rfl rfl sc_law_told.nd rfl rfl ⟨rfl, by decide, .inl x_InvalidBudgets.gC⟩ takesN0
      (fun W pn xe tk pwn => (pss_one (ps_ret (pe_lst (pa_cons pe_bl (pa_cons (pe_ifExp (pt_val (pv 1)) (pe_xSK0 ck_worst_language_budgets hr (by omega) (by rfl) tk (pk_cons (pv 0) pk_nil)) (pe_xS c_worst_language hr (by omega) (by rfl) tk (pa_cons (pv 0) pa_nil))) pa_nil))))))
      (fun a oe cls d pn hz hf => (pss_one (ps_ret (pe_lst (pa_cons pe_bl (pa_cons (pe_xf x_InvalidBudgets.xf (x_InvalidBudgets.no (by simp)) hz.zc hf (pv 2)) pa_nil)))))))), ?_⟩
    cases hb : brkD d with
    | false =>
      cases b
      · refine ⟨_, rfl, _, rfl, iteF ?_⟩
        exact ⟨_, rfl, v, d, n, rfl, hv, hok, hlen, .inr ⟨hb, fun H1 dd s1 hd => ⟨true, x_InvalidBudgets.te, fun _ z hz => ⟨_, rfl, rfl, rfl, dd, _, _, rfl, hd, rfl, szle (by show 2 ≤ 16777216; decide), fun p hp => q _ p (s1.trans (same_upd hp)) (.inr ⟨hb, upd_same⟩)⟩, fun z => by cases z⟩⟩⟩
      · refine ⟨_, rfl, _, rfl, iteT ?_⟩
        exact ⟨_, rfl, rfl, v, d, n, rfl, hv, hok, hlen, .inr ⟨hb, fun H1 dd s1 hd => ⟨true, x_InvalidBudgets.te, fun _ z hz => ⟨_, rfl, rfl, rfl, dd, _, _, rfl, hd, rfl, szle (by show 2 ≤ 16777216; decide), fun p hp => q _ p (s1.trans (same_upd hp)) (.inr ⟨hb, upd_same⟩)⟩, fun z => by cases z⟩⟩⟩
    | true =>
      have fin : ∀ H1 pw ks m, Same H H1 → IsOrd (lensD d) ks → Mx m (wrL ks (lensD d).length) → H1 pw = some (.tup (((wrL ks (lensD d).length).map (padTo m)).map V.str)) → ∀ p, H1 p = none → Q (.ref p) (upd H1 p (.lst [.bl true, .ref pw])) := fun H1 pw ks m s1 hO hM hpw p hp =>
        q _ p (s1.trans (same_upd hp)) (.inl ⟨hb, pw, ks, m, hO, hM, upd_same, same_upd hp _ _ hpw⟩)
      cases b
      · refine ⟨_, rfl, _, rfl, iteF ?_⟩
        exact ⟨_, rfl, v, d, n, rfl, hv, hok, hlen, .inl ⟨hb, fun H1 pw ks m s1 hO hM hpw => ⟨szle (by show 2 ≤ 16777216; decide), fin H1 pw ks m s1 hO hM hpw⟩⟩⟩
      · refine ⟨_, rfl, _, rfl, iteT ?_⟩
        exact ⟨_, rfl, rfl, v, d, n, rfl, hv, hok, hlen, .inl ⟨hb, fun H1 pw ks m s1 hO hM hpw => ⟨szle (by show 2 ≤ 16777216; decide), fin H1 pw ks m s1 hO hM hpw⟩⟩⟩
theorem ok_law_breaks {f : Addr} {fd : FuncData} (F : Fun K "_law_breaks" "_law_breaks" s_law_breaks f fd) (T : Txt K mg C_Breaker) : FnOk P w K mg base CX0 1 f fd ["value"] (spLBrk K) := by
  refine F.ok sc_law_breaks (fun vs H Q E h => ?_) (fun cdv A outer s H vs Q E hr h => ?_)
  · obtain ⟨v, d, n, rfl, _⟩ := h
    rfl
  · obtain ⟨v, d, n, rfl, hv, hok, h10, q⟩ := h
    refine ⟨_, (pss_cons (ps_if (pt_not (pt_val (pe_callB call_isiT (by rfl) T.b_isinstance (by decide +kernel) (pa_cons (pv 0) (pa_cons (pe_tup (pa_cons (pe_bltn (v := .ty "list") (by rfl) T.b_list (by decide +kernel) rfl) (pa_cons (pe_bltn (v := .ty "tuple") (by rfl) T.b_tuple (by decide +kernel) rfl) pa_nil))) pa_nil)))))
      (pss_one (ps_ret pe_bl))
      pss_nil)
    (pss_cons (ps_for PassesOwn.never rfl (pi_seqJ (pv 0)) (pg_name (i := 1) sc_law_breaks.nd rfl (by first | exact Or.inl rfl | exact Or.inr rfl))
      (pss_one (ps_if (PW.pt (pw_or (pt_not (pt_val (pe_callB call_isi (by rfl) T.b_isinstance (by decide +kernel) (pa_cons (pv 1) (pa_cons (pe_bltn (v := .ty "int") (by rfl) T.b_int (by decide +kernel) rfl) pa_nil))))) (pw_or (pt_val (pe_callB call_isi (by rfl) T.b_isinstance (by decide +kernel) (pa_cons (pv 1) (pa_cons (pe_bltn (v := .ty "bool") (by rfl) T.b_bool (by decide +kernel) rfl) pa_nil)))) (pw_or1 (pt_cmpR op_lt (pv 1) pe_int (nomark _))))))
          (pss_one (ps_ret pe_bl))
          pss_nil)))
    (pss_one (ps_ret (pe_cmpR op_ge (pe_callB (cr_sum rfl) (by rfl) T.b_sum (by decide +kernel) (pa_cons (pe_lc (own := [("part", 1)]) rfl sc_law_breaks.nd (pi_seqJ (pv 0)) (blkOk_by (own := [("part", 1)]) (N := ["value", "part"]) (sc := defScope s_law_breaks) (by decide +kernel)) (fun _ _ _ _ _ => (pg_name (i := 1) sc_law_breaks.nd rfl (by first | exact Or.inl rfl | exact Or.inr rfl))) (fun _ _ _ _ _ => pts_nil) (fun _ _ _ _ _ => (pe_op op_shlW pe_int (pe_op op_sub pe_int (pv 1))))) pa_nil)) (pe_op op_shlW pe_int pe_int) (nomark _)))))), ?_⟩
    refine ⟨_, rfl, szle (by show 2 ≤ 16777216; decide), fun tp htp => ?_⟩
    have s1 := same_upd (o := .tup [.ty "list", .ty "tuple"]) htp
    have ty := ty_dp (Dp.mono s1 _ _ hv)
    obtain ⟨t, r1, r2, ht, h1, h2, hcase⟩ : ∃ (t : String) (r1 r2 : Bool), TyX K (upd H tp (.tup [.ty "list", .ty "tuple"])) v (.type t) ∧ kitB t "list" = some r1 ∧ kitB t "tuple" = some r2 ∧ (((r1 || r2) = false ∧ rowD d = false) ∨ ((r1 || r2) = true ∧ ∃ (a : Addr) (xs : List V) (ds : List PyData), v = .ref a ∧ (SqL K H a xs ∨ SqT K H a xs) ∧ DpAll K H xs ds ∧ rowD d = ds.all isNumD ∧ lensD d = ds.map natD)) := by
      cases d with
      | none => exact ⟨_, false, false, ty, rfl, rfl, .inl ⟨rfl, rfl⟩⟩
      | bool b => exact ⟨_, false, false, ty, rfl, rfl, .inl ⟨rfl, rfl⟩⟩
      | int b => exact ⟨_, false, false, ty, rfl, rfl, .inl ⟨rfl, rfl⟩⟩
      | str b => exact ⟨_, false, false, ty, rfl, rfl, .inl ⟨rfl, rfl⟩⟩
      | dict b => cases hv
      | list ds =>
        cases hv with
        | lst sx ax => exact ⟨_, true, false, ty, rfl, rfl, .inr ⟨rfl, _, _, _, rfl, .inl sx, ax, rfl, rfl⟩⟩
      | tuple ds =>
        cases hv with
        | tup sx ax => exact ⟨_, false, true, ty, rfl, rfl, .inr ⟨rfl, _, _, _, rfl, .inr sx, ax, rfl, rfl⟩⟩
    refine ⟨v, tp, [.ty "list", .ty "tuple"], _, [.type "list", .type "tuple"], r1 || r2, rfl, upd_same, .cons (.ty _) (.cons (.ty _) .nil), ht, kit2 t "list" "tuple" r1 r2 h1 h2, _, rfl, ?_⟩
    have q0 : rowD d = false → ∀ H', Same H H' → Q (.bl false) H' := fun hr H' s => by
      have := q H' s
      unfold brkD at this
      rw [hr] at this
      exact this
    rcases hcase with ⟨h12, hr⟩ | ⟨h12, a, xs, ds, ev, hS, ax, hrow, hlen⟩
    · rw [h12]
      exact iteT (q0 hr _ s1)
    · rw [h12]
      refine iteF ?_
      subst ev
      obtain ⟨H1, eH⟩ : ∃ H1, upd H tp (.tup [.ty "list", .ty "tuple"]) = H1 := ⟨_, rfl⟩
      rw [eH] at s1 ⊢
      have lx := DpAll.len ax
      refine ⟨_, rfl, a, xs, rfl, hS.imp (fun z => s1.seq z) (fun z => sameT s1 z), fun J S LS sJ => for_J LS (fun i σ H' => ∃ w : Option V, σ = [some (.ref a), w] ∧ H' = H1 ∧ (ds.take i).all isNumD = true) ⟨none, rfl, rfl, rfl⟩ (fun i σ H' _ h => by obtain ⟨_, _, rfl, _⟩ := h; exact sJ) ?_ ?_⟩
      · rintro i x σ H' hi ⟨w, rfl, rfl, hall⟩
        obtain ⟨e, he, dx⟩ := DpAll.get' ax hi
        have dx1 := Dp.mono s1 _ _ dx
        have bad : isNumD e = false → Q (.bl false) H' := fun hb => by
          have e0 : rowD d = false := by
            rw [hrow]
            exact Bool.eq_false_iff.mpr fun z => by
              have := List.all_eq_true.mp z e (List.mem_of_getElem? he)
              rw [hb] at this
              cases this
          exact q0 e0 _ s1
        have good : isNumD e = true → (ds.take (i + 1)).all isNumD = true := fun hg => by
          rw [List.take_succ, he, List.all_append, hall]
          simpa using hg
        cases e with
        | int z =>
          cases dx1
          refine ⟨_, rfl, _, _, _, _, _, rfl, .ty _, .base (.int z), kit_ty (r := true) (by decide), _, rfl, iteF ?_⟩
          refine ⟨_, rfl, _, _, _, _, _, rfl, .ty _, .base (.int z), kit_ty (r := false) (by decide), _, rfl, iteF ?_⟩
          refine ⟨_, rfl, _, _, rfl, rfl, _, rfl, ?_⟩
          by_cases hz : z < 0
          · rw [decide_eq_true hz]
            exact iteT (bad (decide_eq_false (by omega)))
          · rw [decide_eq_false hz]
            exact iteF ⟨_, rfl, rfl, good (decide_eq_true (by omega))⟩
        | bool b =>
          cases dx1
          refine ⟨_, rfl, _, _, _, _, _, rfl, .ty _, .base (.bl b), kit_ty (r := true) (by decide), _, rfl, iteF ?_⟩
          exact ⟨_, rfl, _, _, _, _, _, rfl, .ty _, .base (.bl b), kit_ty (r := true) (by decide), _, rfl, iteT (iteT (bad rfl))⟩
        | none => cases dx1; exact ⟨_, rfl, _, _, _, _, _, rfl, .ty _, .base .non, kit_ty (r := false) (by decide), _, rfl, iteT (iteT (bad rfl))⟩
        | str b => cases dx1; exact ⟨_, rfl, _, _, _, _, _, rfl, .ty _, .base (.str b), kit_ty (r := false) (by decide), _, rfl, iteT (iteT (bad rfl))⟩
        | list b =>
          cases dx1 with
          | lst sy _ => exact ⟨_, rfl, _, _, _, _, _, rfl, .ty _, ty_seq sy, kit_ty (r := false) (by decide), _, rfl, iteT (iteT (bad rfl))⟩
        | tuple b =>
          cases dx1 with
          | tup sy _ => exact ⟨_, rfl, _, _, _, _, _, rfl, .ty _, ty_tup sy, kit_ty (r := false) (by decide), _, rfl, iteT (iteT (bad rfl))⟩
        | dict b => cases dx1
      · rintro σ H' ⟨w, rfl, rfl, hall⟩
        rw [List.take_of_length_le (by omega)] at hall
        rw [hall] at hrow
        obtain ⟨h5, h10⟩ := h10 hrow
        have hxs := dp_nums ax hall
        obtain ⟨ls, el⟩ : ∃ ls, lensD d = ls := ⟨_, rfl⟩
        rw [← hlen, el] at hxs
        rw [el] at h5 h10
        subst hxs
        have fin := q
        unfold brkD at fin
        rw [hrow, el, Bool.true_and] at fin
        refine ⟨_, rfl, a, _, rfl, hS.imp (fun z => s1.seq z) (fun z => sameT s1 z), fun J S LS sJ => fun D hD => lc_J LS (fun i H2 => Same H' H2 ∧ H2 D = some (.lst (((ls.take i).map fun n : Nat => (1 : Int) * 2 ^ (((10 : Nat) : Int) - (n : Int)).toNat).map V.int))) ⟨same_upd hD, upd_same⟩ (fun i H' _ h => LS.mono _ _ h.1 sJ) ?_ ?_⟩
        · rintro i x H2 hi ⟨sm, eD⟩
          obtain ⟨n, hi', rfl⟩ := getN hi
          have hil := (List.getElem?_eq_some_iff.mp hi').1
          have hnm := h10 n (List.mem_of_getElem? hi')
          refine ⟨rfl, ?_⟩
          refine tyes ?_
          refine ⟨_, rfl, _, _, rfl, rfl, _, _, rfl, rfl, ⟨by omega, by rw [show Builtin.Int.intBits 1 = 1 by decide]; omega⟩, _, eD, szl (by rw [List.length_map, List.length_map, List.length_take]; omega), same_out sm hD, ?_⟩
          rw [upd_same, List.take_succ, hi', List.map_append, List.map_append]
          rfl
        rintro H2 ⟨sm, eD⟩
        rw [List.length_map, List.take_length] at eD
        have esum := hs_sum 10 ls h10
        obtain ⟨ss, es⟩ : ∃ ss : List Int, (ls.map fun n : Nat => (1 : Int) * 2 ^ (((10 : Nat) : Int) - (n : Int)).toNat) = ss := ⟨_, rfl⟩
        rw [es] at esum eD
        have e2 : (2 : Int) * 2 ^ ((10 : Int)).toNat = 2048 := by decide
        have ev : (!decide (kr ls < 2 * 2 ^ 40)) = decide ((2 : Int) * 2 ^ ((10 : Int)).toNat ≤ ss.sum) := by
          rw [kr_hs h10, esum, e2]
          by_cases z : 2 ^ 30 * hs 10 ls < 2 * 2 ^ 40
          · rw [decide_eq_true z, decide_eq_false (by omega)]
            rfl
          · rw [decide_eq_false z, decide_eq_true (by omega)]
            rfl
        rw [ev] at fin
        refine ⟨D, ss, rfl, SqL.of eD, ?_⟩
        exact ⟨_, _, rfl, rfl, ⟨by decide, by decide⟩, _, _, rfl, rfl, fin _ (s1.trans sm)⟩
theorem ok_law_right {f : Addr} {fd : FuncData} (F : Fun K "_law_right" "_law_right" s_law_right f fd) (T : Txt K mg C_Breaker) (c_law_copy : Cal P w K mg base 4 "_law_copy" (spCopy K 4)) (c_law_told : Cal P w K mg base 15 "_law_told" (spTold24 K)) (c_law_same : Cal P w K mg base 4 "_law_same" (spSame K 4)) (c_law_breaks : Cal P w K mg base 1 "_law_breaks" (spLBrk K)) (c_law_rows : Cal P w K mg base 1 "_law_rows" (spRows24 K)) : FnOk P w K mg base CX0 16 f fd ["value", "by_name"] (spRight24 K) := by
  refine F.ok sc_law_right (fun vs H Q E h => ?_) (fun cdv A outer s H vs Q E hr h => ?_)
  · obtain ⟨v, d, b, rfl, _⟩ := h
    rfl
  · obtain ⟨v, d, b, rfl, hv, hok, hlen, q⟩ := h
    refine ⟨_, (pss_cons (ps_set (i := 2) sc_law_right.nd rfl (by first | exact Or.inl rfl | exact Or.inr rfl) (pe_c c_law_copy hr (by omega) (by rfl) (pa_cons (pv 0) pa_nil)))
    (pss_cons (ps_set (i := 3) sc_law_right.nd rfl (by first | exact Or.inl rfl | exact Or.inr rfl) (pe_c c_law_told hr (by omega) (by rfl) (pa_cons (pv 0) (pa_cons (pv 1) pa_nil))))
    (pss_cons (ps_if (pt_not (pt_val (pe_c c_law_same hr (by omega) (by rfl) (pa_cons (pv 0) (pa_cons (pv 2) pa_nil)))))
      (pss_one (ps_ret pe_bl))
      pss_nil)
    (pss_cons (ps_if (pt_val (pe_c c_law_breaks hr (by omega) (by rfl) (pa_cons (pv 2) pa_nil)))
      (pss_one (ps_ret (pe_and (pe_ix ix_list (pv 3) pe_int (fun _ _ => rfl)) (pe_one (pe_c c_law_same hr (by omega) (by rfl) (pa_cons (pe_ix ix_list (pv 3) pe_int (fun _ _ => rfl)) (pa_cons (pe_c c_law_rows hr (by omega) (by rfl) (pa_cons (pv 2) pa_nil)) pa_nil)))))))
      pss_nil)
    (pss_one (ps_ret (pe_and (pe_not (pe_ix ix_list (pv 3) pe_int (fun _ _ => rfl))) (pe_one (pe_c c_law_same hr (by omega) (by rfl) (pa_cons (pe_ix ix_list (pv 3) pe_int (fun _ _ => rfl)) (pa_cons (pv 2) pa_nil))))))))))), ?_⟩
    refine ⟨_, rfl, v, d, rfl, hok, hv, fun H1 v2 N s1 nw dv2 => ?_⟩
    have d2 := Dp.mono nw.same _ _ dv2
    refine ⟨_, rfl, _, rfl, v, d, 4, b, rfl, Dp.mono s1 _ _ hv, hok, hlen, fun H2 p s2 hp => ?_⟩
    have hv2 := Dp.mono (s1.trans s2) _ _ hv
    have d22 := Dp.mono s2 _ _ d2
    refine ⟨_, rfl, _, rfl, v, v2, d, rfl, hok, hv2, d22, _, rfl, iteF ?_⟩
    refine ⟨_, rfl, v2, d, 4, rfl, d22, hok, fun z => ⟨by have := (hlen z).1; omega, (hlen z).2⟩, fun H3 s3 => ⟨_, rfl, ?_⟩⟩
    have S3 := (s1.trans s2).trans s3
    rcases hp with ⟨hb, pw, ks, m, hO, hM, hp, hpw⟩ | ⟨hb, hp⟩
    · rw [hb]
      refine iteT ?_
      have hp3 := s3 _ _ hp
      have hpw3 := s3 _ _ hpw
      obtain ⟨hrw, hkr⟩ := Bool.and_eq_true_iff.mp hb
      obtain ⟨hl, h10⟩ := hlen hrw
      have hkr2 : ¬ kr (lensD d) < 2 * 2 ^ 40 := fun z => by rw [decide_eq_true z] at hkr; cases hkr
      have hb11 : 2 ^ 11 ≤ hs 10 (lensD d) := by
        have := kr_hs h10
        omega
      obtain ⟨a2, rfl, hS, _⟩ := row_at (Dp.mono s3 _ _ d22) hok hrw
      refine ⟨_, rfl, p, _, _, _, rfl, rfl, SqL.of hp3, atI_nat (j := 0) rfl, _, rfl, iteT ?_⟩
      refine ⟨_, rfl, p, _, _, _, rfl, rfl, SqL.of hp3, atI_nat (j := 1) rfl, _, rfl, a2, lensD d, rfl, hS, hl, h10, hb11, fun H4 p4 ks4 m4 s4 hO4 hM4 hp4 => ?_⟩
      have e4 := IsOrd.uniq hO4 hO
      subst e4
      have e5 := Mx.uniq hM4 hM
      subst e5
      have hwl : (wrL ks4 (lensD d).length).length ≤ 100 := by unfold wrL; rw [List.length_map, List.length_range]; exact hl
      refine ⟨_, _, .tuple (((wrL ks4 (lensD d).length).map (padTo m4)).map PyData.str), rfl, okD_mk (by rw [List.length_map, List.length_map]; omega) (fun e he => ?_), .tup (SqT.of (s4 _ _ hpw3)) (dp_strs _), .tup (SqT.of hp4) (dp_strs _), q _ (S3.trans s4)⟩
      obtain ⟨z, _, rfl⟩ := List.mem_map.mp he
      rfl
    · rw [hb]
      refine iteF ?_
      have hp3 := s3 _ _ hp
      refine ⟨_, rfl, p, _, _, _, rfl, rfl, SqL.of hp3, atI_nat (j := 0) rfl, _, rfl, _, rfl, iteT ?_⟩
      exact ⟨_, rfl, p, _, _, _, rfl, rfl, SqL.of hp3, atI_nat (j := 1) rfl, _, rfl, v, v2, d, rfl, hok, Dp.mono s3 _ _ hv2, Dp.mono s3 _ _ d22, q _ S3⟩
end

theorem Brk.one {ks : List (Int × Int)} {v w : V} (h : Brk ks v) (h' : Brk ks w) : v = w := by
  rcases h with ⟨a, rfl⟩ | ⟨m, rfl, ⟨p, hp, p0, rfl⟩, hm⟩ <;> rcases h' with ⟨a', rfl⟩ | ⟨m', rfl, ⟨p', hp', p0', rfl⟩, hm'⟩
  · rfl
  · exact absurd p0' (a _ hp')
  · exact absurd p0 (a' _ hp)
  · have := hm _ hp' p0'
    have := hm' _ hp p0
    exact congrArg V.int (by omega)
structure Bo (C : Addr) (B : Hp) (o x dx lp bl : Addr) (row : Str) (brk : V) : Prop where
  ho : B o = some (.lst [.ref lp, .str row, brk])
  hx : B x = some (.ins C dx (bfz brk row bl))
  st : (∃ m : Int, brk = .int m) ∨ (brk = .non ∧ ∃ yo ko yb kb, B lp = some (.lst yo) ∧ Prs B yo ko ∧ B bl = some (.lst yb) ∧ Prs B yb kb ∧ Bk ko kb)
theorem Bo.mono {C : Addr} {B B' : Hp} {o x dx lp bl : Addr} {row : Str} {brk : V} (h : Bo C B o x dx lp bl row brk) (s : Same B B') : Bo C B' o x dx lp bl row brk := by
  refine ⟨s _ _ h.ho, s _ _ h.hx, h.st.imp (fun z => z) fun ⟨e, yo, ko, yb, kb, h1, h2, h3, h4, h5⟩ => ⟨e, yo, ko, yb, kb, s _ _ h1, h2.mono s, s _ _ h3, h4.mono s, h5⟩⟩
theorem Prs.ne {B : Hp} {ys : List V} {ks : List (Int × Int)} {l q a : Addr} {r : Str} {b : V} (h : Prs B ys ks) (hl : B l = some (.lst ys)) (hq : B q = some (.lst [.ref a, .str r, b])) : l ≠ q := fun e => by
  rw [e, hq] at hl
  cases hl
  obtain ⟨t, p, e1, _⟩ := h.2 1 (.str r) rfl
  cases e1
theorem Bo.offO {C : Addr} {B : Hp} {o x dx lp bl q a : Addr} {row r : Str} {brk b : V} (h : Bo C B o x dx lp bl row brk) (hq : B q = some (.lst [.ref a, .str r, b])) (ne : o ≠ q) (u : HO) : Bo C (upd B q u) o x dx lp bl row brk := by
  refine ⟨by rw [upd_ne ne]; exact h.ho, by rw [upd_ne (fun e => by have := h.hx; rw [e, hq] at this; cases this)]; exact h.hx, h.st.imp (fun z => z) fun ⟨e, yo, ko, yb, kb, h1, h2, h3, h4, h5⟩ => ⟨e, yo, ko, yb, kb, by rw [upd_ne (h2.ne h1 hq)]; exact h1, h2.off hq, by rw [upd_ne (h4.ne h3 hq)]; exact h3, h4.off hq, h5⟩⟩
theorem Bo.offX {C C' d : Addr} {B : Hp} {o x dx lp bl q : Addr} {row : Str} {brk : V} {fs : List (Str × V)} (h : Bo C B o x dx lp bl row brk) (hq : B q = some (.ins C' d fs)) (ne : x ≠ q) (u : HO) : Bo C (upd B q u) o x dx lp bl row brk := by
  have nl : ∀ {l : Addr} {ys : List V}, B l = some (.lst ys) → upd B q u l = some (.lst ys) := fun {l ys} h => by
    rw [upd_ne (fun e => by rw [e, hq] at h; cases h)]
    exact h
  refine ⟨nl h.ho, by rw [upd_ne ne]; exact h.hx, h.st.imp (fun z => z) fun ⟨e, yo, ko, yb, kb, h1, h2, h3, h4, h5⟩ => ⟨e, yo, ko, yb, kb, nl h1, h2.offI hq, nl h3, h4.offI hq, h5⟩⟩
theorem Prs.up {H B : Hp} {ys : List V} {ks : List (Int × Int)} (h : Prs H ys ks) (k : ∀ a o, H a = some o → (∀ xs, o ≠ .lst xs) → B a = some o) : Prs B ys ks := ⟨h.1, fun i y hi => by
  obtain ⟨t, p, e1, e2, e3⟩ := h.2 i y hi
  exact ⟨t, p, e1, e2, k _ _ e3 (fun xs e => by cases e)⟩⟩
/-- the base grows by a list of pairs -/
theorem Tp.prs {B H H1 : Hp} {t l : Addr} {c : Nat} {ys : List V} {ks : List (Int × Int)} (T : Tp B H t c) (sm : Same H H1) (hl0 : H l = none) (hl : H1 l = some (.lst ys)) (hP : Prs H1 ys ks) :
    ∃ B', Tp B' H1 t c ∧ Same B B' ∧ B' l = some (.lst ys) ∧ Prs B' ys ks := by
  have T1 := T.ext1 sm hl0 hl
  obtain ⟨B', g, T2, up⟩ := T1.grow
  exact ⟨B', T2, (same_upd (T.isn hl0)).trans g, g _ _ upd_same, hP.up up⟩
theorem Tp.madeB {B H H1 : Hp} {t x dx C l : Addr} {c : Nat} {fs : List (Str × V)} {ys : List V} {ks : List (Int × Int)} (T : Tp B H t c) (hx : H x = none) (hd : H dx = none) (ne : dx ≠ x) (sm : Same (upd (upd (upd H dx (.own x)) x (.ins C dx [])) x (.ins C dx fs)) H1)
    (hl0 : upd (upd H dx (.own x)) x (.ins C dx []) l = none) (hl : H1 l = some (.lst ys)) (hP : Prs H1 ys ks) : ∃ B', Tp B' H1 t c ∧ Same B B' ∧ B x = none ∧ B' x = some (.ins C dx fs) ∧ B' l = some (.lst ys) ∧ Prs B' ys ks := by
  have T1 := (T.inst (C := C) (fs := []) hx hd ne).set (o' := .ins C dx fs) upd_same
  have bx := T.isn hx
  have bd := T.isn hd
  have nl : l ≠ x := fun e => by rw [e, upd_same] at hl0; cases hl0
  obtain ⟨B', T2, s, h1, h2⟩ := Tp.prs T1 sm (by rw [upd_ne nl]; exact hl0) hl hP
  refine ⟨B', T2, ?_, bx, s _ _ upd_same, h1, h2⟩
  have s1 := same_ins (C := C) (fs := fs) bx bd ne
  rw [upd_upd] at s
  exact s1.trans s
theorem Tp.setB {B H H1 : Hp} {t q l : Addr} {c : Nat} {o u : HO} {ys : List V} {ks : List (Int × Int)} (T : Tp B H t c) (hq : B q = some o) (sm : Same (upd H q u) H1) (hl0 : H l = none) (hl : H1 l = some (.lst ys)) (hP : Prs H1 ys ks) :
    ∃ B', Tp B' H1 t c ∧ Same (upd B q u) B' ∧ B' l = some (.lst ys) ∧ Prs B' ys ks := by
  have T1 := T.set (o' := u) hq
  have nl : l ≠ q := fun e => by rw [e, T.at hq] at hl0; cases hl0
  exact Tp.prs T1 sm (by rw [upd_ne nl]; exact hl0) hl hP
theorem nums_is {K : PySem.W.Frag} {H : Hp} {a : Addr} {ls : List Nat} (hS : H a = some (.lst (ls.map nI)) ∨ H a = some (.tup (ls.map nI))) (hl : ls.length ≤ 100000) : ∃ d, Dp K H (.ref a) d ∧ okD 2 d = true ∧ rowD d = true ∧ lensD d = ls := by
  have al : (ndD ls).all isNumD = true := by
    rw [List.all_eq_true]
    intro d hd
    obtain ⟨n, _, rfl⟩ := List.mem_map.mp hd
    exact decide_eq_true (Int.natCast_nonneg n)
  have okm := okD_mk (n := 1) (ds := ndD ls) (by rw [ndD_len]; exact hl) fun d hd => ndD_ok ls 0 d hd
  rcases hS with h | h
  · exact ⟨.list (ndD ls), .lst (SqL.of h) (dp_nd ls), okm, al, ndD_nat ls⟩
  · exact ⟨.tuple (ndD ls), .tup (SqT.of h) (dp_nd ls), okm, al, ndD_nat ls⟩
/-- one of two -/
def pk {α : Type} (x y : α) : Nat → α
  | 0 => x
  | _ => y
theorem two_at {α : Type} {f : Nat → α} {j : Nat} (h : j < 2) : [f 0, f 1][j]? = some (f j) := by
  rcases (by omega : j = 0 ∨ j = 1) with e | e <;> subst e <;> rfl
structure Bg (C : Addr) (B : Hp) (ow br p : Addr) (bs : List Nat) (o x dx lp bl : Nat → Addr) (row : Nat → Str) (brk : Nat → V) (n : Nat) : Prop where
  ow : B ow = some (.lst [.ref (o 0), .ref (o 1)])
  br : B br = some (.lst [.ref (x 0), .ref (x 1)])
  pb : B p = some (.lst (bs.map nI))
  no : o 0 ≠ o 1
  nx : x 0 ≠ x 1
  b : ∀ j, j < 2 → Bo C B (o j) (x j) (dx j) (lp j) (bl j) (row j) (brk j) ∧ (row j).length ≤ n
theorem Bg.mono {C : Addr} {B B' : Hp} {ow br p : Addr} {bs : List Nat} {o x dx lp bl : Nat → Addr} {row : Nat → Str} {brk : Nat → V} {n : Nat} (h : Bg C B ow br p bs o x dx lp bl row brk n) (s : Same B B') : Bg C B' ow br p bs o x dx lp bl row brk n :=
  ⟨s _ _ h.ow, s _ _ h.br, s _ _ h.pb, h.no, h.nx, fun j hj => ⟨(h.b j hj).1.mono s, (h.b j hj).2⟩⟩
theorem Bg.ne {C : Addr} {B : Hp} {ow br p : Addr} {bs : List Nat} {o x dx lp bl : Nat → Addr} {row : Nat → Str} {brk : Nat → V} {n : Nat} (h : Bg C B ow br p bs o x dx lp bl row brk n) {i j : Nat} (hi : i < 2) (hj : j < 2) (e : i ≠ j) : o i ≠ o j ∧ x i ≠ x j := by
  rcases (by omega : i = 0 ∧ j = 1 ∨ i = 1 ∧ j = 0) with ⟨e1, e2⟩ | ⟨e1, e2⟩ <;> subst e1 <;> subst e2
  · exact ⟨h.no, h.nx⟩
  · exact ⟨h.no.symm, h.nx.symm⟩
theorem Bg.le {C : Addr} {B : Hp} {ow br p : Addr} {bs : List Nat} {o x dx lp bl : Nat → Addr} {row : Nat → Str} {brk : Nat → V} {n m : Nat} (h : Bg C B ow br p bs o x dx lp bl row brk n) (hn : n ≤ m) : Bg C B ow br p bs o x dx lp bl row brk m :=
  ⟨h.ow, h.br, h.pb, h.no, h.nx, fun j hj => ⟨(h.b j hj).1, Nat.le_trans (h.b j hj).2 hn⟩⟩
/-- the law's own one has answered, the breaker not yet -/
structure Bh (C : Addr) (B : Hp) (ow br p : Addr) (bs : List Nat) (o x dx lp bl : Nat → Addr) (row : Nat → Str) (brk : Nat → V) (j b m : Nat) (p' : Addr) (v' : V) (yo' yb : List V) (ko kb : List (Int × Int)) : Prop where
  ow : B ow = some (.lst [.ref (o 0), .ref (o 1)])
  br : B br = some (.lst [.ref (x 0), .ref (x 1)])
  pb : B p = some (.lst (bs.map nI))
  oth : ∀ i, i < 2 → i ≠ j → Bo C B (o i) (x i) (dx i) (lp i) (bl i) (row i) (brk i)
  ho : B (o j) = some (.lst [.ref p', .str (row j ++ tolS (1 - b)), v'])
  hp : B p' = some (.lst yo')
  hP : Prs B yo' (lessK (sideK b m kb))
  hv : Brk (sideK b m kb) v'
  hx : B (x j) = some (.ins C (dx j) (bfz .non (row j) (bl j)))
  hl : B (bl j) = some (.lst yb)
  hL : Prs B yb kb
  bk : Bk ko kb
  m1 : m ≤ (fsN kb).length
  m2 : kr ((fsN kb).take m) = 2 ^ 40
  m3 : hs 10 ((fsN kb).take m) = 2 ^ 10
theorem Bh.done {C : Addr} {B B' : Hp} {ow br p : Addr} {bs : List Nat} {o x dx lp bl : Nat → Addr} {row : Nat → Str} {brk : Nat → V} {j b m n : Nat} {p' p2 : Addr} {v' v2 : V} {yo' yb y2 : List V} {ko kb : List (Int × Int)} {m' : Nat} (hj : j < 2) (h : Bh C B ow br p bs o x dx lp bl row brk j b m p' v' yo' yb ko kb)
    (no : o 0 ≠ o 1) (nx : ∀ i, i < 2 → i ≠ j → x i ≠ x j) (nx0 : x 0 ≠ x 1) (hlen : ∀ i, i < 2 → (row i).length ≤ n) (s : Same (upd B (x j) (.ins C (dx j) (bfz v2 (row j ++ tolS (1 - b)) p2))) B') (hm1 : m' ≤ (fsN kb).length) (hm2 : kr ((fsN kb).take m') = 2 ^ 40) (h2 : B' p2 = some (.lst y2)) (hP2 : Prs B' y2 (lessK (sideK b m' kb))) (hv2 : Brk (sideK b m' kb) v2) :
    Bg C B' ow br p bs o x dx (fun i => if i = j then p' else lp i) (fun i => if i = j then p2 else bl i) (fun i => if i = j then row j ++ tolS (1 - b) else row i) (fun i => if i = j then v2 else brk i) (n + 1) := by
  have em := cut_one hm1 h.m1 (hm2.trans h.m2.symm)
  subst em
  have ev := Brk.one hv2 h.hv
  subst ev
  have kl : ∀ {z : Addr} {ys : List V}, B z = some (.lst ys) → B' z = some (.lst ys) := fun {z ys} hz => s _ _ (by
    rw [upd_ne (fun e => by rw [e, h.hx] at hz; cases hz)]
    exact hz)
  refine ⟨kl h.ow, kl h.br, kl h.pb, no, nx0, fun i hi => ?_⟩
  by_cases e : i = j
  · subst e
    simp only [if_true]
    refine ⟨⟨kl h.ho, s _ _ upd_same, ?_⟩, by rw [len_app, tolS_len]; have := hlen i hi; omega⟩
    rcases h.hv with ⟨h0, e⟩ | ⟨k, e, _⟩
    · exact .inr ⟨e, yo', _, y2, _, kl h.hp, (h.hP.offI h.hx).mono s, h2, hP2, h.bk.less h.m3 h0⟩
    · exact .inl ⟨k, e⟩
  · simp only [if_neg e]
    exact ⟨((h.oth i hi e).offX h.hx (nx i hi e) _).mono s, Nat.le_succ_of_le (hlen i hi)⟩

/-! ### a breaker breaks a program, and its row begins with what was told -/
def stB (bs : List Nat) (ks : List (Int × Int)) (B : Hp) (i : Nat) (brk : V) (row : Str) (pl : Addr) : Prop :=
  (brk = .non ∧ row.length = i ∧ ∃ (yb : List V) (kb : List (Int × Int)), B pl = some (.lst yb) ∧ Prs B yb kb ∧ Bk kb kb ∧ Nd kb ∧ (∀ z ∈ kb, 0 ≤ z.2 ∧ z.2 < bs.length ∧ z.1 + i = ((bs.getD z.2.toNat 0 : Nat) : Int)) ∧ (∀ q : Int, hasQ q kb = true → wr 11 ks q = row ++ wr (11 - i) kb q)) ∨
  (∃ mm : Nat, brk = .int (mm : Nat) ∧ mm < bs.length ∧ row.length = bs.getD mm 0 + 1 ∧ wr 11 ks (mm : Nat) = row)
def spBR24 (K : PySem.W.Frag) : Sp := fun vs H Q _ => ∃ (B : Hp) (t p pw : Addr) (c m : Nat) (bs : List Nat) (ks : List (Int × Int)) (cst : Bool), vs = [.ref t, .ref p, .ref pw, .bl cst] ∧ Tp B H t c ∧ c < 1000000 ∧ B p = some (.lst (bs.map nI)) ∧ 2 ≤ bs.length ∧ bs.length ≤ 12 ∧ (∀ b ∈ bs, b ≤ 10) ∧ 2 ^ 11 ≤ hs 10 bs ∧ IsOrd bs ks ∧ Mx m (wrL ks bs.length) ∧ B pw = some (.tup (((wrL ks bs.length).map (padTo m)).map V.str)) ∧
  ∀ B' H', Same B B' → Tp B' H' t (c + 20) → Q (.bl true) H'
section
variable {P : Program} {w : World} {K : PySem.W.Frag} {mg : Str → Option Value} {base : Heap} {C_Breaker : Addr} {C_InvalidBudgets C_InvalidNumber : Addr}
theorem ok_law_breaker_right {f : Addr} {fd : FuncData} (F : Fun K "_law_breaker_right" "_law_breaker_right" s_law_breaker_right f fd) (T : Txt K mg C_Breaker) (c : BrC K C_Breaker) (c_law_draw : Cal P w K mg base 1 "_law_draw" spDraw) (m_Breaker : MakX P w K mg base 7 "Breaker" C_Breaker (spBInit K C_Breaker C_InvalidBudgets)) (c_Breaker_answer : MetX P w K mg base 4 C_Breaker "answer" (spBA K C_Breaker C_InvalidNumber)) : FnOk P w K mg base CX0 9 f fd ["tape", "budgets", "rows", "constant"] (spBR24 K) := by
  refine F.ok sc_law_breaker_right (fun vs H Q E h => ?_) (fun cdv A outer s H vs Q E hr h => ?_)
  · obtain ⟨B, t, p, pw, c, m, bs, ks, cst, rfl, _⟩ := h
    rfl
  · obtain ⟨B, t, p, pw, c0, m, bs, ks, cst, rfl, T0, hc, hp, l2, l12, h10, hsb, hO, hM, hpw, q⟩ := h
    refine ⟨_, (pss_cons (ps_set (i := 4) sc_law_breaker_right.nd rfl (by first | exact Or.inl rfl | exact Or.inr rfl) (pe_mkx m_Breaker hr (by omega) (by rfl) (pa_cons (pe_callTy call_tuple_of (by rfl) T.b_tuple (by decide +kernel) (pa_cons (pv 1) pa_nil)) pa_nil)))
    (pss_cons (ps_for PassesOwn.never rfl (pi_range1 (by rfl) T.b_range (pa_cons (pe_callB call_len_str (by rfl) T.b_len PySem.boot_len (pa_cons (pe_ix ix_tup (pv 2) pe_int (fun _ _ => rfl)) pa_nil)) pa_nil)) (pg_name (i := 5) sc_law_breaker_right.nd rfl (by first | exact Or.inl rfl | exact Or.inr rfl))
      (pss_one (ps_if (pt_cmpR op_isN (pe_fld (pv 4) rfl) pe_non (nomark _))
          (pss_cons (ps_set (i := 6) sc_law_breaker_right.nd rfl (by first | exact Or.inl rfl | exact Or.inr rfl) (pe_c c_law_draw hr (by omega) (by rfl) (pa_cons (pv 0) (pa_cons pe_int pa_nil))))
            (C8.pss_cut (ps_if (pt_val (pv 3))
              (pss_one (ps_set (i := 6) sc_law_breaker_right.nd rfl (by first | exact Or.inl rfl | exact Or.inr rfl) (pe_op op_and (pe_callB call_len_seq (by rfl) T.b_len PySem.boot_len (pa_cons (pv 1) pa_nil)) pe_int)))
              pss_nil)
            (pss_one (ps_expr (pe_mtx c_Breaker_answer hr (by omega) (pv 4) (pa_cons (pv 6) pa_nil))))))
          pss_nil)))
    (pss_cons (ps_set (i := 7) sc_law_breaker_right.nd rfl (by first | exact Or.inl rfl | exact Or.inr rfl) (pe_fld (pv 4) rfl))
    (pss_cons (ps_if (PW.pt (pw_or (pt_not (pt_val (pe_callB call_isi (by rfl) T.b_isinstance (by decide +kernel) (pa_cons (pv 7) (pa_cons (pe_bltn (v := .ty "int") (by rfl) T.b_int (by decide +kernel) rfl) pa_nil))))) (pw_or (pt_val (pe_callB call_isi (by rfl) T.b_isinstance (by decide +kernel) (pa_cons (pv 7) (pa_cons (pe_bltn (v := .ty "bool") (by rfl) T.b_bool (by decide +kernel) rfl) pa_nil)))) (pw_or1 (pt_not (pt_chain op_le op_lt pe_int (pv 7) (pe_callB call_len_seq (by rfl) T.b_len PySem.boot_len (pa_cons (pv 1) pa_nil))))))))
      (pss_one (ps_ret pe_bl))
      pss_nil)
    (pss_cons (ps_set (i := 8) sc_law_breaker_right.nd rfl (by first | exact Or.inl rfl | exact Or.inr rfl) (pe_fld (pv 4) rfl))
    (pss_one (ps_ret (pe_and (pe_callB call_isi (by rfl) T.b_isinstance (by decide +kernel) (pa_cons (pv 8) (pa_cons (pe_bltn (v := .ty "str") (by rfl) T.b_str (by decide +kernel) rfl) pa_nil))) (pe_and (pe_chain op_eq op_le (pe_op op_add (pe_ix ix_list (pv 1) (pv 7) (fun _ _ => rfl)) pe_int) (pe_callB call_len_str (by rfl) T.b_len PySem.boot_len (pa_cons (pv 8) pa_nil)) (pe_callB call_len_str (by rfl) T.b_len PySem.boot_len (pa_cons (pe_ix ix_tup (pv 2) pe_int (fun _ _ => rfl)) pa_nil))) (pe_one (pe_bm PySem.F.plainAttrs_str PySem.F.slot_str_startswith PySem.F.type_str_startswith mt_startswith (pe_ix ix_tup (pv 2) (pv 7) (fun _ _ => rfl)) (pa_cons (pv 8) pa_nil)))))))))))), ?_⟩
    have ln : bs.length ≤ 100000 := by omega
    have h40 : ∀ n ∈ bs, n ≤ 40 := fun n hn => Nat.le_trans (h10 n hn) (by decide)
    have big : ¬ kr bs < 2 * 2 ^ 40 := by
      rw [kr_hs h10]
      omega
    have hWl : (wrL ks bs.length).length = bs.length := by unfold wrL; rw [List.length_map, List.length_range]
    have hW : ∀ q : Nat, q < bs.length → (wrL ks bs.length)[q]? = some (wr 11 ks q) := fun q hq => by
      unfold wrL
      rw [List.getElem?_map, List.getElem?_range hq]
      rfl
    have hWp : ∀ q : Nat, q < bs.length → (((wrL ks bs.length).map (padTo m)).map V.str)[q]? = some (.str (padTo m (wr 11 ks q))) := fun q hq => by
      rw [List.getElem?_map, List.getElem?_map, hW q hq]
      rfl
    have hWm : ∀ q : Nat, q < bs.length → (wr 11 ks q).length ≤ m := fun q hq => hM.2 _ (List.mem_of_getElem? (hW q hq))
    have hpl : ∀ z : Str, z.length ≤ m → (padTo m z).length = m := fun z hz => by
      unfold padTo
      rw [len_app, repS_len]
      show _ + _ * 1 = _
      omega
    have hm11 : m ≤ 11 := by
      obtain ⟨⟨z, hz, rfl⟩, _⟩ := hM
      obtain ⟨k, _, rfl⟩ := List.mem_map.mp hz
      exact wr_len
    have bk0 : Bk ks ks := (Bk.ord hO (by omega) h10 hsb).self
    have nd0 := Nd.ord hO
    refine ⟨_, rfl, p, _, rfl, .inl ⟨SqL.of (T0.at hp), fun a0 ha0 => ?_⟩⟩
    have T1 := T0.new (o := .tup (bs.map nI)) ha0
    have s1 := same_upd (o := .tup (bs.map nI)) (T0.isn ha0)
    have ha1 : upd B a0 (.tup (bs.map nI)) a0 = some (.tup (bs.map nI)) := upd_same
    have hp1 := s1 _ _ hp
    have hpw1 := s1 _ _ hpw
    generalize upd B a0 (.tup (bs.map nI)) = B1 at *
    refine fun x dx hx hdx ne => ?_
    obtain ⟨e0, hd0', ok0, hr0, hl0⟩ := nums_is (K := K) (.inr ha1) ln
    have i0 := same_ins (C := C_Breaker) (fs := []) hx hdx ne
    refine ⟨x, dx, _, e0, 2, rfl, upd_same, Dp.mono (T1.same.trans i0) _ _ hd0', ok0, fun _ => by rw [hl0]; exact ⟨ln, h40⟩, .inl ⟨by rw [hr0, hl0, decide_eq_false big]; rfl, fun H2 pl y0 k0 sm0 fl0 gl0 gP0 gO0 => ⟨rfl, ?_⟩⟩⟩
    rw [hl0] at gO0
    have ek := IsOrd.uniq gO0 hO
    subst ek
    obtain ⟨B2, T2, s2, bx, g2x, g2l, g2P⟩ := Tp.madeB T1 hx hdx ne sm0 fl0 gl0 gP0
    have hp2 := s2 _ _ hp1
    have hpw2 := s2 _ _ hpw1
    have S2 := s1.trans s2
    have hx0 : B x = none := s1.free bx
    have z0 : (((wrL k0 bs.length).map (padTo m)).map V.str)[0]? = some (.str (padTo m (wr 11 k0 (0 : Nat)))) := hWp 0 (by omega)
    have z0l : (padTo m (wr 11 k0 (0 : Nat))).length = m := hpl _ (hWm 0 (by omega))
    refine ⟨_, rfl, pw, _, _, _, rfl, rfl, SqT.of (T2.at hpw2), atI_nat (j := 0) z0, _, rfl, szle (by omega), (m : Int), congrArg (fun z => [V.int z]) (by rw [z0l]), by omega, by omega, for_range (n := m) (fun i σ H' => ∃ (B3 : Hp) (brk : V) (row : Str) (pl : Addr) (v5 v6 : Option V), σ = [some (.ref t), some (.ref p), some (.ref pw), some (.bl cst), some (.ref x), v5, v6, none, none] ∧ Tp B3 H' t (c0 + i) ∧ Same B B3 ∧ B3 p = some (.lst (bs.map nI)) ∧ B3 pw = some (.tup (((wrL k0 bs.length).map (padTo m)).map V.str)) ∧ B3 x = some (.ins C_Breaker dx (bfz brk row pl)) ∧ stB bs k0 B3 i brk row pl)
      ⟨B2, .non, "", pl, none, none, rfl, T2, S2, hp2, hpw2, g2x, .inl ⟨rfl, rfl, y0, k0, g2l, g2P, bk0, nd0, fun z hz => ?_, fun q _ => (nil_app _).symm⟩⟩ ?_ ?_⟩
    · obtain ⟨l, k, rfl, hk⟩ := hO.mem hz
      have hkl := (List.getElem?_eq_some_iff.mp hk).1
      refine ⟨by show 0 ≤ (k : Int); omega, by show (k : Int) < _; omega, ?_⟩
      show (l : Int) + ((0 : Nat) : Int) = ((bs.getD k 0 : Nat) : Int)
      rw [List.getD_eq_getElem?_getD, hk]
      exact Int.add_zero _
    · rintro i σ H3 hi ⟨B3, brk, row, pl, v5, v6, rfl, T3, S3, hp3, hpw3, hx3, st⟩
      refine ⟨_, rfl, x, C_Breaker, dx, _, _, rfl, T3.at hx3, c.ins.cl, c.nb, bfz_b, rfl, _, rfl, ?_⟩
      rcases st with ⟨rfl, hrl, yb, kb, hyb, hPb, bkb, ndb, hzb, hwb⟩ | ⟨mm, rfl, hst⟩
      case inr => exact iteF ⟨B3, _, row, pl, _, _, rfl, T3.le (by omega), S3, hp3, hpw3, hx3, .inr ⟨mm, rfl, hst⟩⟩
      refine iteT ?_
      refine ⟨_, rfl, B3, t, _, 2, rfl, T3, by decide, by decide, by omega, fun H4 b T4 b0 b1 => ?_⟩
      obtain ⟨b, rfl⟩ := nat_of b0
      refine ⟨fun σ H' => ∃ bb : Nat, bb ≤ 1 ∧ σ = [some (.ref t), some (.ref p), some (.ref pw), some (.bl cst), some (.ref x), some (.int (0 + (i : Int))), some (.int (bb : Int)), none, none] ∧ Tp B3 H' t (c0 + (i + 1)), ?_, ?_⟩
      · cases cst with
        | false => exact ⟨_, rfl, _, rfl, iteF ⟨b, by omega, rfl, T4⟩⟩
        | true =>
          refine ⟨_, rfl, _, rfl, iteT ?_⟩
          refine ⟨_, rfl, p, _, rfl, .inl (SqL.of (T4.at hp3)), _, _, rfl, rfl, bs.length % 2, by omega, ?_, T4⟩
          rw [List.length_map]
          exact congrArg (fun z => [some (V.ref t), some (.ref p), some (.ref pw), some (.bl true), some (.ref x), some (.int (0 + (i : Int))), some (.int z), none, none]) ((by decide : ∀ n : Nat, n ≤ 12 → Builtin.bitAnd (n : Int) 1 = ((n % 2 : Nat) : Int)) _ l12)
      clear b1 T4 b0
      rintro σ H5 ⟨bb, hbb, rfl, T5⟩
      have hi10 : 11 - i = (10 - i) + 1 := by omega
      refine ⟨_, rfl, x, dx, _, rfl, T5.at hx3, rfl, _, rfl, x, dx, _, .int bb, .non, row, pl, rfl, T5.at hx3, .int _, .inr ⟨bb, hbb, rfl, rfl, .inr ⟨rfl, by omega, yb, kb, fsN kb, T5.at hyb, hPb.mono T5.same, by have := bkb.len; omega, by unfold fsN; rw [List.length_map], bkb.get, bkb.fst, fun l hl => Nat.le_trans (bkb.le l hl) (by decide), by have := bkb.kr; omega, fun H7 m' p2 y2 v2 sm fp hm1 hm2 gp gP hv2 => ?_⟩⟩⟩
      have em := cut_of bkb hm1 hm2
      have es : sideK bb m' kb = sd (1 - bb) kb := by
        unfold sd
        rw [em, show 1 - (1 - bb) = bb by omega]
      rw [es] at gP hv2
      obtain ⟨B7, T7, s7, g7, P7⟩ := Tp.setB T5 hx3 sm fp gp gP
      have nx3 : ∀ {z : Addr} {o : HO}, B3 z = some o → z ≠ x → B7 z = some o := fun {z o} hz ne => s7 _ _ (by rw [upd_ne ne]; exact hz)
      have npx : p ≠ x := fun e => by rw [e, hx3] at hp3; cases hp3
      have npw : pw ≠ x := fun e => by rw [e, hx3] at hpw3; cases hpw3
      have S7 : Same B B7 := fun z o hz => nx3 (S3 _ _ hz) (fun e => by rw [e, hx0] at hz; cases hz)
      refine ⟨B7, v2, row ++ tolS (1 - bb), p2, _, _, rfl, T7, S7, nx3 hp3 npx, nx3 hpw3 npw, s7 _ _ upd_same, ?_⟩
      have sub := sd_sub (1 - bb) kb
      have hword : ∀ q : Int, hasQ q (sd (1 - bb) kb) = true → wr 11 k0 q = (row ++ tolS (1 - bb)) ++ (if bkB (sd (1 - bb) kb) = true then ("" : Str) else wr (10 - i) (lessK (sd (1 - bb) kb)) q) := fun q hq => by
        rw [hwb q (hasQ_up sub hq), hi10, wr_side ndb (by omega) hq, app_assoc]
      cases hb : bkB (sd (1 - bb) kb) with
      | false =>
        refine .inl ⟨brk_nv hv2 hb, by rw [len_app, tolS_len]; omega, y2, lessK (sd (1 - bb) kb), g7, P7, bkb.next hb, (ndb.sub sub).less, fun z hz => ?_, fun q hq => ?_⟩
        · obtain ⟨z', hz', rfl⟩ := List.mem_map.mp hz
          obtain ⟨h1, h2, h3⟩ := hzb z' (sub.subset hz')
          refine ⟨h1, h2, ?_⟩
          rw [← h3]
          show z'.1 - 1 + ((i + 1 : Nat) : Int) = _
          omega
        · rw [hasQ_less] at hq
          rw [hword q hq, hb, if_neg (by decide), show 11 - (i + 1) = 10 - i by omega]
      | true =>
        rcases hv2 with ⟨h0, e⟩ | ⟨mi, e, ⟨z, hz, z0, zm⟩, hle⟩
        · have := brk_non.mp (.inl ⟨h0, rfl⟩)
          rw [hb] at this
          cases this
        · obtain ⟨h1, h2, h3⟩ := hzb z (sub.subset hz)
          obtain ⟨mm, hmm⟩ := nat_of h1
          have hq : hasQ (mm : Int) (sd (1 - bb) kb) = true := hasQ_iff.mpr ⟨z, hz, hmm⟩
          rw [hmm] at h3 h2
          have h4 : bs.getD mm 0 = i := by
            have : (mm : Int).toNat = mm := rfl
            rw [this] at h3
            omega
          refine .inr ⟨mm, by rw [e, ← zm, hmm], by omega, by rw [len_app, tolS_len, h4]; omega, ?_⟩
          have := hword mm hq
          rw [hb, if_pos rfl, app_nil] at this
          exact this
    · rintro σ H3 ⟨B3, brk, row, pl, v5, v6, rfl, T3, S3, hp3, hpw3, hx3, st⟩
      rcases st with ⟨rfl, hrl, yb, kb, hyb, hPb, bkb, ndb, hzb, hwb⟩ | ⟨mm, rfl, hmm, hrl, hw⟩
      · exfalso
        cases hkb : kb with
        | nil =>
          have := bkb.big
          rw [hkb] at this
          exact absurd this (by decide)
        | cons z rest =>
          have hz : z ∈ kb := by rw [hkb]; exact List.mem_cons_self ..
          obtain ⟨h1, h2, h3⟩ := hzb z hz
          obtain ⟨n, hn⟩ := nat_of h1
          have h0 := (bkb.nat z hz).1
          rw [hn] at h2 h3
          have hnl : n < bs.length := by omega
          have hb10 : bs.getD n 0 ≤ 10 := by
            rw [List.getD_eq_getElem?_getD, List.getElem?_eq_getElem hnl]
            exact h10 _ (List.getElem_mem hnl)
          have h3' : z.1 + (m : Int) = ((bs.getD n 0 : Nat) : Int) := h3
          have hq : hasQ (n : Int) kb = true := hasQ_iff.mpr ⟨z, hz, hn⟩
          have e := congrArg Str.length (hwb n hq)
          rw [len_app, hrl, show 11 - m = (10 - m) + 1 by omega] at e
          have := wr_pos (n := 10 - m) hq
          have := hWm n hnl
          omega
      have hpos : (0 : Int) ≤ (mm : Int) := by omega
      refine ⟨_, rfl, x, C_Breaker, dx, _, _, rfl, T3.at hx3, c.ins.cl, c.nb, bfz_b, ?_⟩
      refine ⟨_, rfl, _, _, _, _, _, rfl, .ty _, .base (.int _), kit_ty (r := true) (by decide), _, rfl, iteF ?_⟩
      refine ⟨_, rfl, _, _, _, _, _, rfl, .ty _, .base (.int _), kit_ty (r := false) (by decide), _, rfl, iteF ?_⟩
      refine ⟨_, rfl, _, _, rfl, rfl, _, rfl, ite2 (fun _ => ?_) (fun h => absurd (decide_eq_true hpos) h)⟩
      refine ⟨_, rfl, p, _, rfl, .inl (SqL.of (T3.at hp3)), _, _, rfl, rfl, true, congrArg V.bl (decide_eq_true (by rw [List.length_map]; omega)), iteF ?_⟩
      refine ⟨_, rfl, x, C_Breaker, dx, _, _, rfl, T3.at hx3, c.ins.cl, c.nr, bfz_r, ?_⟩
      have hb10 : bs.getD mm 0 ≤ 10 := by
        rw [List.getD_eq_getElem?_getD, List.getElem?_eq_getElem hmm]
        exact h10 _ (List.getElem_mem hmm)
      have hrm : row.length ≤ m := by rw [← hw]; exact hWm mm hmm
      refine ⟨_, rfl, _, _, _, _, _, rfl, .ty _, .base (.str _), kit_ty (r := true) (by decide), _, rfl, iteT ?_⟩
      refine ⟨_, rfl, _, rfl, p, _, _, _, rfl, rfl, SqL.of (T3.at hp3), at_num hmm, _, _, rfl, rfl, _, rfl, row, rfl, szle (by omega), ?_⟩
      refine ⟨rfl, _, rfl, ite2 (fun _ => ?_) (fun h => absurd (decide_eq_true (congrArg V.int (by omega))) h)⟩
      refine ⟨_, rfl, pw, _, _, _, rfl, rfl, SqT.of (T3.at hpw3), atI_nat (j := 0) z0, _, rfl, szle (by omega), _, _, rfl, rfl, true, congrArg V.bl (decide_eq_true (by rw [z0l]; omega)), iteT ?_⟩
      refine ⟨_, rfl, _, rfl, pw, _, _, _, rfl, rfl, SqT.of (T3.at hpw3), atI_nat (hWp mm hmm), rfl, _, rfl, _, _, rfl, rfl, ?_⟩
      have est : Txt.startswith (padTo m (wr 11 k0 (mm : Nat))) row = true := by
        rw [starts_iff, hw]
        exact ⟨(repS "0" ((m : Int) - (row.length : Int))).cps.toList, by unfold padTo; exact (Array.toList_append ..).symm⟩
      rw [est]
      exact q _ _ S3 (T3.le (by omega))
end

/-! ### values beside the budgets, and the law asked -/
theorem nums_dp10 {K : PySem.W.Frag} {H : Hp} {a : Addr} {ls : List Nat} (hS : H a = some (.lst (ls.map nI)) ∨ H a = some (.tup (ls.map nI))) (hl : ls.length ≤ 100) (h : ∀ n ∈ ls, n ≤ 10) : ∃ d, Dp K H (.ref a) d ∧ okD 4 d = true ∧ (rowD d = true → (lensD d).length ≤ 100 ∧ ∀ n ∈ lensD d, n ≤ 10) := by
  have ok4 := okD_mk (n := 3) (ds := ndD ls) (by rw [ndD_len]; omega) fun d hd => ndD_ok ls 2 d hd
  have rw_ : ((ndD ls).map natD).length ≤ 100 ∧ ∀ n ∈ (ndD ls).map natD, n ≤ 10 := by
    rw [ndD_nat]
    exact ⟨hl, h⟩
  rcases hS with h | h
  · exact ⟨.list _, .lst (SqL.of h) (dp_nd ls), ok4, fun _ => rw_⟩
  · exact ⟨.tuple _, .tup (SqT.of h) (dp_nd ls), ok4, fun _ => rw_⟩
theorem spoilt_dp {K : PySem.W.Frag} {H : Hp} {a : Addr} {ls : List Nat} {k : Nat} {v : V} {d1 : PyData} (h : H a = some (.lst ((ls.map nI).set k v)) ∨ H a = some (.tup ((ls.map nI).set k v))) (hk : k < ls.length) (hd : Dp K H v d1) (hok : okD 3 d1 = true) (hn : isNumD d1 = false) (hl : ls.length ≤ 100000) :
    ∃ d, Dp K H (.ref a) d ∧ okD 4 d = true ∧ rowD d = false := by
  have len : ((ndD ls).set k d1).length ≤ 100000 := by rw [List.length_set, ndD_len]; exact hl
  have ok4 := okD_mk (n := 3) len fun d hd => by
    rcases List.mem_or_eq_of_mem_set hd with z | z
    · exact ndD_ok ls 2 d z
    · rw [z]; exact hok
  have no : ((ndD ls).set k d1).all isNumD = false := by
    refine Bool.eq_false_iff.mpr fun z => ?_
    have := List.all_eq_true.mp z d1 (List.mem_of_getElem? (i := k) (by rw [List.getElem?_set_self (by rw [ndD_len]; exact hk)]))
    rw [hn] at this
    cases this
  rcases h with h | h
  · exact ⟨.list _, .lst (SqL.of h) (DpAll.set' hd k (dp_nd ls)), ok4, no⟩
  · exact ⟨.tuple _, .tup (SqT.of h) (DpAll.set' hd k (dp_nd ls)), ok4, no⟩
theorem okD_up : ∀ {n : Nat} {d : PyData}, okD n d = true → okD (n + 1) d = true
  | 0, d, h => by cases d <;> cases h
  | n + 1, .none, _ => rfl
  | n + 1, .bool _, _ => rfl
  | n + 1, .int _, _ => rfl
  | n + 1, .str _, _ => rfl
  | n + 1, .list ds, h => okD_mk (okD_seq h).1 fun d hd => okD_up ((okD_seq h).2 d hd)
  | n + 1, .tuple ds, h => okD_mk (okD_seq h).1 fun d hd => okD_up ((okD_seq h).2 d hd)
  | n + 1, .dict _, h => by cases h
def VOk (K : PySem.W.Frag) (H : Hp) (v : V) : Prop := ∃ d, Dp K H v d ∧ okD 4 d = true ∧ (rowD d = true → (lensD d).length ≤ 100 ∧ ∀ n ∈ lensD d, n ≤ 10)
theorem VOk.mono {K : PySem.W.Frag} {H H' : Hp} {v : V} (h : VOk K H v) (s : Same H H') : VOk K H' v := by
  obtain ⟨d, h1, h2⟩ := h
  exact ⟨d, Dp.mono s _ _ h1, h2⟩
theorem VOk.no {K : PySem.W.Frag} {H : Hp} {v : V} (h : ∃ d, Dp K H v d ∧ okD 4 d = true ∧ rowD d = false) : VOk K H v := by
  obtain ⟨d, h1, h2, h3⟩ := h
  exact ⟨d, h1, h2, fun z => by rw [h3] at z; cases z⟩
def spAsks (K : PySem.W.Frag) : Sp := fun vs H Q _ => ∃ (a : Addr) (ns : List Int), vs = [.ref a] ∧ SqL K H a (ns.map V.int) ∧ ns.length ≤ 63 ∧ ∀ H', Q (.bl true) H'
section
variable {P : Program} {w : World} {K : PySem.W.Frag} {mg : Str → Option Value} {base : Heap} {C_Breaker : Addr}
theorem ok_law_asks {f : Addr} {fd : FuncData} (F : Fun K "_law_asks" "_law_asks" s_law_asks f fd) (T : Txt K mg C_Breaker) (c_law_tape : Cal P w K mg base 1 "_law_tape" (spTape K)) (c_law_draw : Cal P w K mg base 1 "_law_draw" spDraw) (c_law_budgets : Cal P w K mg base 2 "_law_budgets" spBud23) (c_law_rows : Cal P w K mg base 1 "_law_rows" (spRows24 K)) (c_law_stranger : Cal P w K mg base 2 "_law_stranger" (spStr23 K)) (c_law_right : Cal P w K mg base 16 "_law_right" (spRight24 K)) (c_law_breaker_right : Cal P w K mg base 9 "_law_breaker_right" (spBR24 K)) : FnOk P w K mg base CX0 17 f fd ["script"] (spAsks K) := by
  refine F.ok sc_law_asks (fun vs H Q E h => ?_) (fun cdv A outer s H vs Q E hr h => ?_)
  · obtain ⟨a, ns, rfl, _⟩ := h
    rfl
  · obtain ⟨a, ns, rfl, hS, hlen, q⟩ := h
    refine ⟨_, (pss_cons (ps_set (i := 1) sc_law_asks.nd rfl (by first | exact Or.inl rfl | exact Or.inr rfl) (pe_c c_law_tape hr (by omega) (by rfl) (pa_cons (pv 0) pa_nil)))
    (pss_cons (ps_set (i := 2) sc_law_asks.nd rfl (by first | exact Or.inl rfl | exact Or.inr rfl) (pe_c c_law_budgets hr (by omega) (by rfl) (pa_cons (pv 1) pa_nil)))
    (pss_cons (ps_set (i := 3) sc_law_asks.nd rfl (by first | exact Or.inl rfl | exact Or.inr rfl) (pe_cmpR op_eq (pe_c c_law_draw hr (by omega) (by rfl) (pa_cons (pv 1) (pa_cons pe_int pa_nil))) pe_int (nomark _)))
    (pss_cons (ps_if (PW.pt (pw_or (pt_not (pt_val (pe_c c_law_right hr (by omega) (by rfl) (pa_cons (pe_callTy call_list_of (by rfl) T.b_list (by decide +kernel) (pa_cons (pv 2) pa_nil)) (pa_cons (pv 3) pa_nil))))) (pw_or1 (pt_not (pt_val (pe_c c_law_right hr (by omega) (by rfl) (pa_cons (pe_callTy call_tuple_of (by rfl) T.b_tuple (by decide +kernel) (pa_cons (pv 2) pa_nil)) (pa_cons pe_bl pa_nil))))))))
      (pss_one (ps_ret pe_bl))
      pss_nil)
    (pss_cons (ps_set (i := 4) sc_law_asks.nd rfl (by first | exact Or.inl rfl | exact Or.inr rfl) (pe_c c_law_rows hr (by omega) (by rfl) (pa_cons (pv 2) pa_nil)))
    (pss_cons (ps_for PassesOwn.never rfl (pi_range1 (by rfl) T.b_range (pa_cons pe_int pa_nil)) (pg_name (i := 5) sc_law_asks.nd rfl (by first | exact Or.inl rfl | exact Or.inr rfl))
      (pss_one (ps_if (pt_not (pt_val (pe_c c_law_breaker_right hr (by omega) (by rfl) (pa_cons (pv 1) (pa_cons (pv 2) (pa_cons (pv 4) (pa_cons (pe_cmpR op_eq (pv 5) pe_int (nomark _)) pa_nil)))))))
          (pss_one (ps_ret pe_bl))
          pss_nil)))
    (pss_cons (ps_set (i := 6) sc_law_asks.nd rfl (by first | exact Or.inl rfl | exact Or.inr rfl) (pe_c c_law_draw hr (by omega) (by rfl) (pa_cons (pv 1) (pa_cons (pe_callB call_len_seq (by rfl) T.b_len PySem.boot_len (pa_cons (pv 2) pa_nil)) pa_nil))))
    (pss_cons (ps_set (i := 7) sc_law_asks.nd rfl (by first | exact Or.inl rfl | exact Or.inr rfl) (pe_callTy call_list_of (by rfl) T.b_list (by decide +kernel) (pa_cons (pv 2) pa_nil)))
    (pss_cons (ps_asg (pe_c c_law_stranger hr (by omega) (by rfl) (pa_cons (pv 1) pa_nil)) (pg_sub (pv 7) (pv 6) set_list))
    (pss_cons (ps_set (i := 8) sc_law_asks.nd rfl (by first | exact Or.inl rfl | exact Or.inr rfl) (pe_callTy call_list_of (by rfl) T.b_list (by decide +kernel) (pa_cons (pv 2) pa_nil)))
    (pss_cons (ps_expr (pe_bm PySem.F.plainAttrs_list PySem.F.slot_list_pop PySem.F.type_list_pop mt_popAt (pv 8) (pa_cons (pv 6) pa_nil)))
    (pss_cons (ps_set (i := 9) sc_law_asks.nd rfl (by first | exact Or.inl rfl | exact Or.inr rfl) (pe_callTy call_list_of (by rfl) T.b_list (by decide +kernel) (pa_cons (pv 2) pa_nil)))
    (pss_cons (ps_asg (pe_callB (call_min2 rfl) (by rfl) T.b_min (by decide +kernel) (pa_cons pe_int (pa_cons (pe_op op_add (pe_ix ix_list (pv 9) (pv 6) (fun _ _ => rfl)) pe_int) pa_nil))) (pg_sub (pv 9) (pv 6) set_list))
    (pss_cons (ps_for PassesOwn.never rfl (pi_list (pe_lst (pa_cons (pv 7) (pa_cons (pe_callTy call_tuple_of (by rfl) T.b_tuple (by decide +kernel) (pa_cons (pv 7) pa_nil)) (pa_cons (pv 8) (pa_cons (pe_callTy call_tuple_of (by rfl) T.b_tuple (by decide +kernel) (pa_cons (pv 9) pa_nil)) (pa_cons (pe_c c_law_stranger hr (by omega) (by rfl) (pa_cons (pv 1) pa_nil)) (pa_cons (pe_lst pa_nil) (pa_cons (pe_tup (pa_cons pe_int pa_nil)) (pa_cons (pe_tup (pa_cons pe_int (pa_cons pe_int pa_nil))) (pa_cons (pe_lst (pa_cons pe_int (pa_cons pe_int (pa_cons pe_int pa_nil)))) pa_nil))))))))))) (pg_name (i := 10) sc_law_asks.nd rfl (by first | exact Or.inl rfl | exact Or.inr rfl))
      (pss_one (ps_if (pt_not (pt_val (pe_c c_law_right hr (by omega) (by rfl) (pa_cons (pv 10) (pa_cons (pv 3) pa_nil)))))
          (pss_one (ps_ret pe_bl))
          pss_nil)))
    (pss_one (ps_ret pe_bl)))))))))))))))), ?_⟩
    refine ⟨_, rfl, a, ns, rfl, hS, hlen, fun H0 t T0 => ?_⟩
    refine ⟨_, rfl, H, t, 0, rfl, T0, by decide, fun Ba Ha p bs Na l2 l12 h10 hsb => ?_⟩
    have Ta := Na.tp
    have hpa := Na.at_
    have ls1 : bs.length ≤ 100 := by omega
    refine ⟨_, rfl, Ba, t, _, 4, rfl, Ta, by decide, by decide, by decide, fun Hb x Tb _ _ => ⟨rfl, ?_⟩⟩
    obtain ⟨nb, enb⟩ : ∃ nb, decide (V.int x = V.int 0) = nb := ⟨_, rfl⟩
    rw [enb]
    refine ⟨_, rfl, p, _, rfl, .inl (SqL.of (Tb.at hpa)), fun c0 hc0 => ?_⟩
    have sc0 := same_upd (o := .lst (bs.map nI)) hc0
    obtain ⟨d0, hd0, ok0, rw0⟩ := nums_dp10 (K := K) (a := c0) (ls := bs) (.inl upd_same : upd Hb c0 (.lst (bs.map nI)) c0 = some _ ∨ _) ls1 h10
    refine ⟨_, rfl, _, d0, nb, rfl, hd0, ok0, rw0, fun Hc sc => ⟨_, rfl, iteF ?_⟩⟩
    have Tc := (Tb.ext sc0).ext sc
    refine ⟨_, rfl, p, _, rfl, .inl ⟨SqL.of (Tc.at hpa), fun c1 hc1 => ?_⟩⟩
    have sc1 := same_upd (o := .tup (bs.map nI)) hc1
    obtain ⟨d1, hd1, ok1, rw1⟩ := nums_dp10 (K := K) (a := c1) (ls := bs) (.inr upd_same : _ ∨ upd Hc c1 (.tup (bs.map nI)) c1 = some _) ls1 h10
    refine ⟨_, d1, false, rfl, hd1, ok1, rw1, fun Hd sd' => ⟨_, rfl, iteF ?_⟩⟩
    have Td := (Tc.ext sc1).ext sd'
    refine ⟨_, rfl, p, bs, rfl, .inl (SqL.of (Td.at hpa)), ls1, h10, hsb, fun He pw ks m se hO hM hpw => ?_⟩
    obtain ⟨Be, ge, Te, up⟩ := (Td.ext se).grow
    have hpe := ge _ _ hpa
    have hpwe := up _ _ hpw (fun xs e => by cases e)
    refine ⟨4, rfl, by decide, by decide, for_range (n := 4) (fun i σ H' => ∃ (B : Hp) (v5 : Option V), σ = [some (.ref a), some (.ref t), some (.ref p), some (.bl nb), some (.ref pw), v5, none, none, none, none, none] ∧ Tp B H' t (200 + 20 * i) ∧ B p = some (.lst (bs.map nI)) ∧ B pw = some (.tup (((wrL ks bs.length).map (padTo m)).map V.str))) ⟨Be, none, rfl, Te.le (by omega), hpe, hpwe⟩ ?_ ?_⟩
    · rintro i σ H' hi ⟨B, v5, rfl, TT, hp, hpw⟩
      refine ⟨_, rfl, _, rfl, _, rfl, _, rfl, rfl, ?_⟩
      exact ⟨B, t, p, pw, _, m, bs, ks, _, rfl, TT, by omega, hp, l2, l12, h10, hsb, hO, hM, hpw, fun B2 H2 s2 T2 => ⟨_, rfl, iteF ⟨B2, _, rfl, T2.le (by omega), s2 _ _ hp, s2 _ _ hpw⟩⟩⟩
    clear Te up ge Td Tc Tb Ta hd0 hd1 hpwe hpe hpw se
    rintro σ Hf ⟨B, v5, rfl, T0', hp, _⟩
    refine ⟨_, rfl, _, rfl, p, _, rfl, .inl (SqL.of (T0'.at hp)), ?_⟩
    refine ⟨B, t, _, (bs.length : Int), by rw [List.length_map]; rfl, T0', by omega, by omega, by omega, fun H1 k T1 k0 k1 => ?_⟩
    obtain ⟨k, rfl⟩ := nat_of k0
    have hk : k < bs.length := by omega
    -- spoilt
    refine ⟨_, rfl, p, _, rfl, .inl (SqL.of (T1.at hp)), fun c0 hc0 => ?_⟩
    have T2 := T1.new (o := .lst (bs.map nI)) hc0
    have s2 := same_upd (o := .lst (bs.map nI)) (T1.isn hc0)
    have hp2 := s2 _ _ hp
    refine ⟨_, rfl, _, t, _, rfl, T2, by omega, fun B3 H3 v d sB T3 dv okd _ _ hn => ?_⟩
    have hp3 := sB _ _ hp2
    have g3 := sB _ _ upd_same
    refine ⟨_, rfl, _, rfl, c0, _, _, k, rfl, rfl, T3.at g3, ixN_nat (by rw [List.length_map]; omega), ?_⟩
    have T4 := T3.set (o' := .lst ((bs.map nI).set k v)) g3
    have dv4 : Dp K (upd B3 c0 (.lst ((bs.map nI).set k v))) v d := Dp.mono (same_out dif_same (dif_off upd_same)) _ _ dv
    have np0 : p ≠ c0 := ne_of_none (T1.at hp) hc0
    have hp4 : upd B3 c0 (.lst ((bs.map nI).set k v)) p = some (.lst (bs.map nI)) := by rw [upd_ne np0]; exact hp3
    have g4 : upd B3 c0 (.lst ((bs.map nI).set k v)) c0 = some (.lst ((bs.map nI).set k v)) := upd_same
    generalize upd B3 c0 (.lst ((bs.map nI).set k v)) = B4 at *
    -- less
    refine ⟨_, rfl, p, _, rfl, .inl (SqL.of (T4.at hp4)), fun c1 hc1 => ?_⟩
    have T5 := T4.new (o := .lst (bs.map nI)) hc1
    refine ⟨_, rfl, .inl ⟨rfl, _, SqL.of (T5.at upd_same)⟩, _, rfl, c1, _, k, k, _, rfl, rfl, T5.at upd_same, by omega, by omega, seqIx_nat (by rw [List.length_map]; omega), by rw [List.getElem?_map, List.getElem?_eq_getElem hk]; rfl, ?_⟩
    have T6 := T5.set (o' := .lst ((bs.map nI).eraseIdx k)) upd_same
    have s6 := (same_upd (o := .lst ((bs.map nI).eraseIdx k)) (T4.isn hc1))
    rw [upd_upd] at T6
    have g6 : upd B4 c1 (.lst ((bs.map nI).eraseIdx k)) c1 = some (.lst ((bs.map nI).eraseIdx k)) := upd_same
    generalize upd B4 c1 (.lst ((bs.map nI).eraseIdx k)) = B6 at *
    have hp6 := s6 _ _ hp4
    -- higher
    refine ⟨_, rfl, p, _, rfl, .inl (SqL.of (T6.at hp6)), fun c2 hc2 => ?_⟩
    have T7 := T6.new (o := .lst (bs.map nI)) hc2
    obtain ⟨hv, hv10, ehv⟩ : ∃ hv : Nat, hv ≤ 10 ∧ (V.int (if ((bs.getD k 0 : Nat) : Int) + 1 < 10 then ((bs.getD k 0 : Nat) : Int) + 1 else 10)) = nI hv := by
      by_cases z : ((bs.getD k 0 : Nat) : Int) + 1 < 10
      · exact ⟨bs.getD k 0 + 1, by omega, by rw [if_pos z]; rfl⟩
      · exact ⟨10, by omega, by rw [if_neg z]; rfl⟩
    refine ⟨_, rfl, _, rfl, c2, _, _, _, rfl, rfl, SqL.of (T7.at upd_same), at_num hk, _, _, rfl, rfl, _, _, rfl, _, rfl, _, rfl, c2, _, _, k, rfl, rfl, T7.at upd_same, ixN_nat (by rw [List.length_map]; omega), ?_⟩
    have T8 := T7.set (o' := .lst ((bs.map nI).set k (V.int (if ((bs.getD k 0 : Nat) : Int) + 1 < 10 then ((bs.getD k 0 : Nat) : Int) + 1 else 10)))) upd_same
    have s8 := (same_upd (o := .lst ((bs.map nI).set k (V.int (if ((bs.getD k 0 : Nat) : Int) + 1 < 10 then ((bs.getD k 0 : Nat) : Int) + 1 else 10)))) (T6.isn hc2))
    rw [upd_upd] at T8
    have g8 : upd B6 c2 (.lst ((bs.map nI).set k (V.int (if ((bs.getD k 0 : Nat) : Int) + 1 < 10 then ((bs.getD k 0 : Nat) : Int) + 1 else 10)))) c2 = some (.lst ((bs.set k hv).map nI)) := by
      rw [ehv, setN]
      exact upd_same
    generalize upd B6 c2 (.lst ((bs.map nI).set k (V.int (if ((bs.getD k 0 : Nat) : Int) + 1 < 10 then ((bs.getD k 0 : Nat) : Int) + 1 else 10)))) = B8 at *
    have h0 := s8 _ _ (s6 _ _ g4)
    have h1 := s8 _ _ g6
    have hp8 := s8 _ _ hp6
    have dv8 := Dp.mono (s6.trans s8) _ _ dv4
    clear dv4 hp6 hp4 hp3 g3 g4 g6 T7 T5 T4 T3 T6 T2 dv
    -- all values
    refine ⟨_, rfl, _, rfl, c0, _, rfl, .inl ⟨SqL.of (T8.at h0), fun u0 hu0 => ?_⟩⟩
    have T9 := T8.new (o := .tup ((bs.map nI).set k v)) hu0
    have s9 := same_upd (o := .tup ((bs.map nI).set k v)) (T8.isn hu0)
    refine ⟨_, rfl, _, rfl, c2, _, rfl, .inl ⟨SqL.of (T9.at (s9 _ _ g8)), fun u1 hu1 => ?_⟩⟩
    have T10 := T9.new (o := .tup ((bs.set k hv).map nI)) hu1
    have s10 := same_upd (o := .tup ((bs.set k hv).map nI)) (T9.isn hu1)
    refine ⟨_, rfl, _, t, _, rfl, T10, by omega, fun B11 H11 v2 d2 s11 T11 dv2 okd2 _ hr2 hn2 => ?_⟩
    have S11 := (s9.trans s10).trans s11
    refine ⟨szle (by show 0 ≤ 16777216; decide), fun u3 hu3 => ?_⟩
    have T13 := T11.new (o := .lst []) hu3
    have s13 := same_upd (o := .lst []) (T11.isn hu3)
    refine ⟨szle (by show 1 ≤ 16777216; decide), fun u4 hu4 => ?_⟩
    have T14 := T13.new (o := .tup [V.int 0]) hu4
    have s14 := same_upd (o := .tup [V.int 0]) (T13.isn hu4)
    refine ⟨szle (by show 2 ≤ 16777216; decide), fun u5 hu5 => ?_⟩
    have T15 := T14.new (o := .tup [V.int 0, V.int 0]) hu5
    have s15 := same_upd (o := .tup [V.int 0, V.int 0]) (T14.isn hu5)
    refine ⟨szle (by show 3 ≤ 16777216; decide), fun u6 hu6 => ?_⟩
    have T16 := T15.new (o := .lst [V.int 1, V.int 0, V.int 1]) hu6
    have s16 := same_upd (o := .lst [V.int 1, V.int 0, V.int 1]) (T15.isn hu6)
    have z14 := s15.trans s16
    have z13 := s14.trans z14
    have z11 := s13.trans z13
    have S := S11.trans z11
    obtain ⟨B16, eB⟩ : ∃ B16, upd (upd (upd (upd B11 u3 (.lst [])) u4 (.tup [V.int 0])) u5 (.tup [V.int 0, V.int 0])) u6 (.lst [V.int 1, V.int 0, V.int 1]) = B16 := ⟨_, rfl⟩
    rw [eB] at S T16 z11 z13 z14 s16
    have ls5 : bs.length ≤ 100000 := by omega
    have lset : ∀ n ∈ bs.set k hv, n ≤ 10 := mem_set_le h10 hv10
    have leras : ∀ n ∈ bs.eraseIdx k, n ≤ 10 := fun n hn => h10 n (List.mem_of_mem_eraseIdx hn)
    refine ⟨szle (by show 9 ≤ 16777216; decide), fun u7 hu7 => ?_⟩
    have s17 := same_upd (o := .lst [.ref c0, .ref u0, .ref c1, .ref u1, v2, .ref u3, .ref u4, .ref u5, .ref u6]) hu7
    have all : ∀ v' ∈ [V.ref c0, .ref u0, .ref c1, .ref u1, v2, .ref u3, .ref u4, .ref u5, .ref u6], VOk K B16 v' := by
      simp only [List.forall_mem_cons]
      refine ⟨.no (spoilt_dp (.inl (S _ _ h0)) hk (Dp.mono S _ _ dv8) okd hn ls5), .no (spoilt_dp (.inr ((s10.trans (s11.trans z11)) _ _ upd_same)) hk (Dp.mono S _ _ dv8) okd hn ls5), nums_dp10 (.inl (by rw [← eraN]; exact S _ _ h1)) (by rw [List.length_eraseIdx]; split <;> omega) leras, nums_dp10 (.inr ((s11.trans z11) _ _ upd_same)) (by rw [List.length_set]; exact ls1) lset, ⟨d2, Dp.mono (dif_same.trans z11) _ _ dv2, okD_up okd2, fun z => ⟨Nat.le_trans (hr2 z).1 (by decide), (hr2 z).2.1⟩⟩, nums_dp10 (ls := []) (.inl (z13 _ _ upd_same)) (by decide) (fun n hn => by cases hn), nums_dp10 (ls := [0]) (.inr (z14 _ _ upd_same)) (by decide) (by decide), nums_dp10 (ls := [0, 0]) (.inr (s16 _ _ upd_same)) (by decide) (by decide), nums_dp10 (ls := [1, 0, 1]) (.inl (by rw [← eB]; exact upd_same)) (by decide) (by decide), fun v hv => by cases hv⟩
    have s16H := T16.same
    refine ⟨u7, rfl, ⟨_, SqL.of upd_same⟩, for_list (K := K) (a := u7) (xs := [V.ref c0, .ref u0, .ref c1, .ref u1, v2, .ref u3, .ref u4, .ref u5, .ref u6]) (fun i σ H' => ∃ v8, σ = [some (.ref a), some (.ref t), some (.ref p), some (.bl nb), some (.ref pw), v5, some (.int (k : Int)), some (.ref c0), some (.ref c1), some (.ref c2), v8] ∧ Same B16 H' ∧ SqL K H' u7 [V.ref c0, .ref u0, .ref c1, .ref u1, v2, .ref u3, .ref u4, .ref u5, .ref u6]) ⟨none, rfl, s16H.trans s17, SqL.of upd_same⟩ (fun i σ H' _ h => by obtain ⟨_, _, _, h⟩ := h; exact h) ?_ ?_⟩
    · rintro i x σ H' hi ⟨v8, rfl, sm, hS⟩
      obtain ⟨dx, hdx, okx, hrx⟩ := (all x (List.mem_of_getElem? hi)).mono sm
      exact ⟨_, rfl, _, rfl, x, dx, nb, rfl, hdx, okx, hrx, fun H2 s2 => ⟨_, rfl, iteF ⟨_, rfl, sm.trans s2, s2.seq hS⟩⟩⟩
    · rintro σ H' ⟨v8, rfl, sm, hS⟩
      exact q H'
end


abbrev spLaw := spAsks
section
variable {P : Program} {w : World} {K : PySem.W.Frag} {mg : Str → Option Value} {base : Heap} {C_Breaker : Addr}
theorem ok_law {f : Addr} {fd : FuncData} (F : Fun K "law" "law" s_law f fd) (T : Txt K mg C_Breaker) (c_law_asks : Cal P w K mg base 17 "_law_asks" (spAsks K)) : FnOk P w K mg base CX0 18 f fd ["script"] (spLaw K) := by
  refine F.ok sc_law (fun vs H Q E h => ?_) (fun cdv A outer s H vs Q E hr h => ?_)
  · obtain ⟨a, ns, rfl, _⟩ := h
    rfl
  · obtain ⟨a, ns, rfl, hS, hlen, q⟩ := h
    refine ⟨_, (pss_one (ps_try_thru0
      (pss_one (ps_ret (pe_c c_law_asks hr (by omega) (by rfl) (pa_cons (pv 0) pa_nil)))))), ?_⟩
    exact ⟨_, rfl, a, ns, rfl, hS, hlen, fun H' => q H'⟩
end

theorem all_mk {l : PySem.W.OpenLaw} {w : World} {K : PySem.W.Frag} {h : Heap} {mg : Str → Option Value} {fa f_is_integer f_is_number f_is_bit f_is_sequence f_are_numbers f_check_budgets f_can_keep f_check_bit f_in_order f_with_less f_check_breakable f_broken_on f_sides_of f_Breaker___init__ f_Breaker_answer f_write_sides f_worst_language f_law_tape f_law_draw f_law_same f_law_copy f_law_stranger f_law_budgets f_law_rows f_law_told f_law_breaks f_law_right f_law_breaker_right f_law_asks f_law C_InvalidNumber C_InvalidBudgets C_Breaker : Addr} (X : K.In h) (G : h.Ns mainGlobals mg) (hfa : mg "law" = some (.ref fa))
    {nm_InvalidNumber qn_InvalidNumber : Str} {N_InvalidNumber B_InvalidNumber : Addr} {bs_InvalidNumber sub_InvalidNumber : List Value} {sn_InvalidNumber : List Str} {ab_InvalidNumber : Bool} {col_InvalidNumber : Option Bool} {dd_InvalidNumber : Option Addr} {m0_InvalidNumber m1_InvalidNumber m2_InvalidNumber m3_InvalidNumber m5_InvalidNumber : Option Value} {oc_InvalidNumber dc_InvalidNumber pm_InvalidNumber ct_InvalidNumber ccl_InvalidNumber cl_InvalidNumber : Value} {od_InvalidNumber an_InvalidNumber cdd_InvalidNumber cld_InvalidNumber : Option Addr} {sl_InvalidNumber ccs_InvalidNumber csl_InvalidNumber : Array (Option Value)} {f_InvalidNumber cda_InvalidNumber cc_InvalidNumber : Addr} {vs_InvalidNumber : Array Value} {file_InvalidNumber : Str} {tf_InvalidNumber : Tok}
    {nm_InvalidBudgets qn_InvalidBudgets : Str} {N_InvalidBudgets B_InvalidBudgets : Addr} {bs_InvalidBudgets sub_InvalidBudgets : List Value} {sn_InvalidBudgets : List Str} {ab_InvalidBudgets : Bool} {col_InvalidBudgets : Option Bool} {dd_InvalidBudgets : Option Addr} {m0_InvalidBudgets m1_InvalidBudgets m2_InvalidBudgets m3_InvalidBudgets m5_InvalidBudgets : Option Value} {oc_InvalidBudgets dc_InvalidBudgets pm_InvalidBudgets ct_InvalidBudgets ccl_InvalidBudgets cl_InvalidBudgets : Value} {od_InvalidBudgets an_InvalidBudgets cdd_InvalidBudgets cld_InvalidBudgets : Option Addr} {sl_InvalidBudgets ccs_InvalidBudgets csl_InvalidBudgets : Array (Option Value)} {f_InvalidBudgets cda_InvalidBudgets cc_InvalidBudgets : Addr} {vs_InvalidBudgets : Array Value} {file_InvalidBudgets : Str} {tf_InvalidBudgets : Tok}
    {od_is_integer an_is_integer : Option Addr} {sl_is_integer : Array (Option Value)} {oc_is_integer kV_is_integer dc_is_integer pm_is_integer cd_is_integer ct_is_integer : Value}
    {od_is_number an_is_number : Option Addr} {sl_is_number : Array (Option Value)} {oc_is_number kV_is_number dc_is_number pm_is_number cd_is_number ct_is_number : Value}
    {od_is_bit an_is_bit : Option Addr} {sl_is_bit : Array (Option Value)} {oc_is_bit kV_is_bit dc_is_bit pm_is_bit cd_is_bit ct_is_bit : Value}
    {od_is_sequence an_is_sequence : Option Addr} {sl_is_sequence : Array (Option Value)} {oc_is_sequence kV_is_sequence dc_is_sequence pm_is_sequence cd_is_sequence ct_is_sequence : Value}
    {od_are_numbers an_are_numbers : Option Addr} {sl_are_numbers : Array (Option Value)} {oc_are_numbers kV_are_numbers dc_are_numbers pm_are_numbers cd_are_numbers ct_are_numbers : Value}
    {od_check_budgets an_check_budgets : Option Addr} {sl_check_budgets : Array (Option Value)} {oc_check_budgets kV_check_budgets dc_check_budgets pm_check_budgets cd_check_budgets ct_check_budgets : Value}
    {od_can_keep an_can_keep : Option Addr} {sl_can_keep : Array (Option Value)} {oc_can_keep kV_can_keep dc_can_keep pm_can_keep cd_can_keep ct_can_keep : Value}
    {od_check_bit an_check_bit : Option Addr} {sl_check_bit : Array (Option Value)} {oc_check_bit kV_check_bit dc_check_bit pm_check_bit cd_check_bit ct_check_bit : Value}
    {od_in_order an_in_order : Option Addr} {sl_in_order : Array (Option Value)} {oc_in_order kV_in_order dc_in_order pm_in_order cd_in_order ct_in_order : Value}
    {od_with_less an_with_less : Option Addr} {sl_with_less : Array (Option Value)} {oc_with_less kV_with_less dc_with_less pm_with_less cd_with_less ct_with_less : Value}
    {od_check_breakable an_check_breakable : Option Addr} {sl_check_breakable : Array (Option Value)} {oc_check_breakable kV_check_breakable dc_check_breakable pm_check_breakable cd_check_breakable ct_check_breakable : Value}
    {od_broken_on an_broken_on : Option Addr} {sl_broken_on : Array (Option Value)} {oc_broken_on kV_broken_on dc_broken_on pm_broken_on cd_broken_on ct_broken_on : Value}
    {od_sides_of an_sides_of : Option Addr} {sl_sides_of : Array (Option Value)} {oc_sides_of kV_sides_of dc_sides_of pm_sides_of cd_sides_of ct_sides_of : Value}
    {od_Breaker___init__ an_Breaker___init__ : Option Addr} {sl_Breaker___init__ : Array (Option Value)} {oc_Breaker___init__ kV_Breaker___init__ dc_Breaker___init__ pm_Breaker___init__ cd_Breaker___init__ ct_Breaker___init__ : Value}
    {od_Breaker_answer an_Breaker_answer : Option Addr} {sl_Breaker_answer : Array (Option Value)} {oc_Breaker_answer kV_Breaker_answer dc_Breaker_answer pm_Breaker_answer cd_Breaker_answer ct_Breaker_answer : Value}
    {od_write_sides an_write_sides : Option Addr} {sl_write_sides : Array (Option Value)} {oc_write_sides kV_write_sides dc_write_sides pm_write_sides cd_write_sides ct_write_sides : Value}
    {od_worst_language an_worst_language : Option Addr} {sl_worst_language : Array (Option Value)} {oc_worst_language kV_worst_language dc_worst_language pm_worst_language cd_worst_language ct_worst_language : Value}
    {od_law_tape an_law_tape : Option Addr} {sl_law_tape : Array (Option Value)} {oc_law_tape kV_law_tape dc_law_tape pm_law_tape cd_law_tape ct_law_tape : Value}
    {od_law_draw an_law_draw : Option Addr} {sl_law_draw : Array (Option Value)} {oc_law_draw kV_law_draw dc_law_draw pm_law_draw cd_law_draw ct_law_draw : Value}
    {od_law_same an_law_same : Option Addr} {sl_law_same : Array (Option Value)} {oc_law_same kV_law_same dc_law_same pm_law_same cd_law_same ct_law_same : Value}
    {od_law_copy an_law_copy : Option Addr} {sl_law_copy : Array (Option Value)} {oc_law_copy kV_law_copy dc_law_copy pm_law_copy cd_law_copy ct_law_copy : Value}
    {od_law_stranger an_law_stranger : Option Addr} {sl_law_stranger : Array (Option Value)} {oc_law_stranger kV_law_stranger dc_law_stranger pm_law_stranger cd_law_stranger ct_law_stranger : Value}
    {od_law_budgets an_law_budgets : Option Addr} {sl_law_budgets : Array (Option Value)} {oc_law_budgets kV_law_budgets dc_law_budgets pm_law_budgets cd_law_budgets ct_law_budgets : Value}
    {od_law_rows an_law_rows : Option Addr} {sl_law_rows : Array (Option Value)} {oc_law_rows kV_law_rows dc_law_rows pm_law_rows cd_law_rows ct_law_rows : Value}
    {od_law_told an_law_told : Option Addr} {sl_law_told : Array (Option Value)} {oc_law_told kV_law_told dc_law_told pm_law_told cd_law_told ct_law_told : Value}
    {od_law_breaks an_law_breaks : Option Addr} {sl_law_breaks : Array (Option Value)} {oc_law_breaks kV_law_breaks dc_law_breaks pm_law_breaks cd_law_breaks ct_law_breaks : Value}
    {od_law_right an_law_right : Option Addr} {sl_law_right : Array (Option Value)} {oc_law_right kV_law_right dc_law_right pm_law_right cd_law_right ct_law_right : Value}
    {od_law_breaker_right an_law_breaker_right : Option Addr} {sl_law_breaker_right : Array (Option Value)} {oc_law_breaker_right kV_law_breaker_right dc_law_breaker_right pm_law_breaker_right cd_law_breaker_right ct_law_breaker_right : Value}
    {od_law_asks an_law_asks : Option Addr} {sl_law_asks : Array (Option Value)} {oc_law_asks kV_law_asks dc_law_asks pm_law_asks cd_law_asks ct_law_asks : Value}
    {od_law an_law : Option Addr} {sl_law : Array (Option Value)} {oc_law kV_law dc_law pm_law cd_law ct_law : Value}
    (aC_Breaker : PySem.W.nsIn K mainGlobals "Breaker" = some (some (.ref C_Breaker)))
    (xgC_InvalidNumber : PySem.W.nsIn K mainGlobals "InvalidNumber" = some (some (.ref C_InvalidNumber)))
    (xxL_InvalidNumber : K.lookup C_InvalidNumber = some (excClassObj nm_InvalidNumber qn_InvalidNumber C_InvalidNumber N_InvalidNumber bs_InvalidNumber [.ref B_InvalidNumber, .type "ValueError", .type "Exception", .type "BaseException", .type "object"] true sn_InvalidNumber sub_InvalidNumber ab_InvalidNumber col_InvalidNumber dd_InvalidNumber m0_InvalidNumber m1_InvalidNumber m2_InvalidNumber m3_InvalidNumber m5_InvalidNumber "ValueError.__new__"))
    (xsa_InvalidNumber : PySem.W.findIn K (.ref C_InvalidNumber) "__setattr__" = some (some (.builtin "object.__setattr__")))
    (xga_InvalidNumber : PySem.W.findIn K (.ref C_InvalidNumber) "__getattribute__" = some (some (.builtin "BaseException.__getattribute__")))
    (xgg_InvalidNumber : PySem.W.findIn K (.ref C_InvalidNumber) "__getattr__" = some none)
    (xiC_InvalidNumber : PySem.W.findIn K (.ref C_InvalidNumber) "__init__" = some (some (.ref f_InvalidNumber)))
    (xtI_InvalidNumber : PySem.W.typeIn K (.ref f_InvalidNumber) = some (.type "function"))
    (xkC_InvalidNumber : PySem.W.keepIn K (.ref C_InvalidNumber) = true)
    (xeC_InvalidNumber : PySem.W.subIn K (.ref C_InvalidNumber) (.type "BaseException") = some true)
    (xvC_InvalidNumber : PySem.W.subIn K (.ref C_InvalidNumber) (.type "ValueError") = some true)
    (xse_InvalidNumber : PySem.W.mroIn K C_InvalidNumber (.ref C_InvalidNumber) = some true)
    (xtC_InvalidNumber : PySem.W.typeIn K (.ref C_InvalidNumber) = some (.type "type"))
    (xhC_InvalidNumber : PySem.W.hasDictIn K C_InvalidNumber = true)
    (xcC_InvalidNumber : PySem.W.isClsIn K C_InvalidNumber = true)
    (xsC_InvalidNumber : PySem.W.subIn K (.ref C_InvalidNumber) (.ref C_InvalidNumber) = some true)
    (xlI_InvalidNumber : K.lookup f_InvalidNumber = some ⟨oc_InvalidNumber, od_InvalidNumber, .func (PySem.W.ksFn "__init__" "InvalidNumber.__init__" (defArgs s_InvalidNumber___init__) (defBody s_InvalidNumber___init__) (defScope s_InvalidNumber___init__) .none .none dc_InvalidNumber pm_InvalidNumber an_InvalidNumber (.ref cda_InvalidNumber) ct_InvalidNumber cc_InvalidNumber), sl_InvalidNumber⟩)
    (xcI_InvalidNumber : PySem.W.codeIn K (.ref cda_InvalidNumber) "InvalidNumber.__init__" = true)
    (xcd_InvalidNumber : K.lookup cda_InvalidNumber = some ⟨ccl_InvalidNumber, cdd_InvalidNumber, .fields vs_InvalidNumber, ccs_InvalidNumber⟩)
    (xcc_InvalidNumber : K.lookup cc_InvalidNumber = some ⟨cl_InvalidNumber, cld_InvalidNumber, .cell (some (.ref C_InvalidNumber)), csl_InvalidNumber⟩)
    (xfi_InvalidNumber : vs_InvalidNumber[2]? = some (.str file_InvalidNumber tf_InvalidNumber))
    (xff_InvalidNumber : ((l.prog.main.file : Str) == file_InvalidNumber) = true)
    (xup_InvalidNumber : PySem.W.ks_superIn K C_InvalidNumber C_InvalidNumber "__init__" = some (some (.builtin "ValueError.__init__")))
    (xn_InvalidNumber_number : PySem.W.findIn K (.ref C_InvalidNumber) "number" = some none)
    (xgC_InvalidBudgets : PySem.W.nsIn K mainGlobals "InvalidBudgets" = some (some (.ref C_InvalidBudgets)))
    (xxL_InvalidBudgets : K.lookup C_InvalidBudgets = some (excClassObj nm_InvalidBudgets qn_InvalidBudgets C_InvalidBudgets N_InvalidBudgets bs_InvalidBudgets [.ref B_InvalidBudgets, .type "ValueError", .type "Exception", .type "BaseException", .type "object"] true sn_InvalidBudgets sub_InvalidBudgets ab_InvalidBudgets col_InvalidBudgets dd_InvalidBudgets m0_InvalidBudgets m1_InvalidBudgets m2_InvalidBudgets m3_InvalidBudgets m5_InvalidBudgets "ValueError.__new__"))
    (xsa_InvalidBudgets : PySem.W.findIn K (.ref C_InvalidBudgets) "__setattr__" = some (some (.builtin "object.__setattr__")))
    (xga_InvalidBudgets : PySem.W.findIn K (.ref C_InvalidBudgets) "__getattribute__" = some (some (.builtin "BaseException.__getattribute__")))
    (xgg_InvalidBudgets : PySem.W.findIn K (.ref C_InvalidBudgets) "__getattr__" = some none)
    (xiC_InvalidBudgets : PySem.W.findIn K (.ref C_InvalidBudgets) "__init__" = some (some (.ref f_InvalidBudgets)))
    (xtI_InvalidBudgets : PySem.W.typeIn K (.ref f_InvalidBudgets) = some (.type "function"))
    (xkC_InvalidBudgets : PySem.W.keepIn K (.ref C_InvalidBudgets) = true)
    (xeC_InvalidBudgets : PySem.W.subIn K (.ref C_InvalidBudgets) (.type "BaseException") = some true)
    (xvC_InvalidBudgets : PySem.W.subIn K (.ref C_InvalidBudgets) (.type "ValueError") = some true)
    (xse_InvalidBudgets : PySem.W.mroIn K C_InvalidBudgets (.ref C_InvalidBudgets) = some true)
    (xtC_InvalidBudgets : PySem.W.typeIn K (.ref C_InvalidBudgets) = some (.type "type"))
    (xhC_InvalidBudgets : PySem.W.hasDictIn K C_InvalidBudgets = true)
    (xcC_InvalidBudgets : PySem.W.isClsIn K C_InvalidBudgets = true)
    (xsC_InvalidBudgets : PySem.W.subIn K (.ref C_InvalidBudgets) (.ref C_InvalidBudgets) = some true)
    (xlI_InvalidBudgets : K.lookup f_InvalidBudgets = some ⟨oc_InvalidBudgets, od_InvalidBudgets, .func (PySem.W.ksFn "__init__" "InvalidBudgets.__init__" (defArgs s_InvalidBudgets___init__) (defBody s_InvalidBudgets___init__) (defScope s_InvalidBudgets___init__) .none .none dc_InvalidBudgets pm_InvalidBudgets an_InvalidBudgets (.ref cda_InvalidBudgets) ct_InvalidBudgets cc_InvalidBudgets), sl_InvalidBudgets⟩)
    (xcI_InvalidBudgets : PySem.W.codeIn K (.ref cda_InvalidBudgets) "InvalidBudgets.__init__" = true)
    (xcd_InvalidBudgets : K.lookup cda_InvalidBudgets = some ⟨ccl_InvalidBudgets, cdd_InvalidBudgets, .fields vs_InvalidBudgets, ccs_InvalidBudgets⟩)
    (xcc_InvalidBudgets : K.lookup cc_InvalidBudgets = some ⟨cl_InvalidBudgets, cld_InvalidBudgets, .cell (some (.ref C_InvalidBudgets)), csl_InvalidBudgets⟩)
    (xfi_InvalidBudgets : vs_InvalidBudgets[2]? = some (.str file_InvalidBudgets tf_InvalidBudgets))
    (xff_InvalidBudgets : ((l.prog.main.file : Str) == file_InvalidBudgets) = true)
    (xup_InvalidBudgets : PySem.W.ks_superIn K C_InvalidBudgets C_InvalidBudgets "__init__" = some (some (.builtin "ValueError.__init__")))
    (xn_InvalidBudgets_budgets : PySem.W.findIn K (.ref C_InvalidBudgets) "budgets" = some none)
    (xsu : PySem.W.nsIn K mainGlobals "super" = some none)
    (xop : PySem.W.nsIn K cStatics "thirdparty.any" = some none)
    (xtp : (l.prog.main.scope.names.lookup ("super" : Str)).isSome = false)
    (a_is_integer : PySem.W.nsIn K mainGlobals "is_integer" = some (some (.ref f_is_integer)))
    (l_is_integer : K.lookup f_is_integer = some ⟨oc_is_integer, od_is_integer, .func (PySem.W.fnOf "is_integer" "is_integer" (defArgs s_is_integer) (defBody s_is_integer) (defScope s_is_integer) .none kV_is_integer dc_is_integer pm_is_integer an_is_integer cd_is_integer ct_is_integer), sl_is_integer⟩)
    (c_is_integer : PySem.W.codeIn K cd_is_integer "is_integer" = true)
    (k_is_integer : PySem.W.keepIn K (.ref f_is_integer) = true)
    (a_is_number : PySem.W.nsIn K mainGlobals "is_number" = some (some (.ref f_is_number)))
    (l_is_number : K.lookup f_is_number = some ⟨oc_is_number, od_is_number, .func (PySem.W.fnOf "is_number" "is_number" (defArgs s_is_number) (defBody s_is_number) (defScope s_is_number) .none kV_is_number dc_is_number pm_is_number an_is_number cd_is_number ct_is_number), sl_is_number⟩)
    (c_is_number : PySem.W.codeIn K cd_is_number "is_number" = true)
    (k_is_number : PySem.W.keepIn K (.ref f_is_number) = true)
    (a_is_bit : PySem.W.nsIn K mainGlobals "is_bit" = some (some (.ref f_is_bit)))
    (l_is_bit : K.lookup f_is_bit = some ⟨oc_is_bit, od_is_bit, .func (PySem.W.fnOf "is_bit" "is_bit" (defArgs s_is_bit) (defBody s_is_bit) (defScope s_is_bit) .none kV_is_bit dc_is_bit pm_is_bit an_is_bit cd_is_bit ct_is_bit), sl_is_bit⟩)
    (c_is_bit : PySem.W.codeIn K cd_is_bit "is_bit" = true)
    (k_is_bit : PySem.W.keepIn K (.ref f_is_bit) = true)
    (a_is_sequence : PySem.W.nsIn K mainGlobals "is_sequence" = some (some (.ref f_is_sequence)))
    (l_is_sequence : K.lookup f_is_sequence = some ⟨oc_is_sequence, od_is_sequence, .func (PySem.W.fnOf "is_sequence" "is_sequence" (defArgs s_is_sequence) (defBody s_is_sequence) (defScope s_is_sequence) .none kV_is_sequence dc_is_sequence pm_is_sequence an_is_sequence cd_is_sequence ct_is_sequence), sl_is_sequence⟩)
    (c_is_sequence : PySem.W.codeIn K cd_is_sequence "is_sequence" = true)
    (k_is_sequence : PySem.W.keepIn K (.ref f_is_sequence) = true)
    (a_are_numbers : PySem.W.nsIn K mainGlobals "are_numbers" = some (some (.ref f_are_numbers)))
    (l_are_numbers : K.lookup f_are_numbers = some ⟨oc_are_numbers, od_are_numbers, .func (PySem.W.fnOf "are_numbers" "are_numbers" (defArgs s_are_numbers) (defBody s_are_numbers) (defScope s_are_numbers) .none kV_are_numbers dc_are_numbers pm_are_numbers an_are_numbers cd_are_numbers ct_are_numbers), sl_are_numbers⟩)
    (c_are_numbers : PySem.W.codeIn K cd_are_numbers "are_numbers" = true)
    (k_are_numbers : PySem.W.keepIn K (.ref f_are_numbers) = true)
    (a_check_budgets : PySem.W.nsIn K mainGlobals "check_budgets" = some (some (.ref f_check_budgets)))
    (l_check_budgets : K.lookup f_check_budgets = some ⟨oc_check_budgets, od_check_budgets, .func (PySem.W.fnOf "check_budgets" "check_budgets" (defArgs s_check_budgets) (defBody s_check_budgets) (defScope s_check_budgets) .none kV_check_budgets dc_check_budgets pm_check_budgets an_check_budgets cd_check_budgets ct_check_budgets), sl_check_budgets⟩)
    (c_check_budgets : PySem.W.codeIn K cd_check_budgets "check_budgets" = true)
    (k_check_budgets : PySem.W.keepIn K (.ref f_check_budgets) = true)
    (a_can_keep : PySem.W.nsIn K mainGlobals "can_keep" = some (some (.ref f_can_keep)))
    (l_can_keep : K.lookup f_can_keep = some ⟨oc_can_keep, od_can_keep, .func (PySem.W.fnOf "can_keep" "can_keep" (defArgs s_can_keep) (defBody s_can_keep) (defScope s_can_keep) .none kV_can_keep dc_can_keep pm_can_keep an_can_keep cd_can_keep ct_can_keep), sl_can_keep⟩)
    (c_can_keep : PySem.W.codeIn K cd_can_keep "can_keep" = true)
    (k_can_keep : PySem.W.keepIn K (.ref f_can_keep) = true)
    (a_check_bit : PySem.W.nsIn K mainGlobals "check_bit" = some (some (.ref f_check_bit)))
    (l_check_bit : K.lookup f_check_bit = some ⟨oc_check_bit, od_check_bit, .func (PySem.W.fnOf "check_bit" "check_bit" (defArgs s_check_bit) (defBody s_check_bit) (defScope s_check_bit) .none kV_check_bit dc_check_bit pm_check_bit an_check_bit cd_check_bit ct_check_bit), sl_check_bit⟩)
    (c_check_bit : PySem.W.codeIn K cd_check_bit "check_bit" = true)
    (k_check_bit : PySem.W.keepIn K (.ref f_check_bit) = true)
    (a_in_order : PySem.W.nsIn K mainGlobals "_in_order" = some (some (.ref f_in_order)))
    (l_in_order : K.lookup f_in_order = some ⟨oc_in_order, od_in_order, .func (PySem.W.fnOf "_in_order" "_in_order" (defArgs s_in_order) (defBody s_in_order) (defScope s_in_order) .none kV_in_order dc_in_order pm_in_order an_in_order cd_in_order ct_in_order), sl_in_order⟩)
    (c_in_order : PySem.W.codeIn K cd_in_order "_in_order" = true)
    (k_in_order : PySem.W.keepIn K (.ref f_in_order) = true)
    (a_with_less : PySem.W.nsIn K mainGlobals "_with_less" = some (some (.ref f_with_less)))
    (l_with_less : K.lookup f_with_less = some ⟨oc_with_less, od_with_less, .func (PySem.W.fnOf "_with_less" "_with_less" (defArgs s_with_less) (defBody s_with_less) (defScope s_with_less) .none kV_with_less dc_with_less pm_with_less an_with_less cd_with_less ct_with_less), sl_with_less⟩)
    (c_with_less : PySem.W.codeIn K cd_with_less "_with_less" = true)
    (k_with_less : PySem.W.keepIn K (.ref f_with_less) = true)
    (a_check_breakable : PySem.W.nsIn K mainGlobals "_check_breakable" = some (some (.ref f_check_breakable)))
    (l_check_breakable : K.lookup f_check_breakable = some ⟨oc_check_breakable, od_check_breakable, .func (PySem.W.fnOf "_check_breakable" "_check_breakable" (defArgs s_check_breakable) (defBody s_check_breakable) (defScope s_check_breakable) .none kV_check_breakable dc_check_breakable pm_check_breakable an_check_breakable cd_check_breakable ct_check_breakable), sl_check_breakable⟩)
    (c_check_breakable : PySem.W.codeIn K cd_check_breakable "_check_breakable" = true)
    (k_check_breakable : PySem.W.keepIn K (.ref f_check_breakable) = true)
    (a_broken_on : PySem.W.nsIn K mainGlobals "_broken_on" = some (some (.ref f_broken_on)))
    (l_broken_on : K.lookup f_broken_on = some ⟨oc_broken_on, od_broken_on, .func (PySem.W.fnOf "_broken_on" "_broken_on" (defArgs s_broken_on) (defBody s_broken_on) (defScope s_broken_on) .none kV_broken_on dc_broken_on pm_broken_on an_broken_on cd_broken_on ct_broken_on), sl_broken_on⟩)
    (c_broken_on : PySem.W.codeIn K cd_broken_on "_broken_on" = true)
    (k_broken_on : PySem.W.keepIn K (.ref f_broken_on) = true)
    (a_sides_of : PySem.W.nsIn K mainGlobals "_sides_of" = some (some (.ref f_sides_of)))
    (l_sides_of : K.lookup f_sides_of = some ⟨oc_sides_of, od_sides_of, .func (PySem.W.fnOf "_sides_of" "_sides_of" (defArgs s_sides_of) (defBody s_sides_of) (defScope s_sides_of) .none kV_sides_of dc_sides_of pm_sides_of an_sides_of cd_sides_of ct_sides_of), sl_sides_of⟩)
    (c_sides_of : PySem.W.codeIn K cd_sides_of "_sides_of" = true)
    (k_sides_of : PySem.W.keepIn K (.ref f_sides_of) = true)
    (a_Breaker___init__ : PySem.W.findIn K (.ref C_Breaker) "__init__" = some (some (.ref f_Breaker___init__)))
    (i_Breaker___init__ : PySem.W.isFn K (.ref f_Breaker___init__) = true)
    (l_Breaker___init__ : K.lookup f_Breaker___init__ = some ⟨oc_Breaker___init__, od_Breaker___init__, .func (PySem.W.fnOf "__init__" "Breaker.__init__" (defArgs s_Breaker___init__) (defBody s_Breaker___init__) (defScope s_Breaker___init__) .none kV_Breaker___init__ dc_Breaker___init__ pm_Breaker___init__ an_Breaker___init__ cd_Breaker___init__ ct_Breaker___init__), sl_Breaker___init__⟩)
    (c_Breaker___init__ : PySem.W.codeIn K cd_Breaker___init__ "Breaker.__init__" = true)
    (k_Breaker___init__ : PySem.W.keepIn K (.ref f_Breaker___init__) = true)
    (a_Breaker_answer : PySem.W.findIn K (.ref C_Breaker) "answer" = some (some (.ref f_Breaker_answer)))
    (i_Breaker_answer : PySem.W.isFn K (.ref f_Breaker_answer) = true)
    (l_Breaker_answer : K.lookup f_Breaker_answer = some ⟨oc_Breaker_answer, od_Breaker_answer, .func (PySem.W.fnOf "answer" "Breaker.answer" (defArgs s_Breaker_answer) (defBody s_Breaker_answer) (defScope s_Breaker_answer) .none kV_Breaker_answer dc_Breaker_answer pm_Breaker_answer an_Breaker_answer cd_Breaker_answer ct_Breaker_answer), sl_Breaker_answer⟩)
    (c_Breaker_answer : PySem.W.codeIn K cd_Breaker_answer "Breaker.answer" = true)
    (k_Breaker_answer : PySem.W.keepIn K (.ref f_Breaker_answer) = true)
    (a_write_sides : PySem.W.nsIn K mainGlobals "_write_sides" = some (some (.ref f_write_sides)))
    (l_write_sides : K.lookup f_write_sides = some ⟨oc_write_sides, od_write_sides, .func (PySem.W.fnOf "_write_sides" "_write_sides" (defArgs s_write_sides) (defBody s_write_sides) (defScope s_write_sides) .none kV_write_sides dc_write_sides pm_write_sides an_write_sides cd_write_sides ct_write_sides), sl_write_sides⟩)
    (c_write_sides : PySem.W.codeIn K cd_write_sides "_write_sides" = true)
    (k_write_sides : PySem.W.keepIn K (.ref f_write_sides) = true)
    (a_worst_language : PySem.W.nsIn K mainGlobals "worst_language" = some (some (.ref f_worst_language)))
    (l_worst_language : K.lookup f_worst_language = some ⟨oc_worst_language, od_worst_language, .func (PySem.W.fnOf "worst_language" "worst_language" (defArgs s_worst_language) (defBody s_worst_language) (defScope s_worst_language) .none kV_worst_language dc_worst_language pm_worst_language an_worst_language cd_worst_language ct_worst_language), sl_worst_language⟩)
    (c_worst_language : PySem.W.codeIn K cd_worst_language "worst_language" = true)
    (k_worst_language : PySem.W.keepIn K (.ref f_worst_language) = true)
    (a_law_tape : PySem.W.nsIn K mainGlobals "_law_tape" = some (some (.ref f_law_tape)))
    (l_law_tape : K.lookup f_law_tape = some ⟨oc_law_tape, od_law_tape, .func (PySem.W.fnOf "_law_tape" "_law_tape" (defArgs s_law_tape) (defBody s_law_tape) (defScope s_law_tape) .none kV_law_tape dc_law_tape pm_law_tape an_law_tape cd_law_tape ct_law_tape), sl_law_tape⟩)
    (c_law_tape : PySem.W.codeIn K cd_law_tape "_law_tape" = true)
    (k_law_tape : PySem.W.keepIn K (.ref f_law_tape) = true)
    (a_law_draw : PySem.W.nsIn K mainGlobals "_law_draw" = some (some (.ref f_law_draw)))
    (l_law_draw : K.lookup f_law_draw = some ⟨oc_law_draw, od_law_draw, .func (PySem.W.fnOf "_law_draw" "_law_draw" (defArgs s_law_draw) (defBody s_law_draw) (defScope s_law_draw) .none kV_law_draw dc_law_draw pm_law_draw an_law_draw cd_law_draw ct_law_draw), sl_law_draw⟩)
    (c_law_draw : PySem.W.codeIn K cd_law_draw "_law_draw" = true)
    (k_law_draw : PySem.W.keepIn K (.ref f_law_draw) = true)
    (a_law_same : PySem.W.nsIn K mainGlobals "_law_same" = some (some (.ref f_law_same)))
    (l_law_same : K.lookup f_law_same = some ⟨oc_law_same, od_law_same, .func (PySem.W.fnOf "_law_same" "_law_same" (defArgs s_law_same) (defBody s_law_same) (defScope s_law_same) .none kV_law_same dc_law_same pm_law_same an_law_same cd_law_same ct_law_same), sl_law_same⟩)
    (c_law_same : PySem.W.codeIn K cd_law_same "_law_same" = true)
    (k_law_same : PySem.W.keepIn K (.ref f_law_same) = true)
    (a_law_copy : PySem.W.nsIn K mainGlobals "_law_copy" = some (some (.ref f_law_copy)))
    (l_law_copy : K.lookup f_law_copy = some ⟨oc_law_copy, od_law_copy, .func (PySem.W.fnOf "_law_copy" "_law_copy" (defArgs s_law_copy) (defBody s_law_copy) (defScope s_law_copy) .none kV_law_copy dc_law_copy pm_law_copy an_law_copy cd_law_copy ct_law_copy), sl_law_copy⟩)
    (c_law_copy : PySem.W.codeIn K cd_law_copy "_law_copy" = true)
    (k_law_copy : PySem.W.keepIn K (.ref f_law_copy) = true)
    (a_law_stranger : PySem.W.nsIn K mainGlobals "_law_stranger" = some (some (.ref f_law_stranger)))
    (l_law_stranger : K.lookup f_law_stranger = some ⟨oc_law_stranger, od_law_stranger, .func (PySem.W.fnOf "_law_stranger" "_law_stranger" (defArgs s_law_stranger) (defBody s_law_stranger) (defScope s_law_stranger) .none kV_law_stranger dc_law_stranger pm_law_stranger an_law_stranger cd_law_stranger ct_law_stranger), sl_law_stranger⟩)
    (c_law_stranger : PySem.W.codeIn K cd_law_stranger "_law_stranger" = true)
    (k_law_stranger : PySem.W.keepIn K (.ref f_law_stranger) = true)
    (a_law_budgets : PySem.W.nsIn K mainGlobals "_law_budgets" = some (some (.ref f_law_budgets)))
    (l_law_budgets : K.lookup f_law_budgets = some ⟨oc_law_budgets, od_law_budgets, .func (PySem.W.fnOf "_law_budgets" "_law_budgets" (defArgs s_law_budgets) (defBody s_law_budgets) (defScope s_law_budgets) .none kV_law_budgets dc_law_budgets pm_law_budgets an_law_budgets cd_law_budgets ct_law_budgets), sl_law_budgets⟩)
    (c_law_budgets : PySem.W.codeIn K cd_law_budgets "_law_budgets" = true)
    (k_law_budgets : PySem.W.keepIn K (.ref f_law_budgets) = true)
    (a_law_rows : PySem.W.nsIn K mainGlobals "_law_rows" = some (some (.ref f_law_rows)))
    (l_law_rows : K.lookup f_law_rows = some ⟨oc_law_rows, od_law_rows, .func (PySem.W.fnOf "_law_rows" "_law_rows" (defArgs s_law_rows) (defBody s_law_rows) (defScope s_law_rows) .none kV_law_rows dc_law_rows pm_law_rows an_law_rows cd_law_rows ct_law_rows), sl_law_rows⟩)
    (c_law_rows : PySem.W.codeIn K cd_law_rows "_law_rows" = true)
    (k_law_rows : PySem.W.keepIn K (.ref f_law_rows) = true)
    (a_law_told : PySem.W.nsIn K mainGlobals "_law_told" = some (some (.ref f_law_told)))
    (l_law_told : K.lookup f_law_told = some ⟨oc_law_told, od_law_told, .func (PySem.W.fnOf "_law_told" "_law_told" (defArgs s_law_told) (defBody s_law_told) (defScope s_law_told) .none kV_law_told dc_law_told pm_law_told an_law_told cd_law_told ct_law_told), sl_law_told⟩)
    (c_law_told : PySem.W.codeIn K cd_law_told "_law_told" = true)
    (k_law_told : PySem.W.keepIn K (.ref f_law_told) = true)
    (a_law_breaks : PySem.W.nsIn K mainGlobals "_law_breaks" = some (some (.ref f_law_breaks)))
    (l_law_breaks : K.lookup f_law_breaks = some ⟨oc_law_breaks, od_law_breaks, .func (PySem.W.fnOf "_law_breaks" "_law_breaks" (defArgs s_law_breaks) (defBody s_law_breaks) (defScope s_law_breaks) .none kV_law_breaks dc_law_breaks pm_law_breaks an_law_breaks cd_law_breaks ct_law_breaks), sl_law_breaks⟩)
    (c_law_breaks : PySem.W.codeIn K cd_law_breaks "_law_breaks" = true)
    (k_law_breaks : PySem.W.keepIn K (.ref f_law_breaks) = true)
    (a_law_right : PySem.W.nsIn K mainGlobals "_law_right" = some (some (.ref f_law_right)))
    (l_law_right : K.lookup f_law_right = some ⟨oc_law_right, od_law_right, .func (PySem.W.fnOf "_law_right" "_law_right" (defArgs s_law_right) (defBody s_law_right) (defScope s_law_right) .none kV_law_right dc_law_right pm_law_right an_law_right cd_law_right ct_law_right), sl_law_right⟩)
    (c_law_right : PySem.W.codeIn K cd_law_right "_law_right" = true)
    (k_law_right : PySem.W.keepIn K (.ref f_law_right) = true)
    (a_law_breaker_right : PySem.W.nsIn K mainGlobals "_law_breaker_right" = some (some (.ref f_law_breaker_right)))
    (l_law_breaker_right : K.lookup f_law_breaker_right = some ⟨oc_law_breaker_right, od_law_breaker_right, .func (PySem.W.fnOf "_law_breaker_right" "_law_breaker_right" (defArgs s_law_breaker_right) (defBody s_law_breaker_right) (defScope s_law_breaker_right) .none kV_law_breaker_right dc_law_breaker_right pm_law_breaker_right an_law_breaker_right cd_law_breaker_right ct_law_breaker_right), sl_law_breaker_right⟩)
    (c_law_breaker_right : PySem.W.codeIn K cd_law_breaker_right "_law_breaker_right" = true)
    (k_law_breaker_right : PySem.W.keepIn K (.ref f_law_breaker_right) = true)
    (a_law_asks : PySem.W.nsIn K mainGlobals "_law_asks" = some (some (.ref f_law_asks)))
    (l_law_asks : K.lookup f_law_asks = some ⟨oc_law_asks, od_law_asks, .func (PySem.W.fnOf "_law_asks" "_law_asks" (defArgs s_law_asks) (defBody s_law_asks) (defScope s_law_asks) .none kV_law_asks dc_law_asks pm_law_asks an_law_asks cd_law_asks ct_law_asks), sl_law_asks⟩)
    (c_law_asks : PySem.W.codeIn K cd_law_asks "_law_asks" = true)
    (k_law_asks : PySem.W.keepIn K (.ref f_law_asks) = true)
    (a_law : PySem.W.nsIn K mainGlobals "law" = some (some (.ref f_law)))
    (l_law : K.lookup f_law = some ⟨oc_law, od_law, .func (PySem.W.fnOf "law" "law" (defArgs s_law) (defBody s_law) (defScope s_law) .none kV_law dc_law pm_law an_law cd_law ct_law), sl_law⟩)
    (c_law : PySem.W.codeIn K cd_law "law" = true)
    (k_law : PySem.W.keepIn K (.ref f_law) = true)
    (z_super : PySem.W.nsIn K mainGlobals "super" = some none)
    (z_isinstance : PySem.W.nsIn K mainGlobals "isinstance" = some none)
    (z_int : PySem.W.nsIn K mainGlobals "int" = some none)
    (z_bool : PySem.W.nsIn K mainGlobals "bool" = some none)
    (z_tuple : PySem.W.nsIn K mainGlobals "tuple" = some none)
    (z_list : PySem.W.nsIn K mainGlobals "list" = some none)
    (z_all : PySem.W.nsIn K mainGlobals "all" = some none)
    (z_enumerate : PySem.W.nsIn K mainGlobals "enumerate" = some none)
    (z_sorted : PySem.W.nsIn K mainGlobals "sorted" = some none)
    (z_len : PySem.W.nsIn K mainGlobals "len" = some none)
    (z_min : PySem.W.nsIn K mainGlobals "min" = some none)
    (z_str : PySem.W.nsIn K mainGlobals "str" = some none)
    (z_zip : PySem.W.nsIn K mainGlobals "zip" = some none)
    (z_max : PySem.W.nsIn K mainGlobals "max" = some none)
    (z_abs : PySem.W.nsIn K mainGlobals "abs" = some none)
    (z_range : PySem.W.nsIn K mainGlobals "range" = some none)
    (z_any : PySem.W.nsIn K mainGlobals "any" = some none)
    (z_sum : PySem.W.nsIn K mainGlobals "sum" = some none)
    (cHn : PySem.W.specialIn K (.builtin "object.__class__") "__get__" = some (some (.builtin "getset_descriptor.__get__")))
    (cTk : PySem.W.takesIn K (.builtin "object.__class__") = some true)
    (breakerPg : PySem.W.plainGet K C_Breaker Str.empty = true)
    (breakerHd : PySem.W.hasDictIn K C_Breaker = true)
    (breakerPo : PySem.W.plainOver K C_Breaker = true)
    (breakerSa : PySem.W.findIn K (.ref C_Breaker) "__setattr__" = some (some (.builtin "object.__setattr__")))
    (breakerHa : PySem.W.findIn K (.ref C_Breaker) "__class__" = some (some (.builtin "object.__class__")))
    (breakerHm : PySem.W.mroIn K C_Breaker (.type "object") = some true)
    (breakerMk : PySem.W.makesIn K C_Breaker = true)
    (breakerKc : PySem.W.keepIn K (.ref C_Breaker) = true)
    (breakerN_broken : PySem.W.findIn K (.ref C_Breaker) "broken" = some none)
    (breakerN_row : PySem.W.findIn K (.ref C_Breaker) "row" = some none)
    (breakerN__living : PySem.W.findIn K (.ref C_Breaker) "_living" = some none)
    : ∃ fd : FuncData, (∀ (s : Shared) (v : Value), BindsTo s fd ⟨[v], []⟩ [("script", v)]) ∧ ∀ base : Heap, K.In base → base.Ns mainGlobals mg → FnOk l.prog w K mg base CX0 18 fa fd ["script"] (spLaw K) := by
  have e := hfa.symm.trans (PySem.W.mg_of X G a_law)
  cases e
  have T : Txt K mg C_Breaker := ⟨PySem.W.mg_none_of X G z_super, PySem.W.mg_none_of X G z_isinstance, PySem.W.mg_none_of X G z_int, PySem.W.mg_none_of X G z_bool, PySem.W.mg_none_of X G z_tuple, PySem.W.mg_none_of X G z_list, PySem.W.mg_none_of X G z_all, PySem.W.mg_none_of X G z_enumerate, PySem.W.mg_none_of X G z_sorted, PySem.W.mg_none_of X G z_len, PySem.W.mg_none_of X G z_min, PySem.W.mg_none_of X G z_str, PySem.W.mg_none_of X G z_zip, PySem.W.mg_none_of X G z_max, PySem.W.mg_none_of X G z_abs, PySem.W.mg_none_of X G z_range, PySem.W.mg_none_of X G z_any, PySem.W.mg_none_of X G z_sum⟩
  have x_InvalidNumber : XErr l.prog K mg "InvalidNumber" C_InvalidNumber ["number"] := ⟨"InvalidNumber.__init__", f_InvalidNumber, s_InvalidNumber___init__, ⟨PySem.W.mg_of X G xgC_InvalidNumber, ⟨_, _, _, _, _, _, _, _, _, _, _, _, _, _, _, xxL_InvalidNumber, by rfl⟩, xsa_InvalidNumber, xga_InvalidNumber, xgg_InvalidNumber, xiC_InvalidNumber, xtI_InvalidNumber, xkC_InvalidNumber, xeC_InvalidNumber, xvC_InvalidNumber, xse_InvalidNumber, xtC_InvalidNumber, xhC_InvalidNumber, exm_own xeC_InvalidNumber xcC_InvalidNumber xtC_InvalidNumber xsC_InvalidNumber, xup_InvalidNumber, PySem.W.mg_none_of X G xsu, xop, xtp, _, _, _, _, _, _, _, _, _, _, _, _, _, _, _, _, _, _, xlI_InvalidNumber, xcI_InvalidNumber, xcd_InvalidNumber, xfi_InvalidNumber, xff_InvalidNumber, xcc_InvalidNumber⟩, xb_InvalidNumber, by simpa using xn_InvalidNumber_number⟩
  have x_InvalidBudgets : XErr l.prog K mg "InvalidBudgets" C_InvalidBudgets ["budgets"] := ⟨"InvalidBudgets.__init__", f_InvalidBudgets, s_InvalidBudgets___init__, ⟨PySem.W.mg_of X G xgC_InvalidBudgets, ⟨_, _, _, _, _, _, _, _, _, _, _, _, _, _, _, xxL_InvalidBudgets, by rfl⟩, xsa_InvalidBudgets, xga_InvalidBudgets, xgg_InvalidBudgets, xiC_InvalidBudgets, xtI_InvalidBudgets, xkC_InvalidBudgets, xeC_InvalidBudgets, xvC_InvalidBudgets, xse_InvalidBudgets, xtC_InvalidBudgets, xhC_InvalidBudgets, exm_own xeC_InvalidBudgets xcC_InvalidBudgets xtC_InvalidBudgets xsC_InvalidBudgets, xup_InvalidBudgets, PySem.W.mg_none_of X G xsu, xop, xtp, _, _, _, _, _, _, _, _, _, _, _, _, _, _, _, _, _, _, xlI_InvalidBudgets, xcI_InvalidBudgets, xcd_InvalidBudgets, xfi_InvalidBudgets, xff_InvalidBudgets, xcc_InvalidBudgets⟩, xb_InvalidBudgets, by simpa using xn_InvalidBudgets_budgets⟩
  have F_is_integer := fun_mk (x := "is_integer") (qual := "is_integer") (st := s_is_integer) l_is_integer c_is_integer k_is_integer
  have b_is_integer := F_is_integer.binds (ps := ["value"]) fun _ _ _ _ _ _ us hl => match us, hl with | [_], _ => rfl
  have F_is_number := fun_mk (x := "is_number") (qual := "is_number") (st := s_is_number) l_is_number c_is_number k_is_number
  have b_is_number := F_is_number.binds (ps := ["value"]) fun _ _ _ _ _ _ us hl => match us, hl with | [_], _ => rfl
  have F_is_bit := fun_mk (x := "is_bit") (qual := "is_bit") (st := s_is_bit) l_is_bit c_is_bit k_is_bit
  have b_is_bit := F_is_bit.binds (ps := ["value"]) fun _ _ _ _ _ _ us hl => match us, hl with | [_], _ => rfl
  have F_is_sequence := fun_mk (x := "is_sequence") (qual := "is_sequence") (st := s_is_sequence) l_is_sequence c_is_sequence k_is_sequence
  have b_is_sequence := F_is_sequence.binds (ps := ["value"]) fun _ _ _ _ _ _ us hl => match us, hl with | [_], _ => rfl
  have F_are_numbers := fun_mk (x := "are_numbers") (qual := "are_numbers") (st := s_are_numbers) l_are_numbers c_are_numbers k_are_numbers
  have b_are_numbers := F_are_numbers.binds (ps := ["value"]) fun _ _ _ _ _ _ us hl => match us, hl with | [_], _ => rfl
  have F_check_budgets := fun_mk (x := "check_budgets") (qual := "check_budgets") (st := s_check_budgets) l_check_budgets c_check_budgets k_check_budgets
  have b_check_budgets := F_check_budgets.binds (ps := ["budgets"]) fun _ _ _ _ _ _ us hl => match us, hl with | [_], _ => rfl
  have F_can_keep := fun_mk (x := "can_keep") (qual := "can_keep") (st := s_can_keep) l_can_keep c_can_keep k_can_keep
  have b_can_keep := F_can_keep.binds (ps := ["budgets"]) fun _ _ _ _ _ _ us hl => match us, hl with | [_], _ => rfl
  have F_check_bit := fun_mk (x := "check_bit") (qual := "check_bit") (st := s_check_bit) l_check_bit c_check_bit k_check_bit
  have b_check_bit := F_check_bit.binds (ps := ["bit"]) fun _ _ _ _ _ _ us hl => match us, hl with | [_], _ => rfl
  have F_in_order := fun_mk (x := "_in_order") (qual := "_in_order") (st := s_in_order) l_in_order c_in_order k_in_order
  have b_in_order := F_in_order.binds (ps := ["budgets"]) fun _ _ _ _ _ _ us hl => match us, hl with | [_], _ => rfl
  have F_with_less := fun_mk (x := "_with_less") (qual := "_with_less") (st := s_with_less) l_with_less c_with_less k_with_less
  have b_with_less := F_with_less.binds (ps := ["side"]) fun _ _ _ _ _ _ us hl => match us, hl with | [_], _ => rfl
  have F_check_breakable := fun_mk (x := "_check_breakable") (qual := "_check_breakable") (st := s_check_breakable) l_check_breakable c_check_breakable k_check_breakable
  have b_check_breakable := F_check_breakable.binds (ps := ["budgets"]) fun _ _ _ _ _ _ us hl => match us, hl with | [_], _ => rfl
  have F_broken_on := fun_mk (x := "_broken_on") (qual := "_broken_on") (st := s_broken_on) l_broken_on c_broken_on k_broken_on
  have b_broken_on := F_broken_on.binds (ps := ["side"]) fun _ _ _ _ _ _ us hl => match us, hl with | [_], _ => rfl
  have F_sides_of := fun_mk (x := "_sides_of") (qual := "_sides_of") (st := s_sides_of) l_sides_of c_sides_of k_sides_of
  have b_sides_of := F_sides_of.binds (ps := ["living"]) fun _ _ _ _ _ _ us hl => match us, hl with | [_], _ => rfl
  have F_Breaker___init__ := fun_mk (x := "__init__") (qual := "Breaker.__init__") (st := s_Breaker___init__) l_Breaker___init__ c_Breaker___init__ k_Breaker___init__
  have b_Breaker___init__ := F_Breaker___init__.binds (ps := ["self", "budgets"]) fun _ _ _ _ _ _ us hl => match us, hl with | [_, _], _ => rfl
  have F_Breaker_answer := fun_mk (x := "answer") (qual := "Breaker.answer") (st := s_Breaker_answer) l_Breaker_answer c_Breaker_answer k_Breaker_answer
  have b_Breaker_answer := F_Breaker_answer.binds (ps := ["self", "bit"]) fun _ _ _ _ _ _ us hl => match us, hl with | [_, _], _ => rfl
  have F_write_sides := fun_mk (x := "_write_sides") (qual := "_write_sides") (st := s_write_sides) l_write_sides c_write_sides k_write_sides
  have b_write_sides := F_write_sides.binds (ps := ["rows", "living"]) fun _ _ _ _ _ _ us hl => match us, hl with | [_, _], _ => rfl
  have F_worst_language := fun_mk (x := "worst_language") (qual := "worst_language") (st := s_worst_language) l_worst_language c_worst_language k_worst_language
  have b_worst_language := F_worst_language.binds (ps := ["budgets"]) fun _ _ _ _ _ _ us hl => match us, hl with | [_], _ => rfl
  have F_law_tape := fun_mk (x := "_law_tape") (qual := "_law_tape") (st := s_law_tape) l_law_tape c_law_tape k_law_tape
  have b_law_tape := F_law_tape.binds (ps := ["script"]) fun _ _ _ _ _ _ us hl => match us, hl with | [_], _ => rfl
  have F_law_draw := fun_mk (x := "_law_draw") (qual := "_law_draw") (st := s_law_draw) l_law_draw c_law_draw k_law_draw
  have b_law_draw := F_law_draw.binds (ps := ["tape", "limit"]) fun _ _ _ _ _ _ us hl => match us, hl with | [_, _], _ => rfl
  have F_law_same := fun_mk (x := "_law_same") (qual := "_law_same") (st := s_law_same) l_law_same c_law_same k_law_same
  have b_law_same := F_law_same.binds (ps := ["told", "due"]) fun _ _ _ _ _ _ us hl => match us, hl with | [_, _], _ => rfl
  have F_law_copy := fun_mk (x := "_law_copy") (qual := "_law_copy") (st := s_law_copy) l_law_copy c_law_copy k_law_copy
  have b_law_copy := F_law_copy.binds (ps := ["thing"]) fun _ _ _ _ _ _ us hl => match us, hl with | [_], _ => rfl
  have F_law_stranger := fun_mk (x := "_law_stranger") (qual := "_law_stranger") (st := s_law_stranger) l_law_stranger c_law_stranger k_law_stranger
  have b_law_stranger := F_law_stranger.binds (ps := ["tape"]) fun _ _ _ _ _ _ us hl => match us, hl with | [_], _ => rfl
  have F_law_budgets := fun_mk (x := "_law_budgets") (qual := "_law_budgets") (st := s_law_budgets) l_law_budgets c_law_budgets k_law_budgets
  have b_law_budgets := F_law_budgets.binds (ps := ["tape"]) fun _ _ _ _ _ _ us hl => match us, hl with | [_], _ => rfl
  have F_law_rows := fun_mk (x := "_law_rows") (qual := "_law_rows") (st := s_law_rows) l_law_rows c_law_rows k_law_rows
  have b_law_rows := F_law_rows.binds (ps := ["budgets"]) fun _ _ _ _ _ _ us hl => match us, hl with | [_], _ => rfl
  have F_law_told := fun_mk (x := "_law_told") (qual := "_law_told") (st := s_law_told) l_law_told c_law_told k_law_told
  have b_law_told := F_law_told.binds (ps := ["value", "by_name"]) fun _ _ _ _ _ _ us hl => match us, hl with | [_, _], _ => rfl
  have F_law_breaks := fun_mk (x := "_law_breaks") (qual := "_law_breaks") (st := s_law_breaks) l_law_breaks c_law_breaks k_law_breaks
  have b_law_breaks := F_law_breaks.binds (ps := ["value"]) fun _ _ _ _ _ _ us hl => match us, hl with | [_], _ => rfl
  have F_law_right := fun_mk (x := "_law_right") (qual := "_law_right") (st := s_law_right) l_law_right c_law_right k_law_right
  have b_law_right := F_law_right.binds (ps := ["value", "by_name"]) fun _ _ _ _ _ _ us hl => match us, hl with | [_, _], _ => rfl
  have F_law_breaker_right := fun_mk (x := "_law_breaker_right") (qual := "_law_breaker_right") (st := s_law_breaker_right) l_law_breaker_right c_law_breaker_right k_law_breaker_right
  have b_law_breaker_right := F_law_breaker_right.binds (ps := ["tape", "budgets", "rows", "constant"]) fun _ _ _ _ _ _ us hl => match us, hl with | [_, _, _, _], _ => rfl
  have F_law_asks := fun_mk (x := "_law_asks") (qual := "_law_asks") (st := s_law_asks) l_law_asks c_law_asks k_law_asks
  have b_law_asks := F_law_asks.binds (ps := ["script"]) fun _ _ _ _ _ _ us hl => match us, hl with | [_], _ => rfl
  have F_law := fun_mk (x := "law") (qual := "law") (st := s_law) l_law c_law k_law
  have b_law := F_law.binds (ps := ["script"]) fun _ _ _ _ _ _ us hl => match us, hl with | [_], _ => rfl
  refine ⟨PySem.W.fnOf "law" "law" (defArgs s_law) (defBody s_law) (defScope s_law) .none kV_law dc_law pm_law an_law cd_law ct_law, fun s v => .of_eq rfl, fun base KB GB => ?_⟩
  have in_Breaker : C8.InsC K C_Breaker := ⟨⟨breakerPg, breakerHd, breakerPo, breakerSa⟩, breakerHa, cHn, cTk, breakerHm, kit_me⟩
  have cl_Breaker := in_Breaker.cl
  have bc : BrC K C_Breaker := ⟨in_Breaker, breakerN_broken, breakerN_row, breakerN__living⟩
  have G_is_integer := ok_is_integer (P := l.prog) (w := w) (base := base) F_is_integer T 
  have c_is_integer : Cal l.prog w K mg base 1 "is_integer" (spKind K isIntD) := ⟨_, _, _, G_is_integer, PySem.W.mg_of X G a_is_integer, k_is_integer, b_is_integer⟩
  have G_is_number := ok_is_number (P := l.prog) (w := w) (base := base) F_is_number T c_is_integer
  have c_is_number : Cal l.prog w K mg base 2 "is_number" (spKind K isNumD) := ⟨_, _, _, G_is_number, PySem.W.mg_of X G a_is_number, k_is_number, b_is_number⟩
  have G_is_bit := ok_is_bit (P := l.prog) (w := w) (base := base) F_is_bit T c_is_integer
  have c_is_bit : Cal l.prog w K mg base 2 "is_bit" (spKind K isBitD) := ⟨_, _, _, G_is_bit, PySem.W.mg_of X G a_is_bit, k_is_bit, b_is_bit⟩
  have G_is_sequence := ok_is_sequence (P := l.prog) (w := w) (base := base) F_is_sequence T 
  have c_is_sequence : Cal l.prog w K mg base 1 "is_sequence" (spSeq K) := ⟨_, _, _, G_is_sequence, PySem.W.mg_of X G a_is_sequence, k_is_sequence, b_is_sequence⟩
  have G_are_numbers := ok_are_numbers (P := l.prog) (w := w) (base := base) F_are_numbers T c_is_sequence c_is_number
  have c_are_numbers : Cal l.prog w K mg base 3 "are_numbers" (spRow K) := ⟨_, _, _, G_are_numbers, PySem.W.mg_of X G a_are_numbers, k_are_numbers, b_are_numbers⟩
  have G_check_bit := ok_check_bit (P := l.prog) (w := w) (base := base) F_check_bit T x_InvalidNumber c_is_bit
  have c_check_bit : CalX l.prog w K mg base 3 "check_bit" (spCheckBit K C_InvalidNumber) := ⟨_, _, _, G_check_bit, PySem.W.mg_of X G a_check_bit, k_check_bit, b_check_bit⟩
  have G_check_budgets := ok_check_budgets (P := l.prog) (w := w) (base := base) F_check_budgets T x_InvalidBudgets c_are_numbers
  have c_check_budgets : CalX l.prog w K mg base 4 "check_budgets" (spCheckB K C_InvalidBudgets) := ⟨_, _, _, G_check_budgets, PySem.W.mg_of X G a_check_budgets, k_check_budgets, b_check_budgets⟩
  have G_can_keep := ok_can_keep (P := l.prog) (w := w) (base := base) F_can_keep T c_check_budgets
  have c_can_keep : CalX l.prog w K mg base 5 "can_keep" (spCanKeep K C_InvalidBudgets) := ⟨_, _, _, G_can_keep, PySem.W.mg_of X G a_can_keep, k_can_keep, b_can_keep⟩
  have G_in_order := ok_in_order (P := l.prog) (w := w) (base := base) F_in_order T 
  have c_in_order : Cal l.prog w K mg base 1 "_in_order" (spInOrd K) := ⟨_, _, _, G_in_order, PySem.W.mg_of X G a_in_order, k_in_order, b_in_order⟩
  have G_with_less := ok_with_less (P := l.prog) (w := w) (base := base) F_with_less T 
  have c_with_less : Cal l.prog w K mg base 1 "_with_less" (spLess K) := ⟨_, _, _, G_with_less, PySem.W.mg_of X G a_with_less, k_with_less, b_with_less⟩
  have G_check_breakable := ok_check_breakable (P := l.prog) (w := w) (base := base) F_check_breakable T x_InvalidBudgets c_are_numbers c_can_keep
  have c_check_breakable : CalX l.prog w K mg base 6 "_check_breakable" (spBreakable K C_InvalidBudgets) := ⟨_, _, _, G_check_breakable, PySem.W.mg_of X G a_check_breakable, k_check_breakable, b_check_breakable⟩
  have G_broken_on := ok_broken_on (P := l.prog) (w := w) (base := base) F_broken_on T 
  have c_broken_on : Cal l.prog w K mg base 1 "_broken_on" (spBrk K) := ⟨_, _, _, G_broken_on, PySem.W.mg_of X G a_broken_on, k_broken_on, b_broken_on⟩
  have G_sides_of := ok_sides_of (P := l.prog) (w := w) (base := base) F_sides_of T 
  have c_sides_of : Cal l.prog w K mg base 1 "_sides_of" (spSides K) := ⟨_, _, _, G_sides_of, PySem.W.mg_of X G a_sides_of, k_sides_of, b_sides_of⟩
  have G_Breaker___init__ := ok_Breaker___init__ (P := l.prog) (w := w) (base := base) F_Breaker___init__ T bc c_check_breakable c_in_order
  have M_Breaker : Mk K C_Breaker f_Breaker___init__ := ⟨breakerMk, a_Breaker___init__, i_Breaker___init__, breakerKc⟩
  have m_Breaker : MakX l.prog w K mg base 7 "Breaker" C_Breaker (spBInit K C_Breaker C_InvalidBudgets) := ⟨_, _, _, M_Breaker, G_Breaker___init__, PySem.W.mg_of X G aC_Breaker, b_Breaker___init__⟩
  have G_Breaker_answer := ok_Breaker_answer (P := l.prog) (w := w) (base := base) F_Breaker_answer T bc c_check_bit c_sides_of c_broken_on c_with_less
  have c_Breaker_answer : MetX l.prog w K mg base 4 C_Breaker "answer" (spBA K C_Breaker C_InvalidNumber) := ⟨_, _, _, cl_Breaker, ⟨a_Breaker_answer, i_Breaker_answer, k_Breaker_answer⟩, G_Breaker_answer, b_Breaker_answer⟩
  have c_write_sides := cal_write_sides (P := l.prog) (w := w) (base := base) F_write_sides T (PySem.W.mg_of X G a_write_sides) k_write_sides b_write_sides c_sides_of c_broken_on c_with_less 11
  have G_worst_language := ok_worst_language (P := l.prog) (w := w) (base := base) F_worst_language T c_check_breakable c_in_order c_write_sides
  have c_worst_language : CalX l.prog w K mg base 14 "worst_language" (spWorst K C_InvalidBudgets) := ⟨_, _, _, G_worst_language, PySem.W.mg_of X G a_worst_language, k_worst_language, b_worst_language⟩
  have ck_worst_language_budgets : CalXK l.prog w K mg base 14 "worst_language" 0 ["budgets"] (fun xs zs => xs ++ zs) (spWorst K C_InvalidBudgets) := ⟨_, _, _, fun us ws => us ++ ws, G_worst_language, PySem.W.mg_of X G a_worst_language, k_worst_language, L2Fun_kbn F_worst_language (fun _ _ _ _ _ _ us ws h1 h2 => match us, ws, h1, h2 with | [], [_], _, _ => rfl) (fun r1 r2 => r1.append r2)⟩
  have c_law_same := cal_law_same (P := l.prog) (w := w) (base := base) F_law_same T (PySem.W.mg_of X G a_law_same) k_law_same b_law_same 4
  have c_law_copy := cal_law_copy (P := l.prog) (w := w) (base := base) F_law_copy T (PySem.W.mg_of X G a_law_copy) k_law_copy b_law_copy 4
  have G_law_tape := ok_law_tape (P := l.prog) (w := w) (base := base) F_law_tape T 
  have c_law_tape : Cal l.prog w K mg base 1 "_law_tape" (spTape K) := ⟨_, _, _, G_law_tape, PySem.W.mg_of X G a_law_tape, k_law_tape, b_law_tape⟩
  have G_law_draw := ok_law_draw (P := l.prog) (w := w) (base := base) F_law_draw T 
  have c_law_draw : Cal l.prog w K mg base 1 "_law_draw" (spDraw) := ⟨_, _, _, G_law_draw, PySem.W.mg_of X G a_law_draw, k_law_draw, b_law_draw⟩
  have G_law_stranger := ok_law_stranger (P := l.prog) (w := w) (base := base) F_law_stranger T c_law_draw
  have c_law_stranger : Cal l.prog w K mg base 2 "_law_stranger" (spStr23 K) := ⟨_, _, _, G_law_stranger, PySem.W.mg_of X G a_law_stranger, k_law_stranger, b_law_stranger⟩
  have G_law_budgets := ok_law_budgets (P := l.prog) (w := w) (base := base) F_law_budgets T c_law_draw
  have c_law_budgets : Cal l.prog w K mg base 2 "_law_budgets" (spBud23) := ⟨_, _, _, G_law_budgets, PySem.W.mg_of X G a_law_budgets, k_law_budgets, b_law_budgets⟩
  have G_law_rows := ok_law_rows (P := l.prog) (w := w) (base := base) F_law_rows T 
  have c_law_rows : Cal l.prog w K mg base 1 "_law_rows" (spRows24 K) := ⟨_, _, _, G_law_rows, PySem.W.mg_of X G a_law_rows, k_law_rows, b_law_rows⟩
  have G_law_told := ok_law_told (P := l.prog) (w := w) (base := base) F_law_told T x_InvalidBudgets c_worst_language ck_worst_language_budgets
  have c_law_told : Cal l.prog w K mg base 15 "_law_told" (spTold24 K) := ⟨_, _, _, G_law_told, PySem.W.mg_of X G a_law_told, k_law_told, b_law_told⟩
  have G_law_breaks := ok_law_breaks (P := l.prog) (w := w) (base := base) F_law_breaks T 
  have c_law_breaks : Cal l.prog w K mg base 1 "_law_breaks" (spLBrk K) := ⟨_, _, _, G_law_breaks, PySem.W.mg_of X G a_law_breaks, k_law_breaks, b_law_breaks⟩
  have G_law_right := ok_law_right (P := l.prog) (w := w) (base := base) F_law_right T c_law_copy c_law_told c_law_same c_law_breaks c_law_rows
  have c_law_right : Cal l.prog w K mg base 16 "_law_right" (spRight24 K) := ⟨_, _, _, G_law_right, PySem.W.mg_of X G a_law_right, k_law_right, b_law_right⟩
  have G_law_breaker_right := ok_law_breaker_right (P := l.prog) (w := w) (base := base) F_law_breaker_right T bc c_law_draw m_Breaker c_Breaker_answer
  have c_law_breaker_right : Cal l.prog w K mg base 9 "_law_breaker_right" (spBR24 K) := ⟨_, _, _, G_law_breaker_right, PySem.W.mg_of X G a_law_breaker_right, k_law_breaker_right, b_law_breaker_right⟩
  have G_law_asks := ok_law_asks (P := l.prog) (w := w) (base := base) F_law_asks T c_law_tape c_law_draw c_law_budgets c_law_rows c_law_stranger c_law_right c_law_breaker_right
  have c_law_asks : Cal l.prog w K mg base 17 "_law_asks" (spAsks K) := ⟨_, _, _, G_law_asks, PySem.W.mg_of X G a_law_asks, k_law_asks, b_law_asks⟩
  have G_law := ok_law (P := l.prog) (w := w) (base := base) F_law T c_law_asks
  exact G_law
end K24
open PySem PySem.W PyProof.Rows
set_option maxRecDepth 100000 in
set_option maxHeartbeats 0 in
theorem PySem.Challenge.cw_keptbudgets_k24_worst_language_holds : PySem.Challenge.rw_keptbudgets_k24_worst_language.Holds := by
  w_on; o_law; k_head; (case hw => w_witness2)
  k_fill
  refine L2.walk_of (l := PySem.Challenge.rw_keptbudgets_k24_worst_language) (n := 63) (k := 18) (x := "script") (CX := fun w => L2.CX0) (sp := fun w => K24.spLaw _) rfl (by decide) rfl ⟨rfl, by decide, by decide⟩ (fun w h Y => PySem.W.kIn_of Y) ?F (fun _ _ a ns hl _ hS => ⟨a, ns, rfl, hS, hl, fun _ => rfl⟩) (fun _ _ _ _ _ h => h)
  case F =>
    intro w mg fa h KX G hmg
    refine' K24.all_mk KX G hmg ?aC_Breaker ?xgC_InvalidNumber ?xxL_InvalidNumber ?xsa_InvalidNumber ?xga_InvalidNumber ?xgg_InvalidNumber ?xiC_InvalidNumber ?xtI_InvalidNumber ?xkC_InvalidNumber ?xeC_InvalidNumber ?xvC_InvalidNumber ?xse_InvalidNumber ?xtC_InvalidNumber ?xhC_InvalidNumber ?xcC_InvalidNumber ?xsC_InvalidNumber ?xlI_InvalidNumber ?xcI_InvalidNumber ?xcd_InvalidNumber ?xcc_InvalidNumber ?xfi_InvalidNumber ?xff_InvalidNumber ?xup_InvalidNumber ?xn_InvalidNumber_number ?xgC_InvalidBudgets ?xxL_InvalidBudgets ?xsa_InvalidBudgets ?xga_InvalidBudgets ?xgg_InvalidBudgets ?xiC_InvalidBudgets ?xtI_InvalidBudgets ?xkC_InvalidBudgets ?xeC_InvalidBudgets ?xvC_InvalidBudgets ?xse_InvalidBudgets ?xtC_InvalidBudgets ?xhC_InvalidBudgets ?xcC_InvalidBudgets ?xsC_InvalidBudgets ?xlI_InvalidBudgets ?xcI_InvalidBudgets ?xcd_InvalidBudgets ?xcc_InvalidBudgets ?xfi_InvalidBudgets ?xff_InvalidBudgets ?xup_InvalidBudgets ?xn_InvalidBudgets_budgets ?xsu ?xop ?xtp ?a_is_integer ?l_is_integer ?c_is_integer ?k_is_integer ?a_is_number ?l_is_number ?c_is_number ?k_is_number ?a_is_bit ?l_is_bit ?c_is_bit ?k_is_bit ?a_is_sequence ?l_is_sequence ?c_is_sequence ?k_is_sequence ?a_are_numbers ?l_are_numbers ?c_are_numbers ?k_are_numbers ?a_check_budgets ?l_check_budgets ?c_check_budgets ?k_check_budgets ?a_can_keep ?l_can_keep ?c_can_keep ?k_can_keep ?a_check_bit ?l_check_bit ?c_check_bit ?k_check_bit ?a_in_order ?l_in_order ?c_in_order ?k_in_order ?a_with_less ?l_with_less ?c_with_less ?k_with_less ?a_check_breakable ?l_check_breakable ?c_check_breakable ?k_check_breakable ?a_broken_on ?l_broken_on ?c_broken_on ?k_broken_on ?a_sides_of ?l_sides_of ?c_sides_of ?k_sides_of ?a_Breaker___init__ ?i_Breaker___init__ ?l_Breaker___init__ ?c_Breaker___init__ ?k_Breaker___init__ ?a_Breaker_answer ?i_Breaker_answer ?l_Breaker_answer ?c_Breaker_answer ?k_Breaker_answer ?a_write_sides ?l_write_sides ?c_write_sides ?k_write_sides ?a_worst_language ?l_worst_language ?c_worst_language ?k_worst_language ?a_law_tape ?l_law_tape ?c_law_tape ?k_law_tape ?a_law_draw ?l_law_draw ?c_law_draw ?k_law_draw ?a_law_same ?l_law_same ?c_law_same ?k_law_same ?a_law_copy ?l_law_copy ?c_law_copy ?k_law_copy ?a_law_stranger ?l_law_stranger ?c_law_stranger ?k_law_stranger ?a_law_budgets ?l_law_budgets ?c_law_budgets ?k_law_budgets ?a_law_rows ?l_law_rows ?c_law_rows ?k_law_rows ?a_law_told ?l_law_told ?c_law_told ?k_law_told ?a_law_breaks ?l_law_breaks ?c_law_breaks ?k_law_breaks ?a_law_right ?l_law_right ?c_law_right ?k_law_right ?a_law_breaker_right ?l_law_breaker_right ?c_law_breaker_right ?k_law_breaker_right ?a_law_asks ?l_law_asks ?c_law_asks ?k_law_asks ?a_law ?l_law ?c_law ?k_law ?z_super ?z_isinstance ?z_int ?z_bool ?z_tuple ?z_list ?z_all ?z_enumerate ?z_sorted ?z_len ?z_min ?z_str ?z_zip ?z_max ?z_abs ?z_range ?z_any ?z_sum ?cHn ?cTk ?breakerPg ?breakerHd ?breakerPo ?breakerSa ?breakerHa ?breakerHm ?breakerMk ?breakerKc ?breakerN_broken ?breakerN_row ?breakerN__living
    (case aC_Breaker => k_is)
    (case xgC_InvalidNumber => k_is)
    (case xxL_InvalidNumber => k_is)
    (case xsa_InvalidNumber => k_is)
    (case xga_InvalidNumber => k_is)
    (case xgg_InvalidNumber => k_is)
    (case xiC_InvalidNumber => k_is)
    (case xtI_InvalidNumber => k_is)
    (case xkC_InvalidNumber => k_is)
    (case xeC_InvalidNumber => k_is)
    (case xvC_InvalidNumber => k_is)
    (case xse_InvalidNumber => k_is)
    (case xtC_InvalidNumber => k_is)
    (case xhC_InvalidNumber => k_is)
    (case xcC_InvalidNumber => k_is)
    (case xsC_InvalidNumber => k_is)
    (case xlI_InvalidNumber => k_is)
    (case xcI_InvalidNumber => k_is)
    (case xcd_InvalidNumber => k_is)
    (case xcc_InvalidNumber => k_is)
    (case xfi_InvalidNumber => exact rfl)
    (case xff_InvalidNumber => first | rfl | decide +kernel)
    (case xup_InvalidNumber => first | k_is | ks_is)
    (case xn_InvalidNumber_number => k_is)
    (case xgC_InvalidBudgets => k_is)
    (case xxL_InvalidBudgets => k_is)
    (case xsa_InvalidBudgets => k_is)
    (case xga_InvalidBudgets => k_is)
    (case xgg_InvalidBudgets => k_is)
    (case xiC_InvalidBudgets => k_is)
    (case xtI_InvalidBudgets => k_is)
    (case xkC_InvalidBudgets => k_is)
    (case xeC_InvalidBudgets => k_is)
    (case xvC_InvalidBudgets => k_is)
    (case xse_InvalidBudgets => k_is)
    (case xtC_InvalidBudgets => k_is)
    (case xhC_InvalidBudgets => k_is)
    (case xcC_InvalidBudgets => k_is)
    (case xsC_InvalidBudgets => k_is)
    (case xlI_InvalidBudgets => k_is)
    (case xcI_InvalidBudgets => k_is)
    (case xcd_InvalidBudgets => k_is)
    (case xcc_InvalidBudgets => k_is)
    (case xfi_InvalidBudgets => exact rfl)
    (case xff_InvalidBudgets => first | rfl | decide +kernel)
    (case xup_InvalidBudgets => first | k_is | ks_is)
    (case xn_InvalidBudgets_budgets => k_is)
    (case xsu => k_is)
    (case xop => k_is)
    (case xtp => first | rfl | decide +kernel)
    (case a_is_integer => k_is)
    (case l_is_integer => k_is)
    (case c_is_integer => k_is)
    (case k_is_integer => k_is)
    (case a_is_number => k_is)
    (case l_is_number => k_is)
    (case c_is_number => k_is)
    (case k_is_number => k_is)
    (case a_is_bit => k_is)
    (case l_is_bit => k_is)
    (case c_is_bit => k_is)
    (case k_is_bit => k_is)
    (case a_is_sequence => k_is)
    (case l_is_sequence => k_is)
    (case c_is_sequence => k_is)
    (case k_is_sequence => k_is)
    (case a_are_numbers => k_is)
    (case l_are_numbers => k_is)
    (case c_are_numbers => k_is)
    (case k_are_numbers => k_is)
    (case a_check_budgets => k_is)
    (case l_check_budgets => k_is)
    (case c_check_budgets => k_is)
    (case k_check_budgets => k_is)
    (case a_can_keep => k_is)
    (case l_can_keep => k_is)
    (case c_can_keep => k_is)
    (case k_can_keep => k_is)
    (case a_check_bit => k_is)
    (case l_check_bit => k_is)
    (case c_check_bit => k_is)
    (case k_check_bit => k_is)
    (case a_in_order => k_is)
    (case l_in_order => k_is)
    (case c_in_order => k_is)
    (case k_in_order => k_is)
    (case a_with_less => k_is)
    (case l_with_less => k_is)
    (case c_with_less => k_is)
    (case k_with_less => k_is)
    (case a_check_breakable => k_is)
    (case l_check_breakable => k_is)
    (case c_check_breakable => k_is)
    (case k_check_breakable => k_is)
    (case a_broken_on => k_is)
    (case l_broken_on => k_is)
    (case c_broken_on => k_is)
    (case k_broken_on => k_is)
    (case a_sides_of => k_is)
    (case l_sides_of => k_is)
    (case c_sides_of => k_is)
    (case k_sides_of => k_is)
    (case a_Breaker___init__ => k_is)
    (case i_Breaker___init__ => k_is)
    (case l_Breaker___init__ => k_is)
    (case c_Breaker___init__ => k_is)
    (case k_Breaker___init__ => k_is)
    (case a_Breaker_answer => k_is)
    (case i_Breaker_answer => k_is)
    (case l_Breaker_answer => k_is)
    (case c_Breaker_answer => k_is)
    (case k_Breaker_answer => k_is)
    (case a_write_sides => k_is)
    (case l_write_sides => k_is)
    (case c_write_sides => k_is)
    (case k_write_sides => k_is)
    (case a_worst_language => k_is)
    (case l_worst_language => k_is)
    (case c_worst_language => k_is)
    (case k_worst_language => k_is)
    (case a_law_tape => k_is)
    (case l_law_tape => k_is)
    (case c_law_tape => k_is)
    (case k_law_tape => k_is)
    (case a_law_draw => k_is)
    (case l_law_draw => k_is)
    (case c_law_draw => k_is)
    (case k_law_draw => k_is)
    (case a_law_same => k_is)
    (case l_law_same => k_is)
    (case c_law_same => k_is)
    (case k_law_same => k_is)
    (case a_law_copy => k_is)
    (case l_law_copy => k_is)
    (case c_law_copy => k_is)
    (case k_law_copy => k_is)
    (case a_law_stranger => k_is)
    (case l_law_stranger => k_is)
    (case c_law_stranger => k_is)
    (case k_law_stranger => k_is)
    (case a_law_budgets => k_is)
    (case l_law_budgets => k_is)
    (case c_law_budgets => k_is)
    (case k_law_budgets => k_is)
    (case a_law_rows => k_is)
    (case l_law_rows => k_is)
    (case c_law_rows => k_is)
    (case k_law_rows => k_is)
    (case a_law_told => k_is)
    (case l_law_told => k_is)
    (case c_law_told => k_is)
    (case k_law_told => k_is)
    (case a_law_breaks => k_is)
    (case l_law_breaks => k_is)
    (case c_law_breaks => k_is)
    (case k_law_breaks => k_is)
    (case a_law_right => k_is)
    (case l_law_right => k_is)
    (case c_law_right => k_is)
    (case k_law_right => k_is)
    (case a_law_breaker_right => k_is)
    (case l_law_breaker_right => k_is)
    (case c_law_breaker_right => k_is)
    (case k_law_breaker_right => k_is)
    (case a_law_asks => k_is)
    (case l_law_asks => k_is)
    (case c_law_asks => k_is)
    (case k_law_asks => k_is)
    (case a_law => k_is)
    (case l_law => k_is)
    (case c_law => k_is)
    (case k_law => k_is)
    (case z_super => k_is)
    (case z_isinstance => k_is)
    (case z_int => k_is)
    (case z_bool => k_is)
    (case z_tuple => k_is)
    (case z_list => k_is)
    (case z_all => k_is)
    (case z_enumerate => k_is)
    (case z_sorted => k_is)
    (case z_len => k_is)
    (case z_min => k_is)
    (case z_str => k_is)
    (case z_zip => k_is)
    (case z_max => k_is)
    (case z_abs => k_is)
    (case z_range => k_is)
    (case z_any => k_is)
    (case z_sum => k_is)
    (case cHn => k_is)
    (case cTk => k_is)
    (case breakerPg => k_is)
    (case breakerHd => k_is)
    (case breakerPo => k_is)
    (case breakerSa => k_is)
    (case breakerHa => k_is)
    (case breakerHm => k_is)
    (case breakerMk => k_is)
    (case breakerKc => k_is)
    (case breakerN_broken => k_is)
    (case breakerN_row => k_is)
    (case breakerN__living => k_is)
#print axioms PySem.Challenge.cw_keptbudgets_k24_worst_language_holds