import PyProof.Rows.All
import Wide.All
import OpenK.AllK
import Wide.FinOn
import HandS.ForMost
import HandS.ForExc
import HandS.Codes
import HandS.Wide
import HandS.WideBits
import HandS.IsInst
import HandS.Defaults
import KE.KExcSuper
import HandS.ExcInit
import HandS.ExcIs
import HandS.More
import HandS.ExcCtx
import HandS.ExcField
import HandS.HotCalls
import HandS.SlotsOwn
import HandS.MakeKwOnly
import HandS.TryMany
import HandS.Gcd
import HandS.TupLe
import PyProof.FString3
import HandS.FStr
import PyProof.Rows.StrIntSpec
import HandS.StrMore
import KE.GoesMore
import HandS.SortInts
import PyProof.TupleIter
import HandS.SortRule
import KE.DataMinMax
import HandS.SortKw
import KE.KMathGC
import KE.KDictZip
import HandS.ExcValue
import KE.GoesEnum
import HandS.Flt
import PyProof.Rows.StrPadFill
import PyProof.Rows.StrPadWhole
import HandS.Style
import HandS.RevRange
import HandS.Conv
import KE.KRevSl
import HandS.Text
import HandS.Iter
import HandS.Comp
import HandS.Strs
import PySem.Challenge.RW_keptbudgets_k14_programs_by_number
set_option Elab.async false
set_option linter.all false
set_option maxRecDepth 100000
set_option maxHeartbeats 4000000
namespace KB
open PySem PySem.Spec PyProof.Rows L2

/-! ### heaps -/
theorem same_upd {H : Hp} {p : Addr} {o : HO} (h : H p = none) : Same H (upd H p o) := fun b x e => by
  rw [upd_ne (ne_of_none e h)]
  exact e
theorem same_set {B H : Hp} {p : Addr} {o : HO} (s : Same B H) : Same (upd B p o) (upd H p o) := fun b x e => by
  by_cases hb : b = p
  · subst hb
    rw [upd_same] at e ⊢
    exact e
  · rw [upd_ne hb] at e ⊢
    exact s b x e
theorem same_out {B H : Hp} {p : Addr} {o : HO} (s : Same B H) (h : B p = none) : Same B (upd H p o) := fun b x e => by
  rw [upd_ne (ne_of_none e h)]
  exact s b x e
theorem sz (n : Nat) (h : n ≤ 16777216 := by decide) : n ≤ sizeLine := by
  rw [sizeLine_eq]
  exact h
theorem szl {n : Nat} (h : n < 16777216) : n < sizeLine := by
  rw [sizeLine_eq]
  exact h
theorem szle {n : Nat} (h : n ≤ 16777216) : n ≤ sizeLine := by
  rw [sizeLine_eq]
  exact h

/-! ### the tape: B is all that stands beside it -/
structure Tp (B H : Hp) (t : Addr) (c : Nat) : Prop where
  same : Same B H
  bt : B t = none
  ex : ∃ (g : Addr) (gs : List Int) (sd ct : Int), B g = none ∧ t ≠ g ∧ H t = some (.lst [.ref g, .int sd, .int ct]) ∧ H g = some (.lst (gs.map V.int)) ∧
    gs.length ≤ 63 ∧ 0 ≤ sd ∧ sd < 2147483647 ∧ 0 ≤ ct ∧ ct ≤ (c : Int)
theorem Tp.le {B H : Hp} {t : Addr} {c d : Nat} (T : Tp B H t c) (h : c ≤ d) : Tp B H t d := by
  obtain ⟨s, b, g, gs, sd, ct, h1, h2, h3, h4, h5, h6, h7, h8, h9⟩ := T
  exact ⟨s, b, g, gs, sd, ct, h1, h2, h3, h4, h5, h6, h7, h8, by omega⟩
theorem Tp.new {B H : Hp} {t p : Addr} {c : Nat} {o : HO} (T : Tp B H t c) (h : H p = none) : Tp (upd B p o) (upd H p o) t c := by
  obtain ⟨s, b, g, gs, sd, ct, h1, h2, h3, h4, h5⟩ := T
  have e1 : t ≠ p := ne_of_none h3 h
  have e2 : g ≠ p := ne_of_none h4 h
  exact ⟨same_set s, by rw [upd_ne e1]; exact b, g, gs, sd, ct, by rw [upd_ne e2]; exact h1, h2, by rw [upd_ne e1]; exact h3, by rw [upd_ne e2]; exact h4, h5⟩
theorem Tp.set {B H : Hp} {t p : Addr} {c : Nat} {o o' : HO} (T : Tp B H t c) (h : B p = some o) : Tp (upd B p o') (upd H p o') t c := by
  obtain ⟨s, b, g, gs, sd, ct, h1, h2, h3, h4, h5⟩ := T
  have e1 : t ≠ p := fun z => by rw [z, h] at b; cases b
  have e2 : g ≠ p := fun z => by rw [z, h] at h1; cases h1
  exact ⟨same_set s, by rw [upd_ne e1]; exact b, g, gs, sd, ct, by rw [upd_ne e2]; exact h1, h2, by rw [upd_ne e1]; exact h3, by rw [upd_ne e2]; exact h4, h5⟩
theorem Tp.free {B H : Hp} {t p : Addr} {c : Nat} (T : Tp B H t c) (h : H p = none) : B p = none := T.same.free h
theorem Tp.at {B H : Hp} {t p : Addr} {c : Nat} {o : HO} (T : Tp B H t c) (h : B p = some o) : H p = some o := T.same _ _ h
theorem Tp.inst {B H : Hp} {t x dx C : Addr} {c : Nat} {fs : List (Str × V)} (T : Tp B H t c) (hx : H x = none) (hd : H dx = none) (ne : dx ≠ x) : Tp (upd (upd B dx (.own x)) x (.ins C dx fs)) (upd (upd H dx (.own x)) x (.ins C dx fs)) t c :=
  (T.new hd).new (by rw [upd_ne ne.symm]; exact hx)
theorem Tp.ext {B H H' : Hp} {t : Addr} {c : Nat} (T : Tp B H t c) (s : Same H H') : Tp B H' t c := by
  obtain ⟨sm, b, g, gs, sd, ct, h1, h2, h3, h4, h5⟩ := T
  exact ⟨sm.trans s, b, g, gs, sd, ct, h1, h2, s _ _ h3, s _ _ h4, h5⟩
theorem Tp.ext1 {B H H' : Hp} {t p : Addr} {c : Nat} {o : HO} (T : Tp B H t c) (s : Same H H') (hp : H p = none) (ho : H' p = some o) : Tp (upd B p o) H' t c := by
  obtain ⟨sm, b, g, gs, sd, ct, h1, h2, h3, h4, h5⟩ := T
  have e1 : t ≠ p := ne_of_none h3 hp
  have e2 : g ≠ p := ne_of_none h4 hp
  refine ⟨fun b x e => ?_, by rw [upd_ne e1]; exact b, g, gs, sd, ct, by rw [upd_ne e2]; exact h1, h2, s _ _ h3, s _ _ h4, h5⟩
  by_cases hb : b = p
  · subst hb
    rw [upd_same] at e
    rw [ho]
    exact e
  · rw [upd_ne hb] at e
    exact s _ _ (sm _ _ e)
theorem Tp.isn {B H : Hp} {t p : Addr} {c : Nat} (T : Tp B H t c) (h : H p = none) : B p = none := T.same.free h
theorem same_ins {B : Hp} {x dx C : Addr} {fs : List (Str × V)} (hx : B x = none) (hd : B dx = none) (ne : dx ≠ x) : Same B (upd (upd B dx (.own x)) x (.ins C dx fs)) :=
  (same_upd hd).trans (same_upd (by rw [upd_ne ne.symm]; exact hx))
/-- a draw's number is a natural one -/
theorem nat_of {n : Int} (h : 0 ≤ n) : ∃ k : Nat, n = (k : Int) := ⟨n.toNat, by omega⟩
end KB

namespace KB
open PySem PySem.Spec PyProof.Rows L2
section
variable {P : Program} {w : World} {K : PySem.W.Frag} {mg : Str → Option Value} {base : Heap}
/-- a def of the module that raises nothing, to be called by its name -/
structure Cal (P : Program) (w : World) (K : PySem.W.Frag) (mg : Str → Option Value) (base : Heap) (k : Nat) (x : Str) (sp : Sp) : Prop where
  ex : ∃ (f : Addr) (fd : FuncData) (ps : List Str), FnOk P w K mg base CX0 k f fd ps sp ∧ mg x = some (.ref f) ∧ PySem.W.keepIn K (.ref f) = true ∧ Binds K fd ps []
/-- .. called by keywords alone -/
structure CalK (P : Program) (w : World) (K : PySem.W.Frag) (mg : Str → Option Value) (base : Heap) (k : Nat) (x : Str) (n : Nat) (ks : List Str) (gV : List V → List V → List V) (sp : Sp) : Prop where
  ex : ∃ (f : Addr) (fd : FuncData) (ps : List Str) (g : List Value → List Value → List Value), FnOk P w K mg base CX0 k f fd ps sp ∧ mg x = some (.ref f) ∧ PySem.W.keepIn K (.ref f) = true ∧ KBn K fd ps n ks g gV
/-- a method of the class at C -/
structure Met (P : Program) (w : World) (K : PySem.W.Frag) (mg : Str → Option Value) (base : Heap) (k : Nat) (C : Addr) (m : Str) (sp : Sp) : Prop where
  ex : ∃ (f : Addr) (fd : FuncData) (ps : List Str), Cls K C ∧ Meth K C m f ∧ FnOk P w K mg base CX0 k f fd ps sp ∧ Binds K fd ps []
theorem L2Fun_kbn {x qual : Str} {st : Stmt} {f : Addr} {fd : FuncData} {ps ks : List Str} {n : Nat} {g : List Value → List Value → List Value} {gV : List V → List V → List V} (F : Fun K x qual st f fd)
    (h : ∀ (kV doc pm : Value) (an : Option Addr) (cdv ct : Value) (us ws : List Value), us.length = n → ws.length = ks.length → bindArgs (PySem.W.fnOf x qual (defArgs st) (defBody st) (defScope st) .none kV doc pm an cdv ct) ⟨us, ks.zip ws⟩ = pure (ps.zip (g us ws)))
    (hrel : ∀ {vs : List V} {us : List Value} {zs : List V} {ws : List Value}, Vals vs us → Vals zs ws → Vals (gV vs zs) (g us ws)) : KBn K fd ps n ks g gV := by
  obtain ⟨oc, od, kV, doc, pm, an, cdv, ct, osl, rfl, lk, hcd⟩ := F.ex
  exact ⟨fun s us ws _ l1 l2 => .of_eq (h kV doc pm an cdv ct us ws l1 l2), fun r1 r2 => hrel r1 r2⟩
end
theorem vals_rev : ∀ {vs : List V} {us : List Value}, Vals vs us → Vals vs.reverse us.reverse
  | _, _, .nil => .nil
  | _, _, .cons r t => by
    rw [List.reverse_cons, List.reverse_cons]
    exact (vals_rev t).append (.cons r .nil)
section
variable {X : Cx} {k j n : Nat} {C : Addr} {x m : Str} {sp : Sp} {p pos apos : Pos} {e o : Expr} {es : List Expr} {kws : List Keyword} {ta : TE} {t tk : TA} {ks : List Str} {gV : List V → List V → List V}
theorem pe_c (c : Cal X.prog X.w X.K X.mg X.base k x sp) (hr : Room j X.A) (hk : k ≤ j) (hg : Gl X x) (ha : PA X (e :: es) t)
    (hdb : (x == ("__debug__" : Str)) = false := by decide) (he : starEach (e :: es) X.env = (false, eval e X.env) :: starEach es X.env := by rfl) (hpl : (backTo pos (starEach es X.env)).any (·.1) = false := by rfl) :
    PE X (.Call (.Name x p) (e :: es) [] pos) (tCall sp [] E0 t) := by
  obtain ⟨f, fd, ps, F, hm, kp, b⟩ := c.ex
  exact pe_call F (hr.mono hk) hg hm kp b .nil pass0 ha hdb he hpl
theorem pe_c0 (c : Cal X.prog X.w X.K X.mg X.base k x sp) (hr : Room j X.A) (hk : k ≤ j) (hg : Gl X x)
    (hdb : (x == ("__debug__" : Str)) = false := by decide) :
    PE X (.Call (.Name x p) [] [] pos) (tCall sp [] E0 tNil) := by
  obtain ⟨f, fd, ps, F, hm, kp, b⟩ := c.ex
  exact pe_call0 F (hr.mono hk) hg hm kp b .nil pass0 hdb
theorem pe_mt {pl : Sem Bool} (c : Met X.prog X.w X.K X.mg X.base k C m sp) (hr : Room j X.A) (hk : k ≤ j) (he : PE X o ta) (ha : PA X (e :: es) t)
    (hst : starEach (e :: es) X.env = (false, eval e X.env) :: starEach es X.env := by rfl) (hpl : (backTo pos (starEach es X.env)).any (·.1) = false := by rfl)
    (ht : eval (.Call (.Attribute o m apos) (e :: es) [] pos) X.env = (do
      let ov ← eval o X.env
      standAt apos.atName
      let (f, first) ← holding [ov] (getMethod ov m pl)
      callWith pos f first (backTo pos (starEach (e :: es) X.env)) (backToKw pos (keywordEach [] X.env))) := by rfl) :
    PE X (.Call (.Attribute o m apos) (e :: es) [] pos) (tMeth C m sp [] E0 ta t) := by
  obtain ⟨f, fd, ps, hc, hm, F, b⟩ := c.ex
  exact pe_meth (pl := pl) he hc hm F (hr.mono hk) b .nil pass0 ha hst hpl ht
theorem pe_mt0 {pl : Sem Bool} (c : Met X.prog X.w X.K X.mg X.base k C m sp) (hr : Room j X.A) (hk : k ≤ j) (he : PE X o ta)
    (ht : eval (.Call (.Attribute o m apos) [] [] pos) X.env = (do
      let ov ← eval o X.env
      standAt apos.atName
      let (f, first) ← holding [ov] (getMethod ov m pl)
      callWith pos f first (backTo pos (starEach [] X.env)) (backToKw pos (keywordEach [] X.env))) := by rfl) :
    PE X (.Call (.Attribute o m apos) [] [] pos) (tMeth C m sp [] E0 ta tNil) := by
  obtain ⟨f, fd, ps, hc, hm, F, b⟩ := c.ex
  exact pe_meth0 (pl := pl) he hc hm F (hr.mono hk) b .nil pass0 ht
/-- f(k = v, ..) -/
def tCallK0 (m : Nat) (sp : Sp) (gV : List V → List V → List V) (E : XK) (tk : TA) : TE := fun σ H Q => tk σ H fun zs H2 => zs.length = m ∧ sp (gV [] zs) H2 Q E
theorem pe_cK0 (c : CalK X.prog X.w X.K X.mg X.base k x 0 ks gV sp) (hr : Room j X.A) (hk : k ≤ j) (hg : Gl X x) (hkw : PK X kws tk)
    (hall : (backToKw pos (keywordEach kws X.env)).all (·.1.isSome) = true := by rfl) (hks : (backToKw pos (keywordEach kws X.env)).filterMap (·.1) = ks := by rfl) (hdb : (x == ("__debug__" : Str)) = false := by decide)
    (hpl : ((backTo pos (starEach [] X.env)).any (·.1) || (backToKw pos (keywordEach kws X.env)).any (·.1.isNone)) = false := by rfl) :
    PE X (.Call (.Name x p) [] kws pos) (tCallK0 ks.length sp gV E0 tk) := by
  obtain ⟨f, fd, ps, g, F, hm, kp, hb⟩ := c.ex
  refine ⟨fun pins s σ H Q I h => ?_⟩
  refine wpAny_Call_Name_kw (ld_glob I hg hm ?_ hdb)
  refine PySem.W.callWith_KW0 (h₀ := X.base) I.ok.mod.kin kp hall ?_ hpl
  refine thn (hkw.run pos pins s σ H _ I h) fun ws s2 ⟨zs, H2, I2, rz, l2, q2⟩ => ⟨I2.kIn, ?_⟩
  rw [hks]
  have r2 : Vals (gV [] zs) (g [] ws) := hb.rel (vs := []) (us := []) .nil rz
  refine wpAny_call (codeAny_mono (F.run X.A X.stack s2 H2 ⟨[], ks.zip ws⟩ (g [] ws) (gV [] zs) Q E0 (hr.mono hk) I2.env0 (hb.to s2 [] ws I2.kIn rfl (rz.length.symm.trans l2)) r2 q2) fun r s' hq => ?_)
  cases r with
  | error e => exact pass0 pins σ H2 s2 e s' I2 hq
  | ok fl =>
    cases fl with
    | ret u => exact I2.after hq
    | next => exact False.elim hq
    | brk => exact False.elim hq
    | cont => exact False.elim hq
/-- C() of a class that has no __init__ of its own -/
structure Mk0 (K : PySem.W.Frag) (C : Addr) : Prop where
  makes : PySem.W.makesIn K C = true
  init : PySem.W.findIn K (.ref C) "__init__" = some (some (.builtin "object.__init__"))
  kp : PySem.W.keepIn K (.ref C) = true
  top : PySem.W.mroIn K C (.type "object") = some true
def tNew0 (C : Addr) : TE := fun _ H Q => ∀ x dx, H x = none → H dx = none → dx ≠ x → Q (.ref x) (upd (upd H dx (.own x)) x (.ins C dx []))
theorem pe_new0 (M : Mk0 X.K C) (hg : Gl X x) (hm : X.mg x = some (.ref C)) (hdb : (x == ("__debug__" : Str)) = false := by decide) : PE X (.Call (.Name x p) [] [] pos) (tNew0 C) := by
  refine ⟨fun pins s σ H Q I h => ?_⟩
  refine wpAny_Call_Name_kw (ld_glob I hg hm ?_ hdb)
  refine PySem.W.callWith_K0 I.kIn M.kp ?_
  have hq := h (s.heap.objs.size + 1) s.heap.objs.size (I.hok.fresh (Nat.le_succ _)) (I.hok.fresh (Nat.le_refl _)) (Nat.ne_of_lt (Nat.lt_succ_self _))
  have I2 := Inv.made (C := C) I
  have hx : ((s.heap.push PySem.W.emptyDict).push (PySem.W.instObj C s.heap.objs.size)).get? (s.heap.objs.size + 1) = some (PySem.W.instObj C s.heap.objs.size) := by
    have := Heap.get?_push_size (s.heap.push PySem.W.emptyDict) (o := PySem.W.instObj C s.heap.objs.size) rfl
    rwa [Heap.size_push] at this
  have t1 : PySem.W.Looks (model X.prog X.w) ((s.heap.push PySem.W.emptyDict).push (PySem.W.instObj C s.heap.objs.size)) (typeOf (.ref (s.heap.objs.size + 1))) (.ref C) := (PySem.W.Looks.ld hx).andThen .now
  have t2 : PySem.W.Looks (model X.prog X.w) ((s.heap.push PySem.W.emptyDict).push (PySem.W.instObj C s.heap.objs.size)) (isInstance (.ref (s.heap.objs.size + 1)) (.type "object")) true := t1.andThen (PySem.W.looks_mroIn I2.kIn M.top)
  refine wpAny_call (make_map0 I.kIn M.makes M.init (fun self => PySem.W.Looks.of_pure (PySem.W.oi_bind self)) ?_)
  refine codeAny_call_builtin PySem.W.oi_plain PySem.W.entry_oi (@PySem.W.check_slot (model X.prog X.w) _ _ _ "object.__init__" "object" "__init__" (.ref (s.heap.objs.size + 1)) [] [] _ PySem.W.oi_kind PySem.W.oi_split t2 (PySem.W.oi_args _) ?_)
  rw [PySem.W.oi_run]
  exact wpAny_pure (And.intro rfl ⟨V.ref (s.heap.objs.size + 1), _, I2, rfl, hq⟩)
end
end KB

/-! own errors: super().__init__('..'), then one or two fields -/
namespace KB
open PySem PySem.W PySem.Calls PyProof.Rows PySem.HandSPX
def xSup (msg : Str) (j : Nat) (p0 p1 p2 p3 p4 p5 : Pos) : Stmt := .Expr (.Call (.Attribute (.Call (.Name "super" p0) [] [] p1) "__init__" p2) [.Constant (.str msg) j p3] [] p4) p5
def xSet (f : Str) (q1 q2 q3 q4 : Pos) : Stmt := .Assign [.Attribute (.Name "self" q1) f q2] (.Name f q3) q4
def xArg (x : Str) (p : Pos) : Arg := { arg := x, annotation := none, pos := p }
def xArgs (l : List Arg) : Arguments := { posonlyargs := [], args := l, vararg := none, kwonlyargs := [], kw_defaults := [], kwarg := none, defaults := [] }
/-- what the written part says of the class at C, of its __init__ at fI, whose class cell is at cc -/
structure XCls (P : Program) (K : Frag) (mg : Str → Option Value) (x qual : Str) (C fI : Addr) (st : Stmt) : Prop where
  gC : mg x = some (.ref C)
  cls : ∃ nm q N bs bm sn sub ab col dd k0 k1 k2 k3 k5, K.lookup C = some (excClassObj nm q C N bs bm true sn sub ab col dd k0 k1 k2 k3 k5 "ValueError.__new__") ∧ refsVE bm = true
  sa : findIn K (.ref C) "__setattr__" = some (some (.builtin "object.__setattr__"))
  ga : findIn K (.ref C) "__getattribute__" = some (some (.builtin "BaseException.__getattribute__"))
  gg : findIn K (.ref C) "__getattr__" = some none
  iC : findIn K (.ref C) "__init__" = some (some (.ref fI))
  tC : typeIn K (.ref fI) = some (.type "function")
  kC : keepIn K (.ref C) = true
  exC : subIn K (.ref C) (.type "BaseException") = some true
  veC : subIn K (.ref C) (.type "ValueError") = some true
  self : mroIn K C (.ref C) = some true
  tyC : typeIn K (.ref C) = some (.type "type")
  hdC : hasDictIn K C = true
  te : exmOne K (.ref C) (.ref C) = some true
  up : ks_superIn K C C "__init__" = some (some (.builtin "ValueError.__init__"))
  sup : mg "super" = none
  opq : nsIn K cStatics "thirdparty.any" = some none
  top : (P.main.scope.names.lookup ("super" : Str)).isSome = false
  fn : ∃ (oc : Value) (od : Option Addr) (doc pm : Value) (an : Option Addr) (ct : Value) (osl : Array (Option Value)) (cda cc : Addr) (ccl cl : Value) (cdd cld : Option Addr) (ccs csl : Array (Option Value)) (vs : Array Value) (file : Str) (tf : Tok),
    K.lookup fI = some ⟨oc, od, .func (ksFn "__init__" qual (L2.defArgs st) (L2.defBody st) (L2.defScope st) .none .none doc pm an (.ref cda) ct cc), osl⟩ ∧ codeIn K (.ref cda) qual = true ∧
    K.lookup cda = some ⟨ccl, cdd, .fields vs, ccs⟩ ∧ vs[2]? = some (.str file tf) ∧ ((P.main.file : Str) == file) = true ∧ K.lookup cc = some ⟨cl, cld, .cell (some (.ref C)), csl⟩
/-- the scope of such an __init__ with these fields -/
structure XScope (sc : Scope) (fs : List Str) : Prop where
  kind : sc.kind = .function
  co : sc.isCoroutine = false
  gen : sc.isGenerator = false
  nocell : ∀ x ∈ sc.names, x.2 ≠ .cell
  self : sc.names.lookup ("self" : Str) = some NameKind.local
  fld : ∀ f ∈ fs, sc.names.lookup f = some NameKind.local
  cls : sc.names.lookup ("__class__" : Str) = some NameKind.free
  sup : sc.names.lookup ("super" : Str) = some NameKind.globalImplicit

section
variable {prog : Program} {w : World} {A : Around} {E : Value → Shared → Prop} {h : Heap} {g : Array GenState} {d : Drawn} {t : Nat} {os : OsState} {K : Frag} {mg : Str → Option Value}
/-- a call of a method of super(), its words in one line -/
theorem x_call {env : Env} {msg nm : Str} {j : Nat} {p0 p1 p2 p3 p4 : Pos} (hl : (p2.endLine == p4.line) = true) :
    eval (.Call (.Attribute (.Call (.Name "super" p0) [] [] p1) nm p2) [.Constant (.str msg) j p3] [] p4) env = (do
      let ov ← attributeBase (.Call (.Name "super" p0) [] [] p1) nm env (eval (.Call (.Name "super" p0) [] [] p1) env)
      standAt p2.atName
      let (f, first) ← holding [ov] (getMethod ov nm (do return (← importBound (.Call (.Name "super" p0) [] [] p1) env).getD true))
      callWith p4 f first (backTo p4 (starEach [.Constant (.str msg) j p3] env)) []) := by
  have e : methodCallPos true (.Call (.Name "super" p0) [] [] p1) env p2 p4 = pure p4 := by
    unfold methodCallPos
    rw [hl]
    rfl
  have e2 : methodCallForm ([Expr.Constant (.str msg) j p3].length + 0) (backTo p4 (starEach [.Constant (.str msg) j p3] env)) [] = true := rfl
  show (attributeBase _ _ _ _ >>= fun ov => standAt _ >>= fun _ => methodCall _ _ _ _ _ ov _ _ _) = _
  unfold methodCall
  show (attributeBase _ _ _ _ >>= fun ov => standAt _ >>= fun _ => holding [ov] (calleeOf (methodCallForm ([Expr.Constant (.str msg) j p3].length + 0) (backTo p4 (starEach [.Constant (.str msg) j p3] env)) []) _ _ ov _) >>= fun z =>
    methodCallPos (methodCallForm ([Expr.Constant (.str msg) j p3].length + 0) (backTo p4 (starEach [.Constant (.str msg) j p3] env)) []) _ _ _ _ >>= fun cp => callWith cp z.1 z.2 _ _) = _
  rw [e2, e]
  rfl
/-- super().__init__('..') as the first statement -/
theorem x_super {x C fI t0 L cc cda : Addr} {qual nm2 : Str} {fs : List Str} {mL : Str → Option Value} {st : Stmt} {sc : Scope} {body rest : List Stmt} {fd : FuncData} {ar : Arg} {vs : Array Value} {file : Str} {tf : Tok} {oc ccl cl : Value} {od cdd cld : Option Addr} {osl ccs csl : Array (Option Value)}
    {msg : Str} {j : Nat} {p0 p1 p2 p3 p4 p5 : Pos} {Q : Flow → Shared → Prop} (T : XCls prog K mg nm2 qual C fI st) (S : XScope sc fs) (X : K.In h) (hg : h.Ns mainGlobals mg) (hb : ∃ mb, h.Ns builtinsNs mb ∧ ∀ x : Str, x ≠ "__name__" → mb x = bootBuiltins x)
    (hns : h.Ns L mL) (hL : mL ar.arg = some (.ref x)) (hlo : sc.names.lookup ar.arg = some .local)
    (hl : (p2.endLine == p4.line) = true) (hx : h.get? x = some (excO C t0)) (hf : K.lookup fI = some ⟨oc, od, .func fd, osl⟩) (hp : (fd.params.posonlyargs ++ fd.params.args).head? = some ar)
    (hcode : K.lookup cda = some ⟨ccl, cdd, .fields vs, ccs⟩) (hvs : vs[2]? = some (.str file tf)) (hfile : ((prog.main.file : Str) == file) = true) (hcell : K.lookup cc = some ⟨cl, cld, .cell (some (.ref C)), csl⟩)
    (hq : ∀ h' t' t1, (∀ b o, b ≠ x → h.get? b = some o → h'.get? b = some o) → h'.get? x = some (excO C t1) → wpAny (model prog w) A (execs rest (ksEnv qual sc L fI (.ref cda) cc)) Q E ⟨h', g, d, t', os⟩) :
    _root_.PySem.wpAt (model prog w) A (.func body (ksEnv qual sc L fI (.ref cda) cc)) (execs (xSup msg j p0 p1 p2 p3 p4 p5 :: rest) (ksEnv qual sc L fI (.ref cda) cc)) Q E ⟨h, g, d, t, os⟩ := by
  obtain ⟨kind, nms, ig, ic, mo⟩ := sc
  have ek : kind = .function := S.kind
  subst ek
  obtain ⟨nm, q, N, bs, bm, sn, sub, ab, col, dd, k0, k1, k2, k3, k5, hC, hbm⟩ := T.cls
  obtain ⟨mb, hb1, hb2⟩ := hb
  have hcl : clsIn K C = some { name := nm, bases := bs, mro := .ref C :: bm, ns := N, qualname := q, hasDict := true, slotNames := sn, subclasses := sub, abstract := ab, collection := col, hasDel := false } := by unfold clsIn; rw [hC] <;> rfl
  have hCh := X _ _ hC
  refine ks_wpAt_execs_cons (ks_wpAt_Expr_any (ks_wpAt_MethodCall ?_ (x_call hl)) (by rfl) (by rfl))
  refine ks_wpAt_super_base (env := ksEnv qual { kind := .function, names := nms, isGenerator := ig, isCoroutine := ic, more := mo } L fI (.ref cda) cc) S.sup S.cls (by decide) rfl (X _ _ hf) rfl hp rfl (X _ _ hcode) rfl hvs hfile T.top ?_
  refine ks_loadName_global S.kind S.sup (loadGlobal_builtin (env := ksEnv qual { kind := .function, names := nms, isGenerator := ig, isCoroutine := ic, more := mo } L fI (.ref cda) cc) hg T.sup hb1 ((hb2 _ (by decide)).trans (by decide +kernel)) ⟨rfl, ?_⟩)
  refine wpAny_loadName_free S.kind S.cls rfl ⟨_, X _ _ hcell, rfl⟩ ?_
  refine wpAny_loadName_local S.kind hlo hns hL ?_
  refine ks_wpAny_isType_cls hCh rfl ⟨rfl, ?_⟩
  refine ks_wpAny_call_super hCh rfl hx rfl (fun c e => by cases e) (looks_mroIn X T.self) (fun h1 e1 kk1 => ?_)
  have X1 : K.In h1 := X.keeps kk1
  have hx1 := kk1 _ _ hx
  have hxC : x ≠ C := fun e => by rw [e, hCh] at hx; cases hx
  have I1 : InstAt h1 x (excO C t0) C none := ⟨hx1, rfl, rfl, trivial⟩
  have up := T.up
  unfold ks_superIn at up
  rw [hcl] at up
  refine kxs_getMethod kxs_ValueError e1 (looks_opaque X1 T.opq) (l₀ := .ref C :: bm) (fun A Q E s k q => wpAny_bind ((looks_clsIn X1 hcl) A _ E s k (wpAny_pure q))) rfl X1 up (I1.type.andThen (looks_subIn X1 T.veC)) hxC (by decide) ?_
  have hu : (h1.push (kxs_mw "ValueError.__init__" x)).get? h1.objs.size = some (kxs_mw "ValueError.__init__" x) := Heap.get?_push_at rfl rfl
  have kk2 : ∀ b o, h1.get? b = some o → (h1.push (kxs_mw "ValueError.__init__" x)).get? b = some o := fun b o e => Heap.get?_push_of_some _ e
  refine kxs_callWith (i := "ValueError.__init__") (x := x) (by rfl) ?_
  refine L2.FK.evalArgs_any (by rfl) (spliced_more (e := .Constant (.str msg) j p3) (rest := []) ?_ (by rfl))
  refine Calls.Constant_str ?_
  refine spliced_none ⟨hu, ?_⟩
  refine wpAny_call (codeAny_of_tree ?_)
  show wpAny _ A.in1 (callAny (.ref h1.objs.size) ⟨_, []⟩) _ _ _
  simp only [callAny]
  refine wpAny_bind (wpAny_load hu ?_)
  simp only [kxs_mw, show (Value.type "method-wrapper" == Value.type "method" || Value.type "method-wrapper" == Value.type "builtin_function_or_method" || Value.type "method-wrapper" == Value.type "method-wrapper") = true by decide, if_true]
  refine KFB.if_so (by decide) ?_
  refine wpAny_bind (check_bound_init F.excBase_ValueError.toExcCallFacts (kk2 _ _ (kk1 _ _ hCh)) (kk2 _ _ hx1) rfl ?_)
  refine wpAny_bind (wpAny_pure (wpAny_pure ?_))
  refine ⟨plainId_quiet F.excBase_ValueError.init.plain _, codeAny_builtin F.excBase_ValueError.initEntry ?_⟩
  refine exc_init_tree (cls := .ref C) (t0 := t0) (dv := none) (c2 := .none) (c3 := .none) (b4 := .bool false) (kk2 _ _ hx1) (by show 1 ≤ sizeLine; rw [sizeLine_eq]; decide) (fun h' kk3 e3 _ => ?_)
  exact wpAt_of_wpAny (hq _ _ _ (fun b o hb e => kk3 b o hb (kk2 _ _ (kk1 _ _ e))) e3)

theorem x_ld {M : Model} {s : Shared} {qual : Str} {sc : Scope} {L a cc : Addr} {cd : Value} {m : Str → Option Value} {x : Str} {pos : Pos} {v : Value} {Q : Value → Shared → Prop} (hn : s.heap.Ns L m) (hv : m x = some v) (h : Q v s)
    (hk : sc.kind = .function) (hl : sc.names.lookup x = some .local) (hd : (x == ("__debug__" : Str)) = false) :
    wpAny M A (eval (.Name x pos) (ksEnv qual sc L a cd cc)) Q E s := wpAny_Name (wpAny_loadName_local hk hl hn hv h) hd
/-- what the made exception's __init__ leaves -/
structure XEnd (h h' : Heap) (x C dx : Addr) (m : Str → Option Value) : Prop where
  keep : ∀ b o, b ≠ x → h.get? b = some o → h'.get? b = some o
  obj : ∃ t1, h'.get? x = some { cls := .ref C, dict := some dx, data := .fields #[.ref t1, .none, .none, .none, .bool false, .none] }
  dbig : h.objs.size ≤ dx
  dne : dx ≠ x
  ns : h'.Ns1 dx m
structure XBody (st : Stmt) (fs : List Str) : Prop where
  ex : ∃ (msg : Str) (j : Nat) (p0 p1 p2 p3 p4 p5 : Pos) (sets : List Stmt), (p2.endLine == p4.line) = true ∧ L2.defBody st = xSup msg j p0 p1 p2 p3 p4 p5 :: sets ∧
    ((∃ f q1 q2 q3 q4, fs = [f] ∧ sets = [xSet f q1 q2 q3 q4]) ∨ ∃ f f2 q1 q2 q3 q4 r1 r2 r3 r4, fs = [f, f2] ∧ sets = [xSet f q1 q2 q3 q4, xSet f2 r1 r2 r3 r4])
  head : ∃ ar, ((L2.defArgs st).posonlyargs ++ (L2.defArgs st).args).head? = some ar ∧ ar.arg = "self"
  bind : ∀ (qual : Str) (doc pm : Value) (an : Option Addr) (cd ct : Value) (cc : Addr) (u : Value) (us : List Value), us.length = fs.length →
    bindArgs (ksFn "__init__" qual (L2.defArgs st) (L2.defBody st) (L2.defScope st) .none .none doc pm an cd ct cc) ⟨u :: us, []⟩ = pure ((("self" : Str), u) :: fs.zip us)
  sc : XScope (L2.defScope st) fs
  dbg : ∀ f ∈ fs, (f == ("__debug__" : Str)) = false
  nd : (("self" : Str) :: fs).Nodup
def mOf (l : List (Str × Value)) : Str → Option Value := fun y => l.lookup y

theorem x_set {s : Shared} {x C fI L cc : Addr} {cda : Value} {qual nm2 f : Str} {fs : List Str} {mL : Str → Option Value} {st : Stmt} {sc : Scope} {v : Value} {ox : Obj} {od : Option Obj} {q1 q2 q3 q4 : Pos} {Q : Flow → Shared → Prop}
    (T : XCls prog K mg nm2 qual C fI st) (S : XScope sc fs) (X : K.In s.heap) (hns : s.heap.Ns L mL) (hself : mL "self" = some (.ref x)) (hf : f ∈ fs) (hv : mL f = some v) (hd : (f == ("__debug__" : Str)) = false) (J : InstAt s.heap x ox C od)
    (h : codeAny (model prog w) A (.call (.builtin "object.__setattr__") ⟨[.ref x, .str f s.toks, v], []⟩) (fun r s' => match r with | .ok (.ret _) => Q .next s' | .ok _ => False | .error e => E e s') { s with toks := s.toks + 1 }) :
    wpAny (model prog w) A (exec (xSet f q1 q2 q3 q4) (ksEnv qual sc L fI cda cc)) Q E s := by
  refine plainObj_wpAny_Assign_Attribute ?_ (by rfl)
  refine x_ld hns hv ?_ S.kind (S.fld f hf) hd
  refine x_ld hns hself ?_ S.kind S.self (by decide)
  exact set_plain X J T.sa h
theorem x_init1 {s : Shared} {x C fI t0 : Addr} {qual nm2 f : Str} {st : Stmt} {v : Value} {R : Result → Shared → Prop} (T : XCls prog K mg nm2 qual C fI st) (B : XBody st [f]) (noF : findIn K (.ref C) f = some none)
    (X : K.In s.heap) (hg : s.heap.Ns mainGlobals mg) (hb : ∃ mb, s.heap.Ns builtinsNs mb ∧ ∀ x : Str, x ≠ "__name__" → mb x = bootBuiltins x) (hlim : s.heap.NoLimit) (hx : s.heap.get? x = some (excO C t0)) (hnx : K.lookup x = none) (hgx : x ≠ mainGlobals) (hbx : x ≠ builtinsNs) (hroom : A.depth < recursionLimit)
    (hq : ∀ h' tk dx, XEnd s.heap h' x C dx (fun y => if y = f then some v else none) → R (.ok (.ret .none)) { s with heap := h', toks := tk }) :
    codeAny (model prog w) A (.call (.ref fI) ⟨[.ref x, v], []⟩) R s := by
  obtain ⟨oc, od, doc, pm, an, ct, osl, cda, cc, ccl, cl, cdd, cld, ccs, csl, vs, file, tf, ho, hcd, hcode, hvs, hfile, hcell⟩ := T.fn
  obtain ⟨nm, q, N, bs, bm, sn, sub, ab, col, dd, k0, k1, k2, k3, k5, hC, hbm⟩ := T.cls
  have hcl : clsIn K C = some { name := nm, bases := bs, mro := .ref C :: bm, ns := N, qualname := q, hasDict := true, slotNames := sn, subclasses := sub, abstract := ab, collection := col, hasDel := false } := by unfold clsIn; rw [hC] <;> rfl
  obtain ⟨msg, j, p0, p1, p2, p3, p4, p5, sets, hl, eB, eS⟩ := B.ex
  obtain ⟨q1, q2, q3, q4, rfl⟩ : ∃ q1 q2 q3 q4, sets = [xSet f q1 q2 q3 q4] := by
    rcases eS with ⟨f', q1, q2, q3, q4, e1, e2⟩ | ⟨f', f2, q1, q2, q3, q4, r1, r2, r3, r4, e1, e2⟩
    · cases e1
      exact ⟨q1, q2, q3, q4, e2⟩
    · cases e1
  obtain ⟨ar, hhead, har⟩ := B.head
  have hbd := B.bind qual doc pm an (.ref cda) ct cc (.ref x) [v] rfl
  rw [eB] at ho hbd
  have S := B.sc
  generalize L2.defScope st = sc at ho S hbd
  have fne : f ≠ "self" := by
    have z := B.nd
    rw [List.nodup_cons] at z
    exact fun e => z.1 (by rw [e]; exact List.mem_cons_self ..)
  have hb1 : (([(("self" : Str), Value.ref x), (f, v)]).reverse.lookup ("self" : Str)) = some (.ref x) := by
    show List.lookup ("self" : Str) [(f, v), (("self" : Str), Value.ref x)] = _
    have z : (("self" : Str) == f) = false := by simpa using fun e => fne e.symm
    simp [List.lookup, z]
  have hb2 : (([(("self" : Str), Value.ref x), (f, v)]).reverse.lookup f) = some v := by
    show List.lookup f [(f, v), (("self" : Str), Value.ref x)] = _
    simp [List.lookup]
  refine ks_codeAny_call_defAt (binds := [("self", .ref x), (f, v)]) hroom (X _ _ ho) rfl hlim (codeRec_of X hcd) rfl (.of_eq hbd) S.nocell ?_ (fun h₁ hns hk₁ => ?_) S.co S.gen S.kind
  · intro y hy
    rcases List.mem_cons.mp hy with rfl | hy
    · exact S.self
    · rcases List.mem_cons.mp hy with rfl | hy
      · exact S.fld f (by simp)
      · cases hy
  have X₁ : K.In h₁ := X.keeps hk₁
  have hx₁ := hk₁ _ _ hx
  obtain ⟨mb, hb3, hb4⟩ := hb
  refine x_super T S X₁ (hg.keeps hk₁) ⟨mb, hb3.keeps hk₁, hb4⟩ hns (by rw [har]; exact hb1) (by rw [har]; exact S.self) hl hx₁ ho hhead hcode hvs hfile hcell (fun h2 t2 t1 kk2 hx2 => ?_)
  have hLx : s.heap.objs.size ≠ x := Nat.ne_of_gt (Heap.lt_size hx)
  have X2 : K.In h2 := fun b o e => kk2 b o (fun z => by rw [z, hnx] at e; cases e) (X₁ b o e)
  have hns2 : h2.Ns s.heap.objs.size (fun y => [(("self" : Str), Value.ref x), (f, v)].reverse.lookup y) := by
    obtain ⟨oL, es, ep, e1, r⟩ := hns
    exact ⟨oL, es, ep, kk2 _ _ hLx e1, r⟩
  refine wpAny_execs_cons (x_set T S X2 hns2 hb1 (by simp) hb2 (B.dbg f (by simp)) (ox := excO C t1) (od := none) ⟨hx2, rfl, rfl, trivial⟩ ?_)
  refine exc_osa X2 hx2 hcl (show refsVE (.ref C :: bm) = true from hbm) rfl noF (fun h3 tk3 dx kk3 dn dne hx3 hn3 => ?_)
  show wpAny _ _ (execs _ _) _ _ _
  have z2 : s.heap.objs.size < h2.objs.size := hns2.lt
  exact wpAny_execs_nil (hq h3 tk3 dx ⟨fun b o hb e => kk3 b o hb (kk2 b o hb (hk₁ b o e)), ⟨t1, hx3⟩, Nat.le_of_lt (Nat.lt_of_lt_of_le z2 dn), dne, hn3⟩)
theorem x_init2 {s : Shared} {x C fI t0 : Addr} {qual nm2 f f2 : Str} {st : Stmt} {v v2 : Value} {R : Result → Shared → Prop} (T : XCls prog K mg nm2 qual C fI st) (B : XBody st [f, f2]) (noF : findIn K (.ref C) f = some none) (noF2 : findIn K (.ref C) f2 = some none)
    (X : K.In s.heap) (hg : s.heap.Ns mainGlobals mg) (hb : ∃ mb, s.heap.Ns builtinsNs mb ∧ ∀ x : Str, x ≠ "__name__" → mb x = bootBuiltins x) (hlim : s.heap.NoLimit) (hx : s.heap.get? x = some (excO C t0)) (hnx : K.lookup x = none) (hgx : x ≠ mainGlobals) (hbx : x ≠ builtinsNs) (hroom : A.depth < recursionLimit)
    (hq : ∀ h' tk dx, XEnd s.heap h' x C dx (fun y => if y = f2 then some v2 else if y = f then some v else none) → R (.ok (.ret .none)) { s with heap := h', toks := tk }) :
    codeAny (model prog w) A (.call (.ref fI) ⟨[.ref x, v, v2], []⟩) R s := by
  obtain ⟨oc, od, doc, pm, an, ct, osl, cda, cc, ccl, cl, cdd, cld, ccs, csl, vs, file, tf, ho, hcd, hcode, hvs, hfile, hcell⟩ := T.fn
  obtain ⟨nm, q, N, bs, bm, sn, sub, ab, col, dd, k0, k1, k2, k3, k5, hC, hbm⟩ := T.cls
  have hcl : clsIn K C = some { name := nm, bases := bs, mro := .ref C :: bm, ns := N, qualname := q, hasDict := true, slotNames := sn, subclasses := sub, abstract := ab, collection := col, hasDel := false } := by unfold clsIn; rw [hC] <;> rfl
  obtain ⟨msg, j, p0, p1, p2, p3, p4, p5, sets, hl, eB, eS⟩ := B.ex
  obtain ⟨q1, q2, q3, q4, r1, r2, r3, r4, rfl⟩ : ∃ q1 q2 q3 q4 r1 r2 r3 r4, sets = [xSet f q1 q2 q3 q4, xSet f2 r1 r2 r3 r4] := by
    rcases eS with ⟨f', q1, q2, q3, q4, e1, e2⟩ | ⟨f', f2', q1, q2, q3, q4, r1, r2, r3, r4, e1, e2⟩
    · cases e1
    · cases e1
      exact ⟨q1, q2, q3, q4, r1, r2, r3, r4, e2⟩
  obtain ⟨ar, hhead, har⟩ := B.head
  have hbd := B.bind qual doc pm an (.ref cda) ct cc (.ref x) [v, v2] rfl
  rw [eB] at ho hbd
  have S := B.sc
  generalize L2.defScope st = sc at ho S hbd
  have fne : f ≠ "self" ∧ f2 ≠ "self" ∧ f ≠ f2 := by
    have z := B.nd
    rw [List.nodup_cons, List.nodup_cons] at z
    exact ⟨fun e => z.1 (by rw [e]; simp), fun e => z.1 (by rw [e]; simp), fun e => z.2.1 (by rw [e]; simp)⟩
  have hb1 : (([(("self" : Str), Value.ref x), (f, v), (f2, v2)]).reverse.lookup ("self" : Str)) = some (.ref x) := by
    show List.lookup ("self" : Str) [(f2, v2), (f, v), (("self" : Str), Value.ref x)] = _
    have z : (("self" : Str) == f) = false := by simpa using fun e => fne.1 e.symm
    have z2 : (("self" : Str) == f2) = false := by simpa using fun e => fne.2.1 e.symm
    simp [List.lookup, z, z2]
  have hb2 : (([(("self" : Str), Value.ref x), (f, v), (f2, v2)]).reverse.lookup f) = some v := by
    show List.lookup f [(f2, v2), (f, v), (("self" : Str), Value.ref x)] = _
    have z : (f == f2) = false := by simpa using fne.2.2
    simp [List.lookup, z]
  have hb2' : (([(("self" : Str), Value.ref x), (f, v), (f2, v2)]).reverse.lookup f2) = some v2 := by
    show List.lookup f2 [(f2, v2), (f, v), (("self" : Str), Value.ref x)] = _
    simp [List.lookup]
  refine ks_codeAny_call_defAt (binds := [("self", .ref x), (f, v), (f2, v2)]) hroom (X _ _ ho) rfl hlim (codeRec_of X hcd) rfl (.of_eq hbd) S.nocell ?_ (fun h₁ hns hk₁ => ?_) S.co S.gen S.kind
  · intro y hy
    rcases List.mem_cons.mp hy with rfl | hy
    · exact S.self
    · rcases List.mem_cons.mp hy with rfl | hy
      · exact S.fld f (by simp)
      · rcases List.mem_cons.mp hy with rfl | hy
        · exact S.fld f2 (by simp)
        · cases hy
  have X₁ : K.In h₁ := X.keeps hk₁
  have hx₁ := hk₁ _ _ hx
  obtain ⟨mb, hb3, hb4⟩ := hb
  refine x_super T S X₁ (hg.keeps hk₁) ⟨mb, hb3.keeps hk₁, hb4⟩ hns (by rw [har]; exact hb1) (by rw [har]; exact S.self) hl hx₁ ho hhead hcode hvs hfile hcell (fun h2 t2 t1 kk2 hx2 => ?_)
  have hLx : s.heap.objs.size ≠ x := Nat.ne_of_gt (Heap.lt_size hx)
  have X2 : K.In h2 := fun b o e => kk2 b o (fun z => by rw [z, hnx] at e; cases e) (X₁ b o e)
  have hns2 : h2.Ns s.heap.objs.size (fun y => [(("self" : Str), Value.ref x), (f, v), (f2, v2)].reverse.lookup y) := by
    obtain ⟨oL, es, ep, e1, r⟩ := hns
    exact ⟨oL, es, ep, kk2 _ _ hLx e1, r⟩
  refine wpAny_execs_cons (x_set T S X2 hns2 hb1 (by simp) hb2 (B.dbg f (by simp)) (ox := excO C t1) (od := none) ⟨hx2, rfl, rfl, trivial⟩ ?_)
  refine exc_osa X2 hx2 hcl (show refsVE (.ref C :: bm) = true from hbm) rfl noF (fun h3 tk3 dx kk3 dn dne hx3 hn3 => ?_)
  show wpAny _ _ (execs _ _) _ _ _
  have z2 : s.heap.objs.size < h2.objs.size := hns2.lt
  have X3 : K.In h3 := fun b o e => kk3 b o (fun z => by rw [z, hnx] at e; cases e) (X2 b o e)
  have hns3 : h3.Ns s.heap.objs.size (fun y => [(("self" : Str), Value.ref x), (f, v), (f2, v2)].reverse.lookup y) := by
    obtain ⟨oL, es, ep, e1, r⟩ := hns2
    exact ⟨oL, es, ep, kk3 _ _ hLx e1, r⟩
  have W1 : Within (fun y => if y = f then some v else none) [f] := Within.cons f v Within.nil
  obtain ⟨oD, esD, epD, hoD, hdD, _⟩ := hn3.count W1
  refine wpAny_execs_cons (x_set T S X3 hns3 hb1 (by simp) hb2' (B.dbg f2 (by simp)) (ox := { cls := .ref C, dict := some dx, data := .fields #[.ref t1, .none, .none, .none, .bool false, .none] }) (od := some oD) ⟨hx3, rfl, rfl, hoD⟩ ?_)
  refine PySem.OEX.osa_old X3 hx3 hn3 W1 (by show 1 ≤ 1000; decide) hcl (show refsVE (.ref C :: bm) = true from hbm) rfl noF2 (fun h4 tk4 kk4 hn4 => ?_)
  show wpAny _ _ (execs _ _) _ _ _
  refine wpAny_execs_nil (hq h4 tk4 dx ⟨fun b o hb e => ?_, ⟨t1, kk4 _ _ (Ne.symm dne) hx3⟩, Nat.le_of_lt (Nat.lt_of_lt_of_le z2 dn), dne, hn4⟩)
  have hbd' : b ≠ dx := fun z => by
    have y := Heap.lt_size e
    rw [z] at y
    exact absurd (Nat.lt_of_lt_of_le y (Nat.le_trans (Nat.le_of_lt z2) dn)) (Nat.lt_irrefl _)
  exact kk4 b o hbd' (kk3 b o hb (kk2 b o hb (hk₁ b o e)))

/-- a made error -/
structure XMade (h h' : Heap) (e C d : Addr) (m : Str → Option Value) : Prop where
  keep : ∀ b o, h.get? b = some o → h'.get? b = some o
  new : h.objs.size ≤ e
  obj : ∃ oe vs, h'.get? e = some oe ∧ oe.cls = .ref C ∧ oe.dict = some d ∧ oe.data = .fields vs ∧ vs[1]? = some .none ∧ vs[2]? = some .none
  dbig : h.objs.size ≤ d
  dne : d ≠ e
  ns : h'.Ns1 d m
theorem x_made {s : Shared} {C fI : Addr} {qual nm2 : Str} {fs : List Str} {st : Stmt} {vs : List Value} {m : Str → Option Value} {R : Result → Shared → Prop} (T : XCls prog K mg nm2 qual C fI st)
    (hv : (∃ f v, fs = [f] ∧ vs = [v] ∧ m = fun y => if y = f then some v else none) ∨ ∃ f f2 v v2, fs = [f, f2] ∧ vs = [v, v2] ∧ m = fun y => if y = f2 then some v2 else if y = f then some v else none)
    (B : XBody st fs) (noF : ∀ f ∈ fs, findIn K (.ref C) f = some none)
    (X : K.In s.heap) (hg : s.heap.Ns mainGlobals mg) (hb : ∃ mb, s.heap.Ns builtinsNs mb ∧ ∀ x : Str, x ≠ "__name__" → mb x = bootBuiltins x) (hlim : s.heap.NoLimit) (hroom : A.depth + 1 < recursionLimit)
    (hq : ∀ h' tk e d, XMade s.heap h' e C d m → R (.ok (.ret (.ref e))) { s with heap := h', toks := tk }) :
    codeAny (model prog w) A (.call (.ref C) ⟨vs, []⟩) R s := by
  obtain ⟨nm, q, N, bs, bm, sn, sub, ab, col, dd, k0, k1, k2, k3, k5, hC, hbm⟩ := T.cls
  obtain ⟨hp, g, dr, tk, os⟩ := s
  have lv : vs.length ≤ sizeLine := by
    rw [sizeLine_eq]
    rcases hv with ⟨f, v, _, rfl, _⟩ | ⟨f, f2, v, v2, _, rfl, _⟩
    · exact (by decide : 1 ≤ 16777216)
    · exact (by decide : 2 ≤ 16777216)
  have k : ∀ b o, hp.get? b = some o → ((hp.push (kdv_tup vs)).push (excO C hp.objs.size)).get? b = some o := fun b o e => Heap.get?_push_of_some _ (Heap.get?_push_of_some _ e)
  have hget : ((hp.push (kdv_tup vs)).push (excO C hp.objs.size)).get? (hp.objs.size + 1) = some (excO C hp.objs.size) := by
    have z := Heap.get?_push_size (hp.push (kdv_tup vs)) (o := excO C hp.objs.size) rfl
    rwa [Heap.size_push] at z
  have beyond : ∀ {o}, hp.get? (hp.objs.size + 1) = some o → False := fun z => absurd (Nat.lt_of_succ_lt (Heap.lt_size z)) (Nat.lt_irrefl _)
  have hnx : K.lookup (hp.objs.size + 1) = none := by
    cases e : K.lookup (hp.objs.size + 1) with
    | none => rfl
    | some o => exact (beyond (X _ _ e)).elim
  have ngx : hp.objs.size + 1 ≠ mainGlobals := fun z => by
    have y := hg.lt
    rw [← z] at y
    exact absurd (Nat.lt_of_succ_lt y) (Nat.lt_irrefl _)
  obtain ⟨mb, hb1, hb2⟩ := hb
  have nbx : hp.objs.size + 1 ≠ builtinsNs := fun z => by
    have y := hb1.lt
    rw [← z] at y
    exact absurd (Nat.lt_of_succ_lt y) (Nat.lt_irrefl _)
  refine call_own F.excBase_ValueError (fun X => refsVE_contains X bm hbm) (X _ _ hC) (looks_findIn X T.iC) (fun self => bind_fn X self T.tC) lv ?_
  have fin : ∀ h' tk' dx, XEnd ((hp.push (kdv_tup vs)).push (excO C hp.objs.size)) h' (hp.objs.size + 1) C dx m → InitBack (hp.objs.size + 1) R (.ok (.ret .none)) ⟨h', g, dr, tk', os⟩ := fun h' tk' dx ⟨k', ⟨t1, hx⟩, dn, dne, hns⟩ => by
    have old : ∀ b o, hp.get? b = some o → h'.get? b = some o := fun b o e => k' b o (Nat.ne_of_lt (Nat.lt_succ_of_lt (Heap.lt_size e))) (k b o e)
    have z : hp.objs.size + 1 + 1 ≤ dx := by
      have y := dn
      rw [Heap.size_push, Heap.size_push] at y
      exact y
    exact ⟨rfl, hq h' tk' (hp.objs.size + 1) dx ⟨old, Nat.le_succ _, ⟨_, _, hx, rfl, rfl, rfl, rfl, rfl⟩, Nat.le_trans (Nat.le_trans (Nat.le_succ _) (Nat.le_succ _)) z, dne, hns⟩⟩
  rcases hv with ⟨f, v, rfl, rfl, rfl⟩ | ⟨f, f2, v, v2, rfl, rfl, rfl⟩
  · exact codeAny_mono (x_init1 (s := ⟨(hp.push (kdv_tup [v])).push (excO C hp.objs.size), g, dr, tk, os⟩) T B (noF f (by simp)) (X.keeps k) (hg.keeps k) ⟨mb, hb1.keeps k, hb2⟩ (hlim.keeps k) hget hnx ngx nbx hroom (R := InitBack (hp.objs.size + 1) R) fun h' tk' dx x => fin h' tk' dx x) fun r s2 z => z
  · exact codeAny_mono (x_init2 (s := ⟨(hp.push (kdv_tup [v, v2])).push (excO C hp.objs.size), g, dr, tk, os⟩) T B (noF f (by simp)) (noF f2 (by simp)) (X.keeps k) (hg.keeps k) ⟨mb, hb1.keeps k, hb2⟩ (hlim.keeps k) hget hnx ngx nbx hroom (R := InitBack (hp.objs.size + 1) R) fun h' tk' dx x => fin h' tk' dx x) fun r s2 z => z
end
end KB

namespace KB
open PySem PySem.Spec PyProof.Rows L2
theorem relO1 {v : V} {u : Value} {f : Str} (r : RelV v u) (g : Str) : RelO (List.lookup g [(f, v)]) (if g = f then some u else none) := by
  by_cases h : g = f
  · subst h
    rw [if_pos rfl]
    have q : List.lookup g [(g, v)] = some v := by simp [List.lookup]
    rw [q]
    exact r
  · rw [if_neg h]
    have q : List.lookup g [(f, v)] = none := by
      have z : (g == f) = false := by simpa using h
      simp [List.lookup, z]
    rw [q]
    trivial
theorem relO2 {v v2 : V} {u u2 : Value} {f f2 : Str} (hne : f ≠ f2) (r : RelV v u) (r2 : RelV v2 u2) (g : Str) : RelO (List.lookup g [(f, v), (f2, v2)]) (if g = f2 then some u2 else if g = f then some u else none) := by
  by_cases h2 : g = f2
  · subst h2
    rw [if_pos rfl]
    have z : (g == f) = false := by simpa using fun e => hne e.symm
    have q : List.lookup g [(f, v), (g, v2)] = some v2 := by simp [List.lookup, z]
    rw [q]
    exact r2
  · rw [if_neg h2]
    have z2 : (g == f2) = false := by simpa using h2
    by_cases h : g = f
    · subst h
      rw [if_pos rfl]
      have q : List.lookup g [(g, v), (f2, v2)] = some v := by simp [List.lookup]
      rw [q]
      exact r
    · rw [if_neg h]
      have z : (g == f) = false := by simpa using h
      have q : List.lookup g [(f, v), (f2, v2)] = none := by simp [List.lookup, z, z2]
      rw [q]
      trivial
/-- the error's class x, at C, with the fields fs -/
structure XErr (P : Program) (K : PySem.W.Frag) (mg : Str → Option Value) (x : Str) (C : Addr) (fs : List Str) : Prop where
  ex : ∃ (qual : Str) (fI : Addr) (st : Stmt), XCls P K mg x qual C fI st ∧ XBody st fs ∧ ∀ f ∈ fs, PySem.W.findIn K (.ref C) f = some none
theorem XErr.te {P : Program} {K : PySem.W.Frag} {mg : Str → Option Value} {x : Str} {C : Addr} {fs : List Str} (T : XErr P K mg x C fs) : PySem.W.exmOne K (.ref C) (.ref C) = some true := by
  obtain ⟨_, _, _, h, _⟩ := T.ex
  exact h.te
theorem XErr.gC {P : Program} {K : PySem.W.Frag} {mg : Str → Option Value} {x : Str} {C : Addr} {fs : List Str} (T : XErr P K mg x C fs) : mg x = some (.ref C) := by
  obtain ⟨_, _, _, h, _⟩ := T.ex
  exact h.gC
theorem XErr.xf {P : Program} {K : PySem.W.Frag} {mg : Str → Option Value} {x : Str} {C : Addr} {fs : List Str} (T : XErr P K mg x C fs) : XfC K C := by
  obtain ⟨_, _, _, h, _⟩ := T.ex
  exact ⟨h.ga, h.gg, h.exC, h.hdC⟩
theorem XErr.no {P : Program} {K : PySem.W.Frag} {mg : Str → Option Value} {x : Str} {C : Addr} {fs : List Str} (T : XErr P K mg x C fs) {f : Str} (h : f ∈ fs) : PySem.W.findIn K (.ref C) f = some none := by
  obtain ⟨_, _, _, _, _, z⟩ := T.ex
  exact z f h
/-- X(e, ..) -/
def tMkX (C : Addr) (fs : List Str) (ta : TA) : L2.St → Hp → XK → Prop := fun σ H Q => ta σ H fun vs H1 => vs.length = fs.length ∧ ∀ d, H1 d = none → Q (.ref C) (some d) (upd H1 d (.xd (fs.zip vs)))
section
variable {X : Cx} {C : Addr} {fs : List Str} {x : Str}
theorem pmk_x {a : Expr} {as : List Expr} {ta : TA} {p pos : Pos} {k : Nat} (T : XErr X.prog X.K X.mg x C fs) (hr : Room k X.A) (ha : PA X (a :: as) ta) (hg : Gl X x := by rfl) (hdb : (x == ("__debug__" : Str)) = false := by decide)
    (he : starEach (a :: as) X.env = (false, eval a X.env) :: starEach as X.env := by rfl) (hpl : (backTo pos (starEach as X.env)).any (·.1) = false := by rfl) :
    L2N.PMk X (.Call (.Name x p) (a :: as) [] pos) (tMkX C fs ta) := by
  intro pins s σ H Q I h
  obtain ⟨qual, fI, st, T1, B, nof⟩ := T.ex
  refine wpAny_Call_Name_kw (ld_glob I hg T1.gC ?_ hdb)
  refine PySem.W.callWith_K (h₀ := X.base) I.ok.mod.kin T1.kC (thn (ha.run pos pins s σ H _ I h) fun us s1 hh => ?_) he hpl
  obtain ⟨vs, H1, I1, r1, lv, q1⟩ := hh
  refine ⟨I1.kIn, ?_⟩
  show wpAny _ _ (call (.ref C) us) _ _ _
  have hlim := I1.nolimit
  obtain ⟨mb, b1, b2⟩ := I1.mod.blt
  have hm : ∃ m : Str → Option Value, ((∃ f v, fs = [f] ∧ us = [v] ∧ m = fun y => if y = f then some v else none) ∨ ∃ f f2 v v2, fs = [f, f2] ∧ us = [v, v2] ∧ m = fun y => if y = f2 then some v2 else if y = f then some v else none) ∧
      ∀ g, RelO (List.lookup g (fs.zip vs)) (m g) := by
    obtain ⟨msg, j, p0, p1, p2, p3, p4, p5, sets, hl, eB, eS⟩ := B.ex
    rcases eS with ⟨f, q1, q2, q3, q4, rfl, _⟩ | ⟨f, f2, q1, q2, q3, q4, r1', r2, r3, r4, rfl, _⟩
    · cases r1 with
      | nil => cases lv
      | cons rv rn =>
        cases rn with
        | nil => exact ⟨_, .inl ⟨f, _, rfl, rfl, rfl⟩, fun g => relO1 rv g⟩
        | cons _ _ => simp at lv
    · have fne : f ≠ f2 := by
        have z := B.nd
        rw [List.nodup_cons, List.nodup_cons] at z
        exact fun e => z.2.1 (by rw [e]; simp)
      cases r1 with
      | nil => cases lv
      | cons rv rn =>
        cases rn with
        | nil => simp at lv
        | cons rv2 rn2 =>
          cases rn2 with
          | nil => exact ⟨_, .inr ⟨f, f2, _, _, rfl, rfl, rfl⟩, fun g => relO2 fne rv rv2 g⟩
          | cons _ _ => simp at lv
  obtain ⟨m, hv, hrel⟩ := hm
  have kI := I1.kIn
  have gI := I1.mod.glob.keeps I1.bk
  have bI := b1.keeps I1.bk
  obtain ⟨hp, g, dr, tk, os⟩ := s1
  refine wpAny_call (x_made T1 hv B nof kI gI ⟨mb, bI, b2⟩ hlim (by have := hr.dp; omega) fun h' tk' e d M => ?_)
  show L2N.MkP X pins σ Q (.ref e) ⟨h', g, dr, tk', os⟩
  obtain ⟨oe, fv, hoe, hc, hd, hdat, h1, h2⟩ := M.obj
  have hns := M.ns
  obtain ⟨G', g1, g2⟩ := restrict h' fun b => decide (b ≠ e)
  have gk : ∀ b, b ≠ e → G'.get? b = h'.get? b := fun b hb => g1 b (decide_eq_true hb)
  have ge : G'.get? e = none := g2 e (by simp)
  have old : ∀ b o, hp.get? b = some o → G'.get? b = some o := fun b o q => (gk b (Nat.ne_of_lt (Nat.lt_of_lt_of_le (Heap.lt_size q) M.new))).trans (M.keep b o q)
  have ob : ObjOk X.prog X.w (upd H1 d (.xd (fs.zip vs))) G' d (.xd (fs.zip vs)) := ⟨_, hns.at (fun o q => (gk d M.dne).trans q), fun f => hrel f⟩
  have J : Inv X pins σ (upd H1 d (.xd (fs.zip vs))) ⟨G', g, dr, tk', os⟩ := I1.laid (t' := tk') old M.dbig ob
  refine ⟨e, oe, fv, ⟨G', g, dr, tk', os⟩, _, .ref C, some d, rfl, J, fun b o q => ?_, ge, hoe, ⟨hc, hd, ?_⟩, hdat, h1, ?_, rfl, I1.bare, raises_own T1.exC T1.tyC, q1 d (I1.hok.fresh M.dbig)⟩
  · by_cases hb : b = e
    · have q' : G'.get? b = some o := q
      rw [hb, ge] at q'; cases q'
    · exact (gk b hb).symm.trans q
  · intro vs' e'
    rw [hdat] at e'
    cases e'
    exact h2
  · rw [upd_ne (Ne.symm M.dne)]
    exact I1.hok.fresh M.new
end
end KB

/-! operators of own classes -/
namespace KB
open PySem PySem.W PySem.Calls PyProof.Rows
theorem ne_bind (self : Value) : bindSpecial (.builtin "object.__ne__") self = pure (.builtin "object.__ne__", [self]) := F.slot_object_ne.bind self
section
variable {prog : Program} {w : World} {A : Around} {E : Value → Shared → Prop} {s : Shared} {K : Frag} {x C f : Addr} {ox : Obj} {od : Option Obj} {b tb : Value}
/-- object.__ne__ asks the own __eq__ -/
theorem ne_own {Q : Value → Shared → Prop} (hu : A.units + 1 < cLine) (X : K.In s.heap) (I : InstAt s.heap x ox C od) (hb : Looks (model prog w) s.heap (typeOf b) tb) (hn : notFirst K C tb = true)
    (hs : findIn K (.ref C) "__ne__" = some (some (.builtin "object.__ne__"))) (he : findIn K (.ref C) "__eq__" = some (some (.ref f))) (hf : isFn K (.ref f) = true) (top : mroIn K C (.type "object") = some true)
    (h : wpAny (model prog w) A.in1 (call (.ref f) [.ref x, b]) (fun v s' => ∃ k, v = .bool k ∧ Q (.bool (!k)) s') E s) : wpAny (model prog w) A (richCompare .NotEq (.ref x) b) Q E s := by
  have sub : Looks (model prog w) s.heap (isInstance (.ref x) (.type "object")) true := I.type.andThen (looks_mroIn X top)
  have inner : wpAny (model prog w) A (call (.builtin "object.__ne__") ([.ref x] ++ [b])) (fun v s' => Q v s' ∧ v ≠ .notImplemented) E s := by
    refine wpAny_call (codeAny_call_builtin F.slot_object_ne.plain F.cmpEntry_ne (@check_slot (model prog w) _ _ s "object.__ne__" "object" "__ne__" (.ref x) [b] [] _ F.cmpKind_ne F.cmpSplit_ne sub (F.cmpArgs_ne _ _) ?_))
    have go : wpAny (model prog w) A.in1 (callSpecialIfBound? (.ref x) "__eq__" [b]) (fun r s' => ∃ k, r = some (.bool k) ∧ Q (.bool (!k)) s') E s := by
      refine ifBound_K X I he hf (wpAny_mono h (fun v s' hv => ?_) fun _ _ e => e)
      obtain ⟨k, rfl, q⟩ := hv
      exact ⟨k, rfl, q⟩
    unfold Builtin.«object.__ne__»
    refine wpAny_bind (wpAny_of_eq (a := ((Value.ref x : Value), [b])) (by first | rfl | (simp only [Builtin.slotArgs]; rfl)) ?_)
    refine wpAny_bind (wpAny_cRoomFor hu ?_)
    refine wpAny_bind (wpAny_mono go (fun r s' hr => ?_) fun _ _ e => e)
    obtain ⟨k, rfl, q⟩ := hr
    refine wpAny_bind (wpAny_truthy_bool ?_)
    exact wpAny_pure ⟨q, fun z => by cases z⟩
  have one : wpAny (model prog w) A (tryCompare (.ref x) (cmpInfo .NotEq).2.1 b) (fun r s' => ∃ v, r = some v ∧ Q v s') E s := by
    have bound : wpAny (model prog w) A (callSpecialIfBound? (.ref x) "__ne__" [b]) (fun r s' => ∃ v, r = some v ∧ Q v s' ∧ v ≠ .notImplemented) E s := by
      simp only [callSpecialIfBound?, bindSpecialIfBound?]
      refine wpAny_holding (wpAny_bind (wpAny_bind (wpAny_bind (I.type.here ((looks_findIn X hs).here ?_)))))
      refine wpAny_bind (wpAny_askSetting (wpAny_ite ?_))
      have fin : wpAny (model prog w) A (call (.builtin "object.__ne__") ([.ref x] ++ [b]) >>= fun v => pure (some v)) (fun r s' => ∃ v, r = some v ∧ Q v s' ∧ v ≠ .notImplemented) E s :=
        wpAny_bind (wpAny_mono inner (fun v s' h' => wpAny_pure ⟨v, rfl, h'⟩) fun _ _ h' => h')
      split
      · rw [ne_bind]
        exact wpAny_bind (wpAny_pure (wpAny_pure (by exact fin)))
      · refine wpAny_tryCatch ?_
        rw [ne_bind]
        exact wpAny_bind (wpAny_pure (wpAny_pure (by exact fin)))
    unfold tryCompare
    refine wpAny_bind (wpAny_mono bound (fun r s' hr => ?_) fun _ _ e => e)
    obtain ⟨v, rfl, q, nn⟩ := hr
    cases v <;> first | exact absurd rfl nn | exact wpAny_pure ⟨_, rfl, q⟩
  unfold richCompare
  simp only [oneThing_ref]
  refine wpAny_holding (wpAny_bind (wpAny_cRoomFor (Nat.lt_of_succ_lt hu) ?_))
  refine wpAny_bind (I.type.here (wpAny_bind (hb.here ?_)))
  split
  · rename_i q
    have e : subIn K tb (.ref C) = some false := by
      rcases Bool.or_eq_true_iff.mp hn with e | e
      · rw [beq_iff_eq.mp e] at q; simp at q
      · exact beq_iff_eq.mp e
    refine wpAny_bind ((looks_subIn X e).here ?_)
    simp only [Bool.false_eq_true, if_false]
    refine wpAny_bind (wpAny_mono one (fun r s' z => ?_) fun _ _ e => e)
    obtain ⟨v, rfl, hq⟩ := z
    exact wpAny_pure hq
  · refine wpAny_bind (wpAny_pure ?_)
    simp only [Bool.false_eq_true, if_false]
    refine wpAny_bind (wpAny_mono one (fun r s' z => ?_) fun _ _ e => e)
    obtain ⟨v, rfl, hq⟩ := z
    exact wpAny_pure hq
end
end KB
namespace KB
open PySem PySem.Spec PyProof.Rows L2
section
variable {X : Cx} {k j : Nat} {C : Addr} {m : Str} {sp : Sp}
/-- what an operator of the class at C wants of the class -/
structure OpC (K : PySem.W.Frag) (C : Addr) : Prop where
  first : PySem.W.selfFirst K C = true
  ne : PySem.W.findIn K (.ref C) "__ne__" = some (some (.builtin "object.__ne__"))
  top : PySem.W.mroIn K C (.type "object") = some true
def rBin (C : Addr) (sp : Sp) : R2 := fun x y H Q => ∃ a dx fs b dy gs, x = .ref a ∧ y = .ref b ∧ H a = some (.ins C dx fs) ∧ H b = some (.ins C dy gs) ∧ sp [x, y] H Q E0
theorem op_bin {op : Operator} (o : OpC X.K C) (c : Met X.prog X.w X.K X.mg X.base k C m sp) (hr : Room j X.A) (hk : k ≤ j) (hm : PySem.dunder op.info.2 = m := by rfl) : OpR X (binaryOp op) (rBin C sp) := by
  intro pins s σ H x y v u Q I rx ry h
  obtain ⟨f, fd, ps, hc, hme, F, b⟩ := c.ex
  obtain ⟨a, dx, fs, b', dy, gs, rfl, rfl, ha, hb, q⟩ := h
  cases (show v = Value.ref a from rx)
  cases (show u = Value.ref b' from ry)
  obtain ⟨mA, O, _⟩ := ins_get I.hok ha
  obtain ⟨od, J, _⟩ := O.look
  obtain ⟨mB, O', _⟩ := ins_get I.hok hb
  obtain ⟨od', J', _⟩ := O'.look
  obtain ⟨m', hF⟩ := I.fr
  have hs : PySem.W.findIn X.K (.ref C) (PySem.dunder op.info.2) = some (some (.ref f)) := by rw [hm]; exact hme.at_
  refine PySem.W.binop_K hF I.ok.mod.kin J J'.type o.first hs hme.fn ?_
  refine wpAny_mono (run_fn (us := [.ref a, .ref b']) (vs := [.ref a, .ref b']) F (hr.mono hk) b .nil pass0 I (.cons rfl (.cons rfl .nil)) q) (fun w s' z => ?_) fun _ _ x => x
  obtain ⟨z', H', I', rz, qz⟩ := z
  exact SlX.cmpback rz ⟨z', H', I', rz, qz⟩
/-- x == y, x an instance of C, y anything whose type is known -/
def rEqO (K : PySem.W.Frag) (C : Addr) (sp : Sp) : R2 := fun x y H Q => ∃ a dx fs t, x = .ref a ∧ H a = some (.ins C dx fs) ∧ TyX K H y t ∧ PySem.W.notFirst K C t = true ∧ sp [x, y] H Q E0
theorem op_eqO (c : Met X.prog X.w X.K X.mg X.base k C "__eq__" sp) (hr : Room j X.A) (hk : k ≤ j) : OpR X (compareOp .Eq) (rEqO X.K C sp) := by
  intro pins s σ H x y v u Q I rx ry h
  obtain ⟨f, fd, ps, hc, hme, F, b⟩ := c.ex
  obtain ⟨a, dx, fs, t, rfl, ha, ty, hn, q⟩ := h
  cases (show v = Value.ref a from rx)
  obtain ⟨mA, O, _⟩ := ins_get I.hok ha
  obtain ⟨od, J, _⟩ := O.look
  obtain ⟨m', hF⟩ := I.fr
  obtain ⟨P, Z, p, hne⟩ := kit_of I ry ty
  refine PySem.W.cmp_ofEq ?_
  refine PySem.W.cmp_K (op := .Eq) (tb := t) hr.units0 hF I.ok.mod.kin J (Z.ty _ _ I.kIn p) hn hme.at_ hme.fn ?_
  refine wpAny_mono (run_fn (us := [.ref a, u]) (vs := [.ref a, y]) F (hr.mono hk) b .nil pass0 I (.cons rfl (.cons ry .nil)) q) (fun w s' z => ?_) fun _ _ x => x
  obtain ⟨z', H', I', rz, qz⟩ := z
  exact SlX.cmpback rz ⟨z', H', I', rz, qz⟩
/-- x != y likewise -/
def rNeO (K : PySem.W.Frag) (C : Addr) (sp : Sp) : R2 := fun x y H Q => ∃ a dx fs t, x = .ref a ∧ H a = some (.ins C dx fs) ∧ TyX K H y t ∧ PySem.W.notFirst K C t = true ∧ sp [x, y] H (fun v H' => ∃ k, v = .bl k ∧ Q (.bl (!k)) H') E0
theorem op_neO (o : OpC X.K C) (c : Met X.prog X.w X.K X.mg X.base k C "__eq__" sp) (hr : Room j X.A) (hk : k + 1 ≤ j) : OpR X (compareOp .NotEq) (rNeO X.K C sp) := by
  intro pins s σ H x y v u Q I rx ry h
  obtain ⟨f, fd, ps, hc, hme, F, b⟩ := c.ex
  obtain ⟨a, dx, fs, t, rfl, ha, ty, hn, q⟩ := h
  cases (show v = Value.ref a from rx)
  obtain ⟨mA, O, _⟩ := ins_get I.hok ha
  obtain ⟨od, J, _⟩ := O.look
  obtain ⟨P, Z, p, hne⟩ := kit_of I ry ty
  refine PySem.W.cmp_ofNotEq ?_
  have l2 : ([V.ref a, y] : List V).length = ps.length := F.len _ _ _ _ q
  have b2 := b s [Value.ref a, u] I.kIn (by rw [List.append_nil]; exact l2)
  rw [List.append_nil] at b2
  refine ne_own (hu_of hr) I.kIn J (Z.ty _ _ I.kIn p) hn o.ne hme.at_ hme.fn o.top ?_
  refine wpAny_call (codeAny_mono (F.run X.A.in1 X.stack s H ⟨[.ref a, u], []⟩ [.ref a, u] [.ref a, y] _ E0 (hr.mono hk).in1 I.env0.in1 b2 (.cons rfl (.cons ry .nil)) q) fun r s' hq => ?_)
  cases r with
  | error e => exact pass0 pins σ H s e s' I hq
  | ok fl =>
    cases fl with
    | ret w =>
      obtain ⟨z, H', I', rz, kk, ez, qz⟩ := I.after hq
      subst ez
      cases (show w = Value.bool kk from rz)
      exact ⟨kk, rfl, .bl (!kk), H', I', rfl, qz⟩
    | next => exact False.elim hq
    | brk => exact False.elim hq
    | cont => exact False.elim hq
end
end KB

/-! defs that may raise: called where nothing is raised, and in a try -/
namespace KB
open PySem PySem.Spec PyProof.Rows L2
theorem passN0 {X : Cx} : Passes (L2N.CX X.prog X.w) X E0 := fun _ _ _ _ _ _ _ h => by
  obtain ⟨_, _, _, _, _, _, _, _, _, _, _, _, z⟩ := h
  exact z.elim
theorem takesN0 {X : Cx} : L2N.Takes X (fun _ _ _ _ => False) := fun _ _ x => by
  obtain ⟨_, _, _, _, _, _, _, _, _, _, _, _, _, _, _, _, z⟩ := x
  exact z.elim
section
variable {P : Program} {w : World} {K : PySem.W.Frag} {mg : Str → Option Value} {base : Heap}
structure CalX (P : Program) (w : World) (K : PySem.W.Frag) (mg : Str → Option Value) (base : Heap) (k : Nat) (x : Str) (sp : Sp) : Prop where
  ex : ∃ (f : Addr) (fd : FuncData) (ps : List Str), FnOk P w K mg base (L2N.CX P w) k f fd ps sp ∧ mg x = some (.ref f) ∧ PySem.W.keepIn K (.ref f) = true ∧ Binds K fd ps []
structure MetX (P : Program) (w : World) (K : PySem.W.Frag) (mg : Str → Option Value) (base : Heap) (k : Nat) (C : Addr) (m : Str) (sp : Sp) : Prop where
  ex : ∃ (f : Addr) (fd : FuncData) (ps : List Str), Cls K C ∧ Meth K C m f ∧ FnOk P w K mg base (L2N.CX P w) k f fd ps sp ∧ Binds K fd ps []
structure MakX (P : Program) (w : World) (K : PySem.W.Frag) (mg : Str → Option Value) (base : Heap) (k : Nat) (x : Str) (C : Addr) (sp : Sp) : Prop where
  ex : ∃ (f : Addr) (fd : FuncData) (ps : List Str), Mk K C f ∧ FnOk P w K mg base (L2N.CX P w) k f fd ps sp ∧ mg x = some (.ref C) ∧ Binds K fd ps []
structure MakXK (P : Program) (w : World) (K : PySem.W.Frag) (mg : Str → Option Value) (base : Heap) (k : Nat) (x : Str) (C : Addr) (ks : List Str) (gV : List V → List V → List V) (sp : Sp) : Prop where
  ex : ∃ (f : Addr) (fd : FuncData) (ps : List Str) (g : List Value → List Value → List Value), Mk K C f ∧ FnOk P w K mg base (L2N.CX P w) k f fd ps sp ∧ mg x = some (.ref C) ∧ KBn K fd ps 1 ks g gV
structure CalXK (P : Program) (w : World) (K : PySem.W.Frag) (mg : Str → Option Value) (base : Heap) (k : Nat) (x : Str) (n : Nat) (ks : List Str) (gV : List V → List V → List V) (sp : Sp) : Prop where
  ex : ∃ (f : Addr) (fd : FuncData) (ps : List Str) (g : List Value → List Value → List Value), FnOk P w K mg base (L2N.CX P w) k f fd ps sp ∧ mg x = some (.ref f) ∧ PySem.W.keepIn K (.ref f) = true ∧ KBn K fd ps n ks g gV
/-- a def that may raise keeps its promise -/
theorem Fun_okN {x qual : Str} {st : Stmt} {f : Addr} {fd : FuncData} {N ps : List Str} {k : Nat} {sp : Sp} (F : Fun K x qual st f fd) (S : FnScope N ps (defScope st)) (len : ∀ vs H Q E, sp vs H Q E → vs.length = ps.length)
    (hbody : ∀ (cdv : Value) (A : Around) (outer : List Env) (s : Shared) (H : Hp) (vs : List V) (Q : VK) (E : XK), Room k (A.deeper (envOfC qual (defScope st) s.heap.objs.size f cdv)) → sp vs H Q E →
      ∃ t, PSs (cxOf (L2N.CX P w) P w K mg base N qual (defScope st) f cdv A outer s H E) (defBody st) t ∧ t { nx := fun _ H' => Q .non H', rt := Q } (start N vs) H) : FnOk P w K mg base (L2N.CX P w) (k + 1) f fd ps sp := by
  obtain ⟨oc, od, kV, doc, pm, an, cdv, ct, osl, rfl, lk, hcd⟩ := F.ex
  exact fn_of lk hcd S len fun A outer s H vs Q E hr hsp => hbody cdv A outer s H vs Q E hr hsp
end
section
variable {X : Cx} {k j n : Nat} {C : Addr} {x m : Str} {sp : Sp} {p pos apos : Pos} {e o : Expr} {es : List Expr} {kws : List Keyword} {ta : TE} {t tk : TA} {ks : List Str} {gV : List V → List V → List V} {W : WX}
theorem pe_x (c : CalX X.prog X.w X.K X.mg X.base k x sp) (hr : Room j X.A) (hk : k ≤ j) (hg : Gl X x) (ha : PA X (e :: es) t)
    (hdb : (x == ("__debug__" : Str)) = false := by decide) (he : starEach (e :: es) X.env = (false, eval e X.env) :: starEach es X.env := by rfl) (hpl : (backTo pos (starEach es X.env)).any (·.1) = false := by rfl) :
    PE X (.Call (.Name x p) (e :: es) [] pos) (tCall sp [] E0 t) := by
  obtain ⟨f, fd, ps, F, hm, kp, b⟩ := c.ex
  exact pe_call F (hr.mono hk) hg hm kp b .nil passN0 ha hdb he hpl
theorem pe_xS (c : CalX X.prog X.w X.K X.mg X.base k x sp) (hr : Room j X.A) (hk : k ≤ j) (hg : Gl X x) (tk : L2N.Takes X W) (ha : PA X (e :: es) t)
    (hdb : (x == ("__debug__" : Str)) = false := by decide) (he : starEach (e :: es) X.env = (false, eval e X.env) :: starEach es X.env := by rfl) (hpl : (backTo pos (starEach es X.env)).any (·.1) = false := by rfl) :
    PE X (.Call (.Name x p) (e :: es) [] pos) (tCallS sp (WE W) t) := by
  obtain ⟨f, fd, ps, F, hm, kp, b⟩ := c.ex
  exact pe_callS F (hr.mono hk) hg hm kp b (fun σ => L2N.passAt tk σ) ha hdb he hpl
/-- f(k = v, ..) in a try -/
def tCallSK0 (m : Nat) (sp : Sp) (gV : List V → List V → List V) (E : L2.St → XK) (tk : TA) : TE := fun σ H Q => tk σ H fun zs H2 => zs.length = m ∧ sp (gV [] zs) H2 Q (E σ)
theorem pe_xSK0 (c : CalXK X.prog X.w X.K X.mg X.base k x 0 ks gV sp) (hr : Room j X.A) (hk : k ≤ j) (hg : Gl X x) (tke : L2N.Takes X W) (hkw : PK X kws tk)
    (hall : (backToKw pos (keywordEach kws X.env)).all (·.1.isSome) = true := by rfl) (hks : (backToKw pos (keywordEach kws X.env)).filterMap (·.1) = ks := by rfl) (hdb : (x == ("__debug__" : Str)) = false := by decide)
    (hpl : ((backTo pos (starEach [] X.env)).any (·.1) || (backToKw pos (keywordEach kws X.env)).any (·.1.isNone)) = false := by rfl) :
    PE X (.Call (.Name x p) [] kws pos) (tCallSK0 ks.length sp gV (WE W) tk) := by
  obtain ⟨f, fd, ps, g, F, hm, kp, hb⟩ := c.ex
  refine ⟨fun pins s σ H Q I h => ?_⟩
  refine wpAny_Call_Name_kw (ld_glob I hg hm ?_ hdb)
  refine PySem.W.callWith_KW0 (h₀ := X.base) I.ok.mod.kin kp hall ?_ hpl
  refine thn (hkw.run pos pins s σ H _ I h) fun ws s2 ⟨zs, H2, I2, rz, l2, q2⟩ => ⟨I2.kIn, ?_⟩
  rw [hks]
  have r2 : Vals (gV [] zs) (g [] ws) := hb.rel (vs := []) (us := []) .nil rz
  refine wpAny_call (codeAny_mono (F.run X.A X.stack s2 H2 ⟨[], ks.zip ws⟩ (g [] ws) (gV [] zs) Q (WE W σ) (hr.mono hk) I2.env0 (hb.to s2 [] ws I2.kIn rfl (rz.length.symm.trans l2)) r2 q2) fun r s' hq => ?_)
  cases r with
  | error e => exact L2N.passAt tke σ pins H2 s2 e s' I2 hq
  | ok fl =>
    cases fl with
    | ret u => exact I2.after hq
    | next => exact False.elim hq
    | brk => exact False.elim hq
    | cont => exact False.elim hq
/-- f(k = v, ..) where nothing is raised -/
theorem pe_xK0 (c : CalXK X.prog X.w X.K X.mg X.base k x 0 ks gV sp) (hr : Room j X.A) (hk : k ≤ j) (hg : Gl X x) (hkw : PK X kws tk)
    (hall : (backToKw pos (keywordEach kws X.env)).all (·.1.isSome) = true := by rfl) (hks : (backToKw pos (keywordEach kws X.env)).filterMap (·.1) = ks := by rfl) (hdb : (x == ("__debug__" : Str)) = false := by decide)
    (hpl : ((backTo pos (starEach [] X.env)).any (·.1) || (backToKw pos (keywordEach kws X.env)).any (·.1.isNone)) = false := by rfl) :
    PE X (.Call (.Name x p) [] kws pos) (tCallK0 ks.length sp gV E0 tk) := by
  obtain ⟨f, fd, ps, g, F, hm, kp, hb⟩ := c.ex
  refine ⟨fun pins s σ H Q I h => ?_⟩
  refine wpAny_Call_Name_kw (ld_glob I hg hm ?_ hdb)
  refine PySem.W.callWith_KW0 (h₀ := X.base) I.ok.mod.kin kp hall ?_ hpl
  refine thn (hkw.run pos pins s σ H _ I h) fun ws s2 ⟨zs, H2, I2, rz, l2, q2⟩ => ⟨I2.kIn, ?_⟩
  rw [hks]
  have r2 : Vals (gV [] zs) (g [] ws) := hb.rel (vs := []) (us := []) .nil rz
  refine wpAny_call (codeAny_mono (F.run X.A X.stack s2 H2 ⟨[], ks.zip ws⟩ (g [] ws) (gV [] zs) Q E0 (hr.mono hk) I2.env0 (hb.to s2 [] ws I2.kIn rfl (rz.length.symm.trans l2)) r2 q2) fun r s' hq => ?_)
  cases r with
  | error e => exact passN0 pins σ H2 s2 e s' I2 hq
  | ok fl =>
    cases fl with
    | ret u => exact I2.after hq
    | next => exact False.elim hq
    | brk => exact False.elim hq
    | cont => exact False.elim hq
theorem pe_mtx {pl : Sem Bool} (c : MetX X.prog X.w X.K X.mg X.base k C m sp) (hr : Room j X.A) (hk : k ≤ j) (he : PE X o ta) (ha : PA X (e :: es) t)
    (hst : starEach (e :: es) X.env = (false, eval e X.env) :: starEach es X.env := by rfl) (hpl : (backTo pos (starEach es X.env)).any (·.1) = false := by rfl)
    (ht : eval (.Call (.Attribute o m apos) (e :: es) [] pos) X.env = (do
      let ov ← eval o X.env
      standAt apos.atName
      let (f, first) ← holding [ov] (getMethod ov m pl)
      callWith pos f first (backTo pos (starEach (e :: es) X.env)) (backToKw pos (keywordEach [] X.env))) := by rfl) :
    PE X (.Call (.Attribute o m apos) (e :: es) [] pos) (tMeth C m sp [] E0 ta t) := by
  obtain ⟨f, fd, ps, hc, hm, F, b⟩ := c.ex
  exact pe_meth (pl := pl) he hc hm F (hr.mono hk) b .nil passN0 ha hst hpl ht
/-- o.m(e, ..) in a try -/
def tMethS (C : Addr) (m : Str) (sp : Sp) (E : L2.St → XK) (ta : TE) (t : TA) : TE := fun σ H Q => ta σ H fun x H1 => ∃ a dx fs, x = .ref a ∧ H1 a = some (.ins C dx fs) ∧ fs.lookup m = none ∧ t σ H1 fun vs H2 => sp (x :: vs) H2 Q (E σ)
theorem pe_mtxS {pl : Sem Bool} (c : MetX X.prog X.w X.K X.mg X.base k C m sp) (hr : Room j X.A) (hk : k ≤ j) (tk : L2N.Takes X W) (he : PE X o ta) (ha : PA X (e :: es) t)
    (hst : starEach (e :: es) X.env = (false, eval e X.env) :: starEach es X.env := by rfl) (hpl : (backTo pos (starEach es X.env)).any (·.1) = false := by rfl)
    (ht : eval (.Call (.Attribute o m apos) (e :: es) [] pos) X.env = (do
      let ov ← eval o X.env
      standAt apos.atName
      let (f, first) ← holding [ov] (getMethod ov m pl)
      callWith pos f first (backTo pos (starEach (e :: es) X.env)) (backToKw pos (keywordEach [] X.env))) := by rfl) :
    PE X (.Call (.Attribute o m apos) (e :: es) [] pos) (tMethS C m sp (WE W) ta t) := by
  obtain ⟨f, fd, ps, hc, hm, F, b⟩ := c.ex
  refine ⟨fun pins s σ H Q I h => ?_⟩
  refine PySem.W.methodCall_KW (pl := pl) (thn (he.run pins s σ H _ I h) fun u s1 ⟨x, H1, I1, rx, a, dx, fs, ex, ea, l, q⟩ => ?_) ht
  subst ex
  obtain rfl : u = Value.ref a := rx
  refine getmeth_ok I1 ea hc hm l ?_
  refine PySem.W.callWith_K (first := [.ref a]) (h₀ := X.base) I.ok.mod.kin hm.kp (thn (ha.run pos pins s1 σ H1 _ I1 q) fun us s2 ⟨vs, H2, I2, r, q2⟩ => ⟨I2.kIn, ?_⟩) hst hpl
  exact run_fnS (us := .ref a :: us) (vs := .ref a :: vs) F (hr.mono hk) b (L2N.passAt tk σ) I2 (.cons rfl r) q2
theorem pe_mkx (c : MakX X.prog X.w X.K X.mg X.base k x C sp) (hr : Room j X.A) (hk : k + 1 ≤ j) (hg : Gl X x) (ha : PA X (e :: es) t)
    (hdb : (x == ("__debug__" : Str)) = false := by decide) (he : starEach (e :: es) X.env = (false, eval e X.env) :: starEach es X.env := by rfl) (hpl : (backTo pos (starEach es X.env)).any (·.1) = false := by rfl) :
    PE X (.Call (.Name x p) (e :: es) [] pos) (tMake C sp [] E0 t) := by
  obtain ⟨f, fd, ps, M, F, hm, b⟩ := c.ex
  exact pe_make M F (hr.mono hk) hg hm b .nil passN0 ha hdb he hpl
theorem pe_mkxK0 (c : MakXK X.prog X.w X.K X.mg X.base k x C ks gV sp) (hr : Room j X.A) (hk : k + 1 ≤ j) (hg : Gl X x) (hkw : PK X kws tk)
    (hall : (backToKw pos (keywordEach kws X.env)).all (·.1.isSome) = true := by rfl) (hks : (backToKw pos (keywordEach kws X.env)).filterMap (·.1) = ks := by rfl) (hdb : (x == ("__debug__" : Str)) = false := by decide)
    (hpl : ((backTo pos (starEach [] X.env)).any (·.1) || (backToKw pos (keywordEach kws X.env)).any (·.1.isNone)) = false := by rfl) :
    PE X (.Call (.Name x p) [] kws pos) (tMakeK C 0 ks.length sp gV E0 tNil tk) := by
  obtain ⟨f, fd, ps, g, M, F, hm, b⟩ := c.ex
  exact pe_makeK0 M F (hr.mono hk) hg hm b passN0 hkw hall hks hdb hpl
/-- C(e, ..) in a try -/
def tMakeS (C : Addr) (sp : Sp) (E : L2.St → XK) (t : TA) : TE := fun σ H Q => t σ H fun vs H1 => ∀ x dx, H1 x = none → H1 dx = none → dx ≠ x → sp (.ref x :: vs) (upd (upd H1 dx (.own x)) x (.ins C dx [])) (fun v H2 => v = .non ∧ Q (.ref x) H2) (E σ)
theorem run_makeS {pins : List (Addr × Obj)} {σ : L2.St} {H : Hp} {s : Shared} {Q : VK} {f : Addr} {fd : FuncData} {ps : List Str} {us : List Value} {ws : List (Str × Value)} {ul : List Value} {vl : List V} (M : Mk X.K C f) (F : FnOk X.prog X.w X.K X.mg X.base (L2N.CX X.prog X.w) k f fd ps sp) (hr : Room (k + 1) X.A)
    (tk : L2N.Takes X W) (I : Inv X pins σ H s) (r : ∀ x, Vals (.ref x :: vl) (.ref x :: ul))
    (hb : ∀ (s' : Shared) (x : Addr), X.K.In s'.heap → BindsTo s' fd ⟨.ref x :: us, ws⟩ (ps.zip (.ref x :: ul)))
    (h : ∀ x dx, H x = none → H dx = none → dx ≠ x → sp (.ref x :: vl) (upd (upd H dx (.own x)) x (.ins C dx [])) (fun v H2 => v = .non ∧ Q (.ref x) H2) (WE W σ)) :
    wpAny (model X.prog X.w) X.A (call (.ref C) us ws) (EP X pins σ Q) X.xe s := by
  have hq := h (s.heap.objs.size + 1) s.heap.objs.size (I.hok.fresh (Nat.le_succ _)) (I.hok.fresh (Nat.le_refl _)) (Nat.ne_of_lt (Nat.lt_succ_self _))
  have I2 := Inv.made (C := C) I
  refine wpAny_call (make_map (f := f) I.kIn M.makes M.init (beq_iff_eq.mp M.fn) (codeAny_mono (F.run _ X.stack _ _ ⟨Value.ref (s.heap.objs.size + 1) :: us, ws⟩ (Value.ref (s.heap.objs.size + 1) :: ul) _ _ (WE W σ) (hr.make C us ws)
    (I2.env0.make C us ws) (hb _ _ I2.kIn) (r _) hq) fun r s' hq' => ?_))
  cases r with
  | error e => exact L2N.passAt tk σ pins _ _ e s' I2 hq'
  | ok fl =>
    cases fl with
    | ret u =>
      obtain ⟨v, H', I3, rv, ev, q3⟩ := I2.after hq'
      subst ev
      exact ⟨rv, ⟨V.ref (s.heap.objs.size + 1), H', I3, rfl, q3⟩⟩
    | next => exact False.elim hq'
    | brk => exact False.elim hq'
    | cont => exact False.elim hq'
theorem pe_mkxS (c : MakX X.prog X.w X.K X.mg X.base k x C sp) (hr : Room j X.A) (hk : k + 1 ≤ j) (hg : Gl X x) (tk : L2N.Takes X W) (ha : PA X (e :: es) t)
    (hdb : (x == ("__debug__" : Str)) = false := by decide) (he : starEach (e :: es) X.env = (false, eval e X.env) :: starEach es X.env := by rfl) (hpl : (backTo pos (starEach es X.env)).any (·.1) = false := by rfl) :
    PE X (.Call (.Name x p) (e :: es) [] pos) (tMakeS C sp (WE W) t) := by
  obtain ⟨f, fd, ps, M, F, hm, b⟩ := c.ex
  refine ⟨fun pins s σ H Q I h => ?_⟩
  refine wpAny_Call_Name_kw (ld_glob I hg hm ?_ hdb)
  refine PySem.W.callWith_K (h₀ := X.base) I.ok.mod.kin M.kp (thn (ha.run pos pins s σ H _ I h) fun us s1 ⟨vs, H1, I1, r, q⟩ => ⟨I1.kIn, ?_⟩) he hpl
  have hq := q (s1.heap.objs.size + 1) s1.heap.objs.size (I1.hok.fresh (Nat.le_succ _)) (I1.hok.fresh (Nat.le_refl _)) (Nat.ne_of_lt (Nat.lt_succ_self _))
  have hl : ∀ x : Addr, (Value.ref x :: us).length = ps.length := fun x => by
    have e1 := F.len _ _ _ _ hq
    rw [List.length_cons] at e1 ⊢
    rw [← r.length]
    exact e1
  refine run_makeS (ws := []) (ul := us) (vl := vs) M F (hr.mono hk) tk I1 (fun x => .cons rfl r) (fun s' x hK => ?_) q
  have b2 := b s' (Value.ref x :: us) hK (by rw [List.append_nil]; exact hl x)
  rw [List.append_nil] at b2
  exact b2
def tMakeSK (C : Addr) (m : Nat) (sp : Sp) (gV : List V → List V → List V) (E : L2.St → XK) (tk : TA) : TE := fun σ H Q => tk σ H fun zs H1 => zs.length = m ∧ ∃ vl, (∀ x, gV [.ref x] zs = .ref x :: vl) ∧ ∀ x dx, H1 x = none → H1 dx = none → dx ≠ x →
  sp (.ref x :: vl) (upd (upd H1 dx (.own x)) x (.ins C dx [])) (fun v H2 => v = .non ∧ Q (.ref x) H2) (E σ)
theorem pe_mkxSK0 (c : MakXK X.prog X.w X.K X.mg X.base k x C ks gV sp) (hr : Room j X.A) (hk : k + 1 ≤ j) (hg : Gl X x) (tke : L2N.Takes X W) (hkw : PK X kws tk)
    (hall : (backToKw pos (keywordEach kws X.env)).all (·.1.isSome) = true := by rfl) (hks : (backToKw pos (keywordEach kws X.env)).filterMap (·.1) = ks := by rfl) (hdb : (x == ("__debug__" : Str)) = false := by decide)
    (hpl : ((backTo pos (starEach [] X.env)).any (·.1) || (backToKw pos (keywordEach kws X.env)).any (·.1.isNone)) = false := by rfl) :
    PE X (.Call (.Name x p) [] kws pos) (tMakeSK C ks.length sp gV (WE W) tk) := by
  obtain ⟨f, fd, ps, g, M, F, hm, hb⟩ := c.ex
  refine ⟨fun pins s σ H Q I h => ?_⟩
  refine wpAny_Call_Name_kw (ld_glob I hg hm ?_ hdb)
  refine PySem.W.callWith_KW0 (h₀ := X.base) I.ok.mod.kin M.kp hall ?_ hpl
  refine thn (hkw.run pos pins s σ H _ I h) fun ws s2 ⟨zs, H2, I2, rz, l2, vl, ev, q⟩ => ⟨I2.kIn, ?_⟩
  rw [hks]
  have hq := q (s2.heap.objs.size + 1) s2.heap.objs.size (I2.hok.fresh (Nat.le_succ _)) (I2.hok.fresh (Nat.le_refl _)) (Nat.ne_of_lt (Nat.lt_succ_self _))
  have I3 := Inv.made (C := C) I2
  have r2 : Vals (gV [.ref (s2.heap.objs.size + 1)] zs) (g [.ref (s2.heap.objs.size + 1)] ws) := hb.rel (.cons rfl .nil) rz
  rw [ev] at r2
  refine wpAny_call (make_map (f := f) (vs := []) I2.kIn M.makes M.init (beq_iff_eq.mp M.fn) (codeAny_mono (F.run _ X.stack _ _ ⟨[Value.ref (s2.heap.objs.size + 1)], ks.zip ws⟩ (g [.ref (s2.heap.objs.size + 1)] ws) _ _ (WE W σ) ((hr.mono hk).make C [] (ks.zip ws))
    (I3.env0.make C [] (ks.zip ws)) (hb.to _ [Value.ref (s2.heap.objs.size + 1)] ws I3.kIn rfl (rz.length.symm.trans l2)) r2 hq) fun r s' hq' => ?_))
  cases r with
  | error e => exact L2N.passAt tke σ pins _ _ e s' I3 hq'
  | ok fl =>
    cases fl with
    | ret u =>
      obtain ⟨v, H', I4, rv, ev', q3⟩ := I3.after hq'
      subst ev'
      exact ⟨rv, ⟨V.ref (s2.heap.objs.size + 1), H', I4, rfl, q3⟩⟩
    | next => exact False.elim hq'
    | brk => exact False.elim hq'
    | cont => exact False.elim hq'
/-- raise X(e, ..) -/
def tRaiseX (C : Addr) (fs : List Str) (W : WX) (ta : TA) : TS := fun _ σ H => tMkX C fs ta σ H fun cls d H' => W cls d σ H'
theorem ps_raiseX {a : Expr} {as : List Expr} {fs : List Str} {p pos pos2 : Pos} (hc : X.calm = true) (T : XErr X.prog X.K X.mg x C fs) (hr : Room k X.A) (tk : L2N.Takes X W) (ha : PA X (a :: as) t) (hg : Gl X x := by rfl) (hdb : (x == ("__debug__" : Str)) = false := by decide)
    (he : starEach (a :: as) X.env = (false, eval a X.env) :: starEach as X.env := by rfl) (hpl : (backTo pos (starEach as X.env)).any (·.1) = false := by rfl) :
    PS X (.Raise (some (.Call (.Name x p) (a :: as) [] pos)) none pos2) (tRaiseX C fs W t) := L2N.ps_raise hc tk (pmk_x T hr ha hg hdb he hpl)
end
end KB
namespace KB
open PySem PySem.Spec PyProof.Rows L2
section
variable {P : Program} {w : World} {K : PySem.W.Frag} {mg : Str → Option Value} {base : Heap}
/-- a def that raises nothing, called within an except suite -/
structure CalH (P : Program) (w : World) (K : PySem.W.Frag) (mg : Str → Option Value) (base : Heap) (k : Nat) (x : Str) (sp : Sp) : Prop where
  ex : ∃ (f : Addr) (fd : FuncData) (ps : List Str), L2H.FnH P w K mg base CX0 k f fd ps sp ∧ mg x = some (.ref f) ∧ PySem.W.keepIn K (.ref f) = true ∧ Binds K fd ps []
theorem Fun_okH {x qual : Str} {st : Stmt} {f : Addr} {fd : FuncData} {N ps : List Str} {k : Nat} {sp : Sp} (F : Fun K x qual st f fd) (S : FnScope N ps (defScope st)) (len : ∀ vs H Q E, sp vs H Q E → vs.length = ps.length)
    (hbody : ∀ (cdv : Value) (A : Around) (outer : List Env) (s : Shared) (H : Hp) (vs : List V) (Q : VK) (E : XK) (p : Addr × Obj), L2H.Hot1 A p → L2H.RoomH k (A.deeper (envOfC qual (defScope st) s.heap.objs.size f cdv)) → sp vs H Q E →
      ∃ t, PSs (L2H.cxH CX0 P w K mg base N qual (defScope st) f cdv A outer s H E p).nox (defBody st) t ∧ t { nx := fun _ H' => Q .non H', rt := Q } (start N vs) H) : L2H.FnH P w K mg base CX0 (k + 1) f fd ps sp := by
  obtain ⟨oc, od, kV, doc, pm, an, cdv, ct, osl, rfl, lk, hcd⟩ := F.ex
  refine L2H.fn_ofH lk hcd S len fun A outer s H vs Q E p hot hr hsp => ?_
  obtain ⟨t, h, q⟩ := hbody cdv A outer s H vs Q E p hot hr hsp
  exact ⟨t, h.nox, q⟩
theorem exm_own {K : PySem.W.Frag} {S B : Addr} (h1 : PySem.W.subIn K (.ref S) (.type "BaseException") = some true) (h2 : PySem.W.isClsIn K S = true) (h3 : PySem.W.typeIn K (.ref S) = some (.type "type")) {b : Bool} (h4 : PySem.W.subIn K (.ref B) (.ref S) = some b) :
    PySem.W.exmOne K (.ref B) (.ref S) = some b := by
  have e1 : (PySem.W.subIn K (.ref S) (.type "BaseException") == some true) = true := by rw [h1] <;> rfl
  have e2 : ((PySem.W.clsIn K S).isSome && PySem.W.typeIn K (.ref S) == some (.type "type")) = true := by
    have h2' : (PySem.W.clsIn K S).isSome = true := h2
    rw [h2', h3] <;> rfl
  show (if (PySem.W.subIn K (.ref S) (.type "BaseException") == some true) = true then (if ((PySem.W.clsIn K S).isSome && PySem.W.typeIn K (.ref S) == some (.type "type")) = true then PySem.W.subIn K (.ref B) (.ref S) else none) else none) = some b
  rw [if_pos e1, if_pos e2]
  exact h4
end
section
variable {X : Cx} {k j : Nat} {x : Str} {sp : Sp} {p pos : Pos} {e : Expr} {es : List Expr} {t : TA}
theorem hotS {a : Addr} {oe : Obj} {cls : Value} {d : Option Addr} {pn : List (Addr × Obj)} (hz : L2N.Zn cls d oe) (hf : ∃ vs, oe.data = .fields vs) : L2H.HotC (X.suite a ((a, oe) :: pn)) := by
  obtain ⟨vs, h⟩ := hf
  exact ⟨(a, oe), ⟨rfl, vs, h, hz.2.2 vs h⟩, List.mem_cons_self ..⟩
theorem pe_cH (c : CalH X.prog X.w X.K X.mg X.base k x sp) (hr : L2H.RoomH j X.A) (hk : k ≤ j) (hot : L2H.HotC X) (hg : Gl X x) (ha : PA X (e :: es) t)
    (hdb : (x == ("__debug__" : Str)) = false := by decide) (he : starEach (e :: es) X.env = (false, eval e X.env) :: starEach es X.env := by rfl) (hpl : (backTo pos (starEach es X.env)).any (·.1) = false := by rfl) :
    PE X (.Call (.Name x p) (e :: es) [] pos) (tCallS sp (fun _ => E0) t) := by
  obtain ⟨f, fd, ps, F, hm, kp, b⟩ := c.ex
  exact L2H.pe_callH F (hr.mono hk) hot hg hm kp b (fun σ pins H s e s' _ h => h.elim) ha hdb he hpl
/-- // by any number that is not 0, below 9,000 bits -/
def CDivV (_ j : Int) : Prop := j ≠ 0 ∧ j.natAbs.log2 < 9000
theorem op_fdivV : OpR X (binaryOp .FloorDiv) (rI CDivV fun i j => .int (i.fdiv j)) := opI fun i j _ _ _ _ _ hc q => PyProof.Rows.floordiv_int hc.1 q (.inl (PyProof.noPylong_of_log2 hc.2))
end
end KB
namespace KB
open PySem PySem.Spec PyProof.Rows L2
section
variable {P : Program} {w : World} {K : PySem.W.Frag} {mg : Str → Option Value} {base : Heap}
structure MetK (CX : CXT) (P : Program) (w : World) (K : PySem.W.Frag) (mg : Str → Option Value) (base : Heap) (k : Nat) (C : Addr) (m : Str) (ks : List Str) (gV : List V → List V → List V) (sp : Sp) : Prop where
  ex : ∃ (f : Addr) (fd : FuncData) (ps : List Str) (g : List Value → List Value → List Value), Cls K C ∧ Meth K C m f ∧ FnOk P w K mg base CX k f fd ps sp ∧ KBn K fd ps 1 ks g gV
end
section
variable {X : Cx} {k j n : Nat} {C : Addr} {x m : Str} {sp : Sp} {p pos apos : Pos} {o : Expr} {kws : List Keyword} {ta : TE} {tk : TA} {ks : List Str} {gV : List V → List V → List V} {W : WX}
/-- o.m(k = v, ..) -/
def tMethSK (C : Addr) (m : Str) (n : Nat) (sp : Sp) (gV : List V → List V → List V) (E : L2.St → XK) (ta : TE) (tk : TA) : TE := fun σ H Q => ta σ H fun x H1 => ∃ a dx fs, x = .ref a ∧ H1 a = some (.ins C dx fs) ∧ fs.lookup m = none ∧ tk σ H1 fun zs H2 => zs.length = n ∧ sp (gV [x] zs) H2 Q (E σ)
theorem pe_mtKg {CX : CXT} {E : L2.St → XK} {pl : Sem Bool} (c : MetK CX X.prog X.w X.K X.mg X.base k C m ks gV sp) (hr : Room j X.A) (hk : k ≤ j) (hx : ∀ σ, PassesAt CX X σ (E σ)) (he : PE X o ta) (hkw : PK X kws tk)
    (hall : (backToKw pos (keywordEach kws X.env)).all (·.1.isSome) = true := by rfl) (hks : (backToKw pos (keywordEach kws X.env)).filterMap (·.1) = ks := by rfl)
    (hpl : ((backTo pos (starEach [] X.env)).any (·.1) || (backToKw pos (keywordEach kws X.env)).any (·.1.isNone)) = false := by rfl)
    (ht : eval (.Call (.Attribute o m apos) [] kws pos) X.env = (do
      let ov ← eval o X.env
      standAt apos.atName
      let (f, first) ← holding [ov] (getMethod ov m pl)
      callWith pos f first (backTo pos (starEach [] X.env)) (backToKw pos (keywordEach kws X.env))) := by rfl) :
    PE X (.Call (.Attribute o m apos) [] kws pos) (tMethSK C m ks.length sp gV E ta tk) := by
  obtain ⟨f, fd, ps, g, hc, hm, F, hb⟩ := c.ex
  refine ⟨fun pins s σ H Q I h => ?_⟩
  refine PySem.W.methodCall_KW (pl := pl) (thn (he.run pins s σ H _ I h) fun u s1 ⟨x, H1, I1, rx, a, dx, fs, ex, ea, l, q⟩ => ?_) ht
  subst ex
  obtain rfl : u = Value.ref a := rx
  refine getmeth_ok I1 ea hc hm l ?_
  refine PySem.W.callWith_KW0 (first := [.ref a]) (h₀ := X.base) I.ok.mod.kin hm.kp hall ?_ hpl
  refine thn (hkw.run pos pins s1 σ H1 _ I1 q) fun ws s2 ⟨zs, H2, I2, rz, l2, q2⟩ => ⟨I2.kIn, ?_⟩
  rw [hks]
  have r2 : Vals (gV [.ref a] zs) (g [.ref a] ws) := hb.rel (.cons rfl .nil) rz
  refine wpAny_call (codeAny_mono (F.run X.A X.stack s2 H2 ⟨[.ref a], ks.zip ws⟩ (g [.ref a] ws) (gV [.ref a] zs) Q (E σ) (hr.mono hk) I2.env0 (hb.to s2 [.ref a] ws I2.kIn rfl (rz.length.symm.trans l2)) r2 q2) fun r s' hq => ?_)
  cases r with
  | error e => exact hx σ pins H2 s2 e s' I2 hq
  | ok fl =>
    cases fl with
    | ret u => exact I2.after hq
    | next => exact False.elim hq
    | brk => exact False.elim hq
    | cont => exact False.elim hq
theorem pe_mtK0 {pl : Sem Bool} (c : MetK CX0 X.prog X.w X.K X.mg X.base k C m ks gV sp) (hr : Room j X.A) (hk : k ≤ j) (he : PE X o ta) (hkw : PK X kws tk)
    (hall : (backToKw pos (keywordEach kws X.env)).all (·.1.isSome) = true := by rfl) (hks : (backToKw pos (keywordEach kws X.env)).filterMap (·.1) = ks := by rfl)
    (hpl : ((backTo pos (starEach [] X.env)).any (·.1) || (backToKw pos (keywordEach kws X.env)).any (·.1.isNone)) = false := by rfl)
    (ht : eval (.Call (.Attribute o m apos) [] kws pos) X.env = (do
      let ov ← eval o X.env
      standAt apos.atName
      let (f, first) ← holding [ov] (getMethod ov m pl)
      callWith pos f first (backTo pos (starEach [] X.env)) (backToKw pos (keywordEach kws X.env))) := by rfl) :
    PE X (.Call (.Attribute o m apos) [] kws pos) (tMethSK C m ks.length sp gV (fun _ => E0) ta tk) :=
  pe_mtKg (pl := pl) c hr hk (fun σ pins H s e s' _ h => h.elim) he hkw hall hks hpl ht
theorem pe_mtxSK0 {pl : Sem Bool} (c : MetK (L2N.CX X.prog X.w) X.prog X.w X.K X.mg X.base k C m ks gV sp) (hr : Room j X.A) (hk : k ≤ j) (tke : L2N.Takes X W) (he : PE X o ta) (hkw : PK X kws tk)
    (hall : (backToKw pos (keywordEach kws X.env)).all (·.1.isSome) = true := by rfl) (hks : (backToKw pos (keywordEach kws X.env)).filterMap (·.1) = ks := by rfl)
    (hpl : ((backTo pos (starEach [] X.env)).any (·.1) || (backToKw pos (keywordEach kws X.env)).any (·.1.isNone)) = false := by rfl)
    (ht : eval (.Call (.Attribute o m apos) [] kws pos) X.env = (do
      let ov ← eval o X.env
      standAt apos.atName
      let (f, first) ← holding [ov] (getMethod ov m pl)
      callWith pos f first (backTo pos (starEach [] X.env)) (backToKw pos (keywordEach kws X.env))) := by rfl) :
    PE X (.Call (.Attribute o m apos) [] kws pos) (tMethSK C m ks.length sp gV (WE W) ta tk) :=
  pe_mtKg (pl := pl) c hr hk (fun σ => L2N.passAt tke σ) he hkw hall hks hpl ht
end
end KB

/-! shares: the numbers, and how an object of the class stands on the heap -/
namespace KB
open PySem PySem.Spec PyProof.Rows L2
section
variable {X : Cx} {a b c : Expr} {tA t1 t2 : TT} {pos : Pos}
/-- a if c else b, as a test -/
def tIfT (c t u : TT) : TT := fun σ H Q => c σ H fun k H1 => if k = true then t σ H1 Q else u σ H1 Q
theorem pt_ifT (hc : PT X c tA) (ha : PT X a t1) (hb : PT X b t2) : PT X (.IfExp c a b pos) (tIfT tA t1 t2) := by
  refine ⟨fun pins s σ H Q I h => ?_⟩
  refine isTrue_IfExp (thn (hc.run pins s σ H _ I h) fun d s1 ⟨H1, I1, q1⟩ => ?_)
  cases d with
  | true => exact ha.run pins s1 σ H1 Q I1 q1
  | false => exact hb.run pins s1 σ H1 Q I1 q1
end
theorem roomS {X : Cx} {k : Nat} {a : Addr} {pn : List (Addr × Obj)} (hr : Room k X.A) : L2H.RoomH k (X.suite a pn).A := ⟨hr.dp, hr.un⟩
theorem kit_me {K : PySem.W.Frag} {C : Addr} : PySem.W.kitOne K (.ref C) (.ref C) = some true := by
  unfold PySem.W.kitOne
  rw [if_pos (by simp)]
theorem kit_no {K : PySem.W.Frag} {C : Addr} {n : String} {b : Bool} (h1 : PySem.W.isClsIn K C = true) (h2 : PySem.W.typeIn K (.ref C) = some (.type "type")) (h3 : PySem.W.subIn K (.type n) (.ref C) = some b) : PySem.W.kitOne K (.type n) (.ref C) = some b := by
  have e0 : ((Value.type n) == (Value.ref C)) = false := by rfl
  have e2 : ((PySem.W.clsIn K C).isSome && PySem.W.typeIn K (.ref C) == some (.type "type")) = true := by
    have h1' : (PySem.W.clsIn K C).isSome = true := h1
    rw [h1', h2] <;> rfl
  unfold PySem.W.kitOne
  rw [e0]
  show (if ((PySem.W.clsIn K C).isSome && PySem.W.typeIn K (.ref C) == some (.type "type")) = true then PySem.W.subIn K (.type n) (.ref C) else none) = some b
  rw [if_pos e2]
  exact h3
def gN (o u : Int) : Nat := Nat.gcd o.natAbs u.natAbs
def rOd (o u : Int) : Int := if u < 0 then -(o / (gN o u : Int)) else o / (gN o u : Int)
def rUd (o u : Int) : Int := if u < 0 then -(u / (gN o u : Int)) else u / (gN o u : Int)
theorem gN_pos {o u : Int} (h : u ≠ 0) : 0 < gN o u := Nat.gcd_pos_of_pos_right _ (by omega)
theorem gN_o (o u : Int) : (gN o u : Int) ∣ o := Int.ofNat_dvd_left.mpr (Nat.gcd_dvd_left _ _)
theorem gN_u (o u : Int) : (gN o u : Int) ∣ u := Int.ofNat_dvd_left.mpr (Nat.gcd_dvd_right _ _)
theorem gN_le {o u : Int} (h : u ≠ 0) : gN o u ≤ u.natAbs := Nat.le_of_dvd (by omega) (Nat.gcd_dvd_right _ _)
/-- the sign of the divisor -/
def cN (o u : Int) : Int := if u < 0 then -(gN o u : Int) else (gN o u : Int)
theorem cN_ne {o u : Int} (h : u ≠ 0) : cN o u ≠ 0 := by
  have := gN_pos (o := o) h
  unfold cN
  split <;> omega
theorem cN_abs {o u : Int} : (cN o u).natAbs = gN o u := by
  unfold cN
  split <;> omega
theorem fdiv_of {a g : Int} (x : Int) (hg : g ≠ 0) (e : a = g * x) : a.fdiv g = x := by
  subst e
  rw [Int.fdiv_eq_ediv_of_dvd (Int.dvd_mul_right _ _)]
  exact Int.mul_ediv_cancel_left _ hg
theorem div_of {a g : Int} (x : Int) (hg : g ≠ 0) (e : a = g * x) : a / g = x := by
  subst e
  exact Int.mul_ediv_cancel_left _ hg
theorem fdiv_o {o u : Int} (h : u ≠ 0) : o.fdiv (cN o u) = rOd o u := by
  have g := gN_pos (o := o) h
  obtain ⟨x, e⟩ := gN_o o u
  have g0 : (gN o u : Int) ≠ 0 := by omega
  unfold rOd cN
  rw [div_of x g0 e]
  split
  · exact fdiv_of _ (by omega) (by rw [Int.neg_mul_neg]; exact e)
  · exact fdiv_of _ g0 e
theorem fdiv_u {o u : Int} (h : u ≠ 0) : u.fdiv (cN o u) = rUd o u := by
  have g := gN_pos (o := o) h
  obtain ⟨x, e⟩ := gN_u o u
  have g0 : (gN o u : Int) ≠ 0 := by omega
  unfold rUd cN
  rw [div_of x g0 e]
  split
  · exact fdiv_of _ (by omega) (by rw [Int.neg_mul_neg]; exact e)
  · exact fdiv_of _ g0 e
theorem rU_pos {o u : Int} (h : u ≠ 0) : 0 < rUd o u := by
  have g := gN_pos (o := o) h
  obtain ⟨x, e⟩ := gN_u o u
  have g0 : (gN o u : Int) ≠ 0 := by omega
  have gp : (0 : Int) < gN o u := by omega
  unfold rUd
  rw [div_of x g0 e]
  split
  · rename_i hu
    have : x < 0 := by
      rcases Int.lt_or_le x 0 with z | z
      · exact z
      · have := Int.mul_nonneg (Int.le_of_lt gp) z
        omega
    omega
  · rename_i hu
    rcases Int.lt_or_le 0 x with z | z
    · exact z
    · have : (gN o u : Int) * x ≤ 0 := Int.mul_nonpos_of_nonneg_of_nonpos (Int.le_of_lt gp) z
      omega
theorem rO_le (o u : Int) : (rOd o u).natAbs ≤ o.natAbs := by
  have z : (o / (gN o u : Int)).natAbs ≤ o.natAbs := Int.natAbs_ediv_le_natAbs _ _
  unfold rOd
  split
  · rw [Int.natAbs_neg]
    exact z
  · exact z
theorem rU_le (o u : Int) : (rUd o u).natAbs ≤ u.natAbs := by
  have z : (u / (gN o u : Int)).natAbs ≤ u.natAbs := Int.natAbs_ediv_le_natAbs _ _
  unfold rUd
  split
  · rw [Int.natAbs_neg]
    exact z
  · exact z
theorem gN_scale {g : Int} (a b : Int) (hg : 0 < g) : (gN (g * a) (g * b) : Int) = g * gN a b := by
  unfold gN
  rw [Int.natAbs_mul, Int.natAbs_mul, Nat.gcd_mul_left, Int.natCast_mul]
  congr 1
  omega
theorem rOd_scale {g : Int} (a b : Int) (hg : 0 < g) : rOd (g * a) (g * b) = rOd a b := by
  have e : (g * a) / (gN (g * a) (g * b) : Int) = a / (gN a b : Int) := by
    rw [gN_scale a b hg]
    exact Int.mul_ediv_mul_of_pos _ _ hg
  unfold rOd
  rw [e]
  by_cases h : b < 0
  · rw [if_pos h, if_pos (Int.mul_neg_of_pos_of_neg hg h)]
  · rw [if_neg h, if_neg (Int.not_lt.mpr (Int.mul_nonneg (Int.le_of_lt hg) (Int.not_lt.mp h)))]
theorem rUd_scale {g : Int} (a b : Int) (hg : 0 < g) : rUd (g * a) (g * b) = rUd a b := by
  have e : (g * b) / (gN (g * a) (g * b) : Int) = b / (gN a b : Int) := by
    rw [gN_scale a b hg]
    exact Int.mul_ediv_mul_of_pos _ _ hg
  unfold rUd
  rw [e]
  by_cases h : b < 0
  · rw [if_pos h, if_pos (Int.mul_neg_of_pos_of_neg hg h)]
  · rw [if_neg h, if_neg (Int.not_lt.mpr (Int.mul_nonneg (Int.le_of_lt hg) (Int.not_lt.mp h)))]
theorem red_ex {o u : Int} (hu : 0 < u) : ∃ g : Int, 0 < g ∧ o = g * rOd o u ∧ u = g * rUd o u := by
  have g0 := gN_pos (o := o) (Int.ne_of_gt hu)
  refine ⟨gN o u, by omega, ?_, ?_⟩
  · unfold rOd
    rw [if_neg (by omega), Int.mul_ediv_cancel' (gN_o o u)]
  · unfold rUd
    rw [if_neg (by omega), Int.mul_ediv_cancel' (gN_u o u)]
theorem red_sum {n d o u : Int} (hu : 0 < u) : rOd (n * u + o * d) (d * u) = rOd (n * rUd o u + rOd o u * d) (d * rUd o u) ∧ rUd (n * u + o * d) (d * u) = rUd (n * rUd o u + rOd o u * d) (d * rUd o u) := by
  obtain ⟨g, g0, eo, eu⟩ := red_ex (o := o) hu
  generalize rOd o u = o' at *
  generalize rUd o u = u' at *
  subst eo eu
  have e1 : n * (g * u') + (g * o') * d = g * (n * u' + o' * d) := by
    rw [Int.mul_add, Int.mul_left_comm n, Int.mul_assoc g o']
  have e2 : d * (g * u') = g * (d * u') := Int.mul_left_comm _ _ _
  rw [e1, e2]
  exact ⟨rOd_scale _ _ g0, rUd_scale _ _ g0⟩
theorem red_less {n d o u : Int} (hu : 0 < u) : rOd (n * u - o * d) (d * u) = rOd (n * rUd o u - rOd o u * d) (d * rUd o u) ∧ rUd (n * u - o * d) (d * u) = rUd (n * rUd o u - rOd o u * d) (d * rUd o u) := by
  obtain ⟨g, g0, eo, eu⟩ := red_ex (o := o) hu
  generalize rOd o u = o' at *
  generalize rUd o u = u' at *
  subst eo eu
  have e1 : n * (g * u') - (g * o') * d = g * (n * u' - o' * d) := by
    rw [Int.mul_sub, Int.mul_left_comm n, Int.mul_assoc g o']
  have e2 : d * (g * u') = g * (d * u') := Int.mul_left_comm _ _ _
  rw [e1, e2]
  exact ⟨rOd_scale _ _ g0, rUd_scale _ _ g0⟩
theorem red_times {n d o u : Int} (hu : 0 < u) : rOd (n * o) (d * u) = rOd (n * rOd o u) (d * rUd o u) ∧ rUd (n * o) (d * u) = rUd (n * rOd o u) (d * rUd o u) := by
  obtain ⟨g, g0, eo, eu⟩ := red_ex (o := o) hu
  generalize rOd o u = o' at *
  generalize rUd o u = u' at *
  subst eo eu
  have e1 : n * (g * o') = g * (n * o') := by
    rw [Int.mul_left_comm n]
  have e2 : d * (g * u') = g * (d * u') := Int.mul_left_comm _ _ _
  rw [e1, e2]
  exact ⟨rOd_scale _ _ g0, rUd_scale _ _ g0⟩
theorem gN_one (n : Int) : gN n 1 = 1 := Nat.gcd_one_right _
theorem gN_one' (n : Int) : gN 1 n = 1 := Nat.gcd_one_left _
theorem rOd_one (n : Int) : rOd n 1 = n := by
  unfold rOd
  rw [if_neg (by decide), gN_one]
  exact Int.ediv_one _
theorem rUd_one (n : Int) : rUd n 1 = 1 := by
  unfold rUd
  rw [if_neg (by decide), gN_one]
  rfl
theorem rOd_one' {n : Int} (h : 0 < n) : rOd 1 n = 1 := by
  unfold rOd
  rw [if_neg (by omega), gN_one']
  rfl
theorem rUd_one' {n : Int} (h : 0 < n) : rUd 1 n = n := by
  unfold rUd
  rw [if_neg (by omega), gN_one']
  exact Int.ediv_one _
/-- Euclid's turns: k turns done of a pair with the product M -/
structure Eu (o u : Int) (k l r : Nat) : Prop where
  g : Nat.gcd l r = gN o u
  l0 : 0 < l
  m : (k = 0 ∧ l = u.natAbs ∧ r = o.natAbs) ∨ (r ≤ l ∧ 2 ^ k * (l * r) ≤ 2 * (u.natAbs * o.natAbs))
theorem Eu.ini {o u : Int} (h : u ≠ 0) : Eu o u 0 u.natAbs o.natAbs := ⟨Nat.gcd_comm _ _, by omega, .inl ⟨rfl, rfl, rfl⟩⟩
theorem Eu.nxt {o u : Int} {k l r : Nat} (E : Eu o u k l r) (h : r ≠ 0) : Eu o u (k + 1) r (l % r) := by
  obtain ⟨g, l0, m⟩ := E
  have lt : l % r < r := Nat.mod_lt _ (by omega)
  refine ⟨?_, by omega, .inr ⟨by omega, ?_⟩⟩
  · rw [Nat.gcd_comm, ← Nat.gcd_rec, Nat.gcd_comm]
    exact g
  · rcases m with ⟨rfl, rfl, rfl⟩ | ⟨hr, hm⟩
    · have a1 : o.natAbs * (u.natAbs % o.natAbs) ≤ o.natAbs * u.natAbs := Nat.mul_le_mul_left _ (Nat.mod_le _ _)
      have a2 : o.natAbs * u.natAbs = u.natAbs * o.natAbs := Nat.mul_comm _ _
      show 2 ^ 1 * _ ≤ _
      omega
    · have h2 : 2 * (l % r) ≤ l := by
        have e := Nat.div_add_mod l r
        have d : 1 ≤ l / r := Nat.div_pos hr (by omega)
        have : r * 1 ≤ r * (l / r) := Nat.mul_le_mul_left _ d
        omega
      have h3 : 2 ^ (k + 1) * (r * (l % r)) = 2 ^ k * (r * (2 * (l % r))) := by
        rw [Nat.pow_succ, Nat.mul_assoc, ← Nat.mul_assoc 2 r, Nat.mul_comm 2 r, Nat.mul_assoc r 2]
      rw [h3]
      refine Nat.le_trans (Nat.mul_le_mul_left _ (Nat.mul_le_mul_left r h2)) ?_
      rw [Nat.mul_comm r l]
      exact hm
theorem Eu.fin {o u : Int} {l r : Nat} (E : Eu o u 9000 l r) (h1 : o.natAbs < 2 ^ 4000) (h2 : u.natAbs < 2 ^ 4000) : r = 0 := by
  obtain ⟨g, l0, m⟩ := E
  rcases m with ⟨z, _⟩ | ⟨hr, hm⟩
  · cases z
  · rcases Nat.eq_zero_or_pos r with z | z
    · exact z
    · exfalso
      have a1 : 1 ≤ l * r := Nat.mul_pos l0 z
      have a2 : 2 ^ 9000 * 1 ≤ 2 ^ 9000 * (l * r) := Nat.mul_le_mul_left _ a1
      have a3 : u.natAbs * o.natAbs ≤ 2 ^ 4000 * 2 ^ 4000 := Nat.mul_le_mul (Nat.le_of_lt h2) (Nat.le_of_lt h1)
      have a4 : (2 : Nat) ^ 4000 * 2 ^ 4000 = 2 ^ 8000 := by rw [← Nat.pow_add]
      have a5 : (2 : Nat) * 2 ^ 8000 = 2 ^ 8001 := (Nat.pow_succ' (m := 2) (n := 8000)).symm
      have a6 : (2 : Nat) ^ 8001 < 2 ^ 9000 := Nat.pow_lt_pow_right (by decide) (by decide)
      generalize (2 : Nat) ^ 9000 = A at *
      generalize (2 : Nat) ^ 8001 = B at *
      generalize (2 : Nat) ^ 8000 = D at *
      generalize (2 : Nat) ^ 4000 * 2 ^ 4000 = F at *
      omega
theorem Eu.gcd {o u : Int} {k l : Nat} (E : Eu o u k l 0) : l = gN o u := by
  have := E.g
  rwa [Nat.gcd_zero_right] at this
theorem bits_mul {x y : Int} {a b : Nat} (h1 : x.natAbs < 2 ^ a) (h2 : y.natAbs < 2 ^ b) : (x * y).natAbs < 2 ^ (a + b) := wide_lt h1 h2
theorem bits_add {x y : Int} {a : Nat} (h1 : x.natAbs < 2 ^ a) (h2 : y.natAbs < 2 ^ a) : (x + y).natAbs < 2 ^ (a + 1) := by
  rw [Nat.pow_succ]
  omega
theorem bits_sub {x y : Int} {a : Nat} (h1 : x.natAbs < 2 ^ a) (h2 : y.natAbs < 2 ^ a) : (x - y).natAbs < 2 ^ (a + 1) := by
  rw [Nat.pow_succ]
  omega
theorem bits_le {x : Int} {a b : Nat} (h : x.natAbs < 2 ^ a) (hb : a ≤ b) : x.natAbs < 2 ^ b := Nat.lt_of_lt_of_le h (Nat.pow_le_pow_right (by decide) hb)
theorem bits_of {x : Int} {a : Nat} (h : x.natAbs ≤ 2 ^ a) : x.natAbs < 2 ^ (a + 1) := by
  have : 0 < 2 ^ a := Nat.pow_pos (by decide)
  rw [Nat.pow_succ]
  omega

/-! ### an object of the class -/
structure ShC (K : PySem.W.Frag) (C : Addr) : Prop where
  ins : C8.InsC K C
  no : NoAttr K C "over"
  nu : NoAttr K C "under"
  op : OpC K C
  nf : PySem.W.notFirst K C (.ref C) = true
def fz (n d : Int) : List (Str × V) := [("over", .int n), ("under", .int d)]
theorem fz_o {n d : Int} : List.lookup ("over" : Str) (fz n d) = some (V.int n) := rfl
theorem fz_u {n d : Int} : List.lookup ("under" : Str) (fz n d) = some (V.int d) := rfl
def Sh (C : Addr) (H : Hp) (x : Addr) (n d : Int) : Prop := ∃ dx, H x = some (.ins C dx (fz n d))
theorem Sh.mono {C : Addr} {H H' : Hp} {x : Addr} {n d : Int} (h : Sh C H x n d) (s : Same H H') : Sh C H' x n d := by
  obtain ⟨dx, e⟩ := h
  exact ⟨dx, s _ _ e⟩
theorem ShC.ty {K : PySem.W.Frag} {C : Addr} (c : ShC K C) {H : Hp} {x : Addr} {n d : Int} (h : Sh C H x n d) : TyX K H (.ref x) (.ref C) := by
  obtain ⟨dx, e⟩ := h
  exact .base (.ins e c.ins.cl c.ins.ha c.ins.hn c.ins.htk c.ins.hm)
/-- a kind that is no share's -/
structure Foe (K : PySem.W.Frag) (C : Addr) (t : Value) : Prop where
  k : PySem.W.kitOne K t (.ref C) = some false
  nf : PySem.W.notFirst K C t = true
/-- a share is made at x, its dict at dx -/
def mkS (C : Addr) (H : Hp) (x dx : Addr) (n d : Int) : Hp := upd (upd H dx (.own x)) x (.ins C dx (fz n d))
theorem mkS_same {C : Addr} {H : Hp} {x dx : Addr} {n d : Int} (hx : H x = none) (hd : H dx = none) : Same H (mkS C H x dx n d) := (same_out (same_upd hd) hx)
theorem mkS_sh {C : Addr} {H : Hp} {x dx : Addr} {n d : Int} : Sh C (mkS C H x dx n d) x n d := ⟨dx, upd_same⟩
theorem Tp.mkSh {B H H' : Hp} {t x dx C : Addr} {c : Nat} {n d : Int} (T : Tp B H t c) (hx : H x = none) (hdx : H dx = none) (hne : dx ≠ x) (e : H' = upd (upd (upd H dx (.own x)) x (.ins C dx [])) x (.ins C dx (fz n d))) : ∃ B', Same B B' ∧ Tp B' H' t c ∧ Sh C B' x n d := by
  rw [upd_upd] at e
  subst e
  exact ⟨mkS C B x dx n d, mkS_same (T.isn hx) (T.isn hdx), T.inst hx hdx hne, mkS_sh⟩
def pick3 {α : Type} (a b c : α) : Nat → α
  | 0 => a
  | 1 => b
  | _ => c
theorem get3 {S : Nat → Addr} {i : Nat} (h : i < 3) : [V.ref (S 0), V.ref (S 1), V.ref (S 2)][i]? = some (V.ref (S i)) := by
  rcases (by omega : i = 0 ∨ i = 1 ∨ i = 2) with rfl | rfl | rfl <;> rfl
def spInit (C CN : Addr) : Sp := fun vs H Q E => ∃ x dx o u, vs = [.ref x, .int o, .int u] ∧ H x = some (.ins C dx []) ∧ u.natAbs < 2 ^ 9000 ∧
  ((u ≠ 0 ∧ ∀ H', H' = upd H x (.ins C dx (fz (rOd o u) (rUd o u))) → Q .non H') ∨ (u = 0 ∧ ∀ d, H d = none → E (.ref CN) (some d) (upd H d (.xd [("number", .int 0)]))))
/-- a binary operator of two shares -/
def spOp (C : Addr) (fo fu : Int → Int → Int → Int → Int) : Sp := fun vs H Q _ => ∃ a b n d m e, vs = [.ref a, .ref b] ∧ Sh C H a n d ∧ Sh C H b m e ∧ 0 < d ∧ 0 < e ∧ (n.natAbs < 2 ^ 4000 ∧ d.natAbs < 2 ^ 4000 ∧ m.natAbs < 2 ^ 4000 ∧ e.natAbs < 2 ^ 4000) ∧
  ∀ x dx, H x = none → H dx = none → dx ≠ x → Q (.ref x) (mkS C H x dx (rOd (fo n d m e) (fu n d m e)) (rUd (fo n d m e) (fu n d m e)))
def spAdd (C : Addr) : Sp := spOp C (fun n d m e => n * e + m * d) (fun _ d _ e => d * e)
def spSub (C : Addr) : Sp := spOp C (fun n d m e => n * e - m * d) (fun _ d _ e => d * e)
def spMul (C : Addr) : Sp := spOp C (fun n _ m _ => n * m) (fun _ d _ e => d * e)
def spEq (K : PySem.W.Frag) (C : Addr) : Sp := fun vs H Q _ => ∃ a y n d, vs = [.ref a, y] ∧ Sh C H a n d ∧ ((∃ b m e, y = .ref b ∧ Sh C H b m e ∧ Q (.bl (decide (n = m) && decide (d = e))) H) ∨ ∃ t, TyX K H y t ∧ Foe K C t ∧ Q (.bl false) H)
def spBelow (C : Addr) : Sp := fun vs H Q _ => ∃ a b n d m e, vs = [.ref a, .ref b] ∧ Sh C H a n d ∧ Sh C H b m e ∧ (n.natAbs < 2 ^ 4000 ∧ d.natAbs < 2 ^ 4000 ∧ m.natAbs < 2 ^ 4000 ∧ e.natAbs < 2 ^ 4000) ∧ Q (.bl (decide (n * e < m * d))) H
def spHalf (C : Addr) : Sp := fun vs H Q _ => ∃ n : Nat, vs = [.int n] ∧ n ≤ 8000 ∧ ∀ x dx, H x = none → H dx = none → dx ≠ x → Q (.ref x) (mkS C H x dx (rOd 1 (2 ^ n)) (rUd 1 (2 ^ n)))
end KB

/-! things: values of data on the heap -/
namespace KB
open PySem PySem.Spec PyProof.Rows L2
theorem sameT {K : PySem.W.Frag} {H H' : Hp} {a : Addr} {xs : List V} (e : Same H H') (h : SqT K H a xs) : SqT K H' a xs := by
  rcases h with (h | ⟨o, h⟩) | h
  · exact .inl (.inl (e _ _ h))
  · exact .inl (.inr ⟨o, e _ _ h⟩)
  · exact .inr h
mutual
theorem Dp.mono {K : PySem.W.Frag} {H H' : Hp} (s : Same H H') : ∀ (d : PyData) (v : V), Dp K H v d → Dp K H' v d
  | .none, _, h => by cases h; exact .non
  | .bool b, _, h => by cases h; exact .bl b
  | .int i, _, h => by cases h; exact .int i
  | .str x, _, h => by cases h; exact .str x
  | .list ds, _, h => by
    cases h with
    | lst hs ha => exact .lst (s.seq hs) (DpAll.mono s ds _ ha)
  | .tuple ds, _, h => by
    cases h with
    | tup hs ha => exact .tup (sameT s hs) (DpAll.mono s ds _ ha)
  | .dict _, _, h => by cases h
theorem DpAll.mono {K : PySem.W.Frag} {H H' : Hp} (s : Same H H') : ∀ (ds : List PyData) (vs : List V), DpAll K H vs ds → DpAll K H' vs ds
  | [], _, h => by cases h; exact .nil
  | d :: ds, _, h => by
    cases h with
    | cons h1 h2 => exact .cons (Dp.mono s d _ h1) (DpAll.mono s ds _ h2)
end
theorem DpAll.len {K : PySem.W.Frag} {H : Hp} : ∀ {ds : List PyData} {vs : List V}, DpAll K H vs ds → vs.length = ds.length
  | [], _, h => by cases h; rfl
  | d :: ds, _, h => by
    cases h with
    | cons h1 h2 => rw [List.length_cons, List.length_cons, DpAll.len h2]
theorem DpAll.get {K : PySem.W.Frag} {H : Hp} : ∀ {ds : List PyData} {vs : List V} {k : Nat} {d : PyData}, DpAll K H vs ds → ds[k]? = some d → ∃ v, vs[k]? = some v ∧ Dp K H v d
  | [], _, _, _, _, e => by simp at e
  | d :: ds, _, 0, d', h, e => by
    cases h with
    | cons h1 h2 =>
      cases Option.some.inj e
      exact ⟨_, rfl, h1⟩
  | d :: ds, _, k + 1, d', h, e => by
    cases h with
    | cons h1 h2 =>
      obtain ⟨v, h3, h4⟩ := DpAll.get h2 (show ds[k]? = some d' from e)
      exact ⟨v, h3, h4⟩
theorem DpAll.get' {K : PySem.W.Frag} {H : Hp} {ds : List PyData} {vs : List V} {k : Nat} {v : V} (h : DpAll K H vs ds) (e : vs[k]? = some v) : ∃ d, ds[k]? = some d ∧ Dp K H v d := by
  have hk : k < vs.length := (List.getElem?_eq_some_iff.mp e).1
  have hk' : k < ds.length := by rw [← DpAll.len h]; exact hk
  obtain ⟨v', h3, h4⟩ := DpAll.get h (List.getElem?_eq_getElem hk')
  rw [e] at h3
  cases Option.some.inj h3
  exact ⟨_, List.getElem?_eq_getElem hk', h4⟩
theorem DpAll.snoc {K : PySem.W.Frag} {H : Hp} {v : V} {d : PyData} (hd : Dp K H v d) : ∀ {ds : List PyData} {vs : List V}, DpAll K H vs ds → DpAll K H (vs ++ [v]) (ds ++ [d])
  | [], _, h => by cases h; exact .cons hd .nil
  | e :: ds, _, h => by
    cases h with
    | cons h1 h2 => exact .cons h1 (DpAll.snoc hd h2)
/-- data of a height below n, its sequences not long -/
def okD : Nat → PyData → Bool
  | 0, _ => false
  | _ + 1, .none => true
  | _ + 1, .bool _ => true
  | _ + 1, .int _ => true
  | _ + 1, .str _ => true
  | n + 1, .list ds => decide (ds.length ≤ 100000) && ds.all (okD n)
  | n + 1, .tuple ds => decide (ds.length ≤ 100000) && ds.all (okD n)
  | _ + 1, .dict _ => false
theorem okD_seq {n : Nat} {ds : List PyData} (h : (decide (ds.length ≤ 100000) && ds.all (okD n)) = true) : ds.length ≤ 100000 ∧ ∀ d ∈ ds, okD n d = true := by
  rw [Bool.and_eq_true] at h
  exact ⟨of_decide_eq_true h.1, List.all_eq_true.mp h.2⟩
theorem okD_mk {n : Nat} {ds : List PyData} (h1 : ds.length ≤ 100000) (h2 : ∀ d ∈ ds, okD n d = true) : (decide (ds.length ≤ 100000) && ds.all (okD n)) = true := by
  rw [Bool.and_eq_true]
  exact ⟨decide_eq_true h1, List.all_eq_true.mpr h2⟩
theorem ty_seq {K : PySem.W.Frag} {H : Hp} {a : Addr} {xs : List V} (h : SqL K H a xs) : TyX K H (.ref a) (.type "list") := by
  rcases h with (h | ⟨o, h⟩) | ⟨o, its, n, h1, h2, _⟩
  · exact .base (.lst h)
  · exact .base (.frz h)
  · exact .kList h1 h2
theorem ty_tup {K : PySem.W.Frag} {H : Hp} {a : Addr} {xs : List V} (h : SqT K H a xs) : TyX K H (.ref a) (.type "tuple") := by
  rcases h with (h | ⟨o, h⟩) | ⟨o, its, n, h1, h2, _⟩
  · exact .base (.tup h)
  · exact .fTuple h
  · exact .kTuple h1 h2
def tn : PyData → String
  | .none => "NoneType"
  | .bool _ => "bool"
  | .int _ => "int"
  | .str _ => "str"
  | .list _ => "list"
  | .tuple _ => "tuple"
  | .dict _ => "dict"
theorem ty_dp {K : PySem.W.Frag} {H : Hp} {d : PyData} {v : V} (h : Dp K H v d) : TyX K H v (.type (tn d)) := by
  cases h with
  | non => exact .base .non
  | bl b => exact .base (.bl b)
  | int i => exact .base (.int i)
  | str x => exact .base (.str x)
  | lst hs _ => exact ty_seq hs
  | tup hs _ => exact ty_tup hs
/-- x is b, b a bool -/
theorem op_isB {X : Cx} : OpR X (compareOp .Is) (fun x y H Q => ∃ b, y = .bl b ∧ Q (.bl (decide (x = .bl b))) H) := by
  intro pins s σ H x y v u Q I rx ry h
  obtain ⟨b, rfl, q⟩ := h
  cases (show u = Value.bool b from ry)
  have go : ∀ v : Value, PySem.plainIs v (.bool b) = true → RelV x v → wpAny (model X.prog X.w) X.A (compareOp .Is v (.bool b)) (EP X pins σ Q) X.xe s := fun v hp r => by
    refine PySem.wpAny_is_plain hp ⟨.bl (v == .bool b), H, I, rfl, ?_⟩
    have e : (v == Value.bool b) = decide (x = .bl b) := by
      rw [Bool.eq_iff_iff, beq_iff_eq, decide_eq_true_iff]
      constructor
      · intro z
        subst z
        exact RelV.inj r rfl
      · intro z
        subst z
        exact r
    rw [e]
    exact q
  refine go v ?_ rx
  cases x with
  | non => cases rx; rfl
  | bl j => cases rx; rfl
  | int j => obtain ⟨t, rfl⟩ := rx; rfl
  | str j => obtain ⟨t, rfl⟩ := rx; rfl
  | byt j => obtain ⟨t, rfl⟩ := rx; rfl
  | flt j => obtain ⟨t, rfl⟩ := rx; rfl
  | ref j => cases rx; rfl
  | ty j => cases rx; rfl
def spSame (K : PySem.W.Frag) (n : Nat) : Sp := fun vs H Q _ => ∃ x y d, vs = [x, y] ∧ okD n d = true ∧ Dp K H x d ∧ Dp K H y d ∧ Q (.bl true) H
/-- N: cells that are new behind H, as they stand in H' -/
structure Nw (N H H' : Hp) : Prop where
  same : Same N H'
  new : ∀ p, N p ≠ none → H p = none
def mrg (N M : Hp) : Hp := fun p => match N p with
  | some o => some o
  | none => M p
theorem mrg_l {N M : Hp} : Same N (mrg N M) := fun p o e => by
  unfold mrg
  rw [e]
theorem mrg_r {N M : Hp} (h : ∀ p, M p ≠ none → N p = none) : Same M (mrg N M) := fun p o e => by
  unfold mrg
  rw [h p (by rw [e]; exact fun z => by cases z)]
  exact e
theorem mrg_none {N M : Hp} {p : Addr} (h1 : N p = none) (h2 : M p = none) : mrg N M p = none := by
  unfold mrg
  rw [h1]
  exact h2
theorem mrg_same {N M H : Hp} (h1 : Same N H) (h2 : Same M H) : Same (mrg N M) H := fun p o e => by
  unfold mrg at e
  split at e
  · rename_i o' e'
    cases e
    exact h1 _ _ e'
  · exact h2 _ _ e
theorem Nw.nil {H : Hp} : Nw (fun _ => none) H H := ⟨fun _ _ e => (by cases e), fun _ h => absurd rfl h⟩
theorem Nw.disj {N M H H1 H2 : Hp} (h1 : Nw N H H1) (h2 : Nw M H1 H2) : ∀ p, M p ≠ none → N p = none := fun p h => h1.same.free (h2.new p h)
theorem Nw.add {N M H H1 H2 : Hp} (h1 : Nw N H H1) (h2 : Nw M H1 H2) (s : Same H H1) (s2 : Same H1 H2) : Nw (mrg N M) H H2 := by
  refine ⟨mrg_same (h1.same.trans s2) h2.same, fun p h => ?_⟩
  cases e : N p with
  | some o => exact h1.new p (by rw [e]; exact fun z => by cases z)
  | none =>
    refine s.free (h2.new p fun z => h ?_)
    exact mrg_none e z
theorem Nw.put {N H H1 : Hp} {l : Addr} {o : HO} (h1 : Nw N H H1) (s : Same H H1) (hl : H1 l = none) : Nw (upd N l o) H (upd H1 l o) := by
  refine ⟨same_set h1.same, fun p h => ?_⟩
  by_cases e : p = l
  · subst e
    exact s.free hl
  · rw [upd_ne e] at h
    exact h1.new p h
theorem Nw.out {N H H1 : Hp} {l : Addr} {o : HO} (h1 : Nw N H H1) (hl : N l = none) : Nw N H (upd H1 l o) := ⟨same_out h1.same hl, h1.new⟩
theorem Nw.own {N H H1 : Hp} {l : Addr} {o : HO} (h1 : Nw N H H1) (hl : H l = none) (e : H1 l = some o) : Nw (upd N l o) H H1 := by
  refine ⟨fun p x hx => ?_, fun p h => ?_⟩
  · by_cases z : p = l
    · subst z
      rw [upd_same] at hx
      cases hx
      exact e
    · rw [upd_ne z] at hx
      exact h1.same _ _ hx
  · by_cases z : p = l
    · subst z
      exact hl
    · rw [upd_ne z] at h
      exact h1.new p h
def spCopy (K : PySem.W.Frag) (n : Nat) : Sp := fun vs H Q _ => ∃ x d, vs = [x] ∧ okD n d = true ∧ Dp K H x d ∧ ∀ H' v N, Same H H' → Nw N H H' → Dp K N v d → Q v H'
end KB
namespace KB
open PySem PySem.Spec PyProof.Rows L2
/-- a text so many times -/
def repS (z : Str) (k : Int) : Str := ⟨((List.replicate k.toNat z.cps.toList).flatten).toArray⟩
theorem foldl_app (z : Array Nat) : ∀ (n : Nat) (b : Array Nat), ((List.replicate n z).foldl (· ++ ·) b).toList = b.toList ++ (List.replicate n z.toList).flatten
  | 0, b => by simp
  | n + 1, b => by
    rw [List.replicate_succ, List.foldl_cons, foldl_app z n, List.replicate_succ, List.flatten_cons, Array.toList_append, List.append_assoc]
theorem repS_len (z : Str) (k : Int) : (repS z k).length = k.toNat * z.length := by
  show ((List.replicate k.toNat z.cps.toList).flatten.toArray).size = _
  rw [List.size_toArray, List.length_flatten]
  simp
  rfl
def rRepS : R2 := fun x y H Q => ∃ (z : Str) (k : Int), x = .str z ∧ y = .int k ∧ -(2 ^ 63) ≤ k ∧ k < 2 ^ 63 ∧ k.toNat * z.length ≤ 16777216 ∧ Q (.str (repS z k)) H
theorem op_repS {X : Cx} : OpR X (binaryOp .Mult) rRepS := by
  intro pins s σ H x y v u Q I rx ry h
  obtain ⟨z, k, rfl, rfl, h1, h2, hz, q⟩ := h
  obtain ⟨t, rfl⟩ := rx
  obtain ⟨t', rfl⟩ := ry
  have hk : ¬ k < 1 → ((k.toNat * z.length : Nat) : Int) = (z.length : Int) * k := fun hk => by
    rw [Int.natCast_mul, Int.toNat_of_nonneg (by omega), Int.mul_comm]
  refine PySem.P.mul_str (by rw [decide_eq_false (by omega), decide_eq_false (by omega)] <;> rfl) (fun hk1 _ hgt => ?_) (fun hk1 _ => ?_) ?_
  · have e := hk hk1
    have : (z.length : Int) ≤ (2 ^ 63 - 1) / k := Int.le_ediv_of_mul_le (by omega) (by omega)
    omega
  · rw [Nat.mul_comm]
    unfold Builtin.Str.tooLong
    have e := sizeLine_eq
    simp only [decide_eq_false_iff_not]
    omega
  · have len := repS_len z k
    have e1 : k < 1 → Str.empty = repS z k := fun h => by
      unfold repS
      rw [show k.toNat = 0 by omega]
      rfl
    have e2 : (k == 1 || z.length == 0) = true → z = repS z k := fun h => by
      unfold repS
      rw [Bool.or_eq_true, beq_iff_eq, beq_iff_eq] at h
      rcases h with h | h
      · subst h
        obtain ⟨c⟩ := z
        simp
      · obtain ⟨c⟩ := z
        have : c = #[] := Array.eq_empty_of_size_eq_zero h
        subst this
        simp
    have e3 : (⟨(List.replicate k.toNat z.cps).foldl (· ++ ·) #[]⟩ : Str) = repS z k := by
      unfold repS
      congr 1
      apply Array.toList_inj.mp
      rw [foldl_app]
      simp
    have sl := sizeLine_eq
    by_cases c1 : k < 1
    · rw [if_pos c1, e1 c1]
      exact ⟨by rw [len]; omega, .str _, H, I.tok _, ⟨_, rfl⟩, q⟩
    · rw [if_neg c1]
      by_cases c2 : (k == 1 || z.length == 0) = true
      · rw [if_pos c2]
        rw [← e2 c2] at q
        exact ⟨.str _, H, I, ⟨_, rfl⟩, q⟩
      · rw [if_neg c2, e3]
        exact ⟨by rw [len]; omega, .str _, H, I.tok _, ⟨_, rfl⟩, q⟩
end KB
namespace KB
open PySem PySem.Spec PyProof.Rows L2
theorem Tp.shrink {B B' H : Hp} {t : Addr} {c : Nat} (T : Tp B' H t c) (s : Same B B') : Tp B H t c := by
  obtain ⟨sm, bt, g, gs, sd, ct, h1, h2⟩ := T
  exact ⟨s.trans sm, s.free bt, g, gs, sd, ct, s.free h1, h2⟩
theorem mrg_e {B : Hp} : mrg B (fun _ => none) = B := by
  funext p
  unfold mrg
  split
  · rename_i o e
    exact e.symm
  · rename_i e
    exact e.symm
theorem mrg_assoc {B N M : Hp} : mrg (mrg B N) M = mrg B (mrg N M) := by
  funext p
  unfold mrg
  cases B p <;> cases N p <;> rfl
theorem mrg_upd {B N : Hp} {D : Addr} {o : HO} : mrg (upd B D o) N = upd (mrg B N) D o := by
  funext p
  unfold mrg upd
  by_cases h : p = D
  · simp only [if_pos h]
  · simp only [if_neg h]
theorem mrg_move {B N : Hp} {D : Addr} {o : HO} (hB : B D = none) : mrg (upd B D o) N = mrg B (upd N D o) := by
  funext p
  unfold mrg upd
  by_cases h : p = D
  · subst h
    simp only [if_true, hB]
  · simp only [if_neg h]
theorem mrg_put {B N : Hp} {D : Addr} {o : HO} (hB : B D = none) : upd (mrg B N) D o = mrg B (upd N D o) := by rw [← mrg_upd, mrg_move hB]
/-- N's cells are new behind H -/
def New (N H : Hp) : Prop := ∀ p, N p ≠ none → H p = none
theorem New.nil {H : Hp} : New (fun _ => none) H := fun _ h => absurd rfl h
theorem New.off {N H : Hp} {p : Addr} {o : HO} (h : New N H) (e : H p = some o) : N p = none := by
  cases z : N p with
  | none => rfl
  | some o' =>
    have := h p (by rw [z]; exact fun z => by cases z)
    rw [e] at this
    cases this
theorem New.put {N H : Hp} {p : Addr} {o : HO} (h : New N H) (hp : H p = none) : New (upd N p o) H := fun q hq => by
  by_cases e : q = p
  · subst e
    exact hp
  · rw [upd_ne e] at hq
    exact h q hq
theorem New.r {B N H : Hp} (h : New N H) (s : Same B H) : Same N (mrg B N) := mrg_r fun p hp => s.free (h p hp)
/-- the tape behind a def that drew a thing: N is the thing -/
theorem Tp.e {B H : Hp} {t : Addr} {c : Nat} (T : Tp B H t c) : Tp (mrg B (fun _ => none)) H t c := by rw [mrg_e]; exact T
theorem at_some {α : Type} {xs : List α} {i : Int} (h0 : 0 ≤ i) (h1 : i < xs.length) : ∃ c, atI xs i = some c := by
  obtain ⟨j, rfl⟩ := nat_of h0
  exact ⟨_, atI_nat (List.getElem?_eq_getElem (by omega))⟩
end KB
namespace KB
open PySem PySem.Spec PyProof.Rows L2
theorem New.mrg {B N M : Hp} (h1 : New N B) (h2 : New M (mrg B N)) : New (mrg N M) B := fun p hp => by
  cases e : N p with
  | some o => exact h1 p (by rw [e]; exact fun z => by cases z)
  | none =>
    have : M p ≠ none := fun z => hp (mrg_none e z)
    have h3 := h2 p this
    unfold KB.mrg at h3
    cases eB : B p with
    | none => rfl
    | some o => rw [eB] at h3; cases h3
theorem mrg_nl {B N : Hp} {p : Addr} (h : mrg B N p = none) : B p = none := by
  unfold mrg at h
  cases e : B p with
  | none => rfl
  | some o => rw [e] at h; cases h
theorem mrg_nr {B N : Hp} {p : Addr} (h : mrg B N p = none) : N p = none := by
  have hb := mrg_nl h
  unfold mrg at h
  rw [hb] at h
  exact h
theorem dp_ints {K : PySem.W.Frag} {N : Hp} : ∀ is : List Int, DpAll K N (is.map V.int) (is.map PyData.int)
  | [] => .nil
  | i :: is => .cons (.int i) (dp_ints is)
/-- a list of things at D, drawn: ready to be handed on -/
structure Lst (K : PySem.W.Frag) (B H : Hp) (t : Addr) (c : Nat) (D : Addr) (zs : List V) (ds : List PyData) (N : Hp) : Prop where
  tp : Tp (mrg (upd B D (.lst zs)) N) H t c
  new : New N B
  bD : B D = none
  nD : N D = none
  all : DpAll K N zs ds
theorem Lst.ini {K : PySem.W.Frag} {B H : Hp} {t D : Addr} {c : Nat} (T : Tp B H t c) (hD : H D = none) : Lst K B (upd H D (.lst [])) t c D [] [] (fun _ => none) :=
  ⟨by rw [mrg_e]; exact T.new hD, New.nil, T.isn hD, rfl, .nil⟩
theorem Lst.hD {K : PySem.W.Frag} {B H : Hp} {t D : Addr} {c : Nat} {zs : List V} {ds : List PyData} {N : Hp} (L : Lst K B H t c D zs ds N) : H D = some (.lst zs) := L.tp.at (mrg_l _ _ upd_same)
/-- one thing more -/
theorem Lst.add {K : PySem.W.Frag} {B H H' : Hp} {t D : Addr} {c c' : Nat} {zs : List V} {ds : List PyData} {N M : Hp} {v : V} {d : PyData} (L : Lst K B H t c D zs ds N) (T : Tp (mrg (mrg (upd B D (.lst zs)) N) M) H' t c') (hM : New M (mrg (upd B D (.lst zs)) N)) (hv : Dp K M v d) :
    H' D = some (.lst zs) ∧ Lst K B (upd H' D (.lst (zs ++ [v]))) t c' D (zs ++ [v]) (ds ++ [d]) (mrg N M) := by
  rw [mrg_assoc] at T
  have hb : mrg (upd B D (.lst zs)) (mrg N M) D = some (.lst zs) := mrg_l _ _ upd_same
  have T2 := T.set (o' := .lst (zs ++ [v])) hb
  rw [← mrg_upd, upd_upd] at T2
  have mD : M D = none := hM.off (mrg_l _ _ upd_same)
  have dj : ∀ p, M p ≠ none → N p = none := fun p hp => mrg_nr (hM p hp)
  refine ⟨T.at hb, T2, L.new.mrg (M := M) fun p hp => ?_, L.bD, mrg_none L.nD mD, DpAll.snoc (Dp.mono (mrg_r dj) _ _ hv) (DpAll.mono mrg_l _ _ L.all)⟩
  have z := hM p hp
  have zn := mrg_nr z
  have zb := mrg_nl z
  refine mrg_none ?_ zn
  by_cases e : p = D
  · subst e
    exact L.bD
  · rw [upd_ne e] at zb
    exact zb
theorem Lst.asList {K : PySem.W.Frag} {B H : Hp} {t D : Addr} {c : Nat} {zs : List V} {ds : List PyData} {N : Hp} (L : Lst K B H t c D zs ds N) : Tp (mrg B (upd N D (.lst zs))) H t c ∧ New (upd N D (.lst zs)) B ∧ Dp K (upd N D (.lst zs)) (.ref D) (.list ds) :=
  ⟨by rw [← mrg_move L.bD]; exact L.tp, L.new.put L.bD, .lst (SqL.of upd_same) (DpAll.mono (same_upd L.nD) _ _ L.all)⟩
theorem Lst.asTup {K : PySem.W.Frag} {B H : Hp} {t D l : Addr} {c : Nat} {zs : List V} {ds : List PyData} {N : Hp} (L : Lst K B H t c D zs ds N) (hl : H l = none) : ∃ M, Tp (mrg B M) (upd H l (.tup zs)) t c ∧ New M B ∧ Dp K M (.ref l) (.tuple ds) := by
  have z := L.tp.isn hl
  have bl : upd B D (.lst zs) l = none := mrg_nl z
  have nl : N l = none := mrg_nr z
  have hne : D ≠ l := ne_of_none upd_same bl
  have bl2 : B l = none := by rw [upd_ne hne.symm] at bl; exact bl
  have T := L.tp.new (o := .tup zs) hl
  rw [mrg_put bl, mrg_move L.bD] at T
  have nD2 : upd N l (.tup zs) D = none := by rw [upd_ne hne]; exact L.nD
  exact ⟨_, T, (L.new.put bl2).put L.bD, .tup (SqT.of (same_upd nD2 _ _ upd_same)) (DpAll.mono ((same_upd nl).trans (same_upd nD2)) _ _ L.all)⟩
end KB
namespace KB
open PySem PySem.Spec PyProof.Rows L2
def isI : V → Bool
  | .int _ => true
  | _ => false
def isS (m : Nat) : V → Bool
  | .str z => decide (z.length ≤ m)
  | _ => false
theorem at_int {xs : List V} {i : Int} (h0 : 0 ≤ i) (h1 : i < xs.length) (h : xs.all isI = true) : ∃ z, atI xs i = some (.int z) := by
  obtain ⟨j, rfl⟩ := nat_of h0
  have e := List.getElem?_eq_getElem (l := xs) (i := j) (by omega)
  have m := List.all_eq_true.mp h _ (List.mem_of_getElem? e)
  cases q : xs[j]'(by omega) with
  | int z => exact ⟨z, atI_nat (by rw [e, q])⟩
  | _ => rw [q] at m; cases m
theorem at_str {m : Nat} {xs : List V} {i : Int} (h0 : 0 ≤ i) (h1 : i < xs.length) (h : xs.all (isS m) = true) : ∃ z : Str, atI xs i = some (.str z) ∧ z.length ≤ m := by
  obtain ⟨j, rfl⟩ := nat_of h0
  have e := List.getElem?_eq_getElem (l := xs) (i := j) (by omega)
  have mm := List.all_eq_true.mp h _ (List.mem_of_getElem? e)
  cases q : xs[j]'(by omega) with
  | str z => exact ⟨z, atI_nat (by rw [e, q]), by rw [q] at mm; exact of_decide_eq_true mm⟩
  | _ => rw [q] at mm; cases mm
end KB
namespace KB
open PySem PySem.Spec PyProof.Rows L2
theorem str_app_len (a b : Str) : (a ++ b).length = a.length + b.length := by
  show (a.cps ++ b.cps).size = a.cps.size + b.cps.size
  rw [Array.size_append]
end KB

/-! a number in base two: f'{n:b}' -/
namespace KB
open PySem PySem.Spec PyProof.Rows L2
def dgB (n : Nat) : List Nat := (Nat.toDigits 2 n).map fun c => c.toNat
def binS (n : Nat) : Str := ⟨(dgB n).toArray⟩
def padB (ds : List Nat) : List Nat := List.replicate (((-1 : Int) - ((([] : List Nat).length : Nat) + (([] : List Nat).length : Nat) + (([] : List Nat).length : Nat) : Int)) - ds.length).toNat 32
def dsB (n : Nat) : List Nat := if (dgB n).isEmpty then [] else List.replicate ((0 : Int).toNat - (dgB n).length) 48 ++ dgB n
theorem int_fmt (n : Nat) (t u : Tok) : Builtin.«int.__format__» ⟨[.int (n : Int) t, .str ("b" : Str) u], []⟩ = (typeNameOf (.str ("b" : Str) u) >>= fun _ => typeNameOfCut 200 (.int (n : Int) t) >>= fun _ => retStr ⟨(padB (dsB n) ++ [] ++ [] ++ List.replicate 0 32 ++ dsB n ++ [] ++ List.replicate 0 32).toArray⟩) := by
  rfl
theorem binS_eq (n : Nat) : (⟨(padB (dsB n) ++ [] ++ [] ++ List.replicate 0 32 ++ dsB n ++ [] ++ List.replicate 0 32).toArray⟩ : Str) = binS n := by
  have e1 : padB (dsB n) = [] := by
    unfold padB
    rw [show (((-1 : Int) - ((([] : List Nat).length : Nat) + (([] : List Nat).length : Nat) + (([] : List Nat).length : Nat) : Int)) - (dsB n).length).toNat = 0 by simp]
    rfl
  have e2 : dsB n = dgB n := by
    unfold dsB
    split
    · rename_i h
      exact (List.isEmpty_iff.mp h).symm
    · show List.replicate (0 - (dgB n).length) 48 ++ dgB n = dgB n
      rw [Nat.zero_sub]
      rfl
  rw [e1, e2]
  unfold binS
  simp
theorem gives_fmtB (n : Nat) (t u : Tok) : Gives (Builtin.«int.__format__» ⟨[.int (n : Int) t, .str ("b" : Str) u], []⟩) (.str (binS n)) := by
  rw [int_fmt, binS_eq]
  intro prog w A R s hq
  refine wpAny_bind (wpAny_typeNameOf (T := "str") (typeIs_str _ _ _) (by decide) fun _ => ?_)
  refine wpAny_bind (wpAny_typeNameOfCut_int ?_)
  exact (Gives.of_eq (t := retStr (binS n)) (m := .str (binS n)) rfl) prog w A R s hq
/-- {n:b}, n a number -/
def tFmtB (te : TE) : TE := fun σ H Q => te σ H fun x H1 => ∃ n : Nat, x = .int n ∧ (binS n).length ≤ sizeLine ∧ Q (.str (binS n)) H1
theorem pe_fmtB {X : Cx} {e sp : Expr} {te : TE} {pos : Pos} (he : PE X e te) (hs : PE X sp (tC (.str "b"))) : PE X (.FormattedValue e (-1) (some sp) pos) (tFmtB te) := by
  refine ⟨fun pins s σ H Q I h => ?_⟩
  refine wpAny_FormattedValue_spec (thn (he.run pins s σ H _ I h) fun v s1 ⟨x, H1, I1, r1, n, ex, hz, q⟩ => ?_)
  subst ex
  obtain ⟨t, rfl⟩ := r1
  refine thn (hs.run pins s1 σ H1 (fun y H2 => y = .str "b" ∧ Q (.str (binS n)) H2) I1 ⟨rfl, q⟩) fun r s2 ⟨y, H2, I2, r2, ey, q2⟩ => ?_
  subst ey
  obtain ⟨t2, rfl⟩ := r2
  refine ⟨_, _, rfl, ?_⟩
  exact wpAny_formatField_spec (T := "int") (by decide) (fun s' => typeIs_int s' _ _) F.slot_int_format F.entry_int_format F.args_int_format_2 (fun u => gives_fmtB n t u) ⟨.str (binS n), H2, (I2.tok _), ⟨_, rfl⟩, q2⟩ (by rw [sizeLine_eq]; decide) hz
end KB

/-! words: texts of the signs 0 and 1 -/
namespace KB
open PySem PySem.Spec PyProof.Rows L2 Builtin.Str
theorem tw_len {p : Nat → Bool} : ∀ l : List Nat, (l.takeWhile p).length ≤ l.length
  | [] => Nat.le_refl _
  | c :: r => by
    rw [List.takeWhile_cons]
    split
    · rw [List.length_cons, List.length_cons]
      exact Nat.succ_le_succ (tw_len r)
    · exact Nat.zero_le _
theorem tw_all {p : Nat → Bool} : ∀ l : List Nat, (l.takeWhile p).length = l.length ↔ l.all p = true
  | [] => by simp
  | c :: r => by
    rw [List.takeWhile_cons, List.all_cons, List.length_cons]
    cases h : p c with
    | true =>
      rw [if_pos rfl, List.length_cons, Bool.true_and, ← tw_all r]
      omega
    | false => simp
theorem tw_drop {p : Nat → Bool} : ∀ l : List Nat, l.all p = false → ∃ c r, l.drop (l.takeWhile p).length = c :: r ∧ p c = false
  | [], h => by cases h
  | c :: r, h => by
    rw [List.takeWhile_cons]
    cases hc : p c with
    | true =>
      rw [if_pos rfl, List.length_cons, List.drop_succ_cons]
      rw [List.all_cons, hc, Bool.true_and] at h
      exact tw_drop r h
    | false =>
      rw [if_neg (by simp)]
      exact ⟨c, r, rfl, hc⟩
theorem strSub_len (z : Str) (lo hi : Nat) (h : hi ≤ z.length) : (strSub z lo hi).length = hi - lo := by
  show (z.cps.extract lo hi).size = hi - lo
  rw [Array.size_extract]
  have h' : hi ≤ z.cps.size := h
  omega
theorem strip_len {p : Nat → Bool} (z : Str) : (Txt.stripBy p true true z).length = 0 ↔ z.cps.toList.all p = true := by
  have hn : z.cps.toList.length = z.length := Array.length_toList
  have hlo : stripLo p true z = (z.cps.toList.takeWhile p).length := by unfold stripLo; rw [if_pos rfl]
  have hle := tw_len (p := p) z.cps.toList
  cases ha : z.cps.toList.all p with
  | true =>
    have e := (tw_all z.cps.toList).mpr ha
    refine ⟨fun _ => rfl, fun _ => ?_⟩
    have hhi : stripHi p true z (stripLo p true z) = z.length := by
      unfold stripHi
      rw [if_pos rfl, hlo, e, List.drop_length]
      simp
    unfold Txt.stripBy stripSame stripped
    rw [hhi, hlo, e, hn]
    split
    · rename_i h
      simp at h
      exact h
    · rw [strSub_len _ _ _ (Nat.le_refl _), Nat.sub_self]
  | false =>
    refine ⟨fun h => ?_, fun h => by cases h⟩
    exfalso
    obtain ⟨c, r, hd, hc⟩ := tw_drop z.cps.toList ha
    have hk : (((z.cps.toList.drop (z.cps.toList.takeWhile p).length).reverse).takeWhile p).length < (z.cps.toList.drop (z.cps.toList.takeWhile p).length).length := by
      have h1 := tw_len (p := p) (z.cps.toList.drop (z.cps.toList.takeWhile p).length).reverse
      rw [List.length_reverse] at h1
      rcases Nat.lt_or_ge (((z.cps.toList.drop (z.cps.toList.takeWhile p).length).reverse).takeWhile p).length (z.cps.toList.drop (z.cps.toList.takeWhile p).length).length with h2 | h2
      · exact h2
      · have h3 := (tw_all (p := p) (z.cps.toList.drop (z.cps.toList.takeWhile p).length).reverse).mp (by rw [List.length_reverse]; omega)
        rw [List.all_reverse, hd, List.all_cons, hc] at h3
        cases h3
    rw [List.length_drop] at hk
    have hhi : stripHi p true z (stripLo p true z) = z.length - (((z.cps.toList.drop (z.cps.toList.takeWhile p).length).reverse).takeWhile p).length := by
      unfold stripHi
      rw [if_pos rfl, hlo]
    unfold Txt.stripBy stripSame stripped at h
    split at h
    · omega
    · rw [hhi, hlo, strSub_len _ _ _ (by omega)] at h
      omega
/-- all signs 0 or 1 -/
def isB (z : Str) : Bool := z.cps.toList.all (("01" : Str)).cps.contains
theorem strip01 (z : Str) : decide (V.str (Txt.stripChars z "01") = V.str "") = isB z := by
  have h := strip_len (p := (("01" : Str)).cps.contains) z
  rw [Bool.eq_iff_iff, decide_eq_true_iff]
  unfold isB
  rw [← h]
  constructor
  · intro e
    have e' := V.str.inj e
    show (Txt.stripChars z "01").length = 0
    rw [e'] <;> rfl
  · intro e
    have e' : (Txt.stripChars z "01").length = 0 := e
    congr 1
    generalize Txt.stripChars z "01" = y at e'
    obtain ⟨y⟩ := y
    have : y = #[] := Array.eq_empty_of_size_eq_zero e'
    subst this
    rfl
theorem isB_mem {z : Str} (h : isB z = true) {c : Nat} (hc : c ∈ z.cps.toList) : c = 48 ∨ c = 49 := by
  have := List.all_eq_true.mp h c hc
  have e : (("01" : Str)).cps = #[48, 49] := by decide
  rw [e] at this
  simpa using this
/-- is_word, of a datum -/
def isW : PyData → Bool
  | .str z => isB z
  | _ => false
def spIsWord (K : PySem.W.Frag) : Sp := fun vs H Q _ => ∃ v d, vs = [v] ∧ Dp K H v d ∧ (∀ z, d = .str z → z.length ≤ 100000) ∧ Q (.bl (isW d)) H
end KB
namespace KB
open PySem PySem.Spec PyProof.Rows L2
/-! ### enumerate(text) -/
def Ites (x : Str) : It := ⟨fun i _ => i < x.cps.size, fun i H v H' => ∃ T c, v = .ref T ∧ H T = none ∧ H' = upd H T (.tup [.int (i : Nat), .str ⟨#[c]⟩]) ∧ x.cps[i]? = some c, fun i _ => i = x.cps.size⟩
theorem turn_enumS {P : Program} {w : World} {K : PySem.W.Frag} {elts : List Expr} {kk : Nat} {tpos : Pos} (e it : Addr) (x : Str) (t : Tok) :
    Turn P w K (.Tuple elts kk tpos) (Ites x) [e, it] e (fun i h => (∃ old, IsEnum h e it ((i : Nat) : Int) old) ∧ h.IsStrIter it (strIterType x) x t i ∧ e ≠ it) where
  mem := by simp
  obj := fun i h st b hb => by
    obtain ⟨⟨old, he⟩, ⟨o, ho, hc, hd⟩, _⟩ := st
    have e' : b = e ∨ b = it := by simpa using hb
    rcases e' with z | z
    · rw [z]; exact ⟨_, he, fun v q => nomatch q⟩
    · rw [z]; exact ⟨o, ho, fun v q => by rw [hd] at q; cases q⟩
  keep := fun i h h' st k => let ⟨⟨old, he⟩, ⟨o, ho, r⟩, hne⟩ := st; ⟨⟨old, k e (by simp) _ he⟩, ⟨o, k it (by simp) o ho, r⟩, hne⟩
  item := by
    intro X hP hw hK hc i pins s σ H E I hf st hg
    subst hP hw hK
    obtain ⟨⟨old, he⟩, hit, hne⟩ := st
    have hel : e < s.heap.objs.size := Heap.lt_size he
    have hil : it < s.heap.objs.size := by obtain ⟨_, q, _⟩ := hit; exact Heap.lt_size q
    have D := Draws.text (prog := X.prog) (w := X.w) (A := X.A.in1) (show X.A.in1.handled = none from I.ok.hd hc) it x t
    refine wpAny_pyNext_enum_itemD (A := X.A) D he hit hg hne (by simpa using hne) fun v h' tk hv ho hit' hT hsz hk => ?_
    obtain ⟨c, u, hcx, rfl⟩ := hv
    refine ⟨_, rfl, wpAny_letOwnedTupleGo_enum (s := { s with heap := h', toks := tk + 1 }) ho fun h'' he' sb => ?_⟩
    have hT2 : h''.get? s.heap.objs.size = some { cls := .type "tuple", data := .seq #[.int i tk, .str ⟨#[c]⟩ u] } := (sb.2 _ (Nat.ne_of_gt hel)).trans hT
    have new : ObjOk X.prog X.w (upd H s.heap.objs.size (.tup [.int (i : Nat), .str ⟨#[c]⟩])) h'' s.heap.objs.size (.tup [.int (i : Nat), .str ⟨#[c]⟩]) :=
      ⟨by show 2 ≤ sizeLine; decide, [.int i tk, .str ⟨#[c]⟩ u], .cons ⟨_, rfl⟩ (.cons ⟨_, rfl⟩ .nil), ⟨_, hT2, rfl, _, rfl⟩⟩
    have I1 : Inv X pins σ (upd H s.heap.objs.size (.tup [.int (i : Nat), .str ⟨#[c]⟩])) { s with heap := h'', toks := tk + 1 } :=
      I.turnedNew (ch := [e, it]) (fun b ob hb q => (sb.2 b (fun z => hb (by simp [z]))).trans (hk b ob (fun z => hb (by simp [z])) (fun z => hb (by simp [z])) q)) hf (Nat.le_refl _) new
    refine ⟨.ref s.heap.objs.size, _, I1, rfl, ⟨_, c, rfl, I.hok.fresh (Nat.le_refl _), rfl, hcx⟩, ⟨⟨.str ⟨#[c]⟩ u, ?_⟩, ?_, hne⟩, fun b hb => ?_⟩
    · have e1 : ((i + 1 : Nat) : Int) = (i : Int) + 1 := by omega
      rw [e1]; exact he'
    · obtain ⟨o, ho', r⟩ := hit'
      exact ⟨o, (sb.2 it (Ne.symm hne)).trans ho', r⟩
    · have hb' : b < s.heap.objs.size := by
        have e' : b = e ∨ b = it := by simpa using hb
        rcases e' with z | z
        · rw [z]; exact hel
        · rw [z]; exact hil
      rw [upd_ne (Nat.ne_of_lt hb')]
      exact (hf b hb).1
  done := by
    intro X hP hw hK hc i pins s σ H E I hf st hg
    subst hP hw hK
    obtain ⟨⟨old, he⟩, hit, hne⟩ := st
    obtain ⟨f0, f1, f2, f3, f4, f5⟩ := hf it (by simp)
    have D := Draws.text (prog := X.prog) (w := X.w) (A := X.A.in1) (show X.A.in1.handled = none from I.ok.hd hc) it x t
    have en : i = x.cps.size := hg
    subst en
    exact wpAny_pyNext_enum_endD (A := X.A) D he hit fun h' eb => ⟨rfl, I.turned (t' := s.toks) (fun b o hb q => eb b o hb q) f0 f1 f3 f4 f5⟩
  self := fun A i s Q E st h => let ⟨⟨_, he⟩, _⟩ := st; wpAny_pyIter_enum he h
def iEnumS (ta : TA) : TI := fun σ H R => ta σ H fun vs H1 => ∃ x, vs = [.str x] ∧ R (Ites x) H1
theorem pi_enumS {X : Cx} {e : Expr} {ta : TA} {p pos tpos : Pos} {elts : List Expr} {kk : Nat} (hg : Gl X "enumerate") (hm : X.mg "enumerate" = none) (ha : PA X [e] ta) (hs : starEach [e] X.env = [(false, eval e X.env)] := by rfl) :
    PI X (.Tuple elts kk tpos) (.Call (.Name "enumerate" p) [e] [] pos) (iEnumS ta) := by
  refine ⟨fun pins s σ H R I h => ?_⟩
  refine Call_ (ld_blt I hg hm boot_enumerate (PyProof.Rows.callWith_type1 (thn (ha.run pos pins s σ H _ I h) fun us s1 ⟨vs, H1, I1, r1, q1⟩ => ?_) hs rfl))
  obtain ⟨x, ex, q⟩ := q1
  subst ex
  obtain ⟨u, rfl, t, rfl⟩ := vals1 r1
  refine call_enumerate_str fun h' he hit hsz hk => wpAny_pyIter_enum he ?_
  have I2 : Inv X pins σ H1 { s1 with heap := h' } := I1.kept (t' := s1.toks) hk
  refine ⟨s1.heap.objs.size + 1, [s1.heap.objs.size + 1, s1.heap.objs.size], _, _, H1, rfl, I2, turn_enumS (s1.heap.objs.size + 1) s1.heap.objs.size x t, ⟨⟨.none, he⟩, hit, Nat.succ_ne_self _⟩, fun b hb => ?_, q⟩
  have e' : b = s1.heap.objs.size + 1 ∨ b = s1.heap.objs.size := by simpa using hb
  have hle : s1.heap.objs.size ≤ b := by
    rcases e' with z | z
    · rw [z]; exact Nat.le_add_right _ _
    · rw [z]; exact Nat.le_refl _
  exact I1.fpOk hle (I1.hok.fresh hle)
/-- for at, sign in enumerate(text) -/
theorem for_enumS {x : Str} {g : TG} {tb : TS} {D : Ends} {σ : L2.St} {H : Hp} (Pv : Nat → L2.St → Hp → Prop) (h0 : Pv 0 σ H)
    (hs : ∀ i c σ H, x.cps[i]? = some c → Pv i σ H → ∀ T, H T = none → g (.ref T) σ (upd H T (.tup [.int (i : Nat), .str ⟨#[c]⟩])) fun σ2 H2 => tb { D with nx := Pv (i + 1), ct := Pv (i + 1), bk := D.nx } σ2 H2) (hd : ∀ σ H, Pv x.cps.size σ H → D.nx σ H) :
    ∃ W : Nat → Nat → L2.St → Hp → Prop, (∃ m, W 0 m σ H) ∧ ∀ i m σ H, W i m σ H →
      ((Ites x).stop i H ∧ D.nx σ H) ∨ ((Ites x).go i H ∧ ∃ N : L2.St → Hp → Prop, (∀ σ' H', N σ' H' → ∃ m', m' < m ∧ W (i + 1) m' σ' H') ∧ ∀ v H', (Ites x).yld i H v H' → g v σ H' fun σ2 H2 => tb { D with nx := N, ct := N, bk := D.nx } σ2 H2) := by
  refine ⟨fun i m σ H => m = x.cps.size - i ∧ i ≤ x.cps.size ∧ Pv i σ H, ⟨x.cps.size, by simp, Nat.zero_le _, h0⟩, ?_⟩
  rintro i m σ H ⟨rfl, hi, p⟩
  by_cases hlt : i < x.cps.size
  · refine .inr ⟨hlt, Pv (i + 1), fun σ' H' p' => ⟨x.cps.size - (i + 1), by omega, rfl, hlt, p'⟩, fun v H' y => ?_⟩
    obtain ⟨T, c, rfl, hT, rfl, hc⟩ := y
    exact hs i c σ H hc p T hT
  · have e : i = x.cps.size := by omega
    subst e
    exact .inl ⟨rfl, hd σ H p⟩
end KB

/-! sorted of a tuple of ints -/
namespace KB
open PySem PyProof.Rows Srt SrtO
section
variable {prog : Program} {w : World} {A : Around} {E : Value → Shared → Prop} {s : Shared}
theorem collect_tup {l : Addr} {vs : List Value} {Q : List Value → Shared → Prop} (hl : s.heap.IsTuple l vs.toArray)
    (h : Q vs { s with heap := (s.heap.push (seqObj "list" #[] 0)).update s.heap.objs.size (Obj.mapSeq (· ++ vs.toArray)) }) (hsz : vs.length ≤ sizeLine := by size_fits) :
    wpAny (model prog w) A (collect (.ref l)) Q E s := by
  obtain ⟨o, ho, hc, n, hd⟩ := id hl
  unfold collect
  refine wpAny_bind (wpAny_runValue (codeAny_builtin entry_proto_collect' ?_))
  show wpAny _ _ (do again (.builtin "list.__iadd__" ⟨[← newList [], .ref l], []⟩)) _ _ s
  refine wpAny_bind (wpAny_newList (wpAny_pure ⟨Code.quiet_builtin _ (by decide +kernel), codeAny_builtin entry_list_iadd' ?_⟩))
  show wpAny _ _ (Builtin.List.listExtendWith (.ref s.heap.objs.size) (.ref l) (.ref s.heap.objs.size)) _ _ { s with heap := s.heap.push (seqObj "list" #[] 0) }
  unfold Builtin.List.listExtendWith
  have ho' : (s.heap.push (seqObj "list" #[] 0)).get? l = some o := Heap.get?_push_of_some _ ho
  refine wpAny_bind (wpAny_typeOf (T := "tuple") ⟨o, ho', hc⟩ ?_)
  have ht : (Value.type "tuple" == Value.type "tuple") = true := by rfl
  rw [if_pos (by rw [ht]; simp)]
  refine wpAny_bind (listItems_at ho' hd ?_)
  refine wpAny_bind (listItems_at (xs := #[]) (n := 0) (Heap.get?_push_size _ rfl) rfl ?_)
  rw [if_neg (by simp)]
  refine wpAny_bind (listUpdate_at (xs := #[]) (n := 0) (Heap.get?_push_size _ rfl) rfl ?_ (Nat.zero_le _) (by show (#[] ++ vs.toArray).size ≤ sizeLine + 1; simp only [Array.size_append, List.size_toArray, List.length_nil]; omega))
  refine wpAny_pure ?_
  show wpAny (model prog w) A (do
      let o ← load s.heap.objs.size
      match o.data with
      | .seq xs _ => pure xs.toList
      | _ => unsupported "internal:collect") Q E { s with heap := (s.heap.push (seqObj "list" #[] 0)).update s.heap.objs.size (Obj.mapSeq (· ++ vs.toArray)) }
  refine wpAny_bind (wpAny_load (get?_update_seq (Heap.get?_push_size _ rfl) _) ?_)
  show wpAny _ _ (pure ((#[] : Array Value) ++ vs.toArray).toList) Q E _
  rw [show ((#[] : Array Value) ++ vs.toArray).toList = vs by simp]
  exact wpAny_pure h
theorem sorted_ordT {l : Addr} {vs : List Value} {ltv : Value → Value → Bool} {Q : Value → Shared → Prop} (O : Swo ltv) (hl : s.heap.IsTuple l vs.toArray) (hz : vs.length ≤ sizeLine)
    (hS : 2 ≤ vs.length → ∀ (h₁ : Heap) (a : Addr), h₁.get? a = some (seqObj "list" vs.toArray 0) → (∀ b o, s.heap.get? b = some o → b ≠ a ∧ h₁.get? b = some o) → SortableO prog w A.in1.in1 { s with heap := h₁ } a vs ltv)
    (h : ∀ out : List Value, Srtd ltv out → Stb ltv out vs → Q (.ref (s.heap.objs.size + 1)) { s with heap := sortedAll s.heap vs out.toArray }) :
    wpAny (model prog w) A (call (.builtin "sorted") [.ref l]) Q E s := by
  refine Calls.call_function_entry kind_sorted plain_sorted entry_sorted (args_sorted1 _) ?_
  unfold Builtin.«sorted»
  refine wpAny_bind (m := checkCount "sorted" 1 1 _) (wpAny_pure ?_)
  refine wpAny_bind (collect_tup hl ?_ hz)
  refine wpAny_bind (wpAny_newList ?_ hz)
  have hsz : ((s.heap.push (seqObj "list" #[] 0)).update s.heap.objs.size (Obj.mapSeq (· ++ vs.toArray))).objs.size = s.heap.objs.size + 1 := by
    rw [Heap.size_update, size_push']
  have hoL : (((s.heap.push (seqObj "list" #[] 0)).update s.heap.objs.size (Obj.mapSeq (· ++ vs.toArray))).push (seqObj "list" vs.toArray 0)).get? (s.heap.objs.size + 1) = some (seqObj "list" vs.toArray 0) := by
    rw [← hsz]; exact Heap.get?_push_size _ rfl
  have keep : ∀ b o, s.heap.get? b = some o → b ≠ s.heap.objs.size + 1 ∧ (((s.heap.push (seqObj "list" #[] 0)).update s.heap.objs.size (Obj.mapSeq (· ++ vs.toArray))).push (seqObj "list" vs.toArray 0)).get? b = some o := fun b o q => by
    have hlt : b < s.heap.objs.size := Heap.lt_size q
    refine ⟨Nat.ne_of_lt (Nat.lt_succ_of_lt hlt), Heap.get?_push_of_some _ ?_⟩
    rw [Heap.get?_update_ne _ _ _ _ (Nat.ne_of_lt hlt)]
    exact Heap.get?_push_of_some _ q
  show wpAny _ _ _ _ _ { s with heap := ((s.heap.push (seqObj "list" #[] 0)).update s.heap.objs.size (Obj.mapSeq (· ++ vs.toArray))).push (seqObj "list" vs.toArray 0) }
  rw [hsz]
  refine wpAny_bind (wpAny_holding (wpAny_call_entry slot_list_sort ⟨_, hoL, rfl⟩ entry_list_sort (list_sort_ord O hoL hz (fun h2 => hS h2 _ _ hoL keep) fun out hs hb => ⟨_, rfl, ?_⟩) (args_list_sort _)))
  exact wpAny_pure ⟨_, rfl, h out hs hb⟩
end
end KB
namespace KB
open PySem PySem.Spec PyProof.Rows L2
/-- sorted(xs), a list or a tuple of ints -/
def rSortedLT (K : PySem.W.Frag) : List V → Hp → VK → Prop := fun vs H Q => ∃ (a : Addr) (ns : List Int), vs = [V.ref a] ∧ (SqL K H a (ns.map V.int) ∨ SqT K H a (ns.map V.int)) ∧
  ∀ (ns' : List Int) (p : Addr), ns'.Perm ns → ns'.Pairwise (· ≤ ·) → H p = none → Q (.ref p) (upd H p (.lst (ns'.map V.int)))
theorem cr_sortedLT {X : Cx} : CallR X (.builtin "sorted") (rSortedLT X.K) := by
  intro pins s σ H vs us Q I r h
  obtain ⟨a, ns, rfl, hs, q⟩ := h
  rcases hs with hs | hs
  · exact cr_sortedI pins s σ H _ us Q I r ⟨a, ns, rfl, hs, q⟩
  · obtain ⟨its, rv, hl, hz⟩ := I.tuple hs
    rw [Vals.ref1 r]
    have hi := rv.ints
    refine sorted_ordT SrtO.swo_int (show s.heap.IsTuple a its.toArray from hl) (by rw [← rv.length]; exact hz) (fun h2 h₁ a' _ _ => SrtO.ints_sortable hi h2) fun out h1 h2 => ?_
    obtain ⟨k1, k2, k3⟩ := SrtO.ints_out hi h1 h2
    obtain ⟨ep, he'⟩ := PyProof.Rows.sortedAll_at s.heap its out.toArray
    have hlen : ((out.map SrtO.iv).map V.int).length ≤ sizeLine := by
      rw [List.length_map, k2.length_eq]
      rw [List.length_map] at hz
      exact hz
    exact ⟨.ref _, upd H (s.heap.objs.size + 1) (.lst ((out.map SrtO.iv).map V.int)), I.laid (t' := s.toks) (fun _ _ => PyProof.Rows.sortedAll_old) (Nat.le_succ _) ⟨hlen, out, ep, vals_of_ints k1, he'⟩, rfl, q _ _ k2 k3 (I.hok.fresh (Nat.le_succ _))⟩
end KB
/-! ### enumerate of a tuple -/
namespace KB
open PySem PyProof.Rows
open AutoSeq1 (wpAny_loadPart')
theorem new_enumT (l : Addr) (items : Array Value) (n : Nat) (dct : Option Addr) (sl : Array (Option Value)) :
    Meets (Builtin.«enumerate.__new__» ⟨[.type "enumerate", .ref l], []⟩) (fun _ R s => s.heap.get? l = some { cls := .type "tuple", dict := dct, data := .seq items n, slots := sl } ∧
      R (.ok (.ret (.ref (s.heap.push { cls := .type "tuple_iterator", data := .fields #[.ref l, .int 0 0] }).objs.size)))
        { s with heap := (s.heap.push { cls := .type "tuple_iterator", data := .fields #[.ref l, .int 0 0] }).push { cls := .type "enumerate", data := .fields #[.none, .bool false, .ref s.heap.objs.size, rawInt 0, .none, .none] } }) :=
  .of_wp fun prog w A R s h => by
    obtain ⟨hp, g, d, tk, os⟩ := s
    obtain ⟨hl, h⟩ := h
    have hsub := sub_enumerate
    have hT : Heap.IsTuple (Shared.heap ⟨hp, g, d, tk, os⟩) l items := ⟨_, hl, rfl, n, rfl⟩
    wp_walk using wpAny_loadPart' hl
    refine wpAny_stack_any fun st => wpAny_pure ?_
    split
    · rename_i c _ _ _ _ _
      cases (c == Value.type "enumerate") <;> (wp_walk using wpAny_loadPart' hl, wpAny_pyIter_tuple hT; exact ⟨_, rfl, h⟩)
    · wp_walk using wpAny_loadPart' hl, wpAny_pyIter_tuple hT
      exact ⟨_, rfl, h⟩
section
variable {prog : Program} {w : World} {A : Around} {E : Value → Shared → Prop} {s : Shared}
theorem call_enumT {l : Addr} {items : Array Value} {Q : Value → Shared → Prop} (hL : s.heap.IsTuple l items)
    (h : ∀ h', IsEnum h' (s.heap.objs.size + 1) s.heap.objs.size 0 .none → h'.IsTupleIter s.heap.objs.size l 0 → (∀ b o, s.heap.get? b = some o → h'.get? b = some o) → Q (.ref (s.heap.objs.size + 1)) { s with heap := h' }) :
    wpAny (model prog w) A (call (.type "enumerate") [.ref l]) Q E s := by
  obtain ⟨⟨c, dct, dt, sl⟩, hl, hc, n, hd⟩ := hL
  replace hc : c = .type "tuple" := hc
  replace hd : dt = .seq items n := hd
  subst hc hd
  refine callType_new F.called_enumerate (by decide) (F.typeCall_enumerate_1 _) (F.newCall_enumerate_1 _) (fun obj => F.args_object_init_2 obj _) F.entry_enumerate_new (new_enumT l items n dct sl) ⟨hl, ?_⟩
  have hz : (s.heap.push { cls := .type "tuple_iterator", data := .fields #[.ref l, .int 0 0] }).objs.size = s.heap.objs.size + 1 := Heap.size_push ..
  have he := Heap.get?_push_size (s.heap.push { cls := .type "tuple_iterator", data := .fields #[.ref l, .int 0 0] }) (o := { cls := .type "enumerate", data := .fields #[.none, .bool false, .ref s.heap.objs.size, rawInt 0, .none, .none] }) rfl
  show _ ∧ _
  rw [hz] at he ⊢
  exact ⟨⟨_, he, rfl⟩, h _ he ⟨_, Heap.get?_push_of_some _ (Heap.get?_push_size _ rfl), rfl, rfl⟩ fun b o x => Heap.get?_push_of_some _ (Heap.get?_push_of_some _ x)⟩
end
end KB
namespace KB
open PySem PySem.Spec PyProof.Rows L2
/-- the tuple at a, its items in new pairs -/
def Itet (K : PySem.W.Frag) (a : Addr) : It :=
  ⟨fun i H => ∃ (xs : List V) (x : V), SqT K H a xs ∧ xs[i]? = some x, fun i H v H' => ∃ T x, v = .ref T ∧ H T = none ∧ H' = upd H T (.tup [.int (i : Nat), x]) ∧ ∀ xs, SqT K H a xs → xs[i]? = some x, fun i H => ∃ xs : List V, SqT K H a xs ∧ xs.length = i⟩
theorem turn_enumT {P : Program} {w : World} {K : PySem.W.Frag} {elts : List Expr} {kk : Nat} {tpos : Pos} (a e it : Addr) :
    Turn P w K (.Tuple elts kk tpos) (Itet K a) [e, it] e (fun i h => (∃ old, IsEnum h e it ((i : Nat) : Int) old) ∧ h.IsTupleIter it a i ∧ e ≠ it ∧ a < it ∧ a < e) where
  mem := by simp
  obj := fun i h st b hb => by
    obtain ⟨⟨old, he⟩, ⟨o, ho, hc, hd⟩, _⟩ := st
    rcases (by simpa using hb : b = e ∨ b = it) with rfl | rfl
    · exact ⟨_, he, fun v q => nomatch q⟩
    · exact ⟨o, ho, fun v q => by rw [hd] at q; cases q⟩
  keep := fun i h h' st k => let ⟨⟨old, he⟩, hi, hne⟩ := st; ⟨⟨old, k e (by simp) _ he⟩, hi.at fun o q => k it (by simp) o q, hne⟩
  item := by
    intro X hP hw hK hc i pins s σ H E I hf st hg
    subst hP hw hK
    obtain ⟨⟨old, he⟩, hit, hne, hai, hae⟩ := st
    obtain ⟨xs, x, hq, hx⟩ := hg
    obtain ⟨its, rv, p, hz⟩ := I.tuple hq
    obtain ⟨u, hu, ru⟩ := rv.get hx
    have hel : e < s.heap.objs.size := Heap.lt_size he
    have hil : it < s.heap.objs.size := by obtain ⟨_, q, _⟩ := hit; exact Heap.lt_size q
    have D := PySem.Draws.tuple (prog := X.prog) (w := X.w) (A := X.A.in1) (show X.A.in1.handled = none from I.ok.hd hc) it a (Nat.ne_of_lt hai) its.toArray
    have hi' : i < its.toArray.size := by simpa using (List.getElem?_eq_some_iff.mp hu).1
    refine wpAny_pyNext_enum_itemD (A := X.A) D he ⟨hit, p⟩ hi' hne (by simp [hne]; exact Nat.ne_of_gt hae) fun v h' tk hv ho hit' hT hsz hk => ?_
    have ev : v = u := by
      have : its[i]? = some v := by simpa using hv
      rw [hu] at this
      exact (Option.some.inj this).symm
    subst ev
    refine ⟨_, rfl, wpAny_letOwnedTupleGo_enum (s := { s with heap := h', toks := tk + 1 }) ho fun h'' he' sb => ?_⟩
    have hT2 := (sb.2 _ (Nat.ne_of_gt hel)).trans hT
    have new : ObjOk X.prog X.w (upd H s.heap.objs.size (.tup [.int (i : Nat), x])) h'' s.heap.objs.size (.tup [.int (i : Nat), x]) :=
      ⟨by show 2 ≤ sizeLine; decide, [.int i tk, v], .cons ⟨_, rfl⟩ (.cons ru .nil), ⟨_, hT2, rfl, _, rfl⟩⟩
    have I1 : Inv X pins σ (upd H s.heap.objs.size (.tup [.int (i : Nat), x])) { s with heap := h'', toks := tk + 1 } :=
      I.turnedNew (ch := [e, it]) (fun b ob hb q => (sb.2 b (fun z => hb (by simp [z]))).trans (hk b ob (fun z => hb (by simp [z])) (fun z => hb (by simp [z])) q)) hf (Nat.le_refl _) new
    refine ⟨.ref s.heap.objs.size, _, I1, rfl, ⟨_, x, rfl, I.hok.fresh (Nat.le_refl _), rfl, fun ys hy => ?_⟩, ⟨⟨v, ?_⟩, hit'.1.at fun o q => (sb.2 it (Ne.symm hne)).trans q, hne, hai, hae⟩, fun b hb => ?_⟩
    · obtain ⟨its2, rv2, p2, _⟩ := I.tuple hy
      obtain ⟨o1, g1, _, n1, d1⟩ := p
      obtain ⟨o2, g2, _, n2, d2⟩ := p2
      rw [g1] at g2
      cases Option.some.inj g2
      rw [d1] at d2
      have ei : its = its2 := by injection d2 with z _; simpa using congrArg Array.toList z
      subst ei
      rw [Vals.inj rv2 rv]
      exact hx
    · rw [show ((i + 1 : Nat) : Int) = (i : Int) + 1 by omega]
      exact he'
    · have hb' : b < s.heap.objs.size := by
        rcases (by simpa using hb : b = e ∨ b = it) with rfl | rfl
        · exact hel
        · exact hil
      rw [upd_ne (Nat.ne_of_lt hb')]
      exact (hf b hb).1
  done := by
    intro X hP hw hK hc i pins s σ H E I hf st hg
    subst hP hw hK
    obtain ⟨⟨old, he⟩, hit, hne, hai, hae⟩ := st
    obtain ⟨xs, hq, hx⟩ := hg
    obtain ⟨its, rv, p, hz⟩ := I.tuple hq
    obtain ⟨f0, f1, f2, f3, f4, f5⟩ := hf it (by simp)
    have D := PySem.Draws.tuple (prog := X.prog) (w := X.w) (A := X.A.in1) (show X.A.in1.handled = none from I.ok.hd hc) it a (Nat.ne_of_lt hai) its.toArray
    have en : i = its.toArray.size := by rw [List.size_toArray, ← rv.length]; exact hx.symm
    subst en
    exact wpAny_pyNext_enum_endD (A := X.A) D he ⟨hit, p⟩ fun h' eb => ⟨rfl, I.turned (t' := s.toks) (fun b o hb q => eb b o hb q) f0 f1 f3 f4 f5⟩
  self := fun A i s Q E st h => let ⟨⟨_, he⟩, _⟩ := st; wpAny_pyIter_enum he h
/-- enumerate(x), a list or a tuple -/
def iEnumA (K : PySem.W.Frag) (ta : TA) : TI := fun σ H R => ta σ H fun vs H1 => ∃ a xs, vs = [.ref a] ∧ ((SqL K H1 a xs ∧ R (Ite K a) H1) ∨ (SqT K H1 a xs ∧ R (Itet K a) H1))
theorem pi_enumA {X : Cx} {e : Expr} {ta : TA} {p pos tpos : Pos} {elts : List Expr} {kk : Nat} (hg : Gl X "enumerate") (hm : X.mg "enumerate" = none) (ha : PA X [e] ta) (hs : starEach [e] X.env = [(false, eval e X.env)] := by rfl) :
    PI X (.Tuple elts kk tpos) (.Call (.Name "enumerate" p) [e] [] pos) (iEnumA X.K ta) := by
  refine ⟨fun pins s σ H R I h => ?_⟩
  refine Call_ (ld_blt I hg hm boot_enumerate (PyProof.Rows.callWith_type1 (thn (ha.run pos pins s σ H _ I h) fun us s1 ⟨vs, H1, I1, r1, q1⟩ => ?_) hs rfl))
  obtain ⟨a, xs, ex, q⟩ := q1
  subst ex
  have fr : ∀ b, b ∈ [s1.heap.objs.size + 1, s1.heap.objs.size] → FpOk X pins H1 b := fun b hb => by
    have hle : s1.heap.objs.size ≤ b := by
      rcases (by simpa using hb : b = s1.heap.objs.size + 1 ∨ b = s1.heap.objs.size) with z | z
      · rw [z]; exact Nat.le_add_right _ _
      · rw [z]; exact Nat.le_refl _
    exact I1.fpOk hle (I1.hok.fresh hle)
  cases r1 with
  | cons r rr =>
    cases rr
    cases r
    rcases q with ⟨hq, q⟩ | ⟨hq, q⟩
    · obtain ⟨its, rv, p', hz⟩ := I1.list hq
      refine call_enumerate_list p'.isList fun h' he hit hsz hk => wpAny_pyIter_enum he ?_
      have I2 : Inv X pins σ H1 { s1 with heap := h' } := I1.kept (t' := s1.toks) hk
      exact ⟨s1.heap.objs.size + 1, [s1.heap.objs.size + 1, s1.heap.objs.size], _, _, H1, rfl, I2, turn_enum a (s1.heap.objs.size + 1) s1.heap.objs.size, ⟨⟨.none, he⟩, hit, Nat.succ_ne_self _⟩, fr, q⟩
    · obtain ⟨its, rv, p', hz⟩ := I1.tuple hq
      have al : a < s1.heap.objs.size := by obtain ⟨o, g, _⟩ := id p'; exact Heap.lt_size g
      refine call_enumT p' fun h' he hit hk => wpAny_pyIter_enum he ?_
      have I2 : Inv X pins σ H1 { s1 with heap := h' } := I1.kept (t' := s1.toks) hk
      exact ⟨s1.heap.objs.size + 1, [s1.heap.objs.size + 1, s1.heap.objs.size], _, _, H1, rfl, I2, turn_enumT a (s1.heap.objs.size + 1) s1.heap.objs.size, ⟨⟨.none, he⟩, hit, Nat.succ_ne_self _, al, Nat.lt_succ_of_lt al⟩, fr, q⟩
theorem lc_enumL {K : PySem.W.Frag} {a : Addr} {xs : List V} {g : TG} {tt : TT} {te : TE} {vs : List Nat} {σ : L2.St} {H1 : Hp} {D : Addr} {Qd : Hp → Prop} (Pv : Nat → Hp → Prop) (h0 : Pv 0 (upd H1 D (.lst []))) (hl : ∀ i H, i ≤ xs.length → Pv i H → SqL K H a xs)
    (hs : ∀ i x H, xs[i]? = some x → Pv i H → ∀ T, H T = none → g (.ref T) (wipe σ vs) (upd H T (.tup [.int (i : Nat), x])) fun σ2 H2 => wipe σ2 vs = wipe σ vs ∧ tt σ2 H2 fun b H3 =>
      if b = true then te σ2 H3 fun y H4 => ∃ acc, H4 D = some (.lst acc) ∧ acc.length < sizeLine ∧ Pv (i + 1) (upd H4 D (.lst (acc ++ [y]))) else Pv (i + 1) H3) (hd : ∀ H, Pv xs.length H → Qd H) :
    ∃ W : Nat → Nat → Hp → Prop, (∃ m, W 0 m (upd H1 D (.lst []))) ∧ ∀ i m H, W i m H →
      ((Ite K a).stop i H ∧ Qd H) ∨ ((Ite K a).go i H ∧ ∃ Nx : Hp → Prop, (∀ H', Nx H' → ∃ m', m' < m ∧ W (i + 1) m' H') ∧ ∀ x H', (Ite K a).yld i H x H' → g x (wipe σ vs) H' fun σ2 H2 => wipe σ2 vs = wipe σ vs ∧ tt σ2 H2 fun b H3 =>
        if b = true then te σ2 H3 fun y H4 => ∃ acc, H4 D = some (.lst acc) ∧ acc.length < sizeLine ∧ Nx (upd H4 D (.lst (acc ++ [y]))) else Nx H3) := by
  refine ⟨fun i m H => m = xs.length - i ∧ i ≤ xs.length ∧ Pv i H, ⟨xs.length, by simp, Nat.zero_le _, h0⟩, ?_⟩
  rintro i m H ⟨rfl, hi, p⟩
  have q := hl i H hi p
  by_cases hlt : i < xs.length
  · refine .inr ⟨⟨xs, xs[i], q, by simp [hlt]⟩, Pv (i + 1), fun H' p' => ⟨xs.length - (i + 1), by omega, rfl, hlt, p'⟩, fun v H' y => ?_⟩
    obtain ⟨T, x, rfl, hT, rfl, y⟩ := y
    exact hs i x H (y xs q) p T hT
  · have e : i = xs.length := by omega
    subst e
    exact .inl ⟨⟨xs, q, Nat.le_refl _⟩, hd H p⟩
theorem lc_enumT {K : PySem.W.Frag} {a : Addr} {xs : List V} {g : TG} {tt : TT} {te : TE} {vs : List Nat} {σ : L2.St} {H1 : Hp} {D : Addr} {Qd : Hp → Prop} (Pv : Nat → Hp → Prop) (h0 : Pv 0 (upd H1 D (.lst []))) (hl : ∀ i H, i ≤ xs.length → Pv i H → SqT K H a xs)
    (hs : ∀ i x H, xs[i]? = some x → Pv i H → ∀ T, H T = none → g (.ref T) (wipe σ vs) (upd H T (.tup [.int (i : Nat), x])) fun σ2 H2 => wipe σ2 vs = wipe σ vs ∧ tt σ2 H2 fun b H3 =>
      if b = true then te σ2 H3 fun y H4 => ∃ acc, H4 D = some (.lst acc) ∧ acc.length < sizeLine ∧ Pv (i + 1) (upd H4 D (.lst (acc ++ [y]))) else Pv (i + 1) H3) (hd : ∀ H, Pv xs.length H → Qd H) :
    ∃ W : Nat → Nat → Hp → Prop, (∃ m, W 0 m (upd H1 D (.lst []))) ∧ ∀ i m H, W i m H →
      ((Itet K a).stop i H ∧ Qd H) ∨ ((Itet K a).go i H ∧ ∃ Nx : Hp → Prop, (∀ H', Nx H' → ∃ m', m' < m ∧ W (i + 1) m' H') ∧ ∀ x H', (Itet K a).yld i H x H' → g x (wipe σ vs) H' fun σ2 H2 => wipe σ2 vs = wipe σ vs ∧ tt σ2 H2 fun b H3 =>
        if b = true then te σ2 H3 fun y H4 => ∃ acc, H4 D = some (.lst acc) ∧ acc.length < sizeLine ∧ Nx (upd H4 D (.lst (acc ++ [y]))) else Nx H3) := by
  refine ⟨fun i m H => m = xs.length - i ∧ i ≤ xs.length ∧ Pv i H, ⟨xs.length, by simp, Nat.zero_le _, h0⟩, ?_⟩
  rintro i m H ⟨rfl, hi, p⟩
  have q := hl i H hi p
  by_cases hlt : i < xs.length
  · refine .inr ⟨⟨xs, xs[i], q, by simp [hlt]⟩, Pv (i + 1), fun H' p' => ⟨xs.length - (i + 1), by omega, rfl, hlt, p'⟩, fun v H' y => ?_⟩
    obtain ⟨T, x, rfl, hT, rfl, y⟩ := y
    exact hs i x H (y xs q) p T hT
  · have e : i = xs.length := by omega
    subst e
    exact .inl ⟨⟨xs, q, rfl⟩, hd H p⟩
end KB
namespace KB
open PySem PySem.Spec PyProof.Rows L2
section
variable {X : Cx} {tg l : Expr} {tl : TE}
/-- for x in e, e a list or a tuple -/
def iSeqA (K : PySem.W.Frag) (tl : TE) : TI := fun σ H R => tl σ H fun x H1 => ∃ a xs, x = .ref a ∧ ((SqL K H1 a xs ∧ R (Itl K a) H1) ∨ (SqT K H1 a xs ∧ R (Itt K a) H1))
theorem pi_seqA (hl : PE X l tl) : PI X tg l (iSeqA X.K tl) := by
  refine ⟨fun pins s σ H R I h => thn (hl.run pins s σ H _ I h) fun v s1 ⟨x, H1, I1, r1, a, xs, ex, q⟩ => ?_⟩
  subst ex
  cases r1
  have fr : ∀ b, b ∈ [s1.heap.objs.size] → FpOk X pins H1 b := fun b hb => by
    rw [List.mem_singleton.mp hb]
    exact I1.fpOk (Nat.le_refl _) (I1.hok.fresh (Nat.le_refl _))
  have kp : ∀ (o : Obj), Inv X pins σ H1 { s1 with heap := s1.heap.push o } := fun o => I1.kept (t' := s1.toks) fun b o' e => Heap.get?_push_of_some _ e
  rcases q with ⟨hq, q⟩ | ⟨hq, q⟩
  · obtain ⟨its, rv, p, hz⟩ := I1.list hq
    exact wpAny_pyIter_list p.isList ⟨_, [s1.heap.objs.size], _, _, H1, rfl, kp _, turn_list a _, ⟨_, Heap.get?_push_size _ rfl, rfl, rfl⟩, fr, q⟩
  · obtain ⟨its, rv, p, hz⟩ := I1.tuple hq
    exact wpAny_pyIter_tuple (show s1.heap.IsTuple a its.toArray from p) ⟨_, [s1.heap.objs.size], _, _, H1, rfl, kp _, turn_tuple a _, ⟨_, Heap.get?_push_size _ rfl, rfl, rfl⟩, fr, q⟩
end
/-! ### kinds of things -/
def isIntD : PyData → Bool
  | .int _ => true
  | _ => false
def isNumD : PyData → Bool
  | .int z => decide (0 ≤ z)
  | _ => false
def isSeqD : PyData → Bool
  | .list _ => true
  | .tuple _ => true
  | _ => false
def spKind (K : PySem.W.Frag) (p : PyData → Bool) : Sp := fun vs H Q _ => ∃ v d, vs = [v] ∧ Dp K H v d ∧ Q (.bl (p d)) H
def spSeq (K : PySem.W.Frag) : Sp := fun vs H Q _ => ∃ v d, vs = [v] ∧ Dp K H v d ∧ ∀ H', Same H H' → Q (.bl (isSeqD d)) H'
end KB
namespace KB
open PySem PySem.Spec PyProof.Rows L2
/-- a sequence of numbers -/
def rowD : PyData → Bool
  | .list ds => ds.all isNumD
  | .tuple ds => ds.all isNumD
  | _ => false
def spRow (K : PySem.W.Frag) : Sp := fun vs H Q _ => ∃ v d n, vs = [v] ∧ Dp K H v d ∧ okD n d = true ∧ ∀ H', Same H H' → Q (.bl (rowD d)) H'
end KB
namespace KB
open PySem PySem.Spec PyProof.Rows L2
/-- the sum of 2 ** (40 - n) -/
def kr : List Nat → Nat
  | [] => 0
  | n :: r => 2 ^ (40 - n) + kr r
theorem kr_app : ∀ a b : List Nat, kr (a ++ b) = kr a + kr b
  | [], b => by simp [kr]
  | n :: a, b => by
    show 2 ^ (40 - n) + kr (a ++ b) = 2 ^ (40 - n) + kr a + kr b
    rw [kr_app a b, Nat.add_assoc]
theorem kr_take {ls : List Nat} {i l : Nat} (h : ls[i]? = some l) : kr (ls.take (i + 1)) = kr (ls.take i) + 2 ^ (40 - l) := by
  rw [List.take_succ, h, kr_app]
  rfl
theorem kr_more {ls : List Nat} {i l : Nat} (h : ls[i]? = some l) : kr (ls.take i) < kr ls := by
  have e : ls = ls.take (i + 1) ++ ls.drop (i + 1) := (List.take_append_drop _ _).symm
  have h1 := kr_take h
  have h2 : kr ls = kr (ls.take (i + 1)) + kr (ls.drop (i + 1)) := by rw [← kr_app, ← e]
  have : 0 < 2 ^ (40 - l) := Nat.pow_pos (by decide)
  omega
def nI (n : Nat) : V := .int (n : Int)
/-- whether there is room: free of the words of length depth are left -/
structure Rm (ls : List Nat) (i free depth : Nat) : Prop where
  eq : free * 2 ^ (40 - depth) + kr (ls.take i) = 2 ^ 40
  d40 : depth ≤ 40
  at_ : (i = 0 ∧ depth = 0) ∨ ∃ k, i = k + 1 ∧ ls[k]? = some depth
theorem Rm.ini (ls : List Nat) : Rm ls 0 1 0 := ⟨by simp [kr], by omega, .inl ⟨rfl, rfl⟩⟩
theorem Rm.le {ls : List Nat} {i free depth l : Nat} (R : Rm ls i free depth) (hs : ls.Pairwise (· ≤ ·)) (h : ls[i]? = some l) : depth ≤ l := by
  rcases R.at_ with ⟨_, e⟩ | ⟨k, rfl, hk⟩
  · omega
  · obtain ⟨h1, e1⟩ := List.getElem?_eq_some_iff.mp hk
    obtain ⟨h2, e2⟩ := List.getElem?_eq_some_iff.mp h
    have := List.pairwise_iff_getElem.mp hs k (k + 1) h1 h2 (Nat.lt_succ_self _)
    rw [e1, e2] at this
    exact this
theorem Rm.small {ls : List Nat} {i free depth : Nat} (R : Rm ls i free depth) : free ≤ 2 ^ 40 := by
  have : 1 ≤ 2 ^ (40 - depth) := Nat.pow_pos (by decide)
  have h := R.eq
  have := Nat.mul_le_mul_left free this
  omega
theorem Rm.nxt {ls : List Nat} {i free depth l : Nat} (R : Rm ls i free depth) (hs : ls.Pairwise (· ≤ ·)) (h : ls[i]? = some l) (h40 : l ≤ 40) (hf : free ≠ 0) : 1 ≤ free * 2 ^ (l - depth) ∧ Rm ls (i + 1) (free * 2 ^ (l - depth) - 1) l := by
  have hd := R.le hs h
  have p : 1 ≤ 2 ^ (l - depth) := Nat.pow_pos (by decide)
  have f1 : 1 ≤ free * 2 ^ (l - depth) := Nat.mul_pos (by omega) p
  refine ⟨f1, ?_, h40, .inr ⟨i, rfl, h⟩⟩
  have e : free * 2 ^ (40 - depth) = free * 2 ^ (l - depth) * 2 ^ (40 - l) := by
    rw [Nat.mul_assoc, ← Nat.pow_add]
    congr 2
    omega
  have q := R.eq
  rw [e] at q
  rw [kr_take h, Nat.sub_mul, Nat.one_mul]
  have : 2 ^ (40 - l) ≤ free * 2 ^ (l - depth) * 2 ^ (40 - l) := by
    have := Nat.mul_le_mul_right (2 ^ (40 - l)) f1
    omega
  omega
def spRoom (K : PySem.W.Frag) : Sp := fun vs H Q _ => ∃ (a : Addr) (ls : List Nat), vs = [.ref a] ∧ SqL K H a (ls.map nI) ∧ ls.Pairwise (· ≤ ·) ∧ (∀ n ∈ ls, n ≤ 40) ∧ Q (.bl (decide (kr ls ≤ 2 ^ 40))) H
end KB

/-! the bits of a number in a width -/
namespace KB
open PySem PySem.Spec PyProof.Rows L2
/-- l bits of v, the highest first -/
def bitsL : Nat → Nat → List Nat
  | 0, _ => []
  | l + 1, v => bitsL l (v / 2) ++ [48 + v % 2]
theorem bitsL_len : ∀ l v, (bitsL l v).length = l
  | 0, _ => rfl
  | l + 1, v => by
    show (bitsL l (v / 2) ++ [48 + v % 2]).length = l + 1
    rw [List.length_append, bitsL_len l]
    rfl
theorem bitsL_get : ∀ (l v k : Nat), k < l → (bitsL l v)[k]? = some (48 + v / 2 ^ (l - 1 - k) % 2)
  | 0, _, _, h => absurd h (Nat.not_lt_zero _)
  | l + 1, v, k, h => by
    show (bitsL l (v / 2) ++ [48 + v % 2])[k]? = _
    have hl := bitsL_len l (v / 2)
    by_cases e : k < l
    · rw [List.getElem?_append_left (by omega), bitsL_get l (v / 2) k e, Nat.div_div_eq_div_mul, ← Nat.pow_succ']
      rw [show (l - 1 - k).succ = l + 1 - 1 - k by omega]
    · have : k = l := by omega
      subst this
      rw [List.getElem?_append_right (by omega), hl, Nat.sub_self]
      simp
theorem dg_digit (n : Nat) (h : n < 2) : (n.digitChar).toNat = 48 + n := by
  rcases (by omega : n = 0 ∨ n = 1) with rfl | rfl <;> rfl
theorem dgB_step {n : Nat} (h : 2 ≤ n) : dgB n = dgB (n / 2) ++ [48 + n % 2] := by
  unfold dgB
  rw [Nat.toDigits_of_base_le (by decide) h, List.map_append]
  congr 1
  show [(n % 2).digitChar.toNat] = _
  rw [dg_digit _ (Nat.mod_lt _ (by decide))]
theorem dgB_bits : ∀ (l v : Nat), v < 2 ^ l → dgB (2 ^ l + v) = 49 :: bitsL l v
  | 0, v, h => by
    have : v = 0 := by simpa using h
    subst this
    decide
  | l + 1, v, h => by
    have h2 : 2 ^ (l + 1) = 2 * 2 ^ l := Nat.pow_succ'
    have p : 1 ≤ 2 ^ l := Nat.pow_pos (by decide)
    rw [dgB_step (by omega), show (2 ^ (l + 1) + v) / 2 = 2 ^ l + v / 2 by omega, show (2 ^ (l + 1) + v) % 2 = v % 2 by omega, dgB_bits l (v / 2) (by omega)]
    rfl
/-- the word of v in l bits -/
def wordS (l v : Nat) : Str := ⟨(bitsL l v).toArray⟩
theorem wordS_len (l v : Nat) : (wordS l v).length = l := by
  show (bitsL l v).toArray.size = l
  rw [List.size_toArray, bitsL_len]
def spWordOf : Sp := fun vs H Q _ => ∃ v l : Nat, vs = [.int v, .int l] ∧ v < 2 ^ l ∧ l ≤ 1000 ∧ Q (.str (wordS l v)) H
end KB
namespace KB
open PySem PySem.Spec PyProof.Rows L2
def chS (c : Nat) : Str := ⟨#[c]⟩
theorem joinL_signs : ∀ cs : List Nat, TL.joinL [] (cs.map fun c => [c]) = cs
  | [] => rfl
  | [c] => rfl
  | c :: d :: r => by
    have := joinL_signs (d :: r)
    simp only [List.map_cons] at this ⊢
    simp only [TL.joinL, List.append_nil, List.nil_append, List.singleton_append] at this ⊢
    rw [this]
theorem join_signs (cs : List Nat) : Txt.join ("" : Str) (cs.map chS) = ⟨cs.toArray⟩ := by
  have h := SX.join_S [] (cs.map fun c => [c])
  rw [joinL_signs, List.map_map] at h
  exact h
theorem bit_sign (l v k : Nat) (h : k < l) : atI (("01" : Str)).cps.toList ((v : Int) / 2 ^ ((l : Int) - 1 - (k : Int)).toNat % 2 ^ 1) = some (48 + v / 2 ^ (l - 1 - k) % 2) := by
  have e : ((v : Int) / 2 ^ ((l : Int) - 1 - (k : Int)).toNat % 2 ^ 1) = ((v / 2 ^ (l - 1 - k) % 2 : Nat) : Int) := by
    rw [show ((l : Int) - 1 - (k : Int)).toNat = l - 1 - k by omega, Int.natCast_emod, Int.natCast_ediv, Int.natCast_pow]
    rfl
  rw [e]
  refine atI_nat ?_
  rcases (by omega : v / 2 ^ (l - 1 - k) % 2 = 0 ∨ v / 2 ^ (l - 1 - k) % 2 = 1) with h | h <;> rw [h] <;> rfl
def spLawWord : Sp := fun vs H Q _ => ∃ v l : Nat, vs = [.int v, .int l] ∧ l ≤ 1000 ∧ ∀ H', Same H H' → Q (.str (wordS l v)) H'
end KB

/-! sorted pairs: there is one order alone -/
namespace KB
open PySem PySem.Spec PyProof.Rows L2
theorem lex_anti {p q : Int × Int} (h1 : SrtO.lexB p q = false) (h2 : SrtO.lexB q p = false) : p = q := by
  have a := SrtO.lexB_no.mp h1
  have b := SrtO.lexB_no.mp h2
  obtain ⟨p1, p2⟩ := p
  obtain ⟨q1, q2⟩ := q
  simp only at a b
  have e1 : p1 = q1 := by omega
  have e2 : p2 = q2 := by omega
  rw [e1, e2]
theorem pairs_one : ∀ (a b : List (Int × Int)), a.Perm b → a.Pairwise (fun p q => SrtO.lexB q p = false) → b.Pairwise (fun p q => SrtO.lexB q p = false) → a = b
  | [], b, h, _, _ => h.nil_eq
  | x :: a, [], h, _, _ => absurd h.length_eq (by simp)
  | x :: a, y :: b, h, ha, hb => by
    have e : x = y := by
      have hx : x ∈ y :: b := h.mem_iff.mp (List.mem_cons_self ..)
      have hy : y ∈ x :: a := h.mem_iff.mpr (List.mem_cons_self ..)
      rcases List.mem_cons.mp hx with z | z
      · exact z
      · rcases List.mem_cons.mp hy with z' | z'
        · exact z'.symm
        · exact lex_anti ((List.pairwise_cons.mp hb).1 x z) ((List.pairwise_cons.mp ha).1 y z')
    subst e
    rw [pairs_one a b (List.Perm.cons_inv h) (List.pairwise_cons.mp ha).2 (List.pairwise_cons.mp hb).2]
end KB
namespace KB
open PySem PySem.Spec PyProof.Rows L2
def natD : PyData → Nat
  | .int z => z.toNat
  | _ => 0
/-- the numbers of a sequence of numbers -/
def lensD : PyData → List Nat
  | .list ds => ds.map natD
  | .tuple ds => ds.map natD
  | _ => []
def areD (d : PyData) : Bool := rowD d && decide (kr (lensD d) ≤ 2 ^ 40)
theorem kr_sum : ∀ ls : List Nat, (∀ n ∈ ls, n ≤ 40) → (ls.map fun n : Nat => (1 : Int) * 2 ^ ((40 : Int) - (n : Int)).toNat).sum = (kr ls : Int)
  | [], _ => rfl
  | n :: r, h => by
    have hn := h n (List.mem_cons_self ..)
    rw [List.map_cons, List.sum_cons, kr_sum r (fun m hm => h m (List.mem_cons_of_mem _ hm))]
    show _ = ((2 ^ (40 - n) + kr r : Nat) : Int)
    rw [Int.natCast_add, Int.natCast_pow, Int.one_mul, show ((40 : Int) - (n : Int)).toNat = 40 - n by omega]
    rfl
def spAre (K : PySem.W.Frag) : Sp := fun vs H Q _ => ∃ v d n, vs = [v] ∧ Dp K H v d ∧ okD n d = true ∧ (∀ ds, (d = .list ds ∨ d = .tuple ds) → ∀ z, .int z ∈ ds → z ≤ 40) ∧ ∀ H', Same H H' → Q (.bl (areD d)) H'
end KB

/-! max(xs, default=d), min(xs, default=d) of ints; sums of halves -/
namespace KB
open PySem PySem.Spec PyProof.Rows L2
def rBestD (K : PySem.W.Frag) (le : Int → Int → Prop) : List V → List V → Hp → VK → Prop := fun vs zs H Q => ∃ (a : Addr) (ns : List Int) (d : V), vs = [V.ref a] ∧ zs = [d] ∧ (SqL K H a (ns.map V.int) ∨ SqT K H a (ns.map V.int)) ∧ (ns = [] → Q d H) ∧ ∀ m, m ∈ ns → (∀ y ∈ ns, le y m) → Q (.int m) H
theorem best_gt {ns : List Int} {xs : Array (Int × Tok)} (hn : ns = xs.toList.map (·.1)) (hp : 0 < xs.size) : numAt xs (argBest (fun i j => decide (numAt xs i > numAt xs j)) (xs.size - 1)) ∈ ns ∧ ∀ y ∈ ns, y ≤ numAt xs (argBest (fun i j => decide (numAt xs i > numAt xs j)) (xs.size - 1)) := by
  obtain ⟨h1, h2⟩ := argBest_gt (numAt xs) (xs.size - 1)
  subst hn
  refine ⟨?_, fun y hy => ?_⟩
  · rw [numAt_eq]
    exact PySem.getD_mem (by rw [List.length_map, Array.length_toList]; omega)
  · obtain ⟨j, hj, rfl⟩ := mem_getD hy
    rw [List.length_map, Array.length_toList] at hj
    rw [← numAt_eq]
    exact h2 j (by omega)
theorem best_lt {ns : List Int} {xs : Array (Int × Tok)} (hn : ns = xs.toList.map (·.1)) (hp : 0 < xs.size) : numAt xs (argBest (fun i j => decide (numAt xs i < numAt xs j)) (xs.size - 1)) ∈ ns ∧ ∀ y ∈ ns, numAt xs (argBest (fun i j => decide (numAt xs i < numAt xs j)) (xs.size - 1)) ≤ y := by
  obtain ⟨h1, h2⟩ := argBest_lt (numAt xs) (xs.size - 1)
  subst hn
  refine ⟨?_, fun y hy => ?_⟩
  · rw [numAt_eq]
    exact PySem.getD_mem (by rw [List.length_map, Array.length_toList]; omega)
  · obtain ⟨j, hj, rfl⟩ := mem_getD hy
    rw [List.length_map, Array.length_toList] at hj
    rw [← numAt_eq]
    exact h2 j (by omega)
theorem ints_arr {its : List Value} {ns : List Int} (hi : IntsAre its ns) : ∃ xs : Array (Int × Tok), its.toArray = intItems xs ∧ ns = xs.toList.map (·.1) := by
  obtain ⟨xs, e⟩ := hi.allInts.items
  refine ⟨xs, e, ?_⟩
  have hn : numsOf (intItems xs).toList = ns := by rw [← e]; exact hi.numsOf
  rw [nums_intItems] at hn
  exact hn.symm
section
variable {X : Cx}
theorem cr_maxDef (hc : X.calm = true) : CallRK X (.builtin "max") [Str.ofString "default"] (rBestD X.K (· ≤ ·)) := by
  intro pins s σ H vs zs us ws Q I r rz h
  obtain ⟨a, ns, d, rfl, rfl, hs, q0, q⟩ := h
  obtain rfl := Vals.ref1 r
  obtain ⟨w1, rfl, rd⟩ := vals1 rz
  have hh := I.ok.hd hc
  show wpAny _ _ (call (.builtin "max") [.ref a] [(Str.ofString "default", w1)]) _ _ _
  rcases hs with hs | hs
  · obtain ⟨its, rv, hl, _⟩ := I.list hs
    obtain ⟨xs, e, hn⟩ := ints_arr rv.ints
    have hl' := hl.isList
    rw [e] at hl'
    have sz : (intItems xs).size = xs.size := by simp [intItems]
    refine call_max_walkD (PySem.W.iter_listW (A := X.A.in1) hh hl' fun s₂ e2 W st hfp hw hk => ?_)
    refine ⟨_, _, _, _, _, _, _, s.heap, (fun i j => decide (numAt xs i > numAt xs j)), rfl, W, st, hfp, hw, hk, fun hz s' m => ?_, fun hp => ⟨fun i j vi vj s1 Q1 E1 _ hi hj hq => CmpOf.ints_gt (P := fun i v => (intItems xs)[i]? = some v) (numAt xs) (fun i v h => intItems_at h) i j vi vj s1 Q1 E1 hi hj hq, fun v s' hP m => ?_⟩⟩
    · obtain ⟨h', tk, rfl, hk'⟩ := PySem.W.moved_old e2 rfl m
      refine ⟨d, H, I.kept hk', rd, q0 ?_⟩
      rw [hn]
      have : xs.size = 0 := by omega
      simp [Array.eq_empty_of_size_eq_zero this]
    · obtain ⟨h', tk, rfl, hk'⟩ := PySem.W.moved_old e2 rfl m
      obtain ⟨t, rfl⟩ := intItems_at hP
      rw [sz] at hp ⊢
      obtain ⟨b1, b2⟩ := best_gt hn hp
      exact ⟨.int _, H, I.kept hk', ⟨_, rfl⟩, q _ b1 b2⟩
  · obtain ⟨its, rv, hl, _⟩ := I.tuple hs
    obtain ⟨xs, e, hn⟩ := ints_arr rv.ints
    have hl' : s.heap.IsTuple a its.toArray := hl
    rw [e] at hl'
    have sz : (intItems xs).size = xs.size := by simp [intItems]
    refine call_max_walkD (PySem.W.iter_tupleW (A := X.A.in1) hh hl' fun s₂ e2 W st hfp hw hk => ?_)
    refine ⟨_, _, _, _, _, _, _, s.heap, (fun i j => decide (numAt xs i > numAt xs j)), rfl, W, st, hfp, hw, hk, fun hz s' m => ?_, fun hp => ⟨fun i j vi vj s1 Q1 E1 _ hi hj hq => CmpOf.ints_gt (P := fun i v => (intItems xs)[i]? = some v) (numAt xs) (fun i v h => intItems_at h) i j vi vj s1 Q1 E1 hi hj hq, fun v s' hP m => ?_⟩⟩
    · obtain ⟨h', tk, rfl, hk'⟩ := PySem.W.moved_old e2 rfl m
      refine ⟨d, H, I.kept hk', rd, q0 ?_⟩
      rw [hn]
      have : xs.size = 0 := by omega
      simp [Array.eq_empty_of_size_eq_zero this]
    · obtain ⟨h', tk, rfl, hk'⟩ := PySem.W.moved_old e2 rfl m
      obtain ⟨t, rfl⟩ := intItems_at hP
      rw [sz] at hp ⊢
      obtain ⟨b1, b2⟩ := best_gt hn hp
      exact ⟨.int _, H, I.kept hk', ⟨_, rfl⟩, q _ b1 b2⟩
theorem cr_minDef (hc : X.calm = true) : CallRK X (.builtin "min") [Str.ofString "default"] (rBestD X.K (· ≥ ·)) := by
  intro pins s σ H vs zs us ws Q I r rz h
  obtain ⟨a, ns, d, rfl, rfl, hs, q0, q⟩ := h
  obtain rfl := Vals.ref1 r
  obtain ⟨w1, rfl, rd⟩ := vals1 rz
  have hh := I.ok.hd hc
  show wpAny _ _ (call (.builtin "min") [.ref a] [(Str.ofString "default", w1)]) _ _ _
  rcases hs with hs | hs
  · obtain ⟨its, rv, hl, _⟩ := I.list hs
    obtain ⟨xs, e, hn⟩ := ints_arr rv.ints
    have hl' := hl.isList
    rw [e] at hl'
    have sz : (intItems xs).size = xs.size := by simp [intItems]
    refine call_min_walkD (PySem.W.iter_listW (A := X.A.in1) hh hl' fun s₂ e2 W st hfp hw hk => ?_)
    refine ⟨_, _, _, _, _, _, _, s.heap, (fun i j => decide (numAt xs i < numAt xs j)), rfl, W, st, hfp, hw, hk, fun hz s' m => ?_, fun hp => ⟨fun i j vi vj s1 Q1 E1 _ hi hj hq => CmpOf.ints_lt (P := fun i v => (intItems xs)[i]? = some v) (numAt xs) (fun i v h => intItems_at h) i j vi vj s1 Q1 E1 hi hj hq, fun v s' hP m => ?_⟩⟩
    · obtain ⟨h', tk, rfl, hk'⟩ := PySem.W.moved_old e2 rfl m
      refine ⟨d, H, I.kept hk', rd, q0 ?_⟩
      rw [hn]
      have : xs.size = 0 := by omega
      simp [Array.eq_empty_of_size_eq_zero this]
    · obtain ⟨h', tk, rfl, hk'⟩ := PySem.W.moved_old e2 rfl m
      obtain ⟨t, rfl⟩ := intItems_at hP
      rw [sz] at hp ⊢
      obtain ⟨b1, b2⟩ := best_lt hn hp
      exact ⟨.int _, H, I.kept hk', ⟨_, rfl⟩, q _ b1 b2⟩
  · obtain ⟨its, rv, hl, _⟩ := I.tuple hs
    obtain ⟨xs, e, hn⟩ := ints_arr rv.ints
    have hl' : s.heap.IsTuple a its.toArray := hl
    rw [e] at hl'
    have sz : (intItems xs).size = xs.size := by simp [intItems]
    refine call_min_walkD (PySem.W.iter_tupleW (A := X.A.in1) hh hl' fun s₂ e2 W st hfp hw hk => ?_)
    refine ⟨_, _, _, _, _, _, _, s.heap, (fun i j => decide (numAt xs i < numAt xs j)), rfl, W, st, hfp, hw, hk, fun hz s' m => ?_, fun hp => ⟨fun i j vi vj s1 Q1 E1 _ hi hj hq => CmpOf.ints_lt (P := fun i v => (intItems xs)[i]? = some v) (numAt xs) (fun i v h => intItems_at h) i j vi vj s1 Q1 E1 hi hj hq, fun v s' hP m => ?_⟩⟩
    · obtain ⟨h', tk, rfl, hk'⟩ := PySem.W.moved_old e2 rfl m
      refine ⟨d, H, I.kept hk', rd, q0 ?_⟩
      rw [hn]
      have : xs.size = 0 := by omega
      simp [Array.eq_empty_of_size_eq_zero this]
    · obtain ⟨h', tk, rfl, hk'⟩ := PySem.W.moved_old e2 rfl m
      obtain ⟨t, rfl⟩ := intItems_at hP
      rw [sz] at hp ⊢
      obtain ⟨b1, b2⟩ := best_lt hn hp
      exact ⟨.int _, H, I.kept hk', ⟨_, rfl⟩, q _ b1 b2⟩
end
end KB
namespace KB
open PySem PySem.Spec PyProof.Rows L2
/-- the sum of 2 ** (L - n) -/
def hs (L : Nat) : List Nat → Nat
  | [] => 0
  | n :: r => 2 ^ (L - n) + hs L r
theorem hs_kr : ∀ ls, hs 40 ls = kr ls
  | [] => rfl
  | n :: r => by
    show 2 ^ (40 - n) + hs 40 r = 2 ^ (40 - n) + kr r
    rw [hs_kr r]
theorem hs_up {m L : Nat} (h : m ≤ L) : ∀ {ls : List Nat}, (∀ n ∈ ls, n ≤ m) → hs L ls = 2 ^ (L - m) * hs m ls
  | [], _ => rfl
  | n :: r, hn => by
    have h1 := hn n (List.mem_cons_self ..)
    show 2 ^ (L - n) + hs L r = 2 ^ (L - m) * (2 ^ (m - n) + hs m r)
    rw [hs_up h (fun k hk => hn k (List.mem_cons_of_mem _ hk)), Nat.mul_add, ← Nat.pow_add]
    congr 2
    omega
theorem hs_app (L : Nat) : ∀ a b : List Nat, hs L (a ++ b) = hs L a + hs L b
  | [], b => by simp [hs]
  | n :: a, b => by
    show 2 ^ (L - n) + hs L (a ++ b) = 2 ^ (L - n) + hs L a + hs L b
    rw [hs_app L a b, Nat.add_assoc]
theorem hs_sum (m : Nat) : ∀ ls : List Nat, (∀ n ∈ ls, n ≤ m) → (ls.map fun n : Nat => (1 : Int) * 2 ^ ((m : Int) - (n : Int)).toNat).sum = (hs m ls : Int)
  | [], _ => rfl
  | n :: r, h => by
    have hn := h n (List.mem_cons_self ..)
    rw [List.map_cons, List.sum_cons, hs_sum m r (fun k hk => h k (List.mem_cons_of_mem _ hk))]
    show _ = ((2 ^ (m - n) + hs m r : Nat) : Int)
    rw [Int.natCast_add, Int.natCast_pow, Int.one_mul, show ((m : Int) - (n : Int)).toNat = m - n by omega]
    rfl
theorem red_hs {m L : Nat} {ls : List Nat} (h : m ≤ L) (hn : ∀ n ∈ ls, n ≤ m) : rOd (hs m ls) (2 ^ m) = rOd (hs L ls) (2 ^ L) ∧ rUd (hs m ls) (2 ^ m) = rUd (hs L ls) (2 ^ L) := by
  have p : (0 : Int) < 2 ^ (L - m) := Int.pow_pos (by decide)
  have e1 : ((hs L ls : Nat) : Int) = 2 ^ (L - m) * (hs m ls : Int) := by
    rw [hs_up h hn, Int.natCast_mul, Int.natCast_pow]
    rfl
  have e2 : (2 : Int) ^ L = 2 ^ (L - m) * 2 ^ m := by
    rw [← Int.pow_add]
    congr 1
    omega
  rw [e1, e2]
  exact ⟨(rOd_scale _ _ p).symm, (rUd_scale _ _ p).symm⟩
/-- all ints of a sequence of numbers -/
theorem dp_nums {K : PySem.W.Frag} {H : Hp} : ∀ {xs : List V} {ds : List PyData}, DpAll K H xs ds → ds.all isNumD = true → xs = (ds.map natD).map nI
  | _, _, .nil, _ => rfl
  | x :: xs, d :: ds, .cons hd ha, h => by
    rw [List.all_cons, Bool.and_eq_true] at h
    obtain ⟨h1, h2⟩ := h
    rw [List.map_cons, List.map_cons, dp_nums ha h2]
    cases d with
    | int z =>
      cases hd
      have : 0 ≤ z := of_decide_eq_true h1
      show V.int z :: _ = V.int ((z.toNat : Nat) : Int) :: _
      rw [Int.toNat_of_nonneg this]
    | _ => cases h1
end KB
namespace KB
open PySem PySem.Spec PyProof.Rows L2
/-- a walk over a list or a tuple that stands: S tells that it stands -/
structure LikeSeq (J : It) (S : Hp → Prop) (xs : List V) : Prop where
  mono : ∀ H H', Same H H' → S H → S H'
  go : ∀ i H, S H → i < xs.length → J.go i H
  yld : ∀ i H x H', S H → J.yld i H x H' → H' = H ∧ xs[i]? = some x
  stop : ∀ H, S H → J.stop xs.length H
theorem likeL (K : PySem.W.Frag) (a : Addr) (xs : List V) : LikeSeq (Itl K a) (fun H => SqL K H a xs) xs :=
  ⟨fun _ _ s q => s.seq q, fun i _ q h => ⟨xs, xs[i], q, by simp [h]⟩, fun _ _ _ _ q y => ⟨y.1, y.2 xs q⟩, fun _ q => ⟨xs, q, Nat.le_refl _⟩⟩
theorem likeT (K : PySem.W.Frag) (a : Addr) (xs : List V) : LikeSeq (Itt K a) (fun H => SqT K H a xs) xs :=
  ⟨fun _ _ s q => sameT s q, fun i _ q h => ⟨xs, xs[i], q, by simp [h]⟩, fun _ _ _ _ q y => ⟨y.1, y.2 xs q⟩, fun _ q => ⟨xs, q, Nat.le_refl _⟩⟩
theorem seq_two {K : PySem.W.Frag} {a : Addr} {xs : List V} {H : Hp} {R : It → Hp → Prop} (hs : SqL K H a xs ∨ SqT K H a xs) (h : ∀ J S, LikeSeq J S xs → S H → R J H) : (SqL K H a xs ∧ R (Itl K a) H) ∨ (SqT K H a xs ∧ R (Itt K a) H) := by
  rcases hs with q | q
  · exact .inl ⟨q, h _ _ (likeL K a xs) q⟩
  · exact .inr ⟨q, h _ _ (likeT K a xs) q⟩
theorem for_J {J : It} {S : Hp → Prop} {xs : List V} (L : LikeSeq J S xs) {g : TG} {tb : TS} {D : Ends} {σ : L2.St} {H : Hp} (Pv : Nat → L2.St → Hp → Prop) (h0 : Pv 0 σ H) (hl : ∀ i σ H, i ≤ xs.length → Pv i σ H → S H)
    (hs : ∀ i x σ H, xs[i]? = some x → Pv i σ H → g x σ H fun σ2 H2 => tb { D with nx := Pv (i + 1), ct := Pv (i + 1), bk := D.nx } σ2 H2) (hd : ∀ σ H, Pv xs.length σ H → D.nx σ H) :
    ∃ W : Nat → Nat → L2.St → Hp → Prop, (∃ m, W 0 m σ H) ∧ ∀ i m σ H, W i m σ H →
      (J.stop i H ∧ D.nx σ H) ∨ (J.go i H ∧ ∃ N : L2.St → Hp → Prop, (∀ σ' H', N σ' H' → ∃ m', m' < m ∧ W (i + 1) m' σ' H') ∧ ∀ x H', J.yld i H x H' → g x σ H' fun σ2 H2 => tb { D with nx := N, ct := N, bk := D.nx } σ2 H2) := by
  refine ⟨fun i m σ H => m = xs.length - i ∧ i ≤ xs.length ∧ Pv i σ H, ⟨xs.length, by simp, Nat.zero_le _, h0⟩, ?_⟩
  rintro i m σ H ⟨rfl, hi, p⟩
  have q := hl i σ H hi p
  by_cases hlt : i < xs.length
  · refine .inr ⟨L.go i H q hlt, Pv (i + 1), fun σ' H' p' => ⟨xs.length - (i + 1), by omega, rfl, hlt, p'⟩, fun x H' y => ?_⟩
    obtain ⟨e, yy⟩ := L.yld i H x H' q y; clear y
    subst e
    exact hs i x σ _ yy p
  · have e : i = xs.length := by omega
    subst e
    exact .inl ⟨L.stop H q, hd σ H p⟩
theorem lc_J {J : It} {S : Hp → Prop} {xs : List V} (L : LikeSeq J S xs) {g : TG} {tt : TT} {te : TE} {vs : List Nat} {σ : L2.St} {H1 : Hp} {D : Addr} {Qd : Hp → Prop} (Pv : Nat → Hp → Prop) (h0 : Pv 0 (upd H1 D (.lst []))) (hl : ∀ i H, i ≤ xs.length → Pv i H → S H)
    (hs : ∀ i x H, xs[i]? = some x → Pv i H → g x (wipe σ vs) H fun σ2 H2 => wipe σ2 vs = wipe σ vs ∧ tt σ2 H2 fun b H3 =>
      if b = true then te σ2 H3 fun y H4 => ∃ acc, H4 D = some (.lst acc) ∧ acc.length < sizeLine ∧ Pv (i + 1) (upd H4 D (.lst (acc ++ [y]))) else Pv (i + 1) H3) (hd : ∀ H, Pv xs.length H → Qd H) :
    ∃ W : Nat → Nat → Hp → Prop, (∃ m, W 0 m (upd H1 D (.lst []))) ∧ ∀ i m H, W i m H →
      (J.stop i H ∧ Qd H) ∨ (J.go i H ∧ ∃ Nx : Hp → Prop, (∀ H', Nx H' → ∃ m', m' < m ∧ W (i + 1) m' H') ∧ ∀ x H', J.yld i H x H' → g x (wipe σ vs) H' fun σ2 H2 => wipe σ2 vs = wipe σ vs ∧ tt σ2 H2 fun b H3 =>
        if b = true then te σ2 H3 fun y H4 => ∃ acc, H4 D = some (.lst acc) ∧ acc.length < sizeLine ∧ Nx (upd H4 D (.lst (acc ++ [y]))) else Nx H3) := by
  refine ⟨fun i m H => m = xs.length - i ∧ i ≤ xs.length ∧ Pv i H, ⟨xs.length, by simp, Nat.zero_le _, h0⟩, ?_⟩
  rintro i m H ⟨rfl, hi, p⟩
  have q := hl i H hi p
  by_cases hlt : i < xs.length
  · refine .inr ⟨L.go i H q hlt, Pv (i + 1), fun H' p' => ⟨xs.length - (i + 1), by omega, rfl, hlt, p'⟩, fun x H' y => ?_⟩
    obtain ⟨e, yy⟩ := L.yld i H x H' q y; clear y
    subst e
    exact hs i x _ yy p
  · have e : i = xs.length := by omega
    subst e
    exact .inl ⟨L.stop H q, hd H p⟩
theorem maxD_nat {K : PySem.W.Frag} {H : Hp} {a : Addr} {ls : List Nat} {L : Nat} {Q : VK} (hs : SqL K H a (ls.map nI) ∨ SqT K H a (ls.map nI)) (hL : ∀ n ∈ ls, n ≤ L) (h : ∀ m : Nat, m ≤ L → (∀ n ∈ ls, n ≤ m) → Q (.int m) H) : rBestD K (· ≤ ·) [.ref a] [.int 0] H Q := by
  have em : (ls.map fun n : Nat => (n : Int)).map V.int = ls.map nI := by rw [List.map_map]; rfl
  refine ⟨a, ls.map fun n : Nat => (n : Int), V.int 0, rfl, rfl, by rw [em]; exact hs, fun e0 => ?_, fun m hm hmax => ?_⟩
  · have : ls = [] := by simpa using e0
    subst this
    exact h 0 (Nat.zero_le _) (fun n hn => by cases hn)
  · obtain ⟨n, hn, rfl⟩ := List.mem_map.mp hm
    exact h n (hL n hn) fun k hk => by
      have := hmax _ (List.mem_map.mpr ⟨k, hk, rfl⟩)
      omega
end KB
namespace KB
open PySem PySem.Spec PyProof.Rows L2
section
variable {X : Cx} {tg l : Expr} {tl : TE}
/-- for x in e, e a list or a tuple: told once for both -/
def iSeqJ (K : PySem.W.Frag) (tl : TE) : TI := fun σ H R => tl σ H fun x H1 => ∃ a xs, x = .ref a ∧ (SqL K H1 a xs ∨ SqT K H1 a xs) ∧ ∀ J S, LikeSeq J S xs → S H1 → R J H1
theorem pi_seqJ (hl : PE X l tl) : PI X tg l (iSeqJ X.K tl) := by
  refine ⟨fun pins s σ H R I h => thn (hl.run pins s σ H _ I h) fun v s1 ⟨x, H1, I1, r1, a, xs, ex, hs, q⟩ => ?_⟩
  subst ex
  cases r1
  have fr : ∀ b, b ∈ [s1.heap.objs.size] → FpOk X pins H1 b := fun b hb => by
    rw [List.mem_singleton.mp hb]
    exact I1.fpOk (Nat.le_refl _) (I1.hok.fresh (Nat.le_refl _))
  have kp : ∀ (o : Obj), Inv X pins σ H1 { s1 with heap := s1.heap.push o } := fun o => I1.kept (t' := s1.toks) fun b o' e => Heap.get?_push_of_some _ e
  rcases hs with hq | hq
  · have q' := q _ _ (likeL X.K a xs) hq
    obtain ⟨its, rv, p, hz⟩ := I1.list hq
    exact wpAny_pyIter_list p.isList ⟨_, [s1.heap.objs.size], _, _, H1, rfl, kp _, turn_list a _, ⟨_, Heap.get?_push_size _ rfl, rfl, rfl⟩, fr, q'⟩
  · have q' := q _ _ (likeT X.K a xs) hq
    obtain ⟨its, rv, p, hz⟩ := I1.tuple hq
    exact wpAny_pyIter_tuple (show s1.heap.IsTuple a its.toArray from p) ⟨_, [s1.heap.objs.size], _, _, H1, rfl, kp _, turn_tuple a _, ⟨_, Heap.get?_push_size _ rfl, rfl, rfl⟩, fr, q'⟩
end
end KB
namespace KB
open PySem PySem.Spec PyProof.Rows L2
theorem row_at {K : PySem.W.Frag} {H : Hp} {v : V} {d : PyData} {n : Nat} (hv : Dp K H v d) (hok : okD n d = true) (hr : rowD d = true) : ∃ a, v = .ref a ∧ (SqL K H a ((lensD d).map nI) ∨ SqT K H a ((lensD d).map nI)) ∧ (lensD d).length ≤ 100000 := by
  cases n with
  | zero => cases d <;> first | (cases hok; done) | (cases hr; done)
  | succ n =>
  cases d with
  | list ds =>
    cases hv with
    | lst sx ax => exact ⟨_, rfl, .inl (by have e := dp_nums ax hr; rw [e] at sx; exact sx), by show (ds.map natD).length ≤ _; rw [List.length_map]; exact (okD_seq hok).1⟩
  | tuple ds =>
    cases hv with
    | tup sx ax => exact ⟨_, rfl, .inr (by have e := dp_nums ax hr; rw [e] at sx; exact sx), by show (ds.map natD).length ≤ _; rw [List.length_map]; exact (okD_seq hok).1⟩
  | _ => cases hr
theorem for_enumL {K : PySem.W.Frag} {a : Addr} {xs : List V} {g : TG} {tb : TS} {D : Ends} {σ : L2.St} {H : Hp} (Pv : Nat → L2.St → Hp → Prop) (h0 : Pv 0 σ H) (hl : ∀ i σ H, i ≤ xs.length → Pv i σ H → SqL K H a xs)
    (hs : ∀ i x σ H, xs[i]? = some x → Pv i σ H → ∀ T, H T = none → g (.ref T) σ (upd H T (.tup [.int (i : Nat), x])) fun σ2 H2 => tb { D with nx := Pv (i + 1), ct := Pv (i + 1), bk := D.nx } σ2 H2) (hd : ∀ σ H, Pv xs.length σ H → D.nx σ H) :
    ∃ W : Nat → Nat → L2.St → Hp → Prop, (∃ m, W 0 m σ H) ∧ ∀ i m σ H, W i m σ H →
      ((Ite K a).stop i H ∧ D.nx σ H) ∨ ((Ite K a).go i H ∧ ∃ N : L2.St → Hp → Prop, (∀ σ' H', N σ' H' → ∃ m', m' < m ∧ W (i + 1) m' σ' H') ∧ ∀ v H', (Ite K a).yld i H v H' → g v σ H' fun σ2 H2 => tb { D with nx := N, ct := N, bk := D.nx } σ2 H2) := by
  refine ⟨fun i m σ H => m = xs.length - i ∧ i ≤ xs.length ∧ Pv i σ H, ⟨xs.length, by simp, Nat.zero_le _, h0⟩, ?_⟩
  rintro i m σ H ⟨rfl, hi, p⟩
  have q := hl i σ H hi p
  by_cases hlt : i < xs.length
  · refine .inr ⟨⟨xs, xs[i], q, by simp [hlt]⟩, Pv (i + 1), fun σ' H' p' => ⟨xs.length - (i + 1), by omega, rfl, hlt, p'⟩, fun v H' y => ?_⟩
    obtain ⟨T, x, rfl, hT, rfl, y⟩ := y
    exact hs i x σ H (y xs q) p T hT
  · have e : i = xs.length := by omega
    subst e
    exact .inl ⟨⟨xs, q, Nat.le_refl _⟩, hd σ H p⟩
theorem bits_up {n m : Nat} (h : Builtin.Int.intBits (n : Int) ≤ m) : n < 2 ^ m := by
  unfold Builtin.Int.intBits at h
  split at h
  · rename_i h0
    have h0' : n = 0 := by simpa using h0
    subst h0'
    exact Nat.pow_pos (by decide)
  · have h2 := Nat.lt_log2_self (n := n)
    have h3 : 2 ^ ((n : Int).natAbs.log2 + 1) ≤ 2 ^ m := Nat.pow_le_pow_right (by decide) h
    have : (n : Int).natAbs = n := by omega
    rw [this] at h3
    omega
theorem bits_dn {n m : Nat} (h : n < 2 ^ m) : Builtin.Int.intBits (n : Int) ≤ m := by
  unfold Builtin.Int.intBits
  split
  · omega
  · have : (n : Int).natAbs = n := by omega
    rw [this]
    rename_i h0
    exact (Nat.log2_lt (fun z => h0 (by subst z; rfl))).mpr h
theorem kr_le {l : Nat} : ∀ {ys : List Nat}, (∀ y ∈ ys, l ≤ y) → kr ys ≤ ys.length * 2 ^ (40 - l)
  | [], _ => Nat.zero_le _
  | y :: r, h => by
    have h1 := h y (List.mem_cons_self ..)
    have h2 := kr_le (ys := r) fun z hz => h z (List.mem_cons_of_mem _ hz)
    have h3 : 2 ^ (40 - y) ≤ 2 ^ (40 - l) := Nat.pow_le_pow_right (by decide) (by omega)
    show 2 ^ (40 - y) + kr r ≤ (r.length + 1) * 2 ^ (40 - l)
    rw [Nat.add_mul]
    omega
theorem kr_drop {ls : List Nat} {i l : Nat} (hs : ls.Pairwise (· ≤ ·)) (h : ls[i]? = some l) : kr ls ≤ kr (ls.take i) + (ls.length - i) * 2 ^ (40 - l) := by
  have e : ls = ls.take i ++ ls.drop i := (List.take_append_drop _ _).symm
  have h2 : kr ls = kr (ls.take i) + kr (ls.drop i) := by rw [← kr_app, ← e]
  have h3 : kr (ls.drop i) ≤ (ls.drop i).length * 2 ^ (40 - l) := kr_le fun y hy => by
    obtain ⟨k, hk, rfl⟩ := List.getElem_of_mem hy
    rw [List.getElem_drop]
    obtain ⟨hi, ei⟩ := List.getElem?_eq_some_iff.mp h
    rw [List.length_drop] at hk
    rw [← ei]
    rcases Nat.eq_zero_or_pos k with z | z
    · subst z
      exact Nat.le_refl _
    · exact List.pairwise_iff_getElem.mp hs i (i + k) hi (by omega) (by omega)
  rw [List.length_drop] at h3
  omega
theorem kr_perm {a b : List Nat} (h : a.Perm b) : kr a = kr b := by
  induction h with
  | nil => rfl
  | cons x _ ih => show 2 ^ (40 - x) + _ = 2 ^ (40 - x) + _; rw [ih]
  | swap x y l => show 2 ^ (40 - y) + (2 ^ (40 - x) + _) = 2 ^ (40 - x) + (2 ^ (40 - y) + _); omega
  | trans _ _ h1 h2 => exact h1.trans h2
/-- room for T: room of the words of length depth are left -/
structure Rk (T : Nat) (ls : List Nat) (i room depth : Nat) : Prop where
  eq : room * 2 ^ (40 - depth) + kr (ls.take i) = T
  d40 : depth ≤ 40
  pos : 0 < room
  at_ : (i = 0 ∧ depth = 0) ∨ ∃ k, i = k + 1 ∧ ls[k]? = some depth
theorem Rk.ini (ls : List Nat) {r : Nat} (h : 0 < r) : Rk (r * 2 ^ 40) ls 0 r 0 := ⟨by simp [kr], by omega, h, .inl ⟨rfl, rfl⟩⟩
theorem Rk.le {T : Nat} {ls : List Nat} {i free depth l : Nat} (R : Rk T ls i free depth) (hs : ls.Pairwise (· ≤ ·)) (h : ls[i]? = some l) : depth ≤ l := by
  rcases R.at_ with ⟨_, e⟩ | ⟨k, rfl, hk⟩
  · omega
  · obtain ⟨h1, e1⟩ := List.getElem?_eq_some_iff.mp hk
    obtain ⟨h2, e2⟩ := List.getElem?_eq_some_iff.mp h
    have := List.pairwise_iff_getElem.mp hs k (k + 1) h1 h2 (Nat.lt_succ_self _)
    rw [e1, e2] at this
    exact this
theorem Rk.small {T : Nat} {ls : List Nat} {i free depth : Nat} (R : Rk T ls i free depth) : free ≤ T := by
  have : 1 ≤ 2 ^ (40 - depth) := Nat.pow_pos (by decide)
  have h := R.eq
  have := Nat.mul_le_mul_left free this
  omega
/-- all that are left do not fill the room -/
theorem Rk.enough {T : Nat} {ls : List Nat} {i room depth l : Nat} (R : Rk T ls i room depth) (hs : ls.Pairwise (· ≤ ·)) (h : ls[i]? = some l) (h40 : l ≤ 40) (hb : ls.length - i < 2 ^ (l - depth)) : kr ls < T := by
  have hd := R.le hs h
  have e := R.eq
  have k := kr_drop hs h
  have p : 0 < 2 ^ (40 - l) := Nat.pow_pos (by decide)
  have h1 : (ls.length - i) * 2 ^ (40 - l) < 2 ^ (l - depth) * 2 ^ (40 - l) := Nat.mul_lt_mul_of_pos_right hb p
  have h2 : 2 ^ (l - depth) * 2 ^ (40 - l) = 2 ^ (40 - depth) := by
    rw [← Nat.pow_add]
    congr 1
    omega
  have h3 : 1 * 2 ^ (40 - depth) ≤ room * 2 ^ (40 - depth) := Nat.mul_le_mul_right _ R.pos
  omega
theorem Rk.nxt {T : Nat} {ls : List Nat} {i free depth l : Nat} (R : Rk T ls i free depth) (hs : ls.Pairwise (· ≤ ·)) (h : ls[i]? = some l) (h40 : l ≤ 40) :
    1 ≤ free * 2 ^ (l - depth) ∧ (free * 2 ^ (l - depth) - 1 = 0 → T ≤ kr ls) ∧ (free * 2 ^ (l - depth) - 1 ≠ 0 → Rk T ls (i + 1) (free * 2 ^ (l - depth) - 1) l) := by
  have hd := R.le hs h
  have p : 1 ≤ 2 ^ (l - depth) := Nat.pow_pos (by decide)
  have f1 : 1 ≤ free * 2 ^ (l - depth) := Nat.mul_pos R.pos p
  have e : free * 2 ^ (40 - depth) = free * 2 ^ (l - depth) * 2 ^ (40 - l) := by
    rw [Nat.mul_assoc, ← Nat.pow_add]
    congr 2
    omega
  have q := R.eq
  rw [e] at q
  have hle : 1 * 2 ^ (40 - l) ≤ free * 2 ^ (l - depth) * 2 ^ (40 - l) := Nat.mul_le_mul_right _ f1
  have kt := kr_take h
  have kl : kr (ls.take (i + 1)) ≤ kr ls := by
    have e2 : ls = ls.take (i + 1) ++ ls.drop (i + 1) := (List.take_append_drop _ _).symm
    have : kr ls = kr (ls.take (i + 1)) + kr (ls.drop (i + 1)) := by rw [← kr_app, ← e2]
    omega
  refine ⟨f1, fun z => ?_, fun z => ⟨?_, h40, by omega, .inr ⟨i, rfl, h⟩⟩⟩
  · have : free * 2 ^ (l - depth) = 1 := by omega
    rw [this] at q
    omega
  · rw [kt, Nat.sub_mul]
    omega
theorem Rk.fin {T : Nat} {ls : List Nat} {room depth : Nat} (R : Rk T ls ls.length room depth) : kr ls < T := by
  have h := R.eq
  rw [List.take_length] at h
  have : 1 * 2 ^ (40 - depth) ≤ room * 2 ^ (40 - depth) := Nat.mul_le_mul_right _ R.pos
  have p : 0 < 2 ^ (40 - depth) := Nat.pow_pos (by decide)
  omega
end KB
namespace KB
open PySem PySem.Spec PyProof.Rows L2
theorem red_div {o u : Int} (hu : 0 < u) : rOd o u / rUd o u = o / u := by
  obtain ⟨g, g0, eo, eu⟩ := red_ex (o := o) hu
  generalize rOd o u = n at *
  generalize rUd o u = d at *
  rw [eo, eu, Int.mul_ediv_mul_of_pos _ _ g0]
theorem bits_log {q : Nat} : (if ((Builtin.Int.intBits (q : Int) : Nat) : Int) - 1 > 0 then ((Builtin.Int.intBits (q : Int) : Nat) : Int) - 1 else 0) = ((Nat.log2 q : Nat) : Int) := by
  by_cases h : q = 0
  · subst h
    rfl
  · have e : Builtin.Int.intBits (q : Int) = Nat.log2 q + 1 := by
      unfold Builtin.Int.intBits
      rw [if_neg (by simpa using h), show (q : Int).natAbs = q by omega]
    rw [e]
    split <;> omega
theorem kit2 {K : PySem.W.Frag} (t : String) (a b : String) (r1 r2 : Bool) (h1 : kitB t a = some r1) (h2 : kitB t b = some r2) : PySem.W.kitAny K (.type t) [.type a, .type b] = some (r1 || r2) :=
  kitAny_cons (kit_ty h1) (fun e => by subst e; exact kitAny_cons (kit_ty h2) (fun e => by subst e; rfl) (fun e => by subst e; rfl)) (fun e => by subst e; rfl)
end KB
namespace KB
open PySem PySem.Spec PyProof.Rows L2
theorem atN {ls : List Nat} {k l : Nat} (h : ls[k]? = some l) : atI (ls.map nI) (k : Int) = some (nI l) := atI_nat (by rw [List.getElem?_map, h]; rfl)
theorem flatN : ∀ ls : List Nat, (ls.map nI).all flatV = true
  | [] => rfl
  | n :: r => by
    rw [List.map_cons, List.all_cons, flatN r]
    rfl
theorem getN {ls : List Nat} {k : Nat} {v : V} (h : (ls.map nI)[k]? = some v) : ∃ n, ls[k]? = some n ∧ v = nI n := by
  rw [List.getElem?_map] at h
  cases e : ls[k]? with
  | none => rw [e] at h; cases h
  | some n => rw [e] at h; exact ⟨n, rfl, (Option.some.inj h).symm⟩
theorem idxN {m : Nat} : ∀ {ls : List Nat}, m ∈ ls → ∃ j : Nat, ls[j]? = some m ∧ ∀ (k : Nat) (z : Nat), k < j → ls[k]? = some z → z ≠ m
  | [], h => by cases h
  | n :: r, h => by
    by_cases e : n = m
    · exact ⟨0, by rw [e]; rfl, fun k z hk => absurd hk (Nat.not_lt_zero _)⟩
    · have hr : m ∈ r := by
        rcases List.mem_cons.mp h with z | z
        · exact absurd z.symm e
        · exact z
      obtain ⟨j, h1, h2⟩ := idxN hr
      refine ⟨j + 1, by rw [List.getElem?_cons_succ]; exact h1, fun k z hk hz => ?_⟩
      cases k with
      | zero => cases Option.some.inj hz; exact e
      | succ k => exact h2 k z (by omega) (by rw [List.getElem?_cons_succ] at hz; exact hz)
theorem indexN {K : PySem.W.Frag} {H : Hp} {a : Addr} {ls : List Nat} {m : Nat} {Q : VK} (hS : SqL K H a (ls.map nI)) (hm : m ∈ ls) (q : ∀ j, ls[j]? = some m → Q (.int (j : Nat)) H) : rIndex K (.ref a) [.int (m : Int)] H Q := by
  obtain ⟨j, h1, h2⟩ := idxN hm
  refine ⟨a, ls.map nI, .int (m : Int), j, nI m, rfl, rfl, hS, rfl, flatN ls, by rw [List.getElem?_map, h1]; rfl, ?_, fun k z hk hz => ?_, q j h1⟩
  · simp [eqV, nI]
  · obtain ⟨n, hn, rfl⟩ := getN hz
    have := h2 k n hk hn
    simp [eqV, nI]
    omega
theorem maxN {K : PySem.W.Frag} {H : Hp} {a : Addr} {ls : List Nat} {Q : VK} (hS : SqL K H a (ls.map nI)) (h0 : 0 < ls.length) (q : ∀ m, m ∈ ls → (∀ n ∈ ls, n ≤ m) → Q (.int (m : Int)) H) : rMax K [.ref a] H Q := by
  have em : (ls.map fun n : Nat => (n : Int)).map V.int = ls.map nI := by rw [List.map_map]; rfl
  refine ⟨a, ls.map fun n : Nat => (n : Int), rfl, by rw [em]; exact hS, by rw [List.length_map]; exact h0, fun m hm hmax => ?_⟩
  obtain ⟨n, hn, rfl⟩ := List.mem_map.mp hm
  exact q n hn fun k hk => by
    have := hmax _ (List.mem_map.mpr ⟨k, hk, rfl⟩)
    omega
/-- a list of numbers that stands by itself, beside the tape -/
structure Nl (B0 B H : Hp) (t p : Addr) (c : Nat) (bs : List Nat) : Prop where
  same : Same B0 B
  tp : Tp B H t c
  at_ : B p = some (.lst (bs.map nI))
  nb : B0 p = none
theorem Nl.set {B0 B H : Hp} {t p : Addr} {c : Nat} {bs : List Nat} (N : Nl B0 B H t p c bs) (zs : List Nat) : Nl B0 (upd B p (.lst (zs.map nI))) (upd H p (.lst (zs.map nI))) t p c zs :=
  ⟨same_out N.same N.nb, N.tp.set N.at_, upd_same, N.nb⟩
theorem Nl.hd {B0 B H : Hp} {t p : Addr} {c : Nat} {bs : List Nat} (N : Nl B0 B H t p c bs) : H p = some (.lst (bs.map nI)) := N.tp.at N.at_
theorem Nl.le {B0 B H : Hp} {t p : Addr} {c d : Nat} {bs : List Nat} (N : Nl B0 B H t p c bs) (h : c ≤ d) : Nl B0 B H t p d bs := ⟨N.same, N.tp.le h, N.at_, N.nb⟩
theorem Nl.drw {B0 B H H' : Hp} {t p : Addr} {c d : Nat} {bs : List Nat} (N : Nl B0 B H t p c bs) (T : Tp B H' t d) : Nl B0 B H' t p d bs := ⟨N.same, T, N.at_, N.nb⟩
theorem setN (ls : List Nat) (k n : Nat) : (ls.map nI).set k (nI n) = (ls.set k n).map nI := by rw [List.map_set]
end KB
namespace KB
open PySem PySem.Spec PyProof.Rows L2
theorem sqI {K : PySem.W.Frag} {H : Hp} {a : Addr} {ls : List Nat} (hS : SqL K H a (ls.map nI)) : SqL K H a ((ls.map fun n : Nat => (n : Int)).map V.int) := by
  rw [List.map_map]
  exact hS
theorem ix_get {ls : List Nat} {j m : Nat} (h : ls[j]? = some m) : (ls.map nI)[j]? = some (nI m) := by rw [List.getElem?_map, h]; rfl
theorem ix_eq (m : Nat) : eqV (nI m) (.int (m : Int)) = true := by simp [eqV, nI]
theorem ix_min {ls : List Nat} {j m : Nat} (h : ∀ (k : Nat) (z : Nat), k < j → ls[k]? = some z → z ≠ m) : ∀ (k : Nat) (z' : V), k < j → (ls.map nI)[k]? = some z' → eqV z' (.int (m : Int)) = false := fun k z hk hz => by
  obtain ⟨n, hn, rfl⟩ := getN hz
  have := h k n hk hn
  simp [eqV, nI]
  omega
end KB
namespace KB
open PySem PySem.Spec PyProof.Rows L2
theorem ixN_nat {n j : Nat} (h : j < n) : ixN n (j : Int) = some j := by
  unfold ixN
  rw [if_pos (by omega), if_pos (by omega)]
  rfl
theorem Nl.put {B0 B H : Hp} {t p : Addr} {c : Nat} {bs : List Nat} (N : Nl B0 B H t p c bs) (j n : Nat) : Nl B0 (upd B p (.lst ((bs.map nI).set j (nI n)))) (upd H p (.lst ((bs.map nI).set j (nI n)))) t p c (bs.set j n) := by
  rw [setN]
  exact N.set _
theorem Nl.app {B0 B H : Hp} {t p : Addr} {c : Nat} {bs : List Nat} (N : Nl B0 B H t p c bs) (n : Nat) : Nl B0 (upd B p (.lst (bs.map nI ++ [nI n]))) (upd H p (.lst (bs.map nI ++ [nI n]))) t p c (bs ++ [n]) := by
  rw [show bs.map nI ++ [nI n] = (bs ++ [n]).map nI by rw [List.map_append]; rfl]
  exact N.set _
theorem mem_set_le {bs : List Nat} {j n m : Nat} (h : ∀ k ∈ bs, k ≤ m) (hn : n ≤ m) : ∀ k ∈ bs.set j n, k ≤ m := fun k hk => by
  rcases List.mem_or_eq_of_mem_set hk with z | z
  · exact h k z
  · omega
theorem mem_app_le {bs : List Nat} {n m : Nat} (h : ∀ k ∈ bs, k ≤ m) (hn : n ≤ m) : ∀ k ∈ bs ++ [n], k ≤ m := fun k hk => by
  rcases List.mem_append.mp hk with z | z
  · exact h k z
  · rw [List.mem_singleton.mp z]
    exact hn
end KB
namespace KB
open PySem PySem.Spec PyProof.Rows L2
theorem seqIx_nat {n j : Nat} (h : j < n) : seqIndex? (j : Int) n = some j := by
  unfold seqIndex?
  simp
  omega
theorem eraN : ∀ (bs : List Nat) (j : Nat), (bs.map nI).eraseIdx j = (bs.eraseIdx j).map nI
  | [], _ => rfl
  | _ :: _, 0 => rfl
  | b :: r, j + 1 => by
    rw [List.map_cons, List.eraseIdx_cons_succ, List.eraseIdx_cons_succ, List.map_cons, eraN r j]
theorem Nl.era {B0 B H : Hp} {t p : Addr} {c : Nat} {bs : List Nat} (N : Nl B0 B H t p c bs) (j : Nat) : Nl B0 (upd B p (.lst ((bs.map nI).eraseIdx j))) (upd H p (.lst ((bs.map nI).eraseIdx j))) t p c (bs.eraseIdx j) := by
  rw [eraN bs j]
  exact N.set _
theorem Nl.ins {B0 B H : Hp} {t p : Addr} {c : Nat} {bs : List Nat} (N : Nl B0 B H t p c bs) (j n : Nat) : Nl B0 (upd B p (.lst ((bs.map nI).take j ++ [nI n] ++ (bs.map nI).drop j))) (upd H p (.lst ((bs.map nI).take j ++ [nI n] ++ (bs.map nI).drop j))) t p c (bs.take j ++ [n] ++ bs.drop j) := by
  rw [show (bs.map nI).take j ++ [nI n] ++ (bs.map nI).drop j = (bs.take j ++ [n] ++ bs.drop j).map nI by simp [List.map_take, List.map_drop]]
  exact N.set _
theorem mem_era_le {bs : List Nat} {j m : Nat} (h : ∀ k ∈ bs, k ≤ m) : ∀ k ∈ bs.eraseIdx j, k ≤ m := fun k hk => h k (List.mem_of_mem_eraseIdx hk)
theorem mem_ins_le {bs : List Nat} {j n m : Nat} (h : ∀ k ∈ bs, k ≤ m) (hn : n ≤ m) : ∀ k ∈ bs.take j ++ [n] ++ bs.drop j, k ≤ m := fun k hk => by
  rcases List.mem_append.mp hk with z | z
  · rcases List.mem_append.mp z with z | z
    · exact h k (List.mem_of_mem_take z)
    · rw [List.mem_singleton.mp z]
      exact hn
  · exact h k (List.mem_of_mem_drop z)
end KB
namespace KB
open PySem PySem.Spec PyProof.Rows L2
theorem cut_from (bs : List Nat) (x : Nat) (h : x ≤ bs.length) : cutV (bs.map nI) (some (x : Int)) none = (bs.drop x).map nI := by
  have e : HT.sIx (bs.map nI).length 0 (some (x : Int)) = x := by rw [HT.sIx_nat, List.length_map]; omega
  have e2 : HT.sIx (bs.map nI).length (bs.map nI).length none = (bs.map nI).length := rfl
  unfold cutV
  rw [e, e2, ← List.map_drop, List.take_of_length_le (by simp)]
theorem cut_to (bs : List Nat) (x : Nat) (h : x ≤ bs.length) : cutV (bs.map nI) none (some (x : Int)) = (bs.take x).map nI := by
  have e : HT.sIx (bs.map nI).length (bs.map nI).length (some (x : Int)) = x := by rw [HT.sIx_nat, List.length_map]; omega
  have e2 : HT.sIx (bs.map nI).length 0 none = 0 := rfl
  unfold cutV
  rw [e, e2, List.drop_zero, Nat.sub_zero, ← List.map_take]
end KB
namespace KB
open PySem PySem.Spec PyProof.Rows L2
def ndD (ls : List Nat) : List PyData := ls.map fun n : Nat => PyData.int (n : Int)
theorem dp_nd {K : PySem.W.Frag} {H : Hp} : ∀ ls : List Nat, DpAll K H (ls.map nI) (ndD ls)
  | [] => .nil
  | n :: r => .cons (.int _) (dp_nd r)
theorem ndD_len (ls : List Nat) : (ndD ls).length = ls.length := List.length_map ..
theorem ndD_nat (ls : List Nat) : (ndD ls).map natD = ls := by
  unfold ndD
  rw [List.map_map]
  exact List.map_id'' (fun n => by simp [natD]) ls
theorem ndD_ok (ls : List Nat) (n : Nat) : ∀ d ∈ ndD ls, okD (n + 1) d = true := fun d hd => by
  obtain ⟨k, _, rfl⟩ := List.mem_map.mp hd
  rfl
theorem nums_dp {K : PySem.W.Frag} {H : Hp} {a : Addr} {ls : List Nat} (h : H a = some (.lst (ls.map nI)) ∨ H a = some (.tup (ls.map nI))) (hl : ls.length ≤ 100000) (h40 : ∀ n ∈ ls, n ≤ 40) :
    ∃ d, Dp K H (.ref a) d ∧ okD 4 d = true ∧ (rowD d = true → (lensD d).length ≤ 100000 ∧ ∀ n ∈ lensD d, n ≤ 40) := by
  rcases h with h | h
  · refine ⟨.list (ndD ls), .lst (SqL.of h) (dp_nd ls), okD_mk (by rw [ndD_len]; exact hl) (ndD_ok ls 2), fun _ => ?_⟩
    show ((ndD ls).map natD).length ≤ 100000 ∧ ∀ n ∈ (ndD ls).map natD, n ≤ 40
    rw [ndD_nat]
    exact ⟨hl, h40⟩
  · refine ⟨.tuple (ndD ls), .tup (SqT.of h) (dp_nd ls), okD_mk (by rw [ndD_len]; exact hl) (ndD_ok ls 2), fun _ => ?_⟩
    show ((ndD ls).map natD).length ≤ 100000 ∧ ∀ n ∈ (ndD ls).map natD, n ≤ 40
    rw [ndD_nat]
    exact ⟨hl, h40⟩
theorem DpAll.set' {K : PySem.W.Frag} {H : Hp} {v : V} {d : PyData} (hv : Dp K H v d) : ∀ {vs : List V} {ds : List PyData} (k : Nat), DpAll K H vs ds → DpAll K H (vs.set k v) (ds.set k d)
  | _, _, _, .nil => .nil
  | _, _, 0, .cons _ t => .cons hv t
  | _, _, k + 1, .cons h t => .cons h (DpAll.set' hv k t)
theorem sIx_m1 (n : Nat) : HT.sIx n n (some ((n : Int) - 1)) = n - 1 := by
  cases n with
  | zero => rfl
  | succ n =>
    rw [show (((n + 1 : Nat) : Int) - 1) = ((n : Nat) : Int) by omega, HT.sIx_nat]
    omega
theorem cut_m1 (bs : List Nat) : cutV (bs.map nI) none (some (((bs.map nI).length : Nat) - 1 : Int)) = (bs.take (bs.length - 1)).map nI := by
  unfold cutV
  rw [sIx_m1, show HT.sIx (bs.map nI).length 0 none = 0 from rfl, List.drop_zero, Nat.sub_zero, List.length_map, List.map_take]
theorem cut_k (bs : List Nat) (x : Nat) : cutV (bs.map nI) none (some (x : Int)) = (bs.take x).map nI := by
  unfold cutV
  rw [HT.sIx_nat, show HT.sIx (bs.map nI).length 0 none = 0 from rfl, List.drop_zero, Nat.sub_zero, List.map_take, List.length_map]
  rcases Nat.le_total x bs.length with h | h
  · rw [Nat.min_eq_left h]
  · rw [Nat.min_eq_right h, List.take_of_length_le (by simp), List.take_of_length_le (by simpa using h)]
end KB
namespace KB
open PySem PySem.Spec PyProof.Rows L2
/-- a, b = .., two names -/
theorem pg_two {X : Cx} (K : PySem.W.Frag) {i j : Nat} {x y : Str} {px py pos : Pos} {kk : Nat} (hN : X.N.Nodup) (hi : X.N[i]? = some x) (hj : X.N[j]? = some y)
    (hx : Loc X.env.scope x := by first | exact Or.inl rfl | exact Or.inr rfl) (hy : Loc X.env.scope y := by first | exact Or.inl rfl | exact Or.inr rfl)
    (hfx : X.fn x = true ∨ X.env.scope.names.lookup x = some .local := by first | exact .inl rfl | exact .inr rfl | assumption) (hfy : X.fn y = true ∨ X.env.scope.names.lookup y = some .local := by first | exact .inl rfl | exact .inr rfl | assumption)
    (hc : X.calm = true := by rfl) (hK : X.K = K := by rfl) : PG X (.Tuple [.Name x px, .Name y py] kk pos) (gTup K 2 (gCons (gName i) (gCons (gName j) gNil))) := by
  subst hK
  exact pg_tup hc (pgs_cons (pg_name hN hi hx hfx) (pgs_cons (pg_name hN hj hy hfy) pgs_nil))
end KB
namespace KB
open PySem PySem.Spec PyProof.Rows L2
/-- o.m(e) of a built-in, within a comprehension -/
theorem pe_bmC {X : Cx} (K : PySem.W.Frag) {o e : Expr} {es : List Expr} {to : TE} {t : TA} {name : Str} {apos cpos : Pos} {T id : String} {r : V → List V → Hp → VK → Prop} (pa : PlainAttrs T) (slot : Slot T name id) (hty : typeOf (.builtin id) = pure (.type "method_descriptor")) (hm : MtR X id r) (ho : PE X o to) (ha : PA X (e :: es) t)
    (hbase : attributeBase o name X.env (eval o X.env) = eval o X.env := by rfl)
    (hfew : ((backTo cpos (starEach (e :: es) X.env)).all (fun x => !x.1) && (backToKw cpos (keywordEach [] X.env)).all (fun x => x.1.isSome)
      && decide ((e :: es).length + ([] : List Keyword).length + (if ([] : List Keyword).isEmpty then 0 else 1) < 30)) = true := by rfl)
    (hline : (apos.endLine == cpos.line) = true := by rfl) (hs : starEach (e :: es) X.env = (false, eval e X.env) :: starEach es X.env := by rfl) (hplain : (backTo cpos (starEach es X.env)).any (·.1) = false := by rfl)
    (hK : X.K = K := by rfl) : PE X (.Call (.Attribute o name apos) (e :: es) [] cpos) (tBM K T r to t) := by
  subst hK
  exact pe_bm pa slot hty hm ho ha hbase hfew hline hs hplain
end KB
namespace KB
open PySem PySem.Spec PyProof.Rows L2
theorem ixN_m1 {n : Nat} (h : 0 < n) : ixN n (-1) = some (n - 1) := by
  unfold ixN
  rw [if_neg (by decide), if_pos (by omega)]
  congr 1
  omega
theorem at_m1 {ls : List Nat} {l : Nat} (h : ls[ls.length - 1]? = some l) : atI (ls.map nI) (-1) = some (nI l) := by
  have hp : 0 < ls.length := by
    have := (List.getElem?_eq_some_iff.mp h).1
    omega
  unfold atI
  rw [List.length_map, ixN_m1 hp]
  show (ls.map nI)[ls.length - 1]? = _
  rw [List.getElem?_map, h]
  rfl
end KB

/-! enumerate of a list or a tuple, told once; codes of lengths -/
namespace KB
open PySem PySem.Spec PyProof.Rows L2
/-- a walk over the numbered items of a list or a tuple that stands -/
structure LikeEn (J : It) (S : Hp → Prop) (xs : List V) : Prop where
  mono : ∀ H H', Same H H' → S H → S H'
  go : ∀ i H, S H → i < xs.length → J.go i H
  yld : ∀ i H v H', S H → J.yld i H v H' → ∃ T x, v = .ref T ∧ H T = none ∧ H' = upd H T (.tup [.int (i : Nat), x]) ∧ xs[i]? = some x
  stop : ∀ H, S H → J.stop xs.length H
theorem likeEnL (K : PySem.W.Frag) (a : Addr) (xs : List V) : LikeEn (Ite K a) (fun H => SqL K H a xs) xs :=
  ⟨fun _ _ s q => s.seq q, fun i _ q h => ⟨xs, xs[i], q, by simp [h]⟩, fun _ _ _ _ q y => by
    obtain ⟨T, x, e, h1, h2, h3⟩ := y
    exact ⟨T, x, e, h1, h2, h3 xs q⟩, fun _ q => ⟨xs, q, Nat.le_refl _⟩⟩
theorem likeEnT (K : PySem.W.Frag) (a : Addr) (xs : List V) : LikeEn (Itet K a) (fun H => SqT K H a xs) xs :=
  ⟨fun _ _ s q => sameT s q, fun i _ q h => ⟨xs, xs[i], q, by simp [h]⟩, fun _ _ _ _ q y => by
    obtain ⟨T, x, e, h1, h2, h3⟩ := y
    exact ⟨T, x, e, h1, h2, h3 xs q⟩, fun _ q => ⟨xs, q, rfl⟩⟩
def iEnumJ (K : PySem.W.Frag) (ta : TA) : TI := fun σ H R => ta σ H fun vs H1 => ∃ a xs, vs = [.ref a] ∧ (SqL K H1 a xs ∨ SqT K H1 a xs) ∧ ∀ J S, LikeEn J S xs → S H1 → R J H1
theorem pi_enumJ {X : Cx} {e : Expr} {ta : TA} {p pos tpos : Pos} {elts : List Expr} {kk : Nat} (hg : Gl X "enumerate") (hm : X.mg "enumerate" = none) (ha : PA X [e] ta) (hs : starEach [e] X.env = [(false, eval e X.env)] := by rfl) :
    PI X (.Tuple elts kk tpos) (.Call (.Name "enumerate" p) [e] [] pos) (iEnumJ X.K ta) := by
  refine ⟨fun pins s σ H R I h => ?_⟩
  refine Call_ (ld_blt I hg hm boot_enumerate (PyProof.Rows.callWith_type1 (thn (ha.run pos pins s σ H _ I h) fun us s1 ⟨vs, H1, I1, r1, q1⟩ => ?_) hs rfl))
  obtain ⟨a, xs, ex, hs', q⟩ := q1
  subst ex
  have fr : ∀ b, b ∈ [s1.heap.objs.size + 1, s1.heap.objs.size] → FpOk X pins H1 b := fun b hb => by
    have hle : s1.heap.objs.size ≤ b := by
      rcases (by simpa using hb : b = s1.heap.objs.size + 1 ∨ b = s1.heap.objs.size) with z | z
      · rw [z]; exact Nat.le_add_right _ _
      · rw [z]; exact Nat.le_refl _
    exact I1.fpOk hle (I1.hok.fresh hle)
  cases r1 with
  | cons r rr =>
    cases rr
    cases r
    rcases hs' with hq | hq
    · have q' := q _ _ (likeEnL X.K a xs) hq
      obtain ⟨its, rv, p', hz⟩ := I1.list hq
      refine call_enumerate_list p'.isList fun h' he hit hsz hk => wpAny_pyIter_enum he ?_
      have I2 : Inv X pins σ H1 { s1 with heap := h' } := I1.kept (t' := s1.toks) hk
      exact ⟨s1.heap.objs.size + 1, [s1.heap.objs.size + 1, s1.heap.objs.size], _, _, H1, rfl, I2, turn_enum a (s1.heap.objs.size + 1) s1.heap.objs.size, ⟨⟨.none, he⟩, hit, Nat.succ_ne_self _⟩, fr, q'⟩
    · have q' := q _ _ (likeEnT X.K a xs) hq
      obtain ⟨its, rv, p', hz⟩ := I1.tuple hq
      have al : a < s1.heap.objs.size := by obtain ⟨o, g, _⟩ := id p'; exact Heap.lt_size g
      refine call_enumT p' fun h' he hit hk => wpAny_pyIter_enum he ?_
      have I2 : Inv X pins σ H1 { s1 with heap := h' } := I1.kept (t' := s1.toks) hk
      exact ⟨s1.heap.objs.size + 1, [s1.heap.objs.size + 1, s1.heap.objs.size], _, _, H1, rfl, I2, turn_enumT a (s1.heap.objs.size + 1) s1.heap.objs.size, ⟨⟨.none, he⟩, hit, Nat.succ_ne_self _, al, Nat.lt_succ_of_lt al⟩, fr, q'⟩
theorem for_enumJ {J : It} {S : Hp → Prop} {xs : List V} (L : LikeEn J S xs) {g : TG} {tb : TS} {D : Ends} {σ : L2.St} {H : Hp} (Pv : Nat → L2.St → Hp → Prop) (h0 : Pv 0 σ H) (hl : ∀ i σ H, i ≤ xs.length → Pv i σ H → S H)
    (hs : ∀ i x σ H, xs[i]? = some x → Pv i σ H → ∀ T, H T = none → g (.ref T) σ (upd H T (.tup [.int (i : Nat), x])) fun σ2 H2 => tb { D with nx := Pv (i + 1), ct := Pv (i + 1), bk := D.nx } σ2 H2) (hd : ∀ σ H, Pv xs.length σ H → D.nx σ H) :
    ∃ W : Nat → Nat → L2.St → Hp → Prop, (∃ m, W 0 m σ H) ∧ ∀ i m σ H, W i m σ H →
      (J.stop i H ∧ D.nx σ H) ∨ (J.go i H ∧ ∃ N : L2.St → Hp → Prop, (∀ σ' H', N σ' H' → ∃ m', m' < m ∧ W (i + 1) m' σ' H') ∧ ∀ v H', J.yld i H v H' → g v σ H' fun σ2 H2 => tb { D with nx := N, ct := N, bk := D.nx } σ2 H2) := by
  refine ⟨fun i m σ H => m = xs.length - i ∧ i ≤ xs.length ∧ Pv i σ H, ⟨xs.length, by simp, Nat.zero_le _, h0⟩, ?_⟩
  rintro i m σ H ⟨rfl, hi, p⟩
  have q := hl i σ H hi p
  by_cases hlt : i < xs.length
  · refine .inr ⟨L.go i H q hlt, Pv (i + 1), fun σ' H' p' => ⟨xs.length - (i + 1), by omega, rfl, hlt, p'⟩, fun v H' y => ?_⟩
    obtain ⟨T, x, rfl, hT, rfl, hx⟩ := L.yld i H v H' q y
    exact hs i x σ H hx p T hT
  · have e : i = xs.length := by omega
    subst e
    exact .inl ⟨L.stop H q, hd σ H p⟩
theorem lc_enumJ {J : It} {S : Hp → Prop} {xs : List V} (L : LikeEn J S xs) {g : TG} {tt : TT} {te : TE} {vs : List Nat} {σ : L2.St} {H1 : Hp} {D : Addr} {Qd : Hp → Prop} (Pv : Nat → Hp → Prop) (h0 : Pv 0 (upd H1 D (.lst []))) (hl : ∀ i H, i ≤ xs.length → Pv i H → S H)
    (hs : ∀ i x H, xs[i]? = some x → Pv i H → ∀ T, H T = none → g (.ref T) (wipe σ vs) (upd H T (.tup [.int (i : Nat), x])) fun σ2 H2 => wipe σ2 vs = wipe σ vs ∧ tt σ2 H2 fun b H3 =>
      if b = true then te σ2 H3 fun y H4 => ∃ acc, H4 D = some (.lst acc) ∧ acc.length < sizeLine ∧ Pv (i + 1) (upd H4 D (.lst (acc ++ [y]))) else Pv (i + 1) H3) (hd : ∀ H, Pv xs.length H → Qd H) :
    ∃ W : Nat → Nat → Hp → Prop, (∃ m, W 0 m (upd H1 D (.lst []))) ∧ ∀ i m H, W i m H →
      (J.stop i H ∧ Qd H) ∨ (J.go i H ∧ ∃ Nx : Hp → Prop, (∀ H', Nx H' → ∃ m', m' < m ∧ W (i + 1) m' H') ∧ ∀ x H', J.yld i H x H' → g x (wipe σ vs) H' fun σ2 H2 => wipe σ2 vs = wipe σ vs ∧ tt σ2 H2 fun b H3 =>
        if b = true then te σ2 H3 fun y H4 => ∃ acc, H4 D = some (.lst acc) ∧ acc.length < sizeLine ∧ Nx (upd H4 D (.lst (acc ++ [y]))) else Nx H3) := by
  refine ⟨fun i m H => m = xs.length - i ∧ i ≤ xs.length ∧ Pv i H, ⟨xs.length, by simp, Nat.zero_le _, h0⟩, ?_⟩
  rintro i m H ⟨rfl, hi, p⟩
  have q := hl i H hi p
  by_cases hlt : i < xs.length
  · refine .inr ⟨L.go i H q hlt, Pv (i + 1), fun H' p' => ⟨xs.length - (i + 1), by omega, rfl, hlt, p'⟩, fun v H' y => ?_⟩
    obtain ⟨T, x, rfl, hT, rfl, hx⟩ := L.yld i H v H' q y
    exact hs i x H hx p T hT
  · have e : i = xs.length := by omega
    subst e
    exact .inl ⟨L.stop H q, hd H p⟩

/-! ### pairs in order -/
def kOf (H : Hp) : V → Int × Int
  | .ref t => match H t with
    | some (.tup [.int a, .int b]) => (a, b)
    | _ => (0, 0)
  | _ => (0, 0)
theorem kOf_at {H : Hp} {t : Addr} {a b : Int} (h : H t = some (.tup [.int a, .int b])) : kOf H (.ref t) = (a, b) := by
  show (match H t with | some (.tup [.int a, .int b]) => (a, b) | _ => (0, 0)) = _
  rw [h]
def prs (ls : List Nat) : List (Int × Int) := (List.range ls.length).map fun j => ((ls.getD j 0 : Nat), (j : Int))
theorem prs_len (ls : List Nat) : (prs ls).length = ls.length := by simp [prs]
theorem prs_get {ls : List Nat} {j l : Nat} (h : ls[j]? = some l) : (prs ls)[j]? = some ((l : Int), (j : Int)) := by
  have hj := (List.getElem?_eq_some_iff.mp h).1
  unfold prs
  rw [List.getElem?_map, List.getElem?_range hj]
  show some (((ls.getD j 0 : Nat) : Int), (j : Int)) = _
  rw [List.getD_eq_getElem?_getD, h]
  rfl
def IsOrd (ls : List Nat) (ks : List (Int × Int)) : Prop := ks.Perm (prs ls) ∧ ks.Pairwise (fun p q => SrtO.lexB q p = false)
theorem IsOrd.uniq {ls : List Nat} {ks ks' : List (Int × Int)} (h : IsOrd ls ks) (h' : IsOrd ls ks') : ks = ks' := pairs_one _ _ (h.1.trans h'.1.symm) h.2 h'.2
theorem IsOrd.mem {ls : List Nat} {ks : List (Int × Int)} (h : IsOrd ls ks) {p : Int × Int} (hp : p ∈ ks) : ∃ l k : Nat, p = ((l : Int), (k : Int)) ∧ ls[k]? = some l := by
  have := h.1.mem_iff.mp hp
  unfold prs at this
  obtain ⟨j, hj, rfl⟩ := List.mem_map.mp this
  have hj' := List.mem_range.mp hj
  refine ⟨_, j, rfl, ?_⟩
  rw [List.getD_eq_getElem?_getD, List.getElem?_eq_getElem hj']
  rfl
theorem IsOrd.len {ls : List Nat} {ks : List (Int × Int)} (h : IsOrd ls ks) : ks.length = ls.length := by rw [h.1.length_eq, prs_len]
theorem prs_fst (ls : List Nat) : (prs ls).map (fun p => p.1.toNat) = ls := by
  unfold prs
  rw [List.map_map]
  refine List.ext_getElem? fun j => ?_
  rw [List.getElem?_map]
  by_cases h : j < ls.length
  · rw [List.getElem?_range h, List.getElem?_eq_getElem h]
    show some ((((ls.getD j 0 : Nat) : Int)).toNat) = _
    rw [Int.toNat_natCast, List.getD_eq_getElem?_getD, List.getElem?_eq_getElem h]
    rfl
  · rw [List.getElem?_eq_none (by simpa using h), List.getElem?_eq_none (by omega)]
    rfl
theorem IsOrd.kr {ls : List Nat} {ks : List (Int × Int)} (h : IsOrd ls ks) : kr (ks.map fun p => p.1.toNat) = kr ls := by
  have := kr_perm (h.1.map fun p => p.1.toNat)
  rw [prs_fst] at this
  exact this
theorem IsOrd.fst {ls : List Nat} {ks : List (Int × Int)} (h : IsOrd ls ks) : (ks.map fun p => p.1.toNat).Pairwise (· ≤ ·) := by
  rw [List.pairwise_map]
  refine h.2.imp fun {p q} hpq => ?_
  have := SrtO.lexB_no.mp hpq
  omega
theorem ord_of {H : Hp} {xs ys : List V} {ls : List Nat} (hx : xs.map (kOf H) = prs ls) (h1 : SrtO.Srtd (ltP (kOf H)) ys) (h2 : ys.Perm xs) : IsOrd ls (ys.map (kOf H)) := by
  refine ⟨by rw [← hx]; exact h2.map _, ?_⟩
  rw [List.pairwise_map]
  exact h1

/-! ### the words of a code -/
def fillW : List (Int × Int) → Nat → List Str → List Str
  | [], _, ws => ws
  | p :: r, used, ws => fillW r (used + 2 ^ (40 - p.1.toNat)) (ws.set p.2.toNat (wordS p.1.toNat (used / 2 ^ (40 - p.1.toNat))))
def codeS (ks : List (Int × Int)) (n : Nat) : List Str := fillW ks 0 (List.replicate n "")
structure Cd (ks : List (Int × Int)) (n i used : Nat) (ws : List Str) : Prop where
  len : ws.length = n
  sum : used = kr ((ks.map fun p => p.1.toNat).take i)
  fil : fillW (ks.drop i) used ws = codeS ks n
theorem Cd.ini (ks : List (Int × Int)) (n : Nat) : Cd ks n 0 0 (List.replicate n "") := ⟨List.length_replicate, by simp [kr], rfl⟩
theorem Cd.nxt {ks : List (Int × Int)} {n i used : Nat} {ws : List Str} (C : Cd ks n i used ws) {l k : Nat} (h : ks[i]? = some ((l : Int), (k : Int))) : Cd ks n (i + 1) (used + 2 ^ (40 - l)) (ws.set k (wordS l (used / 2 ^ (40 - l)))) := by
  obtain ⟨hi, he⟩ := List.getElem?_eq_some_iff.mp h
  refine ⟨by rw [List.length_set]; exact C.len, ?_, ?_⟩
  · rw [kr_take (l := l) (by rw [List.getElem?_map, h]; rfl), C.sum]
  · have := C.fil
    rw [List.drop_eq_getElem_cons hi, he] at this
    exact this
theorem Cd.fin {ks : List (Int × Int)} {n used : Nat} {ws : List Str} (C : Cd ks n ks.length used ws) : ws = codeS ks n := by
  have := C.fil
  rw [List.drop_length] at this
  exact this
theorem Cd.room {ks : List (Int × Int)} {n i used : Nat} {ws : List Str} (C : Cd ks n i used ws) {l k : Nat} (h : ks[i]? = some ((l : Int), (k : Int))) (hk : kr (ks.map fun p => p.1.toNat) ≤ 2 ^ 40) : used + 2 ^ (40 - l) ≤ 2 ^ 40 := by
  have e := kr_take (ls := ks.map fun p => p.1.toNat) (i := i) (l := l) (by rw [List.getElem?_map, h]; rfl)
  have s := C.sum
  have : kr ((ks.map fun p => p.1.toNat).take (i + 1)) ≤ kr (ks.map fun p => p.1.toNat) := by
    have e2 := List.take_append_drop (i + 1) (ks.map fun p => p.1.toNat)
    have := kr_app ((ks.map fun p => p.1.toNat).take (i + 1)) ((ks.map fun p => p.1.toNat).drop (i + 1))
    rw [e2] at this
    omega
  omega
theorem val_step {used value before l : Nat} (e : used = value * 2 ^ (40 - before)) (hb : before ≤ l) (h40 : l ≤ 40) (hr : used + 2 ^ (40 - l) ≤ 2 ^ 40) :
    value * 2 ^ (l - before) = used / 2 ^ (40 - l) ∧ value * 2 ^ (l - before) < 2 ^ l ∧ used + 2 ^ (40 - l) = (value * 2 ^ (l - before) + 1) * 2 ^ (40 - l) := by
  have p : 0 < 2 ^ (40 - l) := Nat.pow_pos (by decide)
  have e2 : used = value * 2 ^ (l - before) * 2 ^ (40 - l) := by
    rw [e, Nat.mul_assoc, ← Nat.pow_add]
    congr 2
    omega
  have e3 : (2 : Nat) ^ 40 = 2 ^ l * 2 ^ (40 - l) := by
    rw [← Nat.pow_add]
    congr 1
    omega
  refine ⟨?_, ?_, ?_⟩
  · rw [e2, Nat.mul_div_cancel _ p]
  · rw [e3] at hr
    refine Nat.lt_of_mul_lt_mul_right (a := 2 ^ (40 - l)) ?_
    rw [← e2]
    omega
  · rw [Nat.add_mul, Nat.one_mul, ← e2]
end KB
namespace KB
open PySem PySem.Spec PyProof.Rows L2
theorem pairs_made {H : Hp} {ts : List V} {ls : List Nat} (hl : ts.length = ls.length) (h : ∀ (j : Nat) (y : V), ts[j]? = some y → ∃ (t : Addr) (l : Nat), y = .ref t ∧ ls[j]? = some l ∧ H t = some (.tup [.int (l : Int), .int (j : Int)])) :
    ts.map (kOf H) = prs ls ∧ ∀ x ∈ ts, ∃ t, x = .ref t ∧ H t = some (.tup [.int (kOf H x).1, .int (kOf H x).2]) := by
  constructor
  · refine List.ext_getElem? fun j => ?_
    rw [List.getElem?_map]
    by_cases hj : j < ts.length
    · have e := List.getElem?_eq_getElem hj
      obtain ⟨t, l, ey, hlj, ht⟩ := h j _ e
      rw [e, prs_get hlj, ey]
      exact congrArg some (kOf_at ht)
    · rw [List.getElem?_eq_none (by omega), List.getElem?_eq_none (by rw [prs_len]; omega)]
      rfl
  · intro x hx
    obtain ⟨j, hj, e⟩ := List.getElem_of_mem hx
    obtain ⟨t, l, ey, _, ht⟩ := h j x (by rw [List.getElem?_eq_getElem hj, e])
    exact ⟨t, ey, by rw [ey, kOf_at ht]; exact ht⟩
/-- a heap without one cell -/
def rem (H : Hp) (a : Addr) : Hp := fun b => if b = a then none else H b
theorem rem_self {H : Hp} {a : Addr} : rem H a a = none := by unfold rem; simp
theorem rem_at {H : Hp} {a b : Addr} {o : HO} (h : H b = some o) (ne : b ≠ a) : rem H a b = some o := by unfold rem; rw [if_neg ne]; exact h
theorem rem_same {H : Hp} {a : Addr} : Same (rem H a) H := fun b o e => by
  unfold rem at e
  split at e
  · cases e
  · exact e
theorem same_rem {B H : Hp} {a : Addr} (s : Same B H) (h : B a = none) : Same B (rem H a) := fun b o e => rem_at (s _ _ e) (ne_of_none e h)
theorem rep_flat (n : Nat) (v : V) : (List.replicate n [v]).flatten = List.replicate n v := by
  rw [show ([v] : List V) = List.replicate 1 v from rfl, List.flatten_replicate_replicate, Nat.mul_one]
end KB
namespace KB
open PySem PySem.Spec PyProof.Rows L2
theorem bitsL_take : ∀ (l v m : Nat), m ≤ l → (bitsL l v).take m = bitsL m (v / 2 ^ (l - m))
  | 0, v, m, h => by
    have : m = 0 := by omega
    subst this
    rfl
  | l + 1, v, m, h => by
    have hl := bitsL_len l (v / 2)
    by_cases e : m = l + 1
    · subst e
      rw [Nat.sub_self, Nat.pow_zero, Nat.div_one, List.take_of_length_le (by rw [bitsL_len]; omega)]
    · show (bitsL l (v / 2) ++ [48 + v % 2]).take m = _
      rw [List.take_append_of_le_length (by omega), bitsL_take l (v / 2) m (by omega), Nat.div_div_eq_div_mul, ← Nat.pow_succ', show (l - m).succ = l + 1 - m by omega]
theorem bitsL_inj : ∀ (l v w : Nat), v < 2 ^ l → w < 2 ^ l → bitsL l v = bitsL l w → v = w
  | 0, v, w, hv, hw, _ => by
    have a : v = 0 := by simpa using hv
    have b : w = 0 := by simpa using hw
    rw [a, b]
  | l + 1, v, w, hv, hw, h => by
    have h1 : bitsL l (v / 2) ++ [48 + v % 2] = bitsL l (w / 2) ++ [48 + w % 2] := h
    have h2 := List.append_inj h1 (by rw [bitsL_len, bitsL_len])
    have p : 2 ^ (l + 1) = 2 * 2 ^ l := Nat.pow_succ'
    have e1 := bitsL_inj l (v / 2) (w / 2) (by omega) (by omega) h2.1
    have e2 : 48 + v % 2 = 48 + w % 2 := by simpa using h2.2
    omega
theorem starts_word {l v m u : Nat} (hm : m ≤ l) (hv : v < 2 ^ l) (hu : u < 2 ^ m) : Txt.startswith (wordS l v) (wordS m u) = decide (v / 2 ^ (l - m) = u) := by
  have e : Txt.startswith (wordS l v) (wordS m u) = ((bitsL l v).take m == bitsL m u) := by
    unfold Txt.startswith
    rw [wordS_len, wordS_len, PySem.StrLaws.subAt_eq, wordS_len, List.drop_zero]
    rw [show decide (0 + m ≤ l) = true from decide_eq_true (by omega), Bool.true_and]
    rfl
  rw [e, bitsL_take l v m hm]
  by_cases h : v / 2 ^ (l - m) = u
  · rw [h]
    simp
  · rw [decide_eq_false h]
    have hlt : v / 2 ^ (l - m) < 2 ^ m := by
      rw [Nat.div_lt_iff_lt_mul (Nat.pow_pos (by decide)), ← Nat.pow_add, show m + (l - m) = l by omega]
      exact hv
    refine beq_eq_false_iff_ne.mpr fun z => h (bitsL_inj m _ _ hlt hu z)
/-- the words ahead -/
def tkS (ks : List (Int × Int)) (j : Nat) : Str := wordS ((ks.map fun p => p.1.toNat).getD j 0) (kr ((ks.map fun p => p.1.toNat).take j) / 2 ^ (40 - (ks.map fun p => p.1.toNat).getD j 0))
def ua (fs : List Nat) (j : Nat) : Nat := kr (fs.take j)
theorem ua_succ {fs : List Nat} {j l : Nat} (h : fs[j]? = some l) : ua fs (j + 1) = ua fs j + 2 ^ (40 - l) := kr_take h
theorem ua_dvd {fs : List Nat} (hs : fs.Pairwise (· ≤ ·)) {l i : Nat} (h : fs[i]? = some l) : ∀ j, j ≤ i → 2 ^ (40 - l) ∣ ua fs j
  | 0, _ => by simp [ua, kr]
  | j + 1, hj => by
    obtain ⟨hi, ei⟩ := List.getElem?_eq_some_iff.mp h
    have e := List.getElem?_eq_getElem (show j < fs.length by omega)
    rw [ua_succ e]
    refine Nat.dvd_add (ua_dvd hs h j (by omega)) (Nat.pow_dvd_pow 2 ?_)
    have : fs[j] ≤ l := by
      rw [← ei]
      exact List.pairwise_iff_getElem.mp hs j i (by omega) hi (by omega)
    omega
theorem ua_mono {fs : List Nat} : ∀ {i j : Nat}, i ≤ j → j ≤ fs.length → ua fs i ≤ ua fs j
  | i, 0, h, _ => by
    have : i = 0 := by omega
    subst this
    exact Nat.le_refl _
  | i, j + 1, h, hl => by
    by_cases e : i = j + 1
    · subst e; exact Nat.le_refl _
    · have := ua_mono (fs := fs) (i := i) (j := j) (by omega) (by omega)
      rw [ua_succ (List.getElem?_eq_getElem (show j < fs.length by omega))]
      exact Nat.le_trans this (Nat.le_add_right _ _)
/-- a value in l bits is begun by an earlier word exactly if it lies below what is used -/
theorem begun_iff {fs : List Nat} (hs : fs.Pairwise (· ≤ ·)) (h40 : ∀ n ∈ fs, n ≤ 40) (hk : kr fs ≤ 2 ^ 40) {i l v : Nat} (h : fs[i]? = some l) (hv : v < 2 ^ l) :
    ((List.range i).map fun j => Txt.startswith (wordS l v) (wordS (fs.getD j 0) (ua fs j / 2 ^ (40 - fs.getD j 0)))).any id = decide (v * 2 ^ (40 - l) < ua fs i) := by
  obtain ⟨hi, ei⟩ := List.getElem?_eq_some_iff.mp h
  have hl40 := h40 l (List.mem_of_getElem? h)
  have one : ∀ j, j < i → (Txt.startswith (wordS l v) (wordS (fs.getD j 0) (ua fs j / 2 ^ (40 - fs.getD j 0))) = decide (ua fs j ≤ v * 2 ^ (40 - l) ∧ v * 2 ^ (40 - l) < ua fs (j + 1))) := fun j hj => by
    have hjl : j < fs.length := by omega
    have e := List.getElem?_eq_getElem hjl
    obtain ⟨m, em⟩ : ∃ m, fs[j] = m := ⟨_, rfl⟩
    rw [em] at e
    have gd : fs.getD j 0 = m := by rw [List.getD_eq_getElem?_getD, e]; rfl
    rw [gd]
    have hml : m ≤ l := by
      rw [← em, ← ei]
      exact List.pairwise_iff_getElem.mp hs j i hjl hi hj
    obtain ⟨u, hu⟩ := ua_dvd hs e j (Nat.le_refl _)
    have p : 0 < 2 ^ (40 - m) := Nat.pow_pos (by decide)
    have hsu : ua fs (j + 1) = 2 ^ (40 - m) * (u + 1) := by rw [ua_succ e, hu, Nat.mul_add, Nat.mul_one]
    have hle : ua fs (j + 1) ≤ 2 ^ 40 := by
      have h1 := ua_mono (fs := fs) (i := j + 1) (j := fs.length) (by omega) (Nat.le_refl _)
      have : ua fs fs.length = kr fs := by unfold ua; rw [List.take_length]
      omega
    have e40 : (2 : Nat) ^ 40 = 2 ^ (40 - m) * 2 ^ m := by
      rw [← Nat.pow_add]
      congr 1
      omega
    have hu2 : u < 2 ^ m := by
      rw [hsu, e40] at hle
      have := Nat.le_of_mul_le_mul_left hle p
      omega
    have ep : 2 ^ (40 - m) = 2 ^ (40 - l) * 2 ^ (l - m) := by
      rw [← Nat.pow_add]
      congr 1
      omega
    have pl : 0 < 2 ^ (40 - l) := Nat.pow_pos (by decide)
    have plm : 0 < 2 ^ (l - m) := Nat.pow_pos (by decide)
    rw [hu, Nat.mul_div_cancel_left _ p, starts_word hml hv hu2, hsu]
    refine decide_eq_decide.mpr ?_
    rw [ep, Nat.mul_assoc, Nat.mul_assoc, Nat.mul_comm v]
    constructor
    · intro z
      have := (Nat.div_eq_iff plm).mp z
      refine ⟨Nat.mul_le_mul_left _ ?_, Nat.mul_lt_mul_of_pos_left ?_ pl⟩
      · rw [Nat.mul_comm]; omega
      · rw [Nat.mul_comm, Nat.add_mul]; omega
    · rintro ⟨z1, z2⟩
      have z1' := Nat.le_of_mul_le_mul_left z1 pl
      have z2' := Nat.lt_of_mul_lt_mul_left z2
      refine (Nat.div_eq_iff plm).mpr ?_
      rw [Nat.mul_comm] at z1'
      rw [Nat.mul_comm, Nat.add_mul] at z2'
      omega
  rw [List.any_map]
  by_cases hlt : v * 2 ^ (40 - l) < ua fs i
  · rw [decide_eq_true hlt]
    have ex : ∀ n, n ≤ i → v * 2 ^ (40 - l) < ua fs n → ∃ j, j < n ∧ ua fs j ≤ v * 2 ^ (40 - l) ∧ v * 2 ^ (40 - l) < ua fs (j + 1) := by
      intro n
      induction n with
      | zero => intro _ z; simp [ua, kr] at z
      | succ n ih =>
        intro hn z
        by_cases y : v * 2 ^ (40 - l) < ua fs n
        · obtain ⟨j, h1, h2⟩ := ih (by omega) y
          exact ⟨j, by omega, h2⟩
        · exact ⟨n, Nat.lt_succ_self _, by omega, z⟩
    obtain ⟨j, hj, h2⟩ := ex i (Nat.le_refl _) hlt
    refine List.any_eq_true.mpr ⟨j, List.mem_range.mpr hj, ?_⟩
    show Txt.startswith _ _ = true
    rw [one j hj]
    exact decide_eq_true h2
  · rw [decide_eq_false hlt]
    refine List.any_eq_false.mpr fun j hj => ?_
    have hj' := List.mem_range.mp hj
    show ¬ Txt.startswith _ _ = true
    rw [one j hj']
    intro z
    have := of_decide_eq_true z
    have := ua_mono (fs := fs) (i := j + 1) (j := i) (by omega) (by omega)
    omega
end KB
namespace KB
open PySem PySem.Spec PyProof.Rows L2
theorem fillW_len : ∀ (ks : List (Int × Int)) (u : Nat) (ws : List Str), (fillW ks u ws).length = ws.length
  | [], _, _ => rfl
  | p :: r, u, ws => by
    show (fillW r _ _).length = _
    rw [fillW_len r, List.length_set]
theorem codeS_len (ks : List (Int × Int)) (n : Nat) : (codeS ks n).length = n := by
  unfold codeS
  rw [fillW_len, List.length_replicate]
end KB

namespace KB
open PySem PySem.Spec PyProof.Rows L2
/-! ### the box: the tape of the later stages; B is all that stands beside it -/
structure Bx (B H : Hp) (t : Addr) (c : Nat) : Prop where
  same : Same B H
  bt : B t = none
  ex : ∃ (g : Addr) (gs : List Int) (j : Nat) (w sd ct : Int), B g = none ∧ t ≠ g ∧ H t = some (.lst [.ref g, .int j, .int w, .int sd, .int ct]) ∧ H g = some (.lst (gs.map V.int)) ∧
    gs.length ≤ 63 ∧ j ≤ 63 ∧ 0 ≤ sd ∧ sd < 2147483647 ∧ 0 ≤ ct ∧ ct ≤ (c : Int)
theorem Bx.le {B H : Hp} {t : Addr} {c d : Nat} (T : Bx B H t c) (h : c ≤ d) : Bx B H t d := by
  obtain ⟨s, b, g, gs, j, w, sd, ct, h1, h2, h3, h4, h5, h5', h6, h7, h8, h9⟩ := T
  exact ⟨s, b, g, gs, j, w, sd, ct, h1, h2, h3, h4, h5, h5', h6, h7, h8, by omega⟩
theorem Bx.new {B H : Hp} {t p : Addr} {c : Nat} {o : HO} (T : Bx B H t c) (h : H p = none) : Bx (upd B p o) (upd H p o) t c := by
  obtain ⟨s, b, g, gs, j, w, sd, ct, h1, h2, h3, h4, h5⟩ := T
  have e1 : t ≠ p := ne_of_none h3 h
  have e2 : g ≠ p := ne_of_none h4 h
  exact ⟨same_set s, by rw [upd_ne e1]; exact b, g, gs, j, w, sd, ct, by rw [upd_ne e2]; exact h1, h2, by rw [upd_ne e1]; exact h3, by rw [upd_ne e2]; exact h4, h5⟩
theorem Bx.set {B H : Hp} {t p : Addr} {c : Nat} {o o' : HO} (T : Bx B H t c) (h : B p = some o) : Bx (upd B p o') (upd H p o') t c := by
  obtain ⟨s, b, g, gs, j, w, sd, ct, h1, h2, h3, h4, h5⟩ := T
  have e1 : t ≠ p := fun z => by rw [z, h] at b; cases b
  have e2 : g ≠ p := fun z => by rw [z, h] at h1; cases h1
  exact ⟨same_set s, by rw [upd_ne e1]; exact b, g, gs, j, w, sd, ct, by rw [upd_ne e2]; exact h1, h2, by rw [upd_ne e1]; exact h3, by rw [upd_ne e2]; exact h4, h5⟩
theorem Bx.free {B H : Hp} {t p : Addr} {c : Nat} (T : Bx B H t c) (h : H p = none) : B p = none := T.same.free h
theorem Bx.isn {B H : Hp} {t p : Addr} {c : Nat} (T : Bx B H t c) (h : H p = none) : B p = none := T.same.free h
theorem Bx.at {B H : Hp} {t p : Addr} {c : Nat} {o : HO} (T : Bx B H t c) (h : B p = some o) : H p = some o := T.same _ _ h
theorem Bx.inst {B H : Hp} {t x dx C : Addr} {c : Nat} {fs : List (Str × V)} (T : Bx B H t c) (hx : H x = none) (hd : H dx = none) (ne : dx ≠ x) : Bx (upd (upd B dx (.own x)) x (.ins C dx fs)) (upd (upd H dx (.own x)) x (.ins C dx fs)) t c :=
  (T.new hd).new (by rw [upd_ne ne.symm]; exact hx)
theorem Bx.ext {B H H' : Hp} {t : Addr} {c : Nat} (T : Bx B H t c) (s : Same H H') : Bx B H' t c := by
  obtain ⟨sm, b, g, gs, j, w, sd, ct, h1, h2, h3, h4, h5⟩ := T
  exact ⟨sm.trans s, b, g, gs, j, w, sd, ct, h1, h2, s _ _ h3, s _ _ h4, h5⟩
theorem Bx.ext1 {B H H' : Hp} {t p : Addr} {c : Nat} {o : HO} (T : Bx B H t c) (s : Same H H') (hp : H p = none) (ho : H' p = some o) : Bx (upd B p o) H' t c := by
  obtain ⟨sm, b, g, gs, j, w, sd, ct, h1, h2, h3, h4, h5⟩ := T
  have e1 : t ≠ p := ne_of_none h3 hp
  have e2 : g ≠ p := ne_of_none h4 hp
  refine ⟨fun b x e => ?_, by rw [upd_ne e1]; exact b, g, gs, j, w, sd, ct, by rw [upd_ne e2]; exact h1, h2, s _ _ h3, s _ _ h4, h5⟩
  by_cases hb : b = p
  · subst hb
    rw [upd_same] at e
    rw [ho]
    exact e
  · rw [upd_ne hb] at e
    exact s _ _ (sm _ _ e)
/-- the base shrinks to what a heap below it holds -/
theorem Bx.low {A B H : Hp} {t : Addr} {c : Nat} (T : Bx B H t c) (s : Same A B) : Bx A H t c := by
  obtain ⟨sm, b, g, gs, j, w, sd, ct, h1, h5⟩ := T
  exact ⟨s.trans sm, s.free b, g, gs, j, w, sd, ct, s.free h1, h5⟩
/-- what a def leaves that only adds cells: the base takes them up -/
theorem Bx.up {B B' H H' : Hp} {t : Addr} {c : Nat} (T : Bx B H t c) (s : Same H H') (sb : Same B B') (s' : Same B' H') (h : ∀ a, B' a ≠ none → B a = none → H a = none) : Bx B' H' t c := by
  obtain ⟨sm, b, g, gs, j, w, sd, ct, h1, h2, h3, h4, h5⟩ := T
  refine ⟨s', ?_, g, gs, j, w, sd, ct, ?_, h2, s _ _ h3, s _ _ h4, h5⟩
  · exact Classical.byContradiction fun z => by have := h t z b; rw [h3] at this; cases this
  · exact Classical.byContradiction fun z => by have := h g z h1; rw [h4] at this; cases this

/-! ### math.comb -/
section
variable {X : Cx}
def rComb : List V → Hp → VK → Prop := fun vs H Q => ∃ a b : Nat, vs = [.int a, .int b] ∧ a ≤ 18000 ∧ Q (.int (PySem.W.mcComb a b)) H
theorem cr_comb : CallR X (.builtin "math.comb") rComb := by
  intro pins s σ H vs us Q I r h
  obtain ⟨a, b, rfl, ha, q⟩ := h
  obtain ⟨t, u, rfl⟩ := Vals.int2 r
  exact PySem.W.mc_comb (by omega) (by omega) (by omega) (.inr (by omega)) fun _ => ⟨.int _, H, I.tok _, ⟨_, rfl⟩, q⟩
end
end KB

namespace KZ
open PySem
open PySem.Sem (wp)
/-! ### zip's next while the tuple that it gave out is still held, over iterators of any kind -/
section
variable {prog : Program} {w : World} {A : Around} {E : Value → Shared → Prop} {s : Shared} {z TI TO T i1 i2 : Addr} {f : Bool} {oT : Obj} {fp1 fp2 : List Addr} {n1 n2 i : Nat} {P1 P2 : Nat → Value → Prop} {St1 St2 : Nat → Heap → Prop}
theorem next_item_held {Q : Value → Shared → Prop} (S : ZipSep2 z TI TO i1 i2 fp1 fp2) (D1 : Draws prog w A i1 fp1 n1 P1 St1) (D2 : Draws prog w A i2 fp2 n2 P2 St2)
    (hz : IsZipHeld s.heap z TI TO T f) (hT : s.heap.get? T = some oT) (hTI : IsTupOf2 s.heap TI (.ref i1) (.ref i2)) (st1 : St1 i s.heap) (st2 : St2 i s.heap) (hlt1 : i < n1) (hlt2 : i < n2)
    (hQ : ∀ x1 x2 h' tk, P1 i x1 → P2 i x2 → IsZipHeld h' z TI TO T true → St1 (i + 1) h' → St2 (i + 1) h' → IsTupOf2 h' s.heap.objs.size x1 x2 → h'.objs.size = s.heap.objs.size + 1 →
      (∀ c o, c ≠ z → c ≠ i1 → c ≠ i2 → s.heap.get? c = some o → h'.get? c = some o) → Q (.ref s.heap.objs.size) { s with heap := h', toks := tk }) :
    wpAny (model prog w) A (Builtin.«zip.__next__» ⟨[.ref z], []⟩) (fun fin s' => ∃ v, fin = .done (.ret v) ∧ Q v s') E s := by
  obtain ⟨hp, g, d, tk0, os⟩ := s
  show wpAny _ _ (field (.ref z) 2 >>= _) _ _ _
  refine wpAny_bind (wpAny_field hz rfl (x := .bool false) rfl ?_)
  show wpAny _ _ (field (.ref z) 3 >>= _) _ _ _
  refine wpAny_bind (wpAny_field hz rfl (x := .ref TI) rfl ?_)
  refine wpAny_bind (wpAny_seqItems hTI rfl ?_)
  show wpAny _ _ (Builtin.SmallTypes.ownedTupleIsFree (.ref z) >>= _) _ _ _
  refine wpAny_bind (wpAny_tupleHeld_zip hz hT fun h₁ hz₁ hs₁ => ?_)
  replace hs₁ : Heap.SameBut z hp h₁ := hs₁
  simp only [Bool.false_eq_true, if_false]
  refine wpAny_bind ?_
  rw [← Array.forIn_toList]
  simp only [List.forIn_cons, List.forIn_nil]
  refine wpAny_bind (wpAny_bind (wpAny_holding ?_))
  show wpAny _ _ (Builtin.SmallTypes.nextOf (.ref i1) >>= _) _ _ ⟨h₁, g, d, tk0, os⟩
  refine wpAny_bind (D1.item i _ _ _ hlt1 (D1.over st1 hs₁ S.zf1) fun x1 p1 tk1 hx1 sn1 hp1 => wpAny_pure ?_)
  replace hp1 : Heap.SameBut i1 h₁ p1 := hp1
  refine wpAny_pure ?_
  refine wpAny_bind (wpAny_bind (wpAny_holding ?_))
  show wpAny _ _ (Builtin.SmallTypes.nextOf (.ref i2) >>= _) _ _ ⟨p1, g, d, tk1, os⟩
  refine wpAny_bind (D2.item i _ _ _ hlt2 (D2.over (D2.over st2 hs₁ S.zf2) hp1 S.sep1_2) fun x2 p2 tk2 hx2 sn2 hp2 => wpAny_pure ?_)
  replace hp2 : Heap.SameBut i2 p1 p2 := hp2
  refine wpAny_pure (wpAny_pure ?_)
  show wpAny _ _ (newTuple [x1, x2] >>= _) _ _ ⟨p2, g, d, tk2, os⟩
  refine wpAny_bind (wpAny_newTuple ?_)
  have hsz : p2.objs.size = hp.objs.size := by rw [hp2.1, hp1.1, hs₁.1]
  have hz₃ : IsZipHeld p2 z TI TO T true := hp2.extBut _ _ S.zi2 (hp1.extBut _ _ S.zi1 hz₁)
  have hk : ∀ c o, c ≠ z → c ≠ i1 → c ≠ i2 → hp.get? c = some o → p2.get? c = some o := fun c o c1 c2 c3 e => hp2.extBut _ _ c3 (hp1.extBut _ _ c2 (hs₁.extBut _ _ c1 e))
  have hj1 : St1 (i + 1) p2 := D1.over sn1 hp2 S.sep2_1
  refine wpAny_pure ⟨_, rfl, ?_⟩
  show Q (.ref p2.objs.size) ⟨p2.push { cls := .type "tuple", data := .seq #[x1, x2] }, g, d, tk2, os⟩
  have hpp : IsTupOf2 (p2.push { cls := .type "tuple", data := .seq #[x1, x2] }) p2.objs.size x1 x2 := Heap.get?_push_size _ rfl
  have hz4 : (p2.push { cls := .type "tuple", data := .seq #[x1, x2] }).objs.size = p2.objs.size + 1 := Heap.size_push ..
  rw [hsz] at hpp hz4 ⊢
  exact hQ x1 x2 _ tk2 hx1 hx2 (Heap.get?_push_of_some _ hz₃) (D1.frame _ _ _ hj1 fun b _ o e => Heap.get?_push_of_some _ e) (D2.frame _ _ _ sn2 fun b _ o e => Heap.get?_push_of_some _ e) hpp hz4 fun c o c1 c2 c3 e => Heap.get?_push_of_some _ (hk c o c1 c2 c3 e)
theorem next_end_held {Q : Fin → Shared → Prop} (S : ZipSep2 z TI TO i1 i2 fp1 fp2) (D1 : Draws prog w A i1 fp1 n1 P1 St1) (D2 : Draws prog w A i2 fp2 n2 P2 St2)
    (hz : IsZipHeld s.heap z TI TO T f) (hT : s.heap.get? T = some oT) (hTI : IsTupOf2 s.heap TI (.ref i1) (.ref i2)) (st1 : St1 i s.heap) (st2 : St2 i s.heap) (hle1 : i ≤ n1) (hle2 : i ≤ n2) (hend : i = n1 ∨ i = n2)
    (hE : ∀ h' tk e, (∀ c o, c ≠ z → c ≠ i1 → c ≠ i2 → s.heap.get? c = some o → h'.get? c = some o) → (∃ o, h'.get? e = some o ∧ o.cls = .type "StopIteration") → E (.ref e) { s with heap := h', toks := tk }) :
    wpAny (model prog w) A (Builtin.«zip.__next__» ⟨[.ref z], []⟩) Q E s := by
  obtain ⟨hp, g, d, tk0, os⟩ := s
  show wpAny _ _ (field (.ref z) 2 >>= _) _ _ _
  refine wpAny_bind (wpAny_field hz rfl (x := .bool false) rfl ?_)
  show wpAny _ _ (field (.ref z) 3 >>= _) _ _ _
  refine wpAny_bind (wpAny_field hz rfl (x := .ref TI) rfl ?_)
  refine wpAny_bind (wpAny_seqItems hTI rfl ?_)
  show wpAny _ _ (Builtin.SmallTypes.ownedTupleIsFree (.ref z) >>= _) _ _ _
  refine wpAny_bind (wpAny_tupleHeld_zip hz hT fun h₁ hz₁ hs₁ => ?_)
  replace hs₁ : Heap.SameBut z hp h₁ := hs₁
  simp only [Bool.false_eq_true, if_false]
  refine wpAny_bind ?_
  rw [← Array.forIn_toList]
  simp only [List.forIn_cons, List.forIn_nil]
  refine wpAny_bind (wpAny_bind (wpAny_holding ?_))
  show wpAny _ _ (Builtin.SmallTypes.nextOf (.ref i1) >>= _) _ _ ⟨h₁, g, d, tk0, os⟩
  by_cases hlt1 : i < n1
  · refine wpAny_bind (D1.item i _ _ _ hlt1 (D1.over st1 hs₁ S.zf1) fun x1 p1 tk1 hx1 sn1 hp1 => wpAny_pure ?_)
    replace hp1 : Heap.SameBut i1 h₁ p1 := hp1
    have hi2 : i = n2 := by omega
    refine wpAny_pure ?_
    refine wpAny_bind (wpAny_bind (wpAny_holding ?_))
    show wpAny _ _ (Builtin.SmallTypes.nextOf (.ref i2) >>= _) _ _ ⟨p1, g, d, tk1, os⟩
    refine wpAny_bind (D2.done ⟨p1, g, d, tk1, os⟩ _ _ (by rw [← hi2]; exact (D2.over (D2.over st2 hs₁ S.zf2) hp1 S.sep1_2)) fun q e hq he => ?_)
    exact hE q tk1 e (fun c o c1 c2 c3 x => hq _ _ c3 (hp1.extBut _ _ c2 (hs₁.extBut _ _ c1 x))) he
  · have hi1 : i = n1 := by omega
    refine wpAny_bind (D1.done ⟨h₁, g, d, tk0, os⟩ _ _ (by rw [← hi1]; exact (D1.over st1 hs₁ S.zf1)) fun q e hq he => ?_)
    exact hE q tk0 e (fun c o c1 c2 _ x => hq _ _ c2 (hs₁.extBut _ _ c1 x)) he
theorem pyNext_item_held {Q : Option Value → Shared → Prop} (S : ZipSep2 z TI TO i1 i2 fp1 fp2) (D1 : Draws prog w A.in1 i1 fp1 n1 P1 St1) (D2 : Draws prog w A.in1 i2 fp2 n2 P2 St2)
    (hz : IsZipHeld s.heap z TI TO T f) (hT : s.heap.get? T = some oT) (hTI : IsTupOf2 s.heap TI (.ref i1) (.ref i2)) (st1 : St1 i s.heap) (st2 : St2 i s.heap) (hlt1 : i < n1) (hlt2 : i < n2)
    (hQ : ∀ x1 x2 h' tk, P1 i x1 → P2 i x2 → IsZipHeld h' z TI TO T true → St1 (i + 1) h' → St2 (i + 1) h' → IsTupOf2 h' s.heap.objs.size x1 x2 → h'.objs.size = s.heap.objs.size + 1 →
      (∀ c o, c ≠ z → c ≠ i1 → c ≠ i2 → s.heap.get? c = some o → h'.get? c = some o) → Q (some (.ref s.heap.objs.size)) { s with heap := h', toks := tk }) :
    wpAny (model prog w) A (pyNext (.ref z)) Q E s := by
  have hTy : s.TypeIs (.ref z) "zip" := ⟨_, hz, rfl⟩
  unfold pyNext
  exact wpAny_bind (wpAny_attempt (wpAny_callSpecial?_slot (name := Str.ofString "__next__") hTy F.slot_zip_next
    (wpAny_call_entry F.slot_zip_next hTy F.entry_zip_next
      (next_item_held S D1 D2 hz hT hTI st1 st2 hlt1 hlt2 fun x1 x2 h' tk a1 a2 a3 a4 a5 a6 a7 a8 => wpAny_pure (hQ x1 x2 h' tk a1 a2 a3 a4 a5 a6 a7 a8)) (F.args_zip_next_1 _))))
theorem pyNext_end_held {Q : Option Value → Shared → Prop} (S : ZipSep2 z TI TO i1 i2 fp1 fp2) (D1 : Draws prog w A.in1 i1 fp1 n1 P1 St1) (D2 : Draws prog w A.in1 i2 fp2 n2 P2 St2)
    (hz : IsZipHeld s.heap z TI TO T f) (hT : s.heap.get? T = some oT) (hTI : IsTupOf2 s.heap TI (.ref i1) (.ref i2)) (st1 : St1 i s.heap) (st2 : St2 i s.heap) (hle1 : i ≤ n1) (hle2 : i ≤ n2) (hend : i = n1 ∨ i = n2)
    (hQ : ∀ h' tk, (∀ c o, c ≠ z → c ≠ i1 → c ≠ i2 → s.heap.get? c = some o → h'.get? c = some o) → Q none { s with heap := h', toks := tk }) : wpAny (model prog w) A (pyNext (.ref z)) Q E s := by
  have hTy : s.TypeIs (.ref z) "zip" := ⟨_, hz, rfl⟩
  unfold pyNext
  refine wpAny_bind (wpAny_attempt (wpAny_callSpecial?_slot (name := Str.ofString "__next__") hTy F.slot_zip_next
    (wpAny_call_entry F.slot_zip_next hTy F.entry_zip_next (next_end_held S D1 D2 hz hT hTI st1 st2 hle1 hle2 hend fun h' tk e hk he => ?_) (F.args_zip_next_1 _))))
  obtain ⟨o, ho, hc⟩ := he
  refine wpAny_bind (wpAny_isInstance (T := "StopIteration") (b := true) ⟨o, ho, hc⟩ isSubtype_stop ?_)
  exact wpAny_pure (hQ _ _ hk)
end

/-! ### list(zip(..)): the loop that fills the list -/
/-- the tuples that were made: new, apart, of the items in their order -/
structure Made (as bs : Array Value) (base : Nat) (h : Heap) (Ts : List Addr) : Prop where
  nodup : Ts.Nodup
  new : ∀ T ∈ Ts, base ≤ T ∧ T < h.objs.size
  at_ : ∀ (j : Nat) (T : Addr), Ts[j]? = some T → ∃ x y, as[j]? = some x ∧ bs[j]? = some y ∧ IsTupOf2 h T x y
theorem Made.nil {as bs : Array Value} {base : Nat} {h : Heap} : Made as bs base h [] := ⟨List.nodup_nil, (fun T hT => by cases hT), (fun j T hj => by cases hj)⟩
theorem Made.over {as bs : Array Value} {base : Nat} {h h' : Heap} {Ts : List Addr} (M : Made as bs base h Ts) (hs : h.objs.size ≤ h'.objs.size) (k : ∀ b o, base ≤ b → h.get? b = some o → h'.get? b = some o) : Made as bs base h' Ts :=
  ⟨M.nodup, fun T hT => ⟨(M.new T hT).1, Nat.lt_of_lt_of_le (M.new T hT).2 hs⟩, fun j T hj => let ⟨x, y, h1, h2, h3⟩ := M.at_ j T hj; ⟨x, y, h1, h2, k T _ (M.new T (List.mem_of_getElem? hj)).1 h3⟩⟩
theorem Made.push {as bs : Array Value} {base : Nat} {h h' : Heap} {Ts : List Addr} {x y : Value} (M : Made as bs base h Ts) (hb : base ≤ h.objs.size) (hx : as[Ts.length]? = some x) (hy : bs[Ts.length]? = some y) (hT : IsTupOf2 h' h.objs.size x y) (hs : h'.objs.size = h.objs.size + 1) (k : ∀ b o, base ≤ b → h.get? b = some o → h'.get? b = some o) : Made as bs base h' (Ts ++ [h.objs.size]) := by
  have M' := M.over (h' := h') (by omega) k
  refine ⟨List.nodup_append.mpr ⟨M.nodup, by simp, fun a ha b hb' e => ?_⟩, fun T hT' => ?_, fun j T hj => ?_⟩
  · rw [List.mem_singleton.mp hb'] at e
    have := (M.new a ha).2
    rw [e] at this
    exact absurd this (Nat.lt_irrefl _)
  · rcases List.mem_append.mp hT' with q | q
    · exact M'.new T q
    · rw [List.mem_singleton.mp q]
      exact ⟨hb, by rw [hs]; exact Nat.lt_succ_self _⟩
  · by_cases hl : j < Ts.length
    · rw [List.getElem?_append_left hl] at hj
      exact M'.at_ j T hj
    · rw [List.getElem?_append_right (by omega)] at hj
      have e : j - Ts.length = 0 := by
        cases e : j - Ts.length with
        | zero => rfl
        | succ m => rw [e] at hj; cases hj
      rw [e] at hj
      cases hj
      have ej : j = Ts.length := by omega
      rw [ej]
      exact ⟨x, y, hx, hy, hT⟩
/-- how zip stands when its next is to come -/
def Zst (z TI TO i1 i2 : Addr) (St1 St2 : Nat → Heap → Prop) (Ts : List Addr) (h : Heap) : Prop :=
  IsTupOf2 h TI (.ref i1) (.ref i2) ∧ St1 Ts.length h ∧ St2 Ts.length h ∧ ((IsZip h z TI TO .none ∧ ∃ a b, IsTupOf2 h TO a b) ∨ ∃ T f, T ∈ Ts ∧ IsZipHeld h z TI TO T f)
section
variable {prog : Program} {w : World} {A : Around} {z TI TO i1 i2 SS : Addr} {fp1 fp2 : List Addr} {as bs : Array Value} {St1 St2 : Nat → Heap → Prop} {base : Nat} {n : Nat}
theorem zst_over (S : ZipSep2 z TI TO i1 i2 fp1 fp2) (D1 : Draws prog w A i1 fp1 as.size (fun i v => as[i]? = some v) St1) (D2 : Draws prog w A i2 fp2 bs.size (fun i v => bs[i]? = some v) St2) {h h' : Heap} {Ts : List Addr} (st : Zst z TI TO i1 i2 St1 St2 Ts h) (n1 : SS ∉ fp1) (n2 : SS ∉ fp2) (nz : SS ≠ z) (nTI : SS ≠ TI) (nTO : SS ≠ TO)
    (k : ∀ b o, b ≠ SS → h.get? b = some o → h'.get? b = some o) : Zst z TI TO i1 i2 St1 St2 Ts h' := by
  obtain ⟨h1, h2, h3, h4⟩ := st
  refine ⟨k _ _ nTI.symm h1, D1.frame _ _ _ h2 fun b hb o e => k b o (fun q => n1 (q ▸ hb)) e, D2.frame _ _ _ h3 fun b hb o e => k b o (fun q => n2 (q ▸ hb)) e, ?_⟩
  rcases h4 with ⟨hz, a, b, hO⟩ | ⟨T, f, hT, hz⟩
  · exact .inl ⟨k _ _ nz.symm hz, a, b, k _ _ nTO.symm hO⟩
  · exact .inr ⟨T, f, hT, k _ _ nz.symm hz⟩
/-- the next tuple -/
theorem next_pair {E : Value → Shared → Prop} {Q : Option Value → Shared → Prop} {s : Shared} {Ts : List Addr} (S : ZipSep2 z TI TO i1 i2 fp1 fp2) (D1 : Draws prog w A.in1 i1 fp1 as.size (fun i v => as[i]? = some v) St1) (D2 : Draws prog w A.in1 i2 fp2 bs.size (fun i v => bs[i]? = some v) St2) (st : Zst z TI TO i1 i2 St1 St2 Ts s.heap) (M : Made as bs base s.heap Ts)
    (hb : base ≤ s.heap.objs.size) (bz : z < base) (bO : TO < base) (bI : TI < base) (b1 : i1 < base) (b2 : i2 < base) (l1 : Ts.length < as.size) (l2 : Ts.length < bs.size)
    (hQ : ∀ h' tk, Zst z TI TO i1 i2 St1 St2 (Ts ++ [s.heap.objs.size]) h' → Made as bs base h' (Ts ++ [s.heap.objs.size]) → s.heap.objs.size ≤ h'.objs.size → (∀ c o, c ≠ z → c ≠ TO → c ≠ i1 → c ≠ i2 → s.heap.get? c = some o → h'.get? c = some o) → Q (some (.ref s.heap.objs.size)) { s with heap := h', toks := tk }) :
    wpAny (model prog w) A (pyNext (.ref z)) Q E s := by
  obtain ⟨hTI, st1, st2, h4⟩ := st
  have far : ∀ {h' : Heap}, (∀ c o, c ≠ z → c ≠ TO → c ≠ i1 → c ≠ i2 → s.heap.get? c = some o → h'.get? c = some o) → ∀ b o, base ≤ b → s.heap.get? b = some o → h'.get? b = some o := fun k b o hb' e =>
    k b o (Nat.ne_of_gt (Nat.lt_of_lt_of_le bz hb')) (Nat.ne_of_gt (Nat.lt_of_lt_of_le bO hb')) (Nat.ne_of_gt (Nat.lt_of_lt_of_le b1 hb')) (Nat.ne_of_gt (Nat.lt_of_lt_of_le b2 hb')) e
  rcases h4 with ⟨hz, a, b, hO⟩ | ⟨T, f, hT, hz⟩
  · refine wpAny_pyNext_zipD2_item S D1 D2 hz hTI hO st1 st2 l1 l2 fun x1 x2 h' tk p1 p2 hz' _ st1' st2' hT' hs k => ?_
    exact hQ h' tk ⟨k _ _ S.TIz S.TITO S.TIi1 S.TIi2 hTI, by rw [List.length_append]; exact st1', by rw [List.length_append]; exact st2', .inr ⟨_, false, List.mem_append_right _ (List.mem_singleton.mpr rfl), hz'⟩⟩ (M.push hb p1 p2 hT' hs (far k)) (by omega) k
  · obtain ⟨j, hj⟩ := List.mem_iff_getElem?.mp hT
    obtain ⟨x0, y0, _, _, hTt⟩ := M.at_ j T hj
    refine pyNext_item_held S D1 D2 hz hTt hTI st1 st2 l1 l2 fun x1 x2 h' tk p1 p2 hz' st1' st2' hT' hs k => ?_
    have k' : ∀ c o, c ≠ z → c ≠ TO → c ≠ i1 → c ≠ i2 → s.heap.get? c = some o → h'.get? c = some o := fun c o c1 _ c3 c4 e => k c o c1 c3 c4 e
    exact hQ h' tk ⟨k _ _ S.TIz S.TIi1 S.TIi2 hTI, by rw [List.length_append]; exact st1', by rw [List.length_append]; exact st2', .inr ⟨T, true, List.mem_append_left _ hT, hz'⟩⟩ (M.push hb p1 p2 hT' hs (far k')) (by omega) k'
theorem next_none {E : Value → Shared → Prop} {Q : Option Value → Shared → Prop} {s : Shared} {Ts : List Addr} (S : ZipSep2 z TI TO i1 i2 fp1 fp2) (D1 : Draws prog w A.in1 i1 fp1 as.size (fun i v => as[i]? = some v) St1) (D2 : Draws prog w A.in1 i2 fp2 bs.size (fun i v => bs[i]? = some v) St2) (st : Zst z TI TO i1 i2 St1 St2 Ts s.heap) (M : Made as bs base s.heap Ts)
    (l1 : Ts.length ≤ as.size) (l2 : Ts.length ≤ bs.size) (he : Ts.length = as.size ∨ Ts.length = bs.size)
    (hQ : ∀ h' tk, (∀ c o, c ≠ z → c ≠ TO → c ≠ i1 → c ≠ i2 → s.heap.get? c = some o → h'.get? c = some o) → Q none { s with heap := h', toks := tk }) :
    wpAny (model prog w) A (pyNext (.ref z)) Q E s := by
  obtain ⟨hTI, st1, st2, h4⟩ := st
  rcases h4 with ⟨hz, a, b, hO⟩ | ⟨T, f, hT, hz⟩
  · exact wpAny_pyNext_zipD2_end S D1 D2 hz hTI hO st1 st2 l1 l2 he fun h' tk k => hQ h' tk k
  · obtain ⟨j, hj⟩ := List.mem_iff_getElem?.mp hT
    obtain ⟨x0, y0, _, _, hTt⟩ := M.at_ j T hj
    exact pyNext_end_held S D1 D2 hz hTt hTI st1 st2 l1 l2 he fun h' tk k => hQ h' tk fun c o c1 _ c3 c4 e => k c o c1 c3 c4 e
end
section
variable {prog : Program} {w : World} {A : Around} {R : Result → Shared → Prop} {z TI TO i1 i2 SS : Addr} {fp1 fp2 : List Addr} {as bs : Array Value} {St1 St2 : Nat → Heap → Prop} {base : Nat} {n : Nat}
theorem loop_zip (S : ZipSep2 z TI TO i1 i2 fp1 fp2) (D1 : Draws prog w A.in1.in1 i1 fp1 as.size (fun i v => as[i]? = some v) St1) (D2 : Draws prog w A.in1.in1 i2 fp2 bs.size (fun i v => bs[i]? = some v) St2)
    (hn1 : as.size = n) (hn2 : bs.size = n) (hn : n ≤ 1000000) (bz : z < base) (bO : TO < base) (bI : TI < base) (b1 : i1 < base) (b2 : i2 < base) (bS : SS < base) (s1 : SS ∉ fp1) (s2 : SS ∉ fp2) (nz : SS ≠ z) (nTI : SS ≠ TI) (nTO : SS ≠ TO) (ni1 : SS ≠ i1) (ni2 : SS ≠ i2) (res : Value) :
    ∀ (k : Nat) (s : Shared) (Ts : List Addr) (c : Nat), n - Ts.length = k → Ts.length ≤ n → base ≤ s.heap.objs.size → Zst z TI TO i1 i2 St1 St2 Ts s.heap → Made as bs base s.heap Ts → s.heap.get? SS = some { cls := .type "list", dict := none, data := .seq (Ts.map Value.ref).toArray c, slots := #[] } →
    (∀ h' tk Ts' c', (∀ c o, c ≠ z → c ≠ TO → c ≠ i1 → c ≠ i2 → c ≠ SS → s.heap.get? c = some o → h'.get? c = some o) → Made as bs base h' Ts' → Ts'.length = n → h'.get? SS = some { cls := .type "list", dict := none, data := .seq (Ts'.map Value.ref).toArray c', slots := #[] } → R (.ok (.ret res)) { s with heap := h', toks := tk }) →
    codeAny (model prog w) A (.builtin "list.extend.loop" ⟨[.ref SS, .ref z, res], []⟩) R s := by
  have line : (1000000 : Nat) < sizeLine := by rw [sizeLine_eq]; decide
  intro k
  induction k with
  | zero =>
    intro s Ts c hk hle hb st M hS hR
    have hlen : Ts.length = n := by omega
    refine codeAny_builtin F.entry_extend_loop ?_
    rw [Around.under_plainId F.plain_extend_loop _]
    show wpAny _ A.in1 (pyNext (.ref z) >>= _) _ _ s
    refine wpAny_bind (next_none S D1 D2 st M (by omega) (by omega) (.inl (by omega)) fun h' tk k => ?_)
    have kk : ∀ b o, base ≤ b → s.heap.get? b = some o → h'.get? b = some o := fun b o hb' e => k b o (Nat.ne_of_gt (Nat.lt_of_lt_of_le bz hb')) (Nat.ne_of_gt (Nat.lt_of_lt_of_le bO hb')) (Nat.ne_of_gt (Nat.lt_of_lt_of_le b1 hb')) (Nat.ne_of_gt (Nat.lt_of_lt_of_le b2 hb')) e
    have M' : Made as bs base h' Ts := by
      refine ⟨M.nodup, fun T hT => ⟨(M.new T hT).1, ?_⟩, fun j T hj => let ⟨x, y, h1, h2, h3⟩ := M.at_ j T hj; ⟨x, y, h1, h2, kk T _ (M.new T (List.mem_of_getElem? hj)).1 h3⟩⟩
      obtain ⟨j, hj⟩ := List.mem_iff_getElem?.mp hT
      obtain ⟨x, y, _, _, h3⟩ := M.at_ j T hj
      exact Heap.lt_size (kk T _ (M.new T hT).1 h3)
    exact wpAny_pure (hR h' tk Ts c (fun b o c1 c2 c3 c4 _ e => k b o c1 c2 c3 c4 e) M' hlen (k _ _ nz nTO ni1 ni2 hS))
  | succ k ih =>
    intro s Ts c hk hle hb st M hS hR
    refine codeAny_builtin F.entry_extend_loop ?_
    rw [Around.under_plainId F.plain_extend_loop _]
    show wpAny _ A.in1 (pyNext (.ref z) >>= _) _ _ s
    refine wpAny_bind (next_pair S D1 D2 st M hb bz bO bI b1 b2 (by omega) (by omega) fun h' tk st' M' hsz k' => ?_)
    have hS' := k' _ _ nz nTO ni1 ni2 hS
    show wpAny _ A.in1 (updateSeq SS (·.push (.ref s.heap.objs.size)) >>= _) _ _ _
    refine wpAny_bind ?_
    have hlen : (Ts.map Value.ref).toArray.size = Ts.length := by simp
    have oth : ∀ b o, b ≠ SS → h'.get? b = some o → (h'.update SS (Obj.mapSeq (·.push (.ref s.heap.objs.size)))).get? b = some o := fun b o hb' e => (Heap.get?_update_other _ _ (Ne.symm hb')).trans e
    have hS2 := Heap.get?_update_self (Obj.mapSeq (·.push (Value.ref s.heap.objs.size))) hS' rfl
    have hTm : ((Ts ++ [s.heap.objs.size]).map Value.ref).toArray = (Ts.map Value.ref).toArray.push (.ref s.heap.objs.size) := by simp
    refine wpAny_updateSeq hS' rfl (wpAny_pure ⟨plainId_quiet F.plain_extend_loop _, ih { s with heap := h'.update SS (Obj.mapSeq (·.push (.ref s.heap.objs.size))), toks := tk } (Ts ++ [s.heap.objs.size]) _ (by rw [List.length_append]; simp; omega) (by rw [List.length_append]; simp; omega) ?_ ?_ ?_ (by rw [hTm]; exact hS2) fun h'' tk'' Ts' c' k'' M'' hl'' hS'' => ?_⟩)
      (by rw [hlen]; omega) (by show ((Ts.map Value.ref).toArray.push (.ref s.heap.objs.size)).size ≤ sizeLine + 1; rw [Array.size_push, hlen]; omega)
    · show base ≤ (h'.update SS _).objs.size
      rw [Heap.size_update]
      omega
    · exact zst_over S D1 D2 st' s1 s2 nz nTI nTO oth
    · exact M'.over (by rw [Heap.size_update]; exact Nat.le_refl _) fun b o hb' e => oth b o (Nat.ne_of_gt (Nat.lt_of_lt_of_le bS hb')) e
    · exact hR h'' tk'' Ts' c' (fun b o c1 c2 c3 c4 c5 e => k'' b o c1 c2 c3 c4 c5 (oth b o c5 (k' b o c1 c2 c3 c4 e))) M'' hl'' hS''
end
theorem zip_no_len : typeLookup (.type "zip") "__len__" = pure none := am_miss_of_fast (by decide +kernel)
theorem zip_no_hint : typeLookup (.type "zip") "__length_hint__" = pure none := am_miss_of_fast (by decide +kernel)
section
variable {prog : Program} {w : World} {A : Around} {s : Shared} {R : Result → Shared → Prop} {z TI TO i1 i2 : Addr} {fp1 fp2 : List Addr} {as bs : Array Value} {St1 St2 : Nat → Heap → Prop} {n : Nat}
theorem extend_zip (S : ZipSep2 z TI TO i1 i2 fp1 fp2) (D1 : Draws prog w A.in1.in1 i1 fp1 as.size (fun i v => as[i]? = some v) St1) (D2 : Draws prog w A.in1.in1 i2 fp2 bs.size (fun i v => bs[i]? = some v) St2)
    (hn1 : as.size = n) (hn2 : bs.size = n) (hn : n ≤ 1000000) (SS : Addr) (bz : z < SS) (bO : TO < SS) (bI : TI < SS) (b1 : i1 < SS) (b2 : i2 < SS) (bS : SS < s.heap.objs.size) (s1 : SS ∉ fp1) (s2 : SS ∉ fp2) (res : Value) (c₀ : Nat)
    (hz : IsZip s.heap z TI TO .none) (hO : ∃ a b, IsTupOf2 s.heap TO a b) (hTI : IsTupOf2 s.heap TI (.ref i1) (.ref i2)) (st1 : St1 0 s.heap) (st2 : St2 0 s.heap)
    (hS : s.heap.get? SS = some { cls := .type "list", data := .seq #[] c₀ })
    (hR : ∀ h' tk Ts' c', (∀ c o, c ≠ z → c ≠ TO → c ≠ i1 → c ≠ i2 → c ≠ SS → s.heap.get? c = some o → h'.get? c = some o) → Made as bs (SS + 1) h' Ts' → Ts'.length = n → h'.get? SS = some { cls := .type "list", dict := none, data := .seq (Ts'.map Value.ref).toArray c', slots := #[] } → R (.ok (.ret res)) { s with heap := h', toks := tk }) :
    wpAny (model prog w) A.in1 (Builtin.List.listExtendWith (.ref SS) (.ref z) res)
      (fun fin s' => match fin with | .done f => R (.ok f) s' | .again c' => c'.quiet = true ∧ codeAny (model prog w) A c' R s') (fun e s' => R (.error e) s') s := by
  have hSz : SS ≠ z := Nat.ne_of_gt bz
  have hT : s.TypeIs (.ref z) "zip" := ⟨_, hz, rfl⟩
  unfold Builtin.List.listExtendWith
  refine wpAny_bind (wpAny_typeOf hT ?_)
  have h1 : Builtin.List.listSameRef (.ref SS) (.ref z) = false := by simp [Builtin.List.listSameRef, hSz]
  have h2 : (Value.type "zip" == Value.type "list") = false := by decide
  have h3 : (Value.type "zip" == Value.type "tuple") = false := by decide
  simp only [h1, h2, h3, Bool.or_false, Bool.false_eq_true, if_false]
  refine wpAny_bind (wpAny_pyIter_zip hz ?_)
  refine wpAny_bind (wpAny_holding ?_)
  unfold Builtin.List.listLengthHint
  refine wpAny_bind (wpAny_specialOf hT zip_no_len ?_)
  show wpAny _ A.in1 (specialOf (Value.ref z) (Str.ofString "__length_hint__") >>= _) _ _ _
  refine wpAny_bind (wpAny_specialOf hT zip_no_hint ?_)
  refine wpAny_pure ?_
  show wpAny _ A.in1 (rule "list.extend.makes-room" >>= fun _ => Builtin.List.listTouch (.ref SS) >>= fun _ =>
    again (.builtin "list.extend.loop" ⟨[.ref SS, .ref z, res], []⟩)) _ _ _
  refine wpAny_bind (wpAny_rule ?_)
  refine wpAny_bind ?_
  show wpAny _ A.in1 (updateSeq SS (·.push .none) >>= fun _ => updateSeq SS (·.pop)) _ _ _
  refine wpAny_bind (wpAny_updateSeq hS rfl ?_)
  have hS₂ := Heap.get?_update_self (Obj.mapSeq (·.push Value.none)) hS rfl
  refine wpAny_updateSeq (hz := by seq_fits) hS₂ rfl ?_
  have hS₃ := Heap.get?_update_self (Obj.mapSeq (·.pop)) hS₂ rfl
  have oth : ∀ b o, b ≠ SS → s.heap.get? b = some o → ((s.heap.update SS (Obj.mapSeq (·.push Value.none))).update SS (Obj.mapSeq (·.pop))).get? b = some o :=
    fun b o hb e => (Heap.get?_update_other _ _ (Ne.symm hb)).trans ((Heap.get?_update_other _ _ (Ne.symm hb)).trans e)
  have st0 : Zst z TI TO i1 i2 St1 St2 [] s.heap := ⟨hTI, st1, st2, .inl ⟨hz, hO⟩⟩
  have hsz : ((s.heap.update SS (Obj.mapSeq (·.push Value.none))).update SS (Obj.mapSeq (·.pop))).objs.size = s.heap.objs.size := by rw [Heap.size_update, Heap.size_update]
  refine wpAny_pure ⟨plainId_quiet F.plain_extend_loop _, loop_zip (base := SS + 1) S D1 D2 hn1 hn2 hn (Nat.lt_succ_of_lt bz) (Nat.lt_succ_of_lt bO) (Nat.lt_succ_of_lt bI) (Nat.lt_succ_of_lt b1) (Nat.lt_succ_of_lt b2) (Nat.lt_succ_self _) s1 s2 hSz (Nat.ne_of_gt bI) (Nat.ne_of_gt bO) (Nat.ne_of_gt b1) (Nat.ne_of_gt b2) res n _ [] _ rfl (Nat.zero_le _) (by show SS + 1 ≤ Array.size _; rw [hsz]; exact bS) (zst_over S D1 D2 st0 s1 s2 hSz (Nat.ne_of_gt bI) (Nat.ne_of_gt bO) oth) Made.nil hS₃ fun h' tk Ts' c' k M hl hS' => ?_⟩
  exact hR h' tk Ts' c' (fun b o c1 c2 c3 c4 c5 e => k b o c1 c2 c3 c4 c5 (oth b o c5 e)) M hl hS'
theorem call_list_zip {E : Value → Shared → Prop} {Q : Value → Shared → Prop} (S : ZipSep2 z TI TO i1 i2 fp1 fp2) (D1 : Draws prog w A.in1.in1.in1 i1 fp1 as.size (fun i v => as[i]? = some v) St1) (D2 : Draws prog w A.in1.in1.in1 i2 fp2 bs.size (fun i v => bs[i]? = some v) St2)
    (hn1 : as.size = n) (hn2 : bs.size = n) (hn : n ≤ 1000000) (bz : z < s.heap.objs.size) (bO : TO < s.heap.objs.size) (bI : TI < s.heap.objs.size) (b1 : i1 < s.heap.objs.size) (b2 : i2 < s.heap.objs.size) (s1 : ∀ b ∈ fp1, b < s.heap.objs.size) (s2 : ∀ b ∈ fp2, b < s.heap.objs.size)
    (hz : IsZip s.heap z TI TO .none) (hO : ∃ a b, IsTupOf2 s.heap TO a b) (hTI : IsTupOf2 s.heap TI (.ref i1) (.ref i2)) (st1 : St1 0 s.heap) (st2 : St2 0 s.heap)
    (hQ : ∀ h' tk Ts' c', (∀ c o, c ≠ z → c ≠ TO → c ≠ i1 → c ≠ i2 → s.heap.get? c = some o → h'.get? c = some o) → Made as bs (s.heap.objs.size + 1) h' Ts' → Ts'.length = n → h'.get? s.heap.objs.size = some { cls := .type "list", dict := none, data := .seq (Ts'.map Value.ref).toArray c', slots := #[] } → Q (.ref s.heap.objs.size) { s with heap := h', toks := tk }) :
    wpAny (model prog w) A (call (.type "list") [.ref z]) Q E s := by
  refine callType_codes (Q₁ := fun obj s₁ => obj = .ref s.heap.objs.size ∧ s₁ = { s with heap := s.heap.push { cls := .type "list", data := .seq #[] } }) F.called_list (F.typeCall_list_1 _) F.entry_list_init
    (code_list_new _ ⟨rfl, rfl⟩) fun obj s₁ h₁ => ?_
  obtain ⟨rfl, rfl⟩ := h₁
  have hS : (s.heap.push { cls := .type "list", data := .seq #[] }).get? s.heap.objs.size = some { cls := .type "list", data := .seq #[] } := Heap.get?_push_size _ rfl
  have nfp1 : s.heap.objs.size ∉ fp1 := fun q => Nat.lt_irrefl _ (s1 _ q)
  have nfp2 : s.heap.objs.size ∉ fp2 := fun q => Nat.lt_irrefl _ (s2 _ q)
  refine ⟨⟨_, hS, rfl⟩, F.args_list_init_2 _ _, ?_⟩
  show wpAny _ A.in1.in1 (do let old ← Builtin.List.listItems (.ref s.heap.objs.size); Builtin.List.listUpdate (.ref s.heap.objs.size) (fun _ => #[]); letGo old.toList.reverse; Builtin.List.listExtendWith (.ref s.heap.objs.size) (.ref z) .none) _ _ _
  refine wpAny_bind ?_
  unfold Builtin.List.listItems
  refine wpAny_bind (wpAny_seqItems hS rfl (wpAny_pure ?_))
  show wpAny _ A.in1.in1 (updateSeq s.heap.objs.size (fun _ => #[]) >>= fun _ => letGo (#[] : Array Value).toList.reverse >>= fun _ => Builtin.List.listExtendWith (.ref s.heap.objs.size) (.ref z) .none) _ _ _
  refine wpAny_bind (wpAny_updateSeq hS rfl ?_)
  have hS₂ := Heap.get?_update_self (Obj.mapSeq (fun _ => (#[] : Array Value))) hS rfl
  have oth : ∀ b o, b ≠ s.heap.objs.size → s.heap.get? b = some o → ((s.heap.push { cls := .type "list", data := .seq #[] }).update s.heap.objs.size (Obj.mapSeq (fun _ => (#[] : Array Value)))).get? b = some o :=
    fun b o hb e => (Heap.get?_update_other _ _ (Ne.symm hb)).trans (Heap.get?_push_of_some _ e)
  refine wpAny_bind (wpAny_letGo ?_)
  have o' : ∀ b o, b < s.heap.objs.size → s.heap.get? b = some o → _ := fun b o hb e => oth b o (Nat.ne_of_lt hb) e
  obtain ⟨a, b, hO⟩ := hO
  refine extend_zip (A := A.in1) (n := n) S D1 D2 hn1 hn2 hn s.heap.objs.size bz bO bI b1 b2 (by show s.heap.objs.size < Array.size _; rw [Heap.size_update, Heap.size_push]; exact Nat.lt_succ_self _) nfp1 nfp2 .none _ (o' _ _ bz hz) ⟨a, b, o' _ _ bO hO⟩ (o' _ _ bI hTI) (D1.frame _ _ _ st1 fun b hb o e => o' b o (s1 b hb) e) (D2.frame _ _ _ st2 fun b hb o e => o' b o (s2 b hb) e) hS₂ fun h' tk Ts' c' k M hl hS' => ?_
  exact ⟨rfl, hQ h' tk Ts' c' (fun b o c1 c2 c3 c4 e => k b o c1 c2 c3 c4 (Nat.ne_of_lt (Heap.lt_size e)) (o' b o (Heap.lt_size e) e)) M hl hS'⟩
end
end KZ

namespace KB
open PySem PySem.Spec PyProof.Rows L2 KZ
theorem sep2 {sz a b : Addr} (ha : a < sz) (hb : b < sz) : ZipSep2 (sz + 4) (sz + 2) (sz + 3) sz (sz + 1) [sz, a] [sz + 1, b] := by
  have k : ∀ i j : Nat, i ≠ j → (sz + i : Nat) ≠ sz + j := fun i j h e => h (Nat.add_left_cancel e)
  have n : ∀ (c : Addr) (i : Nat), c < sz → (sz + i : Nat) ≠ c := fun c i h => Nat.ne_of_gt (Nat.lt_of_lt_of_le h (Nat.le_add_right _ _))
  have m1 : ∀ i : Nat, i ≠ 0 → (sz + i : Addr) ∉ [sz, a] := fun i h q => by
    rcases List.mem_cons.mp q with e | q
    · exact k i 0 h e
    · exact n a i ha (List.mem_singleton.mp q)
  have m2 : ∀ i : Nat, i ≠ 1 → (sz + i : Addr) ∉ [(sz + 1 : Addr), b] := fun i h q => by
    rcases List.mem_cons.mp q with e | q
    · exact k i 1 h e
    · exact n b i hb (List.mem_singleton.mp q)
  exact ⟨k 2 4 (by decide), k 3 4 (by decide), k 2 3 (by decide), k 2 0 (by decide), List.mem_cons_self .., m1 4 (by decide), m1 3 (by decide), k 2 1 (by decide), List.mem_cons_self .., m2 4 (by decide), m2 3 (by decide), m2 0 (by decide), m1 1 (by decide)⟩
section
variable {X : Cx} {pins : List (Addr × Obj)} {σ : L2.St} {H : Hp} {s : Shared}
/-- where zip may draw from: a list or a tuple -/
theorem zsrc {a : Addr} {xs : List V} (I : Inv X pins σ H s) (h : SqL X.K H a xs ∨ SqT X.K H a xs) : ∃ (its : List Value) (o : Obj) (H0 : Heap → Prop), Vals xs its ∧ Begins (.ref a) o H0 ∧ H0 s.heap ∧ a < s.heap.objs.size ∧
    ∀ (A : Around) (it : Addr), A.handled = none → a ≠ it → ∃ St : Nat → Heap → Prop, Draws X.prog X.w A it [it, a] its.toArray.size (fun i v => its.toArray[i]? = some v) St ∧ ∀ h', H0 h' → h'.get? it = some o → St 0 h' := by
  rcases h with h | h
  · obtain ⟨its, rv, p, _⟩ := I.list h
    exact ⟨its, _, _, rv, begins_list a its.toArray, p.isList, p.lt, fun A it hh hne => ⟨_, Draws.list hh it a hne its.toArray, fun h' hl hi => ⟨⟨_, hi, rfl, rfl⟩, hl⟩⟩⟩
  · obtain ⟨its, rv, p, _⟩ := I.tuple h
    have lt : a < s.heap.objs.size := by obtain ⟨o, ho, _⟩ := id p; exact Heap.lt_size ho
    exact ⟨its, _, _, rv, begins_tuple a its.toArray, (show s.heap.IsTuple a its.toArray from p), lt, fun A it hh hne => ⟨_, Draws.tuple hh it a hne its.toArray, fun h' hl hi => ⟨⟨_, hi, rfl, rfl⟩, hl⟩⟩⟩
theorem un_add {fs ex : List Addr} {H H1 : Hp} {h h1 : Heap} {a : Addr} {o : HO} (u : Un fs ex H H1 h h1) (hp : h.objs.size ≤ a) (hn : H1 a = none) : Un fs ex H (upd H1 a o) h h1 where
  keep := u.keep
  slot := u.slot
  free := fun b ob e n x => by
    rw [upd_ne (Nat.ne_of_lt (Nat.lt_of_lt_of_le (Heap.lt_size e) hp))]
    exact u.free b ob e n x
  there := u.there
  tups := fun b xs e => by
    have q := u.tups b xs e
    rw [upd_ne (ne_of_none q hn)]
    exact q
  frzs := fun b o u' e => by
    have q := u.frzs b o u' e
    rw [upd_ne (ne_of_none q hn)]
    exact q
  tbls := fun b ps e => by
    obtain ⟨more, q⟩ := u.tbls b ps e
    exact ⟨more, by rw [upd_ne (ne_of_none q hn)]; exact q⟩
theorem vals_ref : ∀ ts : List Addr, Vals (ts.map V.ref) (ts.map Value.ref)
  | [] => .nil
  | t :: r => .cons rfl (vals_ref r)
/-- the tuples taken up, one after another -/
theorem took {P : Program} {w : World} {fs : List Addr} {H : Hp} {h0 h : Heap} {base : Nat} {Ts : List Addr} {xs ys : List V} {its its2 : List Value} (k : ∀ b o, h0.get? b = some o → h.get? b = some o) (ok : HOk P w H h0) (M : Made its.toArray its2.toArray base h Ts) (hb : h0.objs.size ≤ base) (rx : Vals xs its) (ry : Vals ys its2) :
    ∀ j, j ≤ Ts.length → ∃ H', Un fs [] H H' h0 h ∧ HOk P w H' h ∧ Same H H' ∧ (∀ i, i < j → ∀ t x y, Ts[i]? = some t → xs[i]? = some x → ys[i]? = some y → H' t = some (.tup [x, y])) ∧ ∀ a, H' a ≠ none → H a ≠ none ∨ ∃ i, i < j ∧ Ts[i]? = some a
  | 0, _ => ⟨H, Un.kept k, ok.kept k, fun _ _ e => e, fun i hi => absurd hi (Nat.not_lt_zero _), fun a ha => .inl ha⟩
  | j + 1, hj => by
    obtain ⟨H', u, ok', sm, f, g⟩ := took k ok M hb rx ry j (Nat.le_of_succ_le hj)
    have hjl : j < Ts.length := hj
    have ht : Ts[j]? = some Ts[j] := List.getElem?_eq_getElem hjl
    obtain ⟨v, v2, hv, hv2, hT⟩ := M.at_ j _ ht
    have hv' : its[j]? = some v := by simpa using hv
    have hv2' : its2[j]? = some v2 := by simpa using hv2
    have lx := rx.length
    have ly := ry.length
    have jx : j < xs.length := by have := (List.getElem?_eq_some_iff.mp hv').1; omega
    have jy : j < ys.length := by have := (List.getElem?_eq_some_iff.mp hv2').1; omega
    obtain ⟨v', hv'', r1⟩ := rx.get (List.getElem?_eq_getElem jx)
    obtain ⟨v2', hv2'', r2⟩ := ry.get (List.getElem?_eq_getElem jy)
    rw [hv'] at hv''
    rw [hv2'] at hv2''
    cases hv''
    cases hv2''
    have hge : h0.objs.size ≤ Ts[j] := Nat.le_trans hb (M.new _ (List.getElem_mem hjl)).1
    have hn : H' Ts[j] = none := by
      refine Classical.byContradiction fun z => ?_
      rcases g _ z with q | ⟨i, hi, q⟩
      · exact q (ok.fresh hge)
      · have il := (List.getElem?_eq_some_iff.mp q).1
        have e := (List.getElem?_eq_some_iff.mp q).2
        have := (List.pairwise_iff_getElem.mp M.nodup i j il hjl hi)
        exact this e
    refine ⟨upd H' Ts[j] (.tup [xs[j], ys[j]]), un_add u hge hn, HOk.laidN ok' (fun _ _ e => e) hn ⟨by show 2 ≤ sizeLine; rw [sizeLine_eq]; decide, [v, v2], .cons r1 (.cons r2 .nil), ⟨_, hT, rfl, _, rfl⟩⟩, sm.trans (same_upd hn), fun i hi t x y h1 h2 h3 => ?_, fun a ha => ?_⟩
    · by_cases e : i = j
      · subst e
        rw [ht] at h1
        cases h1
        rw [List.getElem?_eq_getElem jx] at h2
        rw [List.getElem?_eq_getElem jy] at h3
        cases h2
        cases h3
        exact upd_same
      · have q := f i (by omega) t x y h1 h2 h3
        rw [upd_ne (ne_of_none q hn)]
        exact q
    · by_cases e : a = Ts[j]
      · exact .inr ⟨j, Nat.lt_succ_self _, by rw [e]; exact ht⟩
      · rw [upd_ne e] at ha
        rcases g a ha with q | ⟨i, hi, q⟩
        · exact .inl q
        · exact .inr ⟨i, by omega, q⟩
end
section
variable {X : Cx} {e e2 : Expr} {ta : TA} {p p2 pos pos2 : Pos}
/-- list(zip(x, y)), x and y lists or tuples of one length -/
def tZipL (K : PySem.W.Frag) (ta : TA) : TE := fun σ H Q => ta σ H fun vs H1 => ∃ (a b : Addr) (xs ys : List V), vs = [.ref a, .ref b] ∧ (SqL K H1 a xs ∨ SqT K H1 a xs) ∧ (SqL K H1 b ys ∨ SqT K H1 b ys) ∧ xs.length = ys.length ∧ xs.length ≤ 1000000 ∧
  ∀ (H' : Hp) (l : Addr) (ts : List Addr), Same H1 H' → H' l = some (.lst (ts.map V.ref)) → ts.length = xs.length → (∀ (i : Nat) (t : Addr) (x y : V), ts[i]? = some t → xs[i]? = some x → ys[i]? = some y → H' t = some (.tup [x, y])) → Q (.ref l) H'
theorem pe_listzip (hc : X.calm = true) (hgl : Gl X "list") (hml : X.mg "list" = none) (hgz : Gl X "zip") (hmz : X.mg "zip" = none) (ha : PA X [e, e2] ta)
    (hs2 : starEach [e, e2] X.env = (false, eval e X.env) :: starEach [e2] X.env := by rfl) (hpl2 : (backTo pos2 (starEach [e2] X.env)).any (·.1) = false := by rfl)
    (hs : starEach [.Call (.Name "zip" p2) [e, e2] [] pos2] X.env = (false, eval (.Call (.Name "zip" p2) [e, e2] [] pos2) X.env) :: starEach [] X.env := by rfl) (hpl : (backTo pos (starEach [] X.env)).any (·.1) = false := by rfl) :
    PE X (.Call (.Name "list" p) [.Call (.Name "zip" p2) [e, e2] [] pos2] [] pos) (tZipL X.K ta) := by
  refine ⟨fun pins s σ H Q I h => ?_⟩
  refine wpAny_Call_Name_kw (ld_blt I hgl hml (u := .type "list") (by decide +kernel) ?_)
  refine PyProof.Rows.callWith_type1 ?_ hs hpl
  rw [hs]
  show wpAny _ _ (spliced ((false, eval (.Call (.Name "zip" p2) [e, e2] [] pos2) X.env) :: backTo pos (starEach [] X.env))) _ _ s
  refine Calls.spliced_cons ?_
  refine wpAny_Call_Name_kw (ld_blt I hgz hmz PyProof.Rows.boot_zip ?_)
  refine PyProof.Rows.callWith_type1 (thn (ha.run pos2 pins s σ H _ I h) fun us s1 ⟨vs, H1, I1, r1, q1⟩ => ?_) hs2 hpl2
  obtain ⟨a, b, xs, ys, ex, hqa, hqb, hlen, hmil, q⟩ := q1
  subst ex
  cases r1 with
  | cons r rr =>
  cases rr with
  | cons r' rr =>
  cases rr
  cases r
  cases r'
  obtain ⟨its, o1, P1, rx, B1, c1, la, D1⟩ := zsrc I1 hqa
  obtain ⟨its2, o2, P2, ry, B2, c2, lb, D2⟩ := zsrc I1 hqb
  have lx := rx.length
  have ly := ry.length
  refine zip_begins2 B1 B2 c1 c2 fun h' hz hTI hTO g1 g2 hsz hk => ?_
  refine Calls.spliced_nil ?_
  have hh : X.A.in1.in1.in1.handled = none := I1.ok.hd hc
  have hS := sep2 la lb
  have na : a ≠ s1.heap.objs.size := Nat.ne_of_lt la
  have nb : b ≠ s1.heap.objs.size + 1 := Nat.ne_of_lt (Nat.lt_succ_of_lt lb)
  obtain ⟨St1, E1, F1⟩ := D1 X.A.in1.in1.in1 s1.heap.objs.size hh na
  obtain ⟨St2, E2, F2⟩ := D2 X.A.in1.in1.in1 (s1.heap.objs.size + 1) hh nb
  have up : ∀ c : Addr, c < s1.heap.objs.size → c < h'.objs.size := fun c hc' => by rw [hsz]; exact Nat.lt_of_lt_of_le hc' (Nat.le_add_right _ _)
  have upi : ∀ i : Nat, i < 5 → (s1.heap.objs.size + i : Addr) < h'.objs.size := fun i hi => by rw [hsz]; exact Nat.add_lt_add_left hi _
  refine call_list_zip (s := { s1 with heap := h' }) (n := its.length) hS E1 E2 (by simp) (by simp; omega) (by omega) (upi 4 (by decide)) (upi 3 (by decide)) (upi 2 (by decide)) (upi 0 (by decide)) (upi 1 (by decide))
    (fun c hc' => by
      rcases List.mem_cons.mp hc' with z | z
      · rw [z]; exact upi 0 (by decide)
      · rw [List.mem_singleton.mp z]; exact up a la)
    (fun c hc' => by
      rcases List.mem_cons.mp hc' with z | z
      · rw [z]; exact upi 1 (by decide)
      · rw [List.mem_singleton.mp z]; exact up b lb)
    hz ⟨_, _, hTO⟩ hTI (F1 h' (B1.keeps _ _ c1 hk) g1) (F2 h' (B2.keeps _ _ c2 hk) g2) fun h2 tk Ts c' k M hl hS2 => ?_
  have old : ∀ c o, s1.heap.get? c = some o → h2.get? c = some o := fun c o e => by
    have lt := Heap.lt_size e
    have n : ∀ i : Nat, c ≠ s1.heap.objs.size + i := fun i => Nat.ne_of_lt (Nat.lt_of_lt_of_le lt (Nat.le_add_right _ _))
    exact k c o (n 4) (n 3) (n 0) (n 1) (hk c o e)
  have hbase : s1.heap.objs.size ≤ h'.objs.size + 1 := by rw [hsz]; omega
  obtain ⟨H2, u, ok, sm, f, g⟩ := took old I1.hok M hbase rx ry Ts.length (Nat.le_refl _)
  have hlge : s1.heap.objs.size ≤ h'.objs.size := by rw [hsz]; omega
  have hln : H2 h'.objs.size = none := by
    refine Classical.byContradiction fun z => ?_
    rcases g _ z with q' | ⟨i, _, q'⟩
    · exact q' (I1.hok.fresh hlge)
    · exact absurd (M.new _ (List.mem_of_getElem? q')).1 (Nat.not_succ_le_self _)
  have hTl : Ts.length ≤ sizeLine := by rw [sizeLine_eq]; omega
  have ok2 := HOk.laidN (a := h'.objs.size) (o := .lst (Ts.map V.ref)) ok (fun _ _ e => e) hln ⟨by rw [List.length_map]; exact hTl, Ts.map Value.ref, c', vals_ref Ts, hS2⟩
  have I2 := I1.un (t' := tk) (un_add (o := .lst (Ts.map V.ref)) u hlge hln) ok2
  exact ⟨.ref h'.objs.size, _, I2, rfl, q _ _ Ts (sm.trans (same_upd hln)) upd_same (by omega) fun i t x y h1 h2 h3 => by
    have w := f i (List.getElem?_eq_some_iff.mp h1).1 t x y h1 h2 h3
    rw [upd_ne (ne_of_none w hln)]
    exact w⟩
end
end KB

namespace KB
open PySem PySem.Spec PyProof.Rows L2
/-! ### words as lists of signs; which begins which -/
theorem starts_iff {a b : Str} : Txt.startswith a b = true ↔ b.cps.toList <+: a.cps.toList := by
  unfold Txt.startswith
  rw [PySem.StrLaws.subAt_eq, List.drop_zero]
  have l : ∀ z : Str, z.length = z.cps.toList.length := fun z => by simp [Str.length]
  constructor
  · intro h
    rw [Bool.and_eq_true] at h
    have := eq_of_beq h.2
    rw [l] at this
    have t := List.take_append_drop b.cps.toList.length a.cps.toList
    rw [this] at t
    exact ⟨_, t⟩
  · rintro ⟨t, ht⟩
    rw [l, l, ← ht, Bool.and_eq_true]
    refine ⟨decide_eq_true (by simp), ?_⟩
    simp
/-- one of two rows of signs begins the other -/
def Cmp (x y : List Nat) : Prop := x <+: y ∨ y <+: x
theorem Cmp.symm {x y : List Nat} (h : Cmp x y) : Cmp y x := h.elim .inr .inl
theorem cmp_app {x y : List Nat} {c : Nat} (h : Cmp (x ++ [c]) y) : Cmp x y := by
  rcases h with h | h
  · exact .inl (List.IsPrefix.trans ⟨[c], rfl⟩ h)
  · exact List.prefix_or_prefix_of_prefix ⟨[c], rfl⟩ h
theorem cmp_two {x : List Nat} {c d : Nat} (h : c ≠ d) : ¬ Cmp (x ++ [c]) (x ++ [d]) := by
  rintro (⟨t, e⟩ | ⟨t, e⟩)
  · rw [List.append_assoc] at e
    have := List.append_cancel_left e
    simp at this
    exact h this.1
  · rw [List.append_assoc] at e
    have := List.append_cancel_left e
    simp at this
    exact h this.1.symm
def Bits (x : List Nat) : Prop := ∀ c ∈ x, c = 48 ∨ c = 49
theorem cmp_split {x y : List Nat} (hy : Bits y) (h : Cmp x y) : Cmp (x ++ [49]) y ∨ Cmp (x ++ [48]) y := by
  rcases h with ⟨t, rfl⟩ | h
  · cases t with
    | nil => exact .inl (.inr (by rw [List.append_nil]; exact ⟨[49], rfl⟩))
    | cons c t =>
      rcases hy c (by simp) with e | e <;> subst e
      · exact .inr (.inl ⟨t, by simp⟩)
      · exact .inl (.inl ⟨t, by simp⟩)
  · exact .inl (.inr (List.IsPrefix.trans h ⟨[49], rfl⟩))
/-- the leaves of a drawn tree over s -/
structure Leaf (s : List Nat) (ls : List (List Nat)) : Prop where
  bits : ∀ x ∈ ls, Bits x ∧ x.length ≤ 40
  apart : ls.Pairwise fun x y => ¬ Cmp x y
  sum : (ls.map fun x => 2 ^ (60 - x.length)).sum = 2 ^ (60 - s.length)
  cover : s = [] → ∀ y, Bits y → ∃ x ∈ ls, Cmp x y
theorem Leaf.one {s : List Nat} (hb : Bits s) (hl : s.length ≤ 40) : Leaf s [s] :=
  ⟨fun x hx => by rw [List.mem_singleton.mp hx]; exact ⟨hb, hl⟩, List.pairwise_singleton _ _, by simp, fun e y _ => ⟨s, List.mem_singleton.mpr rfl, .inl (by rw [e]; exact List.nil_prefix)⟩⟩
theorem Leaf.perm {s : List Nat} {ls ls' : List (List Nat)} (L : Leaf s ls) (p : ls.Perm ls') : Leaf s ls' :=
  ⟨fun x hx => L.bits x (p.mem_iff.mpr hx), (p.pairwise_iff fun h z => h z.symm).mp L.apart, by rw [← L.sum]; exact ((p.map _).sum_nat).symm, fun e y hy => by
    obtain ⟨x, hx, h⟩ := L.cover e y hy
    exact ⟨x, p.mem_iff.mp hx, h⟩⟩
theorem Leaf.split {s x : List Nat} {r : List (List Nat)} (L : Leaf s (x :: r)) (hx : x.length < 40) : Leaf s ((x ++ [49]) :: (x ++ [48]) :: r) := by
  have bx := L.bits x (List.mem_cons_self ..)
  have ap := List.pairwise_cons.mp L.apart
  refine ⟨fun y hy => ?_, ?_, ?_, fun e y hy => ?_⟩
  · rcases List.mem_cons.mp hy with e | hy
    · rw [e]
      exact ⟨fun c hc => (List.mem_append.mp hc).elim (bx.1 c) fun z => .inr (List.mem_singleton.mp z), by rw [List.length_append]; simp; omega⟩
    rcases List.mem_cons.mp hy with e | hy
    · rw [e]
      exact ⟨fun c hc => (List.mem_append.mp hc).elim (bx.1 c) fun z => .inl (List.mem_singleton.mp z), by rw [List.length_append]; simp; omega⟩
    · exact L.bits y (List.mem_cons_of_mem _ hy)
  · refine List.pairwise_cons.mpr ⟨fun y hy => ?_, List.pairwise_cons.mpr ⟨fun y hy h => ap.1 y hy (cmp_app h), ap.2⟩⟩
    rcases List.mem_cons.mp hy with e | hy
    · rw [e]
      exact cmp_two (by decide)
    · exact fun h => ap.1 y hy (cmp_app h)
  · rw [← L.sum]
    simp only [List.map_cons, List.sum_cons, List.length_append, List.length_cons, List.length_nil]
    rw [← Nat.add_assoc, ← Nat.two_mul, ← Nat.pow_succ', show (60 - (x.length + (0 + 1))).succ = 60 - x.length by omega]
  · obtain ⟨z, hz, h⟩ := L.cover e y hy
    rcases List.mem_cons.mp hz with e | hz
    · rw [e] at h
      rcases cmp_split hy h with h | h
      · exact ⟨_, List.mem_cons_self .., h⟩
      · exact ⟨_, List.mem_cons_of_mem _ (List.mem_cons_self ..), h⟩
    · exact ⟨z, List.mem_cons_of_mem _ (List.mem_cons_of_mem _ hz), h⟩
/-- some of them -/
theorem Leaf.sum_le {s : List Nat} {ls : List (List Nat)} (L : Leaf s ls) : (ls.map fun x => 2 ^ (60 - x.length)).sum ≤ 2 ^ 60 := by
  rw [L.sum]
  exact Nat.pow_le_pow_right (by decide) (by omega)
theorem perm_erase {α : Type} : ∀ (ls : List α) (j : Nat) (x : α), ls[j]? = some x → ls.Perm (x :: ls.eraseIdx j)
  | [], j, x, h => by cases j <;> cases h
  | a :: r, 0, x, h => by cases h; exact .refl _
  | a :: r, j + 1, x, h => (List.Perm.cons a (perm_erase r j x h)).trans (List.Perm.swap x a _)
theorem perm_set {α : Type} : ∀ (ls : List α) (j : Nat) (y : α), j < ls.length → (ls.set j y).Perm (y :: ls.eraseIdx j)
  | [], j, y, h => absurd h (Nat.not_lt_zero _)
  | a :: r, 0, y, h => .refl _
  | a :: r, j + 1, y, h => (List.Perm.cons a (perm_set r j y (Nat.lt_of_succ_lt_succ h))).trans (List.Perm.swap y a _)
theorem Leaf.ins {s x : List Nat} {ls : List (List Nat)} {j n : Nat} (L : Leaf s ls) (hj : ls[j]? = some x) (h40 : x.length < 40) : Leaf s ((ls.set j (x ++ [49])).take n ++ [x ++ [48]] ++ (ls.set j (x ++ [49])).drop n) := by
  have hl := (List.getElem?_eq_some_iff.mp hj).1
  have hx := (List.getElem?_eq_some_iff.mp hj).2
  have p1 : ls.Perm (x :: ls.eraseIdx j) := perm_erase _ _ _ hj
  have p2 : (ls.set j (x ++ [49])).Perm ((x ++ [49]) :: ls.eraseIdx j) := perm_set _ _ _ hl
  refine ((L.perm p1).split h40).perm ?_
  have p3 : ((ls.set j (x ++ [49])).take n ++ [x ++ [48]] ++ (ls.set j (x ++ [49])).drop n).Perm ((x ++ [48]) :: ls.set j (x ++ [49])) := by
    rw [List.append_assoc, List.singleton_append]
    refine List.perm_middle.trans ?_
    rw [List.take_append_drop]
  exact ((List.Perm.swap _ _ _).trans ((List.Perm.cons _ p2.symm).trans p3.symm))
def Lc (w : Str) : List Nat := w.cps.toList
theorem Lc_one (w : Str) : Lc (w ++ ("1" : Str)) = Lc w ++ [49] := by
  show (w.cps ++ (("1" : Str)).cps).toList = w.cps.toList ++ [49]
  rw [Array.toList_append]
  rfl
theorem Lc_nil (w : Str) : Lc (w ++ ("0" : Str)) = Lc w ++ [48] := by
  show (w.cps ++ (("0" : Str)).cps).toList = w.cps.toList ++ [48]
  rw [Array.toList_append]
  rfl
theorem Lc_len (w : Str) : (Lc w).length = w.length := by simp [Lc, Str.length]
theorem leaf_turn {s : List Nat} {ws : List Str} {j n : Nat} {w : Str} (L : Leaf s (ws.map Lc)) (hj : ws[j]? = some w) (h40 : w.length < 40) : Leaf s (((ws.set j (w ++ ("1" : Str))).take n ++ [w ++ ("0" : Str)] ++ (ws.set j (w ++ ("1" : Str))).drop n).map Lc) := by
  have := L.ins (n := n) (j := j) (x := Lc w) (by rw [List.getElem?_map, hj]; rfl) (by rw [Lc_len]; exact h40)
  rw [List.map_append, List.map_append, List.map_take, List.map_drop, List.map_set, Lc_one, List.map_cons, Lc_nil]
  exact this
theorem cut_tk (xs : List V) (x : Nat) : cutV xs none (some (x : Int)) = xs.take x := by
  have e2 : HT.sIx xs.length 0 none = 0 := rfl
  unfold cutV
  rw [HT.sIx_nat, e2, Nat.sub_zero, List.drop_zero]
  by_cases h : x ≤ xs.length
  · rw [show min x xs.length = x by omega]
  · rw [show min x xs.length = xs.length by omega, List.take_length, List.take_of_length_le (by omega)]
theorem cut_dr (xs : List V) (x : Nat) : cutV xs (some (x : Int)) none = xs.drop x := by
  have e2 : HT.sIx xs.length xs.length none = xs.length := rfl
  unfold cutV
  rw [HT.sIx_nat, e2]
  by_cases h : x ≤ xs.length
  · rw [show min x xs.length = x by omega, List.take_of_length_le (by rw [List.length_drop]; exact Nat.le_refl _)]
  · rw [show min x xs.length = xs.length by omega, List.drop_of_length_le (Nat.le_refl _), List.drop_of_length_le (by omega), List.take_nil]
end KB
namespace KB
open PySem PySem.Spec PyProof.Rows L2
theorem gN_odd {o : Nat} (j : Nat) (h : o % 2 = 1) : gN (o : Int) ((2 ^ j : Nat) : Int) = 1 := by
  show Nat.gcd o (2 ^ j) = 1
  have e : Nat.gcd o 2 = 1 := by
    rw [Nat.gcd_comm, Nat.gcd_rec, h]
    decide
  exact Nat.Coprime.pow_right j e
theorem red_odd {o : Nat} (j : Nat) (h : o % 2 = 1) : rOd (o : Int) ((2 ^ j : Nat) : Int) = o ∧ rUd (o : Int) ((2 ^ j : Nat) : Int) = ((2 ^ j : Nat) : Int) := by
  have g := gN_odd j h
  have p : ¬ ((2 ^ j : Nat) : Int) < 0 := Int.not_lt.mpr (Int.natCast_nonneg _)
  constructor
  · unfold rOd
    rw [if_neg p, g]
    simp
  · unfold rUd
    rw [if_neg p, g]
    simp
theorem red_half {o j : Nat} (h : o % 2 = 0) : rOd (o : Int) ((2 ^ (j + 1) : Nat) : Int) = rOd ((o / 2 : Nat) : Int) ((2 ^ j : Nat) : Int) ∧ rUd (o : Int) ((2 ^ (j + 1) : Nat) : Int) = rUd ((o / 2 : Nat) : Int) ((2 ^ j : Nat) : Int) := by
  have e1 : (o : Int) = 2 * ((o / 2 : Nat) : Int) := by omega
  have e2 : ((2 ^ (j + 1) : Nat) : Int) = 2 * ((2 ^ j : Nat) : Int) := by rw [Nat.pow_succ]; omega
  rw [e2]
  constructor
  · have := rOd_scale (g := 2) ((o / 2 : Nat) : Int) ((2 ^ j : Nat) : Int) (by decide)
    rw [← e1] at this
    exact this
  · have := rUd_scale (g := 2) ((o / 2 : Nat) : Int) ((2 ^ j : Nat) : Int) (by decide)
    rw [← e1] at this
    exact this
end KB
namespace KB
open PySem PySem.Spec PyProof.Rows L2
/-- a loop over the signs of a text -/
theorem for_sgn {x : Str} {g : TG} {tb : TS} {D : Ends} {σ : L2.St} {H : Hp} (Pv : Nat → L2.St → Hp → Prop) (h0 : Pv 0 σ H)
    (hs : ∀ i c σ H, x.cps[i]? = some c → Pv i σ H → g (.str ⟨#[c]⟩) σ H fun σ2 H2 => tb { D with nx := Pv (i + 1), ct := Pv (i + 1), bk := D.nx } σ2 H2) (hd : ∀ σ H, Pv x.cps.size σ H → D.nx σ H) :
    ∃ W : Nat → Nat → L2.St → Hp → Prop, (∃ m, W 0 m σ H) ∧ ∀ i m σ H, W i m σ H →
      ((Its x).stop i H ∧ D.nx σ H) ∨ ((Its x).go i H ∧ ∃ N : L2.St → Hp → Prop, (∀ σ' H', N σ' H' → ∃ m', m' < m ∧ W (i + 1) m' σ' H') ∧ ∀ v H', (Its x).yld i H v H' → g v σ H' fun σ2 H2 => tb { D with nx := N, ct := N, bk := D.nx } σ2 H2) := by
  refine ⟨fun i m σ H => m = x.cps.size - i ∧ i ≤ x.cps.size ∧ Pv i σ H, ⟨x.cps.size, by simp, Nat.zero_le _, h0⟩, ?_⟩
  rintro i m σ H ⟨rfl, hi, p⟩
  by_cases hlt : i < x.cps.size
  · refine .inr ⟨hlt, Pv (i + 1), fun σ' H' p' => ⟨x.cps.size - (i + 1), by omega, rfl, hlt, p'⟩, fun v H' y => ?_⟩
    obtain ⟨rfl, c, hc, rfl⟩ := y
    exact hs i c σ _ hc p
  · have e : i = x.cps.size := by omega
    subst e
    exact .inl ⟨Nat.le_refl _, hd σ H p⟩
end KB
namespace KB
open PySem PySem.Spec PyProof.Rows L2
/-! ### the words of a code do not begin one another -/
theorem fill_keep {k : Nat} : ∀ (ks : List (Int × Int)) (u : Nat) (ws : List Str), (∀ p ∈ ks, p.2.toNat ≠ k) → (fillW ks u ws)[k]? = ws[k]?
  | [], _, _, _ => rfl
  | p :: r, u, ws, h => by
    show (fillW r _ _)[k]? = _
    rw [fill_keep r _ _ fun q hq => h q (List.mem_cons_of_mem _ hq), List.getElem?_set_ne (h p (List.mem_cons_self ..))]
theorem fill_get : ∀ (ks : List (Int × Int)) (u : Nat) (ws : List Str), (ks.map fun p => p.2.toNat).Nodup → ∀ (j : Nat) (p : Int × Int), ks[j]? = some p → p.2.toNat < ws.length →
    (fillW ks u ws)[p.2.toNat]? = some (wordS p.1.toNat ((u + kr ((ks.map fun p => p.1.toNat).take j)) / 2 ^ (40 - p.1.toNat)))
  | [], _, _, _, j, p, h, _ => by cases j <;> cases h
  | q :: r, u, ws, nd, 0, p, h, hl => by
    cases h
    rw [List.map_cons, List.nodup_cons] at nd
    show (fillW r _ _)[q.2.toNat]? = _
    rw [fill_keep r _ _ fun x hx e => nd.1 (List.mem_map.mpr ⟨x, hx, e⟩), List.getElem?_set_self hl]
    rfl
  | q :: r, u, ws, nd, j + 1, p, h, hl => by
    rw [List.map_cons, List.nodup_cons] at nd
    show (fillW r _ _)[p.2.toNat]? = _
    rw [fill_get r _ _ nd.2 j p h (by rw [List.length_set]; exact hl), List.map_cons, List.take_succ_cons]
    show some (wordS _ ((u + 2 ^ (40 - q.1.toNat) + _) / _)) = some (wordS _ ((u + (2 ^ (40 - q.1.toNat) + _)) / _))
    rw [Nat.add_assoc]
theorem Lc_word (l v : Nat) : Lc (wordS l v) = bitsL l v := by
  unfold Lc wordS
  simp
/-- of two words of a code, sorted, none begins the other -/
theorem code_apart {fs : List Nat} (hs : fs.Pairwise (· ≤ ·)) (h40 : ∀ n ∈ fs, n ≤ 40) (hk : kr fs ≤ 2 ^ 40) {i j l m : Nat} (hi : fs[i]? = some l) (hj : fs[j]? = some m) (hji : j < i) :
    ¬ Cmp (Lc (wordS m (ua fs j / 2 ^ (40 - m)))) (Lc (wordS l (ua fs i / 2 ^ (40 - l)))) := by
  have hil := (List.getElem?_eq_some_iff.mp hi).1
  have hjl := (List.getElem?_eq_some_iff.mp hj).1
  have ei := (List.getElem?_eq_some_iff.mp hi).2
  have ej := (List.getElem?_eq_some_iff.mp hj).2
  have hml : m ≤ l := by
    have := List.pairwise_iff_getElem.mp hs j i hjl hil hji
    omega
  have hl40 := h40 l (List.mem_of_getElem? hi)
  have p : 0 < 2 ^ (40 - l) := Nat.pow_pos (by decide)
  have dv := ua_dvd hs hi i (Nat.le_refl _)
  have room : ua fs i + 2 ^ (40 - l) ≤ 2 ^ 40 := by
    rw [← ua_succ hi]
    have e2 := List.take_append_drop (i + 1) fs
    have := kr_app (fs.take (i + 1)) (fs.drop (i + 1))
    rw [e2] at this
    unfold ua
    omega
  have back : ua fs i / 2 ^ (40 - l) * 2 ^ (40 - l) = ua fs i := Nat.div_mul_cancel dv
  have hv : ua fs i / 2 ^ (40 - l) < 2 ^ l := by
    rw [Nat.div_lt_iff_lt_mul p, ← Nat.pow_add, show l + (40 - l) = 40 by omega]
    omega
  have b := begun_iff hs h40 hk hi hv
  rw [back, decide_eq_false (Nat.lt_irrefl _)] at b
  have gj : fs.getD j 0 = m := by rw [List.getD_eq_getElem?_getD, hj]; rfl
  have no : ¬ Txt.startswith (wordS l (ua fs i / 2 ^ (40 - l))) (wordS m (ua fs j / 2 ^ (40 - m))) = true := fun z => by
    have := List.any_eq_false.mp b _ (List.mem_map.mpr ⟨j, List.mem_range.mpr hji, rfl⟩)
    rw [gj] at this
    exact this z
  rintro (z | z)
  · exact no (starts_iff.mpr z)
  · have le := z.length_le
    rw [Lc_word, Lc_word, bitsL_len, bitsL_len] at le
    have e : Lc (wordS l (ua fs i / 2 ^ (40 - l))) = Lc (wordS m (ua fs j / 2 ^ (40 - m))) := z.eq_of_length (by rw [Lc_word, Lc_word, bitsL_len, bitsL_len]; omega)
    exact no (starts_iff.mpr ⟨[], by rw [List.append_nil]; exact e.symm⟩)
theorem bitsL_bits : ∀ l v, Bits (bitsL l v)
  | 0, _ => fun c hc => by cases hc
  | l + 1, v => fun c hc => by
    rcases List.mem_append.mp (show c ∈ bitsL l (v / 2) ++ [48 + v % 2] from hc) with z | z
    · exact bitsL_bits l _ c z
    · rw [List.mem_singleton.mp z]
      omega
theorem Lc_bits (l v : Nat) : Bits (Lc (wordS l v)) := by
  rw [Lc_word]
  exact bitsL_bits l v
theorem prs_snd (ls : List Nat) : (prs ls).map (fun p => p.2.toNat) = List.range ls.length := by
  unfold prs
  rw [List.map_map]
  refine List.ext_getElem? fun j => ?_
  rw [List.getElem?_map]
  by_cases h : j < ls.length
  · rw [List.getElem?_range h]
    show some (((j : Int)).toNat) = _
    rw [Int.toNat_natCast]
  · rw [List.getElem?_eq_none (by simpa using h)]
    rfl
theorem code_words {ls : List Nat} {ks : List (Int × Int)} (h : IsOrd ls ks) (h40 : ∀ n ∈ ls, n ≤ 40) (hk : kr ls ≤ 2 ^ 40) :
    (∀ (k l : Nat), ls[k]? = some l → ∃ v, (codeS ks ls.length)[k]? = some (wordS l v)) ∧ ((codeS ks ls.length).map Lc).Pairwise fun x y => ¬ Cmp x y := by
  have nd : (ks.map fun p => p.2.toNat).Nodup := by
    have := (h.1.map fun p => p.2.toNat).nodup_iff.mpr (by rw [prs_snd]; exact List.nodup_range)
    exact this
  obtain ⟨fs, hfs⟩ : ∃ fs, fs = ks.map fun p => p.1.toNat := ⟨_, rfl⟩
  have hs : fs.Pairwise (· ≤ ·) := by rw [hfs]; exact h.fst
  have hkf : kr fs ≤ 2 ^ 40 := by rw [hfs, h.kr]; exact hk
  have f40 : ∀ n ∈ fs, n ≤ 40 := fun n hn => by
    rw [hfs] at hn
    obtain ⟨p, hp, rfl⟩ := List.mem_map.mp hn
    obtain ⟨l, k, rfl, hl⟩ := h.mem hp
    show ((l : Int)).toNat ≤ 40
    rw [Int.toNat_natCast]
    exact h40 l (List.mem_of_getElem? hl)
  have one : ∀ (k l : Nat), ls[k]? = some l → ∃ j, ks[j]? = some ((l : Int), (k : Int)) ∧ fs[j]? = some l ∧ (codeS ks ls.length)[k]? = some (wordS l (ua fs j / 2 ^ (40 - l))) := fun k l hl => by
    have hkl := (List.getElem?_eq_some_iff.mp hl).1
    have hm : ((l : Int), (k : Int)) ∈ ks := h.1.mem_iff.mpr (List.mem_of_getElem? (prs_get hl))
    obtain ⟨j, hj⟩ := List.mem_iff_getElem?.mp hm
    have g := fill_get ks 0 (List.replicate ls.length "") nd j _ hj (by rw [List.length_replicate]; exact hkl)
    refine ⟨j, hj, by rw [hfs, List.getElem?_map, hj]; rfl, ?_⟩
    rw [Nat.zero_add] at g
    have e1 : ((l : Int), (k : Int)).1.toNat = l := rfl
    have e2 : ((l : Int), (k : Int)).2.toNat = k := rfl
    rw [e1, e2, ← hfs] at g
    exact g
  refine ⟨fun k l hl => let ⟨j, _, _, h3⟩ := one k l hl; ⟨_, h3⟩, ?_⟩
  rw [List.pairwise_iff_getElem]
  intro x y hx hy hxy
  have cl := codeS_len ks ls.length
  have hx' : x < ls.length := by rw [List.length_map, cl] at hx; exact hx
  have hy' : y < ls.length := by rw [List.length_map, cl] at hy; exact hy
  obtain ⟨jx, a1, a2, a3⟩ := one x _ (List.getElem?_eq_getElem hx')
  obtain ⟨jy, b1, b2, b3⟩ := one y _ (List.getElem?_eq_getElem hy')
  have ex := (List.getElem?_eq_some_iff.mp a3).2
  have ey := (List.getElem?_eq_some_iff.mp b3).2
  rw [List.getElem_map, List.getElem_map, ex, ey]
  rcases Nat.lt_trichotomy jx jy with z | z | z
  · exact code_apart hs f40 hkf b2 a2 z
  · rw [z, b1] at a1
    have := congrArg (fun o : Option (Int × Int) => match o with | some p => p.2 | none => 0) a1
    have e : (y : Int) = (x : Int) := this
    omega
  · exact fun c => code_apart hs f40 hkf a2 b2 z c.symm
end KB

namespace KB
open PySem PySem.Spec PyProof.Rows L2
/-! ### a list of numbers beside the box -/
structure Nb (B0 B H : Hp) (t p : Addr) (c : Nat) (bs : List Nat) : Prop where
  same : Same B0 B
  bx : Bx B H t c
  at_ : B p = some (.lst (bs.map nI))
  nb : B0 p = none
theorem Nb.set {B0 B H : Hp} {t p : Addr} {c : Nat} {bs : List Nat} (N : Nb B0 B H t p c bs) (zs : List Nat) : Nb B0 (upd B p (.lst (zs.map nI))) (upd H p (.lst (zs.map nI))) t p c zs :=
  ⟨same_out N.same N.nb, N.bx.set N.at_, upd_same, N.nb⟩
theorem Nb.hd {B0 B H : Hp} {t p : Addr} {c : Nat} {bs : List Nat} (N : Nb B0 B H t p c bs) : H p = some (.lst (bs.map nI)) := N.bx.at N.at_
theorem Nb.le {B0 B H : Hp} {t p : Addr} {c d : Nat} {bs : List Nat} (N : Nb B0 B H t p c bs) (h : c ≤ d) : Nb B0 B H t p d bs := ⟨N.same, N.bx.le h, N.at_, N.nb⟩
theorem Nb.drw {B0 B H H' : Hp} {t p : Addr} {c d : Nat} {bs : List Nat} (N : Nb B0 B H t p c bs) (T : Bx B H' t d) : Nb B0 B H' t p d bs := ⟨N.same, T, N.at_, N.nb⟩
theorem Nb.put {B0 B H : Hp} {t p : Addr} {c : Nat} {bs : List Nat} (N : Nb B0 B H t p c bs) (j n : Nat) : Nb B0 (upd B p (.lst ((bs.map nI).set j (nI n)))) (upd H p (.lst ((bs.map nI).set j (nI n)))) t p c (bs.set j n) := by
  rw [setN]
  exact N.set _
theorem Nb.app {B0 B H : Hp} {t p : Addr} {c : Nat} {bs : List Nat} (N : Nb B0 B H t p c bs) (n : Nat) : Nb B0 (upd B p (.lst (bs.map nI ++ [nI n]))) (upd H p (.lst (bs.map nI ++ [nI n]))) t p c (bs ++ [n]) := by
  rw [show bs.map nI ++ [nI n] = (bs ++ [n]).map nI by rw [List.map_append]; rfl]
  exact N.set _
theorem Nb.era {B0 B H : Hp} {t p : Addr} {c : Nat} {bs : List Nat} (N : Nb B0 B H t p c bs) (j : Nat) : Nb B0 (upd B p (.lst ((bs.map nI).eraseIdx j))) (upd H p (.lst ((bs.map nI).eraseIdx j))) t p c (bs.eraseIdx j) := by
  rw [eraN bs j]
  exact N.set _
theorem Nb.ins {B0 B H : Hp} {t p : Addr} {c : Nat} {bs : List Nat} (N : Nb B0 B H t p c bs) (j n : Nat) : Nb B0 (upd B p (.lst ((bs.map nI).take j ++ [nI n] ++ (bs.map nI).drop j))) (upd H p (.lst ((bs.map nI).take j ++ [nI n] ++ (bs.map nI).drop j))) t p c (bs.take j ++ [n] ++ bs.drop j) := by
  rw [show (bs.map nI).take j ++ [nI n] ++ (bs.map nI).drop j = (bs.take j ++ [n] ++ bs.drop j).map nI by simp [List.map_take, List.map_drop]]
  exact N.set _
/-- a new list of numbers -/
theorem Bx.nb {B H : Hp} {t p : Addr} {c : Nat} (T : Bx B H t c) (hp : H p = none) (bs : List Nat) : Nb B (upd B p (.lst (bs.map nI))) (upd H p (.lst (bs.map nI))) t p c bs :=
  ⟨same_upd (T.isn hp), T.new hp, upd_same, T.isn hp⟩
/-- what is below the base, too -/
theorem Nb.low {A B0 B H : Hp} {t p : Addr} {c : Nat} {bs : List Nat} (N : Nb B0 B H t p c bs) (s : Same A B0) : Nb A B H t p c bs := ⟨s.trans N.same, N.bx, N.at_, s.free N.nb⟩
/-- the list's place, from its members -/
theorem Nb.at_nat {B0 B H : Hp} {t p : Addr} {c : Nat} {bs : List Nat} {i : Nat} (hi : i < bs.length) : atI (bs.map nI) (i : Int) = some (.int (bs.getD i 0 : Nat)) :=
  atI_nat (j := i) (by rw [List.getElem?_map, List.getD_eq_getElem?_getD, List.getElem?_eq_getElem hi]; rfl)
theorem at_num {bs : List Nat} {i : Nat} (hi : i < bs.length) : atI (bs.map nI) (i : Int) = some (.int (bs.getD i 0 : Nat)) :=
  atI_nat (j := i) (by rw [List.getElem?_map, List.getD_eq_getElem?_getD, List.getElem?_eq_getElem hi]; rfl)
theorem getD_le {bs : List Nat} {i m : Nat} (h : ∀ n ∈ bs, n ≤ m) : bs.getD i 0 ≤ m := by
  rw [List.getD_eq_getElem?_getD]
  cases e : bs[i]? with
  | none => exact Nat.zero_le _
  | some n => exact h n (List.mem_of_getElem? e)
end KB

namespace KB
open PySem PySem.Spec PyProof.Rows L2
/-! ### math.lcm of wide numbers -/
section
variable {X : Cx}
def rLcm : List V → Hp → VK → Prop := fun vs H Q => ∃ a b : Nat, vs = [.int a, .int b] ∧ a < 2 ^ 12000 ∧ b < 2 ^ 12000 ∧ Q (.int (Nat.lcm a b : Nat)) H
theorem cr_lcm : CallR X (.builtin "math.lcm") rLcm := by
  intro pins s σ H vs us Q I r h
  obtain ⟨a, b, rfl, ha, hb, q⟩ := h
  obtain ⟨t, u, rfl⟩ := Vals.int2 r
  have lg : ∀ n : Nat, n < 2 ^ 12000 → n.log2 < 12000 := fun n hn => by
    by_cases h0 : n = 0
    · subst h0
      decide
    · exact (Nat.log2_lt h0).mpr hn
  have h1 : (max 1 ((a : Int)).natAbs).log2 < 12000 := lg _ (by rw [Int.natAbs_natCast]; exact Nat.max_lt.mpr ⟨Nat.lt_of_lt_of_le (by decide) (Nat.pow_le_pow_right (by decide : 0 < 2) (show 1 ≤ 12000 by decide)), ha⟩)
  have h2 : (max ((a : Int)).natAbs ((b : Int)).natAbs).log2 < 12000 := lg _ (by rw [Int.natAbs_natCast, Int.natAbs_natCast]; exact Nat.max_lt.mpr ⟨ha, hb⟩)
  have h3 : ((((Nat.lcm 1 ((a : Int)).natAbs).lcm ((b : Int)).natAbs : Nat) : Int)).natAbs.log2 < bitsLine := by
    rw [PySem.W.mc_lcm_one, Int.natAbs_natCast, Int.natAbs_natCast, Int.natAbs_natCast]
    have e : bitsLine = 134217728 := by decide
    rw [e]
    by_cases h0 : a.lcm b = 0
    · rw [h0]
      decide
    · refine (Nat.log2_lt h0).mpr (Nat.lt_of_le_of_lt (PySem.W.mc_lcm_le a b) ?_)
      have h4 : a * b ≤ 2 ^ 12000 * 2 ^ 12000 := Nat.mul_le_mul (Nat.le_of_lt ha) (Nat.le_of_lt hb)
      rw [← Nat.pow_add] at h4
      exact Nat.lt_of_le_of_lt h4 (Nat.pow_lt_pow_right (by decide) (by decide))
  refine call_function_meets PySem.W.MGF.kind_lcm PySem.W.MGF.plain_lcm PySem.W.MGF.entry_lcm (PySem.W.MGF.args_lcm _ _) (PySem.W.mg_run_lcm a t b u (by omega) (by omega) h3).meets ?_
  rw [PySem.W.mc_lcm_one, Int.natAbs_natCast, Int.natAbs_natCast]
  exact ⟨.int _, H, I.tok _, ⟨_, rfl⟩, q⟩
end
end KB
namespace KB
open PySem PySem.Spec PyProof.Rows L2
/-- e.f within a comprehension -/
theorem pe_fldC {X : Cx} (K : PySem.W.Frag) {e : Expr} {f : Str} {pos : Pos} {ta : TE} (he : PE X e ta) (hb : attributeBase e f X.env (eval e X.env) = eval e X.env) (hK : X.K = K := by rfl) : PE X (.Attribute e f pos) (tFld K ta f) := by
  subst hK
  exact pe_fld he hb
end KB
namespace KB
open PySem PySem.Spec PyProof.Rows L2
/-- a comprehension without a condition -/
theorem tyes {σ : L2.St} {H : Hp} {A B : Hp → Prop} (h : A H) : tYes σ H fun b H3 => if b = true then A H3 else B H3 := by
  show if true = true then A H else B H
  rw [if_pos rfl]
  exact h
end KB
namespace KB
open PySem PySem.Spec PyProof.Rows L2
theorem Sh.lst {C D x : Addr} {H : Hp} {n d : Int} {xs : List V} {o : HO} (h : Sh C H x n d) (e : H D = some (.lst xs)) : Sh C (upd H D o) x n d := by
  obtain ⟨dx, h⟩ := h
  exact ⟨dx, by rw [upd_ne (fun z => by rw [z, e] at h; cases h)]; exact h⟩
end KB

namespace KB
open PySem PySem.Spec PyProof.Rows L2
/-! ### zip(one, other), each a list, a tuple or a text -/
inductive Src | lst (a : Addr) | tup (a : Addr) | txt (x : Str)
def sgnsV (x : Str) : List V := x.cps.toList.map fun c => V.str ⟨#[c]⟩
def Src.v : Src → V
  | .lst a => .ref a
  | .tup a => .ref a
  | .txt x => .str x
def Src.has (K : PySem.W.Frag) (H : Hp) : Src → List V → Prop
  | .lst a, xs => SqL K H a xs
  | .tup a, xs => SqT K H a xs
  | .txt x, xs => xs = sgnsV x
def Src.fp : Src → List Addr
  | .lst a => [a]
  | .tup a => [a]
  | .txt _ => []
def Src.at (t : Tok) (it : Addr) (i : Nat) (h : Heap) : Src → Prop
  | .lst a => h.IsListIter it a i
  | .tup a => h.IsTupleIter it a i
  | .txt x => h.IsStrIter it (strIterType x) x t i
def ItZ (K : PySem.W.Frag) (u1 u2 : Src) : It := ⟨
  fun i H => ∃ (xs ys : List V) (x y : V), u1.has K H xs ∧ u2.has K H ys ∧ xs[i]? = some x ∧ ys[i]? = some y,
  fun i H v H' => ∃ T x y, v = .ref T ∧ H T = none ∧ H' = upd H T (.tup [x, y]) ∧ (∀ xs, u1.has K H xs → xs[i]? = some x) ∧ (∀ ys, u2.has K H ys → ys[i]? = some y),
  fun i H => ∃ xs ys : List V, u1.has K H xs ∧ u2.has K H ys ∧ i ≤ xs.length ∧ i ≤ ys.length ∧ (i = xs.length ∨ i = ys.length)⟩
section
variable {X : Cx} {pins : List (Addr × Obj)} {σ : L2.St} {H : Hp} {s : Shared}
theorem Src.inj (I : Inv X pins σ H s) : ∀ {u : Src} {xs ys : List V}, u.has X.K H xs → u.has X.K H ys → xs = ys
  | .lst _, _, _, h1, h2 => I.list_inj h1 h2
  | .tup _, _, _, h1, h2 => I.tuple_inj h1 h2
  | .txt _, _, _, h1, h2 => h1.trans h2.symm
theorem vals_of {xs : List V} {its : List Value} (rv : Vals xs its) {j : Nat} {x : Value} (h : its.toArray[j]? = some x) : ∃ y, xs[j]? = some y ∧ RelV y x := by
  have hl := rv.length
  have hj : j < its.length := by
    have := (Array.getElem?_eq_some_iff.mp h).1
    simpa using this
  have e : xs[j]? = some xs[j] := List.getElem?_eq_getElem (by omega)
  obtain ⟨u, hu, ru⟩ := rv.get e
  have h' : its[j]? = some x := by simpa using h
  rw [hu] at h'
  cases h'
  exact ⟨_, e, ru⟩
theorem src_draws (I : Inv X pins σ H s) {A : Around} (hh : A.handled = none) {t : Tok} {it : Addr} {i : Nat} : ∀ {u : Src} {xs : List V}, u.has X.K H xs → u.at t it i s.heap → (∀ a ∈ u.fp, a ≠ it) →
    ∃ (St : Nat → Heap → Prop) (P : Nat → Value → Prop), Draws X.prog X.w A it (it :: u.fp) xs.length P St ∧ St i s.heap ∧ (∀ j x, P j x → ∃ y, xs[j]? = some y ∧ RelV y x) ∧ ∀ j h', St j h' → u.at t it j h'
  | .lst a, xs, h, hat, hne => by
    obtain ⟨its, rv, p, _⟩ := I.list h
    have hl : xs.length = its.toArray.size := by rw [rv.length]; simp
    rw [hl]
    exact ⟨_, _, Draws.list hh it a (hne a (List.mem_singleton.mpr rfl)) its.toArray, ⟨hat, p.isList⟩, fun j x hx => vals_of rv hx, fun j h' st => st.1⟩
  | .tup a, xs, h, hat, hne => by
    obtain ⟨its, rv, p, _⟩ := I.tuple h
    have hl : xs.length = its.toArray.size := by rw [rv.length]; simp
    rw [hl]
    exact ⟨_, _, Draws.tuple hh it a (hne a (List.mem_singleton.mpr rfl)) its.toArray, ⟨hat, (show s.heap.IsTuple a its.toArray from p)⟩, fun j x hx => vals_of rv hx, fun j h' st => st.1⟩
  | .txt x, xs, h, hat, hne => by
    have e : xs = sgnsV x := h
    subst e
    have hl : (sgnsV x).length = x.cps.size := by unfold sgnsV; simp
    rw [hl]
    refine ⟨_, _, Draws.text hh it x t, hat, fun j v hv => ?_, fun j h' st => st⟩
    obtain ⟨c, u, hc, rfl⟩ := hv
    refine ⟨.str ⟨#[c]⟩, ?_, ⟨_, rfl⟩⟩
    unfold sgnsV
    rw [List.getElem?_map, Array.getElem?_toList, hc]
    rfl
theorem src_begins (I : Inv X pins σ H s) : ∀ {u : Src} {xs : List V} {val : Value}, u.has X.K H xs → RelV u.v val → ∃ (t : Tok) (o : Obj) (H0 : Heap → Prop), Begins val o H0 ∧ H0 s.heap ∧ (∀ a ∈ u.fp, a < s.heap.objs.size) ∧ ∀ h' it, h'.get? it = some o → u.at t it 0 h'
  | .lst a, xs, val, h, r => by
    obtain ⟨its, rv, p, _⟩ := I.list h
    cases r
    exact ⟨0, _, _, begins_list a its.toArray, p.isList, fun b hb => by rw [List.mem_singleton.mp hb]; exact p.lt, fun h' it hi => ⟨_, hi, rfl, rfl⟩⟩
  | .tup a, xs, val, h, r => by
    obtain ⟨its, rv, p, _⟩ := I.tuple h
    cases r
    have lt : a < s.heap.objs.size := by obtain ⟨o, ho, _⟩ := id p; exact Heap.lt_size ho
    exact ⟨0, _, _, begins_tuple a its.toArray, (show s.heap.IsTuple a its.toArray from p), fun b hb => by rw [List.mem_singleton.mp hb]; exact lt, fun h' it hi => ⟨_, hi, rfl, rfl⟩⟩
  | .txt x, xs, val, h, r => by
    obtain ⟨t, rfl⟩ := r
    exact ⟨t, _, _, begins_text x t, trivial, fun b hb => (by cases hb), fun h' it hi => ⟨_, hi, rfl, rfl⟩⟩
end
theorem turn_zipG {P : Program} {w : World} {K : PySem.W.Frag} {elts : List Expr} {kk : Nat} {tpos : Pos} {u1 u2 : Src} {t1 t2 : Tok} {z TI TO i1 i2 : Addr} (D : ZipSep2 z TI TO i1 i2 (i1 :: u1.fp) (i2 :: u2.fp)) (n1 : ∀ a ∈ u1.fp, a ≠ i1) (n2 : ∀ a ∈ u2.fp, a ≠ i2) :
    Turn P w K (.Tuple elts kk tpos) (ItZ K u1 u2) [z, TI, TO, i1, i2] z (fun i h => IsZip h z TI TO .none ∧ IsTupOf2 h TI (.ref i1) (.ref i2) ∧ (∃ x y, IsTupOf2 h TO x y) ∧ u1.at t1 i1 i h ∧ u2.at t2 i2 i h) where
  mem := by simp
  obj := fun i h st c hc => by
    have atO : ∀ {u : Src} {t : Tok} {it : Addr}, u.at t it i h → ∃ o, h.get? it = some o ∧ ∀ v, o.data ≠ .cell v := fun {u t it} hu => by
      cases u with
      | lst a => obtain ⟨o, e, _, d⟩ := hu; exact ⟨o, e, fun v q => by rw [d] at q; cases q⟩
      | tup a => obtain ⟨o, e, _, d⟩ := hu; exact ⟨o, e, fun v q => by rw [d] at q; cases q⟩
      | txt x => obtain ⟨o, e, _, d⟩ := hu; exact ⟨o, e, fun v q => by rw [d] at q; cases q⟩
    obtain ⟨hz, hTI, ⟨x, y, hTO⟩, h1, h2⟩ := st
    have e' : c = z ∨ c = TI ∨ c = TO ∨ c = i1 ∨ c = i2 := by simpa using hc
    rcases e' with q | q | q | q | q
    · rw [q]; exact ⟨_, hz, fun v q => nomatch q⟩
    · rw [q]; exact ⟨_, hTI, fun v q => nomatch q⟩
    · rw [q]; exact ⟨_, hTO, fun v q => nomatch q⟩
    · rw [q]; exact atO h1
    · rw [q]; exact atO h2
  keep := fun i h h' st k => by
    have atK : ∀ {u : Src} {t : Tok} {it : Addr}, it ∈ [z, TI, TO, i1, i2] → u.at t it i h → u.at t it i h' := fun {u t it} hm hu => by
      cases u with
      | lst a => obtain ⟨o, e, r⟩ := hu; exact ⟨o, k it hm o e, r⟩
      | tup a => obtain ⟨o, e, r⟩ := hu; exact ⟨o, k it hm o e, r⟩
      | txt x => obtain ⟨o, e, r⟩ := hu; exact ⟨o, k it hm o e, r⟩
    obtain ⟨hz, hTI, ⟨x, y, hTO⟩, h1, h2⟩ := st
    exact ⟨k z (by simp) _ hz, k TI (by simp) _ hTI, ⟨x, y, k TO (by simp) _ hTO⟩, atK (by simp) h1, atK (by simp) h2⟩
  item := by
    intro X hP hw hK hc i pins s σ H E I hf st hg
    subst hP hw hK
    obtain ⟨hz, hTI, ⟨x0, y0, hTO⟩, h1, h2⟩ := st
    obtain ⟨xs, ys, x, y, hqx, hqy, hx, hy⟩ := hg
    obtain ⟨St1, P1, D1, s1, r1, b1⟩ := src_draws I (A := X.A.in1) (show X.A.in1.handled = none from I.ok.hd hc) hqx h1 n1
    obtain ⟨St2, P2, D2, s2, r2, b2⟩ := src_draws I (A := X.A.in1) (show X.A.in1.handled = none from I.ok.hd hc) hqy h2 n2
    have hzl : z < s.heap.objs.size := Heap.lt_size hz
    have l1 := (List.getElem?_eq_some_iff.mp hx).1
    have l2 := (List.getElem?_eq_some_iff.mp hy).1
    have li : ∀ {u : Src} {t : Tok} {it : Addr}, u.at t it i s.heap → it < s.heap.objs.size := fun {u t it} hu => by
      cases u with
      | lst a => obtain ⟨o, e, _⟩ := hu; exact Heap.lt_size e
      | tup a => obtain ⟨o, e, _⟩ := hu; exact Heap.lt_size e
      | txt x => obtain ⟨o, e, _⟩ := hu; exact Heap.lt_size e
    have li1 := li h1
    have li2 := li h2
    refine wpAny_pyNext_zipD2_item D D1 D2 hz hTI hTO s1 s2 l1 l2 fun u v h' tk p1 p2 z' TO' s1' s2' hT hsz hk => ?_
    obtain ⟨x', hx', ru⟩ := r1 i u p1
    obtain ⟨y', hy', rv⟩ := r2 i v p2
    rw [hx] at hx'
    cases hx'
    rw [hy] at hy'
    cases hy'
    refine ⟨_, rfl, wpAny_letOwnedTupleGo_zip (s := { s with heap := h', toks := tk }) z' fun h'' z'' sb => ?_⟩
    have hT2 : h''.get? s.heap.objs.size = some { cls := .type "tuple", data := .seq #[u, v] } := (sb.2 _ (Nat.ne_of_gt hzl)).trans hT
    have new : ObjOk X.prog X.w (upd H s.heap.objs.size (.tup [x, y])) h'' s.heap.objs.size (.tup [x, y]) :=
      ⟨by show 2 ≤ sizeLine; decide, [u, v], .cons ru (.cons rv .nil), ⟨_, hT2, rfl, _, rfl⟩⟩
    have I1 : Inv X pins σ (upd H s.heap.objs.size (.tup [x, y])) { s with heap := h'', toks := tk } :=
      I.turnedNew (t' := tk) (ch := [z, TI, TO, i1, i2]) (fun c o hb q => (sb.2 c (fun q' => hb (by simp [q']))).trans (hk c o (fun q' => hb (by simp [q'])) (fun q' => hb (by simp [q'])) (fun q' => hb (by simp [q'])) (fun q' => hb (by simp [q'])) q)) hf (Nat.le_refl _) new
    have aK : ∀ {u : Src} {t : Tok} {it : Addr}, it ≠ z → u.at t it (i + 1) h' → u.at t it (i + 1) h'' := fun {u t it} hm hu => by
      cases u with
      | lst a => obtain ⟨o, e, r⟩ := hu; exact ⟨o, (sb.2 it hm).trans e, r⟩
      | tup a => obtain ⟨o, e, r⟩ := hu; exact ⟨o, (sb.2 it hm).trans e, r⟩
      | txt x => obtain ⟨o, e, r⟩ := hu; exact ⟨o, (sb.2 it hm).trans e, r⟩
    refine ⟨.ref s.heap.objs.size, _, I1, rfl, ⟨_, x, y, rfl, I.hok.fresh (Nat.le_refl _), rfl, fun l hl => by rw [Src.inj I hl hqx]; exact hx, fun l hl => by rw [Src.inj I hl hqy]; exact hy⟩, ⟨z'', ?_, ⟨u, v, ?_⟩, aK D.zi1.symm (b1 _ _ s1'), aK D.zi2.symm (b2 _ _ s2')⟩, fun c hcm => ?_⟩
    · exact (sb.2 _ D.TIz).trans (hk _ _ D.TIz D.TITO D.TIi1 D.TIi2 hTI)
    · exact (sb.2 _ D.TOz).trans TO'
    · have hlt : c < s.heap.objs.size := by
        have e' : c = z ∨ c = TI ∨ c = TO ∨ c = i1 ∨ c = i2 := by simpa using hcm
        rcases e' with q | q | q | q | q
        · rw [q]; exact hzl
        · rw [q]; exact Heap.lt_size hTI
        · rw [q]; exact Heap.lt_size hTO
        · rw [q]; exact li1
        · rw [q]; exact li2
      rw [upd_ne (Nat.ne_of_lt hlt)]
      exact (hf c hcm).1
  done := by
    intro X hP hw hK hc i pins s σ H E I hf st hg
    subst hP hw hK
    obtain ⟨hz, hTI, ⟨x0, y0, hTO⟩, h1, h2⟩ := st
    obtain ⟨xs, ys, hqx, hqy, le1, le2, hend⟩ := hg
    obtain ⟨St1, P1, D1, s1, r1, b1⟩ := src_draws I (A := X.A.in1) (show X.A.in1.handled = none from I.ok.hd hc) hqx h1 n1
    obtain ⟨St2, P2, D2, s2, r2, b2⟩ := src_draws I (A := X.A.in1) (show X.A.in1.handled = none from I.ok.hd hc) hqy h2 n2
    exact wpAny_pyNext_zipD2_end D D1 D2 hz hTI hTO s1 s2 le1 le2 hend fun h' tk hk => ⟨rfl, I.turnedL (t' := tk) (ch := [z, TI, TO, i1, i2]) (fun c o hb q =>
      hk c o (fun q' => hb (by simp [q'])) (fun q' => hb (by simp [q'])) (fun q' => hb (by simp [q'])) (fun q' => hb (by simp [q'])) q) hf⟩
  self := fun A i s Q E st h => wpAny_pyIter_zip st.1 h
/-- what a walk over a zip needs to know -/
structure LikeZp (J : It) (S : Hp → Prop) (xs ys : List V) : Prop where
  mono : ∀ H H', Same H H' → S H → S H'
  go : ∀ i H, S H → i < xs.length → i < ys.length → J.go i H
  yld : ∀ i H v H', S H → J.yld i H v H' → ∃ T x y, v = .ref T ∧ H T = none ∧ H' = upd H T (.tup [x, y]) ∧ xs[i]? = some x ∧ ys[i]? = some y
  stop : ∀ i H, S H → i ≤ xs.length → i ≤ ys.length → (i = xs.length ∨ i = ys.length) → J.stop i H
theorem Src.mono {K : PySem.W.Frag} {H H' : Hp} (sm : Same H H') : ∀ {u : Src} {xs : List V}, u.has K H xs → u.has K H' xs
  | .lst _, _, h => sm.seq h
  | .tup _, _, h => sameT sm h
  | .txt _, _, h => h
theorem likeZp (K : PySem.W.Frag) (u1 u2 : Src) (xs ys : List V) : LikeZp (ItZ K u1 u2) (fun H => u1.has K H xs ∧ u2.has K H ys) xs ys where
  mono := fun H H' sm h => ⟨Src.mono sm h.1, Src.mono sm h.2⟩
  go := fun i H h l1 l2 => ⟨xs, ys, _, _, h.1, h.2, List.getElem?_eq_getElem l1, List.getElem?_eq_getElem l2⟩
  yld := fun i H v H' h y => by
    obtain ⟨T, x, y', rfl, hT, rfl, f1, f2⟩ := y
    exact ⟨T, x, y', rfl, hT, rfl, f1 _ h.1, f2 _ h.2⟩
  stop := fun i H h l1 l2 e => ⟨xs, ys, h.1, h.2, l1, l2, e⟩
def iZipJ (K : PySem.W.Frag) (ta : TA) : TI := fun σ H R => ta σ H fun vs H1 => ∃ (u1 u2 : Src) (xs ys : List V), vs = [u1.v, u2.v] ∧ u1.has K H1 xs ∧ u2.has K H1 ys ∧ ∀ J S, LikeZp J S xs ys → S H1 → R J H1
theorem pi_zipJ {X : Cx} {e e2 : Expr} {ta : TA} {p pos tpos : Pos} {elts : List Expr} {kk : Nat} (hg : Gl X "zip") (hm : X.mg "zip" = none) (ha : PA X [e, e2] ta)
    (hs : starEach [e, e2] X.env = (false, eval e X.env) :: starEach [e2] X.env := by rfl) (hpl : (backTo pos (starEach [e2] X.env)).any (·.1) = false := by rfl) :
    PI X (.Tuple elts kk tpos) (.Call (.Name "zip" p) [e, e2] [] pos) (iZipJ X.K ta) := by
  refine ⟨fun pins s σ H R I h => ?_⟩
  refine Call_ (ld_blt I hg hm PyProof.Rows.boot_zip (PyProof.Rows.callWith_type1 (thn (ha.run pos pins s σ H _ I h) fun us s1 ⟨vs, H1, I1, r1, q1⟩ => ?_) hs hpl))
  obtain ⟨u1, u2, xs, ys, ex, hx, hy, q1⟩ := q1
  subst ex
  cases r1 with
  | cons r rr =>
    cases rr with
    | cons r' rr =>
      cases rr
      obtain ⟨t1, o1, H01, B1, k1, a1, c1⟩ := src_begins I1 hx r
      obtain ⟨t2, o2, H02, B2, k2, a2, c2⟩ := src_begins I1 hy r'
      refine zip_begins2 B1 B2 k1 k2 fun h' hz hTI hTO g1 g2 hsz hk => wpAny_pyIter_zip hz ?_
      have I2 : Inv X pins σ H1 { s1 with heap := h' } := I1.kept (t' := s1.toks) hk
      have fresh5 : ∀ c, c ∈ [s1.heap.objs.size + 4, s1.heap.objs.size + 2, s1.heap.objs.size + 3, s1.heap.objs.size, s1.heap.objs.size + 1] → FpOk X pins H1 c := fun c hcm => by
        have e' : c = s1.heap.objs.size + 4 ∨ c = s1.heap.objs.size + 2 ∨ c = s1.heap.objs.size + 3 ∨ c = s1.heap.objs.size ∨ c = s1.heap.objs.size + 1 := by simpa using hcm
        have hle : s1.heap.objs.size ≤ c := by
          rcases e' with z | z | z | z | z
          · rw [z]; exact Nat.le_add_right _ _
          · rw [z]; exact Nat.le_add_right _ _
          · rw [z]; exact Nat.le_add_right _ _
          · rw [z]; exact Nat.le_refl _
          · rw [z]; exact Nat.le_add_right _ _
        exact I1.fpOk hle (I1.hok.fresh hle)
      have S : ZipSep2 (s1.heap.objs.size + 4) (s1.heap.objs.size + 2) (s1.heap.objs.size + 3) s1.heap.objs.size (s1.heap.objs.size + 1) (s1.heap.objs.size :: u1.fp) ((s1.heap.objs.size + 1) :: u2.fp) := zip_sep2 a1 a2
      refine ⟨s1.heap.objs.size + 4, [s1.heap.objs.size + 4, s1.heap.objs.size + 2, s1.heap.objs.size + 3, s1.heap.objs.size, s1.heap.objs.size + 1], _, _, H1, rfl, I2, turn_zipG (t1 := t1) (t2 := t2) S (fun a ha => Nat.ne_of_lt (a1 a ha)) (fun a ha => Nat.ne_of_lt (Nat.lt_succ_of_lt (a2 a ha))), ⟨hz, hTI, ⟨_, _, hTO⟩, c1 _ _ g1, c2 _ _ g2⟩, fresh5, q1 _ _ (likeZp X.K u1 u2 xs ys) ⟨hx, hy⟩⟩
theorem for_zipJ {J : It} {S : Hp → Prop} {xs ys : List V} (L : LikeZp J S xs ys) {n : Nat} (hn : n = min xs.length ys.length) {g : TG} {tb : TS} {D : Ends} {σ : L2.St} {H : Hp} (Pv : Nat → L2.St → Hp → Prop) (h0 : Pv 0 σ H) (hl : ∀ i σ H, i ≤ n → Pv i σ H → S H)
    (hs : ∀ i x y σ H, xs[i]? = some x → ys[i]? = some y → Pv i σ H → ∀ T, H T = none → g (.ref T) σ (upd H T (.tup [x, y])) fun σ2 H2 => tb { D with nx := Pv (i + 1), ct := Pv (i + 1), bk := D.nx } σ2 H2) (hd : ∀ σ H, Pv n σ H → D.nx σ H) :
    ∃ W : Nat → Nat → L2.St → Hp → Prop, (∃ m, W 0 m σ H) ∧ ∀ i m σ H, W i m σ H →
      (J.stop i H ∧ D.nx σ H) ∨ (J.go i H ∧ ∃ N : L2.St → Hp → Prop, (∀ σ' H', N σ' H' → ∃ m', m' < m ∧ W (i + 1) m' σ' H') ∧ ∀ v H', J.yld i H v H' → g v σ H' fun σ2 H2 => tb { D with nx := N, ct := N, bk := D.nx } σ2 H2) := by
  subst hn
  refine ⟨fun i m σ H => m = min xs.length ys.length - i ∧ i ≤ min xs.length ys.length ∧ Pv i σ H, ⟨_, rfl, Nat.zero_le _, h0⟩, ?_⟩
  rintro i m σ H ⟨rfl, hi, p⟩
  have q := hl i σ H hi p
  by_cases hlt : i < min xs.length ys.length
  · refine .inr ⟨L.go i H q (by omega) (by omega), Pv (i + 1), fun σ' H' p' => ⟨min xs.length ys.length - (i + 1), by omega, rfl, hlt, p'⟩, fun v H' y => ?_⟩
    obtain ⟨T, x, y', rfl, hT, rfl, hx, hy⟩ := L.yld i H v H' q y
    exact hs i x y' σ H hx hy p T hT
  · have e : i = min xs.length ys.length := by omega
    subst e
    exact .inl ⟨L.stop _ H q (by omega) (by omega) (by omega), hd σ H p⟩
theorem lc_zipJ {J : It} {S : Hp → Prop} {xs ys : List V} (L : LikeZp J S xs ys) {n : Nat} (hn : n = min xs.length ys.length) {g : TG} {tt : TT} {te : TE} {vs : List Nat} {σ : L2.St} {H1 : Hp} {D : Addr} {Qd : Hp → Prop} (Pv : Nat → Hp → Prop) (h0 : Pv 0 (upd H1 D (.lst []))) (hl : ∀ i H, i ≤ n → Pv i H → S H)
    (hs : ∀ i x y H, xs[i]? = some x → ys[i]? = some y → Pv i H → ∀ T, H T = none → g (.ref T) (wipe σ vs) (upd H T (.tup [x, y])) fun σ2 H2 => wipe σ2 vs = wipe σ vs ∧ tt σ2 H2 fun b H3 =>
      if b = true then te σ2 H3 fun y H4 => ∃ acc, H4 D = some (.lst acc) ∧ acc.length < sizeLine ∧ Pv (i + 1) (upd H4 D (.lst (acc ++ [y]))) else Pv (i + 1) H3) (hd : ∀ H, Pv n H → Qd H) :
    ∃ W : Nat → Nat → Hp → Prop, (∃ m, W 0 m (upd H1 D (.lst []))) ∧ ∀ i m H, W i m H →
      (J.stop i H ∧ Qd H) ∨ (J.go i H ∧ ∃ Nx : Hp → Prop, (∀ H', Nx H' → ∃ m', m' < m ∧ W (i + 1) m' H') ∧ ∀ x H', J.yld i H x H' → g x (wipe σ vs) H' fun σ2 H2 => wipe σ2 vs = wipe σ vs ∧ tt σ2 H2 fun b H3 =>
        if b = true then te σ2 H3 fun y H4 => ∃ acc, H4 D = some (.lst acc) ∧ acc.length < sizeLine ∧ Nx (upd H4 D (.lst (acc ++ [y]))) else Nx H3) := by
  subst hn
  refine ⟨fun i m H => m = min xs.length ys.length - i ∧ i ≤ min xs.length ys.length ∧ Pv i H, ⟨_, rfl, Nat.zero_le _, h0⟩, ?_⟩
  rintro i m H ⟨rfl, hi, p⟩
  have q := hl i H hi p
  by_cases hlt : i < min xs.length ys.length
  · refine .inr ⟨L.go i H q (by omega) (by omega), Pv (i + 1), fun H' p' => ⟨min xs.length ys.length - (i + 1), by omega, rfl, hlt, p'⟩, fun v H' y => ?_⟩
    obtain ⟨T, x, y', rfl, hT, rfl, hx, hy⟩ := L.yld i H v H' q y
    exact hs i x y' H hx hy p T hT
  · have e : i = min xs.length ys.length := by omega
    subst e
    exact .inl ⟨L.stop _ H q (by omega) (by omega) (by omega), hd H p⟩
end KB

namespace KB
open PySem PySem.Spec PyProof.Rows L2
/-! ### an own class whose __init__ lets nothing out -/
structure Mak (P : Program) (w : World) (K : PySem.W.Frag) (mg : Str → Option Value) (base : Heap) (k : Nat) (x : Str) (C : Addr) (sp : Sp) : Prop where
  ex : ∃ (f : Addr) (fd : FuncData) (ps : List Str), Mk K C f ∧ FnOk P w K mg base CX0 k f fd ps sp ∧ mg x = some (.ref C) ∧ Binds K fd ps []
section
variable {X : Cx} {x C : _} {k j : Nat} {sp : Sp} {e : Expr} {es : List Expr} {t : TA} {p pos : Pos}
theorem pe_mk {x : Str} {C : Addr} (c : Mak X.prog X.w X.K X.mg X.base k x C sp) (hr : Room j X.A) (hk : k + 1 ≤ j) (hg : Gl X x) (ha : PA X (e :: es) t)
    (hdb : (x == ("__debug__" : Str)) = false := by decide) (he : starEach (e :: es) X.env = (false, eval e X.env) :: starEach es X.env := by rfl) (hpl : (backTo pos (starEach es X.env)).any (·.1) = false := by rfl) :
    PE X (.Call (.Name x p) (e :: es) [] pos) (tMake C sp [] E0 t) := by
  obtain ⟨f, fd, ps, M, F, hm, b⟩ := c.ex
  exact pe_make M F (hr.mono hk) hg hm b .nil pass0 ha hdb he hpl
end
/-- the list's repetition by a text's or number's count, and numbers not at their place -/
def misL (w r : Str) : Nat := ((w.cps.toList.zip r.cps.toList).filter fun p => p.1 != p.2).length
end KB
namespace KB
open PySem PySem.Spec PyProof.Rows L2
theorem SqL.offI {K : PySem.W.Frag} {H : Hp} {a x C dx : Addr} {xs : List V} {fs : List (Str × V)} {o : HO} (h : SqL K H a xs) (hx : H x = some (.ins C dx fs)) : SqL K (upd H x o) a xs := by
  rcases h with (h | ⟨o', h⟩) | h
  · exact .inl (.inl (by rw [upd_ne (fun e => by rw [e, hx] at h; cases h)]; exact h))
  · exact .inl (.inr ⟨o', by rw [upd_ne (fun e => by rw [e, hx] at h; cases h)]; exact h⟩)
  · exact .inr h
theorem SqT.offI {K : PySem.W.Frag} {H : Hp} {a x C dx : Addr} {xs : List V} {fs : List (Str × V)} {o : HO} (h : SqT K H a xs) (hx : H x = some (.ins C dx fs)) : SqT K (upd H x o) a xs := by
  rcases h with (h | ⟨o', h⟩) | h
  · exact .inl (.inl (by rw [upd_ne (fun e => by rw [e, hx] at h; cases h)]; exact h))
  · exact .inl (.inr ⟨o', by rw [upd_ne (fun e => by rw [e, hx] at h; cases h)]; exact h⟩)
  · exact .inr h
/-- tuple(x) of a list or a tuple -/
theorem tuple_of {K : PySem.W.Frag} {H : Hp} {a : Addr} {xs : List V} {Q : VK} (h : SqL K H a xs ∨ SqT K H a xs) (q : ∀ H' p, Same H H' → SqT K H' p xs → Q (.ref p) H') :
    ∃ p ys, [V.ref a] = [V.ref p] ∧ ((SqL K H p ys ∧ ∀ l, H l = none → Q (.ref l) (upd H l (.tup ys))) ∨ SqT K H p ys ∧ Q (.ref p) H) := by
  rcases h with h | h
  · exact ⟨a, xs, rfl, .inl ⟨h, fun l hl => q _ l (same_upd hl) (SqT.of upd_same)⟩⟩
  · exact ⟨a, xs, rfl, .inr ⟨h, q H a (fun _ _ e => e) h⟩⟩
end KB
namespace KB
open PySem PySem.Spec PyProof.Rows L2
theorem tup_or {K : PySem.W.Frag} {H : Hp} {a : Addr} {xs : List V} {Q : VK} (h : SqL K H a xs ∨ SqT K H a xs) (q : ∀ H' p, Same H H' → SqT K H' p xs → Q (.ref p) H') :
    (SqL K H a xs ∧ ∀ l, H l = none → Q (.ref l) (upd H l (.tup xs))) ∨ SqT K H a xs ∧ Q (.ref a) H := by
  rcases h with h | h
  · exact .inl ⟨h, fun l hl => q _ l (same_upd hl) (SqT.of upd_same)⟩
  · exact .inr ⟨h, q H a (fun _ _ e => e) h⟩
end KB
namespace KB
theorem filt_step (p : Nat → Bool) (i : Nat) : (List.range (i + 1)).filter p = (List.range i).filter p ++ (if p i = true then [i] else []) := by
  rw [List.range_succ, List.filter_append]
  congr 1
  cases h : p i <;> simp [h]
theorem filt_le (p : Nat → Bool) (i : Nat) : ((List.range i).filter p).length ≤ i := by
  have := List.length_filter_le p (List.range i)
  rwa [List.length_range] at this
end KB
namespace KB
open PySem PySem.Spec PyProof.Rows L2
theorem in_addS {X : Cx} : InOp X .Add (fun x y H Q => ∃ i j, x = .str i ∧ y = .str j ∧ i.length + j.length ≤ sizeLine ∧ Q (.str (i ++ j)) H) := fun pins s σ H x y u v Q I rx ry h => iop_add_str pins s σ H x y u v Q I rx ry h
def LB : Nat := 1000
theorem LB_eq : LB = 1000 := rfl
theorem len_app (a b : Str) : (a ++ b).length = a.length + b.length := by
  show (a.cps ++ b.cps).size = a.cps.size + b.cps.size
  rw [Array.size_append]
end KB
namespace KB
open PySem PySem.Spec PyProof.Rows L2
theorem same_self {H : Hp} {x : Addr} {o : HO} (h : H x = some o) : Same (upd H x o) H := fun b u e => by
  by_cases hb : b = x
  · subst hb
    rw [upd_same] at e
    rw [h]
    exact e
  · rw [upd_ne hb] at e
    exact e
end KB
namespace KB
open PySem PySem.Spec PyProof.Rows L2
/-- sep.join(xs) within a comprehension -/
def tJoinC (K : PySem.W.Frag) (to te : TE) : TE := tM1 (fun x xs H Q => ∃ a p, ∃ ys : List Str, x = .str a ∧ xs = [.ref p] ∧ (SqL K H p (ys.map V.str) ∨ SqT K H p (ys.map V.str)) ∧ (ys.map (·.length)).sum + ys.length * a.length ≤ 16777216 ∧ Q (.str (Txt.join a ys)) H) to te
theorem pe_joinC {X : Cx} (K : PySem.W.Frag) {o e : Expr} {to te : TE} {apos pos : Pos} (ho : PE X o to) (he : PE X e te) (hs : starEach [e] X.env = [(false, eval e X.env)] := by rfl) (hbase : attributeBase o "join" X.env (eval o X.env) = eval o X.env := by rfl) (hline : (apos.endLine == pos.line) = true := by rfl) (hK : X.K = K := by rfl) :
    PE X (.Call (.Attribute o "join" apos) [e] [] pos) (tJoinC K to te) := by
  subst hK
  exact pe_join ho he hs hbase hline
end KB
namespace KB
open PySem PySem.Spec PyProof.Rows L2
/-! ### a list of strings beside the tape -/
structure Ns (B0 B H : Hp) (t p : Addr) (c : Nat) (ws : List Str) : Prop where
  same : Same B0 B
  tp : Tp B H t c
  at_ : B p = some (.lst (ws.map V.str))
  nb : B0 p = none
theorem Ns.set {B0 B H : Hp} {t p : Addr} {c : Nat} {ws : List Str} (N : Ns B0 B H t p c ws) (zs : List Str) : Ns B0 (upd B p (.lst (zs.map V.str))) (upd H p (.lst (zs.map V.str))) t p c zs :=
  ⟨same_out N.same N.nb, N.tp.set N.at_, upd_same, N.nb⟩
theorem Ns.hd {B0 B H : Hp} {t p : Addr} {c : Nat} {ws : List Str} (N : Ns B0 B H t p c ws) : H p = some (.lst (ws.map V.str)) := N.tp.at N.at_
theorem Ns.le {B0 B H : Hp} {t p : Addr} {c d : Nat} {ws : List Str} (N : Ns B0 B H t p c ws) (h : c ≤ d) : Ns B0 B H t p d ws := ⟨N.same, N.tp.le h, N.at_, N.nb⟩
theorem Ns.drw {B0 B H H' : Hp} {t p : Addr} {c d : Nat} {ws : List Str} (N : Ns B0 B H t p c ws) (T : Tp B H' t d) : Ns B0 B H' t p d ws := ⟨N.same, T, N.at_, N.nb⟩
theorem Ns.app {B0 B H : Hp} {t p : Addr} {c : Nat} {ws : List Str} (N : Ns B0 B H t p c ws) (z : Str) : Ns B0 (upd B p (.lst (ws.map V.str ++ [.str z]))) (upd H p (.lst (ws.map V.str ++ [.str z]))) t p c (ws ++ [z]) := by
  rw [show ws.map V.str ++ [V.str z] = (ws ++ [z]).map V.str by rw [List.map_append]; rfl]
  exact N.set _
theorem Tp.ns {B H : Hp} {t p : Addr} {c : Nat} (T : Tp B H t c) (hp : H p = none) (ws : List Str) : Ns B (upd B p (.lst (ws.map V.str))) (upd H p (.lst (ws.map V.str))) t p c ws :=
  ⟨same_upd (T.isn hp), T.new hp, upd_same, T.isn hp⟩
theorem at_strs {ws : List Str} {i : Nat} (hi : i < ws.length) : atI (ws.map V.str) (i : Int) = some (.str (ws.getD i "")) :=
  atI_nat (j := i) (by rw [List.getElem?_map, List.getD_eq_getElem?_getD, List.getElem?_eq_getElem hi]; rfl)
/-! ### bit words -/
theorem isB_all {z : Str} : isB z = true ↔ ∀ c ∈ z.cps.toList, c = 48 ∨ c = 49 := by
  constructor
  · intro h c hc
    exact isB_mem h hc
  · intro h
    show z.cps.toList.all (("01" : Str)).cps.contains = true
    have e01 : (("01" : Str)).cps = #[48, 49] := by decide
    rw [e01, List.all_eq_true]
    intro c hc
    rcases h c hc with e | e <;> rw [e] <;> simp
theorem isB_app {a b : Str} (h1 : isB a = true) (h2 : isB b = true) : isB (a ++ b) = true := by
  rw [isB_all] at h1 h2 ⊢
  intro c hc
  have hc' : c ∈ (a.cps ++ b.cps).toList := hc
  rw [Array.toList_append] at hc'
  rcases List.mem_append.mp hc' with z | z
  · exact h1 c z
  · exact h2 c z
theorem isB_rep {z : Str} {k : Int} (h : isB z = true) : isB (repS z k) = true := by
  rw [isB_all] at h ⊢
  intro c hc
  have hc' : c ∈ ((List.replicate k.toNat z.cps.toList).flatten).toArray.toList := hc
  have hc2 : c ∈ (List.replicate k.toNat z.cps.toList).flatten := by simpa using hc'
  obtain ⟨l, hl, hcl⟩ := List.mem_flatten.mp hc2
  rw [List.eq_of_mem_replicate hl] at hcl
  exact h c hcl
theorem isB_cut {z : Str} {lo hi : Option Int} (h : isB z = true) : isB (cutS z lo hi) = true := by
  rw [isB_all] at h ⊢
  intro c hc
  have hc' : c ∈ ((z.cps.toList.drop (HT.sIx z.length 0 lo)).take (HT.sIx z.length z.length hi - HT.sIx z.length 0 lo)).toArray.toList := hc
  have hc2 : c ∈ (z.cps.toList.drop (HT.sIx z.length 0 lo)).take (HT.sIx z.length z.length hi - HT.sIx z.length 0 lo) := by simpa using hc'
  exact h c (List.mem_of_mem_drop (List.mem_of_mem_take hc2))
theorem cut_len {z : Str} {k : Nat} (h : k ≤ z.length) : (cutS z none (some (k : Int))).length = k := by
  show (((z.cps.toList.drop (HT.sIx z.length 0 none)).take (HT.sIx z.length z.length (some (k : Int)) - HT.sIx z.length 0 none)).toArray).size = k
  have e2 : HT.sIx z.length 0 none = 0 := rfl
  rw [HT.sIx_nat, e2, Nat.sub_zero, List.drop_zero, List.size_toArray, List.length_take, Array.length_toList]
  have : z.length = z.cps.size := rfl
  omega
end KB
namespace KB
open PySem PySem.Spec PyProof.Rows L2
theorem isB_one : isB "1" = true := isB_all.mpr fun c hc => .inr (by
  have e : (("1" : Str)).cps.toList = [49] := by decide
  rw [e] at hc
  exact List.mem_singleton.mp hc)
theorem isB_zero : isB "0" = true := isB_all.mpr fun c hc => .inl (by
  have e : (("0" : Str)).cps.toList = [48] := by decide
  rw [e] at hc
  exact List.mem_singleton.mp hc)
theorem four_bits (a b c d : Bool) : ∃ n : Nat, n ≤ 4 ∧ ((((if a = true then 1 else 0) + (if b = true then 1 else 0) : Int) + (if c = true then 1 else 0) : Int) + (if d = true then 1 else 0) : Int) = (n : Int) := by
  cases a <;> cases b <;> cases c <;> cases d <;> exact ⟨_, by decide, rfl⟩
theorem sum_signs (cs : List Nat) : ((cs.map chS).map (·.length)).sum = cs.length := by
  induction cs with
  | nil => rfl
  | cons c r ih =>
    rw [List.map_cons, List.map_cons, List.sum_cons, ih, List.length_cons]
    show 1 + r.length = _
    omega
end KB
namespace KB
open PySem PySem.Spec PyProof.Rows L2
/-- the base takes up all that is no list -/
theorem Tp.grow {B H : Hp} {t : Addr} {c : Nat} (T : Tp B H t c) : ∃ B', Same B B' ∧ Tp B' H t c ∧ ∀ a o, H a = some o → (∀ xs, o ≠ .lst xs) → B' a = some o := by
  obtain ⟨sm, b, g, gs, sd, ct, h1, h2, h3, h4, h5⟩ := T
  refine ⟨fun a => if a = t ∨ a = g then none else H a, fun a o e => ?_, ⟨fun a o e => ?_, ?_, g, gs, sd, ct, ?_, h2, h3, h4, h5⟩, fun a o e n => ?_⟩
  · have n1 : a ≠ t := fun z => by rw [z, b] at e; cases e
    have n2 : a ≠ g := fun z => by rw [z, h1] at e; cases e
    show (if a = t ∨ a = g then none else H a) = some o
    rw [if_neg (fun z => z.elim n1 n2)]
    exact sm _ _ e
  · have e' : (if a = t ∨ a = g then none else H a) = some o := e
    split at e'
    · cases e'
    · exact e'
  · show (if t = t ∨ t = g then none else H t) = none
    rw [if_pos (.inl rfl)]
  · show (if g = t ∨ g = g then none else H g) = none
    rw [if_pos (.inr rfl)]
  · have n1 : a ≠ t := fun z => by rw [z, h3] at e; exact n _ (Option.some.inj e).symm
    have n2 : a ≠ g := fun z => by rw [z, h4] at e; exact n _ (Option.some.inj e).symm
    show (if a = t ∨ a = g then none else H a) = some o
    rw [if_neg (fun z => z.elim n1 n2)]
    exact e
theorem SqT.up {K : PySem.W.Frag} {H B : Hp} {a : Addr} {xs : List V} (h : SqT K H a xs) (k : ∀ a o, H a = some o → (∀ xs, o ≠ .lst xs) → B a = some o) : SqT K B a xs := by
  rcases h with (h | ⟨o', h⟩) | h
  · exact .inl (.inl (k _ _ h fun _ e => by cases e))
  · exact .inl (.inr ⟨o', k _ _ h fun _ e => by cases e⟩)
  · exact .inr h
theorem int_zero : PySem.intText? (⟨#[48]⟩ : Str) = some 0 := by decide +kernel
theorem int_one : PySem.intText? (⟨#[49]⟩ : Str) = some 1 := by decide +kernel
end KB

namespace KB
open PySem PySem.Spec PyProof.Rows L2
/-! ### what a heap holds beside another one; bases that take up what was made -/
def dif (B B' : Hp) : Hp := fun a => match B a with
  | none => B' a
  | some _ => none
theorem dif_at {B B' : Hp} {a : Addr} {o : HO} (h : B a = none) (h' : B' a = some o) : dif B B' a = some o := by
  unfold dif
  rw [h]
  exact h'
theorem dif_same {B B' : Hp} : Same (dif B B') B' := fun a o e => by
  unfold dif at e
  split at e
  · exact e
  · cases e
theorem dif_off {B B' : Hp} {a : Addr} {o : HO} (h : B a = some o) : dif B B' a = none := by
  unfold dif
  rw [h]
/-- B and what H' holds beside H -/
def uni (B H H' : Hp) : Hp := fun a => match H a with
  | none => H' a
  | some _ => B a
theorem uni_new {B H H' : Hp} {a : Addr} {o : HO} (h : H a = none) (h' : H' a = some o) : uni B H H' a = some o := by
  unfold uni
  rw [h]
  exact h'
theorem uni_old {B H H' : Hp} (s : Same B H) : Same B (uni B H H') := fun a o e => by
  unfold uni
  rw [s _ _ e]
  exact e
theorem uni_up {B H H' : Hp} (s : Same B H) (s' : Same H H') : Same (uni B H H') H' := fun a o e => by
  unfold uni at e
  split at e
  · exact e
  · exact s' _ _ (s _ _ e)
theorem uni_ne {B H H' : Hp} {a : Addr} (h : uni B H H' a ≠ none) (h' : B a = none) : H a = none := by
  unfold uni at h
  cases e : H a with
  | none => rfl
  | some o => rw [e] at h; exact absurd h' h
theorem Bx.more {B H H' : Hp} {t : Addr} {c : Nat} (T : Bx B H t c) (s : Same H H') : ∃ B', Same B B' ∧ Bx B' H' t c ∧ ∀ a o, H a = none → H' a = some o → B' a = some o :=
  ⟨uni B H H', uni_old T.same, T.up s (uni_old T.same) (uni_up T.same s) fun _ h h' => uni_ne h h', fun _ _ h h' => uni_new h h'⟩
theorem Tp.more {B H H' : Hp} {t : Addr} {c : Nat} (T : Tp B H t c) (s : Same H H') : ∃ B', Same B B' ∧ Tp B' H' t c ∧ ∀ a o, H a = none → H' a = some o → B' a = some o := by
  have T0 := T
  obtain ⟨sm, b, g, gs, sd, ct, h1, h2, h3, h4, h5⟩ := T
  refine ⟨uni B H H', uni_old sm, ⟨uni_up sm s, ?_, g, gs, sd, ct, ?_, h2, s _ _ h3, s _ _ h4, h5⟩, fun _ _ h h' => uni_new h h'⟩
  · exact Classical.byContradiction fun z => by have := uni_ne z b; rw [h3] at this; cases this
  · exact Classical.byContradiction fun z => by have := uni_ne z h1; rw [h4] at this; cases this
theorem cut_len2 {z : Str} {k : Nat} (h : k ≤ z.length) : (cutS z (some (k : Int)) none).length = z.length - k := by
  have e1 : HT.sIx z.length z.length none = z.length := rfl
  show ((z.cps.toList.drop (HT.sIx z.length 0 (some (k : Int)))).take _).toArray.size = _
  have hl : z.cps.toList.length = z.length := by rw [Array.length_toList]; rfl
  rw [HT.sIx_nat, e1, List.size_toArray, List.length_take, List.length_drop, hl]
  omega
theorem bit_ch {n : Int} {ch : Nat} (n0 : 0 ≤ n) (n1 : n < 2) (hch : atI (("01" : Str)).cps.toList n = some ch) : ch = 48 ∨ ch = 49 := by
  have e01 : (("01" : Str)).cps = #[48, 49] := by decide
  rw [e01] at hch
  obtain ⟨j, rfl⟩ := nat_of n0
  rcases (by omega : j = 0 ∨ j = 1) with e | e <;> subst e
  · exact .inl (Option.some.inj hch).symm
  · exact .inr (Option.some.inj hch).symm
theorem isB_chs {cs : List Nat} (h : ∀ y ∈ cs, y = 48 ∨ y = 49) : isB (⟨cs.toArray⟩ : Str) = true := isB_all.mpr fun c hc => h c (by simpa using hc)
theorem okD_up : ∀ {n : Nat} {d : PyData}, okD n d = true → okD (n + 1) d = true
  | 0, d, h => by cases d <;> cases h
  | n + 1, .none, _ => rfl
  | n + 1, .bool _, _ => rfl
  | n + 1, .int _, _ => rfl
  | n + 1, .str _, _ => rfl
  | n + 1, .list ds, h => okD_mk (okD_seq h).1 fun d hd => okD_up ((okD_seq h).2 d hd)
  | n + 1, .tuple ds, h => okD_mk (okD_seq h).1 fun d hd => okD_up ((okD_seq h).2 d hd)
  | n + 1, .dict _, h => by cases h
theorem cut_any (xs : List V) (x : Nat) : cutV xs none (some (x : Int)) = xs.take x := by
  have e2 : HT.sIx xs.length 0 none = 0 := rfl
  unfold cutV
  rw [HT.sIx_nat, e2, Nat.sub_zero, List.drop_zero]
  by_cases h : x ≤ xs.length
  · rw [show min x xs.length = x by omega]
  · rw [show min x xs.length = xs.length by omega, List.take_length, List.take_of_length_le (by omega)]
theorem at_ints {ls : List Int} {i : Nat} (h : i < ls.length) : atI (ls.map V.int) (i : Int) = some (.int (ls.getD i 0)) := atI_nat (by
  rw [List.getElem?_map, List.getD_eq_getElem?_getD, List.getElem?_eq_getElem h]
  rfl)
theorem sgnsV_len (x : Str) : (sgnsV x).length = x.length := by
  unfold sgnsV
  rw [List.length_map, Array.length_toList]
  rfl
theorem likeS (x : Str) : LikeSeq (Its x) (fun _ => True) (sgnsV x) :=
  ⟨fun _ _ _ q => q, fun i _ _ h => by rw [sgnsV_len] at h; exact h, fun i H v H' _ y => ⟨y.1, by
    obtain ⟨_, c, hc, rfl⟩ := y
    unfold sgnsV
    rw [List.getElem?_map, Array.getElem?_toList, hc]
    rfl⟩, fun _ _ => by rw [sgnsV_len]; exact Nat.le_refl _⟩
theorem sgn_at {z : Str} {i : Nat} {x : V} (h : (sgnsV z)[i]? = some x) : ∃ c, z.cps[i]? = some c ∧ x = .str ⟨#[c]⟩ := by
  unfold sgnsV at h
  rw [List.getElem?_map, Array.getElem?_toList] at h
  cases e : z.cps[i]? with
  | none => rw [e] at h; cases h
  | some c => rw [e] at h; exact ⟨c, rfl, (Option.some.inj h).symm⟩
theorem getS {ws : List Str} {k : Nat} {v : V} (h : (ws.map V.str)[k]? = some v) : ∃ z, ws[k]? = some z ∧ v = .str z := by
  rw [List.getElem?_map] at h
  cases e : ws[k]? with
  | none => rw [e] at h; cases h
  | some n => rw [e] at h; exact ⟨n, rfl, (Option.some.inj h).symm⟩
/-- one of two -/
def pk {α : Type} (x y : α) : Nat → α
  | 0 => x
  | _ => y
theorem two_at {α : Type} {f : Nat → α} {j : Nat} (h : j < 2) : [f 0, f 1][j]? = some (f j) := by
  rcases (by omega : j = 0 ∨ j = 1) with e | e <;> subst e <;> rfl
theorem nums_is {K : PySem.W.Frag} {H : Hp} {a : Addr} {ls : List Nat} (hS : H a = some (.lst (ls.map nI)) ∨ H a = some (.tup (ls.map nI))) (hl : ls.length ≤ 100000) : ∃ d, Dp K H (.ref a) d ∧ okD 2 d = true ∧ rowD d = true ∧ lensD d = ls := by
  have al : (ndD ls).all isNumD = true := by
    rw [List.all_eq_true]
    intro d hd
    obtain ⟨n, _, rfl⟩ := List.mem_map.mp hd
    exact decide_eq_true (Int.natCast_nonneg n)
  have okm := okD_mk (n := 1) (ds := ndD ls) (by rw [ndD_len]; exact hl) fun d hd => ndD_ok ls 0 d hd
  rcases hS with h | h
  · exact ⟨.list (ndD ls), .lst (SqL.of h) (dp_nd ls), okm, al, ndD_nat ls⟩
  · exact ⟨.tuple (ndD ls), .tup (SqT.of h) (dp_nd ls), okm, al, ndD_nat ls⟩
end KB

namespace KB
open PySem PySem.Spec PyProof.Rows L2
/-! ### calls with a keyword-only parameter -/
theorem un1 {n c : Nat} (h : n + 64 < c) : n + 1 < c := by omega
section
variable {P : Program} {w : World} {K : PySem.W.Frag} {mg : Str → Option Value} {base : Heap}
/-- C(e, ..), the defaults dvs behind -/
structure MakXD (P : Program) (w : World) (K : PySem.W.Frag) (mg : Str → Option Value) (base : Heap) (k : Nat) (x : Str) (C : Addr) (dvs : List V) (sp : Sp) : Prop where
  ex : ∃ (f : Addr) (fd : FuncData) (ps : List Str) (ds : List Value), Mk K C f ∧ FnOk P w K mg base (L2N.CX P w) k f fd ps sp ∧ mg x = some (.ref C) ∧ Binds K fd ps ds ∧ Vals dvs ds
/-- C(e, .., k = v, ..): n values by place -/
structure MakXN (P : Program) (w : World) (K : PySem.W.Frag) (mg : Str → Option Value) (base : Heap) (k : Nat) (x : Str) (C : Addr) (n : Nat) (ks : List Str) (gV : List V → List V → List V) (sp : Sp) : Prop where
  ex : ∃ (f : Addr) (fd : FuncData) (ps : List Str) (g : List Value → List Value → List Value), Mk K C f ∧ FnOk P w K mg base (L2N.CX P w) k f fd ps sp ∧ mg x = some (.ref C) ∧ KBn K fd ps (n + 1) ks g gV
/-- f(e, ..), the defaults dvs behind; f may raise -/
structure CalXD (P : Program) (w : World) (K : PySem.W.Frag) (mg : Str → Option Value) (base : Heap) (k : Nat) (x : Str) (dvs : List V) (sp : Sp) : Prop where
  ex : ∃ (f : Addr) (fd : FuncData) (ps : List Str) (ds : List Value), FnOk P w K mg base (L2N.CX P w) k f fd ps sp ∧ mg x = some (.ref f) ∧ PySem.W.keepIn K (.ref f) = true ∧ Binds K fd ps ds ∧ Vals dvs ds
end
section
variable {X : Cx} {k j n : Nat} {C : Addr} {x : Str} {sp : Sp} {p pos apos : Pos} {e o : Expr} {es : List Expr} {kws : List Keyword} {ta : TE} {t tk : TA} {ks : List Str} {gV : List V → List V → List V} {dvs : List V}
theorem pe_mkxD (c : MakXD X.prog X.w X.K X.mg X.base k x C dvs sp) (hr : Room j X.A) (hk : k + 1 ≤ j) (hg : Gl X x) (ha : PA X (e :: es) t)
    (hdb : (x == ("__debug__" : Str)) = false := by decide) (he : starEach (e :: es) X.env = (false, eval e X.env) :: starEach es X.env := by rfl) (hpl : (backTo pos (starEach es X.env)).any (·.1) = false := by rfl) :
    PE X (.Call (.Name x p) (e :: es) [] pos) (tMake C sp dvs E0 t) := by
  obtain ⟨f, fd, ps, ds, M, F, hm, b, hd⟩ := c.ex
  exact pe_make M F (hr.mono hk) hg hm b hd passN0 ha hdb he hpl
theorem pe_mkxN (c : MakXN X.prog X.w X.K X.mg X.base k x C n ks gV sp) (hr : Room j X.A) (hk : k + 1 ≤ j) (hg : Gl X x) (ha : PA X (e :: es) t) (hkw : PK X kws tk)
    (hall : (backToKw pos (keywordEach kws X.env)).all (·.1.isSome) = true := by rfl) (hks : (backToKw pos (keywordEach kws X.env)).filterMap (·.1) = ks := by rfl) (hdb : (x == ("__debug__" : Str)) = false := by decide)
    (he : starEach (e :: es) X.env = (false, eval e X.env) :: starEach es X.env := by rfl) (hpl : ((backTo pos (starEach (e :: es) X.env)).any (·.1) || (backToKw pos (keywordEach kws X.env)).any (·.1.isNone)) = false := by rfl) :
    PE X (.Call (.Name x p) (e :: es) kws pos) (tMakeK C n ks.length sp gV E0 t tk) := by
  obtain ⟨f, fd, ps, g, M, F, hm, b⟩ := c.ex
  exact pe_makeK M F (hr.mono hk) hg hm b passN0 ha hkw hall hks hdb he hpl
end
/-! ### C(e, ..) with defaults, in a try -/
def tMakeSD (C : Addr) (sp : Sp) (dvs : List V) (E : L2.St → XK) (t : TA) : TE := fun σ H Q => t σ H fun vs H1 => ∀ x dx, H1 x = none → H1 dx = none → dx ≠ x → sp (.ref x :: (vs ++ dvs)) (upd (upd H1 dx (.own x)) x (.ins C dx [])) (fun v H2 => v = .non ∧ Q (.ref x) H2) (E σ)
section
variable {X : Cx} {k j : Nat} {C : Addr} {x : Str} {sp : Sp} {p pos : Pos} {e : Expr} {es : List Expr} {t : TA} {dvs : List V} {W : WX}
theorem pe_mkxSD (c : MakXD X.prog X.w X.K X.mg X.base k x C dvs sp) (hr : Room j X.A) (hk : k + 1 ≤ j) (hg : Gl X x) (tk : L2N.Takes X W) (ha : PA X (e :: es) t)
    (hdb : (x == ("__debug__" : Str)) = false := by decide) (he : starEach (e :: es) X.env = (false, eval e X.env) :: starEach es X.env := by rfl) (hpl : (backTo pos (starEach es X.env)).any (·.1) = false := by rfl) :
    PE X (.Call (.Name x p) (e :: es) [] pos) (tMakeSD C sp dvs (WE W) t) := by
  obtain ⟨f, fd, ps, ds, M, F, hm, b, hd⟩ := c.ex
  refine ⟨fun pins s σ H Q I h => ?_⟩
  refine wpAny_Call_Name_kw (ld_glob I hg hm ?_ hdb)
  refine PySem.W.callWith_K (h₀ := X.base) I.ok.mod.kin M.kp (thn (ha.run pos pins s σ H _ I h) fun us s1 ⟨vs, H1, I1, r, q⟩ => ⟨I1.kIn, ?_⟩) he hpl
  have hq := q (s1.heap.objs.size + 1) s1.heap.objs.size (I1.hok.fresh (Nat.le_succ _)) (I1.hok.fresh (Nat.le_refl _)) (Nat.ne_of_lt (Nat.lt_succ_self _))
  have hl : ∀ x : Addr, (Value.ref x :: us ++ ds).length = ps.length := fun x => by
    have e1 := F.len _ _ _ _ hq
    rw [List.length_cons, List.length_append] at e1
    rw [List.length_append, List.length_cons, ← r.length, ← hd.length, ← e1]
    omega
  exact run_makeS (us := us) (ws := []) (ul := us ++ ds) (vl := vs ++ dvs) M F (hr.mono hk) tk I1 (fun x => .cons rfl (r.append hd)) (fun s' x hK => b s' (Value.ref x :: us) hK (hl x)) q
end
/-! ### walks: backwards over a list, and comprehensions with two fors -/
theorem for_rev {K : PySem.W.Frag} {a : Addr} {xs : List V} {g : TG} {tb : TS} {D : Ends} {σ : L2.St} {H : Hp} (Pv : Nat → L2.St → Hp → Prop) (h0 : Pv 0 σ H) (hl : ∀ i σ H, i ≤ xs.length → Pv i σ H → SqL K H a xs)
    (hs : ∀ i x σ H, i < xs.length → xs[xs.length - 1 - i]? = some x → Pv i σ H → g x σ H fun σ2 H2 => tb { D with nx := Pv (i + 1), ct := Pv (i + 1), bk := D.nx } σ2 H2) (hd : ∀ σ H, Pv xs.length σ H → D.nx σ H) :
    ∃ W : Nat → Nat → L2.St → Hp → Prop, (∃ m, W 0 m σ H) ∧ ∀ i m σ H, W i m σ H →
      ((Itv K a xs.length).stop i H ∧ D.nx σ H) ∨ ((Itv K a xs.length).go i H ∧ ∃ N : L2.St → Hp → Prop, (∀ σ' H', N σ' H' → ∃ m', m' < m ∧ W (i + 1) m' σ' H') ∧ ∀ x H', (Itv K a xs.length).yld i H x H' → g x σ H' fun σ2 H2 => tb { D with nx := N, ct := N, bk := D.nx } σ2 H2) := by
  refine ⟨fun i m σ H => m = xs.length - i ∧ i ≤ xs.length ∧ Pv i σ H, ⟨xs.length, by simp, Nat.zero_le _, h0⟩, ?_⟩
  rintro i m σ H ⟨rfl, hi, p⟩
  have q := hl i σ H hi p
  by_cases hlt : i < xs.length
  · have e := List.getElem?_eq_getElem (show xs.length - 1 - i < xs.length by omega)
    refine .inr ⟨⟨hlt, xs, _, q, e⟩, Pv (i + 1), fun σ' H' p' => ⟨xs.length - (i + 1), by omega, rfl, hlt, p'⟩, fun x H' y => ?_⟩
    obtain ⟨e, y⟩ := y
    subst e
    exact hs i x σ _ hlt (y xs q) p
  · have e : i = xs.length := by omega
    subst e
    exact .inl ⟨Nat.le_refl _, hd σ H p⟩
theorem lc2_J {J : It} {S : Hp → Prop} {xs : List V} (L : LikeSeq J S xs) {g : TG} {tt : TT} {wi1 : TI} {g1 : TG} {tt1 : TT} {te : TE} {vs vs1 : List Nat} {σ : L2.St} {H1 : Hp} {D : Addr} {Qd : Hp → Prop} (Pv : Nat → Hp → Prop) (h0 : Pv 0 (upd H1 D (.lst []))) (hl : ∀ i H, i ≤ xs.length → Pv i H → S H)
    (hs : ∀ i x H, xs[i]? = some x → Pv i H → g x (wipe σ vs) H fun σ2 H2 => wipe σ2 vs = wipe σ vs ∧ tt σ2 H2 fun b H3 =>
      if b = true then wi1 σ2 H3 fun J1 H4 => ∃ W1 : Nat → Nat → Hp → Prop, (∃ m, W1 0 m H4) ∧ ∀ j k H, W1 j k H →
        (J1.stop j H ∧ Pv (i + 1) H) ∨ (J1.go j H ∧ ∃ Nx1 : Hp → Prop, (∀ H', Nx1 H' → ∃ k', k' < k ∧ W1 (j + 1) k' H') ∧ ∀ x H', J1.yld j H x H' → g1 x (wipe σ2 vs1) H' fun σ3 H5 => wipe σ3 vs1 = wipe σ2 vs1 ∧ tt1 σ3 H5 fun b H6 =>
          if b = true then te σ3 H6 fun y H7 => ∃ acc, H7 D = some (.lst acc) ∧ acc.length < sizeLine ∧ Nx1 (upd H7 D (.lst (acc ++ [y]))) else Nx1 H6)
      else Pv (i + 1) H3) (hd : ∀ H, Pv xs.length H → Qd H) :
    ∃ W : Nat → Nat → Hp → Prop, (∃ m, W 0 m (upd H1 D (.lst []))) ∧ ∀ i m H, W i m H →
      (J.stop i H ∧ Qd H) ∨ (J.go i H ∧ ∃ Nx : Hp → Prop, (∀ H', Nx H' → ∃ m', m' < m ∧ W (i + 1) m' H') ∧ ∀ x H', J.yld i H x H' → g x (wipe σ vs) H' fun σ2 H2 => wipe σ2 vs = wipe σ vs ∧ tt σ2 H2 fun b H3 =>
        if b = true then wi1 σ2 H3 fun J1 H4 => ∃ W1 : Nat → Nat → Hp → Prop, (∃ m, W1 0 m H4) ∧ ∀ j k H, W1 j k H →
          (J1.stop j H ∧ Nx H) ∨ (J1.go j H ∧ ∃ Nx1 : Hp → Prop, (∀ H', Nx1 H' → ∃ k', k' < k ∧ W1 (j + 1) k' H') ∧ ∀ x H', J1.yld j H x H' → g1 x (wipe σ2 vs1) H' fun σ3 H5 => wipe σ3 vs1 = wipe σ2 vs1 ∧ tt1 σ3 H5 fun b H6 =>
            if b = true then te σ3 H6 fun y H7 => ∃ acc, H7 D = some (.lst acc) ∧ acc.length < sizeLine ∧ Nx1 (upd H7 D (.lst (acc ++ [y]))) else Nx1 H6)
        else Nx H3) := by
  refine ⟨fun i m H => m = xs.length - i ∧ i ≤ xs.length ∧ Pv i H, ⟨xs.length, by simp, Nat.zero_le _, h0⟩, ?_⟩
  rintro i m H ⟨rfl, hi, p⟩
  have q := hl i H hi p
  by_cases hlt : i < xs.length
  · refine .inr ⟨L.go i H q hlt, Pv (i + 1), fun H' p' => ⟨xs.length - (i + 1), by omega, rfl, hlt, p'⟩, fun x H' y => ?_⟩
    obtain ⟨e, yy⟩ := L.yld i H x H' q y; clear y
    subst e
    exact hs i x _ yy p
  · have e : i = xs.length := by omega
    subst e
    exact .inl ⟨L.stop H q, hd H p⟩
theorem lc2_in {J1 : It} {S1 : Hp → Prop} {ys : List V} (L : LikeSeq J1 S1 ys) {g1 : TG} {tt1 : TT} {te : TE} {vs1 : List Nat} {σ2 : L2.St} {H4 : Hp} {D : Addr} {Nx : Hp → Prop} (Pw : Nat → Hp → Prop) (h0 : Pw 0 H4) (hl : ∀ i H, i ≤ ys.length → Pw i H → S1 H)
    (hs : ∀ j y H, ys[j]? = some y → Pw j H → g1 y (wipe σ2 vs1) H fun σ3 H5 => wipe σ3 vs1 = wipe σ2 vs1 ∧ tt1 σ3 H5 fun b H6 =>
      if b = true then te σ3 H6 fun y H7 => ∃ acc, H7 D = some (.lst acc) ∧ acc.length < sizeLine ∧ Pw (j + 1) (upd H7 D (.lst (acc ++ [y]))) else Pw (j + 1) H6) (hd : ∀ H, Pw ys.length H → Nx H) :
    ∃ W1 : Nat → Nat → Hp → Prop, (∃ m, W1 0 m H4) ∧ ∀ j k H, W1 j k H →
      (J1.stop j H ∧ Nx H) ∨ (J1.go j H ∧ ∃ Nx1 : Hp → Prop, (∀ H', Nx1 H' → ∃ k', k' < k ∧ W1 (j + 1) k' H') ∧ ∀ x H', J1.yld j H x H' → g1 x (wipe σ2 vs1) H' fun σ3 H5 => wipe σ3 vs1 = wipe σ2 vs1 ∧ tt1 σ3 H5 fun b H6 =>
        if b = true then te σ3 H6 fun y H7 => ∃ acc, H7 D = some (.lst acc) ∧ acc.length < sizeLine ∧ Nx1 (upd H7 D (.lst (acc ++ [y]))) else Nx1 H6) := by
  refine ⟨fun i m H => m = ys.length - i ∧ i ≤ ys.length ∧ Pw i H, ⟨ys.length, by simp, Nat.zero_le _, h0⟩, ?_⟩
  rintro i m H ⟨rfl, hi, p⟩
  have q := hl i H hi p
  by_cases hlt : i < ys.length
  · refine .inr ⟨L.go i H q hlt, Pw (i + 1), fun H' p' => ⟨ys.length - (i + 1), by omega, rfl, hlt, p'⟩, fun x H' y => ?_⟩
    obtain ⟨e, yy⟩ := L.yld i H x H' q y; clear y
    subst e
    exact hs i x _ yy p
  · have e : i = ys.length := by omega
    subst e
    exact .inl ⟨L.stop H q, hd H p⟩
theorem max3 (a b c : Int) : nuMax3 (.int a) (.int b) (.int c) = some (.int (if (if a < b then b else a) < c then c else (if a < b then b else a))) := by
  have l : ∀ x y : Int, nuLt (.int x) (.int y) = some (decide (x < y)) := fun _ _ => rfl
  have m : ∀ x y : Int, nuMax2 (.int x) (.int y) = some (.int (if x < y then y else x)) := fun x y => by
    unfold nuMax2
    rw [l]
    by_cases h : x < y
    · rw [decide_eq_true h, if_pos h]
      rfl
    · rw [decide_eq_false h, if_neg h]
      rfl
  unfold nuMax3
  rw [m]
  exact m _ _
end KB

/-! ### a try with several clauses that all give the exception the same name (the library has one such clause, or several without a name) -/
namespace L2N
open PySem PySem.Spec PyProof.Rows L2
/-- the ends of a suite behind which the name in slot i is gone -/
def gone (i : Nat) (D : Ends) : Ends := { nx := fun σ H => D.nx (σ.set i none) H, rt := D.rt, bk := fun σ H => D.bk (σ.set i none) H, ct := fun σ H => D.ct (σ.set i none) H }
def wNamed (K : PySem.W.Frag) (i : Nat) (Wout : WX) (D : Ends) : List (Value × (Addr → Value → Option Addr → TS)) → WX
  | [] => Wout
  | z :: r => fun cls d σ H => ∃ b, PySem.W.exmOne K cls z.1 = some b ∧ (b = true → ∀ a, H a = none → z.2 a cls d (gone i D) (σ.set i (some (.ref a))) H) ∧ (b = false → wNamed K i Wout D r cls d σ H)
inductive NamedOk (X : Cx) (n : Str) : List ExceptHandler → List (Value × (Addr → Value → Option Addr → TS)) → Prop
  | nil : NamedOk X n [] []
  | cons {x : Str} {c : Value} {ts : Addr → Value → Option Addr → TS} {s0 : Stmt} {ss : List Stmt} {p1 p2 : Pos} {hs : List ExceptHandler} {l : List (Value × (Addr → Value → Option Addr → TS))} (nm : Names X x c)
      (su : ∀ (a : Addr) (oe : Obj) (cls : Value) (d : Option Addr) (pn : List (Addr × Obj)), Zn cls d oe → (∃ vs, oe.data = .fields vs) → PSs (X.suite a ((a, oe) :: pn)) (s0 :: ss) (ts a cls d)) (rest : NamedOk X n hs l) :
      NamedOk X n (.ExceptHandler (some (.Name x p1)) (some n) (s0 :: ss) p2 :: hs) ((c, ts) :: l)
section
variable {X : Cx} {n : Str} {i : Nat} {body : List Stmt} {h0 : ExceptHandler} {hds : List ExceptHandler} {l : List (Value × (Addr → Value → Option Addr → TS))} {pos : Pos} {tb : WX → TS} {Wout : WX}
theorem ps_try_named (hst : X.stack = X.env :: X.outer) (hfr : X.env.frame = some X.env.locals) (nd : X.N.Nodup) (hi : X.N[i]? = some n) (loc : X.env.kindOf n = some .local) (tk : Takes X Wout)
    (hb : ∀ (W : WX) (pn : List (Addr × Obj)) (xe : Value → Shared → Prop), Takes (X.tr pn xe) W → PassesOwn (model X.prog X.w) X.A X.env xe → PSs (X.tr pn xe) body (tb W))
    (hh : NamedOk X n (h0 :: hds) l) : PS X (.Try body (h0 :: hds) [] [] pos) (fun D σ H => tb (wNamed X.K i Wout D l) D σ H) := by
  refine ⟨fun pins s σ H D I h => ?_⟩
  have ok := I.ok
  have af : X.A.frames = some (X.env :: X.outer) := by rw [ok.frames, hst]
  refine wpAny_Try_except (wpAny_mono ((hb (wNamed X.K i Wout D l) (X.pn ++ pins) (fun e s1 => wpAny (model X.prog X.w) X.A (noteFrame e X.env) (fun _ s2 => wpAny (model X.prog X.w) X.A (setFlight e none) (fun _ s3 =>
    wpAny (model X.prog X.w) X.A (handleBy e X.env (h0 :: hds)) (SP X pins D) X.xe s3) X.xe s2) X.xe s1) (fun u s' caught => ?_) PassesOwn.looking).run [] s σ H D (I.toTry _) h) (fun f s1 q => ?_) (fun e s1 he => he))
  · obtain ⟨a, B, sI, pins', σ', H', cls, d, rfl, J', nb, up, sky, na, os, ag, want⟩ := caught
    have J : Inv X pins σ' H' sI := J'.ofTry ok
    refine Sky.land Zn.steady af hfr (by rw [← hst]; exact sky) fun h3 fl up3 => ?_
    have J3 : Inv X pins σ' H' { s' with heap := h3 } := J.landed nb fl.1 (up.trans up3) os ag
    obtain ⟨o3, vs3, at3, z3, d3⟩ := fl.there
    have apart : a ∉ frs (X.env :: X.outer) := fun hm => by
      obtain ⟨_, o', e', no⟩ := fl.2.2.1.mem hm
      rw [at3] at e'
      cases e'
      exact no _ d3
    have nL : a ≠ X.env.locals := fun z => apart (List.mem_filterMap.mpr ⟨X.env, List.mem_cons_self, by rw [hfr, z]⟩)
    have nF : a ∉ X.fs := fun hm => by
      obtain ⟨e, he, q⟩ := List.mem_filterMap.mp hm
      exact apart (List.mem_filterMap.mpr ⟨e, List.mem_cons_of_mem _ he, q⟩)
    have S3 := J3.suite at3 d3 na nL nF
    have ty : PySem.W.Looks (model X.prog X.w) h3 (typeOf (.ref a)) cls := fun A Q E s k q => wpAny_typeOf_ref (k _ _ at3) (by rw [z3.1]; exact q)
    have along : ∀ {hs : List ExceptHandler} {m : List (Value × (Addr → Value → Option Addr → TS))}, NamedOk X n hs m → wNamed X.K i Wout D m cls d σ' H' → wpAny (model X.prog X.w) X.A (handleBy (.ref a) X.env hs) (SP X pins D) X.xe { s' with heap := h3 } := by
      intro hs m k
      induction k with
      | nil =>
        intro w
        obtain ⟨_, _, _, oe, vs, T, _, _, he, _, hd, h1, _⟩ := id fl
        have out : wpAny (model X.prog X.w) X.A (setFlight (.ref a) X.env.frame) (fun _ s4 => wpAny (model X.prog X.w) X.A (throw (.ref a) : Sem Flow) (SP X pins D) X.xe s4) X.xe { s' with heap := h3 } := by
          rw [hfr]
          exact HandSPX.setFlight_upZ fl fun h4 hh4 up4 => wpAny_throw (tk _ _ ⟨a, B, sI, pins, σ', H', cls, d, rfl, J, nb, (up.trans up3).trans up4, .inr (.inr (by rw [hst]; exact hh4)), na, os, ag, w⟩)
        refine wpAny_handleBy_nil ?_
        unfold PySem.passOn
        refine wpAny_bind (wpAny_field he hd h1 ?_)
        rw [if_neg (show ¬ ((Value.ref T == Value.none) = true) from by simp)]
        first
          | exact wpAny_bind (wpAny_pure (wpAny_bind out))
          | exact wpAny_bind out
      | @cons x c ts s0 ss p1 p2 hs2 l2 nm su rest ih =>
        intro w
        obtain ⟨b, hb1, yes, no⟩ := w
        have named : ∀ {Q : Value → Shared → Prop} {E : Value → Shared → Prop}, Q c { s' with heap := h3 } → wpAny (model X.prog X.w) (X.A.mark (some (.ref a))) (eval (.Name x p1) X.env) Q E { s' with heap := h3 } := fun {Q E} q => by
          rcases nm with ⟨hg, hdb, hm | ⟨hm, hv, hn⟩⟩
          · exact ld_glob (X := X.suite a ((a, o3) :: (X.pn ++ pins))) S3 hg hm q hdb
          · exact ld_blt (X := X.suite a ((a, o3) :: (X.pn ++ pins))) S3 hg hm hv q hn hdb
        refine wpAny_handleBy_cons (codeAny_handlers_test ?_) (by intro q; cases q)
        refine named ((PySem.W.exm_one (M := model X.prog X.w) J3.kIn ty hb1).here ?_)
        cases b with
        | false => exact ih (no rfl)
        | true =>
          refine codeAny_handlers_suite_as (HandSPX.lands_againZ fl fun h4 fl4 up4 => ?_)
          have J4 : Inv X pins σ' H' { s' with heap := h4 } := J.landed nb fl4.1 ((up.trans up3).trans up4) os ag
          obtain ⟨o4, vs4, at4, z4, d4⟩ := fl4.there
          refine store_ok (X := X.suite a ((a, o4) :: (X.pn ++ pins))) (v := .ref a) (J4.suite at4 d4 na nL nF) nd hi (.inl loc) rfl (fun s5 S5 => ?_) (.inr loc)
          refine wpAny_mono ((su a o4 cls d (X.pn ++ pins) z4 ⟨_, d4⟩).run [] s5 _ H' _ S5 (yes rfl a na)) (fun f s6 q => ?_) (fun _ _ z => False.elim z)
          have leave : ∀ {σ6 : St} {H6 : Hp} {Q : Shared → Prop}, Inv (X.suite a ((a, o4) :: (X.pn ++ pins))) [] σ6 H6 s6 → (∀ s7, Inv X pins (σ6.set i none) H6 s7 → Q s7) →
              wpAny (model X.prog X.w) X.A (do bindName X.env n .none; unbindBehindTheSuite X.env n p2) (fun _ s7 => Q s7) X.xe s6 := fun {σ6 H6 Q} S6 hq => gone_ok (S6.unsuite ok) nd hi loc hq
          cases f with
          | next =>
            obtain ⟨_, _, S6, q6⟩ := q
            exact leave S6 fun s7 J7 => ⟨_, _, J7, q6⟩
          | brk =>
            obtain ⟨_, _, S6, q6⟩ := q
            exact leave S6 fun s7 J7 => ⟨_, _, J7, q6⟩
          | cont =>
            obtain ⟨_, _, S6, q6⟩ := q
            exact leave S6 fun s7 J7 => ⟨_, _, J7, q6⟩
          | ret u =>
            obtain ⟨_, _, _, S6, r6, q6⟩ := q
            exact leave S6 fun s7 J7 => ⟨_, _, _, J7, r6, q6⟩
    exact along hh want
  · cases f with
    | next =>
      obtain ⟨_, _, K1, q1⟩ := q
      exact wpAny_execs_nil ⟨_, _, K1.ofTry ok, q1⟩
    | brk =>
      obtain ⟨_, _, K1, q1⟩ := q
      exact ⟨_, _, K1.ofTry ok, q1⟩
    | cont =>
      obtain ⟨_, _, K1, q1⟩ := q
      exact ⟨_, _, K1.ofTry ok, q1⟩
    | ret u =>
      obtain ⟨_, _, _, K1, r1, q1⟩ := q
      exact ⟨_, _, _, K1.ofTry ok, r1, q1⟩
end
end L2N

/-! # KSL: xs[a:c] = ys, a list stored into a slice of another -/
namespace KB
open PySem PySem.Spec PyProof.Rows L2
def rSetSl : V → Option Int → Option Int → V → Hp → (Hp → Prop) → Prop := fun o lo hi v H Q => ∃ l b xs ys a c, o = .ref l ∧ v = .ref b ∧ lo = some a ∧ hi = some c ∧ H l = some (.lst xs) ∧ H b = some (.lst ys) ∧ l ≠ b ∧ 0 ≤ a ∧ a ≤ c ∧ c ≤ (xs.length : Int) ∧ xs.length + ys.length ≤ sizeLine ∧ Q (upd H l (.lst (xs.take a.toNat ++ ys ++ xs.drop c.toNat)))
def gSlice (to : TE) (tl th : TO) : TG := fun v σ H Q => to σ H fun o H1 => tl σ H1 fun lo H2 => th σ H2 fun hi H3 => rSetSl o lo hi v H3 fun H4 => Q σ H4
section
variable {X : Cx} {pos p2 : Pos}
theorem pg_slice {o : Expr} {lo hi : Option Expr} {to : TE} {tl th : TO} (ho : PE X o to) (hl : PO X lo tl) (hu : PO X hi th)
    (ha : ∀ v, assign (.Subscript o (.Slice lo hi none p2) pos) X.env v = (do
      let ov ← holding [v] (eval o X.env)
      let iv ← holding [v, ov] (eval (.Slice lo hi none p2) X.env)
      standAt pos
      holding [v, ov, iv] (setItem ov iv v)
      release [iv, v, ov] []) := by intro _; rfl) : PG X (.Subscript o (.Slice lo hi none p2) pos) (gSlice to tl th) := by
  refine ⟨fun pins s σ H v u Q I r h => ?_⟩
  rw [ha]
  refine wpAny_bind (wpAny_holding (thn (ho.run pins s σ H _ I h) fun ov s1 ⟨x, H1, I1, r1, q1⟩ => ?_))
  refine wpAny_bind (wpAny_holding (wpAny_Slice (thn (hl.run pins s1 σ H1 _ I1 q1) fun vl s2 ⟨l, H2, I2, pl, q2⟩ => thn (hu.run pins s2 σ H2 _ I2 q2) fun vu s3 ⟨y, H3, I3, pu, q3⟩ => ?_)))
  rw [evalPart_none]
  refine wpAny_pure ?_
  have I4 : Inv X pins σ H3 { s3 with heap := s3.heap.push { cls := .type "slice", data := .fields #[vl, vu, .none] } } := I3.kept (t' := s3.toks) fun b ob q => Heap.get?_push_of_some _ q
  obtain ⟨l', b, xs, ys, a, c, rfl, rfl, rfl, rfl, hH, hB, hne, h0, hac, hc, hz, q⟩ := q3
  cases r1
  cases r
  have ra : RelV (.int a) vl := by cases pl; exact ⟨_, rfl⟩
  have rc : RelV (.int c) vu := by cases pu; exact ⟨_, rfl⟩
  refine wpAny_bind (wpAny_standAt (wpAny_bind (wpAny_holding (set_slice I4 hH hB hne (Heap.IsSliceOf.new ..) ra rc h0 hac hc hz fun s5 I5 => ?_))))
  exact wpAny_release ⟨σ, _, I5, q⟩
end
end KB

/-! # KAS: xs[k] += text, k a place of a list; text.ljust(n, sign); what a heap holds beside some cells -/
namespace KB
open PySem PySem.Spec PyProof.Rows L2
def rGetL (K : PySem.W.Frag) : V → V → Hp → VK → Prop := fun x y H Q => ∃ p xs k v, x = .ref p ∧ y = .int ((k : Nat) : Int) ∧ SqL K H p xs ∧ xs[k]? = some v ∧ Q v H
theorem get_list {X : Cx} : PGet X (rGetL X.K) := by
  intro pins s σ H o i ov iv Q I ro ri h
  obtain ⟨p, xs, k, v, rfl, rfl, hq, he, q⟩ := h
  cases ro
  obtain ⟨t, rfl⟩ := ri
  obtain ⟨its, r, pl, hz⟩ := I.list hq
  obtain ⟨w, ew, rw'⟩ := r.get he
  have hl := r.length
  have hn := line63
  have hk := (List.getElem?_eq_some_iff.mp he).1
  exact wpAny_getItem_list pl.isList (by omega) (by omega) (by rw [Int.toNat_natCast]; simpa using ew) ⟨v, H, I, rw', q⟩
theorem ip_addS {X : Cx} : PIp X .Add (fun x y H Q => ∃ i j, x = .str i ∧ y = .str j ∧ i.length + j.length ≤ sizeLine ∧ Q (.str (i ++ j)) H) := fun pins s σ H x y v u Q I rx ry h => iop_add_str pins s σ H x y v u Q I rx ry h
theorem mt_ljustF {X : Cx} : MtR X "str.ljust" (fun x xs H Q => ∃ (a f : Str) (i : Int), x = .str a ∧ xs = [.int i, .str f] ∧ PadOk i = true ∧ f.length = 1 ∧ Q (.str (Txt.ljustF a i (f.cps.getD 0 0))) H) := by
  intro pins s σ H x xs v us Q I rx rs h
  obtain ⟨a, f, i, rfl, rfl, hp, hf, h⟩ := h
  obtain ⟨t, rfl⟩ := rx
  cases rs with
  | cons r1 rs =>
    cases rs with
    | cons r2 rs =>
      cases rs
      obtain ⟨u, rfl⟩ := r1
      obtain ⟨z, rfl⟩ := r2
      exact ljust_fill hp hf fun t2 k => ⟨.str (Txt.ljustF a i (f.cps.getD 0 0)), H, I.tok k, ⟨t2, rfl⟩, h⟩
/-- a heap without some cells -/
def hid (S : List Addr) (H : Hp) : Hp := fun a => if a ∈ S then none else H a
theorem hid_at {S : List Addr} {H : Hp} {a : Addr} (h : a ∉ S) : hid S H a = H a := if_neg h
theorem hid_in {S : List Addr} {H : Hp} {a : Addr} (h : a ∈ S) : hid S H a = none := if_pos h
theorem hid_sub {S : List Addr} {H : Hp} : Same (hid S H) H := fun a o e => by
  by_cases h : a ∈ S
  · rw [hid_in h] at e; cases e
  · rw [hid_at h] at e; exact e
theorem hid_more {S : List Addr} {H : Hp} {q : Addr} : Same (hid (q :: S) H) (hid S H) := fun a o e => by
  by_cases h : a ∈ q :: S
  · rw [hid_in h] at e; cases e
  · rw [hid_at h] at e
    rw [hid_at (fun z => h (List.mem_cons_of_mem _ z))]
    exact e
theorem hid_same {S : List Addr} {H H' : Hp} (s : Same H H') : Same (hid S H) (hid S H') := fun a o e => by
  by_cases h : a ∈ S
  · rw [hid_in h] at e; cases e
  · rw [hid_at h] at e ⊢
    exact s _ _ e
theorem hid_upd {S : List Addr} {H : Hp} {q : Addr} {o : HO} (h : q ∈ S) : hid S (upd H q o) = hid S H := by
  funext a
  by_cases ha : a ∈ S
  · rw [hid_in ha, hid_in ha]
  · rw [hid_at ha, hid_at ha, upd_ne (fun e => ha (by rw [e]; exact h))]
/-- what stands does not see a change of a hidden cell -/
theorem Same.hidden {S : List Addr} {H0 H : Hp} {q : Addr} {o : HO} (s : Same (hid S H0) H) (h : q ∈ S) : Same (hid S H0) (upd H q o) := fun a o' e => by
  by_cases ha : a = q
  · subst ha
    rw [hid_in h] at e
    cases e
  · rw [upd_ne ha]
    exact s _ _ e
theorem Same.hid_all {S : List Addr} {H0 H : Hp} (s : Same H0 H) (h : ∀ a ∈ S, H0 a = none) : Same H0 (hid S H) := fun a o e => by
  by_cases ha : a ∈ S
  · rw [h a ha] at e; cases e
  · rw [hid_at ha]
    exact s _ _ e
theorem app_assoc (a b c : Str) : a ++ b ++ c = a ++ (b ++ c) := congrArg Str.mk Array.append_assoc
theorem app_nil (a : Str) : a ++ ("" : Str) = a := congrArg Str.mk (Array.append_empty)
theorem nil_app (a : Str) : ("" : Str) ++ a = a := congrArg Str.mk (Array.empty_append)
def iZipK (K : PySem.W.Frag) (ta : TA) : TI := fun σ H R => ta σ H fun vs H1 => ∃ (u1 u2 : Src) (xs ys : List V), vs = [u1.v, u2.v] ∧ u1.has K H1 xs ∧ u2.has K H1 ys ∧ ∀ J, LikeZp J (fun H => u1.has K H xs ∧ u2.has K H ys) xs ys → R J H1
theorem pi_zipK {X : Cx} {e e2 : Expr} {ta : TA} {p pos tpos : Pos} {elts : List Expr} {kk : Nat} (hg : Gl X "zip") (hm : X.mg "zip" = none) (ha : PA X [e, e2] ta)
    (hs : starEach [e, e2] X.env = (false, eval e X.env) :: starEach [e2] X.env := by rfl) (hpl : (backTo pos (starEach [e2] X.env)).any (·.1) = false := by rfl) :
    PI X (.Tuple elts kk tpos) (.Call (.Name "zip" p) [e, e2] [] pos) (iZipK X.K ta) := by
  refine ⟨fun pins s σ H R I h => ?_⟩
  refine Call_ (ld_blt I hg hm PyProof.Rows.boot_zip (PyProof.Rows.callWith_type1 (thn (ha.run pos pins s σ H _ I h) fun us s1 ⟨vs, H1, I1, r1, q1⟩ => ?_) hs hpl))
  obtain ⟨u1, u2, xs, ys, ex, hx, hy, q1⟩ := q1
  subst ex
  cases r1 with
  | cons r rr =>
    cases rr with
    | cons r' rr =>
      cases rr
      obtain ⟨t1, o1, H01, B1, k1, a1, c1⟩ := src_begins I1 hx r
      obtain ⟨t2, o2, H02, B2, k2, a2, c2⟩ := src_begins I1 hy r'
      refine zip_begins2 B1 B2 k1 k2 fun h' hz hTI hTO g1 g2 hsz hk => wpAny_pyIter_zip hz ?_
      have I2 : Inv X pins σ H1 { s1 with heap := h' } := I1.kept (t' := s1.toks) hk
      have fresh5 : ∀ c, c ∈ [s1.heap.objs.size + 4, s1.heap.objs.size + 2, s1.heap.objs.size + 3, s1.heap.objs.size, s1.heap.objs.size + 1] → FpOk X pins H1 c := fun c hcm => by
        have e' : c = s1.heap.objs.size + 4 ∨ c = s1.heap.objs.size + 2 ∨ c = s1.heap.objs.size + 3 ∨ c = s1.heap.objs.size ∨ c = s1.heap.objs.size + 1 := by simpa using hcm
        have hle : s1.heap.objs.size ≤ c := by
          rcases e' with z | z | z | z | z
          · rw [z]; exact Nat.le_add_right _ _
          · rw [z]; exact Nat.le_add_right _ _
          · rw [z]; exact Nat.le_add_right _ _
          · rw [z]; exact Nat.le_refl _
          · rw [z]; exact Nat.le_add_right _ _
        exact I1.fpOk hle (I1.hok.fresh hle)
      have S : ZipSep2 (s1.heap.objs.size + 4) (s1.heap.objs.size + 2) (s1.heap.objs.size + 3) s1.heap.objs.size (s1.heap.objs.size + 1) (s1.heap.objs.size :: u1.fp) ((s1.heap.objs.size + 1) :: u2.fp) := zip_sep2 a1 a2
      refine ⟨s1.heap.objs.size + 4, [s1.heap.objs.size + 4, s1.heap.objs.size + 2, s1.heap.objs.size + 3, s1.heap.objs.size, s1.heap.objs.size + 1], _, _, H1, rfl, I2, turn_zipG (t1 := t1) (t2 := t2) S (fun a ha => Nat.ne_of_lt (a1 a ha)) (fun a ha => Nat.ne_of_lt (Nat.lt_succ_of_lt (a2 a ha))), ⟨hz, hTI, ⟨_, _, hTO⟩, c1 _ _ g1, c2 _ _ g2⟩, fresh5, q1 _ (likeZp X.K u1 u2 xs ys)⟩
end KB

/-! # KRG: range(i, j, c) as a value, walked later; xs[::k] -/
namespace KB
open PySem PySem.Spec PyProof.Rows L2
/-- a range object with a step -/
def RgO (p : Addr) (i j c : Int) : HO := .ext fun h => ∃ t u v, h.get? p = some { cls := .type "range", data := .fields #[.int i t, .int j u, .int c v] }
theorem rgO_ok {P : Program} {w : World} {H : Hp} {h : Heap} {p : Addr} {i j c : Int} (e : ∃ t u v, h.get? p = some { cls := .type "range", data := .fields #[.int i t, .int j u, .int c v] }) : ObjOk P w H h p (RgO p i j c) :=
  ⟨e, by obtain ⟨t, u, v, e⟩ := e; exact ⟨_, e⟩, fun h1 h2 ⟨t, u, v, e1⟩ k => ⟨t, u, v, k _ e1⟩⟩
theorem cr_range3 {X : Cx} : CallR X (.type "range") (fun vs H Q => ∃ i j c, vs = [V.int i, V.int j, V.int c] ∧ c ≠ 0 ∧ c.natAbs < 1073741824 ∧ ∀ p, H p = none → Q (.ref p) (upd H p (RgO p i j c))) := by
  intro pins s σ H vs us Q I r h
  obtain ⟨i, j, c, rfl, c0, c1, q⟩ := h
  cases r with
  | cons r rr =>
    cases rr with
    | cons r' rr =>
      cases rr with
      | cons r'' rr =>
        cases rr
        obtain ⟨t, rfl⟩ := r
        obtain ⟨t', rfl⟩ := r'
        obtain ⟨t'', rfl⟩ := r''
        refine call_range_3 c0 ?_ (.inl (PyProof.noPylong_small c1))
        exact ⟨.ref s.heap.objs.size, upd H s.heap.objs.size (RgO s.heap.objs.size i j c), I.laid (t' := s.toks) (fun b o e => Heap.get?_push_of_some _ e) (Nat.le_refl _) (rgO_ok ⟨t, t', t'', Heap.get?_push_size _ rfl⟩), rfl, q _ (I.hok.fresh (Nat.le_refl _))⟩
def iRgv (tl : TE) : TI := fun σ H R => tl σ H fun x H1 => ∃ p i j c n, x = .ref p ∧ H1 p = some (RgO p i j c) ∧ RgC i j c n ∧ R (Itc i c n) H1
theorem pi_rgv {X : Cx} {tg l : Expr} {tl : TE} (hl : PE X l tl) : PI X tg l (iRgv tl) := by
  refine ⟨fun pins s σ H R I h => ?_⟩
  refine thn (hl.run pins s σ H _ I h) fun v s1 ⟨x, H1, I1, r1, q1⟩ => ?_
  obtain ⟨p, i, j, c, n, e, hq, ⟨c0, c1, c2, c3⟩, q⟩ := q1
  subst e
  cases r1
  obtain ⟨⟨t, u, v', ho⟩, _⟩ : (∃ t u v, s1.heap.get? p = some { cls := .type "range", data := .fields #[.int i t, .int j u, .int c v] }) ∧ _ := I1.hok p _ hq
  refine wpAny_pyIter_range (show IsRange s1.heap p i j c t u v' from ho) c2 ?_
  have I2 := I1
  refine pi_one (tk := s1.toks) I2 _ (turn_rangeC _ i c n) ?_ q
  have e1 : i + ((0 : Nat) : Int) * c = i := by simp
  have e2 : (n : Int) - ((0 : Nat) : Int) = Builtin.Range.rangeSize i j c := by rw [c3]; simp
  show IsRangeIter _ _ (i + ((0 : Nat) : Int) * c) ((n : Int) - ((0 : Nat) : Int)) c
  rw [e1, e2]
  exact Heap.get?_push_size _ rfl
theorem lc_rangeC {lo c : Int} {n : Nat} {g : TG} {tt : TT} {te : TE} {vs : List Nat} {σ : L2.St} {H1 : Hp} {D : Addr} {Qd : Hp → Prop} (Pv : Nat → Hp → Prop) (h0 : Pv 0 (upd H1 D (.lst [])))
    (hs : ∀ i H, i < n → Pv i H → g (.int (lo + (i : Nat) * c)) (wipe σ vs) H fun σ2 H2 => wipe σ2 vs = wipe σ vs ∧ tt σ2 H2 fun b H3 =>
      if b = true then te σ2 H3 fun y H4 => ∃ acc, H4 D = some (.lst acc) ∧ acc.length < sizeLine ∧ Pv (i + 1) (upd H4 D (.lst (acc ++ [y]))) else Pv (i + 1) H3) (hd : ∀ H, Pv n H → Qd H) :
    ∃ W : Nat → Nat → Hp → Prop, (∃ m, W 0 m (upd H1 D (.lst []))) ∧ ∀ i m H, W i m H →
      ((Itc lo c n).stop i H ∧ Qd H) ∨ ((Itc lo c n).go i H ∧ ∃ Nx : Hp → Prop, (∀ H', Nx H' → ∃ m', m' < m ∧ W (i + 1) m' H') ∧ ∀ x H', (Itc lo c n).yld i H x H' → g x (wipe σ vs) H' fun σ2 H2 => wipe σ2 vs = wipe σ vs ∧ tt σ2 H2 fun b H3 =>
        if b = true then te σ2 H3 fun y H4 => ∃ acc, H4 D = some (.lst acc) ∧ acc.length < sizeLine ∧ Nx (upd H4 D (.lst (acc ++ [y]))) else Nx H3) := by
  refine ⟨fun i m H => m = n - i ∧ i ≤ n ∧ Pv i H, ⟨n, by simp, Nat.zero_le _, h0⟩, ?_⟩
  rintro i m H ⟨rfl, hi, p⟩
  by_cases hlt : i < n
  · refine .inr ⟨hlt, Pv (i + 1), fun H' p' => ⟨n - (i + 1), by omega, rfl, hlt, p'⟩, fun x H' y => ?_⟩
    obtain ⟨e, y⟩ := y
    subst e y
    exact hs i _ hlt p
  · have e : i = n := by omega
    subst e
    exact .inl ⟨Nat.le_refl _, hd H p⟩
/-! ### xs[::k], k a written number -/
theorem Vals.picks : ∀ {xs : List V} {its : List Value} (r : Vals xs its) (is : List Nat), Vals (is.filterMap (xs[·]?)) (is.filterMap (its[·]?))
  | _, _, _, [] => .nil
  | xs, its, r, i :: is => by
    rw [List.filterMap_cons, List.filterMap_cons]
    cases h : xs[i]? with
    | none =>
      have : its[i]? = none := by
        rw [List.getElem?_eq_none_iff] at h ⊢
        rw [← r.length]
        exact h
      rw [this]
      exact Vals.picks r is
    | some x =>
      obtain ⟨u, e, ru⟩ := r.get h
      rw [e]
      exact .cons ru (Vals.picks r is)
def tStepL (K : PySem.W.Frag) (te : TE) : TE := fun σ H Q => te σ H fun x H1 => ∃ a xs, x = .ref a ∧ SqL K H1 a xs ∧ ∀ p zs, H1 p = none → (∀ z ∈ zs, z ∈ xs) → zs.length ≤ xs.length → Q (.ref p) (upd H1 p (.lst zs))
theorem pe_stepL {X : Cx} {e : Expr} {te : TE} {k : Nat} {m : Int} {p1 p3 pos : Pos} (hm : 0 < m) (he : PE X e te) : PE X (.Subscript e (.Slice none none (some (.Constant (.int m) k p1)) p3) pos) (tStepL X.K te) := by
  refine ⟨fun pins s σ H Q I h => ?_⟩
  refine Subscript_ (thn (he.run pins s σ H _ I h) fun v s1 ⟨x, H1, I1, r1, q1⟩ => ?_)
  obtain ⟨a, xs, ex, hx, q⟩ := q1
  subst ex
  cases r1
  have hst : PO X (some (.Constant (.int m) k p1)) (tPart (tC (.int m))) := po_some pe_int
  refine wpAny_Slice (thn (po_none.run pins s1 σ H1 (fun o H2 => o = none ∧ H2 = H1) I1 ⟨rfl, rfl⟩) fun vl s2 ⟨l, H2, I2, pl, el, e2⟩ => ?_)
  subst el e2
  refine thn (po_none.run pins s2 σ H2 (fun o H3 => o = none ∧ H3 = H2) I2 ⟨rfl, rfl⟩) fun vu s3 ⟨u, H3, I3, pu, eu, e3⟩ => ?_
  subst eu e3
  refine thn (hst.run pins s3 σ H3 (fun o H4 => o = some m ∧ H4 = H3) I3 ⟨m, rfl, rfl, rfl⟩) fun vs s4 ⟨o, H4, I4, ps, eo, e4⟩ => ?_
  subst eo e4
  have I5 : Inv X pins σ H4 { s4 with heap := s4.heap.push { cls := .type "slice", data := .fields #[vl, vu, vs] } } := I4.kept (t' := s4.toks) fun b ob q => Heap.get?_push_of_some _ q
  obtain ⟨its, r, ht, hz⟩ := I5.list hx
  have hlen := r.length
  show wpAny (model X.prog X.w) X.A (subscriptTail e (.Slice none none (some (.Constant (.int m) k p1)) p3) (.ref a) (.ref s4.heap.objs.size)) (EP X pins σ Q) X.xe { s4 with heap := s4.heap.push { cls := .type "slice", data := .fields #[vl, vu, vs] } }
  refine tail_any (ops := [.ref a, .ref s4.heap.objs.size]) ht.isList.typeIs (PySem.slot_list_getitem.lookup) ?_ (by with_unfolding_all rfl)
  refine wpAny_getItem_list_slice ht.isList (Heap.IsSliceOf.new _ vl vu vs) pl pu ps (by simp; omega) ?_ (by rw [List.size_toArray]; omega)
  obtain ⟨is, eis, lis⟩ : ∃ is : List Nat, slicePick its.toArray none none (some m) = (is.filterMap (its[·]?)).toArray ∧ is.length ≤ its.length := by
    refine ⟨sliceRange (sliceBounds none none (some m) its.toArray.size).1 (sliceBounds none none (some m) its.toArray.size).2.1 (sliceBounds none none (some m) its.toArray.size).2.2, by unfold slicePick; simp only [List.getElem?_toArray], ?_⟩
    unfold sliceRange
    rw [List.length_map, List.length_range, List.size_toArray]
    have hb : sliceBounds none none (some m) its.length = (0, (its.length : Int), m) := by
      unfold sliceBounds
      simp [show ¬ m < 0 by omega]
      omega
    rw [hb]
    simp only [show (m > 0) from hm, if_true]
    split
    · rename_i h0
      have := PySem.ceilDiv_le ((its.length : Int) - 0) m (by omega) (by omega)
      omega
    · simp
  rw [eis]
  have zv := Vals.picks r is
  have hfl : (is.filterMap (xs[·]?)).length ≤ xs.length := Nat.le_trans (List.length_filterMap_le _ _) (by omega)
  refine ⟨.ref _, _, I5.laid (t' := s4.toks) (o := .lst (is.filterMap (xs[·]?))) (fun b ob q => Heap.get?_push_of_some _ q) (Nat.le_refl _) ?_, rfl, q _ _ (I5.hok.fresh (Nat.le_refl _)) (fun z hz => ?_) hfl⟩
  · exact ⟨by omega, _, 0, zv, Heap.get?_push_size _ rfl⟩
  · obtain ⟨i, _, e⟩ := List.mem_filterMap.mp hz
    exact List.mem_of_getElem? e
theorem rgc3 (n : Nat) (h : n ≤ 100000) : RgC 0 ((3 * n : Nat) : Int) 3 n := by
  have e : Builtin.Range.rangeSize 0 ((3 * n : Nat) : Int) 3 = n := by
    unfold Builtin.Range.rangeSize
    simp only [show (3 : Int) > 0 by decide, if_true]
    split <;> omega
  obtain ⟨m, hm⟩ : ∃ m : Int, m = ((3 * n : Nat) : Int) := ⟨_, rfl⟩
  obtain ⟨l, hl⟩ : ∃ l : Int, l = (n : Int) := ⟨_, rfl⟩
  rw [← hm, ← hl] at e
  refine ⟨by decide, by decide, ?_, by rw [← hm, e, hl]⟩
  rw [← hm]
  have hm0 : 0 ≤ m := by omega
  have hm1 : m ≤ 300000 := by omega
  have hl0 : 0 ≤ l := by omega
  have hl1 : l ≤ 100000 := by omega
  clear hm hl h
  unfold Builtin.Range.small
  rw [e]
  simp only [Builtin.Range.rangeFitsLong, Bool.and_eq_true, Bool.or_eq_true, decide_eq_true_eq, beq_iff_eq, show (3 : Int) > 0 by decide, if_true]
  omega
/-- tuple.index, o.NAME of a class, within a comprehension -/
def rTupIx (K : PySem.W.Frag) : V → List V → Hp → VK → Prop := fun x xs H Q => ∃ p, ∃ ys : List Str, ∃ z j, x = .ref p ∧ xs = [.str z] ∧ SqT K H p (ys.map V.str) ∧ ys[j]? = some z ∧ (∀ m, m < j → ys[m]? ≠ some z) ∧ Q (.int (j : Nat)) H
theorem mt_tupIx {X : Cx} : MtR X "tuple.index" (rTupIx X.K) := mt_tup_index
theorem pe_conC {X : Cx} (K : PySem.W.Frag) {e : Expr} {f : Str} {pos : Pos} {ta : TE} (he : PE X e ta) (hb : attributeBase e f X.env (eval e X.env) = eval e X.env) (hK : X.K = K := by rfl) : PE X (.Attribute e f pos) (tCon K ta f) := by
  subst hK
  exact pe_con he hb
/-! ### text[::-1] -/
def revS (z : Str) : Str := ⟨z.cps.toList.reverse.toArray⟩
def tRevS (te : TE) : TE := fun σ H Q => te σ H fun x H1 => ∃ z : Str, x = .str z ∧ z.length ≤ sizeLine ∧ Q (.str (revS z)) H1
theorem revS_pick (z : Str) : (((Builtin.Str.strSliceIndices none none (-1) z.length).filterMap (z.cps[·]?)).toArray) = z.cps.toList.reverse.toArray := by
  have e : Builtin.Str.strSliceIndices none none (-1) z.length = sliceRange ((z.length : Int) - 1) (-1) (-1) := rfl
  rw [e, PySem.W.krv_sliceRange, PySem.W.krv_range, List.filterMap_reverse]
  have := PySem.W.krv_all z.cps
  rw [show z.length = z.cps.size from rfl, this]
theorem pe_revS {X : Cx} {e : Expr} {te : TE} {k : Nat} {p1 p2 p3 pos : Pos} (he : PE X e te) : PE X (.Subscript e (.Slice none none (some (.UnaryOp .USub (.Constant (.int 1) k p1) p2)) p3) pos) (tRevS te) := by
  refine ⟨fun pins s σ H Q I h => ?_⟩
  refine Subscript_ (thn (he.run pins s σ H _ I h) fun v s1 ⟨x, H1, I1, r1, q1⟩ => ?_)
  obtain ⟨z, ex, hz, q⟩ := q1
  subst ex
  obtain ⟨t, rfl⟩ := r1
  have hst : PO X (some (.UnaryOp .USub (.Constant (.int 1) k p1) p2)) (tPart (tUn (rU fun i => .int (-i)) (tC (.int 1)))) := po_some (pe_un un_neg pe_int)
  refine wpAny_Slice (thn (po_none.run pins s1 σ H1 (fun o H2 => o = none ∧ H2 = H1) I1 ⟨rfl, rfl⟩) fun vl s2 ⟨l, H2, I2, pl, el, e2⟩ => ?_)
  subst el e2
  refine thn (po_none.run pins s2 σ H2 (fun o H3 => o = none ∧ H3 = H2) I2 ⟨rfl, rfl⟩) fun vu s3 ⟨u, H3, I3, pu, eu, e3⟩ => ?_
  subst eu e3
  refine thn (hst.run pins s3 σ H3 (fun o H4 => o = some (-1) ∧ H4 = H3) I3 ⟨1, rfl, -1, rfl, rfl, rfl⟩) fun vs s4 ⟨o, H4, I4, ps, eo, e4⟩ => ?_
  subst eo e4
  have I5 : Inv X pins σ H4 { s4 with heap := s4.heap.push { cls := .type "slice", data := .fields #[vl, vu, vs] } } := I4.kept (t' := s4.toks) fun b ob q => Heap.get?_push_of_some _ q
  have hsl := Heap.IsSliceOf.new s4.heap vl vu vs
  show wpAny (model X.prog X.w) X.A (subscriptTail e (.Slice none none (some (.UnaryOp .USub (.Constant (.int 1) k p1) p2)) p3) (.str z t) (.ref s4.heap.objs.size)) (EP X pins σ Q) X.xe { s4 with heap := s4.heap.push { cls := .type "slice", data := .fields #[vl, vu, vs] } }
  refine tail_any (ops := [.str z t, .ref s4.heap.objs.size]) (typeIs_str _ _ _) (F.slot_str_getitem.lookup) ?_ (by with_unfolding_all rfl)
  obtain ⟨os, hos, hcs, hds⟩ := hsl
  obtain ⟨l, hl, el⟩ := IsPart.raw pl
  obtain ⟨u, hu, eu⟩ := IsPart.raw pu
  obtain ⟨st, hs, es⟩ := IsPart.raw ps
  refine wpAny_getItem_str_slice (l := l) (u := u) (st := st) ⟨os, hos, hcs, by rw [hds, hl, hu, hs]⟩ (by rw [es]; rfl) ?_
  unfold sliceMade slicePicked
  rw [el, eu, es]
  have hl2 : (⟨(((Builtin.Str.strSliceIndices none none (-1) z.length).filterMap (z.cps[·]?)).toArray)⟩ : Str) = revS z := congrArg Str.mk (revS_pick z)
  show Made.post (if ((-1 : Int) == 1 && _) = true then Made.val (.str z t) else Made.str ⟨((Builtin.Str.strSliceIndices none none (-1) z.length).filterMap (z.cps[·]?)).toArray⟩) (EP X pins σ Q) _
  rw [hl2, if_neg (fun h => by rw [show ((-1 : Int) == 1) = false from rfl, Bool.false_and] at h; cases h)]
  have hrl : (revS z).length ≤ sizeLine := by
    show (z.cps.toList.reverse.toArray).size ≤ _
    rw [List.size_toArray, List.length_reverse, Array.length_toList]
    exact hz
  exact ⟨hrl, .str _, H4, I5.tok _, ⟨_, rfl⟩, q⟩
end KB

/-! # KMX: either of two readings of an expression (a method of one of two classes); text.index(sign) -/
namespace KB
open PySem PySem.Spec PyProof.Rows L2
def tEither (t1 t2 : TE) : TE := fun σ H Q => t1 σ H Q ∨ t2 σ H Q
theorem pe_or {X : Cx} {e : Expr} {t1 t2 : TE} (h1 : PE X e t1) (h2 : PE X e t2) : PE X e (tEither t1 t2) :=
  ⟨fun pins s σ H Q I h => h.elim (h1.run pins s σ H Q I) (h2.run pins s σ H Q I)⟩
def ix0 (x y : Str) : Option Nat := (Builtin.Str.occurrences x y 0 x.length 1).head?
def rStrIx : V → List V → Hp → VK → Prop := fun x xs H Q => ∃ (a b : Str) (k : Nat), x = .str a ∧ xs = [.str b] ∧ ix0 a b = some k ∧ Q (.int (k : Nat)) H
theorem mt_strIndex {X : Cx} : MtR X "str.index" rStrIx := by
  intro pins s σ H x xs v us Q I rx rs h
  obtain ⟨a, b, k, rfl, rfl, hk, h⟩ := h
  obtain ⟨t, rfl⟩ := rx
  cases rs with
  | cons r1 rs =>
    cases rs
    obtain ⟨u, rfl⟩ := r1
    unfold ix0 at hk
    cases q : Builtin.Str.occurrences a b 0 a.length 1 with
    | nil => rw [q] at hk; cases hk
    | cons j rest =>
      rw [q] at hk
      cases Option.some.inj hk
      exact PySem.SC.index q ⟨.int (k : Nat), H, I.tok _, ⟨_, rfl⟩, h⟩
end KB

namespace K14
open PySem PySem.Spec PyProof.Rows L2 KB
local macro_rules | `(tactic| walk_at "hp") => `(tactic| (repeat' (first | exact upd_same | assumption | (refine same_upd (by assumption) _ _ ?_) | (rw [upd_ne (by assumption)]) | (rw [upd_ne (Ne.symm (by assumption))]))))

def topS (i : Nat) : Stmt := PySem.Challenge.pw_keptbudgets_k14_programs_by_number.main.body.getD i (.Pass ⟨0, 0, 0, 0⟩)
abbrev s_NoProgram___init__ : Stmt := inClass (topS 4) 0
theorem xb_NoProgram : XBody s_NoProgram___init__ ["program"] := ⟨⟨_, _, _, _, _, _, _, _, _, rfl, rfl, .inl ⟨_, _, _, _, _, rfl, rfl⟩⟩, ⟨_, rfl, rfl⟩, fun _ _ _ _ _ _ _ _ us hl => match us, hl with | [_], _ => rfl, ⟨rfl, rfl, rfl, by decide +kernel, rfl, by decide +kernel, rfl, rfl⟩, by decide +kernel, by decide +kernel⟩
abbrev s_InvalidNumber___init__ : Stmt := inClass (topS 3) 0
theorem xb_InvalidNumber : XBody s_InvalidNumber___init__ ["number"] := ⟨⟨_, _, _, _, _, _, _, _, _, rfl, rfl, .inl ⟨_, _, _, _, _, rfl, rfl⟩⟩, ⟨_, rfl, rfl⟩, fun _ _ _ _ _ _ _ _ us hl => match us, hl with | [_], _ => rfl, ⟨rfl, rfl, rfl, by decide +kernel, rfl, by decide +kernel, rfl, rfl⟩, by decide +kernel, by decide +kernel⟩
abbrev s_is_integer : Stmt := topS 6
theorem sc_is_integer : FnScope ["value"] ["value"] (defScope s_is_integer) := ⟨rfl, rfl, rfl, by decide +kernel, rfl, by decide +kernel, by decide +kernel⟩
abbrev s_is_word : Stmt := topS 8
theorem sc_is_word : FnScope ["value"] ["value"] (defScope s_is_word) := ⟨rfl, rfl, rfl, by decide +kernel, rfl, by decide +kernel, by decide +kernel⟩
abbrev s_depth_behind : Stmt := topS 12
theorem sc_depth_behind : FnScope ["language", "sign", "depth"] ["language", "sign", "depth"] (defScope s_depth_behind) := ⟨rfl, rfl, rfl, by decide +kernel, rfl, by decide +kernel, by decide +kernel⟩
abbrev s_longest_beginning : Stmt := topS 13
theorem sc_longest_beginning : FnScope ["language", "text", "depth", "at", "sign"] ["language", "text"] (defScope s_longest_beginning) := ⟨rfl, rfl, rfl, by decide +kernel, rfl, by decide +kernel, by decide +kernel⟩
abbrev s_is_block : Stmt := topS 14
theorem sc_is_block : FnScope ["language", "value", "text"] ["language", "value"] (defScope s_is_block) := ⟨rfl, rfl, rfl, by decide +kernel, rfl, by decide +kernel, by decide +kernel⟩
abbrev s_signs_of : Stmt := topS 15
theorem sc_signs_of : FnScope ["language", "program", "places", "tokens", "at", "token"] ["language", "program"] (defScope s_signs_of) := ⟨rfl, rfl, rfl, by decide +kernel, rfl, by decide +kernel, by decide +kernel⟩
abbrev s_Reels_is_program : Stmt := inClass (topS 23) 3
theorem sc_Reels_is_program : FnScope ["self", "program"] ["self", "program"] (defScope s_Reels_is_program) := ⟨rfl, rfl, rfl, by decide +kernel, rfl, by decide +kernel, by decide +kernel⟩
abbrev s_Stacks_is_program : Stmt := inClass (topS 25) 3
theorem sc_Stacks_is_program : FnScope ["self", "program"] ["self", "program"] (defScope s_Stacks_is_program) := ⟨rfl, rfl, rfl, by decide +kernel, rfl, by decide +kernel, by decide +kernel⟩
abbrev s_ways_to_close : Stmt := topS 21
theorem sc_ways_to_close : FnScope ["language", "tokens", "closers", "others", "ways", "left", "fewer", "row", "depth"] ["language", "tokens"] (defScope s_ways_to_close) := ⟨rfl, rfl, rfl, by decide +kernel, rfl, by decide +kernel, by decide +kernel⟩
abbrev s_program_of_number : Stmt := topS 19
theorem sc_program_of_number : FnScope ["language", "tokens", "number", "ways", "program", "depth", "below", "left", "token", "sign", "behind"] ["language", "tokens", "number"] (defScope s_program_of_number) := ⟨rfl, rfl, rfl, by decide +kernel, rfl, by decide +kernel, by decide +kernel⟩
abbrev s_number_of_program : Stmt := topS 20
theorem sc_number_of_program : FnScope ["language", "program", "signs", "ways", "below", "depth", "place", "own", "left", "sign"] ["language", "program"] (defScope s_number_of_program) := ⟨rfl, rfl, rfl, by decide +kernel, rfl, by decide +kernel, by decide +kernel⟩
abbrev s_law_tape : Stmt := topS 27
theorem sc_law_tape : FnScope ["script", "great", "seed", "cell"] ["script"] (defScope s_law_tape) := ⟨rfl, rfl, rfl, by decide +kernel, rfl, by decide +kernel, by decide +kernel⟩
abbrev s_law_draw : Stmt := topS 28
theorem sc_law_draw : FnScope ["tape", "limit", "great", "number", "mixed"] ["tape", "limit"] (defScope s_law_draw) := ⟨rfl, rfl, rfl, by decide +kernel, rfl, by decide +kernel, by decide +kernel⟩
abbrev s_law_integer : Stmt := topS 29
theorem sc_law_integer : FnScope ["tape", "number", "k"] ["tape"] (defScope s_law_integer) := ⟨rfl, rfl, rfl, by decide +kernel, rfl, by decide +kernel, by decide +kernel⟩
abbrev s_law_string : Stmt := topS 30
theorem sc_law_string : FnScope ["tape", "menu"] ["tape"] (defScope s_law_string) := ⟨rfl, rfl, rfl, by decide +kernel, rfl, by decide +kernel, by decide +kernel⟩
abbrev s_law_stranger : Stmt := topS 31
theorem sc_law_stranger : FnScope ["tape", "deep", "kind", "parts", "k"] ["tape", "deep"] (defScope s_law_stranger) := ⟨rfl, rfl, rfl, by decide +kernel, rfl, by decide +kernel, by decide +kernel⟩
abbrev s_law_copy : Stmt := topS 32
theorem sc_law_copy : FnScope ["thing", "part"] ["thing"] (defScope s_law_copy) := ⟨rfl, rfl, rfl, by decide +kernel, rfl, by decide +kernel, by decide +kernel⟩
abbrev s_law_same : Stmt := topS 33
theorem sc_law_same : FnScope ["told", "due", "k"] ["told", "due"] (defScope s_law_same) := ⟨rfl, rfl, rfl, by decide +kernel, rfl, by decide +kernel, by decide +kernel⟩
abbrev s_law_step : Stmt := topS 34
theorem sc_law_step : FnScope ["code", "closers"] ["code", "closers"] (defScope s_law_step) := ⟨rfl, rfl, rfl, by decide +kernel, rfl, by decide +kernel, by decide +kernel⟩
abbrev s_law_ways : Stmt := topS 35
theorem sc_law_ways : FnScope ["closers", "many", "ways", "k", "left", "ahead", "row", "deep"] ["closers"] (defScope s_law_ways) := ⟨rfl, rfl, rfl, by decide +kernel, rfl, by decide +kernel, by decide +kernel⟩
abbrev s_law_word : Stmt := topS 36
theorem sc_law_word : FnScope ["value", "length", "k"] ["value", "length"] (defScope s_law_word) := ⟨rfl, rfl, rfl, by decide +kernel, rfl, by decide +kernel, by decide +kernel⟩
abbrev s_law_ranked : Stmt := topS 37
theorem sc_law_ranked : FnScope ["ways", "closers", "tokens", "number", "word", "deep", "k", "code", "down", "size"] ["ways", "closers", "tokens", "number"] (defScope s_law_ranked) := ⟨rfl, rfl, rfl, by decide +kernel, rfl, by decide +kernel, by decide +kernel⟩
abbrev s_law_rank : Stmt := topS 38
theorem sc_law_rank : FnScope ["ways", "closers", "value", "sign", "number", "deep", "tokens", "k", "own", "code"] ["ways", "closers", "value"] (defScope s_law_rank) := ⟨rfl, rfl, rfl, by decide +kernel, rfl, by decide +kernel, by decide +kernel⟩
abbrev s_law_told_program : Stmt := topS 39
theorem sc_law_told_program : FnScope ["language", "tokens", "number", "by_name", "e"] ["language", "tokens", "number", "by_name"] (defScope s_law_told_program) := ⟨rfl, rfl, rfl, by decide +kernel, rfl, by decide +kernel, by decide +kernel⟩
abbrev s_law_told_number : Stmt := topS 40
theorem sc_law_told_number : FnScope ["language", "program", "by_name", "e"] ["language", "program", "by_name"] (defScope s_law_told_number) := ⟨rfl, rfl, rfl, by decide +kernel, rfl, by decide +kernel, by decide +kernel⟩
abbrev s_law_number_right : Stmt := topS 41
theorem sc_law_number_right : FnScope ["language", "ways", "closers", "tokens", "number", "by_name", "kept", "told", "good", "word", "back"] ["language", "ways", "closers", "tokens", "number", "by_name"] (defScope s_law_number_right) := ⟨rfl, rfl, rfl, by decide +kernel, rfl, by decide +kernel, by decide +kernel⟩
abbrev s_law_program_right : Stmt := topS 42
theorem sc_law_program_right : FnScope ["language", "ways", "closers", "value", "by_name", "kept", "due", "told"] ["language", "ways", "closers", "value", "by_name"] (defScope s_law_program_right) := ⟨rfl, rfl, rfl, by decide +kernel, rfl, by decide +kernel, by decide +kernel⟩
abbrev s_law_spoilt : Stmt := topS 43
theorem sc_law_spoilt : FnScope ["tape", "word", "at", "token", "kind"] ["tape", "word"] (defScope s_law_spoilt) := ⟨rfl, rfl, rfl, by decide +kernel, rfl, by decide +kernel, by decide +kernel⟩
abbrev s_law_asks : Stmt := topS 44
theorem sc_law_asks : FnScope ["script", "tape", "which", "language", "closers", "ways", "tokens", "count", "drawn", "k", "middle", "numbers", "word", "values"] ["script"] (defScope s_law_asks) := ⟨rfl, rfl, rfl, by decide +kernel, rfl, by decide +kernel, by decide +kernel⟩
abbrev s_law : Stmt := topS 45
theorem sc_law : FnScope ["script"] ["script"] (defScope s_law) := ⟨rfl, rfl, rfl, by decide +kernel, rfl, by decide +kernel, by decide +kernel⟩
/-! ### programs that are one block: signs, codes, depths -/
def sgnS (rl : Bool) : Str := if rl = true then ".01[+=~*" else ".01[><!?"
def cloS (rl : Bool) : Str := if rl = true then ".*" else "."
def dpC (rl : Bool) (c d : Nat) : Nat := if c = 91 then d + 1 else if c ∈ (cloS rl).cps.toList then d - 1 else d
def sgC (rl : Bool) (c : Nat) : Nat := (sgnS rl).cps.toList.getD c 0
def stC (rl : Bool) (c d : Nat) : Nat := dpC rl (sgC rl c) d
/-- how far a text begins a program, and the depth there -/
def lbW (rl : Bool) : List Nat → Nat → Nat → Nat × Nat
  | [], a, d => (a, d)
  | c :: r, a, d => if d = 0 ∨ c ∉ (sgnS rl).cps.toList then (a, d) else lbW rl r (a + 1) (dpC rl c d)
/-- the codes of a word's tokens -/
def cdL : List Nat → List Nat
  | a :: b :: c :: r => (4 * (a - 48) + 2 * (b - 48) + (c - 48)) :: cdL r
  | _ => []
def good (rl : Bool) : List Nat → Nat → Bool
  | [], d => d == 0
  | c :: r, d => d != 0 && good rl r (stC rl c d)
def isP (rl : Bool) (z : Str) : Bool := isB z && (decide (z.length % 3 = 0) && good rl (cdL z.cps.toList) 1)
def isPD (rl : Bool) : PyData → Bool
  | .str z => isP rl z
  | _ => false
def tokL : List Str := ["000", "001", "010", "011", "100", "101", "110", "111"]
def sgW (rl : Bool) (cs : List Nat) : Str := ⟨(cs.map (sgC rl)).toArray⟩
theorem sgC_mem {rl : Bool} {c : Nat} (h : c < 8) : sgC rl c ∈ (sgnS rl).cps.toList := by
  revert c
  cases rl <;> decide
theorem dpC_le (rl : Bool) (c d : Nat) : dpC rl c d ≤ d + 1 ∧ d - 1 ≤ dpC rl c d := by
  unfold dpC
  split
  · omega
  · split <;> omega
theorem stC_le (rl : Bool) (c d : Nat) : stC rl c d ≤ d + 1 ∧ d - 1 ≤ stC rl c d := dpC_le ..
theorem cdL_len : ∀ (cs : List Nat), (cdL cs).length = cs.length / 3
  | [] => rfl
  | [_] => by show 0 = 1 / 3; decide
  | [_, _] => by show 0 = 2 / 3; decide
  | a :: b :: c :: r => by
    show (cdL r).length + 1 = (r.length + 1 + 1 + 1) / 3
    rw [cdL_len r]
    omega
theorem cdL_drop : ∀ (k : Nat) (cs : List Nat), (cdL cs).drop k = cdL (cs.drop (3 * k))
  | 0, cs => rfl
  | k + 1, a :: b :: c :: r => by
    show (cdL r).drop k = _
    rw [cdL_drop k r, show 3 * (k + 1) = 3 * k + 1 + 1 + 1 by omega]
    rfl
  | k + 1, [] => rfl
  | k + 1, [a] => by rw [show 3 * (k + 1) = 3 * k + 2 + 1 by omega]; rfl
  | k + 1, [a, b] => by rw [show 3 * (k + 1) = 3 * k + 1 + 1 + 1 by omega]; rfl
theorem cdL_get {cs : List Nat} {k : Nat} (h : 3 * k + 2 < cs.length) : ∃ a b c, (cs.drop (3 * k)).take 3 = [a, b, c] ∧ (cdL cs)[k]? = some (4 * (a - 48) + 2 * (b - 48) + (c - 48)) ∧ a ∈ cs ∧ b ∈ cs ∧ c ∈ cs := by
  have hd : (cs.drop (3 * k)).length = cs.length - 3 * k := List.length_drop
  match e : cs.drop (3 * k), hd with
  | [], hd => simp at hd; omega
  | [_], hd => simp at hd; omega
  | [_, _], hd => simp at hd; omega
  | a :: b :: c :: r, _ =>
    have m : ∀ x ∈ cs.drop (3 * k), x ∈ cs := fun x hx => List.mem_of_mem_drop hx
    rw [e] at m
    refine ⟨a, b, c, rfl, ?_, m a (by simp), m b (by simp), m c (by simp)⟩
    have h2 := cdL_drop k cs
    rw [e] at h2
    have h3 : ((cdL cs).drop k)[0]? = some (4 * (a - 48) + 2 * (b - 48) + (c - 48)) := by rw [h2]; rfl
    rw [List.getElem?_drop] at h3
    exact h3
/-- a word's tokens and their codes -/
theorem tok_at {z : Str} {k : Nat} (hb : isB z = true) (h : 3 * k + 2 < z.length) : ∃ c, c < 8 ∧ (cdL z.cps.toList)[k]? = some c ∧ tokL[c]? = some (⟨((z.cps.toList.drop (3 * k)).take 3).toArray⟩ : Str) := by
  have hl : z.cps.toList.length = z.length := Array.length_toList
  obtain ⟨a, b, c, e1, e2, ha, hb', hc⟩ := cdL_get (cs := z.cps.toList) (k := k) (by omega)
  refine ⟨_, ?_, e2, ?_⟩
  · rcases isB_mem hb ha with x | x <;> rcases isB_mem hb hb' with y | y <;> rcases isB_mem hb hc with w | w <;> subst x <;> subst y <;> subst w <;> decide
  · rw [e1]
    rcases isB_mem hb ha with x | x <;> rcases isB_mem hb hb' with y | y <;> rcases isB_mem hb hc with w | w <;> subst x <;> subst y <;> subst w <;> rfl
theorem cd_lt {z : Str} (hb : isB z = true) : ∀ c ∈ cdL z.cps.toList, c < 8 := fun c hc => by
  obtain ⟨k, hk, e⟩ := List.getElem_of_mem hc
  rw [cdL_len] at hk
  obtain ⟨c', h1, h2, _⟩ := tok_at hb (k := k) (by have : z.cps.toList.length = z.length := Array.length_toList; omega)
  rw [List.getElem?_eq_getElem (by rw [cdL_len]; exact hk), e] at h2
  cases h2
  exact h1
theorem tok_first {c m : Nat} (h : m < c) (hc : c < 8) : tokL[m]? ≠ tokL[c]? := (by decide : ∀ c < 8, ∀ m < c, tokL[m]? ≠ tokL[c]?) c hc m h
theorem lb_step {rl : Bool} {c : Nat} {r : List Nat} {a d : Nat} (hd : d ≠ 0) (hc : c ∈ (sgnS rl).cps.toList) : lbW rl (c :: r) a d = lbW rl r (a + 1) (dpC rl c d) := by
  show (if _ then _ else _) = _
  rw [if_neg (fun z => z.elim hd (fun z => z hc))]
theorem lb_stop {rl : Bool} {c : Nat} {r : List Nat} {a d : Nat} (h : d = 0 ∨ c ∉ (sgnS rl).cps.toList) : lbW rl (c :: r) a d = (a, d) := by
  show (if _ then _ else _) = _
  rw [if_pos h]
theorem lb_good {rl : Bool} : ∀ (cs : List Nat) (a d : Nat), (∀ c ∈ cs, c < 8) → (lbW rl (cs.map (sgC rl)) a d = (a + cs.length, 0) ↔ good rl cs d = true)
  | [], a, d, _ => by
    show ((a, d) = (a + 0, 0)) ↔ (d == 0) = true
    simp
  | c :: r, a, d, h => by
    show (lbW rl (sgC rl c :: r.map (sgC rl)) a d = (a + (r.length + 1), 0)) ↔ (d != 0 && good rl r (stC rl c d)) = true
    by_cases hd : d = 0
    · rw [lb_stop (.inl hd), hd]
      simp
    · rw [lb_step hd (sgC_mem (h c (List.mem_cons_self ..))), show a + (r.length + 1) = a + 1 + r.length by omega, show dpC rl (sgC rl c) d = stC rl c d from rfl, lb_good r (a + 1) _ fun x hx => h x (List.mem_cons_of_mem _ hx)]
      simp [hd]
theorem lb_le {rl : Bool} : ∀ (cs : List Nat) (a d : Nat), (lbW rl cs a d).1 ≤ a + cs.length ∧ (lbW rl cs a d).2 ≤ d + cs.length
  | [], a, d => ⟨Nat.le_refl _, Nat.le_refl _⟩
  | c :: r, a, d => by
    by_cases h : d = 0 ∨ c ∉ (sgnS rl).cps.toList
    · rw [lb_stop h]
      exact ⟨Nat.le_add_right _ _, Nat.le_add_right _ _⟩
    · have h1 : d ≠ 0 := fun z => h (.inl z)
      have h2 : c ∈ (sgnS rl).cps.toList := Classical.byContradiction fun z => h (.inr z)
      rw [lb_step h1 h2]
      have ih := lb_le (rl := rl) r (a + 1) (dpC rl c d)
      have := dpC_le rl c d
      rw [List.length_cons]
      omega
/-- all programs of n more tokens behind a word -/
def fin (rl : Bool) : Nat → Str → Nat → List Str
  | 0, w, d => if d = 0 then [w] else []
  | n + 1, w, d => if d = 0 then [] else (List.range 8).flatMap fun c => fin rl n (w ++ tokL.getD c "") (stC rl c d)
theorem fin_none {rl : Bool} : ∀ {n : Nat} {w : Str} {d : Nat}, n < d → fin rl n w d = []
  | 0, w, d, h => if_neg (by omega)
  | n + 1, w, d, h => by
    show (if _ then _ else _) = _
    rw [if_neg (by omega)]
    rw [List.flatMap_eq_nil_iff]
    intro c _
    exact fin_none (by have := stC_le rl c d; omega)
theorem fin_zero {rl : Bool} {n : Nat} {w : Str} (h : 0 < n) : fin rl n w 0 = [] := by
  cases n with
  | zero => omega
  | succ n => exact if_pos rfl
/-- the words of a level, each with one token more -/
def ext1 (rl : Bool) (p : Str × Nat) : List (Str × Nat) := (List.range 8).map fun c => (p.1 ++ tokL.getD c "", stC rl c p.2)
def kpB (l : Nat) (p : Str × Nat) : Bool := decide (min l 1 ≤ p.2) && decide (p.2 ≤ l)
theorem fin_step {rl : Bool} (l : Nat) (ps : List (Str × Nat)) (h1 : ∀ p ∈ ps, 1 ≤ p.2) : ((ps.flatMap (ext1 rl)).filter (kpB l)).flatMap (fun p => fin rl l p.1 p.2) = ps.flatMap (fun p => fin rl (l + 1) p.1 p.2) := by
  have drop : ∀ qs : List (Str × Nat), (qs.filter (kpB l)).flatMap (fun p => fin rl l p.1 p.2) = qs.flatMap (fun p => fin rl l p.1 p.2) := fun qs => by
    induction qs with
    | nil => rfl
    | cons q qs ih =>
      rw [List.filter_cons]
      by_cases h : kpB l q = true
      · rw [if_pos h, List.flatMap_cons, List.flatMap_cons, ih]
      · rw [if_neg h, List.flatMap_cons, ih]
        have : fin rl l q.1 q.2 = [] := by
          unfold kpB at h
          rw [Bool.and_eq_true, decide_eq_true_iff, decide_eq_true_iff] at h
          by_cases h2 : q.2 ≤ l
          · have h3 : ¬ min l 1 ≤ q.2 := fun z => h ⟨z, h2⟩
            rw [show q.2 = 0 by omega]
            exact fin_zero (by omega)
          · exact fin_none (by omega)
        rw [this, List.nil_append]
  rw [drop]
  induction ps with
  | nil => rfl
  | cons p ps ih =>
    rw [List.flatMap_cons, List.flatMap_append, List.flatMap_cons, ih fun q hq => h1 q (List.mem_cons_of_mem _ hq)]
    congr 1
    have hp := h1 p (List.mem_cons_self ..)
    show _ = (if p.2 = 0 then [] else (List.range 8).flatMap fun c => fin rl l (p.1 ++ tokL.getD c "") (stC rl c p.2))
    rw [if_neg (by omega)]
    unfold ext1
    rw [List.flatMap_map]
/-- the tokens, a tuple of the module -/
def TokK (K : PySem.W.Frag) (A : Addr) : Prop := ∃ (o : Obj) (its : Array Value) (n : Nat), K.lookup A = some o ∧ o.cls = .type "tuple" ∧ o.dict = none ∧ o.data = .seq its n ∧ its.size ≤ sizeLine ∧ Vals (tokL.map V.str) its.toList
theorem TokK.sq {K : PySem.W.Frag} {A : Addr} {H : Hp} (h : TokK K A) : SqT K H A (tokL.map V.str) := by
  obtain ⟨o, its, n, h1, h2, _, h4⟩ := h
  exact .inr ⟨o, its, n, h1, h2, h4⟩
theorem TokK.ty {K : PySem.W.Frag} {A : Addr} {H : Hp} (h : TokK K A) : tyV K "tuple" (.ref A) H := by
  obtain ⟨o, its, n, h1, h2, h3, h4⟩ := h
  exact .inr (.inl ⟨rfl, o, h1, h2, h3⟩)
def blW (rl : Bool) (L : Nat) : List Str := if L % 3 = 0 then fin rl (L / 3) "" 1 else []

structure Txt (K : PySem.W.Frag) (mg : Str → Option Value) (C_Reels : Addr) (C_Stacks : Addr) (A_TOK : Addr) : Prop where
  b_super : mg "super" = none
  b_isinstance : mg "isinstance" = none
  b_int : mg "int" = none
  b_bool : mg "bool" = none
  b_str : mg "str" = none
  b_enumerate : mg "enumerate" = none
  b_len : mg "len" = none
  b_range : mg "range" = none
  b_reversed : mg "reversed" = none
  b_zip : mg "zip" = none
  b_abs : mg "abs" = none
  b_tuple : mg "tuple" = none
  b_list : mg "list" = none
  b_max : mg "max" = none
  g_Reels : mg "Reels" = some (.ref C_Reels)
  g_Stacks : mg "Stacks" = some (.ref C_Stacks)
  g_TOKENS : mg "TOKENS" = some (.ref A_TOK)
  g_TB : ∃ t, mg "TOKEN_BITS" = some (.int 3 t)
  tk_ : TokK K A_TOK
/-! ### the tape's two defs -/
def spTape (K : PySem.W.Frag) : Sp := fun vs H Q _ => ∃ (a : Addr) (ns : List Int), vs = [.ref a] ∧ SqL K H a (ns.map V.int) ∧ ns.length ≤ 63 ∧ ∀ H' t, Tp H H' t 0 → Q (.ref t) H'
def spDraw : Sp := fun vs H Q _ => ∃ (B : Hp) (t : Addr) (c : Nat) (lim : Int), vs = [.ref t, .int lim] ∧ Tp B H t c ∧ 0 < lim ∧ lim < 1073741824 ∧ c < 1000000000 ∧ ∀ H' n, Tp B H' t (c + 1) → 0 ≤ n → n < lim → Q (.int n) H'
section
variable {P : Program} {w : World} {K : PySem.W.Frag} {mg : Str → Option Value} {base : Heap} {C_Reels C_Stacks A_TOK : Addr}
theorem ok_law_tape {f : Addr} {fd : FuncData} (F : Fun K "_law_tape" "_law_tape" s_law_tape f fd) (T : Txt K mg C_Reels C_Stacks A_TOK) : FnOk P w K mg base CX0 1 f fd ["script"] (spTape K) := by
  refine F.ok sc_law_tape (fun vs H Q E h => ?_) (fun cdv A outer s H vs Q E hr h => ?_)
  · obtain ⟨a, ns, rfl, _⟩ := h
    rfl
  · obtain ⟨a, ns, rfl, hS, hlen, q⟩ := h
    refine ⟨_, (pss_cons (ps_set (i := 1) sc_law_tape.nd rfl (by first | exact Or.inl rfl | exact Or.inr rfl) (pe_lst pa_nil))
    (pss_cons (ps_set (i := 2) sc_law_tape.nd rfl (by first | exact Or.inl rfl | exact Or.inr rfl) pe_int)
    (pss_cons (ps_for PassesOwn.never rfl (pi_list (pe_slice sl_list (pv 0) po_none (po_some pe_int))) (pg_name (i := 3) sc_law_tape.nd rfl (by first | exact Or.inl rfl | exact Or.inr rfl))
      (pss_cons (ps_set (i := 2) sc_law_tape.nd rfl (by first | exact Or.inl rfl | exact Or.inr rfl) (pe_op op_mod (pe_callTy call_int1 (by rfl) T.b_int (by decide +kernel) (pa_cons (pe_op op_add (pe_op op_mul (pv 2) pe_int) (pe_callTy call_int1 (by rfl) T.b_int (by decide +kernel) (pa_cons (pv 3) pa_nil))) pa_nil)) pe_int))
        (pss_one (ps_if (pt_cmpR op_ge (pe_callB call_abs (by rfl) T.b_abs (by decide +kernel) (pa_cons (pe_callTy call_int1 (by rfl) T.b_int (by decide +kernel) (pa_cons (pv 3) pa_nil)) pa_nil)) (pe_op op_pow pe_int pe_int) (nomark _))
          (pss_one (ps_expr (pe_bm PySem.F.plainAttrs_list PySem.F.slot_list_append PySem.F.type_list_append mt_append (pv 1) (pa_cons (pe_callB call_abs (by rfl) T.b_abs (by decide +kernel) (pa_cons (pe_callTy call_int1 (by rfl) T.b_int (by decide +kernel) (pa_cons (pv 3) pa_nil)) pa_nil)) pa_nil))))
          pss_nil))))
    (pss_cons (ps_expr (pe_bm0 PySem.F.plainAttrs_list PySem.F.slot_list_reverse PySem.F.type_list_reverse mt_reverse (pv 1)))
    (pss_one (ps_ret (pe_lst (pa_cons (pv 1) (pa_cons (pv 2) (pa_cons pe_int pa_nil)))))))))), ?_⟩
    refine ⟨Nat.zero_le _, fun g hg => ?_⟩
    have s1 : Same H (upd H g (.lst [])) := same_upd hg
    refine ⟨_, rfl, 63, rfl, a, _, rfl, s1.seq hS, fun p hp => ?_⟩
    have hpg : g ≠ p := ne_of_none upd_same hp
    have hHp : H p = none := s1.free hp
    obtain ⟨ms, em, lm⟩ : ∃ ms : List Int, cutV (ns.map V.int) none (some 63) = ms.map V.int ∧ ms.length ≤ 63 := by
      refine ⟨(ns.drop (HT.sIx (ns.map V.int).length 0 none)).take (HT.sIx (ns.map V.int).length (ns.map V.int).length (some 63) - HT.sIx (ns.map V.int).length 0 none), ?_, ?_⟩
      · unfold cutV
        rw [List.map_take, List.map_drop]
      · rw [List.length_take, List.length_drop]
        omega
    rw [em]
    refine ⟨p, rfl, ⟨_, SqL.of upd_same⟩, for_list (K := K) (a := p) (xs := ms.map V.int) (fun i σ H' => ∃ (gs : List Int) (sd : Int) (v : Option V), σ = [some (.ref a), some (.ref g), some (.int sd), v] ∧ Same H H' ∧ H' g = some (.lst (gs.map V.int)) ∧ H' p = some (.lst (ms.map V.int)) ∧ gs.length ≤ i ∧ 0 ≤ sd ∧ sd < 2147483647)
      ⟨[], _, none, rfl, ?_, ?_, upd_same, Nat.le_refl _, by decide, by decide⟩ (fun i σ H' _ h => ?_) ?_ ?_⟩
    · exact s1.trans (same_upd hp)
    · rw [upd_ne hpg, upd_same]
      rfl
    · obtain ⟨_, _, _, _, _, _, h, _⟩ := h
      exact SqL.of h
    · rintro i x σ H' hi ⟨gs, sd, v, rfl, sm, eg, ep, hl, h0, h1⟩
      obtain ⟨u, rfl⟩ : ∃ u, x = V.int u := by
        rw [List.getElem?_map] at hi
        cases e : ms[i]? with
        | none => rw [e] at hi; cases hi
        | some u => rw [e] at hi; exact ⟨u, (Option.some.inj hi).symm⟩
      have hi63 : i < 63 := by
        have q := (List.getElem?_eq_some_iff.mp hi).1
        rw [List.length_map] at q
        omega
      refine ⟨_, rfl, _, _, rfl, rfl, .inl ⟨by omega, by omega⟩, _, rfl, .inl ⟨_, rfl, _, _, rfl, rfl, .inl ⟨_, rfl, _, _, rfl, rfl, (by show (0 : Int) < 2147483647; decide), ?_⟩⟩⟩
      have b0 := Int.emod_nonneg (sd * 48271 + u) (b := 2147483647) (by decide)
      have b1 := Int.emod_lt_of_pos (sd * 48271 + u) (b := 2147483647) (by decide)
      refine ⟨_, rfl, .inl ⟨_, rfl, _, rfl, _, _, rfl, rfl, ⟨by decide, by decide, by decide⟩, _, _, rfl, rfl, _, rfl, ite2 (fun _ => ?_) (fun _ => ?_)⟩⟩
      · refine ⟨_, rfl, .inl ⟨rfl, _, SqL.of eg⟩, _, rfl, .inl ⟨_, rfl, _, rfl, g, _, _, rfl, rfl, eg, ?_, ?_⟩⟩
        · rw [List.length_map]
          exact szl (by omega)
        · refine ⟨gs ++ [if u < 0 then -u else u], _, _, rfl, same_out sm hg, ?_, ?_, ?_, b0, b1⟩
          · rw [upd_same, List.map_append]
            rfl
          · rw [upd_ne hpg.symm]
            exact ep
          · rw [List.length_append]
            simp only [List.length_cons, List.length_nil]
            omega
      · exact ⟨gs, _, _, rfl, sm, eg, ep, by omega, b0, b1⟩
    · rintro σ H' ⟨gs, sd, v, rfl, sm, eg, ep, hl, h0, h1⟩
      refine ⟨_, rfl, .inl ⟨rfl, _, SqL.of eg⟩, g, _, rfl, rfl, eg, ?_⟩
      refine ⟨_, rfl, _, rfl, szle (by show 3 ≤ 16777216; decide), fun t ht => ?_⟩
      have ht' : H' t = none := by
        by_cases e : t = g
        · rw [e, upd_same] at ht
          cases ht
        · rw [upd_ne e] at ht
          exact ht
      have htg : t ≠ g := fun e => by rw [e, upd_same] at ht; cases ht
      refine q _ t ⟨same_out (same_out sm hg) (sm.free ht'), sm.free ht', g, gs.reverse, sd, 0, hg, htg, upd_same, ?_, ?_, h0, h1, by decide, by decide⟩
      · rw [upd_ne htg.symm, upd_same, List.map_reverse]
      · rw [List.length_reverse]
        rw [List.length_map] at hl
        omega
theorem ok_law_draw {f : Addr} {fd : FuncData} (F : Fun K "_law_draw" "_law_draw" s_law_draw f fd) (T : Txt K mg C_Reels C_Stacks A_TOK) : FnOk P w K mg base CX0 1 f fd ["tape", "limit"] spDraw := by
  refine F.ok sc_law_draw (fun vs H Q E h => ?_) (fun cdv A outer s H vs Q E hr h => ?_)
  · obtain ⟨B, t, c, lim, rfl, _⟩ := h
    rfl
  · obtain ⟨B, t, c, lim, rfl, ⟨sm, bt, g, gs, sd, ct, bg, htg, et, eg, hgl, s0, s1, c0, c1⟩, l0, l1, hc, q⟩ := h
    refine ⟨_, (pss_cons (ps_set (i := 2) sc_law_draw.nd rfl (by first | exact Or.inl rfl | exact Or.inr rfl) (pe_ix ix_list (pv 0) pe_int (fun _ _ => rfl)))
    (pss_cons (ps_if (pt_truth (pv 2) (by intro _; rfl))
      (pss_cons (ps_set (i := 3) sc_law_draw.nd rfl (by first | exact Or.inl rfl | exact Or.inr rfl) (pe_bm0 PySem.F.plainAttrs_list PySem.F.slot_list_pop PySem.F.type_list_pop mt_pop (pv 2)))
        (pss_cons (ps_if (pt_cmpR op_ge (pv 3) (pv 1) (nomark _))
          (pss_one (ps_expr (pe_bm PySem.F.plainAttrs_list PySem.F.slot_list_append PySem.F.type_list_append mt_append (pv 2) (pa_cons (pe_op op_fdivN (pv 3) (pv 1)) pa_nil))))
          pss_nil)
        (pss_one (ps_ret (pe_op op_mod (pe_callTy call_int1 (by rfl) T.b_int (by decide +kernel) (pa_cons (pv 3) pa_nil)) (pv 1))))))
      pss_nil)
    (pss_cons (ps_asg (pe_op op_add (pe_ix ix_list (pv 0) pe_int (fun _ _ => rfl)) pe_int) (pg_sub (pv 0) pe_int set_list))
    (pss_cons (ps_set (i := 4) sc_law_draw.nd rfl (by first | exact Or.inl rfl | exact Or.inr rfl) (pe_op op_mod (pe_callTy call_int1 (by rfl) T.b_int (by decide +kernel) (pa_cons (pe_op op_add (pe_op op_mul (pe_callTy call_int1 (by rfl) T.b_int (by decide +kernel) (pa_cons (pe_op op_add (pe_ix ix_list (pv 0) pe_int (fun _ _ => rfl)) (pe_ix ix_list (pv 0) pe_int (fun _ _ => rfl))) pa_nil)) pe_int) (pe_op op_mul (pe_op op_mul (pe_ix ix_list (pv 0) pe_int (fun _ _ => rfl)) (pe_ix ix_list (pv 0) pe_int (fun _ _ => rfl))) pe_int)) pa_nil)) pe_int))
    (pss_one (ps_ret (pe_op op_mod (pe_op op_fdiv (pe_op op_mod (pe_callTy call_int1 (by rfl) T.b_int (by decide +kernel) (pa_cons (pe_op op_add (pe_op op_mul (pv 4) (pv 4)) (pe_op op_mul (pe_ix ix_list (pv 0) pe_int (fun _ _ => rfl)) pe_int)) pa_nil)) pe_int) pe_int) (pv 1)))))))), ?_⟩
    refine ⟨_, rfl, t, _, _, _, rfl, rfl, SqL.of et, atI_nat (j := 0) rfl, ?_⟩
    refine ⟨_, rfl, _, .inl ⟨_, SqL.of eg, rfl⟩, ?_⟩
    cases hgs : gs.reverse with
    | nil =>
      have e0 : gs = [] := by
        have := congrArg List.reverse hgs
        rwa [List.reverse_reverse] at this
      subst e0
      refine iteF ?_
      refine ⟨_, rfl, t, _, _, _, rfl, rfl, SqL.of et, atI_nat (j := 2) rfl, _, _, rfl, rfl, ?_⟩
      refine ⟨_, rfl, t, _, _, _, rfl, rfl, et, rfl, ?_⟩
      have eg' : ∀ o, upd H t o g = some (.lst (([] : List Int).map V.int)) := fun o => by rw [upd_ne htg.symm]; exact eg
      have et2 : (upd H t (.lst [.ref g, .int sd, .int (ct + 1)])) t = some (.lst [.ref g, .int sd, .int (ct + 1)]) := upd_same
      have at1 : atI [V.ref g, V.int sd, V.int (ct + 1)] 1 = some (.int sd) := atI_nat (j := 1) rfl
      have at2 : atI [V.ref g, V.int sd, V.int (ct + 1)] 2 = some (.int (ct + 1)) := atI_nat (j := 2) rfl
      have hb : ct + 1 ≤ 1000000000 := by omega
      have hsq : 0 ≤ (ct + 1) * (ct + 1) ∧ (ct + 1) * (ct + 1) ≤ 1000000000 * 1000000000 := ⟨Int.mul_nonneg (by omega) (by omega), Int.mul_le_mul hb hb (by omega) (by decide)⟩
      refine ⟨_, rfl, t, _, _, _, rfl, rfl, SqL.of et2, at1, _, rfl, t, _, _, _, rfl, rfl, SqL.of et2, at2, _, _, rfl, rfl, .inl ⟨_, rfl, _, _, rfl, rfl, .inl ⟨by omega, by omega⟩, ?_⟩⟩
      refine ⟨_, rfl, t, _, _, _, rfl, rfl, SqL.of et2, at2, _, rfl, t, _, _, _, rfl, rfl, SqL.of et2, at2, _, _, rfl, rfl, .inl ⟨by omega, by omega⟩, ?_⟩
      refine ⟨_, _, rfl, rfl, .inl ⟨by omega, by omega⟩, _, _, rfl, rfl, .inl ⟨_, rfl, _, _, rfl, rfl, (by show (0 : Int) < 2147483629; decide), ?_⟩⟩
      have b0 := Int.emod_nonneg ((sd + (ct + 1)) * 69621 + (ct + 1) * (ct + 1) * 40692) (b := 2147483629) (by decide)
      have b1 := Int.emod_lt_of_pos ((sd + (ct + 1)) * 69621 + (ct + 1) * (ct + 1) * 40692) (b := 2147483629) (by decide)
      refine ⟨_, rfl, _, rfl, _, _, rfl, rfl, .inl ⟨by omega, by omega⟩, _, rfl, t, _, _, _, rfl, rfl, SqL.of et2, at2, _, _, rfl, rfl, .inl ⟨by omega, by omega⟩, _, _, rfl, rfl, .inl ⟨_, rfl, _, _, rfl, rfl, (by show (0 : Int) < 2147483647; decide), _, _, rfl, rfl, ⟨by decide, by decide⟩, _, rfl, _, _, rfl, rfl, l0, ?_⟩⟩
      refine q _ _ ⟨same_out sm bt, bt, g, [], sd, ct + 1, bg, htg, upd_same, eg' _, Nat.zero_le _, s0, s1, by omega, by omega⟩ (Int.emod_nonneg _ (by omega)) (Int.emod_lt_of_pos _ l0)
    | cons n r =>
      have e0 : gs = r.reverse ++ [n] := by
        have := congrArg List.reverse hgs
        rwa [List.reverse_reverse, List.reverse_cons] at this
      subst e0
      have eT : (!((r.reverse ++ [n]).map V.int).isEmpty) = true := by
        rw [List.map_append]
        cases List.map V.int r.reverse <;> rfl
      rw [eT]
      refine iteT ?_
      have lr : r.length ≤ 62 := by
        rw [List.length_append, List.length_reverse] at hgl
        simp only [List.length_cons, List.length_nil] at hgl
        omega
      have eg2 : H g = some (.lst (r.reverse.map V.int ++ [V.int n])) := by
        rw [eg, List.map_append]
        rfl
      have hpop : (r.reverse.map V.int ++ [V.int n])[(r.reverse.map V.int ++ [V.int n]).length - 1]? = some (V.int n) := by
        rw [List.length_append]
        simp
      refine ⟨_, rfl, .inl ⟨rfl, _, SqL.of eg2⟩, g, _, _, rfl, rfl, eg2, hpop, ?_⟩
      rw [List.dropLast_concat]
      have fin : ∀ H' gs', Same B H' → H' t = some (.lst [.ref g, .int sd, .int ct]) → H' g = some (.lst (List.map V.int gs')) → gs'.length ≤ 63 → Q (.int (n % lim)) H' := fun H' gs' a1 a2 a3 a4 =>
        q _ _ ⟨a1, bt, g, gs', sd, ct, bg, htg, a2, a3, a4, s0, s1, c0, by omega⟩ (Int.emod_nonneg _ (by omega)) (Int.emod_lt_of_pos _ l0)
      refine ⟨_, rfl, _, rfl, _, _, rfl, rfl, _, rfl, ite2 (fun _ => ?_) (fun _ => ?_)⟩
      · refine ⟨_, rfl, .inl ⟨rfl, _, SqL.of upd_same⟩, _, rfl, _, rfl, _, _, rfl, rfl, ⟨by omega, by omega⟩, g, _, _, rfl, rfl, upd_same, ?_, ?_⟩
        · rw [List.length_map, List.length_reverse]
          exact szl (by omega)
        · refine ⟨_, rfl, .inl ⟨_, rfl, _, rfl, _, _, rfl, rfl, l0, ?_⟩⟩
          refine fin _ (r.reverse ++ [n.fdiv lim]) (same_out (same_out sm bg) bg) ?_ ?_ ?_
          · rw [upd_ne htg, upd_ne htg]
            exact et
          · rw [upd_same, List.map_append]
            rfl
          · rw [List.length_append, List.length_reverse]
            simp only [List.length_cons, List.length_nil]
            omega
      · refine ⟨_, rfl, .inl ⟨_, rfl, _, rfl, _, _, rfl, rfl, l0, ?_⟩⟩
        refine fin _ r.reverse (same_out sm bg) ?_ upd_same ?_
        · rw [upd_ne htg]
          exact et
        · rw [List.length_reverse]
          omega
end

/-! ### is_word -/
section
variable {P : Program} {w : World} {K : PySem.W.Frag} {mg : Str → Option Value} {base : Heap} {C_Reels C_Stacks A_TOK : Addr}
theorem ok_is_word {f : Addr} {fd : FuncData} (F : Fun K "is_word" "is_word" s_is_word f fd) (T : Txt K mg C_Reels C_Stacks A_TOK) : FnOk P w K mg base CX0 1 f fd ["value"] (spIsWord K) := by
  refine F.ok sc_is_word (fun vs H Q E h => ?_) (fun cdv A outer s H vs Q E hr h => ?_)
  · obtain ⟨v, d, rfl, _⟩ := h
    rfl
  · obtain ⟨v, d, rfl, hv, hz, q⟩ := h
    refine ⟨_, (pss_one (ps_ret (pe_and (pe_callB call_isi (by rfl) T.b_isinstance (by decide +kernel) (pa_cons (pv 0) (pa_cons (pe_bltn (v := .ty "str") (by rfl) T.b_str (by decide +kernel) rfl) pa_nil))) (pe_one (pe_cmpR op_eq (pe_bm PySem.F.plainAttrs_str PySem.F.slot_str_strip PySem.F.type_str_strip mt_stripChars (pv 0) (pa_cons pe_str pa_nil)) pe_str (nomark _)))))), ?_⟩
    cases d with
    | str z =>
      cases hv
      refine ⟨_, rfl, _, _, _, _, _, rfl, .ty _, .base (.str z), kit_ty (r := true) (by decide), _, rfl, iteT ?_⟩
      refine ⟨_, rfl, rfl, z, _, rfl, rfl, szle (Nat.le_trans (hz z rfl) (by decide)), rfl, ?_⟩
      rw [strip01]
      exact q
    | none => cases hv; exact ⟨_, rfl, _, _, _, _, _, rfl, .ty _, .base .non, kit_ty (r := false) (by decide), _, rfl, iteF q⟩
    | bool b => cases hv; exact ⟨_, rfl, _, _, _, _, _, rfl, .ty _, .base (.bl b), kit_ty (r := false) (by decide), _, rfl, iteF q⟩
    | int b => cases hv; exact ⟨_, rfl, _, _, _, _, _, rfl, .ty _, .base (.int b), kit_ty (r := false) (by decide), _, rfl, iteF q⟩
    | list ds =>
      cases hv with
      | lst sx _ => exact ⟨_, rfl, _, _, _, _, _, rfl, .ty _, ty_seq sx, kit_ty (r := false) (by decide), _, rfl, iteF q⟩
    | tuple ds =>
      cases hv with
      | tup sx _ => exact ⟨_, rfl, _, _, _, _, _, rfl, .ty _, ty_tup sx, kit_ty (r := false) (by decide), _, rfl, iteF q⟩
    | dict ds => cases hv
end

/-! ### keptbudgets.blocks -/
structure Lg (K : PySem.W.Frag) (H : Hp) (r : Addr) (rl : Bool) : Prop where
  ex : ∃ (C dx : Addr) (u1 u2 : Value), H r = some (.ins C dx []) ∧ Cls K C ∧ Con K C "SIGNS" (.str (sgnS rl)) u1 ∧ Con K C "CLOSERS" (.str (cloS rl)) u2
theorem Lg.mono {K : PySem.W.Frag} {H H' : Hp} {r : Addr} {rl : Bool} (L : Lg K H r rl) (s : Same H H') : Lg K H' r rl := by
  obtain ⟨C, dx, u1, u2, h, x⟩ := L
  exact ⟨C, dx, u1, u2, s _ _ h, x⟩
theorem sg_at {rl : Bool} {c : Nat} (h : c < 8) : (sgnS rl).cps.toList[c]? = some (sgC rl c) := by
  cases rl
  · exact (by decide : ∀ c < 8, (sgnS false).cps.toList[c]? = some (sgC false c)) c h
  · exact (by decide : ∀ c < 8, (sgnS true).cps.toList[c]? = some (sgC true c)) c h
theorem cut3 {z : Str} {i : Nat} (h : 3 * i + 3 ≤ z.length) : cutS z (some ((3 * i : Nat) : Int)) (some ((3 * i + 3 : Nat) : Int)) = ⟨((z.cps.toList.drop (3 * i)).take 3).toArray⟩ := by
  unfold cutS
  rw [HT.sIx_nat, HT.sIx_nat, Nat.min_eq_left (by omega), Nat.min_eq_left (by omega), show 3 * i + 3 - 3 * i = 3 by omega]
def spDep (K : PySem.W.Frag) : Sp := fun vs H Q _ => ∃ (r : Addr) (rl : Bool) (c d : Nat), vs = [.ref r, .str ⟨#[c]⟩, .int (d : Int)] ∧ Lg K H r rl ∧ 1 ≤ d ∧ Q (.int (dpC rl c d : Nat)) H
def spLb (K : PySem.W.Frag) : Sp := fun vs H Q _ => ∃ (r : Addr) (rl : Bool) (z : Str), vs = [.ref r, .str z] ∧ Lg K H r rl ∧ z.length ≤ 100000 ∧ ∀ H' p, Same H H' → H' p = some (.tup [.int ((lbW rl z.cps.toList 0 1).1 : Nat), .int ((lbW rl z.cps.toList 0 1).2 : Nat)]) → Q (.ref p) H'
def spSgs (K : PySem.W.Frag) : Sp := fun vs H Q _ => ∃ (r : Addr) (rl : Bool) (z : Str), vs = [.ref r, .str z] ∧ Lg K H r rl ∧ isB z = true ∧ z.length % 3 = 0 ∧ z.length ≤ 3000 ∧ ∀ H', Same H H' → Q (.str (sgW rl (cdL z.cps.toList))) H'
def spIsBlk (K : PySem.W.Frag) : Sp := fun vs H Q _ => ∃ (r : Addr) (rl : Bool) (v : V) (d : PyData), vs = [.ref r, v] ∧ Lg K H r rl ∧ Dp K H v d ∧ (∀ z, d = .str z → z.length ≤ 3000) ∧ ∀ H', Same H H' → Q (.bl (isPD rl d)) H'
def Wd (H : Hp) (ys : List V) (ps : List (Str × Nat)) : Prop := ys.length = ps.length ∧ ∀ (i : Nat) (y : V), ys[i]? = some y → ∃ (t : Addr) (p : Str × Nat), y = .ref t ∧ ps[i]? = some p ∧ H t = some (.tup [.str p.1, .int (p.2 : Nat)])
theorem Wd.mono {H H' : Hp} {ys : List V} {ps : List (Str × Nat)} (h : Wd H ys ps) (s : Same H H') : Wd H' ys ps := ⟨h.1, fun i y hi => by
  obtain ⟨t, p, e1, e2, e3⟩ := h.2 i y hi
  exact ⟨t, p, e1, e2, s _ _ e3⟩⟩
theorem Wd.nil {H : Hp} : Wd H [] [] := ⟨rfl, fun i y h => by cases h⟩
theorem Wd.app {H : Hp} {ys zs : List V} {ps qs : List (Str × Nat)} (h : Wd H ys ps) (g : Wd H zs qs) : Wd H (ys ++ zs) (ps ++ qs) := by
  refine ⟨by simp [h.1, g.1], fun i y hi => ?_⟩
  by_cases hlt : i < ys.length
  · rw [List.getElem?_append_left hlt] at hi
    obtain ⟨t, p, e1, e2, e3⟩ := h.2 i y hi
    exact ⟨t, p, e1, by rw [List.getElem?_append_left (by rw [← h.1]; exact hlt)]; exact e2, e3⟩
  · rw [List.getElem?_append_right (by omega)] at hi
    obtain ⟨t, p, e1, e2, e3⟩ := g.2 _ y hi
    exact ⟨t, p, e1, by rw [List.getElem?_append_right (by rw [← h.1]; omega), ← h.1]; exact e2, e3⟩
theorem Wd.one {H : Hp} {t : Addr} {p : Str × Nat} (h : H t = some (.tup [.str p.1, .int (p.2 : Nat)])) : Wd H [.ref t] [p] := ⟨rfl, fun i y hi => by
  cases i with
  | zero => cases Option.some.inj hi; exact ⟨t, p, rfl, rfl, h⟩
  | succ i => cases hi⟩
theorem Wd.off {H : Hp} {ys xs : List V} {ps : List (Str × Nat)} {D : Addr} {o : HO} (h : Wd H ys ps) (hD : H D = some (.lst xs)) : Wd (upd H D o) ys ps := ⟨h.1, fun i y hi => by
  obtain ⟨t, p, e1, e2, e3⟩ := h.2 i y hi
  exact ⟨t, p, e1, e2, by rw [upd_ne (fun e => by rw [e, hD] at e3; cases e3)]; exact e3⟩⟩
theorem ext_len (rl : Bool) : ∀ ps : List (Str × Nat), (ps.flatMap (ext1 rl)).length = 8 * ps.length
  | [] => rfl
  | p :: ps => by
    rw [List.flatMap_cons, List.length_append, ext_len rl ps, List.length_cons]
    unfold ext1
    rw [List.length_map, List.length_range]
    omega
def spMore (K : PySem.W.Frag) : Sp := fun vs H Q _ => ∃ (r : Addr) (rl : Bool) (z : Str) (d : Nat), vs = [.ref r, .str z, .int (d : Int)] ∧ Lg K H r rl ∧ 1 ≤ d ∧ z.length ≤ 3000 ∧ ∀ H' p ys, Same H H' → H p = none → H' p = some (.lst ys) → Wd H' ys (ext1 rl (z, d)) → Q (.ref p) H'
def spBlks (K : PySem.W.Frag) : Sp := fun vs H Q _ => ∃ (r : Addr) (rl : Bool) (L : Nat), vs = [.ref r, .int (L : Int)] ∧ Lg K H r rl ∧ L ≤ 20 ∧ ∀ H' p, Same H H' → H' p = some (.tup ((blW rl L).map V.str)) → Q (.ref p) H'
section
variable {P : Program} {w : World} {K : PySem.W.Frag} {mg : Str → Option Value} {base : Heap} {C_Reels C_Stacks A_TOK : Addr}
theorem ok_depth_behind {f : Addr} {fd : FuncData} (F : Fun K "depth_behind" "depth_behind" s_depth_behind f fd) (T : Txt K mg C_Reels C_Stacks A_TOK) : FnOk P w K mg base CX0 1 f fd ["language", "sign", "depth"] (spDep K) := by
  refine F.ok sc_depth_behind (fun vs H Q E h => ?_) (fun cdv A outer s H vs Q E hr h => ?_)
  · obtain ⟨r, rl, c, d, rfl, _⟩ := h
    rfl
  · obtain ⟨r, rl, c, d, rfl, ⟨C, dx, u1, u2, hr', cl, cs, cc⟩, hd, q⟩ := h
    refine ⟨_, (pss_cons (ps_if (pt_cmpR op_eq (pv 1) pe_str (nomark _))
      (pss_one (ps_ret (pe_op op_add (pv 2) pe_int)))
      pss_nil)
    (pss_cons (ps_if (pt_cmpR op_in_sign (pv 1) (pe_con (pv 0) rfl) (by rfl))
      (pss_one (ps_ret (pe_op op_sub (pv 2) pe_int)))
      pss_nil)
    (pss_one (ps_ret (pv 2))))), ?_⟩
    have e91 : ("[" : Str) = ⟨#[91]⟩ := rfl
    refine ⟨_, rfl, rfl, _, rfl, ite2 (fun h => ?_) (fun h => ?_)⟩
    · have e : c = 91 := by
        have this : [c] = [91] := congrArg (fun z : Str => z.cps.toList) (V.str.inj (of_decide_eq_true h))
        exact (List.cons.inj this).1
      subst e
      exact ⟨_, rfl, _, _, rfl, rfl, q⟩
    · have ne : c ≠ 91 := fun e => h (by rw [e]; exact decide_eq_true rfl)
      refine ⟨_, rfl, _, rfl, r, C, dx, _, _, _, rfl, hr', cl, cc, rfl, c, _, rfl, rfl, _, rfl, ite2 (fun h2 => ?_) (fun h2 => ?_)⟩
      · have e : (dpC rl c d : Nat) = d - 1 := by
          unfold dpC
          rw [if_neg ne, if_pos (of_decide_eq_true h2)]
        rw [e, show ((d - 1 : Nat) : Int) = (d : Int) - 1 by omega] at q
        exact ⟨_, rfl, _, _, rfl, rfl, q⟩
      · have e : (dpC rl c d : Nat) = d := by
          unfold dpC
          rw [if_neg ne, if_neg fun z => h2 (decide_eq_true z)]
        rw [e] at q
        exact ⟨_, rfl, q⟩
theorem ok_longest_beginning {f : Addr} {fd : FuncData} (F : Fun K "longest_beginning" "longest_beginning" s_longest_beginning f fd) (T : Txt K mg C_Reels C_Stacks A_TOK) (c_depth_behind : Cal P w K mg base 1 "depth_behind" (spDep K)) : FnOk P w K mg base CX0 2 f fd ["language", "text"] (spLb K) := by
  refine F.ok sc_longest_beginning (fun vs H Q E h => ?_) (fun cdv A outer s H vs Q E hr h => ?_)
  · obtain ⟨r, rl, z, rfl, _⟩ := h
    rfl
  · obtain ⟨r, rl, z, rfl, L, hl, q⟩ := h
    refine ⟨_, (pss_cons (ps_set (i := 2) sc_longest_beginning.nd rfl (by first | exact Or.inl rfl | exact Or.inr rfl) pe_int)
    (pss_cons (ps_for PassesOwn.never rfl (pi_enumS (by rfl) T.b_enumerate (pa_cons (pv 1) pa_nil)) (pg_tup rfl (pgs_cons (pg_name (i := 3) sc_longest_beginning.nd rfl (by first | exact Or.inl rfl | exact Or.inr rfl)) (pgs_cons (pg_name (i := 4) sc_longest_beginning.nd rfl (by first | exact Or.inl rfl | exact Or.inr rfl)) pgs_nil)))
      (pss_cons (ps_if (PW.pt (pw_or (pt_cmpR op_eq (pv 2) pe_int (nomark _)) (pw_or1 (pt_cmpR op_notIn_sign (pv 4) (pe_con (pv 0) rfl) (by rfl)))))
          (pss_one (ps_ret (pe_tup (pa_cons (pv 3) (pa_cons (pv 2) pa_nil)))))
          pss_nil)
        (pss_one (ps_set (i := 2) sc_longest_beginning.nd rfl (by first | exact Or.inl rfl | exact Or.inr rfl) (pe_c c_depth_behind hr (by omega) (by rfl) (pa_cons (pv 0) (pa_cons (pv 4) (pa_cons (pv 2) pa_nil))))))))
    (pss_one (ps_ret (pe_tup (pa_cons (pe_callB call_len_str (by rfl) T.b_len PySem.boot_len (pa_cons (pv 1) pa_nil)) (pa_cons (pv 2) pa_nil))))))), ?_⟩
    refine ⟨_, rfl, z, rfl, for_enumS (fun i σ H' => ∃ (d : Nat) (v3 v4 : Option V), σ = [some (.ref r), some (.str z), some (.int (d : Int)), v3, v4] ∧ Same H H' ∧ lbW rl z.cps.toList 0 1 = lbW rl (z.cps.toList.drop i) i d) ⟨1, none, none, rfl, fun _ _ e => e, rfl⟩ ?_ ?_⟩
    · rintro i c σ H' hc ⟨d, v3, v4, rfl, sm, hw⟩ t ht
      have st := same_upd (o := .tup [.int (i : Nat), .str ⟨#[c]⟩]) ht
      refine ⟨t, _, rfl, SqT.of upd_same, rfl, _, _, rfl, _, _, rfl, rfl, ?_⟩
      have sm2 := sm.trans st
      generalize upd H' t (.tup [.int (i : Nat), .str ⟨#[c]⟩]) = H2 at *
      have edr : z.cps.toList.drop i = c :: z.cps.toList.drop (i + 1) := by
        have hlt := (List.getElem?_eq_some_iff.mp (show z.cps.toList[i]? = some c by rw [Array.getElem?_toList]; exact hc))
        obtain ⟨h1, h2⟩ := hlt
        rw [List.drop_eq_getElem_cons h1, h2]
      rw [edr] at hw
      obtain ⟨C, dx, u1, u2, hr', cl, cs, cc⟩ := (L.mono sm2).ex
      have stop : (d = 0 ∨ c ∉ (sgnS rl).cps.toList) → ∀ p, H2 p = none → Q (.ref p) (upd H2 p (.tup [.int (i : Nat), .int (d : Nat)])) := fun h p hp => by
        have e := lb_stop (a := i) (r := z.cps.toList.drop (i + 1)) h
        rw [hw] at q
        have := q _ p (sm2.trans (same_upd (o := .tup [.int (i : Nat), .int (d : Nat)]) hp))
        rw [e] at this
        exact this upd_same
      refine ⟨_, rfl, rfl, _, rfl, ite2 (fun h => ?_) (fun h => ?_)⟩
      · have h0 : d = 0 := by have := V.int.inj (of_decide_eq_true h); omega
        exact ⟨_, rfl, _, rfl, szle (by show 2 ≤ 16777216; decide), stop (.inl h0)⟩
      · have h0 : d ≠ 0 := fun e => h (by rw [e]; exact decide_eq_true rfl)
        refine ⟨_, rfl, _, rfl, r, C, dx, _, _, _, rfl, hr', cl, cs, rfl, c, _, rfl, rfl, _, rfl, ?_⟩
        by_cases hm : c ∈ (sgnS rl).cps.toList
        · rw [decide_eq_true hm]
          refine iteF ?_
          refine ⟨_, rfl, _, rfl, _, rfl, r, rl, c, d, rfl, L.mono sm2, by omega, dpC rl c d, _, _, rfl, sm2, ?_⟩
          rw [hw, lb_step h0 hm]
        · rw [decide_eq_false hm]
          refine iteT ?_
          exact ⟨_, rfl, _, rfl, szle (by show 2 ≤ 16777216; decide), stop (.inr hm)⟩
    · rintro σ H' ⟨d, v3, v4, rfl, sm, hw⟩
      have hz : z.cps.toList.length = z.cps.size := Array.length_toList
      rw [List.drop_of_length_le (by omega)] at hw
      refine ⟨_, rfl, z, rfl, szle (by omega), _, rfl, szle (by show 2 ≤ 16777216; decide), fun p hp => ?_⟩
      refine q _ p (sm.trans (same_upd hp)) ?_
      rw [hw]
      exact upd_same
theorem ok_signs_of {f : Addr} {fd : FuncData} (F : Fun K "signs_of" "signs_of" s_signs_of f fd) (T : Txt K mg C_Reels C_Stacks A_TOK) : FnOk P w K mg base CX0 1 f fd ["language", "program"] (spSgs K) := by
  refine F.ok sc_signs_of (fun vs H Q E h => ?_) (fun cdv A outer s H vs Q E hr h => ?_)
  · obtain ⟨r, rl, z, rfl, _⟩ := h
    rfl
  · obtain ⟨r, rl, z, rfl, L, hb, h3, hl, q⟩ := h
    refine ⟨_, (pss_cons (ps_set (i := 2) sc_signs_of.nd rfl (by first | exact Or.inl rfl | exact Or.inr rfl) (pe_callTy cr_range3 (by rfl) T.b_range (by decide +kernel) (pa_cons pe_int (pa_cons (pe_callB call_len_str (by rfl) T.b_len PySem.boot_len (pa_cons (pv 1) pa_nil)) (pa_cons (pe_glob (v := .int 3) (by rfl) T.g_TB.choose_spec ⟨_, rfl⟩) pa_nil)))))
    (pss_cons (ps_setLc (i := 3) (own := [("at", 4)]) rfl sc_signs_of.nd rfl rfl (sw_true rfl rfl rfl (by decide +kernel)) (pi_rgv (pv 2)) (blkOk_by (own := [("at", 4)]) (N := ["language", "program", "places", "tokens", "at", "token"]) (sc := defScope s_signs_of) (by decide +kernel)) (fun _ _ _ _ _ => (pg_name (i := 4) sc_signs_of.nd rfl (by first | exact Or.inl rfl | exact Or.inr rfl))) (fun _ _ _ _ _ => pts_nil) (fun _ _ _ _ _ => (pe_slice sl_str (pv 1) (po_some (pv 4)) (po_some (pe_op op_add (pv 4) (pe_glob (v := .int 3) (by rfl) T.g_TB.choose_spec ⟨_, rfl⟩))))))
    (pss_one (ps_ret (pe_join pe_str (pe_lc (own := [("token", 5)]) rfl sc_signs_of.nd (pi_list (pv 3)) (blkOk_by (own := [("token", 5)]) (N := ["language", "program", "places", "tokens", "at", "token"]) (sc := defScope s_signs_of) (by decide +kernel)) (fun _ _ _ _ _ => (pg_name (i := 5) sc_signs_of.nd rfl (by first | exact Or.inl rfl | exact Or.inr rfl))) (fun _ _ _ _ _ => pts_nil) (fun _ _ _ _ _ => (pe_ix ix_str (pe_conC K (pv 0) rfl) (pe_bmC K PySem.F.plainAttrs_tuple PySem.F.slot_tuple_index PySem.F.type_tuple_index (show MtR _ "tuple.index" (rTupIx K) from mt_tupIx) (pe_glob (v := .ref A_TOK) (by rfl) T.g_TOKENS rfl) (pa_cons (pv 5) pa_nil)) (fun _ _ => rfl))))))))), ?_⟩
    obtain ⟨n, hn⟩ : ∃ n, z.length = 3 * n := ⟨z.length / 3, by omega⟩
    refine ⟨_, rfl, z, rfl, szle (by omega), 0, _, 3, rfl, by decide, by decide, fun p hp => ?_⟩
    have s1 := same_upd (o := RgO p 0 ((z.length : Nat) : Int) 3) hp
    have hp1 : upd H p (RgO p 0 ((z.length : Nat) : Int) 3) p = some (RgO p 0 ((z.length : Nat) : Int) 3) := upd_same
    generalize upd H p (RgO p 0 ((z.length : Nat) : Int) 3) = H1 at *
    have hzl : z.cps.toList.length = z.length := Array.length_toList
    obtain ⟨cs, ecs⟩ : ∃ cs, cdL z.cps.toList = cs := ⟨_, rfl⟩
    have csl : cs.length = n := by rw [← ecs, cdL_len]; omega
    have cs8 : ∀ c ∈ cs, c < 8 := by rw [← ecs]; exact cd_lt hb
    have hmap : ∀ k, (cs.map fun c => tokL.getD c "")[k]? = cs[k]?.map fun c => tokL.getD c "" := fun k => List.getElem?_map
    refine ⟨_, rfl, p, _, _, _, n, rfl, hp1, by rw [hn]; exact rgc3 n (by omega), fun D hD => lc_rangeC (lo := 0) (c := 3) (n := n) (fun i H' => Same H1 H' ∧ H' D = some (.lst (((cs.take i).map fun c => tokL.getD c "").map V.str))) ⟨same_upd hD, upd_same⟩ ?_ ?_⟩
    · rintro i H' hi ⟨sm, eD⟩
      refine ⟨rfl, ?_⟩
      refine tyes ?_
      obtain ⟨c, hc8, hck, htk⟩ := tok_at hb (k := i) (by omega)
      rw [ecs] at hck
      have ct : ((cs.take i).map fun c => tokL.getD c "").length ≤ 1000 := by rw [List.length_map, List.length_take]; omega
      have ec : cutS z (some (0 + (i : Int) * 3)) (some (0 + (i : Int) * 3 + 3)) = tokL.getD c "" := by
        rw [show (0 + (i : Int) * 3) = ((3 * i : Nat) : Int) by omega, show ((3 * i : Nat) : Int) + 3 = ((3 * i + 3 : Nat) : Int) by omega, cut3 (by omega), List.getD_eq_getElem?_getD, htk]
        rfl
      refine ⟨_, rfl, _, rfl, _, rfl, _, rfl, _, _, rfl, rfl, _, rfl, z, rfl, szle (by omega), _, eD, szl (by rw [List.length_map]; omega), same_out sm hD, ?_⟩
      rw [upd_same, List.take_succ, hck, List.map_append, List.map_append, ec]
      rfl
    · rintro H2 ⟨s2, eD⟩
      rw [← csl, List.take_length] at eD
      have hD2 := eD
      refine ⟨⟨_, rfl⟩, _, rfl, D, rfl, ⟨_, SqL.of eD⟩, fun D2 hD2 => lc_list (K := K) (a := D) (xs := (cs.map fun c => tokL.getD c "").map V.str) (fun i H' => Same H2 H' ∧ H' D2 = some (.lst (((cs.take i).map fun c => chS (sgC rl c)).map V.str))) ⟨same_upd hD2, upd_same⟩ (fun i H' _ h => SqL.of (h.1 _ _ eD)) ?_ ?_⟩
      · rintro i x H' hx ⟨sm, eD2⟩
        obtain ⟨tk, htk, rfl⟩ := getS hx
        rw [hmap] at htk
        obtain ⟨c, hck, rfl⟩ : ∃ c, cs[i]? = some c ∧ tokL.getD c "" = tk := by
          cases e : cs[i]? with
          | none => rw [e] at htk; cases htk
          | some c => rw [e] at htk; exact ⟨c, rfl, Option.some.inj htk⟩
        have hc8 := cs8 c (List.mem_of_getElem? hck)
        have htc : tokL[c]? = some (tokL.getD c "") := by
          rw [List.getD_eq_getElem?_getD, List.getElem?_eq_getElem (show c < tokL.length from hc8)]
          rfl
        obtain ⟨C, dx, u1, u2, hr', cl, cs', cc⟩ := ((L.mono s1).mono (s2.trans sm)).ex
        refine ⟨rfl, ?_⟩
        refine tyes ?_
        have ct : ((cs.take i).map fun c => chS (sgC rl c)).length ≤ 1000 := by rw [List.length_map, List.length_take]; omega
        refine ⟨_, rfl, r, C, dx, _, _, _, rfl, hr', cl, cs', rfl, T.tk_.ty, _, rfl, A_TOK, tokL, _, c, rfl, rfl, T.tk_.sq, htc, fun m hm => ?_, ?_⟩
        · rw [← htc]
          exact tok_first hm hc8
        · refine ⟨_, _, sgC rl c, rfl, rfl, szle (by cases rl <;> decide), atI_nat (sg_at hc8), _, eD2, szl (by rw [List.length_map]; omega), same_out sm hD2, ?_⟩
          rw [upd_same, List.take_succ, hck, List.map_append, List.map_append]
          rfl
      · rintro H3 ⟨s3, eD3⟩
        rw [List.length_map, List.length_map, List.take_length] at eD3
        have len1 : ∀ xs : List Nat, ((xs.map chS).map (fun x => x.length)).sum = xs.length := fun xs => by
          induction xs with
          | nil => rfl
          | cons x r ih =>
            rw [List.map_cons, List.map_cons, List.sum_cons, ih]
            show 1 + r.length = r.length + 1
            omega
        rw [show (cs.map fun c => chS (sgC rl c)) = (cs.map (sgC rl)).map chS by rw [List.map_map]; rfl] at eD3
        refine ⟨_, D2, (cs.map (sgC rl)).map chS, rfl, rfl, .inl (SqL.of eD3), ?_, ?_⟩
        · show (((cs.map (sgC rl)).map chS).map (fun x => x.length)).sum + ((cs.map (sgC rl)).map chS).length * 0 ≤ 16777216
          rw [len1, List.length_map]
          omega
        · rw [join_signs]
          have := q H3 ((s1.trans s2).trans s3)
          rw [ecs] at this
          exact this
theorem ok_is_block {f : Addr} {fd : FuncData} (F : Fun K "is_block" "is_block" s_is_block f fd) (T : Txt K mg C_Reels C_Stacks A_TOK) (c_is_word : Cal P w K mg base 1 "is_word" (spIsWord K)) (c_signs_of : Cal P w K mg base 1 "signs_of" (spSgs K)) (c_longest_beginning : Cal P w K mg base 2 "longest_beginning" (spLb K)) : FnOk P w K mg base CX0 3 f fd ["language", "value"] (spIsBlk K) := by
  refine F.ok sc_is_block (fun vs H Q E h => ?_) (fun cdv A outer s H vs Q E hr h => ?_)
  · obtain ⟨r, rl, v, d, rfl, _⟩ := h
    rfl
  · obtain ⟨r, rl, v, d, rfl, L, hv, hz, q⟩ := h
    refine ⟨_, (pss_cons (ps_if (PW.pt (pw_or (pt_not (pt_val (pe_c c_is_word hr (by omega) (by rfl) (pa_cons (pv 1) pa_nil)))) (pw_or1 (pt_cmpR op_ne (pe_op op_mod (pe_callB call_len_str (by rfl) T.b_len PySem.boot_len (pa_cons (pv 1) pa_nil)) (pe_glob (v := .int 3) (by rfl) T.g_TB.choose_spec ⟨_, rfl⟩)) pe_int (nomark _)))))
      (pss_one (ps_ret pe_bl))
      pss_nil)
    (pss_cons (ps_set (i := 2) sc_is_block.nd rfl (by first | exact Or.inl rfl | exact Or.inr rfl) (pe_c c_signs_of hr (by omega) (by rfl) (pa_cons (pv 0) (pa_cons (pv 1) pa_nil))))
    (pss_one (ps_ret (pe_cmpR (op_eqD hr.units) (pe_c c_longest_beginning hr (by omega) (by rfl) (pa_cons (pv 0) (pa_cons (pv 2) pa_nil))) (pe_tup (pa_cons (pe_callB call_len_str (by rfl) T.b_len PySem.boot_len (pa_cons (pv 2) pa_nil)) (pa_cons pe_int pa_nil))) (nomark _)))))), ?_⟩
    refine ⟨_, rfl, v, d, rfl, hv, fun z e => by have := hz z e; omega, _, rfl, ?_⟩
    cases hw : isW d with
    | false =>
      have e : isPD rl d = false := by
        cases d <;> try rfl
        show (isB _ && _) = false
        rw [show isB _ = false from hw, Bool.false_and]
      rw [e] at q
      exact iteT (iteT (q H fun _ _ e => e))
    | true =>
      refine iteF ?_
      obtain ⟨z, rfl⟩ : ∃ z, d = .str z := by
        cases d <;> first | exact ⟨_, rfl⟩ | cases hw
      cases hv
      have hzl := hz z rfl
      have hb : isB z = true := hw
      have hdec : (!decide (V.int (((z.length : Nat) : Int) % 3) = V.int 0)) = !decide (z.length % 3 = 0) := by
        congr 1
        rw [decide_eq_decide]
        exact ⟨fun e => by have := V.int.inj e; omega, fun e => congrArg V.int (by omega)⟩
      refine ⟨_, rfl, z, rfl, szle (by omega), _, _, rfl, rfl, by show (0 : Int) < 3; decide, rfl, _, congrArg V.bl hdec, ?_⟩
      by_cases h3 : z.length % 3 = 0
      · rw [decide_eq_true h3]
        refine iteF ?_
        have el : (sgW rl (cdL z.cps.toList)).length = (cdL z.cps.toList).length := by
          show ((cdL z.cps.toList).map (sgC rl)).toArray.size = _
          rw [List.size_toArray, List.length_map]
        have hcl : (cdL z.cps.toList).length ≤ 1000 := by
          rw [cdL_len, show z.cps.toList.length = z.length from Array.length_toList]
          omega
        refine ⟨_, rfl, _, rfl, r, rl, z, rfl, L, hb, h3, hzl, fun H1 s1 => ?_⟩
        refine ⟨_, rfl, _, rfl, r, rl, _, rfl, L.mono s1, by omega, fun H2 p s2 hp => ?_⟩
        refine ⟨_, rfl, _, rfl, szle (by omega), szle (by show 2 ≤ 16777216; decide), fun p2 hp2 => ?_⟩
        have s3 := same_upd (o := .tup [V.int ((sgW rl (cdL z.cps.toList)).length : Nat), V.int 0]) hp2
        have c8 : ∀ c ∈ cdL z.cps.toList, c < 8 := cd_lt hb
        have etl : (sgW rl (cdL z.cps.toList)).cps.toList = (cdL z.cps.toList).map (sgC rl) := rfl
        have hg := lb_good (rl := rl) (cdL z.cps.toList) 0 1 c8
        rw [etl] at hp
        have eP : isPD rl (.str z) = good rl (cdL z.cps.toList) 1 := by
          show (isB z && (decide (z.length % 3 = 0) && good rl (cdL z.cps.toList) 1)) = _
          rw [hb, decide_eq_true h3, Bool.true_and, Bool.true_and]
        rw [eP] at q
        rw [el] at s3 ⊢
        obtain ⟨ab, eab⟩ : ∃ ab, lbW rl ((cdL z.cps.toList).map (sgC rl)) 0 1 = ab := ⟨_, rfl⟩
        rw [eab] at hp hg
        obtain ⟨a, b⟩ := ab
        refine ⟨.tuple [.int (a : Nat), .int (b : Nat)], .tuple [.int ((cdL z.cps.toList).length : Nat), .int 0], .tup (SqT.of (s3 _ _ hp)) (.cons (.int _) (.cons (.int _) .nil)), .tup (SqT.of upd_same) (.cons (.int _) (.cons (.int _) .nil)), rfl, rfl, ?_⟩
        have ev : PyData.eqv (.tuple [.int (a : Nat), .int (b : Nat)]) (.tuple [.int ((cdL z.cps.toList).length : Nat), .int 0]) = good rl (cdL z.cps.toList) 1 := by
          rw [Bool.eq_iff_iff, ← hg]
          show ((((a : Nat) : Int) == (((cdL z.cps.toList).length : Nat) : Int)) && ((((b : Nat) : Int) == 0) && true)) = true ↔ _
          rw [Bool.and_true, Bool.and_eq_true, beq_iff_eq, beq_iff_eq]
          constructor
          · rintro ⟨h1, h2⟩
            rw [show a = 0 + (cdL z.cps.toList).length by omega, show b = 0 by omega]
          · intro h
            have h1 := congrArg Prod.fst h
            have h2 := congrArg Prod.snd h
            simp only at h1 h2
            omega
        rw [ev]
        exact q _ ((s1.trans s2).trans s3)
      · have e : isPD rl (.str z) = false := by
          show (isB z && (decide (z.length % 3 = 0) && _)) = false
          rw [decide_eq_false h3, Bool.false_and, Bool.and_false]
        rw [e] at q
        rw [decide_eq_false h3]
        exact iteT (q H fun _ _ e => e)
end

/-! ### the counts, as both sides reckon them -/
def row0 (n : Nat) : List Int := 1 :: List.replicate (n + 2) 0
def stp (o c : Int) (f : List Int) (d : Nat) : Int := o * f.getD (d + 1) 0 + f.getD (d + 2) 0 + c * f.getD d 0
def nxt (o c : Int) (n : Nat) (f : List Int) : List Int := 0 :: (List.range (n + 1)).map (stp o c f) ++ [0]
def rw (o c : Int) (n : Nat) : Nat → List Int
  | 0 => row0 n
  | l + 1 => nxt o c n (rw o c n l)
def cnt (o c : Int) (n : Nat) : Int := (rw o c n n).getD 1 0
theorem rw_len (o c : Int) (n : Nat) : ∀ l, (rw o c n l).length = n + 3
  | 0 => by simp [rw, row0]
  | l + 1 => by simp [rw, nxt]

/-- a language: its class, its two constants -/
structure Lang (K : PySem.W.Frag) (H : Hp) (r : Addr) (o c : Int) : Prop where
  ex : ∃ (C dx : Addr) (sg cl : Str) (u1 u2 : Value), H r = some (.ins C dx []) ∧ Cls K C ∧ Con K C "SIGNS" (.str sg) u1 ∧ Con K C "CLOSERS" (.str cl) u2 ∧ (sg.length : Int) = o + c + 1 ∧ (cl.length : Int) = c ∧ sg.length ≤ 100 ∧ cl.length ≤ 100
theorem Lang.mono {K : PySem.W.Frag} {H H' : Hp} {r : Addr} {o c : Int} (L : Lang K H r o c) (s : Same H H') : Lang K H' r o c := by
  obtain ⟨C, dx, sg, cl, u1, u2, h, x⟩ := L
  exact ⟨C, dx, sg, cl, u1, u2, s _ _ h, x⟩
theorem Lang.rng {K : PySem.W.Frag} {H : Hp} {r : Addr} {o c : Int} (L : Lang K H r o c) : 0 ≤ c ∧ c ≤ 100 ∧ o + c + 1 ≤ 100 ∧ -101 ≤ o := by
  obtain ⟨C, dx, sg, cl, u1, u2, h, x1, x2, x3, x4, x5, x6, x7⟩ := L
  omega
def spWays (K : PySem.W.Frag) : Sp := fun vs H Q _ => ∃ (r : Addr) (n : Nat) (o c : Int), vs = [.ref r, .int n] ∧ Lang K H r o c ∧ n ≤ 24 ∧ ∀ H' p rows, Same H H' → H' p = some (.lst rows) → (∀ i, i ≤ n → ∃ q, rows[i]? = some (.ref q) ∧ H' q = some (.lst ((rw o c n i).map V.int))) → Q (.ref p) H'
def oL (rl : Bool) : Int := if rl = true then 5 else 6
def cL (rl : Bool) : Int := if rl = true then 2 else 1
theorem Lg.lang {K : PySem.W.Frag} {H : Hp} {r : Addr} {rl : Bool} (L : Lg K H r rl) : Lang K H r (oL rl) (cL rl) := by
  obtain ⟨C, dx, u1, u2, h, cl, k1, k2⟩ := L
  exact ⟨C, dx, _, _, u1, u2, h, cl, k1, k2, by cases rl <;> decide, by cases rl <;> decide, by cases rl <;> decide, by cases rl <;> decide⟩
section
variable {P : Program} {w : World} {K : PySem.W.Frag} {mg : Str → Option Value} {base : Heap} {C_Reels C_Stacks A_TOK : Addr}
theorem ok_ways_to_close {f : Addr} {fd : FuncData} (F : Fun K "_ways_to_close" "_ways_to_close" s_ways_to_close f fd) (T : Txt K mg C_Reels C_Stacks A_TOK) : FnOk P w K mg base CX0 1 f fd ["language", "tokens"] (spWays K) := by
  refine F.ok sc_ways_to_close (fun vs H Q E h => ?_) (fun cdv A outer s H vs Q E hr h => ?_)
  · obtain ⟨r, n, o, c, rfl, _⟩ := h
    rfl
  · obtain ⟨r, n, o, c, rfl, L, hn, q⟩ := h
    have R := L.rng
    obtain ⟨C, dx, sg, cl, u1, u2, hr', hC, k1, k2, l1, l2, z1, z2⟩ := L
    have eo : o = (sg.length : Int) - cl.length - 1 := by omega
    subst l2 eo
    refine ⟨_, (pss_cons (ps_set (i := 2) sc_ways_to_close.nd rfl (by first | exact Or.inl rfl | exact Or.inr rfl) (pe_callB call_len_str (by rfl) T.b_len PySem.boot_len (pa_cons (pe_con (pv 0) rfl) pa_nil)))
    (pss_cons (ps_set (i := 3) sc_ways_to_close.nd rfl (by first | exact Or.inl rfl | exact Or.inr rfl) (pe_op op_sub (pe_op op_sub (pe_callB call_len_str (by rfl) T.b_len PySem.boot_len (pa_cons (pe_con (pv 0) rfl) pa_nil)) (pv 2)) pe_int))
    (pss_cons (ps_set (i := 4) sc_ways_to_close.nd rfl (by first | exact Or.inl rfl | exact Or.inr rfl) (pe_lst (pa_cons (pe_op op_cat (pe_lst (pa_cons pe_int pa_nil)) (pe_op op_rep (pe_lst (pa_cons pe_int pa_nil)) (pe_op op_add (pv 1) pe_int))) pa_nil)))
    (pss_cons (ps_for PassesOwn.never rfl (pi_range1 (by rfl) T.b_range (pa_cons (pv 1) pa_nil)) (pg_name (i := 5) sc_ways_to_close.nd rfl (by first | exact Or.inl rfl | exact Or.inr rfl))
      (pss_cons (ps_set (i := 6) sc_ways_to_close.nd rfl (by first | exact Or.inl rfl | exact Or.inr rfl) (pe_ix ix_list (pv 4) (pv 5) (fun _ _ => rfl)))
        (pss_cons (ps_set (i := 7) sc_ways_to_close.nd rfl (by first | exact Or.inl rfl | exact Or.inr rfl) (pe_lst (pa_cons pe_int pa_nil)))
        (pss_cons (ps_for PassesOwn.never rfl (pi_range2 (by rfl) T.b_range (pa_cons pe_int (pa_cons (pe_op op_add (pv 1) pe_int) pa_nil))) (pg_name (i := 8) sc_ways_to_close.nd rfl (by first | exact Or.inl rfl | exact Or.inr rfl))
          (pss_one (ps_expr (pe_bm PySem.F.plainAttrs_list PySem.F.slot_list_append PySem.F.type_list_append mt_append (pv 7) (pa_cons (pe_op op_add (pe_op op_add (pe_op op_mul (pv 3) (pe_ix ix_list (pv 6) (pv 8) (fun _ _ => rfl))) (pe_ix ix_list (pv 6) (pe_op op_add (pv 8) pe_int) (fun _ _ => rfl))) (pe_op op_mul (pv 2) (pe_ix ix_list (pv 6) (pe_op op_sub (pv 8) pe_int) (fun _ _ => rfl)))) pa_nil)))))
        (pss_one (ps_expr (pe_bm PySem.F.plainAttrs_list PySem.F.slot_list_append PySem.F.type_list_append mt_append (pv 4) (pa_cons (pe_op op_cat (pv 7) (pe_lst (pa_cons pe_int pa_nil))) pa_nil))))))))
    (pss_one (ps_ret (pv 4))))))), ?_⟩
    refine ⟨_, rfl, r, C, dx, [], _, _, rfl, hr', hC, k2, rfl, _, rfl, szle (by omega), ?_⟩
    refine ⟨_, rfl, r, C, dx, [], _, _, rfl, hr', hC, k1, rfl, _, rfl, szle (by omega), ?_⟩
    refine ⟨_, rfl, _, _, rfl, rfl, _, _, rfl, rfl, ?_⟩
    refine ⟨szle (by show 1 ≤ 16777216; decide), fun a1 h1 => ⟨szle (by show 1 ≤ 16777216; decide), fun a2 h2 => ?_⟩⟩
    have h21 : a1 ≠ a2 := ne_of_none upd_same h2
    refine ⟨_, rfl, _, _, rfl, rfl, a2, _, _, rfl, rfl, upd_same, by omega, by omega, szle (by show 1 * _ ≤ _; omega), fun a3 h3 => ?_⟩
    have h31 : a1 ≠ a3 := fun e => by rw [← e, upd_ne h21, upd_same] at h3; cases h3
    refine ⟨a1, a3, _, _, rfl, rfl, by rw [upd_ne h31, upd_ne h21, upd_same], upd_same, szle (by simp; omega), fun a4 h4 => ?_⟩
    refine ⟨szle (by show 1 ≤ 16777216; decide), fun a h => ?_⟩
    have hne : a4 ≠ a := ne_of_none upd_same h
    have s4 := ((((same_upd h1).trans (same_upd h2)).trans (same_upd h3)).trans (same_upd h4)).trans (same_upd (o := .lst [V.ref a4]) h)
    have ha : H a = none := (((((same_upd h1).trans (same_upd h2)).trans (same_upd h3)).trans (same_upd h4))).free h
    have e0 : ([V.int 1] ++ (List.replicate ((n : Int) + 2).toNat [V.int 0]).flatten) = (row0 n).map V.int := by
      rw [show ((n : Int) + 2).toNat = n + 2 by omega, row0, List.map_cons, List.map_replicate]
      rw [show ([V.int 0] : List V) = List.replicate 1 (V.int 0) from rfl, List.flatten_replicate_replicate, Nat.mul_one]
      rfl
    -- for left in range(tokens)
    refine ⟨_, rfl, n, rfl, by omega, by omega, for_range (n := n) (fun i σ H' => ∃ v5 v6 v7 v8, σ = [some (.ref r), some (.int n), some (.int cl.length), some (.int (sg.length - cl.length - 1)), some (.ref a), v5, v6, v7, v8] ∧ Same H H' ∧
      ∃ ps : List Addr, ps.length = i + 1 ∧ H' a = some (.lst (ps.map V.ref)) ∧ ∀ (j : Nat) (q : Addr), ps[j]? = some q → q ≠ a ∧ H' q = some (.lst ((rw (sg.length - cl.length - 1) cl.length n j).map V.int)))
      ⟨none, none, none, none, rfl, s4, [a4], rfl, upd_same, ?_⟩ ?_ ?_⟩
    · intro j q hq
      cases j with
      | zero =>
        cases Option.some.inj hq
        refine ⟨hne, ?_⟩
        rw [upd_ne hne, upd_same, e0]
        rfl
      | succ j => simp at hq
    · rintro i σ H' hi ⟨v5, v6, v7, v8, rfl, sm, ps, hl, ea, hps⟩
      obtain ⟨pi, hpi⟩ : ∃ pi, ps[i]? = some pi := ⟨_, List.getElem?_eq_getElem (by omega)⟩
      obtain ⟨hia, hi'⟩ := hps i pi hpi
      have ai : atI (ps.map V.ref) (0 + (i : Int)) = some (.ref pi) := by
        rw [show (0 : Int) + (i : Int) = (i : Int) by omega]
        exact atI_nat (by rw [List.getElem?_map, hpi]; rfl)
      generalize hF : rw (sg.length - cl.length - 1) cl.length n i = fw at hi'
      have fl : fw.length = n + 3 := by rw [← hF]; exact rw_len _ _ _ _
      refine ⟨_, rfl, _, rfl, a, _, _, _, rfl, rfl, SqL.of ea, ai, ?_⟩
      refine ⟨szle (by show 1 ≤ 16777216; decide), fun b hb => ?_⟩
      have hba : a ≠ b := ne_of_none ea hb
      have hbp : pi ≠ b := ne_of_none hi' hb
      have hbH : H b = none := sm.free hb
      refine ⟨_, rfl, _, _, rfl, rfl, 1, (n : Int) + 2, rfl, ⟨by omega, by omega, by omega, by omega⟩, for_range (lo := 1) (n := ((n : Int) + 2 - 1).toNat) (fun j σ H2 => ∃ v8, σ = [some (.ref r), some (.int n), some (.int cl.length), some (.int (sg.length - cl.length - 1)), some (.ref a), some (.int (0 + i)), some (.ref pi), some (.ref b), v8] ∧ Same H' H2 ∧
        H2 b = some (.lst ((0 :: (List.range j).map (stp (sg.length - cl.length - 1) cl.length fw)).map V.int))) ⟨_, rfl, same_upd hb, upd_same⟩ ?_ ?_⟩
      · rintro j σ H2 hj ⟨w8, rfl, sm2, eb⟩
        have e1 : H2 pi = some (.lst (fw.map V.int)) := sm2 _ _ hi'
        have g : ∀ k : Nat, k < n + 3 → (fw.map V.int)[k]? = some (.int (fw.getD k 0)) := fun k hk => by
          rw [List.getElem?_map, List.getElem?_eq_getElem (by omega), List.getD_eq_getElem?_getD, List.getElem?_eq_getElem (by omega)]
          rfl
        have g1 : atI (fw.map V.int) (1 + (j : Int)) = some (.int (fw.getD (j + 1) 0)) := at_of (j := j + 1) (by omega) (g _ (by omega))
        have g2 : atI (fw.map V.int) (1 + (j : Int) + 1) = some (.int (fw.getD (j + 2) 0)) := at_of (j := j + 2) (by omega) (g _ (by omega))
        have g0 : atI (fw.map V.int) (1 + (j : Int) - 1) = some (.int (fw.getD j 0)) := at_of (j := j) (by omega) (g _ (by omega))
        refine ⟨_, rfl, .inl ⟨rfl, _, SqL.of eb⟩, _, rfl, _, rfl, _, rfl, pi, _, _, _, rfl, rfl, SqL.of e1, g1, _, _, rfl, rfl, .inl ⟨by omega, by omega⟩, _, rfl, _, rfl, _, _, rfl, rfl, pi, _, _, _, rfl, rfl, SqL.of e1, g2, _, _, rfl, rfl, ?_⟩
        refine ⟨_, rfl, _, rfl, _, rfl, _, _, rfl, rfl, pi, _, _, _, rfl, rfl, SqL.of e1, g0, _, _, rfl, rfl, .inl ⟨by omega, by omega⟩, _, _, rfl, rfl, b, _, _, rfl, rfl, eb, szl (by simp; omega), ?_⟩
        refine ⟨_, rfl, same_out sm2 ?_, ?_⟩
        · by_cases e : H' b = none
          · exact e
          · exact absurd hb e
        · rw [upd_same, List.range_succ, List.map_append, List.map_cons, List.map_cons, List.map_append]
          rfl
      · rintro σ H2 ⟨w8, rfl, sm2, eb⟩
        have en : ((n : Int) + 2 - 1).toNat = n + 1 := by omega
        rw [en] at eb
        have ea2 := sm2 _ _ ea
        refine ⟨_, rfl, .inl ⟨rfl, _, SqL.of ea2⟩, _, rfl, szle (by show 1 ≤ 16777216; decide), fun z hz => ?_⟩
        have hzb : b ≠ z := ne_of_none eb hz
        refine ⟨b, z, _, _, rfl, rfl, by rw [upd_ne hzb]; exact eb, upd_same, szle (by simp; omega), fun y hy => ?_⟩
        have hya : a ≠ y := fun e => by
          have hz2 : a ≠ z := ne_of_none ea2 hz
          rw [← e, upd_ne hz2, ea2] at hy
          cases hy
        refine ⟨a, _, _, rfl, rfl, by walk_at "hp", szl (by simp; omega), ?_⟩
        refine ⟨_, _, _, _, rfl, same_out (((sm.trans sm2).trans (same_upd hz)).trans (same_upd hy)) ha, ps ++ [y], by rw [List.length_append, hl]; rfl, by rw [upd_same, List.map_append]; rfl, ?_⟩
        intro j q' hq
        by_cases hj : j < ps.length
        · rw [List.getElem?_append_left hj] at hq
          obtain ⟨x1, x2⟩ := hps j q' hq
          refine ⟨x1, ?_⟩
          rw [upd_ne x1]
          exact same_upd hy _ _ (same_upd hz _ _ (sm2 _ _ x2))
        · have ej : j = i + 1 := by
            have := (List.getElem?_eq_some_iff.mp hq).1
            rw [List.length_append] at this
            simp only [List.length_cons, List.length_nil] at this
            omega
          subst ej
          rw [List.getElem?_append_right (by omega), hl, Nat.sub_self] at hq
          cases Option.some.inj hq
          refine ⟨hya.symm, ?_⟩
          rw [upd_ne hya.symm, upd_same]
          show some (HO.lst _) = some (HO.lst ((nxt _ _ n (rw _ _ n i)).map V.int))
          rw [hF, nxt, List.map_append]
          rfl
    · rintro σ H' ⟨v5, v6, v7, v8, rfl, sm, ps, hl, ea, hps⟩
      refine ⟨_, rfl, q H' a _ sm ea fun i hi => ?_⟩
      obtain ⟨pi, hpi⟩ : ∃ pi, ps[i]? = some pi := ⟨_, List.getElem?_eq_getElem (by omega)⟩
      exact ⟨pi, by rw [List.getElem?_map, hpi]; rfl, (hps i pi hpi).2⟩
end

/-! ### ranks of programs -/
def W (rl : Bool) : Nat → Nat → Int
  | 0, d => if d = 0 then 1 else 0
  | _ + 1, 0 => 0
  | l + 1, d + 1 => oL rl * W rl l (d + 1) + W rl l (d + 2) + cL rl * W rl l d
theorem W_nn (rl : Bool) : ∀ l d, 0 ≤ W rl l d
  | 0, d => by unfold W; split <;> decide
  | l + 1, 0 => Int.le_refl _
  | l + 1, d + 1 => by
    have ho : 0 ≤ oL rl := by cases rl <;> decide
    have hc : 0 ≤ cL rl := by cases rl <;> decide
    have h1 := Int.mul_nonneg ho (W_nn rl l (d + 1))
    have h2 := W_nn rl l (d + 2)
    have h3 := Int.mul_nonneg hc (W_nn rl l d)
    show 0 ≤ oL rl * _ + _ + cL rl * _
    omega
theorem W_far (rl : Bool) : ∀ l d, l < d → W rl l d = 0
  | 0, d, h => if_neg (by omega)
  | l + 1, 0, h => absurd h (by omega)
  | l + 1, d + 1, h => by
    show oL rl * W rl l (d + 1) + W rl l (d + 2) + cL rl * W rl l d = 0
    rw [W_far rl l (d + 1) (by omega), W_far rl l (d + 2) (by omega), W_far rl l d (by omega)]
    simp
theorem rw_W (rl : Bool) (n : Nat) : ∀ l d, l ≤ n → d ≤ n + 2 → (rw (oL rl) (cL rl) n l).getD d 0 = W rl l d
  | 0, d, _, hd => by
    show (row0 n).getD d 0 = if d = 0 then 1 else 0
    cases d with
    | zero => rfl
    | succ d =>
      rw [if_neg (by omega)]
      show (List.replicate (n + 2) (0 : Int)).getD d 0 = 0
      rw [List.getD_eq_getElem?_getD, List.getElem?_replicate]
      split <;> rfl
  | l + 1, 0, _, _ => rfl
  | l + 1, d + 1, hl, hd => by
    show (0 :: (List.range (n + 1)).map (stp (oL rl) (cL rl) (rw (oL rl) (cL rl) n l)) ++ [0]).getD (d + 1) 0 = _
    rw [List.cons_append, List.getD_cons_succ, List.getD_eq_getElem?_getD]
    by_cases h : d < n + 1
    · rw [List.getElem?_append_left (by simpa using h), List.getElem?_map, List.getElem?_range h]
      show stp _ _ _ d = _
      unfold stp
      rw [rw_W rl n l (d + 1) (by omega) (by omega), rw_W rl n l (d + 2) (by omega) (by omega), rw_W rl n l d (by omega) (by omega)]
      rfl
    · rw [W_far rl (l + 1) (d + 1) (by omega), List.getElem?_append_right (by simp; omega)]
      rw [show d - ((List.range (n + 1)).map (stp (oL rl) (cL rl) (rw (oL rl) (cL rl) n l))).length = 0 by simp; omega]
      rfl
def clC (rl : Bool) (c : Nat) : Bool := c == 0 || (rl && c == 7)
theorem stC_eq {rl : Bool} {c d : Nat} (h : c < 8) : stC rl c d = if c = 3 then d + 1 else if clC rl c = true then d - 1 else d := by
  have h1 : ∀ c < 8, (sgC rl c = 91 ↔ c = 3) ∧ (sgC rl c ∈ (cloS rl).cps.toList ↔ clC rl c = true) := by cases rl <;> decide
  obtain ⟨a, b⟩ := h1 c h
  unfold stC dpC
  by_cases x : c = 3
  · rw [if_pos x, if_pos (a.mpr x)]
  · rw [if_neg x, if_neg fun z => x (a.mp z)]
    by_cases y : clC rl c = true
    · rw [if_pos y, if_pos (b.mpr y)]
    · rw [if_neg y, if_neg fun z => y (b.mp z)]
def pre (rl : Bool) (l d : Nat) : Nat → Int
  | 0 => 0
  | c + 1 => pre rl l d c + W rl l (stC rl c d)
theorem pre_mono (rl : Bool) (l d : Nat) {a : Nat} : ∀ {b : Nat}, a ≤ b → pre rl l d a ≤ pre rl l d b
  | 0, h => by rw [show a = 0 by omega]; exact Int.le_refl _
  | b + 1, h => by
    by_cases e : a = b + 1
    · rw [e]; exact Int.le_refl _
    · have := pre_mono rl l d (a := a) (b := b) (by omega)
      have := W_nn rl l (stC rl b d)
      show _ ≤ pre rl l d b + _
      omega
theorem pre_all (rl : Bool) (l : Nat) {d : Nat} (h : d ≠ 0) : pre rl l d 8 = W rl (l + 1) d := by
  obtain ⟨d, rfl⟩ := Nat.exists_eq_succ_of_ne_zero h
  show 0 + W rl l (stC rl 0 (d + 1)) + W rl l (stC rl 1 (d + 1)) + W rl l (stC rl 2 (d + 1)) + W rl l (stC rl 3 (d + 1)) + W rl l (stC rl 4 (d + 1)) + W rl l (stC rl 5 (d + 1)) + W rl l (stC rl 6 (d + 1)) + W rl l (stC rl 7 (d + 1)) = oL rl * W rl l (d + 1) + W rl l (d + 2) + cL rl * W rl l d
  rw [stC_eq (by decide), stC_eq (by decide), stC_eq (by decide), stC_eq (by decide), stC_eq (by decide), stC_eq (by decide), stC_eq (by decide), stC_eq (by decide)]
  cases rl
  · show 0 + W false l d + W false l (d + 1) + W false l (d + 1) + W false l (d + 2) + W false l (d + 1) + W false l (d + 1) + W false l (d + 1) + W false l (d + 1) = 6 * W false l (d + 1) + W false l (d + 2) + 1 * W false l d
    omega
  · show 0 + W true l d + W true l (d + 1) + W true l (d + 1) + W true l (d + 2) + W true l (d + 1) + W true l (d + 1) + W true l (d + 1) + W true l d = 5 * W true l (d + 1) + W true l (d + 2) + 2 * W true l d
    omega
def rk (rl : Bool) : List Nat → Nat → Int
  | [], _ => 0
  | c :: r, d => pre rl r.length d c + rk rl r (stC rl c d)
theorem rk_rng {rl : Bool} : ∀ (cs : List Nat) (d : Nat), (∀ c ∈ cs, c < 8) → good rl cs d = true → 0 ≤ rk rl cs d ∧ rk rl cs d < W rl cs.length d
  | [], d, _, g => by
    have : d = 0 := of_decide_eq_true g
    subst this
    exact ⟨Int.le_refl _, by show (0 : Int) < 1; decide⟩
  | c :: r, d, h, g => by
    have g' : (d != 0 && good rl r (stC rl c d)) = true := g
    rw [Bool.and_eq_true, bne_iff_ne] at g'
    have ih := rk_rng r (stC rl c d) (fun x hx => h x (List.mem_cons_of_mem _ hx)) g'.2
    have hc := h c (List.mem_cons_self ..)
    have p0 : 0 ≤ pre rl r.length d c := pre_mono rl r.length d (a := 0) (b := c) (Nat.zero_le _)
    have p8 := pre_mono rl r.length d (a := c + 1) (b := 8) (by omega)
    rw [pre_all rl r.length g'.1] at p8
    have p8' : pre rl r.length d c + W rl r.length (stC rl c d) ≤ W rl (r.length + 1) d := p8
    show 0 ≤ pre rl r.length d c + rk rl r (stC rl c d) ∧ pre rl r.length d c + rk rl r (stC rl c d) < W rl (r.length + 1) d
    omega
theorem rk_inj {rl : Bool} : ∀ (cs cs' : List Nat) (d : Nat), cs.length = cs'.length → (∀ c ∈ cs, c < 8) → (∀ c ∈ cs', c < 8) → good rl cs d = true → good rl cs' d = true → rk rl cs d = rk rl cs' d → cs = cs'
  | [], [], _, _, _, _, _, _, _ => rfl
  | c :: r, c' :: r', d, hl, h, h', g, g', e => by
    have g1 : (d != 0 && good rl r (stC rl c d)) = true := g
    have g2 : (d != 0 && good rl r' (stC rl c' d)) = true := g'
    rw [Bool.and_eq_true, bne_iff_ne] at g1 g2
    have hl' : r.length = r'.length := by simpa using hl
    have i1 := rk_rng r (stC rl c d) (fun x hx => h x (List.mem_cons_of_mem _ hx)) g1.2
    have i2 := rk_rng r' (stC rl c' d) (fun x hx => h' x (List.mem_cons_of_mem _ hx)) g2.2
    have e' : pre rl r.length d c + rk rl r (stC rl c d) = pre rl r'.length d c' + rk rl r' (stC rl c' d) := e
    rw [← hl'] at e' i2
    have s1 : pre rl r.length d (c + 1) = pre rl r.length d c + W rl r.length (stC rl c d) := rfl
    have s2 : pre rl r.length d (c' + 1) = pre rl r.length d c' + W rl r.length (stC rl c' d) := rfl
    have ec : c = c' := by
      rcases Nat.lt_trichotomy c c' with x | x | x
      · have := pre_mono rl r.length d (a := c + 1) (b := c') (by omega)
        omega
      · exact x
      · have := pre_mono rl r.length d (a := c' + 1) (b := c) (by omega)
        omega
    subst ec
    have er : rk rl r (stC rl c d) = rk rl r' (stC rl c d) := by omega
    rw [rk_inj r r' _ hl' (fun x hx => h x (List.mem_cons_of_mem _ hx)) (fun x hx => h' x (List.mem_cons_of_mem _ hx)) g1.2 g2.2 er]
/-- the word of codes -/
def wC (cs : List Nat) : Str := ⟨(cs.flatMap fun c => (tokL.getD c "").cps.toList).toArray⟩
theorem wC_snoc (cs : List Nat) (c : Nat) : wC (cs ++ [c]) = wC cs ++ tokL.getD c "" := by
  show (⟨((cs ++ [c]).flatMap fun c => (tokL.getD c "").cps.toList).toArray⟩ : Str) = ⟨(cs.flatMap fun c => (tokL.getD c "").cps.toList).toArray ++ (tokL.getD c "").cps⟩
  congr 1
  apply Array.ext'
  simp
theorem tk3 {c : Nat} (h : c < 8) : ∃ x y u, (x = 48 ∨ x = 49) ∧ (y = 48 ∨ y = 49) ∧ (u = 48 ∨ u = 49) ∧ (tokL.getD c "").cps.toList = [x, y, u] ∧ 4 * (x - 48) + 2 * (y - 48) + (u - 48) = c := by
  rcases (by omega : c = 0 ∨ c = 1 ∨ c = 2 ∨ c = 3 ∨ c = 4 ∨ c = 5 ∨ c = 6 ∨ c = 7) with e | e | e | e | e | e | e | e <;> subst e <;> exact ⟨_, _, _, by decide, by decide, by decide, rfl, by decide⟩
theorem wC_len {cs : List Nat} (h : ∀ c ∈ cs, c < 8) : (wC cs).length = 3 * cs.length := by
  show (cs.flatMap fun c => (tokL.getD c "").cps.toList).toArray.size = _
  rw [List.size_toArray]
  induction cs with
  | nil => rfl
  | cons c r ih =>
    obtain ⟨x, y, u, _, _, _, e, _⟩ := tk3 (h c (List.mem_cons_self ..))
    rw [List.flatMap_cons, List.length_append, ih fun c hc => h c (List.mem_cons_of_mem _ hc), e]
    show 3 + 3 * r.length = 3 * (r.length + 1)
    omega
theorem wC_cd : ∀ {cs : List Nat}, (∀ c ∈ cs, c < 8) → cdL (wC cs).cps.toList = cs
  | [], _ => rfl
  | c :: r, h => by
    obtain ⟨x, y, u, _, _, _, e, ec⟩ := tk3 (h c (List.mem_cons_self ..))
    show cdL ((c :: r).flatMap fun c => (tokL.getD c "").cps.toList) = c :: r
    rw [List.flatMap_cons, e]
    show (4 * (x - 48) + 2 * (y - 48) + (u - 48)) :: cdL (r.flatMap fun c => (tokL.getD c "").cps.toList) = _
    rw [ec]
    congr 1
    exact wC_cd fun c hc => h c (List.mem_cons_of_mem _ hc)
theorem wC_isB {cs : List Nat} (h : ∀ c ∈ cs, c < 8) : isB (wC cs) = true := isB_all.mpr fun x hx => by
  obtain ⟨c, hc, hx⟩ := List.mem_flatMap.mp (show x ∈ cs.flatMap fun c => (tokL.getD c "").cps.toList from hx)
  obtain ⟨x1, y, u, h1, h2, h3, e, _⟩ := tk3 (h c hc)
  rw [e] at hx
  simp only [List.mem_cons, List.not_mem_nil, or_false] at hx
  rcases hx with e | e | e <;> rw [e] <;> assumption
theorem wC_isP {rl : Bool} {cs : List Nat} (h : ∀ c ∈ cs, c < 8) : isP rl (wC cs) = good rl cs 1 := by
  unfold isP
  rw [wC_isB h, wC_len h, wC_cd h, decide_eq_true (by omega)]
  rfl
theorem good_len {rl : Bool} : ∀ (cs : List Nat) (d : Nat), good rl cs d = true → (∀ c ∈ cs, c < 8) → d ≤ cs.length
  | [], d, g, _ => by
    have : d = 0 := of_decide_eq_true g
    omega
  | c :: r, d, g, h => by
    have g1 : (d != 0 && good rl r (stC rl c d)) = true := g
    rw [Bool.and_eq_true] at g1
    have h1 := good_len r _ g1.2 fun x hx => h x (List.mem_cons_of_mem _ hx)
    have h2 := stC_le rl c d
    show d ≤ r.length + 1
    omega

/-! ### both languages -/
structure LgC (K : PySem.W.Frag) (C : Addr) (rl : Bool) : Prop where
  mk0 : Mk0 K C
  cls : Cls K C
  cons : ∃ u1 u2, Con K C "SIGNS" (.str (sgnS rl)) u1 ∧ Con K C "CLOSERS" (.str (cloS rl)) u2
theorem LgC.lg {K : PySem.W.Frag} {C : Addr} {rl : Bool} (L : LgC K C rl) {H : Hp} {r dx : Addr} (h : H r = some (.ins C dx [])) : Lg K H r rl := by
  obtain ⟨u1, u2, h1, h2⟩ := L.cons
  exact ⟨C, dx, u1, u2, h, L.cls, h1, h2⟩
/-- the class of a language -/
def clL (CR CS : Addr) (rl : Bool) : Addr := if rl = true then CR else CS
def spIsPr (K : PySem.W.Frag) (C : Addr) : Sp := fun vs H Q _ => ∃ (r dx : Addr) (rl : Bool) (v : V) (d : PyData), vs = [.ref r, v] ∧ LgC K C rl ∧ H r = some (.ins C dx []) ∧ Dp K H v d ∧ (∀ z, d = .str z → z.length ≤ 3000) ∧ ∀ H', Same H H' → Q (.bl (isPD rl d)) H'
section
variable {P : Program} {w : World} {K : PySem.W.Frag} {mg : Str → Option Value} {base : Heap} {C_Reels C_Stacks A_TOK : Addr}
theorem ok_Reels_is_program {f : Addr} {fd : FuncData} (F : Fun K "is_program" "Reels.is_program" s_Reels_is_program f fd) (T : Txt K mg C_Reels C_Stacks A_TOK) (c_is_block : Cal P w K mg base 3 "is_block" (spIsBlk K)) : FnOk P w K mg base CX0 4 f fd ["self", "program"] (spIsPr K C_Reels) := by
  refine F.ok sc_Reels_is_program (fun vs H Q E h => ?_) (fun cdv A outer s H vs Q E hr h => ?_)
  · obtain ⟨r, dx, rl, v, d, rfl, _⟩ := h
    rfl
  · obtain ⟨r, dx, rl, v, d, rfl, lc, hx, hv, hz, q⟩ := h
    refine ⟨_, (pss_one (ps_ret (pe_c c_is_block hr (by omega) (by rfl) (pa_cons (pv 0) (pa_cons (pv 1) pa_nil))))), ?_⟩
    exact ⟨_, rfl, _, rfl, r, rl, v, d, rfl, lc.lg hx, hv, hz, fun H' s' => q H' s'⟩
theorem ok_Stacks_is_program {f : Addr} {fd : FuncData} (F : Fun K "is_program" "Stacks.is_program" s_Stacks_is_program f fd) (T : Txt K mg C_Reels C_Stacks A_TOK) (c_is_block : Cal P w K mg base 3 "is_block" (spIsBlk K)) : FnOk P w K mg base CX0 4 f fd ["self", "program"] (spIsPr K C_Stacks) := by
  refine F.ok sc_Stacks_is_program (fun vs H Q E h => ?_) (fun cdv A outer s H vs Q E hr h => ?_)
  · obtain ⟨r, dx, rl, v, d, rfl, _⟩ := h
    rfl
  · obtain ⟨r, dx, rl, v, d, rfl, lc, hx, hv, hz, q⟩ := h
    refine ⟨_, (pss_one (ps_ret (pe_c c_is_block hr (by omega) (by rfl) (pa_cons (pv 0) (pa_cons (pv 1) pa_nil))))), ?_⟩
    exact ⟨_, rfl, _, rfl, r, rl, v, d, rfl, lc.lg hx, hv, hz, fun H' s' => q H' s'⟩
end

/-! ### is_integer, is_number, is_sequence -/
section
variable {P : Program} {w : World} {K : PySem.W.Frag} {mg : Str → Option Value} {base : Heap} {C_Reels C_Stacks A_TOK : Addr}
theorem ok_is_integer {f : Addr} {fd : FuncData} (F : Fun K "is_integer" "is_integer" s_is_integer f fd) (T : Txt K mg C_Reels C_Stacks A_TOK) : FnOk P w K mg base CX0 1 f fd ["value"] (spKind K isIntD) := by
  refine F.ok sc_is_integer (fun vs H Q E h => ?_) (fun cdv A outer s H vs Q E hr h => ?_)
  · obtain ⟨v, d, rfl, _⟩ := h
    rfl
  · obtain ⟨v, d, rfl, hv, q⟩ := h
    refine ⟨_, (pss_one (ps_ret (pe_and (pe_callB call_isi (by rfl) T.b_isinstance (by decide +kernel) (pa_cons (pv 0) (pa_cons (pe_bltn (v := .ty "int") (by rfl) T.b_int (by decide +kernel) rfl) pa_nil))) (pe_one (pe_not (pe_callB call_isi (by rfl) T.b_isinstance (by decide +kernel) (pa_cons (pv 0) (pa_cons (pe_bltn (v := .ty "bool") (by rfl) T.b_bool (by decide +kernel) rfl) pa_nil)))))))), ?_⟩
    cases d with
    | int z =>
      cases hv
      exact ⟨_, rfl, _, _, _, _, _, rfl, .ty _, .base (.int z), kit_ty (r := true) (by decide), _, rfl, iteT ⟨_, rfl, _, _, _, _, _, rfl, .ty _, .base (.int z), kit_ty (r := false) (by decide), _, rfl, q⟩⟩
    | bool b =>
      cases hv
      exact ⟨_, rfl, _, _, _, _, _, rfl, .ty _, .base (.bl b), kit_ty (r := true) (by decide), _, rfl, iteT ⟨_, rfl, _, _, _, _, _, rfl, .ty _, .base (.bl b), kit_ty (r := true) (by decide), _, rfl, q⟩⟩
    | str z => cases hv; exact ⟨_, rfl, _, _, _, _, _, rfl, .ty _, .base (.str z), kit_ty (r := false) (by decide), _, rfl, iteF q⟩
    | none => cases hv; exact ⟨_, rfl, _, _, _, _, _, rfl, .ty _, .base .non, kit_ty (r := false) (by decide), _, rfl, iteF q⟩
    | list ds =>
      cases hv with
      | lst sx _ => exact ⟨_, rfl, _, _, _, _, _, rfl, .ty _, ty_seq sx, kit_ty (r := false) (by decide), _, rfl, iteF q⟩
    | tuple ds =>
      cases hv with
      | tup sx _ => exact ⟨_, rfl, _, _, _, _, _, rfl, .ty _, ty_tup sx, kit_ty (r := false) (by decide), _, rfl, iteF q⟩
    | dict ds => cases hv
end

/-! ### copies of things, and whether two are the same -/
section
variable {P : Program} {w : World} {K : PySem.W.Frag} {mg : Str → Option Value} {base : Heap} {C_Reels C_Stacks A_TOK : Addr}
theorem ok_law_same1 {n : Nat} {f : Addr} {fd : FuncData} (F : Fun K "_law_same" "_law_same" s_law_same f fd) (T : Txt K mg C_Reels C_Stacks A_TOK) (c_law_same : Cal P w K mg base n "_law_same" (spSame K n)) : FnOk P w K mg base CX0 (n + 1) f fd ["told", "due"] (spSame K (n + 1)) := by
  refine F.ok sc_law_same (fun vs H Q E h => ?_) (fun cdv A outer s H vs Q E hr h => ?_)
  · obtain ⟨x, y, d, rfl, _⟩ := h
    rfl
  · obtain ⟨x, y, d, rfl, ok, hx, hy, q⟩ := h
    refine ⟨_, (pss_cons (ps_if (pt_cmpR op_isN (pv 1) pe_non (nomark _))
      (pss_one (ps_ret (pe_cmpR op_isN (pv 0) pe_non (nomark _))))
      pss_nil)
    (pss_cons (ps_if (pt_cmpR op_isB (pv 1) pe_bl (nomark _))
      (pss_one (ps_ret (pe_cmpR op_isB (pv 0) pe_bl (nomark _))))
      pss_nil)
    (pss_cons (ps_if (pt_cmpR op_isB (pv 1) pe_bl (nomark _))
      (pss_one (ps_ret (pe_cmpR op_isB (pv 0) pe_bl (nomark _))))
      pss_nil)
    (pss_cons (ps_if (pt_val (pe_callB call_isi (by rfl) T.b_isinstance (by decide +kernel) (pa_cons (pv 1) (pa_cons (pe_bltn (v := .ty "str") (by rfl) T.b_str (by decide +kernel) rfl) pa_nil))))
      (pss_one (ps_ret (pe_and (pe_callB call_isi (by rfl) T.b_isinstance (by decide +kernel) (pa_cons (pv 0) (pa_cons (pe_bltn (v := .ty "str") (by rfl) T.b_str (by decide +kernel) rfl) pa_nil))) (pe_one (pe_cmpR op_eq (pv 0) (pv 1) (nomark _))))))
      pss_nil)
    (pss_cons (ps_if (pt_val (pe_callB call_isi (by rfl) T.b_isinstance (by decide +kernel) (pa_cons (pv 1) (pa_cons (pe_bltn (v := .ty "int") (by rfl) T.b_int (by decide +kernel) rfl) pa_nil))))
      (pss_one (ps_ret (pe_and (pe_callB call_isi (by rfl) T.b_isinstance (by decide +kernel) (pa_cons (pv 0) (pa_cons (pe_bltn (v := .ty "int") (by rfl) T.b_int (by decide +kernel) rfl) pa_nil))) (pe_and (pe_not (pe_callB call_isi (by rfl) T.b_isinstance (by decide +kernel) (pa_cons (pv 0) (pa_cons (pe_bltn (v := .ty "bool") (by rfl) T.b_bool (by decide +kernel) rfl) pa_nil)))) (pe_one (pe_cmpR op_eq (pv 0) (pv 1) (nomark _)))))))
      pss_nil)
    (pss_cons (ps_if (PW.pt (pw_and (pt_val (pe_callB call_isi (by rfl) T.b_isinstance (by decide +kernel) (pa_cons (pv 1) (pa_cons (pe_bltn (v := .ty "tuple") (by rfl) T.b_tuple (by decide +kernel) rfl) pa_nil)))) (pw_and1 (pt_not (pt_val (pe_callB call_isi (by rfl) T.b_isinstance (by decide +kernel) (pa_cons (pv 0) (pa_cons (pe_bltn (v := .ty "tuple") (by rfl) T.b_tuple (by decide +kernel) rfl) pa_nil))))))))
      (pss_one (ps_ret pe_bl))
      pss_nil)
    (pss_cons (ps_if (PW.pt (pw_and (pt_val (pe_callB call_isi (by rfl) T.b_isinstance (by decide +kernel) (pa_cons (pv 1) (pa_cons (pe_bltn (v := .ty "list") (by rfl) T.b_list (by decide +kernel) rfl) pa_nil)))) (pw_and1 (pt_not (pt_val (pe_callB call_isi (by rfl) T.b_isinstance (by decide +kernel) (pa_cons (pv 0) (pa_cons (pe_bltn (v := .ty "list") (by rfl) T.b_list (by decide +kernel) rfl) pa_nil))))))))
      (pss_one (ps_ret pe_bl))
      pss_nil)
    (pss_cons (ps_if (pt_cmpR op_ne (pe_callB call_len_seq (by rfl) T.b_len PySem.boot_len (pa_cons (pv 0) pa_nil)) (pe_callB call_len_seq (by rfl) T.b_len PySem.boot_len (pa_cons (pv 1) pa_nil)) (nomark _))
      (pss_one (ps_ret pe_bl))
      pss_nil)
    (pss_cons (ps_for PassesOwn.never rfl (pi_range1 (by rfl) T.b_range (pa_cons (pe_callB call_len_seq (by rfl) T.b_len PySem.boot_len (pa_cons (pv 1) pa_nil)) pa_nil)) (pg_name (i := 2) sc_law_same.nd rfl (by first | exact Or.inl rfl | exact Or.inr rfl))
      (pss_one (ps_if (pt_not (pt_val (pe_c c_law_same hr (by omega) (by rfl) (pa_cons (pe_ix ix_seq (pv 0) (pv 2) (fun _ _ => rfl)) (pa_cons (pe_ix ix_seq (pv 1) (pv 2) (fun _ _ => rfl)) pa_nil)))))
          (pss_one (ps_ret pe_bl))
          pss_nil)))
    (pss_one (ps_ret pe_bl))))))))))), ?_⟩
    have nn : ∀ v e, Dp K H v e → e ≠ .none → decide (v = .non) = false := fun v e h he => by cases h <;> simp_all
    have nb : ∀ v e b, Dp K H v e → e ≠ .bool b → decide (v = .bl b) = false := fun v e b h he => by cases h <;> simp_all
    -- None
    by_cases h0 : d = .none
    · subst h0
      cases hx
      cases hy
      exact ⟨_, rfl, rfl, _, rfl, iteT ⟨_, rfl, rfl, q⟩⟩
    refine ⟨_, rfl, rfl, _, rfl, ?_⟩
    rw [nn y d hy h0]
    refine iteF ?_
    by_cases h1 : d = .bool true
    · subst h1
      cases hx
      cases hy
      exact ⟨_, rfl, _, rfl, _, rfl, iteT ⟨_, rfl, _, rfl, q⟩⟩
    refine ⟨_, rfl, _, rfl, _, rfl, ?_⟩
    rw [nb y d true hy h1]
    refine iteF ?_
    by_cases h2 : d = .bool false
    · subst h2
      cases hx
      cases hy
      exact ⟨_, rfl, _, rfl, _, rfl, iteT ⟨_, rfl, _, rfl, q⟩⟩
    refine ⟨_, rfl, _, rfl, _, rfl, ?_⟩
    rw [nb y d false hy h2]
    refine iteF ?_
    have tx := ty_dp hx
    have ty := ty_dp hy
    cases d with
    | none => exact absurd rfl h0
    | bool b => cases b <;> simp at h1 h2
    | dict kvs => cases hx
    | str z =>
      cases hx
      cases hy
      refine ⟨_, rfl, _, _, _, _, _, rfl, .ty _, .base (.str z), kit_ty (r := true) (by decide), _, rfl, iteT ?_⟩
      refine ⟨_, rfl, _, _, _, _, _, rfl, .ty _, .base (.str z), kit_ty (r := true) (by decide), _, rfl, iteT ?_⟩
      rw [← show decide (V.str z = V.str z) = true by simp] at q
      exact ⟨_, rfl, _, rfl, rfl, q⟩
    | int z =>
      cases hx
      cases hy
      refine ⟨_, rfl, _, _, _, _, _, rfl, .ty _, .base (.int z), kit_ty (r := false) (by decide), _, rfl, iteF ?_⟩
      refine ⟨_, rfl, _, _, _, _, _, rfl, .ty _, .base (.int z), kit_ty (r := true) (by decide), _, rfl, iteT ?_⟩
      refine ⟨_, rfl, _, _, _, _, _, rfl, .ty _, .base (.int z), kit_ty (r := true) (by decide), _, rfl, iteT ?_⟩
      refine ⟨_, rfl, _, _, _, _, _, rfl, .ty _, .base (.int z), kit_ty (r := false) (by decide), _, rfl, _, rfl, iteT ?_⟩
      rw [← show decide (V.int z = V.int z) = true by simp] at q
      exact ⟨_, rfl, _, rfl, rfl, q⟩
    | list ds =>
      cases hx with
      | lst sx ax =>
      cases hy with
      | lst sy ay =>
      rename_i px xs py ys
      obtain ⟨lz, hall⟩ := okD_seq ok
      have lx := DpAll.len ax
      have ly := DpAll.len ay
      have tx := ty_seq sx
      have ty := ty_seq sy
      refine ⟨_, rfl, _, _, _, _, _, rfl, .ty _, ty, kit_ty (r := false) (by decide), _, rfl, iteF ?_⟩
      refine ⟨_, rfl, _, _, _, _, _, rfl, .ty _, ty, kit_ty (r := false) (by decide), _, rfl, iteF ?_⟩
      refine ⟨_, rfl, _, _, _, _, _, rfl, .ty _, ty, kit_ty (r := false) (by decide), _, rfl, iteF (iteF ?_)⟩
      refine ⟨_, rfl, _, _, _, _, _, rfl, .ty _, ty, kit_ty (r := true) (by decide), _, rfl, iteT ⟨_, rfl, _, _, _, _, _, rfl, .ty _, tx, kit_ty (r := true) (by decide), _, rfl, iteF ?_⟩⟩
      refine ⟨_, rfl, px, xs, rfl, .inl sx, _, rfl, py, ys, rfl, .inl sy, rfl, _, rfl, ?_⟩
      rw [show (!decide (V.int (xs.length : Int) = V.int (ys.length : Int))) = false by rw [lx, ly]; simp]
      refine iteF ?_
      refine ⟨_, rfl, py, ys, rfl, .inl sy, ys.length, rfl, by omega, by omega, for_range (n := ys.length) (fun i σ H' => ∃ v, σ = [some (.ref px), some (.ref py), v] ∧ H' = H) ⟨_, rfl, rfl⟩ ?_ ?_⟩
      · rintro i σ H' hi ⟨v, rfl, rfl⟩
        have hd : ds[i]? = some ds[i] := List.getElem?_eq_getElem (by omega)
        obtain ⟨v1, e1, d1⟩ := DpAll.get ax hd
        obtain ⟨v2, e2, d2⟩ := DpAll.get ay hd
        refine ⟨_, rfl, _, rfl, .inl ⟨px, _, _, _, rfl, rfl, sx, at_of (j := i) (by omega) e1, _, rfl, _, rfl, .inl ⟨py, _, _, _, rfl, rfl, sy, at_of (j := i) (by omega) e2, ?_⟩⟩⟩
        exact ⟨_, _, ds[i], rfl, hall _ (List.mem_of_getElem? hd), d1, d2, _, rfl, iteF ⟨_, rfl, rfl⟩⟩
      · rintro σ H' ⟨v, rfl, rfl⟩
        exact q
    | tuple ds =>
      cases hx with
      | tup sx ax =>
      cases hy with
      | tup sy ay =>
      rename_i px xs py ys
      obtain ⟨lz, hall⟩ := okD_seq ok
      have lx := DpAll.len ax
      have ly := DpAll.len ay
      have tx := ty_tup sx
      have ty := ty_tup sy
      refine ⟨_, rfl, _, _, _, _, _, rfl, .ty _, ty, kit_ty (r := false) (by decide), _, rfl, iteF ?_⟩
      refine ⟨_, rfl, _, _, _, _, _, rfl, .ty _, ty, kit_ty (r := false) (by decide), _, rfl, iteF ?_⟩
      refine ⟨_, rfl, _, _, _, _, _, rfl, .ty _, ty, kit_ty (r := true) (by decide), _, rfl, iteT ⟨_, rfl, _, _, _, _, _, rfl, .ty _, tx, kit_ty (r := true) (by decide), _, rfl, iteF ?_⟩⟩
      refine ⟨_, rfl, _, _, _, _, _, rfl, .ty _, ty, kit_ty (r := false) (by decide), _, rfl, iteF (iteF ?_)⟩
      refine ⟨_, rfl, px, xs, rfl, .inr sx, _, rfl, py, ys, rfl, .inr sy, rfl, _, rfl, ?_⟩
      rw [show (!decide (V.int (xs.length : Int) = V.int (ys.length : Int))) = false by rw [lx, ly]; simp]
      refine iteF ?_
      refine ⟨_, rfl, py, ys, rfl, .inr sy, ys.length, rfl, by omega, by omega, for_range (n := ys.length) (fun i σ H' => ∃ v, σ = [some (.ref px), some (.ref py), v] ∧ H' = H) ⟨_, rfl, rfl⟩ ?_ ?_⟩
      · rintro i σ H' hi ⟨v, rfl, rfl⟩
        have hd : ds[i]? = some ds[i] := List.getElem?_eq_getElem (by omega)
        obtain ⟨v1, e1, d1⟩ := DpAll.get ax hd
        obtain ⟨v2, e2, d2⟩ := DpAll.get ay hd
        refine ⟨_, rfl, _, rfl, .inr (.inl ⟨px, _, _, _, rfl, rfl, sx, at_of (j := i) (by omega) e1, _, rfl, _, rfl, .inr (.inl ⟨py, _, _, _, rfl, rfl, sy, at_of (j := i) (by omega) e2, ?_⟩)⟩)⟩
        exact ⟨_, _, ds[i], rfl, hall _ (List.mem_of_getElem? hd), d1, d2, _, rfl, iteF ⟨_, rfl, rfl⟩⟩
      · rintro σ H' ⟨v, rfl, rfl⟩
        exact q
end
section
variable {P : Program} {w : World} {K : PySem.W.Frag} {mg : Str → Option Value} {base : Heap} {C_Reels C_Stacks A_TOK : Addr}
theorem ok_law_copy1 {n : Nat} {f : Addr} {fd : FuncData} (F : Fun K "_law_copy" "_law_copy" s_law_copy f fd) (T : Txt K mg C_Reels C_Stacks A_TOK) (c_law_copy : Cal P w K mg base n "_law_copy" (spCopy K n)) : FnOk P w K mg base CX0 (n + 1) f fd ["thing"] (spCopy K (n + 1)) := by
  refine F.ok sc_law_copy (fun vs H Q E h => ?_) (fun cdv A outer s H vs Q E hr h => ?_)
  · obtain ⟨x, d, rfl, _⟩ := h
    rfl
  · obtain ⟨x, d, rfl, ok, hx, q⟩ := h
    refine ⟨_, (pss_cons (ps_if (pt_val (pe_callB call_isi (by rfl) T.b_isinstance (by decide +kernel) (pa_cons (pv 0) (pa_cons (pe_bltn (v := .ty "tuple") (by rfl) T.b_tuple (by decide +kernel) rfl) pa_nil))))
      (pss_one (ps_ret (pe_callTy call_tuple_of (by rfl) T.b_tuple (by decide +kernel) (pa_cons (pe_lc (own := [("part", 1)]) rfl sc_law_copy.nd (pi_tup (pv 0)) (blkOk_by (own := [("part", 1)]) (N := ["thing", "part"]) (sc := defScope s_law_copy) (by decide +kernel)) (fun _ _ _ _ _ => (pg_name (i := 1) sc_law_copy.nd rfl (by first | exact Or.inl rfl | exact Or.inr rfl))) (fun _ _ _ _ _ => pts_nil) (fun _ _ _ _ _ => (pe_c c_law_copy hr (by omega) (by rfl) (pa_cons (pv 1) pa_nil)))) pa_nil))))
      pss_nil)
    (pss_cons (ps_if (pt_val (pe_callB call_isi (by rfl) T.b_isinstance (by decide +kernel) (pa_cons (pv 0) (pa_cons (pe_bltn (v := .ty "list") (by rfl) T.b_list (by decide +kernel) rfl) pa_nil))))
      (pss_one (ps_ret (pe_lc (own := [("part", 1)]) rfl sc_law_copy.nd (pi_list (pv 0)) (blkOk_by (own := [("part", 1)]) (N := ["thing", "part"]) (sc := defScope s_law_copy) (by decide +kernel)) (fun _ _ _ _ _ => (pg_name (i := 1) sc_law_copy.nd rfl (by first | exact Or.inl rfl | exact Or.inr rfl))) (fun _ _ _ _ _ => pts_nil) (fun _ _ _ _ _ => (pe_c c_law_copy hr (by omega) (by rfl) (pa_cons (pv 1) pa_nil))))))
      pss_nil)
    (pss_one (ps_ret (pv 0))))), ?_⟩
    have qs : ∀ N, Nw N H H → Dp K N x d → Q x H := fun N h1 h2 => q H x N (fun _ _ e => e) h1 h2
    cases d with
    | none =>
      cases hx
      exact ⟨_, rfl, _, _, _, _, _, rfl, .ty _, .base .non, kit_ty (r := false) (by decide), _, rfl, iteF ⟨_, rfl, _, _, _, _, _, rfl, .ty _, .base .non, kit_ty (r := false) (by decide), _, rfl, iteF ⟨_, rfl, qs _ Nw.nil .non⟩⟩⟩
    | bool b =>
      cases hx
      exact ⟨_, rfl, _, _, _, _, _, rfl, .ty _, .base (.bl b), kit_ty (r := false) (by decide), _, rfl, iteF ⟨_, rfl, _, _, _, _, _, rfl, .ty _, .base (.bl b), kit_ty (r := false) (by decide), _, rfl, iteF ⟨_, rfl, qs _ Nw.nil (.bl b)⟩⟩⟩
    | int b =>
      cases hx
      exact ⟨_, rfl, _, _, _, _, _, rfl, .ty _, .base (.int b), kit_ty (r := false) (by decide), _, rfl, iteF ⟨_, rfl, _, _, _, _, _, rfl, .ty _, .base (.int b), kit_ty (r := false) (by decide), _, rfl, iteF ⟨_, rfl, qs _ Nw.nil (.int b)⟩⟩⟩
    | str b =>
      cases hx
      exact ⟨_, rfl, _, _, _, _, _, rfl, .ty _, .base (.str b), kit_ty (r := false) (by decide), _, rfl, iteF ⟨_, rfl, _, _, _, _, _, rfl, .ty _, .base (.str b), kit_ty (r := false) (by decide), _, rfl, iteF ⟨_, rfl, qs _ Nw.nil (.str b)⟩⟩⟩
    | dict kvs => cases hx
    | tuple ds =>
      cases hx with
      | tup sx ax =>
      rename_i px xs
      obtain ⟨lz, hall⟩ := okD_seq ok
      have lx := DpAll.len ax
      refine ⟨_, rfl, _, _, _, _, _, rfl, .ty _, ty_tup sx, kit_ty (r := true) (by decide), _, rfl, iteT ?_⟩
      refine ⟨_, rfl, px, rfl, ⟨_, sx⟩, fun D hD => lc_tup (K := K) (a := px) (xs := xs) (fun i H' => ∃ zs N, Same H H' ∧ H' D = some (.lst zs) ∧ N D = none ∧ Nw N H H' ∧ DpAll K N zs (ds.take i)) ⟨[], fun _ => none, same_upd hD, upd_same, rfl, ⟨fun _ _ e => (by cases e), fun _ h => absurd rfl h⟩, .nil⟩ ?_ ?_ ?_⟩
      · rintro i H' _ ⟨zs, N, sm, _⟩
        exact sameT sm sx
      · rintro i v H' hi ⟨zs, N, sm, eD, nD, nw, az⟩
        obtain ⟨d, hd, dv⟩ := DpAll.get' ax hi
        have hi' := (List.getElem?_eq_some_iff.mp hd).1
        refine ⟨rfl, iteT (B := ∃ zs N, Same H H' ∧ H' D = some (.lst zs) ∧ N D = none ∧ Nw N H H' ∧ DpAll K N zs (ds.take (i + 1))) ?_⟩
        refine ⟨_, rfl, v, d, rfl, hall _ (List.mem_of_getElem? hd), Dp.mono sm d v dv, fun H2 v2 N2 s2 nw2 d2 => ?_⟩
        have lz' := DpAll.len az
        rw [List.length_take] at lz'
        have e2 := s2 _ _ eD
        have nD2 : N2 D = none := by
          cases e : N2 D with
          | none => rfl
          | some o =>
            have := nw2.new D (by rw [e]; exact fun z => by cases z)
            rw [eD] at this
            cases this
        have nD3 := mrg_none nD nD2
        have nw3 := nw.add nw2 sm s2
        have az3 := DpAll.snoc (Dp.mono (mrg_r (nw.disj nw2)) _ _ d2) (DpAll.mono (mrg_l (M := N2)) _ _ az)
        rw [show ds.take i ++ [d] = ds.take (i + 1) by rw [List.take_succ, hd]; rfl] at az3
        exact ⟨zs, e2, szl (by omega), zs ++ [v2], mrg N N2, same_out (sm.trans s2) hD, upd_same, nD3, nw3.out nD3, az3⟩
      · rintro H' ⟨zs, N, sm, eD, nD, nw, az⟩
        rw [List.take_of_length_le (by omega)] at az
        exact ⟨D, zs, rfl, .inl ⟨SqL.of eD, fun l hl => q _ _ _ (sm.trans (same_upd hl)) (nw.put sm hl) (.tup (SqT.of upd_same) (DpAll.mono (same_upd (nw.same.free hl)) _ _ az))⟩⟩
    | list ds =>
      cases hx with
      | lst sx ax =>
      rename_i px xs
      obtain ⟨lz, hall⟩ := okD_seq ok
      have lx := DpAll.len ax
      refine ⟨_, rfl, _, _, _, _, _, rfl, .ty _, ty_seq sx, kit_ty (r := false) (by decide), _, rfl, iteF ⟨_, rfl, _, _, _, _, _, rfl, .ty _, ty_seq sx, kit_ty (r := true) (by decide), _, rfl, iteT ?_⟩⟩
      refine ⟨_, rfl, px, rfl, ⟨_, sx⟩, fun D hD => lc_list (K := K) (a := px) (xs := xs) (fun i H' => ∃ zs N, Same H H' ∧ H' D = some (.lst zs) ∧ N D = none ∧ Nw N H H' ∧ DpAll K N zs (ds.take i)) ⟨[], fun _ => none, same_upd hD, upd_same, rfl, ⟨fun _ _ e => (by cases e), fun _ h => absurd rfl h⟩, .nil⟩ ?_ ?_ ?_⟩
      · rintro i H' _ ⟨zs, N, sm, _⟩
        exact sm.seq sx
      · rintro i v H' hi ⟨zs, N, sm, eD, nD, nw, az⟩
        obtain ⟨d, hd, dv⟩ := DpAll.get' ax hi
        have hi' := (List.getElem?_eq_some_iff.mp hd).1
        refine ⟨rfl, iteT (B := ∃ zs N, Same H H' ∧ H' D = some (.lst zs) ∧ N D = none ∧ Nw N H H' ∧ DpAll K N zs (ds.take (i + 1))) ?_⟩
        refine ⟨_, rfl, v, d, rfl, hall _ (List.mem_of_getElem? hd), Dp.mono sm d v dv, fun H2 v2 N2 s2 nw2 d2 => ?_⟩
        have lz' := DpAll.len az
        rw [List.length_take] at lz'
        have e2 := s2 _ _ eD
        have nD2 : N2 D = none := by
          cases e : N2 D with
          | none => rfl
          | some o =>
            have := nw2.new D (by rw [e]; exact fun z => by cases z)
            rw [eD] at this
            cases this
        have nD3 := mrg_none nD nD2
        have nw3 := nw.add nw2 sm s2
        have az3 := DpAll.snoc (Dp.mono (mrg_r (nw.disj nw2)) _ _ d2) (DpAll.mono (mrg_l (M := N2)) _ _ az)
        rw [show ds.take i ++ [d] = ds.take (i + 1) by rw [List.take_succ, hd]; rfl] at az3
        exact ⟨zs, e2, szl (by omega), zs ++ [v2], mrg N N2, same_out (sm.trans s2) hD, upd_same, nD3, nw3.out nD3, az3⟩
      · rintro H' ⟨zs, N, sm, eD, nD, nw, az⟩
        rw [List.take_of_length_le (by omega)] at az
        exact q _ _ _ sm (nw.own hD eD) (.lst (SqL.of upd_same) (DpAll.mono (same_upd nD) _ _ az))
end
section
variable {P : Program} {w : World} {K : PySem.W.Frag} {mg : Str → Option Value} {base : Heap} {C_Reels C_Stacks A_TOK : Addr}
theorem cal_law_same {f : Addr} {fd : FuncData} (F : Fun K "_law_same" "_law_same" s_law_same f fd) (T : Txt K mg C_Reels C_Stacks A_TOK) (hm : mg "_law_same" = some (.ref f)) (kp : PySem.W.keepIn K (.ref f) = true) (b : Binds K fd ["told", "due"] []) : ∀ n, Cal P w K mg base n "_law_same" (spSame K n)
  | 0 => ⟨_, _, _, ⟨fun _ _ _ _ ⟨_, _, _, _, z, _⟩ => (by cases z), fun _ _ _ _ _ _ _ _ _ _ _ _ _ ⟨_, _, _, _, z, _⟩ => (by cases z)⟩, hm, kp, b⟩
  | n + 1 => ⟨_, _, _, ok_law_same1 F T (cal_law_same F T hm kp b n), hm, kp, b⟩
theorem cal_law_copy {f : Addr} {fd : FuncData} (F : Fun K "_law_copy" "_law_copy" s_law_copy f fd) (T : Txt K mg C_Reels C_Stacks A_TOK) (hm : mg "_law_copy" = some (.ref f)) (kp : PySem.W.keepIn K (.ref f) = true) (b : Binds K fd ["thing"] []) : ∀ n, Cal P w K mg base n "_law_copy" (spCopy K n)
  | 0 => ⟨_, _, _, ⟨fun _ _ _ _ ⟨_, _, _, z, _⟩ => (by cases z), fun _ _ _ _ _ _ _ _ _ _ _ _ _ ⟨_, _, _, z, _⟩ => (by cases z)⟩, hm, kp, b⟩
  | n + 1 => ⟨_, _, _, ok_law_copy1 F T (cal_law_copy F T hm kp b n), hm, kp, b⟩
end

/-! ### strangers, as law k14 draws them -/
/-- a text is not long, a word of bits still less -/
def TxOk (z : Str) : Prop := z.length ≤ 450 ∧ (isB z = true → z.length ≤ 72)
theorem TxOk.of {z : Str} (h : z.length ≤ 72) : TxOk z := ⟨by omega, fun _ => h⟩
def spAnyInt : Sp := fun vs H Q _ => ∃ (B : Hp) (t : Addr) (c : Nat), vs = [.ref t] ∧ Tp B H t c ∧ c < 100000000 ∧ ∀ H' n, Tp B H' t (c + 12) → Q (.int n) H'
def spString : Sp := fun vs H Q _ => ∃ (B : Hp) (t : Addr) (c : Nat), vs = [.ref t] ∧ Tp B H t c ∧ c < 100000000 ∧ ∀ H' z, Tp B H' t (c + 12) → TxOk z → Q (.str z) H'
/-- a text is not long -/
def S450 (d : PyData) : Prop := ∀ z, d = .str z → TxOk z
def spStranger (K : PySem.W.Frag) (m : Nat) : Sp := fun vs H Q _ => ∃ (B : Hp) (t : Addr) (c deep : Nat), vs = [.ref t, .int (deep : Int)] ∧ deep < m ∧ Tp B H t c ∧ c + 30 * 4 ^ deep < 100000000 ∧
  ∀ H' v d N, Tp (mrg B N) H' t (c + 30 * 4 ^ deep) → New N B → Dp K N v d → okD (deep + 2) d = true → S450 d → Q v H'
section
variable {P : Program} {w : World} {K : PySem.W.Frag} {mg : Str → Option Value} {base : Heap} {C_Reels C_Stacks A_TOK : Addr}
theorem ok_law_integer {f : Addr} {fd : FuncData} (F : Fun K "_law_integer" "_law_integer" s_law_integer f fd) (T : Txt K mg C_Reels C_Stacks A_TOK) (c_law_draw : Cal P w K mg base 1 "_law_draw" spDraw) : FnOk P w K mg base CX0 2 f fd ["tape"] spAnyInt := by
  refine F.ok sc_law_integer (fun vs H Q E h => ?_) (fun cdv A outer s H vs Q E hr h => ?_)
  · obtain ⟨B, t, c, rfl, _⟩ := h
    rfl
  · obtain ⟨B, t, c, rfl, TT, hc, q⟩ := h
    refine ⟨_, (pss_cons (ps_set (i := 1) sc_law_integer.nd rfl (by first | exact Or.inl rfl | exact Or.inr rfl) (pe_ix ix_list (pe_lst (pa_cons pe_int (pa_cons pe_int (pa_cons pe_int (pa_cons (pe_un un_neg pe_int) (pa_cons (pe_un un_neg pe_int) (pa_cons pe_int (pa_cons pe_int (pa_cons pe_int pa_nil))))))))) (pe_c c_law_draw hr (by omega) (by rfl) (pa_cons (pv 0) (pa_cons pe_int pa_nil))) (fun _ _ => rfl)))
    (pss_cons (ps_if (pt_cmpR op_gt (pe_c c_law_draw hr (by omega) (by rfl) (pa_cons (pv 0) (pa_cons pe_int pa_nil))) pe_int (nomark _))
      (pss_one (ps_ret (pv 1)))
      pss_nil)
    (pss_cons (ps_set (i := 1) sc_law_integer.nd rfl (by first | exact Or.inl rfl | exact Or.inr rfl) (pe_op op_sub (pe_c c_law_draw hr (by omega) (by rfl) (pa_cons (pv 0) (pa_cons pe_int pa_nil))) pe_int))
    (pss_cons (ps_for PassesOwn.never rfl (pi_range1 (by rfl) T.b_range (pa_cons (pe_c c_law_draw hr (by omega) (by rfl) (pa_cons (pv 0) (pa_cons pe_int pa_nil))) pa_nil)) (pg_name (i := 2) sc_law_integer.nd rfl (by first | exact Or.inl rfl | exact Or.inr rfl))
      (pss_one (ps_set (i := 1) sc_law_integer.nd rfl (by first | exact Or.inl rfl | exact Or.inr rfl) (pe_op op_mulW (pv 1) (pe_op op_add (pe_op op_pow pe_int pe_int) (pe_c c_law_draw hr (by omega) (by rfl) (pa_cons (pv 0) (pa_cons pe_int pa_nil))))))))
    (pss_one (ps_ret (pv 1))))))), ?_⟩
    have pb : ∀ d : Int, 0 ≤ d → d < 1000 → ((10 : Int) ^ (64 : Int).toNat + d).natAbs < 2 ^ 213 := fun d h0 h1 => by
      rw [show (64 : Int).toNat = 64 from rfl]
      omega
    refine ⟨_, rfl, _, rfl, szle (by show 8 ≤ 16777216; decide), fun l hl => ?_⟩
    have hBl := TT.isn hl
    refine ⟨_, rfl, _, t, c, 8, rfl, TT.new hl, by decide, by decide, by omega, fun H1 k T1 k0 k1 => ?_⟩
    obtain ⟨n0, hn0⟩ := at_int k0 k1 (xs := [.int 0, .int 1, .int 2, .int (-1), .int (-2), .int 1000, .int 3, .int 7]) rfl
    refine ⟨l, _, _, _, rfl, rfl, SqL.of (T1.at upd_same), hn0, ?_⟩
    replace T1 := T1.shrink (same_upd hBl)
    refine ⟨_, rfl, B, t, c + 1, 4, rfl, T1, by decide, by decide, by omega, fun H2 m T2 m0 m1 => ⟨_, _, rfl, rfl, _, rfl, ?_⟩⟩
    refine ite2 (fun _ => ?_) (fun _ => ?_)
    · exact ⟨_, rfl, q _ _ (T2.le (by omega))⟩
    · refine ⟨_, rfl, B, t, c + 2, 100000, rfl, T2, by decide, by decide, by omega, fun H3 x T3 x0 x1 => ⟨_, _, rfl, rfl, ?_⟩⟩
      refine ⟨_, rfl, B, t, c + 3, 6, rfl, T3, by decide, by decide, by omega, fun H4 z T4 z0 z1 => ?_⟩
      obtain ⟨n, rfl⟩ := nat_of z0
      refine ⟨n, rfl, by omega, by omega, for_range (n := n) (fun i σ H' => ∃ (v : Option V) (x : Int), σ = [some (.ref t), some (.int x), v] ∧ Tp B H' t (c + 4 + i) ∧ x.natAbs < 2 ^ (214 * (i + 1)))
        ⟨_, _, rfl, T4, bits_le (a := 20) (by omega) (by omega)⟩ ?_ ?_⟩
      · rintro i σ H' hi ⟨v, x, rfl, T5, bx⟩
        refine ⟨_, rfl, _, _, rfl, rfl, ⟨by decide, by decide, by decide⟩, _, rfl, B, t, c + 4 + i, 1000, rfl, T5, by decide, by decide, by omega, fun H6 d2 T6 e0 e1 => ⟨_, _, rfl, rfl, ?_⟩⟩
        refine ⟨_, _, rfl, rfl, wide_mul bx (pb d2 e0 e1) (by omega) (by decide) (by omega), ?_⟩
        exact ⟨_, _, rfl, T6, bits_le (bits_mul bx (pb d2 e0 e1)) (by omega)⟩
      · rintro σ H' ⟨v, x, rfl, T5, bx⟩
        exact ⟨_, rfl, q _ _ (T5.le (by omega))⟩
theorem ok_law_string {f : Addr} {fd : FuncData} (F : Fun K "_law_string" "_law_string" s_law_string f fd) (T : Txt K mg C_Reels C_Stacks A_TOK) (c_law_draw : Cal P w K mg base 1 "_law_draw" spDraw) : FnOk P w K mg base CX0 2 f fd ["tape"] spString := by
  refine F.ok sc_law_string (fun vs H Q E h => ?_) (fun cdv A outer s H vs Q E hr h => ?_)
  · obtain ⟨B, t, c, rfl, _⟩ := h
    rfl
  · obtain ⟨B, t, c, rfl, TT, hc, q⟩ := h
    refine ⟨_, (pss_cons (ps_if (pt_cmpR op_eq (pe_c c_law_draw hr (by omega) (by rfl) (pa_cons (pv 0) (pa_cons pe_int pa_nil))) pe_int (nomark _))
      (pss_one (ps_ret (pe_op op_add_str (pe_op op_repS (pe_ix ix_str pe_str (pe_c c_law_draw hr (by omega) (by rfl) (pa_cons (pv 0) (pa_cons pe_int pa_nil))) (fun _ _ => rfl)) (pe_c c_law_draw hr (by omega) (by rfl) (pa_cons (pv 0) (pa_cons pe_int pa_nil)))) pe_str)))
      pss_nil)
    (pss_cons (ps_set (i := 1) sc_law_string.nd rfl (by first | exact Or.inl rfl | exact Or.inr rfl) (pe_lst (pa_cons pe_str (pa_cons pe_str (pa_cons pe_str (pa_cons pe_str (pa_cons pe_str (pa_cons pe_str (pa_cons pe_str (pa_cons pe_str (pa_cons pe_str pa_nil)))))))))))
    (pss_one (ps_ret (pe_op op_add_str (pe_ix ix_list (pv 1) (pe_c c_law_draw hr (by omega) (by rfl) (pa_cons (pv 0) (pa_cons pe_int pa_nil))) (fun _ _ => rfl)) (pe_ix ix_list (pv 1) (pe_c c_law_draw hr (by omega) (by rfl) (pa_cons (pv 0) (pa_cons pe_int pa_nil))) (fun _ _ => rfl))))))), ?_⟩
    refine ⟨_, rfl, B, t, c, 12, rfl, TT, by decide, by decide, by omega, fun H1 k T1 k0 k1 => ⟨rfl, _, rfl, ?_⟩⟩
    refine ite2 (fun _ => ?_) (fun _ => ?_)
    · refine ⟨_, rfl, B, t, c + 1, 2, rfl, T1, by decide, by decide, by omega, fun H2 m T2 m0 m1 => ?_⟩
      obtain ⟨ch, hch⟩ := at_some (xs := (("01" : Str)).cps.toList) m0 (by rw [show (((("01" : Str)).cps.toList.length : Int)) = 2 from rfl]; exact m1)
      refine ⟨_, _, ch, rfl, rfl, szle (by decide), hch, ?_⟩
      refine ⟨_, rfl, B, t, c + 2, 400, rfl, T2, by decide, by decide, by omega, fun H3 l T3 l0 l1 => ?_⟩
      have len : (repS ⟨#[ch]⟩ l).length = l.toNat * 1 := repS_len _ _
      refine ⟨_, l, rfl, rfl, by omega, by omega, by show l.toNat * 1 ≤ 16777216; omega, _, _, rfl, rfl, ?_, q _ _ (T3.le (by omega)) ?_⟩
      · rw [len]
        exact szle (by show _ + 1 ≤ 16777216; omega)
      · refine ⟨?_, fun hb => ?_⟩
        · rw [str_app_len, len]
          show _ + 1 ≤ 450
          omega
        · have := isB_mem hb (c := 120) (by show 120 ∈ ((repS ⟨#[ch]⟩ l).cps ++ #[120]).toList; simp)
          omega
    · refine ⟨szle (by show 9 ≤ 16777216; decide), fun l hl => ?_⟩
      have hBl := T1.isn hl
      refine ⟨_, rfl, _, rfl, _, t, c + 1, 9, rfl, T1.new hl, by decide, by decide, by omega, fun H2 i T2 i0 i1 => ?_⟩
      obtain ⟨z1, e1, l1⟩ := at_str (m := 3) i0 i1 (xs := [.str "000", .str "111", .str "", .str "0", .str "1", .str "2", .str ".", .str "-1", .str " "]) rfl
      refine ⟨l, _, _, _, rfl, rfl, SqL.of (T2.at upd_same), e1, ?_⟩
      refine ⟨_, rfl, _, rfl, _, t, c + 2, 9, rfl, T2, by decide, by decide, by omega, fun H3 j T3 j0 j1 => ?_⟩
      obtain ⟨z2, e2, l2⟩ := at_str (m := 3) j0 j1 (xs := [.str "000", .str "111", .str "", .str "0", .str "1", .str "2", .str ".", .str "-1", .str " "]) rfl
      refine ⟨l, _, _, _, rfl, rfl, SqL.of (T3.at upd_same), e2, _, _, rfl, rfl, szle (by omega), q _ _ ((T3.shrink (same_upd hBl)).le (by omega)) (.of ?_)⟩
      rw [str_app_len]
      omega
theorem ok_law_stranger1 {m : Nat} {f : Addr} {fd : FuncData} (F : Fun K "_law_stranger" "_law_stranger" s_law_stranger f fd) (T : Txt K mg C_Reels C_Stacks A_TOK) (c_law_draw : Cal P w K mg base 1 "_law_draw" spDraw) (c_law_integer : Cal P w K mg base 2 "_law_integer" spAnyInt) (c_law_string : Cal P w K mg base 2 "_law_string" spString)
    (c_law_stranger : Cal P w K mg base (m + 2) "_law_stranger" (spStranger K m)) : FnOk P w K mg base CX0 (m + 1 + 2) f fd ["tape", "deep"] (spStranger K (m + 1)) := by
  refine F.ok sc_law_stranger (fun vs H Q E h => ?_) (fun cdv A outer s H vs Q E hr h => ?_)
  · obtain ⟨B, t, c, deep, rfl, _⟩ := h
    rfl
  · obtain ⟨B, t, c, deep, rfl, hm, TT, hc, q⟩ := h
    refine ⟨_, (pss_cons (ps_set (i := 2) sc_law_stranger.nd rfl (by first | exact Or.inl rfl | exact Or.inr rfl) (pe_c c_law_draw hr (by omega) (by rfl) (pa_cons (pv 0) (pa_cons pe_int pa_nil))))
    (pss_cons (ps_if (pt_cmpR op_eq (pv 2) pe_int (nomark _))
      (pss_one (ps_ret pe_non))
      pss_nil)
    (pss_cons (ps_if (pt_cmpR op_eq (pv 2) pe_int (nomark _))
      (pss_one (ps_ret (pe_cmpR op_eq (pe_c c_law_draw hr (by omega) (by rfl) (pa_cons (pv 0) (pa_cons pe_int pa_nil))) pe_int (nomark _))))
      pss_nil)
    (pss_cons (ps_if (pt_cmpR op_lt (pv 2) pe_int (nomark _))
      (pss_one (ps_ret (pe_c c_law_integer hr (by omega) (by rfl) (pa_cons (pv 0) pa_nil))))
      pss_nil)
    (pss_cons (ps_if (PW.pt (pw_or (pt_cmpR op_eq (pv 2) pe_int (nomark _)) (pw_or1 (pt_cmpR op_lt (pv 1) pe_int (nomark _)))))
      (pss_one (ps_ret (pe_c c_law_string hr (by omega) (by rfl) (pa_cons (pv 0) pa_nil))))
      pss_nil)
    (pss_cons (ps_setLc (i := 3) (own := [("k", 4)]) rfl sc_law_stranger.nd rfl rfl (sw_true rfl rfl rfl (by decide +kernel)) (pi_range1 (by rfl) T.b_range (pa_cons (pe_c c_law_draw hr (by omega) (by rfl) (pa_cons (pv 0) (pa_cons pe_int pa_nil))) pa_nil)) (blkOk_by (own := [("k", 4)]) (N := ["tape", "deep", "kind", "parts", "k"]) (sc := defScope s_law_stranger) (by decide +kernel)) (fun _ _ _ _ _ => (pg_name (i := 4) sc_law_stranger.nd rfl (by first | exact Or.inl rfl | exact Or.inr rfl))) (fun _ _ _ _ _ => pts_nil) (fun _ _ _ _ _ => (pe_c c_law_stranger hr (by omega) (by rfl) (pa_cons (pv 0) (pa_cons (pe_op op_sub (pv 1) pe_int) pa_nil)))))
    (pss_cons (ps_if (pt_cmpR op_eq (pv 2) pe_int (nomark _))
      (pss_one (ps_ret (pv 3)))
      pss_nil)
    (pss_one (ps_ret (pe_callTy call_tuple_of (by rfl) T.b_tuple (by decide +kernel) (pa_cons (pv 3) pa_nil))))))))))), ?_⟩
    have p1 : 1 ≤ 4 ^ deep := Nat.pow_pos (by decide)
    have sc : ∀ H' v d, Tp B H' t (c + 30 * 4 ^ deep) → (∀ N, Dp K N v d) → okD (deep + 2) d = true → S450 d → Q v H' := fun H' v d T1 h1 h2 h3 => q H' v d _ T1.e New.nil (h1 _) h2 h3
    refine ⟨_, rfl, B, t, c, 8, rfl, TT, by decide, by decide, by omega, fun H1 k T1 k0 k1 => ?_⟩
    refine ⟨_, rfl, rfl, _, rfl, ?_⟩
    rw [show decide (V.int k = V.int 0) = decide (k = 0) by simp]
    refine ite2 (fun _ => ?_) (fun _ => ?_)
    · exact sc _ _ .none (T1.le (by omega)) (fun _ => .non) rfl (fun z h => by cases h)
    refine ⟨_, rfl, rfl, _, rfl, ?_⟩
    rw [show decide (V.int k = V.int 1) = decide (k = 1) by simp]
    refine ite2 (fun _ => ?_) (fun _ => ?_)
    · exact ⟨_, rfl, B, t, c + 1, 2, rfl, T1, by decide, by decide, by omega, fun H2 b T2 b0 b1 => ⟨rfl, sc _ _ (.bool _) (T2.le (by omega)) (fun _ => .bl _) rfl (fun z h => by cases h)⟩⟩
    refine ⟨_, rfl, _, _, rfl, rfl, _, rfl, ?_⟩
    refine ite2 (fun _ => ?_) (fun _ => ?_)
    · exact ⟨_, rfl, B, t, c + 1, rfl, T1, by omega, fun H2 n T2 => sc _ _ (.int n) (T2.le (by omega)) (fun _ => .int _) rfl (fun z h => by cases h)⟩
    refine ⟨_, rfl, rfl, _, rfl, ?_⟩
    rw [show decide (V.int k = V.int 4) = decide (k = 4) by simp]
    have str_ : ∀ H' z, Tp B H' t (c + 1 + 12) → TxOk z → Q (.str z) H' := fun H' z T2 hz => sc _ _ (.str z) (T2.le (by omega)) (fun _ => .str _) rfl (fun z' h => by cases h; exact hz)
    refine ite2 (fun _ => ?_) (fun hk3 => ?_)
    · exact iteT ⟨_, rfl, B, t, c + 1, rfl, T1, by omega, str_⟩
    refine ⟨_, rfl, _, _, rfl, rfl, _, rfl, ?_⟩
    refine ite2 (fun _ => ?_) (fun hd => ?_)
    · exact ⟨_, rfl, B, t, c + 1, rfl, T1, by omega, str_⟩
    obtain ⟨e, rfl⟩ : ∃ e, deep = e + 1 := ⟨deep - 1, by simp at hd; omega⟩
    have p3 : 4 ^ (e + 1) = 4 * 4 ^ e := Nat.pow_succ'
    have pe1 : 1 ≤ 4 ^ e := Nat.pow_pos (by decide)
    rw [p3] at hc q
    have qT : ∀ H' D zs ds N, Lst K B H' t (c + 30 * (4 * 4 ^ e)) D zs ds N → ds.length ≤ 10 → (∀ d ∈ ds, okD (e + 2) d = true) → Q (.ref D) H' ∧ ∀ l, H' l = none → Q (.ref l) (upd H' l (.tup zs)) := fun H' D zs ds N L hl h => by
      have hok := okD_mk (n := e + 2) (ds := ds) (by omega) fun d hd => h d hd
      constructor
      · obtain ⟨l1, l2, l3⟩ := L.asList
        exact q _ _ _ _ l1 l2 l3 hok (fun z h => by cases h)
      · intro l hl0
        obtain ⟨M, l1, l2, l3⟩ := L.asTup hl0
        exact q _ _ _ _ l1 l2 l3 hok (fun z h => by cases h)
    -- parts
    refine ⟨_, rfl, B, t, c + 1, 4, rfl, T1, by decide, by decide, by omega, fun H2 n T2 n0 n1 => ?_⟩
    obtain ⟨n, rfl⟩ := nat_of n0
    refine ⟨n, rfl, by omega, by omega, fun D hD => lc_range (lo := 0) (n := n) (fun i H' => ∃ zs ds N, Lst K B H' t (c + 2 + i * (30 * 4 ^ e)) D zs ds N ∧ ds.length = i ∧ ∀ d ∈ ds, okD (e + 2) d = true) ⟨[], [], _, by simpa using Lst.ini T2 hD, rfl, fun d h => by cases h⟩ ?_ ?_⟩
    · rintro i H' hi ⟨zs, ds, N, L, ld, hd⟩
      have lz := DpAll.len L.all
      refine ⟨rfl, iteT (B := ∃ zs ds N, Lst K B H' t (c + 2 + (i + 1) * (30 * 4 ^ e)) D zs ds N ∧ ds.length = i + 1 ∧ ∀ d ∈ ds, okD (e + 2) d = true) ?_⟩
      have hi2 : i = 0 ∨ i = 1 ∨ i = 2 := by omega
      refine ⟨_, rfl, _, rfl, _, _, rfl, rfl, _, t, c + 2 + i * (30 * 4 ^ e), e, congrArg (fun z => [V.ref t, V.int z]) (by omega), by omega, L.tp, by rcases hi2 with rfl | rfl | rfl <;> omega, fun H4 v d M T4 nM dv okd _ => ?_⟩
      obtain ⟨hD4, L4⟩ := L.add T4 nM dv
      refine ⟨zs, hD4, szl (by omega), zs ++ [v], ds ++ [d], mrg N M, ?_, by simp [ld], fun x hx => ?_⟩
      · rw [show c + 2 + (i + 1) * (30 * 4 ^ e) = c + 2 + i * (30 * 4 ^ e) + 30 * 4 ^ e by rw [Nat.add_mul]; omega]
        exact L4
      · rcases List.mem_append.mp hx with h | h
        · exact hd x h
        · rw [List.mem_singleton.mp h]
          exact okd
    rintro H3 ⟨zs, ds, N, L, ld, hd⟩
    have hn : n = 0 ∨ n = 1 ∨ n = 2 ∨ n = 3 := by omega
    have L' : Lst K B H3 t (c + 30 * (4 * 4 ^ e)) D zs ds N := ⟨L.tp.le (by rcases hn with rfl | rfl | rfl | rfl <;> omega), L.new, L.bD, L.nD, L.all⟩
    obtain ⟨q1, q2⟩ := qT H3 D zs ds N L' (by omega) hd
    refine ⟨_, rfl, rfl, _, rfl, ?_⟩
    rw [show decide (V.int k = V.int 5) = decide (k = 5) by simp]
    refine ite2 (fun _ => ?_) (fun _ => ?_)
    · exact ⟨_, rfl, q1⟩
    · exact ⟨_, rfl, D, zs, rfl, .inl ⟨SqL.of L'.hD, q2⟩⟩
theorem cal_law_stranger {f : Addr} {fd : FuncData} (F : Fun K "_law_stranger" "_law_stranger" s_law_stranger f fd) (T : Txt K mg C_Reels C_Stacks A_TOK) (hm : mg "_law_stranger" = some (.ref f)) (kp : PySem.W.keepIn K (.ref f) = true) (b : Binds K fd ["tape", "deep"] []) (c_law_draw : Cal P w K mg base 1 "_law_draw" spDraw) (c_law_integer : Cal P w K mg base 2 "_law_integer" spAnyInt) (c_law_string : Cal P w K mg base 2 "_law_string" spString) : ∀ n, Cal P w K mg base (n + 2) "_law_stranger" (spStranger K n)
  | 0 => ⟨_, _, _, ⟨fun _ _ _ _ ⟨_, _, _, _, _, z, _⟩ => absurd z (Nat.not_lt_zero _), fun _ _ _ _ _ _ _ _ _ _ _ _ _ ⟨_, _, _, _, _, z, _⟩ => absurd z (Nat.not_lt_zero _)⟩, hm, kp, b⟩
  | n + 1 => ⟨_, _, _, ok_law_stranger1 F T c_law_draw c_law_integer c_law_string (cal_law_stranger F T hm kp b c_law_draw c_law_integer c_law_string n), hm, kp, b⟩
end

/-! ### programs by their numbers -/
theorem ways_at {K : PySem.W.Frag} {rl : Bool} {n l d : Nat} {H : Hp} {p : Addr} {rows : List V} (hp : H p = some (.lst rows)) (hr : ∀ i, i ≤ n → ∃ q, rows[i]? = some (.ref q) ∧ H q = some (.lst ((rw (oL rl) (cL rl) n i).map V.int))) (hl : l ≤ n) (hd : d ≤ n + 2) : ∃ q xs, atI rows (l : Int) = some (.ref q) ∧ SqL K H q xs ∧ atI xs (d : Int) = some (.int (W rl l d)) := by
  obtain ⟨q, h1, h2⟩ := hr l hl
  refine ⟨q, _, atI_nat h1, SqL.of h2, atI_nat ?_⟩
  rw [List.getElem?_map, List.getElem?_eq_getElem (by rw [rw_len]; omega), ← rw_W rl n l d hl hd, List.getD_eq_getElem?_getD, List.getElem?_eq_getElem (by rw [rw_len]; omega)]
  rfl
def spOfNum (K : PySem.W.Frag) (CI : Addr) : Sp := fun vs H Q E => ∃ (r : Addr) (rl : Bool) (n : Nat) (v : V) (d : PyData), vs = [.ref r, .int (n : Int), v] ∧ Lg K H r rl ∧ n ≤ 24 ∧ Dp K H v d ∧
  ((∀ x, d = .int x → 0 ≤ x → x < W rl n 1 → ∀ cs : List Nat, cs.length = n → (∀ c ∈ cs, c < 8) → good rl cs 1 = true → rk rl cs 1 = x → ∀ H', Same H H' → Q (.str (wC cs)) H') ∧
   ((∀ x, d = .int x → ¬ (0 ≤ x ∧ x < W rl n 1)) → ∀ H' dd, Same H H' → H' dd = some (.xd [("number", v)]) → E (.ref CI) (some dd) H'))
def spNumOf (K : PySem.W.Frag) (CR CS CN : Addr) : Sp := fun vs H Q E => ∃ (r dx : Addr) (rl : Bool) (v : V) (d : PyData), vs = [.ref r, v] ∧ LgC K (clL CR CS rl) rl ∧ H r = some (.ins (clL CR CS rl) dx []) ∧ Dp K H v d ∧ (∀ z, d = .str z → z.length ≤ 3000) ∧ (∀ z, d = .str z → isB z = true → z.length ≤ 72) ∧
  ((∀ z, d = .str z → isP rl z = true → ∀ H', Same H H' → Q (.int (rk rl (cdL z.cps.toList) 1)) H') ∧ (isPD rl d = false → ∀ H' dd, Same H H' → H' dd = some (.xd [("program", v)]) → E (.ref CN) (some dd) H'))
section
variable {P : Program} {w : World} {K : PySem.W.Frag} {mg : Str → Option Value} {base : Heap} {C_Reels C_Stacks A_TOK : Addr} {C_NoProgram C_InvalidNumber : Addr}
theorem ok_program_of_number {f : Addr} {fd : FuncData} (F : Fun K "program_of_number" "program_of_number" s_program_of_number f fd) (T : Txt K mg C_Reels C_Stacks A_TOK) (x_InvalidNumber : XErr P K mg "InvalidNumber" C_InvalidNumber ["number"]) (c_ways_to_close : Cal P w K mg base 1 "_ways_to_close" (spWays K)) (c_is_integer : Cal P w K mg base 1 "is_integer" (spKind K isIntD)) (c_depth_behind : Cal P w K mg base 1 "depth_behind" (spDep K)) : FnOk P w K mg base (L2N.CX P w) 5 f fd ["language", "tokens", "number"] (spOfNum K C_InvalidNumber) := by
  refine Fun_okN F sc_program_of_number (fun vs H Q E h => ?_) (fun cdv A outer s H vs Q E hr h => ?_)
  · obtain ⟨r, rl, n, v, d, rfl, _⟩ := h
    rfl
  · obtain ⟨r, rl, n, v, d, rfl, L, hn, hv, q, qE⟩ := h
    refine ⟨_, (pss_cons (ps_set (i := 3) sc_program_of_number.nd rfl (by first | exact Or.inl rfl | exact Or.inr rfl) (pe_c c_ways_to_close hr (by omega) (by rfl) (pa_cons (pv 0) (pa_cons (pv 1) pa_nil))))
    (pss_cons (ps_if (PW.pt (pw_or (pt_not (pt_val (pe_c c_is_integer hr (by omega) (by rfl) (pa_cons (pv 2) pa_nil)))) (pw_or1 (pt_not (pt_chain op_le op_lt pe_int (pv 2) (pe_ix ix_list (pe_ix ix_list (pv 3) (pv 1) (fun _ _ => rfl)) pe_int (fun _ _ => rfl)))))))
      (pss_one (ps_raiseX rfl x_InvalidNumber hr (L2N.takes_of rfl rfl rfl rfl) (pa_cons (pv 2) pa_nil)))
      pss_nil)
    (pss_cons (ps_set (i := 4) sc_program_of_number.nd rfl (by first | exact Or.inl rfl | exact Or.inr rfl) pe_str)
    (pss_cons (ps_set (i := 5) sc_program_of_number.nd rfl (by first | exact Or.inl rfl | exact Or.inr rfl) pe_int)
    (pss_cons (ps_set (i := 6) sc_program_of_number.nd rfl (by first | exact Or.inl rfl | exact Or.inr rfl) (pv 2))
    (pss_cons (ps_for (passes_of rfl) rfl (pi_revR (by rfl) T.b_reversed (prg_1 (by rfl) T.b_range (pv 1))) (pg_name (i := 7) sc_program_of_number.nd rfl (by first | exact Or.inl rfl | exact Or.inr rfl))
      (C8.pss_cut (ps_for (passes_of rfl) rfl (pi_zipJ (by rfl) T.b_zip (pa_cons (pe_glob (v := .ref A_TOK) (by rfl) T.g_TOKENS rfl) (pa_cons (pe_con (pv 0) rfl) pa_nil))) (pg_tup rfl (pgs_cons (pg_name (i := 8) sc_program_of_number.nd rfl (by first | exact Or.inl rfl | exact Or.inr rfl)) (pgs_cons (pg_name (i := 9) sc_program_of_number.nd rfl (by first | exact Or.inl rfl | exact Or.inr rfl)) pgs_nil)))
          (pss_cons (ps_set (i := 10) sc_program_of_number.nd rfl (by first | exact Or.inl rfl | exact Or.inr rfl) (pe_c c_depth_behind hr (by omega) (by rfl) (pa_cons (pv 0) (pa_cons (pv 9) (pa_cons (pv 5) pa_nil)))))
            (pss_cons (ps_if (pt_cmpR op_lt (pv 6) (pe_ix ix_list (pe_ix ix_list (pv 3) (pv 7) (fun _ _ => rfl)) (pv 10) (fun _ _ => rfl)) (nomark _))
              (pss_one ps_break)
              pss_nil)
            (pss_one (ps_set (i := 6) sc_program_of_number.nd rfl (by first | exact Or.inl rfl | exact Or.inr rfl) (pe_op op_sub (pv 6) (pe_ix ix_list (pe_ix ix_list (pv 3) (pv 7) (fun _ _ => rfl)) (pv 10) (fun _ _ => rfl))))))))
        (pss_cons (ps_set (i := 4) sc_program_of_number.nd rfl (by first | exact Or.inl rfl | exact Or.inr rfl) (pe_op op_add_str (pv 4) (pv 8)))
        (pss_one (ps_set (i := 5) sc_program_of_number.nd rfl (by first | exact Or.inl rfl | exact Or.inr rfl) (pv 10))))))
    (pss_one (ps_ret (pv 4))))))))), ?_⟩
    refine ⟨_, rfl, _, rfl, r, n, oL rl, cL rl, rfl, L.lang, hn, fun H1 p rows s1 hp hw => ?_⟩
    have bad : (∀ x, d = .int x → ¬ (0 ≤ x ∧ x < W rl n 1)) → ∀ dd, H1 dd = none → E (.ref C_InvalidNumber) (some dd) (upd H1 dd (.xd [("number", v)])) := fun h dd hd => qE h _ dd (s1.trans (same_upd hd)) upd_same
    refine ⟨_, rfl, v, d, rfl, Dp.mono s1 _ _ hv, _, rfl, ?_⟩
    cases hd : isIntD d with
    | false => exact iteT (iteT ⟨_, rfl, rfl, bad fun x e => by rw [e] at hd; cases hd⟩)
    | true =>
      obtain ⟨x, rfl⟩ : ∃ x, d = .int x := by
        cases d <;> first | exact ⟨_, rfl⟩ | cases hd
      cases hv
      refine iteF ?_
      obtain ⟨q1, xs1, a1, a2, a3⟩ := ways_at (K := K) hp hw (Nat.le_refl n) (d := 1) (by omega)
      refine ⟨_, rfl, _, _, rfl, rfl, _, rfl, ite2 (fun h0 => ?_) (fun h0 => ?_)⟩
      · refine ⟨_, rfl, _, rfl, p, _, _, _, rfl, rfl, SqL.of hp, a1, q1, _, _, _, rfl, rfl, a2, a3, _, _, rfl, rfl, _, rfl, ?_⟩
        have h0' : 0 ≤ x := of_decide_eq_true h0
        by_cases hx : x < W rl n 1
        case neg =>
          rw [decide_eq_false hx]
          exact iteT ⟨_, rfl, rfl, bad fun y e hy => by cases e; exact hx hy.2⟩
        rw [decide_eq_true hx]
        refine iteF ?_
        have hn0 : ((n : Int) - 0).toNat = n := by omega
        refine ⟨_, rfl, _, rfl, (n : Int), rfl, by decide, by decide, by omega, by omega, for_rangeC (c := -1) (fun i σ H' => ∃ (cs : List Nat) (dp : Nat) (b : Int) (v7 v8 v9 v10 : Option V), σ = [some (.ref r), some (.int (n : Int)), some (.int x), some (.ref p), some (.str (wC cs)), some (.int (dp : Int)), some (.int b), v7, v8, v9, v10] ∧ Same H1 H' ∧ cs.length = i ∧ (∀ c ∈ cs, c < 8) ∧ dp ≤ i + 1 ∧ 0 ≤ b ∧ b < W rl (n - i) dp ∧ ∀ suf : List Nat, suf.length = n - i → good rl suf dp = true → rk rl suf dp = b → good rl (cs ++ suf) 1 = true ∧ rk rl (cs ++ suf) 1 = x)
          ⟨[], 1, x, _, _, _, _, rfl, fun _ _ e => e, rfl, fun c h => (by cases h), Nat.le_refl _, h0', hx, fun suf _ h1 h2 => ⟨h1, h2⟩⟩ ?_ ?_⟩
        · rintro i σ H2 hi ⟨cs, dp, b, v7, v8, v9, v10, rfl, s2, hl, h8, hdp, b0, b1, hsuf⟩
          have hin : i < n := by omega
          have el : 0 + ((((n : Int) - 0).toNat : Nat) : Int) - 1 + (i : Int) * (-1) = ((n - 1 - i : Nat) : Int) := by omega
          rw [el]
          obtain ⟨l, hl1⟩ : ∃ l, n - i = l + 1 := ⟨n - i - 1, by omega⟩
          rw [show n - 1 - i = l by omega]
          rw [hl1] at b1 hsuf
          have hd0 : dp ≠ 0 := fun e => by
            rw [e] at b1
            have : b < 0 := b1
            omega
          have hd1 : dp ≤ l + 1 := Classical.byContradiction fun h => by
            rw [W_far rl (l + 1) dp (by omega)] at b1
            omega
          obtain ⟨C, dx, u1, u2, hr', cl, cc1, cc2⟩ := (L.mono (s1.trans s2)).ex
          refine ⟨fun σ H' => ∃ c b', c < 8 ∧ b' = b - pre rl l dp c ∧ σ = [some (.ref r), some (.int (n : Int)), some (.int x), some (.ref p), some (.str (wC cs)), some (.int (dp : Int)), some (.int b'), some (.int (l : Nat)), some (.str (tokL.getD c "")), some (.str ⟨#[sgC rl c]⟩), some (.int (stC rl c dp : Nat))] ∧ Same H2 H' ∧ pre rl l dp c ≤ b ∧ b < pre rl l dp (c + 1), ?_, ?_⟩
          · refine ⟨_, rfl, r, C, dx, _, _, _, rfl, hr', cl, cc1, rfl, .tup A_TOK, .txt (sgnS rl), tokL.map V.str, sgnsV (sgnS rl), rfl, T.tk_.sq, rfl, fun J S LJ hS => for_zipJ LJ (n := 8) (by cases rl <;> rfl) (fun j σ H' => ∃ (b' : Int) (w8 w9 w10 : Option V), b' = b - pre rl l dp j ∧ σ = [some (.ref r), some (.int (n : Int)), some (.int x), some (.ref p), some (.str (wC cs)), some (.int (dp : Int)), some (.int b'), some (.int (l : Nat)), w8, w9, w10] ∧ Same H2 H' ∧ pre rl l dp j ≤ b) ⟨b, _, _, _, by show b = b - 0; omega, rfl, fun _ _ e => e, b0⟩ (fun j σ H' _ h => ?_) ?_ ?_⟩
            · obtain ⟨_, _, _, _, _, _, s3, _⟩ := h
              exact LJ.mono _ _ s3 hS
            · rintro j x' y' σ H3 hx' hy' ⟨b', w8, w9, w10, eb, rfl, s3, c1⟩ t ht
              have hj : j < 8 := (List.getElem?_eq_some_iff.mp hx').1
              have ex : x' = .str (tokL.getD j "") := by
                rw [List.getElem?_map, show tokL[j]? = some (tokL.getD j "") by rw [List.getD_eq_getElem?_getD, List.getElem?_eq_getElem (show j < tokL.length from hj)]; rfl] at hx'
                exact (Option.some.inj hx').symm
              have ey : y' = .str ⟨#[sgC rl j]⟩ := by
                unfold sgnsV at hy'
                rw [List.getElem?_map, sg_at hj] at hy'
                exact (Option.some.inj hy').symm
              subst ex ey
              have st := same_upd (o := .tup [V.str (tokL.getD j ""), V.str ⟨#[sgC rl j]⟩]) ht
              refine ⟨t, _, rfl, SqT.of upd_same, rfl, _, _, rfl, _, _, rfl, rfl, ?_⟩
              have s4 := s3.trans st
              generalize upd H3 t (.tup [V.str (tokL.getD j ""), V.str ⟨#[sgC rl j]⟩]) = H4 at *
              have S4 := s2.trans s4
              have hst := stC_le rl j dp
              obtain ⟨q2, xs2, e1, e2, e3⟩ := ways_at (K := K) (l := l) (d := stC rl j dp) hp hw (by omega) (by omega)
              have e2' := S4.seq e2
              have hp' := S4 _ _ hp
              refine ⟨_, rfl, _, rfl, _, rfl, r, rl, sgC rl j, dp, rfl, L.mono (s1.trans S4), by omega, ?_⟩
              have nxt : pre rl l dp (j + 1) = pre rl l dp j + W rl l (stC rl j dp) := rfl
              refine ⟨_, rfl, _, rfl, _, rfl, p, _, _, _, rfl, rfl, SqL.of hp', e1, _, rfl, q2, _, _, _, rfl, rfl, e2', e3, _, _, rfl, rfl, _, rfl, ite2 (fun h => ?_) (fun h => ?_)⟩
              · have h' := of_decide_eq_true h
                exact ⟨j, b', hj, eb, rfl, s4, c1, by omega⟩
              · have h' : ¬ b' < W rl l (stC rl j dp) := fun z => h (decide_eq_true z)
                exact ⟨_, rfl, _, rfl, _, rfl, p, _, _, _, rfl, rfl, SqL.of hp', e1, _, rfl, q2, _, _, _, rfl, rfl, e2', e3, _, _, rfl, rfl, _, _, _, _, by omega, rfl, s4, by omega⟩
            · rintro σ H3 ⟨b', w8, w9, w10, eb, rfl, s3, c1⟩
              rw [pre_all rl l hd0] at c1
              omega
          · rintro σ H3 ⟨c, b', hc, eb, rfl, s3, c1, c2⟩
            have nxt : pre rl l dp (c + 1) = pre rl l dp c + W rl l (stC rl c dp) := rfl
            have wl : (wC cs).length ≤ 72 := by rw [wC_len h8]; omega
            have tl : (tokL.getD c "").length = 3 := (by decide : ∀ c < 8, (tokL.getD c "").length = 3) c hc
            have hst := stC_le rl c dp
            refine ⟨_, rfl, _, rfl, _, _, rfl, rfl, szle (by omega), _, rfl, cs ++ [c], stC rl c dp, b', _, _, _, _, by rw [wC_snoc]; rfl, s2.trans s3, by rw [List.length_append, hl]; rfl, fun y hy => ?_, by omega, by omega, by rw [show n - (i + 1) = l by omega]; omega, fun suf h1 h2 h3 => ?_⟩
            · rcases List.mem_append.mp hy with h | h
              · exact h8 y h
              · rw [List.mem_singleton.mp h]; exact hc
            · have := hsuf (c :: suf) (by rw [List.length_cons]; omega) (by show (dp != 0 && good rl suf (stC rl c dp)) = true; rw [h2, Bool.and_true]; exact bne_iff_ne.mpr hd0) (by show pre rl suf.length dp c + rk rl suf (stC rl c dp) = b; rw [h3, h1, show n - (i + 1) = l by omega]; omega)
              rw [List.append_assoc]
              exact this
        · rintro σ H2 ⟨cs, dp, b, v7, v8, v9, v10, rfl, s2, hl, h8, hdp, b0, b1, hsuf⟩
          rw [hn0] at hl
          rw [hn0, Nat.sub_self] at b1 hsuf
          have hd0 : dp = 0 := Classical.byContradiction fun h => by
            rw [W_far rl 0 dp (by omega)] at b1
            omega
          subst hd0
          have b1' : b < 1 := b1
          have hs := hsuf [] rfl rfl (by show (0 : Int) = b; omega)
          rw [List.append_nil] at hs
          exact ⟨_, rfl, q x rfl h0' hx cs hl h8 hs.1 hs.2 H2 (s1.trans s2)⟩
      · exact ⟨_, rfl, iteT ⟨_, rfl, rfl, bad fun y e hy => by cases e; exact h0 (decide_eq_true hy.1)⟩⟩
theorem ok_number_of_program {f : Addr} {fd : FuncData} (F : Fun K "number_of_program" "number_of_program" s_number_of_program f fd) (T : Txt K mg C_Reels C_Stacks A_TOK) (x_NoProgram : XErr P K mg "NoProgram" C_NoProgram ["program"]) (c_Reels_is_program : Met P w K mg base 4 C_Reels "is_program" (spIsPr K C_Reels)) (c_Stacks_is_program : Met P w K mg base 4 C_Stacks "is_program" (spIsPr K C_Stacks)) (c_signs_of : Cal P w K mg base 1 "signs_of" (spSgs K)) (c_ways_to_close : Cal P w K mg base 1 "_ways_to_close" (spWays K)) (c_depth_behind : Cal P w K mg base 1 "depth_behind" (spDep K)) : FnOk P w K mg base (L2N.CX P w) 5 f fd ["language", "program"] (spNumOf K C_Reels C_Stacks C_NoProgram) := by
  refine Fun_okN F sc_number_of_program (fun vs H Q E h => ?_) (fun cdv A outer s H vs Q E hr h => ?_)
  · obtain ⟨r, dx, rl, v, d, rfl, _⟩ := h
    rfl
  · obtain ⟨r, dx, rl, v, d, rfl, lc, hx, hv, hz, hz2, q, qE⟩ := h
    refine ⟨_, (C8.pss_cut (ps_if (pt_not (pt_val (pe_or (pe_mt c_Reels_is_program hr (by omega) (pv 0) (pa_cons (pv 1) pa_nil)) (pe_mt c_Stacks_is_program hr (by omega) (pv 0) (pa_cons (pv 1) pa_nil)))))
      (pss_one (ps_raiseX rfl x_NoProgram hr (L2N.takes_of rfl rfl rfl rfl) (pa_cons (pv 1) pa_nil)))
      pss_nil)
    (pss_cons (ps_set (i := 2) sc_number_of_program.nd rfl (by first | exact Or.inl rfl | exact Or.inr rfl) (pe_c c_signs_of hr (by omega) (by rfl) (pa_cons (pv 0) (pa_cons (pv 1) pa_nil))))
    (pss_cons (ps_set (i := 3) sc_number_of_program.nd rfl (by first | exact Or.inl rfl | exact Or.inr rfl) (pe_c c_ways_to_close hr (by omega) (by rfl) (pa_cons (pv 0) (pa_cons (pe_callB call_len_str (by rfl) T.b_len PySem.boot_len (pa_cons (pv 2) pa_nil)) pa_nil))))
    (pss_cons (ps_set (i := 4) sc_number_of_program.nd rfl (by first | exact Or.inl rfl | exact Or.inr rfl) pe_int)
    (pss_cons (ps_set (i := 5) sc_number_of_program.nd rfl (by first | exact Or.inl rfl | exact Or.inr rfl) pe_int)
    (pss_cons (ps_for (passes_of rfl) rfl (pi_enumS (by rfl) T.b_enumerate (pa_cons (pv 2) pa_nil)) (pg_tup rfl (pgs_cons (pg_name (i := 6) sc_number_of_program.nd rfl (by first | exact Or.inl rfl | exact Or.inr rfl)) (pgs_cons (pg_name (i := 7) sc_number_of_program.nd rfl (by first | exact Or.inl rfl | exact Or.inr rfl)) pgs_nil)))
      (pss_cons (ps_set (i := 8) sc_number_of_program.nd rfl (by first | exact Or.inl rfl | exact Or.inr rfl) (pe_op op_sub (pe_op op_sub (pe_callB call_len_str (by rfl) T.b_len PySem.boot_len (pa_cons (pv 2) pa_nil)) (pv 6)) pe_int))
        (pss_cons (ps_for (passes_of rfl) rfl (pi_str (pe_slice sl_str (pe_con (pv 0) rfl) po_none (po_some (pe_bm PySem.F.plainAttrs_str PySem.F.slot_str_index PySem.F.type_str_index mt_strIndex (pe_con (pv 0) rfl) (pa_cons (pv 7) pa_nil))))) (pg_name (i := 9) sc_number_of_program.nd rfl (by first | exact Or.inl rfl | exact Or.inr rfl))
          (pss_one (ps_set (i := 4) sc_number_of_program.nd rfl (by first | exact Or.inl rfl | exact Or.inr rfl) (pe_op op_add (pv 4) (pe_ix ix_list (pe_ix ix_list (pv 3) (pv 8) (fun _ _ => rfl)) (pe_c c_depth_behind hr (by omega) (by rfl) (pa_cons (pv 0) (pa_cons (pv 9) (pa_cons (pv 5) pa_nil)))) (fun _ _ => rfl))))))
        (pss_one (ps_set (i := 5) sc_number_of_program.nd rfl (by first | exact Or.inl rfl | exact Or.inr rfl) (pe_c c_depth_behind hr (by omega) (by rfl) (pa_cons (pv 0) (pa_cons (pv 7) (pa_cons (pv 5) pa_nil)))))))))
    (pss_one (ps_ret (pv 4))))))))), ?_⟩
    refine ⟨fun σ H1 => σ = [some (.ref r), some v, none, none, none, none, none, none, none, none] ∧ Same H H1 ∧ isPD rl d = true, ?_, ?_⟩
    · cases rl with
      | true =>
        refine .inl ⟨_, rfl, r, dx, _, rfl, hx, rfl, _, rfl, r, dx, true, v, d, rfl, lc, hx, hv, hz, fun H1 s1 => ⟨_, rfl, ?_⟩⟩
        cases hp : isPD true d with
        | false => exact iteT ⟨_, rfl, rfl, fun dd hd => qE hp _ dd (s1.trans (same_upd hd)) upd_same⟩
        | true => exact iteF ⟨rfl, s1, rfl⟩
      | false =>
        refine .inr ⟨_, rfl, r, dx, _, rfl, hx, rfl, _, rfl, r, dx, false, v, d, rfl, lc, hx, hv, hz, fun H1 s1 => ⟨_, rfl, ?_⟩⟩
        cases hp : isPD false d with
        | false => exact iteT ⟨_, rfl, rfl, fun dd hd => qE hp _ dd (s1.trans (same_upd hd)) upd_same⟩
        | true => exact iteF ⟨rfl, s1, rfl⟩
    rintro σ H1 ⟨rfl, s1, hp⟩
    obtain ⟨z, rfl⟩ : ∃ z, d = .str z := by
      cases d <;> first | exact ⟨_, rfl⟩ | cases hp
    cases hv
    have hp' : (isB z && (decide (z.length % 3 = 0) && good rl (cdL z.cps.toList) 1)) = true := hp
    rw [Bool.and_eq_true, Bool.and_eq_true, decide_eq_true_iff] at hp'
    obtain ⟨hb, h3, hg⟩ := hp'
    have hl := hz2 z rfl hb
    have q' := q z rfl hp
    have c8 := cd_lt hb
    have cl : (cdL z.cps.toList).length = z.length / 3 := by rw [cdL_len, show z.cps.toList.length = z.length from Array.length_toList]
    have lg1 := lc.lg (s1 _ _ hx)
    refine ⟨_, rfl, _, rfl, r, rl, z, rfl, lg1, hb, h3, by omega, fun H2 s2 => ?_⟩
    generalize cdL z.cps.toList = cs at *
    have el : (sgW rl cs).length = cs.length := by
      show ((cs.map (sgC rl)).toArray).size = _
      rw [List.size_toArray, List.length_map]
    have et : (sgW rl cs).cps.toList = cs.map (sgC rl) := rfl
    generalize sgW rl cs = S at *
    refine ⟨_, rfl, _, rfl, S, rfl, szle (by omega), r, cs.length, oL rl, cL rl, by rw [el]; rfl, (lg1.mono s2).lang, by omega, fun H3 p rows s3 hp hw => ?_⟩
    have lg3 := (lg1.mono s2).mono s3
    obtain ⟨C, dx', u1, u2, hr', cls, cc1, cc2⟩ := lg3.ex
    have ixc : ∀ c, c < 8 → ix0 (sgnS rl) ⟨#[sgC rl c]⟩ = some c := by cases rl <;> decide +kernel
    have cuc : ∀ c, c < 8 → (cutS (sgnS rl) none (some ((c : Nat) : Int))).cps.toList = (sgnS rl).cps.toList.take c := by cases rl <;> decide +kernel
    refine ⟨_, rfl, S, rfl, for_enumS (fun i σ H' => ∃ (dp : Nat) (b : Int) (v6 v7 v8 v9 : Option V), σ = [some (.ref r), some (.str z), some (.str S), some (.ref p), some (.int b), some (.int (dp : Int)), v6, v7, v8, v9] ∧ Same H3 H' ∧ dp ≤ i + 1 ∧ good rl (cs.drop i) dp = true ∧ b + rk rl (cs.drop i) dp = rk rl cs 1) ⟨1, 0, _, _, _, _, rfl, fun _ _ e => e, Nat.le_refl _, hg, by show 0 + rk rl cs 1 = _; omega⟩ ?_ ?_⟩
    · rintro i ch σ H4 hc ⟨dp, b, v6, v7, v8, v9, rfl, s4, hdp, hgd, hrk⟩ t ht
      have st := same_upd (o := .tup [.int (i : Nat), .str ⟨#[ch]⟩]) ht
      refine ⟨t, _, rfl, SqT.of upd_same, rfl, _, _, rfl, _, _, rfl, rfl, ?_⟩
      have s5 := s4.trans st
      generalize upd H4 t (.tup [.int (i : Nat), .str ⟨#[ch]⟩]) = H5 at *
      have hc' : S.cps.toList[i]? = some ch := by rw [Array.getElem?_toList]; exact hc
      rw [et, List.getElem?_map] at hc'
      obtain ⟨c, hci, rfl⟩ : ∃ c, cs[i]? = some c ∧ sgC rl c = ch := by
        cases e : cs[i]? with
        | none => rw [e] at hc'; cases hc'
        | some c => rw [e] at hc'; exact ⟨c, rfl, Option.some.inj hc'⟩
      have hc8 := c8 c (List.mem_of_getElem? hci)
      have hil : i < cs.length := (List.getElem?_eq_some_iff.mp hci).1
      have edr : cs.drop i = c :: cs.drop (i + 1) := by
        obtain ⟨h1, h2⟩ := List.getElem?_eq_some_iff.mp hci
        rw [List.drop_eq_getElem_cons h1, h2]
      rw [edr] at hgd hrk
      have hgd' : (dp != 0 && good rl (cs.drop (i + 1)) (stC rl c dp)) = true := hgd
      rw [Bool.and_eq_true, bne_iff_ne] at hgd'
      have hld : (cs.drop (i + 1)).length = cs.length - i - 1 := by rw [List.length_drop]; omega
      have hrk' : b + (pre rl (cs.drop (i + 1)).length dp c + rk rl (cs.drop (i + 1)) (stC rl c dp)) = rk rl cs 1 := hrk
      obtain ⟨l, hl1⟩ : ∃ l, cs.length - i - 1 = l := ⟨_, rfl⟩
      rw [hld, hl1] at hrk'
      have elf : ((S.length : Nat) : Int) - (i : Nat) - 1 = (l : Nat) := by omega
      have dep := good_len (rl := rl) (cs.drop (i + 1)) _ hgd'.2 fun x hx => c8 x (List.mem_of_mem_drop hx)
      refine ⟨_, rfl, S, rfl, szle (by omega), _, rfl, _, _, rfl, rfl, _, _, rfl, rfl, ?_⟩
      have hr5 := s5 _ _ hr'
      have zl := cuc c hc8
      refine ⟨_, rfl, r, C, dx', _, _, _, rfl, hr5, cls, cc1, rfl, _, rfl, r, C, dx', _, _, _, rfl, hr5, cls, cc1, rfl, rfl, _, rfl, _, _, c, rfl, rfl, ixc c hc8, _, rfl, _, rfl, szle (by cases rl <;> decide), ?_⟩
      generalize cutS (sgnS rl) none (some ((c : Nat) : Int)) = Z at *
      have zl2 : Z.length = c := by
        rw [show Z.length = Z.cps.toList.length from Array.length_toList.symm, zl, List.length_take]
        have : (sgnS rl).cps.toList.length = 8 := by cases rl <;> rfl
        omega
      refine ⟨Z, rfl, for_J (likeS Z) (fun j σ H' => ∃ (b' : Int) (w9 : Option V), b' = b + pre rl l dp j ∧ σ = [some (.ref r), some (.str z), some (.str S), some (.ref p), some (.int b'), some (.int (dp : Int)), some (.int (i : Nat)), some (.str ⟨#[sgC rl c]⟩), some (.int (((S.length : Nat) : Int) - (i : Nat) - 1)), w9] ∧ Same H5 H') ⟨b, _, by show b = b + 0; omega, rfl, fun _ _ e => e⟩ (fun _ _ _ _ _ => True.intro) ?_ ?_⟩
      · rintro j x σ H6 hx ⟨b', w9, eb, rfl, s6⟩
        obtain ⟨ch, hcj, rfl⟩ := sgn_at hx
        have hcj' : Z.cps.toList[j]? = some ch := by rw [Array.getElem?_toList]; exact hcj
        have hjc : j < c := by
          have : j < Z.length := (Array.getElem?_eq_some_iff.mp hcj).1
          omega
        rw [zl, List.getElem?_take, if_pos hjc, sg_at (by omega)] at hcj'
        cases Option.some.inj hcj'
        have hst := stC_le rl j dp
        obtain ⟨q2, xs2, e1, e2, e3⟩ := ways_at (K := K) (l := l) (d := stC rl j dp) hp hw (by omega) (by omega)
        have S6 := s5.trans s6
        have e2' := S6.seq e2
        have hp' := S6 _ _ hp
        rw [← elf] at e1
        exact ⟨_, rfl, _, rfl, _, rfl, p, _, _, _, rfl, rfl, SqL.of hp', e1, _, rfl, _, rfl, _, rfl, r, rl, sgC rl j, dp, rfl, lg3.mono S6, by omega, q2, _, _, _, rfl, rfl, e2', e3, _, _, rfl, rfl, _, _, by rw [eb]; exact Int.add_assoc _ _ _, rfl, s6⟩
      · rintro σ H6 ⟨b', w9, eb, rfl, s6⟩
        rw [sgnsV_len, zl2] at eb
        have hst := stC_le rl c dp
        exact ⟨_, rfl, _, rfl, _, rfl, r, rl, sgC rl c, dp, rfl, lg3.mono (s5.trans s6), by omega, stC rl c dp, b', _, _, _, _, rfl, s5.trans s6, by omega, hgd'.2, by omega⟩
    · rintro σ H4 ⟨dp, b, v6, v7, v8, v9, rfl, s4, hdp, hgd, hrk⟩
      rw [List.drop_of_length_le (by show cs.length ≤ S.length; omega)] at hrk
      have : b = rk rl cs 1 := by
        have : b + 0 = rk rl cs 1 := hrk
        omega
      rw [this]
      exact ⟨_, rfl, q' _ (s1.trans (s2.trans (s3.trans s4)))⟩
end

section
variable {P : Program} {w : World} {K : PySem.W.Frag} {mg : Str → Option Value} {base : Heap} {C_Reels C_Stacks A_TOK : Addr}
theorem ok_law_word {f : Addr} {fd : FuncData} (F : Fun K "_law_word" "_law_word" s_law_word f fd) (T : Txt K mg C_Reels C_Stacks A_TOK) : FnOk P w K mg base CX0 1 f fd ["value", "length"] spLawWord := by
  refine F.ok sc_law_word (fun vs H Q E h => ?_) (fun cdv A outer s H vs Q E hr h => ?_)
  · obtain ⟨v, l, rfl, _⟩ := h
    rfl
  · obtain ⟨v, l, rfl, hl, q⟩ := h
    refine ⟨_, (pss_one (ps_ret (pe_join pe_str (pe_lc (own := [("k", 2)]) rfl sc_law_word.nd (pi_range1 (by rfl) T.b_range (pa_cons (pv 1) pa_nil)) (blkOk_by (own := [("k", 2)]) (N := ["value", "length", "k"]) (sc := defScope s_law_word) (by decide +kernel)) (fun _ _ _ _ _ => (pg_name (i := 2) sc_law_word.nd rfl (by first | exact Or.inl rfl | exact Or.inr rfl))) (fun _ _ _ _ _ => pts_nil) (fun _ _ _ _ _ => (pe_ix ix_str pe_str (pe_op op_andM (pe_op op_shr (pv 0) (pe_op op_sub (pe_op op_sub (pv 1) pe_int) (pv 2))) pe_int) (fun _ _ => rfl))))))), ?_⟩
    have hb := bitsL_len l v
    refine ⟨⟨_, rfl⟩, _, rfl, l, rfl, by omega, by omega, fun D hD => lc_range (lo := 0) (n := l) (fun i H' => Same H H' ∧ H' D = some (.lst ((((bitsL l v).take i).map chS).map V.str))) ⟨same_upd hD, upd_same⟩ ?_ ?_⟩
    · rintro i H' hi ⟨sm, eD⟩
      refine ⟨rfl, iteT (B := Same H H' ∧ H' D = some (.lst ((((bitsL l v).take (i + 1)).map chS).map V.str))) ?_⟩
      have hg := bitsL_get l v i hi
      have ba := bit_sign l v i hi
      rw [show ((l : Int) - 1 - (i : Int)) = ((l : Int) - 1 - (0 + (i : Int))) by omega] at ba
      refine ⟨_, rfl, _, rfl, _, _, rfl, rfl, _, rfl, _, _, rfl, rfl, _, _, rfl, rfl, by show (0 : Int) ≤ (l : Int) - 1 - (0 + (i : Int)); omega, _, 1, rfl, rfl, ?_⟩
      refine ⟨_, _, _, rfl, rfl, szle (by decide), ba, _, eD, szl (by rw [List.length_map, List.length_map, List.length_take]; omega), same_out sm hD, ?_⟩
      rw [upd_same, List.take_succ, hg, List.map_append, List.map_append]
      rfl
    · rintro H' ⟨sm, eD⟩
      rw [List.take_of_length_le (by omega)] at eD
      have sl : ∀ cs : List Nat, ((cs.map chS).map (·.length)).sum = cs.length := fun cs => by
        induction cs with
        | nil => rfl
        | cons c r ih =>
          rw [List.map_cons, List.map_cons, List.sum_cons, ih, List.length_cons]
          show 1 + r.length = _
          omega
      refine ⟨_, D, (bitsL l v).map chS, rfl, rfl, .inl (SqL.of eD), ?_, ?_⟩
      · rw [sl, List.length_map, hb]
        show l + l * 0 ≤ 16777216
        omega
      · rw [join_signs]
        exact q H' sm
end

/-! ### the law's own counts and ranks -/
def clT (rl : Bool) : List V := [.int 0, .int (if rl = true then 7 else 0)]
def lsI (rl : Bool) (c : Nat) : Int := if c = 3 then 1 else if clC rl c = true then -1 else 0
theorem ls_st {rl : Bool} {c d : Nat} (h : c < 8) (hd : d ≠ 0) : (d : Int) + lsI rl c = (stC rl c d : Nat) := by
  rw [stC_eq h]
  unfold lsI
  by_cases x : c = 3
  · rw [if_pos x, if_pos x]; omega
  · rw [if_neg x, if_neg x]
    by_cases y : clC rl c = true
    · rw [if_pos y, if_pos y]; omega
    · rw [if_neg y, if_neg y]; omega
structure WaysP (H : Hp) (p : Addr) (rl : Bool) : Prop where
  ex : ∃ rows : List V, H p = some (.lst rows) ∧ ∀ i, i ≤ 24 → ∃ q, rows[i]? = some (.ref q) ∧ H q = some (.lst ((rw (oL rl) (cL rl) 25 i).map V.int))
theorem WaysP.mono {H H' : Hp} {p : Addr} {rl : Bool} (h : WaysP H p rl) (s : Same H H') : WaysP H' p rl := by
  obtain ⟨rows, h1, h2⟩ := h.ex
  refine ⟨rows, s _ _ h1, fun i hi => ?_⟩
  obtain ⟨q, e1, e2⟩ := h2 i hi
  exact ⟨q, e1, s _ _ e2⟩
theorem WaysP.at {K : PySem.W.Frag} {H : Hp} {p : Addr} {rl : Bool} {l d : Nat} (h : WaysP H p rl) (hl : l ≤ 24) (hd : d ≤ 27) : ∃ rows q xs, H p = some (.lst rows) ∧ atI rows (l : Int) = some (.ref q) ∧ SqL K H q xs ∧ atI xs (d : Int) = some (.int (W rl l d)) := by
  obtain ⟨rows, h1, h2⟩ := h.ex
  obtain ⟨q, h3, h4⟩ := h2 l hl
  refine ⟨rows, q, _, h1, atI_nat h3, SqL.of h4, atI_nat ?_⟩
  rw [List.getElem?_map, List.getElem?_eq_getElem (by rw [rw_len]; omega), ← rw_W rl 25 l d (by omega) hd, List.getD_eq_getElem?_getD, List.getElem?_eq_getElem (by rw [rw_len]; omega)]
  rfl
theorem atI_m1 {xs : List V} {v : V} (h0 : 0 < xs.length) (h : xs[xs.length - 1]? = some v) : atI xs (-1) = some v := by
  unfold atI
  rw [ixN_m1 h0]
  exact h
def spLStep (K : PySem.W.Frag) : Sp := fun vs H Q _ => ∃ (c : Nat) (t : Addr) (rl : Bool), vs = [.int (c : Int), .ref t] ∧ c < 8 ∧ SqT K H t (clT rl) ∧ Q (.int (lsI rl c)) H
def spLWays (K : PySem.W.Frag) : Sp := fun vs H Q _ => ∃ (t : Addr) (rl : Bool), vs = [.ref t] ∧ SqT K H t (clT rl) ∧ ∀ H' p, Same H H' → WaysP (dif H H') p rl → Q (.ref p) H'
section
variable {P : Program} {w : World} {K : PySem.W.Frag} {mg : Str → Option Value} {base : Heap} {C_Reels C_Stacks A_TOK : Addr} {C_NoProgram C_InvalidNumber : Addr}
theorem ok_law_step {f : Addr} {fd : FuncData} (F : Fun K "_law_step" "_law_step" s_law_step f fd) (T : Txt K mg C_Reels C_Stacks A_TOK) : FnOk P w K mg base CX0 1 f fd ["code", "closers"] (spLStep K) := by
  refine F.ok sc_law_step (fun vs H Q E h => ?_) (fun cdv A outer s H vs Q E hr h => ?_)
  · obtain ⟨c, t, rl, rfl, _⟩ := h
    rfl
  · obtain ⟨c, t, rl, rfl, hc, hT, q⟩ := h
    refine ⟨_, (pss_cons (ps_if (pt_cmpR op_eq (pv 0) pe_int (nomark _))
      (pss_one (ps_ret pe_int))
      pss_nil)
    (pss_cons (ps_if (pt_cmpR op_in_seq (pv 0) (pv 1) (by rfl))
      (pss_one (ps_ret (pe_un un_neg pe_int)))
      pss_nil)
    (pss_one (ps_ret pe_int)))), ?_⟩
    have h3 : decide (V.int (c : Int) = V.int 3) = decide (c = 3) := by
      rw [decide_eq_decide]
      exact ⟨fun e => by have := V.int.inj e; omega, fun e => congrArg V.int (by omega)⟩
    unfold lsI at q
    refine ⟨_, rfl, rfl, _, congrArg V.bl h3, ?_⟩
    by_cases x : c = 3
    · rw [decide_eq_true x]
      rw [if_pos x] at q
      exact iteT q
    · rw [decide_eq_false x]
      rw [if_neg x] at q
      have hin : inV (V.int (c : Int)) (clT rl) = clC rl c := (by cases rl <;> decide : ∀ c < 8, inV (V.int ((c : Nat) : Int)) (clT rl) = clC rl c) c hc
      refine iteF ⟨_, rfl, _, rfl, t, _, rfl, .inr hT, rfl, rfl, _, congrArg V.bl hin, ?_⟩
      cases hcl : clC rl c with
      | true =>
        rw [if_pos hcl] at q
        exact iteT ⟨_, rfl, q⟩
      | false =>
        rw [if_neg (by rw [hcl]; decide)] at q
        exact iteF q
theorem ok_law_ways {f : Addr} {fd : FuncData} (F : Fun K "_law_ways" "_law_ways" s_law_ways f fd) (T : Txt K mg C_Reels C_Stacks A_TOK) : FnOk P w K mg base CX0 1 f fd ["closers"] (spLWays K) := by
  refine F.ok sc_law_ways (fun vs H Q E h => ?_) (fun cdv A outer s H vs Q E hr h => ?_)
  · obtain ⟨t, rl, rfl, _⟩ := h
    rfl
  · obtain ⟨t, rl, rfl, hT, q⟩ := h
    refine ⟨_, (C8.pss_cut (ps_set (i := 1) sc_law_ways.nd rfl (by first | exact Or.inl rfl | exact Or.inr rfl) (pe_ifExp (pt_cmpR op_eq (pe_ix ix_tup (pv 0) pe_int (fun _ _ => rfl)) pe_int (nomark _)) pe_int pe_int))
    (pss_cons (ps_set (i := 2) sc_law_ways.nd rfl (by first | exact Or.inl rfl | exact Or.inr rfl) (pe_lst (pa_cons (pe_op op_cat (pe_lst (pa_cons pe_int pa_nil)) (pe_lc (own := [("k", 3)]) rfl sc_law_ways.nd (pi_range1 (by rfl) T.b_range (pa_cons pe_int pa_nil)) (blkOk_by (own := [("k", 3)]) (N := ["closers", "many", "ways", "k", "left", "ahead", "row", "deep"]) (sc := defScope s_law_ways) (by decide +kernel)) (fun _ _ _ _ _ => (pg_name (i := 3) sc_law_ways.nd rfl (by first | exact Or.inl rfl | exact Or.inr rfl))) (fun _ _ _ _ _ => pts_nil) (fun _ _ _ _ _ => pe_int))) pa_nil)))
    (pss_cons (ps_for PassesOwn.never rfl (pi_range1 (by rfl) T.b_range (pa_cons pe_int pa_nil)) (pg_name (i := 4) sc_law_ways.nd rfl (by first | exact Or.inl rfl | exact Or.inr rfl))
      (pss_cons (ps_set (i := 5) sc_law_ways.nd rfl (by first | exact Or.inl rfl | exact Or.inr rfl) (pe_ix ix_list (pv 2) (pe_un un_neg pe_int) (fun _ _ => rfl)))
        (pss_cons (ps_set (i := 6) sc_law_ways.nd rfl (by first | exact Or.inl rfl | exact Or.inr rfl) (pe_lst (pa_cons pe_int pa_nil)))
        (pss_cons (ps_for PassesOwn.never rfl (pi_range2 (by rfl) T.b_range (pa_cons pe_int (pa_cons pe_int pa_nil))) (pg_name (i := 7) sc_law_ways.nd rfl (by first | exact Or.inl rfl | exact Or.inr rfl))
          (pss_one (ps_expr (pe_bm PySem.F.plainAttrs_list PySem.F.slot_list_append PySem.F.type_list_append mt_append (pv 6) (pa_cons (pe_op op_add (pe_op op_add (pe_op op_mul (pe_op op_sub pe_int (pv 1)) (pe_ix ix_list (pv 5) (pv 7) (fun _ _ => rfl))) (pe_ix ix_list (pv 5) (pe_op op_add (pv 7) pe_int) (fun _ _ => rfl))) (pe_op op_mul (pv 1) (pe_ix ix_list (pv 5) (pe_op op_sub (pv 7) pe_int) (fun _ _ => rfl)))) pa_nil)))))
        (pss_cons (ps_expr (pe_bm PySem.F.plainAttrs_list PySem.F.slot_list_append PySem.F.type_list_append mt_append (pv 6) (pa_cons pe_int pa_nil)))
        (pss_one (ps_expr (pe_bm PySem.F.plainAttrs_list PySem.F.slot_list_append PySem.F.type_list_append mt_append (pv 2) (pa_cons (pv 6) pa_nil)))))))))
    (pss_one (ps_ret (pv 2)))))), ?_⟩
    refine ⟨fun σ H' => σ = [some (.ref t), some (.int (cL rl)), none, none, none, none, none, none] ∧ H' = H, ?_, ?_⟩
    · cases rl with
      | true => exact ⟨_, rfl, t, _, _, _, rfl, rfl, hT, atI_nat (j := 1) rfl, rfl, _, rfl, iteF ⟨rfl, rfl⟩⟩
      | false => exact ⟨_, rfl, t, _, _, _, rfl, rfl, hT, atI_nat (j := 1) rfl, rfl, _, rfl, iteT ⟨rfl, rfl⟩⟩
    rintro σ H0 ⟨rfl, rfl⟩
    have R : 1 ≤ cL rl ∧ cL rl ≤ 2 := by cases rl <;> decide
    obtain ⟨m, em⟩ : ∃ m, cL rl = m := ⟨_, rfl⟩
    have eo : oL rl = 7 - m := by rw [← em]; cases rl <;> rfl
    rw [em] at R ⊢
    refine ⟨szle (by show 1 ≤ 16777216; decide), fun a1 h1 => ?_⟩
    refine ⟨27, rfl, by decide, by decide, fun D hD => lc_range (lo := 0) (n := 27) (fun i H' => Same (upd H0 a1 (.lst [.int 1])) H' ∧ H' D = some (.lst (List.replicate i (V.int 0)))) ⟨same_upd hD, upd_same⟩ ?_ ?_⟩
    · rintro i H' hi ⟨sm, eD⟩
      exact ⟨rfl, iteT (B := Same (upd H0 a1 (.lst [.int 1])) H' ∧ H' D = some (.lst (List.replicate (i + 1) (V.int 0)))) ⟨_, eD, szl (by simp; omega), same_out sm hD, by rw [upd_same, List.replicate_succ']⟩⟩
    rintro H1 ⟨sm1, eD⟩
    have e1 := sm1 _ _ (upd_same (H := H0) (a := a1) (o := .lst [.int 1]))
    refine ⟨a1, D, _, _, rfl, rfl, e1, eD, szle (by simp), fun a2 h2 => ?_⟩
    have e2 : [V.int 1] ++ List.replicate 27 (V.int 0) = (rw (7 - m) m 25 0).map V.int := rfl
    rw [e2]
    refine ⟨szle (by show 1 ≤ 16777216; decide), fun a ha => ?_⟩
    have hne : a2 ≠ a := ne_of_none upd_same ha
    have s4 : Same H0 (upd (upd H1 a2 (.lst ((rw (7 - m) m 25 0).map V.int))) a (.lst [V.ref a2])) := (((same_upd h1).trans sm1).trans (same_upd h2)).trans (same_upd ha)
    have hHa : H0 a = none := (((same_upd h1).trans sm1).trans (same_upd h2)).free ha
    refine ⟨24, rfl, by decide, by decide, for_range (n := 24) (fun i σ H' => ∃ v3 v4 v5 v6 v7, σ = [some (.ref t), some (.int m), some (.ref a), v3, v4, v5, v6, v7] ∧ Same H0 H' ∧
      ∃ ps : List Addr, ps.length = i + 1 ∧ H' a = some (.lst (ps.map V.ref)) ∧ ∀ (j : Nat) (q : Addr), ps[j]? = some q → q ≠ a ∧ H0 q = none ∧ H' q = some (.lst ((rw (7 - m) m 25 j).map V.int)))
      ⟨_, _, _, _, _, rfl, s4, [a2], rfl, upd_same, ?_⟩ ?_ ?_⟩
    · intro j q hq
      cases j with
      | zero =>
        cases Option.some.inj hq
        exact ⟨hne, ((same_upd h1).trans sm1).free h2, by rw [upd_ne hne, upd_same]⟩
      | succ j => simp at hq
    · rintro i σ H' hi ⟨v3, v4, v5, v6, v7, rfl, sm, ps, hl, ea, hps⟩
      obtain ⟨pi, hpi⟩ : ∃ pi, ps[i]? = some pi := ⟨_, List.getElem?_eq_getElem (by omega)⟩
      obtain ⟨hia, _, hi'⟩ := hps i pi hpi
      have ai : atI (ps.map V.ref) (-1) = some (.ref pi) := atI_m1 (by rw [List.length_map, hl]; omega) (by rw [List.length_map, hl, List.getElem?_map, show i + 1 - 1 = i by omega, hpi]; rfl)
      generalize hF : rw (7 - m) m 25 i = fw at hi'
      have fl : fw.length = 28 := by rw [← hF]; exact rw_len _ _ _ _
      refine ⟨_, rfl, _, rfl, a, _, _, _, rfl, rfl, SqL.of ea, ai, ?_⟩
      refine ⟨szle (by show 1 ≤ 16777216; decide), fun b hb => ?_⟩
      have hba : a ≠ b := ne_of_none ea hb
      have hbp : pi ≠ b := ne_of_none hi' hb
      have hbH : H0 b = none := sm.free hb
      refine ⟨1, 27, rfl, ⟨by decide, by decide, by decide, by decide⟩, for_range (lo := 1) (n := 26) (fun j σ H2 => ∃ v7, σ = [some (.ref t), some (.int m), some (.ref a), v3, some (.int (0 + (i : Int))), some (.ref pi), some (.ref b), v7] ∧ Same H' H2 ∧
        H2 b = some (.lst ((0 :: (List.range j).map (stp (7 - m) m fw)).map V.int))) ⟨_, rfl, same_upd hb, upd_same⟩ ?_ ?_⟩
      · rintro j σ H2 hj ⟨w7, rfl, sm2, eb⟩
        have e1 : H2 pi = some (.lst (fw.map V.int)) := sm2 _ _ hi'
        have g : ∀ k : Nat, k < 28 → (fw.map V.int)[k]? = some (.int (fw.getD k 0)) := fun k hk => by
          rw [List.getElem?_map, List.getElem?_eq_getElem (by omega), List.getD_eq_getElem?_getD, List.getElem?_eq_getElem (by omega)]
          rfl
        have g1 : atI (fw.map V.int) (1 + (j : Int)) = some (.int (fw.getD (j + 1) 0)) := at_of (j := j + 1) (by omega) (g _ (by omega))
        have g2 : atI (fw.map V.int) (1 + (j : Int) + 1) = some (.int (fw.getD (j + 2) 0)) := at_of (j := j + 2) (by omega) (g _ (by omega))
        have g0 : atI (fw.map V.int) (1 + (j : Int) - 1) = some (.int (fw.getD j 0)) := at_of (j := j) (by omega) (g _ (by omega))
        refine ⟨_, rfl, .inl ⟨rfl, _, SqL.of eb⟩, _, rfl, _, _, rfl, rfl, _, rfl, _, rfl, pi, _, _, _, rfl, rfl, SqL.of e1, g1, _, _, rfl, rfl, .inl ⟨by omega, by omega⟩, _, rfl, _, rfl, _, _, rfl, rfl, pi, _, _, _, rfl, rfl, SqL.of e1, g2, _, _, rfl, rfl, ?_⟩
        refine ⟨_, rfl, _, rfl, _, rfl, _, _, rfl, rfl, pi, _, _, _, rfl, rfl, SqL.of e1, g0, _, _, rfl, rfl, .inl ⟨by omega, by omega⟩, _, _, rfl, rfl, b, _, _, rfl, rfl, eb, szl (by simp; omega), ?_⟩
        refine ⟨_, rfl, same_out sm2 hb, ?_⟩
        rw [upd_same, List.range_succ, List.map_append, List.map_cons, List.map_cons, List.map_append]
        rfl
      · rintro σ H2 ⟨w7, rfl, sm2, eb⟩
        have ea2 := sm2 _ _ ea
        refine ⟨_, rfl, .inl ⟨rfl, _, SqL.of eb⟩, b, _, _, rfl, rfl, eb, szl (by simp), ?_⟩
        have ea3 : ∀ o, upd H2 b o a = some (.lst (ps.map V.ref)) := fun o => by rw [upd_ne hba]; exact ea2
        refine ⟨_, rfl, .inl ⟨rfl, _, SqL.of (ea3 _)⟩, _, rfl, a, _, _, rfl, rfl, ea3 _, szl (by simp; omega), ?_⟩
        refine ⟨_, _, _, _, _, rfl, same_out (same_out (sm.trans sm2) hbH) hHa, ps ++ [b], by rw [List.length_append, hl]; rfl, by rw [upd_same, List.map_append]; rfl, ?_⟩
        intro j q' hq
        by_cases hj : j < ps.length
        · rw [List.getElem?_append_left hj] at hq
          obtain ⟨x1, x3, x2⟩ := hps j q' hq
          refine ⟨x1, x3, ?_⟩
          have hqb : q' ≠ b := ne_of_none x2 hb
          rw [upd_ne x1, upd_ne hqb]
          exact sm2 _ _ x2
        · have ej : j = i + 1 := by
            have := (List.getElem?_eq_some_iff.mp hq).1
            rw [List.length_append] at this
            simp only [List.length_cons, List.length_nil] at this
            omega
          subst ej
          rw [List.getElem?_append_right (by omega), hl, Nat.sub_self] at hq
          cases Option.some.inj hq
          refine ⟨hba.symm, hbH, ?_⟩
          rw [upd_ne hba.symm, upd_same]
          show some (HO.lst _) = some (HO.lst ((nxt _ _ 25 (rw _ _ 25 i)).map V.int))
          rw [hF, nxt, List.map_append]
          rfl
    · rintro σ H' ⟨v3, v4, v5, v6, v7, rfl, sm, ps, hl, ea, hps⟩
      refine ⟨_, rfl, q H' a sm ⟨_, dif_at hHa ea, fun i hi => ?_⟩⟩
      obtain ⟨pi, hpi⟩ : ∃ pi, ps[i]? = some pi := ⟨_, List.getElem?_eq_getElem (by omega)⟩
      rw [eo, em]
      exact ⟨pi, by rw [List.getElem?_map, hpi]; rfl, dif_at (hps i pi hpi).2.1 (hps i pi hpi).2.2⟩
end

/-! ### the law's ranks -/
theorem inV_str (z : Str) : ∀ l : List Str, inV (V.str z) (l.map V.str) = decide (z ∈ l)
  | [] => rfl
  | y :: l => by
    show (eqV (V.str y) (V.str z) || inV (V.str z) (l.map V.str)) = _
    rw [inV_str z l, Bool.eq_iff_iff, Bool.or_eq_true, decide_eq_true_iff, decide_eq_true_iff, List.mem_cons]
    refine or_congr ⟨fun h => ?_, fun h => ?_⟩ Iff.rfl
    · exact (eq_of_beq (show (y == z) = true from h)).symm
    · rw [h]
      show (y == y) = true
      exact beq_self_eq_true y
theorem cd_at {z : Str} {k : Nat} (hb : isB z = true) (h : 3 * k + 2 < z.length) : ∃ a b c x y w, x < 2 ∧ y < 2 ∧ w < 2 ∧ z.cps.toList[3 * k]? = some a ∧ z.cps.toList[3 * k + 1]? = some b ∧ z.cps.toList[3 * k + 2]? = some c ∧ PySem.intText? (⟨#[a]⟩ : Str) = some ((x : Nat) : Int) ∧ PySem.intText? (⟨#[b]⟩ : Str) = some ((y : Nat) : Int) ∧ PySem.intText? (⟨#[c]⟩ : Str) = some ((w : Nat) : Int) ∧ (cdL z.cps.toList)[k]? = some (4 * x + 2 * y + w) := by
  have hl : z.cps.toList.length = z.length := Array.length_toList
  obtain ⟨a, b, c, e1, e2, ha, hb', hc⟩ := cdL_get (cs := z.cps.toList) (k := k) (by omega)
  have g : ∀ j, j < 3 → z.cps.toList[3 * k + j]? = ([a, b, c] : List Nat)[j]? := fun j hj => by
    rw [← e1, List.getElem?_take, if_pos hj, List.getElem?_drop]
  have bit : ∀ x, x ∈ z.cps.toList → ∃ n, n < 2 ∧ x = 48 + n ∧ PySem.intText? (⟨#[x]⟩ : Str) = some ((n : Nat) : Int) := fun x hx => by
    rcases isB_mem hb hx with e | e <;> subst e
    · exact ⟨0, by decide, rfl, int_zero⟩
    · exact ⟨1, by decide, rfl, int_one⟩
  obtain ⟨x, x2, ex, ix⟩ := bit a ha
  obtain ⟨y, y2, ey, iy⟩ := bit b hb'
  obtain ⟨w, w2, ew, iw⟩ := bit c hc
  refine ⟨a, b, c, x, y, w, x2, y2, w2, g 0 (by decide), g 1 (by decide), g 2 (by decide), ix, iy, iw, ?_⟩
  rw [e2]
  congr 1
  omega
theorem word3 : ∀ c, c < 8 → wordS 3 c = tokL.getD c "" := by decide
def spRanked (K : PySem.W.Frag) : Sp := fun vs H Q _ => ∃ (p t : Addr) (rl : Bool) (n : Nat) (x : Int), vs = [.ref p, .ref t, .int (n : Int), .int x] ∧ WaysP H p rl ∧ SqT K H t (clT rl) ∧ n ≤ 24 ∧ 0 ≤ x ∧ x < W rl n 1 ∧
  ∀ H' cs, Same H H' → cs.length = n → (∀ c ∈ cs, c < 8) → good rl cs 1 = true → rk rl cs 1 = x → Q (.str (wC cs)) H'
def spRank (K : PySem.W.Frag) : Sp := fun vs H Q _ => ∃ (p t : Addr) (rl : Bool) (v : V) (d : PyData), vs = [.ref p, .ref t, v] ∧ WaysP H p rl ∧ SqT K H t (clT rl) ∧ Dp K H v d ∧ (∀ z, d = .str z → z.length ≤ 3000) ∧ (∀ z, d = .str z → isB z = true → z.length ≤ 72) ∧
  (∀ z, d = .str z → isP rl z = true → ∀ H', Same H H' → Q (.int (rk rl (cdL z.cps.toList) 1)) H') ∧ (isPD rl d = false → ∀ H', Same H H' → Q .non H')
section
variable {P : Program} {w : World} {K : PySem.W.Frag} {mg : Str → Option Value} {base : Heap} {C_Reels C_Stacks A_TOK : Addr} {C_NoProgram C_InvalidNumber : Addr}
theorem ok_law_ranked {f : Addr} {fd : FuncData} (F : Fun K "_law_ranked" "_law_ranked" s_law_ranked f fd) (T : Txt K mg C_Reels C_Stacks A_TOK) (c_law_step : Cal P w K mg base 1 "_law_step" (spLStep K)) (c_law_word : Cal P w K mg base 1 "_law_word" spLawWord) : FnOk P w K mg base CX0 2 f fd ["ways", "closers", "tokens", "number"] (spRanked K) := by
  refine F.ok sc_law_ranked (fun vs H Q E h => ?_) (fun cdv A outer s H vs Q E hr h => ?_)
  · obtain ⟨p, t, rl, n, x, rfl, _⟩ := h
    rfl
  · obtain ⟨p, t, rl, n, x, rfl, hW, hT, hn, h0, hx, q⟩ := h
    refine ⟨_, (pss_cons (ps_set (i := 4) sc_law_ranked.nd rfl (by first | exact Or.inl rfl | exact Or.inr rfl) pe_str)
    (pss_cons (ps_set (i := 5) sc_law_ranked.nd rfl (by first | exact Or.inl rfl | exact Or.inr rfl) pe_int)
    (pss_cons (ps_for PassesOwn.never rfl (pi_range1 (by rfl) T.b_range (pa_cons (pv 2) pa_nil)) (pg_name (i := 6) sc_law_ranked.nd rfl (by first | exact Or.inl rfl | exact Or.inr rfl))
      (pss_one (ps_for PassesOwn.never rfl (pi_range1 (by rfl) T.b_range (pa_cons pe_int pa_nil)) (pg_name (i := 7) sc_law_ranked.nd rfl (by first | exact Or.inl rfl | exact Or.inr rfl))
          (pss_cons (ps_set (i := 8) sc_law_ranked.nd rfl (by first | exact Or.inl rfl | exact Or.inr rfl) (pe_op op_add (pv 5) (pe_c c_law_step hr (by omega) (by rfl) (pa_cons (pv 7) (pa_cons (pv 1) pa_nil)))))
            (pss_cons (ps_set (i := 9) sc_law_ranked.nd rfl (by first | exact Or.inl rfl | exact Or.inr rfl) (pe_ix ix_list (pe_ix ix_list (pv 0) (pe_op op_sub (pe_op op_sub (pv 2) pe_int) (pv 6)) (fun _ _ => rfl)) (pv 8) (fun _ _ => rfl)))
            (pss_cons (ps_if (pt_cmpR op_lt (pv 3) (pv 9) (nomark _))
              (pss_cons (ps_set (i := 4) sc_law_ranked.nd rfl (by first | exact Or.inl rfl | exact Or.inr rfl) (pe_op op_add_str (pv 4) (pe_c c_law_word hr (by omega) (by rfl) (pa_cons (pv 7) (pa_cons pe_int pa_nil)))))
                (pss_cons (ps_set (i := 5) sc_law_ranked.nd rfl (by first | exact Or.inl rfl | exact Or.inr rfl) (pv 8))
                (pss_one ps_break)))
              pss_nil)
            (pss_one (ps_set (i := 3) sc_law_ranked.nd rfl (by first | exact Or.inl rfl | exact Or.inr rfl) (pe_op op_sub (pv 3) (pv 9))))))))))
    (pss_one (ps_ret (pv 4)))))), ?_⟩
    refine ⟨_, rfl, n, rfl, by omega, by omega, for_range (n := n) (fun i σ H' => ∃ (cs : List Nat) (dp : Nat) (b : Int) (v6 v7 v8 v9 : Option V), σ = [some (.ref p), some (.ref t), some (.int (n : Int)), some (.int b), some (.str (wC cs)), some (.int (dp : Int)), v6, v7, v8, v9] ∧ Same H H' ∧ cs.length = i ∧ (∀ c ∈ cs, c < 8) ∧ dp ≤ i + 1 ∧ 0 ≤ b ∧ b < W rl (n - i) dp ∧ ∀ suf : List Nat, suf.length = n - i → good rl suf dp = true → rk rl suf dp = b → good rl (cs ++ suf) 1 = true ∧ rk rl (cs ++ suf) 1 = x)
      ⟨[], 1, x, _, _, _, _, rfl, fun _ _ e => e, rfl, fun c h => (by cases h), Nat.le_refl _, h0, hx, fun suf _ h1 h2 => ⟨h1, h2⟩⟩ ?_ ?_⟩
    · rintro i σ H2 hi ⟨cs, dp, b, v6, v7, v8, v9, rfl, s2, hl, h8, hdp, b0, b1, hsuf⟩
      obtain ⟨l, hl1⟩ : ∃ l, n - i = l + 1 := ⟨n - i - 1, by omega⟩
      rw [hl1] at b1 hsuf
      have hd0 : dp ≠ 0 := fun e => by
        rw [e] at b1
        have : b < 0 := b1
        omega
      have wl : (wC cs).length ≤ 72 := by rw [wC_len h8]; omega
      have tl : ∀ c, c < 8 → (tokL.getD c "").length = 3 := by decide
      refine ⟨8, rfl, by decide, by decide, for_range (n := 8) (fun j σ H' => ∃ (b' : Int) (w7 w8 w9 : Option V), b' = b - pre rl l dp j ∧ σ = [some (.ref p), some (.ref t), some (.int (n : Int)), some (.int b'), some (.str (wC cs)), some (.int (dp : Int)), some (.int (0 + (i : Int))), w7, w8, w9] ∧ Same H2 H' ∧ pre rl l dp j ≤ b) ⟨b, _, _, _, by show b = b - 0; omega, rfl, fun _ _ e => e, b0⟩ ?_ ?_⟩
      · rintro j σ H3 hj ⟨b', w7, w8, w9, eb, rfl, s3, c1⟩
        have S3 := s2.trans s3
        have hst := stC_le rl j dp
        have hls := ls_st (rl := rl) hj hd0
        obtain ⟨rows, q2, xs2, e0, e1, e2, e3⟩ := (hW.mono S3).at (K := K) (l := l) (d := stC rl j dp) (by omega) (by omega)
        rw [← hls] at e3
        rw [show ((l : Nat) : Int) = (n : Int) - 1 - (0 + (i : Int)) by omega] at e1
        have nxt : pre rl l dp (j + 1) = pre rl l dp j + W rl l (stC rl j dp) := rfl
        refine ⟨_, rfl, _, rfl, _, rfl, j, t, rl, congrArg (fun z => [V.int z, V.ref t]) (Int.zero_add _), hj, sameT S3 hT, _, _, rfl, rfl, ?_⟩
        obtain ⟨lf, hlf⟩ : ∃ z, ((dp : Nat) : Int) + lsI rl j = z := ⟨_, rfl⟩
        rw [hlf] at e3 hls
        refine ⟨_, rfl, _, rfl, _, _, rfl, rfl, _, rfl, _, _, rfl, rfl, p, _, _, _, rfl, rfl, SqL.of e0, e1, _, rfl, q2, _, _, _, rfl, rfl, e2, by rw [hlf]; exact e3, ?_⟩
        refine ⟨_, rfl, _, rfl, _, _, rfl, rfl, _, rfl, ite2 (fun h => ?_) (fun h => ?_)⟩
        · have h' := of_decide_eq_true h
          refine ⟨_, rfl, _, rfl, j, 3, congrArg (fun z => [V.int z, V.int 3]) (Int.zero_add _), by decide, fun H4 s4 => ⟨_, _, rfl, rfl, szle (by rw [wordS_len]; omega), _, rfl, ?_⟩⟩
          refine ⟨cs ++ [j], stC rl j dp, b', _, _, _, _, by rw [wC_snoc, ← word3 _ hj, ← ls_st hj hd0]; rfl, S3.trans s4, by rw [List.length_append, hl]; rfl, fun y hy => ?_, by omega, by omega, by rw [show n - (i + 1) = l by omega]; omega, fun suf h1 h2 h3 => ?_⟩
          · rcases List.mem_append.mp hy with h | h
            · exact h8 y h
            · rw [List.mem_singleton.mp h]; exact hj
          · have := hsuf (j :: suf) (by rw [List.length_cons]; omega) (by show (dp != 0 && good rl suf (stC rl j dp)) = true; rw [h2, Bool.and_true]; exact bne_iff_ne.mpr hd0) (by show pre rl suf.length dp j + rk rl suf (stC rl j dp) = b; rw [h3, h1, show n - (i + 1) = l by omega]; omega)
            rw [List.append_assoc]
            exact this
        · have h' : ¬ b' < W rl l (stC rl j dp) := fun z => h (decide_eq_true z)
          exact ⟨_, rfl, _, rfl, _, _, rfl, rfl, _, _, _, _, by omega, rfl, s3, by omega⟩
      · rintro σ H3 ⟨b', w7, w8, w9, eb, rfl, s3, c1⟩
        rw [pre_all rl l hd0] at c1
        omega
    · rintro σ H2 ⟨cs, dp, b, v6, v7, v8, v9, rfl, s2, hl, h8, hdp, b0, b1, hsuf⟩
      rw [Nat.sub_self] at b1 hsuf
      have hd0 : dp = 0 := Classical.byContradiction fun h => by
        rw [W_far rl 0 dp (by omega)] at b1
        omega
      subst hd0
      have b1' : b < 1 := b1
      have hs := hsuf [] rfl rfl (by show (0 : Int) = b; omega)
      rw [List.append_nil] at hs
      exact ⟨_, rfl, q H2 cs s2 hl h8 hs.1 hs.2⟩
theorem ok_law_rank {f : Addr} {fd : FuncData} (F : Fun K "_law_rank" "_law_rank" s_law_rank f fd) (T : Txt K mg C_Reels C_Stacks A_TOK) (c_law_step : Cal P w K mg base 1 "_law_step" (spLStep K)) : FnOk P w K mg base CX0 2 f fd ["ways", "closers", "value"] (spRank K) := by
  refine F.ok sc_law_rank (fun vs H Q E h => ?_) (fun cdv A outer s H vs Q E hr h => ?_)
  · obtain ⟨p, t, rl, v, d, rfl, _⟩ := h
    rfl
  · obtain ⟨p, t, rl, v, d, rfl, hW, hT, hv, hz, hz2, q, qN⟩ := h
    refine ⟨_, (pss_cons (ps_if (PW.pt (pw_or (pt_not (pt_val (pe_callB call_isi (by rfl) T.b_isinstance (by decide +kernel) (pa_cons (pv 2) (pa_cons (pe_bltn (v := .ty "str") (by rfl) T.b_str (by decide +kernel) rfl) pa_nil))))) (pw_or (pt_cmpR op_eq (pe_callB call_len_str (by rfl) T.b_len PySem.boot_len (pa_cons (pv 2) pa_nil)) pe_int (nomark _)) (pw_or1 (pt_cmpR op_gt (pe_op op_mod (pe_callTy call_int1 (by rfl) T.b_int (by decide +kernel) (pa_cons (pe_callB call_len_str (by rfl) T.b_len PySem.boot_len (pa_cons (pv 2) pa_nil)) pa_nil)) pe_int) pe_int (nomark _))))))
      (pss_one (ps_ret pe_non))
      pss_nil)
    (pss_cons (ps_for PassesOwn.never rfl (pi_str (pv 2)) (pg_name (i := 3) sc_law_rank.nd rfl (by first | exact Or.inl rfl | exact Or.inr rfl))
      (pss_one (ps_if (pt_cmpR op_notIn_seq (pv 3) (pe_tup (pa_cons pe_str (pa_cons pe_str pa_nil))) (by rfl))
          (pss_one (ps_ret pe_non))
          pss_nil)))
    (pss_cons (ps_set (i := 4) sc_law_rank.nd rfl (by first | exact Or.inl rfl | exact Or.inr rfl) pe_int)
    (pss_cons (ps_set (i := 5) sc_law_rank.nd rfl (by first | exact Or.inl rfl | exact Or.inr rfl) pe_int)
    (pss_cons (ps_set (i := 6) sc_law_rank.nd rfl (by first | exact Or.inl rfl | exact Or.inr rfl) (pe_op op_fdiv (pe_callB call_len_str (by rfl) T.b_len PySem.boot_len (pa_cons (pv 2) pa_nil)) pe_int))
    (pss_cons (ps_for PassesOwn.never rfl (pi_range1 (by rfl) T.b_range (pa_cons (pv 6) pa_nil)) (pg_name (i := 7) sc_law_rank.nd rfl (by first | exact Or.inl rfl | exact Or.inr rfl))
      (pss_cons (ps_if (pt_cmpR op_eq (pv 5) pe_int (nomark _))
          (pss_one (ps_ret pe_non))
          pss_nil)
        (pss_cons (ps_set (i := 8) sc_law_rank.nd rfl (by first | exact Or.inl rfl | exact Or.inr rfl) (pe_op op_add (pe_op op_add (pe_op op_mul pe_int (pe_callTy call_int_str (by rfl) T.b_int (by decide +kernel) (pa_cons (pe_ix ix_str (pv 2) (pe_op op_mul pe_int (pv 7)) (fun _ _ => rfl)) pa_nil))) (pe_op op_mul pe_int (pe_callTy call_int_str (by rfl) T.b_int (by decide +kernel) (pa_cons (pe_ix ix_str (pv 2) (pe_op op_add (pe_op op_mul pe_int (pv 7)) pe_int) (fun _ _ => rfl)) pa_nil)))) (pe_callTy call_int_str (by rfl) T.b_int (by decide +kernel) (pa_cons (pe_ix ix_str (pv 2) (pe_op op_add (pe_op op_mul pe_int (pv 7)) pe_int) (fun _ _ => rfl)) pa_nil))))
        (pss_cons (ps_for PassesOwn.never rfl (pi_range1 (by rfl) T.b_range (pa_cons (pv 8) pa_nil)) (pg_name (i := 9) sc_law_rank.nd rfl (by first | exact Or.inl rfl | exact Or.inr rfl))
          (pss_one (ps_set (i := 4) sc_law_rank.nd rfl (by first | exact Or.inl rfl | exact Or.inr rfl) (pe_op op_add (pv 4) (pe_ix ix_list (pe_ix ix_list (pv 0) (pe_op op_sub (pe_op op_sub (pv 6) pe_int) (pv 7)) (fun _ _ => rfl)) (pe_op op_add (pv 5) (pe_c c_law_step hr (by omega) (by rfl) (pa_cons (pv 9) (pa_cons (pv 1) pa_nil)))) (fun _ _ => rfl))))))
        (pss_one (ps_set (i := 5) sc_law_rank.nd rfl (by first | exact Or.inl rfl | exact Or.inr rfl) (pe_op op_add (pv 5) (pe_c c_law_step hr (by omega) (by rfl) (pa_cons (pv 8) (pa_cons (pv 1) pa_nil))))))))))
    (pss_cons (ps_if (pt_cmpR op_gt (pv 5) pe_int (nomark _))
      (pss_one (ps_ret pe_non))
      pss_nil)
    (pss_one (ps_ret (pv 4)))))))))), ?_⟩
    have notS : isPD rl d = false → Q .non H := fun h => qN h H (fun _ _ e => e)
    cases d with
    | none => cases hv; exact ⟨_, rfl, _, _, _, _, _, rfl, .ty _, .base .non, kit_ty (r := false) (by decide), _, rfl, iteT (iteT (notS rfl))⟩
    | bool b => cases hv; exact ⟨_, rfl, _, _, _, _, _, rfl, .ty _, .base (.bl b), kit_ty (r := false) (by decide), _, rfl, iteT (iteT (notS rfl))⟩
    | int b => cases hv; exact ⟨_, rfl, _, _, _, _, _, rfl, .ty _, .base (.int b), kit_ty (r := false) (by decide), _, rfl, iteT (iteT (notS rfl))⟩
    | list ds =>
      cases hv with
      | lst sx _ => exact ⟨_, rfl, _, _, _, _, _, rfl, .ty _, ty_seq sx, kit_ty (r := false) (by decide), _, rfl, iteT (iteT (notS rfl))⟩
    | tuple ds =>
      cases hv with
      | tup sx _ => exact ⟨_, rfl, _, _, _, _, _, rfl, .ty _, ty_tup sx, kit_ty (r := false) (by decide), _, rfl, iteT (iteT (notS rfl))⟩
    | dict ds => cases hv
    | str z =>
      cases hv
      have hzl := hz z rfl
      have hz3 : z.cps.toList.length = z.length := Array.length_toList
      refine ⟨_, rfl, _, _, _, _, _, rfl, .ty _, .base (.str z), kit_ty (r := true) (by decide), _, rfl, iteF ?_⟩
      refine ⟨_, rfl, z, rfl, szle (by omega), rfl, _, rfl, ite2 (fun h => ?_) (fun h => ?_)⟩
      · have h0 : (((z.length : Nat) : Int)) = 0 := V.int.inj (of_decide_eq_true h)
        refine iteT (notS ?_)
        have : cdL z.cps.toList = [] := by
          have := cdL_len z.cps.toList
          rw [hz3] at this
          exact List.length_eq_zero_iff.mp (by omega)
        show (isB z && (decide (z.length % 3 = 0) && good rl (cdL z.cps.toList) 1)) = false
        rw [this]
        show (_ && (_ && false)) = false
        rw [Bool.and_false, Bool.and_false]
      refine ⟨_, rfl, z, rfl, szle (by omega), .inl ⟨_, rfl, _, _, rfl, rfl, (show (0 : Int) < 3 by decide), _, _, rfl, rfl, _, rfl, ?_⟩⟩
      by_cases h3 : z.length % 3 = 0
      case neg =>
        rw [decide_eq_true (show (0 : Int) < ((z.length : Nat) : Int) % 3 by omega)]
        refine iteT (notS ?_)
        show (isB z && (decide (z.length % 3 = 0) && _)) = false
        rw [decide_eq_false h3, Bool.false_and, Bool.and_false]
      rw [decide_eq_false (show ¬ (0 : Int) < ((z.length : Nat) : Int) % 3 by omega)]
      refine iteF ?_
      refine ⟨_, rfl, z, rfl, for_J (likeS z) (fun i σ H' => ∃ v3 : Option V, σ = [some (.ref p), some (.ref t), some (.str z), v3, none, none, none, none, none, none] ∧ Same H H' ∧ ∀ c ∈ z.cps.toList.take i, c = 48 ∨ c = 49) ⟨none, rfl, fun _ _ e => e, fun c hc => by cases hc⟩ (fun _ _ _ _ _ => True.intro) ?_ ?_⟩
      · rintro i x σ H1 hx ⟨v2, rfl, sm, hc01⟩
        obtain ⟨c, hc, rfl⟩ := sgn_at hx
        have hc' : z.cps.toList[i]? = some c := by rw [Array.getElem?_toList]; exact hc
        have hin : inV (V.str ⟨#[c]⟩) [V.str "0", V.str "1"] = decide (c = 48 ∨ c = 49) := by
          rw [show [V.str "0", V.str "1"] = (["0", "1"] : List Str).map V.str from rfl, inV_str, decide_eq_decide]
          constructor
          · intro h
            have f : ∀ n : Nat, (⟨#[c]⟩ : Str) = ⟨#[n]⟩ → c = n := fun n e => by
              have this : [c] = [n] := congrArg (fun z : Str => z.cps.toList) e
              exact (List.cons.inj this).1
            rcases List.mem_cons.mp h with e | e
            · exact .inl (f 48 e)
            · exact .inr (f 49 (List.mem_singleton.mp e))
          · rintro (e | e) <;> subst e <;> decide
        refine ⟨_, rfl, szle (by show 2 ≤ 16777216; decide), fun tt ht => ?_⟩
        have st := same_upd (o := .tup [V.str "0", V.str "1"]) ht
        refine ⟨tt, _, rfl, .inr (SqT.of upd_same), rfl, rfl, _, congrArg (fun b => V.bl (if true = true then !b else b)) hin, ?_⟩
        by_cases h : c = 48 ∨ c = 49
        · rw [decide_eq_true h]
          refine iteF ⟨_, rfl, sm.trans st, fun y hy => ?_⟩
          rw [List.take_succ, hc'] at hy
          rcases List.mem_append.mp hy with e | e
          · exact hc01 y e
          · rw [List.mem_singleton.mp e]; exact h
        · rw [decide_eq_false h]
          refine iteT (qN ?_ _ (sm.trans st))
          have : isB z = false := by
            cases hb : isB z with
            | false => rfl
            | true => exact absurd (isB_mem hb (List.mem_of_getElem? hc')) h
          show (isB z && _) = false
          rw [this, Bool.false_and]
      rintro σ H1 ⟨v3, rfl, sm, hc01⟩
      rw [sgnsV_len, List.take_of_length_le (by omega)] at hc01
      have hb : isB z = true := isB_all.mpr hc01
      have hl72 := hz2 z rfl hb
      have c8 := cd_lt hb
      have cl : (cdL z.cps.toList).length = z.length / 3 := by rw [cdL_len, hz3]
      have hfd : ((z.length : Nat) : Int) / 3 = ((z.length / 3 : Nat) : Int) := by omega
      have eP : isP rl z = good rl (cdL z.cps.toList) 1 := by
        unfold isP
        rw [hb, decide_eq_true h3]
        rfl
      obtain ⟨cs, ecs⟩ : ∃ cs, cdL z.cps.toList = cs := ⟨_, rfl⟩
      have get := fun (k : Nat) (h : 3 * k + 2 < z.length) => cd_at hb h
      have q' := q z rfl
      rw [ecs] at cl c8 eP get q'
      rw [eP] at q'
      have qN' : good rl cs 1 = false → ∀ H', Same H H' → Q .non H' := fun h => qN (by show isP rl z = false; rw [eP]; exact h)
      refine ⟨_, rfl, z, rfl, szle (by omega), _, _, rfl, rfl, ⟨by decide, by decide⟩, ?_⟩
      refine ⟨_, rfl, ((z.length / 3 : Nat) : Int), congrArg (fun x => [V.int x]) hfd, by omega, by omega, for_range (n := z.length / 3) (fun k σ H' => ∃ (dp : Nat) (b : Int) (v7 v8 v9 : Option V), σ = [some (.ref p), some (.ref t), some (.str z), v3, some (.int b), some (.int (dp : Int)), some (.int (((z.length : Nat) : Int) / 3)), v7, v8, v9] ∧ Same H H' ∧ dp ≤ k + 1 ∧ good rl cs 1 = good rl (cs.drop k) dp ∧ b + rk rl (cs.drop k) dp = rk rl cs 1) ⟨1, 0, _, _, _, rfl, sm, Nat.le_refl _, rfl, by show 0 + rk rl cs 1 = _; omega⟩ ?_ ?_⟩
      · rintro k σ H2 hk ⟨dp, b, v7, v8, v9, rfl, s2, hdp, hgd, hrk⟩
        rw [show (0 + (k : Int)) = (k : Int) from Int.zero_add _]
        obtain ⟨a, b2, c, x, y, u, hx2, hy2, hu2, ga, gb, gc, ia, ib, ic, hck⟩ := get k (by omega)
        have edr : cs.drop k = (4 * x + 2 * y + u) :: cs.drop (k + 1) := by
          obtain ⟨h1, h2⟩ := List.getElem?_eq_some_iff.mp hck
          rw [List.drop_eq_getElem_cons h1, h2]
        rw [edr] at hgd hrk
        have hd0 : decide (V.int ((dp : Nat) : Int) = V.int 0) = decide (dp = 0) := by
          rw [decide_eq_decide]
          exact ⟨fun e => by have := V.int.inj e; omega, fun e => congrArg V.int (by omega)⟩
        refine ⟨_, rfl, rfl, _, congrArg V.bl hd0, ?_⟩
        by_cases h : dp = 0
        · rw [decide_eq_true h]
          refine iteT (qN' ?_ _ s2)
          rw [hgd, h]
          rfl
        rw [decide_eq_false h]
        refine iteF ?_
        have hgd2 : good rl cs 1 = good rl (cs.drop (k + 1)) (stC rl (4 * x + 2 * y + u) dp) := by
          rw [hgd]
          show (dp != 0 && _) = _
          rw [show (dp != 0) = true from bne_iff_ne.mpr h, Bool.true_and]
        have hld : (cs.drop (k + 1)).length = z.length / 3 - 1 - k := by rw [List.length_drop]; omega
        obtain ⟨l, hl1⟩ : ∃ l, z.length / 3 - 1 - k = l := ⟨_, rfl⟩
        have hrk' : b + (pre rl (cs.drop (k + 1)).length dp (4 * x + 2 * y + u) + rk rl (cs.drop (k + 1)) (stC rl (4 * x + 2 * y + u) dp)) = rk rl cs 1 := hrk
        rw [hld, hl1] at hrk'
        have ha : atI z.cps.toList (3 * (k : Int)) = some a := by rw [show 3 * (k : Int) = ((3 * k : Nat) : Int) by omega]; exact atI_nat ga
        have hb' : atI z.cps.toList (3 * (k : Int) + 1) = some b2 := by rw [show 3 * (k : Int) + 1 = ((3 * k + 1 : Nat) : Int) by omega]; exact atI_nat gb
        have hc : atI z.cps.toList (3 * (k : Int) + 2) = some c := by rw [show 3 * (k : Int) + 2 = ((3 * k + 2 : Nat) : Int) by omega]; exact atI_nat gc
        refine ⟨_, rfl, _, rfl, _, _, rfl, rfl, .inl ⟨by omega, by omega⟩, z, _, a, rfl, rfl, szle (by omega), ha, _, x, rfl, ia, by show 1 ≤ 640; decide, _, _, rfl, rfl, .inl ⟨by omega, by omega⟩, ?_⟩
        refine ⟨_, rfl, _, rfl, _, _, rfl, rfl, .inl ⟨by omega, by omega⟩, _, _, rfl, rfl, z, _, b2, rfl, rfl, szle (by omega), hb', _, y, rfl, ib, by show 1 ≤ 640; decide, _, _, rfl, rfl, .inl ⟨by omega, by omega⟩, _, _, rfl, rfl, ?_⟩
        refine ⟨_, rfl, _, rfl, _, _, rfl, rfl, .inl ⟨by omega, by omega⟩, _, _, rfl, rfl, z, _, c, rfl, rfl, szle (by omega), hc, _, u, rfl, ic, by show 1 ≤ 640; decide, _, _, rfl, rfl, ?_⟩
        have hC : 4 * (x : Int) + 2 * (y : Int) + (u : Int) = ((4 * x + 2 * y + u : Nat) : Int) := by omega
        have hC8 : 4 * x + 2 * y + u < 8 := by omega
        refine ⟨_, rfl, ((4 * x + 2 * y + u : Nat) : Int), congrArg (fun z => [V.int z]) hC, by omega, by omega, for_range (n := 4 * x + 2 * y + u) (fun j σ H' => ∃ (b' : Int) (v9 : Option V), b' = b + pre rl l dp j ∧ σ = [some (.ref p), some (.ref t), some (.str z), v3, some (.int b'), some (.int (dp : Int)), some (.int (((z.length : Nat) : Int) / 3)), some (.int (k : Int)), some (.int (4 * (x : Int) + 2 * (y : Int) + (u : Int))), v9] ∧ Same H2 H') ⟨b, _, by show b = b + 0; omega, rfl, fun _ _ e => e⟩ ?_ ?_⟩
        · rintro j σ H3 hj ⟨b', w9, eb, rfl, s3⟩
          have S3 := s2.trans s3
          have hj8 : j < 8 := by omega
          have hst := stC_le rl j dp
          have hls := ls_st (rl := rl) hj8 h
          obtain ⟨rows, q2, xs2, e0, e1, e2, e3⟩ := (hW.mono S3).at (K := K) (l := l) (d := stC rl j dp) (by omega) (by omega)
          rw [← hls] at e3
          rw [show ((l : Nat) : Int) = ((z.length : Nat) : Int) / 3 - 1 - (k : Int) by omega] at e1
          exact ⟨_, rfl, _, rfl, _, rfl, _, _, rfl, rfl, _, rfl, _, _, rfl, rfl, p, _, _, _, rfl, rfl, SqL.of e0, e1, _, rfl, _, rfl, _, rfl, j, t, rl, congrArg (fun z => [V.int z, V.ref t]) (Int.zero_add _), hj8, sameT S3 hT, _, _, rfl, rfl, q2, _, _, _, rfl, rfl, e2, e3, _, _, rfl, rfl, _, _, by rw [eb]; exact Int.add_assoc _ _ _, rfl, s3⟩
        · rintro σ H3 ⟨b', w9, eb, rfl, s3⟩
          have S3 := s2.trans s3
          have hst := stC_le rl (4 * x + 2 * y + u) dp
          exact ⟨_, rfl, _, rfl, _, rfl, 4 * x + 2 * y + u, t, rl, congrArg (fun z => [V.int z, V.ref t]) hC, hC8, sameT S3 hT, _, _, rfl, rfl, stC rl (4 * x + 2 * y + u) dp, b', _, _, _, by rw [← ls_st hC8 h]; rfl, S3, by omega, hgd2, by omega⟩
      · rintro σ H2 ⟨dp, b, v7, v8, v9, rfl, s2, hdp, hgd, hrk⟩
        rw [List.drop_of_length_le (by omega)] at hgd hrk
        refine ⟨_, rfl, _, _, rfl, rfl, _, rfl, ?_⟩
        have hgd' : good rl cs 1 = (dp == 0) := hgd
        by_cases h : dp = 0
        · rw [decide_eq_false (show ¬ (0 : Int) < (dp : Int) by omega)]
          have : b = rk rl cs 1 := by
            have : b + 0 = rk rl cs 1 := hrk
            omega
          rw [this]
          exact iteF ⟨_, rfl, q' (by rw [hgd', h]; rfl) _ s2⟩
        · rw [decide_eq_true (show (0 : Int) < (dp : Int) by omega)]
          exact iteT (qN' (by rw [hgd']; exact beq_false_of_ne h) _ s2)
end

/-! ### what the program tells -/
/-- the number of a program of n tokens -/
def NumD (rl : Bool) (n : Nat) (d : PyData) : Prop := ∃ x, d = .int x ∧ 0 ≤ x ∧ x < W rl n 1
def spToldP (K : PySem.W.Frag) : Sp := fun vs H Q _ => ∃ (r : Addr) (rl : Bool) (n : Nat) (v : V) (d : PyData) (nm : Bool), vs = [.ref r, .int (n : Int), v, .bl nm] ∧ Lg K H r rl ∧ n ≤ 24 ∧ Dp K H v d ∧
  (∀ x, d = .int x → 0 ≤ x → x < W rl n 1 → ∀ cs : List Nat, cs.length = n → (∀ c ∈ cs, c < 8) → good rl cs 1 = true → rk rl cs 1 = x → ∀ H' p, Same H H' → H' p = some (.lst [.bl true, .str (wC cs)]) → Q (.ref p) H') ∧
  ((∀ x, d = .int x → ¬ (0 ≤ x ∧ x < W rl n 1)) → ∀ H' p, Same H H' → H' p = some (.lst [.bl false, v]) → Q (.ref p) H')
def spToldN (K : PySem.W.Frag) (CR CS : Addr) : Sp := fun vs H Q _ => ∃ (r dx : Addr) (rl : Bool) (v : V) (d : PyData) (nm : Bool), vs = [.ref r, v, .bl nm] ∧ LgC K (clL CR CS rl) rl ∧ H r = some (.ins (clL CR CS rl) dx []) ∧ Dp K H v d ∧ (∀ z, d = .str z → z.length ≤ 3000) ∧ (∀ z, d = .str z → isB z = true → z.length ≤ 72) ∧
  (∀ z, d = .str z → isP rl z = true → ∀ H' p, Same H H' → H' p = some (.lst [.bl true, .int (rk rl (cdL z.cps.toList) 1)]) → Q (.ref p) H') ∧ (isPD rl d = false → ∀ H' p, Same H H' → H' p = some (.lst [.bl false, v]) → Q (.ref p) H')
section
variable {P : Program} {w : World} {K : PySem.W.Frag} {mg : Str → Option Value} {base : Heap} {C_Reels C_Stacks A_TOK : Addr} {C_NoProgram C_InvalidNumber : Addr}
theorem ok_law_told_program {f : Addr} {fd : FuncData} (F : Fun K "_law_told_program" "_law_told_program" s_law_told_program f fd) (T : Txt K mg C_Reels C_Stacks A_TOK) (x_InvalidNumber : XErr P K mg "InvalidNumber" C_InvalidNumber ["number"]) (c_program_of_number : CalX P w K mg base 5 "program_of_number" (spOfNum K C_InvalidNumber)) (ck_program_of_number_number_tokens_language : CalXK P w K mg base 5 "program_of_number" 0 ["number", "tokens", "language"] (fun xs zs => xs ++ zs.reverse) (spOfNum K C_InvalidNumber)) : FnOk P w K mg base CX0 6 f fd ["language", "tokens", "number", "by_name"] (spToldP K) := by
  refine F.ok sc_law_told_program (fun vs H Q E h => ?_) (fun cdv A outer s H vs Q E hr h => ?_)
  · obtain ⟨r, rl, n, v, d, nm, rfl, _⟩ := h
    rfl
  · obtain ⟨r, rl, n, v, d, nm, rfl, L, hn, hv, q, qN⟩ := h
    refine ⟨_, (pss_one (L2N.ps_try_as (i := 4) (tb := fun W => (tSeq (tIfS (tB (tVar 3)) (tRet (tLst (tCons (tC (.bl true)) (tCons (tCallSK0 3 (spOfNum K C_InvalidNumber) (fun xs zs => xs ++ zs.reverse) (WE W) (tCons (tVar 2) (tCons (tVar 1) (tCons (tVar 0) tNil)))) tNil)))) tNext) (tRet (tLst (tCons (tC (.bl true)) (tCons (tCallS (spOfNum K C_InvalidNumber) (WE W) (tCons (tVar 0) (tCons (tVar 1) (tCons (tVar 2) tNil)))) tNil))))))
      (ts := fun a cls d => (tRet (tLst (tCons (tC (.bl false)) (tCons (tXf a cls d C_InvalidNumber "number" (tVar 4)) tNil))))) rfl rfl sc_law_told_program.nd rfl rfl ⟨rfl, by decide, .inl x_InvalidNumber.gC⟩ takesN0
      (fun W pn xe tk pwn => (pss_cons (ps_if (pt_val (pv 3))
          (pss_one (ps_ret (pe_lst (pa_cons pe_bl (pa_cons (pe_xSK0 ck_program_of_number_number_tokens_language hr (by omega) (by rfl) tk (pk_cons (pv 2) (pk_cons (pv 1) (pk_cons (pv 0) pk_nil)))) pa_nil)))))
          pss_nil)
        (pss_one (ps_ret (pe_lst (pa_cons pe_bl (pa_cons (pe_xS c_program_of_number hr (by omega) (by rfl) tk (pa_cons (pv 0) (pa_cons (pv 1) (pa_cons (pv 2) pa_nil)))) pa_nil)))))))
      (fun a oe cls d pn hz hf => (pss_one (ps_ret (pe_lst (pa_cons pe_bl (pa_cons (pe_xf x_InvalidNumber.xf (x_InvalidNumber.no (by simp)) hz.zc hf (pv 4)) pa_nil)))))))), ?_⟩
    have A : ∀ x, d = .int x → 0 ≤ x → x < W rl n 1 → ∀ cs : List Nat, cs.length = n → (∀ c ∈ cs, c < 8) → good rl cs 1 = true → rk rl cs 1 = x → ∀ H', Same H H' → 2 ≤ sizeLine ∧ ∀ l, H' l = none → Q (.ref l) (upd H' l (.lst [.bl true, .str (wC cs)])) := fun x e h0 h1 cs h2 h3 h4 h5 H' s' => ⟨szle (by decide), fun l hl => q x e h0 h1 cs h2 h3 h4 h5 _ l (s'.trans (same_upd hl)) upd_same⟩
    have B : (∀ x, d = .int x → ¬ (0 ≤ x ∧ x < W rl n 1)) → ∀ H1 l, Same H H1 → H1 l = none → Q (.ref l) (upd H1 l (.lst [.bl false, v])) := fun ht H1 l s1 hl => qN ht _ l (s1.trans (same_upd hl)) upd_same
    cases nm
    · exact ⟨_, rfl, _, rfl, iteF ⟨_, rfl, _, rfl, _, rfl, r, rl, n, v, d, rfl, L, hn, hv, fun x e h0 h1 cs h2 h3 h4 h5 H1 s1 => A x e h0 h1 cs h2 h3 h4 h5 H1 s1, fun ht H1 dd s1 hd => ⟨true, x_InvalidNumber.te, fun _ z hz => ⟨_, rfl, rfl, rfl, dd, _, _, rfl, hd, rfl, szle (by show 2 ≤ 16777216; decide), fun l hl => B ht H1 l s1 hl⟩, fun z => by cases z⟩⟩⟩
    · exact ⟨_, rfl, _, rfl, iteT ⟨_, rfl, _, rfl, _, rfl, rfl, r, rl, n, v, d, rfl, L, hn, hv, fun x e h0 h1 cs h2 h3 h4 h5 H1 s1 => A x e h0 h1 cs h2 h3 h4 h5 H1 s1, fun ht H1 dd s1 hd => ⟨true, x_InvalidNumber.te, fun _ z hz => ⟨_, rfl, rfl, rfl, dd, _, _, rfl, hd, rfl, szle (by show 2 ≤ 16777216; decide), fun l hl => B ht H1 l s1 hl⟩, fun z => by cases z⟩⟩⟩
theorem ok_law_told_number {f : Addr} {fd : FuncData} (F : Fun K "_law_told_number" "_law_told_number" s_law_told_number f fd) (T : Txt K mg C_Reels C_Stacks A_TOK) (x_NoProgram : XErr P K mg "NoProgram" C_NoProgram ["program"]) (c_number_of_program : CalX P w K mg base 5 "number_of_program" (spNumOf K C_Reels C_Stacks C_NoProgram)) (ck_number_of_program_program_language : CalXK P w K mg base 5 "number_of_program" 0 ["program", "language"] (fun xs zs => xs ++ zs.reverse) (spNumOf K C_Reels C_Stacks C_NoProgram)) : FnOk P w K mg base CX0 6 f fd ["language", "program", "by_name"] (spToldN K C_Reels C_Stacks) := by
  refine F.ok sc_law_told_number (fun vs H Q E h => ?_) (fun cdv A outer s H vs Q E hr h => ?_)
  · obtain ⟨r, dx, rl, v, d, nm, rfl, _⟩ := h
    rfl
  · obtain ⟨r, dx, rl, v, d, nm, rfl, lc, hx, hv, hz, hz2, q, qN⟩ := h
    refine ⟨_, (pss_one (L2N.ps_try_as (i := 3) (tb := fun W => (tSeq (tIfS (tB (tVar 2)) (tRet (tLst (tCons (tC (.bl true)) (tCons (tCallSK0 2 (spNumOf K C_Reels C_Stacks C_NoProgram) (fun xs zs => xs ++ zs.reverse) (WE W) (tCons (tVar 1) (tCons (tVar 0) tNil))) tNil)))) tNext) (tRet (tLst (tCons (tC (.bl true)) (tCons (tCallS (spNumOf K C_Reels C_Stacks C_NoProgram) (WE W) (tCons (tVar 0) (tCons (tVar 1) tNil))) tNil))))))
      (ts := fun a cls d => (tRet (tLst (tCons (tC (.bl false)) (tCons (tXf a cls d C_NoProgram "program" (tVar 3)) tNil))))) rfl rfl sc_law_told_number.nd rfl rfl ⟨rfl, by decide, .inl x_NoProgram.gC⟩ takesN0
      (fun W pn xe tk pwn => (pss_cons (ps_if (pt_val (pv 2))
          (pss_one (ps_ret (pe_lst (pa_cons pe_bl (pa_cons (pe_xSK0 ck_number_of_program_program_language hr (by omega) (by rfl) tk (pk_cons (pv 1) (pk_cons (pv 0) pk_nil))) pa_nil)))))
          pss_nil)
        (pss_one (ps_ret (pe_lst (pa_cons pe_bl (pa_cons (pe_xS c_number_of_program hr (by omega) (by rfl) tk (pa_cons (pv 0) (pa_cons (pv 1) pa_nil))) pa_nil)))))))
      (fun a oe cls d pn hz hf => (pss_one (ps_ret (pe_lst (pa_cons pe_bl (pa_cons (pe_xf x_NoProgram.xf (x_NoProgram.no (by simp)) hz.zc hf (pv 3)) pa_nil)))))))), ?_⟩
    have A : ∀ z, d = .str z → isP rl z = true → ∀ H', Same H H' → 2 ≤ sizeLine ∧ ∀ l, H' l = none → Q (.ref l) (upd H' l (.lst [.bl true, .int (rk rl (cdL z.cps.toList) 1)])) := fun z e ht H' s' => ⟨szle (by decide), fun l hl => q z e ht _ l (s'.trans (same_upd hl)) upd_same⟩
    have B : isPD rl d = false → ∀ H1 l, Same H H1 → H1 l = none → Q (.ref l) (upd H1 l (.lst [.bl false, v])) := fun ht H1 l s1 hl => qN ht _ l (s1.trans (same_upd hl)) upd_same
    cases nm
    · exact ⟨_, rfl, _, rfl, iteF ⟨_, rfl, _, rfl, r, dx, rl, v, d, rfl, lc, hx, hv, hz, hz2, fun z e ht H1 s1 => A z e ht H1 s1, fun ht H1 dd s1 hd => ⟨true, x_NoProgram.te, fun _ z hz => ⟨_, rfl, rfl, rfl, dd, _, _, rfl, hd, rfl, szle (by show 2 ≤ 16777216; decide), fun l hl => B ht H1 l s1 hl⟩, fun z => by cases z⟩⟩⟩
    · exact ⟨_, rfl, _, rfl, iteT ⟨_, rfl, _, rfl, rfl, r, dx, rl, v, d, rfl, lc, hx, hv, hz, hz2, fun z e ht H1 s1 => A z e ht H1 s1, fun ht H1 dd s1 hd => ⟨true, x_NoProgram.te, fun _ z hz => ⟨_, rfl, rfl, rfl, dd, _, _, rfl, hd, rfl, szle (by show 2 ≤ 16777216; decide), fun l hl => B ht H1 l s1 hl⟩, fun z => by cases z⟩⟩⟩
end
/-! ### what is told is right -/
def spNumR (K : PySem.W.Frag) (CR CS : Addr) : Sp := fun vs H Q _ => ∃ (r dx p t : Addr) (rl : Bool) (n : Nat) (v : V) (d : PyData) (nm : Bool), vs = [.ref r, .ref p, .ref t, .int (n : Int), v, .bl nm] ∧ LgC K (clL CR CS rl) rl ∧ H r = some (.ins (clL CR CS rl) dx []) ∧ WaysP H p rl ∧ SqT K H t (clT rl) ∧ n ≤ 24 ∧ Dp K H v d ∧ okD 4 d = true ∧ ∀ H', Same H H' → Q (.bl true) H'
def spPrgR (K : PySem.W.Frag) (CR CS : Addr) : Sp := fun vs H Q _ => ∃ (r dx p t : Addr) (rl : Bool) (v : V) (d : PyData) (nm : Bool), vs = [.ref r, .ref p, .ref t, v, .bl nm] ∧ LgC K (clL CR CS rl) rl ∧ H r = some (.ins (clL CR CS rl) dx []) ∧ WaysP H p rl ∧ SqT K H t (clT rl) ∧ Dp K H v d ∧ okD 4 d = true ∧ (∀ z, d = .str z → z.length ≤ 3000) ∧ (∀ z, d = .str z → isB z = true → z.length ≤ 72) ∧ ∀ H', Same H H' → Q (.bl true) H'
section
variable {P : Program} {w : World} {K : PySem.W.Frag} {mg : Str → Option Value} {base : Heap} {C_Reels C_Stacks A_TOK : Addr} {C_NoProgram C_InvalidNumber : Addr}
theorem ok_law_program_right {f : Addr} {fd : FuncData} (F : Fun K "_law_program_right" "_law_program_right" s_law_program_right f fd) (T : Txt K mg C_Reels C_Stacks A_TOK) (c_law_copy : Cal P w K mg base 4 "_law_copy" (spCopy K 4)) (c_law_same : Cal P w K mg base 4 "_law_same" (spSame K 4)) (c_law_rank : Cal P w K mg base 2 "_law_rank" (spRank K)) (c_law_told_number : Cal P w K mg base 6 "_law_told_number" (spToldN K C_Reels C_Stacks)) : FnOk P w K mg base CX0 7 f fd ["language", "ways", "closers", "value", "by_name"] (spPrgR K C_Reels C_Stacks) := by
  refine F.ok sc_law_program_right (fun vs H Q E h => ?_) (fun cdv A outer s H vs Q E hr h => ?_)
  · obtain ⟨r, dx, p, t, rl, v, d, nm, rfl, _⟩ := h
    rfl
  · obtain ⟨r, dx, p, t, rl, v, d, nm, rfl, lc, hx, hW, hT, hv, hok, hz, hz2, q⟩ := h
    refine ⟨_, (pss_cons (ps_set (i := 5) sc_law_program_right.nd rfl (by first | exact Or.inl rfl | exact Or.inr rfl) (pe_c c_law_copy hr (by omega) (by rfl) (pa_cons (pv 3) pa_nil)))
    (pss_cons (ps_set (i := 6) sc_law_program_right.nd rfl (by first | exact Or.inl rfl | exact Or.inr rfl) (pe_c c_law_rank hr (by omega) (by rfl) (pa_cons (pv 1) (pa_cons (pv 2) (pa_cons (pv 3) pa_nil)))))
    (pss_cons (ps_set (i := 7) sc_law_program_right.nd rfl (by first | exact Or.inl rfl | exact Or.inr rfl) (pe_c c_law_told_number hr (by omega) (by rfl) (pa_cons (pv 0) (pa_cons (pv 3) (pa_cons (pv 4) pa_nil)))))
    (pss_cons (ps_if (pt_not (pt_val (pe_c c_law_same hr (by omega) (by rfl) (pa_cons (pv 3) (pa_cons (pv 5) pa_nil)))))
      (pss_one (ps_ret pe_bl))
      pss_nil)
    (pss_cons (ps_if (pt_cmpR op_isN (pv 6) pe_non (nomark _))
      (pss_one (ps_ret (pe_and (pe_not (pe_ix ix_list (pv 7) pe_int (fun _ _ => rfl))) (pe_one (pe_c c_law_same hr (by omega) (by rfl) (pa_cons (pe_ix ix_list (pv 7) pe_int (fun _ _ => rfl)) (pa_cons (pv 5) pa_nil)))))))
      pss_nil)
    (pss_one (ps_ret (pe_and (pe_ix ix_list (pv 7) pe_int (fun _ _ => rfl)) (pe_one (pe_c c_law_same hr (by omega) (by rfl) (pa_cons (pe_ix ix_list (pv 7) pe_int (fun _ _ => rfl)) (pa_cons (pv 6) pa_nil)))))))))))), ?_⟩
    refine ⟨_, rfl, v, d, rfl, hok, hv, fun H1 v2 N s1 nw dv2 => ?_⟩
    have d2 := Dp.mono nw.same _ _ dv2
    have hv1 := Dp.mono s1 _ _ hv
    cases hg : isPD rl d with
    | true =>
      obtain ⟨z, rfl⟩ : ∃ z, d = .str z := by
        cases d <;> first | exact ⟨_, rfl⟩ | cases hg
      cases hv
      cases dv2
      refine ⟨_, rfl, _, rfl, _, rfl, p, t, rl, _, .str z, rfl, hW.mono s1, sameT s1 hT, .str z, hz, hz2, fun z' e ht H2 s2 => ?_, fun h => by rw [hg] at h; cases h⟩
      cases e
      refine ⟨_, rfl, _, rfl, _, rfl, r, dx, rl, _, .str z, nm, rfl, lc, s2 _ _ (s1 _ _ hx), .str z, hz, hz2, fun z' e ht' H3 p3 s3 hp3 => ?_, fun h => by rw [hg] at h; cases h⟩
      cases e
      refine ⟨_, rfl, _, rfl, _, _, .str z, rfl, hok, .str z, .str z, _, rfl, iteF ?_⟩
      refine ⟨_, rfl, rfl, _, congrArg V.bl (show decide (V.int _ = V.non) = false by simp), iteF ?_⟩
      exact ⟨_, rfl, p3, _, _, _, rfl, rfl, SqL.of hp3, atI_nat (j := 0) rfl, _, rfl, iteT ⟨_, rfl, p3, _, _, _, rfl, rfl, SqL.of hp3, atI_nat (j := 1) rfl, _, rfl, _, _, .int _, rfl, rfl, .int _, .int _, q _ (s1.trans (s2.trans s3))⟩⟩
    | false =>
      refine ⟨_, rfl, _, rfl, _, rfl, p, t, rl, v, d, rfl, hW.mono s1, sameT s1 hT, hv1, hz, hz2, fun z' e ht => ?_, fun _ H2 s2 => ?_⟩
      · rw [e] at hg
        exact absurd (show isPD rl (.str z') = true from ht) (by rw [hg]; decide)
      have hv2 := Dp.mono s2 _ _ hv1
      refine ⟨_, rfl, _, rfl, _, rfl, r, dx, rl, v, d, nm, rfl, lc, s2 _ _ (s1 _ _ hx), hv2, hz, hz2, fun z' e ht => ?_, fun _ H3 p3 s3 hp3 => ?_⟩
      · rw [e] at hg
        exact absurd (show isPD rl (.str z') = true from ht) (by rw [hg]; decide)
      have hv3 := Dp.mono s3 _ _ hv2
      have d23 := Dp.mono s3 _ _ (Dp.mono s2 _ _ d2)
      refine ⟨_, rfl, _, rfl, v, v2, d, rfl, hok, hv3, d23, _, rfl, iteF ?_⟩
      refine ⟨_, rfl, rfl, _, congrArg V.bl (show decide (V.non = V.non) = true by simp), iteT ?_⟩
      exact ⟨_, rfl, p3, _, _, _, rfl, rfl, SqL.of hp3, atI_nat (j := 0) rfl, _, rfl, _, rfl, iteT ⟨_, rfl, p3, _, _, _, rfl, rfl, SqL.of hp3, atI_nat (j := 1) rfl, _, rfl, v, v2, d, rfl, hok, hv3, d23, q _ (s1.trans (s2.trans s3))⟩⟩
theorem ok_law_number_right {f : Addr} {fd : FuncData} (F : Fun K "_law_number_right" "_law_number_right" s_law_number_right f fd) (T : Txt K mg C_Reels C_Stacks A_TOK) (c_law_copy : Cal P w K mg base 4 "_law_copy" (spCopy K 4)) (c_law_same : Cal P w K mg base 4 "_law_same" (spSame K 4)) (c_law_ranked : Cal P w K mg base 2 "_law_ranked" (spRanked K)) (c_law_told_program : Cal P w K mg base 6 "_law_told_program" (spToldP K)) (c_law_told_number : Cal P w K mg base 6 "_law_told_number" (spToldN K C_Reels C_Stacks)) : FnOk P w K mg base CX0 7 f fd ["language", "ways", "closers", "tokens", "number", "by_name"] (spNumR K C_Reels C_Stacks) := by
  refine F.ok sc_law_number_right (fun vs H Q E h => ?_) (fun cdv A outer s H vs Q E hr h => ?_)
  · obtain ⟨r, dx, p, t, rl, n, v, d, nm, rfl, _⟩ := h
    rfl
  · obtain ⟨r, dx, p, t, rl, n, v, d, nm, rfl, lc, hx, hW, hT, hn, hv, hok, q⟩ := h
    refine ⟨_, (pss_cons (ps_set (i := 6) sc_law_number_right.nd rfl (by first | exact Or.inl rfl | exact Or.inr rfl) (pe_c c_law_copy hr (by omega) (by rfl) (pa_cons (pv 4) pa_nil)))
    (pss_cons (ps_set (i := 7) sc_law_number_right.nd rfl (by first | exact Or.inl rfl | exact Or.inr rfl) (pe_c c_law_told_program hr (by omega) (by rfl) (pa_cons (pv 0) (pa_cons (pv 3) (pa_cons (pv 4) (pa_cons (pv 5) pa_nil))))))
    (pss_cons (ps_if (pt_not (pt_val (pe_c c_law_same hr (by omega) (by rfl) (pa_cons (pv 4) (pa_cons (pv 6) pa_nil)))))
      (pss_one (ps_ret pe_bl))
      pss_nil)
    (C8.pss_cut (ps_set (i := 8) sc_law_number_right.nd rfl (by first | exact Or.inl rfl | exact Or.inr rfl) (pe_and (pe_callB call_isi (by rfl) T.b_isinstance (by decide +kernel) (pa_cons (pv 6) (pa_cons (pe_bltn (v := .ty "int") (by rfl) T.b_int (by decide +kernel) rfl) pa_nil))) (pe_and (pe_not (pe_callB call_isi (by rfl) T.b_isinstance (by decide +kernel) (pa_cons (pv 6) (pa_cons (pe_bltn (v := .ty "bool") (by rfl) T.b_bool (by decide +kernel) rfl) pa_nil)))) (pe_one (pe_chain op_le op_lt pe_int (pv 6) (pe_ix ix_list (pe_ix ix_list (pv 1) (pv 3) (fun _ _ => rfl)) pe_int (fun _ _ => rfl)))))))
    (pss_cons (ps_if (pt_not (pt_val (pv 8)))
      (pss_one (ps_ret (pe_and (pe_not (pe_ix ix_list (pv 7) pe_int (fun _ _ => rfl))) (pe_one (pe_c c_law_same hr (by omega) (by rfl) (pa_cons (pe_ix ix_list (pv 7) pe_int (fun _ _ => rfl)) (pa_cons (pv 6) pa_nil)))))))
      pss_nil)
    (pss_cons (ps_set (i := 9) sc_law_number_right.nd rfl (by first | exact Or.inl rfl | exact Or.inr rfl) (pe_c c_law_ranked hr (by omega) (by rfl) (pa_cons (pv 1) (pa_cons (pv 2) (pa_cons (pv 3) (pa_cons (pv 6) pa_nil))))))
    (pss_cons (ps_if (PW.pt (pw_or (pt_not (pt_val (pe_ix ix_list (pv 7) pe_int (fun _ _ => rfl)))) (pw_or1 (pt_not (pt_val (pe_c c_law_same hr (by omega) (by rfl) (pa_cons (pe_ix ix_list (pv 7) pe_int (fun _ _ => rfl)) (pa_cons (pv 9) pa_nil))))))))
      (pss_one (ps_ret pe_bl))
      pss_nil)
    (pss_cons (ps_set (i := 10) sc_law_number_right.nd rfl (by first | exact Or.inl rfl | exact Or.inr rfl) (pe_c c_law_told_number hr (by omega) (by rfl) (pa_cons (pv 0) (pa_cons (pv 9) (pa_cons (pe_not (pv 5)) pa_nil)))))
    (pss_one (ps_ret (pe_and (pe_ix ix_list (pv 10) pe_int (fun _ _ => rfl)) (pe_one (pe_c c_law_same hr (by omega) (by rfl) (pa_cons (pe_ix ix_list (pv 10) pe_int (fun _ _ => rfl)) (pa_cons (pv 6) pa_nil))))))))))))))), ?_⟩
    refine ⟨_, rfl, v, d, rfl, hok, hv, fun H1 v2 N s1 nw dv2 => ?_⟩
    have d2 := Dp.mono nw.same _ _ dv2
    have hv1 := Dp.mono s1 _ _ hv
    by_cases hg : NumD rl n d
    · obtain ⟨x, rfl, h0, h1⟩ := hg
      cases hv
      cases dv2
      refine ⟨_, rfl, _, rfl, _, rfl, _, rfl, r, rl, n, _, .int x, nm, rfl, lc.lg (s1 _ _ hx), hn, .int x, fun y e _ _ cs hl h8 hgd hrk H2 p2 s2 hp2 => ?_, fun h => absurd ⟨h0, h1⟩ (h x rfl)⟩
      cases e
      refine ⟨_, rfl, _, rfl, _, _, .int x, rfl, hok, .int x, .int x, _, rfl, iteF ?_⟩
      refine ⟨fun σ H' => σ = [some (.ref r), some (.ref p), some (.ref t), some (.int (n : Int)), some (.int x), some (.bl nm), some (.int x), some (.ref p2), some (.bl true), none, none] ∧ H' = H2, ?_, ?_⟩
      · obtain ⟨rows, q2, xs2, e0, e1, e2, e3⟩ := (hW.mono (s1.trans s2)).at (K := K) (l := n) (d := 1) hn (by decide)
        refine ⟨_, rfl, _, _, _, _, _, rfl, .ty _, .base (.int x), kit_ty (r := true) (by decide), _, rfl, iteT ⟨_, rfl, _, _, _, _, _, rfl, .ty _, .base (.int x), kit_ty (r := false) (by decide), _, rfl, _, rfl, iteT ?_⟩⟩
        refine ⟨_, rfl, _, _, rfl, rfl, _, rfl, ite2 (fun _ => ?_) (fun h => absurd (decide_eq_true h0) h)⟩
        exact ⟨_, rfl, _, rfl, p, _, _, _, rfl, rfl, SqL.of e0, e1, q2, _, _, _, rfl, rfl, e2, e3, _, _, rfl, rfl, by rw [show V.bl true = V.bl (decide (x < W rl n 1)) by rw [decide_eq_true h1]]; rfl, rfl⟩
      rintro σ H3 ⟨rfl, rfl⟩
      refine ⟨_, rfl, _, rfl, iteF ?_⟩
      refine ⟨_, rfl, _, rfl, _, rfl, _, rfl, p, t, rl, n, x, rfl, hW.mono (s1.trans s2), sameT (s1.trans s2) hT, hn, h0, h1, fun H4 cs2 s4 g1 g2 g3 g4 => ?_⟩
      have ecs : cs = cs2 := rk_inj cs cs2 1 (by omega) h8 g2 hgd g3 (by omega)
      subst ecs
      have hp4 := s4 _ _ hp2
      refine ⟨_, rfl, p2, _, _, _, rfl, rfl, SqL.of hp4, atI_nat (j := 0) rfl, _, rfl, iteF ⟨_, rfl, p2, _, _, _, rfl, rfl, SqL.of hp4, atI_nat (j := 1) rfl, _, rfl, _, _, .str _, rfl, rfl, .str _, .str _, _, rfl, iteF ?_⟩⟩
      have wl : (wC cs).length ≤ 72 := by rw [wC_len h8]; omega
      have S4 := s1.trans (s2.trans s4)
      have hP : isP rl (wC cs) = true := by rw [wC_isP h8]; exact hgd
      refine ⟨_, rfl, _, rfl, _, rfl, _, rfl, r, dx, rl, _, .str (wC cs), !nm, rfl, lc, S4 _ _ hx, .str _, fun z e => by cases e; omega, fun z e _ => by cases e; exact wl, fun z e ht H5 p5 s5 hp5 => ?_, fun h => by rw [show isPD rl (.str (wC cs)) = true from hP] at h; cases h⟩
      cases e
      rw [wC_cd h8, hrk] at hp5
      exact ⟨_, rfl, p5, _, _, _, rfl, rfl, SqL.of hp5, atI_nat (j := 0) rfl, _, rfl, iteT ⟨_, rfl, p5, _, _, _, rfl, rfl, SqL.of hp5, atI_nat (j := 1) rfl, _, rfl, _, _, .int x, rfl, rfl, .int x, .int x, q _ (S4.trans s5)⟩⟩
    · have hng : ∀ x, d = .int x → ¬ (0 ≤ x ∧ x < W rl n 1) := fun x e h => hg ⟨x, e, h⟩
      refine ⟨_, rfl, _, rfl, _, rfl, _, rfl, r, rl, n, v, d, nm, rfl, lc.lg (s1 _ _ hx), hn, hv1, fun x e h0 h1 => absurd ⟨x, e, h0, h1⟩ hg, fun _ H2 p2 s2 hp2 => ?_⟩
      have hv2 := Dp.mono s2 _ _ hv1
      have d22 := Dp.mono s2 _ _ d2
      refine ⟨_, rfl, _, rfl, v, v2, d, rfl, hok, hv2, d22, _, rfl, iteF ?_⟩
      refine ⟨fun σ H' => σ = [some (.ref r), some (.ref p), some (.ref t), some (.int (n : Int)), some v, some (.bl nm), some v2, some (.ref p2), some (.bl false), none, none] ∧ H' = H2, ?_, ?_⟩
      · have hng2 := hng
        clear hng
        cases d with
        | none => cases d22; exact ⟨_, rfl, _, _, _, _, _, rfl, .ty _, .base .non, kit_ty (r := false) (by decide), _, rfl, iteF ⟨rfl, rfl⟩⟩
        | str b => cases d22; exact ⟨_, rfl, _, _, _, _, _, rfl, .ty _, .base (.str b), kit_ty (r := false) (by decide), _, rfl, iteF ⟨rfl, rfl⟩⟩
        | bool b => cases d22; exact ⟨_, rfl, _, _, _, _, _, rfl, .ty _, .base (.bl b), kit_ty (r := true) (by decide), _, rfl, iteT ⟨_, rfl, _, _, _, _, _, rfl, .ty _, .base (.bl b), kit_ty (r := true) (by decide), _, rfl, _, rfl, iteF ⟨rfl, rfl⟩⟩⟩
        | list ds =>
          cases d22 with
          | lst sx _ => exact ⟨_, rfl, _, _, _, _, _, rfl, .ty _, ty_seq sx, kit_ty (r := false) (by decide), _, rfl, iteF ⟨rfl, rfl⟩⟩
        | tuple ds =>
          cases d22 with
          | tup sx _ => exact ⟨_, rfl, _, _, _, _, _, rfl, .ty _, ty_tup sx, kit_ty (r := false) (by decide), _, rfl, iteF ⟨rfl, rfl⟩⟩
        | dict ds => cases d22
        | int x =>
          cases d22
          have hx' := hng2 x rfl
          obtain ⟨rows, q2, xs2, e0, e1, e2, e3⟩ := (hW.mono (s1.trans s2)).at (K := K) (l := n) (d := 1) hn (by decide)
          refine ⟨_, rfl, _, _, _, _, _, rfl, .ty _, .base (.int x), kit_ty (r := true) (by decide), _, rfl, iteT ⟨_, rfl, _, _, _, _, _, rfl, .ty _, .base (.int x), kit_ty (r := false) (by decide), _, rfl, _, rfl, iteT ?_⟩⟩
          refine ⟨_, rfl, _, _, rfl, rfl, _, rfl, ite2 (fun h => ?_) (fun h => ?_)⟩
          · have h0 : 0 ≤ x := of_decide_eq_true h
            exact ⟨_, rfl, _, rfl, p, _, _, _, rfl, rfl, SqL.of e0, e1, q2, _, _, _, rfl, rfl, e2, e3, _, _, rfl, rfl, by rw [show V.bl false = V.bl (decide (x < W rl n 1)) by rw [decide_eq_false fun z => hx' ⟨h0, z⟩]]; rfl, rfl⟩
          · exact ⟨by rw [show V.bl false = V.bl (decide (0 ≤ x)) by rw [decide_eq_false fun z => h (decide_eq_true z)]]; rfl, rfl⟩
      rintro σ H3 ⟨rfl, rfl⟩
      exact ⟨_, rfl, _, rfl, iteT ⟨_, rfl, p2, _, _, _, rfl, rfl, SqL.of hp2, atI_nat (j := 0) rfl, _, rfl, _, rfl, iteT ⟨_, rfl, p2, _, _, _, rfl, rfl, SqL.of hp2, atI_nat (j := 1) rfl, _, rfl, v, v2, d, rfl, hok, hv2, d22, q _ (s1.trans s2)⟩⟩⟩
end

/-! ### spoilt words, the law asked -/
theorem cut_le2 (z : Str) (k : Nat) : (cutS z (some (k : Int)) none).length ≤ z.length - k := by
  have e1 : HT.sIx z.length z.length none = z.length := rfl
  show ((z.cps.toList.drop (HT.sIx z.length 0 (some (k : Int)))).take _).toArray.size ≤ _
  have hl : z.cps.toList.length = z.length := by rw [Array.length_toList]; rfl
  rw [HT.sIx_nat, e1, List.size_toArray, List.length_take, List.length_drop, hl]
  omega
theorem cut_le1 (z : Str) (k : Nat) : (cutS z none (some (k : Int))).length ≤ k := by
  show ((z.cps.toList.drop (HT.sIx z.length 0 none)).take (HT.sIx z.length z.length (some (k : Int)) - HT.sIx z.length 0 none)).toArray.size ≤ _
  rw [HT.sIx_nat, List.size_toArray, List.length_take]
  omega
theorem len_app (a b : Str) : (a ++ b).length = a.length + b.length := str_app_len a b
theorem tp_moreD {B H H' : Hp} {t : Addr} {c : Nat} (T : Tp B H t c) (s : Same H H') : ∃ B', Same B B' ∧ Tp B' H' t c ∧ Same (dif H H') B' := by
  obtain ⟨B', h1, h2, h3⟩ := T.more s
  refine ⟨B', h1, h2, fun a o e => ?_⟩
  cases hH : H a with
  | none =>
    refine h3 a o hH ?_
    unfold dif at e
    rw [hH] at e
    exact e
  | some x =>
    rw [dif_off hH] at e
    cases e
def spSpoilt : Sp := fun vs H Q _ => ∃ (B : Hp) (t : Addr) (c m : Nat) (z : Str), vs = [.ref t, .str z] ∧ Tp B H t c ∧ c < 100000000 ∧ z.length = 3 * m ∧ m ≤ 24 ∧ ∀ H' y, Tp B H' t (c + 10) → y.length ≤ 72 → Q (.str y) H'
def spAsks (K : PySem.W.Frag) : Sp := fun vs H Q _ => ∃ (a : Addr) (ns : List Int), vs = [.ref a] ∧ SqL K H a (ns.map V.int) ∧ ns.length ≤ 63 ∧ ∀ H', Q (.bl true) H'
section
variable {P : Program} {w : World} {K : PySem.W.Frag} {mg : Str → Option Value} {base : Heap} {C_Reels C_Stacks A_TOK : Addr} {C_NoProgram C_InvalidNumber : Addr}
theorem ok_law_spoilt {f : Addr} {fd : FuncData} (F : Fun K "_law_spoilt" "_law_spoilt" s_law_spoilt f fd) (T : Txt K mg C_Reels C_Stacks A_TOK) (c_law_draw : Cal P w K mg base 1 "_law_draw" spDraw) (c_law_word : Cal P w K mg base 1 "_law_word" spLawWord) : FnOk P w K mg base CX0 2 f fd ["tape", "word"] spSpoilt := by
  refine F.ok sc_law_spoilt (fun vs H Q E h => ?_) (fun cdv A outer s H vs Q E hr h => ?_)
  · obtain ⟨B, t, c, m, z, rfl, _⟩ := h
    rfl
  · obtain ⟨B, t, c, m, z, rfl, T0, hc, hm, h24, q⟩ := h
    refine ⟨_, (pss_cons (ps_set (i := 2) sc_law_spoilt.nd rfl (by first | exact Or.inl rfl | exact Or.inr rfl) (pe_op op_mul pe_int (pe_c c_law_draw hr (by omega) (by rfl) (pa_cons (pv 0) (pa_cons (pe_callB (call_max2 rfl) (by rfl) T.b_max (by decide +kernel) (pa_cons pe_int (pa_cons (pe_op op_fdiv (pe_callB call_len_str (by rfl) T.b_len PySem.boot_len (pa_cons (pv 1) pa_nil)) pe_int) pa_nil))) pa_nil)))))
    (pss_cons (ps_set (i := 3) sc_law_spoilt.nd rfl (by first | exact Or.inl rfl | exact Or.inr rfl) (pe_c c_law_word hr (by omega) (by rfl) (pa_cons (pe_c c_law_draw hr (by omega) (by rfl) (pa_cons (pv 0) (pa_cons pe_int pa_nil))) (pa_cons pe_int pa_nil))))
    (pss_cons (ps_set (i := 4) sc_law_spoilt.nd rfl (by first | exact Or.inl rfl | exact Or.inr rfl) (pe_c c_law_draw hr (by omega) (by rfl) (pa_cons (pv 0) (pa_cons pe_int pa_nil))))
    (pss_cons (ps_if (pt_cmpR op_eq (pv 4) pe_int (nomark _))
      (pss_one (ps_ret (pe_op op_add_str (pe_slice sl_str (pv 1) po_none (po_some (pv 2))) (pe_slice sl_str (pv 1) (po_some (pe_op op_add (pv 2) pe_int)) po_none))))
      pss_nil)
    (C8.pss_cut (ps_if (PW.pt (pw_and (pt_cmpR op_eq (pv 4) pe_int (nomark _)) (pw_and1 (pt_cmpR op_lt (pe_callB call_len_str (by rfl) T.b_len PySem.boot_len (pa_cons (pv 1) pa_nil)) pe_int (nomark _)))))
      (pss_one (ps_ret (pe_op op_add_str (pe_op op_add_str (pe_slice sl_str (pv 1) po_none (po_some (pv 2))) (pv 3)) (pe_slice sl_str (pv 1) (po_some (pv 2)) po_none))))
      pss_nil)
    (pss_cons (ps_if (pt_cmpR op_eq (pv 4) pe_int (nomark _))
      (pss_one (ps_ret (pe_op op_add_str (pe_op op_add_str (pe_slice sl_str (pv 1) po_none (po_some (pv 2))) (pv 3)) (pe_slice sl_str (pv 1) (po_some (pe_op op_add (pv 2) pe_int)) po_none))))
      pss_nil)
    (pss_cons (ps_if (pt_cmpR op_eq (pv 4) pe_int (nomark _))
      (pss_one (ps_ret (pe_op op_add_str (pe_slice sl_str (pv 1) po_none (po_some (pv 2))) (pe_slice sl_str (pv 1) (po_some (pe_op op_add (pv 2) pe_int)) po_none))))
      pss_nil)
    (pss_one (ps_ret (pe_op op_add_str (pe_op op_add_str (pe_slice sl_str (pv 1) po_none (po_some (pv 2))) pe_str) (pe_slice sl_str (pv 1) (po_some (pe_op op_add (pv 2) pe_int)) po_none))))))))))), ?_⟩
    obtain ⟨lim, el, l1, l2⟩ : ∃ lim : Nat, (if ((z.length : Nat) : Int) / 3 > 1 then ((z.length : Nat) : Int) / 3 else 1) = (lim : Int) ∧ 1 ≤ lim ∧ (lim = 1 ∨ lim = m) := by
      by_cases h : ((z.length : Nat) : Int) / 3 > 1
      · rw [if_pos h]; exact ⟨m, by omega, by omega, .inr rfl⟩
      · rw [if_neg h]; exact ⟨1, rfl, by decide, .inl rfl⟩
    refine ⟨_, rfl, _, rfl, z, rfl, szle (by omega), _, _, rfl, rfl, ⟨by decide, by decide⟩, 1, _, rfl, B, t, _, (lim : Int), congrArg (fun x => [V.ref t, V.int x]) el, T0, by omega, by omega, by omega, fun H1 a T1 a0 a1 => ?_⟩
    obtain ⟨a, rfl⟩ := nat_of a0
    refine ⟨_, _, rfl, rfl, .inl ⟨by omega, by omega⟩, ?_⟩
    refine ⟨_, rfl, B, t, _, 8, rfl, T1, by decide, by decide, by omega, fun H2 x T2 x0 x1 => ?_⟩
    obtain ⟨x, rfl⟩ := nat_of x0
    refine ⟨x, 3, rfl, by decide, fun H3 s3 => ?_⟩
    have T3 := T2.ext s3
    obtain ⟨tk, etk⟩ : ∃ tk, wordS 3 x = tk := ⟨_, rfl⟩
    have tl : tk.length = 3 := by rw [← etk, wordS_len]
    rw [etk]
    refine ⟨_, rfl, B, t, _, 5, rfl, T3, by decide, by decide, by omega, fun H4 kd T4 _ _ => ?_⟩
    have q' : ∀ y : Str, y.length ≤ 72 → Q (.str y) H4 := fun y hy => q H4 y (T4.le (by omega)) hy
    have h1 : (cutS z none (some (3 * (a : Int)))).length ≤ 3 * a := by rw [show 3 * (a : Int) = ((3 * a : Nat) : Int) by omega]; exact cut_le1 _ _
    have h2 : (cutS z (some (3 * (a : Int) + 3)) none).length ≤ z.length - (3 * a + 3) := by rw [show 3 * (a : Int) + 3 = ((3 * a + 3 : Nat) : Int) by omega]; exact cut_le2 _ _
    have h3 : (cutS z (some (3 * (a : Int))) none).length ≤ z.length - 3 * a := by rw [show 3 * (a : Int) = ((3 * a : Nat) : Int) by omega]; exact cut_le2 _ _
    have h4 : (cutS z (some (3 * (a : Int) + 1)) none).length ≤ z.length - (3 * a + 1) := by rw [show 3 * (a : Int) + 1 = ((3 * a + 1 : Nat) : Int) by omega]; exact cut_le2 _ _
    have ls : (" " : Str).length = 1 := rfl
    refine ⟨_, rfl, rfl, _, rfl, ite2 (fun _ => ?_) (fun _ => ?_)⟩
    · exact ⟨_, rfl, _, rfl, _, rfl, z, rfl, szle (by omega), _, rfl, _, rfl, _, _, rfl, rfl, _, rfl, z, rfl, szle (by omega), _, _, rfl, rfl, szle (by omega), q' _ (by rw [len_app]; omega)⟩
    refine ⟨fun σ H' => σ = [some (.ref t), some (.str z), some (.int (3 * (a : Int))), some (.str tk), some (.int kd)] ∧ H' = H4, ?_, ?_⟩
    · refine ⟨_, rfl, rfl, _, rfl, ite2 (fun _ => ?_) (fun _ => iteF ⟨rfl, rfl⟩)⟩
      refine ⟨_, rfl, z, rfl, szle (by omega), _, _, rfl, rfl, _, rfl, ite2 (fun h => ?_) (fun _ => ⟨rfl, rfl⟩)⟩
      have h72 : ((z.length : Nat) : Int) < 72 := of_decide_eq_true h
      exact ⟨_, rfl, _, rfl, _, rfl, z, rfl, szle (by omega), _, rfl, _, _, rfl, rfl, szle (by omega), _, rfl, _, rfl, _, rfl, z, rfl, szle (by omega), _, _, rfl, rfl, szle (by rw [len_app]; omega), q' _ (by rw [len_app, len_app]; omega)⟩
    rintro σ H5 ⟨rfl, rfl⟩
    refine ⟨_, rfl, rfl, _, rfl, ite2 (fun _ => ?_) (fun _ => ?_)⟩
    · exact ⟨_, rfl, _, rfl, _, rfl, z, rfl, szle (by omega), _, rfl, _, _, rfl, rfl, szle (by omega), _, rfl, _, rfl, _, _, rfl, rfl, _, rfl, z, rfl, szle (by omega), _, _, rfl, rfl, szle (by rw [len_app]; omega), q' _ (by rw [len_app, len_app]; omega)⟩
    refine ⟨_, rfl, rfl, _, rfl, ite2 (fun _ => ?_) (fun _ => ?_)⟩
    · exact ⟨_, rfl, _, rfl, _, rfl, z, rfl, szle (by omega), _, rfl, _, rfl, _, _, rfl, rfl, _, rfl, z, rfl, szle (by omega), _, _, rfl, rfl, szle (by omega), q' _ (by rw [len_app]; omega)⟩
    exact ⟨_, rfl, _, rfl, _, rfl, z, rfl, szle (by omega), _, _, rfl, rfl, szle (by omega), _, rfl, _, rfl, _, _, rfl, rfl, _, rfl, z, rfl, szle (by omega), _, _, rfl, rfl, szle (by rw [len_app]; omega), q' _ (by rw [len_app, len_app]; omega)⟩
theorem ok_law_asks {f : Addr} {fd : FuncData} (F : Fun K "_law_asks" "_law_asks" s_law_asks f fd) (T : Txt K mg C_Reels C_Stacks A_TOK) (lcR : LgC K C_Reels true) (lcS : LgC K C_Stacks false) (c_law_tape : Cal P w K mg base 1 "_law_tape" (spTape K)) (c_law_draw : Cal P w K mg base 1 "_law_draw" spDraw) (c_law_ways : Cal P w K mg base 1 "_law_ways" (spLWays K)) (c_law_ranked : Cal P w K mg base 2 "_law_ranked" (spRanked K)) (c_law_spoilt : Cal P w K mg base 2 "_law_spoilt" spSpoilt) (c_law_stranger : Cal P w K mg base 5 "_law_stranger" (spStranger K 3)) (c_law_number_right : Cal P w K mg base 7 "_law_number_right" (spNumR K C_Reels C_Stacks)) (c_law_program_right : Cal P w K mg base 7 "_law_program_right" (spPrgR K C_Reels C_Stacks)) : FnOk P w K mg base CX0 8 f fd ["script"] (spAsks K) := by
  refine F.ok sc_law_asks (fun vs H Q E h => ?_) (fun cdv A outer s H vs Q E hr h => ?_)
  · obtain ⟨a, ns, rfl, _⟩ := h
    rfl
  · obtain ⟨a, ns, rfl, hS, hlen, q⟩ := h
    have m_Reels := lcR.mk0
    have m_Stacks := lcS.mk0
    refine ⟨_, (pss_cons (ps_set (i := 1) sc_law_asks.nd rfl (by first | exact Or.inl rfl | exact Or.inr rfl) (pe_c c_law_tape hr (by omega) (by rfl) (pa_cons (pv 0) pa_nil)))
    (pss_cons (ps_set (i := 2) sc_law_asks.nd rfl (by first | exact Or.inl rfl | exact Or.inr rfl) (pe_c c_law_draw hr (by omega) (by rfl) (pa_cons (pv 1) (pa_cons pe_int pa_nil))))
    (pss_cons (ps_set (i := 3) sc_law_asks.nd rfl (by first | exact Or.inl rfl | exact Or.inr rfl) (pe_ix ix_list (pe_lst (pa_cons (pe_new0 m_Reels (by rfl) T.g_Reels) (pa_cons (pe_new0 m_Stacks (by rfl) T.g_Stacks) pa_nil))) (pv 2) (fun _ _ => rfl)))
    (pss_cons (ps_set (i := 4) sc_law_asks.nd rfl (by first | exact Or.inl rfl | exact Or.inr rfl) (pe_ix ix_list (pe_lst (pa_cons (pe_tup (pa_cons pe_int (pa_cons pe_int pa_nil))) (pa_cons (pe_tup (pa_cons pe_int (pa_cons pe_int pa_nil))) pa_nil))) (pv 2) (fun _ _ => rfl)))
    (pss_cons (ps_set (i := 5) sc_law_asks.nd rfl (by first | exact Or.inl rfl | exact Or.inr rfl) (pe_c c_law_ways hr (by omega) (by rfl) (pa_cons (pv 4) pa_nil)))
    (pss_cons (ps_set (i := 6) sc_law_asks.nd rfl (by first | exact Or.inl rfl | exact Or.inr rfl) (pe_c c_law_draw hr (by omega) (by rfl) (pa_cons (pv 1) (pa_cons pe_int pa_nil))))
    (C8.pss_cut (ps_if (pt_cmpR op_eq (pe_c c_law_draw hr (by omega) (by rfl) (pa_cons (pv 1) (pa_cons pe_int pa_nil))) pe_int (nomark _))
      (pss_one (ps_set (i := 6) sc_law_asks.nd rfl (by first | exact Or.inl rfl | exact Or.inr rfl) (pe_c c_law_draw hr (by omega) (by rfl) (pa_cons (pv 1) (pa_cons pe_int pa_nil)))))
      pss_nil)
    (pss_cons (ps_set (i := 7) sc_law_asks.nd rfl (by first | exact Or.inl rfl | exact Or.inr rfl) (pe_ix ix_list (pe_ix ix_list (pv 5) (pv 6) (fun _ _ => rfl)) pe_int (fun _ _ => rfl)))
    (pss_cons (ps_setLc (i := 8) (own := [("k", 9)]) rfl sc_law_asks.nd rfl rfl (sw_true rfl rfl rfl (by decide +kernel)) (pi_range1 (by rfl) T.b_range (pa_cons pe_int pa_nil)) (blkOk_by (own := [("k", 9)]) (N := ["script", "tape", "which", "language", "closers", "ways", "tokens", "count", "drawn", "k", "middle", "numbers", "word", "values"]) (sc := defScope s_law_asks) (by decide +kernel)) (fun _ _ _ _ _ => (pg_name (i := 9) sc_law_asks.nd rfl (by first | exact Or.inl rfl | exact Or.inr rfl))) (fun _ _ _ _ _ => pts_nil) (fun _ _ _ _ _ => (pe_c c_law_draw hr (by omega) (by rfl) (pa_cons (pv 1) (pa_cons (pe_op op_pow pe_int pe_int) pa_nil)))))
    (C8.pss_cut (ps_set (i := 10) sc_law_asks.nd rfl (by first | exact Or.inl rfl | exact Or.inr rfl) (pe_op op_mod (pe_callTy call_int1 (by rfl) T.b_int (by decide +kernel) (pa_cons (pe_op op_add (pe_op op_mul (pe_op op_add (pe_op op_mul (pe_op op_add (pe_op op_mul (pe_ix ix_list (pv 8) pe_int (fun _ _ => rfl)) (pe_op op_pow pe_int pe_int)) (pe_ix ix_list (pv 8) pe_int (fun _ _ => rfl))) (pe_op op_pow pe_int pe_int)) (pe_ix ix_list (pv 8) pe_int (fun _ _ => rfl))) (pe_op op_pow pe_int pe_int)) (pe_ix ix_list (pv 8) pe_int (fun _ _ => rfl))) pa_nil)) (pe_callB (call_max2 rfl) (by rfl) T.b_max (by decide +kernel) (pa_cons pe_int (pa_cons (pv 7) pa_nil)))))
    (pss_cons (ps_set (i := 11) sc_law_asks.nd rfl (by first | exact Or.inl rfl | exact Or.inr rfl) (pe_lst (pa_cons pe_int (pa_cons (pe_op op_sub (pv 7) pe_int) (pa_cons (pv 10) (pa_cons (pe_op op_add (pv 10) pe_int) (pa_cons (pv 7) (pa_cons (pe_un un_neg pe_int) (pa_cons (pe_op op_add (pv 7) (pe_ix ix_list (pv 8) pe_int (fun _ _ => rfl))) (pa_cons (pe_c c_law_stranger hr (by omega) (by rfl) (pa_cons (pv 1) (pa_cons pe_int pa_nil))) pa_nil))))))))))
    (pss_cons (ps_for PassesOwn.never rfl (pi_range1 (by rfl) T.b_range (pa_cons (pe_callB call_len_seq (by rfl) T.b_len PySem.boot_len (pa_cons (pv 11) pa_nil)) pa_nil)) (pg_name (i := 9) sc_law_asks.nd rfl (by first | exact Or.inl rfl | exact Or.inr rfl))
      (pss_one (ps_if (pt_not (pt_val (pe_c c_law_number_right hr (by omega) (by rfl) (pa_cons (pv 3) (pa_cons (pv 5) (pa_cons (pv 4) (pa_cons (pv 6) (pa_cons (pe_ix ix_list (pv 11) (pv 9) (fun _ _ => rfl)) (pa_cons (pe_cmpR op_eq (pv 9) (pe_op op_mod (pe_ix ix_list (pv 8) pe_int (fun _ _ => rfl)) pe_int) (nomark _)) pa_nil)))))))))
          (pss_one (ps_ret pe_bl))
          pss_nil)))
    (C8.pss_cut (ps_set (i := 12) sc_law_asks.nd rfl (by first | exact Or.inl rfl | exact Or.inr rfl) (pe_ifExp (pt_cmpR op_gt (pv 7) pe_int (nomark _)) (pe_c c_law_ranked hr (by omega) (by rfl) (pa_cons (pv 5) (pa_cons (pv 4) (pa_cons (pv 6) (pa_cons (pv 10) pa_nil))))) pe_str))
    (pss_cons (ps_set (i := 13) sc_law_asks.nd rfl (by first | exact Or.inl rfl | exact Or.inr rfl) (pe_lst (pa_cons (pe_c c_law_spoilt hr (by omega) (by rfl) (pa_cons (pv 1) (pa_cons (pv 12) pa_nil))) (pa_cons (pe_c c_law_spoilt hr (by omega) (by rfl) (pa_cons (pv 1) (pa_cons (pv 12) pa_nil))) (pa_cons (pe_c c_law_stranger hr (by omega) (by rfl) (pa_cons (pv 1) (pa_cons pe_int pa_nil))) (pa_cons (pv 12) (pa_cons pe_str (pa_cons (pe_ix ix_list (pv 8) pe_int (fun _ _ => rfl)) pa_nil))))))))
    (pss_cons (ps_for PassesOwn.never rfl (pi_range1 (by rfl) T.b_range (pa_cons (pe_callB call_len_seq (by rfl) T.b_len PySem.boot_len (pa_cons (pv 13) pa_nil)) pa_nil)) (pg_name (i := 9) sc_law_asks.nd rfl (by first | exact Or.inl rfl | exact Or.inr rfl))
      (pss_one (ps_if (pt_not (pt_val (pe_c c_law_program_right hr (by omega) (by rfl) (pa_cons (pv 3) (pa_cons (pv 5) (pa_cons (pv 4) (pa_cons (pe_ix ix_list (pv 13) (pv 9) (fun _ _ => rfl)) (pa_cons (pe_cmpR op_eq (pv 9) (pe_op op_mod (pe_ix ix_list (pv 8) pe_int (fun _ _ => rfl)) pe_int) (nomark _)) pa_nil))))))))
          (pss_one (ps_ret pe_bl))
          pss_nil)))
    (pss_one (ps_ret pe_bl))))))))))))))))), ?_⟩
    refine ⟨_, rfl, a, ns, rfl, hS, hlen, fun H0 t T0 => ?_⟩
    refine ⟨_, rfl, _, t, 0, 2, rfl, T0, by decide, by decide, by decide, fun H1 wh T1 w0 w1 => ?_⟩
    -- language
    refine fun l1 d1 hl1 hd1 n1 => ?_
    have T2 := T1.inst (C := C_Reels) (fs := []) hl1 hd1 n1
    refine fun l2 d2 hl2 hd2 n2 => ?_
    have T3 := T2.inst (C := C_Stacks) (fs := []) hl2 hd2 n2
    have f1 : (upd (upd (upd (upd H d1 (.own l1)) l1 (.ins C_Reels d1 [])) d2 (.own l2)) l2 (.ins C_Stacks d2 [])) l1 = some (.ins C_Reels d1 []) := same_ins (T2.isn hl2) (T2.isn hd2) n2 _ _ upd_same
    have f2 : (upd (upd (upd (upd H d1 (.own l1)) l1 (.ins C_Reels d1 [])) d2 (.own l2)) l2 (.ins C_Stacks d2 [])) l2 = some (.ins C_Stacks d2 []) := upd_same
    generalize upd (upd (upd (upd H d1 (.own l1)) l1 (.ins C_Reels d1 [])) d2 (.own l2)) l2 (.ins C_Stacks d2 []) = B3 at T3 f1 f2
    refine ⟨szle (by show 2 ≤ 16777216; decide), fun ls hls => ?_⟩
    obtain ⟨rl, r, dx, hat, fx⟩ : ∃ (rl : Bool) (r dx : Addr), wh = (if rl = true then 0 else 1) ∧ (r = if rl = true then l1 else l2) ∧ B3 r = some (.ins (clL C_Reels C_Stacks rl) dx []) := by
      rcases (by omega : wh = 0 ∨ wh = 1) with e | e
      · exact ⟨true, l1, d1, e, rfl, f1⟩
      · exact ⟨false, l2, d2, e, rfl, f2⟩
    obtain ⟨er, fx⟩ := fx
    have T4 := T3.ext (same_upd (o := .lst [.ref l1, .ref l2]) hls)
    refine ⟨_, rfl, ls, _, _, .ref r, rfl, rfl, SqL.of upd_same, by rw [hat, er]; cases rl <;> rfl, ?_⟩
    -- closers
    refine ⟨szle (by show 2 ≤ 16777216; decide), fun p1 hp1 => ?_⟩
    have T5 := T4.new (o := .tup [.int 0, .int 7]) hp1
    refine ⟨szle (by show 2 ≤ 16777216; decide), fun p2 hp2 => ?_⟩
    have T6 := T5.new (o := .tup [.int 0, .int 0]) hp2
    have fx6 : (upd (upd B3 p1 (.tup [.int 0, .int 7])) p2 (.tup [.int 0, .int 0])) r = some (.ins (clL C_Reels C_Stacks rl) dx []) := same_upd (T5.isn hp2) _ _ (same_upd (T4.isn hp1) _ _ fx)
    obtain ⟨tc, etc, ftc⟩ : ∃ tc, (tc = if rl = true then p1 else p2) ∧ (upd (upd B3 p1 (.tup [.int 0, .int 7])) p2 (.tup [.int 0, .int 0])) tc = some (.tup (clT rl)) := by
      cases rl
      · exact ⟨p2, rfl, upd_same⟩
      · exact ⟨p1, rfl, same_upd (T5.isn hp2) _ _ upd_same⟩
    generalize upd (upd B3 p1 (.tup [.int 0, .int 7])) p2 (.tup [.int 0, .int 0]) = B6 at T6 fx6 ftc
    refine ⟨szle (by show 2 ≤ 16777216; decide), fun ks hks => ?_⟩
    have T7 := T6.ext (same_upd (o := .lst [.ref p1, .ref p2]) hks)
    refine ⟨_, rfl, ks, _, _, .ref tc, rfl, rfl, SqL.of upd_same, by rw [hat, etc]; cases rl <;> rfl, ?_⟩
    generalize upd (upd (upd _ p1 (.tup [.int 0, .int 7])) p2 (.tup [.int 0, .int 0])) ks (.lst [.ref p1, .ref p2]) = H7 at T7 ⊢
    have lc : LgC K (clL C_Reels C_Stacks rl) rl := by
      cases rl
      · exact lcS
      · exact lcR
    -- ways
    refine ⟨_, rfl, tc, rl, rfl, SqT.of (T7.at ftc), fun H8 pw s8 hW0 => ?_⟩
    obtain ⟨B8, sB8, T8, sd⟩ := tp_moreD T7 s8
    have hW := hW0.mono sd
    have fx8 := sB8 _ _ fx6
    have ftc8 := sB8 _ _ ftc
    clear hW0 sd T7 T6 T5 T4 T3 T2 T1 fx6 ftc f1 f2 fx er etc hat
    -- tokens
    refine ⟨_, rfl, B8, t, _, 25, rfl, T8, by decide, by decide, by decide, fun H9 n0 T9 a0 a1 => ?_⟩
    obtain ⟨n0, rfl⟩ := nat_of a0
    refine ⟨fun σ H' => ∃ n, n ≤ 24 ∧ σ = [some (.ref a), some (.ref t), some (.int wh), some (.ref r), some (.ref tc), some (.ref pw), some (.int ((n : Nat) : Int)), none, none, none, none, none, none, none] ∧ Tp B8 H' t 10, ?_, ?_⟩
    · refine ⟨_, rfl, B8, t, _, 2, rfl, T9, by decide, by decide, by decide, fun H10 k T10 _ _ => ⟨rfl, _, rfl, ite2 (fun _ => ?_) (fun _ => ?_)⟩⟩
      · refine ⟨_, rfl, B8, t, _, 5, rfl, T10, by decide, by decide, by decide, fun H11 k T11 k0 k1 => ?_⟩
        obtain ⟨k, rfl⟩ := nat_of k0
        exact ⟨k, by omega, rfl, T11.le (by decide)⟩
      · exact ⟨n0, by omega, rfl, T10.le (by decide)⟩
    rintro σ H10 ⟨n, hn, rfl, T10⟩
    obtain ⟨rows, q1, xs1, e0, e1, e2, e3⟩ := hW.at (K := K) (l := n) (d := 1) hn (by decide)
    refine ⟨_, rfl, _, rfl, pw, _, _, _, rfl, rfl, SqL.of (T10.at e0), e1, q1, _, _, _, rfl, rfl, T10.same.seq e2, e3, ?_⟩
    have W0 := W_nn rl n 1
    -- drawn
    refine ⟨4, rfl, by decide, by decide, fun D hD => lc_range (lo := 0) (n := 4) (fun i H' => ∃ ds : List Int, ds.length = i ∧ (∀ x ∈ ds, 0 ≤ x) ∧ Tp (upd B8 D (.lst (ds.map V.int))) H' t (20 + i)) ⟨[], rfl, fun x h => (by cases h), (T10.new hD).le (by decide)⟩ ?_ ?_⟩
    · rintro i H' hi ⟨ds, dl, d0, T11⟩
      refine ⟨rfl, iteT (B := ∃ ds : List Int, ds.length = i + 1 ∧ (∀ x ∈ ds, 0 ≤ x) ∧ Tp (upd B8 D (.lst (ds.map V.int))) H' t (20 + (i + 1))) ?_⟩
      refine ⟨_, rfl, _, _, rfl, rfl, ⟨by decide, by decide, by decide⟩, _, t, _, 1000000, rfl, T11, by decide, by decide, by omega, fun H12 x T12 x0 x1 => ?_⟩
      refine ⟨_, T12.at upd_same, szl (by rw [List.length_map]; omega), ds ++ [x], by rw [List.length_append, dl]; rfl, fun y hy => ?_, ?_⟩
      · rcases List.mem_append.mp hy with h | h
        · exact d0 y h
        · rw [List.mem_singleton.mp h]; exact x0
      · have := T12.set (o' := .lst ((ds ++ [x]).map V.int)) upd_same
        rw [upd_upd] at this
        rw [List.map_append] at this ⊢
        exact this
    rintro H11 ⟨ds, dl, dge, T11⟩
    obtain ⟨d0, d1, d2, d3, rfl⟩ : ∃ d0 d1 d2 d3, ds = [d0, d1, d2, d3] := by
      match ds, dl with
      | [a, b, c, d], _ => exact ⟨a, b, c, d, rfl⟩
    have sB11 := same_upd (o := .lst ([d0, d1, d2, d3].map V.int)) (T10.isn hD)
    have fD : (upd B8 D (.lst ([d0, d1, d2, d3].map V.int))) D = some (.lst [.int d0, .int d1, .int d2, .int d3]) := upd_same
    have fx11 := sB11 _ _ fx8
    have ftc11 := sB11 _ _ ftc8
    have hW11 := hW.mono sB11
    generalize upd B8 D (.lst ([d0, d1, d2, d3].map V.int)) = B11 at T11 fD fx11 ftc11 hW11
    clear fx8 ftc8 hW sB11 T10 T9 T8 sB8 e0 e1 e2 e3
    have at0 : atI [V.int d0, V.int d1, V.int d2, V.int d3] 0 = some (.int d0) := atI_nat (j := 0) rfl
    have at1 : atI [V.int d0, V.int d1, V.int d2, V.int d3] 1 = some (.int d1) := atI_nat (j := 1) rfl
    have at2 : atI [V.int d0, V.int d1, V.int d2, V.int d3] 2 = some (.int d2) := atI_nat (j := 2) rfl
    have at3 : atI [V.int d0, V.int d1, V.int d2, V.int d3] 3 = some (.int d3) := atI_nat (j := 3) rfl
    obtain ⟨cnt, ecnt⟩ : ∃ cnt, W rl n 1 = cnt := ⟨_, rfl⟩
    rw [ecnt] at W0 ⊢
    -- middle
    refine ⟨fun σ H' => ∃ m0 : Int, 0 ≤ m0 ∧ (0 < cnt → m0 < cnt) ∧ σ = [some (.ref a), some (.ref t), some (.int wh), some (.ref r), some (.ref tc), some (.ref pw), some (.int ((n : Nat) : Int)), some (.int cnt), some (.ref D), none, some (.int m0), none, none, none] ∧ H' = H11, ?_, ?_⟩
    · have sD : SqL K H11 D [.int d0, .int d1, .int d2, .int d3] := SqL.of (T11.at fD)
      refine ⟨_, rfl, D, _, _, _, rfl, rfl, sD, at0, _, _, rfl, rfl, ⟨by decide, by decide, by decide⟩, _, _, rfl, rfl, .inr ⟨by decide, by decide⟩, _, rfl, D, _, _, _, rfl, rfl, sD, at1, _, _, rfl, rfl, ?_⟩
      refine ⟨_, _, rfl, rfl, ⟨by decide, by decide, by decide⟩, _, _, rfl, rfl, .inr ⟨by decide, by decide⟩, _, rfl, D, _, _, _, rfl, rfl, sD, at2, _, _, rfl, rfl, ?_⟩
      refine ⟨_, _, rfl, rfl, ⟨by decide, by decide, by decide⟩, _, _, rfl, rfl, .inr ⟨by decide, by decide⟩, _, rfl, D, _, _, _, rfl, rfl, sD, at3, _, _, rfl, rfl, ?_⟩
      refine .inl ⟨_, rfl, _, rfl, 1, cnt, rfl, _, _, rfl, rfl, ?_, _, ?_, ?_, rfl, rfl⟩
      · show (0 : Int) < if cnt > 1 then cnt else 1
        split <;> omega
      · exact Int.emod_nonneg _ (by show (if cnt > 1 then cnt else 1) ≠ 0; split <;> omega)
      · intro h
        refine Int.lt_of_lt_of_le (Int.emod_lt_of_pos _ (by show (0 : Int) < if cnt > 1 then cnt else 1; split <;> omega)) ?_
        show (if cnt > 1 then cnt else 1) ≤ cnt
        split <;> omega
    rintro σ H12 ⟨m0, m00, m01, rfl, rfl⟩
    -- numbers
    refine ⟨_, rfl, _, _, rfl, rfl, _, rfl, _, rfl, _, _, rfl, rfl, _, rfl, _, rfl, _, rfl, _, rfl, D, _, _, _, rfl, rfl, SqL.of (T11.at fD), at0, _, _, rfl, rfl, ?_⟩
    refine ⟨_, rfl, B11, t, _, 2, rfl, by decide, T11, by decide, fun H13 v d N T13 nw dv okd hz => ?_⟩
    have sN : Same N (mrg B11 N) := mrg_r fun p hp => nw p hp
    have sB : Same B11 (mrg B11 N) := mrg_l
    have fD13 := sB _ _ fD
    have fx13 := sB _ _ fx11
    have ftc13 := sB _ _ ftc11
    have hW13 := hW11.mono sB
    have dv13 := Dp.mono sN _ _ dv
    generalize mrg B11 N = B13 at T13 fD13 fx13 ftc13 hW13 dv13
    clear sN sB
    refine ⟨szle (by show 8 ≤ 16777216; decide), fun nl hnl => ?_⟩
    have hvals : ∀ x ∈ [V.int 0, V.int (cnt - 1), V.int m0, V.int (m0 + 1), V.int cnt, V.int (-1), V.int (cnt + d0), v], ∃ d, Dp K B13 x d ∧ okD 4 d = true := by
      intro x hx
      simp only [List.mem_cons, List.not_mem_nil, or_false] at hx
      rcases hx with e | e | e | e | e | e | e | e <;> subst e
      · exact ⟨.int _, .int _, rfl⟩
      · exact ⟨.int _, .int _, rfl⟩
      · exact ⟨.int _, .int _, rfl⟩
      · exact ⟨.int _, .int _, rfl⟩
      · exact ⟨.int _, .int _, rfl⟩
      · exact ⟨.int _, .int _, rfl⟩
      · exact ⟨.int _, .int _, rfl⟩
      · exact ⟨d, dv13, okd⟩
    have T14 := (T13.new (o := .lst [V.int 0, V.int (cnt - 1), V.int m0, V.int (m0 + 1), V.int cnt, V.int (-1), V.int (cnt + d0), v]) hnl).le (d := 600) (by decide)
    have s14 := same_upd (o := .lst [V.int 0, V.int (cnt - 1), V.int m0, V.int (m0 + 1), V.int cnt, V.int (-1), V.int (cnt + d0), v]) (T13.isn hnl)
    have fnl : (upd B13 nl (.lst [V.int 0, V.int (cnt - 1), V.int m0, V.int (m0 + 1), V.int cnt, V.int (-1), V.int (cnt + d0), v])) nl = some (.lst [V.int 0, V.int (cnt - 1), V.int m0, V.int (m0 + 1), V.int cnt, V.int (-1), V.int (cnt + d0), v]) := upd_same
    have hlen8 : [V.int 0, V.int (cnt - 1), V.int m0, V.int (m0 + 1), V.int cnt, V.int (-1), V.int (cnt + d0), v].length = 8 := rfl
    generalize eV : [V.int 0, V.int (cnt - 1), V.int m0, V.int (m0 + 1), V.int cnt, V.int (-1), V.int (cnt + d0), v] = vals at hvals T14 s14 fnl hlen8
    have hvals14 : ∀ x ∈ vals, ∃ d, Dp K (upd B13 nl (.lst vals)) x d ∧ okD 4 d = true := fun x hx => by
      obtain ⟨d, h1, h2⟩ := hvals x hx
      exact ⟨d, Dp.mono s14 _ _ h1, h2⟩
    have fD14 := s14 _ _ fD13
    have fx14 := s14 _ _ fx13
    have ftc14 := s14 _ _ ftc13
    have hW14 := hW13.mono s14
    have eH14 : upd H13 nl (.lst [V.int 0, V.int (cnt - 1), V.int m0, V.int (m0 + 1), V.int cnt, V.int (-1), V.int (cnt + d0), v]) = upd H13 nl (.lst vals) := by rw [eV]
    refine ⟨_, rfl, nl, vals, rfl, .inl (SqL.of (by rw [← eV]; exact upd_same)), 8, by rw [hlen8]; rfl, by decide, by decide, for_range (n := 8) (fun k σ H' => ∃ v9, σ = [some (.ref a), some (.ref t), some (.int wh), some (.ref r), some (.ref tc), some (.ref pw), some (.int ((n : Nat) : Int)), some (.int cnt), some (.ref D), v9, some (.int m0), some (.ref nl), none, none] ∧ Tp (upd B13 nl (.lst vals)) H' t 600) ⟨_, rfl, by rw [← eV] at T14 ⊢; exact T14⟩ ?_ ?_⟩
    · rintro k σ H15 hk ⟨v9, rfl, T15⟩
      obtain ⟨x, hx⟩ : ∃ x, vals[k]? = some x := ⟨_, List.getElem?_eq_getElem (by omega)⟩
      obtain ⟨dd, dx1, dx2⟩ := hvals14 x (List.mem_of_getElem? hx)
      have hxa : atI vals (0 + (k : Int)) = some x := by rw [Int.zero_add]; exact atI_nat hx
      refine ⟨_, rfl, _, rfl, _, rfl, _, rfl, _, rfl, _, rfl, nl, _, _, _, rfl, rfl, SqL.of (T15.at fnl), hxa, _, rfl, _, rfl, D, _, _, _, rfl, rfl, SqL.of (T15.at fD14), at3, _, _, rfl, rfl, (by show (0 : Int) < 8; decide), rfl, ?_⟩
      exact ⟨r, dx, pw, tc, rl, n, x, dd, _, rfl, lc, T15.at fx14, hW14.mono T15.same, SqT.of (T15.at ftc14), hn, Dp.mono T15.same _ _ dx1, dx2, fun H16 s16 => ⟨_, rfl, iteF ⟨_, rfl, T15.ext s16⟩⟩⟩
    rintro σ H15 ⟨v9, rfl, T15⟩
    -- word
    refine ⟨fun σ H' => ∃ (z : Str) (m : Nat), z.length = 3 * m ∧ m ≤ 24 ∧ σ = [some (.ref a), some (.ref t), some (.int wh), some (.ref r), some (.ref tc), some (.ref pw), some (.int ((n : Nat) : Int)), some (.int cnt), some (.ref D), v9, some (.int m0), some (.ref nl), some (.str z), none] ∧ Tp (upd B13 nl (.lst vals)) H' t 600, ?_, ?_⟩
    · refine ⟨_, rfl, _, _, rfl, rfl, _, rfl, ite2 (fun h => ?_) (fun _ => ?_)⟩
      · have h0 : 0 < cnt := of_decide_eq_true h
        exact ⟨_, rfl, _, rfl, _, rfl, _, rfl, pw, tc, rl, n, m0, rfl, hW14.mono T15.same, SqT.of (T15.at ftc14), hn, m00, by rw [ecnt]; exact m01 h0, fun H16 cs s16 hl h8 _ _ => ⟨wC cs, n, by rw [wC_len h8, hl], hn, rfl, T15.ext s16⟩⟩
      · exact ⟨"", 0, rfl, by decide, rfl, T15⟩
    rintro σ H16 ⟨z, m, hzl, hm24, rfl, T16⟩
    -- values
    refine ⟨_, rfl, _, rfl, _, t, _, m, z, rfl, T16, by decide, hzl, hm24, fun H17 y1 T17 ly1 => ?_⟩
    refine ⟨_, rfl, _, rfl, _, t, _, m, z, rfl, T17, by decide, hzl, hm24, fun H18 y2 T18 ly2 => ?_⟩
    refine ⟨_, rfl, _, t, _, 2, rfl, by decide, T18, by decide, fun H19 v' d' N' T19 nw' dv' okd' hz' => ?_⟩
    generalize upd B13 nl (.lst vals) = B14 at *
    have sN : Same N' (mrg B14 N') := mrg_r fun p hp => nw' p hp
    have sB : Same B14 (mrg B14 N') := mrg_l
    have fD19 := sB _ _ fD14
    have fx19 := sB _ _ fx14
    have ftc19 := sB _ _ ftc14
    have hW19 := hW14.mono sB
    have dv19 := Dp.mono sN _ _ dv'
    generalize mrg B14 N' = B19 at T19 fD19 fx19 ftc19 hW19 dv19
    clear sN sB
    refine ⟨_, rfl, _, rfl, D, _, _, _, rfl, rfl, SqL.of (T19.at fD19), at1, szle (by show 6 ≤ 16777216; decide), fun vl hvl => ?_⟩
    have tx : ∀ y : Str, y.length ≤ 72 → ∃ d, Dp K B19 (.str y) d ∧ okD 4 d = true ∧ (∀ z, d = .str z → z.length ≤ 3000) ∧ (∀ z, d = .str z → isB z = true → z.length ≤ 72) := fun y hy => ⟨.str y, .str y, rfl, fun z e => by cases e; omega, fun z e _ => by cases e; exact hy⟩
    have hws : ∀ x ∈ [V.str y1, V.str y2, v', V.str z, V.str "", V.int d1], ∃ d, Dp K B19 x d ∧ okD 4 d = true ∧ (∀ z, d = .str z → z.length ≤ 3000) ∧ (∀ z, d = .str z → isB z = true → z.length ≤ 72) := by
      intro x hx
      simp only [List.mem_cons, List.not_mem_nil, or_false] at hx
      rcases hx with e | e | e | e | e | e <;> subst e
      · exact tx _ ly1
      · exact tx _ ly2
      · exact ⟨d', dv19, okd', fun z e => by have := (hz' z e).1; omega, fun z e => (hz' z e).2⟩
      · exact tx _ (by omega)
      · exact tx _ (by decide)
      · exact ⟨.int _, .int _, rfl, fun z e => (by cases e), fun z e => (by cases e)⟩
    have T20 := (T19.new (o := .lst [V.str y1, V.str y2, v', V.str z, V.str "", V.int d1]) hvl).le (d := 1300) (by decide)
    have s20 := same_upd (o := .lst [V.str y1, V.str y2, v', V.str z, V.str "", V.int d1]) (T19.isn hvl)
    have hlen6 : [V.str y1, V.str y2, v', V.str z, V.str "", V.int d1].length = 6 := rfl
    have fvl : (upd B19 vl (.lst [V.str y1, V.str y2, v', V.str z, V.str "", V.int d1])) vl = some (.lst [V.str y1, V.str y2, v', V.str z, V.str "", V.int d1]) := upd_same
    generalize eW : [V.str y1, V.str y2, v', V.str z, V.str "", V.int d1] = ws at hws T20 s20 fvl hlen6
    have hws20 : ∀ x ∈ ws, ∃ d, Dp K (upd B19 vl (.lst ws)) x d ∧ okD 4 d = true ∧ (∀ z, d = .str z → z.length ≤ 3000) ∧ (∀ z, d = .str z → isB z = true → z.length ≤ 72) := fun x hx => by
      obtain ⟨d, h1, h2⟩ := hws x hx
      exact ⟨d, Dp.mono s20 _ _ h1, h2⟩
    have fD20 := s20 _ _ fD19
    have fx20 := s20 _ _ fx19
    have ftc20 := s20 _ _ ftc19
    have hW20 := hW19.mono s20
    refine ⟨_, rfl, vl, ws, rfl, .inl (SqL.of (by rw [← eW]; exact upd_same)), 6, by rw [hlen6]; rfl, by decide, by decide, for_range (n := 6) (fun k σ H' => ∃ v9, σ = [some (.ref a), some (.ref t), some (.int wh), some (.ref r), some (.ref tc), some (.ref pw), some (.int ((n : Nat) : Int)), some (.int cnt), some (.ref D), v9, some (.int m0), some (.ref nl), some (.str z), some (.ref vl)] ∧ Tp (upd B19 vl (.lst ws)) H' t 1300) ⟨_, rfl, by rw [← eW] at T20 ⊢; exact T20⟩ ?_ ?_⟩
    · rintro k σ H21 hk ⟨w9, rfl, T21⟩
      obtain ⟨x, hx⟩ : ∃ x, ws[k]? = some x := ⟨_, List.getElem?_eq_getElem (by omega)⟩
      obtain ⟨dd, dx1, dx2, dx3, dx4⟩ := hws20 x (List.mem_of_getElem? hx)
      have hxa : atI ws (0 + (k : Int)) = some x := by rw [Int.zero_add]; exact atI_nat hx
      refine ⟨_, rfl, _, rfl, _, rfl, _, rfl, _, rfl, vl, _, _, _, rfl, rfl, SqL.of (T21.at fvl), hxa, _, rfl, _, rfl, D, _, _, _, rfl, rfl, SqL.of (T21.at fD20), at2, _, _, rfl, rfl, (by show (0 : Int) < 6; decide), rfl, ?_⟩
      exact ⟨r, dx, pw, tc, rl, x, dd, _, rfl, lc, T21.at fx20, hW20.mono T21.same, SqT.of (T21.at ftc20), Dp.mono T21.same _ _ dx1, dx2, dx3, dx4, fun H22 s22 => ⟨_, rfl, iteF ⟨_, rfl, T21.ext s22⟩⟩⟩
    rintro σ H21 ⟨w9, rfl, T21⟩
    exact q H21
end

abbrev spLaw := spAsks
section
variable {P : Program} {w : World} {K : PySem.W.Frag} {mg : Str → Option Value} {base : Heap} {C_Reels C_Stacks A_TOK : Addr}
theorem ok_law {f : Addr} {fd : FuncData} (F : Fun K "law" "law" s_law f fd) (T : Txt K mg C_Reels C_Stacks A_TOK) (c_law_asks : Cal P w K mg base 8 "_law_asks" (spAsks K)) : FnOk P w K mg base CX0 9 f fd ["script"] (spLaw K) := by
  refine F.ok sc_law (fun vs H Q E h => ?_) (fun cdv A outer s H vs Q E hr h => ?_)
  · obtain ⟨a, ns, rfl, _⟩ := h
    rfl
  · obtain ⟨a, ns, rfl, hS, hlen, q⟩ := h
    refine ⟨_, (pss_one (ps_try_thru0
      (pss_one (ps_ret (pe_c c_law_asks hr (by omega) (by rfl) (pa_cons (pv 0) pa_nil)))))), ?_⟩
    exact ⟨_, rfl, a, ns, rfl, hS, hlen, fun H' => q H'⟩
end

theorem all_mk {l : PySem.W.OpenLaw} {w : World} {K : PySem.W.Frag} {h : Heap} {mg : Str → Option Value} {fa f_is_integer f_is_word f_depth_behind f_longest_beginning f_is_block f_signs_of f_Reels_is_program f_Stacks_is_program f_ways_to_close f_program_of_number f_number_of_program f_law_tape f_law_draw f_law_integer f_law_string f_law_stranger f_law_copy f_law_same f_law_step f_law_ways f_law_word f_law_ranked f_law_rank f_law_told_program f_law_told_number f_law_number_right f_law_program_right f_law_spoilt f_law_asks f_law C_NoProgram C_InvalidNumber C_Reels C_Stacks A_TOK : Addr} (X : K.In h) (G : h.Ns mainGlobals mg) (hfa : mg "law" = some (.ref fa))
    {nm_NoProgram qn_NoProgram : Str} {N_NoProgram B_NoProgram : Addr} {bs_NoProgram sub_NoProgram : List Value} {sn_NoProgram : List Str} {ab_NoProgram : Bool} {col_NoProgram : Option Bool} {dd_NoProgram : Option Addr} {m0_NoProgram m1_NoProgram m2_NoProgram m3_NoProgram m5_NoProgram : Option Value} {oc_NoProgram dc_NoProgram pm_NoProgram ct_NoProgram ccl_NoProgram cl_NoProgram : Value} {od_NoProgram an_NoProgram cdd_NoProgram cld_NoProgram : Option Addr} {sl_NoProgram ccs_NoProgram csl_NoProgram : Array (Option Value)} {f_NoProgram cda_NoProgram cc_NoProgram : Addr} {vs_NoProgram : Array Value} {file_NoProgram : Str} {tf_NoProgram : Tok}
    {nm_InvalidNumber qn_InvalidNumber : Str} {N_InvalidNumber B_InvalidNumber : Addr} {bs_InvalidNumber sub_InvalidNumber : List Value} {sn_InvalidNumber : List Str} {ab_InvalidNumber : Bool} {col_InvalidNumber : Option Bool} {dd_InvalidNumber : Option Addr} {m0_InvalidNumber m1_InvalidNumber m2_InvalidNumber m3_InvalidNumber m5_InvalidNumber : Option Value} {oc_InvalidNumber dc_InvalidNumber pm_InvalidNumber ct_InvalidNumber ccl_InvalidNumber cl_InvalidNumber : Value} {od_InvalidNumber an_InvalidNumber cdd_InvalidNumber cld_InvalidNumber : Option Addr} {sl_InvalidNumber ccs_InvalidNumber csl_InvalidNumber : Array (Option Value)} {f_InvalidNumber cda_InvalidNumber cc_InvalidNumber : Addr} {vs_InvalidNumber : Array Value} {file_InvalidNumber : Str} {tf_InvalidNumber : Tok}
    {od_is_integer an_is_integer : Option Addr} {sl_is_integer : Array (Option Value)} {oc_is_integer kV_is_integer dc_is_integer pm_is_integer cd_is_integer ct_is_integer : Value}
    {od_is_word an_is_word : Option Addr} {sl_is_word : Array (Option Value)} {oc_is_word kV_is_word dc_is_word pm_is_word cd_is_word ct_is_word : Value}
    {od_depth_behind an_depth_behind : Option Addr} {sl_depth_behind : Array (Option Value)} {oc_depth_behind kV_depth_behind dc_depth_behind pm_depth_behind cd_depth_behind ct_depth_behind : Value}
    {od_longest_beginning an_longest_beginning : Option Addr} {sl_longest_beginning : Array (Option Value)} {oc_longest_beginning kV_longest_beginning dc_longest_beginning pm_longest_beginning cd_longest_beginning ct_longest_beginning : Value}
    {od_is_block an_is_block : Option Addr} {sl_is_block : Array (Option Value)} {oc_is_block kV_is_block dc_is_block pm_is_block cd_is_block ct_is_block : Value}
    {od_signs_of an_signs_of : Option Addr} {sl_signs_of : Array (Option Value)} {oc_signs_of kV_signs_of dc_signs_of pm_signs_of cd_signs_of ct_signs_of : Value}
    {od_Reels_is_program an_Reels_is_program : Option Addr} {sl_Reels_is_program : Array (Option Value)} {oc_Reels_is_program kV_Reels_is_program dc_Reels_is_program pm_Reels_is_program cd_Reels_is_program ct_Reels_is_program : Value}
    {od_Stacks_is_program an_Stacks_is_program : Option Addr} {sl_Stacks_is_program : Array (Option Value)} {oc_Stacks_is_program kV_Stacks_is_program dc_Stacks_is_program pm_Stacks_is_program cd_Stacks_is_program ct_Stacks_is_program : Value}
    {od_ways_to_close an_ways_to_close : Option Addr} {sl_ways_to_close : Array (Option Value)} {oc_ways_to_close kV_ways_to_close dc_ways_to_close pm_ways_to_close cd_ways_to_close ct_ways_to_close : Value}
    {od_program_of_number an_program_of_number : Option Addr} {sl_program_of_number : Array (Option Value)} {oc_program_of_number kV_program_of_number dc_program_of_number pm_program_of_number cd_program_of_number ct_program_of_number : Value}
    {od_number_of_program an_number_of_program : Option Addr} {sl_number_of_program : Array (Option Value)} {oc_number_of_program kV_number_of_program dc_number_of_program pm_number_of_program cd_number_of_program ct_number_of_program : Value}
    {od_law_tape an_law_tape : Option Addr} {sl_law_tape : Array (Option Value)} {oc_law_tape kV_law_tape dc_law_tape pm_law_tape cd_law_tape ct_law_tape : Value}
    {od_law_draw an_law_draw : Option Addr} {sl_law_draw : Array (Option Value)} {oc_law_draw kV_law_draw dc_law_draw pm_law_draw cd_law_draw ct_law_draw : Value}
    {od_law_integer an_law_integer : Option Addr} {sl_law_integer : Array (Option Value)} {oc_law_integer kV_law_integer dc_law_integer pm_law_integer cd_law_integer ct_law_integer : Value}
    {od_law_string an_law_string : Option Addr} {sl_law_string : Array (Option Value)} {oc_law_string kV_law_string dc_law_string pm_law_string cd_law_string ct_law_string : Value}
    {od_law_stranger an_law_stranger : Option Addr} {sl_law_stranger : Array (Option Value)} {oc_law_stranger kV_law_stranger dc_law_stranger pm_law_stranger cd_law_stranger ct_law_stranger : Value}
    {od_law_copy an_law_copy : Option Addr} {sl_law_copy : Array (Option Value)} {oc_law_copy kV_law_copy dc_law_copy pm_law_copy cd_law_copy ct_law_copy : Value}
    {od_law_same an_law_same : Option Addr} {sl_law_same : Array (Option Value)} {oc_law_same kV_law_same dc_law_same pm_law_same cd_law_same ct_law_same : Value}
    {od_law_step an_law_step : Option Addr} {sl_law_step : Array (Option Value)} {oc_law_step kV_law_step dc_law_step pm_law_step cd_law_step ct_law_step : Value}
    {od_law_ways an_law_ways : Option Addr} {sl_law_ways : Array (Option Value)} {oc_law_ways kV_law_ways dc_law_ways pm_law_ways cd_law_ways ct_law_ways : Value}
    {od_law_word an_law_word : Option Addr} {sl_law_word : Array (Option Value)} {oc_law_word kV_law_word dc_law_word pm_law_word cd_law_word ct_law_word : Value}
    {od_law_ranked an_law_ranked : Option Addr} {sl_law_ranked : Array (Option Value)} {oc_law_ranked kV_law_ranked dc_law_ranked pm_law_ranked cd_law_ranked ct_law_ranked : Value}
    {od_law_rank an_law_rank : Option Addr} {sl_law_rank : Array (Option Value)} {oc_law_rank kV_law_rank dc_law_rank pm_law_rank cd_law_rank ct_law_rank : Value}
    {od_law_told_program an_law_told_program : Option Addr} {sl_law_told_program : Array (Option Value)} {oc_law_told_program kV_law_told_program dc_law_told_program pm_law_told_program cd_law_told_program ct_law_told_program : Value}
    {od_law_told_number an_law_told_number : Option Addr} {sl_law_told_number : Array (Option Value)} {oc_law_told_number kV_law_told_number dc_law_told_number pm_law_told_number cd_law_told_number ct_law_told_number : Value}
    {od_law_number_right an_law_number_right : Option Addr} {sl_law_number_right : Array (Option Value)} {oc_law_number_right kV_law_number_right dc_law_number_right pm_law_number_right cd_law_number_right ct_law_number_right : Value}
    {od_law_program_right an_law_program_right : Option Addr} {sl_law_program_right : Array (Option Value)} {oc_law_program_right kV_law_program_right dc_law_program_right pm_law_program_right cd_law_program_right ct_law_program_right : Value}
    {od_law_spoilt an_law_spoilt : Option Addr} {sl_law_spoilt : Array (Option Value)} {oc_law_spoilt kV_law_spoilt dc_law_spoilt pm_law_spoilt cd_law_spoilt ct_law_spoilt : Value}
    {od_law_asks an_law_asks : Option Addr} {sl_law_asks : Array (Option Value)} {oc_law_asks kV_law_asks dc_law_asks pm_law_asks cd_law_asks ct_law_asks : Value}
    {od_law an_law : Option Addr} {sl_law : Array (Option Value)} {oc_law kV_law dc_law pm_law cd_law ct_law : Value}
    {tk_C_ReelsSIGNS tk_C_ReelsCLOSERS tk_C_StacksSIGNS tk_C_StacksCLOSERS tkTB : Tok} {itsT : Array Value} {nT : Nat} {slT : Array (Option Value)}
    (aC_Reels : PySem.W.nsIn K mainGlobals "Reels" = some (some (.ref C_Reels)))
    (aC_Stacks : PySem.W.nsIn K mainGlobals "Stacks" = some (some (.ref C_Stacks)))
    (xgC_NoProgram : PySem.W.nsIn K mainGlobals "NoProgram" = some (some (.ref C_NoProgram)))
    (xxL_NoProgram : K.lookup C_NoProgram = some (excClassObj nm_NoProgram qn_NoProgram C_NoProgram N_NoProgram bs_NoProgram [.ref B_NoProgram, .type "ValueError", .type "Exception", .type "BaseException", .type "object"] true sn_NoProgram sub_NoProgram ab_NoProgram col_NoProgram dd_NoProgram m0_NoProgram m1_NoProgram m2_NoProgram m3_NoProgram m5_NoProgram "ValueError.__new__"))
    (xsa_NoProgram : PySem.W.findIn K (.ref C_NoProgram) "__setattr__" = some (some (.builtin "object.__setattr__")))
    (xga_NoProgram : PySem.W.findIn K (.ref C_NoProgram) "__getattribute__" = some (some (.builtin "BaseException.__getattribute__")))
    (xgg_NoProgram : PySem.W.findIn K (.ref C_NoProgram) "__getattr__" = some none)
    (xiC_NoProgram : PySem.W.findIn K (.ref C_NoProgram) "__init__" = some (some (.ref f_NoProgram)))
    (xtI_NoProgram : PySem.W.typeIn K (.ref f_NoProgram) = some (.type "function"))
    (xkC_NoProgram : PySem.W.keepIn K (.ref C_NoProgram) = true)
    (xeC_NoProgram : PySem.W.subIn K (.ref C_NoProgram) (.type "BaseException") = some true)
    (xvC_NoProgram : PySem.W.subIn K (.ref C_NoProgram) (.type "ValueError") = some true)
    (xse_NoProgram : PySem.W.mroIn K C_NoProgram (.ref C_NoProgram) = some true)
    (xtC_NoProgram : PySem.W.typeIn K (.ref C_NoProgram) = some (.type "type"))
    (xhC_NoProgram : PySem.W.hasDictIn K C_NoProgram = true)
    (xcC_NoProgram : PySem.W.isClsIn K C_NoProgram = true)
    (xsC_NoProgram : PySem.W.subIn K (.ref C_NoProgram) (.ref C_NoProgram) = some true)
    (xlI_NoProgram : K.lookup f_NoProgram = some ⟨oc_NoProgram, od_NoProgram, .func (PySem.W.ksFn "__init__" "NoProgram.__init__" (defArgs s_NoProgram___init__) (defBody s_NoProgram___init__) (defScope s_NoProgram___init__) .none .none dc_NoProgram pm_NoProgram an_NoProgram (.ref cda_NoProgram) ct_NoProgram cc_NoProgram), sl_NoProgram⟩)
    (xcI_NoProgram : PySem.W.codeIn K (.ref cda_NoProgram) "NoProgram.__init__" = true)
    (xcd_NoProgram : K.lookup cda_NoProgram = some ⟨ccl_NoProgram, cdd_NoProgram, .fields vs_NoProgram, ccs_NoProgram⟩)
    (xcc_NoProgram : K.lookup cc_NoProgram = some ⟨cl_NoProgram, cld_NoProgram, .cell (some (.ref C_NoProgram)), csl_NoProgram⟩)
    (xfi_NoProgram : vs_NoProgram[2]? = some (.str file_NoProgram tf_NoProgram))
    (xff_NoProgram : ((l.prog.main.file : Str) == file_NoProgram) = true)
    (xup_NoProgram : PySem.W.ks_superIn K C_NoProgram C_NoProgram "__init__" = some (some (.builtin "ValueError.__init__")))
    (xn_NoProgram_program : PySem.W.findIn K (.ref C_NoProgram) "program" = some none)
    (xgC_InvalidNumber : PySem.W.nsIn K mainGlobals "InvalidNumber" = some (some (.ref C_InvalidNumber)))
    (xxL_InvalidNumber : K.lookup C_InvalidNumber = some (excClassObj nm_InvalidNumber qn_InvalidNumber C_InvalidNumber N_InvalidNumber bs_InvalidNumber [.ref B_InvalidNumber, .type "ValueError", .type "Exception", .type "BaseException", .type "object"] true sn_InvalidNumber sub_InvalidNumber ab_InvalidNumber col_InvalidNumber dd_InvalidNumber m0_InvalidNumber m1_InvalidNumber m2_InvalidNumber m3_InvalidNumber m5_InvalidNumber "ValueError.__new__"))
    (xsa_InvalidNumber : PySem.W.findIn K (.ref C_InvalidNumber) "__setattr__" = some (some (.builtin "object.__setattr__")))
    (xga_InvalidNumber : PySem.W.findIn K (.ref C_InvalidNumber) "__getattribute__" = some (some (.builtin "BaseException.__getattribute__")))
    (xgg_InvalidNumber : PySem.W.findIn K (.ref C_InvalidNumber) "__getattr__" = some none)
    (xiC_InvalidNumber : PySem.W.findIn K (.ref C_InvalidNumber) "__init__" = some (some (.ref f_InvalidNumber)))
    (xtI_InvalidNumber : PySem.W.typeIn K (.ref f_InvalidNumber) = some (.type "function"))
    (xkC_InvalidNumber : PySem.W.keepIn K (.ref C_InvalidNumber) = true)
    (xeC_InvalidNumber : PySem.W.subIn K (.ref C_InvalidNumber) (.type "BaseException") = some true)
    (xvC_InvalidNumber : PySem.W.subIn K (.ref C_InvalidNumber) (.type "ValueError") = some true)
    (xse_InvalidNumber : PySem.W.mroIn K C_InvalidNumber (.ref C_InvalidNumber) = some true)
    (xtC_InvalidNumber : PySem.W.typeIn K (.ref C_InvalidNumber) = some (.type "type"))
    (xhC_InvalidNumber : PySem.W.hasDictIn K C_InvalidNumber = true)
    (xcC_InvalidNumber : PySem.W.isClsIn K C_InvalidNumber = true)
    (xsC_InvalidNumber : PySem.W.subIn K (.ref C_InvalidNumber) (.ref C_InvalidNumber) = some true)
    (xlI_InvalidNumber : K.lookup f_InvalidNumber = some ⟨oc_InvalidNumber, od_InvalidNumber, .func (PySem.W.ksFn "__init__" "InvalidNumber.__init__" (defArgs s_InvalidNumber___init__) (defBody s_InvalidNumber___init__) (defScope s_InvalidNumber___init__) .none .none dc_InvalidNumber pm_InvalidNumber an_InvalidNumber (.ref cda_InvalidNumber) ct_InvalidNumber cc_InvalidNumber), sl_InvalidNumber⟩)
    (xcI_InvalidNumber : PySem.W.codeIn K (.ref cda_InvalidNumber) "InvalidNumber.__init__" = true)
    (xcd_InvalidNumber : K.lookup cda_InvalidNumber = some ⟨ccl_InvalidNumber, cdd_InvalidNumber, .fields vs_InvalidNumber, ccs_InvalidNumber⟩)
    (xcc_InvalidNumber : K.lookup cc_InvalidNumber = some ⟨cl_InvalidNumber, cld_InvalidNumber, .cell (some (.ref C_InvalidNumber)), csl_InvalidNumber⟩)
    (xfi_InvalidNumber : vs_InvalidNumber[2]? = some (.str file_InvalidNumber tf_InvalidNumber))
    (xff_InvalidNumber : ((l.prog.main.file : Str) == file_InvalidNumber) = true)
    (xup_InvalidNumber : PySem.W.ks_superIn K C_InvalidNumber C_InvalidNumber "__init__" = some (some (.builtin "ValueError.__init__")))
    (xn_InvalidNumber_number : PySem.W.findIn K (.ref C_InvalidNumber) "number" = some none)
    (xsu : PySem.W.nsIn K mainGlobals "super" = some none)
    (xop : PySem.W.nsIn K cStatics "thirdparty.any" = some none)
    (xtp : (l.prog.main.scope.names.lookup ("super" : Str)).isSome = false)
    (a_is_integer : PySem.W.nsIn K mainGlobals "is_integer" = some (some (.ref f_is_integer)))
    (l_is_integer : K.lookup f_is_integer = some ⟨oc_is_integer, od_is_integer, .func (PySem.W.fnOf "is_integer" "is_integer" (defArgs s_is_integer) (defBody s_is_integer) (defScope s_is_integer) .none kV_is_integer dc_is_integer pm_is_integer an_is_integer cd_is_integer ct_is_integer), sl_is_integer⟩)
    (c_is_integer : PySem.W.codeIn K cd_is_integer "is_integer" = true)
    (k_is_integer : PySem.W.keepIn K (.ref f_is_integer) = true)
    (a_is_word : PySem.W.nsIn K mainGlobals "is_word" = some (some (.ref f_is_word)))
    (l_is_word : K.lookup f_is_word = some ⟨oc_is_word, od_is_word, .func (PySem.W.fnOf "is_word" "is_word" (defArgs s_is_word) (defBody s_is_word) (defScope s_is_word) .none kV_is_word dc_is_word pm_is_word an_is_word cd_is_word ct_is_word), sl_is_word⟩)
    (c_is_word : PySem.W.codeIn K cd_is_word "is_word" = true)
    (k_is_word : PySem.W.keepIn K (.ref f_is_word) = true)
    (a_depth_behind : PySem.W.nsIn K mainGlobals "depth_behind" = some (some (.ref f_depth_behind)))
    (l_depth_behind : K.lookup f_depth_behind = some ⟨oc_depth_behind, od_depth_behind, .func (PySem.W.fnOf "depth_behind" "depth_behind" (defArgs s_depth_behind) (defBody s_depth_behind) (defScope s_depth_behind) .none kV_depth_behind dc_depth_behind pm_depth_behind an_depth_behind cd_depth_behind ct_depth_behind), sl_depth_behind⟩)
    (c_depth_behind : PySem.W.codeIn K cd_depth_behind "depth_behind" = true)
    (k_depth_behind : PySem.W.keepIn K (.ref f_depth_behind) = true)
    (a_longest_beginning : PySem.W.nsIn K mainGlobals "longest_beginning" = some (some (.ref f_longest_beginning)))
    (l_longest_beginning : K.lookup f_longest_beginning = some ⟨oc_longest_beginning, od_longest_beginning, .func (PySem.W.fnOf "longest_beginning" "longest_beginning" (defArgs s_longest_beginning) (defBody s_longest_beginning) (defScope s_longest_beginning) .none kV_longest_beginning dc_longest_beginning pm_longest_beginning an_longest_beginning cd_longest_beginning ct_longest_beginning), sl_longest_beginning⟩)
    (c_longest_beginning : PySem.W.codeIn K cd_longest_beginning "longest_beginning" = true)
    (k_longest_beginning : PySem.W.keepIn K (.ref f_longest_beginning) = true)
    (a_is_block : PySem.W.nsIn K mainGlobals "is_block" = some (some (.ref f_is_block)))
    (l_is_block : K.lookup f_is_block = some ⟨oc_is_block, od_is_block, .func (PySem.W.fnOf "is_block" "is_block" (defArgs s_is_block) (defBody s_is_block) (defScope s_is_block) .none kV_is_block dc_is_block pm_is_block an_is_block cd_is_block ct_is_block), sl_is_block⟩)
    (c_is_block : PySem.W.codeIn K cd_is_block "is_block" = true)
    (k_is_block : PySem.W.keepIn K (.ref f_is_block) = true)
    (a_signs_of : PySem.W.nsIn K mainGlobals "signs_of" = some (some (.ref f_signs_of)))
    (l_signs_of : K.lookup f_signs_of = some ⟨oc_signs_of, od_signs_of, .func (PySem.W.fnOf "signs_of" "signs_of" (defArgs s_signs_of) (defBody s_signs_of) (defScope s_signs_of) .none kV_signs_of dc_signs_of pm_signs_of an_signs_of cd_signs_of ct_signs_of), sl_signs_of⟩)
    (c_signs_of : PySem.W.codeIn K cd_signs_of "signs_of" = true)
    (k_signs_of : PySem.W.keepIn K (.ref f_signs_of) = true)
    (a_Reels_is_program : PySem.W.findIn K (.ref C_Reels) "is_program" = some (some (.ref f_Reels_is_program)))
    (i_Reels_is_program : PySem.W.isFn K (.ref f_Reels_is_program) = true)
    (l_Reels_is_program : K.lookup f_Reels_is_program = some ⟨oc_Reels_is_program, od_Reels_is_program, .func (PySem.W.fnOf "is_program" "Reels.is_program" (defArgs s_Reels_is_program) (defBody s_Reels_is_program) (defScope s_Reels_is_program) .none kV_Reels_is_program dc_Reels_is_program pm_Reels_is_program an_Reels_is_program cd_Reels_is_program ct_Reels_is_program), sl_Reels_is_program⟩)
    (c_Reels_is_program : PySem.W.codeIn K cd_Reels_is_program "Reels.is_program" = true)
    (k_Reels_is_program : PySem.W.keepIn K (.ref f_Reels_is_program) = true)
    (a_Stacks_is_program : PySem.W.findIn K (.ref C_Stacks) "is_program" = some (some (.ref f_Stacks_is_program)))
    (i_Stacks_is_program : PySem.W.isFn K (.ref f_Stacks_is_program) = true)
    (l_Stacks_is_program : K.lookup f_Stacks_is_program = some ⟨oc_Stacks_is_program, od_Stacks_is_program, .func (PySem.W.fnOf "is_program" "Stacks.is_program" (defArgs s_Stacks_is_program) (defBody s_Stacks_is_program) (defScope s_Stacks_is_program) .none kV_Stacks_is_program dc_Stacks_is_program pm_Stacks_is_program an_Stacks_is_program cd_Stacks_is_program ct_Stacks_is_program), sl_Stacks_is_program⟩)
    (c_Stacks_is_program : PySem.W.codeIn K cd_Stacks_is_program "Stacks.is_program" = true)
    (k_Stacks_is_program : PySem.W.keepIn K (.ref f_Stacks_is_program) = true)
    (a_ways_to_close : PySem.W.nsIn K mainGlobals "_ways_to_close" = some (some (.ref f_ways_to_close)))
    (l_ways_to_close : K.lookup f_ways_to_close = some ⟨oc_ways_to_close, od_ways_to_close, .func (PySem.W.fnOf "_ways_to_close" "_ways_to_close" (defArgs s_ways_to_close) (defBody s_ways_to_close) (defScope s_ways_to_close) .none kV_ways_to_close dc_ways_to_close pm_ways_to_close an_ways_to_close cd_ways_to_close ct_ways_to_close), sl_ways_to_close⟩)
    (c_ways_to_close : PySem.W.codeIn K cd_ways_to_close "_ways_to_close" = true)
    (k_ways_to_close : PySem.W.keepIn K (.ref f_ways_to_close) = true)
    (a_program_of_number : PySem.W.nsIn K mainGlobals "program_of_number" = some (some (.ref f_program_of_number)))
    (l_program_of_number : K.lookup f_program_of_number = some ⟨oc_program_of_number, od_program_of_number, .func (PySem.W.fnOf "program_of_number" "program_of_number" (defArgs s_program_of_number) (defBody s_program_of_number) (defScope s_program_of_number) .none kV_program_of_number dc_program_of_number pm_program_of_number an_program_of_number cd_program_of_number ct_program_of_number), sl_program_of_number⟩)
    (c_program_of_number : PySem.W.codeIn K cd_program_of_number "program_of_number" = true)
    (k_program_of_number : PySem.W.keepIn K (.ref f_program_of_number) = true)
    (a_number_of_program : PySem.W.nsIn K mainGlobals "number_of_program" = some (some (.ref f_number_of_program)))
    (l_number_of_program : K.lookup f_number_of_program = some ⟨oc_number_of_program, od_number_of_program, .func (PySem.W.fnOf "number_of_program" "number_of_program" (defArgs s_number_of_program) (defBody s_number_of_program) (defScope s_number_of_program) .none kV_number_of_program dc_number_of_program pm_number_of_program an_number_of_program cd_number_of_program ct_number_of_program), sl_number_of_program⟩)
    (c_number_of_program : PySem.W.codeIn K cd_number_of_program "number_of_program" = true)
    (k_number_of_program : PySem.W.keepIn K (.ref f_number_of_program) = true)
    (a_law_tape : PySem.W.nsIn K mainGlobals "_law_tape" = some (some (.ref f_law_tape)))
    (l_law_tape : K.lookup f_law_tape = some ⟨oc_law_tape, od_law_tape, .func (PySem.W.fnOf "_law_tape" "_law_tape" (defArgs s_law_tape) (defBody s_law_tape) (defScope s_law_tape) .none kV_law_tape dc_law_tape pm_law_tape an_law_tape cd_law_tape ct_law_tape), sl_law_tape⟩)
    (c_law_tape : PySem.W.codeIn K cd_law_tape "_law_tape" = true)
    (k_law_tape : PySem.W.keepIn K (.ref f_law_tape) = true)
    (a_law_draw : PySem.W.nsIn K mainGlobals "_law_draw" = some (some (.ref f_law_draw)))
    (l_law_draw : K.lookup f_law_draw = some ⟨oc_law_draw, od_law_draw, .func (PySem.W.fnOf "_law_draw" "_law_draw" (defArgs s_law_draw) (defBody s_law_draw) (defScope s_law_draw) .none kV_law_draw dc_law_draw pm_law_draw an_law_draw cd_law_draw ct_law_draw), sl_law_draw⟩)
    (c_law_draw : PySem.W.codeIn K cd_law_draw "_law_draw" = true)
    (k_law_draw : PySem.W.keepIn K (.ref f_law_draw) = true)
    (a_law_integer : PySem.W.nsIn K mainGlobals "_law_integer" = some (some (.ref f_law_integer)))
    (l_law_integer : K.lookup f_law_integer = some ⟨oc_law_integer, od_law_integer, .func (PySem.W.fnOf "_law_integer" "_law_integer" (defArgs s_law_integer) (defBody s_law_integer) (defScope s_law_integer) .none kV_law_integer dc_law_integer pm_law_integer an_law_integer cd_law_integer ct_law_integer), sl_law_integer⟩)
    (c_law_integer : PySem.W.codeIn K cd_law_integer "_law_integer" = true)
    (k_law_integer : PySem.W.keepIn K (.ref f_law_integer) = true)
    (a_law_string : PySem.W.nsIn K mainGlobals "_law_string" = some (some (.ref f_law_string)))
    (l_law_string : K.lookup f_law_string = some ⟨oc_law_string, od_law_string, .func (PySem.W.fnOf "_law_string" "_law_string" (defArgs s_law_string) (defBody s_law_string) (defScope s_law_string) .none kV_law_string dc_law_string pm_law_string an_law_string cd_law_string ct_law_string), sl_law_string⟩)
    (c_law_string : PySem.W.codeIn K cd_law_string "_law_string" = true)
    (k_law_string : PySem.W.keepIn K (.ref f_law_string) = true)
    (a_law_stranger : PySem.W.nsIn K mainGlobals "_law_stranger" = some (some (.ref f_law_stranger)))
    (l_law_stranger : K.lookup f_law_stranger = some ⟨oc_law_stranger, od_law_stranger, .func (PySem.W.fnOf "_law_stranger" "_law_stranger" (defArgs s_law_stranger) (defBody s_law_stranger) (defScope s_law_stranger) .none kV_law_stranger dc_law_stranger pm_law_stranger an_law_stranger cd_law_stranger ct_law_stranger), sl_law_stranger⟩)
    (c_law_stranger : PySem.W.codeIn K cd_law_stranger "_law_stranger" = true)
    (k_law_stranger : PySem.W.keepIn K (.ref f_law_stranger) = true)
    (a_law_copy : PySem.W.nsIn K mainGlobals "_law_copy" = some (some (.ref f_law_copy)))
    (l_law_copy : K.lookup f_law_copy = some ⟨oc_law_copy, od_law_copy, .func (PySem.W.fnOf "_law_copy" "_law_copy" (defArgs s_law_copy) (defBody s_law_copy) (defScope s_law_copy) .none kV_law_copy dc_law_copy pm_law_copy an_law_copy cd_law_copy ct_law_copy), sl_law_copy⟩)
    (c_law_copy : PySem.W.codeIn K cd_law_copy "_law_copy" = true)
    (k_law_copy : PySem.W.keepIn K (.ref f_law_copy) = true)
    (a_law_same : PySem.W.nsIn K mainGlobals "_law_same" = some (some (.ref f_law_same)))
    (l_law_same : K.lookup f_law_same = some ⟨oc_law_same, od_law_same, .func (PySem.W.fnOf "_law_same" "_law_same" (defArgs s_law_same) (defBody s_law_same) (defScope s_law_same) .none kV_law_same dc_law_same pm_law_same an_law_same cd_law_same ct_law_same), sl_law_same⟩)
    (c_law_same : PySem.W.codeIn K cd_law_same "_law_same" = true)
    (k_law_same : PySem.W.keepIn K (.ref f_law_same) = true)
    (a_law_step : PySem.W.nsIn K mainGlobals "_law_step" = some (some (.ref f_law_step)))
    (l_law_step : K.lookup f_law_step = some ⟨oc_law_step, od_law_step, .func (PySem.W.fnOf "_law_step" "_law_step" (defArgs s_law_step) (defBody s_law_step) (defScope s_law_step) .none kV_law_step dc_law_step pm_law_step an_law_step cd_law_step ct_law_step), sl_law_step⟩)
    (c_law_step : PySem.W.codeIn K cd_law_step "_law_step" = true)
    (k_law_step : PySem.W.keepIn K (.ref f_law_step) = true)
    (a_law_ways : PySem.W.nsIn K mainGlobals "_law_ways" = some (some (.ref f_law_ways)))
    (l_law_ways : K.lookup f_law_ways = some ⟨oc_law_ways, od_law_ways, .func (PySem.W.fnOf "_law_ways" "_law_ways" (defArgs s_law_ways) (defBody s_law_ways) (defScope s_law_ways) .none kV_law_ways dc_law_ways pm_law_ways an_law_ways cd_law_ways ct_law_ways), sl_law_ways⟩)
    (c_law_ways : PySem.W.codeIn K cd_law_ways "_law_ways" = true)
    (k_law_ways : PySem.W.keepIn K (.ref f_law_ways) = true)
    (a_law_word : PySem.W.nsIn K mainGlobals "_law_word" = some (some (.ref f_law_word)))
    (l_law_word : K.lookup f_law_word = some ⟨oc_law_word, od_law_word, .func (PySem.W.fnOf "_law_word" "_law_word" (defArgs s_law_word) (defBody s_law_word) (defScope s_law_word) .none kV_law_word dc_law_word pm_law_word an_law_word cd_law_word ct_law_word), sl_law_word⟩)
    (c_law_word : PySem.W.codeIn K cd_law_word "_law_word" = true)
    (k_law_word : PySem.W.keepIn K (.ref f_law_word) = true)
    (a_law_ranked : PySem.W.nsIn K mainGlobals "_law_ranked" = some (some (.ref f_law_ranked)))
    (l_law_ranked : K.lookup f_law_ranked = some ⟨oc_law_ranked, od_law_ranked, .func (PySem.W.fnOf "_law_ranked" "_law_ranked" (defArgs s_law_ranked) (defBody s_law_ranked) (defScope s_law_ranked) .none kV_law_ranked dc_law_ranked pm_law_ranked an_law_ranked cd_law_ranked ct_law_ranked), sl_law_ranked⟩)
    (c_law_ranked : PySem.W.codeIn K cd_law_ranked "_law_ranked" = true)
    (k_law_ranked : PySem.W.keepIn K (.ref f_law_ranked) = true)
    (a_law_rank : PySem.W.nsIn K mainGlobals "_law_rank" = some (some (.ref f_law_rank)))
    (l_law_rank : K.lookup f_law_rank = some ⟨oc_law_rank, od_law_rank, .func (PySem.W.fnOf "_law_rank" "_law_rank" (defArgs s_law_rank) (defBody s_law_rank) (defScope s_law_rank) .none kV_law_rank dc_law_rank pm_law_rank an_law_rank cd_law_rank ct_law_rank), sl_law_rank⟩)
    (c_law_rank : PySem.W.codeIn K cd_law_rank "_law_rank" = true)
    (k_law_rank : PySem.W.keepIn K (.ref f_law_rank) = true)
    (a_law_told_program : PySem.W.nsIn K mainGlobals "_law_told_program" = some (some (.ref f_law_told_program)))
    (l_law_told_program : K.lookup f_law_told_program = some ⟨oc_law_told_program, od_law_told_program, .func (PySem.W.fnOf "_law_told_program" "_law_told_program" (defArgs s_law_told_program) (defBody s_law_told_program) (defScope s_law_told_program) .none kV_law_told_program dc_law_told_program pm_law_told_program an_law_told_program cd_law_told_program ct_law_told_program), sl_law_told_program⟩)
    (c_law_told_program : PySem.W.codeIn K cd_law_told_program "_law_told_program" = true)
    (k_law_told_program : PySem.W.keepIn K (.ref f_law_told_program) = true)
    (a_law_told_number : PySem.W.nsIn K mainGlobals "_law_told_number" = some (some (.ref f_law_told_number)))
    (l_law_told_number : K.lookup f_law_told_number = some ⟨oc_law_told_number, od_law_told_number, .func (PySem.W.fnOf "_law_told_number" "_law_told_number" (defArgs s_law_told_number) (defBody s_law_told_number) (defScope s_law_told_number) .none kV_law_told_number dc_law_told_number pm_law_told_number an_law_told_number cd_law_told_number ct_law_told_number), sl_law_told_number⟩)
    (c_law_told_number : PySem.W.codeIn K cd_law_told_number "_law_told_number" = true)
    (k_law_told_number : PySem.W.keepIn K (.ref f_law_told_number) = true)
    (a_law_number_right : PySem.W.nsIn K mainGlobals "_law_number_right" = some (some (.ref f_law_number_right)))
    (l_law_number_right : K.lookup f_law_number_right = some ⟨oc_law_number_right, od_law_number_right, .func (PySem.W.fnOf "_law_number_right" "_law_number_right" (defArgs s_law_number_right) (defBody s_law_number_right) (defScope s_law_number_right) .none kV_law_number_right dc_law_number_right pm_law_number_right an_law_number_right cd_law_number_right ct_law_number_right), sl_law_number_right⟩)
    (c_law_number_right : PySem.W.codeIn K cd_law_number_right "_law_number_right" = true)
    (k_law_number_right : PySem.W.keepIn K (.ref f_law_number_right) = true)
    (a_law_program_right : PySem.W.nsIn K mainGlobals "_law_program_right" = some (some (.ref f_law_program_right)))
    (l_law_program_right : K.lookup f_law_program_right = some ⟨oc_law_program_right, od_law_program_right, .func (PySem.W.fnOf "_law_program_right" "_law_program_right" (defArgs s_law_program_right) (defBody s_law_program_right) (defScope s_law_program_right) .none kV_law_program_right dc_law_program_right pm_law_program_right an_law_program_right cd_law_program_right ct_law_program_right), sl_law_program_right⟩)
    (c_law_program_right : PySem.W.codeIn K cd_law_program_right "_law_program_right" = true)
    (k_law_program_right : PySem.W.keepIn K (.ref f_law_program_right) = true)
    (a_law_spoilt : PySem.W.nsIn K mainGlobals "_law_spoilt" = some (some (.ref f_law_spoilt)))
    (l_law_spoilt : K.lookup f_law_spoilt = some ⟨oc_law_spoilt, od_law_spoilt, .func (PySem.W.fnOf "_law_spoilt" "_law_spoilt" (defArgs s_law_spoilt) (defBody s_law_spoilt) (defScope s_law_spoilt) .none kV_law_spoilt dc_law_spoilt pm_law_spoilt an_law_spoilt cd_law_spoilt ct_law_spoilt), sl_law_spoilt⟩)
    (c_law_spoilt : PySem.W.codeIn K cd_law_spoilt "_law_spoilt" = true)
    (k_law_spoilt : PySem.W.keepIn K (.ref f_law_spoilt) = true)
    (a_law_asks : PySem.W.nsIn K mainGlobals "_law_asks" = some (some (.ref f_law_asks)))
    (l_law_asks : K.lookup f_law_asks = some ⟨oc_law_asks, od_law_asks, .func (PySem.W.fnOf "_law_asks" "_law_asks" (defArgs s_law_asks) (defBody s_law_asks) (defScope s_law_asks) .none kV_law_asks dc_law_asks pm_law_asks an_law_asks cd_law_asks ct_law_asks), sl_law_asks⟩)
    (c_law_asks : PySem.W.codeIn K cd_law_asks "_law_asks" = true)
    (k_law_asks : PySem.W.keepIn K (.ref f_law_asks) = true)
    (a_law : PySem.W.nsIn K mainGlobals "law" = some (some (.ref f_law)))
    (l_law : K.lookup f_law = some ⟨oc_law, od_law, .func (PySem.W.fnOf "law" "law" (defArgs s_law) (defBody s_law) (defScope s_law) .none kV_law dc_law pm_law an_law cd_law ct_law), sl_law⟩)
    (c_law : PySem.W.codeIn K cd_law "law" = true)
    (k_law : PySem.W.keepIn K (.ref f_law) = true)
    (z_super : PySem.W.nsIn K mainGlobals "super" = some none)
    (z_isinstance : PySem.W.nsIn K mainGlobals "isinstance" = some none)
    (z_int : PySem.W.nsIn K mainGlobals "int" = some none)
    (z_bool : PySem.W.nsIn K mainGlobals "bool" = some none)
    (z_str : PySem.W.nsIn K mainGlobals "str" = some none)
    (z_enumerate : PySem.W.nsIn K mainGlobals "enumerate" = some none)
    (z_len : PySem.W.nsIn K mainGlobals "len" = some none)
    (z_range : PySem.W.nsIn K mainGlobals "range" = some none)
    (z_reversed : PySem.W.nsIn K mainGlobals "reversed" = some none)
    (z_zip : PySem.W.nsIn K mainGlobals "zip" = some none)
    (z_abs : PySem.W.nsIn K mainGlobals "abs" = some none)
    (z_tuple : PySem.W.nsIn K mainGlobals "tuple" = some none)
    (z_list : PySem.W.nsIn K mainGlobals "list" = some none)
    (z_max : PySem.W.nsIn K mainGlobals "max" = some none)
    (cHn : PySem.W.specialIn K (.builtin "object.__class__") "__get__" = some (some (.builtin "getset_descriptor.__get__")))
    (cTk : PySem.W.takesIn K (.builtin "object.__class__") = some true)
    (pgReels : PySem.W.plainGet K C_Reels Str.empty = true)
    (hdReels : PySem.W.hasDictIn K C_Reels = true)
    (poReels : PySem.W.plainOver K C_Reels = true)
    (saReels : PySem.W.findIn K (.ref C_Reels) "__setattr__" = some (some (.builtin "object.__setattr__")))
    (mkReels : PySem.W.makesIn K C_Reels = true)
    (kcReels : PySem.W.keepIn K (.ref C_Reels) = true)
    (inReels : PySem.W.findIn K (.ref C_Reels) "__init__" = some (some (.builtin "object.__init__")))
    (toReels : PySem.W.mroIn K C_Reels (.type "object") = some true)
    (fSIGNSReels : PySem.W.findIn K (.ref C_Reels) "SIGNS" = some (some (.str ".01[+=~*" tk_C_ReelsSIGNS)))
    (gSIGNSReels : PySem.W.specialIn K (.str ".01[+=~*" tk_C_ReelsSIGNS) "__get__" = some none)
    (fCLOSERSReels : PySem.W.findIn K (.ref C_Reels) "CLOSERS" = some (some (.str ".*" tk_C_ReelsCLOSERS)))
    (gCLOSERSReels : PySem.W.specialIn K (.str ".*" tk_C_ReelsCLOSERS) "__get__" = some none)
    (pgStacks : PySem.W.plainGet K C_Stacks Str.empty = true)
    (hdStacks : PySem.W.hasDictIn K C_Stacks = true)
    (poStacks : PySem.W.plainOver K C_Stacks = true)
    (saStacks : PySem.W.findIn K (.ref C_Stacks) "__setattr__" = some (some (.builtin "object.__setattr__")))
    (mkStacks : PySem.W.makesIn K C_Stacks = true)
    (kcStacks : PySem.W.keepIn K (.ref C_Stacks) = true)
    (inStacks : PySem.W.findIn K (.ref C_Stacks) "__init__" = some (some (.builtin "object.__init__")))
    (toStacks : PySem.W.mroIn K C_Stacks (.type "object") = some true)
    (fSIGNSStacks : PySem.W.findIn K (.ref C_Stacks) "SIGNS" = some (some (.str ".01[><!?" tk_C_StacksSIGNS)))
    (gSIGNSStacks : PySem.W.specialIn K (.str ".01[><!?" tk_C_StacksSIGNS) "__get__" = some none)
    (fCLOSERSStacks : PySem.W.findIn K (.ref C_Stacks) "CLOSERS" = some (some (.str "." tk_C_StacksCLOSERS)))
    (gCLOSERSStacks : PySem.W.specialIn K (.str "." tk_C_StacksCLOSERS) "__get__" = some none)
    (aTOK : PySem.W.nsIn K mainGlobals "TOKENS" = some (some (.ref A_TOK)))
    (aTB : PySem.W.nsIn K mainGlobals "TOKEN_BITS" = some (some (.int 3 tkTB)))
    (lTOK : K.lookup A_TOK = some ⟨.type "tuple", none, .seq itsT nT, slT⟩)
    (zTOK : itsT.size ≤ sizeLine)
    (vTOK : Vals (tokL.map V.str) itsT.toList)
    : ∃ fd : FuncData, (∀ (s : Shared) (v : Value), BindsTo s fd ⟨[v], []⟩ [("script", v)]) ∧ ∀ base : Heap, K.In base → base.Ns mainGlobals mg → FnOk l.prog w K mg base CX0 9 fa fd ["script"] (spLaw K) := by
  have e := hfa.symm.trans (PySem.W.mg_of X G a_law)
  cases e
  have T : Txt K mg C_Reels C_Stacks A_TOK := ⟨PySem.W.mg_none_of X G z_super, PySem.W.mg_none_of X G z_isinstance, PySem.W.mg_none_of X G z_int, PySem.W.mg_none_of X G z_bool, PySem.W.mg_none_of X G z_str, PySem.W.mg_none_of X G z_enumerate, PySem.W.mg_none_of X G z_len, PySem.W.mg_none_of X G z_range, PySem.W.mg_none_of X G z_reversed, PySem.W.mg_none_of X G z_zip, PySem.W.mg_none_of X G z_abs, PySem.W.mg_none_of X G z_tuple, PySem.W.mg_none_of X G z_list, PySem.W.mg_none_of X G z_max, PySem.W.mg_of X G aC_Reels, PySem.W.mg_of X G aC_Stacks, PySem.W.mg_of X G aTOK, ⟨_, PySem.W.mg_of X G aTB⟩, ⟨_, _, _, lTOK, rfl, rfl, rfl, zTOK, vTOK⟩⟩
  have x_NoProgram : XErr l.prog K mg "NoProgram" C_NoProgram ["program"] := ⟨"NoProgram.__init__", f_NoProgram, s_NoProgram___init__, ⟨PySem.W.mg_of X G xgC_NoProgram, ⟨_, _, _, _, _, _, _, _, _, _, _, _, _, _, _, xxL_NoProgram, by rfl⟩, xsa_NoProgram, xga_NoProgram, xgg_NoProgram, xiC_NoProgram, xtI_NoProgram, xkC_NoProgram, xeC_NoProgram, xvC_NoProgram, xse_NoProgram, xtC_NoProgram, xhC_NoProgram, exm_own xeC_NoProgram xcC_NoProgram xtC_NoProgram xsC_NoProgram, xup_NoProgram, PySem.W.mg_none_of X G xsu, xop, xtp, _, _, _, _, _, _, _, _, _, _, _, _, _, _, _, _, _, _, xlI_NoProgram, xcI_NoProgram, xcd_NoProgram, xfi_NoProgram, xff_NoProgram, xcc_NoProgram⟩, xb_NoProgram, by simpa using xn_NoProgram_program⟩
  have x_InvalidNumber : XErr l.prog K mg "InvalidNumber" C_InvalidNumber ["number"] := ⟨"InvalidNumber.__init__", f_InvalidNumber, s_InvalidNumber___init__, ⟨PySem.W.mg_of X G xgC_InvalidNumber, ⟨_, _, _, _, _, _, _, _, _, _, _, _, _, _, _, xxL_InvalidNumber, by rfl⟩, xsa_InvalidNumber, xga_InvalidNumber, xgg_InvalidNumber, xiC_InvalidNumber, xtI_InvalidNumber, xkC_InvalidNumber, xeC_InvalidNumber, xvC_InvalidNumber, xse_InvalidNumber, xtC_InvalidNumber, xhC_InvalidNumber, exm_own xeC_InvalidNumber xcC_InvalidNumber xtC_InvalidNumber xsC_InvalidNumber, xup_InvalidNumber, PySem.W.mg_none_of X G xsu, xop, xtp, _, _, _, _, _, _, _, _, _, _, _, _, _, _, _, _, _, _, xlI_InvalidNumber, xcI_InvalidNumber, xcd_InvalidNumber, xfi_InvalidNumber, xff_InvalidNumber, xcc_InvalidNumber⟩, xb_InvalidNumber, by simpa using xn_InvalidNumber_number⟩
  have F_is_integer := fun_mk (x := "is_integer") (qual := "is_integer") (st := s_is_integer) l_is_integer c_is_integer k_is_integer
  have b_is_integer := F_is_integer.binds (ps := ["value"]) fun _ _ _ _ _ _ us hl => match us, hl with | [_], _ => rfl
  have F_is_word := fun_mk (x := "is_word") (qual := "is_word") (st := s_is_word) l_is_word c_is_word k_is_word
  have b_is_word := F_is_word.binds (ps := ["value"]) fun _ _ _ _ _ _ us hl => match us, hl with | [_], _ => rfl
  have F_depth_behind := fun_mk (x := "depth_behind") (qual := "depth_behind") (st := s_depth_behind) l_depth_behind c_depth_behind k_depth_behind
  have b_depth_behind := F_depth_behind.binds (ps := ["language", "sign", "depth"]) fun _ _ _ _ _ _ us hl => match us, hl with | [_, _, _], _ => rfl
  have F_longest_beginning := fun_mk (x := "longest_beginning") (qual := "longest_beginning") (st := s_longest_beginning) l_longest_beginning c_longest_beginning k_longest_beginning
  have b_longest_beginning := F_longest_beginning.binds (ps := ["language", "text"]) fun _ _ _ _ _ _ us hl => match us, hl with | [_, _], _ => rfl
  have F_is_block := fun_mk (x := "is_block") (qual := "is_block") (st := s_is_block) l_is_block c_is_block k_is_block
  have b_is_block := F_is_block.binds (ps := ["language", "value"]) fun _ _ _ _ _ _ us hl => match us, hl with | [_, _], _ => rfl
  have F_signs_of := fun_mk (x := "signs_of") (qual := "signs_of") (st := s_signs_of) l_signs_of c_signs_of k_signs_of
  have b_signs_of := F_signs_of.binds (ps := ["language", "program"]) fun _ _ _ _ _ _ us hl => match us, hl with | [_, _], _ => rfl
  have F_Reels_is_program := fun_mk (x := "is_program") (qual := "Reels.is_program") (st := s_Reels_is_program) l_Reels_is_program c_Reels_is_program k_Reels_is_program
  have b_Reels_is_program := F_Reels_is_program.binds (ps := ["self", "program"]) fun _ _ _ _ _ _ us hl => match us, hl with | [_, _], _ => rfl
  have F_Stacks_is_program := fun_mk (x := "is_program") (qual := "Stacks.is_program") (st := s_Stacks_is_program) l_Stacks_is_program c_Stacks_is_program k_Stacks_is_program
  have b_Stacks_is_program := F_Stacks_is_program.binds (ps := ["self", "program"]) fun _ _ _ _ _ _ us hl => match us, hl with | [_, _], _ => rfl
  have F_ways_to_close := fun_mk (x := "_ways_to_close") (qual := "_ways_to_close") (st := s_ways_to_close) l_ways_to_close c_ways_to_close k_ways_to_close
  have b_ways_to_close := F_ways_to_close.binds (ps := ["language", "tokens"]) fun _ _ _ _ _ _ us hl => match us, hl with | [_, _], _ => rfl
  have F_program_of_number := fun_mk (x := "program_of_number") (qual := "program_of_number") (st := s_program_of_number) l_program_of_number c_program_of_number k_program_of_number
  have b_program_of_number := F_program_of_number.binds (ps := ["language", "tokens", "number"]) fun _ _ _ _ _ _ us hl => match us, hl with | [_, _, _], _ => rfl
  have F_number_of_program := fun_mk (x := "number_of_program") (qual := "number_of_program") (st := s_number_of_program) l_number_of_program c_number_of_program k_number_of_program
  have b_number_of_program := F_number_of_program.binds (ps := ["language", "program"]) fun _ _ _ _ _ _ us hl => match us, hl with | [_, _], _ => rfl
  have F_law_tape := fun_mk (x := "_law_tape") (qual := "_law_tape") (st := s_law_tape) l_law_tape c_law_tape k_law_tape
  have b_law_tape := F_law_tape.binds (ps := ["script"]) fun _ _ _ _ _ _ us hl => match us, hl with | [_], _ => rfl
  have F_law_draw := fun_mk (x := "_law_draw") (qual := "_law_draw") (st := s_law_draw) l_law_draw c_law_draw k_law_draw
  have b_law_draw := F_law_draw.binds (ps := ["tape", "limit"]) fun _ _ _ _ _ _ us hl => match us, hl with | [_, _], _ => rfl
  have F_law_integer := fun_mk (x := "_law_integer") (qual := "_law_integer") (st := s_law_integer) l_law_integer c_law_integer k_law_integer
  have b_law_integer := F_law_integer.binds (ps := ["tape"]) fun _ _ _ _ _ _ us hl => match us, hl with | [_], _ => rfl
  have F_law_string := fun_mk (x := "_law_string") (qual := "_law_string") (st := s_law_string) l_law_string c_law_string k_law_string
  have b_law_string := F_law_string.binds (ps := ["tape"]) fun _ _ _ _ _ _ us hl => match us, hl with | [_], _ => rfl
  have F_law_stranger := fun_mk (x := "_law_stranger") (qual := "_law_stranger") (st := s_law_stranger) l_law_stranger c_law_stranger k_law_stranger
  have b_law_stranger := F_law_stranger.binds (ps := ["tape", "deep"]) fun _ _ _ _ _ _ us hl => match us, hl with | [_, _], _ => rfl
  have F_law_copy := fun_mk (x := "_law_copy") (qual := "_law_copy") (st := s_law_copy) l_law_copy c_law_copy k_law_copy
  have b_law_copy := F_law_copy.binds (ps := ["thing"]) fun _ _ _ _ _ _ us hl => match us, hl with | [_], _ => rfl
  have F_law_same := fun_mk (x := "_law_same") (qual := "_law_same") (st := s_law_same) l_law_same c_law_same k_law_same
  have b_law_same := F_law_same.binds (ps := ["told", "due"]) fun _ _ _ _ _ _ us hl => match us, hl with | [_, _], _ => rfl
  have F_law_step := fun_mk (x := "_law_step") (qual := "_law_step") (st := s_law_step) l_law_step c_law_step k_law_step
  have b_law_step := F_law_step.binds (ps := ["code", "closers"]) fun _ _ _ _ _ _ us hl => match us, hl with | [_, _], _ => rfl
  have F_law_ways := fun_mk (x := "_law_ways") (qual := "_law_ways") (st := s_law_ways) l_law_ways c_law_ways k_law_ways
  have b_law_ways := F_law_ways.binds (ps := ["closers"]) fun _ _ _ _ _ _ us hl => match us, hl with | [_], _ => rfl
  have F_law_word := fun_mk (x := "_law_word") (qual := "_law_word") (st := s_law_word) l_law_word c_law_word k_law_word
  have b_law_word := F_law_word.binds (ps := ["value", "length"]) fun _ _ _ _ _ _ us hl => match us, hl with | [_, _], _ => rfl
  have F_law_ranked := fun_mk (x := "_law_ranked") (qual := "_law_ranked") (st := s_law_ranked) l_law_ranked c_law_ranked k_law_ranked
  have b_law_ranked := F_law_ranked.binds (ps := ["ways", "closers", "tokens", "number"]) fun _ _ _ _ _ _ us hl => match us, hl with | [_, _, _, _], _ => rfl
  have F_law_rank := fun_mk (x := "_law_rank") (qual := "_law_rank") (st := s_law_rank) l_law_rank c_law_rank k_law_rank
  have b_law_rank := F_law_rank.binds (ps := ["ways", "closers", "value"]) fun _ _ _ _ _ _ us hl => match us, hl with | [_, _, _], _ => rfl
  have F_law_told_program := fun_mk (x := "_law_told_program") (qual := "_law_told_program") (st := s_law_told_program) l_law_told_program c_law_told_program k_law_told_program
  have b_law_told_program := F_law_told_program.binds (ps := ["language", "tokens", "number", "by_name"]) fun _ _ _ _ _ _ us hl => match us, hl with | [_, _, _, _], _ => rfl
  have F_law_told_number := fun_mk (x := "_law_told_number") (qual := "_law_told_number") (st := s_law_told_number) l_law_told_number c_law_told_number k_law_told_number
  have b_law_told_number := F_law_told_number.binds (ps := ["language", "program", "by_name"]) fun _ _ _ _ _ _ us hl => match us, hl with | [_, _, _], _ => rfl
  have F_law_number_right := fun_mk (x := "_law_number_right") (qual := "_law_number_right") (st := s_law_number_right) l_law_number_right c_law_number_right k_law_number_right
  have b_law_number_right := F_law_number_right.binds (ps := ["language", "ways", "closers", "tokens", "number", "by_name"]) fun _ _ _ _ _ _ us hl => match us, hl with | [_, _, _, _, _, _], _ => rfl
  have F_law_program_right := fun_mk (x := "_law_program_right") (qual := "_law_program_right") (st := s_law_program_right) l_law_program_right c_law_program_right k_law_program_right
  have b_law_program_right := F_law_program_right.binds (ps := ["language", "ways", "closers", "value", "by_name"]) fun _ _ _ _ _ _ us hl => match us, hl with | [_, _, _, _, _], _ => rfl
  have F_law_spoilt := fun_mk (x := "_law_spoilt") (qual := "_law_spoilt") (st := s_law_spoilt) l_law_spoilt c_law_spoilt k_law_spoilt
  have b_law_spoilt := F_law_spoilt.binds (ps := ["tape", "word"]) fun _ _ _ _ _ _ us hl => match us, hl with | [_, _], _ => rfl
  have F_law_asks := fun_mk (x := "_law_asks") (qual := "_law_asks") (st := s_law_asks) l_law_asks c_law_asks k_law_asks
  have b_law_asks := F_law_asks.binds (ps := ["script"]) fun _ _ _ _ _ _ us hl => match us, hl with | [_], _ => rfl
  have F_law := fun_mk (x := "law") (qual := "law") (st := s_law) l_law c_law k_law
  have b_law := F_law.binds (ps := ["script"]) fun _ _ _ _ _ _ us hl => match us, hl with | [_], _ => rfl
  refine ⟨PySem.W.fnOf "law" "law" (defArgs s_law) (defBody s_law) (defScope s_law) .none kV_law dc_law pm_law an_law cd_law ct_law, fun s v => .of_eq rfl, fun base KB GB => ?_⟩
  have lc_Reels : LgC K C_Reels true := ⟨⟨mkReels, inReels, kcReels, toReels⟩, ⟨pgReels, hdReels, poReels, saReels⟩, _, _, ⟨fSIGNSReels, ⟨_, rfl⟩, gSIGNSReels, by decide +kernel⟩, ⟨fCLOSERSReels, ⟨_, rfl⟩, gCLOSERSReels, by decide +kernel⟩⟩
  have lc_Stacks : LgC K C_Stacks false := ⟨⟨mkStacks, inStacks, kcStacks, toStacks⟩, ⟨pgStacks, hdStacks, poStacks, saStacks⟩, _, _, ⟨fSIGNSStacks, ⟨_, rfl⟩, gSIGNSStacks, by decide +kernel⟩, ⟨fCLOSERSStacks, ⟨_, rfl⟩, gCLOSERSStacks, by decide +kernel⟩⟩
  have cl_Reels := lc_Reels.cls
  have cl_Stacks := lc_Stacks.cls
  have G_is_word := ok_is_word (P := l.prog) (w := w) (base := base) F_is_word T 
  have c_is_word : Cal l.prog w K mg base 1 "is_word" (spIsWord K) := ⟨_, _, _, G_is_word, PySem.W.mg_of X G a_is_word, k_is_word, b_is_word⟩
  have G_is_integer := ok_is_integer (P := l.prog) (w := w) (base := base) F_is_integer T 
  have c_is_integer : Cal l.prog w K mg base 1 "is_integer" (spKind K isIntD) := ⟨_, _, _, G_is_integer, PySem.W.mg_of X G a_is_integer, k_is_integer, b_is_integer⟩
  have G_depth_behind := ok_depth_behind (P := l.prog) (w := w) (base := base) F_depth_behind T 
  have c_depth_behind : Cal l.prog w K mg base 1 "depth_behind" (spDep K) := ⟨_, _, _, G_depth_behind, PySem.W.mg_of X G a_depth_behind, k_depth_behind, b_depth_behind⟩
  have G_longest_beginning := ok_longest_beginning (P := l.prog) (w := w) (base := base) F_longest_beginning T c_depth_behind
  have c_longest_beginning : Cal l.prog w K mg base 2 "longest_beginning" (spLb K) := ⟨_, _, _, G_longest_beginning, PySem.W.mg_of X G a_longest_beginning, k_longest_beginning, b_longest_beginning⟩
  have G_signs_of := ok_signs_of (P := l.prog) (w := w) (base := base) F_signs_of T 
  have c_signs_of : Cal l.prog w K mg base 1 "signs_of" (spSgs K) := ⟨_, _, _, G_signs_of, PySem.W.mg_of X G a_signs_of, k_signs_of, b_signs_of⟩
  have G_is_block := ok_is_block (P := l.prog) (w := w) (base := base) F_is_block T c_is_word c_signs_of c_longest_beginning
  have c_is_block : Cal l.prog w K mg base 3 "is_block" (spIsBlk K) := ⟨_, _, _, G_is_block, PySem.W.mg_of X G a_is_block, k_is_block, b_is_block⟩
  have G_Reels_is_program := ok_Reels_is_program (P := l.prog) (w := w) (base := base) F_Reels_is_program T c_is_block
  have c_Reels_is_program : Met l.prog w K mg base 4 C_Reels "is_program" (spIsPr K C_Reels) := ⟨_, _, _, cl_Reels, ⟨a_Reels_is_program, i_Reels_is_program, k_Reels_is_program⟩, G_Reels_is_program, b_Reels_is_program⟩
  have G_Stacks_is_program := ok_Stacks_is_program (P := l.prog) (w := w) (base := base) F_Stacks_is_program T c_is_block
  have c_Stacks_is_program : Met l.prog w K mg base 4 C_Stacks "is_program" (spIsPr K C_Stacks) := ⟨_, _, _, cl_Stacks, ⟨a_Stacks_is_program, i_Stacks_is_program, k_Stacks_is_program⟩, G_Stacks_is_program, b_Stacks_is_program⟩
  have G_ways_to_close := ok_ways_to_close (P := l.prog) (w := w) (base := base) F_ways_to_close T 
  have c_ways_to_close : Cal l.prog w K mg base 1 "_ways_to_close" (spWays K) := ⟨_, _, _, G_ways_to_close, PySem.W.mg_of X G a_ways_to_close, k_ways_to_close, b_ways_to_close⟩
  have G_program_of_number := ok_program_of_number (P := l.prog) (w := w) (base := base) F_program_of_number T x_InvalidNumber c_ways_to_close c_is_integer c_depth_behind
  have c_program_of_number : CalX l.prog w K mg base 5 "program_of_number" (spOfNum K C_InvalidNumber) := ⟨_, _, _, G_program_of_number, PySem.W.mg_of X G a_program_of_number, k_program_of_number, b_program_of_number⟩
  have ck_program_of_number_number_tokens_language : CalXK l.prog w K mg base 5 "program_of_number" 0 ["number", "tokens", "language"] (fun xs zs => xs ++ zs.reverse) (spOfNum K C_InvalidNumber) := ⟨_, _, _, fun us ws => us ++ ws.reverse, G_program_of_number, PySem.W.mg_of X G a_program_of_number, k_program_of_number, L2Fun_kbn F_program_of_number (fun _ _ _ _ _ _ us ws h1 h2 => match us, ws, h1, h2 with | [], [_, _, _], _, _ => rfl) (fun r1 r2 => r1.append (vals_rev r2))⟩
  have G_number_of_program := ok_number_of_program (P := l.prog) (w := w) (base := base) F_number_of_program T x_NoProgram c_Reels_is_program c_Stacks_is_program c_signs_of c_ways_to_close c_depth_behind
  have c_number_of_program : CalX l.prog w K mg base 5 "number_of_program" (spNumOf K C_Reels C_Stacks C_NoProgram) := ⟨_, _, _, G_number_of_program, PySem.W.mg_of X G a_number_of_program, k_number_of_program, b_number_of_program⟩
  have ck_number_of_program_program_language : CalXK l.prog w K mg base 5 "number_of_program" 0 ["program", "language"] (fun xs zs => xs ++ zs.reverse) (spNumOf K C_Reels C_Stacks C_NoProgram) := ⟨_, _, _, fun us ws => us ++ ws.reverse, G_number_of_program, PySem.W.mg_of X G a_number_of_program, k_number_of_program, L2Fun_kbn F_number_of_program (fun _ _ _ _ _ _ us ws h1 h2 => match us, ws, h1, h2 with | [], [_, _], _, _ => rfl) (fun r1 r2 => r1.append (vals_rev r2))⟩
  have G_law_tape := ok_law_tape (P := l.prog) (w := w) (base := base) F_law_tape T 
  have c_law_tape : Cal l.prog w K mg base 1 "_law_tape" (spTape K) := ⟨_, _, _, G_law_tape, PySem.W.mg_of X G a_law_tape, k_law_tape, b_law_tape⟩
  have G_law_draw := ok_law_draw (P := l.prog) (w := w) (base := base) F_law_draw T 
  have c_law_draw : Cal l.prog w K mg base 1 "_law_draw" (spDraw) := ⟨_, _, _, G_law_draw, PySem.W.mg_of X G a_law_draw, k_law_draw, b_law_draw⟩
  have G_law_integer := ok_law_integer (P := l.prog) (w := w) (base := base) F_law_integer T c_law_draw
  have c_law_integer : Cal l.prog w K mg base 2 "_law_integer" (spAnyInt) := ⟨_, _, _, G_law_integer, PySem.W.mg_of X G a_law_integer, k_law_integer, b_law_integer⟩
  have G_law_string := ok_law_string (P := l.prog) (w := w) (base := base) F_law_string T c_law_draw
  have c_law_string : Cal l.prog w K mg base 2 "_law_string" (spString) := ⟨_, _, _, G_law_string, PySem.W.mg_of X G a_law_string, k_law_string, b_law_string⟩
  have c_law_stranger := cal_law_stranger (P := l.prog) (w := w) (base := base) F_law_stranger T (PySem.W.mg_of X G a_law_stranger) k_law_stranger b_law_stranger c_law_draw c_law_integer c_law_string 3
  have c_law_same := cal_law_same (P := l.prog) (w := w) (base := base) F_law_same T (PySem.W.mg_of X G a_law_same) k_law_same b_law_same 4
  have c_law_copy := cal_law_copy (P := l.prog) (w := w) (base := base) F_law_copy T (PySem.W.mg_of X G a_law_copy) k_law_copy b_law_copy 4
  have G_law_step := ok_law_step (P := l.prog) (w := w) (base := base) F_law_step T 
  have c_law_step : Cal l.prog w K mg base 1 "_law_step" (spLStep K) := ⟨_, _, _, G_law_step, PySem.W.mg_of X G a_law_step, k_law_step, b_law_step⟩
  have G_law_ways := ok_law_ways (P := l.prog) (w := w) (base := base) F_law_ways T 
  have c_law_ways : Cal l.prog w K mg base 1 "_law_ways" (spLWays K) := ⟨_, _, _, G_law_ways, PySem.W.mg_of X G a_law_ways, k_law_ways, b_law_ways⟩
  have G_law_word := ok_law_word (P := l.prog) (w := w) (base := base) F_law_word T 
  have c_law_word : Cal l.prog w K mg base 1 "_law_word" (spLawWord) := ⟨_, _, _, G_law_word, PySem.W.mg_of X G a_law_word, k_law_word, b_law_word⟩
  have G_law_ranked := ok_law_ranked (P := l.prog) (w := w) (base := base) F_law_ranked T c_law_step c_law_word
  have c_law_ranked : Cal l.prog w K mg base 2 "_law_ranked" (spRanked K) := ⟨_, _, _, G_law_ranked, PySem.W.mg_of X G a_law_ranked, k_law_ranked, b_law_ranked⟩
  have G_law_rank := ok_law_rank (P := l.prog) (w := w) (base := base) F_law_rank T c_law_step
  have c_law_rank : Cal l.prog w K mg base 2 "_law_rank" (spRank K) := ⟨_, _, _, G_law_rank, PySem.W.mg_of X G a_law_rank, k_law_rank, b_law_rank⟩
  have G_law_told_program := ok_law_told_program (P := l.prog) (w := w) (base := base) F_law_told_program T x_InvalidNumber c_program_of_number ck_program_of_number_number_tokens_language
  have c_law_told_program : Cal l.prog w K mg base 6 "_law_told_program" (spToldP K) := ⟨_, _, _, G_law_told_program, PySem.W.mg_of X G a_law_told_program, k_law_told_program, b_law_told_program⟩
  have G_law_told_number := ok_law_told_number (P := l.prog) (w := w) (base := base) F_law_told_number T x_NoProgram c_number_of_program ck_number_of_program_program_language
  have c_law_told_number : Cal l.prog w K mg base 6 "_law_told_number" (spToldN K C_Reels C_Stacks) := ⟨_, _, _, G_law_told_number, PySem.W.mg_of X G a_law_told_number, k_law_told_number, b_law_told_number⟩
  have G_law_program_right := ok_law_program_right (P := l.prog) (w := w) (base := base) F_law_program_right T c_law_copy c_law_same c_law_rank c_law_told_number
  have c_law_program_right : Cal l.prog w K mg base 7 "_law_program_right" (spPrgR K C_Reels C_Stacks) := ⟨_, _, _, G_law_program_right, PySem.W.mg_of X G a_law_program_right, k_law_program_right, b_law_program_right⟩
  have G_law_number_right := ok_law_number_right (P := l.prog) (w := w) (base := base) F_law_number_right T c_law_copy c_law_same c_law_ranked c_law_told_program c_law_told_number
  have c_law_number_right : Cal l.prog w K mg base 7 "_law_number_right" (spNumR K C_Reels C_Stacks) := ⟨_, _, _, G_law_number_right, PySem.W.mg_of X G a_law_number_right, k_law_number_right, b_law_number_right⟩
  have G_law_spoilt := ok_law_spoilt (P := l.prog) (w := w) (base := base) F_law_spoilt T c_law_draw c_law_word
  have c_law_spoilt : Cal l.prog w K mg base 2 "_law_spoilt" (spSpoilt) := ⟨_, _, _, G_law_spoilt, PySem.W.mg_of X G a_law_spoilt, k_law_spoilt, b_law_spoilt⟩
  have G_law_asks := ok_law_asks (P := l.prog) (w := w) (base := base) F_law_asks T lc_Reels lc_Stacks c_law_tape c_law_draw c_law_ways c_law_ranked c_law_spoilt c_law_stranger c_law_number_right c_law_program_right
  have c_law_asks : Cal l.prog w K mg base 8 "_law_asks" (spAsks K) := ⟨_, _, _, G_law_asks, PySem.W.mg_of X G a_law_asks, k_law_asks, b_law_asks⟩
  have G_law := ok_law (P := l.prog) (w := w) (base := base) F_law T c_law_asks
  exact G_law
end K14
open PySem PySem.W PyProof.Rows
set_option maxRecDepth 100000 in
set_option maxHeartbeats 0 in
theorem PySem.Challenge.cw_keptbudgets_k14_programs_by_number_holds : PySem.Challenge.rw_keptbudgets_k14_programs_by_number.Holds := by
  w_on; o_law; k_head; (case hw => w_witness2)
  k_fill
  refine L2.walk_of (l := PySem.Challenge.rw_keptbudgets_k14_programs_by_number) (n := 63) (k := 9) (x := "script") (CX := fun w => L2.CX0) (sp := fun w => K14.spLaw _) rfl (by decide) rfl ⟨rfl, by decide, by decide⟩ (fun w h Y => PySem.W.kIn_of Y) ?F (fun _ _ a ns hl _ hS => ⟨a, ns, rfl, hS, hl, fun _ => rfl⟩) (fun _ _ _ _ _ h => h)
  case F =>
    intro w mg fa h KX G hmg
    refine' K14.all_mk KX G hmg ?aC_Reels ?aC_Stacks ?xgC_NoProgram ?xxL_NoProgram ?xsa_NoProgram ?xga_NoProgram ?xgg_NoProgram ?xiC_NoProgram ?xtI_NoProgram ?xkC_NoProgram ?xeC_NoProgram ?xvC_NoProgram ?xse_NoProgram ?xtC_NoProgram ?xhC_NoProgram ?xcC_NoProgram ?xsC_NoProgram ?xlI_NoProgram ?xcI_NoProgram ?xcd_NoProgram ?xcc_NoProgram ?xfi_NoProgram ?xff_NoProgram ?xup_NoProgram ?xn_NoProgram_program ?xgC_InvalidNumber ?xxL_InvalidNumber ?xsa_InvalidNumber ?xga_InvalidNumber ?xgg_InvalidNumber ?xiC_InvalidNumber ?xtI_InvalidNumber ?xkC_InvalidNumber ?xeC_InvalidNumber ?xvC_InvalidNumber ?xse_InvalidNumber ?xtC_InvalidNumber ?xhC_InvalidNumber ?xcC_InvalidNumber ?xsC_InvalidNumber ?xlI_InvalidNumber ?xcI_InvalidNumber ?xcd_InvalidNumber ?xcc_InvalidNumber ?xfi_InvalidNumber ?xff_InvalidNumber ?xup_InvalidNumber ?xn_InvalidNumber_number ?xsu ?xop ?xtp ?a_is_integer ?l_is_integer ?c_is_integer ?k_is_integer ?a_is_word ?l_is_word ?c_is_word ?k_is_word ?a_depth_behind ?l_depth_behind ?c_depth_behind ?k_depth_behind ?a_longest_beginning ?l_longest_beginning ?c_longest_beginning ?k_longest_beginning ?a_is_block ?l_is_block ?c_is_block ?k_is_block ?a_signs_of ?l_signs_of ?c_signs_of ?k_signs_of ?a_Reels_is_program ?i_Reels_is_program ?l_Reels_is_program ?c_Reels_is_program ?k_Reels_is_program ?a_Stacks_is_program ?i_Stacks_is_program ?l_Stacks_is_program ?c_Stacks_is_program ?k_Stacks_is_program ?a_ways_to_close ?l_ways_to_close ?c_ways_to_close ?k_ways_to_close ?a_program_of_number ?l_program_of_number ?c_program_of_number ?k_program_of_number ?a_number_of_program ?l_number_of_program ?c_number_of_program ?k_number_of_program ?a_law_tape ?l_law_tape ?c_law_tape ?k_law_tape ?a_law_draw ?l_law_draw ?c_law_draw ?k_law_draw ?a_law_integer ?l_law_integer ?c_law_integer ?k_law_integer ?a_law_string ?l_law_string ?c_law_string ?k_law_string ?a_law_stranger ?l_law_stranger ?c_law_stranger ?k_law_stranger ?a_law_copy ?l_law_copy ?c_law_copy ?k_law_copy ?a_law_same ?l_law_same ?c_law_same ?k_law_same ?a_law_step ?l_law_step ?c_law_step ?k_law_step ?a_law_ways ?l_law_ways ?c_law_ways ?k_law_ways ?a_law_word ?l_law_word ?c_law_word ?k_law_word ?a_law_ranked ?l_law_ranked ?c_law_ranked ?k_law_ranked ?a_law_rank ?l_law_rank ?c_law_rank ?k_law_rank ?a_law_told_program ?l_law_told_program ?c_law_told_program ?k_law_told_program ?a_law_told_number ?l_law_told_number ?c_law_told_number ?k_law_told_number ?a_law_number_right ?l_law_number_right ?c_law_number_right ?k_law_number_right ?a_law_program_right ?l_law_program_right ?c_law_program_right ?k_law_program_right ?a_law_spoilt ?l_law_spoilt ?c_law_spoilt ?k_law_spoilt ?a_law_asks ?l_law_asks ?c_law_asks ?k_law_asks ?a_law ?l_law ?c_law ?k_law ?z_super ?z_isinstance ?z_int ?z_bool ?z_str ?z_enumerate ?z_len ?z_range ?z_reversed ?z_zip ?z_abs ?z_tuple ?z_list ?z_max ?cHn ?cTk ?pgReels ?hdReels ?poReels ?saReels ?mkReels ?kcReels ?inReels ?toReels ?fSIGNSReels ?gSIGNSReels ?fCLOSERSReels ?gCLOSERSReels ?pgStacks ?hdStacks ?poStacks ?saStacks ?mkStacks ?kcStacks ?inStacks ?toStacks ?fSIGNSStacks ?gSIGNSStacks ?fCLOSERSStacks ?gCLOSERSStacks ?aTOK ?aTB ?lTOK ?zTOK ?vTOK
    (case aC_Reels => k_is)
    (case aC_Stacks => k_is)
    (case xgC_NoProgram => k_is)
    (case xxL_NoProgram => k_is)
    (case xsa_NoProgram => k_is)
    (case xga_NoProgram => k_is)
    (case xgg_NoProgram => k_is)
    (case xiC_NoProgram => k_is)
    (case xtI_NoProgram => k_is)
    (case xkC_NoProgram => k_is)
    (case xeC_NoProgram => k_is)
    (case xvC_NoProgram => k_is)
    (case xse_NoProgram => k_is)
    (case xtC_NoProgram => k_is)
    (case xhC_NoProgram => k_is)
    (case xcC_NoProgram => k_is)
    (case xsC_NoProgram => k_is)
    (case xlI_NoProgram => k_is)
    (case xcI_NoProgram => k_is)
    (case xcd_NoProgram => k_is)
    (case xcc_NoProgram => k_is)
    (case xfi_NoProgram => exact rfl)
    (case xff_NoProgram => first | rfl | decide +kernel)
    (case xup_NoProgram => first | k_is | ks_is)
    (case xn_NoProgram_program => k_is)
    (case xgC_InvalidNumber => k_is)
    (case xxL_InvalidNumber => k_is)
    (case xsa_InvalidNumber => k_is)
    (case xga_InvalidNumber => k_is)
    (case xgg_InvalidNumber => k_is)
    (case xiC_InvalidNumber => k_is)
    (case xtI_InvalidNumber => k_is)
    (case xkC_InvalidNumber => k_is)
    (case xeC_InvalidNumber => k_is)
    (case xvC_InvalidNumber => k_is)
    (case xse_InvalidNumber => k_is)
    (case xtC_InvalidNumber => k_is)
    (case xhC_InvalidNumber => k_is)
    (case xcC_InvalidNumber => k_is)
    (case xsC_InvalidNumber => k_is)
    (case xlI_InvalidNumber => k_is)
    (case xcI_InvalidNumber => k_is)
    (case xcd_InvalidNumber => k_is)
    (case xcc_InvalidNumber => k_is)
    (case xfi_InvalidNumber => exact rfl)
    (case xff_InvalidNumber => first | rfl | decide +kernel)
    (case xup_InvalidNumber => first | k_is | ks_is)
    (case xn_InvalidNumber_number => k_is)
    (case xsu => k_is)
    (case xop => k_is)
    (case xtp => first | rfl | decide +kernel)
    (case a_is_integer => k_is)
    (case l_is_integer => k_is)
    (case c_is_integer => k_is)
    (case k_is_integer => k_is)
    (case a_is_word => k_is)
    (case l_is_word => k_is)
    (case c_is_word => k_is)
    (case k_is_word => k_is)
    (case a_depth_behind => k_is)
    (case l_depth_behind => k_is)
    (case c_depth_behind => k_is)
    (case k_depth_behind => k_is)
    (case a_longest_beginning => k_is)
    (case l_longest_beginning => k_is)
    (case c_longest_beginning => k_is)
    (case k_longest_beginning => k_is)
    (case a_is_block => k_is)
    (case l_is_block => k_is)
    (case c_is_block => k_is)
    (case k_is_block => k_is)
    (case a_signs_of => k_is)
    (case l_signs_of => k_is)
    (case c_signs_of => k_is)
    (case k_signs_of => k_is)
    (case a_Reels_is_program => k_is)
    (case i_Reels_is_program => k_is)
    (case l_Reels_is_program => k_is)
    (case c_Reels_is_program => k_is)
    (case k_Reels_is_program => k_is)
    (case a_Stacks_is_program => k_is)
    (case i_Stacks_is_program => k_is)
    (case l_Stacks_is_program => k_is)
    (case c_Stacks_is_program => k_is)
    (case k_Stacks_is_program => k_is)
    (case a_ways_to_close => k_is)
    (case l_ways_to_close => k_is)
    (case c_ways_to_close => k_is)
    (case k_ways_to_close => k_is)
    (case a_program_of_number => k_is)
    (case l_program_of_number => k_is)
    (case c_program_of_number => k_is)
    (case k_program_of_number => k_is)
    (case a_number_of_program => k_is)
    (case l_number_of_program => k_is)
    (case c_number_of_program => k_is)
    (case k_number_of_program => k_is)
    (case a_law_tape => k_is)
    (case l_law_tape => k_is)
    (case c_law_tape => k_is)
    (case k_law_tape => k_is)
    (case a_law_draw => k_is)
    (case l_law_draw => k_is)
    (case c_law_draw => k_is)
    (case k_law_draw => k_is)
    (case a_law_integer => k_is)
    (case l_law_integer => k_is)
    (case c_law_integer => k_is)
    (case k_law_integer => k_is)
    (case a_law_string => k_is)
    (case l_law_string => k_is)
    (case c_law_string => k_is)
    (case k_law_string => k_is)
    (case a_law_stranger => k_is)
    (case l_law_stranger => k_is)
    (case c_law_stranger => k_is)
    (case k_law_stranger => k_is)
    (case a_law_copy => k_is)
    (case l_law_copy => k_is)
    (case c_law_copy => k_is)
    (case k_law_copy => k_is)
    (case a_law_same => k_is)
    (case l_law_same => k_is)
    (case c_law_same => k_is)
    (case k_law_same => k_is)
    (case a_law_step => k_is)
    (case l_law_step => k_is)
    (case c_law_step => k_is)
    (case k_law_step => k_is)
    (case a_law_ways => k_is)
    (case l_law_ways => k_is)
    (case c_law_ways => k_is)
    (case k_law_ways => k_is)
    (case a_law_word => k_is)
    (case l_law_word => k_is)
    (case c_law_word => k_is)
    (case k_law_word => k_is)
    (case a_law_ranked => k_is)
    (case l_law_ranked => k_is)
    (case c_law_ranked => k_is)
    (case k_law_ranked => k_is)
    (case a_law_rank => k_is)
    (case l_law_rank => k_is)
    (case c_law_rank => k_is)
    (case k_law_rank => k_is)
    (case a_law_told_program => k_is)
    (case l_law_told_program => k_is)
    (case c_law_told_program => k_is)
    (case k_law_told_program => k_is)
    (case a_law_told_number => k_is)
    (case l_law_told_number => k_is)
    (case c_law_told_number => k_is)
    (case k_law_told_number => k_is)
    (case a_law_number_right => k_is)
    (case l_law_number_right => k_is)
    (case c_law_number_right => k_is)
    (case k_law_number_right => k_is)
    (case a_law_program_right => k_is)
    (case l_law_program_right => k_is)
    (case c_law_program_right => k_is)
    (case k_law_program_right => k_is)
    (case a_law_spoilt => k_is)
    (case l_law_spoilt => k_is)
    (case c_law_spoilt => k_is)
    (case k_law_spoilt => k_is)
    (case a_law_asks => k_is)
    (case l_law_asks => k_is)
    (case c_law_asks => k_is)
    (case k_law_asks => k_is)
    (case a_law => k_is)
    (case l_law => k_is)
    (case c_law => k_is)
    (case k_law => k_is)
    (case z_super => k_is)
    (case z_isinstance => k_is)
    (case z_int => k_is)
    (case z_bool => k_is)
    (case z_str => k_is)
    (case z_enumerate => k_is)
    (case z_len => k_is)
    (case z_range => k_is)
    (case z_reversed => k_is)
    (case z_zip => k_is)
    (case z_abs => k_is)
    (case z_tuple => k_is)
    (case z_list => k_is)
    (case z_max => k_is)
    (case cHn => k_is)
    (case cTk => k_is)
    (case pgReels => k_is)
    (case hdReels => k_is)
    (case poReels => k_is)
    (case saReels => k_is)
    (case mkReels => k_is)
    (case kcReels => k_is)
    (case inReels => k_is)
    (case toReels => k_is)
    (case fSIGNSReels => k_is)
    (case gSIGNSReels => k_is)
    (case fCLOSERSReels => k_is)
    (case gCLOSERSReels => k_is)
    (case pgStacks => k_is)
    (case hdStacks => k_is)
    (case poStacks => k_is)
    (case saStacks => k_is)
    (case mkStacks => k_is)
    (case kcStacks => k_is)
    (case inStacks => k_is)
    (case toStacks => k_is)
    (case fSIGNSStacks => k_is)
    (case gSIGNSStacks => k_is)
    (case fCLOSERSStacks => k_is)
    (case gCLOSERSStacks => k_is)
    (case aTOK => k_is)
    (case aTB => k_is)
    (case lTOK => k_is)
    (case zTOK => exact (by decide))
    (case vTOK => exact (by repeat first | exact .nil | refine .cons ⟨_, rfl⟩ ?_))
#print axioms PySem.Challenge.cw_keptbudgets_k14_programs_by_number_holds
