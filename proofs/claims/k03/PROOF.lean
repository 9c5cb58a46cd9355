import PyProof.Rows.All
import Wide.All
import OpenK.AllK
import Wide.FinOn
import HandS.ForMost
import HandS.ForExc
import HandS.Codes
import HandS.Wide
import HandS.WideBits
import HandS.IsInst
import HandS.Defaults
import KE.KExcSuper
import HandS.ExcInit
import HandS.ExcIs
import HandS.More
import HandS.ExcCtx
import HandS.ExcField
import HandS.HotCalls
import HandS.SlotsOwn
import HandS.MakeKwOnly
import HandS.TryMany
import HandS.Gcd
import HandS.TupLe
import PyProof.FString3
import HandS.FStr
import PyProof.Rows.StrIntSpec
import HandS.StrMore
import KE.GoesMore
import HandS.SortInts
import PyProof.TupleIter
import HandS.SortRule
import KE.DataMinMax
import HandS.SortKw
import KE.KMathGC
import KE.KDictZip
import HandS.ExcValue
import KE.GoesEnum
import HandS.Flt
import PyProof.Rows.StrPadFill
import PyProof.Rows.StrPadWhole
import HandS.Style
import HandS.RevRange
import HandS.Conv
import KE.KRevSl
import HandS.Text
import HandS.Iter
import HandS.Comp
import HandS.Strs
import HandS.ReplaceLit
import PyProof.Rows.StrStrike
import PySem.Challenge.RW_keptbudgets_k03_words_and_clashes
set_option Elab.async false
set_option linter.all false
set_option maxRecDepth 100000
set_option maxHeartbeats 4000000
namespace KB
open PySem PySem.Spec PyProof.Rows L2

/-! ### heaps -/
theorem same_upd {H : Hp} {p : Addr} {o : HO} (h : H p = none) : Same H (upd H p o) := fun b x e => by
  rw [upd_ne (ne_of_none e h)]
  exact e
theorem same_set {B H : Hp} {p : Addr} {o : HO} (s : Same B H) : Same (upd B p o) (upd H p o) := fun b x e => by
  by_cases hb : b = p
  · subst hb
    rw [upd_same] at e ⊢
    exact e
  · rw [upd_ne hb] at e ⊢
    exact s b x e
theorem same_out {B H : Hp} {p : Addr} {o : HO} (s : Same B H) (h : B p = none) : Same B (upd H p o) := fun b x e => by
  rw [upd_ne (ne_of_none e h)]
  exact s b x e
theorem sz (n : Nat) (h : n ≤ 16777216 := by decide) : n ≤ sizeLine := by
  rw [sizeLine_eq]
  exact h
theorem szl {n : Nat} (h : n < 16777216) : n < sizeLine := by
  rw [sizeLine_eq]
  exact h
theorem szle {n : Nat} (h : n ≤ 16777216) : n ≤ sizeLine := by
  rw [sizeLine_eq]
  exact h

/-! ### the tape: B is all that stands beside it -/
structure Tp (B H : Hp) (t : Addr) (c : Nat) : Prop where
  same : Same B H
  bt : B t = none
  ex : ∃ (g : Addr) (gs : List Int) (sd ct : Int), B g = none ∧ t ≠ g ∧ H t = some (.lst [.ref g, .int sd, .int ct]) ∧ H g = some (.lst (gs.map V.int)) ∧
    gs.length ≤ 63 ∧ 0 ≤ sd ∧ sd < 2147483647 ∧ 0 ≤ ct ∧ ct ≤ (c : Int)
theorem Tp.le {B H : Hp} {t : Addr} {c d : Nat} (T : Tp B H t c) (h : c ≤ d) : Tp B H t d := by
  obtain ⟨s, b, g, gs, sd, ct, h1, h2, h3, h4, h5, h6, h7, h8, h9⟩ := T
  exact ⟨s, b, g, gs, sd, ct, h1, h2, h3, h4, h5, h6, h7, h8, by omega⟩
theorem Tp.new {B H : Hp} {t p : Addr} {c : Nat} {o : HO} (T : Tp B H t c) (h : H p = none) : Tp (upd B p o) (upd H p o) t c := by
  obtain ⟨s, b, g, gs, sd, ct, h1, h2, h3, h4, h5⟩ := T
  have e1 : t ≠ p := ne_of_none h3 h
  have e2 : g ≠ p := ne_of_none h4 h
  exact ⟨same_set s, by rw [upd_ne e1]; exact b, g, gs, sd, ct, by rw [upd_ne e2]; exact h1, h2, by rw [upd_ne e1]; exact h3, by rw [upd_ne e2]; exact h4, h5⟩
theorem Tp.set {B H : Hp} {t p : Addr} {c : Nat} {o o' : HO} (T : Tp B H t c) (h : B p = some o) : Tp (upd B p o') (upd H p o') t c := by
  obtain ⟨s, b, g, gs, sd, ct, h1, h2, h3, h4, h5⟩ := T
  have e1 : t ≠ p := fun z => by rw [z, h] at b; cases b
  have e2 : g ≠ p := fun z => by rw [z, h] at h1; cases h1
  exact ⟨same_set s, by rw [upd_ne e1]; exact b, g, gs, sd, ct, by rw [upd_ne e2]; exact h1, h2, by rw [upd_ne e1]; exact h3, by rw [upd_ne e2]; exact h4, h5⟩
theorem Tp.free {B H : Hp} {t p : Addr} {c : Nat} (T : Tp B H t c) (h : H p = none) : B p = none := T.same.free h
theorem Tp.at {B H : Hp} {t p : Addr} {c : Nat} {o : HO} (T : Tp B H t c) (h : B p = some o) : H p = some o := T.same _ _ h
theorem Tp.inst {B H : Hp} {t x dx C : Addr} {c : Nat} {fs : List (Str × V)} (T : Tp B H t c) (hx : H x = none) (hd : H dx = none) (ne : dx ≠ x) : Tp (upd (upd B dx (.own x)) x (.ins C dx fs)) (upd (upd H dx (.own x)) x (.ins C dx fs)) t c :=
  (T.new hd).new (by rw [upd_ne ne.symm]; exact hx)
theorem Tp.ext {B H H' : Hp} {t : Addr} {c : Nat} (T : Tp B H t c) (s : Same H H') : Tp B H' t c := by
  obtain ⟨sm, b, g, gs, sd, ct, h1, h2, h3, h4, h5⟩ := T
  exact ⟨sm.trans s, b, g, gs, sd, ct, h1, h2, s _ _ h3, s _ _ h4, h5⟩
theorem Tp.ext1 {B H H' : Hp} {t p : Addr} {c : Nat} {o : HO} (T : Tp B H t c) (s : Same H H') (hp : H p = none) (ho : H' p = some o) : Tp (upd B p o) H' t c := by
  obtain ⟨sm, b, g, gs, sd, ct, h1, h2, h3, h4, h5⟩ := T
  have e1 : t ≠ p := ne_of_none h3 hp
  have e2 : g ≠ p := ne_of_none h4 hp
  refine ⟨fun b x e => ?_, by rw [upd_ne e1]; exact b, g, gs, sd, ct, by rw [upd_ne e2]; exact h1, h2, s _ _ h3, s _ _ h4, h5⟩
  by_cases hb : b = p
  · subst hb
    rw [upd_same] at e
    rw [ho]
    exact e
  · rw [upd_ne hb] at e
    exact s _ _ (sm _ _ e)
theorem Tp.isn {B H : Hp} {t p : Addr} {c : Nat} (T : Tp B H t c) (h : H p = none) : B p = none := T.same.free h
theorem same_ins {B : Hp} {x dx C : Addr} {fs : List (Str × V)} (hx : B x = none) (hd : B dx = none) (ne : dx ≠ x) : Same B (upd (upd B dx (.own x)) x (.ins C dx fs)) :=
  (same_upd hd).trans (same_upd (by rw [upd_ne ne.symm]; exact hx))
/-- a draw's number is a natural one -/
theorem nat_of {n : Int} (h : 0 ≤ n) : ∃ k : Nat, n = (k : Int) := ⟨n.toNat, by omega⟩
end KB

namespace KB
open PySem PySem.Spec PyProof.Rows L2
section
variable {P : Program} {w : World} {K : PySem.W.Frag} {mg : Str → Option Value} {base : Heap}
/-- a def of the module that raises nothing, to be called by its name -/
structure Cal (P : Program) (w : World) (K : PySem.W.Frag) (mg : Str → Option Value) (base : Heap) (k : Nat) (x : Str) (sp : Sp) : Prop where
  ex : ∃ (f : Addr) (fd : FuncData) (ps : List Str), FnOk P w K mg base CX0 k f fd ps sp ∧ mg x = some (.ref f) ∧ PySem.W.keepIn K (.ref f) = true ∧ Binds K fd ps []
/-- .. called by keywords alone -/
structure CalK (P : Program) (w : World) (K : PySem.W.Frag) (mg : Str → Option Value) (base : Heap) (k : Nat) (x : Str) (n : Nat) (ks : List Str) (gV : List V → List V → List V) (sp : Sp) : Prop where
  ex : ∃ (f : Addr) (fd : FuncData) (ps : List Str) (g : List Value → List Value → List Value), FnOk P w K mg base CX0 k f fd ps sp ∧ mg x = some (.ref f) ∧ PySem.W.keepIn K (.ref f) = true ∧ KBn K fd ps n ks g gV
/-- a method of the class at C -/
structure Met (P : Program) (w : World) (K : PySem.W.Frag) (mg : Str → Option Value) (base : Heap) (k : Nat) (C : Addr) (m : Str) (sp : Sp) : Prop where
  ex : ∃ (f : Addr) (fd : FuncData) (ps : List Str), Cls K C ∧ Meth K C m f ∧ FnOk P w K mg base CX0 k f fd ps sp ∧ Binds K fd ps []
theorem L2Fun_kbn {x qual : Str} {st : Stmt} {f : Addr} {fd : FuncData} {ps ks : List Str} {n : Nat} {g : List Value → List Value → List Value} {gV : List V → List V → List V} (F : Fun K x qual st f fd)
    (h : ∀ (kV doc pm : Value) (an : Option Addr) (cdv ct : Value) (us ws : List Value), us.length = n → ws.length = ks.length → bindArgs (PySem.W.fnOf x qual (defArgs st) (defBody st) (defScope st) .none kV doc pm an cdv ct) ⟨us, ks.zip ws⟩ = pure (ps.zip (g us ws)))
    (hrel : ∀ {vs : List V} {us : List Value} {zs : List V} {ws : List Value}, Vals vs us → Vals zs ws → Vals (gV vs zs) (g us ws)) : KBn K fd ps n ks g gV := by
  obtain ⟨oc, od, kV, doc, pm, an, cdv, ct, osl, rfl, lk, hcd⟩ := F.ex
  exact ⟨fun s us ws _ l1 l2 => .of_eq (h kV doc pm an cdv ct us ws l1 l2), fun r1 r2 => hrel r1 r2⟩
end
theorem vals_rev : ∀ {vs : List V} {us : List Value}, Vals vs us → Vals vs.reverse us.reverse
  | _, _, .nil => .nil
  | _, _, .cons r t => by
    rw [List.reverse_cons, List.reverse_cons]
    exact (vals_rev t).append (.cons r .nil)
section
variable {X : Cx} {k j n : Nat} {C : Addr} {x m : Str} {sp : Sp} {p pos apos : Pos} {e o : Expr} {es : List Expr} {kws : List Keyword} {ta : TE} {t tk : TA} {ks : List Str} {gV : List V → List V → List V}
theorem pe_c (c : Cal X.prog X.w X.K X.mg X.base k x sp) (hr : Room j X.A) (hk : k ≤ j) (hg : Gl X x) (ha : PA X (e :: es) t)
    (hdb : (x == ("__debug__" : Str)) = false := by decide) (he : starEach (e :: es) X.env = (false, eval e X.env) :: starEach es X.env := by rfl) (hpl : (backTo pos (starEach es X.env)).any (·.1) = false := by rfl) :
    PE X (.Call (.Name x p) (e :: es) [] pos) (tCall sp [] E0 t) := by
  obtain ⟨f, fd, ps, F, hm, kp, b⟩ := c.ex
  exact pe_call F (hr.mono hk) hg hm kp b .nil pass0 ha hdb he hpl
theorem pe_c0 (c : Cal X.prog X.w X.K X.mg X.base k x sp) (hr : Room j X.A) (hk : k ≤ j) (hg : Gl X x)
    (hdb : (x == ("__debug__" : Str)) = false := by decide) :
    PE X (.Call (.Name x p) [] [] pos) (tCall sp [] E0 tNil) := by
  obtain ⟨f, fd, ps, F, hm, kp, b⟩ := c.ex
  exact pe_call0 F (hr.mono hk) hg hm kp b .nil pass0 hdb
theorem pe_mt {pl : Sem Bool} (c : Met X.prog X.w X.K X.mg X.base k C m sp) (hr : Room j X.A) (hk : k ≤ j) (he : PE X o ta) (ha : PA X (e :: es) t)
    (hst : starEach (e :: es) X.env = (false, eval e X.env) :: starEach es X.env := by rfl) (hpl : (backTo pos (starEach es X.env)).any (·.1) = false := by rfl)
    (ht : eval (.Call (.Attribute o m apos) (e :: es) [] pos) X.env = (do
      let ov ← eval o X.env
      standAt apos.atName
      let (f, first) ← holding [ov] (getMethod ov m pl)
      callWith pos f first (backTo pos (starEach (e :: es) X.env)) (backToKw pos (keywordEach [] X.env))) := by rfl) :
    PE X (.Call (.Attribute o m apos) (e :: es) [] pos) (tMeth C m sp [] E0 ta t) := by
  obtain ⟨f, fd, ps, hc, hm, F, b⟩ := c.ex
  exact pe_meth (pl := pl) he hc hm F (hr.mono hk) b .nil pass0 ha hst hpl ht
theorem pe_mt0 {pl : Sem Bool} (c : Met X.prog X.w X.K X.mg X.base k C m sp) (hr : Room j X.A) (hk : k ≤ j) (he : PE X o ta)
    (ht : eval (.Call (.Attribute o m apos) [] [] pos) X.env = (do
      let ov ← eval o X.env
      standAt apos.atName
      let (f, first) ← holding [ov] (getMethod ov m pl)
      callWith pos f first (backTo pos (starEach [] X.env)) (backToKw pos (keywordEach [] X.env))) := by rfl) :
    PE X (.Call (.Attribute o m apos) [] [] pos) (tMeth C m sp [] E0 ta tNil) := by
  obtain ⟨f, fd, ps, hc, hm, F, b⟩ := c.ex
  exact pe_meth0 (pl := pl) he hc hm F (hr.mono hk) b .nil pass0 ht
/-- f(k = v, ..) -/
def tCallK0 (m : Nat) (sp : Sp) (gV : List V → List V → List V) (E : XK) (tk : TA) : TE := fun σ H Q => tk σ H fun zs H2 => zs.length = m ∧ sp (gV [] zs) H2 Q E
theorem pe_cK0 (c : CalK X.prog X.w X.K X.mg X.base k x 0 ks gV sp) (hr : Room j X.A) (hk : k ≤ j) (hg : Gl X x) (hkw : PK X kws tk)
    (hall : (backToKw pos (keywordEach kws X.env)).all (·.1.isSome) = true := by rfl) (hks : (backToKw pos (keywordEach kws X.env)).filterMap (·.1) = ks := by rfl) (hdb : (x == ("__debug__" : Str)) = false := by decide)
    (hpl : ((backTo pos (starEach [] X.env)).any (·.1) || (backToKw pos (keywordEach kws X.env)).any (·.1.isNone)) = false := by rfl) :
    PE X (.Call (.Name x p) [] kws pos) (tCallK0 ks.length sp gV E0 tk) := by
  obtain ⟨f, fd, ps, g, F, hm, kp, hb⟩ := c.ex
  refine ⟨fun pins s σ H Q I h => ?_⟩
  refine wpAny_Call_Name_kw (ld_glob I hg hm ?_ hdb)
  refine PySem.W.callWith_KW0 (h₀ := X.base) I.ok.mod.kin kp hall ?_ hpl
  refine thn (hkw.run pos pins s σ H _ I h) fun ws s2 ⟨zs, H2, I2, rz, l2, q2⟩ => ⟨I2.kIn, ?_⟩
  rw [hks]
  have r2 : Vals (gV [] zs) (g [] ws) := hb.rel (vs := []) (us := []) .nil rz
  refine wpAny_call (codeAny_mono (F.run X.A X.stack s2 H2 ⟨[], ks.zip ws⟩ (g [] ws) (gV [] zs) Q E0 (hr.mono hk) I2.env0 (hb.to s2 [] ws I2.kIn rfl (rz.length.symm.trans l2)) r2 q2) fun r s' hq => ?_)
  cases r with
  | error e => exact pass0 pins σ H2 s2 e s' I2 hq
  | ok fl =>
    cases fl with
    | ret u => exact I2.after hq
    | next => exact False.elim hq
    | brk => exact False.elim hq
    | cont => exact False.elim hq
/-- C() of a class that has no __init__ of its own -/
structure Mk0 (K : PySem.W.Frag) (C : Addr) : Prop where
  makes : PySem.W.makesIn K C = true
  init : PySem.W.findIn K (.ref C) "__init__" = some (some (.builtin "object.__init__"))
  kp : PySem.W.keepIn K (.ref C) = true
  top : PySem.W.mroIn K C (.type "object") = some true
def tNew0 (C : Addr) : TE := fun _ H Q => ∀ x dx, H x = none → H dx = none → dx ≠ x → Q (.ref x) (upd (upd H dx (.own x)) x (.ins C dx []))
theorem pe_new0 (M : Mk0 X.K C) (hg : Gl X x) (hm : X.mg x = some (.ref C)) (hdb : (x == ("__debug__" : Str)) = false := by decide) : PE X (.Call (.Name x p) [] [] pos) (tNew0 C) := by
  refine ⟨fun pins s σ H Q I h => ?_⟩
  refine wpAny_Call_Name_kw (ld_glob I hg hm ?_ hdb)
  refine PySem.W.callWith_K0 I.kIn M.kp ?_
  have hq := h (s.heap.objs.size + 1) s.heap.objs.size (I.hok.fresh (Nat.le_succ _)) (I.hok.fresh (Nat.le_refl _)) (Nat.ne_of_lt (Nat.lt_succ_self _))
  have I2 := Inv.made (C := C) I
  have hx : ((s.heap.push PySem.W.emptyDict).push (PySem.W.instObj C s.heap.objs.size)).get? (s.heap.objs.size + 1) = some (PySem.W.instObj C s.heap.objs.size) := by
    have := Heap.get?_push_size (s.heap.push PySem.W.emptyDict) (o := PySem.W.instObj C s.heap.objs.size) rfl
    rwa [Heap.size_push] at this
  have t1 : PySem.W.Looks (model X.prog X.w) ((s.heap.push PySem.W.emptyDict).push (PySem.W.instObj C s.heap.objs.size)) (typeOf (.ref (s.heap.objs.size + 1))) (.ref C) := (PySem.W.Looks.ld hx).andThen .now
  have t2 : PySem.W.Looks (model X.prog X.w) ((s.heap.push PySem.W.emptyDict).push (PySem.W.instObj C s.heap.objs.size)) (isInstance (.ref (s.heap.objs.size + 1)) (.type "object")) true := t1.andThen (PySem.W.looks_mroIn I2.kIn M.top)
  refine wpAny_call (make_map0 I.kIn M.makes M.init (fun self => PySem.W.Looks.of_pure (PySem.W.oi_bind self)) ?_)
  refine codeAny_call_builtin PySem.W.oi_plain PySem.W.entry_oi (@PySem.W.check_slot (model X.prog X.w) _ _ _ "object.__init__" "object" "__init__" (.ref (s.heap.objs.size + 1)) [] [] _ PySem.W.oi_kind PySem.W.oi_split t2 (PySem.W.oi_args _) ?_)
  rw [PySem.W.oi_run]
  exact wpAny_pure (And.intro rfl ⟨V.ref (s.heap.objs.size + 1), _, I2, rfl, hq⟩)
end
end KB

/-! own errors: super().__init__('..'), then one or two fields -/
namespace KB
open PySem PySem.W PySem.Calls PyProof.Rows PySem.HandSPX
def xSup (msg : Str) (j : Nat) (p0 p1 p2 p3 p4 p5 : Pos) : Stmt := .Expr (.Call (.Attribute (.Call (.Name "super" p0) [] [] p1) "__init__" p2) [.Constant (.str msg) j p3] [] p4) p5
def xSet (f : Str) (q1 q2 q3 q4 : Pos) : Stmt := .Assign [.Attribute (.Name "self" q1) f q2] (.Name f q3) q4
def xArg (x : Str) (p : Pos) : Arg := { arg := x, annotation := none, pos := p }
def xArgs (l : List Arg) : Arguments := { posonlyargs := [], args := l, vararg := none, kwonlyargs := [], kw_defaults := [], kwarg := none, defaults := [] }
/-- what the written part says of the class at C, of its __init__ at fI, whose class cell is at cc -/
structure XCls (P : Program) (K : Frag) (mg : Str → Option Value) (x qual : Str) (C fI : Addr) (st : Stmt) : Prop where
  gC : mg x = some (.ref C)
  cls : ∃ nm q N bs bm sn sub ab col dd k0 k1 k2 k3 k5, K.lookup C = some (excClassObj nm q C N bs bm true sn sub ab col dd k0 k1 k2 k3 k5 "ValueError.__new__") ∧ refsVE bm = true
  sa : findIn K (.ref C) "__setattr__" = some (some (.builtin "object.__setattr__"))
  ga : findIn K (.ref C) "__getattribute__" = some (some (.builtin "BaseException.__getattribute__"))
  gg : findIn K (.ref C) "__getattr__" = some none
  iC : findIn K (.ref C) "__init__" = some (some (.ref fI))
  tC : typeIn K (.ref fI) = some (.type "function")
  kC : keepIn K (.ref C) = true
  exC : subIn K (.ref C) (.type "BaseException") = some true
  veC : subIn K (.ref C) (.type "ValueError") = some true
  self : mroIn K C (.ref C) = some true
  tyC : typeIn K (.ref C) = some (.type "type")
  hdC : hasDictIn K C = true
  te : exmOne K (.ref C) (.ref C) = some true
  up : ks_superIn K C C "__init__" = some (some (.builtin "ValueError.__init__"))
  sup : mg "super" = none
  opq : nsIn K cStatics "thirdparty.any" = some none
  top : (P.main.scope.names.lookup ("super" : Str)).isSome = false
  fn : ∃ (oc : Value) (od : Option Addr) (doc pm : Value) (an : Option Addr) (ct : Value) (osl : Array (Option Value)) (cda cc : Addr) (ccl cl : Value) (cdd cld : Option Addr) (ccs csl : Array (Option Value)) (vs : Array Value) (file : Str) (tf : Tok),
    K.lookup fI = some ⟨oc, od, .func (ksFn "__init__" qual (L2.defArgs st) (L2.defBody st) (L2.defScope st) .none .none doc pm an (.ref cda) ct cc), osl⟩ ∧ codeIn K (.ref cda) qual = true ∧
    K.lookup cda = some ⟨ccl, cdd, .fields vs, ccs⟩ ∧ vs[2]? = some (.str file tf) ∧ ((P.main.file : Str) == file) = true ∧ K.lookup cc = some ⟨cl, cld, .cell (some (.ref C)), csl⟩
/-- the scope of such an __init__ with these fields -/
structure XScope (sc : Scope) (fs : List Str) : Prop where
  kind : sc.kind = .function
  co : sc.isCoroutine = false
  gen : sc.isGenerator = false
  nocell : ∀ x ∈ sc.names, x.2 ≠ .cell
  self : sc.names.lookup ("self" : Str) = some NameKind.local
  fld : ∀ f ∈ fs, sc.names.lookup f = some NameKind.local
  cls : sc.names.lookup ("__class__" : Str) = some NameKind.free
  sup : sc.names.lookup ("super" : Str) = some NameKind.globalImplicit

section
variable {prog : Program} {w : World} {A : Around} {E : Value → Shared → Prop} {h : Heap} {g : Array GenState} {d : Drawn} {t : Nat} {os : OsState} {K : Frag} {mg : Str → Option Value}
/-- a call of a method of super(), its words in one line -/
theorem x_call {env : Env} {msg nm : Str} {j : Nat} {p0 p1 p2 p3 p4 : Pos} (hl : (p2.endLine == p4.line) = true) :
    eval (.Call (.Attribute (.Call (.Name "super" p0) [] [] p1) nm p2) [.Constant (.str msg) j p3] [] p4) env = (do
      let ov ← attributeBase (.Call (.Name "super" p0) [] [] p1) nm env (eval (.Call (.Name "super" p0) [] [] p1) env)
      standAt p2.atName
      let (f, first) ← holding [ov] (getMethod ov nm (do return (← importBound (.Call (.Name "super" p0) [] [] p1) env).getD true))
      callWith p4 f first (backTo p4 (starEach [.Constant (.str msg) j p3] env)) []) := by
  have e : methodCallPos true (.Call (.Name "super" p0) [] [] p1) env p2 p4 = pure p4 := by
    unfold methodCallPos
    rw [hl]
    rfl
  have e2 : methodCallForm ([Expr.Constant (.str msg) j p3].length + 0) (backTo p4 (starEach [.Constant (.str msg) j p3] env)) [] = true := rfl
  show (attributeBase _ _ _ _ >>= fun ov => standAt _ >>= fun _ => methodCall _ _ _ _ _ ov _ _ _) = _
  unfold methodCall
  show (attributeBase _ _ _ _ >>= fun ov => standAt _ >>= fun _ => holding [ov] (calleeOf (methodCallForm ([Expr.Constant (.str msg) j p3].length + 0) (backTo p4 (starEach [.Constant (.str msg) j p3] env)) []) _ _ ov _) >>= fun z =>
    methodCallPos (methodCallForm ([Expr.Constant (.str msg) j p3].length + 0) (backTo p4 (starEach [.Constant (.str msg) j p3] env)) []) _ _ _ _ >>= fun cp => callWith cp z.1 z.2 _ _) = _
  rw [e2, e]
  rfl
/-- super().__init__('..') as the first statement -/
theorem x_super {x C fI t0 L cc cda : Addr} {qual nm2 : Str} {fs : List Str} {mL : Str → Option Value} {st : Stmt} {sc : Scope} {body rest : List Stmt} {fd : FuncData} {ar : Arg} {vs : Array Value} {file : Str} {tf : Tok} {oc ccl cl : Value} {od cdd cld : Option Addr} {osl ccs csl : Array (Option Value)}
    {msg : Str} {j : Nat} {p0 p1 p2 p3 p4 p5 : Pos} {Q : Flow → Shared → Prop} (T : XCls prog K mg nm2 qual C fI st) (S : XScope sc fs) (X : K.In h) (hg : h.Ns mainGlobals mg) (hb : ∃ mb, h.Ns builtinsNs mb ∧ ∀ x : Str, x ≠ "__name__" → mb x = bootBuiltins x)
    (hns : h.Ns L mL) (hL : mL ar.arg = some (.ref x)) (hlo : sc.names.lookup ar.arg = some .local)
    (hl : (p2.endLine == p4.line) = true) (hx : h.get? x = some (excO C t0)) (hf : K.lookup fI = some ⟨oc, od, .func fd, osl⟩) (hp : (fd.params.posonlyargs ++ fd.params.args).head? = some ar)
    (hcode : K.lookup cda = some ⟨ccl, cdd, .fields vs, ccs⟩) (hvs : vs[2]? = some (.str file tf)) (hfile : ((prog.main.file : Str) == file) = true) (hcell : K.lookup cc = some ⟨cl, cld, .cell (some (.ref C)), csl⟩)
    (hq : ∀ h' t' t1, (∀ b o, b ≠ x → h.get? b = some o → h'.get? b = some o) → h'.get? x = some (excO C t1) → wpAny (model prog w) A (execs rest (ksEnv qual sc L fI (.ref cda) cc)) Q E ⟨h', g, d, t', os⟩) :
    _root_.PySem.wpAt (model prog w) A (.func body (ksEnv qual sc L fI (.ref cda) cc)) (execs (xSup msg j p0 p1 p2 p3 p4 p5 :: rest) (ksEnv qual sc L fI (.ref cda) cc)) Q E ⟨h, g, d, t, os⟩ := by
  obtain ⟨kind, nms, ig, ic, mo⟩ := sc
  have ek : kind = .function := S.kind
  subst ek
  obtain ⟨nm, q, N, bs, bm, sn, sub, ab, col, dd, k0, k1, k2, k3, k5, hC, hbm⟩ := T.cls
  obtain ⟨mb, hb1, hb2⟩ := hb
  have hcl : clsIn K C = some { name := nm, bases := bs, mro := .ref C :: bm, ns := N, qualname := q, hasDict := true, slotNames := sn, subclasses := sub, abstract := ab, collection := col, hasDel := false } := by unfold clsIn; rw [hC] <;> rfl
  have hCh := X _ _ hC
  refine ks_wpAt_execs_cons (ks_wpAt_Expr_any (ks_wpAt_MethodCall ?_ (x_call hl)) (by rfl) (by rfl))
  refine ks_wpAt_super_base (env := ksEnv qual { kind := .function, names := nms, isGenerator := ig, isCoroutine := ic, more := mo } L fI (.ref cda) cc) S.sup S.cls (by decide) rfl (X _ _ hf) rfl hp rfl (X _ _ hcode) rfl hvs hfile T.top ?_
  refine ks_loadName_global S.kind S.sup (loadGlobal_builtin (env := ksEnv qual { kind := .function, names := nms, isGenerator := ig, isCoroutine := ic, more := mo } L fI (.ref cda) cc) hg T.sup hb1 ((hb2 _ (by decide)).trans (by decide +kernel)) ⟨rfl, ?_⟩)
  refine wpAny_loadName_free S.kind S.cls rfl ⟨_, X _ _ hcell, rfl⟩ ?_
  refine wpAny_loadName_local S.kind hlo hns hL ?_
  refine ks_wpAny_isType_cls hCh rfl ⟨rfl, ?_⟩
  refine ks_wpAny_call_super hCh rfl hx rfl (fun c e => by cases e) (looks_mroIn X T.self) (fun h1 e1 kk1 => ?_)
  have X1 : K.In h1 := X.keeps kk1
  have hx1 := kk1 _ _ hx
  have hxC : x ≠ C := fun e => by rw [e, hCh] at hx; cases hx
  have I1 : InstAt h1 x (excO C t0) C none := ⟨hx1, rfl, rfl, trivial⟩
  have up := T.up
  unfold ks_superIn at up
  rw [hcl] at up
  refine kxs_getMethod kxs_ValueError e1 (looks_opaque X1 T.opq) (l₀ := .ref C :: bm) (fun A Q E s k q => wpAny_bind ((looks_clsIn X1 hcl) A _ E s k (wpAny_pure q))) rfl X1 up (I1.type.andThen (looks_subIn X1 T.veC)) hxC (by decide) ?_
  have hu : (h1.push (kxs_mw "ValueError.__init__" x)).get? h1.objs.size = some (kxs_mw "ValueError.__init__" x) := Heap.get?_push_at rfl rfl
  have kk2 : ∀ b o, h1.get? b = some o → (h1.push (kxs_mw "ValueError.__init__" x)).get? b = some o := fun b o e => Heap.get?_push_of_some _ e
  refine kxs_callWith (i := "ValueError.__init__") (x := x) (by rfl) ?_
  refine L2.FK.evalArgs_any (by rfl) (spliced_more (e := .Constant (.str msg) j p3) (rest := []) ?_ (by rfl))
  refine Calls.Constant_str ?_
  refine spliced_none ⟨hu, ?_⟩
  refine wpAny_call (codeAny_of_tree ?_)
  show wpAny _ A.in1 (callAny (.ref h1.objs.size) ⟨_, []⟩) _ _ _
  simp only [callAny]
  refine wpAny_bind (wpAny_load hu ?_)
  simp only [kxs_mw, show (Value.type "method-wrapper" == Value.type "method" || Value.type "method-wrapper" == Value.type "builtin_function_or_method" || Value.type "method-wrapper" == Value.type "method-wrapper") = true by decide, if_true]
  refine KFB.if_so (by decide) ?_
  refine wpAny_bind (check_bound_init F.excBase_ValueError.toExcCallFacts (kk2 _ _ (kk1 _ _ hCh)) (kk2 _ _ hx1) rfl ?_)
  refine wpAny_bind (wpAny_pure (wpAny_pure ?_))
  refine ⟨plainId_quiet F.excBase_ValueError.init.plain _, codeAny_builtin F.excBase_ValueError.initEntry ?_⟩
  refine exc_init_tree (cls := .ref C) (t0 := t0) (dv := none) (c2 := .none) (c3 := .none) (b4 := .bool false) (kk2 _ _ hx1) (by show 1 ≤ sizeLine; rw [sizeLine_eq]; decide) (fun h' kk3 e3 _ => ?_)
  exact wpAt_of_wpAny (hq _ _ _ (fun b o hb e => kk3 b o hb (kk2 _ _ (kk1 _ _ e))) e3)

theorem x_ld {M : Model} {s : Shared} {qual : Str} {sc : Scope} {L a cc : Addr} {cd : Value} {m : Str → Option Value} {x : Str} {pos : Pos} {v : Value} {Q : Value → Shared → Prop} (hn : s.heap.Ns L m) (hv : m x = some v) (h : Q v s)
    (hk : sc.kind = .function) (hl : sc.names.lookup x = some .local) (hd : (x == ("__debug__" : Str)) = false) :
    wpAny M A (eval (.Name x pos) (ksEnv qual sc L a cd cc)) Q E s := wpAny_Name (wpAny_loadName_local hk hl hn hv h) hd
/-- what the made exception's __init__ leaves -/
structure XEnd (h h' : Heap) (x C dx : Addr) (m : Str → Option Value) : Prop where
  keep : ∀ b o, b ≠ x → h.get? b = some o → h'.get? b = some o
  obj : ∃ t1, h'.get? x = some { cls := .ref C, dict := some dx, data := .fields #[.ref t1, .none, .none, .none, .bool false, .none] }
  dbig : h.objs.size ≤ dx
  dne : dx ≠ x
  ns : h'.Ns1 dx m
structure XBody (st : Stmt) (fs : List Str) : Prop where
  ex : ∃ (msg : Str) (j : Nat) (p0 p1 p2 p3 p4 p5 : Pos) (sets : List Stmt), (p2.endLine == p4.line) = true ∧ L2.defBody st = xSup msg j p0 p1 p2 p3 p4 p5 :: sets ∧
    ((∃ f q1 q2 q3 q4, fs = [f] ∧ sets = [xSet f q1 q2 q3 q4]) ∨ ∃ f f2 q1 q2 q3 q4 r1 r2 r3 r4, fs = [f, f2] ∧ sets = [xSet f q1 q2 q3 q4, xSet f2 r1 r2 r3 r4])
  head : ∃ ar, ((L2.defArgs st).posonlyargs ++ (L2.defArgs st).args).head? = some ar ∧ ar.arg = "self"
  bind : ∀ (qual : Str) (doc pm : Value) (an : Option Addr) (cd ct : Value) (cc : Addr) (u : Value) (us : List Value), us.length = fs.length →
    bindArgs (ksFn "__init__" qual (L2.defArgs st) (L2.defBody st) (L2.defScope st) .none .none doc pm an cd ct cc) ⟨u :: us, []⟩ = pure ((("self" : Str), u) :: fs.zip us)
  sc : XScope (L2.defScope st) fs
  dbg : ∀ f ∈ fs, (f == ("__debug__" : Str)) = false
  nd : (("self" : Str) :: fs).Nodup
def mOf (l : List (Str × Value)) : Str → Option Value := fun y => l.lookup y

theorem x_set {s : Shared} {x C fI L cc : Addr} {cda : Value} {qual nm2 f : Str} {fs : List Str} {mL : Str → Option Value} {st : Stmt} {sc : Scope} {v : Value} {ox : Obj} {od : Option Obj} {q1 q2 q3 q4 : Pos} {Q : Flow → Shared → Prop}
    (T : XCls prog K mg nm2 qual C fI st) (S : XScope sc fs) (X : K.In s.heap) (hns : s.heap.Ns L mL) (hself : mL "self" = some (.ref x)) (hf : f ∈ fs) (hv : mL f = some v) (hd : (f == ("__debug__" : Str)) = false) (J : InstAt s.heap x ox C od)
    (h : codeAny (model prog w) A (.call (.builtin "object.__setattr__") ⟨[.ref x, .str f s.toks, v], []⟩) (fun r s' => match r with | .ok (.ret _) => Q .next s' | .ok _ => False | .error e => E e s') { s with toks := s.toks + 1 }) :
    wpAny (model prog w) A (exec (xSet f q1 q2 q3 q4) (ksEnv qual sc L fI cda cc)) Q E s := by
  refine plainObj_wpAny_Assign_Attribute ?_ (by rfl)
  refine x_ld hns hv ?_ S.kind (S.fld f hf) hd
  refine x_ld hns hself ?_ S.kind S.self (by decide)
  exact set_plain X J T.sa h
theorem x_init1 {s : Shared} {x C fI t0 : Addr} {qual nm2 f : Str} {st : Stmt} {v : Value} {R : Result → Shared → Prop} (T : XCls prog K mg nm2 qual C fI st) (B : XBody st [f]) (noF : findIn K (.ref C) f = some none)
    (X : K.In s.heap) (hg : s.heap.Ns mainGlobals mg) (hb : ∃ mb, s.heap.Ns builtinsNs mb ∧ ∀ x : Str, x ≠ "__name__" → mb x = bootBuiltins x) (hlim : s.heap.NoLimit) (hx : s.heap.get? x = some (excO C t0)) (hnx : K.lookup x = none) (hgx : x ≠ mainGlobals) (hbx : x ≠ builtinsNs) (hroom : A.depth < recursionLimit)
    (hq : ∀ h' tk dx, XEnd s.heap h' x C dx (fun y => if y = f then some v else none) → R (.ok (.ret .none)) { s with heap := h', toks := tk }) :
    codeAny (model prog w) A (.call (.ref fI) ⟨[.ref x, v], []⟩) R s := by
  obtain ⟨oc, od, doc, pm, an, ct, osl, cda, cc, ccl, cl, cdd, cld, ccs, csl, vs, file, tf, ho, hcd, hcode, hvs, hfile, hcell⟩ := T.fn
  obtain ⟨nm, q, N, bs, bm, sn, sub, ab, col, dd, k0, k1, k2, k3, k5, hC, hbm⟩ := T.cls
  have hcl : clsIn K C = some { name := nm, bases := bs, mro := .ref C :: bm, ns := N, qualname := q, hasDict := true, slotNames := sn, subclasses := sub, abstract := ab, collection := col, hasDel := false } := by unfold clsIn; rw [hC] <;> rfl
  obtain ⟨msg, j, p0, p1, p2, p3, p4, p5, sets, hl, eB, eS⟩ := B.ex
  obtain ⟨q1, q2, q3, q4, rfl⟩ : ∃ q1 q2 q3 q4, sets = [xSet f q1 q2 q3 q4] := by
    rcases eS with ⟨f', q1, q2, q3, q4, e1, e2⟩ | ⟨f', f2, q1, q2, q3, q4, r1, r2, r3, r4, e1, e2⟩
    · cases e1
      exact ⟨q1, q2, q3, q4, e2⟩
    · cases e1
  obtain ⟨ar, hhead, har⟩ := B.head
  have hbd := B.bind qual doc pm an (.ref cda) ct cc (.ref x) [v] rfl
  rw [eB] at ho hbd
  have S := B.sc
  generalize L2.defScope st = sc at ho S hbd
  have fne : f ≠ "self" := by
    have z := B.nd
    rw [List.nodup_cons] at z
    exact fun e => z.1 (by rw [e]; exact List.mem_cons_self ..)
  have hb1 : (([(("self" : Str), Value.ref x), (f, v)]).reverse.lookup ("self" : Str)) = some (.ref x) := by
    show List.lookup ("self" : Str) [(f, v), (("self" : Str), Value.ref x)] = _
    have z : (("self" : Str) == f) = false := by simpa using fun e => fne e.symm
    simp [List.lookup, z]
  have hb2 : (([(("self" : Str), Value.ref x), (f, v)]).reverse.lookup f) = some v := by
    show List.lookup f [(f, v), (("self" : Str), Value.ref x)] = _
    simp [List.lookup]
  refine ks_codeAny_call_defAt (binds := [("self", .ref x), (f, v)]) hroom (X _ _ ho) rfl hlim (codeRec_of X hcd) rfl (.of_eq hbd) S.nocell ?_ (fun h₁ hns hk₁ => ?_) S.co S.gen S.kind
  · intro y hy
    rcases List.mem_cons.mp hy with rfl | hy
    · exact S.self
    · rcases List.mem_cons.mp hy with rfl | hy
      · exact S.fld f (by simp)
      · cases hy
  have X₁ : K.In h₁ := X.keeps hk₁
  have hx₁ := hk₁ _ _ hx
  obtain ⟨mb, hb3, hb4⟩ := hb
  refine x_super T S X₁ (hg.keeps hk₁) ⟨mb, hb3.keeps hk₁, hb4⟩ hns (by rw [har]; exact hb1) (by rw [har]; exact S.self) hl hx₁ ho hhead hcode hvs hfile hcell (fun h2 t2 t1 kk2 hx2 => ?_)
  have hLx : s.heap.objs.size ≠ x := Nat.ne_of_gt (Heap.lt_size hx)
  have X2 : K.In h2 := fun b o e => kk2 b o (fun z => by rw [z, hnx] at e; cases e) (X₁ b o e)
  have hns2 : h2.Ns s.heap.objs.size (fun y => [(("self" : Str), Value.ref x), (f, v)].reverse.lookup y) := by
    obtain ⟨oL, es, ep, e1, r⟩ := hns
    exact ⟨oL, es, ep, kk2 _ _ hLx e1, r⟩
  refine wpAny_execs_cons (x_set T S X2 hns2 hb1 (by simp) hb2 (B.dbg f (by simp)) (ox := excO C t1) (od := none) ⟨hx2, rfl, rfl, trivial⟩ ?_)
  refine exc_osa X2 hx2 hcl (show refsVE (.ref C :: bm) = true from hbm) rfl noF (fun h3 tk3 dx kk3 dn dne hx3 hn3 => ?_)
  show wpAny _ _ (execs _ _) _ _ _
  have z2 : s.heap.objs.size < h2.objs.size := hns2.lt
  exact wpAny_execs_nil (hq h3 tk3 dx ⟨fun b o hb e => kk3 b o hb (kk2 b o hb (hk₁ b o e)), ⟨t1, hx3⟩, Nat.le_of_lt (Nat.lt_of_lt_of_le z2 dn), dne, hn3⟩)
theorem x_init2 {s : Shared} {x C fI t0 : Addr} {qual nm2 f f2 : Str} {st : Stmt} {v v2 : Value} {R : Result → Shared → Prop} (T : XCls prog K mg nm2 qual C fI st) (B : XBody st [f, f2]) (noF : findIn K (.ref C) f = some none) (noF2 : findIn K (.ref C) f2 = some none)
    (X : K.In s.heap) (hg : s.heap.Ns mainGlobals mg) (hb : ∃ mb, s.heap.Ns builtinsNs mb ∧ ∀ x : Str, x ≠ "__name__" → mb x = bootBuiltins x) (hlim : s.heap.NoLimit) (hx : s.heap.get? x = some (excO C t0)) (hnx : K.lookup x = none) (hgx : x ≠ mainGlobals) (hbx : x ≠ builtinsNs) (hroom : A.depth < recursionLimit)
    (hq : ∀ h' tk dx, XEnd s.heap h' x C dx (fun y => if y = f2 then some v2 else if y = f then some v else none) → R (.ok (.ret .none)) { s with heap := h', toks := tk }) :
    codeAny (model prog w) A (.call (.ref fI) ⟨[.ref x, v, v2], []⟩) R s := by
  obtain ⟨oc, od, doc, pm, an, ct, osl, cda, cc, ccl, cl, cdd, cld, ccs, csl, vs, file, tf, ho, hcd, hcode, hvs, hfile, hcell⟩ := T.fn
  obtain ⟨nm, q, N, bs, bm, sn, sub, ab, col, dd, k0, k1, k2, k3, k5, hC, hbm⟩ := T.cls
  have hcl : clsIn K C = some { name := nm, bases := bs, mro := .ref C :: bm, ns := N, qualname := q, hasDict := true, slotNames := sn, subclasses := sub, abstract := ab, collection := col, hasDel := false } := by unfold clsIn; rw [hC] <;> rfl
  obtain ⟨msg, j, p0, p1, p2, p3, p4, p5, sets, hl, eB, eS⟩ := B.ex
  obtain ⟨q1, q2, q3, q4, r1, r2, r3, r4, rfl⟩ : ∃ q1 q2 q3 q4 r1 r2 r3 r4, sets = [xSet f q1 q2 q3 q4, xSet f2 r1 r2 r3 r4] := by
    rcases eS with ⟨f', q1, q2, q3, q4, e1, e2⟩ | ⟨f', f2', q1, q2, q3, q4, r1, r2, r3, r4, e1, e2⟩
    · cases e1
    · cases e1
      exact ⟨q1, q2, q3, q4, r1, r2, r3, r4, e2⟩
  obtain ⟨ar, hhead, har⟩ := B.head
  have hbd := B.bind qual doc pm an (.ref cda) ct cc (.ref x) [v, v2] rfl
  rw [eB] at ho hbd
  have S := B.sc
  generalize L2.defScope st = sc at ho S hbd
  have fne : f ≠ "self" ∧ f2 ≠ "self" ∧ f ≠ f2 := by
    have z := B.nd
    rw [List.nodup_cons, List.nodup_cons] at z
    exact ⟨fun e => z.1 (by rw [e]; simp), fun e => z.1 (by rw [e]; simp), fun e => z.2.1 (by rw [e]; simp)⟩
  have hb1 : (([(("self" : Str), Value.ref x), (f, v), (f2, v2)]).reverse.lookup ("self" : Str)) = some (.ref x) := by
    show List.lookup ("self" : Str) [(f2, v2), (f, v), (("self" : Str), Value.ref x)] = _
    have z : (("self" : Str) == f) = false := by simpa using fun e => fne.1 e.symm
    have z2 : (("self" : Str) == f2) = false := by simpa using fun e => fne.2.1 e.symm
    simp [List.lookup, z, z2]
  have hb2 : (([(("self" : Str), Value.ref x), (f, v), (f2, v2)]).reverse.lookup f) = some v := by
    show List.lookup f [(f2, v2), (f, v), (("self" : Str), Value.ref x)] = _
    have z : (f == f2) = false := by simpa using fne.2.2
    simp [List.lookup, z]
  have hb2' : (([(("self" : Str), Value.ref x), (f, v), (f2, v2)]).reverse.lookup f2) = some v2 := by
    show List.lookup f2 [(f2, v2), (f, v), (("self" : Str), Value.ref x)] = _
    simp [List.lookup]
  refine ks_codeAny_call_defAt (binds := [("self", .ref x), (f, v), (f2, v2)]) hroom (X _ _ ho) rfl hlim (codeRec_of X hcd) rfl (.of_eq hbd) S.nocell ?_ (fun h₁ hns hk₁ => ?_) S.co S.gen S.kind
  · intro y hy
    rcases List.mem_cons.mp hy with rfl | hy
    · exact S.self
    · rcases List.mem_cons.mp hy with rfl | hy
      · exact S.fld f (by simp)
      · rcases List.mem_cons.mp hy with rfl | hy
        · exact S.fld f2 (by simp)
        · cases hy
  have X₁ : K.In h₁ := X.keeps hk₁
  have hx₁ := hk₁ _ _ hx
  obtain ⟨mb, hb3, hb4⟩ := hb
  refine x_super T S X₁ (hg.keeps hk₁) ⟨mb, hb3.keeps hk₁, hb4⟩ hns (by rw [har]; exact hb1) (by rw [har]; exact S.self) hl hx₁ ho hhead hcode hvs hfile hcell (fun h2 t2 t1 kk2 hx2 => ?_)
  have hLx : s.heap.objs.size ≠ x := Nat.ne_of_gt (Heap.lt_size hx)
  have X2 : K.In h2 := fun b o e => kk2 b o (fun z => by rw [z, hnx] at e; cases e) (X₁ b o e)
  have hns2 : h2.Ns s.heap.objs.size (fun y => [(("self" : Str), Value.ref x), (f, v), (f2, v2)].reverse.lookup y) := by
    obtain ⟨oL, es, ep, e1, r⟩ := hns
    exact ⟨oL, es, ep, kk2 _ _ hLx e1, r⟩
  refine wpAny_execs_cons (x_set T S X2 hns2 hb1 (by simp) hb2 (B.dbg f (by simp)) (ox := excO C t1) (od := none) ⟨hx2, rfl, rfl, trivial⟩ ?_)
  refine exc_osa X2 hx2 hcl (show refsVE (.ref C :: bm) = true from hbm) rfl noF (fun h3 tk3 dx kk3 dn dne hx3 hn3 => ?_)
  show wpAny _ _ (execs _ _) _ _ _
  have z2 : s.heap.objs.size < h2.objs.size := hns2.lt
  have X3 : K.In h3 := fun b o e => kk3 b o (fun z => by rw [z, hnx] at e; cases e) (X2 b o e)
  have hns3 : h3.Ns s.heap.objs.size (fun y => [(("self" : Str), Value.ref x), (f, v), (f2, v2)].reverse.lookup y) := by
    obtain ⟨oL, es, ep, e1, r⟩ := hns2
    exact ⟨oL, es, ep, kk3 _ _ hLx e1, r⟩
  have W1 : Within (fun y => if y = f then some v else none) [f] := Within.cons f v Within.nil
  obtain ⟨oD, esD, epD, hoD, hdD, _⟩ := hn3.count W1
  refine wpAny_execs_cons (x_set T S X3 hns3 hb1 (by simp) hb2' (B.dbg f2 (by simp)) (ox := { cls := .ref C, dict := some dx, data := .fields #[.ref t1, .none, .none, .none, .bool false, .none] }) (od := some oD) ⟨hx3, rfl, rfl, hoD⟩ ?_)
  refine PySem.OEX.osa_old X3 hx3 hn3 W1 (by show 1 ≤ 1000; decide) hcl (show refsVE (.ref C :: bm) = true from hbm) rfl noF2 (fun h4 tk4 kk4 hn4 => ?_)
  show wpAny _ _ (execs _ _) _ _ _
  refine wpAny_execs_nil (hq h4 tk4 dx ⟨fun b o hb e => ?_, ⟨t1, kk4 _ _ (Ne.symm dne) hx3⟩, Nat.le_of_lt (Nat.lt_of_lt_of_le z2 dn), dne, hn4⟩)
  have hbd' : b ≠ dx := fun z => by
    have y := Heap.lt_size e
    rw [z] at y
    exact absurd (Nat.lt_of_lt_of_le y (Nat.le_trans (Nat.le_of_lt z2) dn)) (Nat.lt_irrefl _)
  exact kk4 b o hbd' (kk3 b o hb (kk2 b o hb (hk₁ b o e)))

/-- a made error -/
structure XMade (h h' : Heap) (e C d : Addr) (m : Str → Option Value) : Prop where
  keep : ∀ b o, h.get? b = some o → h'.get? b = some o
  new : h.objs.size ≤ e
  obj : ∃ oe vs, h'.get? e = some oe ∧ oe.cls = .ref C ∧ oe.dict = some d ∧ oe.data = .fields vs ∧ vs[1]? = some .none ∧ vs[2]? = some .none
  dbig : h.objs.size ≤ d
  dne : d ≠ e
  ns : h'.Ns1 d m
theorem x_made {s : Shared} {C fI : Addr} {qual nm2 : Str} {fs : List Str} {st : Stmt} {vs : List Value} {m : Str → Option Value} {R : Result → Shared → Prop} (T : XCls prog K mg nm2 qual C fI st)
    (hv : (∃ f v, fs = [f] ∧ vs = [v] ∧ m = fun y => if y = f then some v else none) ∨ ∃ f f2 v v2, fs = [f, f2] ∧ vs = [v, v2] ∧ m = fun y => if y = f2 then some v2 else if y = f then some v else none)
    (B : XBody st fs) (noF : ∀ f ∈ fs, findIn K (.ref C) f = some none)
    (X : K.In s.heap) (hg : s.heap.Ns mainGlobals mg) (hb : ∃ mb, s.heap.Ns builtinsNs mb ∧ ∀ x : Str, x ≠ "__name__" → mb x = bootBuiltins x) (hlim : s.heap.NoLimit) (hroom : A.depth + 1 < recursionLimit)
    (hq : ∀ h' tk e d, XMade s.heap h' e C d m → R (.ok (.ret (.ref e))) { s with heap := h', toks := tk }) :
    codeAny (model prog w) A (.call (.ref C) ⟨vs, []⟩) R s := by
  obtain ⟨nm, q, N, bs, bm, sn, sub, ab, col, dd, k0, k1, k2, k3, k5, hC, hbm⟩ := T.cls
  obtain ⟨hp, g, dr, tk, os⟩ := s
  have lv : vs.length ≤ sizeLine := by
    rw [sizeLine_eq]
    rcases hv with ⟨f, v, _, rfl, _⟩ | ⟨f, f2, v, v2, _, rfl, _⟩
    · exact (by decide : 1 ≤ 16777216)
    · exact (by decide : 2 ≤ 16777216)
  have k : ∀ b o, hp.get? b = some o → ((hp.push (kdv_tup vs)).push (excO C hp.objs.size)).get? b = some o := fun b o e => Heap.get?_push_of_some _ (Heap.get?_push_of_some _ e)
  have hget : ((hp.push (kdv_tup vs)).push (excO C hp.objs.size)).get? (hp.objs.size + 1) = some (excO C hp.objs.size) := by
    have z := Heap.get?_push_size (hp.push (kdv_tup vs)) (o := excO C hp.objs.size) rfl
    rwa [Heap.size_push] at z
  have beyond : ∀ {o}, hp.get? (hp.objs.size + 1) = some o → False := fun z => absurd (Nat.lt_of_succ_lt (Heap.lt_size z)) (Nat.lt_irrefl _)
  have hnx : K.lookup (hp.objs.size + 1) = none := by
    cases e : K.lookup (hp.objs.size + 1) with
    | none => rfl
    | some o => exact (beyond (X _ _ e)).elim
  have ngx : hp.objs.size + 1 ≠ mainGlobals := fun z => by
    have y := hg.lt
    rw [← z] at y
    exact absurd (Nat.lt_of_succ_lt y) (Nat.lt_irrefl _)
  obtain ⟨mb, hb1, hb2⟩ := hb
  have nbx : hp.objs.size + 1 ≠ builtinsNs := fun z => by
    have y := hb1.lt
    rw [← z] at y
    exact absurd (Nat.lt_of_succ_lt y) (Nat.lt_irrefl _)
  refine call_own F.excBase_ValueError (fun X => refsVE_contains X bm hbm) (X _ _ hC) (looks_findIn X T.iC) (fun self => bind_fn X self T.tC) lv ?_
  have fin : ∀ h' tk' dx, XEnd ((hp.push (kdv_tup vs)).push (excO C hp.objs.size)) h' (hp.objs.size + 1) C dx m → InitBack (hp.objs.size + 1) R (.ok (.ret .none)) ⟨h', g, dr, tk', os⟩ := fun h' tk' dx ⟨k', ⟨t1, hx⟩, dn, dne, hns⟩ => by
    have old : ∀ b o, hp.get? b = some o → h'.get? b = some o := fun b o e => k' b o (Nat.ne_of_lt (Nat.lt_succ_of_lt (Heap.lt_size e))) (k b o e)
    have z : hp.objs.size + 1 + 1 ≤ dx := by
      have y := dn
      rw [Heap.size_push, Heap.size_push] at y
      exact y
    exact ⟨rfl, hq h' tk' (hp.objs.size + 1) dx ⟨old, Nat.le_succ _, ⟨_, _, hx, rfl, rfl, rfl, rfl, rfl⟩, Nat.le_trans (Nat.le_trans (Nat.le_succ _) (Nat.le_succ _)) z, dne, hns⟩⟩
  rcases hv with ⟨f, v, rfl, rfl, rfl⟩ | ⟨f, f2, v, v2, rfl, rfl, rfl⟩
  · exact codeAny_mono (x_init1 (s := ⟨(hp.push (kdv_tup [v])).push (excO C hp.objs.size), g, dr, tk, os⟩) T B (noF f (by simp)) (X.keeps k) (hg.keeps k) ⟨mb, hb1.keeps k, hb2⟩ (hlim.keeps k) hget hnx ngx nbx hroom (R := InitBack (hp.objs.size + 1) R) fun h' tk' dx x => fin h' tk' dx x) fun r s2 z => z
  · exact codeAny_mono (x_init2 (s := ⟨(hp.push (kdv_tup [v, v2])).push (excO C hp.objs.size), g, dr, tk, os⟩) T B (noF f (by simp)) (noF f2 (by simp)) (X.keeps k) (hg.keeps k) ⟨mb, hb1.keeps k, hb2⟩ (hlim.keeps k) hget hnx ngx nbx hroom (R := InitBack (hp.objs.size + 1) R) fun h' tk' dx x => fin h' tk' dx x) fun r s2 z => z
end
end KB

namespace KB
open PySem PySem.Spec PyProof.Rows L2
theorem relO1 {v : V} {u : Value} {f : Str} (r : RelV v u) (g : Str) : RelO (List.lookup g [(f, v)]) (if g = f then some u else none) := by
  by_cases h : g = f
  · subst h
    rw [if_pos rfl]
    have q : List.lookup g [(g, v)] = some v := by simp [List.lookup]
    rw [q]
    exact r
  · rw [if_neg h]
    have q : List.lookup g [(f, v)] = none := by
      have z : (g == f) = false := by simpa using h
      simp [List.lookup, z]
    rw [q]
    trivial
theorem relO2 {v v2 : V} {u u2 : Value} {f f2 : Str} (hne : f ≠ f2) (r : RelV v u) (r2 : RelV v2 u2) (g : Str) : RelO (List.lookup g [(f, v), (f2, v2)]) (if g = f2 then some u2 else if g = f then some u else none) := by
  by_cases h2 : g = f2
  · subst h2
    rw [if_pos rfl]
    have z : (g == f) = false := by simpa using fun e => hne e.symm
    have q : List.lookup g [(f, v), (g, v2)] = some v2 := by simp [List.lookup, z]
    rw [q]
    exact r2
  · rw [if_neg h2]
    have z2 : (g == f2) = false := by simpa using h2
    by_cases h : g = f
    · subst h
      rw [if_pos rfl]
      have q : List.lookup g [(g, v), (f2, v2)] = some v := by simp [List.lookup]
      rw [q]
      exact r
    · rw [if_neg h]
      have z : (g == f) = false := by simpa using h
      have q : List.lookup g [(f, v), (f2, v2)] = none := by simp [List.lookup, z, z2]
      rw [q]
      trivial
/-- the error's class x, at C, with the fields fs -/
structure XErr (P : Program) (K : PySem.W.Frag) (mg : Str → Option Value) (x : Str) (C : Addr) (fs : List Str) : Prop where
  ex : ∃ (qual : Str) (fI : Addr) (st : Stmt), XCls P K mg x qual C fI st ∧ XBody st fs ∧ ∀ f ∈ fs, PySem.W.findIn K (.ref C) f = some none
theorem XErr.te {P : Program} {K : PySem.W.Frag} {mg : Str → Option Value} {x : Str} {C : Addr} {fs : List Str} (T : XErr P K mg x C fs) : PySem.W.exmOne K (.ref C) (.ref C) = some true := by
  obtain ⟨_, _, _, h, _⟩ := T.ex
  exact h.te
theorem XErr.gC {P : Program} {K : PySem.W.Frag} {mg : Str → Option Value} {x : Str} {C : Addr} {fs : List Str} (T : XErr P K mg x C fs) : mg x = some (.ref C) := by
  obtain ⟨_, _, _, h, _⟩ := T.ex
  exact h.gC
theorem XErr.xf {P : Program} {K : PySem.W.Frag} {mg : Str → Option Value} {x : Str} {C : Addr} {fs : List Str} (T : XErr P K mg x C fs) : XfC K C := by
  obtain ⟨_, _, _, h, _⟩ := T.ex
  exact ⟨h.ga, h.gg, h.exC, h.hdC⟩
theorem XErr.no {P : Program} {K : PySem.W.Frag} {mg : Str → Option Value} {x : Str} {C : Addr} {fs : List Str} (T : XErr P K mg x C fs) {f : Str} (h : f ∈ fs) : PySem.W.findIn K (.ref C) f = some none := by
  obtain ⟨_, _, _, _, _, z⟩ := T.ex
  exact z f h
/-- X(e, ..) -/
def tMkX (C : Addr) (fs : List Str) (ta : TA) : L2.St → Hp → XK → Prop := fun σ H Q => ta σ H fun vs H1 => vs.length = fs.length ∧ ∀ d, H1 d = none → Q (.ref C) (some d) (upd H1 d (.xd (fs.zip vs)))
section
variable {X : Cx} {C : Addr} {fs : List Str} {x : Str}
theorem pmk_x {a : Expr} {as : List Expr} {ta : TA} {p pos : Pos} {k : Nat} (T : XErr X.prog X.K X.mg x C fs) (hr : Room k X.A) (ha : PA X (a :: as) ta) (hg : Gl X x := by rfl) (hdb : (x == ("__debug__" : Str)) = false := by decide)
    (he : starEach (a :: as) X.env = (false, eval a X.env) :: starEach as X.env := by rfl) (hpl : (backTo pos (starEach as X.env)).any (·.1) = false := by rfl) :
    L2N.PMk X (.Call (.Name x p) (a :: as) [] pos) (tMkX C fs ta) := by
  intro pins s σ H Q I h
  obtain ⟨qual, fI, st, T1, B, nof⟩ := T.ex
  refine wpAny_Call_Name_kw (ld_glob I hg T1.gC ?_ hdb)
  refine PySem.W.callWith_K (h₀ := X.base) I.ok.mod.kin T1.kC (thn (ha.run pos pins s σ H _ I h) fun us s1 hh => ?_) he hpl
  obtain ⟨vs, H1, I1, r1, lv, q1⟩ := hh
  refine ⟨I1.kIn, ?_⟩
  show wpAny _ _ (call (.ref C) us) _ _ _
  have hlim := I1.nolimit
  obtain ⟨mb, b1, b2⟩ := I1.mod.blt
  have hm : ∃ m : Str → Option Value, ((∃ f v, fs = [f] ∧ us = [v] ∧ m = fun y => if y = f then some v else none) ∨ ∃ f f2 v v2, fs = [f, f2] ∧ us = [v, v2] ∧ m = fun y => if y = f2 then some v2 else if y = f then some v else none) ∧
      ∀ g, RelO (List.lookup g (fs.zip vs)) (m g) := by
    obtain ⟨msg, j, p0, p1, p2, p3, p4, p5, sets, hl, eB, eS⟩ := B.ex
    rcases eS with ⟨f, q1, q2, q3, q4, rfl, _⟩ | ⟨f, f2, q1, q2, q3, q4, r1', r2, r3, r4, rfl, _⟩
    · cases r1 with
      | nil => cases lv
      | cons rv rn =>
        cases rn with
        | nil => exact ⟨_, .inl ⟨f, _, rfl, rfl, rfl⟩, fun g => relO1 rv g⟩
        | cons _ _ => simp at lv
    · have fne : f ≠ f2 := by
        have z := B.nd
        rw [List.nodup_cons, List.nodup_cons] at z
        exact fun e => z.2.1 (by rw [e]; simp)
      cases r1 with
      | nil => cases lv
      | cons rv rn =>
        cases rn with
        | nil => simp at lv
        | cons rv2 rn2 =>
          cases rn2 with
          | nil => exact ⟨_, .inr ⟨f, f2, _, _, rfl, rfl, rfl⟩, fun g => relO2 fne rv rv2 g⟩
          | cons _ _ => simp at lv
  obtain ⟨m, hv, hrel⟩ := hm
  have kI := I1.kIn
  have gI := I1.mod.glob.keeps I1.bk
  have bI := b1.keeps I1.bk
  obtain ⟨hp, g, dr, tk, os⟩ := s1
  refine wpAny_call (x_made T1 hv B nof kI gI ⟨mb, bI, b2⟩ hlim (by have := hr.dp; omega) fun h' tk' e d M => ?_)
  show L2N.MkP X pins σ Q (.ref e) ⟨h', g, dr, tk', os⟩
  obtain ⟨oe, fv, hoe, hc, hd, hdat, h1, h2⟩ := M.obj
  have hns := M.ns
  obtain ⟨G', g1, g2⟩ := restrict h' fun b => decide (b ≠ e)
  have gk : ∀ b, b ≠ e → G'.get? b = h'.get? b := fun b hb => g1 b (decide_eq_true hb)
  have ge : G'.get? e = none := g2 e (by simp)
  have old : ∀ b o, hp.get? b = some o → G'.get? b = some o := fun b o q => (gk b (Nat.ne_of_lt (Nat.lt_of_lt_of_le (Heap.lt_size q) M.new))).trans (M.keep b o q)
  have ob : ObjOk X.prog X.w (upd H1 d (.xd (fs.zip vs))) G' d (.xd (fs.zip vs)) := ⟨_, hns.at (fun o q => (gk d M.dne).trans q), fun f => hrel f⟩
  have J : Inv X pins σ (upd H1 d (.xd (fs.zip vs))) ⟨G', g, dr, tk', os⟩ := I1.laid (t' := tk') old M.dbig ob
  refine ⟨e, oe, fv, ⟨G', g, dr, tk', os⟩, _, .ref C, some d, rfl, J, fun b o q => ?_, ge, hoe, ⟨hc, hd, ?_⟩, hdat, h1, ?_, rfl, I1.bare, raises_own T1.exC T1.tyC, q1 d (I1.hok.fresh M.dbig)⟩
  · by_cases hb : b = e
    · have q' : G'.get? b = some o := q
      rw [hb, ge] at q'; cases q'
    · exact (gk b hb).symm.trans q
  · intro vs' e'
    rw [hdat] at e'
    cases e'
    exact h2
  · rw [upd_ne (Ne.symm M.dne)]
    exact I1.hok.fresh M.new
end
end KB

/-! operators of own classes -/
namespace KB
open PySem PySem.W PySem.Calls PyProof.Rows
theorem ne_bind (self : Value) : bindSpecial (.builtin "object.__ne__") self = pure (.builtin "object.__ne__", [self]) := F.slot_object_ne.bind self
section
variable {prog : Program} {w : World} {A : Around} {E : Value → Shared → Prop} {s : Shared} {K : Frag} {x C f : Addr} {ox : Obj} {od : Option Obj} {b tb : Value}
/-- object.__ne__ asks the own __eq__ -/
theorem ne_own {Q : Value → Shared → Prop} (hu : A.units + 1 < cLine) (X : K.In s.heap) (I : InstAt s.heap x ox C od) (hb : Looks (model prog w) s.heap (typeOf b) tb) (hn : notFirst K C tb = true)
    (hs : findIn K (.ref C) "__ne__" = some (some (.builtin "object.__ne__"))) (he : findIn K (.ref C) "__eq__" = some (some (.ref f))) (hf : isFn K (.ref f) = true) (top : mroIn K C (.type "object") = some true)
    (h : wpAny (model prog w) A.in1 (call (.ref f) [.ref x, b]) (fun v s' => ∃ k, v = .bool k ∧ Q (.bool (!k)) s') E s) : wpAny (model prog w) A (richCompare .NotEq (.ref x) b) Q E s := by
  have sub : Looks (model prog w) s.heap (isInstance (.ref x) (.type "object")) true := I.type.andThen (looks_mroIn X top)
  have inner : wpAny (model prog w) A (call (.builtin "object.__ne__") ([.ref x] ++ [b])) (fun v s' => Q v s' ∧ v ≠ .notImplemented) E s := by
    refine wpAny_call (codeAny_call_builtin F.slot_object_ne.plain F.cmpEntry_ne (@check_slot (model prog w) _ _ s "object.__ne__" "object" "__ne__" (.ref x) [b] [] _ F.cmpKind_ne F.cmpSplit_ne sub (F.cmpArgs_ne _ _) ?_))
    have go : wpAny (model prog w) A.in1 (callSpecialIfBound? (.ref x) "__eq__" [b]) (fun r s' => ∃ k, r = some (.bool k) ∧ Q (.bool (!k)) s') E s := by
      refine ifBound_K X I he hf (wpAny_mono h (fun v s' hv => ?_) fun _ _ e => e)
      obtain ⟨k, rfl, q⟩ := hv
      exact ⟨k, rfl, q⟩
    unfold Builtin.«object.__ne__»
    refine wpAny_bind (wpAny_of_eq (a := ((Value.ref x : Value), [b])) (by first | rfl | (simp only [Builtin.slotArgs]; rfl)) ?_)
    refine wpAny_bind (wpAny_cRoomFor hu ?_)
    refine wpAny_bind (wpAny_mono go (fun r s' hr => ?_) fun _ _ e => e)
    obtain ⟨k, rfl, q⟩ := hr
    refine wpAny_bind (wpAny_truthy_bool ?_)
    exact wpAny_pure ⟨q, fun z => by cases z⟩
  have one : wpAny (model prog w) A (tryCompare (.ref x) (cmpInfo .NotEq).2.1 b) (fun r s' => ∃ v, r = some v ∧ Q v s') E s := by
    have bound : wpAny (model prog w) A (callSpecialIfBound? (.ref x) "__ne__" [b]) (fun r s' => ∃ v, r = some v ∧ Q v s' ∧ v ≠ .notImplemented) E s := by
      simp only [callSpecialIfBound?, bindSpecialIfBound?]
      refine wpAny_holding (wpAny_bind (wpAny_bind (wpAny_bind (I.type.here ((looks_findIn X hs).here ?_)))))
      refine wpAny_bind (wpAny_askSetting (wpAny_ite ?_))
      have fin : wpAny (model prog w) A (call (.builtin "object.__ne__") ([.ref x] ++ [b]) >>= fun v => pure (some v)) (fun r s' => ∃ v, r = some v ∧ Q v s' ∧ v ≠ .notImplemented) E s :=
        wpAny_bind (wpAny_mono inner (fun v s' h' => wpAny_pure ⟨v, rfl, h'⟩) fun _ _ h' => h')
      split
      · rw [ne_bind]
        exact wpAny_bind (wpAny_pure (wpAny_pure (by exact fin)))
      · refine wpAny_tryCatch ?_
        rw [ne_bind]
        exact wpAny_bind (wpAny_pure (wpAny_pure (by exact fin)))
    unfold tryCompare
    refine wpAny_bind (wpAny_mono bound (fun r s' hr => ?_) fun _ _ e => e)
    obtain ⟨v, rfl, q, nn⟩ := hr
    cases v <;> first | exact absurd rfl nn | exact wpAny_pure ⟨_, rfl, q⟩
  unfold richCompare
  simp only [oneThing_ref]
  refine wpAny_holding (wpAny_bind (wpAny_cRoomFor (Nat.lt_of_succ_lt hu) ?_))
  refine wpAny_bind (I.type.here (wpAny_bind (hb.here ?_)))
  split
  · rename_i q
    have e : subIn K tb (.ref C) = some false := by
      rcases Bool.or_eq_true_iff.mp hn with e | e
      · rw [beq_iff_eq.mp e] at q; simp at q
      · exact beq_iff_eq.mp e
    refine wpAny_bind ((looks_subIn X e).here ?_)
    simp only [Bool.false_eq_true, if_false]
    refine wpAny_bind (wpAny_mono one (fun r s' z => ?_) fun _ _ e => e)
    obtain ⟨v, rfl, hq⟩ := z
    exact wpAny_pure hq
  · refine wpAny_bind (wpAny_pure ?_)
    simp only [Bool.false_eq_true, if_false]
    refine wpAny_bind (wpAny_mono one (fun r s' z => ?_) fun _ _ e => e)
    obtain ⟨v, rfl, hq⟩ := z
    exact wpAny_pure hq
end
end KB
namespace KB
open PySem PySem.Spec PyProof.Rows L2
section
variable {X : Cx} {k j : Nat} {C : Addr} {m : Str} {sp : Sp}
/-- what an operator of the class at C wants of the class -/
structure OpC (K : PySem.W.Frag) (C : Addr) : Prop where
  first : PySem.W.selfFirst K C = true
  ne : PySem.W.findIn K (.ref C) "__ne__" = some (some (.builtin "object.__ne__"))
  top : PySem.W.mroIn K C (.type "object") = some true
def rBin (C : Addr) (sp : Sp) : R2 := fun x y H Q => ∃ a dx fs b dy gs, x = .ref a ∧ y = .ref b ∧ H a = some (.ins C dx fs) ∧ H b = some (.ins C dy gs) ∧ sp [x, y] H Q E0
theorem op_bin {op : Operator} (o : OpC X.K C) (c : Met X.prog X.w X.K X.mg X.base k C m sp) (hr : Room j X.A) (hk : k ≤ j) (hm : PySem.dunder op.info.2 = m := by rfl) : OpR X (binaryOp op) (rBin C sp) := by
  intro pins s σ H x y v u Q I rx ry h
  obtain ⟨f, fd, ps, hc, hme, F, b⟩ := c.ex
  obtain ⟨a, dx, fs, b', dy, gs, rfl, rfl, ha, hb, q⟩ := h
  cases (show v = Value.ref a from rx)
  cases (show u = Value.ref b' from ry)
  obtain ⟨mA, O, _⟩ := ins_get I.hok ha
  obtain ⟨od, J, _⟩ := O.look
  obtain ⟨mB, O', _⟩ := ins_get I.hok hb
  obtain ⟨od', J', _⟩ := O'.look
  obtain ⟨m', hF⟩ := I.fr
  have hs : PySem.W.findIn X.K (.ref C) (PySem.dunder op.info.2) = some (some (.ref f)) := by rw [hm]; exact hme.at_
  refine PySem.W.binop_K hF I.ok.mod.kin J J'.type o.first hs hme.fn ?_
  refine wpAny_mono (run_fn (us := [.ref a, .ref b']) (vs := [.ref a, .ref b']) F (hr.mono hk) b .nil pass0 I (.cons rfl (.cons rfl .nil)) q) (fun w s' z => ?_) fun _ _ x => x
  obtain ⟨z', H', I', rz, qz⟩ := z
  exact SlX.cmpback rz ⟨z', H', I', rz, qz⟩
/-- x == y, x an instance of C, y anything whose type is known -/
def rEqO (K : PySem.W.Frag) (C : Addr) (sp : Sp) : R2 := fun x y H Q => ∃ a dx fs t, x = .ref a ∧ H a = some (.ins C dx fs) ∧ TyX K H y t ∧ PySem.W.notFirst K C t = true ∧ sp [x, y] H Q E0
theorem op_eqO (c : Met X.prog X.w X.K X.mg X.base k C "__eq__" sp) (hr : Room j X.A) (hk : k ≤ j) : OpR X (compareOp .Eq) (rEqO X.K C sp) := by
  intro pins s σ H x y v u Q I rx ry h
  obtain ⟨f, fd, ps, hc, hme, F, b⟩ := c.ex
  obtain ⟨a, dx, fs, t, rfl, ha, ty, hn, q⟩ := h
  cases (show v = Value.ref a from rx)
  obtain ⟨mA, O, _⟩ := ins_get I.hok ha
  obtain ⟨od, J, _⟩ := O.look
  obtain ⟨m', hF⟩ := I.fr
  obtain ⟨P, Z, p, hne⟩ := kit_of I ry ty
  refine PySem.W.cmp_ofEq ?_
  refine PySem.W.cmp_K (op := .Eq) (tb := t) hr.units0 hF I.ok.mod.kin J (Z.ty _ _ I.kIn p) hn hme.at_ hme.fn ?_
  refine wpAny_mono (run_fn (us := [.ref a, u]) (vs := [.ref a, y]) F (hr.mono hk) b .nil pass0 I (.cons rfl (.cons ry .nil)) q) (fun w s' z => ?_) fun _ _ x => x
  obtain ⟨z', H', I', rz, qz⟩ := z
  exact SlX.cmpback rz ⟨z', H', I', rz, qz⟩
/-- x != y likewise -/
def rNeO (K : PySem.W.Frag) (C : Addr) (sp : Sp) : R2 := fun x y H Q => ∃ a dx fs t, x = .ref a ∧ H a = some (.ins C dx fs) ∧ TyX K H y t ∧ PySem.W.notFirst K C t = true ∧ sp [x, y] H (fun v H' => ∃ k, v = .bl k ∧ Q (.bl (!k)) H') E0
theorem op_neO (o : OpC X.K C) (c : Met X.prog X.w X.K X.mg X.base k C "__eq__" sp) (hr : Room j X.A) (hk : k + 1 ≤ j) : OpR X (compareOp .NotEq) (rNeO X.K C sp) := by
  intro pins s σ H x y v u Q I rx ry h
  obtain ⟨f, fd, ps, hc, hme, F, b⟩ := c.ex
  obtain ⟨a, dx, fs, t, rfl, ha, ty, hn, q⟩ := h
  cases (show v = Value.ref a from rx)
  obtain ⟨mA, O, _⟩ := ins_get I.hok ha
  obtain ⟨od, J, _⟩ := O.look
  obtain ⟨P, Z, p, hne⟩ := kit_of I ry ty
  refine PySem.W.cmp_ofNotEq ?_
  have l2 : ([V.ref a, y] : List V).length = ps.length := F.len _ _ _ _ q
  have b2 := b s [Value.ref a, u] I.kIn (by rw [List.append_nil]; exact l2)
  rw [List.append_nil] at b2
  refine ne_own (hu_of hr) I.kIn J (Z.ty _ _ I.kIn p) hn o.ne hme.at_ hme.fn o.top ?_
  refine wpAny_call (codeAny_mono (F.run X.A.in1 X.stack s H ⟨[.ref a, u], []⟩ [.ref a, u] [.ref a, y] _ E0 (hr.mono hk).in1 I.env0.in1 b2 (.cons rfl (.cons ry .nil)) q) fun r s' hq => ?_)
  cases r with
  | error e => exact pass0 pins σ H s e s' I hq
  | ok fl =>
    cases fl with
    | ret w =>
      obtain ⟨z, H', I', rz, kk, ez, qz⟩ := I.after hq
      subst ez
      cases (show w = Value.bool kk from rz)
      exact ⟨kk, rfl, .bl (!kk), H', I', rfl, qz⟩
    | next => exact False.elim hq
    | brk => exact False.elim hq
    | cont => exact False.elim hq
end
end KB

/-! defs that may raise: called where nothing is raised, and in a try -/
namespace KB
open PySem PySem.Spec PyProof.Rows L2
theorem passN0 {X : Cx} : Passes (L2N.CX X.prog X.w) X E0 := fun _ _ _ _ _ _ _ h => by
  obtain ⟨_, _, _, _, _, _, _, _, _, _, _, _, z⟩ := h
  exact z.elim
theorem takesN0 {X : Cx} : L2N.Takes X (fun _ _ _ _ => False) := fun _ _ x => by
  obtain ⟨_, _, _, _, _, _, _, _, _, _, _, _, _, _, _, _, z⟩ := x
  exact z.elim
section
variable {P : Program} {w : World} {K : PySem.W.Frag} {mg : Str → Option Value} {base : Heap}
structure CalX (P : Program) (w : World) (K : PySem.W.Frag) (mg : Str → Option Value) (base : Heap) (k : Nat) (x : Str) (sp : Sp) : Prop where
  ex : ∃ (f : Addr) (fd : FuncData) (ps : List Str), FnOk P w K mg base (L2N.CX P w) k f fd ps sp ∧ mg x = some (.ref f) ∧ PySem.W.keepIn K (.ref f) = true ∧ Binds K fd ps []
structure MetX (P : Program) (w : World) (K : PySem.W.Frag) (mg : Str → Option Value) (base : Heap) (k : Nat) (C : Addr) (m : Str) (sp : Sp) : Prop where
  ex : ∃ (f : Addr) (fd : FuncData) (ps : List Str), Cls K C ∧ Meth K C m f ∧ FnOk P w K mg base (L2N.CX P w) k f fd ps sp ∧ Binds K fd ps []
structure MakX (P : Program) (w : World) (K : PySem.W.Frag) (mg : Str → Option Value) (base : Heap) (k : Nat) (x : Str) (C : Addr) (sp : Sp) : Prop where
  ex : ∃ (f : Addr) (fd : FuncData) (ps : List Str), Mk K C f ∧ FnOk P w K mg base (L2N.CX P w) k f fd ps sp ∧ mg x = some (.ref C) ∧ Binds K fd ps []
structure MakXK (P : Program) (w : World) (K : PySem.W.Frag) (mg : Str → Option Value) (base : Heap) (k : Nat) (x : Str) (C : Addr) (ks : List Str) (gV : List V → List V → List V) (sp : Sp) : Prop where
  ex : ∃ (f : Addr) (fd : FuncData) (ps : List Str) (g : List Value → List Value → List Value), Mk K C f ∧ FnOk P w K mg base (L2N.CX P w) k f fd ps sp ∧ mg x = some (.ref C) ∧ KBn K fd ps 1 ks g gV
structure CalXK (P : Program) (w : World) (K : PySem.W.Frag) (mg : Str → Option Value) (base : Heap) (k : Nat) (x : Str) (n : Nat) (ks : List Str) (gV : List V → List V → List V) (sp : Sp) : Prop where
  ex : ∃ (f : Addr) (fd : FuncData) (ps : List Str) (g : List Value → List Value → List Value), FnOk P w K mg base (L2N.CX P w) k f fd ps sp ∧ mg x = some (.ref f) ∧ PySem.W.keepIn K (.ref f) = true ∧ KBn K fd ps n ks g gV
/-- a def that may raise keeps its promise -/
theorem Fun_okN {x qual : Str} {st : Stmt} {f : Addr} {fd : FuncData} {N ps : List Str} {k : Nat} {sp : Sp} (F : Fun K x qual st f fd) (S : FnScope N ps (defScope st)) (len : ∀ vs H Q E, sp vs H Q E → vs.length = ps.length)
    (hbody : ∀ (cdv : Value) (A : Around) (outer : List Env) (s : Shared) (H : Hp) (vs : List V) (Q : VK) (E : XK), Room k (A.deeper (envOfC qual (defScope st) s.heap.objs.size f cdv)) → sp vs H Q E →
      ∃ t, PSs (cxOf (L2N.CX P w) P w K mg base N qual (defScope st) f cdv A outer s H E) (defBody st) t ∧ t { nx := fun _ H' => Q .non H', rt := Q } (start N vs) H) : FnOk P w K mg base (L2N.CX P w) (k + 1) f fd ps sp := by
  obtain ⟨oc, od, kV, doc, pm, an, cdv, ct, osl, rfl, lk, hcd⟩ := F.ex
  exact fn_of lk hcd S len fun A outer s H vs Q E hr hsp => hbody cdv A outer s H vs Q E hr hsp
end
section
variable {X : Cx} {k j n : Nat} {C : Addr} {x m : Str} {sp : Sp} {p pos apos : Pos} {e o : Expr} {es : List Expr} {kws : List Keyword} {ta : TE} {t tk : TA} {ks : List Str} {gV : List V → List V → List V} {W : WX}
theorem pe_x (c : CalX X.prog X.w X.K X.mg X.base k x sp) (hr : Room j X.A) (hk : k ≤ j) (hg : Gl X x) (ha : PA X (e :: es) t)
    (hdb : (x == ("__debug__" : Str)) = false := by decide) (he : starEach (e :: es) X.env = (false, eval e X.env) :: starEach es X.env := by rfl) (hpl : (backTo pos (starEach es X.env)).any (·.1) = false := by rfl) :
    PE X (.Call (.Name x p) (e :: es) [] pos) (tCall sp [] E0 t) := by
  obtain ⟨f, fd, ps, F, hm, kp, b⟩ := c.ex
  exact pe_call F (hr.mono hk) hg hm kp b .nil passN0 ha hdb he hpl
theorem pe_xS (c : CalX X.prog X.w X.K X.mg X.base k x sp) (hr : Room j X.A) (hk : k ≤ j) (hg : Gl X x) (tk : L2N.Takes X W) (ha : PA X (e :: es) t)
    (hdb : (x == ("__debug__" : Str)) = false := by decide) (he : starEach (e :: es) X.env = (false, eval e X.env) :: starEach es X.env := by rfl) (hpl : (backTo pos (starEach es X.env)).any (·.1) = false := by rfl) :
    PE X (.Call (.Name x p) (e :: es) [] pos) (tCallS sp (WE W) t) := by
  obtain ⟨f, fd, ps, F, hm, kp, b⟩ := c.ex
  exact pe_callS F (hr.mono hk) hg hm kp b (fun σ => L2N.passAt tk σ) ha hdb he hpl
/-- f(k = v, ..) in a try -/
def tCallSK0 (m : Nat) (sp : Sp) (gV : List V → List V → List V) (E : L2.St → XK) (tk : TA) : TE := fun σ H Q => tk σ H fun zs H2 => zs.length = m ∧ sp (gV [] zs) H2 Q (E σ)
theorem pe_xSK0 (c : CalXK X.prog X.w X.K X.mg X.base k x 0 ks gV sp) (hr : Room j X.A) (hk : k ≤ j) (hg : Gl X x) (tke : L2N.Takes X W) (hkw : PK X kws tk)
    (hall : (backToKw pos (keywordEach kws X.env)).all (·.1.isSome) = true := by rfl) (hks : (backToKw pos (keywordEach kws X.env)).filterMap (·.1) = ks := by rfl) (hdb : (x == ("__debug__" : Str)) = false := by decide)
    (hpl : ((backTo pos (starEach [] X.env)).any (·.1) || (backToKw pos (keywordEach kws X.env)).any (·.1.isNone)) = false := by rfl) :
    PE X (.Call (.Name x p) [] kws pos) (tCallSK0 ks.length sp gV (WE W) tk) := by
  obtain ⟨f, fd, ps, g, F, hm, kp, hb⟩ := c.ex
  refine ⟨fun pins s σ H Q I h => ?_⟩
  refine wpAny_Call_Name_kw (ld_glob I hg hm ?_ hdb)
  refine PySem.W.callWith_KW0 (h₀ := X.base) I.ok.mod.kin kp hall ?_ hpl
  refine thn (hkw.run pos pins s σ H _ I h) fun ws s2 ⟨zs, H2, I2, rz, l2, q2⟩ => ⟨I2.kIn, ?_⟩
  rw [hks]
  have r2 : Vals (gV [] zs) (g [] ws) := hb.rel (vs := []) (us := []) .nil rz
  refine wpAny_call (codeAny_mono (F.run X.A X.stack s2 H2 ⟨[], ks.zip ws⟩ (g [] ws) (gV [] zs) Q (WE W σ) (hr.mono hk) I2.env0 (hb.to s2 [] ws I2.kIn rfl (rz.length.symm.trans l2)) r2 q2) fun r s' hq => ?_)
  cases r with
  | error e => exact L2N.passAt tke σ pins H2 s2 e s' I2 hq
  | ok fl =>
    cases fl with
    | ret u => exact I2.after hq
    | next => exact False.elim hq
    | brk => exact False.elim hq
    | cont => exact False.elim hq
/-- f(k = v, ..) where nothing is raised -/
theorem pe_xK0 (c : CalXK X.prog X.w X.K X.mg X.base k x 0 ks gV sp) (hr : Room j X.A) (hk : k ≤ j) (hg : Gl X x) (hkw : PK X kws tk)
    (hall : (backToKw pos (keywordEach kws X.env)).all (·.1.isSome) = true := by rfl) (hks : (backToKw pos (keywordEach kws X.env)).filterMap (·.1) = ks := by rfl) (hdb : (x == ("__debug__" : Str)) = false := by decide)
    (hpl : ((backTo pos (starEach [] X.env)).any (·.1) || (backToKw pos (keywordEach kws X.env)).any (·.1.isNone)) = false := by rfl) :
    PE X (.Call (.Name x p) [] kws pos) (tCallK0 ks.length sp gV E0 tk) := by
  obtain ⟨f, fd, ps, g, F, hm, kp, hb⟩ := c.ex
  refine ⟨fun pins s σ H Q I h => ?_⟩
  refine wpAny_Call_Name_kw (ld_glob I hg hm ?_ hdb)
  refine PySem.W.callWith_KW0 (h₀ := X.base) I.ok.mod.kin kp hall ?_ hpl
  refine thn (hkw.run pos pins s σ H _ I h) fun ws s2 ⟨zs, H2, I2, rz, l2, q2⟩ => ⟨I2.kIn, ?_⟩
  rw [hks]
  have r2 : Vals (gV [] zs) (g [] ws) := hb.rel (vs := []) (us := []) .nil rz
  refine wpAny_call (codeAny_mono (F.run X.A X.stack s2 H2 ⟨[], ks.zip ws⟩ (g [] ws) (gV [] zs) Q E0 (hr.mono hk) I2.env0 (hb.to s2 [] ws I2.kIn rfl (rz.length.symm.trans l2)) r2 q2) fun r s' hq => ?_)
  cases r with
  | error e => exact passN0 pins σ H2 s2 e s' I2 hq
  | ok fl =>
    cases fl with
    | ret u => exact I2.after hq
    | next => exact False.elim hq
    | brk => exact False.elim hq
    | cont => exact False.elim hq
theorem pe_mtx {pl : Sem Bool} (c : MetX X.prog X.w X.K X.mg X.base k C m sp) (hr : Room j X.A) (hk : k ≤ j) (he : PE X o ta) (ha : PA X (e :: es) t)
    (hst : starEach (e :: es) X.env = (false, eval e X.env) :: starEach es X.env := by rfl) (hpl : (backTo pos (starEach es X.env)).any (·.1) = false := by rfl)
    (ht : eval (.Call (.Attribute o m apos) (e :: es) [] pos) X.env = (do
      let ov ← eval o X.env
      standAt apos.atName
      let (f, first) ← holding [ov] (getMethod ov m pl)
      callWith pos f first (backTo pos (starEach (e :: es) X.env)) (backToKw pos (keywordEach [] X.env))) := by rfl) :
    PE X (.Call (.Attribute o m apos) (e :: es) [] pos) (tMeth C m sp [] E0 ta t) := by
  obtain ⟨f, fd, ps, hc, hm, F, b⟩ := c.ex
  exact pe_meth (pl := pl) he hc hm F (hr.mono hk) b .nil passN0 ha hst hpl ht
/-- o.m(e, ..) in a try -/
def tMethS (C : Addr) (m : Str) (sp : Sp) (E : L2.St → XK) (ta : TE) (t : TA) : TE := fun σ H Q => ta σ H fun x H1 => ∃ a dx fs, x = .ref a ∧ H1 a = some (.ins C dx fs) ∧ fs.lookup m = none ∧ t σ H1 fun vs H2 => sp (x :: vs) H2 Q (E σ)
theorem pe_mtxS {pl : Sem Bool} (c : MetX X.prog X.w X.K X.mg X.base k C m sp) (hr : Room j X.A) (hk : k ≤ j) (tk : L2N.Takes X W) (he : PE X o ta) (ha : PA X (e :: es) t)
    (hst : starEach (e :: es) X.env = (false, eval e X.env) :: starEach es X.env := by rfl) (hpl : (backTo pos (starEach es X.env)).any (·.1) = false := by rfl)
    (ht : eval (.Call (.Attribute o m apos) (e :: es) [] pos) X.env = (do
      let ov ← eval o X.env
      standAt apos.atName
      let (f, first) ← holding [ov] (getMethod ov m pl)
      callWith pos f first (backTo pos (starEach (e :: es) X.env)) (backToKw pos (keywordEach [] X.env))) := by rfl) :
    PE X (.Call (.Attribute o m apos) (e :: es) [] pos) (tMethS C m sp (WE W) ta t) := by
  obtain ⟨f, fd, ps, hc, hm, F, b⟩ := c.ex
  refine ⟨fun pins s σ H Q I h => ?_⟩
  refine PySem.W.methodCall_KW (pl := pl) (thn (he.run pins s σ H _ I h) fun u s1 ⟨x, H1, I1, rx, a, dx, fs, ex, ea, l, q⟩ => ?_) ht
  subst ex
  obtain rfl : u = Value.ref a := rx
  refine getmeth_ok I1 ea hc hm l ?_
  refine PySem.W.callWith_K (first := [.ref a]) (h₀ := X.base) I.ok.mod.kin hm.kp (thn (ha.run pos pins s1 σ H1 _ I1 q) fun us s2 ⟨vs, H2, I2, r, q2⟩ => ⟨I2.kIn, ?_⟩) hst hpl
  exact run_fnS (us := .ref a :: us) (vs := .ref a :: vs) F (hr.mono hk) b (L2N.passAt tk σ) I2 (.cons rfl r) q2
theorem pe_mkx (c : MakX X.prog X.w X.K X.mg X.base k x C sp) (hr : Room j X.A) (hk : k + 1 ≤ j) (hg : Gl X x) (ha : PA X (e :: es) t)
    (hdb : (x == ("__debug__" : Str)) = false := by decide) (he : starEach (e :: es) X.env = (false, eval e X.env) :: starEach es X.env := by rfl) (hpl : (backTo pos (starEach es X.env)).any (·.1) = false := by rfl) :
    PE X (.Call (.Name x p) (e :: es) [] pos) (tMake C sp [] E0 t) := by
  obtain ⟨f, fd, ps, M, F, hm, b⟩ := c.ex
  exact pe_make M F (hr.mono hk) hg hm b .nil passN0 ha hdb he hpl
theorem pe_mkxK0 (c : MakXK X.prog X.w X.K X.mg X.base k x C ks gV sp) (hr : Room j X.A) (hk : k + 1 ≤ j) (hg : Gl X x) (hkw : PK X kws tk)
    (hall : (backToKw pos (keywordEach kws X.env)).all (·.1.isSome) = true := by rfl) (hks : (backToKw pos (keywordEach kws X.env)).filterMap (·.1) = ks := by rfl) (hdb : (x == ("__debug__" : Str)) = false := by decide)
    (hpl : ((backTo pos (starEach [] X.env)).any (·.1) || (backToKw pos (keywordEach kws X.env)).any (·.1.isNone)) = false := by rfl) :
    PE X (.Call (.Name x p) [] kws pos) (tMakeK C 0 ks.length sp gV E0 tNil tk) := by
  obtain ⟨f, fd, ps, g, M, F, hm, b⟩ := c.ex
  exact pe_makeK0 M F (hr.mono hk) hg hm b passN0 hkw hall hks hdb hpl
/-- C(e, ..) in a try -/
def tMakeS (C : Addr) (sp : Sp) (E : L2.St → XK) (t : TA) : TE := fun σ H Q => t σ H fun vs H1 => ∀ x dx, H1 x = none → H1 dx = none → dx ≠ x → sp (.ref x :: vs) (upd (upd H1 dx (.own x)) x (.ins C dx [])) (fun v H2 => v = .non ∧ Q (.ref x) H2) (E σ)
theorem run_makeS {pins : List (Addr × Obj)} {σ : L2.St} {H : Hp} {s : Shared} {Q : VK} {f : Addr} {fd : FuncData} {ps : List Str} {us : List Value} {ws : List (Str × Value)} {ul : List Value} {vl : List V} (M : Mk X.K C f) (F : FnOk X.prog X.w X.K X.mg X.base (L2N.CX X.prog X.w) k f fd ps sp) (hr : Room (k + 1) X.A)
    (tk : L2N.Takes X W) (I : Inv X pins σ H s) (r : ∀ x, Vals (.ref x :: vl) (.ref x :: ul))
    (hb : ∀ (s' : Shared) (x : Addr), X.K.In s'.heap → BindsTo s' fd ⟨.ref x :: us, ws⟩ (ps.zip (.ref x :: ul)))
    (h : ∀ x dx, H x = none → H dx = none → dx ≠ x → sp (.ref x :: vl) (upd (upd H dx (.own x)) x (.ins C dx [])) (fun v H2 => v = .non ∧ Q (.ref x) H2) (WE W σ)) :
    wpAny (model X.prog X.w) X.A (call (.ref C) us ws) (EP X pins σ Q) X.xe s := by
  have hq := h (s.heap.objs.size + 1) s.heap.objs.size (I.hok.fresh (Nat.le_succ _)) (I.hok.fresh (Nat.le_refl _)) (Nat.ne_of_lt (Nat.lt_succ_self _))
  have I2 := Inv.made (C := C) I
  refine wpAny_call (make_map (f := f) I.kIn M.makes M.init (beq_iff_eq.mp M.fn) (codeAny_mono (F.run _ X.stack _ _ ⟨Value.ref (s.heap.objs.size + 1) :: us, ws⟩ (Value.ref (s.heap.objs.size + 1) :: ul) _ _ (WE W σ) (hr.make C us ws)
    (I2.env0.make C us ws) (hb _ _ I2.kIn) (r _) hq) fun r s' hq' => ?_))
  cases r with
  | error e => exact L2N.passAt tk σ pins _ _ e s' I2 hq'
  | ok fl =>
    cases fl with
    | ret u =>
      obtain ⟨v, H', I3, rv, ev, q3⟩ := I2.after hq'
      subst ev
      exact ⟨rv, ⟨V.ref (s.heap.objs.size + 1), H', I3, rfl, q3⟩⟩
    | next => exact False.elim hq'
    | brk => exact False.elim hq'
    | cont => exact False.elim hq'
theorem pe_mkxS (c : MakX X.prog X.w X.K X.mg X.base k x C sp) (hr : Room j X.A) (hk : k + 1 ≤ j) (hg : Gl X x) (tk : L2N.Takes X W) (ha : PA X (e :: es) t)
    (hdb : (x == ("__debug__" : Str)) = false := by decide) (he : starEach (e :: es) X.env = (false, eval e X.env) :: starEach es X.env := by rfl) (hpl : (backTo pos (starEach es X.env)).any (·.1) = false := by rfl) :
    PE X (.Call (.Name x p) (e :: es) [] pos) (tMakeS C sp (WE W) t) := by
  obtain ⟨f, fd, ps, M, F, hm, b⟩ := c.ex
  refine ⟨fun pins s σ H Q I h => ?_⟩
  refine wpAny_Call_Name_kw (ld_glob I hg hm ?_ hdb)
  refine PySem.W.callWith_K (h₀ := X.base) I.ok.mod.kin M.kp (thn (ha.run pos pins s σ H _ I h) fun us s1 ⟨vs, H1, I1, r, q⟩ => ⟨I1.kIn, ?_⟩) he hpl
  have hq := q (s1.heap.objs.size + 1) s1.heap.objs.size (I1.hok.fresh (Nat.le_succ _)) (I1.hok.fresh (Nat.le_refl _)) (Nat.ne_of_lt (Nat.lt_succ_self _))
  have hl : ∀ x : Addr, (Value.ref x :: us).length = ps.length := fun x => by
    have e1 := F.len _ _ _ _ hq
    rw [List.length_cons] at e1 ⊢
    rw [← r.length]
    exact e1
  refine run_makeS (ws := []) (ul := us) (vl := vs) M F (hr.mono hk) tk I1 (fun x => .cons rfl r) (fun s' x hK => ?_) q
  have b2 := b s' (Value.ref x :: us) hK (by rw [List.append_nil]; exact hl x)
  rw [List.append_nil] at b2
  exact b2
def tMakeSK (C : Addr) (m : Nat) (sp : Sp) (gV : List V → List V → List V) (E : L2.St → XK) (tk : TA) : TE := fun σ H Q => tk σ H fun zs H1 => zs.length = m ∧ ∃ vl, (∀ x, gV [.ref x] zs = .ref x :: vl) ∧ ∀ x dx, H1 x = none → H1 dx = none → dx ≠ x →
  sp (.ref x :: vl) (upd (upd H1 dx (.own x)) x (.ins C dx [])) (fun v H2 => v = .non ∧ Q (.ref x) H2) (E σ)
theorem pe_mkxSK0 (c : MakXK X.prog X.w X.K X.mg X.base k x C ks gV sp) (hr : Room j X.A) (hk : k + 1 ≤ j) (hg : Gl X x) (tke : L2N.Takes X W) (hkw : PK X kws tk)
    (hall : (backToKw pos (keywordEach kws X.env)).all (·.1.isSome) = true := by rfl) (hks : (backToKw pos (keywordEach kws X.env)).filterMap (·.1) = ks := by rfl) (hdb : (x == ("__debug__" : Str)) = false := by decide)
    (hpl : ((backTo pos (starEach [] X.env)).any (·.1) || (backToKw pos (keywordEach kws X.env)).any (·.1.isNone)) = false := by rfl) :
    PE X (.Call (.Name x p) [] kws pos) (tMakeSK C ks.length sp gV (WE W) tk) := by
  obtain ⟨f, fd, ps, g, M, F, hm, hb⟩ := c.ex
  refine ⟨fun pins s σ H Q I h => ?_⟩
  refine wpAny_Call_Name_kw (ld_glob I hg hm ?_ hdb)
  refine PySem.W.callWith_KW0 (h₀ := X.base) I.ok.mod.kin M.kp hall ?_ hpl
  refine thn (hkw.run pos pins s σ H _ I h) fun ws s2 ⟨zs, H2, I2, rz, l2, vl, ev, q⟩ => ⟨I2.kIn, ?_⟩
  rw [hks]
  have hq := q (s2.heap.objs.size + 1) s2.heap.objs.size (I2.hok.fresh (Nat.le_succ _)) (I2.hok.fresh (Nat.le_refl _)) (Nat.ne_of_lt (Nat.lt_succ_self _))
  have I3 := Inv.made (C := C) I2
  have r2 : Vals (gV [.ref (s2.heap.objs.size + 1)] zs) (g [.ref (s2.heap.objs.size + 1)] ws) := hb.rel (.cons rfl .nil) rz
  rw [ev] at r2
  refine wpAny_call (make_map (f := f) (vs := []) I2.kIn M.makes M.init (beq_iff_eq.mp M.fn) (codeAny_mono (F.run _ X.stack _ _ ⟨[Value.ref (s2.heap.objs.size + 1)], ks.zip ws⟩ (g [.ref (s2.heap.objs.size + 1)] ws) _ _ (WE W σ) ((hr.mono hk).make C [] (ks.zip ws))
    (I3.env0.make C [] (ks.zip ws)) (hb.to _ [Value.ref (s2.heap.objs.size + 1)] ws I3.kIn rfl (rz.length.symm.trans l2)) r2 hq) fun r s' hq' => ?_))
  cases r with
  | error e => exact L2N.passAt tke σ pins _ _ e s' I3 hq'
  | ok fl =>
    cases fl with
    | ret u =>
      obtain ⟨v, H', I4, rv, ev', q3⟩ := I3.after hq'
      subst ev'
      exact ⟨rv, ⟨V.ref (s2.heap.objs.size + 1), H', I4, rfl, q3⟩⟩
    | next => exact False.elim hq'
    | brk => exact False.elim hq'
    | cont => exact False.elim hq'
/-- raise X(e, ..) -/
def tRaiseX (C : Addr) (fs : List Str) (W : WX) (ta : TA) : TS := fun _ σ H => tMkX C fs ta σ H fun cls d H' => W cls d σ H'
theorem ps_raiseX {a : Expr} {as : List Expr} {fs : List Str} {p pos pos2 : Pos} (hc : X.calm = true) (T : XErr X.prog X.K X.mg x C fs) (hr : Room k X.A) (tk : L2N.Takes X W) (ha : PA X (a :: as) t) (hg : Gl X x := by rfl) (hdb : (x == ("__debug__" : Str)) = false := by decide)
    (he : starEach (a :: as) X.env = (false, eval a X.env) :: starEach as X.env := by rfl) (hpl : (backTo pos (starEach as X.env)).any (·.1) = false := by rfl) :
    PS X (.Raise (some (.Call (.Name x p) (a :: as) [] pos)) none pos2) (tRaiseX C fs W t) := L2N.ps_raise hc tk (pmk_x T hr ha hg hdb he hpl)
end
end KB
namespace KB
open PySem PySem.Spec PyProof.Rows L2
section
variable {P : Program} {w : World} {K : PySem.W.Frag} {mg : Str → Option Value} {base : Heap}
/-- a def that raises nothing, called within an except suite -/
structure CalH (P : Program) (w : World) (K : PySem.W.Frag) (mg : Str → Option Value) (base : Heap) (k : Nat) (x : Str) (sp : Sp) : Prop where
  ex : ∃ (f : Addr) (fd : FuncData) (ps : List Str), L2H.FnH P w K mg base CX0 k f fd ps sp ∧ mg x = some (.ref f) ∧ PySem.W.keepIn K (.ref f) = true ∧ Binds K fd ps []
theorem Fun_okH {x qual : Str} {st : Stmt} {f : Addr} {fd : FuncData} {N ps : List Str} {k : Nat} {sp : Sp} (F : Fun K x qual st f fd) (S : FnScope N ps (defScope st)) (len : ∀ vs H Q E, sp vs H Q E → vs.length = ps.length)
    (hbody : ∀ (cdv : Value) (A : Around) (outer : List Env) (s : Shared) (H : Hp) (vs : List V) (Q : VK) (E : XK) (p : Addr × Obj), L2H.Hot1 A p → L2H.RoomH k (A.deeper (envOfC qual (defScope st) s.heap.objs.size f cdv)) → sp vs H Q E →
      ∃ t, PSs (L2H.cxH CX0 P w K mg base N qual (defScope st) f cdv A outer s H E p).nox (defBody st) t ∧ t { nx := fun _ H' => Q .non H', rt := Q } (start N vs) H) : L2H.FnH P w K mg base CX0 (k + 1) f fd ps sp := by
  obtain ⟨oc, od, kV, doc, pm, an, cdv, ct, osl, rfl, lk, hcd⟩ := F.ex
  refine L2H.fn_ofH lk hcd S len fun A outer s H vs Q E p hot hr hsp => ?_
  obtain ⟨t, h, q⟩ := hbody cdv A outer s H vs Q E p hot hr hsp
  exact ⟨t, h.nox, q⟩
theorem exm_own {K : PySem.W.Frag} {S B : Addr} (h1 : PySem.W.subIn K (.ref S) (.type "BaseException") = some true) (h2 : PySem.W.isClsIn K S = true) (h3 : PySem.W.typeIn K (.ref S) = some (.type "type")) {b : Bool} (h4 : PySem.W.subIn K (.ref B) (.ref S) = some b) :
    PySem.W.exmOne K (.ref B) (.ref S) = some b := by
  have e1 : (PySem.W.subIn K (.ref S) (.type "BaseException") == some true) = true := by rw [h1] <;> rfl
  have e2 : ((PySem.W.clsIn K S).isSome && PySem.W.typeIn K (.ref S) == some (.type "type")) = true := by
    have h2' : (PySem.W.clsIn K S).isSome = true := h2
    rw [h2', h3] <;> rfl
  show (if (PySem.W.subIn K (.ref S) (.type "BaseException") == some true) = true then (if ((PySem.W.clsIn K S).isSome && PySem.W.typeIn K (.ref S) == some (.type "type")) = true then PySem.W.subIn K (.ref B) (.ref S) else none) else none) = some b
  rw [if_pos e1, if_pos e2]
  exact h4
end
section
variable {X : Cx} {k j : Nat} {x : Str} {sp : Sp} {p pos : Pos} {e : Expr} {es : List Expr} {t : TA}
theorem hotS {a : Addr} {oe : Obj} {cls : Value} {d : Option Addr} {pn : List (Addr × Obj)} (hz : L2N.Zn cls d oe) (hf : ∃ vs, oe.data = .fields vs) : L2H.HotC (X.suite a ((a, oe) :: pn)) := by
  obtain ⟨vs, h⟩ := hf
  exact ⟨(a, oe), ⟨rfl, vs, h, hz.2.2 vs h⟩, List.mem_cons_self ..⟩
theorem pe_cH (c : CalH X.prog X.w X.K X.mg X.base k x sp) (hr : L2H.RoomH j X.A) (hk : k ≤ j) (hot : L2H.HotC X) (hg : Gl X x) (ha : PA X (e :: es) t)
    (hdb : (x == ("__debug__" : Str)) = false := by decide) (he : starEach (e :: es) X.env = (false, eval e X.env) :: starEach es X.env := by rfl) (hpl : (backTo pos (starEach es X.env)).any (·.1) = false := by rfl) :
    PE X (.Call (.Name x p) (e :: es) [] pos) (tCallS sp (fun _ => E0) t) := by
  obtain ⟨f, fd, ps, F, hm, kp, b⟩ := c.ex
  exact L2H.pe_callH F (hr.mono hk) hot hg hm kp b (fun σ pins H s e s' _ h => h.elim) ha hdb he hpl
/-- // by any number that is not 0, below 9,000 bits -/
def CDivV (_ j : Int) : Prop := j ≠ 0 ∧ j.natAbs.log2 < 9000
theorem op_fdivV : OpR X (binaryOp .FloorDiv) (rI CDivV fun i j => .int (i.fdiv j)) := opI fun i j _ _ _ _ _ hc q => PyProof.Rows.floordiv_int hc.1 q (.inl (PyProof.noPylong_of_log2 hc.2))
end
end KB
namespace KB
open PySem PySem.Spec PyProof.Rows L2
section
variable {P : Program} {w : World} {K : PySem.W.Frag} {mg : Str → Option Value} {base : Heap}
structure MetK (CX : CXT) (P : Program) (w : World) (K : PySem.W.Frag) (mg : Str → Option Value) (base : Heap) (k : Nat) (C : Addr) (m : Str) (ks : List Str) (gV : List V → List V → List V) (sp : Sp) : Prop where
  ex : ∃ (f : Addr) (fd : FuncData) (ps : List Str) (g : List Value → List Value → List Value), Cls K C ∧ Meth K C m f ∧ FnOk P w K mg base CX k f fd ps sp ∧ KBn K fd ps 1 ks g gV
end
section
variable {X : Cx} {k j n : Nat} {C : Addr} {x m : Str} {sp : Sp} {p pos apos : Pos} {o : Expr} {kws : List Keyword} {ta : TE} {tk : TA} {ks : List Str} {gV : List V → List V → List V} {W : WX}
/-- o.m(k = v, ..) -/
def tMethSK (C : Addr) (m : Str) (n : Nat) (sp : Sp) (gV : List V → List V → List V) (E : L2.St → XK) (ta : TE) (tk : TA) : TE := fun σ H Q => ta σ H fun x H1 => ∃ a dx fs, x = .ref a ∧ H1 a = some (.ins C dx fs) ∧ fs.lookup m = none ∧ tk σ H1 fun zs H2 => zs.length = n ∧ sp (gV [x] zs) H2 Q (E σ)
theorem pe_mtKg {CX : CXT} {E : L2.St → XK} {pl : Sem Bool} (c : MetK CX X.prog X.w X.K X.mg X.base k C m ks gV sp) (hr : Room j X.A) (hk : k ≤ j) (hx : ∀ σ, PassesAt CX X σ (E σ)) (he : PE X o ta) (hkw : PK X kws tk)
    (hall : (backToKw pos (keywordEach kws X.env)).all (·.1.isSome) = true := by rfl) (hks : (backToKw pos (keywordEach kws X.env)).filterMap (·.1) = ks := by rfl)
    (hpl : ((backTo pos (starEach [] X.env)).any (·.1) || (backToKw pos (keywordEach kws X.env)).any (·.1.isNone)) = false := by rfl)
    (ht : eval (.Call (.Attribute o m apos) [] kws pos) X.env = (do
      let ov ← eval o X.env
      standAt apos.atName
      let (f, first) ← holding [ov] (getMethod ov m pl)
      callWith pos f first (backTo pos (starEach [] X.env)) (backToKw pos (keywordEach kws X.env))) := by rfl) :
    PE X (.Call (.Attribute o m apos) [] kws pos) (tMethSK C m ks.length sp gV E ta tk) := by
  obtain ⟨f, fd, ps, g, hc, hm, F, hb⟩ := c.ex
  refine ⟨fun pins s σ H Q I h => ?_⟩
  refine PySem.W.methodCall_KW (pl := pl) (thn (he.run pins s σ H _ I h) fun u s1 ⟨x, H1, I1, rx, a, dx, fs, ex, ea, l, q⟩ => ?_) ht
  subst ex
  obtain rfl : u = Value.ref a := rx
  refine getmeth_ok I1 ea hc hm l ?_
  refine PySem.W.callWith_KW0 (first := [.ref a]) (h₀ := X.base) I.ok.mod.kin hm.kp hall ?_ hpl
  refine thn (hkw.run pos pins s1 σ H1 _ I1 q) fun ws s2 ⟨zs, H2, I2, rz, l2, q2⟩ => ⟨I2.kIn, ?_⟩
  rw [hks]
  have r2 : Vals (gV [.ref a] zs) (g [.ref a] ws) := hb.rel (.cons rfl .nil) rz
  refine wpAny_call (codeAny_mono (F.run X.A X.stack s2 H2 ⟨[.ref a], ks.zip ws⟩ (g [.ref a] ws) (gV [.ref a] zs) Q (E σ) (hr.mono hk) I2.env0 (hb.to s2 [.ref a] ws I2.kIn rfl (rz.length.symm.trans l2)) r2 q2) fun r s' hq => ?_)
  cases r with
  | error e => exact hx σ pins H2 s2 e s' I2 hq
  | ok fl =>
    cases fl with
    | ret u => exact I2.after hq
    | next => exact False.elim hq
    | brk => exact False.elim hq
    | cont => exact False.elim hq
theorem pe_mtK0 {pl : Sem Bool} (c : MetK CX0 X.prog X.w X.K X.mg X.base k C m ks gV sp) (hr : Room j X.A) (hk : k ≤ j) (he : PE X o ta) (hkw : PK X kws tk)
    (hall : (backToKw pos (keywordEach kws X.env)).all (·.1.isSome) = true := by rfl) (hks : (backToKw pos (keywordEach kws X.env)).filterMap (·.1) = ks := by rfl)
    (hpl : ((backTo pos (starEach [] X.env)).any (·.1) || (backToKw pos (keywordEach kws X.env)).any (·.1.isNone)) = false := by rfl)
    (ht : eval (.Call (.Attribute o m apos) [] kws pos) X.env = (do
      let ov ← eval o X.env
      standAt apos.atName
      let (f, first) ← holding [ov] (getMethod ov m pl)
      callWith pos f first (backTo pos (starEach [] X.env)) (backToKw pos (keywordEach kws X.env))) := by rfl) :
    PE X (.Call (.Attribute o m apos) [] kws pos) (tMethSK C m ks.length sp gV (fun _ => E0) ta tk) :=
  pe_mtKg (pl := pl) c hr hk (fun σ pins H s e s' _ h => h.elim) he hkw hall hks hpl ht
theorem pe_mtxSK0 {pl : Sem Bool} (c : MetK (L2N.CX X.prog X.w) X.prog X.w X.K X.mg X.base k C m ks gV sp) (hr : Room j X.A) (hk : k ≤ j) (tke : L2N.Takes X W) (he : PE X o ta) (hkw : PK X kws tk)
    (hall : (backToKw pos (keywordEach kws X.env)).all (·.1.isSome) = true := by rfl) (hks : (backToKw pos (keywordEach kws X.env)).filterMap (·.1) = ks := by rfl)
    (hpl : ((backTo pos (starEach [] X.env)).any (·.1) || (backToKw pos (keywordEach kws X.env)).any (·.1.isNone)) = false := by rfl)
    (ht : eval (.Call (.Attribute o m apos) [] kws pos) X.env = (do
      let ov ← eval o X.env
      standAt apos.atName
      let (f, first) ← holding [ov] (getMethod ov m pl)
      callWith pos f first (backTo pos (starEach [] X.env)) (backToKw pos (keywordEach kws X.env))) := by rfl) :
    PE X (.Call (.Attribute o m apos) [] kws pos) (tMethSK C m ks.length sp gV (WE W) ta tk) :=
  pe_mtKg (pl := pl) c hr hk (fun σ => L2N.passAt tke σ) he hkw hall hks hpl ht
end
end KB

/-! shares: the numbers, and how an object of the class stands on the heap -/
namespace KB
open PySem PySem.Spec PyProof.Rows L2
section
variable {X : Cx} {a b c : Expr} {tA t1 t2 : TT} {pos : Pos}
/-- a if c else b, as a test -/
def tIfT (c t u : TT) : TT := fun σ H Q => c σ H fun k H1 => if k = true then t σ H1 Q else u σ H1 Q
theorem pt_ifT (hc : PT X c tA) (ha : PT X a t1) (hb : PT X b t2) : PT X (.IfExp c a b pos) (tIfT tA t1 t2) := by
  refine ⟨fun pins s σ H Q I h => ?_⟩
  refine isTrue_IfExp (thn (hc.run pins s σ H _ I h) fun d s1 ⟨H1, I1, q1⟩ => ?_)
  cases d with
  | true => exact ha.run pins s1 σ H1 Q I1 q1
  | false => exact hb.run pins s1 σ H1 Q I1 q1
end
theorem roomS {X : Cx} {k : Nat} {a : Addr} {pn : List (Addr × Obj)} (hr : Room k X.A) : L2H.RoomH k (X.suite a pn).A := ⟨hr.dp, hr.un⟩
theorem kit_me {K : PySem.W.Frag} {C : Addr} : PySem.W.kitOne K (.ref C) (.ref C) = some true := by
  unfold PySem.W.kitOne
  rw [if_pos (by simp)]
theorem kit_no {K : PySem.W.Frag} {C : Addr} {n : String} {b : Bool} (h1 : PySem.W.isClsIn K C = true) (h2 : PySem.W.typeIn K (.ref C) = some (.type "type")) (h3 : PySem.W.subIn K (.type n) (.ref C) = some b) : PySem.W.kitOne K (.type n) (.ref C) = some b := by
  have e0 : ((Value.type n) == (Value.ref C)) = false := by rfl
  have e2 : ((PySem.W.clsIn K C).isSome && PySem.W.typeIn K (.ref C) == some (.type "type")) = true := by
    have h1' : (PySem.W.clsIn K C).isSome = true := h1
    rw [h1', h2] <;> rfl
  unfold PySem.W.kitOne
  rw [e0]
  show (if ((PySem.W.clsIn K C).isSome && PySem.W.typeIn K (.ref C) == some (.type "type")) = true then PySem.W.subIn K (.type n) (.ref C) else none) = some b
  rw [if_pos e2]
  exact h3
def gN (o u : Int) : Nat := Nat.gcd o.natAbs u.natAbs
def rOd (o u : Int) : Int := if u < 0 then -(o / (gN o u : Int)) else o / (gN o u : Int)
def rUd (o u : Int) : Int := if u < 0 then -(u / (gN o u : Int)) else u / (gN o u : Int)
theorem gN_pos {o u : Int} (h : u ≠ 0) : 0 < gN o u := Nat.gcd_pos_of_pos_right _ (by omega)
theorem gN_o (o u : Int) : (gN o u : Int) ∣ o := Int.ofNat_dvd_left.mpr (Nat.gcd_dvd_left _ _)
theorem gN_u (o u : Int) : (gN o u : Int) ∣ u := Int.ofNat_dvd_left.mpr (Nat.gcd_dvd_right _ _)
theorem gN_le {o u : Int} (h : u ≠ 0) : gN o u ≤ u.natAbs := Nat.le_of_dvd (by omega) (Nat.gcd_dvd_right _ _)
/-- the sign of the divisor -/
def cN (o u : Int) : Int := if u < 0 then -(gN o u : Int) else (gN o u : Int)
theorem cN_ne {o u : Int} (h : u ≠ 0) : cN o u ≠ 0 := by
  have := gN_pos (o := o) h
  unfold cN
  split <;> omega
theorem cN_abs {o u : Int} : (cN o u).natAbs = gN o u := by
  unfold cN
  split <;> omega
theorem fdiv_of {a g : Int} (x : Int) (hg : g ≠ 0) (e : a = g * x) : a.fdiv g = x := by
  subst e
  rw [Int.fdiv_eq_ediv_of_dvd (Int.dvd_mul_right _ _)]
  exact Int.mul_ediv_cancel_left _ hg
theorem div_of {a g : Int} (x : Int) (hg : g ≠ 0) (e : a = g * x) : a / g = x := by
  subst e
  exact Int.mul_ediv_cancel_left _ hg
theorem fdiv_o {o u : Int} (h : u ≠ 0) : o.fdiv (cN o u) = rOd o u := by
  have g := gN_pos (o := o) h
  obtain ⟨x, e⟩ := gN_o o u
  have g0 : (gN o u : Int) ≠ 0 := by omega
  unfold rOd cN
  rw [div_of x g0 e]
  split
  · exact fdiv_of _ (by omega) (by rw [Int.neg_mul_neg]; exact e)
  · exact fdiv_of _ g0 e
theorem fdiv_u {o u : Int} (h : u ≠ 0) : u.fdiv (cN o u) = rUd o u := by
  have g := gN_pos (o := o) h
  obtain ⟨x, e⟩ := gN_u o u
  have g0 : (gN o u : Int) ≠ 0 := by omega
  unfold rUd cN
  rw [div_of x g0 e]
  split
  · exact fdiv_of _ (by omega) (by rw [Int.neg_mul_neg]; exact e)
  · exact fdiv_of _ g0 e
theorem rU_pos {o u : Int} (h : u ≠ 0) : 0 < rUd o u := by
  have g := gN_pos (o := o) h
  obtain ⟨x, e⟩ := gN_u o u
  have g0 : (gN o u : Int) ≠ 0 := by omega
  have gp : (0 : Int) < gN o u := by omega
  unfold rUd
  rw [div_of x g0 e]
  split
  · rename_i hu
    have : x < 0 := by
      rcases Int.lt_or_le x 0 with z | z
      · exact z
      · have := Int.mul_nonneg (Int.le_of_lt gp) z
        omega
    omega
  · rename_i hu
    rcases Int.lt_or_le 0 x with z | z
    · exact z
    · have : (gN o u : Int) * x ≤ 0 := Int.mul_nonpos_of_nonneg_of_nonpos (Int.le_of_lt gp) z
      omega
theorem rO_le (o u : Int) : (rOd o u).natAbs ≤ o.natAbs := by
  have z : (o / (gN o u : Int)).natAbs ≤ o.natAbs := Int.natAbs_ediv_le_natAbs _ _
  unfold rOd
  split
  · rw [Int.natAbs_neg]
    exact z
  · exact z
theorem rU_le (o u : Int) : (rUd o u).natAbs ≤ u.natAbs := by
  have z : (u / (gN o u : Int)).natAbs ≤ u.natAbs := Int.natAbs_ediv_le_natAbs _ _
  unfold rUd
  split
  · rw [Int.natAbs_neg]
    exact z
  · exact z
theorem gN_scale {g : Int} (a b : Int) (hg : 0 < g) : (gN (g * a) (g * b) : Int) = g * gN a b := by
  unfold gN
  rw [Int.natAbs_mul, Int.natAbs_mul, Nat.gcd_mul_left, Int.natCast_mul]
  congr 1
  omega
theorem rOd_scale {g : Int} (a b : Int) (hg : 0 < g) : rOd (g * a) (g * b) = rOd a b := by
  have e : (g * a) / (gN (g * a) (g * b) : Int) = a / (gN a b : Int) := by
    rw [gN_scale a b hg]
    exact Int.mul_ediv_mul_of_pos _ _ hg
  unfold rOd
  rw [e]
  by_cases h : b < 0
  · rw [if_pos h, if_pos (Int.mul_neg_of_pos_of_neg hg h)]
  · rw [if_neg h, if_neg (Int.not_lt.mpr (Int.mul_nonneg (Int.le_of_lt hg) (Int.not_lt.mp h)))]
theorem rUd_scale {g : Int} (a b : Int) (hg : 0 < g) : rUd (g * a) (g * b) = rUd a b := by
  have e : (g * b) / (gN (g * a) (g * b) : Int) = b / (gN a b : Int) := by
    rw [gN_scale a b hg]
    exact Int.mul_ediv_mul_of_pos _ _ hg
  unfold rUd
  rw [e]
  by_cases h : b < 0
  · rw [if_pos h, if_pos (Int.mul_neg_of_pos_of_neg hg h)]
  · rw [if_neg h, if_neg (Int.not_lt.mpr (Int.mul_nonneg (Int.le_of_lt hg) (Int.not_lt.mp h)))]
theorem red_ex {o u : Int} (hu : 0 < u) : ∃ g : Int, 0 < g ∧ o = g * rOd o u ∧ u = g * rUd o u := by
  have g0 := gN_pos (o := o) (Int.ne_of_gt hu)
  refine ⟨gN o u, by omega, ?_, ?_⟩
  · unfold rOd
    rw [if_neg (by omega), Int.mul_ediv_cancel' (gN_o o u)]
  · unfold rUd
    rw [if_neg (by omega), Int.mul_ediv_cancel' (gN_u o u)]
theorem red_sum {n d o u : Int} (hu : 0 < u) : rOd (n * u + o * d) (d * u) = rOd (n * rUd o u + rOd o u * d) (d * rUd o u) ∧ rUd (n * u + o * d) (d * u) = rUd (n * rUd o u + rOd o u * d) (d * rUd o u) := by
  obtain ⟨g, g0, eo, eu⟩ := red_ex (o := o) hu
  generalize rOd o u = o' at *
  generalize rUd o u = u' at *
  subst eo eu
  have e1 : n * (g * u') + (g * o') * d = g * (n * u' + o' * d) := by
    rw [Int.mul_add, Int.mul_left_comm n, Int.mul_assoc g o']
  have e2 : d * (g * u') = g * (d * u') := Int.mul_left_comm _ _ _
  rw [e1, e2]
  exact ⟨rOd_scale _ _ g0, rUd_scale _ _ g0⟩
theorem red_less {n d o u : Int} (hu : 0 < u) : rOd (n * u - o * d) (d * u) = rOd (n * rUd o u - rOd o u * d) (d * rUd o u) ∧ rUd (n * u - o * d) (d * u) = rUd (n * rUd o u - rOd o u * d) (d * rUd o u) := by
  obtain ⟨g, g0, eo, eu⟩ := red_ex (o := o) hu
  generalize rOd o u = o' at *
  generalize rUd o u = u' at *
  subst eo eu
  have e1 : n * (g * u') - (g * o') * d = g * (n * u' - o' * d) := by
    rw [Int.mul_sub, Int.mul_left_comm n, Int.mul_assoc g o']
  have e2 : d * (g * u') = g * (d * u') := Int.mul_left_comm _ _ _
  rw [e1, e2]
  exact ⟨rOd_scale _ _ g0, rUd_scale _ _ g0⟩
theorem red_times {n d o u : Int} (hu : 0 < u) : rOd (n * o) (d * u) = rOd (n * rOd o u) (d * rUd o u) ∧ rUd (n * o) (d * u) = rUd (n * rOd o u) (d * rUd o u) := by
  obtain ⟨g, g0, eo, eu⟩ := red_ex (o := o) hu
  generalize rOd o u = o' at *
  generalize rUd o u = u' at *
  subst eo eu
  have e1 : n * (g * o') = g * (n * o') := by
    rw [Int.mul_left_comm n]
  have e2 : d * (g * u') = g * (d * u') := Int.mul_left_comm _ _ _
  rw [e1, e2]
  exact ⟨rOd_scale _ _ g0, rUd_scale _ _ g0⟩
theorem gN_one (n : Int) : gN n 1 = 1 := Nat.gcd_one_right _
theorem gN_one' (n : Int) : gN 1 n = 1 := Nat.gcd_one_left _
theorem rOd_one (n : Int) : rOd n 1 = n := by
  unfold rOd
  rw [if_neg (by decide), gN_one]
  exact Int.ediv_one _
theorem rUd_one (n : Int) : rUd n 1 = 1 := by
  unfold rUd
  rw [if_neg (by decide), gN_one]
  rfl
theorem rOd_one' {n : Int} (h : 0 < n) : rOd 1 n = 1 := by
  unfold rOd
  rw [if_neg (by omega), gN_one']
  rfl
theorem rUd_one' {n : Int} (h : 0 < n) : rUd 1 n = n := by
  unfold rUd
  rw [if_neg (by omega), gN_one']
  exact Int.ediv_one _
/-- Euclid's turns: k turns done of a pair with the product M -/
structure Eu (o u : Int) (k l r : Nat) : Prop where
  g : Nat.gcd l r = gN o u
  l0 : 0 < l
  m : (k = 0 ∧ l = u.natAbs ∧ r = o.natAbs) ∨ (r ≤ l ∧ 2 ^ k * (l * r) ≤ 2 * (u.natAbs * o.natAbs))
theorem Eu.ini {o u : Int} (h : u ≠ 0) : Eu o u 0 u.natAbs o.natAbs := ⟨Nat.gcd_comm _ _, by omega, .inl ⟨rfl, rfl, rfl⟩⟩
theorem Eu.nxt {o u : Int} {k l r : Nat} (E : Eu o u k l r) (h : r ≠ 0) : Eu o u (k + 1) r (l % r) := by
  obtain ⟨g, l0, m⟩ := E
  have lt : l % r < r := Nat.mod_lt _ (by omega)
  refine ⟨?_, by omega, .inr ⟨by omega, ?_⟩⟩
  · rw [Nat.gcd_comm, ← Nat.gcd_rec, Nat.gcd_comm]
    exact g
  · rcases m with ⟨rfl, rfl, rfl⟩ | ⟨hr, hm⟩
    · have a1 : o.natAbs * (u.natAbs % o.natAbs) ≤ o.natAbs * u.natAbs := Nat.mul_le_mul_left _ (Nat.mod_le _ _)
      have a2 : o.natAbs * u.natAbs = u.natAbs * o.natAbs := Nat.mul_comm _ _
      show 2 ^ 1 * _ ≤ _
      omega
    · have h2 : 2 * (l % r) ≤ l := by
        have e := Nat.div_add_mod l r
        have d : 1 ≤ l / r := Nat.div_pos hr (by omega)
        have : r * 1 ≤ r * (l / r) := Nat.mul_le_mul_left _ d
        omega
      have h3 : 2 ^ (k + 1) * (r * (l % r)) = 2 ^ k * (r * (2 * (l % r))) := by
        rw [Nat.pow_succ, Nat.mul_assoc, ← Nat.mul_assoc 2 r, Nat.mul_comm 2 r, Nat.mul_assoc r 2]
      rw [h3]
      refine Nat.le_trans (Nat.mul_le_mul_left _ (Nat.mul_le_mul_left r h2)) ?_
      rw [Nat.mul_comm r l]
      exact hm
theorem Eu.fin {o u : Int} {l r : Nat} (E : Eu o u 9000 l r) (h1 : o.natAbs < 2 ^ 4000) (h2 : u.natAbs < 2 ^ 4000) : r = 0 := by
  obtain ⟨g, l0, m⟩ := E
  rcases m with ⟨z, _⟩ | ⟨hr, hm⟩
  · cases z
  · rcases Nat.eq_zero_or_pos r with z | z
    · exact z
    · exfalso
      have a1 : 1 ≤ l * r := Nat.mul_pos l0 z
      have a2 : 2 ^ 9000 * 1 ≤ 2 ^ 9000 * (l * r) := Nat.mul_le_mul_left _ a1
      have a3 : u.natAbs * o.natAbs ≤ 2 ^ 4000 * 2 ^ 4000 := Nat.mul_le_mul (Nat.le_of_lt h2) (Nat.le_of_lt h1)
      have a4 : (2 : Nat) ^ 4000 * 2 ^ 4000 = 2 ^ 8000 := by rw [← Nat.pow_add]
      have a5 : (2 : Nat) * 2 ^ 8000 = 2 ^ 8001 := (Nat.pow_succ' (m := 2) (n := 8000)).symm
      have a6 : (2 : Nat) ^ 8001 < 2 ^ 9000 := Nat.pow_lt_pow_right (by decide) (by decide)
      generalize (2 : Nat) ^ 9000 = A at *
      generalize (2 : Nat) ^ 8001 = B at *
      generalize (2 : Nat) ^ 8000 = D at *
      generalize (2 : Nat) ^ 4000 * 2 ^ 4000 = F at *
      omega
theorem Eu.gcd {o u : Int} {k l : Nat} (E : Eu o u k l 0) : l = gN o u := by
  have := E.g
  rwa [Nat.gcd_zero_right] at this
theorem bits_mul {x y : Int} {a b : Nat} (h1 : x.natAbs < 2 ^ a) (h2 : y.natAbs < 2 ^ b) : (x * y).natAbs < 2 ^ (a + b) := wide_lt h1 h2
theorem bits_add {x y : Int} {a : Nat} (h1 : x.natAbs < 2 ^ a) (h2 : y.natAbs < 2 ^ a) : (x + y).natAbs < 2 ^ (a + 1) := by
  rw [Nat.pow_succ]
  omega
theorem bits_sub {x y : Int} {a : Nat} (h1 : x.natAbs < 2 ^ a) (h2 : y.natAbs < 2 ^ a) : (x - y).natAbs < 2 ^ (a + 1) := by
  rw [Nat.pow_succ]
  omega
theorem bits_le {x : Int} {a b : Nat} (h : x.natAbs < 2 ^ a) (hb : a ≤ b) : x.natAbs < 2 ^ b := Nat.lt_of_lt_of_le h (Nat.pow_le_pow_right (by decide) hb)
theorem bits_of {x : Int} {a : Nat} (h : x.natAbs ≤ 2 ^ a) : x.natAbs < 2 ^ (a + 1) := by
  have : 0 < 2 ^ a := Nat.pow_pos (by decide)
  rw [Nat.pow_succ]
  omega

/-! ### an object of the class -/
structure ShC (K : PySem.W.Frag) (C : Addr) : Prop where
  ins : C8.InsC K C
  no : NoAttr K C "over"
  nu : NoAttr K C "under"
  op : OpC K C
  nf : PySem.W.notFirst K C (.ref C) = true
def fz (n d : Int) : List (Str × V) := [("over", .int n), ("under", .int d)]
theorem fz_o {n d : Int} : List.lookup ("over" : Str) (fz n d) = some (V.int n) := rfl
theorem fz_u {n d : Int} : List.lookup ("under" : Str) (fz n d) = some (V.int d) := rfl
def Sh (C : Addr) (H : Hp) (x : Addr) (n d : Int) : Prop := ∃ dx, H x = some (.ins C dx (fz n d))
theorem Sh.mono {C : Addr} {H H' : Hp} {x : Addr} {n d : Int} (h : Sh C H x n d) (s : Same H H') : Sh C H' x n d := by
  obtain ⟨dx, e⟩ := h
  exact ⟨dx, s _ _ e⟩
theorem ShC.ty {K : PySem.W.Frag} {C : Addr} (c : ShC K C) {H : Hp} {x : Addr} {n d : Int} (h : Sh C H x n d) : TyX K H (.ref x) (.ref C) := by
  obtain ⟨dx, e⟩ := h
  exact .base (.ins e c.ins.cl c.ins.ha c.ins.hn c.ins.htk c.ins.hm)
/-- a kind that is no share's -/
structure Foe (K : PySem.W.Frag) (C : Addr) (t : Value) : Prop where
  k : PySem.W.kitOne K t (.ref C) = some false
  nf : PySem.W.notFirst K C t = true
/-- a share is made at x, its dict at dx -/
def mkS (C : Addr) (H : Hp) (x dx : Addr) (n d : Int) : Hp := upd (upd H dx (.own x)) x (.ins C dx (fz n d))
theorem mkS_same {C : Addr} {H : Hp} {x dx : Addr} {n d : Int} (hx : H x = none) (hd : H dx = none) : Same H (mkS C H x dx n d) := (same_out (same_upd hd) hx)
theorem mkS_sh {C : Addr} {H : Hp} {x dx : Addr} {n d : Int} : Sh C (mkS C H x dx n d) x n d := ⟨dx, upd_same⟩
theorem Tp.mkSh {B H H' : Hp} {t x dx C : Addr} {c : Nat} {n d : Int} (T : Tp B H t c) (hx : H x = none) (hdx : H dx = none) (hne : dx ≠ x) (e : H' = upd (upd (upd H dx (.own x)) x (.ins C dx [])) x (.ins C dx (fz n d))) : ∃ B', Same B B' ∧ Tp B' H' t c ∧ Sh C B' x n d := by
  rw [upd_upd] at e
  subst e
  exact ⟨mkS C B x dx n d, mkS_same (T.isn hx) (T.isn hdx), T.inst hx hdx hne, mkS_sh⟩
def pick3 {α : Type} (a b c : α) : Nat → α
  | 0 => a
  | 1 => b
  | _ => c
theorem get3 {S : Nat → Addr} {i : Nat} (h : i < 3) : [V.ref (S 0), V.ref (S 1), V.ref (S 2)][i]? = some (V.ref (S i)) := by
  rcases (by omega : i = 0 ∨ i = 1 ∨ i = 2) with rfl | rfl | rfl <;> rfl
def spInit (C CN : Addr) : Sp := fun vs H Q E => ∃ x dx o u, vs = [.ref x, .int o, .int u] ∧ H x = some (.ins C dx []) ∧ u.natAbs < 2 ^ 9000 ∧
  ((u ≠ 0 ∧ ∀ H', H' = upd H x (.ins C dx (fz (rOd o u) (rUd o u))) → Q .non H') ∨ (u = 0 ∧ ∀ d, H d = none → E (.ref CN) (some d) (upd H d (.xd [("number", .int 0)]))))
/-- a binary operator of two shares -/
def spOp (C : Addr) (fo fu : Int → Int → Int → Int → Int) : Sp := fun vs H Q _ => ∃ a b n d m e, vs = [.ref a, .ref b] ∧ Sh C H a n d ∧ Sh C H b m e ∧ 0 < d ∧ 0 < e ∧ (n.natAbs < 2 ^ 4000 ∧ d.natAbs < 2 ^ 4000 ∧ m.natAbs < 2 ^ 4000 ∧ e.natAbs < 2 ^ 4000) ∧
  ∀ x dx, H x = none → H dx = none → dx ≠ x → Q (.ref x) (mkS C H x dx (rOd (fo n d m e) (fu n d m e)) (rUd (fo n d m e) (fu n d m e)))
def spAdd (C : Addr) : Sp := spOp C (fun n d m e => n * e + m * d) (fun _ d _ e => d * e)
def spSub (C : Addr) : Sp := spOp C (fun n d m e => n * e - m * d) (fun _ d _ e => d * e)
def spMul (C : Addr) : Sp := spOp C (fun n _ m _ => n * m) (fun _ d _ e => d * e)
def spEq (K : PySem.W.Frag) (C : Addr) : Sp := fun vs H Q _ => ∃ a y n d, vs = [.ref a, y] ∧ Sh C H a n d ∧ ((∃ b m e, y = .ref b ∧ Sh C H b m e ∧ Q (.bl (decide (n = m) && decide (d = e))) H) ∨ ∃ t, TyX K H y t ∧ Foe K C t ∧ Q (.bl false) H)
def spBelow (C : Addr) : Sp := fun vs H Q _ => ∃ a b n d m e, vs = [.ref a, .ref b] ∧ Sh C H a n d ∧ Sh C H b m e ∧ (n.natAbs < 2 ^ 4000 ∧ d.natAbs < 2 ^ 4000 ∧ m.natAbs < 2 ^ 4000 ∧ e.natAbs < 2 ^ 4000) ∧ Q (.bl (decide (n * e < m * d))) H
def spHalf (C : Addr) : Sp := fun vs H Q _ => ∃ n : Nat, vs = [.int n] ∧ n ≤ 8000 ∧ ∀ x dx, H x = none → H dx = none → dx ≠ x → Q (.ref x) (mkS C H x dx (rOd 1 (2 ^ n)) (rUd 1 (2 ^ n)))
end KB

/-! things: values of data on the heap -/
namespace KB
open PySem PySem.Spec PyProof.Rows L2
theorem sameT {K : PySem.W.Frag} {H H' : Hp} {a : Addr} {xs : List V} (e : Same H H') (h : SqT K H a xs) : SqT K H' a xs := by
  rcases h with (h | ⟨o, h⟩) | h
  · exact .inl (.inl (e _ _ h))
  · exact .inl (.inr ⟨o, e _ _ h⟩)
  · exact .inr h
mutual
theorem Dp.mono {K : PySem.W.Frag} {H H' : Hp} (s : Same H H') : ∀ (d : PyData) (v : V), Dp K H v d → Dp K H' v d
  | .none, _, h => by cases h; exact .non
  | .bool b, _, h => by cases h; exact .bl b
  | .int i, _, h => by cases h; exact .int i
  | .str x, _, h => by cases h; exact .str x
  | .list ds, _, h => by
    cases h with
    | lst hs ha => exact .lst (s.seq hs) (DpAll.mono s ds _ ha)
  | .tuple ds, _, h => by
    cases h with
    | tup hs ha => exact .tup (sameT s hs) (DpAll.mono s ds _ ha)
  | .dict _, _, h => by cases h
theorem DpAll.mono {K : PySem.W.Frag} {H H' : Hp} (s : Same H H') : ∀ (ds : List PyData) (vs : List V), DpAll K H vs ds → DpAll K H' vs ds
  | [], _, h => by cases h; exact .nil
  | d :: ds, _, h => by
    cases h with
    | cons h1 h2 => exact .cons (Dp.mono s d _ h1) (DpAll.mono s ds _ h2)
end
theorem DpAll.len {K : PySem.W.Frag} {H : Hp} : ∀ {ds : List PyData} {vs : List V}, DpAll K H vs ds → vs.length = ds.length
  | [], _, h => by cases h; rfl
  | d :: ds, _, h => by
    cases h with
    | cons h1 h2 => rw [List.length_cons, List.length_cons, DpAll.len h2]
theorem DpAll.get {K : PySem.W.Frag} {H : Hp} : ∀ {ds : List PyData} {vs : List V} {k : Nat} {d : PyData}, DpAll K H vs ds → ds[k]? = some d → ∃ v, vs[k]? = some v ∧ Dp K H v d
  | [], _, _, _, _, e => by simp at e
  | d :: ds, _, 0, d', h, e => by
    cases h with
    | cons h1 h2 =>
      cases Option.some.inj e
      exact ⟨_, rfl, h1⟩
  | d :: ds, _, k + 1, d', h, e => by
    cases h with
    | cons h1 h2 =>
      obtain ⟨v, h3, h4⟩ := DpAll.get h2 (show ds[k]? = some d' from e)
      exact ⟨v, h3, h4⟩
theorem DpAll.get' {K : PySem.W.Frag} {H : Hp} {ds : List PyData} {vs : List V} {k : Nat} {v : V} (h : DpAll K H vs ds) (e : vs[k]? = some v) : ∃ d, ds[k]? = some d ∧ Dp K H v d := by
  have hk : k < vs.length := (List.getElem?_eq_some_iff.mp e).1
  have hk' : k < ds.length := by rw [← DpAll.len h]; exact hk
  obtain ⟨v', h3, h4⟩ := DpAll.get h (List.getElem?_eq_getElem hk')
  rw [e] at h3
  cases Option.some.inj h3
  exact ⟨_, List.getElem?_eq_getElem hk', h4⟩
theorem DpAll.snoc {K : PySem.W.Frag} {H : Hp} {v : V} {d : PyData} (hd : Dp K H v d) : ∀ {ds : List PyData} {vs : List V}, DpAll K H vs ds → DpAll K H (vs ++ [v]) (ds ++ [d])
  | [], _, h => by cases h; exact .cons hd .nil
  | e :: ds, _, h => by
    cases h with
    | cons h1 h2 => exact .cons h1 (DpAll.snoc hd h2)
/-- data of a height below n, its sequences not long -/
def okD : Nat → PyData → Bool
  | 0, _ => false
  | _ + 1, .none => true
  | _ + 1, .bool _ => true
  | _ + 1, .int _ => true
  | _ + 1, .str _ => true
  | n + 1, .list ds => decide (ds.length ≤ 100000) && ds.all (okD n)
  | n + 1, .tuple ds => decide (ds.length ≤ 100000) && ds.all (okD n)
  | _ + 1, .dict _ => false
theorem okD_seq {n : Nat} {ds : List PyData} (h : (decide (ds.length ≤ 100000) && ds.all (okD n)) = true) : ds.length ≤ 100000 ∧ ∀ d ∈ ds, okD n d = true := by
  rw [Bool.and_eq_true] at h
  exact ⟨of_decide_eq_true h.1, List.all_eq_true.mp h.2⟩
theorem okD_mk {n : Nat} {ds : List PyData} (h1 : ds.length ≤ 100000) (h2 : ∀ d ∈ ds, okD n d = true) : (decide (ds.length ≤ 100000) && ds.all (okD n)) = true := by
  rw [Bool.and_eq_true]
  exact ⟨decide_eq_true h1, List.all_eq_true.mpr h2⟩
theorem ty_seq {K : PySem.W.Frag} {H : Hp} {a : Addr} {xs : List V} (h : SqL K H a xs) : TyX K H (.ref a) (.type "list") := by
  rcases h with (h | ⟨o, h⟩) | ⟨o, its, n, h1, h2, _⟩
  · exact .base (.lst h)
  · exact .base (.frz h)
  · exact .kList h1 h2
theorem ty_tup {K : PySem.W.Frag} {H : Hp} {a : Addr} {xs : List V} (h : SqT K H a xs) : TyX K H (.ref a) (.type "tuple") := by
  rcases h with (h | ⟨o, h⟩) | ⟨o, its, n, h1, h2, _⟩
  · exact .base (.tup h)
  · exact .fTuple h
  · exact .kTuple h1 h2
def tn : PyData → String
  | .none => "NoneType"
  | .bool _ => "bool"
  | .int _ => "int"
  | .str _ => "str"
  | .list _ => "list"
  | .tuple _ => "tuple"
  | .dict _ => "dict"
theorem ty_dp {K : PySem.W.Frag} {H : Hp} {d : PyData} {v : V} (h : Dp K H v d) : TyX K H v (.type (tn d)) := by
  cases h with
  | non => exact .base .non
  | bl b => exact .base (.bl b)
  | int i => exact .base (.int i)
  | str x => exact .base (.str x)
  | lst hs _ => exact ty_seq hs
  | tup hs _ => exact ty_tup hs
/-- x is b, b a bool -/
theorem op_isB {X : Cx} : OpR X (compareOp .Is) (fun x y H Q => ∃ b, y = .bl b ∧ Q (.bl (decide (x = .bl b))) H) := by
  intro pins s σ H x y v u Q I rx ry h
  obtain ⟨b, rfl, q⟩ := h
  cases (show u = Value.bool b from ry)
  have go : ∀ v : Value, PySem.plainIs v (.bool b) = true → RelV x v → wpAny (model X.prog X.w) X.A (compareOp .Is v (.bool b)) (EP X pins σ Q) X.xe s := fun v hp r => by
    refine PySem.wpAny_is_plain hp ⟨.bl (v == .bool b), H, I, rfl, ?_⟩
    have e : (v == Value.bool b) = decide (x = .bl b) := by
      rw [Bool.eq_iff_iff, beq_iff_eq, decide_eq_true_iff]
      constructor
      · intro z
        subst z
        exact RelV.inj r rfl
      · intro z
        subst z
        exact r
    rw [e]
    exact q
  refine go v ?_ rx
  cases x with
  | non => cases rx; rfl
  | bl j => cases rx; rfl
  | int j => obtain ⟨t, rfl⟩ := rx; rfl
  | str j => obtain ⟨t, rfl⟩ := rx; rfl
  | byt j => obtain ⟨t, rfl⟩ := rx; rfl
  | flt j => obtain ⟨t, rfl⟩ := rx; rfl
  | ref j => cases rx; rfl
  | ty j => cases rx; rfl
def spSame (K : PySem.W.Frag) (n : Nat) : Sp := fun vs H Q _ => ∃ x y d, vs = [x, y] ∧ okD n d = true ∧ Dp K H x d ∧ Dp K H y d ∧ Q (.bl true) H
/-- N: cells that are new behind H, as they stand in H' -/
structure Nw (N H H' : Hp) : Prop where
  same : Same N H'
  new : ∀ p, N p ≠ none → H p = none
def mrg (N M : Hp) : Hp := fun p => match N p with
  | some o => some o
  | none => M p
theorem mrg_l {N M : Hp} : Same N (mrg N M) := fun p o e => by
  unfold mrg
  rw [e]
theorem mrg_r {N M : Hp} (h : ∀ p, M p ≠ none → N p = none) : Same M (mrg N M) := fun p o e => by
  unfold mrg
  rw [h p (by rw [e]; exact fun z => by cases z)]
  exact e
theorem mrg_none {N M : Hp} {p : Addr} (h1 : N p = none) (h2 : M p = none) : mrg N M p = none := by
  unfold mrg
  rw [h1]
  exact h2
theorem mrg_same {N M H : Hp} (h1 : Same N H) (h2 : Same M H) : Same (mrg N M) H := fun p o e => by
  unfold mrg at e
  split at e
  · rename_i o' e'
    cases e
    exact h1 _ _ e'
  · exact h2 _ _ e
theorem Nw.nil {H : Hp} : Nw (fun _ => none) H H := ⟨fun _ _ e => (by cases e), fun _ h => absurd rfl h⟩
theorem Nw.disj {N M H H1 H2 : Hp} (h1 : Nw N H H1) (h2 : Nw M H1 H2) : ∀ p, M p ≠ none → N p = none := fun p h => h1.same.free (h2.new p h)
theorem Nw.add {N M H H1 H2 : Hp} (h1 : Nw N H H1) (h2 : Nw M H1 H2) (s : Same H H1) (s2 : Same H1 H2) : Nw (mrg N M) H H2 := by
  refine ⟨mrg_same (h1.same.trans s2) h2.same, fun p h => ?_⟩
  cases e : N p with
  | some o => exact h1.new p (by rw [e]; exact fun z => by cases z)
  | none =>
    refine s.free (h2.new p fun z => h ?_)
    exact mrg_none e z
theorem Nw.put {N H H1 : Hp} {l : Addr} {o : HO} (h1 : Nw N H H1) (s : Same H H1) (hl : H1 l = none) : Nw (upd N l o) H (upd H1 l o) := by
  refine ⟨same_set h1.same, fun p h => ?_⟩
  by_cases e : p = l
  · subst e
    exact s.free hl
  · rw [upd_ne e] at h
    exact h1.new p h
theorem Nw.out {N H H1 : Hp} {l : Addr} {o : HO} (h1 : Nw N H H1) (hl : N l = none) : Nw N H (upd H1 l o) := ⟨same_out h1.same hl, h1.new⟩
theorem Nw.own {N H H1 : Hp} {l : Addr} {o : HO} (h1 : Nw N H H1) (hl : H l = none) (e : H1 l = some o) : Nw (upd N l o) H H1 := by
  refine ⟨fun p x hx => ?_, fun p h => ?_⟩
  · by_cases z : p = l
    · subst z
      rw [upd_same] at hx
      cases hx
      exact e
    · rw [upd_ne z] at hx
      exact h1.same _ _ hx
  · by_cases z : p = l
    · subst z
      exact hl
    · rw [upd_ne z] at h
      exact h1.new p h
def spCopy (K : PySem.W.Frag) (n : Nat) : Sp := fun vs H Q _ => ∃ x d, vs = [x] ∧ okD n d = true ∧ Dp K H x d ∧ ∀ H' v N, Same H H' → Nw N H H' → Dp K N v d → Q v H'
end KB
namespace KB
open PySem PySem.Spec PyProof.Rows L2
/-- a text so many times -/
def repS (z : Str) (k : Int) : Str := ⟨((List.replicate k.toNat z.cps.toList).flatten).toArray⟩
theorem foldl_app (z : Array Nat) : ∀ (n : Nat) (b : Array Nat), ((List.replicate n z).foldl (· ++ ·) b).toList = b.toList ++ (List.replicate n z.toList).flatten
  | 0, b => by simp
  | n + 1, b => by
    rw [List.replicate_succ, List.foldl_cons, foldl_app z n, List.replicate_succ, List.flatten_cons, Array.toList_append, List.append_assoc]
theorem repS_len (z : Str) (k : Int) : (repS z k).length = k.toNat * z.length := by
  show ((List.replicate k.toNat z.cps.toList).flatten.toArray).size = _
  rw [List.size_toArray, List.length_flatten]
  simp
  rfl
def rRepS : R2 := fun x y H Q => ∃ (z : Str) (k : Int), x = .str z ∧ y = .int k ∧ -(2 ^ 63) ≤ k ∧ k < 2 ^ 63 ∧ k.toNat * z.length ≤ 16777216 ∧ Q (.str (repS z k)) H
theorem op_repS {X : Cx} : OpR X (binaryOp .Mult) rRepS := by
  intro pins s σ H x y v u Q I rx ry h
  obtain ⟨z, k, rfl, rfl, h1, h2, hz, q⟩ := h
  obtain ⟨t, rfl⟩ := rx
  obtain ⟨t', rfl⟩ := ry
  have hk : ¬ k < 1 → ((k.toNat * z.length : Nat) : Int) = (z.length : Int) * k := fun hk => by
    rw [Int.natCast_mul, Int.toNat_of_nonneg (by omega), Int.mul_comm]
  refine PySem.P.mul_str (by rw [decide_eq_false (by omega), decide_eq_false (by omega)] <;> rfl) (fun hk1 _ hgt => ?_) (fun hk1 _ => ?_) ?_
  · have e := hk hk1
    have : (z.length : Int) ≤ (2 ^ 63 - 1) / k := Int.le_ediv_of_mul_le (by omega) (by omega)
    omega
  · rw [Nat.mul_comm]
    unfold Builtin.Str.tooLong
    have e := sizeLine_eq
    simp only [decide_eq_false_iff_not]
    omega
  · have len := repS_len z k
    have e1 : k < 1 → Str.empty = repS z k := fun h => by
      unfold repS
      rw [show k.toNat = 0 by omega]
      rfl
    have e2 : (k == 1 || z.length == 0) = true → z = repS z k := fun h => by
      unfold repS
      rw [Bool.or_eq_true, beq_iff_eq, beq_iff_eq] at h
      rcases h with h | h
      · subst h
        obtain ⟨c⟩ := z
        simp
      · obtain ⟨c⟩ := z
        have : c = #[] := Array.eq_empty_of_size_eq_zero h
        subst this
        simp
    have e3 : (⟨(List.replicate k.toNat z.cps).foldl (· ++ ·) #[]⟩ : Str) = repS z k := by
      unfold repS
      congr 1
      apply Array.toList_inj.mp
      rw [foldl_app]
      simp
    have sl := sizeLine_eq
    by_cases c1 : k < 1
    · rw [if_pos c1, e1 c1]
      exact ⟨by rw [len]; omega, .str _, H, I.tok _, ⟨_, rfl⟩, q⟩
    · rw [if_neg c1]
      by_cases c2 : (k == 1 || z.length == 0) = true
      · rw [if_pos c2]
        rw [← e2 c2] at q
        exact ⟨.str _, H, I, ⟨_, rfl⟩, q⟩
      · rw [if_neg c2, e3]
        exact ⟨by rw [len]; omega, .str _, H, I.tok _, ⟨_, rfl⟩, q⟩
end KB
namespace KB
open PySem PySem.Spec PyProof.Rows L2
theorem Tp.shrink {B B' H : Hp} {t : Addr} {c : Nat} (T : Tp B' H t c) (s : Same B B') : Tp B H t c := by
  obtain ⟨sm, bt, g, gs, sd, ct, h1, h2⟩ := T
  exact ⟨s.trans sm, s.free bt, g, gs, sd, ct, s.free h1, h2⟩
theorem mrg_e {B : Hp} : mrg B (fun _ => none) = B := by
  funext p
  unfold mrg
  split
  · rename_i o e
    exact e.symm
  · rename_i e
    exact e.symm
theorem mrg_assoc {B N M : Hp} : mrg (mrg B N) M = mrg B (mrg N M) := by
  funext p
  unfold mrg
  cases B p <;> cases N p <;> rfl
theorem mrg_upd {B N : Hp} {D : Addr} {o : HO} : mrg (upd B D o) N = upd (mrg B N) D o := by
  funext p
  unfold mrg upd
  by_cases h : p = D
  · simp only [if_pos h]
  · simp only [if_neg h]
theorem mrg_move {B N : Hp} {D : Addr} {o : HO} (hB : B D = none) : mrg (upd B D o) N = mrg B (upd N D o) := by
  funext p
  unfold mrg upd
  by_cases h : p = D
  · subst h
    simp only [if_true, hB]
  · simp only [if_neg h]
theorem mrg_put {B N : Hp} {D : Addr} {o : HO} (hB : B D = none) : upd (mrg B N) D o = mrg B (upd N D o) := by rw [← mrg_upd, mrg_move hB]
/-- N's cells are new behind H -/
def New (N H : Hp) : Prop := ∀ p, N p ≠ none → H p = none
theorem New.nil {H : Hp} : New (fun _ => none) H := fun _ h => absurd rfl h
theorem New.off {N H : Hp} {p : Addr} {o : HO} (h : New N H) (e : H p = some o) : N p = none := by
  cases z : N p with
  | none => rfl
  | some o' =>
    have := h p (by rw [z]; exact fun z => by cases z)
    rw [e] at this
    cases this
theorem New.put {N H : Hp} {p : Addr} {o : HO} (h : New N H) (hp : H p = none) : New (upd N p o) H := fun q hq => by
  by_cases e : q = p
  · subst e
    exact hp
  · rw [upd_ne e] at hq
    exact h q hq
theorem New.r {B N H : Hp} (h : New N H) (s : Same B H) : Same N (mrg B N) := mrg_r fun p hp => s.free (h p hp)
/-- the tape behind a def that drew a thing: N is the thing -/
theorem Tp.e {B H : Hp} {t : Addr} {c : Nat} (T : Tp B H t c) : Tp (mrg B (fun _ => none)) H t c := by rw [mrg_e]; exact T
theorem at_some {α : Type} {xs : List α} {i : Int} (h0 : 0 ≤ i) (h1 : i < xs.length) : ∃ c, atI xs i = some c := by
  obtain ⟨j, rfl⟩ := nat_of h0
  exact ⟨_, atI_nat (List.getElem?_eq_getElem (by omega))⟩
end KB
namespace KB
open PySem PySem.Spec PyProof.Rows L2
theorem New.mrg {B N M : Hp} (h1 : New N B) (h2 : New M (mrg B N)) : New (mrg N M) B := fun p hp => by
  cases e : N p with
  | some o => exact h1 p (by rw [e]; exact fun z => by cases z)
  | none =>
    have : M p ≠ none := fun z => hp (mrg_none e z)
    have h3 := h2 p this
    unfold KB.mrg at h3
    cases eB : B p with
    | none => rfl
    | some o => rw [eB] at h3; cases h3
theorem mrg_nl {B N : Hp} {p : Addr} (h : mrg B N p = none) : B p = none := by
  unfold mrg at h
  cases e : B p with
  | none => rfl
  | some o => rw [e] at h; cases h
theorem mrg_nr {B N : Hp} {p : Addr} (h : mrg B N p = none) : N p = none := by
  have hb := mrg_nl h
  unfold mrg at h
  rw [hb] at h
  exact h
theorem dp_ints {K : PySem.W.Frag} {N : Hp} : ∀ is : List Int, DpAll K N (is.map V.int) (is.map PyData.int)
  | [] => .nil
  | i :: is => .cons (.int i) (dp_ints is)
/-- a list of things at D, drawn: ready to be handed on -/
structure Lst (K : PySem.W.Frag) (B H : Hp) (t : Addr) (c : Nat) (D : Addr) (zs : List V) (ds : List PyData) (N : Hp) : Prop where
  tp : Tp (mrg (upd B D (.lst zs)) N) H t c
  new : New N B
  bD : B D = none
  nD : N D = none
  all : DpAll K N zs ds
theorem Lst.ini {K : PySem.W.Frag} {B H : Hp} {t D : Addr} {c : Nat} (T : Tp B H t c) (hD : H D = none) : Lst K B (upd H D (.lst [])) t c D [] [] (fun _ => none) :=
  ⟨by rw [mrg_e]; exact T.new hD, New.nil, T.isn hD, rfl, .nil⟩
theorem Lst.hD {K : PySem.W.Frag} {B H : Hp} {t D : Addr} {c : Nat} {zs : List V} {ds : List PyData} {N : Hp} (L : Lst K B H t c D zs ds N) : H D = some (.lst zs) := L.tp.at (mrg_l _ _ upd_same)
/-- one thing more -/
theorem Lst.add {K : PySem.W.Frag} {B H H' : Hp} {t D : Addr} {c c' : Nat} {zs : List V} {ds : List PyData} {N M : Hp} {v : V} {d : PyData} (L : Lst K B H t c D zs ds N) (T : Tp (mrg (mrg (upd B D (.lst zs)) N) M) H' t c') (hM : New M (mrg (upd B D (.lst zs)) N)) (hv : Dp K M v d) :
    H' D = some (.lst zs) ∧ Lst K B (upd H' D (.lst (zs ++ [v]))) t c' D (zs ++ [v]) (ds ++ [d]) (mrg N M) := by
  rw [mrg_assoc] at T
  have hb : mrg (upd B D (.lst zs)) (mrg N M) D = some (.lst zs) := mrg_l _ _ upd_same
  have T2 := T.set (o' := .lst (zs ++ [v])) hb
  rw [← mrg_upd, upd_upd] at T2
  have mD : M D = none := hM.off (mrg_l _ _ upd_same)
  have dj : ∀ p, M p ≠ none → N p = none := fun p hp => mrg_nr (hM p hp)
  refine ⟨T.at hb, T2, L.new.mrg (M := M) fun p hp => ?_, L.bD, mrg_none L.nD mD, DpAll.snoc (Dp.mono (mrg_r dj) _ _ hv) (DpAll.mono mrg_l _ _ L.all)⟩
  have z := hM p hp
  have zn := mrg_nr z
  have zb := mrg_nl z
  refine mrg_none ?_ zn
  by_cases e : p = D
  · subst e
    exact L.bD
  · rw [upd_ne e] at zb
    exact zb
theorem Lst.asList {K : PySem.W.Frag} {B H : Hp} {t D : Addr} {c : Nat} {zs : List V} {ds : List PyData} {N : Hp} (L : Lst K B H t c D zs ds N) : Tp (mrg B (upd N D (.lst zs))) H t c ∧ New (upd N D (.lst zs)) B ∧ Dp K (upd N D (.lst zs)) (.ref D) (.list ds) :=
  ⟨by rw [← mrg_move L.bD]; exact L.tp, L.new.put L.bD, .lst (SqL.of upd_same) (DpAll.mono (same_upd L.nD) _ _ L.all)⟩
theorem Lst.asTup {K : PySem.W.Frag} {B H : Hp} {t D l : Addr} {c : Nat} {zs : List V} {ds : List PyData} {N : Hp} (L : Lst K B H t c D zs ds N) (hl : H l = none) : ∃ M, Tp (mrg B M) (upd H l (.tup zs)) t c ∧ New M B ∧ Dp K M (.ref l) (.tuple ds) := by
  have z := L.tp.isn hl
  have bl : upd B D (.lst zs) l = none := mrg_nl z
  have nl : N l = none := mrg_nr z
  have hne : D ≠ l := ne_of_none upd_same bl
  have bl2 : B l = none := by rw [upd_ne hne.symm] at bl; exact bl
  have T := L.tp.new (o := .tup zs) hl
  rw [mrg_put bl, mrg_move L.bD] at T
  have nD2 : upd N l (.tup zs) D = none := by rw [upd_ne hne]; exact L.nD
  exact ⟨_, T, (L.new.put bl2).put L.bD, .tup (SqT.of (same_upd nD2 _ _ upd_same)) (DpAll.mono ((same_upd nl).trans (same_upd nD2)) _ _ L.all)⟩
end KB
namespace KB
open PySem PySem.Spec PyProof.Rows L2
def isI : V → Bool
  | .int _ => true
  | _ => false
def isS (m : Nat) : V → Bool
  | .str z => decide (z.length ≤ m)
  | _ => false
theorem at_int {xs : List V} {i : Int} (h0 : 0 ≤ i) (h1 : i < xs.length) (h : xs.all isI = true) : ∃ z, atI xs i = some (.int z) := by
  obtain ⟨j, rfl⟩ := nat_of h0
  have e := List.getElem?_eq_getElem (l := xs) (i := j) (by omega)
  have m := List.all_eq_true.mp h _ (List.mem_of_getElem? e)
  cases q : xs[j]'(by omega) with
  | int z => exact ⟨z, atI_nat (by rw [e, q])⟩
  | _ => rw [q] at m; cases m
theorem at_str {m : Nat} {xs : List V} {i : Int} (h0 : 0 ≤ i) (h1 : i < xs.length) (h : xs.all (isS m) = true) : ∃ z : Str, atI xs i = some (.str z) ∧ z.length ≤ m := by
  obtain ⟨j, rfl⟩ := nat_of h0
  have e := List.getElem?_eq_getElem (l := xs) (i := j) (by omega)
  have mm := List.all_eq_true.mp h _ (List.mem_of_getElem? e)
  cases q : xs[j]'(by omega) with
  | str z => exact ⟨z, atI_nat (by rw [e, q]), by rw [q] at mm; exact of_decide_eq_true mm⟩
  | _ => rw [q] at mm; cases mm
end KB
namespace KB
open PySem PySem.Spec PyProof.Rows L2
theorem str_app_len (a b : Str) : (a ++ b).length = a.length + b.length := by
  show (a.cps ++ b.cps).size = a.cps.size + b.cps.size
  rw [Array.size_append]
end KB

/-! a number in base two: f'{n:b}' -/
namespace KB
open PySem PySem.Spec PyProof.Rows L2
def dgB (n : Nat) : List Nat := (Nat.toDigits 2 n).map fun c => c.toNat
def binS (n : Nat) : Str := ⟨(dgB n).toArray⟩
def padB (ds : List Nat) : List Nat := List.replicate (((-1 : Int) - ((([] : List Nat).length : Nat) + (([] : List Nat).length : Nat) + (([] : List Nat).length : Nat) : Int)) - ds.length).toNat 32
def dsB (n : Nat) : List Nat := if (dgB n).isEmpty then [] else List.replicate ((0 : Int).toNat - (dgB n).length) 48 ++ dgB n
theorem int_fmt (n : Nat) (t u : Tok) : Builtin.«int.__format__» ⟨[.int (n : Int) t, .str ("b" : Str) u], []⟩ = (typeNameOf (.str ("b" : Str) u) >>= fun _ => typeNameOfCut 200 (.int (n : Int) t) >>= fun _ => retStr ⟨(padB (dsB n) ++ [] ++ [] ++ List.replicate 0 32 ++ dsB n ++ [] ++ List.replicate 0 32).toArray⟩) := by
  rfl
theorem binS_eq (n : Nat) : (⟨(padB (dsB n) ++ [] ++ [] ++ List.replicate 0 32 ++ dsB n ++ [] ++ List.replicate 0 32).toArray⟩ : Str) = binS n := by
  have e1 : padB (dsB n) = [] := by
    unfold padB
    rw [show (((-1 : Int) - ((([] : List Nat).length : Nat) + (([] : List Nat).length : Nat) + (([] : List Nat).length : Nat) : Int)) - (dsB n).length).toNat = 0 by simp]
    rfl
  have e2 : dsB n = dgB n := by
    unfold dsB
    split
    · rename_i h
      exact (List.isEmpty_iff.mp h).symm
    · show List.replicate (0 - (dgB n).length) 48 ++ dgB n = dgB n
      rw [Nat.zero_sub]
      rfl
  rw [e1, e2]
  unfold binS
  simp
theorem gives_fmtB (n : Nat) (t u : Tok) : Gives (Builtin.«int.__format__» ⟨[.int (n : Int) t, .str ("b" : Str) u], []⟩) (.str (binS n)) := by
  rw [int_fmt, binS_eq]
  intro prog w A R s hq
  refine wpAny_bind (wpAny_typeNameOf (T := "str") (typeIs_str _ _ _) (by decide) fun _ => ?_)
  refine wpAny_bind (wpAny_typeNameOfCut_int ?_)
  exact (Gives.of_eq (t := retStr (binS n)) (m := .str (binS n)) rfl) prog w A R s hq
/-- {n:b}, n a number -/
def tFmtB (te : TE) : TE := fun σ H Q => te σ H fun x H1 => ∃ n : Nat, x = .int n ∧ (binS n).length ≤ sizeLine ∧ Q (.str (binS n)) H1
theorem pe_fmtB {X : Cx} {e sp : Expr} {te : TE} {pos : Pos} (he : PE X e te) (hs : PE X sp (tC (.str "b"))) : PE X (.FormattedValue e (-1) (some sp) pos) (tFmtB te) := by
  refine ⟨fun pins s σ H Q I h => ?_⟩
  refine wpAny_FormattedValue_spec (thn (he.run pins s σ H _ I h) fun v s1 ⟨x, H1, I1, r1, n, ex, hz, q⟩ => ?_)
  subst ex
  obtain ⟨t, rfl⟩ := r1
  refine thn (hs.run pins s1 σ H1 (fun y H2 => y = .str "b" ∧ Q (.str (binS n)) H2) I1 ⟨rfl, q⟩) fun r s2 ⟨y, H2, I2, r2, ey, q2⟩ => ?_
  subst ey
  obtain ⟨t2, rfl⟩ := r2
  refine ⟨_, _, rfl, ?_⟩
  exact wpAny_formatField_spec (T := "int") (by decide) (fun s' => typeIs_int s' _ _) F.slot_int_format F.entry_int_format F.args_int_format_2 (fun u => gives_fmtB n t u) ⟨.str (binS n), H2, (I2.tok _), ⟨_, rfl⟩, q2⟩ (by rw [sizeLine_eq]; decide) hz
end KB

/-! words: texts of the signs 0 and 1 -/
namespace KB
open PySem PySem.Spec PyProof.Rows L2 Builtin.Str
theorem tw_len {p : Nat → Bool} : ∀ l : List Nat, (l.takeWhile p).length ≤ l.length
  | [] => Nat.le_refl _
  | c :: r => by
    rw [List.takeWhile_cons]
    split
    · rw [List.length_cons, List.length_cons]
      exact Nat.succ_le_succ (tw_len r)
    · exact Nat.zero_le _
theorem tw_all {p : Nat → Bool} : ∀ l : List Nat, (l.takeWhile p).length = l.length ↔ l.all p = true
  | [] => by simp
  | c :: r => by
    rw [List.takeWhile_cons, List.all_cons, List.length_cons]
    cases h : p c with
    | true =>
      rw [if_pos rfl, List.length_cons, Bool.true_and, ← tw_all r]
      omega
    | false => simp
theorem tw_drop {p : Nat → Bool} : ∀ l : List Nat, l.all p = false → ∃ c r, l.drop (l.takeWhile p).length = c :: r ∧ p c = false
  | [], h => by cases h
  | c :: r, h => by
    rw [List.takeWhile_cons]
    cases hc : p c with
    | true =>
      rw [if_pos rfl, List.length_cons, List.drop_succ_cons]
      rw [List.all_cons, hc, Bool.true_and] at h
      exact tw_drop r h
    | false =>
      rw [if_neg (by simp)]
      exact ⟨c, r, rfl, hc⟩
theorem strSub_len (z : Str) (lo hi : Nat) (h : hi ≤ z.length) : (strSub z lo hi).length = hi - lo := by
  show (z.cps.extract lo hi).size = hi - lo
  rw [Array.size_extract]
  have h' : hi ≤ z.cps.size := h
  omega
theorem strip_len {p : Nat → Bool} (z : Str) : (Txt.stripBy p true true z).length = 0 ↔ z.cps.toList.all p = true := by
  have hn : z.cps.toList.length = z.length := Array.length_toList
  have hlo : stripLo p true z = (z.cps.toList.takeWhile p).length := by unfold stripLo; rw [if_pos rfl]
  have hle := tw_len (p := p) z.cps.toList
  cases ha : z.cps.toList.all p with
  | true =>
    have e := (tw_all z.cps.toList).mpr ha
    refine ⟨fun _ => rfl, fun _ => ?_⟩
    have hhi : stripHi p true z (stripLo p true z) = z.length := by
      unfold stripHi
      rw [if_pos rfl, hlo, e, List.drop_length]
      simp
    unfold Txt.stripBy stripSame stripped
    rw [hhi, hlo, e, hn]
    split
    · rename_i h
      simp at h
      exact h
    · rw [strSub_len _ _ _ (Nat.le_refl _), Nat.sub_self]
  | false =>
    refine ⟨fun h => ?_, fun h => by cases h⟩
    exfalso
    obtain ⟨c, r, hd, hc⟩ := tw_drop z.cps.toList ha
    have hk : (((z.cps.toList.drop (z.cps.toList.takeWhile p).length).reverse).takeWhile p).length < (z.cps.toList.drop (z.cps.toList.takeWhile p).length).length := by
      have h1 := tw_len (p := p) (z.cps.toList.drop (z.cps.toList.takeWhile p).length).reverse
      rw [List.length_reverse] at h1
      rcases Nat.lt_or_ge (((z.cps.toList.drop (z.cps.toList.takeWhile p).length).reverse).takeWhile p).length (z.cps.toList.drop (z.cps.toList.takeWhile p).length).length with h2 | h2
      · exact h2
      · have h3 := (tw_all (p := p) (z.cps.toList.drop (z.cps.toList.takeWhile p).length).reverse).mp (by rw [List.length_reverse]; omega)
        rw [List.all_reverse, hd, List.all_cons, hc] at h3
        cases h3
    rw [List.length_drop] at hk
    have hhi : stripHi p true z (stripLo p true z) = z.length - (((z.cps.toList.drop (z.cps.toList.takeWhile p).length).reverse).takeWhile p).length := by
      unfold stripHi
      rw [if_pos rfl, hlo]
    unfold Txt.stripBy stripSame stripped at h
    split at h
    · omega
    · rw [hhi, hlo, strSub_len _ _ _ (by omega)] at h
      omega
/-- all signs 0 or 1 -/
def isB (z : Str) : Bool := z.cps.toList.all (("01" : Str)).cps.contains
theorem strip01 (z : Str) : decide (V.str (Txt.stripChars z "01") = V.str "") = isB z := by
  have h := strip_len (p := (("01" : Str)).cps.contains) z
  rw [Bool.eq_iff_iff, decide_eq_true_iff]
  unfold isB
  rw [← h]
  constructor
  · intro e
    have e' := V.str.inj e
    show (Txt.stripChars z "01").length = 0
    rw [e'] <;> rfl
  · intro e
    have e' : (Txt.stripChars z "01").length = 0 := e
    congr 1
    generalize Txt.stripChars z "01" = y at e'
    obtain ⟨y⟩ := y
    have : y = #[] := Array.eq_empty_of_size_eq_zero e'
    subst this
    rfl
theorem isB_mem {z : Str} (h : isB z = true) {c : Nat} (hc : c ∈ z.cps.toList) : c = 48 ∨ c = 49 := by
  have := List.all_eq_true.mp h c hc
  have e : (("01" : Str)).cps = #[48, 49] := by decide
  rw [e] at this
  simpa using this
/-- is_word, of a datum -/
def isW : PyData → Bool
  | .str z => isB z
  | _ => false
def spIsWord (K : PySem.W.Frag) : Sp := fun vs H Q _ => ∃ v d, vs = [v] ∧ Dp K H v d ∧ (∀ z, d = .str z → z.length ≤ 100000) ∧ Q (.bl (isW d)) H
end KB
namespace KB
open PySem PySem.Spec PyProof.Rows L2
/-! ### enumerate(text) -/
def Ites (x : Str) : It := ⟨fun i _ => i < x.cps.size, fun i H v H' => ∃ T c, v = .ref T ∧ H T = none ∧ H' = upd H T (.tup [.int (i : Nat), .str ⟨#[c]⟩]) ∧ x.cps[i]? = some c, fun i _ => i = x.cps.size⟩
theorem turn_enumS {P : Program} {w : World} {K : PySem.W.Frag} {elts : List Expr} {kk : Nat} {tpos : Pos} (e it : Addr) (x : Str) (t : Tok) :
    Turn P w K (.Tuple elts kk tpos) (Ites x) [e, it] e (fun i h => (∃ old, IsEnum h e it ((i : Nat) : Int) old) ∧ h.IsStrIter it (strIterType x) x t i ∧ e ≠ it) where
  mem := by simp
  obj := fun i h st b hb => by
    obtain ⟨⟨old, he⟩, ⟨o, ho, hc, hd⟩, _⟩ := st
    have e' : b = e ∨ b = it := by simpa using hb
    rcases e' with z | z
    · rw [z]; exact ⟨_, he, fun v q => nomatch q⟩
    · rw [z]; exact ⟨o, ho, fun v q => by rw [hd] at q; cases q⟩
  keep := fun i h h' st k => let ⟨⟨old, he⟩, ⟨o, ho, r⟩, hne⟩ := st; ⟨⟨old, k e (by simp) _ he⟩, ⟨o, k it (by simp) o ho, r⟩, hne⟩
  item := by
    intro X hP hw hK hc i pins s σ H E I hf st hg
    subst hP hw hK
    obtain ⟨⟨old, he⟩, hit, hne⟩ := st
    have hel : e < s.heap.objs.size := Heap.lt_size he
    have hil : it < s.heap.objs.size := by obtain ⟨_, q, _⟩ := hit; exact Heap.lt_size q
    have D := Draws.text (prog := X.prog) (w := X.w) (A := X.A.in1) (show X.A.in1.handled = none from I.ok.hd hc) it x t
    refine wpAny_pyNext_enum_itemD (A := X.A) D he hit hg hne (by simpa using hne) fun v h' tk hv ho hit' hT hsz hk => ?_
    obtain ⟨c, u, hcx, rfl⟩ := hv
    refine ⟨_, rfl, wpAny_letOwnedTupleGo_enum (s := { s with heap := h', toks := tk + 1 }) ho fun h'' he' sb => ?_⟩
    have hT2 : h''.get? s.heap.objs.size = some { cls := .type "tuple", data := .seq #[.int i tk, .str ⟨#[c]⟩ u] } := (sb.2 _ (Nat.ne_of_gt hel)).trans hT
    have new : ObjOk X.prog X.w (upd H s.heap.objs.size (.tup [.int (i : Nat), .str ⟨#[c]⟩])) h'' s.heap.objs.size (.tup [.int (i : Nat), .str ⟨#[c]⟩]) :=
      ⟨by show 2 ≤ sizeLine; decide, [.int i tk, .str ⟨#[c]⟩ u], .cons ⟨_, rfl⟩ (.cons ⟨_, rfl⟩ .nil), ⟨_, hT2, rfl, _, rfl⟩⟩
    have I1 : Inv X pins σ (upd H s.heap.objs.size (.tup [.int (i : Nat), .str ⟨#[c]⟩])) { s with heap := h'', toks := tk + 1 } :=
      I.turnedNew (ch := [e, it]) (fun b ob hb q => (sb.2 b (fun z => hb (by simp [z]))).trans (hk b ob (fun z => hb (by simp [z])) (fun z => hb (by simp [z])) q)) hf (Nat.le_refl _) new
    refine ⟨.ref s.heap.objs.size, _, I1, rfl, ⟨_, c, rfl, I.hok.fresh (Nat.le_refl _), rfl, hcx⟩, ⟨⟨.str ⟨#[c]⟩ u, ?_⟩, ?_, hne⟩, fun b hb => ?_⟩
    · have e1 : ((i + 1 : Nat) : Int) = (i : Int) + 1 := by omega
      rw [e1]; exact he'
    · obtain ⟨o, ho', r⟩ := hit'
      exact ⟨o, (sb.2 it (Ne.symm hne)).trans ho', r⟩
    · have hb' : b < s.heap.objs.size := by
        have e' : b = e ∨ b = it := by simpa using hb
        rcases e' with z | z
        · rw [z]; exact hel
        · rw [z]; exact hil
      rw [upd_ne (Nat.ne_of_lt hb')]
      exact (hf b hb).1
  done := by
    intro X hP hw hK hc i pins s σ H E I hf st hg
    subst hP hw hK
    obtain ⟨⟨old, he⟩, hit, hne⟩ := st
    obtain ⟨f0, f1, f2, f3, f4, f5⟩ := hf it (by simp)
    have D := Draws.text (prog := X.prog) (w := X.w) (A := X.A.in1) (show X.A.in1.handled = none from I.ok.hd hc) it x t
    have en : i = x.cps.size := hg
    subst en
    exact wpAny_pyNext_enum_endD (A := X.A) D he hit fun h' eb => ⟨rfl, I.turned (t' := s.toks) (fun b o hb q => eb b o hb q) f0 f1 f3 f4 f5⟩
  self := fun A i s Q E st h => let ⟨⟨_, he⟩, _⟩ := st; wpAny_pyIter_enum he h
def iEnumS (ta : TA) : TI := fun σ H R => ta σ H fun vs H1 => ∃ x, vs = [.str x] ∧ R (Ites x) H1
theorem pi_enumS {X : Cx} {e : Expr} {ta : TA} {p pos tpos : Pos} {elts : List Expr} {kk : Nat} (hg : Gl X "enumerate") (hm : X.mg "enumerate" = none) (ha : PA X [e] ta) (hs : starEach [e] X.env = [(false, eval e X.env)] := by rfl) :
    PI X (.Tuple elts kk tpos) (.Call (.Name "enumerate" p) [e] [] pos) (iEnumS ta) := by
  refine ⟨fun pins s σ H R I h => ?_⟩
  refine Call_ (ld_blt I hg hm boot_enumerate (PyProof.Rows.callWith_type1 (thn (ha.run pos pins s σ H _ I h) fun us s1 ⟨vs, H1, I1, r1, q1⟩ => ?_) hs rfl))
  obtain ⟨x, ex, q⟩ := q1
  subst ex
  obtain ⟨u, rfl, t, rfl⟩ := vals1 r1
  refine call_enumerate_str fun h' he hit hsz hk => wpAny_pyIter_enum he ?_
  have I2 : Inv X pins σ H1 { s1 with heap := h' } := I1.kept (t' := s1.toks) hk
  refine ⟨s1.heap.objs.size + 1, [s1.heap.objs.size + 1, s1.heap.objs.size], _, _, H1, rfl, I2, turn_enumS (s1.heap.objs.size + 1) s1.heap.objs.size x t, ⟨⟨.none, he⟩, hit, Nat.succ_ne_self _⟩, fun b hb => ?_, q⟩
  have e' : b = s1.heap.objs.size + 1 ∨ b = s1.heap.objs.size := by simpa using hb
  have hle : s1.heap.objs.size ≤ b := by
    rcases e' with z | z
    · rw [z]; exact Nat.le_add_right _ _
    · rw [z]; exact Nat.le_refl _
  exact I1.fpOk hle (I1.hok.fresh hle)
/-- for at, sign in enumerate(text) -/
theorem for_enumS {x : Str} {g : TG} {tb : TS} {D : Ends} {σ : L2.St} {H : Hp} (Pv : Nat → L2.St → Hp → Prop) (h0 : Pv 0 σ H)
    (hs : ∀ i c σ H, x.cps[i]? = some c → Pv i σ H → ∀ T, H T = none → g (.ref T) σ (upd H T (.tup [.int (i : Nat), .str ⟨#[c]⟩])) fun σ2 H2 => tb { D with nx := Pv (i + 1), ct := Pv (i + 1), bk := D.nx } σ2 H2) (hd : ∀ σ H, Pv x.cps.size σ H → D.nx σ H) :
    ∃ W : Nat → Nat → L2.St → Hp → Prop, (∃ m, W 0 m σ H) ∧ ∀ i m σ H, W i m σ H →
      ((Ites x).stop i H ∧ D.nx σ H) ∨ ((Ites x).go i H ∧ ∃ N : L2.St → Hp → Prop, (∀ σ' H', N σ' H' → ∃ m', m' < m ∧ W (i + 1) m' σ' H') ∧ ∀ v H', (Ites x).yld i H v H' → g v σ H' fun σ2 H2 => tb { D with nx := N, ct := N, bk := D.nx } σ2 H2) := by
  refine ⟨fun i m σ H => m = x.cps.size - i ∧ i ≤ x.cps.size ∧ Pv i σ H, ⟨x.cps.size, by simp, Nat.zero_le _, h0⟩, ?_⟩
  rintro i m σ H ⟨rfl, hi, p⟩
  by_cases hlt : i < x.cps.size
  · refine .inr ⟨hlt, Pv (i + 1), fun σ' H' p' => ⟨x.cps.size - (i + 1), by omega, rfl, hlt, p'⟩, fun v H' y => ?_⟩
    obtain ⟨T, c, rfl, hT, rfl, hc⟩ := y
    exact hs i c σ H hc p T hT
  · have e : i = x.cps.size := by omega
    subst e
    exact .inl ⟨rfl, hd σ H p⟩
end KB

/-! sorted of a tuple of ints -/
namespace KB
open PySem PyProof.Rows Srt SrtO
section
variable {prog : Program} {w : World} {A : Around} {E : Value → Shared → Prop} {s : Shared}
theorem collect_tup {l : Addr} {vs : List Value} {Q : List Value → Shared → Prop} (hl : s.heap.IsTuple l vs.toArray)
    (h : Q vs { s with heap := (s.heap.push (seqObj "list" #[] 0)).update s.heap.objs.size (Obj.mapSeq (· ++ vs.toArray)) }) (hsz : vs.length ≤ sizeLine := by size_fits) :
    wpAny (model prog w) A (collect (.ref l)) Q E s := by
  obtain ⟨o, ho, hc, n, hd⟩ := id hl
  unfold collect
  refine wpAny_bind (wpAny_runValue (codeAny_builtin entry_proto_collect' ?_))
  show wpAny _ _ (do again (.builtin "list.__iadd__" ⟨[← newList [], .ref l], []⟩)) _ _ s
  refine wpAny_bind (wpAny_newList (wpAny_pure ⟨Code.quiet_builtin _ (by decide +kernel), codeAny_builtin entry_list_iadd' ?_⟩))
  show wpAny _ _ (Builtin.List.listExtendWith (.ref s.heap.objs.size) (.ref l) (.ref s.heap.objs.size)) _ _ { s with heap := s.heap.push (seqObj "list" #[] 0) }
  unfold Builtin.List.listExtendWith
  have ho' : (s.heap.push (seqObj "list" #[] 0)).get? l = some o := Heap.get?_push_of_some _ ho
  refine wpAny_bind (wpAny_typeOf (T := "tuple") ⟨o, ho', hc⟩ ?_)
  have ht : (Value.type "tuple" == Value.type "tuple") = true := by rfl
  rw [if_pos (by rw [ht]; simp)]
  refine wpAny_bind (listItems_at ho' hd ?_)
  refine wpAny_bind (listItems_at (xs := #[]) (n := 0) (Heap.get?_push_size _ rfl) rfl ?_)
  rw [if_neg (by simp)]
  refine wpAny_bind (listUpdate_at (xs := #[]) (n := 0) (Heap.get?_push_size _ rfl) rfl ?_ (Nat.zero_le _) (by show (#[] ++ vs.toArray).size ≤ sizeLine + 1; simp only [Array.size_append, List.size_toArray, List.length_nil]; omega))
  refine wpAny_pure ?_
  show wpAny (model prog w) A (do
      let o ← load s.heap.objs.size
      match o.data with
      | .seq xs _ => pure xs.toList
      | _ => unsupported "internal:collect") Q E { s with heap := (s.heap.push (seqObj "list" #[] 0)).update s.heap.objs.size (Obj.mapSeq (· ++ vs.toArray)) }
  refine wpAny_bind (wpAny_load (get?_update_seq (Heap.get?_push_size _ rfl) _) ?_)
  show wpAny _ _ (pure ((#[] : Array Value) ++ vs.toArray).toList) Q E _
  rw [show ((#[] : Array Value) ++ vs.toArray).toList = vs by simp]
  exact wpAny_pure h
theorem sorted_ordT {l : Addr} {vs : List Value} {ltv : Value → Value → Bool} {Q : Value → Shared → Prop} (O : Swo ltv) (hl : s.heap.IsTuple l vs.toArray) (hz : vs.length ≤ sizeLine)
    (hS : 2 ≤ vs.length → ∀ (h₁ : Heap) (a : Addr), h₁.get? a = some (seqObj "list" vs.toArray 0) → (∀ b o, s.heap.get? b = some o → b ≠ a ∧ h₁.get? b = some o) → SortableO prog w A.in1.in1 { s with heap := h₁ } a vs ltv)
    (h : ∀ out : List Value, Srtd ltv out → Stb ltv out vs → Q (.ref (s.heap.objs.size + 1)) { s with heap := sortedAll s.heap vs out.toArray }) :
    wpAny (model prog w) A (call (.builtin "sorted") [.ref l]) Q E s := by
  refine Calls.call_function_entry kind_sorted plain_sorted entry_sorted (args_sorted1 _) ?_
  unfold Builtin.«sorted»
  refine wpAny_bind (m := checkCount "sorted" 1 1 _) (wpAny_pure ?_)
  refine wpAny_bind (collect_tup hl ?_ hz)
  refine wpAny_bind (wpAny_newList ?_ hz)
  have hsz : ((s.heap.push (seqObj "list" #[] 0)).update s.heap.objs.size (Obj.mapSeq (· ++ vs.toArray))).objs.size = s.heap.objs.size + 1 := by
    rw [Heap.size_update, size_push']
  have hoL : (((s.heap.push (seqObj "list" #[] 0)).update s.heap.objs.size (Obj.mapSeq (· ++ vs.toArray))).push (seqObj "list" vs.toArray 0)).get? (s.heap.objs.size + 1) = some (seqObj "list" vs.toArray 0) := by
    rw [← hsz]; exact Heap.get?_push_size _ rfl
  have keep : ∀ b o, s.heap.get? b = some o → b ≠ s.heap.objs.size + 1 ∧ (((s.heap.push (seqObj "list" #[] 0)).update s.heap.objs.size (Obj.mapSeq (· ++ vs.toArray))).push (seqObj "list" vs.toArray 0)).get? b = some o := fun b o q => by
    have hlt : b < s.heap.objs.size := Heap.lt_size q
    refine ⟨Nat.ne_of_lt (Nat.lt_succ_of_lt hlt), Heap.get?_push_of_some _ ?_⟩
    rw [Heap.get?_update_ne _ _ _ _ (Nat.ne_of_lt hlt)]
    exact Heap.get?_push_of_some _ q
  show wpAny _ _ _ _ _ { s with heap := ((s.heap.push (seqObj "list" #[] 0)).update s.heap.objs.size (Obj.mapSeq (· ++ vs.toArray))).push (seqObj "list" vs.toArray 0) }
  rw [hsz]
  refine wpAny_bind (wpAny_holding (wpAny_call_entry slot_list_sort ⟨_, hoL, rfl⟩ entry_list_sort (list_sort_ord O hoL hz (fun h2 => hS h2 _ _ hoL keep) fun out hs hb => ⟨_, rfl, ?_⟩) (args_list_sort _)))
  exact wpAny_pure ⟨_, rfl, h out hs hb⟩
end
end KB
namespace KB
open PySem PySem.Spec PyProof.Rows L2
/-- sorted(xs), a list or a tuple of ints -/
def rSortedLT (K : PySem.W.Frag) : List V → Hp → VK → Prop := fun vs H Q => ∃ (a : Addr) (ns : List Int), vs = [V.ref a] ∧ (SqL K H a (ns.map V.int) ∨ SqT K H a (ns.map V.int)) ∧
  ∀ (ns' : List Int) (p : Addr), ns'.Perm ns → ns'.Pairwise (· ≤ ·) → H p = none → Q (.ref p) (upd H p (.lst (ns'.map V.int)))
theorem cr_sortedLT {X : Cx} : CallR X (.builtin "sorted") (rSortedLT X.K) := by
  intro pins s σ H vs us Q I r h
  obtain ⟨a, ns, rfl, hs, q⟩ := h
  rcases hs with hs | hs
  · exact cr_sortedI pins s σ H _ us Q I r ⟨a, ns, rfl, hs, q⟩
  · obtain ⟨its, rv, hl, hz⟩ := I.tuple hs
    rw [Vals.ref1 r]
    have hi := rv.ints
    refine sorted_ordT SrtO.swo_int (show s.heap.IsTuple a its.toArray from hl) (by rw [← rv.length]; exact hz) (fun h2 h₁ a' _ _ => SrtO.ints_sortable hi h2) fun out h1 h2 => ?_
    obtain ⟨k1, k2, k3⟩ := SrtO.ints_out hi h1 h2
    obtain ⟨ep, he'⟩ := PyProof.Rows.sortedAll_at s.heap its out.toArray
    have hlen : ((out.map SrtO.iv).map V.int).length ≤ sizeLine := by
      rw [List.length_map, k2.length_eq]
      rw [List.length_map] at hz
      exact hz
    exact ⟨.ref _, upd H (s.heap.objs.size + 1) (.lst ((out.map SrtO.iv).map V.int)), I.laid (t' := s.toks) (fun _ _ => PyProof.Rows.sortedAll_old) (Nat.le_succ _) ⟨hlen, out, ep, vals_of_ints k1, he'⟩, rfl, q _ _ k2 k3 (I.hok.fresh (Nat.le_succ _))⟩
end KB
/-! ### enumerate of a tuple -/
namespace KB
open PySem PyProof.Rows
open AutoSeq1 (wpAny_loadPart')
theorem new_enumT (l : Addr) (items : Array Value) (n : Nat) (dct : Option Addr) (sl : Array (Option Value)) :
    Meets (Builtin.«enumerate.__new__» ⟨[.type "enumerate", .ref l], []⟩) (fun _ R s => s.heap.get? l = some { cls := .type "tuple", dict := dct, data := .seq items n, slots := sl } ∧
      R (.ok (.ret (.ref (s.heap.push { cls := .type "tuple_iterator", data := .fields #[.ref l, .int 0 0] }).objs.size)))
        { s with heap := (s.heap.push { cls := .type "tuple_iterator", data := .fields #[.ref l, .int 0 0] }).push { cls := .type "enumerate", data := .fields #[.none, .bool false, .ref s.heap.objs.size, rawInt 0, .none, .none] } }) :=
  .of_wp fun prog w A R s h => by
    obtain ⟨hp, g, d, tk, os⟩ := s
    obtain ⟨hl, h⟩ := h
    have hsub := sub_enumerate
    have hT : Heap.IsTuple (Shared.heap ⟨hp, g, d, tk, os⟩) l items := ⟨_, hl, rfl, n, rfl⟩
    wp_walk using wpAny_loadPart' hl
    refine wpAny_stack_any fun st => wpAny_pure ?_
    split
    · rename_i c _ _ _ _ _
      cases (c == Value.type "enumerate") <;> (wp_walk using wpAny_loadPart' hl, wpAny_pyIter_tuple hT; exact ⟨_, rfl, h⟩)
    · wp_walk using wpAny_loadPart' hl, wpAny_pyIter_tuple hT
      exact ⟨_, rfl, h⟩
section
variable {prog : Program} {w : World} {A : Around} {E : Value → Shared → Prop} {s : Shared}
theorem call_enumT {l : Addr} {items : Array Value} {Q : Value → Shared → Prop} (hL : s.heap.IsTuple l items)
    (h : ∀ h', IsEnum h' (s.heap.objs.size + 1) s.heap.objs.size 0 .none → h'.IsTupleIter s.heap.objs.size l 0 → (∀ b o, s.heap.get? b = some o → h'.get? b = some o) → Q (.ref (s.heap.objs.size + 1)) { s with heap := h' }) :
    wpAny (model prog w) A (call (.type "enumerate") [.ref l]) Q E s := by
  obtain ⟨⟨c, dct, dt, sl⟩, hl, hc, n, hd⟩ := hL
  replace hc : c = .type "tuple" := hc
  replace hd : dt = .seq items n := hd
  subst hc hd
  refine callType_new F.called_enumerate (by decide) (F.typeCall_enumerate_1 _) (F.newCall_enumerate_1 _) (fun obj => F.args_object_init_2 obj _) F.entry_enumerate_new (new_enumT l items n dct sl) ⟨hl, ?_⟩
  have hz : (s.heap.push { cls := .type "tuple_iterator", data := .fields #[.ref l, .int 0 0] }).objs.size = s.heap.objs.size + 1 := Heap.size_push ..
  have he := Heap.get?_push_size (s.heap.push { cls := .type "tuple_iterator", data := .fields #[.ref l, .int 0 0] }) (o := { cls := .type "enumerate", data := .fields #[.none, .bool false, .ref s.heap.objs.size, rawInt 0, .none, .none] }) rfl
  show _ ∧ _
  rw [hz] at he ⊢
  exact ⟨⟨_, he, rfl⟩, h _ he ⟨_, Heap.get?_push_of_some _ (Heap.get?_push_size _ rfl), rfl, rfl⟩ fun b o x => Heap.get?_push_of_some _ (Heap.get?_push_of_some _ x)⟩
end
end KB
namespace KB
open PySem PySem.Spec PyProof.Rows L2
/-- the tuple at a, its items in new pairs -/
def Itet (K : PySem.W.Frag) (a : Addr) : It :=
  ⟨fun i H => ∃ (xs : List V) (x : V), SqT K H a xs ∧ xs[i]? = some x, fun i H v H' => ∃ T x, v = .ref T ∧ H T = none ∧ H' = upd H T (.tup [.int (i : Nat), x]) ∧ ∀ xs, SqT K H a xs → xs[i]? = some x, fun i H => ∃ xs : List V, SqT K H a xs ∧ xs.length = i⟩
theorem turn_enumT {P : Program} {w : World} {K : PySem.W.Frag} {elts : List Expr} {kk : Nat} {tpos : Pos} (a e it : Addr) :
    Turn P w K (.Tuple elts kk tpos) (Itet K a) [e, it] e (fun i h => (∃ old, IsEnum h e it ((i : Nat) : Int) old) ∧ h.IsTupleIter it a i ∧ e ≠ it ∧ a < it ∧ a < e) where
  mem := by simp
  obj := fun i h st b hb => by
    obtain ⟨⟨old, he⟩, ⟨o, ho, hc, hd⟩, _⟩ := st
    rcases (by simpa using hb : b = e ∨ b = it) with rfl | rfl
    · exact ⟨_, he, fun v q => nomatch q⟩
    · exact ⟨o, ho, fun v q => by rw [hd] at q; cases q⟩
  keep := fun i h h' st k => let ⟨⟨old, he⟩, hi, hne⟩ := st; ⟨⟨old, k e (by simp) _ he⟩, hi.at fun o q => k it (by simp) o q, hne⟩
  item := by
    intro X hP hw hK hc i pins s σ H E I hf st hg
    subst hP hw hK
    obtain ⟨⟨old, he⟩, hit, hne, hai, hae⟩ := st
    obtain ⟨xs, x, hq, hx⟩ := hg
    obtain ⟨its, rv, p, hz⟩ := I.tuple hq
    obtain ⟨u, hu, ru⟩ := rv.get hx
    have hel : e < s.heap.objs.size := Heap.lt_size he
    have hil : it < s.heap.objs.size := by obtain ⟨_, q, _⟩ := hit; exact Heap.lt_size q
    have D := PySem.Draws.tuple (prog := X.prog) (w := X.w) (A := X.A.in1) (show X.A.in1.handled = none from I.ok.hd hc) it a (Nat.ne_of_lt hai) its.toArray
    have hi' : i < its.toArray.size := by simpa using (List.getElem?_eq_some_iff.mp hu).1
    refine wpAny_pyNext_enum_itemD (A := X.A) D he ⟨hit, p⟩ hi' hne (by simp [hne]; exact Nat.ne_of_gt hae) fun v h' tk hv ho hit' hT hsz hk => ?_
    have ev : v = u := by
      have : its[i]? = some v := by simpa using hv
      rw [hu] at this
      exact (Option.some.inj this).symm
    subst ev
    refine ⟨_, rfl, wpAny_letOwnedTupleGo_enum (s := { s with heap := h', toks := tk + 1 }) ho fun h'' he' sb => ?_⟩
    have hT2 := (sb.2 _ (Nat.ne_of_gt hel)).trans hT
    have new : ObjOk X.prog X.w (upd H s.heap.objs.size (.tup [.int (i : Nat), x])) h'' s.heap.objs.size (.tup [.int (i : Nat), x]) :=
      ⟨by show 2 ≤ sizeLine; decide, [.int i tk, v], .cons ⟨_, rfl⟩ (.cons ru .nil), ⟨_, hT2, rfl, _, rfl⟩⟩
    have I1 : Inv X pins σ (upd H s.heap.objs.size (.tup [.int (i : Nat), x])) { s with heap := h'', toks := tk + 1 } :=
      I.turnedNew (ch := [e, it]) (fun b ob hb q => (sb.2 b (fun z => hb (by simp [z]))).trans (hk b ob (fun z => hb (by simp [z])) (fun z => hb (by simp [z])) q)) hf (Nat.le_refl _) new
    refine ⟨.ref s.heap.objs.size, _, I1, rfl, ⟨_, x, rfl, I.hok.fresh (Nat.le_refl _), rfl, fun ys hy => ?_⟩, ⟨⟨v, ?_⟩, hit'.1.at fun o q => (sb.2 it (Ne.symm hne)).trans q, hne, hai, hae⟩, fun b hb => ?_⟩
    · obtain ⟨its2, rv2, p2, _⟩ := I.tuple hy
      obtain ⟨o1, g1, _, n1, d1⟩ := p
      obtain ⟨o2, g2, _, n2, d2⟩ := p2
      rw [g1] at g2
      cases Option.some.inj g2
      rw [d1] at d2
      have ei : its = its2 := by injection d2 with z _; simpa using congrArg Array.toList z
      subst ei
      rw [Vals.inj rv2 rv]
      exact hx
    · rw [show ((i + 1 : Nat) : Int) = (i : Int) + 1 by omega]
      exact he'
    · have hb' : b < s.heap.objs.size := by
        rcases (by simpa using hb : b = e ∨ b = it) with rfl | rfl
        · exact hel
        · exact hil
      rw [upd_ne (Nat.ne_of_lt hb')]
      exact (hf b hb).1
  done := by
    intro X hP hw hK hc i pins s σ H E I hf st hg
    subst hP hw hK
    obtain ⟨⟨old, he⟩, hit, hne, hai, hae⟩ := st
    obtain ⟨xs, hq, hx⟩ := hg
    obtain ⟨its, rv, p, hz⟩ := I.tuple hq
    obtain ⟨f0, f1, f2, f3, f4, f5⟩ := hf it (by simp)
    have D := PySem.Draws.tuple (prog := X.prog) (w := X.w) (A := X.A.in1) (show X.A.in1.handled = none from I.ok.hd hc) it a (Nat.ne_of_lt hai) its.toArray
    have en : i = its.toArray.size := by rw [List.size_toArray, ← rv.length]; exact hx.symm
    subst en
    exact wpAny_pyNext_enum_endD (A := X.A) D he ⟨hit, p⟩ fun h' eb => ⟨rfl, I.turned (t' := s.toks) (fun b o hb q => eb b o hb q) f0 f1 f3 f4 f5⟩
  self := fun A i s Q E st h => let ⟨⟨_, he⟩, _⟩ := st; wpAny_pyIter_enum he h
/-- enumerate(x), a list or a tuple -/
def iEnumA (K : PySem.W.Frag) (ta : TA) : TI := fun σ H R => ta σ H fun vs H1 => ∃ a xs, vs = [.ref a] ∧ ((SqL K H1 a xs ∧ R (Ite K a) H1) ∨ (SqT K H1 a xs ∧ R (Itet K a) H1))
theorem pi_enumA {X : Cx} {e : Expr} {ta : TA} {p pos tpos : Pos} {elts : List Expr} {kk : Nat} (hg : Gl X "enumerate") (hm : X.mg "enumerate" = none) (ha : PA X [e] ta) (hs : starEach [e] X.env = [(false, eval e X.env)] := by rfl) :
    PI X (.Tuple elts kk tpos) (.Call (.Name "enumerate" p) [e] [] pos) (iEnumA X.K ta) := by
  refine ⟨fun pins s σ H R I h => ?_⟩
  refine Call_ (ld_blt I hg hm boot_enumerate (PyProof.Rows.callWith_type1 (thn (ha.run pos pins s σ H _ I h) fun us s1 ⟨vs, H1, I1, r1, q1⟩ => ?_) hs rfl))
  obtain ⟨a, xs, ex, q⟩ := q1
  subst ex
  have fr : ∀ b, b ∈ [s1.heap.objs.size + 1, s1.heap.objs.size] → FpOk X pins H1 b := fun b hb => by
    have hle : s1.heap.objs.size ≤ b := by
      rcases (by simpa using hb : b = s1.heap.objs.size + 1 ∨ b = s1.heap.objs.size) with z | z
      · rw [z]; exact Nat.le_add_right _ _
      · rw [z]; exact Nat.le_refl _
    exact I1.fpOk hle (I1.hok.fresh hle)
  cases r1 with
  | cons r rr =>
    cases rr
    cases r
    rcases q with ⟨hq, q⟩ | ⟨hq, q⟩
    · obtain ⟨its, rv, p', hz⟩ := I1.list hq
      refine call_enumerate_list p'.isList fun h' he hit hsz hk => wpAny_pyIter_enum he ?_
      have I2 : Inv X pins σ H1 { s1 with heap := h' } := I1.kept (t' := s1.toks) hk
      exact ⟨s1.heap.objs.size + 1, [s1.heap.objs.size + 1, s1.heap.objs.size], _, _, H1, rfl, I2, turn_enum a (s1.heap.objs.size + 1) s1.heap.objs.size, ⟨⟨.none, he⟩, hit, Nat.succ_ne_self _⟩, fr, q⟩
    · obtain ⟨its, rv, p', hz⟩ := I1.tuple hq
      have al : a < s1.heap.objs.size := by obtain ⟨o, g, _⟩ := id p'; exact Heap.lt_size g
      refine call_enumT p' fun h' he hit hk => wpAny_pyIter_enum he ?_
      have I2 : Inv X pins σ H1 { s1 with heap := h' } := I1.kept (t' := s1.toks) hk
      exact ⟨s1.heap.objs.size + 1, [s1.heap.objs.size + 1, s1.heap.objs.size], _, _, H1, rfl, I2, turn_enumT a (s1.heap.objs.size + 1) s1.heap.objs.size, ⟨⟨.none, he⟩, hit, Nat.succ_ne_self _, al, Nat.lt_succ_of_lt al⟩, fr, q⟩
theorem lc_enumL {K : PySem.W.Frag} {a : Addr} {xs : List V} {g : TG} {tt : TT} {te : TE} {vs : List Nat} {σ : L2.St} {H1 : Hp} {D : Addr} {Qd : Hp → Prop} (Pv : Nat → Hp → Prop) (h0 : Pv 0 (upd H1 D (.lst []))) (hl : ∀ i H, i ≤ xs.length → Pv i H → SqL K H a xs)
    (hs : ∀ i x H, xs[i]? = some x → Pv i H → ∀ T, H T = none → g (.ref T) (wipe σ vs) (upd H T (.tup [.int (i : Nat), x])) fun σ2 H2 => wipe σ2 vs = wipe σ vs ∧ tt σ2 H2 fun b H3 =>
      if b = true then te σ2 H3 fun y H4 => ∃ acc, H4 D = some (.lst acc) ∧ acc.length < sizeLine ∧ Pv (i + 1) (upd H4 D (.lst (acc ++ [y]))) else Pv (i + 1) H3) (hd : ∀ H, Pv xs.length H → Qd H) :
    ∃ W : Nat → Nat → Hp → Prop, (∃ m, W 0 m (upd H1 D (.lst []))) ∧ ∀ i m H, W i m H →
      ((Ite K a).stop i H ∧ Qd H) ∨ ((Ite K a).go i H ∧ ∃ Nx : Hp → Prop, (∀ H', Nx H' → ∃ m', m' < m ∧ W (i + 1) m' H') ∧ ∀ x H', (Ite K a).yld i H x H' → g x (wipe σ vs) H' fun σ2 H2 => wipe σ2 vs = wipe σ vs ∧ tt σ2 H2 fun b H3 =>
        if b = true then te σ2 H3 fun y H4 => ∃ acc, H4 D = some (.lst acc) ∧ acc.length < sizeLine ∧ Nx (upd H4 D (.lst (acc ++ [y]))) else Nx H3) := by
  refine ⟨fun i m H => m = xs.length - i ∧ i ≤ xs.length ∧ Pv i H, ⟨xs.length, by simp, Nat.zero_le _, h0⟩, ?_⟩
  rintro i m H ⟨rfl, hi, p⟩
  have q := hl i H hi p
  by_cases hlt : i < xs.length
  · refine .inr ⟨⟨xs, xs[i], q, by simp [hlt]⟩, Pv (i + 1), fun H' p' => ⟨xs.length - (i + 1), by omega, rfl, hlt, p'⟩, fun v H' y => ?_⟩
    obtain ⟨T, x, rfl, hT, rfl, y⟩ := y
    exact hs i x H (y xs q) p T hT
  · have e : i = xs.length := by omega
    subst e
    exact .inl ⟨⟨xs, q, Nat.le_refl _⟩, hd H p⟩
theorem lc_enumT {K : PySem.W.Frag} {a : Addr} {xs : List V} {g : TG} {tt : TT} {te : TE} {vs : List Nat} {σ : L2.St} {H1 : Hp} {D : Addr} {Qd : Hp → Prop} (Pv : Nat → Hp → Prop) (h0 : Pv 0 (upd H1 D (.lst []))) (hl : ∀ i H, i ≤ xs.length → Pv i H → SqT K H a xs)
    (hs : ∀ i x H, xs[i]? = some x → Pv i H → ∀ T, H T = none → g (.ref T) (wipe σ vs) (upd H T (.tup [.int (i : Nat), x])) fun σ2 H2 => wipe σ2 vs = wipe σ vs ∧ tt σ2 H2 fun b H3 =>
      if b = true then te σ2 H3 fun y H4 => ∃ acc, H4 D = some (.lst acc) ∧ acc.length < sizeLine ∧ Pv (i + 1) (upd H4 D (.lst (acc ++ [y]))) else Pv (i + 1) H3) (hd : ∀ H, Pv xs.length H → Qd H) :
    ∃ W : Nat → Nat → Hp → Prop, (∃ m, W 0 m (upd H1 D (.lst []))) ∧ ∀ i m H, W i m H →
      ((Itet K a).stop i H ∧ Qd H) ∨ ((Itet K a).go i H ∧ ∃ Nx : Hp → Prop, (∀ H', Nx H' → ∃ m', m' < m ∧ W (i + 1) m' H') ∧ ∀ x H', (Itet K a).yld i H x H' → g x (wipe σ vs) H' fun σ2 H2 => wipe σ2 vs = wipe σ vs ∧ tt σ2 H2 fun b H3 =>
        if b = true then te σ2 H3 fun y H4 => ∃ acc, H4 D = some (.lst acc) ∧ acc.length < sizeLine ∧ Nx (upd H4 D (.lst (acc ++ [y]))) else Nx H3) := by
  refine ⟨fun i m H => m = xs.length - i ∧ i ≤ xs.length ∧ Pv i H, ⟨xs.length, by simp, Nat.zero_le _, h0⟩, ?_⟩
  rintro i m H ⟨rfl, hi, p⟩
  have q := hl i H hi p
  by_cases hlt : i < xs.length
  · refine .inr ⟨⟨xs, xs[i], q, by simp [hlt]⟩, Pv (i + 1), fun H' p' => ⟨xs.length - (i + 1), by omega, rfl, hlt, p'⟩, fun v H' y => ?_⟩
    obtain ⟨T, x, rfl, hT, rfl, y⟩ := y
    exact hs i x H (y xs q) p T hT
  · have e : i = xs.length := by omega
    subst e
    exact .inl ⟨⟨xs, q, rfl⟩, hd H p⟩
end KB
namespace KB
open PySem PySem.Spec PyProof.Rows L2
section
variable {X : Cx} {tg l : Expr} {tl : TE}
/-- for x in e, e a list or a tuple -/
def iSeqA (K : PySem.W.Frag) (tl : TE) : TI := fun σ H R => tl σ H fun x H1 => ∃ a xs, x = .ref a ∧ ((SqL K H1 a xs ∧ R (Itl K a) H1) ∨ (SqT K H1 a xs ∧ R (Itt K a) H1))
theorem pi_seqA (hl : PE X l tl) : PI X tg l (iSeqA X.K tl) := by
  refine ⟨fun pins s σ H R I h => thn (hl.run pins s σ H _ I h) fun v s1 ⟨x, H1, I1, r1, a, xs, ex, q⟩ => ?_⟩
  subst ex
  cases r1
  have fr : ∀ b, b ∈ [s1.heap.objs.size] → FpOk X pins H1 b := fun b hb => by
    rw [List.mem_singleton.mp hb]
    exact I1.fpOk (Nat.le_refl _) (I1.hok.fresh (Nat.le_refl _))
  have kp : ∀ (o : Obj), Inv X pins σ H1 { s1 with heap := s1.heap.push o } := fun o => I1.kept (t' := s1.toks) fun b o' e => Heap.get?_push_of_some _ e
  rcases q with ⟨hq, q⟩ | ⟨hq, q⟩
  · obtain ⟨its, rv, p, hz⟩ := I1.list hq
    exact wpAny_pyIter_list p.isList ⟨_, [s1.heap.objs.size], _, _, H1, rfl, kp _, turn_list a _, ⟨_, Heap.get?_push_size _ rfl, rfl, rfl⟩, fr, q⟩
  · obtain ⟨its, rv, p, hz⟩ := I1.tuple hq
    exact wpAny_pyIter_tuple (show s1.heap.IsTuple a its.toArray from p) ⟨_, [s1.heap.objs.size], _, _, H1, rfl, kp _, turn_tuple a _, ⟨_, Heap.get?_push_size _ rfl, rfl, rfl⟩, fr, q⟩
end
/-! ### kinds of things -/
def isIntD : PyData → Bool
  | .int _ => true
  | _ => false
def isNumD : PyData → Bool
  | .int z => decide (0 ≤ z)
  | _ => false
def isSeqD : PyData → Bool
  | .list _ => true
  | .tuple _ => true
  | _ => false
def spKind (K : PySem.W.Frag) (p : PyData → Bool) : Sp := fun vs H Q _ => ∃ v d, vs = [v] ∧ Dp K H v d ∧ Q (.bl (p d)) H
def spSeq (K : PySem.W.Frag) : Sp := fun vs H Q _ => ∃ v d, vs = [v] ∧ Dp K H v d ∧ ∀ H', Same H H' → Q (.bl (isSeqD d)) H'
end KB
namespace KB
open PySem PySem.Spec PyProof.Rows L2
/-- a sequence of numbers -/
def rowD : PyData → Bool
  | .list ds => ds.all isNumD
  | .tuple ds => ds.all isNumD
  | _ => false
def spRow (K : PySem.W.Frag) : Sp := fun vs H Q _ => ∃ v d n, vs = [v] ∧ Dp K H v d ∧ okD n d = true ∧ ∀ H', Same H H' → Q (.bl (rowD d)) H'
end KB
namespace KB
open PySem PySem.Spec PyProof.Rows L2
/-- the sum of 2 ** (40 - n) -/
def kr : List Nat → Nat
  | [] => 0
  | n :: r => 2 ^ (40 - n) + kr r
theorem kr_app : ∀ a b : List Nat, kr (a ++ b) = kr a + kr b
  | [], b => by simp [kr]
  | n :: a, b => by
    show 2 ^ (40 - n) + kr (a ++ b) = 2 ^ (40 - n) + kr a + kr b
    rw [kr_app a b, Nat.add_assoc]
theorem kr_take {ls : List Nat} {i l : Nat} (h : ls[i]? = some l) : kr (ls.take (i + 1)) = kr (ls.take i) + 2 ^ (40 - l) := by
  rw [List.take_succ, h, kr_app]
  rfl
theorem kr_more {ls : List Nat} {i l : Nat} (h : ls[i]? = some l) : kr (ls.take i) < kr ls := by
  have e : ls = ls.take (i + 1) ++ ls.drop (i + 1) := (List.take_append_drop _ _).symm
  have h1 := kr_take h
  have h2 : kr ls = kr (ls.take (i + 1)) + kr (ls.drop (i + 1)) := by rw [← kr_app, ← e]
  have : 0 < 2 ^ (40 - l) := Nat.pow_pos (by decide)
  omega
def nI (n : Nat) : V := .int (n : Int)
/-- whether there is room: free of the words of length depth are left -/
structure Rm (ls : List Nat) (i free depth : Nat) : Prop where
  eq : free * 2 ^ (40 - depth) + kr (ls.take i) = 2 ^ 40
  d40 : depth ≤ 40
  at_ : (i = 0 ∧ depth = 0) ∨ ∃ k, i = k + 1 ∧ ls[k]? = some depth
theorem Rm.ini (ls : List Nat) : Rm ls 0 1 0 := ⟨by simp [kr], by omega, .inl ⟨rfl, rfl⟩⟩
theorem Rm.le {ls : List Nat} {i free depth l : Nat} (R : Rm ls i free depth) (hs : ls.Pairwise (· ≤ ·)) (h : ls[i]? = some l) : depth ≤ l := by
  rcases R.at_ with ⟨_, e⟩ | ⟨k, rfl, hk⟩
  · omega
  · obtain ⟨h1, e1⟩ := List.getElem?_eq_some_iff.mp hk
    obtain ⟨h2, e2⟩ := List.getElem?_eq_some_iff.mp h
    have := List.pairwise_iff_getElem.mp hs k (k + 1) h1 h2 (Nat.lt_succ_self _)
    rw [e1, e2] at this
    exact this
theorem Rm.small {ls : List Nat} {i free depth : Nat} (R : Rm ls i free depth) : free ≤ 2 ^ 40 := by
  have : 1 ≤ 2 ^ (40 - depth) := Nat.pow_pos (by decide)
  have h := R.eq
  have := Nat.mul_le_mul_left free this
  omega
theorem Rm.nxt {ls : List Nat} {i free depth l : Nat} (R : Rm ls i free depth) (hs : ls.Pairwise (· ≤ ·)) (h : ls[i]? = some l) (h40 : l ≤ 40) (hf : free ≠ 0) : 1 ≤ free * 2 ^ (l - depth) ∧ Rm ls (i + 1) (free * 2 ^ (l - depth) - 1) l := by
  have hd := R.le hs h
  have p : 1 ≤ 2 ^ (l - depth) := Nat.pow_pos (by decide)
  have f1 : 1 ≤ free * 2 ^ (l - depth) := Nat.mul_pos (by omega) p
  refine ⟨f1, ?_, h40, .inr ⟨i, rfl, h⟩⟩
  have e : free * 2 ^ (40 - depth) = free * 2 ^ (l - depth) * 2 ^ (40 - l) := by
    rw [Nat.mul_assoc, ← Nat.pow_add]
    congr 2
    omega
  have q := R.eq
  rw [e] at q
  rw [kr_take h, Nat.sub_mul, Nat.one_mul]
  have : 2 ^ (40 - l) ≤ free * 2 ^ (l - depth) * 2 ^ (40 - l) := by
    have := Nat.mul_le_mul_right (2 ^ (40 - l)) f1
    omega
  omega
def spRoom (K : PySem.W.Frag) : Sp := fun vs H Q _ => ∃ (a : Addr) (ls : List Nat), vs = [.ref a] ∧ SqL K H a (ls.map nI) ∧ ls.Pairwise (· ≤ ·) ∧ (∀ n ∈ ls, n ≤ 40) ∧ Q (.bl (decide (kr ls ≤ 2 ^ 40))) H
end KB

/-! the bits of a number in a width -/
namespace KB
open PySem PySem.Spec PyProof.Rows L2
/-- l bits of v, the highest first -/
def bitsL : Nat → Nat → List Nat
  | 0, _ => []
  | l + 1, v => bitsL l (v / 2) ++ [48 + v % 2]
theorem bitsL_len : ∀ l v, (bitsL l v).length = l
  | 0, _ => rfl
  | l + 1, v => by
    show (bitsL l (v / 2) ++ [48 + v % 2]).length = l + 1
    rw [List.length_append, bitsL_len l]
    rfl
theorem bitsL_get : ∀ (l v k : Nat), k < l → (bitsL l v)[k]? = some (48 + v / 2 ^ (l - 1 - k) % 2)
  | 0, _, _, h => absurd h (Nat.not_lt_zero _)
  | l + 1, v, k, h => by
    show (bitsL l (v / 2) ++ [48 + v % 2])[k]? = _
    have hl := bitsL_len l (v / 2)
    by_cases e : k < l
    · rw [List.getElem?_append_left (by omega), bitsL_get l (v / 2) k e, Nat.div_div_eq_div_mul, ← Nat.pow_succ']
      rw [show (l - 1 - k).succ = l + 1 - 1 - k by omega]
    · have : k = l := by omega
      subst this
      rw [List.getElem?_append_right (by omega), hl, Nat.sub_self]
      simp
theorem dg_digit (n : Nat) (h : n < 2) : (n.digitChar).toNat = 48 + n := by
  rcases (by omega : n = 0 ∨ n = 1) with rfl | rfl <;> rfl
theorem dgB_step {n : Nat} (h : 2 ≤ n) : dgB n = dgB (n / 2) ++ [48 + n % 2] := by
  unfold dgB
  rw [Nat.toDigits_of_base_le (by decide) h, List.map_append]
  congr 1
  show [(n % 2).digitChar.toNat] = _
  rw [dg_digit _ (Nat.mod_lt _ (by decide))]
theorem dgB_bits : ∀ (l v : Nat), v < 2 ^ l → dgB (2 ^ l + v) = 49 :: bitsL l v
  | 0, v, h => by
    have : v = 0 := by simpa using h
    subst this
    decide
  | l + 1, v, h => by
    have h2 : 2 ^ (l + 1) = 2 * 2 ^ l := Nat.pow_succ'
    have p : 1 ≤ 2 ^ l := Nat.pow_pos (by decide)
    rw [dgB_step (by omega), show (2 ^ (l + 1) + v) / 2 = 2 ^ l + v / 2 by omega, show (2 ^ (l + 1) + v) % 2 = v % 2 by omega, dgB_bits l (v / 2) (by omega)]
    rfl
/-- the word of v in l bits -/
def wordS (l v : Nat) : Str := ⟨(bitsL l v).toArray⟩
theorem wordS_len (l v : Nat) : (wordS l v).length = l := by
  show (bitsL l v).toArray.size = l
  rw [List.size_toArray, bitsL_len]
def spWordOf : Sp := fun vs H Q _ => ∃ v l : Nat, vs = [.int v, .int l] ∧ v < 2 ^ l ∧ l ≤ 1000 ∧ Q (.str (wordS l v)) H
end KB
namespace KB
open PySem PySem.Spec PyProof.Rows L2
def chS (c : Nat) : Str := ⟨#[c]⟩
theorem joinL_signs : ∀ cs : List Nat, TL.joinL [] (cs.map fun c => [c]) = cs
  | [] => rfl
  | [c] => rfl
  | c :: d :: r => by
    have := joinL_signs (d :: r)
    simp only [List.map_cons] at this ⊢
    simp only [TL.joinL, List.append_nil, List.nil_append, List.singleton_append] at this ⊢
    rw [this]
theorem join_signs (cs : List Nat) : Txt.join ("" : Str) (cs.map chS) = ⟨cs.toArray⟩ := by
  have h := SX.join_S [] (cs.map fun c => [c])
  rw [joinL_signs, List.map_map] at h
  exact h
theorem bit_sign (l v k : Nat) (h : k < l) : atI (("01" : Str)).cps.toList ((v : Int) / 2 ^ ((l : Int) - 1 - (k : Int)).toNat % 2 ^ 1) = some (48 + v / 2 ^ (l - 1 - k) % 2) := by
  have e : ((v : Int) / 2 ^ ((l : Int) - 1 - (k : Int)).toNat % 2 ^ 1) = ((v / 2 ^ (l - 1 - k) % 2 : Nat) : Int) := by
    rw [show ((l : Int) - 1 - (k : Int)).toNat = l - 1 - k by omega, Int.natCast_emod, Int.natCast_ediv, Int.natCast_pow]
    rfl
  rw [e]
  refine atI_nat ?_
  rcases (by omega : v / 2 ^ (l - 1 - k) % 2 = 0 ∨ v / 2 ^ (l - 1 - k) % 2 = 1) with h | h <;> rw [h] <;> rfl
def spLawWord : Sp := fun vs H Q _ => ∃ v l : Nat, vs = [.int v, .int l] ∧ l ≤ 1000 ∧ ∀ H', Same H H' → Q (.str (wordS l v)) H'
end KB

/-! sorted pairs: there is one order alone -/
namespace KB
open PySem PySem.Spec PyProof.Rows L2
theorem lex_anti {p q : Int × Int} (h1 : SrtO.lexB p q = false) (h2 : SrtO.lexB q p = false) : p = q := by
  have a := SrtO.lexB_no.mp h1
  have b := SrtO.lexB_no.mp h2
  obtain ⟨p1, p2⟩ := p
  obtain ⟨q1, q2⟩ := q
  simp only at a b
  have e1 : p1 = q1 := by omega
  have e2 : p2 = q2 := by omega
  rw [e1, e2]
theorem pairs_one : ∀ (a b : List (Int × Int)), a.Perm b → a.Pairwise (fun p q => SrtO.lexB q p = false) → b.Pairwise (fun p q => SrtO.lexB q p = false) → a = b
  | [], b, h, _, _ => h.nil_eq
  | x :: a, [], h, _, _ => absurd h.length_eq (by simp)
  | x :: a, y :: b, h, ha, hb => by
    have e : x = y := by
      have hx : x ∈ y :: b := h.mem_iff.mp (List.mem_cons_self ..)
      have hy : y ∈ x :: a := h.mem_iff.mpr (List.mem_cons_self ..)
      rcases List.mem_cons.mp hx with z | z
      · exact z
      · rcases List.mem_cons.mp hy with z' | z'
        · exact z'.symm
        · exact lex_anti ((List.pairwise_cons.mp hb).1 x z) ((List.pairwise_cons.mp ha).1 y z')
    subst e
    rw [pairs_one a b (List.Perm.cons_inv h) (List.pairwise_cons.mp ha).2 (List.pairwise_cons.mp hb).2]
end KB
namespace KB
open PySem PySem.Spec PyProof.Rows L2
def natD : PyData → Nat
  | .int z => z.toNat
  | _ => 0
/-- the numbers of a sequence of numbers -/
def lensD : PyData → List Nat
  | .list ds => ds.map natD
  | .tuple ds => ds.map natD
  | _ => []
def areD (d : PyData) : Bool := rowD d && decide (kr (lensD d) ≤ 2 ^ 40)
theorem kr_sum : ∀ ls : List Nat, (∀ n ∈ ls, n ≤ 40) → (ls.map fun n : Nat => (1 : Int) * 2 ^ ((40 : Int) - (n : Int)).toNat).sum = (kr ls : Int)
  | [], _ => rfl
  | n :: r, h => by
    have hn := h n (List.mem_cons_self ..)
    rw [List.map_cons, List.sum_cons, kr_sum r (fun m hm => h m (List.mem_cons_of_mem _ hm))]
    show _ = ((2 ^ (40 - n) + kr r : Nat) : Int)
    rw [Int.natCast_add, Int.natCast_pow, Int.one_mul, show ((40 : Int) - (n : Int)).toNat = 40 - n by omega]
    rfl
def spAre (K : PySem.W.Frag) : Sp := fun vs H Q _ => ∃ v d n, vs = [v] ∧ Dp K H v d ∧ okD n d = true ∧ (∀ ds, (d = .list ds ∨ d = .tuple ds) → ∀ z, .int z ∈ ds → z ≤ 40) ∧ ∀ H', Same H H' → Q (.bl (areD d)) H'
end KB

/-! max(xs, default=d), min(xs, default=d) of ints; sums of halves -/
namespace KB
open PySem PySem.Spec PyProof.Rows L2
def rBestD (K : PySem.W.Frag) (le : Int → Int → Prop) : List V → List V → Hp → VK → Prop := fun vs zs H Q => ∃ (a : Addr) (ns : List Int) (d : V), vs = [V.ref a] ∧ zs = [d] ∧ (SqL K H a (ns.map V.int) ∨ SqT K H a (ns.map V.int)) ∧ (ns = [] → Q d H) ∧ ∀ m, m ∈ ns → (∀ y ∈ ns, le y m) → Q (.int m) H
theorem best_gt {ns : List Int} {xs : Array (Int × Tok)} (hn : ns = xs.toList.map (·.1)) (hp : 0 < xs.size) : numAt xs (argBest (fun i j => decide (numAt xs i > numAt xs j)) (xs.size - 1)) ∈ ns ∧ ∀ y ∈ ns, y ≤ numAt xs (argBest (fun i j => decide (numAt xs i > numAt xs j)) (xs.size - 1)) := by
  obtain ⟨h1, h2⟩ := argBest_gt (numAt xs) (xs.size - 1)
  subst hn
  refine ⟨?_, fun y hy => ?_⟩
  · rw [numAt_eq]
    exact PySem.getD_mem (by rw [List.length_map, Array.length_toList]; omega)
  · obtain ⟨j, hj, rfl⟩ := mem_getD hy
    rw [List.length_map, Array.length_toList] at hj
    rw [← numAt_eq]
    exact h2 j (by omega)
theorem best_lt {ns : List Int} {xs : Array (Int × Tok)} (hn : ns = xs.toList.map (·.1)) (hp : 0 < xs.size) : numAt xs (argBest (fun i j => decide (numAt xs i < numAt xs j)) (xs.size - 1)) ∈ ns ∧ ∀ y ∈ ns, numAt xs (argBest (fun i j => decide (numAt xs i < numAt xs j)) (xs.size - 1)) ≤ y := by
  obtain ⟨h1, h2⟩ := argBest_lt (numAt xs) (xs.size - 1)
  subst hn
  refine ⟨?_, fun y hy => ?_⟩
  · rw [numAt_eq]
    exact PySem.getD_mem (by rw [List.length_map, Array.length_toList]; omega)
  · obtain ⟨j, hj, rfl⟩ := mem_getD hy
    rw [List.length_map, Array.length_toList] at hj
    rw [← numAt_eq]
    exact h2 j (by omega)
theorem ints_arr {its : List Value} {ns : List Int} (hi : IntsAre its ns) : ∃ xs : Array (Int × Tok), its.toArray = intItems xs ∧ ns = xs.toList.map (·.1) := by
  obtain ⟨xs, e⟩ := hi.allInts.items
  refine ⟨xs, e, ?_⟩
  have hn : numsOf (intItems xs).toList = ns := by rw [← e]; exact hi.numsOf
  rw [nums_intItems] at hn
  exact hn.symm
section
variable {X : Cx}
theorem cr_maxDef (hc : X.calm = true) : CallRK X (.builtin "max") [Str.ofString "default"] (rBestD X.K (· ≤ ·)) := by
  intro pins s σ H vs zs us ws Q I r rz h
  obtain ⟨a, ns, d, rfl, rfl, hs, q0, q⟩ := h
  obtain rfl := Vals.ref1 r
  obtain ⟨w1, rfl, rd⟩ := vals1 rz
  have hh := I.ok.hd hc
  show wpAny _ _ (call (.builtin "max") [.ref a] [(Str.ofString "default", w1)]) _ _ _
  rcases hs with hs | hs
  · obtain ⟨its, rv, hl, _⟩ := I.list hs
    obtain ⟨xs, e, hn⟩ := ints_arr rv.ints
    have hl' := hl.isList
    rw [e] at hl'
    have sz : (intItems xs).size = xs.size := by simp [intItems]
    refine call_max_walkD (PySem.W.iter_listW (A := X.A.in1) hh hl' fun s₂ e2 W st hfp hw hk => ?_)
    refine ⟨_, _, _, _, _, _, _, s.heap, (fun i j => decide (numAt xs i > numAt xs j)), rfl, W, st, hfp, hw, hk, fun hz s' m => ?_, fun hp => ⟨fun i j vi vj s1 Q1 E1 _ hi hj hq => CmpOf.ints_gt (P := fun i v => (intItems xs)[i]? = some v) (numAt xs) (fun i v h => intItems_at h) i j vi vj s1 Q1 E1 hi hj hq, fun v s' hP m => ?_⟩⟩
    · obtain ⟨h', tk, rfl, hk'⟩ := PySem.W.moved_old e2 rfl m
      refine ⟨d, H, I.kept hk', rd, q0 ?_⟩
      rw [hn]
      have : xs.size = 0 := by omega
      simp [Array.eq_empty_of_size_eq_zero this]
    · obtain ⟨h', tk, rfl, hk'⟩ := PySem.W.moved_old e2 rfl m
      obtain ⟨t, rfl⟩ := intItems_at hP
      rw [sz] at hp ⊢
      obtain ⟨b1, b2⟩ := best_gt hn hp
      exact ⟨.int _, H, I.kept hk', ⟨_, rfl⟩, q _ b1 b2⟩
  · obtain ⟨its, rv, hl, _⟩ := I.tuple hs
    obtain ⟨xs, e, hn⟩ := ints_arr rv.ints
    have hl' : s.heap.IsTuple a its.toArray := hl
    rw [e] at hl'
    have sz : (intItems xs).size = xs.size := by simp [intItems]
    refine call_max_walkD (PySem.W.iter_tupleW (A := X.A.in1) hh hl' fun s₂ e2 W st hfp hw hk => ?_)
    refine ⟨_, _, _, _, _, _, _, s.heap, (fun i j => decide (numAt xs i > numAt xs j)), rfl, W, st, hfp, hw, hk, fun hz s' m => ?_, fun hp => ⟨fun i j vi vj s1 Q1 E1 _ hi hj hq => CmpOf.ints_gt (P := fun i v => (intItems xs)[i]? = some v) (numAt xs) (fun i v h => intItems_at h) i j vi vj s1 Q1 E1 hi hj hq, fun v s' hP m => ?_⟩⟩
    · obtain ⟨h', tk, rfl, hk'⟩ := PySem.W.moved_old e2 rfl m
      refine ⟨d, H, I.kept hk', rd, q0 ?_⟩
      rw [hn]
      have : xs.size = 0 := by omega
      simp [Array.eq_empty_of_size_eq_zero this]
    · obtain ⟨h', tk, rfl, hk'⟩ := PySem.W.moved_old e2 rfl m
      obtain ⟨t, rfl⟩ := intItems_at hP
      rw [sz] at hp ⊢
      obtain ⟨b1, b2⟩ := best_gt hn hp
      exact ⟨.int _, H, I.kept hk', ⟨_, rfl⟩, q _ b1 b2⟩
theorem cr_minDef (hc : X.calm = true) : CallRK X (.builtin "min") [Str.ofString "default"] (rBestD X.K (· ≥ ·)) := by
  intro pins s σ H vs zs us ws Q I r rz h
  obtain ⟨a, ns, d, rfl, rfl, hs, q0, q⟩ := h
  obtain rfl := Vals.ref1 r
  obtain ⟨w1, rfl, rd⟩ := vals1 rz
  have hh := I.ok.hd hc
  show wpAny _ _ (call (.builtin "min") [.ref a] [(Str.ofString "default", w1)]) _ _ _
  rcases hs with hs | hs
  · obtain ⟨its, rv, hl, _⟩ := I.list hs
    obtain ⟨xs, e, hn⟩ := ints_arr rv.ints
    have hl' := hl.isList
    rw [e] at hl'
    have sz : (intItems xs).size = xs.size := by simp [intItems]
    refine call_min_walkD (PySem.W.iter_listW (A := X.A.in1) hh hl' fun s₂ e2 W st hfp hw hk => ?_)
    refine ⟨_, _, _, _, _, _, _, s.heap, (fun i j => decide (numAt xs i < numAt xs j)), rfl, W, st, hfp, hw, hk, fun hz s' m => ?_, fun hp => ⟨fun i j vi vj s1 Q1 E1 _ hi hj hq => CmpOf.ints_lt (P := fun i v => (intItems xs)[i]? = some v) (numAt xs) (fun i v h => intItems_at h) i j vi vj s1 Q1 E1 hi hj hq, fun v s' hP m => ?_⟩⟩
    · obtain ⟨h', tk, rfl, hk'⟩ := PySem.W.moved_old e2 rfl m
      refine ⟨d, H, I.kept hk', rd, q0 ?_⟩
      rw [hn]
      have : xs.size = 0 := by omega
      simp [Array.eq_empty_of_size_eq_zero this]
    · obtain ⟨h', tk, rfl, hk'⟩ := PySem.W.moved_old e2 rfl m
      obtain ⟨t, rfl⟩ := intItems_at hP
      rw [sz] at hp ⊢
      obtain ⟨b1, b2⟩ := best_lt hn hp
      exact ⟨.int _, H, I.kept hk', ⟨_, rfl⟩, q _ b1 b2⟩
  · obtain ⟨its, rv, hl, _⟩ := I.tuple hs
    obtain ⟨xs, e, hn⟩ := ints_arr rv.ints
    have hl' : s.heap.IsTuple a its.toArray := hl
    rw [e] at hl'
    have sz : (intItems xs).size = xs.size := by simp [intItems]
    refine call_min_walkD (PySem.W.iter_tupleW (A := X.A.in1) hh hl' fun s₂ e2 W st hfp hw hk => ?_)
    refine ⟨_, _, _, _, _, _, _, s.heap, (fun i j => decide (numAt xs i < numAt xs j)), rfl, W, st, hfp, hw, hk, fun hz s' m => ?_, fun hp => ⟨fun i j vi vj s1 Q1 E1 _ hi hj hq => CmpOf.ints_lt (P := fun i v => (intItems xs)[i]? = some v) (numAt xs) (fun i v h => intItems_at h) i j vi vj s1 Q1 E1 hi hj hq, fun v s' hP m => ?_⟩⟩
    · obtain ⟨h', tk, rfl, hk'⟩ := PySem.W.moved_old e2 rfl m
      refine ⟨d, H, I.kept hk', rd, q0 ?_⟩
      rw [hn]
      have : xs.size = 0 := by omega
      simp [Array.eq_empty_of_size_eq_zero this]
    · obtain ⟨h', tk, rfl, hk'⟩ := PySem.W.moved_old e2 rfl m
      obtain ⟨t, rfl⟩ := intItems_at hP
      rw [sz] at hp ⊢
      obtain ⟨b1, b2⟩ := best_lt hn hp
      exact ⟨.int _, H, I.kept hk', ⟨_, rfl⟩, q _ b1 b2⟩
end
end KB
namespace KB
open PySem PySem.Spec PyProof.Rows L2
/-- the sum of 2 ** (L - n) -/
def hs (L : Nat) : List Nat → Nat
  | [] => 0
  | n :: r => 2 ^ (L - n) + hs L r
theorem hs_kr : ∀ ls, hs 40 ls = kr ls
  | [] => rfl
  | n :: r => by
    show 2 ^ (40 - n) + hs 40 r = 2 ^ (40 - n) + kr r
    rw [hs_kr r]
theorem hs_up {m L : Nat} (h : m ≤ L) : ∀ {ls : List Nat}, (∀ n ∈ ls, n ≤ m) → hs L ls = 2 ^ (L - m) * hs m ls
  | [], _ => rfl
  | n :: r, hn => by
    have h1 := hn n (List.mem_cons_self ..)
    show 2 ^ (L - n) + hs L r = 2 ^ (L - m) * (2 ^ (m - n) + hs m r)
    rw [hs_up h (fun k hk => hn k (List.mem_cons_of_mem _ hk)), Nat.mul_add, ← Nat.pow_add]
    congr 2
    omega
theorem hs_app (L : Nat) : ∀ a b : List Nat, hs L (a ++ b) = hs L a + hs L b
  | [], b => by simp [hs]
  | n :: a, b => by
    show 2 ^ (L - n) + hs L (a ++ b) = 2 ^ (L - n) + hs L a + hs L b
    rw [hs_app L a b, Nat.add_assoc]
theorem hs_sum (m : Nat) : ∀ ls : List Nat, (∀ n ∈ ls, n ≤ m) → (ls.map fun n : Nat => (1 : Int) * 2 ^ ((m : Int) - (n : Int)).toNat).sum = (hs m ls : Int)
  | [], _ => rfl
  | n :: r, h => by
    have hn := h n (List.mem_cons_self ..)
    rw [List.map_cons, List.sum_cons, hs_sum m r (fun k hk => h k (List.mem_cons_of_mem _ hk))]
    show _ = ((2 ^ (m - n) + hs m r : Nat) : Int)
    rw [Int.natCast_add, Int.natCast_pow, Int.one_mul, show ((m : Int) - (n : Int)).toNat = m - n by omega]
    rfl
theorem red_hs {m L : Nat} {ls : List Nat} (h : m ≤ L) (hn : ∀ n ∈ ls, n ≤ m) : rOd (hs m ls) (2 ^ m) = rOd (hs L ls) (2 ^ L) ∧ rUd (hs m ls) (2 ^ m) = rUd (hs L ls) (2 ^ L) := by
  have p : (0 : Int) < 2 ^ (L - m) := Int.pow_pos (by decide)
  have e1 : ((hs L ls : Nat) : Int) = 2 ^ (L - m) * (hs m ls : Int) := by
    rw [hs_up h hn, Int.natCast_mul, Int.natCast_pow]
    rfl
  have e2 : (2 : Int) ^ L = 2 ^ (L - m) * 2 ^ m := by
    rw [← Int.pow_add]
    congr 1
    omega
  rw [e1, e2]
  exact ⟨(rOd_scale _ _ p).symm, (rUd_scale _ _ p).symm⟩
/-- all ints of a sequence of numbers -/
theorem dp_nums {K : PySem.W.Frag} {H : Hp} : ∀ {xs : List V} {ds : List PyData}, DpAll K H xs ds → ds.all isNumD = true → xs = (ds.map natD).map nI
  | _, _, .nil, _ => rfl
  | x :: xs, d :: ds, .cons hd ha, h => by
    rw [List.all_cons, Bool.and_eq_true] at h
    obtain ⟨h1, h2⟩ := h
    rw [List.map_cons, List.map_cons, dp_nums ha h2]
    cases d with
    | int z =>
      cases hd
      have : 0 ≤ z := of_decide_eq_true h1
      show V.int z :: _ = V.int ((z.toNat : Nat) : Int) :: _
      rw [Int.toNat_of_nonneg this]
    | _ => cases h1
end KB
namespace KB
open PySem PySem.Spec PyProof.Rows L2
/-- a walk over a list or a tuple that stands: S tells that it stands -/
structure LikeSeq (J : It) (S : Hp → Prop) (xs : List V) : Prop where
  mono : ∀ H H', Same H H' → S H → S H'
  go : ∀ i H, S H → i < xs.length → J.go i H
  yld : ∀ i H x H', S H → J.yld i H x H' → H' = H ∧ xs[i]? = some x
  stop : ∀ H, S H → J.stop xs.length H
theorem likeL (K : PySem.W.Frag) (a : Addr) (xs : List V) : LikeSeq (Itl K a) (fun H => SqL K H a xs) xs :=
  ⟨fun _ _ s q => s.seq q, fun i _ q h => ⟨xs, xs[i], q, by simp [h]⟩, fun _ _ _ _ q y => ⟨y.1, y.2 xs q⟩, fun _ q => ⟨xs, q, Nat.le_refl _⟩⟩
theorem likeT (K : PySem.W.Frag) (a : Addr) (xs : List V) : LikeSeq (Itt K a) (fun H => SqT K H a xs) xs :=
  ⟨fun _ _ s q => sameT s q, fun i _ q h => ⟨xs, xs[i], q, by simp [h]⟩, fun _ _ _ _ q y => ⟨y.1, y.2 xs q⟩, fun _ q => ⟨xs, q, Nat.le_refl _⟩⟩
theorem seq_two {K : PySem.W.Frag} {a : Addr} {xs : List V} {H : Hp} {R : It → Hp → Prop} (hs : SqL K H a xs ∨ SqT K H a xs) (h : ∀ J S, LikeSeq J S xs → S H → R J H) : (SqL K H a xs ∧ R (Itl K a) H) ∨ (SqT K H a xs ∧ R (Itt K a) H) := by
  rcases hs with q | q
  · exact .inl ⟨q, h _ _ (likeL K a xs) q⟩
  · exact .inr ⟨q, h _ _ (likeT K a xs) q⟩
theorem for_J {J : It} {S : Hp → Prop} {xs : List V} (L : LikeSeq J S xs) {g : TG} {tb : TS} {D : Ends} {σ : L2.St} {H : Hp} (Pv : Nat → L2.St → Hp → Prop) (h0 : Pv 0 σ H) (hl : ∀ i σ H, i ≤ xs.length → Pv i σ H → S H)
    (hs : ∀ i x σ H, xs[i]? = some x → Pv i σ H → g x σ H fun σ2 H2 => tb { D with nx := Pv (i + 1), ct := Pv (i + 1), bk := D.nx } σ2 H2) (hd : ∀ σ H, Pv xs.length σ H → D.nx σ H) :
    ∃ W : Nat → Nat → L2.St → Hp → Prop, (∃ m, W 0 m σ H) ∧ ∀ i m σ H, W i m σ H →
      (J.stop i H ∧ D.nx σ H) ∨ (J.go i H ∧ ∃ N : L2.St → Hp → Prop, (∀ σ' H', N σ' H' → ∃ m', m' < m ∧ W (i + 1) m' σ' H') ∧ ∀ x H', J.yld i H x H' → g x σ H' fun σ2 H2 => tb { D with nx := N, ct := N, bk := D.nx } σ2 H2) := by
  refine ⟨fun i m σ H => m = xs.length - i ∧ i ≤ xs.length ∧ Pv i σ H, ⟨xs.length, by simp, Nat.zero_le _, h0⟩, ?_⟩
  rintro i m σ H ⟨rfl, hi, p⟩
  have q := hl i σ H hi p
  by_cases hlt : i < xs.length
  · refine .inr ⟨L.go i H q hlt, Pv (i + 1), fun σ' H' p' => ⟨xs.length - (i + 1), by omega, rfl, hlt, p'⟩, fun x H' y => ?_⟩
    obtain ⟨e, yy⟩ := L.yld i H x H' q y; clear y
    subst e
    exact hs i x σ _ yy p
  · have e : i = xs.length := by omega
    subst e
    exact .inl ⟨L.stop H q, hd σ H p⟩
theorem lc_J {J : It} {S : Hp → Prop} {xs : List V} (L : LikeSeq J S xs) {g : TG} {tt : TT} {te : TE} {vs : List Nat} {σ : L2.St} {H1 : Hp} {D : Addr} {Qd : Hp → Prop} (Pv : Nat → Hp → Prop) (h0 : Pv 0 (upd H1 D (.lst []))) (hl : ∀ i H, i ≤ xs.length → Pv i H → S H)
    (hs : ∀ i x H, xs[i]? = some x → Pv i H → g x (wipe σ vs) H fun σ2 H2 => wipe σ2 vs = wipe σ vs ∧ tt σ2 H2 fun b H3 =>
      if b = true then te σ2 H3 fun y H4 => ∃ acc, H4 D = some (.lst acc) ∧ acc.length < sizeLine ∧ Pv (i + 1) (upd H4 D (.lst (acc ++ [y]))) else Pv (i + 1) H3) (hd : ∀ H, Pv xs.length H → Qd H) :
    ∃ W : Nat → Nat → Hp → Prop, (∃ m, W 0 m (upd H1 D (.lst []))) ∧ ∀ i m H, W i m H →
      (J.stop i H ∧ Qd H) ∨ (J.go i H ∧ ∃ Nx : Hp → Prop, (∀ H', Nx H' → ∃ m', m' < m ∧ W (i + 1) m' H') ∧ ∀ x H', J.yld i H x H' → g x (wipe σ vs) H' fun σ2 H2 => wipe σ2 vs = wipe σ vs ∧ tt σ2 H2 fun b H3 =>
        if b = true then te σ2 H3 fun y H4 => ∃ acc, H4 D = some (.lst acc) ∧ acc.length < sizeLine ∧ Nx (upd H4 D (.lst (acc ++ [y]))) else Nx H3) := by
  refine ⟨fun i m H => m = xs.length - i ∧ i ≤ xs.length ∧ Pv i H, ⟨xs.length, by simp, Nat.zero_le _, h0⟩, ?_⟩
  rintro i m H ⟨rfl, hi, p⟩
  have q := hl i H hi p
  by_cases hlt : i < xs.length
  · refine .inr ⟨L.go i H q hlt, Pv (i + 1), fun H' p' => ⟨xs.length - (i + 1), by omega, rfl, hlt, p'⟩, fun x H' y => ?_⟩
    obtain ⟨e, yy⟩ := L.yld i H x H' q y; clear y
    subst e
    exact hs i x _ yy p
  · have e : i = xs.length := by omega
    subst e
    exact .inl ⟨L.stop H q, hd H p⟩
theorem maxD_nat {K : PySem.W.Frag} {H : Hp} {a : Addr} {ls : List Nat} {L : Nat} {Q : VK} (hs : SqL K H a (ls.map nI) ∨ SqT K H a (ls.map nI)) (hL : ∀ n ∈ ls, n ≤ L) (h : ∀ m : Nat, m ≤ L → (∀ n ∈ ls, n ≤ m) → Q (.int m) H) : rBestD K (· ≤ ·) [.ref a] [.int 0] H Q := by
  have em : (ls.map fun n : Nat => (n : Int)).map V.int = ls.map nI := by rw [List.map_map]; rfl
  refine ⟨a, ls.map fun n : Nat => (n : Int), V.int 0, rfl, rfl, by rw [em]; exact hs, fun e0 => ?_, fun m hm hmax => ?_⟩
  · have : ls = [] := by simpa using e0
    subst this
    exact h 0 (Nat.zero_le _) (fun n hn => by cases hn)
  · obtain ⟨n, hn, rfl⟩ := List.mem_map.mp hm
    exact h n (hL n hn) fun k hk => by
      have := hmax _ (List.mem_map.mpr ⟨k, hk, rfl⟩)
      omega
end KB
namespace KB
open PySem PySem.Spec PyProof.Rows L2
section
variable {X : Cx} {tg l : Expr} {tl : TE}
/-- for x in e, e a list or a tuple: told once for both -/
def iSeqJ (K : PySem.W.Frag) (tl : TE) : TI := fun σ H R => tl σ H fun x H1 => ∃ a xs, x = .ref a ∧ (SqL K H1 a xs ∨ SqT K H1 a xs) ∧ ∀ J S, LikeSeq J S xs → S H1 → R J H1
theorem pi_seqJ (hl : PE X l tl) : PI X tg l (iSeqJ X.K tl) := by
  refine ⟨fun pins s σ H R I h => thn (hl.run pins s σ H _ I h) fun v s1 ⟨x, H1, I1, r1, a, xs, ex, hs, q⟩ => ?_⟩
  subst ex
  cases r1
  have fr : ∀ b, b ∈ [s1.heap.objs.size] → FpOk X pins H1 b := fun b hb => by
    rw [List.mem_singleton.mp hb]
    exact I1.fpOk (Nat.le_refl _) (I1.hok.fresh (Nat.le_refl _))
  have kp : ∀ (o : Obj), Inv X pins σ H1 { s1 with heap := s1.heap.push o } := fun o => I1.kept (t' := s1.toks) fun b o' e => Heap.get?_push_of_some _ e
  rcases hs with hq | hq
  · have q' := q _ _ (likeL X.K a xs) hq
    obtain ⟨its, rv, p, hz⟩ := I1.list hq
    exact wpAny_pyIter_list p.isList ⟨_, [s1.heap.objs.size], _, _, H1, rfl, kp _, turn_list a _, ⟨_, Heap.get?_push_size _ rfl, rfl, rfl⟩, fr, q'⟩
  · have q' := q _ _ (likeT X.K a xs) hq
    obtain ⟨its, rv, p, hz⟩ := I1.tuple hq
    exact wpAny_pyIter_tuple (show s1.heap.IsTuple a its.toArray from p) ⟨_, [s1.heap.objs.size], _, _, H1, rfl, kp _, turn_tuple a _, ⟨_, Heap.get?_push_size _ rfl, rfl, rfl⟩, fr, q'⟩
end
end KB
namespace KB
open PySem PySem.Spec PyProof.Rows L2
theorem row_at {K : PySem.W.Frag} {H : Hp} {v : V} {d : PyData} {n : Nat} (hv : Dp K H v d) (hok : okD n d = true) (hr : rowD d = true) : ∃ a, v = .ref a ∧ (SqL K H a ((lensD d).map nI) ∨ SqT K H a ((lensD d).map nI)) ∧ (lensD d).length ≤ 100000 := by
  cases n with
  | zero => cases d <;> first | (cases hok; done) | (cases hr; done)
  | succ n =>
  cases d with
  | list ds =>
    cases hv with
    | lst sx ax => exact ⟨_, rfl, .inl (by have e := dp_nums ax hr; rw [e] at sx; exact sx), by show (ds.map natD).length ≤ _; rw [List.length_map]; exact (okD_seq hok).1⟩
  | tuple ds =>
    cases hv with
    | tup sx ax => exact ⟨_, rfl, .inr (by have e := dp_nums ax hr; rw [e] at sx; exact sx), by show (ds.map natD).length ≤ _; rw [List.length_map]; exact (okD_seq hok).1⟩
  | _ => cases hr
theorem for_enumL {K : PySem.W.Frag} {a : Addr} {xs : List V} {g : TG} {tb : TS} {D : Ends} {σ : L2.St} {H : Hp} (Pv : Nat → L2.St → Hp → Prop) (h0 : Pv 0 σ H) (hl : ∀ i σ H, i ≤ xs.length → Pv i σ H → SqL K H a xs)
    (hs : ∀ i x σ H, xs[i]? = some x → Pv i σ H → ∀ T, H T = none → g (.ref T) σ (upd H T (.tup [.int (i : Nat), x])) fun σ2 H2 => tb { D with nx := Pv (i + 1), ct := Pv (i + 1), bk := D.nx } σ2 H2) (hd : ∀ σ H, Pv xs.length σ H → D.nx σ H) :
    ∃ W : Nat → Nat → L2.St → Hp → Prop, (∃ m, W 0 m σ H) ∧ ∀ i m σ H, W i m σ H →
      ((Ite K a).stop i H ∧ D.nx σ H) ∨ ((Ite K a).go i H ∧ ∃ N : L2.St → Hp → Prop, (∀ σ' H', N σ' H' → ∃ m', m' < m ∧ W (i + 1) m' σ' H') ∧ ∀ v H', (Ite K a).yld i H v H' → g v σ H' fun σ2 H2 => tb { D with nx := N, ct := N, bk := D.nx } σ2 H2) := by
  refine ⟨fun i m σ H => m = xs.length - i ∧ i ≤ xs.length ∧ Pv i σ H, ⟨xs.length, by simp, Nat.zero_le _, h0⟩, ?_⟩
  rintro i m σ H ⟨rfl, hi, p⟩
  have q := hl i σ H hi p
  by_cases hlt : i < xs.length
  · refine .inr ⟨⟨xs, xs[i], q, by simp [hlt]⟩, Pv (i + 1), fun σ' H' p' => ⟨xs.length - (i + 1), by omega, rfl, hlt, p'⟩, fun v H' y => ?_⟩
    obtain ⟨T, x, rfl, hT, rfl, y⟩ := y
    exact hs i x σ H (y xs q) p T hT
  · have e : i = xs.length := by omega
    subst e
    exact .inl ⟨⟨xs, q, Nat.le_refl _⟩, hd σ H p⟩
theorem bits_up {n m : Nat} (h : Builtin.Int.intBits (n : Int) ≤ m) : n < 2 ^ m := by
  unfold Builtin.Int.intBits at h
  split at h
  · rename_i h0
    have h0' : n = 0 := by simpa using h0
    subst h0'
    exact Nat.pow_pos (by decide)
  · have h2 := Nat.lt_log2_self (n := n)
    have h3 : 2 ^ ((n : Int).natAbs.log2 + 1) ≤ 2 ^ m := Nat.pow_le_pow_right (by decide) h
    have : (n : Int).natAbs = n := by omega
    rw [this] at h3
    omega
theorem bits_dn {n m : Nat} (h : n < 2 ^ m) : Builtin.Int.intBits (n : Int) ≤ m := by
  unfold Builtin.Int.intBits
  split
  · omega
  · have : (n : Int).natAbs = n := by omega
    rw [this]
    rename_i h0
    exact (Nat.log2_lt (fun z => h0 (by subst z; rfl))).mpr h
theorem kr_le {l : Nat} : ∀ {ys : List Nat}, (∀ y ∈ ys, l ≤ y) → kr ys ≤ ys.length * 2 ^ (40 - l)
  | [], _ => Nat.zero_le _
  | y :: r, h => by
    have h1 := h y (List.mem_cons_self ..)
    have h2 := kr_le (ys := r) fun z hz => h z (List.mem_cons_of_mem _ hz)
    have h3 : 2 ^ (40 - y) ≤ 2 ^ (40 - l) := Nat.pow_le_pow_right (by decide) (by omega)
    show 2 ^ (40 - y) + kr r ≤ (r.length + 1) * 2 ^ (40 - l)
    rw [Nat.add_mul]
    omega
theorem kr_drop {ls : List Nat} {i l : Nat} (hs : ls.Pairwise (· ≤ ·)) (h : ls[i]? = some l) : kr ls ≤ kr (ls.take i) + (ls.length - i) * 2 ^ (40 - l) := by
  have e : ls = ls.take i ++ ls.drop i := (List.take_append_drop _ _).symm
  have h2 : kr ls = kr (ls.take i) + kr (ls.drop i) := by rw [← kr_app, ← e]
  have h3 : kr (ls.drop i) ≤ (ls.drop i).length * 2 ^ (40 - l) := kr_le fun y hy => by
    obtain ⟨k, hk, rfl⟩ := List.getElem_of_mem hy
    rw [List.getElem_drop]
    obtain ⟨hi, ei⟩ := List.getElem?_eq_some_iff.mp h
    rw [List.length_drop] at hk
    rw [← ei]
    rcases Nat.eq_zero_or_pos k with z | z
    · subst z
      exact Nat.le_refl _
    · exact List.pairwise_iff_getElem.mp hs i (i + k) hi (by omega) (by omega)
  rw [List.length_drop] at h3
  omega
theorem kr_perm {a b : List Nat} (h : a.Perm b) : kr a = kr b := by
  induction h with
  | nil => rfl
  | cons x _ ih => show 2 ^ (40 - x) + _ = 2 ^ (40 - x) + _; rw [ih]
  | swap x y l => show 2 ^ (40 - y) + (2 ^ (40 - x) + _) = 2 ^ (40 - x) + (2 ^ (40 - y) + _); omega
  | trans _ _ h1 h2 => exact h1.trans h2
/-- room for T: room of the words of length depth are left -/
structure Rk (T : Nat) (ls : List Nat) (i room depth : Nat) : Prop where
  eq : room * 2 ^ (40 - depth) + kr (ls.take i) = T
  d40 : depth ≤ 40
  pos : 0 < room
  at_ : (i = 0 ∧ depth = 0) ∨ ∃ k, i = k + 1 ∧ ls[k]? = some depth
theorem Rk.ini (ls : List Nat) {r : Nat} (h : 0 < r) : Rk (r * 2 ^ 40) ls 0 r 0 := ⟨by simp [kr], by omega, h, .inl ⟨rfl, rfl⟩⟩
theorem Rk.le {T : Nat} {ls : List Nat} {i free depth l : Nat} (R : Rk T ls i free depth) (hs : ls.Pairwise (· ≤ ·)) (h : ls[i]? = some l) : depth ≤ l := by
  rcases R.at_ with ⟨_, e⟩ | ⟨k, rfl, hk⟩
  · omega
  · obtain ⟨h1, e1⟩ := List.getElem?_eq_some_iff.mp hk
    obtain ⟨h2, e2⟩ := List.getElem?_eq_some_iff.mp h
    have := List.pairwise_iff_getElem.mp hs k (k + 1) h1 h2 (Nat.lt_succ_self _)
    rw [e1, e2] at this
    exact this
theorem Rk.small {T : Nat} {ls : List Nat} {i free depth : Nat} (R : Rk T ls i free depth) : free ≤ T := by
  have : 1 ≤ 2 ^ (40 - depth) := Nat.pow_pos (by decide)
  have h := R.eq
  have := Nat.mul_le_mul_left free this
  omega
/-- all that are left do not fill the room -/
theorem Rk.enough {T : Nat} {ls : List Nat} {i room depth l : Nat} (R : Rk T ls i room depth) (hs : ls.Pairwise (· ≤ ·)) (h : ls[i]? = some l) (h40 : l ≤ 40) (hb : ls.length - i < 2 ^ (l - depth)) : kr ls < T := by
  have hd := R.le hs h
  have e := R.eq
  have k := kr_drop hs h
  have p : 0 < 2 ^ (40 - l) := Nat.pow_pos (by decide)
  have h1 : (ls.length - i) * 2 ^ (40 - l) < 2 ^ (l - depth) * 2 ^ (40 - l) := Nat.mul_lt_mul_of_pos_right hb p
  have h2 : 2 ^ (l - depth) * 2 ^ (40 - l) = 2 ^ (40 - depth) := by
    rw [← Nat.pow_add]
    congr 1
    omega
  have h3 : 1 * 2 ^ (40 - depth) ≤ room * 2 ^ (40 - depth) := Nat.mul_le_mul_right _ R.pos
  omega
theorem Rk.nxt {T : Nat} {ls : List Nat} {i free depth l : Nat} (R : Rk T ls i free depth) (hs : ls.Pairwise (· ≤ ·)) (h : ls[i]? = some l) (h40 : l ≤ 40) :
    1 ≤ free * 2 ^ (l - depth) ∧ (free * 2 ^ (l - depth) - 1 = 0 → T ≤ kr ls) ∧ (free * 2 ^ (l - depth) - 1 ≠ 0 → Rk T ls (i + 1) (free * 2 ^ (l - depth) - 1) l) := by
  have hd := R.le hs h
  have p : 1 ≤ 2 ^ (l - depth) := Nat.pow_pos (by decide)
  have f1 : 1 ≤ free * 2 ^ (l - depth) := Nat.mul_pos R.pos p
  have e : free * 2 ^ (40 - depth) = free * 2 ^ (l - depth) * 2 ^ (40 - l) := by
    rw [Nat.mul_assoc, ← Nat.pow_add]
    congr 2
    omega
  have q := R.eq
  rw [e] at q
  have hle : 1 * 2 ^ (40 - l) ≤ free * 2 ^ (l - depth) * 2 ^ (40 - l) := Nat.mul_le_mul_right _ f1
  have kt := kr_take h
  have kl : kr (ls.take (i + 1)) ≤ kr ls := by
    have e2 : ls = ls.take (i + 1) ++ ls.drop (i + 1) := (List.take_append_drop _ _).symm
    have : kr ls = kr (ls.take (i + 1)) + kr (ls.drop (i + 1)) := by rw [← kr_app, ← e2]
    omega
  refine ⟨f1, fun z => ?_, fun z => ⟨?_, h40, by omega, .inr ⟨i, rfl, h⟩⟩⟩
  · have : free * 2 ^ (l - depth) = 1 := by omega
    rw [this] at q
    omega
  · rw [kt, Nat.sub_mul]
    omega
theorem Rk.fin {T : Nat} {ls : List Nat} {room depth : Nat} (R : Rk T ls ls.length room depth) : kr ls < T := by
  have h := R.eq
  rw [List.take_length] at h
  have : 1 * 2 ^ (40 - depth) ≤ room * 2 ^ (40 - depth) := Nat.mul_le_mul_right _ R.pos
  have p : 0 < 2 ^ (40 - depth) := Nat.pow_pos (by decide)
  omega
end KB
namespace KB
open PySem PySem.Spec PyProof.Rows L2
theorem red_div {o u : Int} (hu : 0 < u) : rOd o u / rUd o u = o / u := by
  obtain ⟨g, g0, eo, eu⟩ := red_ex (o := o) hu
  generalize rOd o u = n at *
  generalize rUd o u = d at *
  rw [eo, eu, Int.mul_ediv_mul_of_pos _ _ g0]
theorem bits_log {q : Nat} : (if ((Builtin.Int.intBits (q : Int) : Nat) : Int) - 1 > 0 then ((Builtin.Int.intBits (q : Int) : Nat) : Int) - 1 else 0) = ((Nat.log2 q : Nat) : Int) := by
  by_cases h : q = 0
  · subst h
    rfl
  · have e : Builtin.Int.intBits (q : Int) = Nat.log2 q + 1 := by
      unfold Builtin.Int.intBits
      rw [if_neg (by simpa using h), show (q : Int).natAbs = q by omega]
    rw [e]
    split <;> omega
theorem kit2 {K : PySem.W.Frag} (t : String) (a b : String) (r1 r2 : Bool) (h1 : kitB t a = some r1) (h2 : kitB t b = some r2) : PySem.W.kitAny K (.type t) [.type a, .type b] = some (r1 || r2) :=
  kitAny_cons (kit_ty h1) (fun e => by subst e; exact kitAny_cons (kit_ty h2) (fun e => by subst e; rfl) (fun e => by subst e; rfl)) (fun e => by subst e; rfl)
end KB
namespace KB
open PySem PySem.Spec PyProof.Rows L2
theorem atN {ls : List Nat} {k l : Nat} (h : ls[k]? = some l) : atI (ls.map nI) (k : Int) = some (nI l) := atI_nat (by rw [List.getElem?_map, h]; rfl)
theorem flatN : ∀ ls : List Nat, (ls.map nI).all flatV = true
  | [] => rfl
  | n :: r => by
    rw [List.map_cons, List.all_cons, flatN r]
    rfl
theorem getN {ls : List Nat} {k : Nat} {v : V} (h : (ls.map nI)[k]? = some v) : ∃ n, ls[k]? = some n ∧ v = nI n := by
  rw [List.getElem?_map] at h
  cases e : ls[k]? with
  | none => rw [e] at h; cases h
  | some n => rw [e] at h; exact ⟨n, rfl, (Option.some.inj h).symm⟩
theorem idxN {m : Nat} : ∀ {ls : List Nat}, m ∈ ls → ∃ j : Nat, ls[j]? = some m ∧ ∀ (k : Nat) (z : Nat), k < j → ls[k]? = some z → z ≠ m
  | [], h => by cases h
  | n :: r, h => by
    by_cases e : n = m
    · exact ⟨0, by rw [e]; rfl, fun k z hk => absurd hk (Nat.not_lt_zero _)⟩
    · have hr : m ∈ r := by
        rcases List.mem_cons.mp h with z | z
        · exact absurd z.symm e
        · exact z
      obtain ⟨j, h1, h2⟩ := idxN hr
      refine ⟨j + 1, by rw [List.getElem?_cons_succ]; exact h1, fun k z hk hz => ?_⟩
      cases k with
      | zero => cases Option.some.inj hz; exact e
      | succ k => exact h2 k z (by omega) (by rw [List.getElem?_cons_succ] at hz; exact hz)
theorem indexN {K : PySem.W.Frag} {H : Hp} {a : Addr} {ls : List Nat} {m : Nat} {Q : VK} (hS : SqL K H a (ls.map nI)) (hm : m ∈ ls) (q : ∀ j, ls[j]? = some m → Q (.int (j : Nat)) H) : rIndex K (.ref a) [.int (m : Int)] H Q := by
  obtain ⟨j, h1, h2⟩ := idxN hm
  refine ⟨a, ls.map nI, .int (m : Int), j, nI m, rfl, rfl, hS, rfl, flatN ls, by rw [List.getElem?_map, h1]; rfl, ?_, fun k z hk hz => ?_, q j h1⟩
  · simp [eqV, nI]
  · obtain ⟨n, hn, rfl⟩ := getN hz
    have := h2 k n hk hn
    simp [eqV, nI]
    omega
theorem maxN {K : PySem.W.Frag} {H : Hp} {a : Addr} {ls : List Nat} {Q : VK} (hS : SqL K H a (ls.map nI)) (h0 : 0 < ls.length) (q : ∀ m, m ∈ ls → (∀ n ∈ ls, n ≤ m) → Q (.int (m : Int)) H) : rMax K [.ref a] H Q := by
  have em : (ls.map fun n : Nat => (n : Int)).map V.int = ls.map nI := by rw [List.map_map]; rfl
  refine ⟨a, ls.map fun n : Nat => (n : Int), rfl, by rw [em]; exact hS, by rw [List.length_map]; exact h0, fun m hm hmax => ?_⟩
  obtain ⟨n, hn, rfl⟩ := List.mem_map.mp hm
  exact q n hn fun k hk => by
    have := hmax _ (List.mem_map.mpr ⟨k, hk, rfl⟩)
    omega
/-- a list of numbers that stands by itself, beside the tape -/
structure Nl (B0 B H : Hp) (t p : Addr) (c : Nat) (bs : List Nat) : Prop where
  same : Same B0 B
  tp : Tp B H t c
  at_ : B p = some (.lst (bs.map nI))
  nb : B0 p = none
theorem Nl.set {B0 B H : Hp} {t p : Addr} {c : Nat} {bs : List Nat} (N : Nl B0 B H t p c bs) (zs : List Nat) : Nl B0 (upd B p (.lst (zs.map nI))) (upd H p (.lst (zs.map nI))) t p c zs :=
  ⟨same_out N.same N.nb, N.tp.set N.at_, upd_same, N.nb⟩
theorem Nl.hd {B0 B H : Hp} {t p : Addr} {c : Nat} {bs : List Nat} (N : Nl B0 B H t p c bs) : H p = some (.lst (bs.map nI)) := N.tp.at N.at_
theorem Nl.le {B0 B H : Hp} {t p : Addr} {c d : Nat} {bs : List Nat} (N : Nl B0 B H t p c bs) (h : c ≤ d) : Nl B0 B H t p d bs := ⟨N.same, N.tp.le h, N.at_, N.nb⟩
theorem Nl.drw {B0 B H H' : Hp} {t p : Addr} {c d : Nat} {bs : List Nat} (N : Nl B0 B H t p c bs) (T : Tp B H' t d) : Nl B0 B H' t p d bs := ⟨N.same, T, N.at_, N.nb⟩
theorem setN (ls : List Nat) (k n : Nat) : (ls.map nI).set k (nI n) = (ls.set k n).map nI := by rw [List.map_set]
end KB
namespace KB
open PySem PySem.Spec PyProof.Rows L2
theorem sqI {K : PySem.W.Frag} {H : Hp} {a : Addr} {ls : List Nat} (hS : SqL K H a (ls.map nI)) : SqL K H a ((ls.map fun n : Nat => (n : Int)).map V.int) := by
  rw [List.map_map]
  exact hS
theorem ix_get {ls : List Nat} {j m : Nat} (h : ls[j]? = some m) : (ls.map nI)[j]? = some (nI m) := by rw [List.getElem?_map, h]; rfl
theorem ix_eq (m : Nat) : eqV (nI m) (.int (m : Int)) = true := by simp [eqV, nI]
theorem ix_min {ls : List Nat} {j m : Nat} (h : ∀ (k : Nat) (z : Nat), k < j → ls[k]? = some z → z ≠ m) : ∀ (k : Nat) (z' : V), k < j → (ls.map nI)[k]? = some z' → eqV z' (.int (m : Int)) = false := fun k z hk hz => by
  obtain ⟨n, hn, rfl⟩ := getN hz
  have := h k n hk hn
  simp [eqV, nI]
  omega
end KB
namespace KB
open PySem PySem.Spec PyProof.Rows L2
theorem ixN_nat {n j : Nat} (h : j < n) : ixN n (j : Int) = some j := by
  unfold ixN
  rw [if_pos (by omega), if_pos (by omega)]
  rfl
theorem Nl.put {B0 B H : Hp} {t p : Addr} {c : Nat} {bs : List Nat} (N : Nl B0 B H t p c bs) (j n : Nat) : Nl B0 (upd B p (.lst ((bs.map nI).set j (nI n)))) (upd H p (.lst ((bs.map nI).set j (nI n)))) t p c (bs.set j n) := by
  rw [setN]
  exact N.set _
theorem Nl.app {B0 B H : Hp} {t p : Addr} {c : Nat} {bs : List Nat} (N : Nl B0 B H t p c bs) (n : Nat) : Nl B0 (upd B p (.lst (bs.map nI ++ [nI n]))) (upd H p (.lst (bs.map nI ++ [nI n]))) t p c (bs ++ [n]) := by
  rw [show bs.map nI ++ [nI n] = (bs ++ [n]).map nI by rw [List.map_append]; rfl]
  exact N.set _
theorem mem_set_le {bs : List Nat} {j n m : Nat} (h : ∀ k ∈ bs, k ≤ m) (hn : n ≤ m) : ∀ k ∈ bs.set j n, k ≤ m := fun k hk => by
  rcases List.mem_or_eq_of_mem_set hk with z | z
  · exact h k z
  · omega
theorem mem_app_le {bs : List Nat} {n m : Nat} (h : ∀ k ∈ bs, k ≤ m) (hn : n ≤ m) : ∀ k ∈ bs ++ [n], k ≤ m := fun k hk => by
  rcases List.mem_append.mp hk with z | z
  · exact h k z
  · rw [List.mem_singleton.mp z]
    exact hn
end KB
namespace KB
open PySem PySem.Spec PyProof.Rows L2
theorem seqIx_nat {n j : Nat} (h : j < n) : seqIndex? (j : Int) n = some j := by
  unfold seqIndex?
  simp
  omega
theorem eraN : ∀ (bs : List Nat) (j : Nat), (bs.map nI).eraseIdx j = (bs.eraseIdx j).map nI
  | [], _ => rfl
  | _ :: _, 0 => rfl
  | b :: r, j + 1 => by
    rw [List.map_cons, List.eraseIdx_cons_succ, List.eraseIdx_cons_succ, List.map_cons, eraN r j]
theorem Nl.era {B0 B H : Hp} {t p : Addr} {c : Nat} {bs : List Nat} (N : Nl B0 B H t p c bs) (j : Nat) : Nl B0 (upd B p (.lst ((bs.map nI).eraseIdx j))) (upd H p (.lst ((bs.map nI).eraseIdx j))) t p c (bs.eraseIdx j) := by
  rw [eraN bs j]
  exact N.set _
theorem Nl.ins {B0 B H : Hp} {t p : Addr} {c : Nat} {bs : List Nat} (N : Nl B0 B H t p c bs) (j n : Nat) : Nl B0 (upd B p (.lst ((bs.map nI).take j ++ [nI n] ++ (bs.map nI).drop j))) (upd H p (.lst ((bs.map nI).take j ++ [nI n] ++ (bs.map nI).drop j))) t p c (bs.take j ++ [n] ++ bs.drop j) := by
  rw [show (bs.map nI).take j ++ [nI n] ++ (bs.map nI).drop j = (bs.take j ++ [n] ++ bs.drop j).map nI by simp [List.map_take, List.map_drop]]
  exact N.set _
theorem mem_era_le {bs : List Nat} {j m : Nat} (h : ∀ k ∈ bs, k ≤ m) : ∀ k ∈ bs.eraseIdx j, k ≤ m := fun k hk => h k (List.mem_of_mem_eraseIdx hk)
theorem mem_ins_le {bs : List Nat} {j n m : Nat} (h : ∀ k ∈ bs, k ≤ m) (hn : n ≤ m) : ∀ k ∈ bs.take j ++ [n] ++ bs.drop j, k ≤ m := fun k hk => by
  rcases List.mem_append.mp hk with z | z
  · rcases List.mem_append.mp z with z | z
    · exact h k (List.mem_of_mem_take z)
    · rw [List.mem_singleton.mp z]
      exact hn
  · exact h k (List.mem_of_mem_drop z)
end KB
namespace KB
open PySem PySem.Spec PyProof.Rows L2
theorem cut_from (bs : List Nat) (x : Nat) (h : x ≤ bs.length) : cutV (bs.map nI) (some (x : Int)) none = (bs.drop x).map nI := by
  have e : HT.sIx (bs.map nI).length 0 (some (x : Int)) = x := by rw [HT.sIx_nat, List.length_map]; omega
  have e2 : HT.sIx (bs.map nI).length (bs.map nI).length none = (bs.map nI).length := rfl
  unfold cutV
  rw [e, e2, ← List.map_drop, List.take_of_length_le (by simp)]
theorem cut_to (bs : List Nat) (x : Nat) (h : x ≤ bs.length) : cutV (bs.map nI) none (some (x : Int)) = (bs.take x).map nI := by
  have e : HT.sIx (bs.map nI).length (bs.map nI).length (some (x : Int)) = x := by rw [HT.sIx_nat, List.length_map]; omega
  have e2 : HT.sIx (bs.map nI).length 0 none = 0 := rfl
  unfold cutV
  rw [e, e2, List.drop_zero, Nat.sub_zero, ← List.map_take]
end KB
namespace KB
open PySem PySem.Spec PyProof.Rows L2
def ndD (ls : List Nat) : List PyData := ls.map fun n : Nat => PyData.int (n : Int)
theorem dp_nd {K : PySem.W.Frag} {H : Hp} : ∀ ls : List Nat, DpAll K H (ls.map nI) (ndD ls)
  | [] => .nil
  | n :: r => .cons (.int _) (dp_nd r)
theorem ndD_len (ls : List Nat) : (ndD ls).length = ls.length := List.length_map ..
theorem ndD_nat (ls : List Nat) : (ndD ls).map natD = ls := by
  unfold ndD
  rw [List.map_map]
  exact List.map_id'' (fun n => by simp [natD]) ls
theorem ndD_ok (ls : List Nat) (n : Nat) : ∀ d ∈ ndD ls, okD (n + 1) d = true := fun d hd => by
  obtain ⟨k, _, rfl⟩ := List.mem_map.mp hd
  rfl
theorem nums_dp {K : PySem.W.Frag} {H : Hp} {a : Addr} {ls : List Nat} (h : H a = some (.lst (ls.map nI)) ∨ H a = some (.tup (ls.map nI))) (hl : ls.length ≤ 100000) (h40 : ∀ n ∈ ls, n ≤ 40) :
    ∃ d, Dp K H (.ref a) d ∧ okD 4 d = true ∧ (rowD d = true → (lensD d).length ≤ 100000 ∧ ∀ n ∈ lensD d, n ≤ 40) := by
  rcases h with h | h
  · refine ⟨.list (ndD ls), .lst (SqL.of h) (dp_nd ls), okD_mk (by rw [ndD_len]; exact hl) (ndD_ok ls 2), fun _ => ?_⟩
    show ((ndD ls).map natD).length ≤ 100000 ∧ ∀ n ∈ (ndD ls).map natD, n ≤ 40
    rw [ndD_nat]
    exact ⟨hl, h40⟩
  · refine ⟨.tuple (ndD ls), .tup (SqT.of h) (dp_nd ls), okD_mk (by rw [ndD_len]; exact hl) (ndD_ok ls 2), fun _ => ?_⟩
    show ((ndD ls).map natD).length ≤ 100000 ∧ ∀ n ∈ (ndD ls).map natD, n ≤ 40
    rw [ndD_nat]
    exact ⟨hl, h40⟩
theorem DpAll.set' {K : PySem.W.Frag} {H : Hp} {v : V} {d : PyData} (hv : Dp K H v d) : ∀ {vs : List V} {ds : List PyData} (k : Nat), DpAll K H vs ds → DpAll K H (vs.set k v) (ds.set k d)
  | _, _, _, .nil => .nil
  | _, _, 0, .cons _ t => .cons hv t
  | _, _, k + 1, .cons h t => .cons h (DpAll.set' hv k t)
theorem sIx_m1 (n : Nat) : HT.sIx n n (some ((n : Int) - 1)) = n - 1 := by
  cases n with
  | zero => rfl
  | succ n =>
    rw [show (((n + 1 : Nat) : Int) - 1) = ((n : Nat) : Int) by omega, HT.sIx_nat]
    omega
theorem cut_m1 (bs : List Nat) : cutV (bs.map nI) none (some (((bs.map nI).length : Nat) - 1 : Int)) = (bs.take (bs.length - 1)).map nI := by
  unfold cutV
  rw [sIx_m1, show HT.sIx (bs.map nI).length 0 none = 0 from rfl, List.drop_zero, Nat.sub_zero, List.length_map, List.map_take]
theorem cut_k (bs : List Nat) (x : Nat) : cutV (bs.map nI) none (some (x : Int)) = (bs.take x).map nI := by
  unfold cutV
  rw [HT.sIx_nat, show HT.sIx (bs.map nI).length 0 none = 0 from rfl, List.drop_zero, Nat.sub_zero, List.map_take, List.length_map]
  rcases Nat.le_total x bs.length with h | h
  · rw [Nat.min_eq_left h]
  · rw [Nat.min_eq_right h, List.take_of_length_le (by simp), List.take_of_length_le (by simpa using h)]
end KB
namespace KB
open PySem PySem.Spec PyProof.Rows L2
/-- a, b = .., two names -/
theorem pg_two {X : Cx} (K : PySem.W.Frag) {i j : Nat} {x y : Str} {px py pos : Pos} {kk : Nat} (hN : X.N.Nodup) (hi : X.N[i]? = some x) (hj : X.N[j]? = some y)
    (hx : Loc X.env.scope x := by first | exact Or.inl rfl | exact Or.inr rfl) (hy : Loc X.env.scope y := by first | exact Or.inl rfl | exact Or.inr rfl)
    (hfx : X.fn x = true ∨ X.env.scope.names.lookup x = some .local := by first | exact .inl rfl | exact .inr rfl | assumption) (hfy : X.fn y = true ∨ X.env.scope.names.lookup y = some .local := by first | exact .inl rfl | exact .inr rfl | assumption)
    (hc : X.calm = true := by rfl) (hK : X.K = K := by rfl) : PG X (.Tuple [.Name x px, .Name y py] kk pos) (gTup K 2 (gCons (gName i) (gCons (gName j) gNil))) := by
  subst hK
  exact pg_tup hc (pgs_cons (pg_name hN hi hx hfx) (pgs_cons (pg_name hN hj hy hfy) pgs_nil))
end KB
namespace KB
open PySem PySem.Spec PyProof.Rows L2
/-- o.m(e) of a built-in, within a comprehension -/
theorem pe_bmC {X : Cx} (K : PySem.W.Frag) {o e : Expr} {es : List Expr} {to : TE} {t : TA} {name : Str} {apos cpos : Pos} {T id : String} {r : V → List V → Hp → VK → Prop} (pa : PlainAttrs T) (slot : Slot T name id) (hty : typeOf (.builtin id) = pure (.type "method_descriptor")) (hm : MtR X id r) (ho : PE X o to) (ha : PA X (e :: es) t)
    (hbase : attributeBase o name X.env (eval o X.env) = eval o X.env := by rfl)
    (hfew : ((backTo cpos (starEach (e :: es) X.env)).all (fun x => !x.1) && (backToKw cpos (keywordEach [] X.env)).all (fun x => x.1.isSome)
      && decide ((e :: es).length + ([] : List Keyword).length + (if ([] : List Keyword).isEmpty then 0 else 1) < 30)) = true := by rfl)
    (hline : (apos.endLine == cpos.line) = true := by rfl) (hs : starEach (e :: es) X.env = (false, eval e X.env) :: starEach es X.env := by rfl) (hplain : (backTo cpos (starEach es X.env)).any (·.1) = false := by rfl)
    (hK : X.K = K := by rfl) : PE X (.Call (.Attribute o name apos) (e :: es) [] cpos) (tBM K T r to t) := by
  subst hK
  exact pe_bm pa slot hty hm ho ha hbase hfew hline hs hplain
end KB
namespace KB
open PySem PySem.Spec PyProof.Rows L2
theorem ixN_m1 {n : Nat} (h : 0 < n) : ixN n (-1) = some (n - 1) := by
  unfold ixN
  rw [if_neg (by decide), if_pos (by omega)]
  congr 1
  omega
theorem at_m1 {ls : List Nat} {l : Nat} (h : ls[ls.length - 1]? = some l) : atI (ls.map nI) (-1) = some (nI l) := by
  have hp : 0 < ls.length := by
    have := (List.getElem?_eq_some_iff.mp h).1
    omega
  unfold atI
  rw [List.length_map, ixN_m1 hp]
  show (ls.map nI)[ls.length - 1]? = _
  rw [List.getElem?_map, h]
  rfl
end KB

/-! enumerate of a list or a tuple, told once; codes of lengths -/
namespace KB
open PySem PySem.Spec PyProof.Rows L2
/-- a walk over the numbered items of a list or a tuple that stands -/
structure LikeEn (J : It) (S : Hp → Prop) (xs : List V) : Prop where
  mono : ∀ H H', Same H H' → S H → S H'
  go : ∀ i H, S H → i < xs.length → J.go i H
  yld : ∀ i H v H', S H → J.yld i H v H' → ∃ T x, v = .ref T ∧ H T = none ∧ H' = upd H T (.tup [.int (i : Nat), x]) ∧ xs[i]? = some x
  stop : ∀ H, S H → J.stop xs.length H
theorem likeEnL (K : PySem.W.Frag) (a : Addr) (xs : List V) : LikeEn (Ite K a) (fun H => SqL K H a xs) xs :=
  ⟨fun _ _ s q => s.seq q, fun i _ q h => ⟨xs, xs[i], q, by simp [h]⟩, fun _ _ _ _ q y => by
    obtain ⟨T, x, e, h1, h2, h3⟩ := y
    exact ⟨T, x, e, h1, h2, h3 xs q⟩, fun _ q => ⟨xs, q, Nat.le_refl _⟩⟩
theorem likeEnT (K : PySem.W.Frag) (a : Addr) (xs : List V) : LikeEn (Itet K a) (fun H => SqT K H a xs) xs :=
  ⟨fun _ _ s q => sameT s q, fun i _ q h => ⟨xs, xs[i], q, by simp [h]⟩, fun _ _ _ _ q y => by
    obtain ⟨T, x, e, h1, h2, h3⟩ := y
    exact ⟨T, x, e, h1, h2, h3 xs q⟩, fun _ q => ⟨xs, q, rfl⟩⟩
def iEnumJ (K : PySem.W.Frag) (ta : TA) : TI := fun σ H R => ta σ H fun vs H1 => ∃ a xs, vs = [.ref a] ∧ (SqL K H1 a xs ∨ SqT K H1 a xs) ∧ ∀ J S, LikeEn J S xs → S H1 → R J H1
theorem pi_enumJ {X : Cx} {e : Expr} {ta : TA} {p pos tpos : Pos} {elts : List Expr} {kk : Nat} (hg : Gl X "enumerate") (hm : X.mg "enumerate" = none) (ha : PA X [e] ta) (hs : starEach [e] X.env = [(false, eval e X.env)] := by rfl) :
    PI X (.Tuple elts kk tpos) (.Call (.Name "enumerate" p) [e] [] pos) (iEnumJ X.K ta) := by
  refine ⟨fun pins s σ H R I h => ?_⟩
  refine Call_ (ld_blt I hg hm boot_enumerate (PyProof.Rows.callWith_type1 (thn (ha.run pos pins s σ H _ I h) fun us s1 ⟨vs, H1, I1, r1, q1⟩ => ?_) hs rfl))
  obtain ⟨a, xs, ex, hs', q⟩ := q1
  subst ex
  have fr : ∀ b, b ∈ [s1.heap.objs.size + 1, s1.heap.objs.size] → FpOk X pins H1 b := fun b hb => by
    have hle : s1.heap.objs.size ≤ b := by
      rcases (by simpa using hb : b = s1.heap.objs.size + 1 ∨ b = s1.heap.objs.size) with z | z
      · rw [z]; exact Nat.le_add_right _ _
      · rw [z]; exact Nat.le_refl _
    exact I1.fpOk hle (I1.hok.fresh hle)
  cases r1 with
  | cons r rr =>
    cases rr
    cases r
    rcases hs' with hq | hq
    · have q' := q _ _ (likeEnL X.K a xs) hq
      obtain ⟨its, rv, p', hz⟩ := I1.list hq
      refine call_enumerate_list p'.isList fun h' he hit hsz hk => wpAny_pyIter_enum he ?_
      have I2 : Inv X pins σ H1 { s1 with heap := h' } := I1.kept (t' := s1.toks) hk
      exact ⟨s1.heap.objs.size + 1, [s1.heap.objs.size + 1, s1.heap.objs.size], _, _, H1, rfl, I2, turn_enum a (s1.heap.objs.size + 1) s1.heap.objs.size, ⟨⟨.none, he⟩, hit, Nat.succ_ne_self _⟩, fr, q'⟩
    · have q' := q _ _ (likeEnT X.K a xs) hq
      obtain ⟨its, rv, p', hz⟩ := I1.tuple hq
      have al : a < s1.heap.objs.size := by obtain ⟨o, g, _⟩ := id p'; exact Heap.lt_size g
      refine call_enumT p' fun h' he hit hk => wpAny_pyIter_enum he ?_
      have I2 : Inv X pins σ H1 { s1 with heap := h' } := I1.kept (t' := s1.toks) hk
      exact ⟨s1.heap.objs.size + 1, [s1.heap.objs.size + 1, s1.heap.objs.size], _, _, H1, rfl, I2, turn_enumT a (s1.heap.objs.size + 1) s1.heap.objs.size, ⟨⟨.none, he⟩, hit, Nat.succ_ne_self _, al, Nat.lt_succ_of_lt al⟩, fr, q'⟩
theorem for_enumJ {J : It} {S : Hp → Prop} {xs : List V} (L : LikeEn J S xs) {g : TG} {tb : TS} {D : Ends} {σ : L2.St} {H : Hp} (Pv : Nat → L2.St → Hp → Prop) (h0 : Pv 0 σ H) (hl : ∀ i σ H, i ≤ xs.length → Pv i σ H → S H)
    (hs : ∀ i x σ H, xs[i]? = some x → Pv i σ H → ∀ T, H T = none → g (.ref T) σ (upd H T (.tup [.int (i : Nat), x])) fun σ2 H2 => tb { D with nx := Pv (i + 1), ct := Pv (i + 1), bk := D.nx } σ2 H2) (hd : ∀ σ H, Pv xs.length σ H → D.nx σ H) :
    ∃ W : Nat → Nat → L2.St → Hp → Prop, (∃ m, W 0 m σ H) ∧ ∀ i m σ H, W i m σ H →
      (J.stop i H ∧ D.nx σ H) ∨ (J.go i H ∧ ∃ N : L2.St → Hp → Prop, (∀ σ' H', N σ' H' → ∃ m', m' < m ∧ W (i + 1) m' σ' H') ∧ ∀ v H', J.yld i H v H' → g v σ H' fun σ2 H2 => tb { D with nx := N, ct := N, bk := D.nx } σ2 H2) := by
  refine ⟨fun i m σ H => m = xs.length - i ∧ i ≤ xs.length ∧ Pv i σ H, ⟨xs.length, by simp, Nat.zero_le _, h0⟩, ?_⟩
  rintro i m σ H ⟨rfl, hi, p⟩
  have q := hl i σ H hi p
  by_cases hlt : i < xs.length
  · refine .inr ⟨L.go i H q hlt, Pv (i + 1), fun σ' H' p' => ⟨xs.length - (i + 1), by omega, rfl, hlt, p'⟩, fun v H' y => ?_⟩
    obtain ⟨T, x, rfl, hT, rfl, hx⟩ := L.yld i H v H' q y
    exact hs i x σ H hx p T hT
  · have e : i = xs.length := by omega
    subst e
    exact .inl ⟨L.stop H q, hd σ H p⟩
theorem lc_enumJ {J : It} {S : Hp → Prop} {xs : List V} (L : LikeEn J S xs) {g : TG} {tt : TT} {te : TE} {vs : List Nat} {σ : L2.St} {H1 : Hp} {D : Addr} {Qd : Hp → Prop} (Pv : Nat → Hp → Prop) (h0 : Pv 0 (upd H1 D (.lst []))) (hl : ∀ i H, i ≤ xs.length → Pv i H → S H)
    (hs : ∀ i x H, xs[i]? = some x → Pv i H → ∀ T, H T = none → g (.ref T) (wipe σ vs) (upd H T (.tup [.int (i : Nat), x])) fun σ2 H2 => wipe σ2 vs = wipe σ vs ∧ tt σ2 H2 fun b H3 =>
      if b = true then te σ2 H3 fun y H4 => ∃ acc, H4 D = some (.lst acc) ∧ acc.length < sizeLine ∧ Pv (i + 1) (upd H4 D (.lst (acc ++ [y]))) else Pv (i + 1) H3) (hd : ∀ H, Pv xs.length H → Qd H) :
    ∃ W : Nat → Nat → Hp → Prop, (∃ m, W 0 m (upd H1 D (.lst []))) ∧ ∀ i m H, W i m H →
      (J.stop i H ∧ Qd H) ∨ (J.go i H ∧ ∃ Nx : Hp → Prop, (∀ H', Nx H' → ∃ m', m' < m ∧ W (i + 1) m' H') ∧ ∀ x H', J.yld i H x H' → g x (wipe σ vs) H' fun σ2 H2 => wipe σ2 vs = wipe σ vs ∧ tt σ2 H2 fun b H3 =>
        if b = true then te σ2 H3 fun y H4 => ∃ acc, H4 D = some (.lst acc) ∧ acc.length < sizeLine ∧ Nx (upd H4 D (.lst (acc ++ [y]))) else Nx H3) := by
  refine ⟨fun i m H => m = xs.length - i ∧ i ≤ xs.length ∧ Pv i H, ⟨xs.length, by simp, Nat.zero_le _, h0⟩, ?_⟩
  rintro i m H ⟨rfl, hi, p⟩
  have q := hl i H hi p
  by_cases hlt : i < xs.length
  · refine .inr ⟨L.go i H q hlt, Pv (i + 1), fun H' p' => ⟨xs.length - (i + 1), by omega, rfl, hlt, p'⟩, fun v H' y => ?_⟩
    obtain ⟨T, x, rfl, hT, rfl, hx⟩ := L.yld i H v H' q y
    exact hs i x H hx p T hT
  · have e : i = xs.length := by omega
    subst e
    exact .inl ⟨L.stop H q, hd H p⟩

/-! ### pairs in order -/
def kOf (H : Hp) : V → Int × Int
  | .ref t => match H t with
    | some (.tup [.int a, .int b]) => (a, b)
    | _ => (0, 0)
  | _ => (0, 0)
theorem kOf_at {H : Hp} {t : Addr} {a b : Int} (h : H t = some (.tup [.int a, .int b])) : kOf H (.ref t) = (a, b) := by
  show (match H t with | some (.tup [.int a, .int b]) => (a, b) | _ => (0, 0)) = _
  rw [h]
def prs (ls : List Nat) : List (Int × Int) := (List.range ls.length).map fun j => ((ls.getD j 0 : Nat), (j : Int))
theorem prs_len (ls : List Nat) : (prs ls).length = ls.length := by simp [prs]
theorem prs_get {ls : List Nat} {j l : Nat} (h : ls[j]? = some l) : (prs ls)[j]? = some ((l : Int), (j : Int)) := by
  have hj := (List.getElem?_eq_some_iff.mp h).1
  unfold prs
  rw [List.getElem?_map, List.getElem?_range hj]
  show some (((ls.getD j 0 : Nat) : Int), (j : Int)) = _
  rw [List.getD_eq_getElem?_getD, h]
  rfl
def IsOrd (ls : List Nat) (ks : List (Int × Int)) : Prop := ks.Perm (prs ls) ∧ ks.Pairwise (fun p q => SrtO.lexB q p = false)
theorem IsOrd.uniq {ls : List Nat} {ks ks' : List (Int × Int)} (h : IsOrd ls ks) (h' : IsOrd ls ks') : ks = ks' := pairs_one _ _ (h.1.trans h'.1.symm) h.2 h'.2
theorem IsOrd.mem {ls : List Nat} {ks : List (Int × Int)} (h : IsOrd ls ks) {p : Int × Int} (hp : p ∈ ks) : ∃ l k : Nat, p = ((l : Int), (k : Int)) ∧ ls[k]? = some l := by
  have := h.1.mem_iff.mp hp
  unfold prs at this
  obtain ⟨j, hj, rfl⟩ := List.mem_map.mp this
  have hj' := List.mem_range.mp hj
  refine ⟨_, j, rfl, ?_⟩
  rw [List.getD_eq_getElem?_getD, List.getElem?_eq_getElem hj']
  rfl
theorem IsOrd.len {ls : List Nat} {ks : List (Int × Int)} (h : IsOrd ls ks) : ks.length = ls.length := by rw [h.1.length_eq, prs_len]
theorem prs_fst (ls : List Nat) : (prs ls).map (fun p => p.1.toNat) = ls := by
  unfold prs
  rw [List.map_map]
  refine List.ext_getElem? fun j => ?_
  rw [List.getElem?_map]
  by_cases h : j < ls.length
  · rw [List.getElem?_range h, List.getElem?_eq_getElem h]
    show some ((((ls.getD j 0 : Nat) : Int)).toNat) = _
    rw [Int.toNat_natCast, List.getD_eq_getElem?_getD, List.getElem?_eq_getElem h]
    rfl
  · rw [List.getElem?_eq_none (by simpa using h), List.getElem?_eq_none (by omega)]
    rfl
theorem IsOrd.kr {ls : List Nat} {ks : List (Int × Int)} (h : IsOrd ls ks) : kr (ks.map fun p => p.1.toNat) = kr ls := by
  have := kr_perm (h.1.map fun p => p.1.toNat)
  rw [prs_fst] at this
  exact this
theorem IsOrd.fst {ls : List Nat} {ks : List (Int × Int)} (h : IsOrd ls ks) : (ks.map fun p => p.1.toNat).Pairwise (· ≤ ·) := by
  rw [List.pairwise_map]
  refine h.2.imp fun {p q} hpq => ?_
  have := SrtO.lexB_no.mp hpq
  omega
theorem ord_of {H : Hp} {xs ys : List V} {ls : List Nat} (hx : xs.map (kOf H) = prs ls) (h1 : SrtO.Srtd (ltP (kOf H)) ys) (h2 : ys.Perm xs) : IsOrd ls (ys.map (kOf H)) := by
  refine ⟨by rw [← hx]; exact h2.map _, ?_⟩
  rw [List.pairwise_map]
  exact h1

/-! ### the words of a code -/
def fillW : List (Int × Int) → Nat → List Str → List Str
  | [], _, ws => ws
  | p :: r, used, ws => fillW r (used + 2 ^ (40 - p.1.toNat)) (ws.set p.2.toNat (wordS p.1.toNat (used / 2 ^ (40 - p.1.toNat))))
def codeS (ks : List (Int × Int)) (n : Nat) : List Str := fillW ks 0 (List.replicate n "")
structure Cd (ks : List (Int × Int)) (n i used : Nat) (ws : List Str) : Prop where
  len : ws.length = n
  sum : used = kr ((ks.map fun p => p.1.toNat).take i)
  fil : fillW (ks.drop i) used ws = codeS ks n
theorem Cd.ini (ks : List (Int × Int)) (n : Nat) : Cd ks n 0 0 (List.replicate n "") := ⟨List.length_replicate, by simp [kr], rfl⟩
theorem Cd.nxt {ks : List (Int × Int)} {n i used : Nat} {ws : List Str} (C : Cd ks n i used ws) {l k : Nat} (h : ks[i]? = some ((l : Int), (k : Int))) : Cd ks n (i + 1) (used + 2 ^ (40 - l)) (ws.set k (wordS l (used / 2 ^ (40 - l)))) := by
  obtain ⟨hi, he⟩ := List.getElem?_eq_some_iff.mp h
  refine ⟨by rw [List.length_set]; exact C.len, ?_, ?_⟩
  · rw [kr_take (l := l) (by rw [List.getElem?_map, h]; rfl), C.sum]
  · have := C.fil
    rw [List.drop_eq_getElem_cons hi, he] at this
    exact this
theorem Cd.fin {ks : List (Int × Int)} {n used : Nat} {ws : List Str} (C : Cd ks n ks.length used ws) : ws = codeS ks n := by
  have := C.fil
  rw [List.drop_length] at this
  exact this
theorem Cd.room {ks : List (Int × Int)} {n i used : Nat} {ws : List Str} (C : Cd ks n i used ws) {l k : Nat} (h : ks[i]? = some ((l : Int), (k : Int))) (hk : kr (ks.map fun p => p.1.toNat) ≤ 2 ^ 40) : used + 2 ^ (40 - l) ≤ 2 ^ 40 := by
  have e := kr_take (ls := ks.map fun p => p.1.toNat) (i := i) (l := l) (by rw [List.getElem?_map, h]; rfl)
  have s := C.sum
  have : kr ((ks.map fun p => p.1.toNat).take (i + 1)) ≤ kr (ks.map fun p => p.1.toNat) := by
    have e2 := List.take_append_drop (i + 1) (ks.map fun p => p.1.toNat)
    have := kr_app ((ks.map fun p => p.1.toNat).take (i + 1)) ((ks.map fun p => p.1.toNat).drop (i + 1))
    rw [e2] at this
    omega
  omega
theorem val_step {used value before l : Nat} (e : used = value * 2 ^ (40 - before)) (hb : before ≤ l) (h40 : l ≤ 40) (hr : used + 2 ^ (40 - l) ≤ 2 ^ 40) :
    value * 2 ^ (l - before) = used / 2 ^ (40 - l) ∧ value * 2 ^ (l - before) < 2 ^ l ∧ used + 2 ^ (40 - l) = (value * 2 ^ (l - before) + 1) * 2 ^ (40 - l) := by
  have p : 0 < 2 ^ (40 - l) := Nat.pow_pos (by decide)
  have e2 : used = value * 2 ^ (l - before) * 2 ^ (40 - l) := by
    rw [e, Nat.mul_assoc, ← Nat.pow_add]
    congr 2
    omega
  have e3 : (2 : Nat) ^ 40 = 2 ^ l * 2 ^ (40 - l) := by
    rw [← Nat.pow_add]
    congr 1
    omega
  refine ⟨?_, ?_, ?_⟩
  · rw [e2, Nat.mul_div_cancel _ p]
  · rw [e3] at hr
    refine Nat.lt_of_mul_lt_mul_right (a := 2 ^ (40 - l)) ?_
    rw [← e2]
    omega
  · rw [Nat.add_mul, Nat.one_mul, ← e2]
end KB
namespace KB
open PySem PySem.Spec PyProof.Rows L2
theorem pairs_made {H : Hp} {ts : List V} {ls : List Nat} (hl : ts.length = ls.length) (h : ∀ (j : Nat) (y : V), ts[j]? = some y → ∃ (t : Addr) (l : Nat), y = .ref t ∧ ls[j]? = some l ∧ H t = some (.tup [.int (l : Int), .int (j : Int)])) :
    ts.map (kOf H) = prs ls ∧ ∀ x ∈ ts, ∃ t, x = .ref t ∧ H t = some (.tup [.int (kOf H x).1, .int (kOf H x).2]) := by
  constructor
  · refine List.ext_getElem? fun j => ?_
    rw [List.getElem?_map]
    by_cases hj : j < ts.length
    · have e := List.getElem?_eq_getElem hj
      obtain ⟨t, l, ey, hlj, ht⟩ := h j _ e
      rw [e, prs_get hlj, ey]
      exact congrArg some (kOf_at ht)
    · rw [List.getElem?_eq_none (by omega), List.getElem?_eq_none (by rw [prs_len]; omega)]
      rfl
  · intro x hx
    obtain ⟨j, hj, e⟩ := List.getElem_of_mem hx
    obtain ⟨t, l, ey, _, ht⟩ := h j x (by rw [List.getElem?_eq_getElem hj, e])
    exact ⟨t, ey, by rw [ey, kOf_at ht]; exact ht⟩
/-- a heap without one cell -/
def rem (H : Hp) (a : Addr) : Hp := fun b => if b = a then none else H b
theorem rem_self {H : Hp} {a : Addr} : rem H a a = none := by unfold rem; simp
theorem rem_at {H : Hp} {a b : Addr} {o : HO} (h : H b = some o) (ne : b ≠ a) : rem H a b = some o := by unfold rem; rw [if_neg ne]; exact h
theorem rem_same {H : Hp} {a : Addr} : Same (rem H a) H := fun b o e => by
  unfold rem at e
  split at e
  · cases e
  · exact e
theorem same_rem {B H : Hp} {a : Addr} (s : Same B H) (h : B a = none) : Same B (rem H a) := fun b o e => rem_at (s _ _ e) (ne_of_none e h)
theorem rep_flat (n : Nat) (v : V) : (List.replicate n [v]).flatten = List.replicate n v := by
  rw [show ([v] : List V) = List.replicate 1 v from rfl, List.flatten_replicate_replicate, Nat.mul_one]
end KB
namespace KB
open PySem PySem.Spec PyProof.Rows L2
theorem bitsL_take : ∀ (l v m : Nat), m ≤ l → (bitsL l v).take m = bitsL m (v / 2 ^ (l - m))
  | 0, v, m, h => by
    have : m = 0 := by omega
    subst this
    rfl
  | l + 1, v, m, h => by
    have hl := bitsL_len l (v / 2)
    by_cases e : m = l + 1
    · subst e
      rw [Nat.sub_self, Nat.pow_zero, Nat.div_one, List.take_of_length_le (by rw [bitsL_len]; omega)]
    · show (bitsL l (v / 2) ++ [48 + v % 2]).take m = _
      rw [List.take_append_of_le_length (by omega), bitsL_take l (v / 2) m (by omega), Nat.div_div_eq_div_mul, ← Nat.pow_succ', show (l - m).succ = l + 1 - m by omega]
theorem bitsL_inj : ∀ (l v w : Nat), v < 2 ^ l → w < 2 ^ l → bitsL l v = bitsL l w → v = w
  | 0, v, w, hv, hw, _ => by
    have a : v = 0 := by simpa using hv
    have b : w = 0 := by simpa using hw
    rw [a, b]
  | l + 1, v, w, hv, hw, h => by
    have h1 : bitsL l (v / 2) ++ [48 + v % 2] = bitsL l (w / 2) ++ [48 + w % 2] := h
    have h2 := List.append_inj h1 (by rw [bitsL_len, bitsL_len])
    have p : 2 ^ (l + 1) = 2 * 2 ^ l := Nat.pow_succ'
    have e1 := bitsL_inj l (v / 2) (w / 2) (by omega) (by omega) h2.1
    have e2 : 48 + v % 2 = 48 + w % 2 := by simpa using h2.2
    omega
theorem starts_word {l v m u : Nat} (hm : m ≤ l) (hv : v < 2 ^ l) (hu : u < 2 ^ m) : Txt.startswith (wordS l v) (wordS m u) = decide (v / 2 ^ (l - m) = u) := by
  have e : Txt.startswith (wordS l v) (wordS m u) = ((bitsL l v).take m == bitsL m u) := by
    unfold Txt.startswith
    rw [wordS_len, wordS_len, PySem.StrLaws.subAt_eq, wordS_len, List.drop_zero]
    rw [show decide (0 + m ≤ l) = true from decide_eq_true (by omega), Bool.true_and]
    rfl
  rw [e, bitsL_take l v m hm]
  by_cases h : v / 2 ^ (l - m) = u
  · rw [h]
    simp
  · rw [decide_eq_false h]
    have hlt : v / 2 ^ (l - m) < 2 ^ m := by
      rw [Nat.div_lt_iff_lt_mul (Nat.pow_pos (by decide)), ← Nat.pow_add, show m + (l - m) = l by omega]
      exact hv
    refine beq_eq_false_iff_ne.mpr fun z => h (bitsL_inj m _ _ hlt hu z)
/-- the words ahead -/
def tkS (ks : List (Int × Int)) (j : Nat) : Str := wordS ((ks.map fun p => p.1.toNat).getD j 0) (kr ((ks.map fun p => p.1.toNat).take j) / 2 ^ (40 - (ks.map fun p => p.1.toNat).getD j 0))
def ua (fs : List Nat) (j : Nat) : Nat := kr (fs.take j)
theorem ua_succ {fs : List Nat} {j l : Nat} (h : fs[j]? = some l) : ua fs (j + 1) = ua fs j + 2 ^ (40 - l) := kr_take h
theorem ua_dvd {fs : List Nat} (hs : fs.Pairwise (· ≤ ·)) {l i : Nat} (h : fs[i]? = some l) : ∀ j, j ≤ i → 2 ^ (40 - l) ∣ ua fs j
  | 0, _ => by simp [ua, kr]
  | j + 1, hj => by
    obtain ⟨hi, ei⟩ := List.getElem?_eq_some_iff.mp h
    have e := List.getElem?_eq_getElem (show j < fs.length by omega)
    rw [ua_succ e]
    refine Nat.dvd_add (ua_dvd hs h j (by omega)) (Nat.pow_dvd_pow 2 ?_)
    have : fs[j] ≤ l := by
      rw [← ei]
      exact List.pairwise_iff_getElem.mp hs j i (by omega) hi (by omega)
    omega
theorem ua_mono {fs : List Nat} : ∀ {i j : Nat}, i ≤ j → j ≤ fs.length → ua fs i ≤ ua fs j
  | i, 0, h, _ => by
    have : i = 0 := by omega
    subst this
    exact Nat.le_refl _
  | i, j + 1, h, hl => by
    by_cases e : i = j + 1
    · subst e; exact Nat.le_refl _
    · have := ua_mono (fs := fs) (i := i) (j := j) (by omega) (by omega)
      rw [ua_succ (List.getElem?_eq_getElem (show j < fs.length by omega))]
      exact Nat.le_trans this (Nat.le_add_right _ _)
/-- a value in l bits is begun by an earlier word exactly if it lies below what is used -/
theorem begun_iff {fs : List Nat} (hs : fs.Pairwise (· ≤ ·)) (h40 : ∀ n ∈ fs, n ≤ 40) (hk : kr fs ≤ 2 ^ 40) {i l v : Nat} (h : fs[i]? = some l) (hv : v < 2 ^ l) :
    ((List.range i).map fun j => Txt.startswith (wordS l v) (wordS (fs.getD j 0) (ua fs j / 2 ^ (40 - fs.getD j 0)))).any id = decide (v * 2 ^ (40 - l) < ua fs i) := by
  obtain ⟨hi, ei⟩ := List.getElem?_eq_some_iff.mp h
  have hl40 := h40 l (List.mem_of_getElem? h)
  have one : ∀ j, j < i → (Txt.startswith (wordS l v) (wordS (fs.getD j 0) (ua fs j / 2 ^ (40 - fs.getD j 0))) = decide (ua fs j ≤ v * 2 ^ (40 - l) ∧ v * 2 ^ (40 - l) < ua fs (j + 1))) := fun j hj => by
    have hjl : j < fs.length := by omega
    have e := List.getElem?_eq_getElem hjl
    obtain ⟨m, em⟩ : ∃ m, fs[j] = m := ⟨_, rfl⟩
    rw [em] at e
    have gd : fs.getD j 0 = m := by rw [List.getD_eq_getElem?_getD, e]; rfl
    rw [gd]
    have hml : m ≤ l := by
      rw [← em, ← ei]
      exact List.pairwise_iff_getElem.mp hs j i hjl hi hj
    obtain ⟨u, hu⟩ := ua_dvd hs e j (Nat.le_refl _)
    have p : 0 < 2 ^ (40 - m) := Nat.pow_pos (by decide)
    have hsu : ua fs (j + 1) = 2 ^ (40 - m) * (u + 1) := by rw [ua_succ e, hu, Nat.mul_add, Nat.mul_one]
    have hle : ua fs (j + 1) ≤ 2 ^ 40 := by
      have h1 := ua_mono (fs := fs) (i := j + 1) (j := fs.length) (by omega) (Nat.le_refl _)
      have : ua fs fs.length = kr fs := by unfold ua; rw [List.take_length]
      omega
    have e40 : (2 : Nat) ^ 40 = 2 ^ (40 - m) * 2 ^ m := by
      rw [← Nat.pow_add]
      congr 1
      omega
    have hu2 : u < 2 ^ m := by
      rw [hsu, e40] at hle
      have := Nat.le_of_mul_le_mul_left hle p
      omega
    have ep : 2 ^ (40 - m) = 2 ^ (40 - l) * 2 ^ (l - m) := by
      rw [← Nat.pow_add]
      congr 1
      omega
    have pl : 0 < 2 ^ (40 - l) := Nat.pow_pos (by decide)
    have plm : 0 < 2 ^ (l - m) := Nat.pow_pos (by decide)
    rw [hu, Nat.mul_div_cancel_left _ p, starts_word hml hv hu2, hsu]
    refine decide_eq_decide.mpr ?_
    rw [ep, Nat.mul_assoc, Nat.mul_assoc, Nat.mul_comm v]
    constructor
    · intro z
      have := (Nat.div_eq_iff plm).mp z
      refine ⟨Nat.mul_le_mul_left _ ?_, Nat.mul_lt_mul_of_pos_left ?_ pl⟩
      · rw [Nat.mul_comm]; omega
      · rw [Nat.mul_comm, Nat.add_mul]; omega
    · rintro ⟨z1, z2⟩
      have z1' := Nat.le_of_mul_le_mul_left z1 pl
      have z2' := Nat.lt_of_mul_lt_mul_left z2
      refine (Nat.div_eq_iff plm).mpr ?_
      rw [Nat.mul_comm] at z1'
      rw [Nat.mul_comm, Nat.add_mul] at z2'
      omega
  rw [List.any_map]
  by_cases hlt : v * 2 ^ (40 - l) < ua fs i
  · rw [decide_eq_true hlt]
    have ex : ∀ n, n ≤ i → v * 2 ^ (40 - l) < ua fs n → ∃ j, j < n ∧ ua fs j ≤ v * 2 ^ (40 - l) ∧ v * 2 ^ (40 - l) < ua fs (j + 1) := by
      intro n
      induction n with
      | zero => intro _ z; simp [ua, kr] at z
      | succ n ih =>
        intro hn z
        by_cases y : v * 2 ^ (40 - l) < ua fs n
        · obtain ⟨j, h1, h2⟩ := ih (by omega) y
          exact ⟨j, by omega, h2⟩
        · exact ⟨n, Nat.lt_succ_self _, by omega, z⟩
    obtain ⟨j, hj, h2⟩ := ex i (Nat.le_refl _) hlt
    refine List.any_eq_true.mpr ⟨j, List.mem_range.mpr hj, ?_⟩
    show Txt.startswith _ _ = true
    rw [one j hj]
    exact decide_eq_true h2
  · rw [decide_eq_false hlt]
    refine List.any_eq_false.mpr fun j hj => ?_
    have hj' := List.mem_range.mp hj
    show ¬ Txt.startswith _ _ = true
    rw [one j hj']
    intro z
    have := of_decide_eq_true z
    have := ua_mono (fs := fs) (i := j + 1) (j := i) (by omega) (by omega)
    omega
end KB
namespace KB
open PySem PySem.Spec PyProof.Rows L2
theorem fillW_len : ∀ (ks : List (Int × Int)) (u : Nat) (ws : List Str), (fillW ks u ws).length = ws.length
  | [], _, _ => rfl
  | p :: r, u, ws => by
    show (fillW r _ _).length = _
    rw [fillW_len r, List.length_set]
theorem codeS_len (ks : List (Int × Int)) (n : Nat) : (codeS ks n).length = n := by
  unfold codeS
  rw [fillW_len, List.length_replicate]
end KB

namespace KB
open PySem PySem.Spec PyProof.Rows L2
/-! ### the box: the tape of the later stages; B is all that stands beside it -/
structure Bx (B H : Hp) (t : Addr) (c : Nat) : Prop where
  same : Same B H
  bt : B t = none
  ex : ∃ (g : Addr) (gs : List Int) (j : Nat) (w sd ct : Int), B g = none ∧ t ≠ g ∧ H t = some (.lst [.ref g, .int j, .int w, .int sd, .int ct]) ∧ H g = some (.lst (gs.map V.int)) ∧
    gs.length ≤ 63 ∧ j ≤ 63 ∧ 0 ≤ sd ∧ sd < 2147483647 ∧ 0 ≤ ct ∧ ct ≤ (c : Int)
theorem Bx.le {B H : Hp} {t : Addr} {c d : Nat} (T : Bx B H t c) (h : c ≤ d) : Bx B H t d := by
  obtain ⟨s, b, g, gs, j, w, sd, ct, h1, h2, h3, h4, h5, h5', h6, h7, h8, h9⟩ := T
  exact ⟨s, b, g, gs, j, w, sd, ct, h1, h2, h3, h4, h5, h5', h6, h7, h8, by omega⟩
theorem Bx.new {B H : Hp} {t p : Addr} {c : Nat} {o : HO} (T : Bx B H t c) (h : H p = none) : Bx (upd B p o) (upd H p o) t c := by
  obtain ⟨s, b, g, gs, j, w, sd, ct, h1, h2, h3, h4, h5⟩ := T
  have e1 : t ≠ p := ne_of_none h3 h
  have e2 : g ≠ p := ne_of_none h4 h
  exact ⟨same_set s, by rw [upd_ne e1]; exact b, g, gs, j, w, sd, ct, by rw [upd_ne e2]; exact h1, h2, by rw [upd_ne e1]; exact h3, by rw [upd_ne e2]; exact h4, h5⟩
theorem Bx.set {B H : Hp} {t p : Addr} {c : Nat} {o o' : HO} (T : Bx B H t c) (h : B p = some o) : Bx (upd B p o') (upd H p o') t c := by
  obtain ⟨s, b, g, gs, j, w, sd, ct, h1, h2, h3, h4, h5⟩ := T
  have e1 : t ≠ p := fun z => by rw [z, h] at b; cases b
  have e2 : g ≠ p := fun z => by rw [z, h] at h1; cases h1
  exact ⟨same_set s, by rw [upd_ne e1]; exact b, g, gs, j, w, sd, ct, by rw [upd_ne e2]; exact h1, h2, by rw [upd_ne e1]; exact h3, by rw [upd_ne e2]; exact h4, h5⟩
theorem Bx.free {B H : Hp} {t p : Addr} {c : Nat} (T : Bx B H t c) (h : H p = none) : B p = none := T.same.free h
theorem Bx.isn {B H : Hp} {t p : Addr} {c : Nat} (T : Bx B H t c) (h : H p = none) : B p = none := T.same.free h
theorem Bx.at {B H : Hp} {t p : Addr} {c : Nat} {o : HO} (T : Bx B H t c) (h : B p = some o) : H p = some o := T.same _ _ h
theorem Bx.inst {B H : Hp} {t x dx C : Addr} {c : Nat} {fs : List (Str × V)} (T : Bx B H t c) (hx : H x = none) (hd : H dx = none) (ne : dx ≠ x) : Bx (upd (upd B dx (.own x)) x (.ins C dx fs)) (upd (upd H dx (.own x)) x (.ins C dx fs)) t c :=
  (T.new hd).new (by rw [upd_ne ne.symm]; exact hx)
theorem Bx.ext {B H H' : Hp} {t : Addr} {c : Nat} (T : Bx B H t c) (s : Same H H') : Bx B H' t c := by
  obtain ⟨sm, b, g, gs, j, w, sd, ct, h1, h2, h3, h4, h5⟩ := T
  exact ⟨sm.trans s, b, g, gs, j, w, sd, ct, h1, h2, s _ _ h3, s _ _ h4, h5⟩
theorem Bx.ext1 {B H H' : Hp} {t p : Addr} {c : Nat} {o : HO} (T : Bx B H t c) (s : Same H H') (hp : H p = none) (ho : H' p = some o) : Bx (upd B p o) H' t c := by
  obtain ⟨sm, b, g, gs, j, w, sd, ct, h1, h2, h3, h4, h5⟩ := T
  have e1 : t ≠ p := ne_of_none h3 hp
  have e2 : g ≠ p := ne_of_none h4 hp
  refine ⟨fun b x e => ?_, by rw [upd_ne e1]; exact b, g, gs, j, w, sd, ct, by rw [upd_ne e2]; exact h1, h2, s _ _ h3, s _ _ h4, h5⟩
  by_cases hb : b = p
  · subst hb
    rw [upd_same] at e
    rw [ho]
    exact e
  · rw [upd_ne hb] at e
    exact s _ _ (sm _ _ e)
/-- the base shrinks to what a heap below it holds -/
theorem Bx.low {A B H : Hp} {t : Addr} {c : Nat} (T : Bx B H t c) (s : Same A B) : Bx A H t c := by
  obtain ⟨sm, b, g, gs, j, w, sd, ct, h1, h5⟩ := T
  exact ⟨s.trans sm, s.free b, g, gs, j, w, sd, ct, s.free h1, h5⟩
/-- what a def leaves that only adds cells: the base takes them up -/
theorem Bx.up {B B' H H' : Hp} {t : Addr} {c : Nat} (T : Bx B H t c) (s : Same H H') (sb : Same B B') (s' : Same B' H') (h : ∀ a, B' a ≠ none → B a = none → H a = none) : Bx B' H' t c := by
  obtain ⟨sm, b, g, gs, j, w, sd, ct, h1, h2, h3, h4, h5⟩ := T
  refine ⟨s', ?_, g, gs, j, w, sd, ct, ?_, h2, s _ _ h3, s _ _ h4, h5⟩
  · exact Classical.byContradiction fun z => by have := h t z b; rw [h3] at this; cases this
  · exact Classical.byContradiction fun z => by have := h g z h1; rw [h4] at this; cases this

/-! ### math.comb -/
section
variable {X : Cx}
def rComb : List V → Hp → VK → Prop := fun vs H Q => ∃ a b : Nat, vs = [.int a, .int b] ∧ a ≤ 18000 ∧ Q (.int (PySem.W.mcComb a b)) H
theorem cr_comb : CallR X (.builtin "math.comb") rComb := by
  intro pins s σ H vs us Q I r h
  obtain ⟨a, b, rfl, ha, q⟩ := h
  obtain ⟨t, u, rfl⟩ := Vals.int2 r
  exact PySem.W.mc_comb (by omega) (by omega) (by omega) (.inr (by omega)) fun _ => ⟨.int _, H, I.tok _, ⟨_, rfl⟩, q⟩
end
end KB

namespace KZ
open PySem
open PySem.Sem (wp)
/-! ### zip's next while the tuple that it gave out is still held, over iterators of any kind -/
section
variable {prog : Program} {w : World} {A : Around} {E : Value → Shared → Prop} {s : Shared} {z TI TO T i1 i2 : Addr} {f : Bool} {oT : Obj} {fp1 fp2 : List Addr} {n1 n2 i : Nat} {P1 P2 : Nat → Value → Prop} {St1 St2 : Nat → Heap → Prop}
theorem next_item_held {Q : Value → Shared → Prop} (S : ZipSep2 z TI TO i1 i2 fp1 fp2) (D1 : Draws prog w A i1 fp1 n1 P1 St1) (D2 : Draws prog w A i2 fp2 n2 P2 St2)
    (hz : IsZipHeld s.heap z TI TO T f) (hT : s.heap.get? T = some oT) (hTI : IsTupOf2 s.heap TI (.ref i1) (.ref i2)) (st1 : St1 i s.heap) (st2 : St2 i s.heap) (hlt1 : i < n1) (hlt2 : i < n2)
    (hQ : ∀ x1 x2 h' tk, P1 i x1 → P2 i x2 → IsZipHeld h' z TI TO T true → St1 (i + 1) h' → St2 (i + 1) h' → IsTupOf2 h' s.heap.objs.size x1 x2 → h'.objs.size = s.heap.objs.size + 1 →
      (∀ c o, c ≠ z → c ≠ i1 → c ≠ i2 → s.heap.get? c = some o → h'.get? c = some o) → Q (.ref s.heap.objs.size) { s with heap := h', toks := tk }) :
    wpAny (model prog w) A (Builtin.«zip.__next__» ⟨[.ref z], []⟩) (fun fin s' => ∃ v, fin = .done (.ret v) ∧ Q v s') E s := by
  obtain ⟨hp, g, d, tk0, os⟩ := s
  show wpAny _ _ (field (.ref z) 2 >>= _) _ _ _
  refine wpAny_bind (wpAny_field hz rfl (x := .bool false) rfl ?_)
  show wpAny _ _ (field (.ref z) 3 >>= _) _ _ _
  refine wpAny_bind (wpAny_field hz rfl (x := .ref TI) rfl ?_)
  refine wpAny_bind (wpAny_seqItems hTI rfl ?_)
  show wpAny _ _ (Builtin.SmallTypes.ownedTupleIsFree (.ref z) >>= _) _ _ _
  refine wpAny_bind (wpAny_tupleHeld_zip hz hT fun h₁ hz₁ hs₁ => ?_)
  replace hs₁ : Heap.SameBut z hp h₁ := hs₁
  simp only [Bool.false_eq_true, if_false]
  refine wpAny_bind ?_
  rw [← Array.forIn_toList]
  simp only [List.forIn_cons, List.forIn_nil]
  refine wpAny_bind (wpAny_bind (wpAny_holding ?_))
  show wpAny _ _ (Builtin.SmallTypes.nextOf (.ref i1) >>= _) _ _ ⟨h₁, g, d, tk0, os⟩
  refine wpAny_bind (D1.item i _ _ _ hlt1 (D1.over st1 hs₁ S.zf1) fun x1 p1 tk1 hx1 sn1 hp1 => wpAny_pure ?_)
  replace hp1 : Heap.SameBut i1 h₁ p1 := hp1
  refine wpAny_pure ?_
  refine wpAny_bind (wpAny_bind (wpAny_holding ?_))
  show wpAny _ _ (Builtin.SmallTypes.nextOf (.ref i2) >>= _) _ _ ⟨p1, g, d, tk1, os⟩
  refine wpAny_bind (D2.item i _ _ _ hlt2 (D2.over (D2.over st2 hs₁ S.zf2) hp1 S.sep1_2) fun x2 p2 tk2 hx2 sn2 hp2 => wpAny_pure ?_)
  replace hp2 : Heap.SameBut i2 p1 p2 := hp2
  refine wpAny_pure (wpAny_pure ?_)
  show wpAny _ _ (newTuple [x1, x2] >>= _) _ _ ⟨p2, g, d, tk2, os⟩
  refine wpAny_bind (wpAny_newTuple ?_)
  have hsz : p2.objs.size = hp.objs.size := by rw [hp2.1, hp1.1, hs₁.1]
  have hz₃ : IsZipHeld p2 z TI TO T true := hp2.extBut _ _ S.zi2 (hp1.extBut _ _ S.zi1 hz₁)
  have hk : ∀ c o, c ≠ z → c ≠ i1 → c ≠ i2 → hp.get? c = some o → p2.get? c = some o := fun c o c1 c2 c3 e => hp2.extBut _ _ c3 (hp1.extBut _ _ c2 (hs₁.extBut _ _ c1 e))
  have hj1 : St1 (i + 1) p2 := D1.over sn1 hp2 S.sep2_1
  refine wpAny_pure ⟨_, rfl, ?_⟩
  show Q (.ref p2.objs.size) ⟨p2.push { cls := .type "tuple", data := .seq #[x1, x2] }, g, d, tk2, os⟩
  have hpp : IsTupOf2 (p2.push { cls := .type "tuple", data := .seq #[x1, x2] }) p2.objs.size x1 x2 := Heap.get?_push_size _ rfl
  have hz4 : (p2.push { cls := .type "tuple", data := .seq #[x1, x2] }).objs.size = p2.objs.size + 1 := Heap.size_push ..
  rw [hsz] at hpp hz4 ⊢
  exact hQ x1 x2 _ tk2 hx1 hx2 (Heap.get?_push_of_some _ hz₃) (D1.frame _ _ _ hj1 fun b _ o e => Heap.get?_push_of_some _ e) (D2.frame _ _ _ sn2 fun b _ o e => Heap.get?_push_of_some _ e) hpp hz4 fun c o c1 c2 c3 e => Heap.get?_push_of_some _ (hk c o c1 c2 c3 e)
theorem next_end_held {Q : Fin → Shared → Prop} (S : ZipSep2 z TI TO i1 i2 fp1 fp2) (D1 : Draws prog w A i1 fp1 n1 P1 St1) (D2 : Draws prog w A i2 fp2 n2 P2 St2)
    (hz : IsZipHeld s.heap z TI TO T f) (hT : s.heap.get? T = some oT) (hTI : IsTupOf2 s.heap TI (.ref i1) (.ref i2)) (st1 : St1 i s.heap) (st2 : St2 i s.heap) (hle1 : i ≤ n1) (hle2 : i ≤ n2) (hend : i = n1 ∨ i = n2)
    (hE : ∀ h' tk e, (∀ c o, c ≠ z → c ≠ i1 → c ≠ i2 → s.heap.get? c = some o → h'.get? c = some o) → (∃ o, h'.get? e = some o ∧ o.cls = .type "StopIteration") → E (.ref e) { s with heap := h', toks := tk }) :
    wpAny (model prog w) A (Builtin.«zip.__next__» ⟨[.ref z], []⟩) Q E s := by
  obtain ⟨hp, g, d, tk0, os⟩ := s
  show wpAny _ _ (field (.ref z) 2 >>= _) _ _ _
  refine wpAny_bind (wpAny_field hz rfl (x := .bool false) rfl ?_)
  show wpAny _ _ (field (.ref z) 3 >>= _) _ _ _
  refine wpAny_bind (wpAny_field hz rfl (x := .ref TI) rfl ?_)
  refine wpAny_bind (wpAny_seqItems hTI rfl ?_)
  show wpAny _ _ (Builtin.SmallTypes.ownedTupleIsFree (.ref z) >>= _) _ _ _
  refine wpAny_bind (wpAny_tupleHeld_zip hz hT fun h₁ hz₁ hs₁ => ?_)
  replace hs₁ : Heap.SameBut z hp h₁ := hs₁
  simp only [Bool.false_eq_true, if_false]
  refine wpAny_bind ?_
  rw [← Array.forIn_toList]
  simp only [List.forIn_cons, List.forIn_nil]
  refine wpAny_bind (wpAny_bind (wpAny_holding ?_))
  show wpAny _ _ (Builtin.SmallTypes.nextOf (.ref i1) >>= _) _ _ ⟨h₁, g, d, tk0, os⟩
  by_cases hlt1 : i < n1
  · refine wpAny_bind (D1.item i _ _ _ hlt1 (D1.over st1 hs₁ S.zf1) fun x1 p1 tk1 hx1 sn1 hp1 => wpAny_pure ?_)
    replace hp1 : Heap.SameBut i1 h₁ p1 := hp1
    have hi2 : i = n2 := by omega
    refine wpAny_pure ?_
    refine wpAny_bind (wpAny_bind (wpAny_holding ?_))
    show wpAny _ _ (Builtin.SmallTypes.nextOf (.ref i2) >>= _) _ _ ⟨p1, g, d, tk1, os⟩
    refine wpAny_bind (D2.done ⟨p1, g, d, tk1, os⟩ _ _ (by rw [← hi2]; exact (D2.over (D2.over st2 hs₁ S.zf2) hp1 S.sep1_2)) fun q e hq he => ?_)
    exact hE q tk1 e (fun c o c1 c2 c3 x => hq _ _ c3 (hp1.extBut _ _ c2 (hs₁.extBut _ _ c1 x))) he
  · have hi1 : i = n1 := by omega
    refine wpAny_bind (D1.done ⟨h₁, g, d, tk0, os⟩ _ _ (by rw [← hi1]; exact (D1.over st1 hs₁ S.zf1)) fun q e hq he => ?_)
    exact hE q tk0 e (fun c o c1 c2 _ x => hq _ _ c2 (hs₁.extBut _ _ c1 x)) he
theorem pyNext_item_held {Q : Option Value → Shared → Prop} (S : ZipSep2 z TI TO i1 i2 fp1 fp2) (D1 : Draws prog w A.in1 i1 fp1 n1 P1 St1) (D2 : Draws prog w A.in1 i2 fp2 n2 P2 St2)
    (hz : IsZipHeld s.heap z TI TO T f) (hT : s.heap.get? T = some oT) (hTI : IsTupOf2 s.heap TI (.ref i1) (.ref i2)) (st1 : St1 i s.heap) (st2 : St2 i s.heap) (hlt1 : i < n1) (hlt2 : i < n2)
    (hQ : ∀ x1 x2 h' tk, P1 i x1 → P2 i x2 → IsZipHeld h' z TI TO T true → St1 (i + 1) h' → St2 (i + 1) h' → IsTupOf2 h' s.heap.objs.size x1 x2 → h'.objs.size = s.heap.objs.size + 1 →
      (∀ c o, c ≠ z → c ≠ i1 → c ≠ i2 → s.heap.get? c = some o → h'.get? c = some o) → Q (some (.ref s.heap.objs.size)) { s with heap := h', toks := tk }) :
    wpAny (model prog w) A (pyNext (.ref z)) Q E s := by
  have hTy : s.TypeIs (.ref z) "zip" := ⟨_, hz, rfl⟩
  unfold pyNext
  exact wpAny_bind (wpAny_attempt (wpAny_callSpecial?_slot (name := Str.ofString "__next__") hTy F.slot_zip_next
    (wpAny_call_entry F.slot_zip_next hTy F.entry_zip_next
      (next_item_held S D1 D2 hz hT hTI st1 st2 hlt1 hlt2 fun x1 x2 h' tk a1 a2 a3 a4 a5 a6 a7 a8 => wpAny_pure (hQ x1 x2 h' tk a1 a2 a3 a4 a5 a6 a7 a8)) (F.args_zip_next_1 _))))
theorem pyNext_end_held {Q : Option Value → Shared → Prop} (S : ZipSep2 z TI TO i1 i2 fp1 fp2) (D1 : Draws prog w A.in1 i1 fp1 n1 P1 St1) (D2 : Draws prog w A.in1 i2 fp2 n2 P2 St2)
    (hz : IsZipHeld s.heap z TI TO T f) (hT : s.heap.get? T = some oT) (hTI : IsTupOf2 s.heap TI (.ref i1) (.ref i2)) (st1 : St1 i s.heap) (st2 : St2 i s.heap) (hle1 : i ≤ n1) (hle2 : i ≤ n2) (hend : i = n1 ∨ i = n2)
    (hQ : ∀ h' tk, (∀ c o, c ≠ z → c ≠ i1 → c ≠ i2 → s.heap.get? c = some o → h'.get? c = some o) → Q none { s with heap := h', toks := tk }) : wpAny (model prog w) A (pyNext (.ref z)) Q E s := by
  have hTy : s.TypeIs (.ref z) "zip" := ⟨_, hz, rfl⟩
  unfold pyNext
  refine wpAny_bind (wpAny_attempt (wpAny_callSpecial?_slot (name := Str.ofString "__next__") hTy F.slot_zip_next
    (wpAny_call_entry F.slot_zip_next hTy F.entry_zip_next (next_end_held S D1 D2 hz hT hTI st1 st2 hle1 hle2 hend fun h' tk e hk he => ?_) (F.args_zip_next_1 _))))
  obtain ⟨o, ho, hc⟩ := he
  refine wpAny_bind (wpAny_isInstance (T := "StopIteration") (b := true) ⟨o, ho, hc⟩ isSubtype_stop ?_)
  exact wpAny_pure (hQ _ _ hk)
end

/-! ### list(zip(..)): the loop that fills the list -/
/-- the tuples that were made: new, apart, of the items in their order -/
structure Made (as bs : Array Value) (base : Nat) (h : Heap) (Ts : List Addr) : Prop where
  nodup : Ts.Nodup
  new : ∀ T ∈ Ts, base ≤ T ∧ T < h.objs.size
  at_ : ∀ (j : Nat) (T : Addr), Ts[j]? = some T → ∃ x y, as[j]? = some x ∧ bs[j]? = some y ∧ IsTupOf2 h T x y
theorem Made.nil {as bs : Array Value} {base : Nat} {h : Heap} : Made as bs base h [] := ⟨List.nodup_nil, (fun T hT => by cases hT), (fun j T hj => by cases hj)⟩
theorem Made.over {as bs : Array Value} {base : Nat} {h h' : Heap} {Ts : List Addr} (M : Made as bs base h Ts) (hs : h.objs.size ≤ h'.objs.size) (k : ∀ b o, base ≤ b → h.get? b = some o → h'.get? b = some o) : Made as bs base h' Ts :=
  ⟨M.nodup, fun T hT => ⟨(M.new T hT).1, Nat.lt_of_lt_of_le (M.new T hT).2 hs⟩, fun j T hj => let ⟨x, y, h1, h2, h3⟩ := M.at_ j T hj; ⟨x, y, h1, h2, k T _ (M.new T (List.mem_of_getElem? hj)).1 h3⟩⟩
theorem Made.push {as bs : Array Value} {base : Nat} {h h' : Heap} {Ts : List Addr} {x y : Value} (M : Made as bs base h Ts) (hb : base ≤ h.objs.size) (hx : as[Ts.length]? = some x) (hy : bs[Ts.length]? = some y) (hT : IsTupOf2 h' h.objs.size x y) (hs : h'.objs.size = h.objs.size + 1) (k : ∀ b o, base ≤ b → h.get? b = some o → h'.get? b = some o) : Made as bs base h' (Ts ++ [h.objs.size]) := by
  have M' := M.over (h' := h') (by omega) k
  refine ⟨List.nodup_append.mpr ⟨M.nodup, by simp, fun a ha b hb' e => ?_⟩, fun T hT' => ?_, fun j T hj => ?_⟩
  · rw [List.mem_singleton.mp hb'] at e
    have := (M.new a ha).2
    rw [e] at this
    exact absurd this (Nat.lt_irrefl _)
  · rcases List.mem_append.mp hT' with q | q
    · exact M'.new T q
    · rw [List.mem_singleton.mp q]
      exact ⟨hb, by rw [hs]; exact Nat.lt_succ_self _⟩
  · by_cases hl : j < Ts.length
    · rw [List.getElem?_append_left hl] at hj
      exact M'.at_ j T hj
    · rw [List.getElem?_append_right (by omega)] at hj
      have e : j - Ts.length = 0 := by
        cases e : j - Ts.length with
        | zero => rfl
        | succ m => rw [e] at hj; cases hj
      rw [e] at hj
      cases hj
      have ej : j = Ts.length := by omega
      rw [ej]
      exact ⟨x, y, hx, hy, hT⟩
/-- how zip stands when its next is to come -/
def Zst (z TI TO i1 i2 : Addr) (St1 St2 : Nat → Heap → Prop) (Ts : List Addr) (h : Heap) : Prop :=
  IsTupOf2 h TI (.ref i1) (.ref i2) ∧ St1 Ts.length h ∧ St2 Ts.length h ∧ ((IsZip h z TI TO .none ∧ ∃ a b, IsTupOf2 h TO a b) ∨ ∃ T f, T ∈ Ts ∧ IsZipHeld h z TI TO T f)
section
variable {prog : Program} {w : World} {A : Around} {z TI TO i1 i2 SS : Addr} {fp1 fp2 : List Addr} {as bs : Array Value} {St1 St2 : Nat → Heap → Prop} {base : Nat} {n : Nat}
theorem zst_over (S : ZipSep2 z TI TO i1 i2 fp1 fp2) (D1 : Draws prog w A i1 fp1 as.size (fun i v => as[i]? = some v) St1) (D2 : Draws prog w A i2 fp2 bs.size (fun i v => bs[i]? = some v) St2) {h h' : Heap} {Ts : List Addr} (st : Zst z TI TO i1 i2 St1 St2 Ts h) (n1 : SS ∉ fp1) (n2 : SS ∉ fp2) (nz : SS ≠ z) (nTI : SS ≠ TI) (nTO : SS ≠ TO)
    (k : ∀ b o, b ≠ SS → h.get? b = some o → h'.get? b = some o) : Zst z TI TO i1 i2 St1 St2 Ts h' := by
  obtain ⟨h1, h2, h3, h4⟩ := st
  refine ⟨k _ _ nTI.symm h1, D1.frame _ _ _ h2 fun b hb o e => k b o (fun q => n1 (q ▸ hb)) e, D2.frame _ _ _ h3 fun b hb o e => k b o (fun q => n2 (q ▸ hb)) e, ?_⟩
  rcases h4 with ⟨hz, a, b, hO⟩ | ⟨T, f, hT, hz⟩
  · exact .inl ⟨k _ _ nz.symm hz, a, b, k _ _ nTO.symm hO⟩
  · exact .inr ⟨T, f, hT, k _ _ nz.symm hz⟩
/-- the next tuple -/
theorem next_pair {E : Value → Shared → Prop} {Q : Option Value → Shared → Prop} {s : Shared} {Ts : List Addr} (S : ZipSep2 z TI TO i1 i2 fp1 fp2) (D1 : Draws prog w A.in1 i1 fp1 as.size (fun i v => as[i]? = some v) St1) (D2 : Draws prog w A.in1 i2 fp2 bs.size (fun i v => bs[i]? = some v) St2) (st : Zst z TI TO i1 i2 St1 St2 Ts s.heap) (M : Made as bs base s.heap Ts)
    (hb : base ≤ s.heap.objs.size) (bz : z < base) (bO : TO < base) (bI : TI < base) (b1 : i1 < base) (b2 : i2 < base) (l1 : Ts.length < as.size) (l2 : Ts.length < bs.size)
    (hQ : ∀ h' tk, Zst z TI TO i1 i2 St1 St2 (Ts ++ [s.heap.objs.size]) h' → Made as bs base h' (Ts ++ [s.heap.objs.size]) → s.heap.objs.size ≤ h'.objs.size → (∀ c o, c ≠ z → c ≠ TO → c ≠ i1 → c ≠ i2 → s.heap.get? c = some o → h'.get? c = some o) → Q (some (.ref s.heap.objs.size)) { s with heap := h', toks := tk }) :
    wpAny (model prog w) A (pyNext (.ref z)) Q E s := by
  obtain ⟨hTI, st1, st2, h4⟩ := st
  have far : ∀ {h' : Heap}, (∀ c o, c ≠ z → c ≠ TO → c ≠ i1 → c ≠ i2 → s.heap.get? c = some o → h'.get? c = some o) → ∀ b o, base ≤ b → s.heap.get? b = some o → h'.get? b = some o := fun k b o hb' e =>
    k b o (Nat.ne_of_gt (Nat.lt_of_lt_of_le bz hb')) (Nat.ne_of_gt (Nat.lt_of_lt_of_le bO hb')) (Nat.ne_of_gt (Nat.lt_of_lt_of_le b1 hb')) (Nat.ne_of_gt (Nat.lt_of_lt_of_le b2 hb')) e
  rcases h4 with ⟨hz, a, b, hO⟩ | ⟨T, f, hT, hz⟩
  · refine wpAny_pyNext_zipD2_item S D1 D2 hz hTI hO st1 st2 l1 l2 fun x1 x2 h' tk p1 p2 hz' _ st1' st2' hT' hs k => ?_
    exact hQ h' tk ⟨k _ _ S.TIz S.TITO S.TIi1 S.TIi2 hTI, by rw [List.length_append]; exact st1', by rw [List.length_append]; exact st2', .inr ⟨_, false, List.mem_append_right _ (List.mem_singleton.mpr rfl), hz'⟩⟩ (M.push hb p1 p2 hT' hs (far k)) (by omega) k
  · obtain ⟨j, hj⟩ := List.mem_iff_getElem?.mp hT
    obtain ⟨x0, y0, _, _, hTt⟩ := M.at_ j T hj
    refine pyNext_item_held S D1 D2 hz hTt hTI st1 st2 l1 l2 fun x1 x2 h' tk p1 p2 hz' st1' st2' hT' hs k => ?_
    have k' : ∀ c o, c ≠ z → c ≠ TO → c ≠ i1 → c ≠ i2 → s.heap.get? c = some o → h'.get? c = some o := fun c o c1 _ c3 c4 e => k c o c1 c3 c4 e
    exact hQ h' tk ⟨k _ _ S.TIz S.TIi1 S.TIi2 hTI, by rw [List.length_append]; exact st1', by rw [List.length_append]; exact st2', .inr ⟨T, true, List.mem_append_left _ hT, hz'⟩⟩ (M.push hb p1 p2 hT' hs (far k')) (by omega) k'
theorem next_none {E : Value → Shared → Prop} {Q : Option Value → Shared → Prop} {s : Shared} {Ts : List Addr} (S : ZipSep2 z TI TO i1 i2 fp1 fp2) (D1 : Draws prog w A.in1 i1 fp1 as.size (fun i v => as[i]? = some v) St1) (D2 : Draws prog w A.in1 i2 fp2 bs.size (fun i v => bs[i]? = some v) St2) (st : Zst z TI TO i1 i2 St1 St2 Ts s.heap) (M : Made as bs base s.heap Ts)
    (l1 : Ts.length ≤ as.size) (l2 : Ts.length ≤ bs.size) (he : Ts.length = as.size ∨ Ts.length = bs.size)
    (hQ : ∀ h' tk, (∀ c o, c ≠ z → c ≠ TO → c ≠ i1 → c ≠ i2 → s.heap.get? c = some o → h'.get? c = some o) → Q none { s with heap := h', toks := tk }) :
    wpAny (model prog w) A (pyNext (.ref z)) Q E s := by
  obtain ⟨hTI, st1, st2, h4⟩ := st
  rcases h4 with ⟨hz, a, b, hO⟩ | ⟨T, f, hT, hz⟩
  · exact wpAny_pyNext_zipD2_end S D1 D2 hz hTI hO st1 st2 l1 l2 he fun h' tk k => hQ h' tk k
  · obtain ⟨j, hj⟩ := List.mem_iff_getElem?.mp hT
    obtain ⟨x0, y0, _, _, hTt⟩ := M.at_ j T hj
    exact pyNext_end_held S D1 D2 hz hTt hTI st1 st2 l1 l2 he fun h' tk k => hQ h' tk fun c o c1 _ c3 c4 e => k c o c1 c3 c4 e
end
section
variable {prog : Program} {w : World} {A : Around} {R : Result → Shared → Prop} {z TI TO i1 i2 SS : Addr} {fp1 fp2 : List Addr} {as bs : Array Value} {St1 St2 : Nat → Heap → Prop} {base : Nat} {n : Nat}
theorem loop_zip (S : ZipSep2 z TI TO i1 i2 fp1 fp2) (D1 : Draws prog w A.in1.in1 i1 fp1 as.size (fun i v => as[i]? = some v) St1) (D2 : Draws prog w A.in1.in1 i2 fp2 bs.size (fun i v => bs[i]? = some v) St2)
    (hn1 : as.size = n) (hn2 : bs.size = n) (hn : n ≤ 1000000) (bz : z < base) (bO : TO < base) (bI : TI < base) (b1 : i1 < base) (b2 : i2 < base) (bS : SS < base) (s1 : SS ∉ fp1) (s2 : SS ∉ fp2) (nz : SS ≠ z) (nTI : SS ≠ TI) (nTO : SS ≠ TO) (ni1 : SS ≠ i1) (ni2 : SS ≠ i2) (res : Value) :
    ∀ (k : Nat) (s : Shared) (Ts : List Addr) (c : Nat), n - Ts.length = k → Ts.length ≤ n → base ≤ s.heap.objs.size → Zst z TI TO i1 i2 St1 St2 Ts s.heap → Made as bs base s.heap Ts → s.heap.get? SS = some { cls := .type "list", dict := none, data := .seq (Ts.map Value.ref).toArray c, slots := #[] } →
    (∀ h' tk Ts' c', (∀ c o, c ≠ z → c ≠ TO → c ≠ i1 → c ≠ i2 → c ≠ SS → s.heap.get? c = some o → h'.get? c = some o) → Made as bs base h' Ts' → Ts'.length = n → h'.get? SS = some { cls := .type "list", dict := none, data := .seq (Ts'.map Value.ref).toArray c', slots := #[] } → R (.ok (.ret res)) { s with heap := h', toks := tk }) →
    codeAny (model prog w) A (.builtin "list.extend.loop" ⟨[.ref SS, .ref z, res], []⟩) R s := by
  have line : (1000000 : Nat) < sizeLine := by rw [sizeLine_eq]; decide
  intro k
  induction k with
  | zero =>
    intro s Ts c hk hle hb st M hS hR
    have hlen : Ts.length = n := by omega
    refine codeAny_builtin F.entry_extend_loop ?_
    rw [Around.under_plainId F.plain_extend_loop _]
    show wpAny _ A.in1 (pyNext (.ref z) >>= _) _ _ s
    refine wpAny_bind (next_none S D1 D2 st M (by omega) (by omega) (.inl (by omega)) fun h' tk k => ?_)
    have kk : ∀ b o, base ≤ b → s.heap.get? b = some o → h'.get? b = some o := fun b o hb' e => k b o (Nat.ne_of_gt (Nat.lt_of_lt_of_le bz hb')) (Nat.ne_of_gt (Nat.lt_of_lt_of_le bO hb')) (Nat.ne_of_gt (Nat.lt_of_lt_of_le b1 hb')) (Nat.ne_of_gt (Nat.lt_of_lt_of_le b2 hb')) e
    have M' : Made as bs base h' Ts := by
      refine ⟨M.nodup, fun T hT => ⟨(M.new T hT).1, ?_⟩, fun j T hj => let ⟨x, y, h1, h2, h3⟩ := M.at_ j T hj; ⟨x, y, h1, h2, kk T _ (M.new T (List.mem_of_getElem? hj)).1 h3⟩⟩
      obtain ⟨j, hj⟩ := List.mem_iff_getElem?.mp hT
      obtain ⟨x, y, _, _, h3⟩ := M.at_ j T hj
      exact Heap.lt_size (kk T _ (M.new T hT).1 h3)
    exact wpAny_pure (hR h' tk Ts c (fun b o c1 c2 c3 c4 _ e => k b o c1 c2 c3 c4 e) M' hlen (k _ _ nz nTO ni1 ni2 hS))
  | succ k ih =>
    intro s Ts c hk hle hb st M hS hR
    refine codeAny_builtin F.entry_extend_loop ?_
    rw [Around.under_plainId F.plain_extend_loop _]
    show wpAny _ A.in1 (pyNext (.ref z) >>= _) _ _ s
    refine wpAny_bind (next_pair S D1 D2 st M hb bz bO bI b1 b2 (by omega) (by omega) fun h' tk st' M' hsz k' => ?_)
    have hS' := k' _ _ nz nTO ni1 ni2 hS
    show wpAny _ A.in1 (updateSeq SS (·.push (.ref s.heap.objs.size)) >>= _) _ _ _
    refine wpAny_bind ?_
    have hlen : (Ts.map Value.ref).toArray.size = Ts.length := by simp
    have oth : ∀ b o, b ≠ SS → h'.get? b = some o → (h'.update SS (Obj.mapSeq (·.push (.ref s.heap.objs.size)))).get? b = some o := fun b o hb' e => (Heap.get?_update_other _ _ (Ne.symm hb')).trans e
    have hS2 := Heap.get?_update_self (Obj.mapSeq (·.push (Value.ref s.heap.objs.size))) hS' rfl
    have hTm : ((Ts ++ [s.heap.objs.size]).map Value.ref).toArray = (Ts.map Value.ref).toArray.push (.ref s.heap.objs.size) := by simp
    refine wpAny_updateSeq hS' rfl (wpAny_pure ⟨plainId_quiet F.plain_extend_loop _, ih { s with heap := h'.update SS (Obj.mapSeq (·.push (.ref s.heap.objs.size))), toks := tk } (Ts ++ [s.heap.objs.size]) _ (by rw [List.length_append]; simp; omega) (by rw [List.length_append]; simp; omega) ?_ ?_ ?_ (by rw [hTm]; exact hS2) fun h'' tk'' Ts' c' k'' M'' hl'' hS'' => ?_⟩)
      (by rw [hlen]; omega) (by show ((Ts.map Value.ref).toArray.push (.ref s.heap.objs.size)).size ≤ sizeLine + 1; rw [Array.size_push, hlen]; omega)
    · show base ≤ (h'.update SS _).objs.size
      rw [Heap.size_update]
      omega
    · exact zst_over S D1 D2 st' s1 s2 nz nTI nTO oth
    · exact M'.over (by rw [Heap.size_update]; exact Nat.le_refl _) fun b o hb' e => oth b o (Nat.ne_of_gt (Nat.lt_of_lt_of_le bS hb')) e
    · exact hR h'' tk'' Ts' c' (fun b o c1 c2 c3 c4 c5 e => k'' b o c1 c2 c3 c4 c5 (oth b o c5 (k' b o c1 c2 c3 c4 e))) M'' hl'' hS''
end
theorem zip_no_len : typeLookup (.type "zip") "__len__" = pure none := am_miss_of_fast (by decide +kernel)
theorem zip_no_hint : typeLookup (.type "zip") "__length_hint__" = pure none := am_miss_of_fast (by decide +kernel)
section
variable {prog : Program} {w : World} {A : Around} {s : Shared} {R : Result → Shared → Prop} {z TI TO i1 i2 : Addr} {fp1 fp2 : List Addr} {as bs : Array Value} {St1 St2 : Nat → Heap → Prop} {n : Nat}
theorem extend_zip (S : ZipSep2 z TI TO i1 i2 fp1 fp2) (D1 : Draws prog w A.in1.in1 i1 fp1 as.size (fun i v => as[i]? = some v) St1) (D2 : Draws prog w A.in1.in1 i2 fp2 bs.size (fun i v => bs[i]? = some v) St2)
    (hn1 : as.size = n) (hn2 : bs.size = n) (hn : n ≤ 1000000) (SS : Addr) (bz : z < SS) (bO : TO < SS) (bI : TI < SS) (b1 : i1 < SS) (b2 : i2 < SS) (bS : SS < s.heap.objs.size) (s1 : SS ∉ fp1) (s2 : SS ∉ fp2) (res : Value) (c₀ : Nat)
    (hz : IsZip s.heap z TI TO .none) (hO : ∃ a b, IsTupOf2 s.heap TO a b) (hTI : IsTupOf2 s.heap TI (.ref i1) (.ref i2)) (st1 : St1 0 s.heap) (st2 : St2 0 s.heap)
    (hS : s.heap.get? SS = some { cls := .type "list", data := .seq #[] c₀ })
    (hR : ∀ h' tk Ts' c', (∀ c o, c ≠ z → c ≠ TO → c ≠ i1 → c ≠ i2 → c ≠ SS → s.heap.get? c = some o → h'.get? c = some o) → Made as bs (SS + 1) h' Ts' → Ts'.length = n → h'.get? SS = some { cls := .type "list", dict := none, data := .seq (Ts'.map Value.ref).toArray c', slots := #[] } → R (.ok (.ret res)) { s with heap := h', toks := tk }) :
    wpAny (model prog w) A.in1 (Builtin.List.listExtendWith (.ref SS) (.ref z) res)
      (fun fin s' => match fin with | .done f => R (.ok f) s' | .again c' => c'.quiet = true ∧ codeAny (model prog w) A c' R s') (fun e s' => R (.error e) s') s := by
  have hSz : SS ≠ z := Nat.ne_of_gt bz
  have hT : s.TypeIs (.ref z) "zip" := ⟨_, hz, rfl⟩
  unfold Builtin.List.listExtendWith
  refine wpAny_bind (wpAny_typeOf hT ?_)
  have h1 : Builtin.List.listSameRef (.ref SS) (.ref z) = false := by simp [Builtin.List.listSameRef, hSz]
  have h2 : (Value.type "zip" == Value.type "list") = false := by decide
  have h3 : (Value.type "zip" == Value.type "tuple") = false := by decide
  simp only [h1, h2, h3, Bool.or_false, Bool.false_eq_true, if_false]
  refine wpAny_bind (wpAny_pyIter_zip hz ?_)
  refine wpAny_bind (wpAny_holding ?_)
  unfold Builtin.List.listLengthHint
  refine wpAny_bind (wpAny_specialOf hT zip_no_len ?_)
  show wpAny _ A.in1 (specialOf (Value.ref z) (Str.ofString "__length_hint__") >>= _) _ _ _
  refine wpAny_bind (wpAny_specialOf hT zip_no_hint ?_)
  refine wpAny_pure ?_
  show wpAny _ A.in1 (rule "list.extend.makes-room" >>= fun _ => Builtin.List.listTouch (.ref SS) >>= fun _ =>
    again (.builtin "list.extend.loop" ⟨[.ref SS, .ref z, res], []⟩)) _ _ _
  refine wpAny_bind (wpAny_rule ?_)
  refine wpAny_bind ?_
  show wpAny _ A.in1 (updateSeq SS (·.push .none) >>= fun _ => updateSeq SS (·.pop)) _ _ _
  refine wpAny_bind (wpAny_updateSeq hS rfl ?_)
  have hS₂ := Heap.get?_update_self (Obj.mapSeq (·.push Value.none)) hS rfl
  refine wpAny_updateSeq (hz := by seq_fits) hS₂ rfl ?_
  have hS₃ := Heap.get?_update_self (Obj.mapSeq (·.pop)) hS₂ rfl
  have oth : ∀ b o, b ≠ SS → s.heap.get? b = some o → ((s.heap.update SS (Obj.mapSeq (·.push Value.none))).update SS (Obj.mapSeq (·.pop))).get? b = some o :=
    fun b o hb e => (Heap.get?_update_other _ _ (Ne.symm hb)).trans ((Heap.get?_update_other _ _ (Ne.symm hb)).trans e)
  have st0 : Zst z TI TO i1 i2 St1 St2 [] s.heap := ⟨hTI, st1, st2, .inl ⟨hz, hO⟩⟩
  have hsz : ((s.heap.update SS (Obj.mapSeq (·.push Value.none))).update SS (Obj.mapSeq (·.pop))).objs.size = s.heap.objs.size := by rw [Heap.size_update, Heap.size_update]
  refine wpAny_pure ⟨plainId_quiet F.plain_extend_loop _, loop_zip (base := SS + 1) S D1 D2 hn1 hn2 hn (Nat.lt_succ_of_lt bz) (Nat.lt_succ_of_lt bO) (Nat.lt_succ_of_lt bI) (Nat.lt_succ_of_lt b1) (Nat.lt_succ_of_lt b2) (Nat.lt_succ_self _) s1 s2 hSz (Nat.ne_of_gt bI) (Nat.ne_of_gt bO) (Nat.ne_of_gt b1) (Nat.ne_of_gt b2) res n _ [] _ rfl (Nat.zero_le _) (by show SS + 1 ≤ Array.size _; rw [hsz]; exact bS) (zst_over S D1 D2 st0 s1 s2 hSz (Nat.ne_of_gt bI) (Nat.ne_of_gt bO) oth) Made.nil hS₃ fun h' tk Ts' c' k M hl hS' => ?_⟩
  exact hR h' tk Ts' c' (fun b o c1 c2 c3 c4 c5 e => k b o c1 c2 c3 c4 c5 (oth b o c5 e)) M hl hS'
theorem call_list_zip {E : Value → Shared → Prop} {Q : Value → Shared → Prop} (S : ZipSep2 z TI TO i1 i2 fp1 fp2) (D1 : Draws prog w A.in1.in1.in1 i1 fp1 as.size (fun i v => as[i]? = some v) St1) (D2 : Draws prog w A.in1.in1.in1 i2 fp2 bs.size (fun i v => bs[i]? = some v) St2)
    (hn1 : as.size = n) (hn2 : bs.size = n) (hn : n ≤ 1000000) (bz : z < s.heap.objs.size) (bO : TO < s.heap.objs.size) (bI : TI < s.heap.objs.size) (b1 : i1 < s.heap.objs.size) (b2 : i2 < s.heap.objs.size) (s1 : ∀ b ∈ fp1, b < s.heap.objs.size) (s2 : ∀ b ∈ fp2, b < s.heap.objs.size)
    (hz : IsZip s.heap z TI TO .none) (hO : ∃ a b, IsTupOf2 s.heap TO a b) (hTI : IsTupOf2 s.heap TI (.ref i1) (.ref i2)) (st1 : St1 0 s.heap) (st2 : St2 0 s.heap)
    (hQ : ∀ h' tk Ts' c', (∀ c o, c ≠ z → c ≠ TO → c ≠ i1 → c ≠ i2 → s.heap.get? c = some o → h'.get? c = some o) → Made as bs (s.heap.objs.size + 1) h' Ts' → Ts'.length = n → h'.get? s.heap.objs.size = some { cls := .type "list", dict := none, data := .seq (Ts'.map Value.ref).toArray c', slots := #[] } → Q (.ref s.heap.objs.size) { s with heap := h', toks := tk }) :
    wpAny (model prog w) A (call (.type "list") [.ref z]) Q E s := by
  refine callType_codes (Q₁ := fun obj s₁ => obj = .ref s.heap.objs.size ∧ s₁ = { s with heap := s.heap.push { cls := .type "list", data := .seq #[] } }) F.called_list (F.typeCall_list_1 _) F.entry_list_init
    (code_list_new _ ⟨rfl, rfl⟩) fun obj s₁ h₁ => ?_
  obtain ⟨rfl, rfl⟩ := h₁
  have hS : (s.heap.push { cls := .type "list", data := .seq #[] }).get? s.heap.objs.size = some { cls := .type "list", data := .seq #[] } := Heap.get?_push_size _ rfl
  have nfp1 : s.heap.objs.size ∉ fp1 := fun q => Nat.lt_irrefl _ (s1 _ q)
  have nfp2 : s.heap.objs.size ∉ fp2 := fun q => Nat.lt_irrefl _ (s2 _ q)
  refine ⟨⟨_, hS, rfl⟩, F.args_list_init_2 _ _, ?_⟩
  show wpAny _ A.in1.in1 (do let old ← Builtin.List.listItems (.ref s.heap.objs.size); Builtin.List.listUpdate (.ref s.heap.objs.size) (fun _ => #[]); letGo old.toList.reverse; Builtin.List.listExtendWith (.ref s.heap.objs.size) (.ref z) .none) _ _ _
  refine wpAny_bind ?_
  unfold Builtin.List.listItems
  refine wpAny_bind (wpAny_seqItems hS rfl (wpAny_pure ?_))
  show wpAny _ A.in1.in1 (updateSeq s.heap.objs.size (fun _ => #[]) >>= fun _ => letGo (#[] : Array Value).toList.reverse >>= fun _ => Builtin.List.listExtendWith (.ref s.heap.objs.size) (.ref z) .none) _ _ _
  refine wpAny_bind (wpAny_updateSeq hS rfl ?_)
  have hS₂ := Heap.get?_update_self (Obj.mapSeq (fun _ => (#[] : Array Value))) hS rfl
  have oth : ∀ b o, b ≠ s.heap.objs.size → s.heap.get? b = some o → ((s.heap.push { cls := .type "list", data := .seq #[] }).update s.heap.objs.size (Obj.mapSeq (fun _ => (#[] : Array Value)))).get? b = some o :=
    fun b o hb e => (Heap.get?_update_other _ _ (Ne.symm hb)).trans (Heap.get?_push_of_some _ e)
  refine wpAny_bind (wpAny_letGo ?_)
  have o' : ∀ b o, b < s.heap.objs.size → s.heap.get? b = some o → _ := fun b o hb e => oth b o (Nat.ne_of_lt hb) e
  obtain ⟨a, b, hO⟩ := hO
  refine extend_zip (A := A.in1) (n := n) S D1 D2 hn1 hn2 hn s.heap.objs.size bz bO bI b1 b2 (by show s.heap.objs.size < Array.size _; rw [Heap.size_update, Heap.size_push]; exact Nat.lt_succ_self _) nfp1 nfp2 .none _ (o' _ _ bz hz) ⟨a, b, o' _ _ bO hO⟩ (o' _ _ bI hTI) (D1.frame _ _ _ st1 fun b hb o e => o' b o (s1 b hb) e) (D2.frame _ _ _ st2 fun b hb o e => o' b o (s2 b hb) e) hS₂ fun h' tk Ts' c' k M hl hS' => ?_
  exact ⟨rfl, hQ h' tk Ts' c' (fun b o c1 c2 c3 c4 e => k b o c1 c2 c3 c4 (Nat.ne_of_lt (Heap.lt_size e)) (o' b o (Heap.lt_size e) e)) M hl hS'⟩
end
end KZ

namespace KB
open PySem PySem.Spec PyProof.Rows L2 KZ
theorem sep2 {sz a b : Addr} (ha : a < sz) (hb : b < sz) : ZipSep2 (sz + 4) (sz + 2) (sz + 3) sz (sz + 1) [sz, a] [sz + 1, b] := by
  have k : ∀ i j : Nat, i ≠ j → (sz + i : Nat) ≠ sz + j := fun i j h e => h (Nat.add_left_cancel e)
  have n : ∀ (c : Addr) (i : Nat), c < sz → (sz + i : Nat) ≠ c := fun c i h => Nat.ne_of_gt (Nat.lt_of_lt_of_le h (Nat.le_add_right _ _))
  have m1 : ∀ i : Nat, i ≠ 0 → (sz + i : Addr) ∉ [sz, a] := fun i h q => by
    rcases List.mem_cons.mp q with e | q
    · exact k i 0 h e
    · exact n a i ha (List.mem_singleton.mp q)
  have m2 : ∀ i : Nat, i ≠ 1 → (sz + i : Addr) ∉ [(sz + 1 : Addr), b] := fun i h q => by
    rcases List.mem_cons.mp q with e | q
    · exact k i 1 h e
    · exact n b i hb (List.mem_singleton.mp q)
  exact ⟨k 2 4 (by decide), k 3 4 (by decide), k 2 3 (by decide), k 2 0 (by decide), List.mem_cons_self .., m1 4 (by decide), m1 3 (by decide), k 2 1 (by decide), List.mem_cons_self .., m2 4 (by decide), m2 3 (by decide), m2 0 (by decide), m1 1 (by decide)⟩
section
variable {X : Cx} {pins : List (Addr × Obj)} {σ : L2.St} {H : Hp} {s : Shared}
/-- where zip may draw from: a list or a tuple -/
theorem zsrc {a : Addr} {xs : List V} (I : Inv X pins σ H s) (h : SqL X.K H a xs ∨ SqT X.K H a xs) : ∃ (its : List Value) (o : Obj) (H0 : Heap → Prop), Vals xs its ∧ Begins (.ref a) o H0 ∧ H0 s.heap ∧ a < s.heap.objs.size ∧
    ∀ (A : Around) (it : Addr), A.handled = none → a ≠ it → ∃ St : Nat → Heap → Prop, Draws X.prog X.w A it [it, a] its.toArray.size (fun i v => its.toArray[i]? = some v) St ∧ ∀ h', H0 h' → h'.get? it = some o → St 0 h' := by
  rcases h with h | h
  · obtain ⟨its, rv, p, _⟩ := I.list h
    exact ⟨its, _, _, rv, begins_list a its.toArray, p.isList, p.lt, fun A it hh hne => ⟨_, Draws.list hh it a hne its.toArray, fun h' hl hi => ⟨⟨_, hi, rfl, rfl⟩, hl⟩⟩⟩
  · obtain ⟨its, rv, p, _⟩ := I.tuple h
    have lt : a < s.heap.objs.size := by obtain ⟨o, ho, _⟩ := id p; exact Heap.lt_size ho
    exact ⟨its, _, _, rv, begins_tuple a its.toArray, (show s.heap.IsTuple a its.toArray from p), lt, fun A it hh hne => ⟨_, Draws.tuple hh it a hne its.toArray, fun h' hl hi => ⟨⟨_, hi, rfl, rfl⟩, hl⟩⟩⟩
theorem un_add {fs ex : List Addr} {H H1 : Hp} {h h1 : Heap} {a : Addr} {o : HO} (u : Un fs ex H H1 h h1) (hp : h.objs.size ≤ a) (hn : H1 a = none) : Un fs ex H (upd H1 a o) h h1 where
  keep := u.keep
  slot := u.slot
  free := fun b ob e n x => by
    rw [upd_ne (Nat.ne_of_lt (Nat.lt_of_lt_of_le (Heap.lt_size e) hp))]
    exact u.free b ob e n x
  there := u.there
  tups := fun b xs e => by
    have q := u.tups b xs e
    rw [upd_ne (ne_of_none q hn)]
    exact q
  frzs := fun b o u' e => by
    have q := u.frzs b o u' e
    rw [upd_ne (ne_of_none q hn)]
    exact q
  tbls := fun b ps e => by
    obtain ⟨more, q⟩ := u.tbls b ps e
    exact ⟨more, by rw [upd_ne (ne_of_none q hn)]; exact q⟩
theorem vals_ref : ∀ ts : List Addr, Vals (ts.map V.ref) (ts.map Value.ref)
  | [] => .nil
  | t :: r => .cons rfl (vals_ref r)
/-- the tuples taken up, one after another -/
theorem took {P : Program} {w : World} {fs : List Addr} {H : Hp} {h0 h : Heap} {base : Nat} {Ts : List Addr} {xs ys : List V} {its its2 : List Value} (k : ∀ b o, h0.get? b = some o → h.get? b = some o) (ok : HOk P w H h0) (M : Made its.toArray its2.toArray base h Ts) (hb : h0.objs.size ≤ base) (rx : Vals xs its) (ry : Vals ys its2) :
    ∀ j, j ≤ Ts.length → ∃ H', Un fs [] H H' h0 h ∧ HOk P w H' h ∧ Same H H' ∧ (∀ i, i < j → ∀ t x y, Ts[i]? = some t → xs[i]? = some x → ys[i]? = some y → H' t = some (.tup [x, y])) ∧ ∀ a, H' a ≠ none → H a ≠ none ∨ ∃ i, i < j ∧ Ts[i]? = some a
  | 0, _ => ⟨H, Un.kept k, ok.kept k, fun _ _ e => e, fun i hi => absurd hi (Nat.not_lt_zero _), fun a ha => .inl ha⟩
  | j + 1, hj => by
    obtain ⟨H', u, ok', sm, f, g⟩ := took k ok M hb rx ry j (Nat.le_of_succ_le hj)
    have hjl : j < Ts.length := hj
    have ht : Ts[j]? = some Ts[j] := List.getElem?_eq_getElem hjl
    obtain ⟨v, v2, hv, hv2, hT⟩ := M.at_ j _ ht
    have hv' : its[j]? = some v := by simpa using hv
    have hv2' : its2[j]? = some v2 := by simpa using hv2
    have lx := rx.length
    have ly := ry.length
    have jx : j < xs.length := by have := (List.getElem?_eq_some_iff.mp hv').1; omega
    have jy : j < ys.length := by have := (List.getElem?_eq_some_iff.mp hv2').1; omega
    obtain ⟨v', hv'', r1⟩ := rx.get (List.getElem?_eq_getElem jx)
    obtain ⟨v2', hv2'', r2⟩ := ry.get (List.getElem?_eq_getElem jy)
    rw [hv'] at hv''
    rw [hv2'] at hv2''
    cases hv''
    cases hv2''
    have hge : h0.objs.size ≤ Ts[j] := Nat.le_trans hb (M.new _ (List.getElem_mem hjl)).1
    have hn : H' Ts[j] = none := by
      refine Classical.byContradiction fun z => ?_
      rcases g _ z with q | ⟨i, hi, q⟩
      · exact q (ok.fresh hge)
      · have il := (List.getElem?_eq_some_iff.mp q).1
        have e := (List.getElem?_eq_some_iff.mp q).2
        have := (List.pairwise_iff_getElem.mp M.nodup i j il hjl hi)
        exact this e
    refine ⟨upd H' Ts[j] (.tup [xs[j], ys[j]]), un_add u hge hn, HOk.laidN ok' (fun _ _ e => e) hn ⟨by show 2 ≤ sizeLine; rw [sizeLine_eq]; decide, [v, v2], .cons r1 (.cons r2 .nil), ⟨_, hT, rfl, _, rfl⟩⟩, sm.trans (same_upd hn), fun i hi t x y h1 h2 h3 => ?_, fun a ha => ?_⟩
    · by_cases e : i = j
      · subst e
        rw [ht] at h1
        cases h1
        rw [List.getElem?_eq_getElem jx] at h2
        rw [List.getElem?_eq_getElem jy] at h3
        cases h2
        cases h3
        exact upd_same
      · have q := f i (by omega) t x y h1 h2 h3
        rw [upd_ne (ne_of_none q hn)]
        exact q
    · by_cases e : a = Ts[j]
      · exact .inr ⟨j, Nat.lt_succ_self _, by rw [e]; exact ht⟩
      · rw [upd_ne e] at ha
        rcases g a ha with q | ⟨i, hi, q⟩
        · exact .inl q
        · exact .inr ⟨i, by omega, q⟩
end
section
variable {X : Cx} {e e2 : Expr} {ta : TA} {p p2 pos pos2 : Pos}
/-- list(zip(x, y)), x and y lists or tuples of one length -/
def tZipL (K : PySem.W.Frag) (ta : TA) : TE := fun σ H Q => ta σ H fun vs H1 => ∃ (a b : Addr) (xs ys : List V), vs = [.ref a, .ref b] ∧ (SqL K H1 a xs ∨ SqT K H1 a xs) ∧ (SqL K H1 b ys ∨ SqT K H1 b ys) ∧ xs.length = ys.length ∧ xs.length ≤ 1000000 ∧
  ∀ (H' : Hp) (l : Addr) (ts : List Addr), Same H1 H' → H' l = some (.lst (ts.map V.ref)) → ts.length = xs.length → (∀ (i : Nat) (t : Addr) (x y : V), ts[i]? = some t → xs[i]? = some x → ys[i]? = some y → H' t = some (.tup [x, y])) → Q (.ref l) H'
theorem pe_listzip (hc : X.calm = true) (hgl : Gl X "list") (hml : X.mg "list" = none) (hgz : Gl X "zip") (hmz : X.mg "zip" = none) (ha : PA X [e, e2] ta)
    (hs2 : starEach [e, e2] X.env = (false, eval e X.env) :: starEach [e2] X.env := by rfl) (hpl2 : (backTo pos2 (starEach [e2] X.env)).any (·.1) = false := by rfl)
    (hs : starEach [.Call (.Name "zip" p2) [e, e2] [] pos2] X.env = (false, eval (.Call (.Name "zip" p2) [e, e2] [] pos2) X.env) :: starEach [] X.env := by rfl) (hpl : (backTo pos (starEach [] X.env)).any (·.1) = false := by rfl) :
    PE X (.Call (.Name "list" p) [.Call (.Name "zip" p2) [e, e2] [] pos2] [] pos) (tZipL X.K ta) := by
  refine ⟨fun pins s σ H Q I h => ?_⟩
  refine wpAny_Call_Name_kw (ld_blt I hgl hml (u := .type "list") (by decide +kernel) ?_)
  refine PyProof.Rows.callWith_type1 ?_ hs hpl
  rw [hs]
  show wpAny _ _ (spliced ((false, eval (.Call (.Name "zip" p2) [e, e2] [] pos2) X.env) :: backTo pos (starEach [] X.env))) _ _ s
  refine Calls.spliced_cons ?_
  refine wpAny_Call_Name_kw (ld_blt I hgz hmz PyProof.Rows.boot_zip ?_)
  refine PyProof.Rows.callWith_type1 (thn (ha.run pos2 pins s σ H _ I h) fun us s1 ⟨vs, H1, I1, r1, q1⟩ => ?_) hs2 hpl2
  obtain ⟨a, b, xs, ys, ex, hqa, hqb, hlen, hmil, q⟩ := q1
  subst ex
  cases r1 with
  | cons r rr =>
  cases rr with
  | cons r' rr =>
  cases rr
  cases r
  cases r'
  obtain ⟨its, o1, P1, rx, B1, c1, la, D1⟩ := zsrc I1 hqa
  obtain ⟨its2, o2, P2, ry, B2, c2, lb, D2⟩ := zsrc I1 hqb
  have lx := rx.length
  have ly := ry.length
  refine zip_begins2 B1 B2 c1 c2 fun h' hz hTI hTO g1 g2 hsz hk => ?_
  refine Calls.spliced_nil ?_
  have hh : X.A.in1.in1.in1.handled = none := I1.ok.hd hc
  have hS := sep2 la lb
  have na : a ≠ s1.heap.objs.size := Nat.ne_of_lt la
  have nb : b ≠ s1.heap.objs.size + 1 := Nat.ne_of_lt (Nat.lt_succ_of_lt lb)
  obtain ⟨St1, E1, F1⟩ := D1 X.A.in1.in1.in1 s1.heap.objs.size hh na
  obtain ⟨St2, E2, F2⟩ := D2 X.A.in1.in1.in1 (s1.heap.objs.size + 1) hh nb
  have up : ∀ c : Addr, c < s1.heap.objs.size → c < h'.objs.size := fun c hc' => by rw [hsz]; exact Nat.lt_of_lt_of_le hc' (Nat.le_add_right _ _)
  have upi : ∀ i : Nat, i < 5 → (s1.heap.objs.size + i : Addr) < h'.objs.size := fun i hi => by rw [hsz]; exact Nat.add_lt_add_left hi _
  refine call_list_zip (s := { s1 with heap := h' }) (n := its.length) hS E1 E2 (by simp) (by simp; omega) (by omega) (upi 4 (by decide)) (upi 3 (by decide)) (upi 2 (by decide)) (upi 0 (by decide)) (upi 1 (by decide))
    (fun c hc' => by
      rcases List.mem_cons.mp hc' with z | z
      · rw [z]; exact upi 0 (by decide)
      · rw [List.mem_singleton.mp z]; exact up a la)
    (fun c hc' => by
      rcases List.mem_cons.mp hc' with z | z
      · rw [z]; exact upi 1 (by decide)
      · rw [List.mem_singleton.mp z]; exact up b lb)
    hz ⟨_, _, hTO⟩ hTI (F1 h' (B1.keeps _ _ c1 hk) g1) (F2 h' (B2.keeps _ _ c2 hk) g2) fun h2 tk Ts c' k M hl hS2 => ?_
  have old : ∀ c o, s1.heap.get? c = some o → h2.get? c = some o := fun c o e => by
    have lt := Heap.lt_size e
    have n : ∀ i : Nat, c ≠ s1.heap.objs.size + i := fun i => Nat.ne_of_lt (Nat.lt_of_lt_of_le lt (Nat.le_add_right _ _))
    exact k c o (n 4) (n 3) (n 0) (n 1) (hk c o e)
  have hbase : s1.heap.objs.size ≤ h'.objs.size + 1 := by rw [hsz]; omega
  obtain ⟨H2, u, ok, sm, f, g⟩ := took old I1.hok M hbase rx ry Ts.length (Nat.le_refl _)
  have hlge : s1.heap.objs.size ≤ h'.objs.size := by rw [hsz]; omega
  have hln : H2 h'.objs.size = none := by
    refine Classical.byContradiction fun z => ?_
    rcases g _ z with q' | ⟨i, _, q'⟩
    · exact q' (I1.hok.fresh hlge)
    · exact absurd (M.new _ (List.mem_of_getElem? q')).1 (Nat.not_succ_le_self _)
  have hTl : Ts.length ≤ sizeLine := by rw [sizeLine_eq]; omega
  have ok2 := HOk.laidN (a := h'.objs.size) (o := .lst (Ts.map V.ref)) ok (fun _ _ e => e) hln ⟨by rw [List.length_map]; exact hTl, Ts.map Value.ref, c', vals_ref Ts, hS2⟩
  have I2 := I1.un (t' := tk) (un_add (o := .lst (Ts.map V.ref)) u hlge hln) ok2
  exact ⟨.ref h'.objs.size, _, I2, rfl, q _ _ Ts (sm.trans (same_upd hln)) upd_same (by omega) fun i t x y h1 h2 h3 => by
    have w := f i (List.getElem?_eq_some_iff.mp h1).1 t x y h1 h2 h3
    rw [upd_ne (ne_of_none w hln)]
    exact w⟩
end
end KB

namespace KB
open PySem PySem.Spec PyProof.Rows L2
/-! ### words as lists of signs; which begins which -/
theorem starts_iff {a b : Str} : Txt.startswith a b = true ↔ b.cps.toList <+: a.cps.toList := by
  unfold Txt.startswith
  rw [PySem.StrLaws.subAt_eq, List.drop_zero]
  have l : ∀ z : Str, z.length = z.cps.toList.length := fun z => by simp [Str.length]
  constructor
  · intro h
    rw [Bool.and_eq_true] at h
    have := eq_of_beq h.2
    rw [l] at this
    have t := List.take_append_drop b.cps.toList.length a.cps.toList
    rw [this] at t
    exact ⟨_, t⟩
  · rintro ⟨t, ht⟩
    rw [l, l, ← ht, Bool.and_eq_true]
    refine ⟨decide_eq_true (by simp), ?_⟩
    simp
/-- one of two rows of signs begins the other -/
def Cmp (x y : List Nat) : Prop := x <+: y ∨ y <+: x
theorem Cmp.symm {x y : List Nat} (h : Cmp x y) : Cmp y x := h.elim .inr .inl
theorem cmp_app {x y : List Nat} {c : Nat} (h : Cmp (x ++ [c]) y) : Cmp x y := by
  rcases h with h | h
  · exact .inl (List.IsPrefix.trans ⟨[c], rfl⟩ h)
  · exact List.prefix_or_prefix_of_prefix ⟨[c], rfl⟩ h
theorem cmp_two {x : List Nat} {c d : Nat} (h : c ≠ d) : ¬ Cmp (x ++ [c]) (x ++ [d]) := by
  rintro (⟨t, e⟩ | ⟨t, e⟩)
  · rw [List.append_assoc] at e
    have := List.append_cancel_left e
    simp at this
    exact h this.1
  · rw [List.append_assoc] at e
    have := List.append_cancel_left e
    simp at this
    exact h this.1.symm
def Bits (x : List Nat) : Prop := ∀ c ∈ x, c = 48 ∨ c = 49
theorem cmp_split {x y : List Nat} (hy : Bits y) (h : Cmp x y) : Cmp (x ++ [49]) y ∨ Cmp (x ++ [48]) y := by
  rcases h with ⟨t, rfl⟩ | h
  · cases t with
    | nil => exact .inl (.inr (by rw [List.append_nil]; exact ⟨[49], rfl⟩))
    | cons c t =>
      rcases hy c (by simp) with e | e <;> subst e
      · exact .inr (.inl ⟨t, by simp⟩)
      · exact .inl (.inl ⟨t, by simp⟩)
  · exact .inl (.inr (List.IsPrefix.trans h ⟨[49], rfl⟩))
/-- the leaves of a drawn tree over s -/
structure Leaf (s : List Nat) (ls : List (List Nat)) : Prop where
  bits : ∀ x ∈ ls, Bits x ∧ x.length ≤ 40
  apart : ls.Pairwise fun x y => ¬ Cmp x y
  sum : (ls.map fun x => 2 ^ (60 - x.length)).sum = 2 ^ (60 - s.length)
  cover : s = [] → ∀ y, Bits y → ∃ x ∈ ls, Cmp x y
theorem Leaf.one {s : List Nat} (hb : Bits s) (hl : s.length ≤ 40) : Leaf s [s] :=
  ⟨fun x hx => by rw [List.mem_singleton.mp hx]; exact ⟨hb, hl⟩, List.pairwise_singleton _ _, by simp, fun e y _ => ⟨s, List.mem_singleton.mpr rfl, .inl (by rw [e]; exact List.nil_prefix)⟩⟩
theorem Leaf.perm {s : List Nat} {ls ls' : List (List Nat)} (L : Leaf s ls) (p : ls.Perm ls') : Leaf s ls' :=
  ⟨fun x hx => L.bits x (p.mem_iff.mpr hx), (p.pairwise_iff fun h z => h z.symm).mp L.apart, by rw [← L.sum]; exact ((p.map _).sum_nat).symm, fun e y hy => by
    obtain ⟨x, hx, h⟩ := L.cover e y hy
    exact ⟨x, p.mem_iff.mp hx, h⟩⟩
theorem Leaf.split {s x : List Nat} {r : List (List Nat)} (L : Leaf s (x :: r)) (hx : x.length < 40) : Leaf s ((x ++ [49]) :: (x ++ [48]) :: r) := by
  have bx := L.bits x (List.mem_cons_self ..)
  have ap := List.pairwise_cons.mp L.apart
  refine ⟨fun y hy => ?_, ?_, ?_, fun e y hy => ?_⟩
  · rcases List.mem_cons.mp hy with e | hy
    · rw [e]
      exact ⟨fun c hc => (List.mem_append.mp hc).elim (bx.1 c) fun z => .inr (List.mem_singleton.mp z), by rw [List.length_append]; simp; omega⟩
    rcases List.mem_cons.mp hy with e | hy
    · rw [e]
      exact ⟨fun c hc => (List.mem_append.mp hc).elim (bx.1 c) fun z => .inl (List.mem_singleton.mp z), by rw [List.length_append]; simp; omega⟩
    · exact L.bits y (List.mem_cons_of_mem _ hy)
  · refine List.pairwise_cons.mpr ⟨fun y hy => ?_, List.pairwise_cons.mpr ⟨fun y hy h => ap.1 y hy (cmp_app h), ap.2⟩⟩
    rcases List.mem_cons.mp hy with e | hy
    · rw [e]
      exact cmp_two (by decide)
    · exact fun h => ap.1 y hy (cmp_app h)
  · rw [← L.sum]
    simp only [List.map_cons, List.sum_cons, List.length_append, List.length_cons, List.length_nil]
    rw [← Nat.add_assoc, ← Nat.two_mul, ← Nat.pow_succ', show (60 - (x.length + (0 + 1))).succ = 60 - x.length by omega]
  · obtain ⟨z, hz, h⟩ := L.cover e y hy
    rcases List.mem_cons.mp hz with e | hz
    · rw [e] at h
      rcases cmp_split hy h with h | h
      · exact ⟨_, List.mem_cons_self .., h⟩
      · exact ⟨_, List.mem_cons_of_mem _ (List.mem_cons_self ..), h⟩
    · exact ⟨z, List.mem_cons_of_mem _ (List.mem_cons_of_mem _ hz), h⟩
/-- some of them -/
theorem Leaf.sum_le {s : List Nat} {ls : List (List Nat)} (L : Leaf s ls) : (ls.map fun x => 2 ^ (60 - x.length)).sum ≤ 2 ^ 60 := by
  rw [L.sum]
  exact Nat.pow_le_pow_right (by decide) (by omega)
theorem perm_erase {α : Type} : ∀ (ls : List α) (j : Nat) (x : α), ls[j]? = some x → ls.Perm (x :: ls.eraseIdx j)
  | [], j, x, h => by cases j <;> cases h
  | a :: r, 0, x, h => by cases h; exact .refl _
  | a :: r, j + 1, x, h => (List.Perm.cons a (perm_erase r j x h)).trans (List.Perm.swap x a _)
theorem perm_set {α : Type} : ∀ (ls : List α) (j : Nat) (y : α), j < ls.length → (ls.set j y).Perm (y :: ls.eraseIdx j)
  | [], j, y, h => absurd h (Nat.not_lt_zero _)
  | a :: r, 0, y, h => .refl _
  | a :: r, j + 1, y, h => (List.Perm.cons a (perm_set r j y (Nat.lt_of_succ_lt_succ h))).trans (List.Perm.swap y a _)
theorem Leaf.ins {s x : List Nat} {ls : List (List Nat)} {j n : Nat} (L : Leaf s ls) (hj : ls[j]? = some x) (h40 : x.length < 40) : Leaf s ((ls.set j (x ++ [49])).take n ++ [x ++ [48]] ++ (ls.set j (x ++ [49])).drop n) := by
  have hl := (List.getElem?_eq_some_iff.mp hj).1
  have hx := (List.getElem?_eq_some_iff.mp hj).2
  have p1 : ls.Perm (x :: ls.eraseIdx j) := perm_erase _ _ _ hj
  have p2 : (ls.set j (x ++ [49])).Perm ((x ++ [49]) :: ls.eraseIdx j) := perm_set _ _ _ hl
  refine ((L.perm p1).split h40).perm ?_
  have p3 : ((ls.set j (x ++ [49])).take n ++ [x ++ [48]] ++ (ls.set j (x ++ [49])).drop n).Perm ((x ++ [48]) :: ls.set j (x ++ [49])) := by
    rw [List.append_assoc, List.singleton_append]
    refine List.perm_middle.trans ?_
    rw [List.take_append_drop]
  exact ((List.Perm.swap _ _ _).trans ((List.Perm.cons _ p2.symm).trans p3.symm))
def Lc (w : Str) : List Nat := w.cps.toList
theorem Lc_one (w : Str) : Lc (w ++ ("1" : Str)) = Lc w ++ [49] := by
  show (w.cps ++ (("1" : Str)).cps).toList = w.cps.toList ++ [49]
  rw [Array.toList_append]
  rfl
theorem Lc_nil (w : Str) : Lc (w ++ ("0" : Str)) = Lc w ++ [48] := by
  show (w.cps ++ (("0" : Str)).cps).toList = w.cps.toList ++ [48]
  rw [Array.toList_append]
  rfl
theorem Lc_len (w : Str) : (Lc w).length = w.length := by simp [Lc, Str.length]
theorem leaf_turn {s : List Nat} {ws : List Str} {j n : Nat} {w : Str} (L : Leaf s (ws.map Lc)) (hj : ws[j]? = some w) (h40 : w.length < 40) : Leaf s (((ws.set j (w ++ ("1" : Str))).take n ++ [w ++ ("0" : Str)] ++ (ws.set j (w ++ ("1" : Str))).drop n).map Lc) := by
  have := L.ins (n := n) (j := j) (x := Lc w) (by rw [List.getElem?_map, hj]; rfl) (by rw [Lc_len]; exact h40)
  rw [List.map_append, List.map_append, List.map_take, List.map_drop, List.map_set, Lc_one, List.map_cons, Lc_nil]
  exact this
theorem cut_tk (xs : List V) (x : Nat) : cutV xs none (some (x : Int)) = xs.take x := by
  have e2 : HT.sIx xs.length 0 none = 0 := rfl
  unfold cutV
  rw [HT.sIx_nat, e2, Nat.sub_zero, List.drop_zero]
  by_cases h : x ≤ xs.length
  · rw [show min x xs.length = x by omega]
  · rw [show min x xs.length = xs.length by omega, List.take_length, List.take_of_length_le (by omega)]
theorem cut_dr (xs : List V) (x : Nat) : cutV xs (some (x : Int)) none = xs.drop x := by
  have e2 : HT.sIx xs.length xs.length none = xs.length := rfl
  unfold cutV
  rw [HT.sIx_nat, e2]
  by_cases h : x ≤ xs.length
  · rw [show min x xs.length = x by omega, List.take_of_length_le (by rw [List.length_drop]; exact Nat.le_refl _)]
  · rw [show min x xs.length = xs.length by omega, List.drop_of_length_le (Nat.le_refl _), List.drop_of_length_le (by omega), List.take_nil]
end KB
namespace KB
open PySem PySem.Spec PyProof.Rows L2
theorem gN_odd {o : Nat} (j : Nat) (h : o % 2 = 1) : gN (o : Int) ((2 ^ j : Nat) : Int) = 1 := by
  show Nat.gcd o (2 ^ j) = 1
  have e : Nat.gcd o 2 = 1 := by
    rw [Nat.gcd_comm, Nat.gcd_rec, h]
    decide
  exact Nat.Coprime.pow_right j e
theorem red_odd {o : Nat} (j : Nat) (h : o % 2 = 1) : rOd (o : Int) ((2 ^ j : Nat) : Int) = o ∧ rUd (o : Int) ((2 ^ j : Nat) : Int) = ((2 ^ j : Nat) : Int) := by
  have g := gN_odd j h
  have p : ¬ ((2 ^ j : Nat) : Int) < 0 := Int.not_lt.mpr (Int.natCast_nonneg _)
  constructor
  · unfold rOd
    rw [if_neg p, g]
    simp
  · unfold rUd
    rw [if_neg p, g]
    simp
theorem red_half {o j : Nat} (h : o % 2 = 0) : rOd (o : Int) ((2 ^ (j + 1) : Nat) : Int) = rOd ((o / 2 : Nat) : Int) ((2 ^ j : Nat) : Int) ∧ rUd (o : Int) ((2 ^ (j + 1) : Nat) : Int) = rUd ((o / 2 : Nat) : Int) ((2 ^ j : Nat) : Int) := by
  have e1 : (o : Int) = 2 * ((o / 2 : Nat) : Int) := by omega
  have e2 : ((2 ^ (j + 1) : Nat) : Int) = 2 * ((2 ^ j : Nat) : Int) := by rw [Nat.pow_succ]; omega
  rw [e2]
  constructor
  · have := rOd_scale (g := 2) ((o / 2 : Nat) : Int) ((2 ^ j : Nat) : Int) (by decide)
    rw [← e1] at this
    exact this
  · have := rUd_scale (g := 2) ((o / 2 : Nat) : Int) ((2 ^ j : Nat) : Int) (by decide)
    rw [← e1] at this
    exact this
end KB
namespace KB
open PySem PySem.Spec PyProof.Rows L2
/-- a loop over the signs of a text -/
theorem for_sgn {x : Str} {g : TG} {tb : TS} {D : Ends} {σ : L2.St} {H : Hp} (Pv : Nat → L2.St → Hp → Prop) (h0 : Pv 0 σ H)
    (hs : ∀ i c σ H, x.cps[i]? = some c → Pv i σ H → g (.str ⟨#[c]⟩) σ H fun σ2 H2 => tb { D with nx := Pv (i + 1), ct := Pv (i + 1), bk := D.nx } σ2 H2) (hd : ∀ σ H, Pv x.cps.size σ H → D.nx σ H) :
    ∃ W : Nat → Nat → L2.St → Hp → Prop, (∃ m, W 0 m σ H) ∧ ∀ i m σ H, W i m σ H →
      ((Its x).stop i H ∧ D.nx σ H) ∨ ((Its x).go i H ∧ ∃ N : L2.St → Hp → Prop, (∀ σ' H', N σ' H' → ∃ m', m' < m ∧ W (i + 1) m' σ' H') ∧ ∀ v H', (Its x).yld i H v H' → g v σ H' fun σ2 H2 => tb { D with nx := N, ct := N, bk := D.nx } σ2 H2) := by
  refine ⟨fun i m σ H => m = x.cps.size - i ∧ i ≤ x.cps.size ∧ Pv i σ H, ⟨x.cps.size, by simp, Nat.zero_le _, h0⟩, ?_⟩
  rintro i m σ H ⟨rfl, hi, p⟩
  by_cases hlt : i < x.cps.size
  · refine .inr ⟨hlt, Pv (i + 1), fun σ' H' p' => ⟨x.cps.size - (i + 1), by omega, rfl, hlt, p'⟩, fun v H' y => ?_⟩
    obtain ⟨rfl, c, hc, rfl⟩ := y
    exact hs i c σ _ hc p
  · have e : i = x.cps.size := by omega
    subst e
    exact .inl ⟨Nat.le_refl _, hd σ H p⟩
end KB
namespace KB
open PySem PySem.Spec PyProof.Rows L2
/-! ### the words of a code do not begin one another -/
theorem fill_keep {k : Nat} : ∀ (ks : List (Int × Int)) (u : Nat) (ws : List Str), (∀ p ∈ ks, p.2.toNat ≠ k) → (fillW ks u ws)[k]? = ws[k]?
  | [], _, _, _ => rfl
  | p :: r, u, ws, h => by
    show (fillW r _ _)[k]? = _
    rw [fill_keep r _ _ fun q hq => h q (List.mem_cons_of_mem _ hq), List.getElem?_set_ne (h p (List.mem_cons_self ..))]
theorem fill_get : ∀ (ks : List (Int × Int)) (u : Nat) (ws : List Str), (ks.map fun p => p.2.toNat).Nodup → ∀ (j : Nat) (p : Int × Int), ks[j]? = some p → p.2.toNat < ws.length →
    (fillW ks u ws)[p.2.toNat]? = some (wordS p.1.toNat ((u + kr ((ks.map fun p => p.1.toNat).take j)) / 2 ^ (40 - p.1.toNat)))
  | [], _, _, _, j, p, h, _ => by cases j <;> cases h
  | q :: r, u, ws, nd, 0, p, h, hl => by
    cases h
    rw [List.map_cons, List.nodup_cons] at nd
    show (fillW r _ _)[q.2.toNat]? = _
    rw [fill_keep r _ _ fun x hx e => nd.1 (List.mem_map.mpr ⟨x, hx, e⟩), List.getElem?_set_self hl]
    rfl
  | q :: r, u, ws, nd, j + 1, p, h, hl => by
    rw [List.map_cons, List.nodup_cons] at nd
    show (fillW r _ _)[p.2.toNat]? = _
    rw [fill_get r _ _ nd.2 j p h (by rw [List.length_set]; exact hl), List.map_cons, List.take_succ_cons]
    show some (wordS _ ((u + 2 ^ (40 - q.1.toNat) + _) / _)) = some (wordS _ ((u + (2 ^ (40 - q.1.toNat) + _)) / _))
    rw [Nat.add_assoc]
theorem Lc_word (l v : Nat) : Lc (wordS l v) = bitsL l v := by
  unfold Lc wordS
  simp
/-- of two words of a code, sorted, none begins the other -/
theorem code_apart {fs : List Nat} (hs : fs.Pairwise (· ≤ ·)) (h40 : ∀ n ∈ fs, n ≤ 40) (hk : kr fs ≤ 2 ^ 40) {i j l m : Nat} (hi : fs[i]? = some l) (hj : fs[j]? = some m) (hji : j < i) :
    ¬ Cmp (Lc (wordS m (ua fs j / 2 ^ (40 - m)))) (Lc (wordS l (ua fs i / 2 ^ (40 - l)))) := by
  have hil := (List.getElem?_eq_some_iff.mp hi).1
  have hjl := (List.getElem?_eq_some_iff.mp hj).1
  have ei := (List.getElem?_eq_some_iff.mp hi).2
  have ej := (List.getElem?_eq_some_iff.mp hj).2
  have hml : m ≤ l := by
    have := List.pairwise_iff_getElem.mp hs j i hjl hil hji
    omega
  have hl40 := h40 l (List.mem_of_getElem? hi)
  have p : 0 < 2 ^ (40 - l) := Nat.pow_pos (by decide)
  have dv := ua_dvd hs hi i (Nat.le_refl _)
  have room : ua fs i + 2 ^ (40 - l) ≤ 2 ^ 40 := by
    rw [← ua_succ hi]
    have e2 := List.take_append_drop (i + 1) fs
    have := kr_app (fs.take (i + 1)) (fs.drop (i + 1))
    rw [e2] at this
    unfold ua
    omega
  have back : ua fs i / 2 ^ (40 - l) * 2 ^ (40 - l) = ua fs i := Nat.div_mul_cancel dv
  have hv : ua fs i / 2 ^ (40 - l) < 2 ^ l := by
    rw [Nat.div_lt_iff_lt_mul p, ← Nat.pow_add, show l + (40 - l) = 40 by omega]
    omega
  have b := begun_iff hs h40 hk hi hv
  rw [back, decide_eq_false (Nat.lt_irrefl _)] at b
  have gj : fs.getD j 0 = m := by rw [List.getD_eq_getElem?_getD, hj]; rfl
  have no : ¬ Txt.startswith (wordS l (ua fs i / 2 ^ (40 - l))) (wordS m (ua fs j / 2 ^ (40 - m))) = true := fun z => by
    have := List.any_eq_false.mp b _ (List.mem_map.mpr ⟨j, List.mem_range.mpr hji, rfl⟩)
    rw [gj] at this
    exact this z
  rintro (z | z)
  · exact no (starts_iff.mpr z)
  · have le := z.length_le
    rw [Lc_word, Lc_word, bitsL_len, bitsL_len] at le
    have e : Lc (wordS l (ua fs i / 2 ^ (40 - l))) = Lc (wordS m (ua fs j / 2 ^ (40 - m))) := z.eq_of_length (by rw [Lc_word, Lc_word, bitsL_len, bitsL_len]; omega)
    exact no (starts_iff.mpr ⟨[], by rw [List.append_nil]; exact e.symm⟩)
theorem bitsL_bits : ∀ l v, Bits (bitsL l v)
  | 0, _ => fun c hc => by cases hc
  | l + 1, v => fun c hc => by
    rcases List.mem_append.mp (show c ∈ bitsL l (v / 2) ++ [48 + v % 2] from hc) with z | z
    · exact bitsL_bits l _ c z
    · rw [List.mem_singleton.mp z]
      omega
theorem Lc_bits (l v : Nat) : Bits (Lc (wordS l v)) := by
  rw [Lc_word]
  exact bitsL_bits l v
theorem prs_snd (ls : List Nat) : (prs ls).map (fun p => p.2.toNat) = List.range ls.length := by
  unfold prs
  rw [List.map_map]
  refine List.ext_getElem? fun j => ?_
  rw [List.getElem?_map]
  by_cases h : j < ls.length
  · rw [List.getElem?_range h]
    show some (((j : Int)).toNat) = _
    rw [Int.toNat_natCast]
  · rw [List.getElem?_eq_none (by simpa using h)]
    rfl
theorem code_words {ls : List Nat} {ks : List (Int × Int)} (h : IsOrd ls ks) (h40 : ∀ n ∈ ls, n ≤ 40) (hk : kr ls ≤ 2 ^ 40) :
    (∀ (k l : Nat), ls[k]? = some l → ∃ v, (codeS ks ls.length)[k]? = some (wordS l v)) ∧ ((codeS ks ls.length).map Lc).Pairwise fun x y => ¬ Cmp x y := by
  have nd : (ks.map fun p => p.2.toNat).Nodup := by
    have := (h.1.map fun p => p.2.toNat).nodup_iff.mpr (by rw [prs_snd]; exact List.nodup_range)
    exact this
  obtain ⟨fs, hfs⟩ : ∃ fs, fs = ks.map fun p => p.1.toNat := ⟨_, rfl⟩
  have hs : fs.Pairwise (· ≤ ·) := by rw [hfs]; exact h.fst
  have hkf : kr fs ≤ 2 ^ 40 := by rw [hfs, h.kr]; exact hk
  have f40 : ∀ n ∈ fs, n ≤ 40 := fun n hn => by
    rw [hfs] at hn
    obtain ⟨p, hp, rfl⟩ := List.mem_map.mp hn
    obtain ⟨l, k, rfl, hl⟩ := h.mem hp
    show ((l : Int)).toNat ≤ 40
    rw [Int.toNat_natCast]
    exact h40 l (List.mem_of_getElem? hl)
  have one : ∀ (k l : Nat), ls[k]? = some l → ∃ j, ks[j]? = some ((l : Int), (k : Int)) ∧ fs[j]? = some l ∧ (codeS ks ls.length)[k]? = some (wordS l (ua fs j / 2 ^ (40 - l))) := fun k l hl => by
    have hkl := (List.getElem?_eq_some_iff.mp hl).1
    have hm : ((l : Int), (k : Int)) ∈ ks := h.1.mem_iff.mpr (List.mem_of_getElem? (prs_get hl))
    obtain ⟨j, hj⟩ := List.mem_iff_getElem?.mp hm
    have g := fill_get ks 0 (List.replicate ls.length "") nd j _ hj (by rw [List.length_replicate]; exact hkl)
    refine ⟨j, hj, by rw [hfs, List.getElem?_map, hj]; rfl, ?_⟩
    rw [Nat.zero_add] at g
    have e1 : ((l : Int), (k : Int)).1.toNat = l := rfl
    have e2 : ((l : Int), (k : Int)).2.toNat = k := rfl
    rw [e1, e2, ← hfs] at g
    exact g
  refine ⟨fun k l hl => let ⟨j, _, _, h3⟩ := one k l hl; ⟨_, h3⟩, ?_⟩
  rw [List.pairwise_iff_getElem]
  intro x y hx hy hxy
  have cl := codeS_len ks ls.length
  have hx' : x < ls.length := by rw [List.length_map, cl] at hx; exact hx
  have hy' : y < ls.length := by rw [List.length_map, cl] at hy; exact hy
  obtain ⟨jx, a1, a2, a3⟩ := one x _ (List.getElem?_eq_getElem hx')
  obtain ⟨jy, b1, b2, b3⟩ := one y _ (List.getElem?_eq_getElem hy')
  have ex := (List.getElem?_eq_some_iff.mp a3).2
  have ey := (List.getElem?_eq_some_iff.mp b3).2
  rw [List.getElem_map, List.getElem_map, ex, ey]
  rcases Nat.lt_trichotomy jx jy with z | z | z
  · exact code_apart hs f40 hkf b2 a2 z
  · rw [z, b1] at a1
    have := congrArg (fun o : Option (Int × Int) => match o with | some p => p.2 | none => 0) a1
    have e : (y : Int) = (x : Int) := this
    omega
  · exact fun c => code_apart hs f40 hkf a2 b2 z c.symm
end KB

namespace KB
open PySem PySem.Spec PyProof.Rows L2
/-! ### a list of numbers beside the box -/
structure Nb (B0 B H : Hp) (t p : Addr) (c : Nat) (bs : List Nat) : Prop where
  same : Same B0 B
  bx : Bx B H t c
  at_ : B p = some (.lst (bs.map nI))
  nb : B0 p = none
theorem Nb.set {B0 B H : Hp} {t p : Addr} {c : Nat} {bs : List Nat} (N : Nb B0 B H t p c bs) (zs : List Nat) : Nb B0 (upd B p (.lst (zs.map nI))) (upd H p (.lst (zs.map nI))) t p c zs :=
  ⟨same_out N.same N.nb, N.bx.set N.at_, upd_same, N.nb⟩
theorem Nb.hd {B0 B H : Hp} {t p : Addr} {c : Nat} {bs : List Nat} (N : Nb B0 B H t p c bs) : H p = some (.lst (bs.map nI)) := N.bx.at N.at_
theorem Nb.le {B0 B H : Hp} {t p : Addr} {c d : Nat} {bs : List Nat} (N : Nb B0 B H t p c bs) (h : c ≤ d) : Nb B0 B H t p d bs := ⟨N.same, N.bx.le h, N.at_, N.nb⟩
theorem Nb.drw {B0 B H H' : Hp} {t p : Addr} {c d : Nat} {bs : List Nat} (N : Nb B0 B H t p c bs) (T : Bx B H' t d) : Nb B0 B H' t p d bs := ⟨N.same, T, N.at_, N.nb⟩
theorem Nb.put {B0 B H : Hp} {t p : Addr} {c : Nat} {bs : List Nat} (N : Nb B0 B H t p c bs) (j n : Nat) : Nb B0 (upd B p (.lst ((bs.map nI).set j (nI n)))) (upd H p (.lst ((bs.map nI).set j (nI n)))) t p c (bs.set j n) := by
  rw [setN]
  exact N.set _
theorem Nb.app {B0 B H : Hp} {t p : Addr} {c : Nat} {bs : List Nat} (N : Nb B0 B H t p c bs) (n : Nat) : Nb B0 (upd B p (.lst (bs.map nI ++ [nI n]))) (upd H p (.lst (bs.map nI ++ [nI n]))) t p c (bs ++ [n]) := by
  rw [show bs.map nI ++ [nI n] = (bs ++ [n]).map nI by rw [List.map_append]; rfl]
  exact N.set _
theorem Nb.era {B0 B H : Hp} {t p : Addr} {c : Nat} {bs : List Nat} (N : Nb B0 B H t p c bs) (j : Nat) : Nb B0 (upd B p (.lst ((bs.map nI).eraseIdx j))) (upd H p (.lst ((bs.map nI).eraseIdx j))) t p c (bs.eraseIdx j) := by
  rw [eraN bs j]
  exact N.set _
theorem Nb.ins {B0 B H : Hp} {t p : Addr} {c : Nat} {bs : List Nat} (N : Nb B0 B H t p c bs) (j n : Nat) : Nb B0 (upd B p (.lst ((bs.map nI).take j ++ [nI n] ++ (bs.map nI).drop j))) (upd H p (.lst ((bs.map nI).take j ++ [nI n] ++ (bs.map nI).drop j))) t p c (bs.take j ++ [n] ++ bs.drop j) := by
  rw [show (bs.map nI).take j ++ [nI n] ++ (bs.map nI).drop j = (bs.take j ++ [n] ++ bs.drop j).map nI by simp [List.map_take, List.map_drop]]
  exact N.set _
/-- a new list of numbers -/
theorem Bx.nb {B H : Hp} {t p : Addr} {c : Nat} (T : Bx B H t c) (hp : H p = none) (bs : List Nat) : Nb B (upd B p (.lst (bs.map nI))) (upd H p (.lst (bs.map nI))) t p c bs :=
  ⟨same_upd (T.isn hp), T.new hp, upd_same, T.isn hp⟩
/-- what is below the base, too -/
theorem Nb.low {A B0 B H : Hp} {t p : Addr} {c : Nat} {bs : List Nat} (N : Nb B0 B H t p c bs) (s : Same A B0) : Nb A B H t p c bs := ⟨s.trans N.same, N.bx, N.at_, s.free N.nb⟩
/-- the list's place, from its members -/
theorem Nb.at_nat {B0 B H : Hp} {t p : Addr} {c : Nat} {bs : List Nat} {i : Nat} (hi : i < bs.length) : atI (bs.map nI) (i : Int) = some (.int (bs.getD i 0 : Nat)) :=
  atI_nat (j := i) (by rw [List.getElem?_map, List.getD_eq_getElem?_getD, List.getElem?_eq_getElem hi]; rfl)
theorem at_num {bs : List Nat} {i : Nat} (hi : i < bs.length) : atI (bs.map nI) (i : Int) = some (.int (bs.getD i 0 : Nat)) :=
  atI_nat (j := i) (by rw [List.getElem?_map, List.getD_eq_getElem?_getD, List.getElem?_eq_getElem hi]; rfl)
theorem getD_le {bs : List Nat} {i m : Nat} (h : ∀ n ∈ bs, n ≤ m) : bs.getD i 0 ≤ m := by
  rw [List.getD_eq_getElem?_getD]
  cases e : bs[i]? with
  | none => exact Nat.zero_le _
  | some n => exact h n (List.mem_of_getElem? e)
end KB

namespace KB
open PySem PySem.Spec PyProof.Rows L2
/-! ### math.lcm of wide numbers -/
section
variable {X : Cx}
def rLcm : List V → Hp → VK → Prop := fun vs H Q => ∃ a b : Nat, vs = [.int a, .int b] ∧ a < 2 ^ 12000 ∧ b < 2 ^ 12000 ∧ Q (.int (Nat.lcm a b : Nat)) H
theorem cr_lcm : CallR X (.builtin "math.lcm") rLcm := by
  intro pins s σ H vs us Q I r h
  obtain ⟨a, b, rfl, ha, hb, q⟩ := h
  obtain ⟨t, u, rfl⟩ := Vals.int2 r
  have lg : ∀ n : Nat, n < 2 ^ 12000 → n.log2 < 12000 := fun n hn => by
    by_cases h0 : n = 0
    · subst h0
      decide
    · exact (Nat.log2_lt h0).mpr hn
  have h1 : (max 1 ((a : Int)).natAbs).log2 < 12000 := lg _ (by rw [Int.natAbs_natCast]; exact Nat.max_lt.mpr ⟨Nat.lt_of_lt_of_le (by decide) (Nat.pow_le_pow_right (by decide : 0 < 2) (show 1 ≤ 12000 by decide)), ha⟩)
  have h2 : (max ((a : Int)).natAbs ((b : Int)).natAbs).log2 < 12000 := lg _ (by rw [Int.natAbs_natCast, Int.natAbs_natCast]; exact Nat.max_lt.mpr ⟨ha, hb⟩)
  have h3 : ((((Nat.lcm 1 ((a : Int)).natAbs).lcm ((b : Int)).natAbs : Nat) : Int)).natAbs.log2 < bitsLine := by
    rw [PySem.W.mc_lcm_one, Int.natAbs_natCast, Int.natAbs_natCast, Int.natAbs_natCast]
    have e : bitsLine = 134217728 := by decide
    rw [e]
    by_cases h0 : a.lcm b = 0
    · rw [h0]
      decide
    · refine (Nat.log2_lt h0).mpr (Nat.lt_of_le_of_lt (PySem.W.mc_lcm_le a b) ?_)
      have h4 : a * b ≤ 2 ^ 12000 * 2 ^ 12000 := Nat.mul_le_mul (Nat.le_of_lt ha) (Nat.le_of_lt hb)
      rw [← Nat.pow_add] at h4
      exact Nat.lt_of_le_of_lt h4 (Nat.pow_lt_pow_right (by decide) (by decide))
  refine call_function_meets PySem.W.MGF.kind_lcm PySem.W.MGF.plain_lcm PySem.W.MGF.entry_lcm (PySem.W.MGF.args_lcm _ _) (PySem.W.mg_run_lcm a t b u (by omega) (by omega) h3).meets ?_
  rw [PySem.W.mc_lcm_one, Int.natAbs_natCast, Int.natAbs_natCast]
  exact ⟨.int _, H, I.tok _, ⟨_, rfl⟩, q⟩
end
end KB
namespace KB
open PySem PySem.Spec PyProof.Rows L2
/-- e.f within a comprehension -/
theorem pe_fldC {X : Cx} (K : PySem.W.Frag) {e : Expr} {f : Str} {pos : Pos} {ta : TE} (he : PE X e ta) (hb : attributeBase e f X.env (eval e X.env) = eval e X.env) (hK : X.K = K := by rfl) : PE X (.Attribute e f pos) (tFld K ta f) := by
  subst hK
  exact pe_fld he hb
end KB
namespace KB
open PySem PySem.Spec PyProof.Rows L2
/-- a comprehension without a condition -/
theorem tyes {σ : L2.St} {H : Hp} {A B : Hp → Prop} (h : A H) : tYes σ H fun b H3 => if b = true then A H3 else B H3 := by
  show if true = true then A H else B H
  rw [if_pos rfl]
  exact h
end KB
namespace KB
open PySem PySem.Spec PyProof.Rows L2
theorem Sh.lst {C D x : Addr} {H : Hp} {n d : Int} {xs : List V} {o : HO} (h : Sh C H x n d) (e : H D = some (.lst xs)) : Sh C (upd H D o) x n d := by
  obtain ⟨dx, h⟩ := h
  exact ⟨dx, by rw [upd_ne (fun z => by rw [z, e] at h; cases h)]; exact h⟩
end KB

namespace KB
open PySem PySem.Spec PyProof.Rows L2
/-! ### zip(one, other), each a list, a tuple or a text -/
inductive Src | lst (a : Addr) | tup (a : Addr) | txt (x : Str)
def sgnsV (x : Str) : List V := x.cps.toList.map fun c => V.str ⟨#[c]⟩
def Src.v : Src → V
  | .lst a => .ref a
  | .tup a => .ref a
  | .txt x => .str x
def Src.has (K : PySem.W.Frag) (H : Hp) : Src → List V → Prop
  | .lst a, xs => SqL K H a xs
  | .tup a, xs => SqT K H a xs
  | .txt x, xs => xs = sgnsV x
def Src.fp : Src → List Addr
  | .lst a => [a]
  | .tup a => [a]
  | .txt _ => []
def Src.at (t : Tok) (it : Addr) (i : Nat) (h : Heap) : Src → Prop
  | .lst a => h.IsListIter it a i
  | .tup a => h.IsTupleIter it a i
  | .txt x => h.IsStrIter it (strIterType x) x t i
def ItZ (K : PySem.W.Frag) (u1 u2 : Src) : It := ⟨
  fun i H => ∃ (xs ys : List V) (x y : V), u1.has K H xs ∧ u2.has K H ys ∧ xs[i]? = some x ∧ ys[i]? = some y,
  fun i H v H' => ∃ T x y, v = .ref T ∧ H T = none ∧ H' = upd H T (.tup [x, y]) ∧ (∀ xs, u1.has K H xs → xs[i]? = some x) ∧ (∀ ys, u2.has K H ys → ys[i]? = some y),
  fun i H => ∃ xs ys : List V, u1.has K H xs ∧ u2.has K H ys ∧ i ≤ xs.length ∧ i ≤ ys.length ∧ (i = xs.length ∨ i = ys.length)⟩
section
variable {X : Cx} {pins : List (Addr × Obj)} {σ : L2.St} {H : Hp} {s : Shared}
theorem Src.inj (I : Inv X pins σ H s) : ∀ {u : Src} {xs ys : List V}, u.has X.K H xs → u.has X.K H ys → xs = ys
  | .lst _, _, _, h1, h2 => I.list_inj h1 h2
  | .tup _, _, _, h1, h2 => I.tuple_inj h1 h2
  | .txt _, _, _, h1, h2 => h1.trans h2.symm
theorem vals_of {xs : List V} {its : List Value} (rv : Vals xs its) {j : Nat} {x : Value} (h : its.toArray[j]? = some x) : ∃ y, xs[j]? = some y ∧ RelV y x := by
  have hl := rv.length
  have hj : j < its.length := by
    have := (Array.getElem?_eq_some_iff.mp h).1
    simpa using this
  have e : xs[j]? = some xs[j] := List.getElem?_eq_getElem (by omega)
  obtain ⟨u, hu, ru⟩ := rv.get e
  have h' : its[j]? = some x := by simpa using h
  rw [hu] at h'
  cases h'
  exact ⟨_, e, ru⟩
theorem src_draws (I : Inv X pins σ H s) {A : Around} (hh : A.handled = none) {t : Tok} {it : Addr} {i : Nat} : ∀ {u : Src} {xs : List V}, u.has X.K H xs → u.at t it i s.heap → (∀ a ∈ u.fp, a ≠ it) →
    ∃ (St : Nat → Heap → Prop) (P : Nat → Value → Prop), Draws X.prog X.w A it (it :: u.fp) xs.length P St ∧ St i s.heap ∧ (∀ j x, P j x → ∃ y, xs[j]? = some y ∧ RelV y x) ∧ ∀ j h', St j h' → u.at t it j h'
  | .lst a, xs, h, hat, hne => by
    obtain ⟨its, rv, p, _⟩ := I.list h
    have hl : xs.length = its.toArray.size := by rw [rv.length]; simp
    rw [hl]
    exact ⟨_, _, Draws.list hh it a (hne a (List.mem_singleton.mpr rfl)) its.toArray, ⟨hat, p.isList⟩, fun j x hx => vals_of rv hx, fun j h' st => st.1⟩
  | .tup a, xs, h, hat, hne => by
    obtain ⟨its, rv, p, _⟩ := I.tuple h
    have hl : xs.length = its.toArray.size := by rw [rv.length]; simp
    rw [hl]
    exact ⟨_, _, Draws.tuple hh it a (hne a (List.mem_singleton.mpr rfl)) its.toArray, ⟨hat, (show s.heap.IsTuple a its.toArray from p)⟩, fun j x hx => vals_of rv hx, fun j h' st => st.1⟩
  | .txt x, xs, h, hat, hne => by
    have e : xs = sgnsV x := h
    subst e
    have hl : (sgnsV x).length = x.cps.size := by unfold sgnsV; simp
    rw [hl]
    refine ⟨_, _, Draws.text hh it x t, hat, fun j v hv => ?_, fun j h' st => st⟩
    obtain ⟨c, u, hc, rfl⟩ := hv
    refine ⟨.str ⟨#[c]⟩, ?_, ⟨_, rfl⟩⟩
    unfold sgnsV
    rw [List.getElem?_map, Array.getElem?_toList, hc]
    rfl
theorem src_begins (I : Inv X pins σ H s) : ∀ {u : Src} {xs : List V} {val : Value}, u.has X.K H xs → RelV u.v val → ∃ (t : Tok) (o : Obj) (H0 : Heap → Prop), Begins val o H0 ∧ H0 s.heap ∧ (∀ a ∈ u.fp, a < s.heap.objs.size) ∧ ∀ h' it, h'.get? it = some o → u.at t it 0 h'
  | .lst a, xs, val, h, r => by
    obtain ⟨its, rv, p, _⟩ := I.list h
    cases r
    exact ⟨0, _, _, begins_list a its.toArray, p.isList, fun b hb => by rw [List.mem_singleton.mp hb]; exact p.lt, fun h' it hi => ⟨_, hi, rfl, rfl⟩⟩
  | .tup a, xs, val, h, r => by
    obtain ⟨its, rv, p, _⟩ := I.tuple h
    cases r
    have lt : a < s.heap.objs.size := by obtain ⟨o, ho, _⟩ := id p; exact Heap.lt_size ho
    exact ⟨0, _, _, begins_tuple a its.toArray, (show s.heap.IsTuple a its.toArray from p), fun b hb => by rw [List.mem_singleton.mp hb]; exact lt, fun h' it hi => ⟨_, hi, rfl, rfl⟩⟩
  | .txt x, xs, val, h, r => by
    obtain ⟨t, rfl⟩ := r
    exact ⟨t, _, _, begins_text x t, trivial, fun b hb => (by cases hb), fun h' it hi => ⟨_, hi, rfl, rfl⟩⟩
end
theorem turn_zipG {P : Program} {w : World} {K : PySem.W.Frag} {elts : List Expr} {kk : Nat} {tpos : Pos} {u1 u2 : Src} {t1 t2 : Tok} {z TI TO i1 i2 : Addr} (D : ZipSep2 z TI TO i1 i2 (i1 :: u1.fp) (i2 :: u2.fp)) (n1 : ∀ a ∈ u1.fp, a ≠ i1) (n2 : ∀ a ∈ u2.fp, a ≠ i2) :
    Turn P w K (.Tuple elts kk tpos) (ItZ K u1 u2) [z, TI, TO, i1, i2] z (fun i h => IsZip h z TI TO .none ∧ IsTupOf2 h TI (.ref i1) (.ref i2) ∧ (∃ x y, IsTupOf2 h TO x y) ∧ u1.at t1 i1 i h ∧ u2.at t2 i2 i h) where
  mem := by simp
  obj := fun i h st c hc => by
    have atO : ∀ {u : Src} {t : Tok} {it : Addr}, u.at t it i h → ∃ o, h.get? it = some o ∧ ∀ v, o.data ≠ .cell v := fun {u t it} hu => by
      cases u with
      | lst a => obtain ⟨o, e, _, d⟩ := hu; exact ⟨o, e, fun v q => by rw [d] at q; cases q⟩
      | tup a => obtain ⟨o, e, _, d⟩ := hu; exact ⟨o, e, fun v q => by rw [d] at q; cases q⟩
      | txt x => obtain ⟨o, e, _, d⟩ := hu; exact ⟨o, e, fun v q => by rw [d] at q; cases q⟩
    obtain ⟨hz, hTI, ⟨x, y, hTO⟩, h1, h2⟩ := st
    have e' : c = z ∨ c = TI ∨ c = TO ∨ c = i1 ∨ c = i2 := by simpa using hc
    rcases e' with q | q | q | q | q
    · rw [q]; exact ⟨_, hz, fun v q => nomatch q⟩
    · rw [q]; exact ⟨_, hTI, fun v q => nomatch q⟩
    · rw [q]; exact ⟨_, hTO, fun v q => nomatch q⟩
    · rw [q]; exact atO h1
    · rw [q]; exact atO h2
  keep := fun i h h' st k => by
    have atK : ∀ {u : Src} {t : Tok} {it : Addr}, it ∈ [z, TI, TO, i1, i2] → u.at t it i h → u.at t it i h' := fun {u t it} hm hu => by
      cases u with
      | lst a => obtain ⟨o, e, r⟩ := hu; exact ⟨o, k it hm o e, r⟩
      | tup a => obtain ⟨o, e, r⟩ := hu; exact ⟨o, k it hm o e, r⟩
      | txt x => obtain ⟨o, e, r⟩ := hu; exact ⟨o, k it hm o e, r⟩
    obtain ⟨hz, hTI, ⟨x, y, hTO⟩, h1, h2⟩ := st
    exact ⟨k z (by simp) _ hz, k TI (by simp) _ hTI, ⟨x, y, k TO (by simp) _ hTO⟩, atK (by simp) h1, atK (by simp) h2⟩
  item := by
    intro X hP hw hK hc i pins s σ H E I hf st hg
    subst hP hw hK
    obtain ⟨hz, hTI, ⟨x0, y0, hTO⟩, h1, h2⟩ := st
    obtain ⟨xs, ys, x, y, hqx, hqy, hx, hy⟩ := hg
    obtain ⟨St1, P1, D1, s1, r1, b1⟩ := src_draws I (A := X.A.in1) (show X.A.in1.handled = none from I.ok.hd hc) hqx h1 n1
    obtain ⟨St2, P2, D2, s2, r2, b2⟩ := src_draws I (A := X.A.in1) (show X.A.in1.handled = none from I.ok.hd hc) hqy h2 n2
    have hzl : z < s.heap.objs.size := Heap.lt_size hz
    have l1 := (List.getElem?_eq_some_iff.mp hx).1
    have l2 := (List.getElem?_eq_some_iff.mp hy).1
    have li : ∀ {u : Src} {t : Tok} {it : Addr}, u.at t it i s.heap → it < s.heap.objs.size := fun {u t it} hu => by
      cases u with
      | lst a => obtain ⟨o, e, _⟩ := hu; exact Heap.lt_size e
      | tup a => obtain ⟨o, e, _⟩ := hu; exact Heap.lt_size e
      | txt x => obtain ⟨o, e, _⟩ := hu; exact Heap.lt_size e
    have li1 := li h1
    have li2 := li h2
    refine wpAny_pyNext_zipD2_item D D1 D2 hz hTI hTO s1 s2 l1 l2 fun u v h' tk p1 p2 z' TO' s1' s2' hT hsz hk => ?_
    obtain ⟨x', hx', ru⟩ := r1 i u p1
    obtain ⟨y', hy', rv⟩ := r2 i v p2
    rw [hx] at hx'
    cases hx'
    rw [hy] at hy'
    cases hy'
    refine ⟨_, rfl, wpAny_letOwnedTupleGo_zip (s := { s with heap := h', toks := tk }) z' fun h'' z'' sb => ?_⟩
    have hT2 : h''.get? s.heap.objs.size = some { cls := .type "tuple", data := .seq #[u, v] } := (sb.2 _ (Nat.ne_of_gt hzl)).trans hT
    have new : ObjOk X.prog X.w (upd H s.heap.objs.size (.tup [x, y])) h'' s.heap.objs.size (.tup [x, y]) :=
      ⟨by show 2 ≤ sizeLine; decide, [u, v], .cons ru (.cons rv .nil), ⟨_, hT2, rfl, _, rfl⟩⟩
    have I1 : Inv X pins σ (upd H s.heap.objs.size (.tup [x, y])) { s with heap := h'', toks := tk } :=
      I.turnedNew (t' := tk) (ch := [z, TI, TO, i1, i2]) (fun c o hb q => (sb.2 c (fun q' => hb (by simp [q']))).trans (hk c o (fun q' => hb (by simp [q'])) (fun q' => hb (by simp [q'])) (fun q' => hb (by simp [q'])) (fun q' => hb (by simp [q'])) q)) hf (Nat.le_refl _) new
    have aK : ∀ {u : Src} {t : Tok} {it : Addr}, it ≠ z → u.at t it (i + 1) h' → u.at t it (i + 1) h'' := fun {u t it} hm hu => by
      cases u with
      | lst a => obtain ⟨o, e, r⟩ := hu; exact ⟨o, (sb.2 it hm).trans e, r⟩
      | tup a => obtain ⟨o, e, r⟩ := hu; exact ⟨o, (sb.2 it hm).trans e, r⟩
      | txt x => obtain ⟨o, e, r⟩ := hu; exact ⟨o, (sb.2 it hm).trans e, r⟩
    refine ⟨.ref s.heap.objs.size, _, I1, rfl, ⟨_, x, y, rfl, I.hok.fresh (Nat.le_refl _), rfl, fun l hl => by rw [Src.inj I hl hqx]; exact hx, fun l hl => by rw [Src.inj I hl hqy]; exact hy⟩, ⟨z'', ?_, ⟨u, v, ?_⟩, aK D.zi1.symm (b1 _ _ s1'), aK D.zi2.symm (b2 _ _ s2')⟩, fun c hcm => ?_⟩
    · exact (sb.2 _ D.TIz).trans (hk _ _ D.TIz D.TITO D.TIi1 D.TIi2 hTI)
    · exact (sb.2 _ D.TOz).trans TO'
    · have hlt : c < s.heap.objs.size := by
        have e' : c = z ∨ c = TI ∨ c = TO ∨ c = i1 ∨ c = i2 := by simpa using hcm
        rcases e' with q | q | q | q | q
        · rw [q]; exact hzl
        · rw [q]; exact Heap.lt_size hTI
        · rw [q]; exact Heap.lt_size hTO
        · rw [q]; exact li1
        · rw [q]; exact li2
      rw [upd_ne (Nat.ne_of_lt hlt)]
      exact (hf c hcm).1
  done := by
    intro X hP hw hK hc i pins s σ H E I hf st hg
    subst hP hw hK
    obtain ⟨hz, hTI, ⟨x0, y0, hTO⟩, h1, h2⟩ := st
    obtain ⟨xs, ys, hqx, hqy, le1, le2, hend⟩ := hg
    obtain ⟨St1, P1, D1, s1, r1, b1⟩ := src_draws I (A := X.A.in1) (show X.A.in1.handled = none from I.ok.hd hc) hqx h1 n1
    obtain ⟨St2, P2, D2, s2, r2, b2⟩ := src_draws I (A := X.A.in1) (show X.A.in1.handled = none from I.ok.hd hc) hqy h2 n2
    exact wpAny_pyNext_zipD2_end D D1 D2 hz hTI hTO s1 s2 le1 le2 hend fun h' tk hk => ⟨rfl, I.turnedL (t' := tk) (ch := [z, TI, TO, i1, i2]) (fun c o hb q =>
      hk c o (fun q' => hb (by simp [q'])) (fun q' => hb (by simp [q'])) (fun q' => hb (by simp [q'])) (fun q' => hb (by simp [q'])) q) hf⟩
  self := fun A i s Q E st h => wpAny_pyIter_zip st.1 h
/-- what a walk over a zip needs to know -/
structure LikeZp (J : It) (S : Hp → Prop) (xs ys : List V) : Prop where
  mono : ∀ H H', Same H H' → S H → S H'
  go : ∀ i H, S H → i < xs.length → i < ys.length → J.go i H
  yld : ∀ i H v H', S H → J.yld i H v H' → ∃ T x y, v = .ref T ∧ H T = none ∧ H' = upd H T (.tup [x, y]) ∧ xs[i]? = some x ∧ ys[i]? = some y
  stop : ∀ i H, S H → i ≤ xs.length → i ≤ ys.length → (i = xs.length ∨ i = ys.length) → J.stop i H
theorem Src.mono {K : PySem.W.Frag} {H H' : Hp} (sm : Same H H') : ∀ {u : Src} {xs : List V}, u.has K H xs → u.has K H' xs
  | .lst _, _, h => sm.seq h
  | .tup _, _, h => sameT sm h
  | .txt _, _, h => h
theorem likeZp (K : PySem.W.Frag) (u1 u2 : Src) (xs ys : List V) : LikeZp (ItZ K u1 u2) (fun H => u1.has K H xs ∧ u2.has K H ys) xs ys where
  mono := fun H H' sm h => ⟨Src.mono sm h.1, Src.mono sm h.2⟩
  go := fun i H h l1 l2 => ⟨xs, ys, _, _, h.1, h.2, List.getElem?_eq_getElem l1, List.getElem?_eq_getElem l2⟩
  yld := fun i H v H' h y => by
    obtain ⟨T, x, y', rfl, hT, rfl, f1, f2⟩ := y
    exact ⟨T, x, y', rfl, hT, rfl, f1 _ h.1, f2 _ h.2⟩
  stop := fun i H h l1 l2 e => ⟨xs, ys, h.1, h.2, l1, l2, e⟩
def iZipJ (K : PySem.W.Frag) (ta : TA) : TI := fun σ H R => ta σ H fun vs H1 => ∃ (u1 u2 : Src) (xs ys : List V), vs = [u1.v, u2.v] ∧ u1.has K H1 xs ∧ u2.has K H1 ys ∧ ∀ J S, LikeZp J S xs ys → S H1 → R J H1
theorem pi_zipJ {X : Cx} {e e2 : Expr} {ta : TA} {p pos tpos : Pos} {elts : List Expr} {kk : Nat} (hg : Gl X "zip") (hm : X.mg "zip" = none) (ha : PA X [e, e2] ta)
    (hs : starEach [e, e2] X.env = (false, eval e X.env) :: starEach [e2] X.env := by rfl) (hpl : (backTo pos (starEach [e2] X.env)).any (·.1) = false := by rfl) :
    PI X (.Tuple elts kk tpos) (.Call (.Name "zip" p) [e, e2] [] pos) (iZipJ X.K ta) := by
  refine ⟨fun pins s σ H R I h => ?_⟩
  refine Call_ (ld_blt I hg hm PyProof.Rows.boot_zip (PyProof.Rows.callWith_type1 (thn (ha.run pos pins s σ H _ I h) fun us s1 ⟨vs, H1, I1, r1, q1⟩ => ?_) hs hpl))
  obtain ⟨u1, u2, xs, ys, ex, hx, hy, q1⟩ := q1
  subst ex
  cases r1 with
  | cons r rr =>
    cases rr with
    | cons r' rr =>
      cases rr
      obtain ⟨t1, o1, H01, B1, k1, a1, c1⟩ := src_begins I1 hx r
      obtain ⟨t2, o2, H02, B2, k2, a2, c2⟩ := src_begins I1 hy r'
      refine zip_begins2 B1 B2 k1 k2 fun h' hz hTI hTO g1 g2 hsz hk => wpAny_pyIter_zip hz ?_
      have I2 : Inv X pins σ H1 { s1 with heap := h' } := I1.kept (t' := s1.toks) hk
      have fresh5 : ∀ c, c ∈ [s1.heap.objs.size + 4, s1.heap.objs.size + 2, s1.heap.objs.size + 3, s1.heap.objs.size, s1.heap.objs.size + 1] → FpOk X pins H1 c := fun c hcm => by
        have e' : c = s1.heap.objs.size + 4 ∨ c = s1.heap.objs.size + 2 ∨ c = s1.heap.objs.size + 3 ∨ c = s1.heap.objs.size ∨ c = s1.heap.objs.size + 1 := by simpa using hcm
        have hle : s1.heap.objs.size ≤ c := by
          rcases e' with z | z | z | z | z
          · rw [z]; exact Nat.le_add_right _ _
          · rw [z]; exact Nat.le_add_right _ _
          · rw [z]; exact Nat.le_add_right _ _
          · rw [z]; exact Nat.le_refl _
          · rw [z]; exact Nat.le_add_right _ _
        exact I1.fpOk hle (I1.hok.fresh hle)
      have S : ZipSep2 (s1.heap.objs.size + 4) (s1.heap.objs.size + 2) (s1.heap.objs.size + 3) s1.heap.objs.size (s1.heap.objs.size + 1) (s1.heap.objs.size :: u1.fp) ((s1.heap.objs.size + 1) :: u2.fp) := zip_sep2 a1 a2
      refine ⟨s1.heap.objs.size + 4, [s1.heap.objs.size + 4, s1.heap.objs.size + 2, s1.heap.objs.size + 3, s1.heap.objs.size, s1.heap.objs.size + 1], _, _, H1, rfl, I2, turn_zipG (t1 := t1) (t2 := t2) S (fun a ha => Nat.ne_of_lt (a1 a ha)) (fun a ha => Nat.ne_of_lt (Nat.lt_succ_of_lt (a2 a ha))), ⟨hz, hTI, ⟨_, _, hTO⟩, c1 _ _ g1, c2 _ _ g2⟩, fresh5, q1 _ _ (likeZp X.K u1 u2 xs ys) ⟨hx, hy⟩⟩
theorem for_zipJ {J : It} {S : Hp → Prop} {xs ys : List V} (L : LikeZp J S xs ys) {n : Nat} (hn : n = min xs.length ys.length) {g : TG} {tb : TS} {D : Ends} {σ : L2.St} {H : Hp} (Pv : Nat → L2.St → Hp → Prop) (h0 : Pv 0 σ H) (hl : ∀ i σ H, i ≤ n → Pv i σ H → S H)
    (hs : ∀ i x y σ H, xs[i]? = some x → ys[i]? = some y → Pv i σ H → ∀ T, H T = none → g (.ref T) σ (upd H T (.tup [x, y])) fun σ2 H2 => tb { D with nx := Pv (i + 1), ct := Pv (i + 1), bk := D.nx } σ2 H2) (hd : ∀ σ H, Pv n σ H → D.nx σ H) :
    ∃ W : Nat → Nat → L2.St → Hp → Prop, (∃ m, W 0 m σ H) ∧ ∀ i m σ H, W i m σ H →
      (J.stop i H ∧ D.nx σ H) ∨ (J.go i H ∧ ∃ N : L2.St → Hp → Prop, (∀ σ' H', N σ' H' → ∃ m', m' < m ∧ W (i + 1) m' σ' H') ∧ ∀ v H', J.yld i H v H' → g v σ H' fun σ2 H2 => tb { D with nx := N, ct := N, bk := D.nx } σ2 H2) := by
  subst hn
  refine ⟨fun i m σ H => m = min xs.length ys.length - i ∧ i ≤ min xs.length ys.length ∧ Pv i σ H, ⟨_, rfl, Nat.zero_le _, h0⟩, ?_⟩
  rintro i m σ H ⟨rfl, hi, p⟩
  have q := hl i σ H hi p
  by_cases hlt : i < min xs.length ys.length
  · refine .inr ⟨L.go i H q (by omega) (by omega), Pv (i + 1), fun σ' H' p' => ⟨min xs.length ys.length - (i + 1), by omega, rfl, hlt, p'⟩, fun v H' y => ?_⟩
    obtain ⟨T, x, y', rfl, hT, rfl, hx, hy⟩ := L.yld i H v H' q y
    exact hs i x y' σ H hx hy p T hT
  · have e : i = min xs.length ys.length := by omega
    subst e
    exact .inl ⟨L.stop _ H q (by omega) (by omega) (by omega), hd σ H p⟩
theorem lc_zipJ {J : It} {S : Hp → Prop} {xs ys : List V} (L : LikeZp J S xs ys) {n : Nat} (hn : n = min xs.length ys.length) {g : TG} {tt : TT} {te : TE} {vs : List Nat} {σ : L2.St} {H1 : Hp} {D : Addr} {Qd : Hp → Prop} (Pv : Nat → Hp → Prop) (h0 : Pv 0 (upd H1 D (.lst []))) (hl : ∀ i H, i ≤ n → Pv i H → S H)
    (hs : ∀ i x y H, xs[i]? = some x → ys[i]? = some y → Pv i H → ∀ T, H T = none → g (.ref T) (wipe σ vs) (upd H T (.tup [x, y])) fun σ2 H2 => wipe σ2 vs = wipe σ vs ∧ tt σ2 H2 fun b H3 =>
      if b = true then te σ2 H3 fun y H4 => ∃ acc, H4 D = some (.lst acc) ∧ acc.length < sizeLine ∧ Pv (i + 1) (upd H4 D (.lst (acc ++ [y]))) else Pv (i + 1) H3) (hd : ∀ H, Pv n H → Qd H) :
    ∃ W : Nat → Nat → Hp → Prop, (∃ m, W 0 m (upd H1 D (.lst []))) ∧ ∀ i m H, W i m H →
      (J.stop i H ∧ Qd H) ∨ (J.go i H ∧ ∃ Nx : Hp → Prop, (∀ H', Nx H' → ∃ m', m' < m ∧ W (i + 1) m' H') ∧ ∀ x H', J.yld i H x H' → g x (wipe σ vs) H' fun σ2 H2 => wipe σ2 vs = wipe σ vs ∧ tt σ2 H2 fun b H3 =>
        if b = true then te σ2 H3 fun y H4 => ∃ acc, H4 D = some (.lst acc) ∧ acc.length < sizeLine ∧ Nx (upd H4 D (.lst (acc ++ [y]))) else Nx H3) := by
  subst hn
  refine ⟨fun i m H => m = min xs.length ys.length - i ∧ i ≤ min xs.length ys.length ∧ Pv i H, ⟨_, rfl, Nat.zero_le _, h0⟩, ?_⟩
  rintro i m H ⟨rfl, hi, p⟩
  have q := hl i H hi p
  by_cases hlt : i < min xs.length ys.length
  · refine .inr ⟨L.go i H q (by omega) (by omega), Pv (i + 1), fun H' p' => ⟨min xs.length ys.length - (i + 1), by omega, rfl, hlt, p'⟩, fun v H' y => ?_⟩
    obtain ⟨T, x, y', rfl, hT, rfl, hx, hy⟩ := L.yld i H v H' q y
    exact hs i x y' H hx hy p T hT
  · have e : i = min xs.length ys.length := by omega
    subst e
    exact .inl ⟨L.stop _ H q (by omega) (by omega) (by omega), hd H p⟩
end KB

namespace KB
open PySem PySem.Spec PyProof.Rows L2
/-! ### an own class whose __init__ lets nothing out -/
structure Mak (P : Program) (w : World) (K : PySem.W.Frag) (mg : Str → Option Value) (base : Heap) (k : Nat) (x : Str) (C : Addr) (sp : Sp) : Prop where
  ex : ∃ (f : Addr) (fd : FuncData) (ps : List Str), Mk K C f ∧ FnOk P w K mg base CX0 k f fd ps sp ∧ mg x = some (.ref C) ∧ Binds K fd ps []
section
variable {X : Cx} {x C : _} {k j : Nat} {sp : Sp} {e : Expr} {es : List Expr} {t : TA} {p pos : Pos}
theorem pe_mk {x : Str} {C : Addr} (c : Mak X.prog X.w X.K X.mg X.base k x C sp) (hr : Room j X.A) (hk : k + 1 ≤ j) (hg : Gl X x) (ha : PA X (e :: es) t)
    (hdb : (x == ("__debug__" : Str)) = false := by decide) (he : starEach (e :: es) X.env = (false, eval e X.env) :: starEach es X.env := by rfl) (hpl : (backTo pos (starEach es X.env)).any (·.1) = false := by rfl) :
    PE X (.Call (.Name x p) (e :: es) [] pos) (tMake C sp [] E0 t) := by
  obtain ⟨f, fd, ps, M, F, hm, b⟩ := c.ex
  exact pe_make M F (hr.mono hk) hg hm b .nil pass0 ha hdb he hpl
end
/-- the list's repetition by a text's or number's count, and numbers not at their place -/
def misL (w r : Str) : Nat := ((w.cps.toList.zip r.cps.toList).filter fun p => p.1 != p.2).length
end KB
namespace KB
open PySem PySem.Spec PyProof.Rows L2
theorem SqL.offI {K : PySem.W.Frag} {H : Hp} {a x C dx : Addr} {xs : List V} {fs : List (Str × V)} {o : HO} (h : SqL K H a xs) (hx : H x = some (.ins C dx fs)) : SqL K (upd H x o) a xs := by
  rcases h with (h | ⟨o', h⟩) | h
  · exact .inl (.inl (by rw [upd_ne (fun e => by rw [e, hx] at h; cases h)]; exact h))
  · exact .inl (.inr ⟨o', by rw [upd_ne (fun e => by rw [e, hx] at h; cases h)]; exact h⟩)
  · exact .inr h
theorem SqT.offI {K : PySem.W.Frag} {H : Hp} {a x C dx : Addr} {xs : List V} {fs : List (Str × V)} {o : HO} (h : SqT K H a xs) (hx : H x = some (.ins C dx fs)) : SqT K (upd H x o) a xs := by
  rcases h with (h | ⟨o', h⟩) | h
  · exact .inl (.inl (by rw [upd_ne (fun e => by rw [e, hx] at h; cases h)]; exact h))
  · exact .inl (.inr ⟨o', by rw [upd_ne (fun e => by rw [e, hx] at h; cases h)]; exact h⟩)
  · exact .inr h
/-- tuple(x) of a list or a tuple -/
theorem tuple_of {K : PySem.W.Frag} {H : Hp} {a : Addr} {xs : List V} {Q : VK} (h : SqL K H a xs ∨ SqT K H a xs) (q : ∀ H' p, Same H H' → SqT K H' p xs → Q (.ref p) H') :
    ∃ p ys, [V.ref a] = [V.ref p] ∧ ((SqL K H p ys ∧ ∀ l, H l = none → Q (.ref l) (upd H l (.tup ys))) ∨ SqT K H p ys ∧ Q (.ref p) H) := by
  rcases h with h | h
  · exact ⟨a, xs, rfl, .inl ⟨h, fun l hl => q _ l (same_upd hl) (SqT.of upd_same)⟩⟩
  · exact ⟨a, xs, rfl, .inr ⟨h, q H a (fun _ _ e => e) h⟩⟩
end KB
namespace KB
open PySem PySem.Spec PyProof.Rows L2
theorem tup_or {K : PySem.W.Frag} {H : Hp} {a : Addr} {xs : List V} {Q : VK} (h : SqL K H a xs ∨ SqT K H a xs) (q : ∀ H' p, Same H H' → SqT K H' p xs → Q (.ref p) H') :
    (SqL K H a xs ∧ ∀ l, H l = none → Q (.ref l) (upd H l (.tup xs))) ∨ SqT K H a xs ∧ Q (.ref a) H := by
  rcases h with h | h
  · exact .inl ⟨h, fun l hl => q _ l (same_upd hl) (SqT.of upd_same)⟩
  · exact .inr ⟨h, q H a (fun _ _ e => e) h⟩
end KB
namespace KB
theorem filt_step (p : Nat → Bool) (i : Nat) : (List.range (i + 1)).filter p = (List.range i).filter p ++ (if p i = true then [i] else []) := by
  rw [List.range_succ, List.filter_append]
  congr 1
  cases h : p i <;> simp [h]
theorem filt_le (p : Nat → Bool) (i : Nat) : ((List.range i).filter p).length ≤ i := by
  have := List.length_filter_le p (List.range i)
  rwa [List.length_range] at this
end KB
namespace KB
open PySem PySem.Spec PyProof.Rows L2
theorem in_addS {X : Cx} : InOp X .Add (fun x y H Q => ∃ i j, x = .str i ∧ y = .str j ∧ i.length + j.length ≤ sizeLine ∧ Q (.str (i ++ j)) H) := fun pins s σ H x y u v Q I rx ry h => iop_add_str pins s σ H x y u v Q I rx ry h
def LB : Nat := 1000
theorem LB_eq : LB = 1000 := rfl
theorem len_app (a b : Str) : (a ++ b).length = a.length + b.length := by
  show (a.cps ++ b.cps).size = a.cps.size + b.cps.size
  rw [Array.size_append]
end KB
namespace KB
open PySem PySem.Spec PyProof.Rows L2
theorem same_self {H : Hp} {x : Addr} {o : HO} (h : H x = some o) : Same (upd H x o) H := fun b u e => by
  by_cases hb : b = x
  · subst hb
    rw [upd_same] at e
    rw [h]
    exact e
  · rw [upd_ne hb] at e
    exact e
end KB
namespace KB
open PySem PySem.Spec PyProof.Rows L2
/-- sep.join(xs) within a comprehension -/
def tJoinC (K : PySem.W.Frag) (to te : TE) : TE := tM1 (fun x xs H Q => ∃ a p, ∃ ys : List Str, x = .str a ∧ xs = [.ref p] ∧ (SqL K H p (ys.map V.str) ∨ SqT K H p (ys.map V.str)) ∧ (ys.map (·.length)).sum + ys.length * a.length ≤ 16777216 ∧ Q (.str (Txt.join a ys)) H) to te
theorem pe_joinC {X : Cx} (K : PySem.W.Frag) {o e : Expr} {to te : TE} {apos pos : Pos} (ho : PE X o to) (he : PE X e te) (hs : starEach [e] X.env = [(false, eval e X.env)] := by rfl) (hbase : attributeBase o "join" X.env (eval o X.env) = eval o X.env := by rfl) (hline : (apos.endLine == pos.line) = true := by rfl) (hK : X.K = K := by rfl) :
    PE X (.Call (.Attribute o "join" apos) [e] [] pos) (tJoinC K to te) := by
  subst hK
  exact pe_join ho he hs hbase hline
end KB
namespace KB
open PySem PySem.Spec PyProof.Rows L2
/-! ### a list of strings beside the tape -/
structure Ns (B0 B H : Hp) (t p : Addr) (c : Nat) (ws : List Str) : Prop where
  same : Same B0 B
  tp : Tp B H t c
  at_ : B p = some (.lst (ws.map V.str))
  nb : B0 p = none
theorem Ns.set {B0 B H : Hp} {t p : Addr} {c : Nat} {ws : List Str} (N : Ns B0 B H t p c ws) (zs : List Str) : Ns B0 (upd B p (.lst (zs.map V.str))) (upd H p (.lst (zs.map V.str))) t p c zs :=
  ⟨same_out N.same N.nb, N.tp.set N.at_, upd_same, N.nb⟩
theorem Ns.hd {B0 B H : Hp} {t p : Addr} {c : Nat} {ws : List Str} (N : Ns B0 B H t p c ws) : H p = some (.lst (ws.map V.str)) := N.tp.at N.at_
theorem Ns.le {B0 B H : Hp} {t p : Addr} {c d : Nat} {ws : List Str} (N : Ns B0 B H t p c ws) (h : c ≤ d) : Ns B0 B H t p d ws := ⟨N.same, N.tp.le h, N.at_, N.nb⟩
theorem Ns.drw {B0 B H H' : Hp} {t p : Addr} {c d : Nat} {ws : List Str} (N : Ns B0 B H t p c ws) (T : Tp B H' t d) : Ns B0 B H' t p d ws := ⟨N.same, T, N.at_, N.nb⟩
theorem Ns.app {B0 B H : Hp} {t p : Addr} {c : Nat} {ws : List Str} (N : Ns B0 B H t p c ws) (z : Str) : Ns B0 (upd B p (.lst (ws.map V.str ++ [.str z]))) (upd H p (.lst (ws.map V.str ++ [.str z]))) t p c (ws ++ [z]) := by
  rw [show ws.map V.str ++ [V.str z] = (ws ++ [z]).map V.str by rw [List.map_append]; rfl]
  exact N.set _
theorem Tp.ns {B H : Hp} {t p : Addr} {c : Nat} (T : Tp B H t c) (hp : H p = none) (ws : List Str) : Ns B (upd B p (.lst (ws.map V.str))) (upd H p (.lst (ws.map V.str))) t p c ws :=
  ⟨same_upd (T.isn hp), T.new hp, upd_same, T.isn hp⟩
theorem at_strs {ws : List Str} {i : Nat} (hi : i < ws.length) : atI (ws.map V.str) (i : Int) = some (.str (ws.getD i "")) :=
  atI_nat (j := i) (by rw [List.getElem?_map, List.getD_eq_getElem?_getD, List.getElem?_eq_getElem hi]; rfl)
/-! ### bit words -/
theorem isB_all {z : Str} : isB z = true ↔ ∀ c ∈ z.cps.toList, c = 48 ∨ c = 49 := by
  constructor
  · intro h c hc
    exact isB_mem h hc
  · intro h
    show z.cps.toList.all (("01" : Str)).cps.contains = true
    have e01 : (("01" : Str)).cps = #[48, 49] := by decide
    rw [e01, List.all_eq_true]
    intro c hc
    rcases h c hc with e | e <;> rw [e] <;> simp
theorem isB_app {a b : Str} (h1 : isB a = true) (h2 : isB b = true) : isB (a ++ b) = true := by
  rw [isB_all] at h1 h2 ⊢
  intro c hc
  have hc' : c ∈ (a.cps ++ b.cps).toList := hc
  rw [Array.toList_append] at hc'
  rcases List.mem_append.mp hc' with z | z
  · exact h1 c z
  · exact h2 c z
theorem isB_rep {z : Str} {k : Int} (h : isB z = true) : isB (repS z k) = true := by
  rw [isB_all] at h ⊢
  intro c hc
  have hc' : c ∈ ((List.replicate k.toNat z.cps.toList).flatten).toArray.toList := hc
  have hc2 : c ∈ (List.replicate k.toNat z.cps.toList).flatten := by simpa using hc'
  obtain ⟨l, hl, hcl⟩ := List.mem_flatten.mp hc2
  rw [List.eq_of_mem_replicate hl] at hcl
  exact h c hcl
theorem isB_cut {z : Str} {lo hi : Option Int} (h : isB z = true) : isB (cutS z lo hi) = true := by
  rw [isB_all] at h ⊢
  intro c hc
  have hc' : c ∈ ((z.cps.toList.drop (HT.sIx z.length 0 lo)).take (HT.sIx z.length z.length hi - HT.sIx z.length 0 lo)).toArray.toList := hc
  have hc2 : c ∈ (z.cps.toList.drop (HT.sIx z.length 0 lo)).take (HT.sIx z.length z.length hi - HT.sIx z.length 0 lo) := by simpa using hc'
  exact h c (List.mem_of_mem_drop (List.mem_of_mem_take hc2))
theorem cut_len {z : Str} {k : Nat} (h : k ≤ z.length) : (cutS z none (some (k : Int))).length = k := by
  show (((z.cps.toList.drop (HT.sIx z.length 0 none)).take (HT.sIx z.length z.length (some (k : Int)) - HT.sIx z.length 0 none)).toArray).size = k
  have e2 : HT.sIx z.length 0 none = 0 := rfl
  rw [HT.sIx_nat, e2, Nat.sub_zero, List.drop_zero, List.size_toArray, List.length_take, Array.length_toList]
  have : z.length = z.cps.size := rfl
  omega
end KB
namespace KB
open PySem PySem.Spec PyProof.Rows L2
theorem isB_one : isB "1" = true := isB_all.mpr fun c hc => .inr (by
  have e : (("1" : Str)).cps.toList = [49] := by decide
  rw [e] at hc
  exact List.mem_singleton.mp hc)
theorem isB_zero : isB "0" = true := isB_all.mpr fun c hc => .inl (by
  have e : (("0" : Str)).cps.toList = [48] := by decide
  rw [e] at hc
  exact List.mem_singleton.mp hc)
theorem four_bits (a b c d : Bool) : ∃ n : Nat, n ≤ 4 ∧ ((((if a = true then 1 else 0) + (if b = true then 1 else 0) : Int) + (if c = true then 1 else 0) : Int) + (if d = true then 1 else 0) : Int) = (n : Int) := by
  cases a <;> cases b <;> cases c <;> cases d <;> exact ⟨_, by decide, rfl⟩
theorem sum_signs (cs : List Nat) : ((cs.map chS).map (·.length)).sum = cs.length := by
  induction cs with
  | nil => rfl
  | cons c r ih =>
    rw [List.map_cons, List.map_cons, List.sum_cons, ih, List.length_cons]
    show 1 + r.length = _
    omega
end KB
namespace KB
open PySem PySem.Spec PyProof.Rows L2
/-- the base takes up all that is no list -/
theorem Tp.grow {B H : Hp} {t : Addr} {c : Nat} (T : Tp B H t c) : ∃ B', Same B B' ∧ Tp B' H t c ∧ ∀ a o, H a = some o → (∀ xs, o ≠ .lst xs) → B' a = some o := by
  obtain ⟨sm, b, g, gs, sd, ct, h1, h2, h3, h4, h5⟩ := T
  refine ⟨fun a => if a = t ∨ a = g then none else H a, fun a o e => ?_, ⟨fun a o e => ?_, ?_, g, gs, sd, ct, ?_, h2, h3, h4, h5⟩, fun a o e n => ?_⟩
  · have n1 : a ≠ t := fun z => by rw [z, b] at e; cases e
    have n2 : a ≠ g := fun z => by rw [z, h1] at e; cases e
    show (if a = t ∨ a = g then none else H a) = some o
    rw [if_neg (fun z => z.elim n1 n2)]
    exact sm _ _ e
  · have e' : (if a = t ∨ a = g then none else H a) = some o := e
    split at e'
    · cases e'
    · exact e'
  · show (if t = t ∨ t = g then none else H t) = none
    rw [if_pos (.inl rfl)]
  · show (if g = t ∨ g = g then none else H g) = none
    rw [if_pos (.inr rfl)]
  · have n1 : a ≠ t := fun z => by rw [z, h3] at e; exact n _ (Option.some.inj e).symm
    have n2 : a ≠ g := fun z => by rw [z, h4] at e; exact n _ (Option.some.inj e).symm
    show (if a = t ∨ a = g then none else H a) = some o
    rw [if_neg (fun z => z.elim n1 n2)]
    exact e
theorem SqT.up {K : PySem.W.Frag} {H B : Hp} {a : Addr} {xs : List V} (h : SqT K H a xs) (k : ∀ a o, H a = some o → (∀ xs, o ≠ .lst xs) → B a = some o) : SqT K B a xs := by
  rcases h with (h | ⟨o', h⟩) | h
  · exact .inl (.inl (k _ _ h fun _ e => by cases e))
  · exact .inl (.inr ⟨o', k _ _ h fun _ e => by cases e⟩)
  · exact .inr h
theorem int_zero : PySem.intText? (⟨#[48]⟩ : Str) = some 0 := by decide +kernel
theorem int_one : PySem.intText? (⟨#[49]⟩ : Str) = some 1 := by decide +kernel
end KB

namespace KB
open PySem PySem.Spec PyProof.Rows L2
/-! ### what a heap holds beside another one; bases that take up what was made -/
def dif (B B' : Hp) : Hp := fun a => match B a with
  | none => B' a
  | some _ => none
theorem dif_at {B B' : Hp} {a : Addr} {o : HO} (h : B a = none) (h' : B' a = some o) : dif B B' a = some o := by
  unfold dif
  rw [h]
  exact h'
theorem dif_same {B B' : Hp} : Same (dif B B') B' := fun a o e => by
  unfold dif at e
  split at e
  · exact e
  · cases e
theorem dif_off {B B' : Hp} {a : Addr} {o : HO} (h : B a = some o) : dif B B' a = none := by
  unfold dif
  rw [h]
/-- B and what H' holds beside H -/
def uni (B H H' : Hp) : Hp := fun a => match H a with
  | none => H' a
  | some _ => B a
theorem uni_new {B H H' : Hp} {a : Addr} {o : HO} (h : H a = none) (h' : H' a = some o) : uni B H H' a = some o := by
  unfold uni
  rw [h]
  exact h'
theorem uni_old {B H H' : Hp} (s : Same B H) : Same B (uni B H H') := fun a o e => by
  unfold uni
  rw [s _ _ e]
  exact e
theorem uni_up {B H H' : Hp} (s : Same B H) (s' : Same H H') : Same (uni B H H') H' := fun a o e => by
  unfold uni at e
  split at e
  · exact e
  · exact s' _ _ (s _ _ e)
theorem uni_ne {B H H' : Hp} {a : Addr} (h : uni B H H' a ≠ none) (h' : B a = none) : H a = none := by
  unfold uni at h
  cases e : H a with
  | none => rfl
  | some o => rw [e] at h; exact absurd h' h
theorem Bx.more {B H H' : Hp} {t : Addr} {c : Nat} (T : Bx B H t c) (s : Same H H') : ∃ B', Same B B' ∧ Bx B' H' t c ∧ ∀ a o, H a = none → H' a = some o → B' a = some o :=
  ⟨uni B H H', uni_old T.same, T.up s (uni_old T.same) (uni_up T.same s) fun _ h h' => uni_ne h h', fun _ _ h h' => uni_new h h'⟩
theorem Tp.more {B H H' : Hp} {t : Addr} {c : Nat} (T : Tp B H t c) (s : Same H H') : ∃ B', Same B B' ∧ Tp B' H' t c ∧ ∀ a o, H a = none → H' a = some o → B' a = some o := by
  have T0 := T
  obtain ⟨sm, b, g, gs, sd, ct, h1, h2, h3, h4, h5⟩ := T
  refine ⟨uni B H H', uni_old sm, ⟨uni_up sm s, ?_, g, gs, sd, ct, ?_, h2, s _ _ h3, s _ _ h4, h5⟩, fun _ _ h h' => uni_new h h'⟩
  · exact Classical.byContradiction fun z => by have := uni_ne z b; rw [h3] at this; cases this
  · exact Classical.byContradiction fun z => by have := uni_ne z h1; rw [h4] at this; cases this
theorem cut_len2 {z : Str} {k : Nat} (h : k ≤ z.length) : (cutS z (some (k : Int)) none).length = z.length - k := by
  have e1 : HT.sIx z.length z.length none = z.length := rfl
  show ((z.cps.toList.drop (HT.sIx z.length 0 (some (k : Int)))).take _).toArray.size = _
  have hl : z.cps.toList.length = z.length := by rw [Array.length_toList]; rfl
  rw [HT.sIx_nat, e1, List.size_toArray, List.length_take, List.length_drop, hl]
  omega
theorem bit_ch {n : Int} {ch : Nat} (n0 : 0 ≤ n) (n1 : n < 2) (hch : atI (("01" : Str)).cps.toList n = some ch) : ch = 48 ∨ ch = 49 := by
  have e01 : (("01" : Str)).cps = #[48, 49] := by decide
  rw [e01] at hch
  obtain ⟨j, rfl⟩ := nat_of n0
  rcases (by omega : j = 0 ∨ j = 1) with e | e <;> subst e
  · exact .inl (Option.some.inj hch).symm
  · exact .inr (Option.some.inj hch).symm
theorem isB_chs {cs : List Nat} (h : ∀ y ∈ cs, y = 48 ∨ y = 49) : isB (⟨cs.toArray⟩ : Str) = true := isB_all.mpr fun c hc => h c (by simpa using hc)
theorem okD_up : ∀ {n : Nat} {d : PyData}, okD n d = true → okD (n + 1) d = true
  | 0, d, h => by cases d <;> cases h
  | n + 1, .none, _ => rfl
  | n + 1, .bool _, _ => rfl
  | n + 1, .int _, _ => rfl
  | n + 1, .str _, _ => rfl
  | n + 1, .list ds, h => okD_mk (okD_seq h).1 fun d hd => okD_up ((okD_seq h).2 d hd)
  | n + 1, .tuple ds, h => okD_mk (okD_seq h).1 fun d hd => okD_up ((okD_seq h).2 d hd)
  | n + 1, .dict _, h => by cases h
theorem cut_any (xs : List V) (x : Nat) : cutV xs none (some (x : Int)) = xs.take x := by
  have e2 : HT.sIx xs.length 0 none = 0 := rfl
  unfold cutV
  rw [HT.sIx_nat, e2, Nat.sub_zero, List.drop_zero]
  by_cases h : x ≤ xs.length
  · rw [show min x xs.length = x by omega]
  · rw [show min x xs.length = xs.length by omega, List.take_length, List.take_of_length_le (by omega)]
theorem at_ints {ls : List Int} {i : Nat} (h : i < ls.length) : atI (ls.map V.int) (i : Int) = some (.int (ls.getD i 0)) := atI_nat (by
  rw [List.getElem?_map, List.getD_eq_getElem?_getD, List.getElem?_eq_getElem h]
  rfl)
theorem sgnsV_len (x : Str) : (sgnsV x).length = x.length := by
  unfold sgnsV
  rw [List.length_map, Array.length_toList]
  rfl
theorem likeS (x : Str) : LikeSeq (Its x) (fun _ => True) (sgnsV x) :=
  ⟨fun _ _ _ q => q, fun i _ _ h => by rw [sgnsV_len] at h; exact h, fun i H v H' _ y => ⟨y.1, by
    obtain ⟨_, c, hc, rfl⟩ := y
    unfold sgnsV
    rw [List.getElem?_map, Array.getElem?_toList, hc]
    rfl⟩, fun _ _ => by rw [sgnsV_len]; exact Nat.le_refl _⟩
theorem sgn_at {z : Str} {i : Nat} {x : V} (h : (sgnsV z)[i]? = some x) : ∃ c, z.cps[i]? = some c ∧ x = .str ⟨#[c]⟩ := by
  unfold sgnsV at h
  rw [List.getElem?_map, Array.getElem?_toList] at h
  cases e : z.cps[i]? with
  | none => rw [e] at h; cases h
  | some c => rw [e] at h; exact ⟨c, rfl, (Option.some.inj h).symm⟩
theorem getS {ws : List Str} {k : Nat} {v : V} (h : (ws.map V.str)[k]? = some v) : ∃ z, ws[k]? = some z ∧ v = .str z := by
  rw [List.getElem?_map] at h
  cases e : ws[k]? with
  | none => rw [e] at h; cases h
  | some n => rw [e] at h; exact ⟨n, rfl, (Option.some.inj h).symm⟩
/-- one of two -/
def pk {α : Type} (x y : α) : Nat → α
  | 0 => x
  | _ => y
theorem two_at {α : Type} {f : Nat → α} {j : Nat} (h : j < 2) : [f 0, f 1][j]? = some (f j) := by
  rcases (by omega : j = 0 ∨ j = 1) with e | e <;> subst e <;> rfl
theorem nums_is {K : PySem.W.Frag} {H : Hp} {a : Addr} {ls : List Nat} (hS : H a = some (.lst (ls.map nI)) ∨ H a = some (.tup (ls.map nI))) (hl : ls.length ≤ 100000) : ∃ d, Dp K H (.ref a) d ∧ okD 2 d = true ∧ rowD d = true ∧ lensD d = ls := by
  have al : (ndD ls).all isNumD = true := by
    rw [List.all_eq_true]
    intro d hd
    obtain ⟨n, _, rfl⟩ := List.mem_map.mp hd
    exact decide_eq_true (Int.natCast_nonneg n)
  have okm := okD_mk (n := 1) (ds := ndD ls) (by rw [ndD_len]; exact hl) fun d hd => ndD_ok ls 0 d hd
  rcases hS with h | h
  · exact ⟨.list (ndD ls), .lst (SqL.of h) (dp_nd ls), okm, al, ndD_nat ls⟩
  · exact ⟨.tuple (ndD ls), .tup (SqT.of h) (dp_nd ls), okm, al, ndD_nat ls⟩
end KB

namespace KB
open PySem PySem.Spec PyProof.Rows L2
/-! ### calls with a keyword-only parameter -/
theorem un1 {n c : Nat} (h : n + 64 < c) : n + 1 < c := by omega
section
variable {P : Program} {w : World} {K : PySem.W.Frag} {mg : Str → Option Value} {base : Heap}
/-- C(e, ..), the defaults dvs behind -/
structure MakXD (P : Program) (w : World) (K : PySem.W.Frag) (mg : Str → Option Value) (base : Heap) (k : Nat) (x : Str) (C : Addr) (dvs : List V) (sp : Sp) : Prop where
  ex : ∃ (f : Addr) (fd : FuncData) (ps : List Str) (ds : List Value), Mk K C f ∧ FnOk P w K mg base (L2N.CX P w) k f fd ps sp ∧ mg x = some (.ref C) ∧ Binds K fd ps ds ∧ Vals dvs ds
/-- C(e, .., k = v, ..): n values by place -/
structure MakXN (P : Program) (w : World) (K : PySem.W.Frag) (mg : Str → Option Value) (base : Heap) (k : Nat) (x : Str) (C : Addr) (n : Nat) (ks : List Str) (gV : List V → List V → List V) (sp : Sp) : Prop where
  ex : ∃ (f : Addr) (fd : FuncData) (ps : List Str) (g : List Value → List Value → List Value), Mk K C f ∧ FnOk P w K mg base (L2N.CX P w) k f fd ps sp ∧ mg x = some (.ref C) ∧ KBn K fd ps (n + 1) ks g gV
/-- f(e, ..), the defaults dvs behind; f may raise -/
structure CalXD (P : Program) (w : World) (K : PySem.W.Frag) (mg : Str → Option Value) (base : Heap) (k : Nat) (x : Str) (dvs : List V) (sp : Sp) : Prop where
  ex : ∃ (f : Addr) (fd : FuncData) (ps : List Str) (ds : List Value), FnOk P w K mg base (L2N.CX P w) k f fd ps sp ∧ mg x = some (.ref f) ∧ PySem.W.keepIn K (.ref f) = true ∧ Binds K fd ps ds ∧ Vals dvs ds
end
section
variable {X : Cx} {k j n : Nat} {C : Addr} {x : Str} {sp : Sp} {p pos apos : Pos} {e o : Expr} {es : List Expr} {kws : List Keyword} {ta : TE} {t tk : TA} {ks : List Str} {gV : List V → List V → List V} {dvs : List V}
theorem pe_mkxD (c : MakXD X.prog X.w X.K X.mg X.base k x C dvs sp) (hr : Room j X.A) (hk : k + 1 ≤ j) (hg : Gl X x) (ha : PA X (e :: es) t)
    (hdb : (x == ("__debug__" : Str)) = false := by decide) (he : starEach (e :: es) X.env = (false, eval e X.env) :: starEach es X.env := by rfl) (hpl : (backTo pos (starEach es X.env)).any (·.1) = false := by rfl) :
    PE X (.Call (.Name x p) (e :: es) [] pos) (tMake C sp dvs E0 t) := by
  obtain ⟨f, fd, ps, ds, M, F, hm, b, hd⟩ := c.ex
  exact pe_make M F (hr.mono hk) hg hm b hd passN0 ha hdb he hpl
theorem pe_mkxN (c : MakXN X.prog X.w X.K X.mg X.base k x C n ks gV sp) (hr : Room j X.A) (hk : k + 1 ≤ j) (hg : Gl X x) (ha : PA X (e :: es) t) (hkw : PK X kws tk)
    (hall : (backToKw pos (keywordEach kws X.env)).all (·.1.isSome) = true := by rfl) (hks : (backToKw pos (keywordEach kws X.env)).filterMap (·.1) = ks := by rfl) (hdb : (x == ("__debug__" : Str)) = false := by decide)
    (he : starEach (e :: es) X.env = (false, eval e X.env) :: starEach es X.env := by rfl) (hpl : ((backTo pos (starEach (e :: es) X.env)).any (·.1) || (backToKw pos (keywordEach kws X.env)).any (·.1.isNone)) = false := by rfl) :
    PE X (.Call (.Name x p) (e :: es) kws pos) (tMakeK C n ks.length sp gV E0 t tk) := by
  obtain ⟨f, fd, ps, g, M, F, hm, b⟩ := c.ex
  exact pe_makeK M F (hr.mono hk) hg hm b passN0 ha hkw hall hks hdb he hpl
end
/-! ### C(e, ..) with defaults, in a try -/
def tMakeSD (C : Addr) (sp : Sp) (dvs : List V) (E : L2.St → XK) (t : TA) : TE := fun σ H Q => t σ H fun vs H1 => ∀ x dx, H1 x = none → H1 dx = none → dx ≠ x → sp (.ref x :: (vs ++ dvs)) (upd (upd H1 dx (.own x)) x (.ins C dx [])) (fun v H2 => v = .non ∧ Q (.ref x) H2) (E σ)
section
variable {X : Cx} {k j : Nat} {C : Addr} {x : Str} {sp : Sp} {p pos : Pos} {e : Expr} {es : List Expr} {t : TA} {dvs : List V} {W : WX}
theorem pe_mkxSD (c : MakXD X.prog X.w X.K X.mg X.base k x C dvs sp) (hr : Room j X.A) (hk : k + 1 ≤ j) (hg : Gl X x) (tk : L2N.Takes X W) (ha : PA X (e :: es) t)
    (hdb : (x == ("__debug__" : Str)) = false := by decide) (he : starEach (e :: es) X.env = (false, eval e X.env) :: starEach es X.env := by rfl) (hpl : (backTo pos (starEach es X.env)).any (·.1) = false := by rfl) :
    PE X (.Call (.Name x p) (e :: es) [] pos) (tMakeSD C sp dvs (WE W) t) := by
  obtain ⟨f, fd, ps, ds, M, F, hm, b, hd⟩ := c.ex
  refine ⟨fun pins s σ H Q I h => ?_⟩
  refine wpAny_Call_Name_kw (ld_glob I hg hm ?_ hdb)
  refine PySem.W.callWith_K (h₀ := X.base) I.ok.mod.kin M.kp (thn (ha.run pos pins s σ H _ I h) fun us s1 ⟨vs, H1, I1, r, q⟩ => ⟨I1.kIn, ?_⟩) he hpl
  have hq := q (s1.heap.objs.size + 1) s1.heap.objs.size (I1.hok.fresh (Nat.le_succ _)) (I1.hok.fresh (Nat.le_refl _)) (Nat.ne_of_lt (Nat.lt_succ_self _))
  have hl : ∀ x : Addr, (Value.ref x :: us ++ ds).length = ps.length := fun x => by
    have e1 := F.len _ _ _ _ hq
    rw [List.length_cons, List.length_append] at e1
    rw [List.length_append, List.length_cons, ← r.length, ← hd.length, ← e1]
    omega
  exact run_makeS (us := us) (ws := []) (ul := us ++ ds) (vl := vs ++ dvs) M F (hr.mono hk) tk I1 (fun x => .cons rfl (r.append hd)) (fun s' x hK => b s' (Value.ref x :: us) hK (hl x)) q
end
/-! ### walks: backwards over a list, and comprehensions with two fors -/
theorem for_rev {K : PySem.W.Frag} {a : Addr} {xs : List V} {g : TG} {tb : TS} {D : Ends} {σ : L2.St} {H : Hp} (Pv : Nat → L2.St → Hp → Prop) (h0 : Pv 0 σ H) (hl : ∀ i σ H, i ≤ xs.length → Pv i σ H → SqL K H a xs)
    (hs : ∀ i x σ H, i < xs.length → xs[xs.length - 1 - i]? = some x → Pv i σ H → g x σ H fun σ2 H2 => tb { D with nx := Pv (i + 1), ct := Pv (i + 1), bk := D.nx } σ2 H2) (hd : ∀ σ H, Pv xs.length σ H → D.nx σ H) :
    ∃ W : Nat → Nat → L2.St → Hp → Prop, (∃ m, W 0 m σ H) ∧ ∀ i m σ H, W i m σ H →
      ((Itv K a xs.length).stop i H ∧ D.nx σ H) ∨ ((Itv K a xs.length).go i H ∧ ∃ N : L2.St → Hp → Prop, (∀ σ' H', N σ' H' → ∃ m', m' < m ∧ W (i + 1) m' σ' H') ∧ ∀ x H', (Itv K a xs.length).yld i H x H' → g x σ H' fun σ2 H2 => tb { D with nx := N, ct := N, bk := D.nx } σ2 H2) := by
  refine ⟨fun i m σ H => m = xs.length - i ∧ i ≤ xs.length ∧ Pv i σ H, ⟨xs.length, by simp, Nat.zero_le _, h0⟩, ?_⟩
  rintro i m σ H ⟨rfl, hi, p⟩
  have q := hl i σ H hi p
  by_cases hlt : i < xs.length
  · have e := List.getElem?_eq_getElem (show xs.length - 1 - i < xs.length by omega)
    refine .inr ⟨⟨hlt, xs, _, q, e⟩, Pv (i + 1), fun σ' H' p' => ⟨xs.length - (i + 1), by omega, rfl, hlt, p'⟩, fun x H' y => ?_⟩
    obtain ⟨e, y⟩ := y
    subst e
    exact hs i x σ _ hlt (y xs q) p
  · have e : i = xs.length := by omega
    subst e
    exact .inl ⟨Nat.le_refl _, hd σ H p⟩
theorem lc2_J {J : It} {S : Hp → Prop} {xs : List V} (L : LikeSeq J S xs) {g : TG} {tt : TT} {wi1 : TI} {g1 : TG} {tt1 : TT} {te : TE} {vs vs1 : List Nat} {σ : L2.St} {H1 : Hp} {D : Addr} {Qd : Hp → Prop} (Pv : Nat → Hp → Prop) (h0 : Pv 0 (upd H1 D (.lst []))) (hl : ∀ i H, i ≤ xs.length → Pv i H → S H)
    (hs : ∀ i x H, xs[i]? = some x → Pv i H → g x (wipe σ vs) H fun σ2 H2 => wipe σ2 vs = wipe σ vs ∧ tt σ2 H2 fun b H3 =>
      if b = true then wi1 σ2 H3 fun J1 H4 => ∃ W1 : Nat → Nat → Hp → Prop, (∃ m, W1 0 m H4) ∧ ∀ j k H, W1 j k H →
        (J1.stop j H ∧ Pv (i + 1) H) ∨ (J1.go j H ∧ ∃ Nx1 : Hp → Prop, (∀ H', Nx1 H' → ∃ k', k' < k ∧ W1 (j + 1) k' H') ∧ ∀ x H', J1.yld j H x H' → g1 x (wipe σ2 vs1) H' fun σ3 H5 => wipe σ3 vs1 = wipe σ2 vs1 ∧ tt1 σ3 H5 fun b H6 =>
          if b = true then te σ3 H6 fun y H7 => ∃ acc, H7 D = some (.lst acc) ∧ acc.length < sizeLine ∧ Nx1 (upd H7 D (.lst (acc ++ [y]))) else Nx1 H6)
      else Pv (i + 1) H3) (hd : ∀ H, Pv xs.length H → Qd H) :
    ∃ W : Nat → Nat → Hp → Prop, (∃ m, W 0 m (upd H1 D (.lst []))) ∧ ∀ i m H, W i m H →
      (J.stop i H ∧ Qd H) ∨ (J.go i H ∧ ∃ Nx : Hp → Prop, (∀ H', Nx H' → ∃ m', m' < m ∧ W (i + 1) m' H') ∧ ∀ x H', J.yld i H x H' → g x (wipe σ vs) H' fun σ2 H2 => wipe σ2 vs = wipe σ vs ∧ tt σ2 H2 fun b H3 =>
        if b = true then wi1 σ2 H3 fun J1 H4 => ∃ W1 : Nat → Nat → Hp → Prop, (∃ m, W1 0 m H4) ∧ ∀ j k H, W1 j k H →
          (J1.stop j H ∧ Nx H) ∨ (J1.go j H ∧ ∃ Nx1 : Hp → Prop, (∀ H', Nx1 H' → ∃ k', k' < k ∧ W1 (j + 1) k' H') ∧ ∀ x H', J1.yld j H x H' → g1 x (wipe σ2 vs1) H' fun σ3 H5 => wipe σ3 vs1 = wipe σ2 vs1 ∧ tt1 σ3 H5 fun b H6 =>
            if b = true then te σ3 H6 fun y H7 => ∃ acc, H7 D = some (.lst acc) ∧ acc.length < sizeLine ∧ Nx1 (upd H7 D (.lst (acc ++ [y]))) else Nx1 H6)
        else Nx H3) := by
  refine ⟨fun i m H => m = xs.length - i ∧ i ≤ xs.length ∧ Pv i H, ⟨xs.length, by simp, Nat.zero_le _, h0⟩, ?_⟩
  rintro i m H ⟨rfl, hi, p⟩
  have q := hl i H hi p
  by_cases hlt : i < xs.length
  · refine .inr ⟨L.go i H q hlt, Pv (i + 1), fun H' p' => ⟨xs.length - (i + 1), by omega, rfl, hlt, p'⟩, fun x H' y => ?_⟩
    obtain ⟨e, yy⟩ := L.yld i H x H' q y; clear y
    subst e
    exact hs i x _ yy p
  · have e : i = xs.length := by omega
    subst e
    exact .inl ⟨L.stop H q, hd H p⟩
theorem lc2_in {J1 : It} {S1 : Hp → Prop} {ys : List V} (L : LikeSeq J1 S1 ys) {g1 : TG} {tt1 : TT} {te : TE} {vs1 : List Nat} {σ2 : L2.St} {H4 : Hp} {D : Addr} {Nx : Hp → Prop} (Pw : Nat → Hp → Prop) (h0 : Pw 0 H4) (hl : ∀ i H, i ≤ ys.length → Pw i H → S1 H)
    (hs : ∀ j y H, ys[j]? = some y → Pw j H → g1 y (wipe σ2 vs1) H fun σ3 H5 => wipe σ3 vs1 = wipe σ2 vs1 ∧ tt1 σ3 H5 fun b H6 =>
      if b = true then te σ3 H6 fun y H7 => ∃ acc, H7 D = some (.lst acc) ∧ acc.length < sizeLine ∧ Pw (j + 1) (upd H7 D (.lst (acc ++ [y]))) else Pw (j + 1) H6) (hd : ∀ H, Pw ys.length H → Nx H) :
    ∃ W1 : Nat → Nat → Hp → Prop, (∃ m, W1 0 m H4) ∧ ∀ j k H, W1 j k H →
      (J1.stop j H ∧ Nx H) ∨ (J1.go j H ∧ ∃ Nx1 : Hp → Prop, (∀ H', Nx1 H' → ∃ k', k' < k ∧ W1 (j + 1) k' H') ∧ ∀ x H', J1.yld j H x H' → g1 x (wipe σ2 vs1) H' fun σ3 H5 => wipe σ3 vs1 = wipe σ2 vs1 ∧ tt1 σ3 H5 fun b H6 =>
        if b = true then te σ3 H6 fun y H7 => ∃ acc, H7 D = some (.lst acc) ∧ acc.length < sizeLine ∧ Nx1 (upd H7 D (.lst (acc ++ [y]))) else Nx1 H6) := by
  refine ⟨fun i m H => m = ys.length - i ∧ i ≤ ys.length ∧ Pw i H, ⟨ys.length, by simp, Nat.zero_le _, h0⟩, ?_⟩
  rintro i m H ⟨rfl, hi, p⟩
  have q := hl i H hi p
  by_cases hlt : i < ys.length
  · refine .inr ⟨L.go i H q hlt, Pw (i + 1), fun H' p' => ⟨ys.length - (i + 1), by omega, rfl, hlt, p'⟩, fun x H' y => ?_⟩
    obtain ⟨e, yy⟩ := L.yld i H x H' q y; clear y
    subst e
    exact hs i x _ yy p
  · have e : i = ys.length := by omega
    subst e
    exact .inl ⟨L.stop H q, hd H p⟩
theorem max3 (a b c : Int) : nuMax3 (.int a) (.int b) (.int c) = some (.int (if (if a < b then b else a) < c then c else (if a < b then b else a))) := by
  have l : ∀ x y : Int, nuLt (.int x) (.int y) = some (decide (x < y)) := fun _ _ => rfl
  have m : ∀ x y : Int, nuMax2 (.int x) (.int y) = some (.int (if x < y then y else x)) := fun x y => by
    unfold nuMax2
    rw [l]
    by_cases h : x < y
    · rw [decide_eq_true h, if_pos h]
      rfl
    · rw [decide_eq_false h, if_neg h]
      rfl
  unfold nuMax3
  rw [m]
  exact m _ _
end KB

/-! ### a try with several clauses that all give the exception the same name (the library has one such clause, or several without a name) -/
namespace L2N
open PySem PySem.Spec PyProof.Rows L2
/-- the ends of a suite behind which the name in slot i is gone -/
def gone (i : Nat) (D : Ends) : Ends := { nx := fun σ H => D.nx (σ.set i none) H, rt := D.rt, bk := fun σ H => D.bk (σ.set i none) H, ct := fun σ H => D.ct (σ.set i none) H }
def wNamed (K : PySem.W.Frag) (i : Nat) (Wout : WX) (D : Ends) : List (Value × (Addr → Value → Option Addr → TS)) → WX
  | [] => Wout
  | z :: r => fun cls d σ H => ∃ b, PySem.W.exmOne K cls z.1 = some b ∧ (b = true → ∀ a, H a = none → z.2 a cls d (gone i D) (σ.set i (some (.ref a))) H) ∧ (b = false → wNamed K i Wout D r cls d σ H)
inductive NamedOk (X : Cx) (n : Str) : List ExceptHandler → List (Value × (Addr → Value → Option Addr → TS)) → Prop
  | nil : NamedOk X n [] []
  | cons {x : Str} {c : Value} {ts : Addr → Value → Option Addr → TS} {s0 : Stmt} {ss : List Stmt} {p1 p2 : Pos} {hs : List ExceptHandler} {l : List (Value × (Addr → Value → Option Addr → TS))} (nm : Names X x c)
      (su : ∀ (a : Addr) (oe : Obj) (cls : Value) (d : Option Addr) (pn : List (Addr × Obj)), Zn cls d oe → (∃ vs, oe.data = .fields vs) → PSs (X.suite a ((a, oe) :: pn)) (s0 :: ss) (ts a cls d)) (rest : NamedOk X n hs l) :
      NamedOk X n (.ExceptHandler (some (.Name x p1)) (some n) (s0 :: ss) p2 :: hs) ((c, ts) :: l)
section
variable {X : Cx} {n : Str} {i : Nat} {body : List Stmt} {h0 : ExceptHandler} {hds : List ExceptHandler} {l : List (Value × (Addr → Value → Option Addr → TS))} {pos : Pos} {tb : WX → TS} {Wout : WX}
theorem ps_try_named (hst : X.stack = X.env :: X.outer) (hfr : X.env.frame = some X.env.locals) (nd : X.N.Nodup) (hi : X.N[i]? = some n) (loc : X.env.kindOf n = some .local) (tk : Takes X Wout)
    (hb : ∀ (W : WX) (pn : List (Addr × Obj)) (xe : Value → Shared → Prop), Takes (X.tr pn xe) W → PassesOwn (model X.prog X.w) X.A X.env xe → PSs (X.tr pn xe) body (tb W))
    (hh : NamedOk X n (h0 :: hds) l) : PS X (.Try body (h0 :: hds) [] [] pos) (fun D σ H => tb (wNamed X.K i Wout D l) D σ H) := by
  refine ⟨fun pins s σ H D I h => ?_⟩
  have ok := I.ok
  have af : X.A.frames = some (X.env :: X.outer) := by rw [ok.frames, hst]
  refine wpAny_Try_except (wpAny_mono ((hb (wNamed X.K i Wout D l) (X.pn ++ pins) (fun e s1 => wpAny (model X.prog X.w) X.A (noteFrame e X.env) (fun _ s2 => wpAny (model X.prog X.w) X.A (setFlight e none) (fun _ s3 =>
    wpAny (model X.prog X.w) X.A (handleBy e X.env (h0 :: hds)) (SP X pins D) X.xe s3) X.xe s2) X.xe s1) (fun u s' caught => ?_) PassesOwn.looking).run [] s σ H D (I.toTry _) h) (fun f s1 q => ?_) (fun e s1 he => he))
  · obtain ⟨a, B, sI, pins', σ', H', cls, d, rfl, J', nb, up, sky, na, os, ag, want⟩ := caught
    have J : Inv X pins σ' H' sI := J'.ofTry ok
    refine Sky.land Zn.steady af hfr (by rw [← hst]; exact sky) fun h3 fl up3 => ?_
    have J3 : Inv X pins σ' H' { s' with heap := h3 } := J.landed nb fl.1 (up.trans up3) os ag
    obtain ⟨o3, vs3, at3, z3, d3⟩ := fl.there
    have apart : a ∉ frs (X.env :: X.outer) := fun hm => by
      obtain ⟨_, o', e', no⟩ := fl.2.2.1.mem hm
      rw [at3] at e'
      cases e'
      exact no _ d3
    have nL : a ≠ X.env.locals := fun z => apart (List.mem_filterMap.mpr ⟨X.env, List.mem_cons_self, by rw [hfr, z]⟩)
    have nF : a ∉ X.fs := fun hm => by
      obtain ⟨e, he, q⟩ := List.mem_filterMap.mp hm
      exact apart (List.mem_filterMap.mpr ⟨e, List.mem_cons_of_mem _ he, q⟩)
    have S3 := J3.suite at3 d3 na nL nF
    have ty : PySem.W.Looks (model X.prog X.w) h3 (typeOf (.ref a)) cls := fun A Q E s k q => wpAny_typeOf_ref (k _ _ at3) (by rw [z3.1]; exact q)
    have along : ∀ {hs : List ExceptHandler} {m : List (Value × (Addr → Value → Option Addr → TS))}, NamedOk X n hs m → wNamed X.K i Wout D m cls d σ' H' → wpAny (model X.prog X.w) X.A (handleBy (.ref a) X.env hs) (SP X pins D) X.xe { s' with heap := h3 } := by
      intro hs m k
      induction k with
      | nil =>
        intro w
        obtain ⟨_, _, _, oe, vs, T, _, _, he, _, hd, h1, _⟩ := id fl
        have out : wpAny (model X.prog X.w) X.A (setFlight (.ref a) X.env.frame) (fun _ s4 => wpAny (model X.prog X.w) X.A (throw (.ref a) : Sem Flow) (SP X pins D) X.xe s4) X.xe { s' with heap := h3 } := by
          rw [hfr]
          exact HandSPX.setFlight_upZ fl fun h4 hh4 up4 => wpAny_throw (tk _ _ ⟨a, B, sI, pins, σ', H', cls, d, rfl, J, nb, (up.trans up3).trans up4, .inr (.inr (by rw [hst]; exact hh4)), na, os, ag, w⟩)
        refine wpAny_handleBy_nil ?_
        unfold PySem.passOn
        refine wpAny_bind (wpAny_field he hd h1 ?_)
        rw [if_neg (show ¬ ((Value.ref T == Value.none) = true) from by simp)]
        first
          | exact wpAny_bind (wpAny_pure (wpAny_bind out))
          | exact wpAny_bind out
      | @cons x c ts s0 ss p1 p2 hs2 l2 nm su rest ih =>
        intro w
        obtain ⟨b, hb1, yes, no⟩ := w
        have named : ∀ {Q : Value → Shared → Prop} {E : Value → Shared → Prop}, Q c { s' with heap := h3 } → wpAny (model X.prog X.w) (X.A.mark (some (.ref a))) (eval (.Name x p1) X.env) Q E { s' with heap := h3 } := fun {Q E} q => by
          rcases nm with ⟨hg, hdb, hm | ⟨hm, hv, hn⟩⟩
          · exact ld_glob (X := X.suite a ((a, o3) :: (X.pn ++ pins))) S3 hg hm q hdb
          · exact ld_blt (X := X.suite a ((a, o3) :: (X.pn ++ pins))) S3 hg hm hv q hn hdb
        refine wpAny_handleBy_cons (codeAny_handlers_test ?_) (by intro q; cases q)
        refine named ((PySem.W.exm_one (M := model X.prog X.w) J3.kIn ty hb1).here ?_)
        cases b with
        | false => exact ih (no rfl)
        | true =>
          refine codeAny_handlers_suite_as (HandSPX.lands_againZ fl fun h4 fl4 up4 => ?_)
          have J4 : Inv X pins σ' H' { s' with heap := h4 } := J.landed nb fl4.1 ((up.trans up3).trans up4) os ag
          obtain ⟨o4, vs4, at4, z4, d4⟩ := fl4.there
          refine store_ok (X := X.suite a ((a, o4) :: (X.pn ++ pins))) (v := .ref a) (J4.suite at4 d4 na nL nF) nd hi (.inl loc) rfl (fun s5 S5 => ?_) (.inr loc)
          refine wpAny_mono ((su a o4 cls d (X.pn ++ pins) z4 ⟨_, d4⟩).run [] s5 _ H' _ S5 (yes rfl a na)) (fun f s6 q => ?_) (fun _ _ z => False.elim z)
          have leave : ∀ {σ6 : St} {H6 : Hp} {Q : Shared → Prop}, Inv (X.suite a ((a, o4) :: (X.pn ++ pins))) [] σ6 H6 s6 → (∀ s7, Inv X pins (σ6.set i none) H6 s7 → Q s7) →
              wpAny (model X.prog X.w) X.A (do bindName X.env n .none; unbindBehindTheSuite X.env n p2) (fun _ s7 => Q s7) X.xe s6 := fun {σ6 H6 Q} S6 hq => gone_ok (S6.unsuite ok) nd hi loc hq
          cases f with
          | next =>
            obtain ⟨_, _, S6, q6⟩ := q
            exact leave S6 fun s7 J7 => ⟨_, _, J7, q6⟩
          | brk =>
            obtain ⟨_, _, S6, q6⟩ := q
            exact leave S6 fun s7 J7 => ⟨_, _, J7, q6⟩
          | cont =>
            obtain ⟨_, _, S6, q6⟩ := q
            exact leave S6 fun s7 J7 => ⟨_, _, J7, q6⟩
          | ret u =>
            obtain ⟨_, _, _, S6, r6, q6⟩ := q
            exact leave S6 fun s7 J7 => ⟨_, _, _, J7, r6, q6⟩
    exact along hh want
  · cases f with
    | next =>
      obtain ⟨_, _, K1, q1⟩ := q
      exact wpAny_execs_nil ⟨_, _, K1.ofTry ok, q1⟩
    | brk =>
      obtain ⟨_, _, K1, q1⟩ := q
      exact ⟨_, _, K1.ofTry ok, q1⟩
    | cont =>
      obtain ⟨_, _, K1, q1⟩ := q
      exact ⟨_, _, K1.ofTry ok, q1⟩
    | ret u =>
      obtain ⟨_, _, _, K1, r1, q1⟩ := q
      exact ⟨_, _, _, K1.ofTry ok, r1, q1⟩
end
end L2N

/-! # KSL: xs[a:c] = ys, a list stored into a slice of another -/
namespace KB
open PySem PySem.Spec PyProof.Rows L2
def rSetSl : V → Option Int → Option Int → V → Hp → (Hp → Prop) → Prop := fun o lo hi v H Q => ∃ l b xs ys a c, o = .ref l ∧ v = .ref b ∧ lo = some a ∧ hi = some c ∧ H l = some (.lst xs) ∧ H b = some (.lst ys) ∧ l ≠ b ∧ 0 ≤ a ∧ a ≤ c ∧ c ≤ (xs.length : Int) ∧ xs.length + ys.length ≤ sizeLine ∧ Q (upd H l (.lst (xs.take a.toNat ++ ys ++ xs.drop c.toNat)))
def gSlice (to : TE) (tl th : TO) : TG := fun v σ H Q => to σ H fun o H1 => tl σ H1 fun lo H2 => th σ H2 fun hi H3 => rSetSl o lo hi v H3 fun H4 => Q σ H4
section
variable {X : Cx} {pos p2 : Pos}
theorem pg_slice {o : Expr} {lo hi : Option Expr} {to : TE} {tl th : TO} (ho : PE X o to) (hl : PO X lo tl) (hu : PO X hi th)
    (ha : ∀ v, assign (.Subscript o (.Slice lo hi none p2) pos) X.env v = (do
      let ov ← holding [v] (eval o X.env)
      let iv ← holding [v, ov] (eval (.Slice lo hi none p2) X.env)
      standAt pos
      holding [v, ov, iv] (setItem ov iv v)
      release [iv, v, ov] []) := by intro _; rfl) : PG X (.Subscript o (.Slice lo hi none p2) pos) (gSlice to tl th) := by
  refine ⟨fun pins s σ H v u Q I r h => ?_⟩
  rw [ha]
  refine wpAny_bind (wpAny_holding (thn (ho.run pins s σ H _ I h) fun ov s1 ⟨x, H1, I1, r1, q1⟩ => ?_))
  refine wpAny_bind (wpAny_holding (wpAny_Slice (thn (hl.run pins s1 σ H1 _ I1 q1) fun vl s2 ⟨l, H2, I2, pl, q2⟩ => thn (hu.run pins s2 σ H2 _ I2 q2) fun vu s3 ⟨y, H3, I3, pu, q3⟩ => ?_)))
  rw [evalPart_none]
  refine wpAny_pure ?_
  have I4 : Inv X pins σ H3 { s3 with heap := s3.heap.push { cls := .type "slice", data := .fields #[vl, vu, .none] } } := I3.kept (t' := s3.toks) fun b ob q => Heap.get?_push_of_some _ q
  obtain ⟨l', b, xs, ys, a, c, rfl, rfl, rfl, rfl, hH, hB, hne, h0, hac, hc, hz, q⟩ := q3
  cases r1
  cases r
  have ra : RelV (.int a) vl := by cases pl; exact ⟨_, rfl⟩
  have rc : RelV (.int c) vu := by cases pu; exact ⟨_, rfl⟩
  refine wpAny_bind (wpAny_standAt (wpAny_bind (wpAny_holding (set_slice I4 hH hB hne (Heap.IsSliceOf.new ..) ra rc h0 hac hc hz fun s5 I5 => ?_))))
  exact wpAny_release ⟨σ, _, I5, q⟩
end
end KB

/-! # KAS: xs[k] += text, k a place of a list; text.ljust(n, sign); what a heap holds beside some cells -/
namespace KB
open PySem PySem.Spec PyProof.Rows L2
def rGetL (K : PySem.W.Frag) : V → V → Hp → VK → Prop := fun x y H Q => ∃ p xs k v, x = .ref p ∧ y = .int ((k : Nat) : Int) ∧ SqL K H p xs ∧ xs[k]? = some v ∧ Q v H
theorem get_list {X : Cx} : PGet X (rGetL X.K) := by
  intro pins s σ H o i ov iv Q I ro ri h
  obtain ⟨p, xs, k, v, rfl, rfl, hq, he, q⟩ := h
  cases ro
  obtain ⟨t, rfl⟩ := ri
  obtain ⟨its, r, pl, hz⟩ := I.list hq
  obtain ⟨w, ew, rw'⟩ := r.get he
  have hl := r.length
  have hn := line63
  have hk := (List.getElem?_eq_some_iff.mp he).1
  exact wpAny_getItem_list pl.isList (by omega) (by omega) (by rw [Int.toNat_natCast]; simpa using ew) ⟨v, H, I, rw', q⟩
theorem ip_addS {X : Cx} : PIp X .Add (fun x y H Q => ∃ i j, x = .str i ∧ y = .str j ∧ i.length + j.length ≤ sizeLine ∧ Q (.str (i ++ j)) H) := fun pins s σ H x y v u Q I rx ry h => iop_add_str pins s σ H x y v u Q I rx ry h
theorem mt_ljustF {X : Cx} : MtR X "str.ljust" (fun x xs H Q => ∃ (a f : Str) (i : Int), x = .str a ∧ xs = [.int i, .str f] ∧ PadOk i = true ∧ f.length = 1 ∧ Q (.str (Txt.ljustF a i (f.cps.getD 0 0))) H) := by
  intro pins s σ H x xs v us Q I rx rs h
  obtain ⟨a, f, i, rfl, rfl, hp, hf, h⟩ := h
  obtain ⟨t, rfl⟩ := rx
  cases rs with
  | cons r1 rs =>
    cases rs with
    | cons r2 rs =>
      cases rs
      obtain ⟨u, rfl⟩ := r1
      obtain ⟨z, rfl⟩ := r2
      exact ljust_fill hp hf fun t2 k => ⟨.str (Txt.ljustF a i (f.cps.getD 0 0)), H, I.tok k, ⟨t2, rfl⟩, h⟩
/-- a heap without some cells -/
def hid (S : List Addr) (H : Hp) : Hp := fun a => if a ∈ S then none else H a
theorem hid_at {S : List Addr} {H : Hp} {a : Addr} (h : a ∉ S) : hid S H a = H a := if_neg h
theorem hid_in {S : List Addr} {H : Hp} {a : Addr} (h : a ∈ S) : hid S H a = none := if_pos h
theorem hid_sub {S : List Addr} {H : Hp} : Same (hid S H) H := fun a o e => by
  by_cases h : a ∈ S
  · rw [hid_in h] at e; cases e
  · rw [hid_at h] at e; exact e
theorem hid_more {S : List Addr} {H : Hp} {q : Addr} : Same (hid (q :: S) H) (hid S H) := fun a o e => by
  by_cases h : a ∈ q :: S
  · rw [hid_in h] at e; cases e
  · rw [hid_at h] at e
    rw [hid_at (fun z => h (List.mem_cons_of_mem _ z))]
    exact e
theorem hid_same {S : List Addr} {H H' : Hp} (s : Same H H') : Same (hid S H) (hid S H') := fun a o e => by
  by_cases h : a ∈ S
  · rw [hid_in h] at e; cases e
  · rw [hid_at h] at e ⊢
    exact s _ _ e
theorem hid_upd {S : List Addr} {H : Hp} {q : Addr} {o : HO} (h : q ∈ S) : hid S (upd H q o) = hid S H := by
  funext a
  by_cases ha : a ∈ S
  · rw [hid_in ha, hid_in ha]
  · rw [hid_at ha, hid_at ha, upd_ne (fun e => ha (by rw [e]; exact h))]
/-- what stands does not see a change of a hidden cell -/
theorem Same.hidden {S : List Addr} {H0 H : Hp} {q : Addr} {o : HO} (s : Same (hid S H0) H) (h : q ∈ S) : Same (hid S H0) (upd H q o) := fun a o' e => by
  by_cases ha : a = q
  · subst ha
    rw [hid_in h] at e
    cases e
  · rw [upd_ne ha]
    exact s _ _ e
theorem Same.hid_all {S : List Addr} {H0 H : Hp} (s : Same H0 H) (h : ∀ a ∈ S, H0 a = none) : Same H0 (hid S H) := fun a o e => by
  by_cases ha : a ∈ S
  · rw [h a ha] at e; cases e
  · rw [hid_at ha]
    exact s _ _ e
theorem app_assoc (a b c : Str) : a ++ b ++ c = a ++ (b ++ c) := congrArg Str.mk Array.append_assoc
theorem app_nil (a : Str) : a ++ ("" : Str) = a := congrArg Str.mk (Array.append_empty)
theorem nil_app (a : Str) : ("" : Str) ++ a = a := congrArg Str.mk (Array.empty_append)
def iZipK (K : PySem.W.Frag) (ta : TA) : TI := fun σ H R => ta σ H fun vs H1 => ∃ (u1 u2 : Src) (xs ys : List V), vs = [u1.v, u2.v] ∧ u1.has K H1 xs ∧ u2.has K H1 ys ∧ ∀ J, LikeZp J (fun H => u1.has K H xs ∧ u2.has K H ys) xs ys → R J H1
theorem pi_zipK {X : Cx} {e e2 : Expr} {ta : TA} {p pos tpos : Pos} {elts : List Expr} {kk : Nat} (hg : Gl X "zip") (hm : X.mg "zip" = none) (ha : PA X [e, e2] ta)
    (hs : starEach [e, e2] X.env = (false, eval e X.env) :: starEach [e2] X.env := by rfl) (hpl : (backTo pos (starEach [e2] X.env)).any (·.1) = false := by rfl) :
    PI X (.Tuple elts kk tpos) (.Call (.Name "zip" p) [e, e2] [] pos) (iZipK X.K ta) := by
  refine ⟨fun pins s σ H R I h => ?_⟩
  refine Call_ (ld_blt I hg hm PyProof.Rows.boot_zip (PyProof.Rows.callWith_type1 (thn (ha.run pos pins s σ H _ I h) fun us s1 ⟨vs, H1, I1, r1, q1⟩ => ?_) hs hpl))
  obtain ⟨u1, u2, xs, ys, ex, hx, hy, q1⟩ := q1
  subst ex
  cases r1 with
  | cons r rr =>
    cases rr with
    | cons r' rr =>
      cases rr
      obtain ⟨t1, o1, H01, B1, k1, a1, c1⟩ := src_begins I1 hx r
      obtain ⟨t2, o2, H02, B2, k2, a2, c2⟩ := src_begins I1 hy r'
      refine zip_begins2 B1 B2 k1 k2 fun h' hz hTI hTO g1 g2 hsz hk => wpAny_pyIter_zip hz ?_
      have I2 : Inv X pins σ H1 { s1 with heap := h' } := I1.kept (t' := s1.toks) hk
      have fresh5 : ∀ c, c ∈ [s1.heap.objs.size + 4, s1.heap.objs.size + 2, s1.heap.objs.size + 3, s1.heap.objs.size, s1.heap.objs.size + 1] → FpOk X pins H1 c := fun c hcm => by
        have e' : c = s1.heap.objs.size + 4 ∨ c = s1.heap.objs.size + 2 ∨ c = s1.heap.objs.size + 3 ∨ c = s1.heap.objs.size ∨ c = s1.heap.objs.size + 1 := by simpa using hcm
        have hle : s1.heap.objs.size ≤ c := by
          rcases e' with z | z | z | z | z
          · rw [z]; exact Nat.le_add_right _ _
          · rw [z]; exact Nat.le_add_right _ _
          · rw [z]; exact Nat.le_add_right _ _
          · rw [z]; exact Nat.le_refl _
          · rw [z]; exact Nat.le_add_right _ _
        exact I1.fpOk hle (I1.hok.fresh hle)
      have S : ZipSep2 (s1.heap.objs.size + 4) (s1.heap.objs.size + 2) (s1.heap.objs.size + 3) s1.heap.objs.size (s1.heap.objs.size + 1) (s1.heap.objs.size :: u1.fp) ((s1.heap.objs.size + 1) :: u2.fp) := zip_sep2 a1 a2
      refine ⟨s1.heap.objs.size + 4, [s1.heap.objs.size + 4, s1.heap.objs.size + 2, s1.heap.objs.size + 3, s1.heap.objs.size, s1.heap.objs.size + 1], _, _, H1, rfl, I2, turn_zipG (t1 := t1) (t2 := t2) S (fun a ha => Nat.ne_of_lt (a1 a ha)) (fun a ha => Nat.ne_of_lt (Nat.lt_succ_of_lt (a2 a ha))), ⟨hz, hTI, ⟨_, _, hTO⟩, c1 _ _ g1, c2 _ _ g2⟩, fresh5, q1 _ (likeZp X.K u1 u2 xs ys)⟩
end KB

/-! # KRG: range(i, j, c) as a value, walked later; xs[::k] -/
namespace KB
open PySem PySem.Spec PyProof.Rows L2
/-- a range object with a step -/
def RgO (p : Addr) (i j c : Int) : HO := .ext fun h => ∃ t u v, h.get? p = some { cls := .type "range", data := .fields #[.int i t, .int j u, .int c v] }
theorem rgO_ok {P : Program} {w : World} {H : Hp} {h : Heap} {p : Addr} {i j c : Int} (e : ∃ t u v, h.get? p = some { cls := .type "range", data := .fields #[.int i t, .int j u, .int c v] }) : ObjOk P w H h p (RgO p i j c) :=
  ⟨e, by obtain ⟨t, u, v, e⟩ := e; exact ⟨_, e⟩, fun h1 h2 ⟨t, u, v, e1⟩ k => ⟨t, u, v, k _ e1⟩⟩
theorem cr_range3 {X : Cx} : CallR X (.type "range") (fun vs H Q => ∃ i j c, vs = [V.int i, V.int j, V.int c] ∧ c ≠ 0 ∧ c.natAbs < 1073741824 ∧ ∀ p, H p = none → Q (.ref p) (upd H p (RgO p i j c))) := by
  intro pins s σ H vs us Q I r h
  obtain ⟨i, j, c, rfl, c0, c1, q⟩ := h
  cases r with
  | cons r rr =>
    cases rr with
    | cons r' rr =>
      cases rr with
      | cons r'' rr =>
        cases rr
        obtain ⟨t, rfl⟩ := r
        obtain ⟨t', rfl⟩ := r'
        obtain ⟨t'', rfl⟩ := r''
        refine call_range_3 c0 ?_ (.inl (PyProof.noPylong_small c1))
        exact ⟨.ref s.heap.objs.size, upd H s.heap.objs.size (RgO s.heap.objs.size i j c), I.laid (t' := s.toks) (fun b o e => Heap.get?_push_of_some _ e) (Nat.le_refl _) (rgO_ok ⟨t, t', t'', Heap.get?_push_size _ rfl⟩), rfl, q _ (I.hok.fresh (Nat.le_refl _))⟩
def iRgv (tl : TE) : TI := fun σ H R => tl σ H fun x H1 => ∃ p i j c n, x = .ref p ∧ H1 p = some (RgO p i j c) ∧ RgC i j c n ∧ R (Itc i c n) H1
theorem pi_rgv {X : Cx} {tg l : Expr} {tl : TE} (hl : PE X l tl) : PI X tg l (iRgv tl) := by
  refine ⟨fun pins s σ H R I h => ?_⟩
  refine thn (hl.run pins s σ H _ I h) fun v s1 ⟨x, H1, I1, r1, q1⟩ => ?_
  obtain ⟨p, i, j, c, n, e, hq, ⟨c0, c1, c2, c3⟩, q⟩ := q1
  subst e
  cases r1
  obtain ⟨⟨t, u, v', ho⟩, _⟩ : (∃ t u v, s1.heap.get? p = some { cls := .type "range", data := .fields #[.int i t, .int j u, .int c v] }) ∧ _ := I1.hok p _ hq
  refine wpAny_pyIter_range (show IsRange s1.heap p i j c t u v' from ho) c2 ?_
  have I2 := I1
  refine pi_one (tk := s1.toks) I2 _ (turn_rangeC _ i c n) ?_ q
  have e1 : i + ((0 : Nat) : Int) * c = i := by simp
  have e2 : (n : Int) - ((0 : Nat) : Int) = Builtin.Range.rangeSize i j c := by rw [c3]; simp
  show IsRangeIter _ _ (i + ((0 : Nat) : Int) * c) ((n : Int) - ((0 : Nat) : Int)) c
  rw [e1, e2]
  exact Heap.get?_push_size _ rfl
theorem lc_rangeC {lo c : Int} {n : Nat} {g : TG} {tt : TT} {te : TE} {vs : List Nat} {σ : L2.St} {H1 : Hp} {D : Addr} {Qd : Hp → Prop} (Pv : Nat → Hp → Prop) (h0 : Pv 0 (upd H1 D (.lst [])))
    (hs : ∀ i H, i < n → Pv i H → g (.int (lo + (i : Nat) * c)) (wipe σ vs) H fun σ2 H2 => wipe σ2 vs = wipe σ vs ∧ tt σ2 H2 fun b H3 =>
      if b = true then te σ2 H3 fun y H4 => ∃ acc, H4 D = some (.lst acc) ∧ acc.length < sizeLine ∧ Pv (i + 1) (upd H4 D (.lst (acc ++ [y]))) else Pv (i + 1) H3) (hd : ∀ H, Pv n H → Qd H) :
    ∃ W : Nat → Nat → Hp → Prop, (∃ m, W 0 m (upd H1 D (.lst []))) ∧ ∀ i m H, W i m H →
      ((Itc lo c n).stop i H ∧ Qd H) ∨ ((Itc lo c n).go i H ∧ ∃ Nx : Hp → Prop, (∀ H', Nx H' → ∃ m', m' < m ∧ W (i + 1) m' H') ∧ ∀ x H', (Itc lo c n).yld i H x H' → g x (wipe σ vs) H' fun σ2 H2 => wipe σ2 vs = wipe σ vs ∧ tt σ2 H2 fun b H3 =>
        if b = true then te σ2 H3 fun y H4 => ∃ acc, H4 D = some (.lst acc) ∧ acc.length < sizeLine ∧ Nx (upd H4 D (.lst (acc ++ [y]))) else Nx H3) := by
  refine ⟨fun i m H => m = n - i ∧ i ≤ n ∧ Pv i H, ⟨n, by simp, Nat.zero_le _, h0⟩, ?_⟩
  rintro i m H ⟨rfl, hi, p⟩
  by_cases hlt : i < n
  · refine .inr ⟨hlt, Pv (i + 1), fun H' p' => ⟨n - (i + 1), by omega, rfl, hlt, p'⟩, fun x H' y => ?_⟩
    obtain ⟨e, y⟩ := y
    subst e y
    exact hs i _ hlt p
  · have e : i = n := by omega
    subst e
    exact .inl ⟨Nat.le_refl _, hd H p⟩
/-! ### xs[::k], k a written number -/
theorem Vals.picks : ∀ {xs : List V} {its : List Value} (r : Vals xs its) (is : List Nat), Vals (is.filterMap (xs[·]?)) (is.filterMap (its[·]?))
  | _, _, _, [] => .nil
  | xs, its, r, i :: is => by
    rw [List.filterMap_cons, List.filterMap_cons]
    cases h : xs[i]? with
    | none =>
      have : its[i]? = none := by
        rw [List.getElem?_eq_none_iff] at h ⊢
        rw [← r.length]
        exact h
      rw [this]
      exact Vals.picks r is
    | some x =>
      obtain ⟨u, e, ru⟩ := r.get h
      rw [e]
      exact .cons ru (Vals.picks r is)
def tStepL (K : PySem.W.Frag) (te : TE) : TE := fun σ H Q => te σ H fun x H1 => ∃ a xs, x = .ref a ∧ SqL K H1 a xs ∧ ∀ p zs, H1 p = none → (∀ z ∈ zs, z ∈ xs) → zs.length ≤ xs.length → Q (.ref p) (upd H1 p (.lst zs))
theorem pe_stepL {X : Cx} {e : Expr} {te : TE} {k : Nat} {m : Int} {p1 p3 pos : Pos} (hm : 0 < m) (he : PE X e te) : PE X (.Subscript e (.Slice none none (some (.Constant (.int m) k p1)) p3) pos) (tStepL X.K te) := by
  refine ⟨fun pins s σ H Q I h => ?_⟩
  refine Subscript_ (thn (he.run pins s σ H _ I h) fun v s1 ⟨x, H1, I1, r1, q1⟩ => ?_)
  obtain ⟨a, xs, ex, hx, q⟩ := q1
  subst ex
  cases r1
  have hst : PO X (some (.Constant (.int m) k p1)) (tPart (tC (.int m))) := po_some pe_int
  refine wpAny_Slice (thn (po_none.run pins s1 σ H1 (fun o H2 => o = none ∧ H2 = H1) I1 ⟨rfl, rfl⟩) fun vl s2 ⟨l, H2, I2, pl, el, e2⟩ => ?_)
  subst el e2
  refine thn (po_none.run pins s2 σ H2 (fun o H3 => o = none ∧ H3 = H2) I2 ⟨rfl, rfl⟩) fun vu s3 ⟨u, H3, I3, pu, eu, e3⟩ => ?_
  subst eu e3
  refine thn (hst.run pins s3 σ H3 (fun o H4 => o = some m ∧ H4 = H3) I3 ⟨m, rfl, rfl, rfl⟩) fun vs s4 ⟨o, H4, I4, ps, eo, e4⟩ => ?_
  subst eo e4
  have I5 : Inv X pins σ H4 { s4 with heap := s4.heap.push { cls := .type "slice", data := .fields #[vl, vu, vs] } } := I4.kept (t' := s4.toks) fun b ob q => Heap.get?_push_of_some _ q
  obtain ⟨its, r, ht, hz⟩ := I5.list hx
  have hlen := r.length
  show wpAny (model X.prog X.w) X.A (subscriptTail e (.Slice none none (some (.Constant (.int m) k p1)) p3) (.ref a) (.ref s4.heap.objs.size)) (EP X pins σ Q) X.xe { s4 with heap := s4.heap.push { cls := .type "slice", data := .fields #[vl, vu, vs] } }
  refine tail_any (ops := [.ref a, .ref s4.heap.objs.size]) ht.isList.typeIs (PySem.slot_list_getitem.lookup) ?_ (by with_unfolding_all rfl)
  refine wpAny_getItem_list_slice ht.isList (Heap.IsSliceOf.new _ vl vu vs) pl pu ps (by simp; omega) ?_ (by rw [List.size_toArray]; omega)
  obtain ⟨is, eis, lis⟩ : ∃ is : List Nat, slicePick its.toArray none none (some m) = (is.filterMap (its[·]?)).toArray ∧ is.length ≤ its.length := by
    refine ⟨sliceRange (sliceBounds none none (some m) its.toArray.size).1 (sliceBounds none none (some m) its.toArray.size).2.1 (sliceBounds none none (some m) its.toArray.size).2.2, by unfold slicePick; simp only [List.getElem?_toArray], ?_⟩
    unfold sliceRange
    rw [List.length_map, List.length_range, List.size_toArray]
    have hb : sliceBounds none none (some m) its.length = (0, (its.length : Int), m) := by
      unfold sliceBounds
      simp [show ¬ m < 0 by omega]
      omega
    rw [hb]
    simp only [show (m > 0) from hm, if_true]
    split
    · rename_i h0
      have := PySem.ceilDiv_le ((its.length : Int) - 0) m (by omega) (by omega)
      omega
    · simp
  rw [eis]
  have zv := Vals.picks r is
  have hfl : (is.filterMap (xs[·]?)).length ≤ xs.length := Nat.le_trans (List.length_filterMap_le _ _) (by omega)
  refine ⟨.ref _, _, I5.laid (t' := s4.toks) (o := .lst (is.filterMap (xs[·]?))) (fun b ob q => Heap.get?_push_of_some _ q) (Nat.le_refl _) ?_, rfl, q _ _ (I5.hok.fresh (Nat.le_refl _)) (fun z hz => ?_) hfl⟩
  · exact ⟨by omega, _, 0, zv, Heap.get?_push_size _ rfl⟩
  · obtain ⟨i, _, e⟩ := List.mem_filterMap.mp hz
    exact List.mem_of_getElem? e
theorem rgc3 (n : Nat) (h : n ≤ 100000) : RgC 0 ((3 * n : Nat) : Int) 3 n := by
  have e : Builtin.Range.rangeSize 0 ((3 * n : Nat) : Int) 3 = n := by
    unfold Builtin.Range.rangeSize
    simp only [show (3 : Int) > 0 by decide, if_true]
    split <;> omega
  obtain ⟨m, hm⟩ : ∃ m : Int, m = ((3 * n : Nat) : Int) := ⟨_, rfl⟩
  obtain ⟨l, hl⟩ : ∃ l : Int, l = (n : Int) := ⟨_, rfl⟩
  rw [← hm, ← hl] at e
  refine ⟨by decide, by decide, ?_, by rw [← hm, e, hl]⟩
  rw [← hm]
  have hm0 : 0 ≤ m := by omega
  have hm1 : m ≤ 300000 := by omega
  have hl0 : 0 ≤ l := by omega
  have hl1 : l ≤ 100000 := by omega
  clear hm hl h
  unfold Builtin.Range.small
  rw [e]
  simp only [Builtin.Range.rangeFitsLong, Bool.and_eq_true, Bool.or_eq_true, decide_eq_true_eq, beq_iff_eq, show (3 : Int) > 0 by decide, if_true]
  omega
/-- tuple.index, o.NAME of a class, within a comprehension -/
def rTupIx (K : PySem.W.Frag) : V → List V → Hp → VK → Prop := fun x xs H Q => ∃ p, ∃ ys : List Str, ∃ z j, x = .ref p ∧ xs = [.str z] ∧ SqT K H p (ys.map V.str) ∧ ys[j]? = some z ∧ (∀ m, m < j → ys[m]? ≠ some z) ∧ Q (.int (j : Nat)) H
theorem mt_tupIx {X : Cx} : MtR X "tuple.index" (rTupIx X.K) := mt_tup_index
theorem pe_conC {X : Cx} (K : PySem.W.Frag) {e : Expr} {f : Str} {pos : Pos} {ta : TE} (he : PE X e ta) (hb : attributeBase e f X.env (eval e X.env) = eval e X.env) (hK : X.K = K := by rfl) : PE X (.Attribute e f pos) (tCon K ta f) := by
  subst hK
  exact pe_con he hb
/-! ### text[::-1] -/
def revS (z : Str) : Str := ⟨z.cps.toList.reverse.toArray⟩
def tRevS (te : TE) : TE := fun σ H Q => te σ H fun x H1 => ∃ z : Str, x = .str z ∧ z.length ≤ sizeLine ∧ Q (.str (revS z)) H1
theorem revS_pick (z : Str) : (((Builtin.Str.strSliceIndices none none (-1) z.length).filterMap (z.cps[·]?)).toArray) = z.cps.toList.reverse.toArray := by
  have e : Builtin.Str.strSliceIndices none none (-1) z.length = sliceRange ((z.length : Int) - 1) (-1) (-1) := rfl
  rw [e, PySem.W.krv_sliceRange, PySem.W.krv_range, List.filterMap_reverse]
  have := PySem.W.krv_all z.cps
  rw [show z.length = z.cps.size from rfl, this]
theorem pe_revS {X : Cx} {e : Expr} {te : TE} {k : Nat} {p1 p2 p3 pos : Pos} (he : PE X e te) : PE X (.Subscript e (.Slice none none (some (.UnaryOp .USub (.Constant (.int 1) k p1) p2)) p3) pos) (tRevS te) := by
  refine ⟨fun pins s σ H Q I h => ?_⟩
  refine Subscript_ (thn (he.run pins s σ H _ I h) fun v s1 ⟨x, H1, I1, r1, q1⟩ => ?_)
  obtain ⟨z, ex, hz, q⟩ := q1
  subst ex
  obtain ⟨t, rfl⟩ := r1
  have hst : PO X (some (.UnaryOp .USub (.Constant (.int 1) k p1) p2)) (tPart (tUn (rU fun i => .int (-i)) (tC (.int 1)))) := po_some (pe_un un_neg pe_int)
  refine wpAny_Slice (thn (po_none.run pins s1 σ H1 (fun o H2 => o = none ∧ H2 = H1) I1 ⟨rfl, rfl⟩) fun vl s2 ⟨l, H2, I2, pl, el, e2⟩ => ?_)
  subst el e2
  refine thn (po_none.run pins s2 σ H2 (fun o H3 => o = none ∧ H3 = H2) I2 ⟨rfl, rfl⟩) fun vu s3 ⟨u, H3, I3, pu, eu, e3⟩ => ?_
  subst eu e3
  refine thn (hst.run pins s3 σ H3 (fun o H4 => o = some (-1) ∧ H4 = H3) I3 ⟨1, rfl, -1, rfl, rfl, rfl⟩) fun vs s4 ⟨o, H4, I4, ps, eo, e4⟩ => ?_
  subst eo e4
  have I5 : Inv X pins σ H4 { s4 with heap := s4.heap.push { cls := .type "slice", data := .fields #[vl, vu, vs] } } := I4.kept (t' := s4.toks) fun b ob q => Heap.get?_push_of_some _ q
  have hsl := Heap.IsSliceOf.new s4.heap vl vu vs
  show wpAny (model X.prog X.w) X.A (subscriptTail e (.Slice none none (some (.UnaryOp .USub (.Constant (.int 1) k p1) p2)) p3) (.str z t) (.ref s4.heap.objs.size)) (EP X pins σ Q) X.xe { s4 with heap := s4.heap.push { cls := .type "slice", data := .fields #[vl, vu, vs] } }
  refine tail_any (ops := [.str z t, .ref s4.heap.objs.size]) (typeIs_str _ _ _) (F.slot_str_getitem.lookup) ?_ (by with_unfolding_all rfl)
  obtain ⟨os, hos, hcs, hds⟩ := hsl
  obtain ⟨l, hl, el⟩ := IsPart.raw pl
  obtain ⟨u, hu, eu⟩ := IsPart.raw pu
  obtain ⟨st, hs, es⟩ := IsPart.raw ps
  refine wpAny_getItem_str_slice (l := l) (u := u) (st := st) ⟨os, hos, hcs, by rw [hds, hl, hu, hs]⟩ (by rw [es]; rfl) ?_
  unfold sliceMade slicePicked
  rw [el, eu, es]
  have hl2 : (⟨(((Builtin.Str.strSliceIndices none none (-1) z.length).filterMap (z.cps[·]?)).toArray)⟩ : Str) = revS z := congrArg Str.mk (revS_pick z)
  show Made.post (if ((-1 : Int) == 1 && _) = true then Made.val (.str z t) else Made.str ⟨((Builtin.Str.strSliceIndices none none (-1) z.length).filterMap (z.cps[·]?)).toArray⟩) (EP X pins σ Q) _
  rw [hl2, if_neg (fun h => by rw [show ((-1 : Int) == 1) = false from rfl, Bool.false_and] at h; cases h)]
  have hrl : (revS z).length ≤ sizeLine := by
    show (z.cps.toList.reverse.toArray).size ≤ _
    rw [List.size_toArray, List.length_reverse, Array.length_toList]
    exact hz
  exact ⟨hrl, .str _, H4, I5.tok _, ⟨_, rfl⟩, q⟩
end KB

/-! # KMX: either of two readings of an expression (a method of one of two classes); text.index(sign) -/
namespace KB
open PySem PySem.Spec PyProof.Rows L2
def tEither (t1 t2 : TE) : TE := fun σ H Q => t1 σ H Q ∨ t2 σ H Q
theorem pe_or {X : Cx} {e : Expr} {t1 t2 : TE} (h1 : PE X e t1) (h2 : PE X e t2) : PE X e (tEither t1 t2) :=
  ⟨fun pins s σ H Q I h => h.elim (h1.run pins s σ H Q I) (h2.run pins s σ H Q I)⟩
def ix0 (x y : Str) : Option Nat := (Builtin.Str.occurrences x y 0 x.length 1).head?
def rStrIx : V → List V → Hp → VK → Prop := fun x xs H Q => ∃ (a b : Str) (k : Nat), x = .str a ∧ xs = [.str b] ∧ ix0 a b = some k ∧ Q (.int (k : Nat)) H
theorem mt_strIndex {X : Cx} : MtR X "str.index" rStrIx := by
  intro pins s σ H x xs v us Q I rx rs h
  obtain ⟨a, b, k, rfl, rfl, hk, h⟩ := h
  obtain ⟨t, rfl⟩ := rx
  cases rs with
  | cons r1 rs =>
    cases rs
    obtain ⟨u, rfl⟩ := r1
    unfold ix0 at hk
    cases q : Builtin.Str.occurrences a b 0 a.length 1 with
    | nil => rw [q] at hk; cases hk
    | cons j rest =>
      rw [q] at hk
      cases Option.some.inj hk
      exact PySem.SC.index q ⟨.int (k : Nat), H, I.tok _, ⟨_, rfl⟩, h⟩
end KB

/-! # KFP: objects that change, each in a heap of its own (Upd, Fam); text.replace of written texts -/
namespace KB
open PySem PySem.Spec PyProof.Rows L2
/-- a heap without the cells of another one -/
def wo (H N : Hp) : Hp := fun a => match N a with
  | none => H a
  | some _ => none
theorem wo_at {H N : Hp} {a : Addr} (h : N a = none) : wo H N a = H a := by
  unfold wo
  rw [h]
theorem wo_some {H N : Hp} {a : Addr} {o : HO} (h : wo H N a = some o) : N a = none ∧ H a = some o := by
  unfold wo at h
  cases e : N a with
  | none => rw [e] at h; exact ⟨rfl, h⟩
  | some _ => rw [e] at h; cases h
/-- what becomes of an object's own heap while the whole changes -/
structure Upd (H N H' N' : Hp) : Prop where
  out : Same (wo H N) H'
  sub : Same N' H'
  new : ∀ a, N' a ≠ none → N a ≠ none ∨ H a = none
theorem Upd.refl {H N : Hp} (s : Same N H) : Upd H N H N := ⟨fun a o e => (wo_some e).2, s, fun a h => .inl h⟩
theorem Upd.trans {H N H1 N1 H2 N2 : Hp} (u : Upd H N H1 N1) (v : Upd H1 N1 H2 N2) : Upd H N H2 N2 where
  out := fun a o e => by
    have h1 := u.out _ _ e
    obtain ⟨e1, e2⟩ := wo_some e
    have h2 : N1 a = none := Classical.byContradiction fun z => by
      rcases u.new a z with x | x
      · exact x e1
      · rw [e2] at x; cases x
    exact v.out _ _ (by rw [wo_at h2]; exact h1)
  sub := v.sub
  new := fun a h => by
    rcases v.new a h with x | x
    · exact u.new a x
    · by_cases y : N a = none
      · refine .inr (Classical.byContradiction fun z => ?_)
        cases e : H a with
        | none => exact z e
        | some o =>
          have := u.out a o (by rw [wo_at y]; exact e)
          rw [this] at x
          cases x
      · exact .inl y
theorem same_upd2 {N H : Hp} {p : Addr} {o : HO} (s : Same N H) : Same (upd N p o) (upd H p o) := same_set s
/-- a cell of the object is set -/
theorem Upd.set {H N : Hp} {p : Addr} {o : HO} (s : Same N H) (h : N p ≠ none) : Upd H N (upd H p o) (upd N p o) where
  out := fun a x e => by
    obtain ⟨e1, e2⟩ := wo_some e
    have ne : a ≠ p := fun z => by rw [z] at e1; exact h e1
    rw [upd_ne ne]
    exact e2
  sub := same_set s
  new := fun a hn => by
    by_cases z : a = p
    · exact .inl (z ▸ h)
    · rw [upd_ne z] at hn
      exact .inl hn
/-- a new cell, for the object -/
theorem Upd.put {H N : Hp} {p : Addr} {o : HO} (s : Same N H) (h : H p = none) : Upd H N (upd H p o) (upd N p o) where
  out := fun a x e => by
    obtain ⟨e1, e2⟩ := wo_some e
    have ne : a ≠ p := fun z => by rw [z, h] at e2; cases e2
    rw [upd_ne ne]
    exact e2
  sub := same_set s
  new := fun a hn => by
    by_cases z : a = p
    · exact .inr (z ▸ h)
    · rw [upd_ne z] at hn
      exact .inl hn
/-- what is new and not the object's -/
theorem Upd.ext {H N H' : Hp} (s : Same N H) (g : Same H H') : Upd H N H' N := ⟨fun a o e => g _ _ (wo_some e).2, s.trans g, fun a h => .inl h⟩
/-- objects beside one another, in the base of a tape -/
structure Fam (B : Hp) (N : Nat → Hp) : Prop where
  sub : ∀ i, Same (N i) B
  dj : ∀ i j, i ≠ j → ∀ a, N i a ≠ none → N j a = none
def putN (N : Nat → Hp) (i : Nat) (M : Hp) : Nat → Hp := fun j => if j = i then M else N j
theorem putN_at {N : Nat → Hp} {i : Nat} {M : Hp} : putN N i M i = M := if_pos rfl
theorem putN_ne {N : Nat → Hp} {i j : Nat} {M : Hp} (h : j ≠ i) : putN N i M j = N j := if_neg h
theorem some_ne {α : Type} {x : Option α} {y : α} (h : x = some y) : x ≠ none := fun z => by rw [z] at h; cases h
def joinH (M B : Hp) : Hp := fun a => match M a with
  | some o => some o
  | none => B a
theorem Fam.step {B H H' : Hp} {t : Addr} {c : Nat} {N : Nat → Hp} {M : Hp} (F : Fam B N) (T : Tp B H t c) {i : Nat} (u : Upd H (N i) H' M) : ∃ B', Tp B' H' t c ∧ Fam B' (putN N i M) ∧ Same (wo B (N i)) B' := by
  have hM : ∀ a, M a = none → joinH M (wo B (N i)) a = wo B (N i) a := fun a h => by unfold joinH; rw [h]
  have hS : ∀ a o, M a = some o → joinH M (wo B (N i)) a = some o := fun a o h => by unfold joinH; rw [h]
  have far : ∀ a, H a ≠ none → N i a = none → M a = none := fun a h1 h2 => Classical.byContradiction fun z => by
    rcases u.new a z with x | x
    · exact x h2
    · exact h1 x
  have sm : Same (wo B (N i)) (joinH M (wo B (N i))) := fun a o e => by
    obtain ⟨e1, e2⟩ := wo_some e
    rw [hM a (far a (some_ne (T.same _ _ e2)) e1)]
    exact e
  obtain ⟨sB, bt, g, gs, sd, ct, bg, htg, et, eg, rest⟩ := T
  have offT : ∀ a, B a = none → H a ≠ none → joinH M (wo B (N i)) a = none := fun a h1 h2 => by
    have h3 : N i a = none := (F.sub i).free h1
    rw [hM a (far a h2 h3), wo_at h3]
    exact h1
  have keep : ∀ a o, B a = none → H a = some o → H' a = some o := fun a o h1 h2 => u.out a o (by rw [wo_at ((F.sub i).free h1)]; exact h2)
  refine ⟨joinH M (wo B (N i)), ⟨fun a o e => ?_, offT t bt (some_ne et), g, gs, sd, ct, offT g bg (some_ne eg), htg, keep _ _ bt et, keep _ _ bg eg, rest⟩, ⟨fun j => ?_, fun j k hjk a h => ?_⟩, sm⟩
  · cases hm : M a with
    | some o' =>
      rw [hS a o' hm] at e
      cases e
      exact u.sub _ _ hm
    | none =>
      rw [hM a hm] at e
      obtain ⟨e1, e2⟩ := wo_some e
      exact u.out a o (by rw [wo_at e1]; exact sB _ _ e2)
  · by_cases e : j = i
    · subst e
      rw [putN_at]
      exact fun a o h => hS a o h
    · rw [putN_ne e]
      exact fun a o h => sm a o (by rw [wo_at (F.dj j i e a (some_ne h))]; exact F.sub j _ _ h)
  · by_cases e1 : j = i
    · subst e1
      rw [putN_at] at h
      rw [putN_ne (Ne.symm hjk)]
      rcases u.new a h with x | x
      · exact F.dj j k hjk a x
      · exact ((F.sub k).trans sB).free x
    · rw [putN_ne e1] at h
      by_cases e2 : k = i
      · subst e2
        rw [putN_at]
        cases hN : N j a with
        | none => exact absurd hN h
        | some o => exact far a (some_ne (sB _ _ (F.sub j _ _ hN))) (F.dj j k hjk a h)
      · rw [putN_ne e2]
        exact F.dj j k hjk a h
theorem Fam.mono {B B' : Hp} {N : Nat → Hp} (F : Fam B N) (s : Same B B') : Fam B' N := ⟨fun i => (F.sub i).trans s, F.dj⟩
theorem Fam.nil {B : Hp} : Fam B (fun _ _ => none) := ⟨fun i a o e => (by cases e), fun i j _ a h => absurd rfl h⟩
theorem Fam.one {B M : Hp} {i : Nat} (h : Same M B) : Fam B (putN (fun _ _ => none) i M) where
  sub := fun j => by
    by_cases e : j = i
    · subst e; rw [putN_at]; exact h
    · rw [putN_ne e]; exact fun a o e => by cases e
  dj := fun j k hjk a hn => by
    by_cases e : j = i
    · rw [putN_ne (fun z => hjk (e.trans z.symm))]
    · rw [putN_ne e] at hn; exact absurd rfl hn
theorem Upd.fresh {H H' M : Hp} (s : Same H H') (h : Same M H') (hn : ∀ a, M a ≠ none → H a = none) : Upd H (fun _ => none) H' M := ⟨fun a o e => s _ _ (wo_some e).2, h, fun a z => .inr (hn a z)⟩
/-- a new object -/
theorem Fam.add {B B' : Hp} {N : Nat → Hp} {M : Hp} (F : Fam B N) (s : Same B B') {i : Nat} (hM : Same M B') (hn : ∀ a, M a ≠ none → B a = none) : Fam B' (putN N i M) where
  sub := fun j => by
    by_cases e : j = i
    · subst e; rw [putN_at]; exact hM
    · rw [putN_ne e]; exact (F.sub j).trans s
  dj := fun j k hjk a h => by
    by_cases e1 : j = i
    · subst e1
      rw [putN_at] at h
      rw [putN_ne (Ne.symm hjk)]
      exact (F.sub k).free (hn a h)
    · rw [putN_ne e1] at h
      by_cases e2 : k = i
      · subst e2
        rw [putN_at]
        exact Classical.byContradiction fun z => h ((F.sub j).free (hn a z))
      · rw [putN_ne e2]
        exact F.dj j k hjk a h
/-! ### text.replace of one sign by another -/
def swapC (c d a : Nat) : Nat := if a = c then d else a
theorem swap_free (c d : Nat) : ∀ l : List Nat, c ∉ l → l.map (swapC c d) = l
  | [], _ => rfl
  | k :: r, h => by
    have h1 : k ≠ c := fun e => h (e ▸ List.mem_cons_self ..)
    rw [List.map_cons, swap_free c d r fun m => h (List.mem_cons_of_mem _ m)]
    unfold swapC
    rw [if_neg h1]
theorem swap_join (c d : Nat) : ∀ parts : List Str, (∀ p ∈ parts, c ∉ p.cps.toList) → (PySem.Str.join ⟨#[c]⟩ parts).cps.toList.map (swapC c d) = (PySem.Str.join ⟨#[d]⟩ parts).cps.toList
  | [], _ => rfl
  | [p], h => swap_free c d _ (h p (List.mem_singleton.mpr rfl))
  | p :: q :: r, h => by
    have ih := swap_join c d (q :: r) fun a ha => h a (List.mem_cons_of_mem _ ha)
    show (p ++ ⟨#[c]⟩ ++ PySem.Str.join ⟨#[c]⟩ (q :: r)).cps.toList.map (swapC c d) = (p ++ ⟨#[d]⟩ ++ PySem.Str.join ⟨#[d]⟩ (q :: r)).cps.toList
    simp only [Str.cps_append, Array.toList_append, List.map_append]
    rw [ih, swap_free c d _ (h p (List.mem_cons_self ..))]
    congr 2
    show [swapC c d c] = [d]
    unfold swapC
    rw [if_pos rfl]
theorem replace_swap (x : Str) (c d : Nat) : (Txt.replace x ⟨#[c]⟩ ⟨#[d]⟩).cps.toList = x.cps.toList.map (swapC c d) := by
  rw [StrLaws.replace_one, ← swap_join c d _ (StrLaws.split_free x c), StrLaws.join_split]
theorem swap_str (x : Str) (c d : Nat) : Txt.replace x ⟨#[c]⟩ ⟨#[d]⟩ = ⟨(x.cps.toList.map (swapC c d)).toArray⟩ := by
  have h := replace_swap x c d
  generalize Txt.replace x ⟨#[c]⟩ ⟨#[d]⟩ = r at h
  obtain ⟨r⟩ := r
  congr 1
  apply Array.ext'
  exact h
/-- an if whose test reads a written text: behind it a token is out -/
theorem ps_ifT {X : Cx} {op : CmpOp} {r : R2} {a : Expr} {ta : TE} {c : Str} {k : Nat} {cpos pos p : Pos} {body els : List Stmt} {t u : TS} (ho : OpR X (compareOp op) r) (ha : PE X a ta) (hA : PSsT X body t) (hB : PSs X els u)
    (hm : behindInMarks op (.Constant (.str c) k cpos) = false := by first | exact nobehind _ (by decide) (by decide) | rfl) : PS X (.If (.Compare a [op] [.Constant (.str c) k cpos] pos) body els p) (tIfS (tTest (tOp r ta (tC (.str c)))) t u) := by
  refine ⟨fun pins s σ H D I h => ?_⟩
  refine wpAny_If (wpAny_isTrue_Compare1 (thn (ha.run pins s σ H _ I h) fun v s1 ⟨x, H1, I1, r1, q1⟩ => Calls.Constant_str (wpAny_mono (PySem.wpAny_toks (ho pins { s1 with toks := s1.toks + 1 } σ H1 x (.str c) v (.str c s1.toks) _ (I1.tok (s1.toks + 1)) r1 ⟨s1.toks, rfl⟩ q1)) (fun b s3 q => ?_) fun _ _ z => z.2)) hm)
  obtain ⟨hk, z, H3, I3, r3, kk, e, q3⟩ := q
  have h1 : 1 ≤ s3.toks := by
    have : s1.toks + 1 ≤ s3.toks := hk
    omega
  subst e
  cases r3
  refine wpAny_truthy_bool ?_
  cases kk with
  | true => exact hA pins s3 σ H3 D h1 I3 q3
  | false => exact hB.run pins s3 σ H3 D I3 q3
/-- a written text before what wants a token -/
theorem pe_opT {X : Cx} {op : Operator} {r : R2} {c : Str} {k : Nat} {cpos pos : Pos} {f : Expr} {tf : TE} (ho : OpR X (binaryOp op) r) (hb : L2.PET X f tf) : PE X (.BinOp (.Constant (.str c) k cpos) op f pos) (tOp r (tC (.str c)) tf) := by
  refine ⟨fun pins s σ H Q I h => ?_⟩
  refine wpAny_BinOp (Calls.Constant_str ?_)
  exact thn (hb pins { s with toks := s.toks + 1 } σ H _ (by show 1 ≤ s.toks + 1; omega) (I.tok _) h) fun u s2 ⟨y, H2, I2, r2, q2⟩ => ho pins s2 σ H2 (.str c) y (.str c s.toks) u Q I2 ⟨s.toks, rfl⟩ r2 q2
theorem pst_set {X : Cx} {i : Nat} {x : Str} {e : Expr} {te : TE} {pos pos' : Pos} (hN : X.N.Nodup) (hi : X.N[i]? = some x) (hx : Loc X.env.scope x) (he : L2.PET X e te) (hs : swapsWith e (some (.Name x pos')) pos.line X.env = pure false := by rfl) (hf : X.fn x = true ∨ X.env.scope.names.lookup x = some .local := by first | exact .inl rfl | exact .inr rfl | assumption) :
    PST X (.Assign [.Name x pos'] e pos) (tAsg te (gName i)) := by
  intro pins s σ H D h0 I h
  refine wpAny_Assign_Name (thn (he pins s σ H _ h0 I h) fun v s1 ⟨y, H1, I1, r1, q1⟩ => ?_) hs
  exact store_ok I1 hN hi hx r1 (fun s2 I2 => ⟨_, H1, I2, q1⟩) hf
end KB
namespace KB
open PySem PySem.Spec PyProof.Rows L2
section
variable {X : Cx} {k j n : Nat} {C : Addr} {x m : Str} {sp : Sp} {p pos apos : Pos} {o : Expr} {kws : List Keyword} {ta : TE} {tk : TA} {ks : List Str} {gV : List V → List V → List V} {W : WX}
/-- o.m(k = v, ..), where m may raise and does not -/
theorem pe_mtxK0 {pl : Sem Bool} (c : MetK (L2N.CX X.prog X.w) X.prog X.w X.K X.mg X.base k C m ks gV sp) (hr : Room j X.A) (hk : k ≤ j) (he : PE X o ta) (hkw : PK X kws tk)
    (hall : (backToKw pos (keywordEach kws X.env)).all (·.1.isSome) = true := by rfl) (hks : (backToKw pos (keywordEach kws X.env)).filterMap (·.1) = ks := by rfl)
    (hpl : ((backTo pos (starEach [] X.env)).any (·.1) || (backToKw pos (keywordEach kws X.env)).any (·.1.isNone)) = false := by rfl)
    (ht : eval (.Call (.Attribute o m apos) [] kws pos) X.env = (do
      let ov ← eval o X.env
      standAt apos.atName
      let (f, first) ← holding [ov] (getMethod ov m pl)
      callWith pos f first (backTo pos (starEach [] X.env)) (backToKw pos (keywordEach kws X.env))) := by rfl) :
    PE X (.Call (.Attribute o m apos) [] kws pos) (tMethSK C m ks.length sp gV (fun _ => E0) ta tk) :=
  pe_mtKg (pl := pl) c hr hk (fun σ pins H s e s' I h => passN0 pins σ H s e s' I h) he hkw hall hks hpl ht
end
end KB

namespace K03
open PySem PySem.Spec PyProof.Rows L2 KB
local macro_rules | `(tactic| walk_at "hp") => `(tactic| (repeat' (first | exact upd_same | assumption | (refine same_upd (by assumption) _ _ ?_) | (rw [upd_ne (by assumption)]) | (rw [upd_ne (Ne.symm (by assumption))]))))

def topS (i : Nat) : Stmt := PySem.Challenge.pw_keptbudgets_k03_words_and_clashes.main.body.getD i (.Pass ⟨0, 0, 0, 0⟩)
abbrev s_InvalidNumber___init__ : Stmt := inClass (topS 4) 0
theorem xb_InvalidNumber : XBody s_InvalidNumber___init__ ["number"] := ⟨⟨_, _, _, _, _, _, _, _, _, rfl, rfl, .inl ⟨_, _, _, _, _, rfl, rfl⟩⟩, ⟨_, rfl, rfl⟩, fun _ _ _ _ _ _ _ _ us hl => match us, hl with | [_], _ => rfl, ⟨rfl, rfl, rfl, by decide +kernel, rfl, by decide +kernel, rfl, rfl⟩, by decide +kernel, by decide +kernel⟩
abbrev s_InvalidWords___init__ : Stmt := inClass (topS 5) 0
theorem xb_InvalidWords : XBody s_InvalidWords___init__ ["words"] := ⟨⟨_, _, _, _, _, _, _, _, _, rfl, rfl, .inl ⟨_, _, _, _, _, rfl, rfl⟩⟩, ⟨_, rfl, rfl⟩, fun _ _ _ _ _ _ _ _ us hl => match us, hl with | [_], _ => rfl, ⟨rfl, rfl, rfl, by decide +kernel, rfl, by decide +kernel, rfl, rfl⟩, by decide +kernel, by decide +kernel⟩
abbrev s_is_sequence : Stmt := topS 7
theorem sc_is_sequence : FnScope ["value"] ["value"] (defScope s_is_sequence) := ⟨rfl, rfl, rfl, by decide +kernel, rfl, by decide +kernel, by decide +kernel⟩
abbrev s_Share___init__ : Stmt := inClass (topS 9) 0
theorem sc_Share___init__ : FnScope ["self", "over", "under", "common"] ["self", "over", "under"] (defScope s_Share___init__) := ⟨rfl, rfl, rfl, by decide +kernel, rfl, by decide +kernel, by decide +kernel⟩
abbrev s_sum_of_halves : Stmt := topS 10
theorem sc_sum_of_halves : FnScope ["lengths", "longest", "over", "length"] ["lengths"] (defScope s_sum_of_halves) := ⟨rfl, rfl, rfl, by decide +kernel, rfl, by decide +kernel, by decide +kernel⟩
abbrev s_is_word : Stmt := topS 12
theorem sc_is_word : FnScope ["value"] ["value"] (defScope s_is_word) := ⟨rfl, rfl, rfl, by decide +kernel, rfl, by decide +kernel, by decide +kernel⟩
abbrev s_check_words : Stmt := topS 15
theorem sc_check_words : FnScope ["words", "word"] ["words"] (defScope s_check_words) := ⟨rfl, rfl, rfl, by decide +kernel, rfl, by decide +kernel, by decide +kernel⟩
abbrev s_first_clash : Stmt := topS 13
theorem sc_first_clash : FnScope ["words", "k", "later", "i"] ["words"] (defScope s_first_clash) := ⟨rfl, rfl, rfl, by decide +kernel, rfl, by decide +kernel, by decide +kernel⟩
abbrev s_share_of : Stmt := topS 14
theorem sc_share_of : FnScope ["words", "word"] ["words"] (defScope s_share_of) := ⟨rfl, rfl, rfl, by decide +kernel, rfl, by decide +kernel, by decide +kernel⟩
abbrev s_law_tape : Stmt := topS 17
theorem sc_law_tape : FnScope ["script", "great", "seed", "cell"] ["script"] (defScope s_law_tape) := ⟨rfl, rfl, rfl, by decide +kernel, rfl, by decide +kernel, by decide +kernel⟩
abbrev s_law_draw : Stmt := topS 18
theorem sc_law_draw : FnScope ["tape", "limit", "great", "number", "mixed"] ["tape", "limit"] (defScope s_law_draw) := ⟨rfl, rfl, rfl, by decide +kernel, rfl, by decide +kernel, by decide +kernel⟩
abbrev s_law_integer : Stmt := topS 19
theorem sc_law_integer : FnScope ["tape", "number", "k"] ["tape"] (defScope s_law_integer) := ⟨rfl, rfl, rfl, by decide +kernel, rfl, by decide +kernel, by decide +kernel⟩
abbrev s_law_string : Stmt := topS 20
theorem sc_law_string : FnScope ["tape", "signs", "k"] ["tape"] (defScope s_law_string) := ⟨rfl, rfl, rfl, by decide +kernel, rfl, by decide +kernel, by decide +kernel⟩
abbrev s_law_thing : Stmt := topS 21
theorem sc_law_thing : FnScope ["tape", "deep", "kind", "parts", "k"] ["tape", "deep"] (defScope s_law_thing) := ⟨rfl, rfl, rfl, by decide +kernel, rfl, by decide +kernel, by decide +kernel⟩
abbrev s_law_copy : Stmt := topS 22
theorem sc_law_copy : FnScope ["thing", "part"] ["thing"] (defScope s_law_copy) := ⟨rfl, rfl, rfl, by decide +kernel, rfl, by decide +kernel, by decide +kernel⟩
abbrev s_law_same : Stmt := topS 23
theorem sc_law_same : FnScope ["told", "due", "k"] ["told", "due"] (defScope s_law_same) := ⟨rfl, rfl, rfl, by decide +kernel, rfl, by decide +kernel, by decide +kernel⟩
abbrev s_law_is_word : Stmt := topS 24
theorem sc_law_is_word : FnScope ["value", "sign"] ["value"] (defScope s_law_is_word) := ⟨rfl, rfl, rfl, by decide +kernel, rfl, by decide +kernel, by decide +kernel⟩
abbrev s_law_are_words : Stmt := topS 25
theorem sc_law_are_words : FnScope ["value", "part"] ["value"] (defScope s_law_are_words) := ⟨rfl, rfl, rfl, by decide +kernel, rfl, by decide +kernel, by decide +kernel⟩
abbrev s_law_bits : Stmt := topS 26
theorem sc_law_bits : FnScope ["tape", "many", "k"] ["tape", "many"] (defScope s_law_bits) := ⟨rfl, rfl, rfl, by decide +kernel, rfl, by decide +kernel, by decide +kernel⟩
abbrev s_law_leaves : Stmt := topS 27
theorem sc_law_leaves : FnScope ["tape", "many", "leaves", "k", "at", "word"] ["tape", "many"] (defScope s_law_leaves) := ⟨rfl, rfl, rfl, by decide +kernel, rfl, by decide +kernel, by decide +kernel⟩
abbrev s_law_drawn_words : Stmt := topS 28
theorem sc_law_drawn_words : FnScope ["tape", "many", "shape", "words", "k", "long", "word", "kind"] ["tape"] (defScope s_law_drawn_words) := ⟨rfl, rfl, rfl, by decide +kernel, rfl, by decide +kernel, by decide +kernel⟩
abbrev s_law_clash : Stmt := topS 29
theorem sc_law_clash : FnScope ["words", "k", "i"] ["words"] (defScope s_law_clash) := ⟨rfl, rfl, rfl, by decide +kernel, rfl, by decide +kernel, by decide +kernel⟩
abbrev s_law_sum : Stmt := topS 30
theorem sc_law_sum : FnScope ["words", "over", "word", "under", "k"] ["words"] (defScope s_law_sum) := ⟨rfl, rfl, rfl, by decide +kernel, rfl, by decide +kernel, by decide +kernel⟩
abbrev s_law_told_clash : Stmt := topS 31
theorem sc_law_told_clash : FnScope ["words", "by_name", "e"] ["words", "by_name"] (defScope s_law_told_clash) := ⟨rfl, rfl, rfl, by decide +kernel, rfl, by decide +kernel, by decide +kernel⟩
abbrev s_law_told_share : Stmt := topS 32
theorem sc_law_told_share : FnScope ["words", "by_name", "e"] ["words", "by_name"] (defScope s_law_told_share) := ⟨rfl, rfl, rfl, by decide +kernel, rfl, by decide +kernel, by decide +kernel⟩
abbrev s_law_right : Stmt := topS 33
theorem sc_law_right : FnScope ["value", "by_name", "due", "clash", "share", "total"] ["value", "by_name"] (defScope s_law_right) := ⟨rfl, rfl, rfl, by decide +kernel, rfl, by decide +kernel, by decide +kernel⟩
abbrev s_law_told_word : Stmt := topS 34
theorem sc_law_told_word : FnScope ["value", "by_name"] ["value", "by_name"] (defScope s_law_told_word) := ⟨rfl, rfl, rfl, by decide +kernel, rfl, by decide +kernel, by decide +kernel⟩
abbrev s_law_words_right : Stmt := topS 35
theorem sc_law_words_right : FnScope ["tape", "words", "word", "at", "foreign", "values", "value", "told"] ["tape", "words"] (defScope s_law_words_right) := ⟨rfl, rfl, rfl, by decide +kernel, rfl, by decide +kernel, by decide +kernel⟩
abbrev s_law_asks : Stmt := topS 36
theorem sc_law_asks : FnScope ["script", "tape", "words", "as_tuple", "named", "spoilt", "at"] ["script"] (defScope s_law_asks) := ⟨rfl, rfl, rfl, by decide +kernel, rfl, by decide +kernel, by decide +kernel⟩
abbrev s_law : Stmt := topS 37
theorem sc_law : FnScope ["script"] ["script"] (defScope s_law) := ⟨rfl, rfl, rfl, by decide +kernel, rfl, by decide +kernel, by decide +kernel⟩
structure Txt (K : PySem.W.Frag) (mg : Str → Option Value) (C_Share : Addr) : Prop where
  b_super : mg "super" = none
  b_isinstance : mg "isinstance" = none
  b_tuple : mg "tuple" = none
  b_list : mg "list" = none
  b_max : mg "max" = none
  b_sum : mg "sum" = none
  b_str : mg "str" = none
  b_all : mg "all" = none
  b_enumerate : mg "enumerate" = none
  b_range : mg "range" = none
  b_len : mg "len" = none
  b_int : mg "int" = none
  b_abs : mg "abs" = none
  b_bool : mg "bool" = none
  b_min : mg "min" = none
  f_gcd : mg "gcd" = some (.builtin "math.gcd")
  g_Share : mg "Share" = some (.ref C_Share)
/-! ### the tape's two defs -/
def spTape (K : PySem.W.Frag) : Sp := fun vs H Q _ => ∃ (a : Addr) (ns : List Int), vs = [.ref a] ∧ SqL K H a (ns.map V.int) ∧ ns.length ≤ 63 ∧ ∀ H' t, Tp H H' t 0 → Q (.ref t) H'
def spDraw : Sp := fun vs H Q _ => ∃ (B : Hp) (t : Addr) (c : Nat) (lim : Int), vs = [.ref t, .int lim] ∧ Tp B H t c ∧ 0 < lim ∧ lim < 1073741824 ∧ c < 1000000000 ∧ ∀ H' n, Tp B H' t (c + 1) → 0 ≤ n → n < lim → Q (.int n) H'
section
variable {P : Program} {w : World} {K : PySem.W.Frag} {mg : Str → Option Value} {base : Heap} {C_Share : Addr}
theorem ok_law_tape {f : Addr} {fd : FuncData} (F : Fun K "_law_tape" "_law_tape" s_law_tape f fd) (T : Txt K mg C_Share) : FnOk P w K mg base CX0 1 f fd ["script"] (spTape K) := by
  refine F.ok sc_law_tape (fun vs H Q E h => ?_) (fun cdv A outer s H vs Q E hr h => ?_)
  · obtain ⟨a, ns, rfl, _⟩ := h
    rfl
  · obtain ⟨a, ns, rfl, hS, hlen, q⟩ := h
    refine ⟨_, (pss_cons (ps_set (i := 1) sc_law_tape.nd rfl (by first | exact Or.inl rfl | exact Or.inr rfl) (pe_lst pa_nil))
    (pss_cons (ps_set (i := 2) sc_law_tape.nd rfl (by first | exact Or.inl rfl | exact Or.inr rfl) pe_int)
    (pss_cons (ps_for PassesOwn.never rfl (pi_list (pe_slice sl_list (pv 0) po_none (po_some pe_int))) (pg_name (i := 3) sc_law_tape.nd rfl (by first | exact Or.inl rfl | exact Or.inr rfl))
      (pss_cons (ps_set (i := 2) sc_law_tape.nd rfl (by first | exact Or.inl rfl | exact Or.inr rfl) (pe_op op_mod (pe_callTy call_int1 (by rfl) T.b_int (by decide +kernel) (pa_cons (pe_op op_add (pe_op op_mul (pv 2) pe_int) (pe_callTy call_int1 (by rfl) T.b_int (by decide +kernel) (pa_cons (pv 3) pa_nil))) pa_nil)) pe_int))
        (pss_one (ps_if (pt_cmpR op_ge (pe_callB call_abs (by rfl) T.b_abs (by decide +kernel) (pa_cons (pe_callTy call_int1 (by rfl) T.b_int (by decide +kernel) (pa_cons (pv 3) pa_nil)) pa_nil)) (pe_op op_pow pe_int pe_int) (nomark _))
          (pss_one (ps_expr (pe_bm PySem.F.plainAttrs_list PySem.F.slot_list_append PySem.F.type_list_append mt_append (pv 1) (pa_cons (pe_callB call_abs (by rfl) T.b_abs (by decide +kernel) (pa_cons (pe_callTy call_int1 (by rfl) T.b_int (by decide +kernel) (pa_cons (pv 3) pa_nil)) pa_nil)) pa_nil))))
          pss_nil))))
    (pss_cons (ps_expr (pe_bm0 PySem.F.plainAttrs_list PySem.F.slot_list_reverse PySem.F.type_list_reverse mt_reverse (pv 1)))
    (pss_one (ps_ret (pe_lst (pa_cons (pv 1) (pa_cons (pv 2) (pa_cons pe_int pa_nil)))))))))), ?_⟩
    refine ⟨Nat.zero_le _, fun g hg => ?_⟩
    have s1 : Same H (upd H g (.lst [])) := same_upd hg
    refine ⟨_, rfl, 63, rfl, a, _, rfl, s1.seq hS, fun p hp => ?_⟩
    have hpg : g ≠ p := ne_of_none upd_same hp
    have hHp : H p = none := s1.free hp
    obtain ⟨ms, em, lm⟩ : ∃ ms : List Int, cutV (ns.map V.int) none (some 63) = ms.map V.int ∧ ms.length ≤ 63 := by
      refine ⟨(ns.drop (HT.sIx (ns.map V.int).length 0 none)).take (HT.sIx (ns.map V.int).length (ns.map V.int).length (some 63) - HT.sIx (ns.map V.int).length 0 none), ?_, ?_⟩
      · unfold cutV
        rw [List.map_take, List.map_drop]
      · rw [List.length_take, List.length_drop]
        omega
    rw [em]
    refine ⟨p, rfl, ⟨_, SqL.of upd_same⟩, for_list (K := K) (a := p) (xs := ms.map V.int) (fun i σ H' => ∃ (gs : List Int) (sd : Int) (v : Option V), σ = [some (.ref a), some (.ref g), some (.int sd), v] ∧ Same H H' ∧ H' g = some (.lst (gs.map V.int)) ∧ H' p = some (.lst (ms.map V.int)) ∧ gs.length ≤ i ∧ 0 ≤ sd ∧ sd < 2147483647)
      ⟨[], _, none, rfl, ?_, ?_, upd_same, Nat.le_refl _, by decide, by decide⟩ (fun i σ H' _ h => ?_) ?_ ?_⟩
    · exact s1.trans (same_upd hp)
    · rw [upd_ne hpg, upd_same]
      rfl
    · obtain ⟨_, _, _, _, _, _, h, _⟩ := h
      exact SqL.of h
    · rintro i x σ H' hi ⟨gs, sd, v, rfl, sm, eg, ep, hl, h0, h1⟩
      obtain ⟨u, rfl⟩ : ∃ u, x = V.int u := by
        rw [List.getElem?_map] at hi
        cases e : ms[i]? with
        | none => rw [e] at hi; cases hi
        | some u => rw [e] at hi; exact ⟨u, (Option.some.inj hi).symm⟩
      have hi63 : i < 63 := by
        have q := (List.getElem?_eq_some_iff.mp hi).1
        rw [List.length_map] at q
        omega
      refine ⟨_, rfl, _, _, rfl, rfl, .inl ⟨by omega, by omega⟩, _, rfl, .inl ⟨_, rfl, _, _, rfl, rfl, .inl ⟨_, rfl, _, _, rfl, rfl, (by show (0 : Int) < 2147483647; decide), ?_⟩⟩⟩
      have b0 := Int.emod_nonneg (sd * 48271 + u) (b := 2147483647) (by decide)
      have b1 := Int.emod_lt_of_pos (sd * 48271 + u) (b := 2147483647) (by decide)
      refine ⟨_, rfl, .inl ⟨_, rfl, _, rfl, _, _, rfl, rfl, ⟨by decide, by decide, by decide⟩, _, _, rfl, rfl, _, rfl, ite2 (fun _ => ?_) (fun _ => ?_)⟩⟩
      · refine ⟨_, rfl, .inl ⟨rfl, _, SqL.of eg⟩, _, rfl, .inl ⟨_, rfl, _, rfl, g, _, _, rfl, rfl, eg, ?_, ?_⟩⟩
        · rw [List.length_map]
          exact szl (by omega)
        · refine ⟨gs ++ [if u < 0 then -u else u], _, _, rfl, same_out sm hg, ?_, ?_, ?_, b0, b1⟩
          · rw [upd_same, List.map_append]
            rfl
          · rw [upd_ne hpg.symm]
            exact ep
          · rw [List.length_append]
            simp only [List.length_cons, List.length_nil]
            omega
      · exact ⟨gs, _, _, rfl, sm, eg, ep, by omega, b0, b1⟩
    · rintro σ H' ⟨gs, sd, v, rfl, sm, eg, ep, hl, h0, h1⟩
      refine ⟨_, rfl, .inl ⟨rfl, _, SqL.of eg⟩, g, _, rfl, rfl, eg, ?_⟩
      refine ⟨_, rfl, _, rfl, szle (by show 3 ≤ 16777216; decide), fun t ht => ?_⟩
      have ht' : H' t = none := by
        by_cases e : t = g
        · rw [e, upd_same] at ht
          cases ht
        · rw [upd_ne e] at ht
          exact ht
      have htg : t ≠ g := fun e => by rw [e, upd_same] at ht; cases ht
      refine q _ t ⟨same_out (same_out sm hg) (sm.free ht'), sm.free ht', g, gs.reverse, sd, 0, hg, htg, upd_same, ?_, ?_, h0, h1, by decide, by decide⟩
      · rw [upd_ne htg.symm, upd_same, List.map_reverse]
      · rw [List.length_reverse]
        rw [List.length_map] at hl
        omega
theorem ok_law_draw {f : Addr} {fd : FuncData} (F : Fun K "_law_draw" "_law_draw" s_law_draw f fd) (T : Txt K mg C_Share) : FnOk P w K mg base CX0 1 f fd ["tape", "limit"] spDraw := by
  refine F.ok sc_law_draw (fun vs H Q E h => ?_) (fun cdv A outer s H vs Q E hr h => ?_)
  · obtain ⟨B, t, c, lim, rfl, _⟩ := h
    rfl
  · obtain ⟨B, t, c, lim, rfl, ⟨sm, bt, g, gs, sd, ct, bg, htg, et, eg, hgl, s0, s1, c0, c1⟩, l0, l1, hc, q⟩ := h
    refine ⟨_, (pss_cons (ps_set (i := 2) sc_law_draw.nd rfl (by first | exact Or.inl rfl | exact Or.inr rfl) (pe_ix ix_list (pv 0) pe_int (fun _ _ => rfl)))
    (pss_cons (ps_if (pt_truth (pv 2) (by intro _; rfl))
      (pss_cons (ps_set (i := 3) sc_law_draw.nd rfl (by first | exact Or.inl rfl | exact Or.inr rfl) (pe_bm0 PySem.F.plainAttrs_list PySem.F.slot_list_pop PySem.F.type_list_pop mt_pop (pv 2)))
        (pss_cons (ps_if (pt_cmpR op_ge (pv 3) (pv 1) (nomark _))
          (pss_one (ps_expr (pe_bm PySem.F.plainAttrs_list PySem.F.slot_list_append PySem.F.type_list_append mt_append (pv 2) (pa_cons (pe_op op_fdivN (pv 3) (pv 1)) pa_nil))))
          pss_nil)
        (pss_one (ps_ret (pe_op op_mod (pe_callTy call_int1 (by rfl) T.b_int (by decide +kernel) (pa_cons (pv 3) pa_nil)) (pv 1))))))
      pss_nil)
    (pss_cons (ps_asg (pe_op op_add (pe_ix ix_list (pv 0) pe_int (fun _ _ => rfl)) pe_int) (pg_sub (pv 0) pe_int set_list))
    (pss_cons (ps_set (i := 4) sc_law_draw.nd rfl (by first | exact Or.inl rfl | exact Or.inr rfl) (pe_op op_mod (pe_callTy call_int1 (by rfl) T.b_int (by decide +kernel) (pa_cons (pe_op op_add (pe_op op_mul (pe_callTy call_int1 (by rfl) T.b_int (by decide +kernel) (pa_cons (pe_op op_add (pe_ix ix_list (pv 0) pe_int (fun _ _ => rfl)) (pe_ix ix_list (pv 0) pe_int (fun _ _ => rfl))) pa_nil)) pe_int) (pe_op op_mul (pe_op op_mul (pe_ix ix_list (pv 0) pe_int (fun _ _ => rfl)) (pe_ix ix_list (pv 0) pe_int (fun _ _ => rfl))) pe_int)) pa_nil)) pe_int))
    (pss_one (ps_ret (pe_op op_mod (pe_op op_fdiv (pe_op op_mod (pe_callTy call_int1 (by rfl) T.b_int (by decide +kernel) (pa_cons (pe_op op_add (pe_op op_mul (pv 4) (pv 4)) (pe_op op_mul (pe_ix ix_list (pv 0) pe_int (fun _ _ => rfl)) pe_int)) pa_nil)) pe_int) pe_int) (pv 1)))))))), ?_⟩
    refine ⟨_, rfl, t, _, _, _, rfl, rfl, SqL.of et, atI_nat (j := 0) rfl, ?_⟩
    refine ⟨_, rfl, _, .inl ⟨_, SqL.of eg, rfl⟩, ?_⟩
    cases hgs : gs.reverse with
    | nil =>
      have e0 : gs = [] := by
        have := congrArg List.reverse hgs
        rwa [List.reverse_reverse] at this
      subst e0
      refine iteF ?_
      refine ⟨_, rfl, t, _, _, _, rfl, rfl, SqL.of et, atI_nat (j := 2) rfl, _, _, rfl, rfl, ?_⟩
      refine ⟨_, rfl, t, _, _, _, rfl, rfl, et, rfl, ?_⟩
      have eg' : ∀ o, upd H t o g = some (.lst (([] : List Int).map V.int)) := fun o => by rw [upd_ne htg.symm]; exact eg
      have et2 : (upd H t (.lst [.ref g, .int sd, .int (ct + 1)])) t = some (.lst [.ref g, .int sd, .int (ct + 1)]) := upd_same
      have at1 : atI [V.ref g, V.int sd, V.int (ct + 1)] 1 = some (.int sd) := atI_nat (j := 1) rfl
      have at2 : atI [V.ref g, V.int sd, V.int (ct + 1)] 2 = some (.int (ct + 1)) := atI_nat (j := 2) rfl
      have hb : ct + 1 ≤ 1000000000 := by omega
      have hsq : 0 ≤ (ct + 1) * (ct + 1) ∧ (ct + 1) * (ct + 1) ≤ 1000000000 * 1000000000 := ⟨Int.mul_nonneg (by omega) (by omega), Int.mul_le_mul hb hb (by omega) (by decide)⟩
      refine ⟨_, rfl, t, _, _, _, rfl, rfl, SqL.of et2, at1, _, rfl, t, _, _, _, rfl, rfl, SqL.of et2, at2, _, _, rfl, rfl, .inl ⟨_, rfl, _, _, rfl, rfl, .inl ⟨by omega, by omega⟩, ?_⟩⟩
      refine ⟨_, rfl, t, _, _, _, rfl, rfl, SqL.of et2, at2, _, rfl, t, _, _, _, rfl, rfl, SqL.of et2, at2, _, _, rfl, rfl, .inl ⟨by omega, by omega⟩, ?_⟩
      refine ⟨_, _, rfl, rfl, .inl ⟨by omega, by omega⟩, _, _, rfl, rfl, .inl ⟨_, rfl, _, _, rfl, rfl, (by show (0 : Int) < 2147483629; decide), ?_⟩⟩
      have b0 := Int.emod_nonneg ((sd + (ct + 1)) * 69621 + (ct + 1) * (ct + 1) * 40692) (b := 2147483629) (by decide)
      have b1 := Int.emod_lt_of_pos ((sd + (ct + 1)) * 69621 + (ct + 1) * (ct + 1) * 40692) (b := 2147483629) (by decide)
      refine ⟨_, rfl, _, rfl, _, _, rfl, rfl, .inl ⟨by omega, by omega⟩, _, rfl, t, _, _, _, rfl, rfl, SqL.of et2, at2, _, _, rfl, rfl, .inl ⟨by omega, by omega⟩, _, _, rfl, rfl, .inl ⟨_, rfl, _, _, rfl, rfl, (by show (0 : Int) < 2147483647; decide), _, _, rfl, rfl, ⟨by decide, by decide⟩, _, rfl, _, _, rfl, rfl, l0, ?_⟩⟩
      refine q _ _ ⟨same_out sm bt, bt, g, [], sd, ct + 1, bg, htg, upd_same, eg' _, Nat.zero_le _, s0, s1, by omega, by omega⟩ (Int.emod_nonneg _ (by omega)) (Int.emod_lt_of_pos _ l0)
    | cons n r =>
      have e0 : gs = r.reverse ++ [n] := by
        have := congrArg List.reverse hgs
        rwa [List.reverse_reverse, List.reverse_cons] at this
      subst e0
      have eT : (!((r.reverse ++ [n]).map V.int).isEmpty) = true := by
        rw [List.map_append]
        cases List.map V.int r.reverse <;> rfl
      rw [eT]
      refine iteT ?_
      have lr : r.length ≤ 62 := by
        rw [List.length_append, List.length_reverse] at hgl
        simp only [List.length_cons, List.length_nil] at hgl
        omega
      have eg2 : H g = some (.lst (r.reverse.map V.int ++ [V.int n])) := by
        rw [eg, List.map_append]
        rfl
      have hpop : (r.reverse.map V.int ++ [V.int n])[(r.reverse.map V.int ++ [V.int n]).length - 1]? = some (V.int n) := by
        rw [List.length_append]
        simp
      refine ⟨_, rfl, .inl ⟨rfl, _, SqL.of eg2⟩, g, _, _, rfl, rfl, eg2, hpop, ?_⟩
      rw [List.dropLast_concat]
      have fin : ∀ H' gs', Same B H' → H' t = some (.lst [.ref g, .int sd, .int ct]) → H' g = some (.lst (List.map V.int gs')) → gs'.length ≤ 63 → Q (.int (n % lim)) H' := fun H' gs' a1 a2 a3 a4 =>
        q _ _ ⟨a1, bt, g, gs', sd, ct, bg, htg, a2, a3, a4, s0, s1, c0, by omega⟩ (Int.emod_nonneg _ (by omega)) (Int.emod_lt_of_pos _ l0)
      refine ⟨_, rfl, _, rfl, _, _, rfl, rfl, _, rfl, ite2 (fun _ => ?_) (fun _ => ?_)⟩
      · refine ⟨_, rfl, .inl ⟨rfl, _, SqL.of upd_same⟩, _, rfl, _, rfl, _, _, rfl, rfl, ⟨by omega, by omega⟩, g, _, _, rfl, rfl, upd_same, ?_, ?_⟩
        · rw [List.length_map, List.length_reverse]
          exact szl (by omega)
        · refine ⟨_, rfl, .inl ⟨_, rfl, _, rfl, _, _, rfl, rfl, l0, ?_⟩⟩
          refine fin _ (r.reverse ++ [n.fdiv lim]) (same_out (same_out sm bg) bg) ?_ ?_ ?_
          · rw [upd_ne htg, upd_ne htg]
            exact et
          · rw [upd_same, List.map_append]
            rfl
          · rw [List.length_append, List.length_reverse]
            simp only [List.length_cons, List.length_nil]
            omega
      · refine ⟨_, rfl, .inl ⟨_, rfl, _, rfl, _, _, rfl, rfl, l0, ?_⟩⟩
        refine fin _ r.reverse (same_out sm bg) ?_ upd_same ?_
        · rw [upd_ne htg]
          exact et
        · rw [List.length_reverse]
          omega
end

/-! ### is_sequence -/
section
variable {P : Program} {w : World} {K : PySem.W.Frag} {mg : Str → Option Value} {base : Heap} {C_Share : Addr}
theorem ok_is_sequence {f : Addr} {fd : FuncData} (F : Fun K "is_sequence" "is_sequence" s_is_sequence f fd) (T : Txt K mg C_Share) : FnOk P w K mg base CX0 1 f fd ["value"] (spSeq K) := by
  refine F.ok sc_is_sequence (fun vs H Q E h => ?_) (fun cdv A outer s H vs Q E hr h => ?_)
  · obtain ⟨v, d, rfl, _⟩ := h
    rfl
  · obtain ⟨v, d, rfl, hv, q⟩ := h
    refine ⟨_, (pss_one (ps_ret (pe_callB call_isiT (by rfl) T.b_isinstance (by decide +kernel) (pa_cons (pv 0) (pa_cons (pe_tup (pa_cons (pe_bltn (v := .ty "tuple") (by rfl) T.b_tuple (by decide +kernel) rfl) (pa_cons (pe_bltn (v := .ty "list") (by rfl) T.b_list (by decide +kernel) rfl) pa_nil))) pa_nil))))), ?_⟩
    refine ⟨_, rfl, szle (by show 2 ≤ 16777216; decide), fun tp htp => ?_⟩
    have s1 := same_upd (o := .tup [.ty "tuple", .ty "list"]) htp
    have ty := ty_dp (Dp.mono s1 _ _ hv)
    have kk : ∀ b, PySem.W.kitAny K (.type (tn d)) [.type "tuple", .type "list"] = some b → b = isSeqD d → _ := fun b hb e => (⟨v, tp, [.ty "tuple", .ty "list"], _, [.type "tuple", .type "list"], b, rfl, upd_same, .cons (.ty _) (.cons (.ty _) .nil), ty, hb, by rw [e]; exact q _ s1⟩ : rIsiT K [v, .ref tp] (upd H tp (.tup [.ty "tuple", .ty "list"])) Q)
    have k2 : ∀ r1 r2, kitB (tn d) "tuple" = some r1 → kitB (tn d) "list" = some r2 → PySem.W.kitAny K (.type (tn d)) [.type "tuple", .type "list"] = some (r1 || r2) := fun r1 r2 h1 h2 =>
      kitAny_cons (kit_ty h1) (fun e => by subst e; exact kitAny_cons (kit_ty h2) (fun e => by subst e; rfl) (fun e => by subst e; rfl)) (fun e => by subst e; rfl)
    cases d with
    | none => exact kk _ (k2 false false (by decide) (by decide)) rfl
    | bool b => exact kk _ (k2 false false (by show kitB "bool" _ = _; decide) (by show kitB "bool" _ = _; decide)) rfl
    | int b => exact kk _ (k2 false false (by show kitB "int" _ = _; decide) (by show kitB "int" _ = _; decide)) rfl
    | str b => exact kk _ (k2 false false (by show kitB "str" _ = _; decide) (by show kitB "str" _ = _; decide)) rfl
    | list b => exact kk _ (k2 false true (by show kitB "list" _ = _; decide) (by show kitB "list" _ = _; decide)) rfl
    | tuple b => exact kk _ (k2 true false (by show kitB "tuple" _ = _; decide) (by show kitB "tuple" _ = _; decide)) rfl
    | dict b => cases hv
end

section
variable {P : Program} {w : World} {K : PySem.W.Frag} {mg : Str → Option Value} {base : Heap} {C_Share : Addr} {C_InvalidNumber : Addr}
theorem ok_Share___init__ {f : Addr} {fd : FuncData} (F : Fun K "__init__" "Share.__init__" s_Share___init__ f fd) (T : Txt K mg C_Share) (x_InvalidNumber : XErr P K mg "InvalidNumber" C_InvalidNumber ["number"]) (c : ShC K C_Share) : FnOk P w K mg base (L2N.CX P w) 1 f fd ["self", "over", "under"] (spInit C_Share C_InvalidNumber) := by
  refine Fun_okN F sc_Share___init__ (fun vs H Q E h => ?_) (fun cdv A outer s H vs Q E hr h => ?_)
  · obtain ⟨x, dx, o, u, rfl, _⟩ := h
    rfl
  · obtain ⟨x, dx, o, u, rfl, hx, hu, q⟩ := h
    refine ⟨_, (pss_cons (ps_if (pt_cmpR op_eq (pv 2) pe_int (nomark _))
      (pss_one (ps_raiseX rfl x_InvalidNumber hr (L2N.takes_of rfl rfl rfl rfl) (pa_cons (pv 2) pa_nil)))
      pss_nil)
    (pss_cons (ps_set (i := 3) sc_Share___init__.nd rfl (by first | exact Or.inl rfl | exact Or.inr rfl) (pe_callBfun cr_gcd (by rfl) T.f_gcd (pa_cons (pv 1) (pa_cons (pv 2) pa_nil))))
    (pss_cons (ps_if (pt_cmpR op_lt (pv 2) pe_int (nomark _))
      (pss_one (ps_set (i := 3) sc_Share___init__.nd rfl (by first | exact Or.inl rfl | exact Or.inr rfl) (pe_un un_neg (pv 3))))
      pss_nil)
    (pss_cons (ps_fld (pv 0) (pe_op op_fdivV (pv 1) (pv 3)) rfl)
    (pss_one (ps_fld (pv 0) (pe_op op_fdivV (pv 2) (pv 3)) rfl)))))), ?_⟩
    have z0 : decide (V.int u = V.int 0) = decide (u = 0) := by simp
    rcases q with ⟨hn, q⟩ | ⟨rfl, q⟩
    · replace q := q _ rfl
      refine ⟨_, rfl, rfl, _, rfl, ?_⟩
      rw [z0, decide_eq_false hn]
      refine iteF ?_
      have l9 : ∀ g : Int, g.natAbs = gN o u → g.natAbs.log2 < 9000 := fun g e => by
        have := gN_pos (o := o) hn
        have := gN_le (o := o) hn
        exact (Nat.log2_lt (by omega)).mpr (by omega)
      refine ⟨_, rfl, _, rfl, _, _, rfl, _, rfl, _, _, rfl, rfl, _, rfl, ?_⟩
      by_cases hu0 : u < 0
      · have ec : -((Nat.gcd o.natAbs u.natAbs : Nat) : Int) = cN o u := by unfold cN gN; rw [if_pos hu0]
        have cc : ∀ i : Int, CDivV i (-((Nat.gcd o.natAbs u.natAbs : Nat) : Int)) := fun i => by rw [ec]; exact ⟨cN_ne hn, l9 _ cN_abs⟩
        have e1 : o.fdiv (-((Nat.gcd o.natAbs u.natAbs : Nat) : Int)) = rOd o u := by rw [ec]; exact fdiv_o hn
        have e2 : u.fdiv (-((Nat.gcd o.natAbs u.natAbs : Nat) : Int)) = rUd o u := by rw [ec]; exact fdiv_u hn
        rw [← e1, ← e2, ← upd_upd (o := .ins C_Share dx [("over", V.int (o.fdiv (-((Nat.gcd o.natAbs u.natAbs : Nat) : Int))))])] at q
        rw [decide_eq_true hu0]
        refine iteT ?_
        refine ⟨_, rfl, _, rfl, ?_⟩
        refine ⟨_, rfl, _, rfl, _, _, rfl, rfl, cc _, _, rfl, x, _, dx, _, rfl, hx, c.ins.cl, c.no, by decide, ?_⟩
        refine ⟨_, rfl, _, rfl, _, _, rfl, rfl, cc _, _, rfl, x, _, dx, _, rfl, upd_same, c.ins.cl, c.nu, by show 1 < 1000; decide, ?_⟩
        exact q
      · have ec : ((Nat.gcd o.natAbs u.natAbs : Nat) : Int) = cN o u := by unfold cN gN; rw [if_neg hu0]
        have cc : ∀ i : Int, CDivV i ((Nat.gcd o.natAbs u.natAbs : Nat) : Int) := fun i => by rw [ec]; exact ⟨cN_ne hn, l9 _ cN_abs⟩
        have e1 : o.fdiv ((Nat.gcd o.natAbs u.natAbs : Nat) : Int) = rOd o u := by rw [ec]; exact fdiv_o hn
        have e2 : u.fdiv ((Nat.gcd o.natAbs u.natAbs : Nat) : Int) = rUd o u := by rw [ec]; exact fdiv_u hn
        rw [← e1, ← e2, ← upd_upd (o := .ins C_Share dx [("over", V.int (o.fdiv ((Nat.gcd o.natAbs u.natAbs : Nat) : Int)))])] at q
        rw [decide_eq_false hu0]
        refine iteF ?_
        refine ⟨_, rfl, _, rfl, _, _, rfl, rfl, cc _, _, rfl, x, _, dx, _, rfl, hx, c.ins.cl, c.no, by decide, ?_⟩
        refine ⟨_, rfl, _, rfl, _, _, rfl, rfl, cc _, _, rfl, x, _, dx, _, rfl, upd_same, c.ins.cl, c.nu, by show 1 < 1000; decide, ?_⟩
        exact q
    · refine ⟨_, rfl, rfl, _, rfl, ?_⟩
      rw [z0, decide_eq_true rfl]
      refine iteT ?_
      exact ⟨_, rfl, rfl, fun d hd => q d hd⟩
end

/-! ### the sum of halves -/
def spHalves (K : PySem.W.Frag) (C : Addr) : Sp := fun vs H Q _ => ∃ (a : Addr) (ls : List Nat) (L : Nat), vs = [.ref a] ∧ (SqL K H a (ls.map nI) ∨ SqT K H a (ls.map nI)) ∧ (∀ n ∈ ls, n ≤ L) ∧ L ≤ 3000 ∧ ls.length ≤ 100000 ∧ ∀ H' x, Same H H' → Sh C H' x (rOd (hs L ls) (2 ^ L)) (rUd (hs L ls) (2 ^ L)) → Q (.ref x) H'
section
variable {P : Program} {w : World} {K : PySem.W.Frag} {mg : Str → Option Value} {base : Heap} {C_Share : Addr} {C_InvalidNumber : Addr}
theorem ok_sum_of_halves {f : Addr} {fd : FuncData} (F : Fun K "sum_of_halves" "sum_of_halves" s_sum_of_halves f fd) (T : Txt K mg C_Share) (m_Share : MakX P w K mg base 1 "Share" C_Share (spInit C_Share C_InvalidNumber)) : FnOk P w K mg base CX0 3 f fd ["lengths"] (spHalves K C_Share) := by
  refine F.ok sc_sum_of_halves (fun vs H Q E h => ?_) (fun cdv A outer s H vs Q E hr h => ?_)
  · obtain ⟨a, ls, L, rfl, _⟩ := h
    rfl
  · obtain ⟨a, ls, L, rfl, hS, hL, hL3, hlen, q⟩ := h
    refine ⟨_, (pss_cons (ps_set (i := 1) sc_sum_of_halves.nd rfl (by first | exact Or.inl rfl | exact Or.inr rfl) (pe_callBK (cr_maxDef rfl) (by rfl) T.b_max (by decide +kernel) (pa_cons (pv 0) pa_nil) (pk_cons pe_int pk_nil)))
    (pss_cons (ps_set (i := 2) sc_sum_of_halves.nd rfl (by first | exact Or.inl rfl | exact Or.inr rfl) (pe_callB (cr_sum rfl) (by rfl) T.b_sum (by decide +kernel) (pa_cons (pe_lc (own := [("length", 3)]) rfl sc_sum_of_halves.nd (pi_seqJ (pv 0)) (blkOk_by (own := [("length", 3)]) (N := ["lengths", "longest", "over", "length"]) (sc := defScope s_sum_of_halves) (by decide +kernel)) (fun _ _ _ _ _ => (pg_name (i := 3) sc_sum_of_halves.nd rfl (by first | exact Or.inl rfl | exact Or.inr rfl))) (fun _ _ _ _ _ => pts_nil) (fun _ _ _ _ _ => (pe_op op_shlW pe_int (pe_op op_sub (pv 1) (pv 3))))) pa_nil)))
    (pss_one (ps_ret (pe_mkx m_Share hr (by omega) (by rfl) (pa_cons (pv 2) (pa_cons (pe_op op_shlW pe_int (pv 1)) pa_nil))))))), ?_⟩
    -- what follows the greatest one
    have rest : ∀ m : Nat, m ≤ L → (∀ n ∈ ls, n ≤ m) → ∀ (D : Addr) (H2 : Hp), Same H H2 → H2 D = some (.lst ((ls.map fun n : Nat => (1 : Int) * 2 ^ ((m : Int) - (n : Int)).toNat).map V.int)) → ∀ x dx, H2 x = none → H2 dx = none → dx ≠ x → ∀ H', H' = upd (upd (upd H2 dx (.own x)) x (.ins C_Share dx [])) x (.ins C_Share dx (fz (rOd (ls.map fun n : Nat => (1 : Int) * 2 ^ ((m : Int) - (n : Int)).toNat).sum (1 * 2 ^ ((m : Int)).toNat)) (rUd (ls.map fun n : Nat => (1 : Int) * 2 ^ ((m : Int) - (n : Int)).toNat).sum (1 * 2 ^ ((m : Int)).toNat)))) → Q (.ref x) H' := by
      intro m hm hn D H2 sm eD x dx hx hdx hne H' e'
      rw [upd_upd, hs_sum m ls hn, Int.one_mul, Int.toNat_natCast, (red_hs hm hn).1, (red_hs hm hn).2] at e'
      subst e'
      exact q _ x (sm.trans (mkS_same hx hdx)) mkS_sh
    have step : ∀ m : Nat, m ≤ L → (∀ n ∈ ls, n ≤ m) → CShl 1 (m : Int) ∧ ((1 : Int) * 2 ^ ((m : Int)).toNat).natAbs < 2 ^ 9000 ∧ (1 : Int) * 2 ^ ((m : Int)).toNat ≠ 0 := by
      intro m hm hn
      refine ⟨⟨by omega, by rw [show Builtin.Int.intBits 1 = 1 by decide]; omega⟩, ?_, ?_⟩
      · rw [Int.one_mul, Int.toNat_natCast, Int.natAbs_pow]
        exact Nat.pow_lt_pow_right (by decide) (by omega)
      · rw [Int.one_mul, Int.toNat_natCast]
        exact Int.ne_of_gt (Int.pow_pos (by decide))
    have csl : ∀ m n : Nat, m ≤ L → n ≤ m → CShl 1 ((m : Int) - (n : Int)) := fun m n h1 h2 => ⟨by omega, by rw [show Builtin.Int.intBits 1 = 1 by decide]; omega⟩
    refine ⟨_, rfl, maxD_nat hS hL fun m hm hn => ?_⟩
    obtain ⟨c1, c2, c3⟩ := step m hm hn
    refine ⟨_, rfl, a, _, rfl, hS, fun J S LS sJ => fun D hD => lc_J LS (fun i H' => Same H H' ∧ H' D = some (.lst (((ls.take i).map fun n : Nat => (1 : Int) * 2 ^ ((m : Int) - (n : Int)).toNat).map V.int))) ⟨same_upd hD, upd_same⟩ (fun i H' _ h => LS.mono _ _ h.1 sJ) ?_ ?_⟩
    · rintro i x H' hi ⟨sm, eD⟩
      obtain ⟨n, hi', rfl⟩ : ∃ n, ls[i]? = some n ∧ nI n = x := by
        rw [List.getElem?_map] at hi
        cases e : ls[i]? with
        | none => rw [e] at hi; cases hi
        | some n => rw [e] at hi; exact ⟨n, rfl, Option.some.inj hi⟩
      have hil := (List.getElem?_eq_some_iff.mp hi').1
      have hnm := hn n (List.mem_of_getElem? hi')
      refine ⟨rfl, iteT (B := Same H H' ∧ H' D = some (.lst (((ls.take (i + 1)).map fun n : Nat => (1 : Int) * 2 ^ ((m : Int) - (n : Int)).toNat).map V.int))) ?_⟩
      refine ⟨_, rfl, _, rfl, _, _, rfl, rfl, _, _, rfl, rfl, csl m n hm hnm, _, eD, szl (by rw [List.length_map, List.length_map, List.length_take]; omega), same_out sm hD, ?_⟩
      rw [upd_same, List.take_succ, hi', List.map_append, List.map_append]
      rfl
    · rintro H' ⟨sm, eD⟩
      rw [List.length_map, List.take_length] at eD
      refine ⟨D, _, rfl, SqL.of eD, ?_⟩
      refine ⟨_, rfl, _, rfl, _, _, rfl, rfl, c1, fun x dx hx hdx hne => ⟨x, dx, _, _, rfl, upd_same, c2, .inl ⟨c3, fun H2 e2 => ⟨rfl, rest m hm hn D H' sm eD x dx hx hdx hne H2 e2⟩⟩⟩⟩
end

/-! ### is_word -/
section
variable {P : Program} {w : World} {K : PySem.W.Frag} {mg : Str → Option Value} {base : Heap} {C_Share : Addr}
theorem ok_is_word {f : Addr} {fd : FuncData} (F : Fun K "is_word" "is_word" s_is_word f fd) (T : Txt K mg C_Share) : FnOk P w K mg base CX0 1 f fd ["value"] (spIsWord K) := by
  refine F.ok sc_is_word (fun vs H Q E h => ?_) (fun cdv A outer s H vs Q E hr h => ?_)
  · obtain ⟨v, d, rfl, _⟩ := h
    rfl
  · obtain ⟨v, d, rfl, hv, hz, q⟩ := h
    refine ⟨_, (pss_one (ps_ret (pe_and (pe_callB call_isi (by rfl) T.b_isinstance (by decide +kernel) (pa_cons (pv 0) (pa_cons (pe_bltn (v := .ty "str") (by rfl) T.b_str (by decide +kernel) rfl) pa_nil))) (pe_one (pe_cmpR op_eq (pe_bm PySem.F.plainAttrs_str PySem.F.slot_str_strip PySem.F.type_str_strip mt_stripChars (pv 0) (pa_cons pe_str pa_nil)) pe_str (nomark _)))))), ?_⟩
    cases d with
    | str z =>
      cases hv
      refine ⟨_, rfl, _, _, _, _, _, rfl, .ty _, .base (.str z), kit_ty (r := true) (by decide), _, rfl, iteT ?_⟩
      refine ⟨_, rfl, rfl, z, _, rfl, rfl, szle (Nat.le_trans (hz z rfl) (by decide)), rfl, ?_⟩
      rw [strip01]
      exact q
    | none => cases hv; exact ⟨_, rfl, _, _, _, _, _, rfl, .ty _, .base .non, kit_ty (r := false) (by decide), _, rfl, iteF q⟩
    | bool b => cases hv; exact ⟨_, rfl, _, _, _, _, _, rfl, .ty _, .base (.bl b), kit_ty (r := false) (by decide), _, rfl, iteF q⟩
    | int b => cases hv; exact ⟨_, rfl, _, _, _, _, _, rfl, .ty _, .base (.int b), kit_ty (r := false) (by decide), _, rfl, iteF q⟩
    | list ds =>
      cases hv with
      | lst sx _ => exact ⟨_, rfl, _, _, _, _, _, rfl, .ty _, ty_seq sx, kit_ty (r := false) (by decide), _, rfl, iteF q⟩
    | tuple ds =>
      cases hv with
      | tup sx _ => exact ⟨_, rfl, _, _, _, _, _, rfl, .ty _, ty_tup sx, kit_ty (r := false) (by decide), _, rfl, iteF q⟩
    | dict ds => cases hv
end

/-! ### _check_words, first_clash, share_of, split -/
def wordsD : PyData → Bool
  | .list ds => ds.all isW
  | .tuple ds => ds.all isW
  | _ => false
def strD : PyData → Str
  | .str z => z
  | _ => ""
def wsD : PyData → List Str
  | .list ds => ds.map strD
  | .tuple ds => ds.map strD
  | _ => []
/-- no text of a sequence is longer than a line holds -/
def shortD : PyData → Prop
  | .list ds => ∀ z, .str z ∈ ds → z.length ≤ 100000
  | .tuple ds => ∀ z, .str z ∈ ds → z.length ≤ 100000
  | _ => True
def bad (a b : Str) : Bool := Txt.startswith a b || Txt.startswith b a

def spCheckW (K : PySem.W.Frag) (CW : Addr) : Sp := fun vs H Q E => ∃ v d n, vs = [v] ∧ Dp K H v d ∧ okD n d = true ∧ shortD d ∧ ((wordsD d = true ∧ ∀ H', Same H H' → Q .non H') ∨ (wordsD d = false ∧ ∀ H' dd, Same H H' → H' dd = some (.xd [("words", v)]) → E (.ref CW) (some dd) H'))
section
variable {P : Program} {w : World} {K : PySem.W.Frag} {mg : Str → Option Value} {base : Heap} {C_Share : Addr} {C_InvalidWords : Addr}
theorem ok_check_words {f : Addr} {fd : FuncData} (F : Fun K "_check_words" "_check_words" s_check_words f fd) (T : Txt K mg C_Share) (x_InvalidWords : XErr P K mg "InvalidWords" C_InvalidWords ["words"]) (c_is_sequence : Cal P w K mg base 1 "is_sequence" (spSeq K)) (c_is_word : Cal P w K mg base 1 "is_word" (spIsWord K)) : FnOk P w K mg base (L2N.CX P w) 3 f fd ["words"] (spCheckW K C_InvalidWords) := by
  refine Fun_okN F sc_check_words (fun vs H Q E h => ?_) (fun cdv A outer s H vs Q E hr h => ?_)
  · obtain ⟨v, d, n, rfl, _⟩ := h
    rfl
  · obtain ⟨v, d, n, rfl, hv, hok, hsh, q⟩ := h
    refine ⟨_, (pss_one (ps_if (PW.pt (pw_or (pt_not (pt_val (pe_c c_is_sequence hr (by omega) (by rfl) (pa_cons (pv 0) pa_nil)))) (pw_or1 (pt_not (pt_val (pe_callB (cr_all rfl) (by rfl) T.b_all (by decide +kernel) (pa_cons (pe_lc (own := [("word", 1)]) rfl sc_check_words.nd (pi_seqA (pv 0)) (blkOk_by (own := [("word", 1)]) (N := ["words", "word"]) (sc := defScope s_check_words) (by decide +kernel)) (fun _ _ _ _ _ => (pg_name (i := 1) sc_check_words.nd rfl (by first | exact Or.inl rfl | exact Or.inr rfl))) (fun _ _ _ _ _ => pts_nil) (fun _ _ _ _ _ => (pe_c c_is_word hr (by omega) (by rfl) (pa_cons (pv 1) pa_nil)))) pa_nil)))))))
      (pss_one (ps_raiseX rfl x_InvalidWords hr (L2N.takes_of rfl rfl rfl rfl) (pa_cons (pv 0) pa_nil)))
      pss_nil)), ?_⟩
    refine ⟨_, rfl, v, d, rfl, hv, fun H1 s1 => ⟨_, rfl, ?_⟩⟩
    cases d with
    | none =>
      rcases q with ⟨hw, q⟩ | ⟨hw, q⟩
      · cases hw
      · exact iteT ⟨_, rfl, rfl, fun dd hd => q _ dd (s1.trans (same_upd hd)) upd_same⟩
    | bool b =>
      rcases q with ⟨hw, q⟩ | ⟨hw, q⟩
      · cases hw
      · exact iteT ⟨_, rfl, rfl, fun dd hd => q _ dd (s1.trans (same_upd hd)) upd_same⟩
    | int b =>
      rcases q with ⟨hw, q⟩ | ⟨hw, q⟩
      · cases hw
      · exact iteT ⟨_, rfl, rfl, fun dd hd => q _ dd (s1.trans (same_upd hd)) upd_same⟩
    | str b =>
      rcases q with ⟨hw, q⟩ | ⟨hw, q⟩
      · cases hw
      · exact iteT ⟨_, rfl, rfl, fun dd hd => q _ dd (s1.trans (same_upd hd)) upd_same⟩
    | dict b => cases hv
    | list ds =>
      cases hv with
      | lst sx ax =>
      rename_i a xs
      cases n with
      | zero => cases hok
      | succ n =>
      obtain ⟨lz, _⟩ := okD_seq hok
      have lx := DpAll.len ax
      refine iteF ?_
      refine ⟨_, rfl, a, xs, rfl, .inl ⟨(s1).seq sx, fun D hD => lc_list (K := K) (a := a) (xs := xs) (fun i H' => Same H1 H' ∧ H' D = some (.lst (((ds.take i).map isW).map V.bl))) ⟨same_upd hD, upd_same⟩ ?_ ?_ ?_⟩⟩
      · rintro i H' _ ⟨sm, _⟩
        exact (s1.trans sm).seq sx
      · rintro i x H' hi ⟨sm, eD⟩
        obtain ⟨e, he, dx⟩ := DpAll.get' ax hi
        have hi' := (List.getElem?_eq_some_iff.mp he).1
        refine ⟨rfl, iteT (B := Same H1 H' ∧ H' D = some (.lst (((ds.take (i + 1)).map isW).map V.bl))) ?_⟩
        refine ⟨_, rfl, x, e, rfl, Dp.mono (s1.trans sm) _ _ dx, (fun z hz => hsh z (hz ▸ List.mem_of_getElem? he)), _, eD, szl (by rw [List.length_map, List.length_map, List.length_take]; omega), same_out sm hD, ?_⟩
        rw [upd_same, List.take_succ, he, List.map_append, List.map_append]
        rfl
      · rintro H' ⟨sm, eD⟩
        rw [List.take_of_length_le (by omega)] at eD
        refine ⟨D, ds.map isW, rfl, SqL.of eD, ?_⟩
        rw [List.all_map]
        have s2 := s1.trans sm
        rcases q with ⟨hw, q⟩ | ⟨hw, q⟩
        · refine ⟨_, rfl, ?_⟩
          rw [show ds.all (id ∘ isW) = true from hw]
          exact iteF (q _ s2)
        · refine ⟨_, rfl, ?_⟩
          rw [show ds.all (id ∘ isW) = false from hw]
          exact iteT ⟨_, rfl, rfl, fun dd hd => q _ dd (s2.trans (same_upd hd)) upd_same⟩
    | tuple ds =>
      cases hv with
      | tup sx ax =>
      rename_i a xs
      cases n with
      | zero => cases hok
      | succ n =>
      obtain ⟨lz, _⟩ := okD_seq hok
      have lx := DpAll.len ax
      refine iteF ?_
      refine ⟨_, rfl, a, xs, rfl, .inr ⟨sameT (s1) sx, fun D hD => lc_tup (K := K) (a := a) (xs := xs) (fun i H' => Same H1 H' ∧ H' D = some (.lst (((ds.take i).map isW).map V.bl))) ⟨same_upd hD, upd_same⟩ ?_ ?_ ?_⟩⟩
      · rintro i H' _ ⟨sm, _⟩
        exact sameT (s1.trans sm) sx
      · rintro i x H' hi ⟨sm, eD⟩
        obtain ⟨e, he, dx⟩ := DpAll.get' ax hi
        have hi' := (List.getElem?_eq_some_iff.mp he).1
        refine ⟨rfl, iteT (B := Same H1 H' ∧ H' D = some (.lst (((ds.take (i + 1)).map isW).map V.bl))) ?_⟩
        refine ⟨_, rfl, x, e, rfl, Dp.mono (s1.trans sm) _ _ dx, (fun z hz => hsh z (hz ▸ List.mem_of_getElem? he)), _, eD, szl (by rw [List.length_map, List.length_map, List.length_take]; omega), same_out sm hD, ?_⟩
        rw [upd_same, List.take_succ, he, List.map_append, List.map_append]
        rfl
      · rintro H' ⟨sm, eD⟩
        rw [List.take_of_length_le (by omega)] at eD
        refine ⟨D, ds.map isW, rfl, SqL.of eD, ?_⟩
        rw [List.all_map]
        have s2 := s1.trans sm
        rcases q with ⟨hw, q⟩ | ⟨hw, q⟩
        · refine ⟨_, rfl, ?_⟩
          rw [show ds.all (id ∘ isW) = true from hw]
          exact iteF (q _ s2)
        · refine ⟨_, rfl, ?_⟩
          rw [show ds.all (id ∘ isW) = false from hw]
          exact iteT ⟨_, rfl, rfl, fun dd hd => q _ dd (s2.trans (same_upd hd)) upd_same⟩

/-- the first pair of places, by the later one, then the earlier one, of which one word begins the other -/
def clashK (ws : List Str) (k : Nat) : Option Nat := (List.range k).find? fun i => bad (ws.getD k "") (ws.getD i "")
def clash (ws : List Str) : Option (Nat × Nat) := ((List.range ws.length).find? fun k => (clashK ws k).isSome).map fun k => ((clashK ws k).getD 0, k)
theorem clashK_at {ws : List Str} {k i : Nat} (hi : i < k) (h : ∀ j, j < i → bad (ws.getD k "") (ws.getD j "") = false) (hb : bad (ws.getD k "") (ws.getD i "") = true) : clashK ws k = some i :=
  List.find?_range_eq_some.mpr ⟨hb, List.mem_range.mpr hi, fun j hj => by rw [h j hj]; rfl⟩
theorem clashK_no {ws : List Str} {k : Nat} (h : ∀ j, j < k → bad (ws.getD k "") (ws.getD j "") = false) : clashK ws k = none :=
  List.find?_eq_none.mpr fun j hj => by rw [h j (List.mem_range.mp hj)]; decide
theorem clash_at {ws : List Str} {k i : Nat} (hk : k < ws.length) (h : ∀ j, j < k → clashK ws j = none) (hi : clashK ws k = some i) : clash ws = some (i, k) := by
  unfold clash
  rw [List.find?_range_eq_some.mpr ⟨by rw [hi]; rfl, List.mem_range.mpr hk, fun j hj => by rw [h j hj]; rfl⟩]
  show some ((clashK ws k).getD 0, k) = _
  rw [hi]
  rfl
theorem clash_no {ws : List Str} (h : ∀ j, j < ws.length → clashK ws j = none) : clash ws = none := by
  unfold clash
  rw [List.find?_eq_none.mpr fun j hj => by rw [h j (List.mem_range.mp hj)]; decide]
  rfl
def spClash (K : PySem.W.Frag) (CW : Addr) : Sp := fun vs H Q E => ∃ v d n, vs = [v] ∧ Dp K H v d ∧ okD n d = true ∧ shortD d ∧ ((wordsD d = true ∧ (clash (wsD d) = none → ∀ H', Same H H' → Q .non H') ∧ (∀ i k, clash (wsD d) = some (i, k) → ∀ H' p, Same H H' → H' p = some (.tup [.int (i : Nat), .int (k : Nat)]) → Q (.ref p) H')) ∨ (wordsD d = false ∧ ∀ H' dd, Same H H' → H' dd = some (.xd [("words", v)]) → E (.ref CW) (some dd) H'))
theorem words_at {K : PySem.W.Frag} {H : Hp} : ∀ {xs : List V} {ds : List PyData}, DpAll K H xs ds → ds.all isW = true → xs = (ds.map strD).map V.str
  | _, _, .nil, _ => rfl
  | _, _, .cons (d := d) ha hr, h => by
    rw [List.all_cons, Bool.and_eq_true] at h
    obtain ⟨h1, h2⟩ := h
    rw [List.map_cons, List.map_cons, ← words_at hr h2]
    cases d with
    | str z => cases ha; rfl
    | _ => cases h1
theorem words_row {K : PySem.W.Frag} {H : Hp} {v : V} {d : PyData} {n : Nat} (hv : Dp K H v d) (hok : okD n d = true) (hw : wordsD d = true) : ∃ a, v = .ref a ∧ (SqL K H a ((wsD d).map V.str) ∨ SqT K H a ((wsD d).map V.str)) ∧ (wsD d).length ≤ 100000 := by
  cases n with
  | zero => cases d <;> first | cases hok | cases hw
  | succ n =>
  cases d with
  | list ds =>
    cases hv with
    | lst sx ax => exact ⟨_, rfl, .inl (by have e := words_at ax hw; rw [e] at sx; exact sx), by show (ds.map strD).length ≤ _; rw [List.length_map]; exact (okD_seq hok).1⟩
  | tuple ds =>
    cases hv with
    | tup sx ax => exact ⟨_, rfl, .inr (by have e := words_at ax hw; rw [e] at sx; exact sx), by show (ds.map strD).length ≤ _; rw [List.length_map]; exact (okD_seq hok).1⟩
  | _ => cases hw
theorem ix_word {K : PySem.W.Frag} {H : Hp} {a : Addr} {ws : List Str} {z : Int} {i : Nat} {Q : VK} (hS : SqL K H a (ws.map V.str) ∨ SqT K H a (ws.map V.str)) (hi : i < ws.length) (hz : z = (i : Int)) (q : Q (.str (ws.getD i "")) H) : rIx K (.ref a) (.int z) H Q := by
  subst hz
  have g : atI (ws.map V.str) (i : Int) = some (.str (ws.getD i "")) := atI_nat (j := i) (by rw [List.getElem?_map, List.getD_eq_getElem?_getD, List.getElem?_eq_getElem hi]; rfl)
  rcases hS with h | h
  · exact .inl ⟨a, _, _, _, rfl, rfl, h, g, q⟩
  · exact .inr (.inl ⟨a, _, _, _, rfl, rfl, h, g, q⟩)
theorem ok_first_clash {f : Addr} {fd : FuncData} (F : Fun K "first_clash" "first_clash" s_first_clash f fd) (T : Txt K mg C_Share) (c_check_words : CalX P w K mg base 3 "_check_words" (spCheckW K C_InvalidWords)) : FnOk P w K mg base (L2N.CX P w) 4 f fd ["words"] (spClash K C_InvalidWords) := by
  refine Fun_okN F sc_first_clash (fun vs H Q E h => ?_) (fun cdv A outer s H vs Q E hr h => ?_)
  · obtain ⟨v, d, n, rfl, _⟩ := h
    rfl
  · obtain ⟨v, d, n, rfl, hv, hok, hsh, q⟩ := h
    refine ⟨_, (pss_cons (ps_expr (pe_xS c_check_words hr (by omega) (by rfl) (L2N.takes_of rfl rfl rfl rfl) (pa_cons (pv 0) pa_nil)))
    (pss_cons (ps_for (passes_of rfl) rfl (pi_enumJ (by rfl) T.b_enumerate (pa_cons (pv 0) pa_nil)) (pg_tup rfl (pgs_cons (pg_name (i := 1) sc_first_clash.nd rfl (by first | exact Or.inl rfl | exact Or.inr rfl)) (pgs_cons (pg_name (i := 2) sc_first_clash.nd rfl (by first | exact Or.inl rfl | exact Or.inr rfl)) pgs_nil)))
      (pss_one (ps_for (passes_of rfl) rfl (pi_range1 (by rfl) T.b_range (pa_cons (pv 1) pa_nil)) (pg_name (i := 3) sc_first_clash.nd rfl (by first | exact Or.inl rfl | exact Or.inr rfl))
          (pss_one (ps_if (PW.pt (pw_or (pt_val (pe_bm PySem.F.plainAttrs_str PySem.F.slot_str_startswith PySem.F.type_str_startswith mt_startswith (pv 2) (pa_cons (pe_ix ix_seq (pv 0) (pv 3) (fun _ _ => rfl)) pa_nil))) (pw_or1 (pt_val (pe_bm PySem.F.plainAttrs_str PySem.F.slot_str_startswith PySem.F.type_str_startswith mt_startswith (pe_ix ix_seq (pv 0) (pv 3) (fun _ _ => rfl)) (pa_cons (pv 2) pa_nil))))))
              (pss_one (ps_ret (pe_tup (pa_cons (pv 3) (pa_cons (pv 1) pa_nil)))))
              pss_nil)))))
    (pss_one (ps_ret pe_non)))), ?_⟩
    rcases q with ⟨hw, q0, q1⟩ | ⟨hw, q⟩
    · refine ⟨_, rfl, v, d, n, rfl, hv, hok, hsh, .inl ⟨hw, fun H1 s1 => ?_⟩⟩
      obtain ⟨a, rfl, hS, hlen⟩ := words_row hv hok hw
      generalize wsD d = ws at q0 q1 hS hlen
      have at_ : ∀ {H' : Hp}, Same H H' → SqL K H' a (ws.map V.str) ∨ SqT K H' a (ws.map V.str) := fun sm => hS.imp (fun z => sm.seq z) fun z => sameT sm z
      refine ⟨_, rfl, a, _, rfl, at_ s1, fun J S LS sJ => for_enumJ LS (fun k σ H' => ∃ v1 v2 v3 : Option V, σ = [some (.ref a), v1, v2, v3] ∧ Same H1 H' ∧ ∀ j, j < k → clashK ws j = none) ⟨none, none, none, rfl, fun _ _ e => e, fun j hj => absurd hj (Nat.not_lt_zero _)⟩ (fun i σ H' _ h => ?_) ?_ ?_⟩
      · obtain ⟨_, _, _, _, sm, _⟩ := h
        exact LS.mono _ _ sm sJ
      · rintro k x σ H' hx ⟨v1, v2, v3, rfl, sm, hk⟩ T hT
        have hkl : k < ws.length := by
          have := (List.getElem?_eq_some_iff.mp hx).1
          rw [List.length_map] at this
          exact this
        obtain rfl : x = V.str (ws.getD k "") := by
          rw [List.getElem?_map, List.getElem?_eq_getElem hkl] at hx
          rw [List.getD_eq_getElem?_getD, List.getElem?_eq_getElem hkl]
          exact (Option.some.inj hx).symm
        have sm1 := sm.trans (same_upd (o := .tup [.int (k : Nat), .str (ws.getD k "")]) hT)
        refine ⟨T, _, rfl, SqT.of upd_same, rfl, _, _, rfl, _, _, rfl, rfl, ?_⟩
        refine ⟨_, rfl, k, rfl, by omega, by omega, for_range (n := k) (fun i σ H' => ∃ v3 : Option V, σ = [some (.ref a), some (.int (k : Nat)), some (.str (ws.getD k "")), v3] ∧ Same H1 H' ∧ ∀ j, j < i → bad (ws.getD k "") (ws.getD j "") = false) ⟨v3, rfl, sm1, fun j hj => absurd hj (Nat.not_lt_zero _)⟩ ?_ ?_⟩
        · rintro i σ H2 hi ⟨v3, rfl, sm2, hj⟩
          have hS2 := at_ (s1.trans sm2)
          have z : (0 : Int) + (i : Int) = (i : Int) := Int.zero_add _
          have found : bad (ws.getD k "") (ws.getD i "") = true → clash ws = some (i, k) := fun hb => clash_at hkl hk (clashK_at hi hj hb)
          refine ⟨_, rfl, rfl, _, rfl, _, rfl, ?_⟩
          refine ix_word hS2 (by omega) z ⟨_, _, rfl, rfl, _, rfl, ite2 (fun h => ?_) (fun h => ?_)⟩
          · refine ⟨_, rfl, _, rfl, szle (by show 2 ≤ 16777216; decide), fun p hp => ?_⟩
            exact q1 i k (found (by unfold bad; rw [h]; rfl)) _ p ((s1.trans sm2).trans (same_upd hp)) (by rw [upd_same, z])
          · refine ⟨_, rfl, _, rfl, ?_⟩
            refine ix_word hS2 (by omega) z ⟨rfl, _, rfl, _, _, rfl, rfl, _, rfl, ite2 (fun h' => ?_) (fun h' => ?_)⟩
            · refine ⟨_, rfl, _, rfl, szle (by show 2 ≤ 16777216; decide), fun p hp => ?_⟩
              exact q1 i k (found (by unfold bad; rw [h', Bool.or_true])) _ p ((s1.trans sm2).trans (same_upd hp)) (by rw [upd_same, z])
            · refine ⟨_, rfl, sm2, fun j hj' => ?_⟩
              by_cases e : j = i
              · subst e
                unfold bad
                rw [Bool.eq_false_iff.mpr h, Bool.eq_false_iff.mpr h']
                rfl
              · exact hj j (by omega)
        · rintro σ H2 ⟨v3, rfl, sm2, hj⟩
          refine ⟨_, _, _, rfl, sm2, fun j hj' => ?_⟩
          by_cases e : j = k
          · subst e
            exact clashK_no hj
          · exact hk j (by omega)
      · rintro σ H' ⟨v1, v2, v3, rfl, sm, hk⟩
        rw [List.length_map] at hk
        exact q0 (clash_no hk) H' (s1.trans sm)
    · exact ⟨_, rfl, v, d, n, rfl, hv, hok, hsh, .inr ⟨hw, fun H1 dd s1 hd => q H1 dd s1 hd⟩⟩
def spShareOf (K : PySem.W.Frag) (C CW : Addr) : Sp := fun vs H Q E => ∃ v d n L, vs = [v] ∧ Dp K H v d ∧ okD n d = true ∧ shortD d ∧ L ≤ 3000 ∧ ((wordsD d = true ∧ (∀ z ∈ wsD d, z.length ≤ L) ∧ ∀ H' x, Same H H' → Sh C H' x (rOd (hs L ((wsD d).map Str.length)) (2 ^ L)) (rUd (hs L ((wsD d).map Str.length)) (2 ^ L)) → Q (.ref x) H') ∨ (wordsD d = false ∧ ∀ H' dd, Same H H' → H' dd = some (.xd [("words", v)]) → E (.ref CW) (some dd) H'))
theorem ok_share_of {f : Addr} {fd : FuncData} (F : Fun K "share_of" "share_of" s_share_of f fd) (T : Txt K mg C_Share) (c_check_words : CalX P w K mg base 3 "_check_words" (spCheckW K C_InvalidWords)) (c_sum_of_halves : Cal P w K mg base 3 "sum_of_halves" (spHalves K C_Share)) : FnOk P w K mg base (L2N.CX P w) 4 f fd ["words"] (spShareOf K C_Share C_InvalidWords) := by
  refine Fun_okN F sc_share_of (fun vs H Q E h => ?_) (fun cdv A outer s H vs Q E hr h => ?_)
  · obtain ⟨v, d, n, L, rfl, _⟩ := h
    rfl
  · obtain ⟨v, d, n, L, rfl, hv, hok, hsh, hL, q⟩ := h
    refine ⟨_, (pss_cons (ps_expr (pe_xS c_check_words hr (by omega) (by rfl) (L2N.takes_of rfl rfl rfl rfl) (pa_cons (pv 0) pa_nil)))
    (pss_one (ps_ret (pe_c c_sum_of_halves hr (by omega) (by rfl) (pa_cons (pe_lc (own := [("word", 1)]) rfl sc_share_of.nd (pi_seqJ (pv 0)) (blkOk_by (own := [("word", 1)]) (N := ["words", "word"]) (sc := defScope s_share_of) (by decide +kernel)) (fun _ _ _ _ _ => (pg_name (i := 1) sc_share_of.nd rfl (by first | exact Or.inl rfl | exact Or.inr rfl))) (fun _ _ _ _ _ => pts_nil) (fun _ _ _ _ _ => (pe_callB call_len_str (by rfl) T.b_len (by decide +kernel) (pa_cons (pv 1) pa_nil)))) pa_nil))))), ?_⟩
    rcases q with ⟨hw, hz, q⟩ | ⟨hw, q⟩
    · refine ⟨_, rfl, v, d, n, rfl, hv, hok, hsh, .inl ⟨hw, fun H1 s1 => ?_⟩⟩
      obtain ⟨a, rfl, hS, hlen⟩ := words_row hv hok hw
      generalize wsD d = ws at q hz hS hlen
      have at_ : ∀ {H' : Hp}, Same H H' → SqL K H' a (ws.map V.str) ∨ SqT K H' a (ws.map V.str) := fun sm => hS.imp (fun z => sm.seq z) fun z => sameT sm z
      refine ⟨_, rfl, a, _, rfl, at_ s1, fun J S LS sJ => fun D hD => lc_J LS (fun i H' => Same H1 H' ∧ H' D = some (.lst (((ws.map Str.length).take i).map nI))) ⟨same_upd hD, upd_same⟩ (fun i H' _ h => LS.mono _ _ h.1 sJ) ?_ ?_⟩
      · rintro i x H' hi ⟨sm, eD⟩
        obtain ⟨z, hi', rfl⟩ : ∃ z, ws[i]? = some z ∧ V.str z = x := by
          rw [List.getElem?_map] at hi
          cases e : ws[i]? with
          | none => rw [e] at hi; cases hi
          | some n => rw [e] at hi; exact ⟨n, rfl, Option.some.inj hi⟩
        have hil := (List.getElem?_eq_some_iff.mp hi').1
        have hzl := hz z (List.mem_of_getElem? hi')
        refine ⟨rfl, iteT (B := Same H1 H' ∧ H' D = some (.lst (((ws.map Str.length).take (i + 1)).map nI))) ?_⟩
        refine ⟨_, rfl, z, rfl, szle (Nat.le_trans hzl (Nat.le_trans hL (by decide))), _, eD, szl (by rw [List.length_map, List.length_take, List.length_map]; omega), same_out sm hD, ?_⟩
        rw [upd_same, List.take_succ, List.getElem?_map, hi', List.map_append]
        rfl
      · rintro H' ⟨sm, eD⟩
        have e : ((ws.map Str.length).take (ws.map V.str).length) = ws.map Str.length := by rw [List.length_map, List.take_of_length_le (by rw [List.length_map]; exact Nat.le_refl _)]
        rw [e] at eD
        refine ⟨D, ws.map Str.length, L, rfl, .inl (SqL.of eD), fun n hn => ?_, hL, by rw [List.length_map]; exact hlen, fun H2 x s2 sh => q H2 x ((s1.trans sm).trans s2) sh⟩
        obtain ⟨z, hz', rfl⟩ := List.mem_map.mp hn
        exact hz z hz'
    · exact ⟨_, rfl, v, d, n, rfl, hv, hok, hsh, .inr ⟨hw, fun H1 dd s1 hd => q H1 dd s1 hd⟩⟩
end

def spBits : Sp := fun vs H Q _ => ∃ (B : Hp) (t : Addr) (c m : Nat), vs = [.ref t, .int m] ∧ Tp B H t c ∧ m ≤ 100000 ∧ c < 100000000 ∧ ∀ H' z, Tp B H' t (c + m) → isB z = true → z.length = m → Q (.str z) H'
section
variable {P : Program} {w : World} {K : PySem.W.Frag} {mg : Str → Option Value} {base : Heap} {C_Share : Addr}
theorem ok_law_bits {f : Addr} {fd : FuncData} (F : Fun K "_law_bits" "_law_bits" s_law_bits f fd) (T : Txt K mg C_Share) (c_law_draw : Cal P w K mg base 1 "_law_draw" spDraw) : FnOk P w K mg base CX0 2 f fd ["tape", "many"] spBits := by
  refine F.ok sc_law_bits (fun vs H Q E h => ?_) (fun cdv A outer s H vs Q E hr h => ?_)
  · obtain ⟨B, t, c, m, rfl, _⟩ := h
    rfl
  · obtain ⟨B, t, c, m, rfl, T0, hm, hc, q⟩ := h
    refine ⟨_, (pss_one (ps_ret (pe_join pe_str (pe_lc (own := [("k", 2)]) rfl sc_law_bits.nd (pi_range1 (by rfl) T.b_range (pa_cons (pv 1) pa_nil)) (blkOk_by (own := [("k", 2)]) (N := ["tape", "many", "k"]) (sc := defScope s_law_bits) (by decide +kernel)) (fun _ _ _ _ _ => (pg_name (i := 2) sc_law_bits.nd rfl (by first | exact Or.inl rfl | exact Or.inr rfl))) (fun _ _ _ _ _ => pts_nil) (fun _ _ _ _ _ => (pe_ix ix_str pe_str (pe_c c_law_draw hr (by omega) (by rfl) (pa_cons (pv 0) (pa_cons pe_int pa_nil))) (fun _ _ => rfl))))))), ?_⟩
    have e01 : (("01" : Str)).cps = #[48, 49] := by decide
    refine ⟨⟨_, rfl⟩, _, rfl, m, rfl, by omega, by omega, fun D hD => lc_range (lo := 0) (n := m) (fun i H' => ∃ cs : List Nat, Tp (upd B D (.lst ((cs.map chS).map V.str))) H' t (c + i) ∧ cs.length = i ∧ ∀ y ∈ cs, y = 48 ∨ y = 49) ⟨[], T0.new hD, rfl, (fun y hy => by cases hy)⟩ ?_ ?_⟩
    · rintro i H' hi ⟨cs, T3, ly, sy⟩
      refine ⟨rfl, iteT (B := ∃ cs : List Nat, Tp (upd B D (.lst ((cs.map chS).map V.str))) H' t (c + (i + 1)) ∧ cs.length = i + 1 ∧ ∀ y ∈ cs, y = 48 ∨ y = 49) ?_⟩
      refine ⟨_, rfl, _, t, c + i, 2, rfl, T3, by decide, by decide, by omega, fun H4 n T4 n0 n1 => ?_⟩
      obtain ⟨ch, hch⟩ := at_some (xs := (("01" : Str)).cps.toList) n0 (by rw [show (((("01" : Str)).cps.toList.length : Int)) = 2 from rfl]; exact n1)
      have hb : ch = 48 ∨ ch = 49 := by
        have h2 := hch
        rw [e01] at h2
        obtain ⟨j, rfl⟩ := nat_of n0
        rcases (by omega : j = 0 ∨ j = 1) with e | e <;> subst e
        · exact .inl (Option.some.inj h2).symm
        · exact .inr (Option.some.inj h2).symm
      refine ⟨_, _, ch, rfl, rfl, szle (by decide), hch, (cs.map chS).map V.str, T4.at upd_same, szl (by rw [List.length_map, List.length_map]; omega), cs ++ [ch], ?_, by simp [ly], fun y hy => ?_⟩
      · have T5 := T4.set (o' := .lst ((cs.map chS).map V.str ++ [V.str ⟨#[ch]⟩])) upd_same
        rw [upd_upd] at T5
        rw [List.map_append, List.map_append]
        exact T5
      · rcases List.mem_append.mp hy with z | z
        · exact sy y z
        · rw [List.mem_singleton.mp z]
          exact hb
    · rintro H' ⟨cs, T3, ly, sy⟩
      have hB : B D = none := T0.isn hD
      have len1 : ∀ xs : List Nat, ((xs.map chS).map (fun x => x.length)).sum = xs.length := fun xs => by
        induction xs with
        | nil => rfl
        | cons x r ih =>
          rw [List.map_cons, List.map_cons, List.sum_cons, ih]
          show 1 + r.length = r.length + 1
          omega
      refine ⟨_, D, cs.map chS, rfl, rfl, .inl (SqL.of (T3.at upd_same)), ?_, ?_⟩
      · show ((cs.map chS).map (fun x => x.length)).sum + (cs.map chS).length * 0 ≤ 16777216
        rw [len1]
        omega
      · rw [join_signs]
        refine q _ _ (T3.shrink (same_upd hB)) ?_ ?_
        · show cs.toArray.toList.all (("01" : Str)).cps.contains = true
          rw [e01, List.all_eq_true]
          intro y hy
          rcases sy y hy with z | z <;> rw [z] <;> simp
        · show cs.toArray.size = m
          rw [List.size_toArray]
          exact ly
end

def spLClash (K : PySem.W.Frag) : Sp := fun vs H Q _ => ∃ (a : Addr) (ws : List Str), vs = [.ref a] ∧ (SqL K H a (ws.map V.str) ∨ SqT K H a (ws.map V.str)) ∧ ws.length ≤ 100000 ∧ (clash ws = none → ∀ H', Same H H' → Q .non H') ∧ ∀ i k, clash ws = some (i, k) → ∀ H' p, Same H H' → H' p = some (.tup [.int (i : Nat), .int (k : Nat)]) → Q (.ref p) H'
section
variable {P : Program} {w : World} {K : PySem.W.Frag} {mg : Str → Option Value} {base : Heap} {C_Share : Addr}
theorem ok_law_clash {f : Addr} {fd : FuncData} (F : Fun K "_law_clash" "_law_clash" s_law_clash f fd) (T : Txt K mg C_Share) : FnOk P w K mg base CX0 1 f fd ["words"] (spLClash K) := by
  refine F.ok sc_law_clash (fun vs H Q E h => ?_) (fun cdv A outer s H vs Q E hr h => ?_)
  · obtain ⟨a, ws, rfl, _⟩ := h
    rfl
  · obtain ⟨a, ws, rfl, hS, hlen, q0, q1⟩ := h
    refine ⟨_, (pss_cons (ps_for PassesOwn.never rfl (pi_range1 (by rfl) T.b_range (pa_cons (pe_callB call_len_seq (by rfl) T.b_len (by decide +kernel) (pa_cons (pv 0) pa_nil)) pa_nil)) (pg_name (i := 1) sc_law_clash.nd rfl (by first | exact Or.inl rfl | exact Or.inr rfl))
      (pss_one (ps_for PassesOwn.never rfl (pi_range1 (by rfl) T.b_range (pa_cons (pv 1) pa_nil)) (pg_name (i := 2) sc_law_clash.nd rfl (by first | exact Or.inl rfl | exact Or.inr rfl))
          (pss_one (ps_if (PW.pt (pw_or (pt_val (pe_bm PySem.F.plainAttrs_str PySem.F.slot_str_startswith PySem.F.type_str_startswith mt_startswith (pe_ix ix_seq (pv 0) (pv 1) (fun _ _ => rfl)) (pa_cons (pe_ix ix_seq (pv 0) (pv 2) (fun _ _ => rfl)) pa_nil))) (pw_or1 (pt_val (pe_bm PySem.F.plainAttrs_str PySem.F.slot_str_startswith PySem.F.type_str_startswith mt_startswith (pe_ix ix_seq (pv 0) (pv 2) (fun _ _ => rfl)) (pa_cons (pe_ix ix_seq (pv 0) (pv 1) (fun _ _ => rfl)) pa_nil))))))
              (pss_one (ps_ret (pe_tup (pa_cons (pv 2) (pa_cons (pv 1) pa_nil)))))
              pss_nil)))))
    (pss_one (ps_ret pe_non))), ?_⟩
    have at_ : ∀ {H' : Hp}, Same H H' → SqL K H' a (ws.map V.str) ∨ SqT K H' a (ws.map V.str) := fun sm => hS.imp (fun z => sm.seq z) fun z => sameT sm z
    refine ⟨_, rfl, a, _, rfl, hS, ws.length, by rw [List.length_map], by omega, by omega, for_range (n := ws.length) (fun k σ H' => ∃ v1 v2 : Option V, σ = [some (.ref a), v1, v2] ∧ Same H H' ∧ ∀ j, j < k → clashK ws j = none) ⟨none, none, rfl, fun _ _ e => e, fun j hj => absurd hj (Nat.not_lt_zero _)⟩ ?_ ?_⟩
    · rintro k σ H' hkl ⟨v1, v2, rfl, sm, hk⟩
      have zk : (0 : Int) + (k : Int) = (k : Int) := Int.zero_add _
      refine ⟨_, rfl, k, congrArg (fun z => [V.int z]) zk, by omega, by omega, for_range (n := k) (fun i σ H' => ∃ v2 : Option V, σ = [some (.ref a), some (.int (0 + (k : Nat))), v2] ∧ Same H H' ∧ ∀ j, j < i → bad (ws.getD k "") (ws.getD j "") = false) ⟨v2, rfl, sm, fun j hj => absurd hj (Nat.not_lt_zero _)⟩ ?_ ?_⟩
      · rintro i σ H2 hi ⟨v2, rfl, sm2, hj⟩
        have hS2 := at_ sm2
        have z : (0 : Int) + (i : Int) = (i : Int) := Int.zero_add _
        have found : bad (ws.getD k "") (ws.getD i "") = true → clash ws = some (i, k) := fun hb => clash_at hkl hk (clashK_at hi hj hb)
        refine ⟨_, rfl, _, rfl, ?_⟩
        refine ix_word hS2 hkl zk ⟨rfl, _, rfl, _, rfl, ?_⟩
        refine ix_word hS2 (by omega) z ⟨_, _, rfl, rfl, _, rfl, ite2 (fun h => ?_) (fun h => ?_)⟩
        · refine ⟨_, rfl, _, rfl, szle (by show 2 ≤ 16777216; decide), fun p hp => ?_⟩
          exact q1 i k (found (by unfold bad; rw [h]; rfl)) _ p (sm2.trans (same_upd hp)) (by rw [upd_same, z, zk])
        · refine ⟨_, rfl, _, rfl, ?_⟩
          refine ix_word hS2 (by omega) z ⟨rfl, _, rfl, _, rfl, ?_⟩
          refine ix_word hS2 hkl zk ⟨_, _, rfl, rfl, _, rfl, ite2 (fun h' => ?_) (fun h' => ?_)⟩
          · refine ⟨_, rfl, _, rfl, szle (by show 2 ≤ 16777216; decide), fun p hp => ?_⟩
            exact q1 i k (found (by unfold bad; rw [h', Bool.or_true])) _ p (sm2.trans (same_upd hp)) (by rw [upd_same, z, zk])
          · refine ⟨_, rfl, sm2, fun j hj' => ?_⟩
            by_cases e : j = i
            · subst e
              unfold bad
              rw [Bool.eq_false_iff.mpr h, Bool.eq_false_iff.mpr h']
              rfl
            · exact hj j (by omega)
      · rintro σ H2 ⟨v2, rfl, sm2, hj⟩
        refine ⟨_, _, rfl, sm2, fun j hj' => ?_⟩
        by_cases e : j = k
        · subst e
          exact clashK_no hj
        · exact hk j (by omega)
    · rintro σ H' ⟨v1, v2, rfl, sm, hk⟩
      exact q0 (clash_no hk) H' sm
end

def sW (ws : List Str) : Nat := hs 60 (ws.map Str.length)
def spLSum (K : PySem.W.Frag) : Sp := fun vs H Q _ => ∃ (a : Addr) (ws : List Str), vs = [.ref a] ∧ (SqL K H a (ws.map V.str) ∨ SqT K H a (ws.map V.str)) ∧ ws.length ≤ 100000 ∧ (∀ z ∈ ws, z.length ≤ 60) ∧ ∀ H' p, Same H H' → H p = none → H' p = some (.lst [.int (rOd (sW ws) ((2 ^ 60 : Nat) : Int)), .int (rUd (sW ws) ((2 ^ 60 : Nat) : Int))]) → Q (.ref p) H'
section
variable {P : Program} {w : World} {K : PySem.W.Frag} {mg : Str → Option Value} {base : Heap} {C_Share : Addr}
theorem ok_law_sum {f : Addr} {fd : FuncData} (F : Fun K "_law_sum" "_law_sum" s_law_sum f fd) (T : Txt K mg C_Share) : FnOk P w K mg base CX0 1 f fd ["words"] (spLSum K) := by
  refine F.ok sc_law_sum (fun vs H Q E h => ?_) (fun cdv A outer s H vs Q E hr h => ?_)
  · obtain ⟨a, ws, rfl, _⟩ := h
    rfl
  · obtain ⟨a, ws, rfl, hS, hlen, hz, q⟩ := h
    refine ⟨_, (pss_cons (ps_set (i := 1) sc_law_sum.nd rfl (by first | exact Or.inl rfl | exact Or.inr rfl) (pe_callB (cr_sum rfl) (by rfl) T.b_sum (by decide +kernel) (pa_cons (pe_lc (own := [("word", 2)]) rfl sc_law_sum.nd (pi_seqJ (pv 0)) (blkOk_by (own := [("word", 2)]) (N := ["words", "over", "word", "under", "k"]) (sc := defScope s_law_sum) (by decide +kernel)) (fun _ _ _ _ _ => (pg_name (i := 2) sc_law_sum.nd rfl (by first | exact Or.inl rfl | exact Or.inr rfl))) (fun _ _ _ _ _ => pts_nil) (fun _ _ _ _ _ => (pe_op op_shlW pe_int (pe_op op_sub pe_int (pe_callB call_len_str (by rfl) T.b_len (by decide +kernel) (pa_cons (pv 2) pa_nil)))))) pa_nil)))
    (pss_cons (ps_set (i := 3) sc_law_sum.nd rfl (by first | exact Or.inl rfl | exact Or.inr rfl) (pe_op op_shlW pe_int pe_int))
    (pss_cons (ps_for PassesOwn.never rfl (pi_range1 (by rfl) T.b_range (pa_cons pe_int pa_nil)) (pg_name (i := 4) sc_law_sum.nd rfl (by first | exact Or.inl rfl | exact Or.inr rfl))
      (pss_one (ps_if (pt_cmpR op_eq (pe_op op_mod (pe_callTy call_int1 (by rfl) T.b_int (by decide +kernel) (pa_cons (pv 1) pa_nil)) pe_int) pe_int (nomark _))
          (pss_cons (ps_set (i := 1) sc_law_sum.nd rfl (by first | exact Or.inl rfl | exact Or.inr rfl) (pe_op op_fdiv (pv 1) pe_int))
            (pss_one (ps_set (i := 3) sc_law_sum.nd rfl (by first | exact Or.inl rfl | exact Or.inr rfl) (pe_op op_fdiv (pv 3) pe_int))))
          pss_nil)))
    (pss_one (ps_ret (pe_lst (pa_cons (pv 1) (pa_cons (pv 3) pa_nil)))))))), ?_⟩
    refine ⟨_, rfl, a, _, rfl, hS, fun J S LS sJ => fun D hD => lc_J LS (fun i H' => Same H H' ∧ H' D = some (.lst ((((ws.map Str.length).take i).map fun n : Nat => (1 : Int) * 2 ^ ((60 : Int) - (n : Int)).toNat).map V.int))) ⟨same_upd hD, upd_same⟩ (fun i H' _ h => LS.mono _ _ h.1 sJ) ?_ ?_⟩
    · rintro i x H' hi ⟨sm, eD⟩
      obtain ⟨z, hi', rfl⟩ : ∃ z, ws[i]? = some z ∧ V.str z = x := by
        rw [List.getElem?_map] at hi
        cases e : ws[i]? with
        | none => rw [e] at hi; cases hi
        | some n => rw [e] at hi; exact ⟨n, rfl, Option.some.inj hi⟩
      have hil := (List.getElem?_eq_some_iff.mp hi').1
      have hzl := hz z (List.mem_of_getElem? hi')
      refine ⟨rfl, iteT (B := Same H H' ∧ H' D = some (.lst ((((ws.map Str.length).take (i + 1)).map fun n : Nat => (1 : Int) * 2 ^ ((60 : Int) - (n : Int)).toNat).map V.int))) ?_⟩
      refine ⟨_, rfl, z, rfl, szle (Nat.le_trans hzl (by decide)), _, _, rfl, rfl, _, _, rfl, rfl, ⟨by omega, by rw [show Builtin.Int.intBits 1 = 1 by decide]; omega⟩, _, eD, szl (by rw [List.length_map, List.length_map, List.length_take, List.length_map]; omega), same_out sm hD, ?_⟩
      rw [upd_same, List.take_succ, List.getElem?_map, hi', List.map_append, List.map_append]
      rfl
    · rintro H' ⟨sm, eD⟩
      have e : ((ws.map Str.length).take (ws.map V.str).length) = ws.map Str.length := by rw [List.length_map, List.take_of_length_le (by rw [List.length_map]; exact Nat.le_refl _)]
      rw [e] at eD
      have esum := hs_sum 60 (ws.map Str.length) fun n hn => by
        obtain ⟨z, hz', rfl⟩ := List.mem_map.mp hn
        exact hz z hz'
      refine ⟨D, _, rfl, SqL.of eD, ?_⟩
      rw [show (((ws.map Str.length).map fun n : Nat => (1 : Int) * 2 ^ ((60 : Int) - (n : Int)).toNat).sum) = ((sW ws : Nat) : Int) from esum]
      refine ⟨_, _, rfl, rfl, ⟨by decide, by decide⟩, ?_⟩
      refine ⟨60, rfl, by decide, by decide, for_range (n := 60) (fun k σ H2 => ∃ (o j : Nat) (u : Int) (v4 : Option V), σ = [some (.ref a), some (.int (o : Nat)), none, some (.int u), v4] ∧ H2 = H' ∧ u = ((2 ^ j : Nat) : Int) ∧ j ≤ 60 ∧ rOd (o : Nat) ((2 ^ j : Nat) : Int) = rOd (sW ws) ((2 ^ 60 : Nat) : Int) ∧ rUd (o : Nat) ((2 ^ j : Nat) : Int) = rUd (sW ws) ((2 ^ 60 : Nat) : Int) ∧ (o % 2 = 1 ∨ j + k = 60))
        ⟨sW ws, 60, _, none, rfl, rfl, by decide, Nat.le_refl _, rfl, rfl, .inr rfl⟩ ?_ ?_⟩
      · rintro k σ H2 hk ⟨o, j, u, v4, rfl, rfl, hu, hj, r1, r2, hd⟩
        refine ⟨_, rfl, .inl ⟨_, rfl, _, _, rfl, rfl, (by show (0 : Int) < 2; decide), rfl, _, rfl, ite2 (fun h => ?_) (fun h => ?_)⟩⟩
        · have he : o % 2 = 0 := by
            have := V.int.inj (of_decide_eq_true h)
            omega
          obtain ⟨j', rfl⟩ : ∃ j', j = j' + 1 := ⟨j - 1, by omega⟩
          refine ⟨_, rfl, _, _, rfl, rfl, ⟨by decide, by decide⟩, _, rfl, _, _, rfl, rfl, ⟨by decide, by decide⟩, ?_⟩
          have rh := red_half (j := j') he
          refine ⟨o / 2, j', u / 2, _, rfl, rfl, ?_, by omega, by rw [← rh.1]; exact r1, by rw [← rh.2]; exact r2, .inr (by omega)⟩
          rw [hu, Nat.pow_succ]
          omega
        · have he : o % 2 = 1 := by
            have : ¬ ((o : Int) % 2 = 0) := fun e => h (decide_eq_true (congrArg V.int e))
            omega
          exact ⟨o, j, u, _, rfl, rfl, hu, hj, r1, r2, .inl he⟩
      · rintro σ H2 ⟨o, j, u, v4, rfl, rfl, hu, hj, r1, r2, hd⟩
        have fin : rOd (sW ws) ((2 ^ 60 : Nat) : Int) = (o : Int) ∧ rUd (sW ws) ((2 ^ 60 : Nat) : Int) = u := by
          rw [← r1, ← r2, hu]
          rcases hd with hd | hd
          · exact red_odd j hd
          · obtain rfl : j = 0 := by omega
            exact ⟨rOd_one _, rUd_one _⟩
        refine ⟨_, rfl, _, rfl, szle (by show 2 ≤ 16777216; decide), fun p hp => ?_⟩
        exact q _ p (sm.trans (same_upd hp)) (sm.free hp) (by rw [upd_same, fin.1, fin.2])
end

/-! ### copies of things, and whether two are the same -/
section
variable {P : Program} {w : World} {K : PySem.W.Frag} {mg : Str → Option Value} {base : Heap} {C_Share : Addr}
theorem ok_law_same1 {n : Nat} {f : Addr} {fd : FuncData} (F : Fun K "_law_same" "_law_same" s_law_same f fd) (T : Txt K mg C_Share) (c_law_same : Cal P w K mg base n "_law_same" (spSame K n)) : FnOk P w K mg base CX0 (n + 1) f fd ["told", "due"] (spSame K (n + 1)) := by
  refine F.ok sc_law_same (fun vs H Q E h => ?_) (fun cdv A outer s H vs Q E hr h => ?_)
  · obtain ⟨x, y, d, rfl, _⟩ := h
    rfl
  · obtain ⟨x, y, d, rfl, ok, hx, hy, q⟩ := h
    refine ⟨_, (pss_cons (ps_if (pt_cmpR op_isN (pv 1) pe_non (nomark _))
      (pss_one (ps_ret (pe_cmpR op_isN (pv 0) pe_non (nomark _))))
      pss_nil)
    (pss_cons (ps_if (pt_cmpR op_isB (pv 1) pe_bl (nomark _))
      (pss_one (ps_ret (pe_cmpR op_isB (pv 0) pe_bl (nomark _))))
      pss_nil)
    (pss_cons (ps_if (pt_cmpR op_isB (pv 1) pe_bl (nomark _))
      (pss_one (ps_ret (pe_cmpR op_isB (pv 0) pe_bl (nomark _))))
      pss_nil)
    (pss_cons (ps_if (pt_val (pe_callB call_isi (by rfl) T.b_isinstance (by decide +kernel) (pa_cons (pv 1) (pa_cons (pe_bltn (v := .ty "str") (by rfl) T.b_str (by decide +kernel) rfl) pa_nil))))
      (pss_one (ps_ret (pe_and (pe_callB call_isi (by rfl) T.b_isinstance (by decide +kernel) (pa_cons (pv 0) (pa_cons (pe_bltn (v := .ty "str") (by rfl) T.b_str (by decide +kernel) rfl) pa_nil))) (pe_one (pe_cmpR op_eq (pv 0) (pv 1) (nomark _))))))
      pss_nil)
    (pss_cons (ps_if (pt_val (pe_callB call_isi (by rfl) T.b_isinstance (by decide +kernel) (pa_cons (pv 1) (pa_cons (pe_bltn (v := .ty "int") (by rfl) T.b_int (by decide +kernel) rfl) pa_nil))))
      (pss_one (ps_ret (pe_and (pe_callB call_isi (by rfl) T.b_isinstance (by decide +kernel) (pa_cons (pv 0) (pa_cons (pe_bltn (v := .ty "int") (by rfl) T.b_int (by decide +kernel) rfl) pa_nil))) (pe_and (pe_not (pe_callB call_isi (by rfl) T.b_isinstance (by decide +kernel) (pa_cons (pv 0) (pa_cons (pe_bltn (v := .ty "bool") (by rfl) T.b_bool (by decide +kernel) rfl) pa_nil)))) (pe_one (pe_cmpR op_eq (pv 0) (pv 1) (nomark _)))))))
      pss_nil)
    (pss_cons (ps_if (PW.pt (pw_and (pt_val (pe_callB call_isi (by rfl) T.b_isinstance (by decide +kernel) (pa_cons (pv 1) (pa_cons (pe_bltn (v := .ty "tuple") (by rfl) T.b_tuple (by decide +kernel) rfl) pa_nil)))) (pw_and1 (pt_not (pt_val (pe_callB call_isi (by rfl) T.b_isinstance (by decide +kernel) (pa_cons (pv 0) (pa_cons (pe_bltn (v := .ty "tuple") (by rfl) T.b_tuple (by decide +kernel) rfl) pa_nil))))))))
      (pss_one (ps_ret pe_bl))
      pss_nil)
    (pss_cons (ps_if (PW.pt (pw_and (pt_val (pe_callB call_isi (by rfl) T.b_isinstance (by decide +kernel) (pa_cons (pv 1) (pa_cons (pe_bltn (v := .ty "list") (by rfl) T.b_list (by decide +kernel) rfl) pa_nil)))) (pw_and1 (pt_not (pt_val (pe_callB call_isi (by rfl) T.b_isinstance (by decide +kernel) (pa_cons (pv 0) (pa_cons (pe_bltn (v := .ty "list") (by rfl) T.b_list (by decide +kernel) rfl) pa_nil))))))))
      (pss_one (ps_ret pe_bl))
      pss_nil)
    (pss_cons (ps_if (pt_cmpR op_ne (pe_callB call_len_seq (by rfl) T.b_len PySem.boot_len (pa_cons (pv 0) pa_nil)) (pe_callB call_len_seq (by rfl) T.b_len PySem.boot_len (pa_cons (pv 1) pa_nil)) (nomark _))
      (pss_one (ps_ret pe_bl))
      pss_nil)
    (pss_cons (ps_for PassesOwn.never rfl (pi_range1 (by rfl) T.b_range (pa_cons (pe_callB call_len_seq (by rfl) T.b_len PySem.boot_len (pa_cons (pv 1) pa_nil)) pa_nil)) (pg_name (i := 2) sc_law_same.nd rfl (by first | exact Or.inl rfl | exact Or.inr rfl))
      (pss_one (ps_if (pt_not (pt_val (pe_c c_law_same hr (by omega) (by rfl) (pa_cons (pe_ix ix_seq (pv 0) (pv 2) (fun _ _ => rfl)) (pa_cons (pe_ix ix_seq (pv 1) (pv 2) (fun _ _ => rfl)) pa_nil)))))
          (pss_one (ps_ret pe_bl))
          pss_nil)))
    (pss_one (ps_ret pe_bl))))))))))), ?_⟩
    have nn : ∀ v e, Dp K H v e → e ≠ .none → decide (v = .non) = false := fun v e h he => by cases h <;> simp_all
    have nb : ∀ v e b, Dp K H v e → e ≠ .bool b → decide (v = .bl b) = false := fun v e b h he => by cases h <;> simp_all
    -- None
    by_cases h0 : d = .none
    · subst h0
      cases hx
      cases hy
      exact ⟨_, rfl, rfl, _, rfl, iteT ⟨_, rfl, rfl, q⟩⟩
    refine ⟨_, rfl, rfl, _, rfl, ?_⟩
    rw [nn y d hy h0]
    refine iteF ?_
    by_cases h1 : d = .bool true
    · subst h1
      cases hx
      cases hy
      exact ⟨_, rfl, _, rfl, _, rfl, iteT ⟨_, rfl, _, rfl, q⟩⟩
    refine ⟨_, rfl, _, rfl, _, rfl, ?_⟩
    rw [nb y d true hy h1]
    refine iteF ?_
    by_cases h2 : d = .bool false
    · subst h2
      cases hx
      cases hy
      exact ⟨_, rfl, _, rfl, _, rfl, iteT ⟨_, rfl, _, rfl, q⟩⟩
    refine ⟨_, rfl, _, rfl, _, rfl, ?_⟩
    rw [nb y d false hy h2]
    refine iteF ?_
    have tx := ty_dp hx
    have ty := ty_dp hy
    cases d with
    | none => exact absurd rfl h0
    | bool b => cases b <;> simp at h1 h2
    | dict kvs => cases hx
    | str z =>
      cases hx
      cases hy
      refine ⟨_, rfl, _, _, _, _, _, rfl, .ty _, .base (.str z), kit_ty (r := true) (by decide), _, rfl, iteT ?_⟩
      refine ⟨_, rfl, _, _, _, _, _, rfl, .ty _, .base (.str z), kit_ty (r := true) (by decide), _, rfl, iteT ?_⟩
      rw [← show decide (V.str z = V.str z) = true by simp] at q
      exact ⟨_, rfl, _, rfl, rfl, q⟩
    | int z =>
      cases hx
      cases hy
      refine ⟨_, rfl, _, _, _, _, _, rfl, .ty _, .base (.int z), kit_ty (r := false) (by decide), _, rfl, iteF ?_⟩
      refine ⟨_, rfl, _, _, _, _, _, rfl, .ty _, .base (.int z), kit_ty (r := true) (by decide), _, rfl, iteT ?_⟩
      refine ⟨_, rfl, _, _, _, _, _, rfl, .ty _, .base (.int z), kit_ty (r := true) (by decide), _, rfl, iteT ?_⟩
      refine ⟨_, rfl, _, _, _, _, _, rfl, .ty _, .base (.int z), kit_ty (r := false) (by decide), _, rfl, _, rfl, iteT ?_⟩
      rw [← show decide (V.int z = V.int z) = true by simp] at q
      exact ⟨_, rfl, _, rfl, rfl, q⟩
    | list ds =>
      cases hx with
      | lst sx ax =>
      cases hy with
      | lst sy ay =>
      rename_i px xs py ys
      obtain ⟨lz, hall⟩ := okD_seq ok
      have lx := DpAll.len ax
      have ly := DpAll.len ay
      have tx := ty_seq sx
      have ty := ty_seq sy
      refine ⟨_, rfl, _, _, _, _, _, rfl, .ty _, ty, kit_ty (r := false) (by decide), _, rfl, iteF ?_⟩
      refine ⟨_, rfl, _, _, _, _, _, rfl, .ty _, ty, kit_ty (r := false) (by decide), _, rfl, iteF ?_⟩
      refine ⟨_, rfl, _, _, _, _, _, rfl, .ty _, ty, kit_ty (r := false) (by decide), _, rfl, iteF (iteF ?_)⟩
      refine ⟨_, rfl, _, _, _, _, _, rfl, .ty _, ty, kit_ty (r := true) (by decide), _, rfl, iteT ⟨_, rfl, _, _, _, _, _, rfl, .ty _, tx, kit_ty (r := true) (by decide), _, rfl, iteF ?_⟩⟩
      refine ⟨_, rfl, px, xs, rfl, .inl sx, _, rfl, py, ys, rfl, .inl sy, rfl, _, rfl, ?_⟩
      rw [show (!decide (V.int (xs.length : Int) = V.int (ys.length : Int))) = false by rw [lx, ly]; simp]
      refine iteF ?_
      refine ⟨_, rfl, py, ys, rfl, .inl sy, ys.length, rfl, by omega, by omega, for_range (n := ys.length) (fun i σ H' => ∃ v, σ = [some (.ref px), some (.ref py), v] ∧ H' = H) ⟨_, rfl, rfl⟩ ?_ ?_⟩
      · rintro i σ H' hi ⟨v, rfl, rfl⟩
        have hd : ds[i]? = some ds[i] := List.getElem?_eq_getElem (by omega)
        obtain ⟨v1, e1, d1⟩ := DpAll.get ax hd
        obtain ⟨v2, e2, d2⟩ := DpAll.get ay hd
        refine ⟨_, rfl, _, rfl, .inl ⟨px, _, _, _, rfl, rfl, sx, at_of (j := i) (by omega) e1, _, rfl, _, rfl, .inl ⟨py, _, _, _, rfl, rfl, sy, at_of (j := i) (by omega) e2, ?_⟩⟩⟩
        exact ⟨_, _, ds[i], rfl, hall _ (List.mem_of_getElem? hd), d1, d2, _, rfl, iteF ⟨_, rfl, rfl⟩⟩
      · rintro σ H' ⟨v, rfl, rfl⟩
        exact q
    | tuple ds =>
      cases hx with
      | tup sx ax =>
      cases hy with
      | tup sy ay =>
      rename_i px xs py ys
      obtain ⟨lz, hall⟩ := okD_seq ok
      have lx := DpAll.len ax
      have ly := DpAll.len ay
      have tx := ty_tup sx
      have ty := ty_tup sy
      refine ⟨_, rfl, _, _, _, _, _, rfl, .ty _, ty, kit_ty (r := false) (by decide), _, rfl, iteF ?_⟩
      refine ⟨_, rfl, _, _, _, _, _, rfl, .ty _, ty, kit_ty (r := false) (by decide), _, rfl, iteF ?_⟩
      refine ⟨_, rfl, _, _, _, _, _, rfl, .ty _, ty, kit_ty (r := true) (by decide), _, rfl, iteT ⟨_, rfl, _, _, _, _, _, rfl, .ty _, tx, kit_ty (r := true) (by decide), _, rfl, iteF ?_⟩⟩
      refine ⟨_, rfl, _, _, _, _, _, rfl, .ty _, ty, kit_ty (r := false) (by decide), _, rfl, iteF (iteF ?_)⟩
      refine ⟨_, rfl, px, xs, rfl, .inr sx, _, rfl, py, ys, rfl, .inr sy, rfl, _, rfl, ?_⟩
      rw [show (!decide (V.int (xs.length : Int) = V.int (ys.length : Int))) = false by rw [lx, ly]; simp]
      refine iteF ?_
      refine ⟨_, rfl, py, ys, rfl, .inr sy, ys.length, rfl, by omega, by omega, for_range (n := ys.length) (fun i σ H' => ∃ v, σ = [some (.ref px), some (.ref py), v] ∧ H' = H) ⟨_, rfl, rfl⟩ ?_ ?_⟩
      · rintro i σ H' hi ⟨v, rfl, rfl⟩
        have hd : ds[i]? = some ds[i] := List.getElem?_eq_getElem (by omega)
        obtain ⟨v1, e1, d1⟩ := DpAll.get ax hd
        obtain ⟨v2, e2, d2⟩ := DpAll.get ay hd
        refine ⟨_, rfl, _, rfl, .inr (.inl ⟨px, _, _, _, rfl, rfl, sx, at_of (j := i) (by omega) e1, _, rfl, _, rfl, .inr (.inl ⟨py, _, _, _, rfl, rfl, sy, at_of (j := i) (by omega) e2, ?_⟩)⟩)⟩
        exact ⟨_, _, ds[i], rfl, hall _ (List.mem_of_getElem? hd), d1, d2, _, rfl, iteF ⟨_, rfl, rfl⟩⟩
      · rintro σ H' ⟨v, rfl, rfl⟩
        exact q
end
section
variable {P : Program} {w : World} {K : PySem.W.Frag} {mg : Str → Option Value} {base : Heap} {C_Share : Addr}
theorem ok_law_copy1 {n : Nat} {f : Addr} {fd : FuncData} (F : Fun K "_law_copy" "_law_copy" s_law_copy f fd) (T : Txt K mg C_Share) (c_law_copy : Cal P w K mg base n "_law_copy" (spCopy K n)) : FnOk P w K mg base CX0 (n + 1) f fd ["thing"] (spCopy K (n + 1)) := by
  refine F.ok sc_law_copy (fun vs H Q E h => ?_) (fun cdv A outer s H vs Q E hr h => ?_)
  · obtain ⟨x, d, rfl, _⟩ := h
    rfl
  · obtain ⟨x, d, rfl, ok, hx, q⟩ := h
    refine ⟨_, (pss_cons (ps_if (pt_val (pe_callB call_isi (by rfl) T.b_isinstance (by decide +kernel) (pa_cons (pv 0) (pa_cons (pe_bltn (v := .ty "tuple") (by rfl) T.b_tuple (by decide +kernel) rfl) pa_nil))))
      (pss_one (ps_ret (pe_callTy call_tuple_of (by rfl) T.b_tuple (by decide +kernel) (pa_cons (pe_lc (own := [("part", 1)]) rfl sc_law_copy.nd (pi_tup (pv 0)) (blkOk_by (own := [("part", 1)]) (N := ["thing", "part"]) (sc := defScope s_law_copy) (by decide +kernel)) (fun _ _ _ _ _ => (pg_name (i := 1) sc_law_copy.nd rfl (by first | exact Or.inl rfl | exact Or.inr rfl))) (fun _ _ _ _ _ => pts_nil) (fun _ _ _ _ _ => (pe_c c_law_copy hr (by omega) (by rfl) (pa_cons (pv 1) pa_nil)))) pa_nil))))
      pss_nil)
    (pss_cons (ps_if (pt_val (pe_callB call_isi (by rfl) T.b_isinstance (by decide +kernel) (pa_cons (pv 0) (pa_cons (pe_bltn (v := .ty "list") (by rfl) T.b_list (by decide +kernel) rfl) pa_nil))))
      (pss_one (ps_ret (pe_lc (own := [("part", 1)]) rfl sc_law_copy.nd (pi_list (pv 0)) (blkOk_by (own := [("part", 1)]) (N := ["thing", "part"]) (sc := defScope s_law_copy) (by decide +kernel)) (fun _ _ _ _ _ => (pg_name (i := 1) sc_law_copy.nd rfl (by first | exact Or.inl rfl | exact Or.inr rfl))) (fun _ _ _ _ _ => pts_nil) (fun _ _ _ _ _ => (pe_c c_law_copy hr (by omega) (by rfl) (pa_cons (pv 1) pa_nil))))))
      pss_nil)
    (pss_one (ps_ret (pv 0))))), ?_⟩
    have qs : ∀ N, Nw N H H → Dp K N x d → Q x H := fun N h1 h2 => q H x N (fun _ _ e => e) h1 h2
    cases d with
    | none =>
      cases hx
      exact ⟨_, rfl, _, _, _, _, _, rfl, .ty _, .base .non, kit_ty (r := false) (by decide), _, rfl, iteF ⟨_, rfl, _, _, _, _, _, rfl, .ty _, .base .non, kit_ty (r := false) (by decide), _, rfl, iteF ⟨_, rfl, qs _ Nw.nil .non⟩⟩⟩
    | bool b =>
      cases hx
      exact ⟨_, rfl, _, _, _, _, _, rfl, .ty _, .base (.bl b), kit_ty (r := false) (by decide), _, rfl, iteF ⟨_, rfl, _, _, _, _, _, rfl, .ty _, .base (.bl b), kit_ty (r := false) (by decide), _, rfl, iteF ⟨_, rfl, qs _ Nw.nil (.bl b)⟩⟩⟩
    | int b =>
      cases hx
      exact ⟨_, rfl, _, _, _, _, _, rfl, .ty _, .base (.int b), kit_ty (r := false) (by decide), _, rfl, iteF ⟨_, rfl, _, _, _, _, _, rfl, .ty _, .base (.int b), kit_ty (r := false) (by decide), _, rfl, iteF ⟨_, rfl, qs _ Nw.nil (.int b)⟩⟩⟩
    | str b =>
      cases hx
      exact ⟨_, rfl, _, _, _, _, _, rfl, .ty _, .base (.str b), kit_ty (r := false) (by decide), _, rfl, iteF ⟨_, rfl, _, _, _, _, _, rfl, .ty _, .base (.str b), kit_ty (r := false) (by decide), _, rfl, iteF ⟨_, rfl, qs _ Nw.nil (.str b)⟩⟩⟩
    | dict kvs => cases hx
    | tuple ds =>
      cases hx with
      | tup sx ax =>
      rename_i px xs
      obtain ⟨lz, hall⟩ := okD_seq ok
      have lx := DpAll.len ax
      refine ⟨_, rfl, _, _, _, _, _, rfl, .ty _, ty_tup sx, kit_ty (r := true) (by decide), _, rfl, iteT ?_⟩
      refine ⟨_, rfl, px, rfl, ⟨_, sx⟩, fun D hD => lc_tup (K := K) (a := px) (xs := xs) (fun i H' => ∃ zs N, Same H H' ∧ H' D = some (.lst zs) ∧ N D = none ∧ Nw N H H' ∧ DpAll K N zs (ds.take i)) ⟨[], fun _ => none, same_upd hD, upd_same, rfl, ⟨fun _ _ e => (by cases e), fun _ h => absurd rfl h⟩, .nil⟩ ?_ ?_ ?_⟩
      · rintro i H' _ ⟨zs, N, sm, _⟩
        exact sameT sm sx
      · rintro i v H' hi ⟨zs, N, sm, eD, nD, nw, az⟩
        obtain ⟨d, hd, dv⟩ := DpAll.get' ax hi
        have hi' := (List.getElem?_eq_some_iff.mp hd).1
        refine ⟨rfl, iteT (B := ∃ zs N, Same H H' ∧ H' D = some (.lst zs) ∧ N D = none ∧ Nw N H H' ∧ DpAll K N zs (ds.take (i + 1))) ?_⟩
        refine ⟨_, rfl, v, d, rfl, hall _ (List.mem_of_getElem? hd), Dp.mono sm d v dv, fun H2 v2 N2 s2 nw2 d2 => ?_⟩
        have lz' := DpAll.len az
        rw [List.length_take] at lz'
        have e2 := s2 _ _ eD
        have nD2 : N2 D = none := by
          cases e : N2 D with
          | none => rfl
          | some o =>
            have := nw2.new D (by rw [e]; exact fun z => by cases z)
            rw [eD] at this
            cases this
        have nD3 := mrg_none nD nD2
        have nw3 := nw.add nw2 sm s2
        have az3 := DpAll.snoc (Dp.mono (mrg_r (nw.disj nw2)) _ _ d2) (DpAll.mono (mrg_l (M := N2)) _ _ az)
        rw [show ds.take i ++ [d] = ds.take (i + 1) by rw [List.take_succ, hd]; rfl] at az3
        exact ⟨zs, e2, szl (by omega), zs ++ [v2], mrg N N2, same_out (sm.trans s2) hD, upd_same, nD3, nw3.out nD3, az3⟩
      · rintro H' ⟨zs, N, sm, eD, nD, nw, az⟩
        rw [List.take_of_length_le (by omega)] at az
        exact ⟨D, zs, rfl, .inl ⟨SqL.of eD, fun l hl => q _ _ _ (sm.trans (same_upd hl)) (nw.put sm hl) (.tup (SqT.of upd_same) (DpAll.mono (same_upd (nw.same.free hl)) _ _ az))⟩⟩
    | list ds =>
      cases hx with
      | lst sx ax =>
      rename_i px xs
      obtain ⟨lz, hall⟩ := okD_seq ok
      have lx := DpAll.len ax
      refine ⟨_, rfl, _, _, _, _, _, rfl, .ty _, ty_seq sx, kit_ty (r := false) (by decide), _, rfl, iteF ⟨_, rfl, _, _, _, _, _, rfl, .ty _, ty_seq sx, kit_ty (r := true) (by decide), _, rfl, iteT ?_⟩⟩
      refine ⟨_, rfl, px, rfl, ⟨_, sx⟩, fun D hD => lc_list (K := K) (a := px) (xs := xs) (fun i H' => ∃ zs N, Same H H' ∧ H' D = some (.lst zs) ∧ N D = none ∧ Nw N H H' ∧ DpAll K N zs (ds.take i)) ⟨[], fun _ => none, same_upd hD, upd_same, rfl, ⟨fun _ _ e => (by cases e), fun _ h => absurd rfl h⟩, .nil⟩ ?_ ?_ ?_⟩
      · rintro i H' _ ⟨zs, N, sm, _⟩
        exact sm.seq sx
      · rintro i v H' hi ⟨zs, N, sm, eD, nD, nw, az⟩
        obtain ⟨d, hd, dv⟩ := DpAll.get' ax hi
        have hi' := (List.getElem?_eq_some_iff.mp hd).1
        refine ⟨rfl, iteT (B := ∃ zs N, Same H H' ∧ H' D = some (.lst zs) ∧ N D = none ∧ Nw N H H' ∧ DpAll K N zs (ds.take (i + 1))) ?_⟩
        refine ⟨_, rfl, v, d, rfl, hall _ (List.mem_of_getElem? hd), Dp.mono sm d v dv, fun H2 v2 N2 s2 nw2 d2 => ?_⟩
        have lz' := DpAll.len az
        rw [List.length_take] at lz'
        have e2 := s2 _ _ eD
        have nD2 : N2 D = none := by
          cases e : N2 D with
          | none => rfl
          | some o =>
            have := nw2.new D (by rw [e]; exact fun z => by cases z)
            rw [eD] at this
            cases this
        have nD3 := mrg_none nD nD2
        have nw3 := nw.add nw2 sm s2
        have az3 := DpAll.snoc (Dp.mono (mrg_r (nw.disj nw2)) _ _ d2) (DpAll.mono (mrg_l (M := N2)) _ _ az)
        rw [show ds.take i ++ [d] = ds.take (i + 1) by rw [List.take_succ, hd]; rfl] at az3
        exact ⟨zs, e2, szl (by omega), zs ++ [v2], mrg N N2, same_out (sm.trans s2) hD, upd_same, nD3, nw3.out nD3, az3⟩
      · rintro H' ⟨zs, N, sm, eD, nD, nw, az⟩
        rw [List.take_of_length_le (by omega)] at az
        exact q _ _ _ sm (nw.own hD eD) (.lst (SqL.of upd_same) (DpAll.mono (same_upd nD) _ _ az))
end
section
variable {P : Program} {w : World} {K : PySem.W.Frag} {mg : Str → Option Value} {base : Heap} {C_Share : Addr}
theorem cal_law_same {f : Addr} {fd : FuncData} (F : Fun K "_law_same" "_law_same" s_law_same f fd) (T : Txt K mg C_Share) (hm : mg "_law_same" = some (.ref f)) (kp : PySem.W.keepIn K (.ref f) = true) (b : Binds K fd ["told", "due"] []) : ∀ n, Cal P w K mg base n "_law_same" (spSame K n)
  | 0 => ⟨_, _, _, ⟨fun _ _ _ _ ⟨_, _, _, _, z, _⟩ => (by cases z), fun _ _ _ _ _ _ _ _ _ _ _ _ _ ⟨_, _, _, _, z, _⟩ => (by cases z)⟩, hm, kp, b⟩
  | n + 1 => ⟨_, _, _, ok_law_same1 F T (cal_law_same F T hm kp b n), hm, kp, b⟩
theorem cal_law_copy {f : Addr} {fd : FuncData} (F : Fun K "_law_copy" "_law_copy" s_law_copy f fd) (T : Txt K mg C_Share) (hm : mg "_law_copy" = some (.ref f)) (kp : PySem.W.keepIn K (.ref f) = true) (b : Binds K fd ["thing"] []) : ∀ n, Cal P w K mg base n "_law_copy" (spCopy K n)
  | 0 => ⟨_, _, _, ⟨fun _ _ _ _ ⟨_, _, _, z, _⟩ => (by cases z), fun _ _ _ _ _ _ _ _ _ _ _ _ _ ⟨_, _, _, z, _⟩ => (by cases z)⟩, hm, kp, b⟩
  | n + 1 => ⟨_, _, _, ok_law_copy1 F T (cal_law_copy F T hm kp b n), hm, kp, b⟩
end

/-! ### things, as law k03 draws them -/
/-- a text is not long, a word of bits still less -/
def TxOk (z : Str) : Prop := z.length ≤ 450 ∧ (isB z = true → z.length ≤ 60)
theorem TxOk.of {z : Str} (h : z.length ≤ 60) : TxOk z := ⟨by omega, fun _ => h⟩
def spAnyInt : Sp := fun vs H Q _ => ∃ (B : Hp) (t : Addr) (c : Nat), vs = [.ref t] ∧ Tp B H t c ∧ c < 100000000 ∧ ∀ H' n, Tp B H' t (c + 12) → Q (.int n) H'
def spString : Sp := fun vs H Q _ => ∃ (B : Hp) (t : Addr) (c : Nat), vs = [.ref t] ∧ Tp B H t c ∧ c < 100000000 ∧ ∀ H' z, Tp B H' t (c + 12) → TxOk z → Q (.str z) H'
/-- a text is not long -/
def ElOk : PyData → Prop
  | .list ds => ∀ z, .str z ∈ ds → TxOk z
  | .tuple ds => ∀ z, .str z ∈ ds → TxOk z
  | _ => True
def S450 (d : PyData) : Prop := (∀ z, d = .str z → TxOk z) ∧ ElOk d
def spStranger (K : PySem.W.Frag) (m : Nat) : Sp := fun vs H Q _ => ∃ (B : Hp) (t : Addr) (c deep : Nat), vs = [.ref t, .int (deep : Int)] ∧ deep < m ∧ Tp B H t c ∧ c + 30 * 4 ^ deep < 100000000 ∧
  ∀ H' v d N, Tp (mrg B N) H' t (c + 30 * 4 ^ deep) → New N B → Dp K N v d → okD (deep + 2) d = true → S450 d → Q v H'
section
variable {P : Program} {w : World} {K : PySem.W.Frag} {mg : Str → Option Value} {base : Heap} {C_Share : Addr}
theorem ok_law_integer {f : Addr} {fd : FuncData} (F : Fun K "_law_integer" "_law_integer" s_law_integer f fd) (T : Txt K mg C_Share) (c_law_draw : Cal P w K mg base 1 "_law_draw" spDraw) : FnOk P w K mg base CX0 2 f fd ["tape"] spAnyInt := by
  refine F.ok sc_law_integer (fun vs H Q E h => ?_) (fun cdv A outer s H vs Q E hr h => ?_)
  · obtain ⟨B, t, c, rfl, _⟩ := h
    rfl
  · obtain ⟨B, t, c, rfl, TT, hc, q⟩ := h
    refine ⟨_, (pss_cons (ps_set (i := 1) sc_law_integer.nd rfl (by first | exact Or.inl rfl | exact Or.inr rfl) (pe_op op_sub (pe_c c_law_draw hr (by omega) (by rfl) (pa_cons (pv 0) (pa_cons pe_int pa_nil))) pe_int))
    (pss_cons (ps_if (pt_cmpR op_gt (pe_c c_law_draw hr (by omega) (by rfl) (pa_cons (pv 0) (pa_cons pe_int pa_nil))) pe_int (nomark _))
      (pss_one (ps_ret (pv 1)))
      pss_nil)
    (pss_cons (ps_set (i := 1) sc_law_integer.nd rfl (by first | exact Or.inl rfl | exact Or.inr rfl) (pe_op op_add (pe_c c_law_draw hr (by omega) (by rfl) (pa_cons (pv 0) (pa_cons pe_int pa_nil))) (pe_op op_pow pe_int pe_int)))
    (pss_cons (ps_for PassesOwn.never rfl (pi_range1 (by rfl) T.b_range (pa_cons (pe_c c_law_draw hr (by omega) (by rfl) (pa_cons (pv 0) (pa_cons pe_int pa_nil))) pa_nil)) (pg_name (i := 2) sc_law_integer.nd rfl (by first | exact Or.inl rfl | exact Or.inr rfl))
      (pss_one (ps_set (i := 1) sc_law_integer.nd rfl (by first | exact Or.inl rfl | exact Or.inr rfl) (pe_op op_mulW (pv 1) (pe_op op_add (pe_op op_pow pe_int pe_int) (pe_c c_law_draw hr (by omega) (by rfl) (pa_cons (pv 0) (pa_cons pe_int pa_nil))))))))
    (pss_one (ps_ret (pv 1))))))), ?_⟩
    have pb : ∀ d : Int, 0 ≤ d → d < 1000 → ((10 : Int) ^ (64 : Int).toNat + d).natAbs < 2 ^ 213 := fun d h0 h1 => by
      rw [show (64 : Int).toNat = 64 from rfl]
      omega
    refine ⟨_, rfl, B, t, c, 9, rfl, TT, by decide, by decide, by omega, fun H1 k T1 k0 k1 => ⟨_, _, rfl, rfl, ?_⟩⟩
    refine ⟨_, rfl, B, t, c + 1, 6, rfl, T1, by decide, by decide, by omega, fun H2 m T2 m0 m1 => ⟨_, _, rfl, rfl, _, rfl, ?_⟩⟩
    refine ite2 (fun _ => ?_) (fun _ => ?_)
    · exact ⟨_, rfl, q _ _ (T2.le (by omega))⟩
    · refine ⟨_, rfl, B, t, c + 2, 1000, rfl, T2, by decide, by decide, by omega, fun H3 x T3 x0 x1 => ⟨_, _, rfl, rfl, ⟨by decide, by decide, by decide⟩, _, _, rfl, rfl, ?_⟩⟩
      refine ⟨_, rfl, B, t, c + 3, 6, rfl, T3, by decide, by decide, by omega, fun H4 z T4 z0 z1 => ?_⟩
      obtain ⟨n, rfl⟩ := nat_of z0
      refine ⟨n, rfl, by omega, by omega, for_range (n := n) (fun i σ H' => ∃ (v : Option V) (x : Int), σ = [some (.ref t), some (.int x), v] ∧ Tp B H' t (c + 4 + i) ∧ x.natAbs < 2 ^ (214 * (i + 1)))
        ⟨_, _, rfl, T4, bits_le (a := 213) (by have := pb x x0 x1; rw [Int.add_comm]; exact this) (by omega)⟩ ?_ ?_⟩
      · rintro i σ H' hi ⟨v, x, rfl, T5, bx⟩
        refine ⟨_, rfl, _, _, rfl, rfl, ⟨by decide, by decide, by decide⟩, _, rfl, B, t, c + 4 + i, 1000, rfl, T5, by decide, by decide, by omega, fun H6 d2 T6 e0 e1 => ⟨_, _, rfl, rfl, ?_⟩⟩
        refine ⟨_, _, rfl, rfl, wide_mul bx (pb d2 e0 e1) (by omega) (by decide) (by omega), ?_⟩
        exact ⟨_, _, rfl, T6, bits_le (bits_mul bx (pb d2 e0 e1)) (by omega)⟩
      · rintro σ H' ⟨v, x, rfl, T5, bx⟩
        exact ⟨_, rfl, q _ _ (T5.le (by omega))⟩
theorem ok_law_string {f : Addr} {fd : FuncData} (F : Fun K "_law_string" "_law_string" s_law_string f fd) (T : Txt K mg C_Share) (c_law_draw : Cal P w K mg base 1 "_law_draw" spDraw) : FnOk P w K mg base CX0 2 f fd ["tape"] spString := by
  refine F.ok sc_law_string (fun vs H Q E h => ?_) (fun cdv A outer s H vs Q E hr h => ?_)
  · obtain ⟨B, t, c, rfl, _⟩ := h
    rfl
  · obtain ⟨B, t, c, rfl, TT, hc, q⟩ := h
    refine ⟨_, (pss_cons (ps_set (i := 1) sc_law_string.nd rfl (by first | exact Or.inl rfl | exact Or.inr rfl) pe_str)
    (pss_cons (ps_if (pt_cmpR op_eq (pe_c c_law_draw hr (by omega) (by rfl) (pa_cons (pv 0) (pa_cons pe_int pa_nil))) pe_int (nomark _))
      (pss_one (ps_ret (pe_op op_add_str (pe_op op_repS (pe_ix ix_str pe_str (pe_c c_law_draw hr (by omega) (by rfl) (pa_cons (pv 0) (pa_cons pe_int pa_nil))) (fun _ _ => rfl)) (pe_c c_law_draw hr (by omega) (by rfl) (pa_cons (pv 0) (pa_cons pe_int pa_nil)))) pe_str)))
      pss_nil)
    (pss_one (ps_ret (pe_join pe_str (pe_lc (own := [("k", 2)]) rfl sc_law_string.nd (pi_range1 (by rfl) T.b_range (pa_cons (pe_c c_law_draw hr (by omega) (by rfl) (pa_cons (pv 0) (pa_cons pe_int pa_nil))) pa_nil)) (blkOk_by (own := [("k", 2)]) (N := ["tape", "signs", "k"]) (sc := defScope s_law_string) (by decide +kernel)) (fun _ _ _ _ _ => (pg_name (i := 2) sc_law_string.nd rfl (by first | exact Or.inl rfl | exact Or.inr rfl))) (fun _ _ _ _ _ => pts_nil) (fun _ _ _ _ _ => (pe_ix ix_str (pv 1) (pe_c c_law_draw hr (by omega) (by rfl) (pa_cons (pv 0) (pa_cons pe_int pa_nil))) (fun _ _ => rfl))))))))), ?_⟩
    refine ⟨_, rfl, B, t, c, 12, rfl, TT, by decide, by decide, by omega, fun H1 k T1 k0 k1 => ⟨rfl, _, rfl, ?_⟩⟩
    refine ite2 (fun _ => ?_) (fun _ => ?_)
    · refine ⟨_, rfl, B, t, c + 1, 2, rfl, T1, by decide, by decide, by omega, fun H2 m T2 m0 m1 => ?_⟩
      obtain ⟨ch, hch⟩ := at_some (xs := (("01" : Str)).cps.toList) m0 (by rw [show (((("01" : Str)).cps.toList.length : Int)) = 2 from rfl]; exact m1)
      refine ⟨_, _, ch, rfl, rfl, szle (by decide), hch, ?_⟩
      refine ⟨_, rfl, B, t, c + 2, 399, rfl, T2, by decide, by decide, by omega, fun H3 l T3 l0 l1 => ?_⟩
      have len : (repS ⟨#[ch]⟩ l).length = l.toNat * 1 := repS_len _ _
      refine ⟨_, l, rfl, rfl, by omega, by omega, by show l.toNat * 1 ≤ 16777216; omega, _, _, rfl, rfl, ?_, q _ _ (T3.le (by omega)) ?_⟩
      · rw [len]
        exact szle (by show _ + 1 ≤ 16777216; omega)
      · refine ⟨?_, fun hb => ?_⟩
        · rw [str_app_len, len]
          show _ + 1 ≤ 450
          omega
        · have := isB_mem hb (c := 120) (by show 120 ∈ ((repS ⟨#[ch]⟩ l).cps ++ #[120]).toList; simp)
          omega
    · refine ⟨⟨_, rfl⟩, _, rfl, B, t, c + 1, 5, rfl, T1, by decide, by decide, by omega, fun H2 n T2 n0 n1 => ?_⟩
      obtain ⟨n, rfl⟩ := nat_of n0
      refine ⟨n, rfl, by omega, by omega, fun D hD => lc_range (lo := 0) (n := n) (fun i H' => ∃ cs : List Nat, Tp (upd B D (.lst ((cs.map chS).map V.str))) H' t (c + 2 + i) ∧ cs.length = i) ⟨[], T2.new hD, rfl⟩ ?_ ?_⟩
      · rintro i H' hi ⟨cs, T3, ly⟩
        refine ⟨rfl, iteT (B := ∃ cs : List Nat, Tp (upd B D (.lst ((cs.map chS).map V.str))) H' t (c + 2 + (i + 1)) ∧ cs.length = i + 1) ?_⟩
        refine ⟨_, rfl, _, rfl, _, t, c + 2 + i, 11, rfl, T3, by decide, by decide, by omega, fun H4 j T4 j0 j1 => ?_⟩
        obtain ⟨ch, hch⟩ := at_some (xs := (("01 01.2-ox\n" : Str)).cps.toList) j0 (by rw [show (((("01 01.2-ox\n" : Str)).cps.toList.length : Int)) = 11 from rfl]; exact j1)
        refine ⟨_, _, ch, rfl, rfl, szle (by decide), hch, _, T4.at upd_same, szl (by rw [List.length_map, List.length_map]; omega), cs ++ [ch], ?_, by simp [ly]⟩
        have T5 := T4.set (o' := .lst ((cs.map chS).map V.str ++ [V.str ⟨#[ch]⟩])) upd_same
        rw [upd_upd] at T5
        rw [List.map_append, List.map_append]
        exact T5
      · rintro H' ⟨cs, T3, ly⟩
        have hB : B D = none := T2.isn hD
        have len1 : ∀ xs : List Nat, ((xs.map chS).map (fun x => x.length)).sum = xs.length := fun xs => by
          induction xs with
          | nil => rfl
          | cons x r ih =>
            rw [List.map_cons, List.map_cons, List.sum_cons, ih]
            show 1 + r.length = r.length + 1
            omega
        refine ⟨_, D, cs.map chS, rfl, rfl, .inl (SqL.of (T3.at upd_same)), ?_, ?_⟩
        · show ((cs.map chS).map (fun x => x.length)).sum + (cs.map chS).length * 0 ≤ 16777216
          rw [len1]
          omega
        · rw [join_signs]
          refine q _ _ ((T3.shrink (same_upd hB)).le (by omega)) (.of ?_)
          show cs.toArray.size ≤ 60
          rw [List.size_toArray]
          omega
theorem ok_law_thing1 {m : Nat} {f : Addr} {fd : FuncData} (F : Fun K "_law_thing" "_law_thing" s_law_thing f fd) (T : Txt K mg C_Share) (c_law_draw : Cal P w K mg base 1 "_law_draw" spDraw) (c_law_integer : Cal P w K mg base 2 "_law_integer" spAnyInt) (c_law_string : Cal P w K mg base 2 "_law_string" spString)
    (c_law_thing : Cal P w K mg base (m + 2) "_law_thing" (spStranger K m)) : FnOk P w K mg base CX0 (m + 1 + 2) f fd ["tape", "deep"] (spStranger K (m + 1)) := by
  refine F.ok sc_law_thing (fun vs H Q E h => ?_) (fun cdv A outer s H vs Q E hr h => ?_)
  · obtain ⟨B, t, c, deep, rfl, _⟩ := h
    rfl
  · obtain ⟨B, t, c, deep, rfl, hm, TT, hc, q⟩ := h
    refine ⟨_, (pss_cons (ps_set (i := 2) sc_law_thing.nd rfl (by first | exact Or.inl rfl | exact Or.inr rfl) (pe_c c_law_draw hr (by omega) (by rfl) (pa_cons (pv 0) (pa_cons pe_int pa_nil))))
    (pss_cons (ps_if (pt_cmpR op_eq (pv 2) pe_int (nomark _))
      (pss_one (ps_ret pe_non))
      pss_nil)
    (pss_cons (ps_if (pt_cmpR op_eq (pv 2) pe_int (nomark _))
      (pss_one (ps_ret (pe_cmpR op_eq (pe_c c_law_draw hr (by omega) (by rfl) (pa_cons (pv 0) (pa_cons pe_int pa_nil))) pe_int (nomark _))))
      pss_nil)
    (pss_cons (ps_if (pt_cmpR op_eq (pv 2) pe_int (nomark _))
      (pss_one (ps_ret (pe_c c_law_integer hr (by omega) (by rfl) (pa_cons (pv 0) pa_nil))))
      pss_nil)
    (pss_cons (ps_if (PW.pt (pw_or (pt_cmpR op_lt (pv 2) pe_int (nomark _)) (pw_or1 (pt_cmpR op_lt (pv 1) pe_int (nomark _)))))
      (pss_one (ps_ret (pe_c c_law_string hr (by omega) (by rfl) (pa_cons (pv 0) pa_nil))))
      pss_nil)
    (pss_cons (ps_setLc (i := 3) (own := [("k", 4)]) rfl sc_law_thing.nd rfl rfl (sw_true rfl rfl rfl (by decide +kernel)) (pi_range1 (by rfl) T.b_range (pa_cons (pe_c c_law_draw hr (by omega) (by rfl) (pa_cons (pv 0) (pa_cons pe_int pa_nil))) pa_nil)) (blkOk_by (own := [("k", 4)]) (N := ["tape", "deep", "kind", "parts", "k"]) (sc := defScope s_law_thing) (by decide +kernel)) (fun _ _ _ _ _ => (pg_name (i := 4) sc_law_thing.nd rfl (by first | exact Or.inl rfl | exact Or.inr rfl))) (fun _ _ _ _ _ => pts_nil) (fun _ _ _ _ _ => (pe_c c_law_thing hr (by omega) (by rfl) (pa_cons (pv 0) (pa_cons (pe_op op_sub (pv 1) pe_int) pa_nil)))))
    (pss_cons (ps_if (pt_cmpR op_lt (pv 2) pe_int (nomark _))
      (pss_one (ps_ret (pe_callTy call_tuple_of (by rfl) T.b_tuple (by decide +kernel) (pa_cons (pv 3) pa_nil))))
      pss_nil)
    (pss_one (ps_ret (pv 3)))))))))), ?_⟩
    have p1 : 1 ≤ 4 ^ deep := Nat.pow_pos (by decide)
    have sc : ∀ H' v d, Tp B H' t (c + 30 * 4 ^ deep) → (∀ N, Dp K N v d) → okD (deep + 2) d = true → S450 d → Q v H' := fun H' v d T1 h1 h2 h3 => q H' v d _ T1.e New.nil (h1 _) h2 h3
    refine ⟨_, rfl, B, t, c, 9, rfl, TT, by decide, by decide, by omega, fun H1 k T1 k0 k1 => ?_⟩
    refine ⟨_, rfl, rfl, _, rfl, ?_⟩
    rw [show decide (V.int k = V.int 0) = decide (k = 0) by simp]
    refine ite2 (fun _ => ?_) (fun _ => ?_)
    · exact sc _ _ .none (T1.le (by omega)) (fun _ => .non) rfl ⟨fun z h => (by cases h), True.intro⟩
    refine ⟨_, rfl, rfl, _, rfl, ?_⟩
    rw [show decide (V.int k = V.int 1) = decide (k = 1) by simp]
    refine ite2 (fun _ => ?_) (fun _ => ?_)
    · exact ⟨_, rfl, B, t, c + 1, 2, rfl, T1, by decide, by decide, by omega, fun H2 b T2 b0 b1 => ⟨rfl, sc _ _ (.bool _) (T2.le (by omega)) (fun _ => .bl _) rfl ⟨fun z h => (by cases h), True.intro⟩⟩⟩
    refine ⟨_, rfl, rfl, _, rfl, ?_⟩
    rw [show decide (V.int k = V.int 2) = decide (k = 2) by simp]
    refine ite2 (fun _ => ?_) (fun _ => ?_)
    · exact ⟨_, rfl, B, t, c + 1, rfl, T1, by omega, fun H2 n T2 => sc _ _ (.int n) (T2.le (by omega)) (fun _ => .int _) rfl ⟨fun z h => (by cases h), True.intro⟩⟩
    refine ⟨_, rfl, _, _, rfl, rfl, _, rfl, ?_⟩
    have str_ : ∀ H' z, Tp B H' t (c + 1 + 12) → TxOk z → Q (.str z) H' := fun H' z T2 hz => sc _ _ (.str z) (T2.le (by omega)) (fun _ => .str _) rfl ⟨fun z' h => (by cases h; exact hz), True.intro⟩
    refine ite2 (fun _ => ?_) (fun hk3 => ?_)
    · exact iteT ⟨_, rfl, B, t, c + 1, rfl, T1, by omega, str_⟩
    refine ⟨_, rfl, _, _, rfl, rfl, _, rfl, ?_⟩
    refine ite2 (fun _ => ?_) (fun hd => ?_)
    · exact ⟨_, rfl, B, t, c + 1, rfl, T1, by omega, str_⟩
    obtain ⟨e, rfl⟩ : ∃ e, deep = e + 1 := ⟨deep - 1, by simp at hd; omega⟩
    have p3 : 4 ^ (e + 1) = 4 * 4 ^ e := Nat.pow_succ'
    have pe1 : 1 ≤ 4 ^ e := Nat.pow_pos (by decide)
    rw [p3] at hc q
    have qT : ∀ H' D zs ds N, Lst K B H' t (c + 30 * (4 * 4 ^ e)) D zs ds N → ds.length ≤ 10 → (∀ d ∈ ds, okD (e + 2) d = true ∧ S450 d) → Q (.ref D) H' ∧ ∀ l, H' l = none → Q (.ref l) (upd H' l (.tup zs)) := fun H' D zs ds N L hl h => by
      have hok := okD_mk (n := e + 2) (ds := ds) (by omega) fun d hd => (h d hd).1
      constructor
      · obtain ⟨l1, l2, l3⟩ := L.asList
        exact q _ _ _ _ l1 l2 l3 hok ⟨fun z h => (by cases h), fun z hz => (h _ hz).2.1 z rfl⟩
      · intro l hl0
        obtain ⟨M, l1, l2, l3⟩ := L.asTup hl0
        exact q _ _ _ _ l1 l2 l3 hok ⟨fun z h => (by cases h), fun z hz => (h _ hz).2.1 z rfl⟩
    -- parts
    refine ⟨_, rfl, B, t, c + 1, 4, rfl, T1, by decide, by decide, by omega, fun H2 n T2 n0 n1 => ?_⟩
    obtain ⟨n, rfl⟩ := nat_of n0
    refine ⟨n, rfl, by omega, by omega, fun D hD => lc_range (lo := 0) (n := n) (fun i H' => ∃ zs ds N, Lst K B H' t (c + 2 + i * (30 * 4 ^ e)) D zs ds N ∧ ds.length = i ∧ ∀ d ∈ ds, okD (e + 2) d = true ∧ S450 d) ⟨[], [], _, by simpa using Lst.ini T2 hD, rfl, fun d h => by cases h⟩ ?_ ?_⟩
    · rintro i H' hi ⟨zs, ds, N, L, ld, hd⟩
      have lz := DpAll.len L.all
      refine ⟨rfl, iteT (B := ∃ zs ds N, Lst K B H' t (c + 2 + (i + 1) * (30 * 4 ^ e)) D zs ds N ∧ ds.length = i + 1 ∧ ∀ d ∈ ds, okD (e + 2) d = true ∧ S450 d) ?_⟩
      have hi2 : i = 0 ∨ i = 1 ∨ i = 2 := by omega
      refine ⟨_, rfl, _, rfl, _, _, rfl, rfl, _, t, c + 2 + i * (30 * 4 ^ e), e, congrArg (fun z => [V.ref t, V.int z]) (by omega), by omega, L.tp, by rcases hi2 with rfl | rfl | rfl <;> omega, fun H4 v d M T4 nM dv okd sd => ?_⟩
      obtain ⟨hD4, L4⟩ := L.add T4 nM dv
      refine ⟨zs, hD4, szl (by omega), zs ++ [v], ds ++ [d], mrg N M, ?_, by simp [ld], fun x hx => ?_⟩
      · rw [show c + 2 + (i + 1) * (30 * 4 ^ e) = c + 2 + i * (30 * 4 ^ e) + 30 * 4 ^ e by rw [Nat.add_mul]; omega]
        exact L4
      · rcases List.mem_append.mp hx with h | h
        · exact hd x h
        · rw [List.mem_singleton.mp h]
          exact ⟨okd, sd⟩
    rintro H3 ⟨zs, ds, N, L, ld, hd⟩
    have hn : n = 0 ∨ n = 1 ∨ n = 2 ∨ n = 3 := by omega
    have L' : Lst K B H3 t (c + 30 * (4 * 4 ^ e)) D zs ds N := ⟨L.tp.le (by rcases hn with rfl | rfl | rfl | rfl <;> omega), L.new, L.bD, L.nD, L.all⟩
    obtain ⟨q1, q2⟩ := qT H3 D zs ds N L' (by omega) hd
    refine ⟨_, rfl, _, _, rfl, rfl, _, rfl, ?_⟩
    refine ite2 (fun _ => ?_) (fun _ => ?_)
    · exact ⟨_, rfl, D, zs, rfl, .inl ⟨SqL.of L'.hD, q2⟩⟩
    · exact ⟨_, rfl, q1⟩
theorem cal_law_thing {f : Addr} {fd : FuncData} (F : Fun K "_law_thing" "_law_thing" s_law_thing f fd) (T : Txt K mg C_Share) (hm : mg "_law_thing" = some (.ref f)) (kp : PySem.W.keepIn K (.ref f) = true) (b : Binds K fd ["tape", "deep"] []) (c_law_draw : Cal P w K mg base 1 "_law_draw" spDraw) (c_law_integer : Cal P w K mg base 2 "_law_integer" spAnyInt) (c_law_string : Cal P w K mg base 2 "_law_string" spString) : ∀ n, Cal P w K mg base (n + 2) "_law_thing" (spStranger K n)
  | 0 => ⟨_, _, _, ⟨fun _ _ _ _ ⟨_, _, _, _, _, z, _⟩ => absurd z (Nat.not_lt_zero _), fun _ _ _ _ _ _ _ _ _ _ _ _ _ ⟨_, _, _, _, _, z, _⟩ => absurd z (Nat.not_lt_zero _)⟩, hm, kp, b⟩
  | n + 1 => ⟨_, _, _, ok_law_thing1 F T c_law_draw c_law_integer c_law_string (cal_law_thing F T hm kp b c_law_draw c_law_integer c_law_string n), hm, kp, b⟩
end

/-! ### the law's own words; what is told -/
def spLIsW (K : PySem.W.Frag) : Sp := fun vs H Q _ => ∃ v d, vs = [v] ∧ Dp K H v d ∧ (∀ z, d = .str z → z.length ≤ 100000) ∧ ∀ H', Same H H' → Q (.bl (isW d)) H'
def spLAreW (K : PySem.W.Frag) : Sp := fun vs H Q _ => ∃ v d n, vs = [v] ∧ Dp K H v d ∧ okD n d = true ∧ shortD d ∧ ∀ H', Same H H' → Q (.bl (wordsD d)) H'
def spToldW (K : PySem.W.Frag) : Sp := fun vs H Q _ => ∃ v d b, vs = [v, .bl b] ∧ Dp K H v d ∧ (∀ z, d = .str z → z.length ≤ 100000) ∧ Q (.bl (isW d)) H
def spTC (K : PySem.W.Frag) : Sp := fun vs H Q _ => ∃ v d n b, vs = [v, .bl b] ∧ Dp K H v d ∧ okD n d = true ∧ shortD d ∧
  ((wordsD d = true ∧ (clash (wsD d) = none → ∀ H' p, Same H H' → H' p = some (.lst [.bl true, .non]) → Q (.ref p) H') ∧ (∀ i k, clash (wsD d) = some (i, k) → ∀ H' p r, Same H H' → H' r = some (.tup [.int (i : Nat), .int (k : Nat)]) → H' p = some (.lst [.bl true, .ref r]) → Q (.ref p) H')) ∨ (wordsD d = false ∧ ∀ H' p, Same H H' → H' p = some (.lst [.bl false, v]) → Q (.ref p) H'))
def spTS (K : PySem.W.Frag) (C : Addr) : Sp := fun vs H Q _ => ∃ v d n b, vs = [v, .bl b] ∧ Dp K H v d ∧ okD n d = true ∧ shortD d ∧
  ((wordsD d = true ∧ (∀ z ∈ wsD d, z.length ≤ 60) ∧ ∀ H' p x, Same H H' → Sh C H' x (rOd (hs 60 ((wsD d).map Str.length)) (2 ^ 60)) (rUd (hs 60 ((wsD d).map Str.length)) (2 ^ 60)) → H' p = some (.lst [.bl true, .ref x]) → Q (.ref p) H') ∨ (wordsD d = false ∧ ∀ H' p, Same H H' → H' p = some (.lst [.bl false, v]) → Q (.ref p) H'))
section
variable {P : Program} {w : World} {K : PySem.W.Frag} {mg : Str → Option Value} {base : Heap} {C_Share : Addr} {C_InvalidWords : Addr}
theorem ok_law_is_word {f : Addr} {fd : FuncData} (F : Fun K "_law_is_word" "_law_is_word" s_law_is_word f fd) (T : Txt K mg C_Share) : FnOk P w K mg base CX0 1 f fd ["value"] (spLIsW K) := by
  refine F.ok sc_law_is_word (fun vs H Q E h => ?_) (fun cdv A outer s H vs Q E hr h => ?_)
  · obtain ⟨v, d, rfl, _⟩ := h
    rfl
  · obtain ⟨v, d, rfl, hv, hz, q⟩ := h
    refine ⟨_, (pss_cons (ps_if (pt_not (pt_val (pe_callB call_isi (by rfl) T.b_isinstance (by decide +kernel) (pa_cons (pv 0) (pa_cons (pe_bltn (v := .ty "str") (by rfl) T.b_str (by decide +kernel) rfl) pa_nil)))))
      (pss_one (ps_ret pe_bl))
      pss_nil)
    (pss_cons (ps_for PassesOwn.never rfl (pi_str (pv 0)) (pg_name (i := 1) sc_law_is_word.nd rfl (by first | exact Or.inl rfl | exact Or.inr rfl))
      (pss_one (ps_if (pt_cmpR op_notIn_seq (pv 1) (pe_tup (pa_cons pe_str (pa_cons pe_str pa_nil))) (by rfl))
          (pss_one (ps_ret pe_bl))
          pss_nil)))
    (pss_one (ps_ret pe_bl)))), ?_⟩
    have no : isW d = false → Q (.bl false) H := fun h => by have := q H (fun _ _ e => e); rw [h] at this; exact this
    cases d with
    | none => cases hv; exact ⟨_, rfl, _, _, _, _, _, rfl, .ty _, .base .non, kit_ty (r := false) (by decide), _, rfl, iteT (no rfl)⟩
    | bool b => cases hv; exact ⟨_, rfl, _, _, _, _, _, rfl, .ty _, .base (.bl b), kit_ty (r := false) (by decide), _, rfl, iteT (no rfl)⟩
    | int b => cases hv; exact ⟨_, rfl, _, _, _, _, _, rfl, .ty _, .base (.int b), kit_ty (r := false) (by decide), _, rfl, iteT (no rfl)⟩
    | list b =>
      cases hv with
      | lst sx _ => exact ⟨_, rfl, _, _, _, _, _, rfl, .ty _, ty_seq sx, kit_ty (r := false) (by decide), _, rfl, iteT (no rfl)⟩
    | tuple b =>
      cases hv with
      | tup sx _ => exact ⟨_, rfl, _, _, _, _, _, rfl, .ty _, ty_tup sx, kit_ty (r := false) (by decide), _, rfl, iteT (no rfl)⟩
    | dict b => cases hv
    | str z =>
      cases hv
      refine ⟨_, rfl, _, _, _, _, _, rfl, .ty _, .base (.str z), kit_ty (r := true) (by decide), _, rfl, iteF ?_⟩
      have noH : isB z = false → ∀ H', Same H H' → Q (.bl false) H' := fun h H' s' => by have := q H' s'; rw [show isW (.str z) = isB z from rfl, h] at this; exact this
      refine ⟨_, rfl, z, rfl, for_J (likeS z) (fun i σ H' => ∃ v1 : Option V, σ = [some (.str z), v1] ∧ Same H H' ∧ (z.cps.toList.take i).all (("01" : Str)).cps.contains = true) ⟨none, rfl, fun _ _ e => e, rfl⟩ (fun _ _ _ _ _ => True.intro) ?_ ?_⟩
      · rintro i x σ H1 hx ⟨v1, rfl, sm, hb⟩
        obtain ⟨ch, hc, rfl⟩ := sgn_at hx
        have hc' : z.cps.toList[i]? = some ch := by rw [Array.getElem?_toList]; exact hc
        have e01 : (("01" : Str)).cps = #[48, 49] := by decide
        by_cases h : ch = 48 ∨ ch = 49
        · have hin : inV (V.str ⟨#[ch]⟩) [V.str "0", V.str "1"] = true := by
            rcases h with e | e <;> subst e <;> decide
          refine ⟨_, rfl, szle (by show 2 ≤ 16777216; decide), fun t ht => ⟨t, _, rfl, .inr (SqT.of upd_same), rfl, rfl, _, congrArg (fun b => V.bl (if true = true then !b else b)) hin, iteF ⟨_, rfl, sm.trans (same_upd ht), ?_⟩⟩⟩
          rw [List.take_succ, hc', List.all_append, hb]
          rcases h with e | e <;> subst e <;> rw [e01] <;> simp
        · have hin : inV (V.str ⟨#[ch]⟩) [V.str "0", V.str "1"] = false := by
            have h0 : ∀ a : Nat, ch ≠ a → eqV (V.str ⟨#[a]⟩) (V.str ⟨#[ch]⟩) = false := fun a ha => decide_eq_false (fun e => ha (by
              have := congrArg (fun s : Str => s.cps.toList) e
              exact (List.cons.inj this).1.symm))
            show (eqV (V.str ⟨#[48]⟩) (V.str ⟨#[ch]⟩) || (eqV (V.str ⟨#[49]⟩) (V.str ⟨#[ch]⟩) || false)) = false
            rw [h0 48 (fun e => h (.inl e)), h0 49 (fun e => h (.inr e))]
            rfl
          have hz' : isB z = false := by
            cases e : isB z with
            | false => rfl
            | true => exact absurd (isB_mem e (List.mem_of_getElem? hc')) h
          exact ⟨_, rfl, szle (by show 2 ≤ 16777216; decide), fun t ht => ⟨t, _, rfl, .inr (SqT.of upd_same), rfl, rfl, _, congrArg (fun b => V.bl (if true = true then !b else b)) hin, iteT (noH hz' _ (sm.trans (same_upd ht)))⟩⟩
      · rintro σ H1 ⟨v1, rfl, sm, hb⟩
        rw [sgnsV_len, List.take_of_length_le (by rw [show z.cps.toList.length = z.length from Array.length_toList]; exact Nat.le_refl _)] at hb
        have := q H1 sm
        rw [show isW (.str z) = true from hb] at this
        exact this
theorem ok_law_are_words {f : Addr} {fd : FuncData} (F : Fun K "_law_are_words" "_law_are_words" s_law_are_words f fd) (T : Txt K mg C_Share) (c_law_is_word : Cal P w K mg base 1 "_law_is_word" (spLIsW K)) : FnOk P w K mg base CX0 2 f fd ["value"] (spLAreW K) := by
  refine F.ok sc_law_are_words (fun vs H Q E h => ?_) (fun cdv A outer s H vs Q E hr h => ?_)
  · obtain ⟨v, d, n, rfl, _⟩ := h
    rfl
  · obtain ⟨v, d, n, rfl, hv, hok, hsh, q⟩ := h
    refine ⟨_, (pss_cons (ps_if (pt_not (pt_val (pe_callB call_isiT (by rfl) T.b_isinstance (by decide +kernel) (pa_cons (pv 0) (pa_cons (pe_tup (pa_cons (pe_bltn (v := .ty "list") (by rfl) T.b_list (by decide +kernel) rfl) (pa_cons (pe_bltn (v := .ty "tuple") (by rfl) T.b_tuple (by decide +kernel) rfl) pa_nil))) pa_nil)))))
      (pss_one (ps_ret pe_bl))
      pss_nil)
    (pss_cons (ps_for PassesOwn.never rfl (pi_seqJ (pv 0)) (pg_name (i := 1) sc_law_are_words.nd rfl (by first | exact Or.inl rfl | exact Or.inr rfl))
      (pss_one (ps_if (pt_not (pt_val (pe_c c_law_is_word hr (by omega) (by rfl) (pa_cons (pv 1) pa_nil))))
          (pss_one (ps_ret pe_bl))
          pss_nil)))
    (pss_one (ps_ret pe_bl)))), ?_⟩
    refine ⟨_, rfl, szle (by show 2 ≤ 16777216; decide), fun tp htp => ?_⟩
    have s1 := same_upd (o := .tup [.ty "list", .ty "tuple"]) htp
    have ty := ty_dp (Dp.mono s1 _ _ hv)
    have k2 : ∀ r1 r2, kitB (tn d) "list" = some r1 → kitB (tn d) "tuple" = some r2 → PySem.W.kitAny K (.type (tn d)) [.type "list", .type "tuple"] = some (r1 || r2) := fun r1 r2 h1 h2 =>
      kitAny_cons (kit_ty h1) (fun e => by subst e; exact kitAny_cons (kit_ty h2) (fun e => by subst e; rfl) (fun e => by subst e; rfl)) (fun e => by subst e; rfl)
    have loop : ∀ (a : Addr) (xs : List V) (ds : List PyData), v = .ref a → wordsD d = ds.all isW → (SqL K H a xs ∨ SqT K H a xs) → DpAll K H xs ds → (∀ z, .str z ∈ ds → z.length ≤ 100000) → tSeq (tFor (iSeqJ K (tVar 0)) (gName 1) (tIfS (tNot (tB (tCall (spLIsW K) [] E0 (tCons (tVar 1) tNil)))) (tRet (tC (V.bl false))) tNext)) (tRet (tC (V.bl true))) { nx := fun x H' => Q V.non H', rt := Q } (L2.start ["value", "part"] [v]) (upd H tp (.tup [.ty "list", .ty "tuple"])) := fun a xs ds e hw hS ax hz => by
      subst e
      have lx := DpAll.len ax
      have at_ : ∀ {H' : Hp}, Same H H' → SqL K H' a xs ∨ SqT K H' a xs := fun sm => hS.imp (fun z => sm.seq z) fun z => sameT sm z
      refine ⟨_, rfl, a, xs, rfl, at_ s1, fun J S LS sJ => for_J LS (fun i σ H' => ∃ v1 : Option V, σ = [some (.ref a), v1] ∧ Same (upd H tp (.tup [.ty "list", .ty "tuple"])) H' ∧ (ds.take i).all isW = true) ⟨none, rfl, fun _ _ e => e, rfl⟩ (fun i σ H' _ h => by obtain ⟨_, _, sm, _⟩ := h; exact LS.mono _ _ sm sJ) ?_ ?_⟩
      · rintro i x σ H1 hx ⟨v1, rfl, sm, hb⟩
        obtain ⟨e, he, dx⟩ := DpAll.get' ax hx
        refine ⟨_, rfl, x, e, rfl, Dp.mono (s1.trans sm) _ _ dx, (fun z hz' => hz z (hz' ▸ List.mem_of_getElem? he)), fun H2 s2 => ⟨_, rfl, ?_⟩⟩
        cases hw1 : isW e with
        | true =>
          refine iteF ⟨_, rfl, sm.trans s2, ?_⟩
          rw [List.take_succ, he, List.all_append, hb]
          show (true && (isW e && true)) = true
          rw [hw1]
          rfl
        | false =>
          have hf : wordsD d = false := by
            rw [hw]
            cases e2 : ds.all isW with
            | false => rfl
            | true => rw [List.all_eq_true.mp e2 e (List.mem_of_getElem? he)] at hw1; cases hw1
          have := q H2 (s1.trans (sm.trans s2))
          rw [hf] at this
          exact iteT this
      · rintro σ H1 ⟨v1, rfl, sm, hb⟩
        rw [List.take_of_length_le (by omega)] at hb
        have := q H1 (s1.trans sm)
        rw [hw, hb] at this
        exact this
    have qf : wordsD d = false → Q (.bl false) (upd H tp (.tup [.ty "list", .ty "tuple"])) := fun e => by have := q _ s1; rw [e] at this; exact this
    cases d with
    | none => exact ⟨v, tp, [.ty "list", .ty "tuple"], _, [.type "list", .type "tuple"], false, rfl, upd_same, .cons (.ty _) (.cons (.ty _) .nil), ty, k2 false false (by decide) (by decide), _, rfl, iteT (qf rfl)⟩
    | bool b => exact ⟨v, tp, [.ty "list", .ty "tuple"], _, [.type "list", .type "tuple"], false, rfl, upd_same, .cons (.ty _) (.cons (.ty _) .nil), ty, k2 false false (by show kitB "bool" _ = _; decide) (by show kitB "bool" _ = _; decide), _, rfl, iteT (qf rfl)⟩
    | int b => exact ⟨v, tp, [.ty "list", .ty "tuple"], _, [.type "list", .type "tuple"], false, rfl, upd_same, .cons (.ty _) (.cons (.ty _) .nil), ty, k2 false false (by show kitB "int" _ = _; decide) (by show kitB "int" _ = _; decide), _, rfl, iteT (qf rfl)⟩
    | str b => exact ⟨v, tp, [.ty "list", .ty "tuple"], _, [.type "list", .type "tuple"], false, rfl, upd_same, .cons (.ty _) (.cons (.ty _) .nil), ty, k2 false false (by show kitB "str" _ = _; decide) (by show kitB "str" _ = _; decide), _, rfl, iteT (qf rfl)⟩
    | dict b => cases hv
    | list ds =>
      cases hv with
      | lst sx ax => exact ⟨_, tp, [.ty "list", .ty "tuple"], _, [.type "list", .type "tuple"], true, rfl, upd_same, .cons (.ty _) (.cons (.ty _) .nil), ty, k2 true false (by show kitB "list" _ = _; decide) (by show kitB "list" _ = _; decide), _, rfl, iteF (loop _ _ ds rfl rfl (.inl sx) ax hsh)⟩
    | tuple ds =>
      cases hv with
      | tup sx ax => exact ⟨_, tp, [.ty "list", .ty "tuple"], _, [.type "list", .type "tuple"], true, rfl, upd_same, .cons (.ty _) (.cons (.ty _) .nil), ty, k2 false true (by show kitB "tuple" _ = _; decide) (by show kitB "tuple" _ = _; decide), _, rfl, iteF (loop _ _ ds rfl rfl (.inr sx) ax hsh)⟩
theorem ok_law_told_word {f : Addr} {fd : FuncData} (F : Fun K "_law_told_word" "_law_told_word" s_law_told_word f fd) (T : Txt K mg C_Share) (c_is_word : Cal P w K mg base 1 "is_word" (spIsWord K)) (ck_is_word_value : CalK P w K mg base 1 "is_word" 0 ["value"] (fun xs zs => xs ++ zs) (spIsWord K)) : FnOk P w K mg base CX0 2 f fd ["value", "by_name"] (spToldW K) := by
  refine F.ok sc_law_told_word (fun vs H Q E h => ?_) (fun cdv A outer s H vs Q E hr h => ?_)
  · obtain ⟨v, d, b, rfl, _⟩ := h
    rfl
  · obtain ⟨v, d, b, rfl, hv, hz, q⟩ := h
    refine ⟨_, (pss_cons (ps_if (pt_val (pv 1))
      (pss_one (ps_ret (pe_cK0 ck_is_word_value hr (by omega) (by rfl) (pk_cons (pv 0) pk_nil))))
      pss_nil)
    (pss_one (ps_ret (pe_c c_is_word hr (by omega) (by rfl) (pa_cons (pv 0) pa_nil))))), ?_⟩
    cases b
    · exact ⟨_, rfl, _, rfl, iteF ⟨_, rfl, v, d, rfl, hv, hz, q⟩⟩
    · exact ⟨_, rfl, _, rfl, iteT ⟨_, rfl, rfl, v, d, rfl, hv, hz, q⟩⟩
theorem ok_law_told_clash {f : Addr} {fd : FuncData} (F : Fun K "_law_told_clash" "_law_told_clash" s_law_told_clash f fd) (T : Txt K mg C_Share) (x_InvalidWords : XErr P K mg "InvalidWords" C_InvalidWords ["words"]) (c_first_clash : CalX P w K mg base 4 "first_clash" (spClash K C_InvalidWords)) (ck_first_clash_words : CalXK P w K mg base 4 "first_clash" 0 ["words"] (fun xs zs => xs ++ zs) (spClash K C_InvalidWords)) : FnOk P w K mg base CX0 5 f fd ["words", "by_name"] (spTC K) := by
  refine F.ok sc_law_told_clash (fun vs H Q E h => ?_) (fun cdv A outer s H vs Q E hr h => ?_)
  · obtain ⟨v, d, n, b, rfl, _⟩ := h
    rfl
  · obtain ⟨v, d, n, b, rfl, hv, hok, hsh, q⟩ := h
    refine ⟨_, (pss_one (L2N.ps_try_as (i := 2) (tb := fun W => (tSeq (tIfS (tB (tVar 1)) (tRet (tLst (tCons (tC (.bl true)) (tCons (tCallSK0 1 (spClash K C_InvalidWords) (fun xs zs => xs ++ zs) (WE W) (tCons (tVar 0) tNil)) tNil)))) tNext) (tRet (tLst (tCons (tC (.bl true)) (tCons (tCallS (spClash K C_InvalidWords) (WE W) (tCons (tVar 0) tNil)) tNil))))))
      (ts := fun a cls d => (tRet (tLst (tCons (tC (.bl false)) (tCons (tXf a cls d C_InvalidWords "words" (tVar 2)) tNil))))) rfl rfl sc_law_told_clash.nd rfl rfl ⟨rfl, by decide, .inl x_InvalidWords.gC⟩ takesN0
      (fun W pn xe tk pwn => (pss_cons (ps_if (pt_val (pv 1))
          (pss_one (ps_ret (pe_lst (pa_cons pe_bl (pa_cons (pe_xSK0 ck_first_clash_words hr (by omega) (by rfl) tk (pk_cons (pv 0) pk_nil)) pa_nil)))))
          pss_nil)
        (pss_one (ps_ret (pe_lst (pa_cons pe_bl (pa_cons (pe_xS c_first_clash hr (by omega) (by rfl) tk (pa_cons (pv 0) pa_nil)) pa_nil)))))))
      (fun a oe cls d pn hz hf => (pss_one (ps_ret (pe_lst (pa_cons pe_bl (pa_cons (pe_xf x_InvalidWords.xf (x_InvalidWords.no (by simp)) hz.zc hf (pv 2)) pa_nil)))))))), ?_⟩
    rcases q with ⟨hw, q1, q2⟩ | ⟨hw, q⟩
    · have A1 : clash (wsD d) = none → ∀ H', Same H H' → 2 ≤ sizeLine ∧ ∀ l, H' l = none → Q (.ref l) (upd H' l (.lst [.bl true, .non])) := fun e H' s' => ⟨szle (by decide), fun l hl => q1 e _ l (s'.trans (same_upd hl)) upd_same⟩
      have A2 : ∀ i k, clash (wsD d) = some (i, k) → ∀ H' r, Same H H' → H' r = some (.tup [.int (i : Nat), .int (k : Nat)]) → 2 ≤ sizeLine ∧ ∀ l, H' l = none → Q (.ref l) (upd H' l (.lst [.bl true, .ref r])) := fun i k e H' r s' hr' => ⟨szle (by decide), fun l hl => q2 i k e _ l r (s'.trans (same_upd hl)) (same_upd hl _ _ hr') upd_same⟩
      cases b
      · exact ⟨_, rfl, _, rfl, iteF ⟨_, rfl, v, d, n, rfl, hv, hok, hsh, .inl ⟨hw, A1, fun i k e H' r s' hr' => A2 i k e H' r s' hr'⟩⟩⟩
      · exact ⟨_, rfl, _, rfl, iteT ⟨_, rfl, rfl, v, d, n, rfl, hv, hok, hsh, .inl ⟨hw, A1, fun i k e H' r s' hr' => A2 i k e H' r s' hr'⟩⟩⟩
    · have B : ∀ H1 l, Same H H1 → H1 l = none → Q (.ref l) (upd H1 l (.lst [.bl false, v])) := fun H1 l s1 hl => q _ l (s1.trans (same_upd hl)) upd_same
      cases b
      · exact ⟨_, rfl, _, rfl, iteF ⟨_, rfl, v, d, n, rfl, hv, hok, hsh, .inr ⟨hw, fun H1 dd s1 hd => ⟨true, x_InvalidWords.te, fun _ z hz => ⟨_, rfl, rfl, rfl, dd, _, _, rfl, hd, rfl, szle (by show 2 ≤ 16777216; decide), fun l hl => B H1 l s1 hl⟩, fun z => by cases z⟩⟩⟩⟩
      · exact ⟨_, rfl, _, rfl, iteT ⟨_, rfl, rfl, v, d, n, rfl, hv, hok, hsh, .inr ⟨hw, fun H1 dd s1 hd => ⟨true, x_InvalidWords.te, fun _ z hz => ⟨_, rfl, rfl, rfl, dd, _, _, rfl, hd, rfl, szle (by show 2 ≤ 16777216; decide), fun l hl => B H1 l s1 hl⟩, fun z => by cases z⟩⟩⟩⟩
theorem ok_law_told_share {f : Addr} {fd : FuncData} (F : Fun K "_law_told_share" "_law_told_share" s_law_told_share f fd) (T : Txt K mg C_Share) (x_InvalidWords : XErr P K mg "InvalidWords" C_InvalidWords ["words"]) (c_share_of : CalX P w K mg base 4 "share_of" (spShareOf K C_Share C_InvalidWords)) (ck_share_of_words : CalXK P w K mg base 4 "share_of" 0 ["words"] (fun xs zs => xs ++ zs) (spShareOf K C_Share C_InvalidWords)) : FnOk P w K mg base CX0 5 f fd ["words", "by_name"] (spTS K C_Share) := by
  refine F.ok sc_law_told_share (fun vs H Q E h => ?_) (fun cdv A outer s H vs Q E hr h => ?_)
  · obtain ⟨v, d, n, b, rfl, _⟩ := h
    rfl
  · obtain ⟨v, d, n, b, rfl, hv, hok, hsh, q⟩ := h
    refine ⟨_, (pss_one (L2N.ps_try_as (i := 2) (tb := fun W => (tSeq (tIfS (tB (tVar 1)) (tRet (tLst (tCons (tC (.bl true)) (tCons (tCallSK0 1 (spShareOf K C_Share C_InvalidWords) (fun xs zs => xs ++ zs) (WE W) (tCons (tVar 0) tNil)) tNil)))) tNext) (tRet (tLst (tCons (tC (.bl true)) (tCons (tCallS (spShareOf K C_Share C_InvalidWords) (WE W) (tCons (tVar 0) tNil)) tNil))))))
      (ts := fun a cls d => (tRet (tLst (tCons (tC (.bl false)) (tCons (tXf a cls d C_InvalidWords "words" (tVar 2)) tNil))))) rfl rfl sc_law_told_share.nd rfl rfl ⟨rfl, by decide, .inl x_InvalidWords.gC⟩ takesN0
      (fun W pn xe tk pwn => (pss_cons (ps_if (pt_val (pv 1))
          (pss_one (ps_ret (pe_lst (pa_cons pe_bl (pa_cons (pe_xSK0 ck_share_of_words hr (by omega) (by rfl) tk (pk_cons (pv 0) pk_nil)) pa_nil)))))
          pss_nil)
        (pss_one (ps_ret (pe_lst (pa_cons pe_bl (pa_cons (pe_xS c_share_of hr (by omega) (by rfl) tk (pa_cons (pv 0) pa_nil)) pa_nil)))))))
      (fun a oe cls d pn hz hf => (pss_one (ps_ret (pe_lst (pa_cons pe_bl (pa_cons (pe_xf x_InvalidWords.xf (x_InvalidWords.no (by simp)) hz.zc hf (pv 2)) pa_nil)))))))), ?_⟩
    rcases q with ⟨hw, hz, q⟩ | ⟨hw, q⟩
    · have A : ∀ H' x, Same H H' → Sh C_Share H' x (rOd (hs 60 ((wsD d).map Str.length)) (2 ^ 60)) (rUd (hs 60 ((wsD d).map Str.length)) (2 ^ 60)) → 2 ≤ sizeLine ∧ ∀ l, H' l = none → Q (.ref l) (upd H' l (.lst [.bl true, .ref x])) := fun H' x s' ⟨dx, hx⟩ => ⟨szle (by decide), fun l hl => q _ l x (s'.trans (same_upd hl)) ⟨dx, same_upd hl _ _ hx⟩ upd_same⟩
      cases b
      · exact ⟨_, rfl, _, rfl, iteF ⟨_, rfl, v, d, n, 60, rfl, hv, hok, hsh, by decide, .inl ⟨hw, hz, fun H' x s' hx => A H' x s' hx⟩⟩⟩
      · exact ⟨_, rfl, _, rfl, iteT ⟨_, rfl, rfl, v, d, n, 60, rfl, hv, hok, hsh, by decide, .inl ⟨hw, hz, fun H' x s' hx => A H' x s' hx⟩⟩⟩
    · have B : ∀ H1 l, Same H H1 → H1 l = none → Q (.ref l) (upd H1 l (.lst [.bl false, v])) := fun H1 l s1 hl => q _ l (s1.trans (same_upd hl)) upd_same
      cases b
      · exact ⟨_, rfl, _, rfl, iteF ⟨_, rfl, v, d, n, 60, rfl, hv, hok, hsh, by decide, .inr ⟨hw, fun H1 dd s1 hd => ⟨true, x_InvalidWords.te, fun _ z hz => ⟨_, rfl, rfl, rfl, dd, _, _, rfl, hd, rfl, szle (by show 2 ≤ 16777216; decide), fun l hl => B H1 l s1 hl⟩, fun z => by cases z⟩⟩⟩⟩
      · exact ⟨_, rfl, _, rfl, iteT ⟨_, rfl, rfl, v, d, n, 60, rfl, hv, hok, hsh, by decide, .inr ⟨hw, fun H1 dd s1 hd => ⟨true, x_InvalidWords.te, fun _ z hz => ⟨_, rfl, rfl, rfl, dd, _, _, rfl, hd, rfl, szle (by show 2 ≤ 16777216; decide), fun l hl => B H1 l s1 hl⟩, fun z => by cases z⟩⟩⟩⟩
end

/-! ### leaves; what is right -/
def spLeaves : Sp := fun vs H Q _ => ∃ (B : Hp) (t : Addr) (c m : Nat), vs = [.ref t, .int m] ∧ Tp B H t c ∧ m ≤ 1000 ∧ c < 10000000 ∧
  ∀ H' p (ws : List Str), Tp (upd B p (.lst (ws.map V.str))) H' t (c + 3 + 2 * m) → B p = none → (∀ z ∈ ws, isB z = true ∧ z.length ≤ 60) → 0 < ws.length → ws.length ≤ m + 1 → Q (.ref p) H'
def spRight (K : PySem.W.Frag) : Sp := fun vs H Q _ => ∃ v d b, vs = [v, .bl b] ∧ Dp K H v d ∧ okD 5 d = true ∧ shortD d ∧ (wordsD d = true → ∀ z ∈ wsD d, z.length ≤ 60) ∧ ∀ H', Same H H' → Q (.bl true) H'
section
variable {P : Program} {w : World} {K : PySem.W.Frag} {mg : Str → Option Value} {base : Heap} {C_Share : Addr} {C_InvalidWords : Addr}
theorem ok_law_leaves {f : Addr} {fd : FuncData} (F : Fun K "_law_leaves" "_law_leaves" s_law_leaves f fd) (T : Txt K mg C_Share) (c_law_draw : Cal P w K mg base 1 "_law_draw" spDraw) (c_law_bits : Cal P w K mg base 2 "_law_bits" spBits) : FnOk P w K mg base CX0 3 f fd ["tape", "many"] spLeaves := by
  refine F.ok sc_law_leaves (fun vs H Q E h => ?_) (fun cdv A outer s H vs Q E hr h => ?_)
  · obtain ⟨B, t, c, m, rfl, _⟩ := h
    rfl
  · obtain ⟨B, t, c, m, rfl, T0, hm, hc, q⟩ := h
    refine ⟨_, (pss_cons (ps_set (i := 2) sc_law_leaves.nd rfl (by first | exact Or.inl rfl | exact Or.inr rfl) (pe_lst (pa_cons (pe_c c_law_bits hr (by omega) (by rfl) (pa_cons (pv 0) (pa_cons (pe_c c_law_draw hr (by omega) (by rfl) (pa_cons (pv 0) (pa_cons pe_int pa_nil))) pa_nil))) pa_nil)))
    (pss_cons (ps_for PassesOwn.never rfl (pi_range1 (by rfl) T.b_range (pa_cons (pv 1) pa_nil)) (pg_name (i := 3) sc_law_leaves.nd rfl (by first | exact Or.inl rfl | exact Or.inr rfl))
      (pss_cons (ps_set (i := 4) sc_law_leaves.nd rfl (by first | exact Or.inl rfl | exact Or.inr rfl) (pe_c c_law_draw hr (by omega) (by rfl) (pa_cons (pv 0) (pa_cons (pe_callB call_len_seq (by rfl) T.b_len PySem.boot_len (pa_cons (pv 2) pa_nil)) pa_nil))))
        (pss_cons (ps_set (i := 5) sc_law_leaves.nd rfl (by first | exact Or.inl rfl | exact Or.inr rfl) (pe_ix ix_list (pv 2) (pv 4) (fun _ _ => rfl)))
        (pss_one (ps_if (pt_cmpR op_lt (pe_callB call_len_str (by rfl) T.b_len PySem.boot_len (pa_cons (pv 5) pa_nil)) pe_int (nomark _))
          (pss_cons (ps_asg (pe_op op_add_str (pv 5) pe_str) (pg_sub (pv 2) (pv 4) set_list))
            (pss_one (ps_expr (pe_bm PySem.F.plainAttrs_list PySem.F.slot_list_insert PySem.F.type_list_insert mt_insert (pv 2) (pa_cons (pe_c c_law_draw hr (by omega) (by rfl) (pa_cons (pv 0) (pa_cons (pe_op op_add (pe_callB call_len_seq (by rfl) T.b_len PySem.boot_len (pa_cons (pv 2) pa_nil)) pe_int) pa_nil))) (pa_cons (pe_op op_add_str (pv 5) pe_str) pa_nil))))))
          pss_nil)))))
    (pss_one (ps_ret (pv 2))))), ?_⟩
    refine ⟨_, rfl, _, rfl, B, t, c, 3, rfl, T0, by decide, by decide, by omega, fun H1 n T1 n0 n1 => ?_⟩
    obtain ⟨n, rfl⟩ := nat_of n0
    refine ⟨B, t, c + 1, n, rfl, T1, by omega, by omega, fun H2 z T2 zb zl => ⟨szle (by show 1 ≤ 16777216; decide), fun l hl => ?_⟩⟩
    have hBl : B l = none := T2.isn hl
    refine ⟨_, rfl, m, rfl, by omega, by omega, for_range (n := m) (fun i σ H' => ∃ (ws : List Str) (v3 v4 v5 : Option V), σ = [some (.ref t), some (.int m), some (.ref l), v3, v4, v5] ∧ Tp (upd B l (.lst (ws.map V.str))) H' t (c + 3 + 2 * i) ∧ (∀ z ∈ ws, isB z = true ∧ z.length ≤ 60) ∧ 0 < ws.length ∧ ws.length ≤ i + 1)
      ⟨[z], none, none, none, rfl, (T2.new hl).le (by omega), fun x hx => by rw [List.mem_singleton.mp hx]; exact ⟨zb, by omega⟩, Nat.lt_succ_self _, Nat.le_refl _⟩ ?_ ?_⟩
    · rintro i σ H' hi ⟨ws, v3, v4, v5, rfl, T1, L, w0, w1⟩
      have el := T1.at (upd_same (H := B) (a := l) (o := .lst (ws.map V.str)))
      refine ⟨_, rfl, _, rfl, l, _, rfl, .inl (SqL.of el), _, t, _, (ws.length : Int), by rw [List.length_map]; rfl, T1, by omega, by omega, by omega, fun H2 j T2 n0 n1 => ?_⟩
      obtain ⟨j, rfl⟩ := nat_of n0
      have hj : j < ws.length := by omega
      have e2 := T2.at (upd_same (H := B) (a := l) (o := .lst (ws.map V.str)))
      obtain ⟨w, hw⟩ : ∃ w, ws[j]? = some w := ⟨ws[j], List.getElem?_eq_getElem hj⟩
      refine ⟨_, rfl, _, rfl, l, _, _, _, rfl, rfl, SqL.of e2, atI_nat (j := j) (by rw [List.getElem?_map, hw]; rfl), ?_⟩
      have wb := L w (List.mem_of_getElem? hw)
      refine ⟨_, rfl, w, rfl, szle (Nat.le_trans wb.2 (by decide)), _, _, rfl, rfl, _, rfl, ite2 (fun h => ?_) (fun h => ?_)⟩
      · have h60 : w.length < 60 := by have := of_decide_eq_true h; omega
        refine ⟨_, rfl, _, _, rfl, rfl, szle (by show w.length + 1 ≤ 16777216; omega), _, rfl, _, rfl, l, _, _, j, rfl, rfl, e2, ixN_nat (by rw [List.length_map]; exact hj), ?_⟩
        have T3 := T2.set (o' := .lst ((ws.map V.str).set j (V.str (w ++ ("0" : Str))))) (upd_same (H := B) (a := l) (o := .lst (ws.map V.str)))
        rw [upd_upd, ← List.map_set] at T3
        have T3' : Tp (upd B l (.lst ((ws.set j (w ++ ("0" : Str))).map V.str))) (upd H2 l (.lst ((ws.map V.str).set j (V.str (w ++ ("0" : Str)))))) t (c + 3 + 2 * i + 1) := by
          rw [← List.map_set]
          exact T3
        have e3' : (upd H2 l (.lst ((ws.map V.str).set j (V.str (w ++ ("0" : Str)))))) l = some (.lst ((ws.set j (w ++ ("0" : Str))).map V.str)) := by
          rw [upd_same, List.map_set]
        refine ⟨_, rfl, .inl ⟨rfl, _, SqL.of e3'⟩, _, rfl, _, rfl, l, _, rfl, .inl (SqL.of e3'), _, _, rfl, rfl, _, t, _, (ws.length : Int) + 1, by rw [List.length_map, List.length_set]; rfl, T3', by omega, by omega, by omega, fun H4 n2 T4 k0 k1 => ?_⟩
        obtain ⟨n2, rfl⟩ := nat_of k0
        have e4 := T4.at (upd_same (H := B) (a := l) (o := .lst ((ws.set j (w ++ ("0" : Str))).map V.str)))
        refine ⟨_, rfl, _, _, rfl, rfl, szle (by show w.length + 1 ≤ 16777216; omega), l, _, n2, _, rfl, rfl, e4, szl (by rw [List.length_map, List.length_set]; omega), by omega, by omega, ?_⟩
        have T5 := T4.set (o' := .lst (((ws.set j (w ++ ("0" : Str))).map V.str).take ((n2 : Int)).toNat ++ [V.str (w ++ ("1" : Str))] ++ ((ws.set j (w ++ ("0" : Str))).map V.str).drop ((n2 : Int)).toNat)) (upd_same (H := B) (a := l) (o := .lst ((ws.set j (w ++ ("0" : Str))).map V.str)))
        rw [upd_upd] at T5
        have wb1 : ∀ a : Str, (a = "0" ∨ a = "1") → isB (w ++ a) = true ∧ (w ++ a).length ≤ 60 := fun a ha => by
          rw [str_app_len]
          rcases ha with e | e <;> subst e
          · exact ⟨isB_app wb.1 isB_zero, by show w.length + 1 ≤ 60; omega⟩
          · exact ⟨isB_app wb.1 isB_one, by show w.length + 1 ≤ 60; omega⟩
        have Ls : ∀ z ∈ ws.set j (w ++ ("0" : Str)), isB z = true ∧ z.length ≤ 60 := fun z hz => by
          rcases List.mem_or_eq_of_mem_set hz with e | e
          · exact L z e
          · rw [e]; exact wb1 _ (.inl rfl)
        refine ⟨(ws.set j (w ++ ("0" : Str))).take n2 ++ [w ++ ("1" : Str)] ++ (ws.set j (w ++ ("0" : Str))).drop n2, _, _, _, rfl, ?_, fun z hz => ?_, by simp; omega, ?_⟩
        · rw [List.map_append, List.map_append, List.map_take, List.map_drop]
          exact T5.le (by omega)
        · rcases List.mem_append.mp hz with e | e
          · rcases List.mem_append.mp e with e | e
            · exact Ls z (List.mem_of_mem_take e)
            · rw [List.mem_singleton.mp e]; exact wb1 _ (.inr rfl)
          · exact Ls z (List.mem_of_mem_drop e)
        · rw [List.length_append, List.length_append, List.length_take, List.length_drop, List.length_set]
          simp
          omega
      · exact ⟨ws, _, _, _, rfl, T2.le (by omega), L, w0, by omega⟩
    · rintro σ H' ⟨ws, v3, v4, v5, rfl, T1, L, w0, w1⟩
      exact ⟨_, rfl, q _ l ws T1 hBl L w0 w1⟩
theorem ok_law_right {f : Addr} {fd : FuncData} (F : Fun K "_law_right" "_law_right" s_law_right f fd) (T : Txt K mg C_Share) (sc : ShC K C_Share) (c_law_copy : Cal P w K mg base 5 "_law_copy" (spCopy K 5)) (c_law_same : Cal P w K mg base 5 "_law_same" (spSame K 5)) (c_law_told_clash : Cal P w K mg base 5 "_law_told_clash" (spTC K)) (c_law_told_share : Cal P w K mg base 5 "_law_told_share" (spTS K C_Share)) (c_law_are_words : Cal P w K mg base 2 "_law_are_words" (spLAreW K)) (c_law_clash : Cal P w K mg base 1 "_law_clash" (spLClash K)) (c_law_sum : Cal P w K mg base 1 "_law_sum" (spLSum K)) : FnOk P w K mg base CX0 6 f fd ["value", "by_name"] (spRight K) := by
  refine F.ok sc_law_right (fun vs H Q E h => ?_) (fun cdv A outer s H vs Q E hr h => ?_)
  · obtain ⟨v, d, b, rfl, _⟩ := h
    rfl
  · obtain ⟨v, d, b, rfl, hv, hok, hsh, h60, q⟩ := h
    refine ⟨_, (pss_cons (ps_set (i := 2) sc_law_right.nd rfl (by first | exact Or.inl rfl | exact Or.inr rfl) (pe_c c_law_copy hr (by omega) (by rfl) (pa_cons (pv 0) pa_nil)))
    (pss_cons (ps_set (i := 3) sc_law_right.nd rfl (by first | exact Or.inl rfl | exact Or.inr rfl) (pe_c c_law_told_clash hr (by omega) (by rfl) (pa_cons (pv 0) (pa_cons (pv 1) pa_nil))))
    (pss_cons (ps_set (i := 4) sc_law_right.nd rfl (by first | exact Or.inl rfl | exact Or.inr rfl) (pe_c c_law_told_share hr (by omega) (by rfl) (pa_cons (pv 0) (pa_cons (pe_not (pv 1)) pa_nil))))
    (pss_cons (ps_if (pt_not (pt_val (pe_c c_law_same hr (by omega) (by rfl) (pa_cons (pv 0) (pa_cons (pv 2) pa_nil)))))
      (pss_one (ps_ret pe_bl))
      pss_nil)
    (pss_cons (ps_if (pt_not (pt_val (pe_c c_law_are_words hr (by omega) (by rfl) (pa_cons (pv 2) pa_nil))))
      (pss_one (ps_ret (pe_and (pe_not (pe_ix ix_list (pv 3) pe_int (fun _ _ => rfl))) (pe_and (pe_not (pe_ix ix_list (pv 4) pe_int (fun _ _ => rfl))) (pe_and (pe_c c_law_same hr (by omega) (by rfl) (pa_cons (pe_ix ix_list (pv 3) pe_int (fun _ _ => rfl)) (pa_cons (pv 2) pa_nil))) (pe_one (pe_c c_law_same hr (by omega) (by rfl) (pa_cons (pe_ix ix_list (pv 4) pe_int (fun _ _ => rfl)) (pa_cons (pv 2) pa_nil)))))))))
      pss_nil)
    (pss_cons (ps_if (PW.pt (pw_or (pt_not (pt_val (pe_ix ix_list (pv 3) pe_int (fun _ _ => rfl)))) (pw_or1 (pt_not (pt_val (pe_c c_law_same hr (by omega) (by rfl) (pa_cons (pe_ix ix_list (pv 3) pe_int (fun _ _ => rfl)) (pa_cons (pe_c c_law_clash hr (by omega) (by rfl) (pa_cons (pv 2) pa_nil)) pa_nil))))))))
      (pss_one (ps_ret pe_bl))
      pss_nil)
    (pss_cons (ps_if (PW.pt (pw_or (pt_not (pt_val (pe_ix ix_list (pv 4) pe_int (fun _ _ => rfl)))) (pw_or1 (pt_not (pt_val (pe_callB call_isi (by rfl) T.b_isinstance (by decide +kernel) (pa_cons (pe_ix ix_list (pv 4) pe_int (fun _ _ => rfl)) (pa_cons (pe_glob (v := .ref C_Share) (by rfl) T.g_Share rfl) pa_nil))))))))
      (pss_one (ps_ret pe_bl))
      pss_nil)
    (pss_cons (ps_set (i := 5) sc_law_right.nd rfl (by first | exact Or.inl rfl | exact Or.inr rfl) (pe_c c_law_sum hr (by omega) (by rfl) (pa_cons (pv 2) pa_nil)))
    (pss_one (ps_ret (pe_c c_law_same hr (by omega) (by rfl) (pa_cons (pe_lst (pa_cons (pe_fld (pe_ix ix_list (pv 4) pe_int (fun _ _ => rfl)) rfl) (pa_cons (pe_fld (pe_ix ix_list (pv 4) pe_int (fun _ _ => rfl)) rfl) pa_nil))) (pa_cons (pv 5) pa_nil))))))))))))), ?_⟩
    refine ⟨_, rfl, v, d, rfl, hok, hv, fun H1 v2 N s1 nw dv2 => ?_⟩
    have d2 := Dp.mono nw.same _ _ dv2
    have hv1 := Dp.mono s1 _ _ hv
    have p60 : ((2 : Int) ^ 60) = ((2 ^ 60 : Nat) : Int) := by decide
    cases hw : wordsD d with
    | false =>
      refine ⟨_, rfl, _, rfl, v, d, 5, b, rfl, hv1, hok, hsh, .inr ⟨hw, fun H2 p s2 hp => ?_⟩⟩
      have hv2 := Dp.mono s2 _ _ hv1
      refine ⟨_, rfl, _, rfl, _, rfl, v, d, 5, !b, rfl, hv2, hok, hsh, .inr ⟨hw, fun H3 p3 s3 hp3 => ?_⟩⟩
      have s23 := s2.trans s3
      refine ⟨_, rfl, _, rfl, _, _, d, rfl, hok, Dp.mono s23 _ _ hv1, Dp.mono s23 _ _ d2, _, rfl, iteF ?_⟩
      refine ⟨_, rfl, v2, d, 5, rfl, Dp.mono s23 _ _ d2, hok, hsh, fun H4 s4 => ⟨_, rfl, ?_⟩⟩
      rw [hw]
      refine iteT ?_
      have hp4 := s4 _ _ (s3 _ _ hp)
      have hp34 := s4 _ _ hp3
      have s24 := s23.trans s4
      refine ⟨_, rfl, p, _, _, _, rfl, rfl, SqL.of hp4, atI_nat (j := 0) rfl, _, rfl, _, rfl, iteT ?_⟩
      refine ⟨_, rfl, p3, _, _, _, rfl, rfl, SqL.of hp34, atI_nat (j := 0) rfl, _, rfl, _, rfl, iteT ?_⟩
      refine ⟨_, rfl, p, _, _, _, rfl, rfl, SqL.of hp4, atI_nat (j := 1) rfl, _, rfl, _, _, d, rfl, hok, Dp.mono s24 _ _ hv1, Dp.mono s24 _ _ d2, _, rfl, iteT ?_⟩
      exact ⟨_, rfl, p3, _, _, _, rfl, rfl, SqL.of hp34, atI_nat (j := 1) rfl, _, rfl, _, _, d, rfl, hok, Dp.mono s24 _ _ hv1, Dp.mono s24 _ _ d2, q _ (s1.trans s24)⟩
    | true =>
      obtain ⟨a2, rfl, hS2, hlen⟩ := words_row d2 hok hw
      have hz := h60 hw
      refine ⟨_, rfl, _, rfl, v, d, 5, b, rfl, hv1, hok, hsh, .inl ⟨hw, fun hcl H2 p s2 hp => ?_, fun i k hcl H2 p r s2 hr hp => ?_⟩⟩
      · have hv2 := Dp.mono s2 _ _ hv1
        refine ⟨_, rfl, _, rfl, _, rfl, v, d, 5, !b, rfl, hv2, hok, hsh, .inl ⟨hw, hz, fun H3 p3 x s3 ⟨dx, hx⟩ hp3 => ?_⟩⟩
        have s23 := s2.trans s3
        refine ⟨_, rfl, _, rfl, _, _, d, rfl, hok, Dp.mono s23 _ _ hv1, Dp.mono s23 _ _ d2, _, rfl, iteF ?_⟩
        refine ⟨_, rfl, _, d, 5, rfl, Dp.mono s23 _ _ d2, hok, hsh, fun H4 s4 => ⟨_, rfl, ?_⟩⟩
        rw [hw]
        refine iteF ?_
        have s24 := s23.trans s4
        have hS4 : SqL K H4 a2 ((wsD d).map V.str) ∨ SqT K H4 a2 ((wsD d).map V.str) := hS2.imp (fun z => s24.seq z) fun z => sameT s24 z
        have hp4 := s4 _ _ (s3 _ _ hp)
        refine ⟨_, rfl, p, _, _, _, rfl, rfl, SqL.of hp4, atI_nat (j := 0) rfl, _, rfl, iteF ?_⟩
        refine ⟨_, rfl, p, _, _, _, rfl, rfl, SqL.of hp4, atI_nat (j := 1) rfl, _, rfl, a2, wsD d, rfl, hS4, hlen, fun _ H5 s5 => ?_, fun i k e => by rw [hcl] at e; cases e⟩
        refine ⟨_, _, .none, rfl, rfl, .non, .non, _, rfl, iteF ?_⟩
        have hx5 := s5 _ _ (s4 _ _ hx)
        have hp5 := s5 _ _ (s4 _ _ hp3)
        have s25 := s24.trans s5
        have hS5 : SqL K H5 a2 ((wsD d).map V.str) ∨ SqT K H5 a2 ((wsD d).map V.str) := hS2.imp (fun z => s25.seq z) fun z => sameT s25 z
        refine ⟨_, rfl, p3, _, _, _, rfl, rfl, SqL.of hp5, atI_nat (j := 0) rfl, _, rfl, iteF ?_⟩
        refine ⟨_, rfl, p3, _, _, _, rfl, rfl, SqL.of hp5, atI_nat (j := 1) rfl, _, _, _, _, _, rfl, .own _, sc.ty ⟨dx, hx5⟩, sc.ins.me, _, rfl, iteF ?_⟩
        refine ⟨_, rfl, a2, wsD d, rfl, hS5, hlen, hz, fun H6 pt s6 hptn hpt => ?_⟩
        have hx6 := s6 _ _ hx5
        have hp6 := s6 _ _ hp5
        refine ⟨_, rfl, p3, _, _, _, rfl, rfl, SqL.of hp6, atI_nat (j := 1) rfl, x, C_Share, dx, _, _, rfl, hx6, sc.ins.cl, sc.no, fz_o, ?_⟩
        refine ⟨_, rfl, p3, _, _, _, rfl, rfl, SqL.of hp6, atI_nat (j := 1) rfl, x, C_Share, dx, _, _, rfl, hx6, sc.ins.cl, sc.nu, fz_u, szle (by show 2 ≤ 16777216; decide), fun l hl => ?_⟩
        have s7 := same_upd (o := .lst [V.int (rOd (↑(hs 60 (List.map Str.length (wsD d)))) (2 ^ 60)), V.int (rUd (↑(hs 60 (List.map Str.length (wsD d)))) (2 ^ 60))]) hl
        have hpt7 := s7 _ _ hpt
        exact ⟨_, rfl, _, _, .list [.int (rOd (↑(hs 60 (List.map Str.length (wsD d)))) (2 ^ 60)), .int (rUd (↑(hs 60 (List.map Str.length (wsD d)))) (2 ^ 60))], rfl, rfl, .lst (SqL.of upd_same) (.cons (.int _) (.cons (.int _) .nil)), .lst (SqL.of (by rw [p60]; exact hpt7)) (.cons (.int _) (.cons (.int _) .nil)), q _ (s1.trans (s25.trans (s6.trans s7)))⟩
      · have hv2 := Dp.mono s2 _ _ hv1
        refine ⟨_, rfl, _, rfl, _, rfl, v, d, 5, !b, rfl, hv2, hok, hsh, .inl ⟨hw, hz, fun H3 p3 x s3 ⟨dx, hx⟩ hp3 => ?_⟩⟩
        have s23 := s2.trans s3
        refine ⟨_, rfl, _, rfl, _, _, d, rfl, hok, Dp.mono s23 _ _ hv1, Dp.mono s23 _ _ d2, _, rfl, iteF ?_⟩
        refine ⟨_, rfl, _, d, 5, rfl, Dp.mono s23 _ _ d2, hok, hsh, fun H4 s4 => ⟨_, rfl, ?_⟩⟩
        rw [hw]
        refine iteF ?_
        have s24 := s23.trans s4
        have hS4 : SqL K H4 a2 ((wsD d).map V.str) ∨ SqT K H4 a2 ((wsD d).map V.str) := hS2.imp (fun z => s24.seq z) fun z => sameT s24 z
        have hp4 := s4 _ _ (s3 _ _ hp)
        refine ⟨_, rfl, p, _, _, _, rfl, rfl, SqL.of hp4, atI_nat (j := 0) rfl, _, rfl, iteF ?_⟩
        refine ⟨_, rfl, p, _, _, _, rfl, rfl, SqL.of hp4, atI_nat (j := 1) rfl, _, rfl, a2, wsD d, rfl, hS4, hlen, fun e => (by rw [hcl] at e; cases e), fun i2 k2 e H5 r5 s5 hr5 => ?_⟩
        rw [hcl] at e
        cases e
        have hr4 := s5 _ _ (s4 _ _ (s3 _ _ hr))
        refine ⟨_, _, .tuple [.int (i : Nat), .int (k : Nat)], rfl, rfl, .tup (SqT.of hr4) (.cons (.int _) (.cons (.int _) .nil)), .tup (SqT.of hr5) (.cons (.int _) (.cons (.int _) .nil)), _, rfl, iteF ?_⟩
        have hx5 := s5 _ _ (s4 _ _ hx)
        have hp5 := s5 _ _ (s4 _ _ hp3)
        have s25 := s24.trans s5
        have hS5 : SqL K H5 a2 ((wsD d).map V.str) ∨ SqT K H5 a2 ((wsD d).map V.str) := hS2.imp (fun z => s25.seq z) fun z => sameT s25 z
        refine ⟨_, rfl, p3, _, _, _, rfl, rfl, SqL.of hp5, atI_nat (j := 0) rfl, _, rfl, iteF ?_⟩
        refine ⟨_, rfl, p3, _, _, _, rfl, rfl, SqL.of hp5, atI_nat (j := 1) rfl, _, _, _, _, _, rfl, .own _, sc.ty ⟨dx, hx5⟩, sc.ins.me, _, rfl, iteF ?_⟩
        refine ⟨_, rfl, a2, wsD d, rfl, hS5, hlen, hz, fun H6 pt s6 hptn hpt => ?_⟩
        have hx6 := s6 _ _ hx5
        have hp6 := s6 _ _ hp5
        refine ⟨_, rfl, p3, _, _, _, rfl, rfl, SqL.of hp6, atI_nat (j := 1) rfl, x, C_Share, dx, _, _, rfl, hx6, sc.ins.cl, sc.no, fz_o, ?_⟩
        refine ⟨_, rfl, p3, _, _, _, rfl, rfl, SqL.of hp6, atI_nat (j := 1) rfl, x, C_Share, dx, _, _, rfl, hx6, sc.ins.cl, sc.nu, fz_u, szle (by show 2 ≤ 16777216; decide), fun l hl => ?_⟩
        have s7 := same_upd (o := .lst [V.int (rOd (↑(hs 60 (List.map Str.length (wsD d)))) (2 ^ 60)), V.int (rUd (↑(hs 60 (List.map Str.length (wsD d)))) (2 ^ 60))]) hl
        have hpt7 := s7 _ _ hpt
        exact ⟨_, rfl, _, _, .list [.int (rOd (↑(hs 60 (List.map Str.length (wsD d)))) (2 ^ 60)), .int (rUd (↑(hs 60 (List.map Str.length (wsD d)))) (2 ^ 60))], rfl, rfl, .lst (SqL.of upd_same) (.cons (.int _) (.cons (.int _) .nil)), .lst (SqL.of (by rw [p60]; exact hpt7)) (.cons (.int _) (.cons (.int _) .nil)), q _ (s1.trans (s25.trans (s6.trans s7)))⟩
end

theorem dp_strs {K : PySem.W.Frag} {H : Hp} : ∀ ws : List Str, DpAll K H (ws.map V.str) (ws.map PyData.str)
  | [] => .nil
  | z :: r => .cons (.str z) (dp_strs r)
theorem words_dp {K : PySem.W.Frag} {H : Hp} {a : Addr} {ws : List Str} (hS : SqL K H a (ws.map V.str) ∨ SqT K H a (ws.map V.str)) (hl : ws.length ≤ 100000) (hz : ∀ z ∈ ws, isB z = true ∧ z.length ≤ 60) :
    ∃ d, Dp K H (.ref a) d ∧ okD 2 d = true ∧ shortD d ∧ wordsD d = true ∧ wsD d = ws := by
  have ok : ∀ e ∈ ws.map PyData.str, okD 1 e = true := fun e he => by
    obtain ⟨z, hz', rfl⟩ := List.mem_map.mp he
    rfl
  have al : (ws.map PyData.str).all isW = true := by
    rw [List.all_eq_true]
    intro e he
    obtain ⟨z, hz', rfl⟩ := List.mem_map.mp he
    exact (hz z hz').1
  have sh : ∀ z, .str z ∈ ws.map PyData.str → z.length ≤ 100000 := fun z hz' => by
    obtain ⟨y, hy, e⟩ := List.mem_map.mp hz'
    have e' : y = z := PyData.str.inj e
    rw [← e']
    exact Nat.le_trans (hz y hy).2 (by decide)
  have mp : (ws.map PyData.str).map strD = ws := by rw [List.map_map]; exact List.map_id _
  have okm := okD_mk (n := 1) (ds := ws.map PyData.str) (by rw [List.length_map]; exact hl) ok
  rcases hS with h | h
  · exact ⟨.list _, .lst h (dp_strs ws), okm, sh, al, mp⟩
  · exact ⟨.tuple _, .tup h (dp_strs ws), okm, sh, al, mp⟩

/-! ### drawn words -/
def WsOk (ws : List Str) : Prop := ∀ z ∈ ws, isB z = true ∧ z.length ≤ 60
theorem cutS_len (z : Str) (lo hi : Option Int) : (cutS z lo hi).length ≤ z.length := by
  show (((z.cps.toList.drop _).take _).toArray).size ≤ _
  rw [List.size_toArray, List.length_take, List.length_drop]
  have : z.cps.toList.length = z.length := Array.length_toList
  omega
theorem cutT (z : Str) (k : Nat) : cutS z none (some (k : Int)) = ⟨(z.cps.toList.take k).toArray⟩ := by
  have hl : z.cps.toList.length = z.length := Array.length_toList
  unfold cutS
  have e0 : HT.sIx z.length 0 none = 0 := rfl
  have e1 : HT.sIx z.length z.length (some (k : Int)) = min k z.length := by rw [HT.sIx_nat]
  rw [e0, e1]
  show (⟨(List.take (min k z.length - 0) (List.drop 0 z.cps.toList)).toArray⟩ : Str) = _
  rw [List.drop_zero, Nat.sub_zero, ← hl]
  congr 2
  exact (List.take_eq_take_min ..).symm
theorem cutT_ok {z : Str} (k : Nat) (h : isB z = true) : isB (cutS z none (some (k : Int))) = true ∧ (cutS z none (some (k : Int))).length ≤ k ∧ (cutS z none (some (k : Int))).length ≤ z.length := by
  have hl : z.cps.toList.length = z.length := Array.length_toList
  rw [cutT]
  refine ⟨?_, ?_, ?_⟩
  · rw [isB_all] at h ⊢
    intro c hc
    exact h c (List.mem_of_mem_take (by simpa using hc))
  · show ((z.cps.toList.take k).toArray).size ≤ k
    rw [List.size_toArray, List.length_take]; omega
  · show ((z.cps.toList.take k).toArray).size ≤ _
    rw [List.size_toArray, List.length_take]; omega
def spDrawnW : Sp := fun vs H Q _ => ∃ (B : Hp) (t : Addr) (c : Nat), vs = [.ref t] ∧ Tp B H t c ∧ c ≤ 1000 ∧
  ∀ H' p (ws : List Str), Tp (upd B p (.lst (ws.map V.str))) H' t (c + 2000) → B p = none → WsOk ws → ws.length ≤ 60 → Q (.ref p) H'
section
variable {P : Program} {w : World} {K : PySem.W.Frag} {mg : Str → Option Value} {base : Heap} {C_Share : Addr} {C_InvalidWords : Addr}
theorem ok_law_drawn_words {f : Addr} {fd : FuncData} (F : Fun K "_law_drawn_words" "_law_drawn_words" s_law_drawn_words f fd) (T : Txt K mg C_Share) (c_law_draw : Cal P w K mg base 1 "_law_draw" spDraw) (c_law_bits : Cal P w K mg base 2 "_law_bits" spBits) (c_law_leaves : Cal P w K mg base 3 "_law_leaves" spLeaves) : FnOk P w K mg base CX0 4 f fd ["tape"] spDrawnW := by
  refine F.ok sc_law_drawn_words (fun vs H Q E h => ?_) (fun cdv A outer s H vs Q E hr h => ?_)
  · obtain ⟨B, t, c, rfl, _⟩ := h
    rfl
  · obtain ⟨B, t, c, rfl, T0, hc, q⟩ := h
    refine ⟨_, (pss_cons (ps_set (i := 1) sc_law_drawn_words.nd rfl (by first | exact Or.inl rfl | exact Or.inr rfl) (pe_c c_law_draw hr (by omega) (by rfl) (pa_cons (pv 0) (pa_cons pe_int pa_nil))))
    (C8.pss_cut (ps_if (pt_cmpR op_eq (pe_c c_law_draw hr (by omega) (by rfl) (pa_cons (pv 0) (pa_cons pe_int pa_nil))) pe_int (nomark _))
      (pss_one (ps_set (i := 1) sc_law_drawn_words.nd rfl (by first | exact Or.inl rfl | exact Or.inr rfl) (pe_c c_law_draw hr (by omega) (by rfl) (pa_cons (pv 0) (pa_cons pe_int pa_nil)))))
      pss_nil)
    (pss_cons (ps_set (i := 2) sc_law_drawn_words.nd rfl (by first | exact Or.inl rfl | exact Or.inr rfl) (pe_c c_law_draw hr (by omega) (by rfl) (pa_cons (pv 0) (pa_cons pe_int pa_nil))))
    (C8.pss_cut (ps_if (pt_cmpR op_eq (pv 2) pe_int (nomark _))
      (pss_one (ps_setLc (i := 3) (own := [("k", 4)]) rfl sc_law_drawn_words.nd rfl rfl (sw_true rfl rfl rfl (by decide +kernel)) (pi_range1 (by rfl) T.b_range (pa_cons (pv 1) pa_nil)) (blkOk_by (own := [("k", 4)]) (N := ["tape", "many", "shape", "words", "k", "long", "word", "kind"]) (sc := defScope s_law_drawn_words) (by decide +kernel)) (fun _ _ _ _ _ => (pg_name (i := 4) sc_law_drawn_words.nd rfl (by first | exact Or.inl rfl | exact Or.inr rfl))) (fun _ _ _ _ _ => pts_nil) (fun _ _ _ _ _ => (pe_c c_law_bits hr (by omega) (by rfl) (pa_cons (pv 0) (pa_cons (pe_c c_law_draw hr (by omega) (by rfl) (pa_cons (pv 0) (pa_cons pe_int pa_nil))) pa_nil))))))
      (pss_one (ps_set (i := 3) sc_law_drawn_words.nd rfl (by first | exact Or.inl rfl | exact Or.inr rfl) (pe_c c_law_leaves hr (by omega) (by rfl) (pa_cons (pv 0) (pa_cons (pv 1) pa_nil))))))
    (C8.pss_cut (ps_if (pt_cmpR op_eq (pv 2) pe_int (nomark _))
      (pss_cons (ps_set (i := 5) sc_law_drawn_words.nd rfl (by first | exact Or.inl rfl | exact Or.inr rfl) (pe_c c_law_bits hr (by omega) (by rfl) (pa_cons (pv 0) (pa_cons pe_int pa_nil))))
        (pss_one (ps_setLc (i := 3) (own := [("word", 6)]) rfl sc_law_drawn_words.nd rfl rfl (sw_true rfl rfl rfl (by decide +kernel)) (pi_list (pv 3)) (blkOk_by (own := [("word", 6)]) (N := ["tape", "many", "shape", "words", "k", "long", "word", "kind"]) (sc := defScope s_law_drawn_words) (by decide +kernel)) (fun _ _ _ _ _ => (pg_name (i := 6) sc_law_drawn_words.nd rfl (by first | exact Or.inl rfl | exact Or.inr rfl))) (fun _ _ _ _ _ => pts_nil) (fun _ _ _ _ _ => (pe_op op_add_str (pv 6) (pe_slice sl_str (pv 5) po_none (po_some (pe_c c_law_draw hr (by omega) (by rfl) (pa_cons (pv 0) (pa_cons (pe_op op_sub pe_int (pe_callB (call_max2 rfl) (by rfl) T.b_max (by decide +kernel) (pa_cons (pe_callB call_len_str (by rfl) T.b_len PySem.boot_len (pa_cons (pv 6) pa_nil)) (pa_cons pe_int pa_nil)))) pa_nil))))))))))
      pss_nil)
    (pss_cons (ps_if (PW.pt (pw_and (pt_cmpR op_eq (pe_c c_law_draw hr (by omega) (by rfl) (pa_cons (pv 0) (pa_cons pe_int pa_nil))) pe_int (nomark _)) (pw_and1 (pt_truth (pv 3) (by intro _; rfl)))))
      (pss_cons (ps_set (i := 6) sc_law_drawn_words.nd rfl (by first | exact Or.inl rfl | exact Or.inr rfl) (pe_ix ix_list (pv 3) (pe_c c_law_draw hr (by omega) (by rfl) (pa_cons (pv 0) (pa_cons (pe_callB call_len_seq (by rfl) T.b_len PySem.boot_len (pa_cons (pv 3) pa_nil)) pa_nil))) (fun _ _ => rfl)))
        (pss_cons (ps_set (i := 7) sc_law_drawn_words.nd rfl (by first | exact Or.inl rfl | exact Or.inr rfl) (pe_c c_law_draw hr (by omega) (by rfl) (pa_cons (pv 0) (pa_cons pe_int pa_nil))))
        (C8.pss_cut (ps_if (pt_cmpR op_eq (pv 7) pe_int (nomark _))
          (pss_one (ps_set (i := 6) sc_law_drawn_words.nd rfl (by first | exact Or.inl rfl | exact Or.inr rfl) (pe_slice sl_str (pv 6) po_none (po_some (pe_c c_law_draw hr (by omega) (by rfl) (pa_cons (pv 0) (pa_cons (pe_op op_add (pe_callB call_len_str (by rfl) T.b_len PySem.boot_len (pa_cons (pv 6) pa_nil)) pe_int) pa_nil)))))))
          pss_nil)
        (C8.pss_cut (ps_if (pt_cmpR op_eq (pv 7) pe_int (nomark _))
          (pss_one (ps_set (i := 6) sc_law_drawn_words.nd rfl (by first | exact Or.inl rfl | exact Or.inr rfl) (pe_op op_add_str (pv 6) (pe_c c_law_bits hr (by omega) (by rfl) (pa_cons (pv 0) (pa_cons (pe_c c_law_draw hr (by omega) (by rfl) (pa_cons (pv 0) (pa_cons (pe_callB (call_min2 rfl) (by rfl) T.b_min (by decide +kernel) (pa_cons pe_int (pa_cons (pe_op op_sub pe_int (pe_callB call_len_str (by rfl) T.b_len PySem.boot_len (pa_cons (pv 6) pa_nil))) pa_nil))) pa_nil))) pa_nil))))))
          pss_nil)
        (pss_one (ps_expr (pe_bm PySem.F.plainAttrs_list PySem.F.slot_list_insert PySem.F.type_list_insert mt_insert (pv 3) (pa_cons (pe_c c_law_draw hr (by omega) (by rfl) (pa_cons (pv 0) (pa_cons (pe_op op_add (pe_callB call_len_seq (by rfl) T.b_len PySem.boot_len (pa_cons (pv 3) pa_nil)) pe_int) pa_nil))) (pa_cons (pv 6) pa_nil)))))))))
      pss_nil)
    (pss_one (ps_ret (pv 3))))))))), ?_⟩
    refine ⟨_, rfl, B, t, c, 8, rfl, T0, by decide, by decide, by omega, fun H1 m0 T1 m1 m2 => ?_⟩
    obtain ⟨m0, rfl⟩ := nat_of m1
    refine ⟨fun σ H' => ∃ m : Nat, m ≤ 58 ∧ σ = [some (.ref t), some (.int (m : Int)), none, none, none, none, none, none] ∧ Tp B H' t (c + 3), ?_, ?_⟩
    · refine ⟨_, rfl, B, t, _, 8, rfl, T1, by decide, by decide, by omega, fun H2 y T2 _ _ => ⟨rfl, _, rfl, ite2 (fun _ => ?_) (fun _ => ⟨m0, by omega, rfl, T2.le (by omega)⟩)⟩⟩
      refine ⟨_, rfl, B, t, _, 59, rfl, T2, by decide, by decide, by omega, fun H3 n T3 n0 n1 => ?_⟩
      obtain ⟨n, rfl⟩ := nat_of n0
      exact ⟨n, by omega, rfl, T3.le (by omega)⟩
    clear m1 m2 m0 T1
    rintro σ H1 ⟨m, hm, rfl, T1⟩
    refine ⟨_, rfl, B, t, _, 4, rfl, T1, by decide, by decide, by omega, fun H2 sh T2 sh0 sh1 => ?_⟩
    refine ⟨fun σ H' => ∃ (p : Addr) (ws : List Str), WsOk ws ∧ ws.length ≤ 59 ∧ B p = none ∧ σ = [some (.ref t), some (.int (m : Int)), some (.int sh), some (.ref p), none, none, none, none] ∧ Tp (upd B p (.lst (ws.map V.str))) H' t (c + 600), ?_, ?_⟩
    · refine ⟨_, rfl, rfl, _, rfl, ite2 (fun _ => ?_) (fun _ => ?_)⟩
      · refine ⟨_, rfl, m, rfl, by omega, by omega, fun D hD => lc_range (lo := 0) (n := m) (fun i H' => ∃ ws : List Str, ws.length = i ∧ WsOk ws ∧ Tp (upd B D (.lst (ws.map V.str))) H' t (c + 4 + 10 * i)) ⟨[], rfl, (fun z hz => by cases hz), (T2.new hD).le (by omega)⟩ ?_ ?_⟩
        · rintro i H' hi ⟨ws, wl, wo, T5⟩
          refine ⟨rfl, iteT (B := ∃ ws : List Str, ws.length = i + 1 ∧ WsOk ws ∧ Tp (upd B D (.lst (ws.map V.str))) H' t (c + 4 + 10 * (i + 1))) ?_⟩
          refine ⟨_, rfl, _, rfl, _, t, _, 7, rfl, T5, by decide, by decide, by omega, fun H6 n T6 n0 n1 => ?_⟩
          obtain ⟨n, rfl⟩ := nat_of n0
          refine ⟨_, t, _, n, rfl, T6, by omega, by omega, fun H7 z T7 zb zl => ⟨_, T7.at upd_same, szl (by rw [List.length_map]; omega), ws ++ [z], by rw [List.length_append, wl]; rfl, fun y hy => ?_, ?_⟩⟩
          · rcases List.mem_append.mp hy with e | e
            · exact wo y e
            · rw [List.mem_singleton.mp e]; exact ⟨zb, by omega⟩
          · have := T7.set (o' := .lst ((ws ++ [z]).map V.str)) upd_same
            rw [upd_upd] at this
            rw [List.map_append] at this ⊢
            exact this.le (by omega)
        · rintro H' ⟨ws, wl, wo, T5⟩
          exact ⟨D, ws, wo, by omega, T2.isn hD, rfl, T5.le (by omega)⟩
      · refine ⟨_, rfl, _, rfl, B, t, _, m, rfl, T2, by omega, by omega, fun H3 p ws T3 hB hw w0 w1 => ⟨p, ws, hw, by omega, hB, rfl, T3.le (by omega)⟩⟩
    rintro σ H3 ⟨p, ws, hw, wl, hB, rfl, T3⟩
    refine ⟨fun σ H' => ∃ (p : Addr) (ws : List Str) (v5 : Option V), WsOk ws ∧ ws.length ≤ 59 ∧ B p = none ∧ σ = [some (.ref t), some (.int (m : Int)), some (.int sh), some (.ref p), none, v5, none, none] ∧ Tp (upd B p (.lst (ws.map V.str))) H' t (c + 900), ?_, ?_⟩
    · refine ⟨_, rfl, rfl, _, rfl, ite2 (fun _ => ?_) (fun _ => ⟨p, ws, _, hw, wl, hB, rfl, T3.le (by omega)⟩)⟩
      refine ⟨_, rfl, _, t, _, 52, rfl, T3, by decide, by omega, fun H4 lg T4 lb ll => ?_⟩
      have ep := T4.at (upd_same (H := B) (a := p) (o := .lst (ws.map V.str)))
      refine ⟨_, rfl, p, rfl, ⟨_, SqL.of ep⟩, fun D hD => ?_⟩
      have pD : p ≠ D := ne_of_none ep hD
      have hDB : B D = none := by have := T4.isn hD; rw [upd_ne pD.symm] at this; exact this
      refine lc_list (K := K) (a := p) (xs := ws.map V.str) (fun i H' => ∃ us : List Str, us.length = i ∧ WsOk us ∧ Tp (upd (upd B p (.lst (ws.map V.str))) D (.lst (us.map V.str))) H' t (c + 700 + i)) ⟨[], rfl, (fun z hz => by cases hz), (T4.new hD).le (by omega)⟩ (fun i H' _ h => ?_) ?_ ?_
      · obtain ⟨us, _, _, T5⟩ := h
        exact SqL.of (T5.at (by rw [upd_ne pD]; exact upd_same))
      · rintro i x H' hi ⟨us, ul, uo, T5⟩
        obtain ⟨z, hi', rfl⟩ : ∃ z, ws[i]? = some z ∧ V.str z = x := by
          rw [List.getElem?_map] at hi
          cases e : ws[i]? with
          | none => rw [e] at hi; cases hi
          | some n => rw [e] at hi; exact ⟨n, rfl, Option.some.inj hi⟩
        have hil := (List.getElem?_eq_some_iff.mp hi').1
        obtain ⟨zb, zl⟩ := hw z (List.mem_of_getElem? hi')
        refine ⟨rfl, iteT (B := ∃ us : List Str, us.length = i + 1 ∧ WsOk us ∧ Tp (upd (upd B p (.lst (ws.map V.str))) D (.lst (us.map V.str))) H' t (c + 700 + (i + 1))) ?_⟩
        obtain ⟨mx, emx, mx1, mx2⟩ : ∃ mx : Nat, (if (8 : Int) > (z.length : Int) then (8 : Int) else (z.length : Int)) = (mx : Int) ∧ z.length ≤ mx ∧ mx ≤ 60 := by
          by_cases h : (8 : Int) > (z.length : Int)
          · rw [if_pos h]; exact ⟨8, rfl, by omega, by decide⟩
          · rw [if_neg h]; exact ⟨z.length, rfl, Nat.le_refl _, zl⟩
        refine ⟨_, rfl, _, rfl, _, rfl, _, rfl, z, rfl, szle (by omega), _, _, rfl, ?_⟩
        rw [emx]
        refine ⟨_, _, rfl, rfl, _, t, _, 61 - (mx : Int), rfl, T5, by omega, by omega, by omega, fun H6 k T6 k0 k1 => ?_⟩
        obtain ⟨k, rfl⟩ := nat_of k0
        obtain ⟨y1, y2, y3⟩ := cutT_ok k lb
        refine ⟨_, rfl, _, rfl, szle (by omega), _, _, rfl, rfl, szle (by omega), _, T6.at upd_same, szl (by rw [List.length_map]; omega), us ++ [z ++ cutS lg none (some (k : Int))], by rw [List.length_append, ul]; rfl, fun y hy => ?_, ?_⟩
        · rcases List.mem_append.mp hy with e | e
          · exact uo y e
          · rw [List.mem_singleton.mp e]
            exact ⟨isB_app zb y1, by rw [str_app_len]; omega⟩
        · have := T6.set (o' := .lst ((us ++ [z ++ cutS lg none (some (k : Int))]).map V.str)) upd_same
          rw [upd_upd] at this
          rw [List.map_append] at this ⊢
          exact this.le (by omega)
      · rintro H' ⟨us, ul, uo, T5⟩
        rw [List.length_map] at ul T5
        have hpD : (upd (upd B p (.lst (ws.map V.str))) D (.lst (us.map V.str))) = upd (upd B D (.lst (us.map V.str))) p (.lst (ws.map V.str)) := by
          funext a
          by_cases h1 : a = D
          · subst h1; rw [upd_same, upd_ne pD.symm, upd_same]
          · by_cases h2 : a = p
            · subst h2; rw [upd_ne h1, upd_same, upd_same]
            · rw [upd_ne h1, upd_ne h2, upd_ne h2, upd_ne h1]
        rw [hpD] at T5
        have T6 := T5.shrink (same_upd (H := upd B D (.lst (us.map V.str))) (p := p) (by rw [upd_ne pD]; exact hB))
        exact ⟨D, us, _, uo, by omega, hDB, rfl, T6.le (by omega)⟩
    clear T3 hB wl hw p ws
    rintro σ H4 ⟨p, ws, v5, hw, wl, hB, rfl, T4⟩
    have ep := T4.at (upd_same (H := B) (a := p) (o := .lst (ws.map V.str)))
    refine ⟨_, rfl, _, t, _, 2, rfl, T4, by decide, by decide, by omega, fun H5 y T5 _ _ => ⟨rfl, _, rfl, ite2 (fun _ => ?_) (fun _ => ?_)⟩⟩
    · have e5 := T5.at (upd_same (H := B) (a := p) (o := .lst (ws.map V.str)))
      refine ⟨_, rfl, (!(ws.map V.str).isEmpty), .inl ⟨_, SqL.of e5, rfl⟩, ?_⟩
      cases hE : (!(ws.map V.str).isEmpty) with
      | false => exact iteF ⟨_, rfl, q _ p ws (T5.le (by omega)) hB hw (by omega)⟩
      | true =>
      have w1 : 0 < ws.length := by
        cases ws with
        | nil => cases hE
        | cons _ _ => exact Nat.succ_pos _
      refine iteT ⟨_, rfl, _, rfl, _, rfl, p, _, rfl, .inl (SqL.of e5), _, t, _, (ws.length : Int), by rw [List.length_map]; rfl, T5, by omega, by omega, by omega, fun H6 j T6 j0 j1 => ?_⟩
      obtain ⟨j, rfl⟩ := nat_of j0
      have hj : j < ws.length := by omega
      obtain ⟨z0, hz0⟩ : ∃ w, ws[j]? = some w := ⟨ws[j], List.getElem?_eq_getElem hj⟩
      obtain ⟨zb0, zl0⟩ := hw z0 (List.mem_of_getElem? hz0)
      have e6 := T6.at (upd_same (H := B) (a := p) (o := .lst (ws.map V.str)))
      refine ⟨p, _, _, _, rfl, rfl, SqL.of e6, atI_nat (j := j) (by rw [List.getElem?_map, hz0]; rfl), ?_⟩
      refine ⟨_, rfl, _, t, _, 3, rfl, T6, by decide, by decide, by omega, fun H7 kd T7 _ _ => ?_⟩
      refine ⟨fun σ H' => ∃ z : Str, isB z = true ∧ z.length ≤ 60 ∧ σ = [some (.ref t), some (.int (m : Int)), some (.int sh), some (.ref p), none, v5, some (.str z), some (.int kd)] ∧ Tp (upd B p (.lst (ws.map V.str))) H' t (c + 910), ?_, ?_⟩
      · refine ⟨_, rfl, rfl, _, rfl, ite2 (fun _ => ?_) (fun _ => ⟨z0, zb0, zl0, rfl, T7.le (by omega)⟩)⟩
        refine ⟨_, rfl, _, rfl, _, rfl, z0, rfl, szle (by omega), _, _, rfl, rfl, _, t, _, (z0.length : Int) + 1, rfl, T7, by omega, by omega, by omega, fun H8 k T8 k0 k1 => ?_⟩
        obtain ⟨k, rfl⟩ := nat_of k0
        obtain ⟨y1, y2, y3⟩ := cutT_ok k zb0
        exact ⟨_, rfl, _, rfl, szle (by omega), _, y1, by omega, rfl, T8.le (by omega)⟩
      rintro σ H8 ⟨z, zb, zl, rfl, T8⟩
      refine ⟨fun σ H' => ∃ z : Str, isB z = true ∧ z.length ≤ 63 ∧ (z.length ≤ 60) ∧ σ = [some (.ref t), some (.int (m : Int)), some (.int sh), some (.ref p), none, v5, some (.str z), some (.int kd)] ∧ Tp (upd B p (.lst (ws.map V.str))) H' t (c + 920), ?_, ?_⟩
      · refine ⟨_, rfl, rfl, _, rfl, ite2 (fun _ => ?_) (fun _ => ⟨z, zb, by omega, zl, rfl, T8.le (by omega)⟩)⟩
        obtain ⟨mn, emn, mn1, mn2, mn3⟩ : ∃ mn : Nat, (if (61 : Int) - (z.length : Int) < 4 then (61 : Int) - (z.length : Int) else 4) = (mn : Int) ∧ 1 ≤ mn ∧ mn ≤ 4 ∧ z.length + mn ≤ 61 := by
          by_cases h : (61 : Int) - (z.length : Int) < 4
          · rw [if_pos h]; exact ⟨61 - z.length, by omega, by omega, by omega, by omega⟩
          · rw [if_neg h]; exact ⟨4, rfl, by decide, by decide, by omega⟩
        refine ⟨_, rfl, _, rfl, _, rfl, _, rfl, z, rfl, szle (by omega), _, _, rfl, rfl, _, _, rfl, ?_⟩
        rw [emn]
        refine ⟨_, t, _, (mn : Int), rfl, T8, by omega, by omega, by omega, fun H9 k T9 k0 k1 => ?_⟩
        obtain ⟨k, rfl⟩ := nat_of k0
        refine ⟨_, t, _, k, rfl, T9, by omega, by omega, fun H10 u T10 ub ul => ?_⟩
        exact ⟨_, _, rfl, rfl, szle (by omega), _, isB_app zb ub, by rw [str_app_len]; omega, by rw [str_app_len]; omega, rfl, T10.le (by omega)⟩
      clear zb zl T8 z
      rintro σ H9 ⟨z, zb, _, zl, rfl, T9⟩
      have e9 := T9.at (upd_same (H := B) (a := p) (o := .lst (ws.map V.str)))
      refine ⟨_, rfl, .inl ⟨rfl, _, SqL.of e9⟩, _, rfl, _, rfl, p, _, rfl, .inl (SqL.of e9), _, _, rfl, rfl, _, t, _, (ws.length : Int) + 1, by rw [List.length_map]; rfl, T9, by omega, by omega, by omega, fun H10 n2 T10 k0 k1 => ?_⟩
      obtain ⟨n2, rfl⟩ := nat_of k0
      have e10 := T10.at (upd_same (H := B) (a := p) (o := .lst (ws.map V.str)))
      refine ⟨_, rfl, p, _, n2, _, rfl, rfl, e10, szl (by rw [List.length_map]; omega), by omega, by omega, ?_⟩
      have T11 := T10.set (o' := .lst ((ws.map V.str).take ((n2 : Int)).toNat ++ [V.str z] ++ (ws.map V.str).drop ((n2 : Int)).toNat)) upd_same
      rw [upd_upd] at T11
      refine ⟨_, rfl, q _ p (ws.take n2 ++ [z] ++ ws.drop n2) ?_ hB (fun y hy => ?_) ?_⟩
      · rw [List.map_append, List.map_append, List.map_take, List.map_drop]
        exact T11.le (by omega)
      · rcases List.mem_append.mp hy with e | e
        · rcases List.mem_append.mp e with e | e
          · exact hw y (List.mem_of_mem_take e)
          · rw [List.mem_singleton.mp e]; exact ⟨zb, zl⟩
        · exact hw y (List.mem_of_mem_drop e)
      · rw [List.length_append, List.length_append, List.length_take, List.length_drop]
        simp
        omega
    · exact iteF ⟨_, rfl, q _ p ws (T5.le (by omega)) hB hw (by omega)⟩
end

/-! ### is_word -/
def spWordsR : Sp := fun vs H Q _ => ∃ (B : Hp) (t p : Addr) (c : Nat) (ws : List Str), vs = [.ref t, .ref p] ∧ Tp B H t c ∧ c ≤ 5000 ∧ B p = some (.lst (ws.map V.str)) ∧ WsOk ws ∧ ws.length ≤ 60 ∧ ∀ H', Tp B H' t (c + 700) → Q (.bl true) H'
section
variable {P : Program} {w : World} {K : PySem.W.Frag} {mg : Str → Option Value} {base : Heap} {C_Share : Addr} {C_InvalidWords : Addr}
theorem ok_law_words_right {f : Addr} {fd : FuncData} (F : Fun K "_law_words_right" "_law_words_right" s_law_words_right f fd) (T : Txt K mg C_Share) (c_law_draw : Cal P w K mg base 1 "_law_draw" spDraw) (c_law_bits : Cal P w K mg base 2 "_law_bits" spBits) (c_law_thing : Cal P w K mg base 5 "_law_thing" (spStranger K 3)) (c_law_string : Cal P w K mg base 2 "_law_string" spString) (c_law_told_word : Cal P w K mg base 2 "_law_told_word" (spToldW K)) (c_law_is_word : Cal P w K mg base 1 "_law_is_word" (spLIsW K)) : FnOk P w K mg base CX0 6 f fd ["tape", "words"] spWordsR := by
  refine F.ok sc_law_words_right (fun vs H Q E h => ?_) (fun cdv A outer s H vs Q E hr h => ?_)
  · obtain ⟨B, t, p, c, ws, rfl, _⟩ := h
    rfl
  · obtain ⟨B, t, p, c, ws, rfl, T0, hc, hp, hw, wl, q⟩ := h
    refine ⟨_, (pss_cons (ps_set (i := 2) sc_law_words_right.nd rfl (by first | exact Or.inl rfl | exact Or.inr rfl) (pe_c c_law_bits hr (by omega) (by rfl) (pa_cons (pv 0) (pa_cons (pe_c c_law_draw hr (by omega) (by rfl) (pa_cons (pv 0) (pa_cons pe_int pa_nil))) pa_nil))))
    (C8.pss_cut (ps_if (pt_truth (pv 1) (by intro _; rfl))
      (pss_one (ps_set (i := 2) sc_law_words_right.nd rfl (by first | exact Or.inl rfl | exact Or.inr rfl) (pe_ix ix_list (pv 1) (pe_c c_law_draw hr (by omega) (by rfl) (pa_cons (pv 0) (pa_cons (pe_callB call_len_seq (by rfl) T.b_len PySem.boot_len (pa_cons (pv 1) pa_nil)) pa_nil))) (fun _ _ => rfl))))
      pss_nil)
    (pss_cons (ps_set (i := 3) sc_law_words_right.nd rfl (by first | exact Or.inl rfl | exact Or.inr rfl) (pe_c c_law_draw hr (by omega) (by rfl) (pa_cons (pv 0) (pa_cons (pe_op op_add (pe_callB call_len_str (by rfl) T.b_len PySem.boot_len (pa_cons (pv 2) pa_nil)) pe_int) pa_nil))))
    (pss_cons (ps_set (i := 4) sc_law_words_right.nd rfl (by first | exact Or.inl rfl | exact Or.inr rfl) (pe_ix ix_str pe_str (pe_c c_law_draw hr (by omega) (by rfl) (pa_cons (pv 0) (pa_cons pe_int pa_nil))) (fun _ _ => rfl)))
    (pss_cons (ps_set (i := 5) sc_law_words_right.nd rfl (by first | exact Or.inl rfl | exact Or.inr rfl) (pe_lst (pa_cons (pv 2) (pa_cons (pe_op op_add_str (pe_op op_add_str (pe_slice sl_str (pv 2) po_none (po_some (pv 3))) (pv 4)) (pe_slice sl_str (pv 2) (po_some (pv 3)) po_none)) (pa_cons (pe_op op_add_str (pe_op op_add_str (pe_slice sl_str (pv 2) po_none (po_some (pv 3))) (pv 4)) (pe_slice sl_str (pv 2) (po_some (pe_op op_add (pv 3) pe_int)) po_none)) (pa_cons (pe_lst (pa_cons (pv 2) pa_nil)) (pa_cons (pe_tup (pa_cons (pv 2) pa_nil)) (pa_cons (pv 3) (pa_cons pe_str (pa_cons (pe_cmpR op_eq (pv 3) pe_int (nomark _)) (pa_cons (pe_c c_law_thing hr (by omega) (by rfl) (pa_cons (pv 0) (pa_cons pe_int pa_nil))) (pa_cons (pe_c c_law_string hr (by omega) (by rfl) (pa_cons (pv 0) pa_nil)) pa_nil))))))))))))
    (pss_cons (ps_for PassesOwn.never rfl (pi_list (pv 5)) (pg_name (i := 6) sc_law_words_right.nd rfl (by first | exact Or.inl rfl | exact Or.inr rfl))
      (pss_cons (ps_set (i := 7) sc_law_words_right.nd rfl (by first | exact Or.inl rfl | exact Or.inr rfl) (pe_c c_law_told_word hr (by omega) (by rfl) (pa_cons (pv 6) (pa_cons (pe_cmpR op_eq (pe_c c_law_draw hr (by omega) (by rfl) (pa_cons (pv 0) (pa_cons pe_int pa_nil))) pe_int (nomark _)) pa_nil))))
        (pss_one (ps_if (pt_not (pt_ifT (pt_val (pe_c c_law_is_word hr (by omega) (by rfl) (pa_cons (pv 6) pa_nil))) (pt_cmpR op_is_bl (pv 7) pe_bl (nomark _)) (pt_cmpR op_is_bl (pv 7) pe_bl (nomark _))))
          (pss_one (ps_ret pe_bl))
          pss_nil))))
    (pss_one (ps_ret pe_bl)))))))), ?_⟩
    refine ⟨_, rfl, _, rfl, B, t, c, 6, rfl, T0, by decide, by decide, by omega, fun H1 n T1 n0 n1 => ?_⟩
    obtain ⟨n, rfl⟩ := nat_of n0
    refine ⟨B, t, _, n, rfl, T1, by omega, by omega, fun H2 z0 T2 zb0 zl0 => ?_⟩
    refine ⟨fun σ H' => ∃ z : Str, isB z = true ∧ z.length ≤ 60 ∧ σ = [some (.ref t), some (.ref p), some (.str z), none, none, none, none, none] ∧ Tp B H' t (c + 8), ?_, ?_⟩
    · have e2 := T2.at hp
      refine ⟨_, rfl, (!(ws.map V.str).isEmpty), .inl ⟨_, SqL.of e2, rfl⟩, ?_⟩
      cases hE : (!(ws.map V.str).isEmpty) with
      | false => exact iteF ⟨z0, zb0, by omega, rfl, T2.le (by omega)⟩
      | true =>
      have w1 : 0 < ws.length := by
        cases ws with
        | nil => cases hE
        | cons _ _ => exact Nat.succ_pos _
      refine iteT ⟨_, rfl, _, rfl, _, rfl, p, _, rfl, .inl (SqL.of e2), _, t, _, (ws.length : Int), by rw [List.length_map]; rfl, T2, by omega, by omega, by omega, fun H6 j T6 j0 j1 => ?_⟩
      obtain ⟨j, rfl⟩ := nat_of j0
      have hj : j < ws.length := by omega
      obtain ⟨z1, hz1⟩ : ∃ w, ws[j]? = some w := ⟨ws[j], List.getElem?_eq_getElem hj⟩
      obtain ⟨zb1, zl1⟩ := hw z1 (List.mem_of_getElem? hz1)
      exact ⟨p, _, _, _, rfl, rfl, SqL.of (T6.at hp), atI_nat (j := j) (by rw [List.getElem?_map, hz1]; rfl), z1, zb1, zl1, rfl, T6.le (by omega)⟩
    clear zb0 zl0 T1 T2 z0
    rintro σ H2 ⟨z, zb, zl, rfl, T2⟩
    refine ⟨_, rfl, _, rfl, z, rfl, szle (by omega), _, _, rfl, rfl, B, t, _, (z.length : Int) + 1, rfl, T2, by omega, by omega, by omega, fun H4 at_ T4 a0 a1 => ?_⟩
    refine ⟨_, rfl, B, t, _, 10, rfl, T4, by decide, by decide, by omega, fun H5 fi T5 f0 f1 => ?_⟩
    obtain ⟨ch, hch⟩ := at_some (xs := (("2 -+oO,_b\n" : Str)).cps.toList) f0 (by rw [show (((("2 -+oO,_b\n" : Str)).cps.toList.length : Int)) = 10 from rfl]; exact f1)
    refine ⟨_, _, ch, rfl, rfl, szle (by decide), hch, ?_⟩
    have cl1 := cutS_len z none (some at_)
    have cl2 := cutS_len z (some at_) none
    have cl3 := cutS_len z (some (at_ + 1)) none
    have cl4 : ∀ a : Nat, (⟨#[a]⟩ : Str).length = 1 := fun _ => rfl
    have cla : ∀ a b : Str, (a ++ b).length = a.length + b.length := str_app_len
    refine ⟨_, rfl, _, rfl, _, rfl, _, rfl, _, rfl, szle (by omega), _, rfl, _, _, rfl, rfl, szle (by rw [cl4]; omega), _, rfl, _, rfl, _, rfl, _, rfl, szle (by omega), _, _, rfl, rfl, szle (by rw [cla, cl4]; omega), ?_⟩
    refine ⟨_, rfl, _, rfl, _, rfl, _, rfl, szle (by omega), _, rfl, _, _, rfl, rfl, szle (by rw [cl4]; omega), _, rfl, _, rfl, _, _, rfl, rfl, _, rfl, _, rfl, szle (by omega), _, _, rfl, rfl, szle (by rw [cla, cl4]; omega), ?_⟩
    obtain ⟨y1, ey1⟩ : ∃ y1, cutS z none (some at_) ++ (⟨#[ch]⟩ : Str) ++ cutS z (some at_) none = y1 := ⟨_, rfl⟩
    obtain ⟨y2, ey2⟩ : ∃ y2, cutS z none (some at_) ++ (⟨#[ch]⟩ : Str) ++ cutS z (some (at_ + 1)) none = y2 := ⟨_, rfl⟩
    have l1 : y1.length ≤ 1000 := by rw [← ey1, cla, cla, cl4]; omega
    have l2 : y2.length ≤ 1000 := by rw [← ey2, cla, cla, cl4]; omega
    rw [ey1, ey2]
    clear ey1 ey2 cl1 cl2 cl3 cl4 cla
    refine ⟨_, rfl, szle (by show 1 ≤ 16777216; decide), fun la hla => ?_⟩
    have T6 := T5.new (o := .lst [.str z]) hla
    refine ⟨_, rfl, szle (by show 1 ≤ 16777216; decide), fun ta hta => ?_⟩
    have T7 := T6.new (o := .tup [.str z]) hta
    have sB7 : Same B (upd (upd B la (.lst [.str z])) ta (.tup [.str z])) := (same_upd (T5.isn hla)).trans (same_upd (T6.isn hta))
    have ela := same_upd (o := .tup [.str z]) (T6.isn hta) la _ upd_same
    have eta : (upd (upd B la (.lst [.str z])) ta (.tup [.str z])) ta = some (.tup [.str z]) := upd_same
    generalize upd (upd B la (.lst [.str z])) ta (.tup [.str z]) = B7 at T7 sB7 ela eta
    refine ⟨_, rfl, _, rfl, rfl, ?_⟩
    refine ⟨_, rfl, B7, t, _, 2, rfl, by decide, T7, by show c + 8 + 1 + 1 + 30 * 4 ^ 2 < 100000000; omega, fun H8 v d N T8 nw dv okd sd => ?_⟩
    have sN : Same N (mrg B7 N) := mrg_r fun p hp => nw p hp
    have sB : Same B7 (mrg B7 N) := mrg_l
    have ela8 := sB _ _ ela
    have eta8 := sB _ _ eta
    have dv8 := Dp.mono sN _ _ dv
    have sB8 := sB7.trans sB
    generalize mrg B7 N = B8 at T8 ela8 eta8 dv8 sB8
    clear sN sB
    refine ⟨_, rfl, B8, t, _, rfl, T8, by show c + 8 + 1 + 1 + 30 * 4 ^ 2 < 100000000; omega, fun H9 sz T9 hsz => ⟨szle (by show 10 ≤ 16777216; decide), fun vl hvl => ?_⟩⟩
    have T10 := T9.new (o := .lst [.str z, .str y1, .str y2, .ref la, .ref ta, .int at_, .str "", .bl (decide (V.int at_ = V.int 1)), v, .str sz]) hvl
    have sb := same_upd (o := .lst [.str z, .str y1, .str y2, .ref la, .ref ta, .int at_, .str "", .bl (decide (V.int at_ = V.int 1)), v, .str sz]) (T9.isn hvl)
    have hvals : ∀ x ∈ [V.str z, .str y1, .str y2, .ref la, .ref ta, .int at_, .str "", .bl (decide (V.int at_ = V.int 1)), v, .str sz], ∃ d, Dp K (upd B8 vl (.lst [.str z, .str y1, .str y2, .ref la, .ref ta, .int at_, .str "", .bl (decide (V.int at_ = V.int 1)), v, .str sz])) x d ∧ (∀ u, d = .str u → u.length ≤ 100000) := by
      intro x hx
      simp only [List.mem_cons, List.not_mem_nil, or_false] at hx
      rcases hx with e | e | e | e | e | e | e | e | e | e <;> subst e
      · exact ⟨_, .str _, fun u e => by cases e; omega⟩
      · exact ⟨_, .str _, fun u e => by cases e; omega⟩
      · exact ⟨_, .str _, fun u e => by cases e; omega⟩
      · exact ⟨.list [.str z], .lst (SqL.of (sb _ _ ela8)) (.cons (.str _) .nil), fun u e => by cases e⟩
      · exact ⟨.tuple [.str z], .tup (SqT.of (sb _ _ eta8)) (.cons (.str _) .nil), fun u e => by cases e⟩
      · exact ⟨_, .int _, fun u e => by cases e⟩
      · exact ⟨_, .str _, fun u e => by cases e; decide⟩
      · exact ⟨_, .bl _, fun u e => by cases e⟩
      · exact ⟨d, Dp.mono sb _ _ dv8, fun u e => by have := (sd.1 u e).1; omega⟩
      · exact ⟨_, .str _, fun u e => by cases e; have := hsz.1; omega⟩
    have fvl : (upd B8 vl (.lst [.str z, .str y1, .str y2, .ref la, .ref ta, .int at_, .str "", .bl (decide (V.int at_ = V.int 1)), v, .str sz])) vl = some (.lst [.str z, .str y1, .str y2, .ref la, .ref ta, .int at_, .str "", .bl (decide (V.int at_ = V.int 1)), v, .str sz]) := upd_same
    have sB10 := sB8.trans sb
    have hl10 : [V.str z, .str y1, .str y2, .ref la, .ref ta, .int at_, .str "", .bl (decide (V.int at_ = V.int 1)), v, .str sz].length = 10 := rfl
    generalize [V.str z, .str y1, .str y2, .ref la, .ref ta, .int at_, .str "", .bl (decide (V.int at_ = V.int 1)), v, .str sz] = L at *
    generalize upd B8 vl (.lst L) = B10 at *
    refine ⟨_, rfl, vl, rfl, ⟨_, SqL.of (T10.at fvl)⟩, for_list (K := K) (a := vl) (xs := L) (fun i σ H' => ∃ v6 v7 : Option V, σ = [some (.ref t), some (.ref p), some (.str z), some (.int at_), some (.str ⟨#[ch]⟩), some (.ref vl), v6, v7] ∧ Tp B10 H' t (c + 600 + i)) ⟨none, none, rfl, T10.le (by show c + 8 + 1 + 1 + 30 * 4 ^ 2 + 12 ≤ _; omega)⟩ ?_ ?_ ?_⟩
    · rintro i σ H' _ ⟨_, _, _, T11⟩
      exact SqL.of (T11.at fvl)
    · rintro i x σ H' hx ⟨v6, v7, rfl, T11⟩
      obtain ⟨dx, hdx, hxz⟩ := hvals x (List.mem_of_getElem? hx)
      have hi := (List.getElem?_eq_some_iff.mp hx).1
      refine ⟨_, rfl, _, rfl, B10, t, _, 4, rfl, T11, by decide, by decide, by omega, fun H12 y T12 _ _ => ⟨rfl, x, dx, _, rfl, Dp.mono T12.same _ _ hdx, hxz, ?_⟩⟩
      refine ⟨_, rfl, x, dx, rfl, Dp.mono T12.same _ _ hdx, hxz, fun H13 s13 => ⟨_, rfl, ?_⟩⟩
      cases hwd : isW dx with
      | true => exact iteT ⟨_, rfl, _, _, rfl, rfl, _, rfl, iteF ⟨_, _, rfl, (T12.ext s13).le (by omega)⟩⟩
      | false => exact iteF ⟨_, rfl, _, _, rfl, rfl, _, rfl, iteF ⟨_, _, rfl, (T12.ext s13).le (by omega)⟩⟩
    · rintro σ H' ⟨v6, v7, rfl, T11⟩
      exact q _ ((T11.shrink sB10).le (by omega))
end

/-! ### the law asked -/
theorem mkR {ds : List PyData} (hl : ds.length ≤ 100000) (h : ∀ d ∈ ds, okD 4 d = true ∧ ∀ z, d = .str z → TxOk z) : okD 5 (.list ds) = true ∧ shortD (.list ds) ∧ (wordsD (.list ds) = true → ∀ z ∈ wsD (.list ds), z.length ≤ 60) :=
  ⟨okD_mk (n := 4) hl fun d hd => (h d hd).1, fun z hz => by have := ((h _ hz).2 z rfl).1; omega, fun hw z hz => by
    have hw' : ds.all isW = true := hw
    obtain ⟨d, hd, rfl⟩ := List.mem_map.mp (show z ∈ ds.map strD from hz)
    have hd2 := List.all_eq_true.mp hw' d hd
    cases d with
    | str u => exact ((h _ hd).2 u rfl).2 hd2
    | _ => cases hd2⟩
theorem dp_app {K : PySem.W.Frag} {H : Hp} : ∀ {xs ys : List V} {ds es : List PyData}, DpAll K H xs ds → DpAll K H ys es → DpAll K H (xs ++ ys) (ds ++ es)
  | _, _, _, _, .nil, h => h
  | _, _, _, _, .cons a b, h => .cons a (dp_app b h)
theorem thR {d : PyData} (h : S450 d) : shortD d ∧ (wordsD d = true → ∀ z ∈ wsD d, z.length ≤ 60) := by
  have hs : ∀ ds : List PyData, (∀ z, .str z ∈ ds → TxOk z) → ds.all isW = true → ∀ z ∈ ds.map strD, z.length ≤ 60 := fun ds he hw z hz => by
    obtain ⟨d, hd, rfl⟩ := List.mem_map.mp hz
    have hd2 := List.all_eq_true.mp hw d hd
    cases d with
    | str u => exact (he u hd).2 hd2
    | _ => cases hd2
  cases d with
  | list ds => exact ⟨fun z hz => by have := (h.2 z hz).1; omega, fun hw => hs ds h.2 hw⟩
  | tuple ds => exact ⟨fun z hz => by have := (h.2 z hz).1; omega, fun hw => hs ds h.2 hw⟩
  | _ => exact ⟨True.intro, fun hw => by cases hw⟩
theorem wsR {ws : List Str} (hw : WsOk ws) : ∀ d ∈ ws.map PyData.str, okD 4 d = true ∧ ∀ z, d = .str z → TxOk z := fun d hd => by
  obtain ⟨u, hu, rfl⟩ := List.mem_map.mp hd
  exact ⟨rfl, fun z e => by cases e; exact .of (hw u hu).2⟩
def spAsks (K : PySem.W.Frag) : Sp := fun vs H Q _ => ∃ (a : Addr) (ns : List Int), vs = [.ref a] ∧ SqL K H a (ns.map V.int) ∧ ns.length ≤ 63 ∧ ∀ H', Q (.bl true) H'
section
variable {P : Program} {w : World} {K : PySem.W.Frag} {mg : Str → Option Value} {base : Heap} {C_Share : Addr} {C_InvalidWords : Addr}
theorem ok_law_asks {f : Addr} {fd : FuncData} (F : Fun K "_law_asks" "_law_asks" s_law_asks f fd) (T : Txt K mg C_Share) (c_law_tape : Cal P w K mg base 1 "_law_tape" (spTape K)) (c_law_draw : Cal P w K mg base 1 "_law_draw" spDraw) (c_law_drawn_words : Cal P w K mg base 4 "_law_drawn_words" spDrawnW) (c_law_right : Cal P w K mg base 6 "_law_right" (spRight K)) (c_law_words_right : Cal P w K mg base 6 "_law_words_right" spWordsR) (c_law_thing : Cal P w K mg base 6 "_law_thing" (spStranger K 4)) : FnOk P w K mg base CX0 7 f fd ["script"] (spAsks K) := by
  refine F.ok sc_law_asks (fun vs H Q E h => ?_) (fun cdv A outer s H vs Q E hr h => ?_)
  · obtain ⟨a, ns, rfl, _⟩ := h
    rfl
  · obtain ⟨a, ns, rfl, hS, hlen, q⟩ := h
    refine ⟨_, (pss_cons (ps_set (i := 1) sc_law_asks.nd rfl (by first | exact Or.inl rfl | exact Or.inr rfl) (pe_c c_law_tape hr (by omega) (by rfl) (pa_cons (pv 0) pa_nil)))
    (pss_cons (ps_set (i := 2) sc_law_asks.nd rfl (by first | exact Or.inl rfl | exact Or.inr rfl) (pe_c c_law_drawn_words hr (by omega) (by rfl) (pa_cons (pv 1) pa_nil)))
    (pss_cons (ps_set (i := 3) sc_law_asks.nd rfl (by first | exact Or.inl rfl | exact Or.inr rfl) (pe_cmpR op_eq (pe_c c_law_draw hr (by omega) (by rfl) (pa_cons (pv 1) (pa_cons pe_int pa_nil))) pe_int (nomark _)))
    (pss_cons (ps_set (i := 4) sc_law_asks.nd rfl (by first | exact Or.inl rfl | exact Or.inr rfl) (pe_cmpR op_eq (pe_c c_law_draw hr (by omega) (by rfl) (pa_cons (pv 1) (pa_cons pe_int pa_nil))) pe_int (nomark _)))
    (C8.pss_cut (ps_if (pt_not (pt_val (pe_c c_law_right hr (by omega) (by rfl) (pa_cons (pe_ifExp (pt_val (pv 3)) (pe_callTy call_tuple_of (by rfl) T.b_tuple (by decide +kernel) (pa_cons (pv 2) pa_nil)) (pe_callTy call_list_of (by rfl) T.b_list (by decide +kernel) (pa_cons (pv 2) pa_nil))) (pa_cons (pv 4) pa_nil)))))
      (pss_one (ps_ret pe_bl))
      pss_nil)
    (pss_cons (ps_if (pt_not (pt_val (pe_c c_law_words_right hr (by omega) (by rfl) (pa_cons (pv 1) (pa_cons (pv 2) pa_nil)))))
      (pss_one (ps_ret pe_bl))
      pss_nil)
    (pss_cons (ps_set (i := 5) sc_law_asks.nd rfl (by first | exact Or.inl rfl | exact Or.inr rfl) (pe_callTy call_list_of (by rfl) T.b_list (by decide +kernel) (pa_cons (pv 2) pa_nil)))
    (C8.pss_cut (ps_if (pt_cmpR op_lt (pe_callB call_len_seq (by rfl) T.b_len PySem.boot_len (pa_cons (pv 5) pa_nil)) pe_int (nomark _))
      (pss_one (ps_expr (pe_bm PySem.F.plainAttrs_list PySem.F.slot_list_insert PySem.F.type_list_insert mt_insert (pv 5) (pa_cons (pe_c c_law_draw hr (by omega) (by rfl) (pa_cons (pv 1) (pa_cons (pe_op op_add (pe_callB call_len_seq (by rfl) T.b_len PySem.boot_len (pa_cons (pv 5) pa_nil)) pe_int) pa_nil))) (pa_cons pe_str pa_nil)))))
      pss_nil)
    (pss_cons (ps_set (i := 6) sc_law_asks.nd rfl (by first | exact Or.inl rfl | exact Or.inr rfl) (pe_c c_law_draw hr (by omega) (by rfl) (pa_cons (pv 1) (pa_cons (pe_callB (call_max2 rfl) (by rfl) T.b_max (by decide +kernel) (pa_cons pe_int (pa_cons (pe_callB call_len_seq (by rfl) T.b_len PySem.boot_len (pa_cons (pv 5) pa_nil)) pa_nil))) pa_nil))))
    (pss_cons (ps_asg (pe_lst (pa_cons (pe_c c_law_thing hr (by omega) (by rfl) (pa_cons (pv 1) (pa_cons pe_int pa_nil))) pa_nil)) (pg_slice (pv 5) (po_some (pv 6)) (po_some (pe_op op_add (pv 6) pe_int))))
    (C8.pss_cut (ps_if (pt_not (pt_val (pe_c c_law_right hr (by omega) (by rfl) (pa_cons (pe_ifExp (pt_val (pv 3)) (pv 5) (pe_callTy call_tuple_of (by rfl) T.b_tuple (by decide +kernel) (pa_cons (pv 5) pa_nil))) (pa_cons (pe_not (pv 4)) pa_nil)))))
      (pss_one (ps_ret pe_bl))
      pss_nil)
    (C8.pss_cut (ps_if (PW.pt (pw_and (pt_truth (pv 2) (by intro _; rfl)) (pw_and1 (pt_not (pt_val (pe_c c_law_right hr (by omega) (by rfl) (pa_cons (pe_ix ix_list (pv 2) (pe_op op_mod (pv 6) (pe_callB call_len_seq (by rfl) T.b_len PySem.boot_len (pa_cons (pv 2) pa_nil))) (fun _ _ => rfl)) (pa_cons (pv 4) pa_nil))))))))
      (pss_one (ps_ret pe_bl))
      pss_nil)
    (pss_one (ps_ret (pe_and (pe_c c_law_right hr (by omega) (by rfl) (pa_cons (pe_c c_law_thing hr (by omega) (by rfl) (pa_cons (pv 1) (pa_cons pe_int pa_nil))) (pa_cons (pv 4) pa_nil))) (pe_and (pe_c c_law_right hr (by omega) (by rfl) (pa_cons (pe_lst pa_nil) (pa_cons (pv 4) pa_nil))) (pe_one (pe_c c_law_right hr (by omega) (by rfl) (pa_cons (pe_tup pa_nil) (pa_cons (pv 4) pa_nil)))))))))))))))))))), ?_⟩
    refine ⟨_, rfl, a, ns, rfl, hS, hlen, fun H0 t T0 => ?_⟩
    refine ⟨_, rfl, H, t, 0, rfl, T0, by decide, fun H1 p ws T1 hB hw wl => ?_⟩
    refine ⟨_, rfl, _, t, _, 2, rfl, T1, by decide, by decide, by decide, fun H2 y T2 _ _ => ⟨rfl, ?_⟩⟩
    refine ⟨_, rfl, _, t, _, 2, rfl, T2, by decide, by decide, by decide, fun H3 y' T3 _ _ => ⟨rfl, ?_⟩⟩
    generalize decide (V.int y = V.int 1) = tp
    generalize decide (V.int y' = V.int 1) = nm
    have e3 := T3.at (upd_same (H := H) (a := p) (o := .lst (ws.map V.str)))
    have hpB : (upd H p (.lst (ws.map V.str))) p = some (.lst (ws.map V.str)) := upd_same
    generalize upd H p (.lst (ws.map V.str)) = B1 at T3 hpB
    obtain ⟨r1, r2, r3⟩ := mkR (ds := ws.map PyData.str) (by rw [List.length_map]; omega) (wsR hw)
    refine ⟨fun σ H' => σ = [some (.ref a), some (.ref t), some (.ref p), some (.bl tp), some (.bl nm), none, none] ∧ Tp B1 H' t 2010, ?_, ?_⟩
    · cases tp
      · refine ⟨_, rfl, _, rfl, iteF ⟨_, rfl, p, _, rfl, .inl (SqL.of e3), fun l hl => ?_⟩⟩
        exact ⟨_, rfl, _, .list (ws.map PyData.str), nm, rfl, .lst (SqL.of upd_same) (dp_strs ws), r1, r2, r3, fun H' s' => ⟨_, rfl, iteF ⟨rfl, (T3.ext ((same_upd hl).trans s')).le (by decide)⟩⟩⟩
      · refine ⟨_, rfl, _, rfl, iteT ⟨_, rfl, p, _, rfl, .inl ⟨SqL.of e3, fun l hl => ?_⟩⟩⟩
        exact ⟨_, rfl, _, .tuple (ws.map PyData.str), nm, rfl, .tup (SqT.of upd_same) (dp_strs ws), r1, r2, r3, fun H' s' => ⟨_, rfl, iteF ⟨rfl, (T3.ext ((same_upd hl).trans s')).le (by decide)⟩⟩⟩
    clear T1 T2 T3 e3
    rintro σ H4 ⟨rfl, T4⟩
    refine ⟨_, rfl, _, rfl, B1, t, p, _, ws, rfl, T4, by decide, hpB, hw, wl, fun H5 T5 => ⟨_, rfl, iteF ?_⟩⟩
    refine ⟨_, rfl, p, _, rfl, .inl (SqL.of (T5.at hpB)), fun l hl => ?_⟩
    have T6 := T5.new (o := .lst (ws.map V.str)) hl
    have hlB : B1 l = none := T5.isn hl
    refine ⟨fun σ H' => ∃ us : List Str, WsOk us ∧ 1 ≤ us.length ∧ us.length ≤ 60 ∧ σ = [some (.ref a), some (.ref t), some (.ref p), some (.bl tp), some (.bl nm), some (.ref l), none] ∧ Tp (upd B1 l (.lst (us.map V.str))) H' t 2800, ?_, ?_⟩
    · have e6 := T6.at (upd_same (H := B1) (a := l) (o := .lst (ws.map V.str)))
      refine ⟨_, rfl, l, _, rfl, .inl (SqL.of e6), _, _, rfl, rfl, _, rfl, ite2 (fun h => ?_) (fun h => ⟨ws, hw, ?_, wl, rfl, T6.le (by decide)⟩)⟩
      · have h60 := of_decide_eq_true h
        rw [List.length_map] at h60
        refine ⟨_, rfl, .inl ⟨rfl, _, SqL.of e6⟩, _, rfl, _, rfl, l, _, rfl, .inl (SqL.of e6), _, _, rfl, rfl, _, t, _, (ws.length : Int) + 1, by rw [List.length_map]; rfl, T6, by omega, by omega, by decide, fun H7 n2 T7 k0 k1 => ?_⟩
        obtain ⟨n2, rfl⟩ := nat_of k0
        have e7 := T7.at (upd_same (H := B1) (a := l) (o := .lst (ws.map V.str)))
        refine ⟨l, _, n2, _, rfl, rfl, e7, szl (by rw [List.length_map]; omega), by omega, by omega, ?_⟩
        have T8 := T7.set (o' := .lst ((ws.map V.str).take ((n2 : Int)).toNat ++ [V.str ""] ++ (ws.map V.str).drop ((n2 : Int)).toNat)) upd_same
        rw [upd_upd] at T8
        refine ⟨ws.take n2 ++ [("" : Str)] ++ ws.drop n2, fun y hy => ?_, by simp; omega, ?_, rfl, ?_⟩
        · rcases List.mem_append.mp hy with e | e
          · rcases List.mem_append.mp e with e | e
            · exact hw y (List.mem_of_mem_take e)
            · rw [List.mem_singleton.mp e]; exact ⟨rfl, by decide⟩
          · exact hw y (List.mem_of_mem_drop e)
        · rw [List.length_append, List.length_append, List.length_take, List.length_drop]
          simp
          omega
        · rw [List.map_append, List.map_append, List.map_take, List.map_drop]
          exact T8.le (by decide)
      · have h60 : ¬ ((ws.map V.str).length : Int) < 60 := fun e => h (decide_eq_true e)
        rw [List.length_map] at h60
        omega
    clear T6
    rintro σ H6 ⟨us, hu, u1, u60, rfl, T6⟩
    have e6 := T6.at (upd_same (H := B1) (a := l) (o := .lst (us.map V.str)))
    have emx : (if ((us.map V.str).length : Int) > 1 then ((us.map V.str).length : Int) else 1) = (us.length : Int) := by
      rw [List.length_map]
      by_cases h : (us.length : Int) > 1
      · rw [if_pos h]
      · rw [if_neg h]; omega
    refine ⟨_, rfl, _, rfl, l, _, rfl, .inl (SqL.of e6), _, _, rfl, ?_⟩
    rw [emx]
    refine ⟨_, t, _, (us.length : Int), rfl, T6, by omega, by omega, by decide, fun H7 k T7 k0 k1 => ?_⟩
    obtain ⟨k, rfl⟩ := nat_of k0
    refine ⟨_, rfl, _, t, _, 1, rfl, by decide, T7, by decide, fun H8 v d N T8 nw dv okd sd => ?_⟩
    refine ⟨szle (by show 1 ≤ 16777216; decide), fun bl hbl => ?_⟩
    have hNl : N l = none := nw.off upd_same
    have sN : Same N (mrg (upd B1 l (.lst (us.map V.str))) N) := mrg_r fun x hx => nw x hx
    have sB : Same (upd B1 l (.lst (us.map V.str))) (mrg (upd B1 l (.lst (us.map V.str))) N) := mrg_l
    have pl : p ≠ l := ne_of_none hpB hlB
    have fl8 := sB _ _ upd_same
    have fp8 := sB _ _ (by rw [upd_ne pl]; exact hpB)
    generalize mrg (upd B1 l (.lst (us.map V.str))) N = B8 at T8 sN sB fl8 fp8
    have T9 := T8.new (o := .lst [v]) hbl
    have nbl : B8 bl = none := T8.isn hbl
    have lb : l ≠ bl := ne_of_none fl8 nbl
    have pb : p ≠ bl := ne_of_none fp8 nbl
    have e9 := T9.at (show upd B8 bl (.lst [v]) l = some (.lst (us.map V.str)) by rw [upd_ne lb]; exact fl8)
    have kl : k + 1 ≤ us.length := by omega
    refine ⟨_, rfl, _, rfl, _, rfl, _, rfl, _, _, rfl, rfl, _, rfl, l, bl, _, _, _, _, rfl, rfl, rfl, rfl, e9, upd_same, lb, by omega, by omega, by rw [List.length_map]; omega, szle (by rw [List.length_map]; show us.length + 1 ≤ _; omega), ?_⟩
    have T10 := T9.set (o' := .lst ((us.map V.str).take ((k : Int)).toNat ++ [v] ++ (us.map V.str).drop ((k : Int) + 1).toNat)) (show upd B8 bl (.lst [v]) l = some (.lst (us.map V.str)) by rw [upd_ne lb]; exact fl8)
    have exs : (us.map V.str).take ((k : Int)).toNat ++ [v] ++ (us.map V.str).drop ((k : Int) + 1).toNat = ((us.take k).map V.str ++ [v]) ++ (us.drop (k + 1)).map V.str := by
      rw [show ((k : Int)).toNat = k from rfl, show ((k : Int) + 1).toNat = k + 1 by omega, List.map_take, List.map_drop]
    rw [exs] at T10 ⊢
    have sN10 : Same N (upd (upd B8 bl (.lst [v])) l (.lst (((us.take k).map V.str ++ [v]) ++ (us.drop (k + 1)).map V.str))) := fun x o e => by
      have h1 : x ≠ l := fun ex => by rw [ex, hNl] at e; cases e
      have h2 : x ≠ bl := fun ex => by have := sN _ _ e; rw [ex, nbl] at this; cases this
      rw [upd_ne h1, upd_ne h2]
      exact sN _ _ e
    have fl10 : (upd (upd B8 bl (.lst [v])) l (.lst (((us.take k).map V.str ++ [v]) ++ (us.drop (k + 1)).map V.str))) l = some (.lst (((us.take k).map V.str ++ [v]) ++ (us.drop (k + 1)).map V.str)) := upd_same
    have fp10 : (upd (upd B8 bl (.lst [v])) l (.lst (((us.take k).map V.str ++ [v]) ++ (us.drop (k + 1)).map V.str))) p = some (.lst (ws.map V.str)) := by rw [upd_ne pl, upd_ne pb]; exact fp8
    have dv10 := Dp.mono sN10 _ _ dv
    generalize upd (upd B8 bl (.lst [v])) l (.lst (((us.take k).map V.str ++ [v]) ++ (us.drop (k + 1)).map V.str)) = B10 at T10 fl10 fp10 dv10
    have dall : DpAll K B10 (((us.take k).map V.str ++ [v]) ++ (us.drop (k + 1)).map V.str) (((us.take k).map PyData.str ++ [d]) ++ (us.drop (k + 1)).map PyData.str) := dp_app (dp_app (dp_strs _) (.cons dv10 .nil)) (dp_strs _)
    obtain ⟨t1, t2, t3⟩ := mkR (ds := ((us.take k).map PyData.str ++ [d]) ++ (us.drop (k + 1)).map PyData.str) (by
      rw [List.length_append, List.length_append, List.length_map, List.length_map, List.length_take, List.length_drop]
      show _ + 1 + _ ≤ _
      omega) (fun e he => by
      rcases List.mem_append.mp he with h | h
      · rcases List.mem_append.mp h with h | h
        · exact wsR (fun z hz => hu z (List.mem_of_mem_take hz)) e h
        · rw [List.mem_singleton.mp h]; exact ⟨okD_up okd, sd.1⟩
      · exact wsR (fun z hz => hu z (List.mem_of_mem_drop hz)) e h)
    generalize ((us.take k).map PyData.str ++ [d]) ++ (us.drop (k + 1)).map PyData.str = ds at dall t1 t2 t3
    generalize ((us.take k).map V.str ++ [v]) ++ (us.drop (k + 1)).map V.str = xs at T10 fl10 dall
    clear T8 T9 exs sN10 sN sB e9 dv10 fl8 fp8
    refine ⟨fun σ H' => σ = [some (.ref a), some (.ref t), some (.ref p), some (.bl tp), some (.bl nm), some (.ref l), some (.int (k : Int))] ∧ Tp B10 H' t 3000, ?_, ?_⟩
    · cases tp
      · refine ⟨_, rfl, _, rfl, iteF ⟨_, rfl, l, _, rfl, .inl ⟨SqL.of (T10.at fl10), fun l2 hl2 => ?_⟩⟩⟩
        exact ⟨_, rfl, _, rfl, _, .tuple ds, !nm, rfl, .tup (SqT.of upd_same) (DpAll.mono (T10.same.trans (same_upd hl2)) _ _ dall), t1, t2, t3, fun H' s' => ⟨_, rfl, iteF ⟨rfl, (T10.ext ((same_upd hl2).trans s')).le (by decide)⟩⟩⟩
      · exact ⟨_, rfl, _, rfl, iteT ⟨_, rfl, _, rfl, _, rfl, _, .list ds, !nm, rfl, .lst (SqL.of (T10.at fl10)) (DpAll.mono T10.same _ _ dall), t1, t2, t3, fun H' s' => ⟨_, rfl, iteF ⟨rfl, (T10.ext s').le (by decide)⟩⟩⟩⟩
    clear T10
    rintro σ H10 ⟨rfl, T10⟩
    have e10 := T10.at fp10
    refine ⟨fun σ H' => σ = [some (.ref a), some (.ref t), some (.ref p), some (.bl tp), some (.bl nm), some (.ref l), some (.int (k : Int))] ∧ Tp B10 H' t 3000, ?_, ?_⟩
    · refine ⟨_, rfl, (!(ws.map V.str).isEmpty), .inl ⟨_, SqL.of e10, rfl⟩, ?_⟩
      cases hE : (!(ws.map V.str).isEmpty) with
      | false => exact iteF ⟨rfl, T10⟩
      | true =>
      have w1 : 0 < ws.length := by
        cases ws with
        | nil => cases hE
        | cons _ _ => exact Nat.succ_pos _
      obtain ⟨j, hj⟩ := nat_of (Int.emod_nonneg (k : Int) (show (ws.length : Int) ≠ 0 by omega))
      have hj2 : j < ws.length := by have := Int.emod_lt_of_pos (k : Int) (show (0 : Int) < (ws.length : Int) by omega); omega
      obtain ⟨z, hz⟩ : ∃ w, ws[j]? = some w := ⟨ws[j], List.getElem?_eq_getElem hj2⟩
      refine iteT ⟨_, rfl, _, rfl, _, rfl, p, _, rfl, .inl (SqL.of e10), _, _, rfl, rfl, by rw [List.length_map]; omega, p, _, _, _, rfl, rfl, SqL.of e10, (by rw [List.length_map, hj]; exact atI_nat (j := j) (by rw [List.getElem?_map, hz]; rfl)), _, rfl, .str z, .str z, nm, rfl, .str z, rfl, True.intro, (fun h => by cases h), fun H' s' => ⟨_, rfl, iteF ⟨rfl, T10.ext s'⟩⟩⟩
    clear T10 e10
    rintro σ H11 ⟨rfl, T11⟩
    refine ⟨_, rfl, B10, t, _, 3, rfl, by decide, T11, by decide, fun H12 v2 d2 N2 T12 nw2 dv2 okd2 sd2 => ?_⟩
    have sN2 : Same N2 (mrg B10 N2) := mrg_r fun x hx => nw2 x hx
    obtain ⟨g1, g2⟩ := thR sd2
    refine ⟨_, rfl, v2, d2, nm, rfl, Dp.mono (sN2.trans T12.same) _ _ dv2, okd2, g1, g2, fun H13 s13 => ⟨_, rfl, iteT ?_⟩⟩
    refine ⟨szle (by show 0 ≤ 16777216; decide), fun l3 hl3 => ⟨_, rfl, _, .list [], nm, rfl, .lst (SqL.of upd_same) .nil, rfl, (fun z hz => by cases hz), (fun _ z hz => by cases hz), fun H14 s14 => ⟨_, rfl, iteT ?_⟩⟩⟩
    exact ⟨szle (by show 0 ≤ 16777216; decide), fun t3 ht3 => ⟨_, rfl, _, .tuple [], nm, rfl, .tup (SqT.of upd_same) .nil, rfl, (fun z hz => by cases hz), (fun _ z hz => by cases hz), fun H15 _ => q H15⟩⟩
end

abbrev spLaw := spAsks
section
variable {P : Program} {w : World} {K : PySem.W.Frag} {mg : Str → Option Value} {base : Heap} {C_Share : Addr}
theorem ok_law {f : Addr} {fd : FuncData} (F : Fun K "law" "law" s_law f fd) (T : Txt K mg C_Share) (c_law_asks : Cal P w K mg base 7 "_law_asks" (spAsks K)) : FnOk P w K mg base CX0 8 f fd ["script"] (spLaw K) := by
  refine F.ok sc_law (fun vs H Q E h => ?_) (fun cdv A outer s H vs Q E hr h => ?_)
  · obtain ⟨a, ns, rfl, _⟩ := h
    rfl
  · obtain ⟨a, ns, rfl, hS, hlen, q⟩ := h
    refine ⟨_, (pss_one (ps_try_thru0
      (pss_one (ps_ret (pe_c c_law_asks hr (by omega) (by rfl) (pa_cons (pv 0) pa_nil)))))), ?_⟩
    exact ⟨_, rfl, a, ns, rfl, hS, hlen, fun H' => q H'⟩
end

theorem all_mk {l : PySem.W.OpenLaw} {w : World} {K : PySem.W.Frag} {h : Heap} {mg : Str → Option Value} {fa f_is_sequence f_Share___init__ f_sum_of_halves f_is_word f_check_words f_first_clash f_share_of f_law_tape f_law_draw f_law_integer f_law_string f_law_thing f_law_copy f_law_same f_law_is_word f_law_are_words f_law_bits f_law_leaves f_law_drawn_words f_law_clash f_law_sum f_law_told_clash f_law_told_share f_law_right f_law_told_word f_law_words_right f_law_asks f_law C_InvalidNumber C_InvalidWords C_Share : Addr} (X : K.In h) (G : h.Ns mainGlobals mg) (hfa : mg "law" = some (.ref fa))
    {nm_InvalidNumber qn_InvalidNumber : Str} {N_InvalidNumber B_InvalidNumber : Addr} {bs_InvalidNumber sub_InvalidNumber : List Value} {sn_InvalidNumber : List Str} {ab_InvalidNumber : Bool} {col_InvalidNumber : Option Bool} {dd_InvalidNumber : Option Addr} {m0_InvalidNumber m1_InvalidNumber m2_InvalidNumber m3_InvalidNumber m5_InvalidNumber : Option Value} {oc_InvalidNumber dc_InvalidNumber pm_InvalidNumber ct_InvalidNumber ccl_InvalidNumber cl_InvalidNumber : Value} {od_InvalidNumber an_InvalidNumber cdd_InvalidNumber cld_InvalidNumber : Option Addr} {sl_InvalidNumber ccs_InvalidNumber csl_InvalidNumber : Array (Option Value)} {f_InvalidNumber cda_InvalidNumber cc_InvalidNumber : Addr} {vs_InvalidNumber : Array Value} {file_InvalidNumber : Str} {tf_InvalidNumber : Tok}
    {nm_InvalidWords qn_InvalidWords : Str} {N_InvalidWords B_InvalidWords : Addr} {bs_InvalidWords sub_InvalidWords : List Value} {sn_InvalidWords : List Str} {ab_InvalidWords : Bool} {col_InvalidWords : Option Bool} {dd_InvalidWords : Option Addr} {m0_InvalidWords m1_InvalidWords m2_InvalidWords m3_InvalidWords m5_InvalidWords : Option Value} {oc_InvalidWords dc_InvalidWords pm_InvalidWords ct_InvalidWords ccl_InvalidWords cl_InvalidWords : Value} {od_InvalidWords an_InvalidWords cdd_InvalidWords cld_InvalidWords : Option Addr} {sl_InvalidWords ccs_InvalidWords csl_InvalidWords : Array (Option Value)} {f_InvalidWords cda_InvalidWords cc_InvalidWords : Addr} {vs_InvalidWords : Array Value} {file_InvalidWords : Str} {tf_InvalidWords : Tok}
    {od_is_sequence an_is_sequence : Option Addr} {sl_is_sequence : Array (Option Value)} {oc_is_sequence kV_is_sequence dc_is_sequence pm_is_sequence cd_is_sequence ct_is_sequence : Value}
    {od_Share___init__ an_Share___init__ : Option Addr} {sl_Share___init__ : Array (Option Value)} {oc_Share___init__ kV_Share___init__ dc_Share___init__ pm_Share___init__ cd_Share___init__ ct_Share___init__ : Value}
    {od_sum_of_halves an_sum_of_halves : Option Addr} {sl_sum_of_halves : Array (Option Value)} {oc_sum_of_halves kV_sum_of_halves dc_sum_of_halves pm_sum_of_halves cd_sum_of_halves ct_sum_of_halves : Value}
    {od_is_word an_is_word : Option Addr} {sl_is_word : Array (Option Value)} {oc_is_word kV_is_word dc_is_word pm_is_word cd_is_word ct_is_word : Value}
    {od_check_words an_check_words : Option Addr} {sl_check_words : Array (Option Value)} {oc_check_words kV_check_words dc_check_words pm_check_words cd_check_words ct_check_words : Value}
    {od_first_clash an_first_clash : Option Addr} {sl_first_clash : Array (Option Value)} {oc_first_clash kV_first_clash dc_first_clash pm_first_clash cd_first_clash ct_first_clash : Value}
    {od_share_of an_share_of : Option Addr} {sl_share_of : Array (Option Value)} {oc_share_of kV_share_of dc_share_of pm_share_of cd_share_of ct_share_of : Value}
    {od_law_tape an_law_tape : Option Addr} {sl_law_tape : Array (Option Value)} {oc_law_tape kV_law_tape dc_law_tape pm_law_tape cd_law_tape ct_law_tape : Value}
    {od_law_draw an_law_draw : Option Addr} {sl_law_draw : Array (Option Value)} {oc_law_draw kV_law_draw dc_law_draw pm_law_draw cd_law_draw ct_law_draw : Value}
    {od_law_integer an_law_integer : Option Addr} {sl_law_integer : Array (Option Value)} {oc_law_integer kV_law_integer dc_law_integer pm_law_integer cd_law_integer ct_law_integer : Value}
    {od_law_string an_law_string : Option Addr} {sl_law_string : Array (Option Value)} {oc_law_string kV_law_string dc_law_string pm_law_string cd_law_string ct_law_string : Value}
    {od_law_thing an_law_thing : Option Addr} {sl_law_thing : Array (Option Value)} {oc_law_thing kV_law_thing dc_law_thing pm_law_thing cd_law_thing ct_law_thing : Value}
    {od_law_copy an_law_copy : Option Addr} {sl_law_copy : Array (Option Value)} {oc_law_copy kV_law_copy dc_law_copy pm_law_copy cd_law_copy ct_law_copy : Value}
    {od_law_same an_law_same : Option Addr} {sl_law_same : Array (Option Value)} {oc_law_same kV_law_same dc_law_same pm_law_same cd_law_same ct_law_same : Value}
    {od_law_is_word an_law_is_word : Option Addr} {sl_law_is_word : Array (Option Value)} {oc_law_is_word kV_law_is_word dc_law_is_word pm_law_is_word cd_law_is_word ct_law_is_word : Value}
    {od_law_are_words an_law_are_words : Option Addr} {sl_law_are_words : Array (Option Value)} {oc_law_are_words kV_law_are_words dc_law_are_words pm_law_are_words cd_law_are_words ct_law_are_words : Value}
    {od_law_bits an_law_bits : Option Addr} {sl_law_bits : Array (Option Value)} {oc_law_bits kV_law_bits dc_law_bits pm_law_bits cd_law_bits ct_law_bits : Value}
    {od_law_leaves an_law_leaves : Option Addr} {sl_law_leaves : Array (Option Value)} {oc_law_leaves kV_law_leaves dc_law_leaves pm_law_leaves cd_law_leaves ct_law_leaves : Value}
    {od_law_drawn_words an_law_drawn_words : Option Addr} {sl_law_drawn_words : Array (Option Value)} {oc_law_drawn_words kV_law_drawn_words dc_law_drawn_words pm_law_drawn_words cd_law_drawn_words ct_law_drawn_words : Value}
    {od_law_clash an_law_clash : Option Addr} {sl_law_clash : Array (Option Value)} {oc_law_clash kV_law_clash dc_law_clash pm_law_clash cd_law_clash ct_law_clash : Value}
    {od_law_sum an_law_sum : Option Addr} {sl_law_sum : Array (Option Value)} {oc_law_sum kV_law_sum dc_law_sum pm_law_sum cd_law_sum ct_law_sum : Value}
    {od_law_told_clash an_law_told_clash : Option Addr} {sl_law_told_clash : Array (Option Value)} {oc_law_told_clash kV_law_told_clash dc_law_told_clash pm_law_told_clash cd_law_told_clash ct_law_told_clash : Value}
    {od_law_told_share an_law_told_share : Option Addr} {sl_law_told_share : Array (Option Value)} {oc_law_told_share kV_law_told_share dc_law_told_share pm_law_told_share cd_law_told_share ct_law_told_share : Value}
    {od_law_right an_law_right : Option Addr} {sl_law_right : Array (Option Value)} {oc_law_right kV_law_right dc_law_right pm_law_right cd_law_right ct_law_right : Value}
    {od_law_told_word an_law_told_word : Option Addr} {sl_law_told_word : Array (Option Value)} {oc_law_told_word kV_law_told_word dc_law_told_word pm_law_told_word cd_law_told_word ct_law_told_word : Value}
    {od_law_words_right an_law_words_right : Option Addr} {sl_law_words_right : Array (Option Value)} {oc_law_words_right kV_law_words_right dc_law_words_right pm_law_words_right cd_law_words_right ct_law_words_right : Value}
    {od_law_asks an_law_asks : Option Addr} {sl_law_asks : Array (Option Value)} {oc_law_asks kV_law_asks dc_law_asks pm_law_asks cd_law_asks ct_law_asks : Value}
    {od_law an_law : Option Addr} {sl_law : Array (Option Value)} {oc_law kV_law dc_law pm_law cd_law ct_law : Value}
    (aC_Share : PySem.W.nsIn K mainGlobals "Share" = some (some (.ref C_Share)))
    (aG : PySem.W.nsIn K mainGlobals "gcd" = some (some (.builtin "math.gcd")))
    (xgC_InvalidNumber : PySem.W.nsIn K mainGlobals "InvalidNumber" = some (some (.ref C_InvalidNumber)))
    (xxL_InvalidNumber : K.lookup C_InvalidNumber = some (excClassObj nm_InvalidNumber qn_InvalidNumber C_InvalidNumber N_InvalidNumber bs_InvalidNumber [.ref B_InvalidNumber, .type "ValueError", .type "Exception", .type "BaseException", .type "object"] true sn_InvalidNumber sub_InvalidNumber ab_InvalidNumber col_InvalidNumber dd_InvalidNumber m0_InvalidNumber m1_InvalidNumber m2_InvalidNumber m3_InvalidNumber m5_InvalidNumber "ValueError.__new__"))
    (xsa_InvalidNumber : PySem.W.findIn K (.ref C_InvalidNumber) "__setattr__" = some (some (.builtin "object.__setattr__")))
    (xga_InvalidNumber : PySem.W.findIn K (.ref C_InvalidNumber) "__getattribute__" = some (some (.builtin "BaseException.__getattribute__")))
    (xgg_InvalidNumber : PySem.W.findIn K (.ref C_InvalidNumber) "__getattr__" = some none)
    (xiC_InvalidNumber : PySem.W.findIn K (.ref C_InvalidNumber) "__init__" = some (some (.ref f_InvalidNumber)))
    (xtI_InvalidNumber : PySem.W.typeIn K (.ref f_InvalidNumber) = some (.type "function"))
    (xkC_InvalidNumber : PySem.W.keepIn K (.ref C_InvalidNumber) = true)
    (xeC_InvalidNumber : PySem.W.subIn K (.ref C_InvalidNumber) (.type "BaseException") = some true)
    (xvC_InvalidNumber : PySem.W.subIn K (.ref C_InvalidNumber) (.type "ValueError") = some true)
    (xse_InvalidNumber : PySem.W.mroIn K C_InvalidNumber (.ref C_InvalidNumber) = some true)
    (xtC_InvalidNumber : PySem.W.typeIn K (.ref C_InvalidNumber) = some (.type "type"))
    (xhC_InvalidNumber : PySem.W.hasDictIn K C_InvalidNumber = true)
    (xcC_InvalidNumber : PySem.W.isClsIn K C_InvalidNumber = true)
    (xsC_InvalidNumber : PySem.W.subIn K (.ref C_InvalidNumber) (.ref C_InvalidNumber) = some true)
    (xlI_InvalidNumber : K.lookup f_InvalidNumber = some ⟨oc_InvalidNumber, od_InvalidNumber, .func (PySem.W.ksFn "__init__" "InvalidNumber.__init__" (defArgs s_InvalidNumber___init__) (defBody s_InvalidNumber___init__) (defScope s_InvalidNumber___init__) .none .none dc_InvalidNumber pm_InvalidNumber an_InvalidNumber (.ref cda_InvalidNumber) ct_InvalidNumber cc_InvalidNumber), sl_InvalidNumber⟩)
    (xcI_InvalidNumber : PySem.W.codeIn K (.ref cda_InvalidNumber) "InvalidNumber.__init__" = true)
    (xcd_InvalidNumber : K.lookup cda_InvalidNumber = some ⟨ccl_InvalidNumber, cdd_InvalidNumber, .fields vs_InvalidNumber, ccs_InvalidNumber⟩)
    (xcc_InvalidNumber : K.lookup cc_InvalidNumber = some ⟨cl_InvalidNumber, cld_InvalidNumber, .cell (some (.ref C_InvalidNumber)), csl_InvalidNumber⟩)
    (xfi_InvalidNumber : vs_InvalidNumber[2]? = some (.str file_InvalidNumber tf_InvalidNumber))
    (xff_InvalidNumber : ((l.prog.main.file : Str) == file_InvalidNumber) = true)
    (xup_InvalidNumber : PySem.W.ks_superIn K C_InvalidNumber C_InvalidNumber "__init__" = some (some (.builtin "ValueError.__init__")))
    (xn_InvalidNumber_number : PySem.W.findIn K (.ref C_InvalidNumber) "number" = some none)
    (xgC_InvalidWords : PySem.W.nsIn K mainGlobals "InvalidWords" = some (some (.ref C_InvalidWords)))
    (xxL_InvalidWords : K.lookup C_InvalidWords = some (excClassObj nm_InvalidWords qn_InvalidWords C_InvalidWords N_InvalidWords bs_InvalidWords [.ref B_InvalidWords, .type "ValueError", .type "Exception", .type "BaseException", .type "object"] true sn_InvalidWords sub_InvalidWords ab_InvalidWords col_InvalidWords dd_InvalidWords m0_InvalidWords m1_InvalidWords m2_InvalidWords m3_InvalidWords m5_InvalidWords "ValueError.__new__"))
    (xsa_InvalidWords : PySem.W.findIn K (.ref C_InvalidWords) "__setattr__" = some (some (.builtin "object.__setattr__")))
    (xga_InvalidWords : PySem.W.findIn K (.ref C_InvalidWords) "__getattribute__" = some (some (.builtin "BaseException.__getattribute__")))
    (xgg_InvalidWords : PySem.W.findIn K (.ref C_InvalidWords) "__getattr__" = some none)
    (xiC_InvalidWords : PySem.W.findIn K (.ref C_InvalidWords) "__init__" = some (some (.ref f_InvalidWords)))
    (xtI_InvalidWords : PySem.W.typeIn K (.ref f_InvalidWords) = some (.type "function"))
    (xkC_InvalidWords : PySem.W.keepIn K (.ref C_InvalidWords) = true)
    (xeC_InvalidWords : PySem.W.subIn K (.ref C_InvalidWords) (.type "BaseException") = some true)
    (xvC_InvalidWords : PySem.W.subIn K (.ref C_InvalidWords) (.type "ValueError") = some true)
    (xse_InvalidWords : PySem.W.mroIn K C_InvalidWords (.ref C_InvalidWords) = some true)
    (xtC_InvalidWords : PySem.W.typeIn K (.ref C_InvalidWords) = some (.type "type"))
    (xhC_InvalidWords : PySem.W.hasDictIn K C_InvalidWords = true)
    (xcC_InvalidWords : PySem.W.isClsIn K C_InvalidWords = true)
    (xsC_InvalidWords : PySem.W.subIn K (.ref C_InvalidWords) (.ref C_InvalidWords) = some true)
    (xlI_InvalidWords : K.lookup f_InvalidWords = some ⟨oc_InvalidWords, od_InvalidWords, .func (PySem.W.ksFn "__init__" "InvalidWords.__init__" (defArgs s_InvalidWords___init__) (defBody s_InvalidWords___init__) (defScope s_InvalidWords___init__) .none .none dc_InvalidWords pm_InvalidWords an_InvalidWords (.ref cda_InvalidWords) ct_InvalidWords cc_InvalidWords), sl_InvalidWords⟩)
    (xcI_InvalidWords : PySem.W.codeIn K (.ref cda_InvalidWords) "InvalidWords.__init__" = true)
    (xcd_InvalidWords : K.lookup cda_InvalidWords = some ⟨ccl_InvalidWords, cdd_InvalidWords, .fields vs_InvalidWords, ccs_InvalidWords⟩)
    (xcc_InvalidWords : K.lookup cc_InvalidWords = some ⟨cl_InvalidWords, cld_InvalidWords, .cell (some (.ref C_InvalidWords)), csl_InvalidWords⟩)
    (xfi_InvalidWords : vs_InvalidWords[2]? = some (.str file_InvalidWords tf_InvalidWords))
    (xff_InvalidWords : ((l.prog.main.file : Str) == file_InvalidWords) = true)
    (xup_InvalidWords : PySem.W.ks_superIn K C_InvalidWords C_InvalidWords "__init__" = some (some (.builtin "ValueError.__init__")))
    (xn_InvalidWords_words : PySem.W.findIn K (.ref C_InvalidWords) "words" = some none)
    (xsu : PySem.W.nsIn K mainGlobals "super" = some none)
    (xop : PySem.W.nsIn K cStatics "thirdparty.any" = some none)
    (xtp : (l.prog.main.scope.names.lookup ("super" : Str)).isSome = false)
    (a_is_sequence : PySem.W.nsIn K mainGlobals "is_sequence" = some (some (.ref f_is_sequence)))
    (l_is_sequence : K.lookup f_is_sequence = some ⟨oc_is_sequence, od_is_sequence, .func (PySem.W.fnOf "is_sequence" "is_sequence" (defArgs s_is_sequence) (defBody s_is_sequence) (defScope s_is_sequence) .none kV_is_sequence dc_is_sequence pm_is_sequence an_is_sequence cd_is_sequence ct_is_sequence), sl_is_sequence⟩)
    (c_is_sequence : PySem.W.codeIn K cd_is_sequence "is_sequence" = true)
    (k_is_sequence : PySem.W.keepIn K (.ref f_is_sequence) = true)
    (a_Share___init__ : PySem.W.findIn K (.ref C_Share) "__init__" = some (some (.ref f_Share___init__)))
    (i_Share___init__ : PySem.W.isFn K (.ref f_Share___init__) = true)
    (l_Share___init__ : K.lookup f_Share___init__ = some ⟨oc_Share___init__, od_Share___init__, .func (PySem.W.fnOf "__init__" "Share.__init__" (defArgs s_Share___init__) (defBody s_Share___init__) (defScope s_Share___init__) .none kV_Share___init__ dc_Share___init__ pm_Share___init__ an_Share___init__ cd_Share___init__ ct_Share___init__), sl_Share___init__⟩)
    (c_Share___init__ : PySem.W.codeIn K cd_Share___init__ "Share.__init__" = true)
    (k_Share___init__ : PySem.W.keepIn K (.ref f_Share___init__) = true)
    (a_sum_of_halves : PySem.W.nsIn K mainGlobals "sum_of_halves" = some (some (.ref f_sum_of_halves)))
    (l_sum_of_halves : K.lookup f_sum_of_halves = some ⟨oc_sum_of_halves, od_sum_of_halves, .func (PySem.W.fnOf "sum_of_halves" "sum_of_halves" (defArgs s_sum_of_halves) (defBody s_sum_of_halves) (defScope s_sum_of_halves) .none kV_sum_of_halves dc_sum_of_halves pm_sum_of_halves an_sum_of_halves cd_sum_of_halves ct_sum_of_halves), sl_sum_of_halves⟩)
    (c_sum_of_halves : PySem.W.codeIn K cd_sum_of_halves "sum_of_halves" = true)
    (k_sum_of_halves : PySem.W.keepIn K (.ref f_sum_of_halves) = true)
    (a_is_word : PySem.W.nsIn K mainGlobals "is_word" = some (some (.ref f_is_word)))
    (l_is_word : K.lookup f_is_word = some ⟨oc_is_word, od_is_word, .func (PySem.W.fnOf "is_word" "is_word" (defArgs s_is_word) (defBody s_is_word) (defScope s_is_word) .none kV_is_word dc_is_word pm_is_word an_is_word cd_is_word ct_is_word), sl_is_word⟩)
    (c_is_word : PySem.W.codeIn K cd_is_word "is_word" = true)
    (k_is_word : PySem.W.keepIn K (.ref f_is_word) = true)
    (a_check_words : PySem.W.nsIn K mainGlobals "_check_words" = some (some (.ref f_check_words)))
    (l_check_words : K.lookup f_check_words = some ⟨oc_check_words, od_check_words, .func (PySem.W.fnOf "_check_words" "_check_words" (defArgs s_check_words) (defBody s_check_words) (defScope s_check_words) .none kV_check_words dc_check_words pm_check_words an_check_words cd_check_words ct_check_words), sl_check_words⟩)
    (c_check_words : PySem.W.codeIn K cd_check_words "_check_words" = true)
    (k_check_words : PySem.W.keepIn K (.ref f_check_words) = true)
    (a_first_clash : PySem.W.nsIn K mainGlobals "first_clash" = some (some (.ref f_first_clash)))
    (l_first_clash : K.lookup f_first_clash = some ⟨oc_first_clash, od_first_clash, .func (PySem.W.fnOf "first_clash" "first_clash" (defArgs s_first_clash) (defBody s_first_clash) (defScope s_first_clash) .none kV_first_clash dc_first_clash pm_first_clash an_first_clash cd_first_clash ct_first_clash), sl_first_clash⟩)
    (c_first_clash : PySem.W.codeIn K cd_first_clash "first_clash" = true)
    (k_first_clash : PySem.W.keepIn K (.ref f_first_clash) = true)
    (a_share_of : PySem.W.nsIn K mainGlobals "share_of" = some (some (.ref f_share_of)))
    (l_share_of : K.lookup f_share_of = some ⟨oc_share_of, od_share_of, .func (PySem.W.fnOf "share_of" "share_of" (defArgs s_share_of) (defBody s_share_of) (defScope s_share_of) .none kV_share_of dc_share_of pm_share_of an_share_of cd_share_of ct_share_of), sl_share_of⟩)
    (c_share_of : PySem.W.codeIn K cd_share_of "share_of" = true)
    (k_share_of : PySem.W.keepIn K (.ref f_share_of) = true)
    (a_law_tape : PySem.W.nsIn K mainGlobals "_law_tape" = some (some (.ref f_law_tape)))
    (l_law_tape : K.lookup f_law_tape = some ⟨oc_law_tape, od_law_tape, .func (PySem.W.fnOf "_law_tape" "_law_tape" (defArgs s_law_tape) (defBody s_law_tape) (defScope s_law_tape) .none kV_law_tape dc_law_tape pm_law_tape an_law_tape cd_law_tape ct_law_tape), sl_law_tape⟩)
    (c_law_tape : PySem.W.codeIn K cd_law_tape "_law_tape" = true)
    (k_law_tape : PySem.W.keepIn K (.ref f_law_tape) = true)
    (a_law_draw : PySem.W.nsIn K mainGlobals "_law_draw" = some (some (.ref f_law_draw)))
    (l_law_draw : K.lookup f_law_draw = some ⟨oc_law_draw, od_law_draw, .func (PySem.W.fnOf "_law_draw" "_law_draw" (defArgs s_law_draw) (defBody s_law_draw) (defScope s_law_draw) .none kV_law_draw dc_law_draw pm_law_draw an_law_draw cd_law_draw ct_law_draw), sl_law_draw⟩)
    (c_law_draw : PySem.W.codeIn K cd_law_draw "_law_draw" = true)
    (k_law_draw : PySem.W.keepIn K (.ref f_law_draw) = true)
    (a_law_integer : PySem.W.nsIn K mainGlobals "_law_integer" = some (some (.ref f_law_integer)))
    (l_law_integer : K.lookup f_law_integer = some ⟨oc_law_integer, od_law_integer, .func (PySem.W.fnOf "_law_integer" "_law_integer" (defArgs s_law_integer) (defBody s_law_integer) (defScope s_law_integer) .none kV_law_integer dc_law_integer pm_law_integer an_law_integer cd_law_integer ct_law_integer), sl_law_integer⟩)
    (c_law_integer : PySem.W.codeIn K cd_law_integer "_law_integer" = true)
    (k_law_integer : PySem.W.keepIn K (.ref f_law_integer) = true)
    (a_law_string : PySem.W.nsIn K mainGlobals "_law_string" = some (some (.ref f_law_string)))
    (l_law_string : K.lookup f_law_string = some ⟨oc_law_string, od_law_string, .func (PySem.W.fnOf "_law_string" "_law_string" (defArgs s_law_string) (defBody s_law_string) (defScope s_law_string) .none kV_law_string dc_law_string pm_law_string an_law_string cd_law_string ct_law_string), sl_law_string⟩)
    (c_law_string : PySem.W.codeIn K cd_law_string "_law_string" = true)
    (k_law_string : PySem.W.keepIn K (.ref f_law_string) = true)
    (a_law_thing : PySem.W.nsIn K mainGlobals "_law_thing" = some (some (.ref f_law_thing)))
    (l_law_thing : K.lookup f_law_thing = some ⟨oc_law_thing, od_law_thing, .func (PySem.W.fnOf "_law_thing" "_law_thing" (defArgs s_law_thing) (defBody s_law_thing) (defScope s_law_thing) .none kV_law_thing dc_law_thing pm_law_thing an_law_thing cd_law_thing ct_law_thing), sl_law_thing⟩)
    (c_law_thing : PySem.W.codeIn K cd_law_thing "_law_thing" = true)
    (k_law_thing : PySem.W.keepIn K (.ref f_law_thing) = true)
    (a_law_copy : PySem.W.nsIn K mainGlobals "_law_copy" = some (some (.ref f_law_copy)))
    (l_law_copy : K.lookup f_law_copy = some ⟨oc_law_copy, od_law_copy, .func (PySem.W.fnOf "_law_copy" "_law_copy" (defArgs s_law_copy) (defBody s_law_copy) (defScope s_law_copy) .none kV_law_copy dc_law_copy pm_law_copy an_law_copy cd_law_copy ct_law_copy), sl_law_copy⟩)
    (c_law_copy : PySem.W.codeIn K cd_law_copy "_law_copy" = true)
    (k_law_copy : PySem.W.keepIn K (.ref f_law_copy) = true)
    (a_law_same : PySem.W.nsIn K mainGlobals "_law_same" = some (some (.ref f_law_same)))
    (l_law_same : K.lookup f_law_same = some ⟨oc_law_same, od_law_same, .func (PySem.W.fnOf "_law_same" "_law_same" (defArgs s_law_same) (defBody s_law_same) (defScope s_law_same) .none kV_law_same dc_law_same pm_law_same an_law_same cd_law_same ct_law_same), sl_law_same⟩)
    (c_law_same : PySem.W.codeIn K cd_law_same "_law_same" = true)
    (k_law_same : PySem.W.keepIn K (.ref f_law_same) = true)
    (a_law_is_word : PySem.W.nsIn K mainGlobals "_law_is_word" = some (some (.ref f_law_is_word)))
    (l_law_is_word : K.lookup f_law_is_word = some ⟨oc_law_is_word, od_law_is_word, .func (PySem.W.fnOf "_law_is_word" "_law_is_word" (defArgs s_law_is_word) (defBody s_law_is_word) (defScope s_law_is_word) .none kV_law_is_word dc_law_is_word pm_law_is_word an_law_is_word cd_law_is_word ct_law_is_word), sl_law_is_word⟩)
    (c_law_is_word : PySem.W.codeIn K cd_law_is_word "_law_is_word" = true)
    (k_law_is_word : PySem.W.keepIn K (.ref f_law_is_word) = true)
    (a_law_are_words : PySem.W.nsIn K mainGlobals "_law_are_words" = some (some (.ref f_law_are_words)))
    (l_law_are_words : K.lookup f_law_are_words = some ⟨oc_law_are_words, od_law_are_words, .func (PySem.W.fnOf "_law_are_words" "_law_are_words" (defArgs s_law_are_words) (defBody s_law_are_words) (defScope s_law_are_words) .none kV_law_are_words dc_law_are_words pm_law_are_words an_law_are_words cd_law_are_words ct_law_are_words), sl_law_are_words⟩)
    (c_law_are_words : PySem.W.codeIn K cd_law_are_words "_law_are_words" = true)
    (k_law_are_words : PySem.W.keepIn K (.ref f_law_are_words) = true)
    (a_law_bits : PySem.W.nsIn K mainGlobals "_law_bits" = some (some (.ref f_law_bits)))
    (l_law_bits : K.lookup f_law_bits = some ⟨oc_law_bits, od_law_bits, .func (PySem.W.fnOf "_law_bits" "_law_bits" (defArgs s_law_bits) (defBody s_law_bits) (defScope s_law_bits) .none kV_law_bits dc_law_bits pm_law_bits an_law_bits cd_law_bits ct_law_bits), sl_law_bits⟩)
    (c_law_bits : PySem.W.codeIn K cd_law_bits "_law_bits" = true)
    (k_law_bits : PySem.W.keepIn K (.ref f_law_bits) = true)
    (a_law_leaves : PySem.W.nsIn K mainGlobals "_law_leaves" = some (some (.ref f_law_leaves)))
    (l_law_leaves : K.lookup f_law_leaves = some ⟨oc_law_leaves, od_law_leaves, .func (PySem.W.fnOf "_law_leaves" "_law_leaves" (defArgs s_law_leaves) (defBody s_law_leaves) (defScope s_law_leaves) .none kV_law_leaves dc_law_leaves pm_law_leaves an_law_leaves cd_law_leaves ct_law_leaves), sl_law_leaves⟩)
    (c_law_leaves : PySem.W.codeIn K cd_law_leaves "_law_leaves" = true)
    (k_law_leaves : PySem.W.keepIn K (.ref f_law_leaves) = true)
    (a_law_drawn_words : PySem.W.nsIn K mainGlobals "_law_drawn_words" = some (some (.ref f_law_drawn_words)))
    (l_law_drawn_words : K.lookup f_law_drawn_words = some ⟨oc_law_drawn_words, od_law_drawn_words, .func (PySem.W.fnOf "_law_drawn_words" "_law_drawn_words" (defArgs s_law_drawn_words) (defBody s_law_drawn_words) (defScope s_law_drawn_words) .none kV_law_drawn_words dc_law_drawn_words pm_law_drawn_words an_law_drawn_words cd_law_drawn_words ct_law_drawn_words), sl_law_drawn_words⟩)
    (c_law_drawn_words : PySem.W.codeIn K cd_law_drawn_words "_law_drawn_words" = true)
    (k_law_drawn_words : PySem.W.keepIn K (.ref f_law_drawn_words) = true)
    (a_law_clash : PySem.W.nsIn K mainGlobals "_law_clash" = some (some (.ref f_law_clash)))
    (l_law_clash : K.lookup f_law_clash = some ⟨oc_law_clash, od_law_clash, .func (PySem.W.fnOf "_law_clash" "_law_clash" (defArgs s_law_clash) (defBody s_law_clash) (defScope s_law_clash) .none kV_law_clash dc_law_clash pm_law_clash an_law_clash cd_law_clash ct_law_clash), sl_law_clash⟩)
    (c_law_clash : PySem.W.codeIn K cd_law_clash "_law_clash" = true)
    (k_law_clash : PySem.W.keepIn K (.ref f_law_clash) = true)
    (a_law_sum : PySem.W.nsIn K mainGlobals "_law_sum" = some (some (.ref f_law_sum)))
    (l_law_sum : K.lookup f_law_sum = some ⟨oc_law_sum, od_law_sum, .func (PySem.W.fnOf "_law_sum" "_law_sum" (defArgs s_law_sum) (defBody s_law_sum) (defScope s_law_sum) .none kV_law_sum dc_law_sum pm_law_sum an_law_sum cd_law_sum ct_law_sum), sl_law_sum⟩)
    (c_law_sum : PySem.W.codeIn K cd_law_sum "_law_sum" = true)
    (k_law_sum : PySem.W.keepIn K (.ref f_law_sum) = true)
    (a_law_told_clash : PySem.W.nsIn K mainGlobals "_law_told_clash" = some (some (.ref f_law_told_clash)))
    (l_law_told_clash : K.lookup f_law_told_clash = some ⟨oc_law_told_clash, od_law_told_clash, .func (PySem.W.fnOf "_law_told_clash" "_law_told_clash" (defArgs s_law_told_clash) (defBody s_law_told_clash) (defScope s_law_told_clash) .none kV_law_told_clash dc_law_told_clash pm_law_told_clash an_law_told_clash cd_law_told_clash ct_law_told_clash), sl_law_told_clash⟩)
    (c_law_told_clash : PySem.W.codeIn K cd_law_told_clash "_law_told_clash" = true)
    (k_law_told_clash : PySem.W.keepIn K (.ref f_law_told_clash) = true)
    (a_law_told_share : PySem.W.nsIn K mainGlobals "_law_told_share" = some (some (.ref f_law_told_share)))
    (l_law_told_share : K.lookup f_law_told_share = some ⟨oc_law_told_share, od_law_told_share, .func (PySem.W.fnOf "_law_told_share" "_law_told_share" (defArgs s_law_told_share) (defBody s_law_told_share) (defScope s_law_told_share) .none kV_law_told_share dc_law_told_share pm_law_told_share an_law_told_share cd_law_told_share ct_law_told_share), sl_law_told_share⟩)
    (c_law_told_share : PySem.W.codeIn K cd_law_told_share "_law_told_share" = true)
    (k_law_told_share : PySem.W.keepIn K (.ref f_law_told_share) = true)
    (a_law_right : PySem.W.nsIn K mainGlobals "_law_right" = some (some (.ref f_law_right)))
    (l_law_right : K.lookup f_law_right = some ⟨oc_law_right, od_law_right, .func (PySem.W.fnOf "_law_right" "_law_right" (defArgs s_law_right) (defBody s_law_right) (defScope s_law_right) .none kV_law_right dc_law_right pm_law_right an_law_right cd_law_right ct_law_right), sl_law_right⟩)
    (c_law_right : PySem.W.codeIn K cd_law_right "_law_right" = true)
    (k_law_right : PySem.W.keepIn K (.ref f_law_right) = true)
    (a_law_told_word : PySem.W.nsIn K mainGlobals "_law_told_word" = some (some (.ref f_law_told_word)))
    (l_law_told_word : K.lookup f_law_told_word = some ⟨oc_law_told_word, od_law_told_word, .func (PySem.W.fnOf "_law_told_word" "_law_told_word" (defArgs s_law_told_word) (defBody s_law_told_word) (defScope s_law_told_word) .none kV_law_told_word dc_law_told_word pm_law_told_word an_law_told_word cd_law_told_word ct_law_told_word), sl_law_told_word⟩)
    (c_law_told_word : PySem.W.codeIn K cd_law_told_word "_law_told_word" = true)
    (k_law_told_word : PySem.W.keepIn K (.ref f_law_told_word) = true)
    (a_law_words_right : PySem.W.nsIn K mainGlobals "_law_words_right" = some (some (.ref f_law_words_right)))
    (l_law_words_right : K.lookup f_law_words_right = some ⟨oc_law_words_right, od_law_words_right, .func (PySem.W.fnOf "_law_words_right" "_law_words_right" (defArgs s_law_words_right) (defBody s_law_words_right) (defScope s_law_words_right) .none kV_law_words_right dc_law_words_right pm_law_words_right an_law_words_right cd_law_words_right ct_law_words_right), sl_law_words_right⟩)
    (c_law_words_right : PySem.W.codeIn K cd_law_words_right "_law_words_right" = true)
    (k_law_words_right : PySem.W.keepIn K (.ref f_law_words_right) = true)
    (a_law_asks : PySem.W.nsIn K mainGlobals "_law_asks" = some (some (.ref f_law_asks)))
    (l_law_asks : K.lookup f_law_asks = some ⟨oc_law_asks, od_law_asks, .func (PySem.W.fnOf "_law_asks" "_law_asks" (defArgs s_law_asks) (defBody s_law_asks) (defScope s_law_asks) .none kV_law_asks dc_law_asks pm_law_asks an_law_asks cd_law_asks ct_law_asks), sl_law_asks⟩)
    (c_law_asks : PySem.W.codeIn K cd_law_asks "_law_asks" = true)
    (k_law_asks : PySem.W.keepIn K (.ref f_law_asks) = true)
    (a_law : PySem.W.nsIn K mainGlobals "law" = some (some (.ref f_law)))
    (l_law : K.lookup f_law = some ⟨oc_law, od_law, .func (PySem.W.fnOf "law" "law" (defArgs s_law) (defBody s_law) (defScope s_law) .none kV_law dc_law pm_law an_law cd_law ct_law), sl_law⟩)
    (c_law : PySem.W.codeIn K cd_law "law" = true)
    (k_law : PySem.W.keepIn K (.ref f_law) = true)
    (z_super : PySem.W.nsIn K mainGlobals "super" = some none)
    (z_isinstance : PySem.W.nsIn K mainGlobals "isinstance" = some none)
    (z_tuple : PySem.W.nsIn K mainGlobals "tuple" = some none)
    (z_list : PySem.W.nsIn K mainGlobals "list" = some none)
    (z_max : PySem.W.nsIn K mainGlobals "max" = some none)
    (z_sum : PySem.W.nsIn K mainGlobals "sum" = some none)
    (z_str : PySem.W.nsIn K mainGlobals "str" = some none)
    (z_all : PySem.W.nsIn K mainGlobals "all" = some none)
    (z_enumerate : PySem.W.nsIn K mainGlobals "enumerate" = some none)
    (z_range : PySem.W.nsIn K mainGlobals "range" = some none)
    (z_len : PySem.W.nsIn K mainGlobals "len" = some none)
    (z_int : PySem.W.nsIn K mainGlobals "int" = some none)
    (z_abs : PySem.W.nsIn K mainGlobals "abs" = some none)
    (z_bool : PySem.W.nsIn K mainGlobals "bool" = some none)
    (z_min : PySem.W.nsIn K mainGlobals "min" = some none)
    (sPg : PySem.W.plainGet K C_Share Str.empty = true)
    (sHd : PySem.W.hasDictIn K C_Share = true)
    (sPo : PySem.W.plainOver K C_Share = true)
    (sSa : PySem.W.findIn K (.ref C_Share) "__setattr__" = some (some (.builtin "object.__setattr__")))
    (sHa : PySem.W.findIn K (.ref C_Share) "__class__" = some (some (.builtin "object.__class__")))
    (cHn : PySem.W.specialIn K (.builtin "object.__class__") "__get__" = some (some (.builtin "getset_descriptor.__get__")))
    (cTk : PySem.W.takesIn K (.builtin "object.__class__") = some true)
    (sHm : PySem.W.mroIn K C_Share (.type "object") = some true)
    (sCl : PySem.W.isClsIn K C_Share = true)
    (sTy : PySem.W.typeIn K (.ref C_Share) = some (.type "type"))
    (sNo : PySem.W.findIn K (.ref C_Share) "over" = some none)
    (sNu : PySem.W.findIn K (.ref C_Share) "under" = some none)
    (sFi : PySem.W.selfFirst K C_Share = true)
    (sNe : PySem.W.findIn K (.ref C_Share) "__ne__" = some (some (.builtin "object.__ne__")))
    (sNf : PySem.W.notFirst K C_Share (.ref C_Share) = true)
    (sMk : PySem.W.makesIn K C_Share = true)
    (sKc : PySem.W.keepIn K (.ref C_Share) = true)
    : ∃ fd : FuncData, (∀ (s : Shared) (v : Value), BindsTo s fd ⟨[v], []⟩ [("script", v)]) ∧ ∀ base : Heap, K.In base → base.Ns mainGlobals mg → FnOk l.prog w K mg base CX0 8 fa fd ["script"] (spLaw K) := by
  have e := hfa.symm.trans (PySem.W.mg_of X G a_law)
  cases e
  have T : Txt K mg C_Share := ⟨PySem.W.mg_none_of X G z_super, PySem.W.mg_none_of X G z_isinstance, PySem.W.mg_none_of X G z_tuple, PySem.W.mg_none_of X G z_list, PySem.W.mg_none_of X G z_max, PySem.W.mg_none_of X G z_sum, PySem.W.mg_none_of X G z_str, PySem.W.mg_none_of X G z_all, PySem.W.mg_none_of X G z_enumerate, PySem.W.mg_none_of X G z_range, PySem.W.mg_none_of X G z_len, PySem.W.mg_none_of X G z_int, PySem.W.mg_none_of X G z_abs, PySem.W.mg_none_of X G z_bool, PySem.W.mg_none_of X G z_min, PySem.W.mg_of X G aG, PySem.W.mg_of X G aC_Share⟩
  have x_InvalidNumber : XErr l.prog K mg "InvalidNumber" C_InvalidNumber ["number"] := ⟨"InvalidNumber.__init__", f_InvalidNumber, s_InvalidNumber___init__, ⟨PySem.W.mg_of X G xgC_InvalidNumber, ⟨_, _, _, _, _, _, _, _, _, _, _, _, _, _, _, xxL_InvalidNumber, by rfl⟩, xsa_InvalidNumber, xga_InvalidNumber, xgg_InvalidNumber, xiC_InvalidNumber, xtI_InvalidNumber, xkC_InvalidNumber, xeC_InvalidNumber, xvC_InvalidNumber, xse_InvalidNumber, xtC_InvalidNumber, xhC_InvalidNumber, exm_own xeC_InvalidNumber xcC_InvalidNumber xtC_InvalidNumber xsC_InvalidNumber, xup_InvalidNumber, PySem.W.mg_none_of X G xsu, xop, xtp, _, _, _, _, _, _, _, _, _, _, _, _, _, _, _, _, _, _, xlI_InvalidNumber, xcI_InvalidNumber, xcd_InvalidNumber, xfi_InvalidNumber, xff_InvalidNumber, xcc_InvalidNumber⟩, xb_InvalidNumber, by simpa using xn_InvalidNumber_number⟩
  have x_InvalidWords : XErr l.prog K mg "InvalidWords" C_InvalidWords ["words"] := ⟨"InvalidWords.__init__", f_InvalidWords, s_InvalidWords___init__, ⟨PySem.W.mg_of X G xgC_InvalidWords, ⟨_, _, _, _, _, _, _, _, _, _, _, _, _, _, _, xxL_InvalidWords, by rfl⟩, xsa_InvalidWords, xga_InvalidWords, xgg_InvalidWords, xiC_InvalidWords, xtI_InvalidWords, xkC_InvalidWords, xeC_InvalidWords, xvC_InvalidWords, xse_InvalidWords, xtC_InvalidWords, xhC_InvalidWords, exm_own xeC_InvalidWords xcC_InvalidWords xtC_InvalidWords xsC_InvalidWords, xup_InvalidWords, PySem.W.mg_none_of X G xsu, xop, xtp, _, _, _, _, _, _, _, _, _, _, _, _, _, _, _, _, _, _, xlI_InvalidWords, xcI_InvalidWords, xcd_InvalidWords, xfi_InvalidWords, xff_InvalidWords, xcc_InvalidWords⟩, xb_InvalidWords, by simpa using xn_InvalidWords_words⟩
  have F_is_sequence := fun_mk (x := "is_sequence") (qual := "is_sequence") (st := s_is_sequence) l_is_sequence c_is_sequence k_is_sequence
  have b_is_sequence := F_is_sequence.binds (ps := ["value"]) fun _ _ _ _ _ _ us hl => match us, hl with | [_], _ => rfl
  have F_Share___init__ := fun_mk (x := "__init__") (qual := "Share.__init__") (st := s_Share___init__) l_Share___init__ c_Share___init__ k_Share___init__
  have b_Share___init__ := F_Share___init__.binds (ps := ["self", "over", "under"]) fun _ _ _ _ _ _ us hl => match us, hl with | [_, _, _], _ => rfl
  have F_sum_of_halves := fun_mk (x := "sum_of_halves") (qual := "sum_of_halves") (st := s_sum_of_halves) l_sum_of_halves c_sum_of_halves k_sum_of_halves
  have b_sum_of_halves := F_sum_of_halves.binds (ps := ["lengths"]) fun _ _ _ _ _ _ us hl => match us, hl with | [_], _ => rfl
  have F_is_word := fun_mk (x := "is_word") (qual := "is_word") (st := s_is_word) l_is_word c_is_word k_is_word
  have b_is_word := F_is_word.binds (ps := ["value"]) fun _ _ _ _ _ _ us hl => match us, hl with | [_], _ => rfl
  have F_check_words := fun_mk (x := "_check_words") (qual := "_check_words") (st := s_check_words) l_check_words c_check_words k_check_words
  have b_check_words := F_check_words.binds (ps := ["words"]) fun _ _ _ _ _ _ us hl => match us, hl with | [_], _ => rfl
  have F_first_clash := fun_mk (x := "first_clash") (qual := "first_clash") (st := s_first_clash) l_first_clash c_first_clash k_first_clash
  have b_first_clash := F_first_clash.binds (ps := ["words"]) fun _ _ _ _ _ _ us hl => match us, hl with | [_], _ => rfl
  have F_share_of := fun_mk (x := "share_of") (qual := "share_of") (st := s_share_of) l_share_of c_share_of k_share_of
  have b_share_of := F_share_of.binds (ps := ["words"]) fun _ _ _ _ _ _ us hl => match us, hl with | [_], _ => rfl
  have F_law_tape := fun_mk (x := "_law_tape") (qual := "_law_tape") (st := s_law_tape) l_law_tape c_law_tape k_law_tape
  have b_law_tape := F_law_tape.binds (ps := ["script"]) fun _ _ _ _ _ _ us hl => match us, hl with | [_], _ => rfl
  have F_law_draw := fun_mk (x := "_law_draw") (qual := "_law_draw") (st := s_law_draw) l_law_draw c_law_draw k_law_draw
  have b_law_draw := F_law_draw.binds (ps := ["tape", "limit"]) fun _ _ _ _ _ _ us hl => match us, hl with | [_, _], _ => rfl
  have F_law_integer := fun_mk (x := "_law_integer") (qual := "_law_integer") (st := s_law_integer) l_law_integer c_law_integer k_law_integer
  have b_law_integer := F_law_integer.binds (ps := ["tape"]) fun _ _ _ _ _ _ us hl => match us, hl with | [_], _ => rfl
  have F_law_string := fun_mk (x := "_law_string") (qual := "_law_string") (st := s_law_string) l_law_string c_law_string k_law_string
  have b_law_string := F_law_string.binds (ps := ["tape"]) fun _ _ _ _ _ _ us hl => match us, hl with | [_], _ => rfl
  have F_law_thing := fun_mk (x := "_law_thing") (qual := "_law_thing") (st := s_law_thing) l_law_thing c_law_thing k_law_thing
  have b_law_thing := F_law_thing.binds (ps := ["tape", "deep"]) fun _ _ _ _ _ _ us hl => match us, hl with | [_, _], _ => rfl
  have F_law_copy := fun_mk (x := "_law_copy") (qual := "_law_copy") (st := s_law_copy) l_law_copy c_law_copy k_law_copy
  have b_law_copy := F_law_copy.binds (ps := ["thing"]) fun _ _ _ _ _ _ us hl => match us, hl with | [_], _ => rfl
  have F_law_same := fun_mk (x := "_law_same") (qual := "_law_same") (st := s_law_same) l_law_same c_law_same k_law_same
  have b_law_same := F_law_same.binds (ps := ["told", "due"]) fun _ _ _ _ _ _ us hl => match us, hl with | [_, _], _ => rfl
  have F_law_is_word := fun_mk (x := "_law_is_word") (qual := "_law_is_word") (st := s_law_is_word) l_law_is_word c_law_is_word k_law_is_word
  have b_law_is_word := F_law_is_word.binds (ps := ["value"]) fun _ _ _ _ _ _ us hl => match us, hl with | [_], _ => rfl
  have F_law_are_words := fun_mk (x := "_law_are_words") (qual := "_law_are_words") (st := s_law_are_words) l_law_are_words c_law_are_words k_law_are_words
  have b_law_are_words := F_law_are_words.binds (ps := ["value"]) fun _ _ _ _ _ _ us hl => match us, hl with | [_], _ => rfl
  have F_law_bits := fun_mk (x := "_law_bits") (qual := "_law_bits") (st := s_law_bits) l_law_bits c_law_bits k_law_bits
  have b_law_bits := F_law_bits.binds (ps := ["tape", "many"]) fun _ _ _ _ _ _ us hl => match us, hl with | [_, _], _ => rfl
  have F_law_leaves := fun_mk (x := "_law_leaves") (qual := "_law_leaves") (st := s_law_leaves) l_law_leaves c_law_leaves k_law_leaves
  have b_law_leaves := F_law_leaves.binds (ps := ["tape", "many"]) fun _ _ _ _ _ _ us hl => match us, hl with | [_, _], _ => rfl
  have F_law_drawn_words := fun_mk (x := "_law_drawn_words") (qual := "_law_drawn_words") (st := s_law_drawn_words) l_law_drawn_words c_law_drawn_words k_law_drawn_words
  have b_law_drawn_words := F_law_drawn_words.binds (ps := ["tape"]) fun _ _ _ _ _ _ us hl => match us, hl with | [_], _ => rfl
  have F_law_clash := fun_mk (x := "_law_clash") (qual := "_law_clash") (st := s_law_clash) l_law_clash c_law_clash k_law_clash
  have b_law_clash := F_law_clash.binds (ps := ["words"]) fun _ _ _ _ _ _ us hl => match us, hl with | [_], _ => rfl
  have F_law_sum := fun_mk (x := "_law_sum") (qual := "_law_sum") (st := s_law_sum) l_law_sum c_law_sum k_law_sum
  have b_law_sum := F_law_sum.binds (ps := ["words"]) fun _ _ _ _ _ _ us hl => match us, hl with | [_], _ => rfl
  have F_law_told_clash := fun_mk (x := "_law_told_clash") (qual := "_law_told_clash") (st := s_law_told_clash) l_law_told_clash c_law_told_clash k_law_told_clash
  have b_law_told_clash := F_law_told_clash.binds (ps := ["words", "by_name"]) fun _ _ _ _ _ _ us hl => match us, hl with | [_, _], _ => rfl
  have F_law_told_share := fun_mk (x := "_law_told_share") (qual := "_law_told_share") (st := s_law_told_share) l_law_told_share c_law_told_share k_law_told_share
  have b_law_told_share := F_law_told_share.binds (ps := ["words", "by_name"]) fun _ _ _ _ _ _ us hl => match us, hl with | [_, _], _ => rfl
  have F_law_right := fun_mk (x := "_law_right") (qual := "_law_right") (st := s_law_right) l_law_right c_law_right k_law_right
  have b_law_right := F_law_right.binds (ps := ["value", "by_name"]) fun _ _ _ _ _ _ us hl => match us, hl with | [_, _], _ => rfl
  have F_law_told_word := fun_mk (x := "_law_told_word") (qual := "_law_told_word") (st := s_law_told_word) l_law_told_word c_law_told_word k_law_told_word
  have b_law_told_word := F_law_told_word.binds (ps := ["value", "by_name"]) fun _ _ _ _ _ _ us hl => match us, hl with | [_, _], _ => rfl
  have F_law_words_right := fun_mk (x := "_law_words_right") (qual := "_law_words_right") (st := s_law_words_right) l_law_words_right c_law_words_right k_law_words_right
  have b_law_words_right := F_law_words_right.binds (ps := ["tape", "words"]) fun _ _ _ _ _ _ us hl => match us, hl with | [_, _], _ => rfl
  have F_law_asks := fun_mk (x := "_law_asks") (qual := "_law_asks") (st := s_law_asks) l_law_asks c_law_asks k_law_asks
  have b_law_asks := F_law_asks.binds (ps := ["script"]) fun _ _ _ _ _ _ us hl => match us, hl with | [_], _ => rfl
  have F_law := fun_mk (x := "law") (qual := "law") (st := s_law) l_law c_law k_law
  have b_law := F_law.binds (ps := ["script"]) fun _ _ _ _ _ _ us hl => match us, hl with | [_], _ => rfl
  refine ⟨PySem.W.fnOf "law" "law" (defArgs s_law) (defBody s_law) (defScope s_law) .none kV_law dc_law pm_law an_law cd_law ct_law, fun s v => .of_eq rfl, fun base KB GB => ?_⟩
  have sc : ShC K C_Share := ⟨⟨⟨sPg, sHd, sPo, sSa⟩, sHa, cHn, cTk, sHm, kit_me⟩, sNo, sNu, ⟨sFi, sNe, sHm⟩, sNf⟩
  have cl_Share := sc.ins.cl
  have G_Share___init__ := ok_Share___init__ (P := l.prog) (w := w) (base := base) F_Share___init__ T x_InvalidNumber sc
  have M_Share : Mk K C_Share f_Share___init__ := ⟨sMk, a_Share___init__, i_Share___init__, sKc⟩
  have m_Share : MakX l.prog w K mg base 1 "Share" C_Share (spInit C_Share C_InvalidNumber) := ⟨_, _, _, M_Share, G_Share___init__, PySem.W.mg_of X G aC_Share, b_Share___init__⟩
  have G_is_sequence := ok_is_sequence (P := l.prog) (w := w) (base := base) F_is_sequence T 
  have c_is_sequence : Cal l.prog w K mg base 1 "is_sequence" (spSeq K) := ⟨_, _, _, G_is_sequence, PySem.W.mg_of X G a_is_sequence, k_is_sequence, b_is_sequence⟩
  have G_sum_of_halves := ok_sum_of_halves (P := l.prog) (w := w) (base := base) F_sum_of_halves T m_Share
  have c_sum_of_halves : Cal l.prog w K mg base 3 "sum_of_halves" (spHalves K C_Share) := ⟨_, _, _, G_sum_of_halves, PySem.W.mg_of X G a_sum_of_halves, k_sum_of_halves, b_sum_of_halves⟩
  have G_is_word := ok_is_word (P := l.prog) (w := w) (base := base) F_is_word T 
  have c_is_word : Cal l.prog w K mg base 1 "is_word" (spIsWord K) := ⟨_, _, _, G_is_word, PySem.W.mg_of X G a_is_word, k_is_word, b_is_word⟩
  have ck_is_word_value : CalK l.prog w K mg base 1 "is_word" 0 ["value"] (fun xs zs => xs ++ zs) (spIsWord K) := ⟨_, _, _, fun us ws => us ++ ws, G_is_word, PySem.W.mg_of X G a_is_word, k_is_word, L2Fun_kbn F_is_word (fun _ _ _ _ _ _ us ws h1 h2 => match us, ws, h1, h2 with | [], [_], _, _ => rfl) (fun r1 r2 => r1.append r2)⟩
  have G_check_words := ok_check_words (P := l.prog) (w := w) (base := base) F_check_words T x_InvalidWords c_is_sequence c_is_word
  have c_check_words : CalX l.prog w K mg base 3 "_check_words" (spCheckW K C_InvalidWords) := ⟨_, _, _, G_check_words, PySem.W.mg_of X G a_check_words, k_check_words, b_check_words⟩
  have G_first_clash := ok_first_clash (P := l.prog) (w := w) (base := base) F_first_clash T c_check_words
  have c_first_clash : CalX l.prog w K mg base 4 "first_clash" (spClash K C_InvalidWords) := ⟨_, _, _, G_first_clash, PySem.W.mg_of X G a_first_clash, k_first_clash, b_first_clash⟩
  have ck_first_clash_words : CalXK l.prog w K mg base 4 "first_clash" 0 ["words"] (fun xs zs => xs ++ zs) (spClash K C_InvalidWords) := ⟨_, _, _, fun us ws => us ++ ws, G_first_clash, PySem.W.mg_of X G a_first_clash, k_first_clash, L2Fun_kbn F_first_clash (fun _ _ _ _ _ _ us ws h1 h2 => match us, ws, h1, h2 with | [], [_], _, _ => rfl) (fun r1 r2 => r1.append r2)⟩
  have G_share_of := ok_share_of (P := l.prog) (w := w) (base := base) F_share_of T c_check_words c_sum_of_halves
  have c_share_of : CalX l.prog w K mg base 4 "share_of" (spShareOf K C_Share C_InvalidWords) := ⟨_, _, _, G_share_of, PySem.W.mg_of X G a_share_of, k_share_of, b_share_of⟩
  have ck_share_of_words : CalXK l.prog w K mg base 4 "share_of" 0 ["words"] (fun xs zs => xs ++ zs) (spShareOf K C_Share C_InvalidWords) := ⟨_, _, _, fun us ws => us ++ ws, G_share_of, PySem.W.mg_of X G a_share_of, k_share_of, L2Fun_kbn F_share_of (fun _ _ _ _ _ _ us ws h1 h2 => match us, ws, h1, h2 with | [], [_], _, _ => rfl) (fun r1 r2 => r1.append r2)⟩
  have G_law_tape := ok_law_tape (P := l.prog) (w := w) (base := base) F_law_tape T 
  have c_law_tape : Cal l.prog w K mg base 1 "_law_tape" (spTape K) := ⟨_, _, _, G_law_tape, PySem.W.mg_of X G a_law_tape, k_law_tape, b_law_tape⟩
  have G_law_draw := ok_law_draw (P := l.prog) (w := w) (base := base) F_law_draw T 
  have c_law_draw : Cal l.prog w K mg base 1 "_law_draw" (spDraw) := ⟨_, _, _, G_law_draw, PySem.W.mg_of X G a_law_draw, k_law_draw, b_law_draw⟩
  have G_law_integer := ok_law_integer (P := l.prog) (w := w) (base := base) F_law_integer T c_law_draw
  have c_law_integer : Cal l.prog w K mg base 2 "_law_integer" (spAnyInt) := ⟨_, _, _, G_law_integer, PySem.W.mg_of X G a_law_integer, k_law_integer, b_law_integer⟩
  have G_law_string := ok_law_string (P := l.prog) (w := w) (base := base) F_law_string T c_law_draw
  have c_law_string : Cal l.prog w K mg base 2 "_law_string" (spString) := ⟨_, _, _, G_law_string, PySem.W.mg_of X G a_law_string, k_law_string, b_law_string⟩
  have c_law_thing := cal_law_thing (P := l.prog) (w := w) (base := base) F_law_thing T (PySem.W.mg_of X G a_law_thing) k_law_thing b_law_thing c_law_draw c_law_integer c_law_string 3
  have c4_law_thing := cal_law_thing (P := l.prog) (w := w) (base := base) F_law_thing T (PySem.W.mg_of X G a_law_thing) k_law_thing b_law_thing c_law_draw c_law_integer c_law_string 4
  have c_law_same := cal_law_same (P := l.prog) (w := w) (base := base) F_law_same T (PySem.W.mg_of X G a_law_same) k_law_same b_law_same 5
  have c_law_copy := cal_law_copy (P := l.prog) (w := w) (base := base) F_law_copy T (PySem.W.mg_of X G a_law_copy) k_law_copy b_law_copy 5
  have G_law_is_word := ok_law_is_word (P := l.prog) (w := w) (base := base) F_law_is_word T 
  have c_law_is_word : Cal l.prog w K mg base 1 "_law_is_word" (spLIsW K) := ⟨_, _, _, G_law_is_word, PySem.W.mg_of X G a_law_is_word, k_law_is_word, b_law_is_word⟩
  have G_law_are_words := ok_law_are_words (P := l.prog) (w := w) (base := base) F_law_are_words T c_law_is_word
  have c_law_are_words : Cal l.prog w K mg base 2 "_law_are_words" (spLAreW K) := ⟨_, _, _, G_law_are_words, PySem.W.mg_of X G a_law_are_words, k_law_are_words, b_law_are_words⟩
  have G_law_bits := ok_law_bits (P := l.prog) (w := w) (base := base) F_law_bits T c_law_draw
  have c_law_bits : Cal l.prog w K mg base 2 "_law_bits" (spBits) := ⟨_, _, _, G_law_bits, PySem.W.mg_of X G a_law_bits, k_law_bits, b_law_bits⟩
  have G_law_leaves := ok_law_leaves (P := l.prog) (w := w) (base := base) F_law_leaves T c_law_draw c_law_bits
  have c_law_leaves : Cal l.prog w K mg base 3 "_law_leaves" (spLeaves) := ⟨_, _, _, G_law_leaves, PySem.W.mg_of X G a_law_leaves, k_law_leaves, b_law_leaves⟩
  have G_law_drawn_words := ok_law_drawn_words (P := l.prog) (w := w) (base := base) F_law_drawn_words T c_law_draw c_law_bits c_law_leaves
  have c_law_drawn_words : Cal l.prog w K mg base 4 "_law_drawn_words" (spDrawnW) := ⟨_, _, _, G_law_drawn_words, PySem.W.mg_of X G a_law_drawn_words, k_law_drawn_words, b_law_drawn_words⟩
  have G_law_clash := ok_law_clash (P := l.prog) (w := w) (base := base) F_law_clash T 
  have c_law_clash : Cal l.prog w K mg base 1 "_law_clash" (spLClash K) := ⟨_, _, _, G_law_clash, PySem.W.mg_of X G a_law_clash, k_law_clash, b_law_clash⟩
  have G_law_sum := ok_law_sum (P := l.prog) (w := w) (base := base) F_law_sum T 
  have c_law_sum : Cal l.prog w K mg base 1 "_law_sum" (spLSum K) := ⟨_, _, _, G_law_sum, PySem.W.mg_of X G a_law_sum, k_law_sum, b_law_sum⟩
  have G_law_told_clash := ok_law_told_clash (P := l.prog) (w := w) (base := base) F_law_told_clash T x_InvalidWords c_first_clash ck_first_clash_words
  have c_law_told_clash : Cal l.prog w K mg base 5 "_law_told_clash" (spTC K) := ⟨_, _, _, G_law_told_clash, PySem.W.mg_of X G a_law_told_clash, k_law_told_clash, b_law_told_clash⟩
  have G_law_told_share := ok_law_told_share (P := l.prog) (w := w) (base := base) F_law_told_share T x_InvalidWords c_share_of ck_share_of_words
  have c_law_told_share : Cal l.prog w K mg base 5 "_law_told_share" (spTS K C_Share) := ⟨_, _, _, G_law_told_share, PySem.W.mg_of X G a_law_told_share, k_law_told_share, b_law_told_share⟩
  have G_law_right := ok_law_right (P := l.prog) (w := w) (base := base) F_law_right T sc c_law_copy c_law_same c_law_told_clash c_law_told_share c_law_are_words c_law_clash c_law_sum
  have c_law_right : Cal l.prog w K mg base 6 "_law_right" (spRight K) := ⟨_, _, _, G_law_right, PySem.W.mg_of X G a_law_right, k_law_right, b_law_right⟩
  have G_law_told_word := ok_law_told_word (P := l.prog) (w := w) (base := base) F_law_told_word T c_is_word ck_is_word_value
  have c_law_told_word : Cal l.prog w K mg base 2 "_law_told_word" (spToldW K) := ⟨_, _, _, G_law_told_word, PySem.W.mg_of X G a_law_told_word, k_law_told_word, b_law_told_word⟩
  have G_law_words_right := ok_law_words_right (P := l.prog) (w := w) (base := base) F_law_words_right T c_law_draw c_law_bits c_law_thing c_law_string c_law_told_word c_law_is_word
  have c_law_words_right : Cal l.prog w K mg base 6 "_law_words_right" (spWordsR) := ⟨_, _, _, G_law_words_right, PySem.W.mg_of X G a_law_words_right, k_law_words_right, b_law_words_right⟩
  have G_law_asks := ok_law_asks (P := l.prog) (w := w) (base := base) F_law_asks T c_law_tape c_law_draw c_law_drawn_words c_law_right c_law_words_right c4_law_thing
  have c_law_asks : Cal l.prog w K mg base 7 "_law_asks" (spAsks K) := ⟨_, _, _, G_law_asks, PySem.W.mg_of X G a_law_asks, k_law_asks, b_law_asks⟩
  have G_law := ok_law (P := l.prog) (w := w) (base := base) F_law T c_law_asks
  exact G_law
end K03
open PySem PySem.W PyProof.Rows
set_option maxRecDepth 100000 in
set_option maxHeartbeats 0 in
theorem PySem.Challenge.cw_keptbudgets_k03_words_and_clashes_holds : PySem.Challenge.rw_keptbudgets_k03_words_and_clashes.Holds := by
  w_on; o_law; k_head; (case hw => w_witness2)
  k_fill
  refine L2.walk_of (l := PySem.Challenge.rw_keptbudgets_k03_words_and_clashes) (n := 63) (k := 8) (x := "script") (CX := fun w => L2.CX0) (sp := fun w => K03.spLaw _) rfl (by decide) rfl ⟨rfl, by decide, by decide⟩ (fun w h Y => PySem.W.kIn_of Y) ?F (fun _ _ a ns hl _ hS => ⟨a, ns, rfl, hS, hl, fun _ => rfl⟩) (fun _ _ _ _ _ h => h)
  case F =>
    intro w mg fa h KX G hmg
    refine' K03.all_mk KX G hmg ?aC_Share ?aG ?xgC_InvalidNumber ?xxL_InvalidNumber ?xsa_InvalidNumber ?xga_InvalidNumber ?xgg_InvalidNumber ?xiC_InvalidNumber ?xtI_InvalidNumber ?xkC_InvalidNumber ?xeC_InvalidNumber ?xvC_InvalidNumber ?xse_InvalidNumber ?xtC_InvalidNumber ?xhC_InvalidNumber ?xcC_InvalidNumber ?xsC_InvalidNumber ?xlI_InvalidNumber ?xcI_InvalidNumber ?xcd_InvalidNumber ?xcc_InvalidNumber ?xfi_InvalidNumber ?xff_InvalidNumber ?xup_InvalidNumber ?xn_InvalidNumber_number ?xgC_InvalidWords ?xxL_InvalidWords ?xsa_InvalidWords ?xga_InvalidWords ?xgg_InvalidWords ?xiC_InvalidWords ?xtI_InvalidWords ?xkC_InvalidWords ?xeC_InvalidWords ?xvC_InvalidWords ?xse_InvalidWords ?xtC_InvalidWords ?xhC_InvalidWords ?xcC_InvalidWords ?xsC_InvalidWords ?xlI_InvalidWords ?xcI_InvalidWords ?xcd_InvalidWords ?xcc_InvalidWords ?xfi_InvalidWords ?xff_InvalidWords ?xup_InvalidWords ?xn_InvalidWords_words ?xsu ?xop ?xtp ?a_is_sequence ?l_is_sequence ?c_is_sequence ?k_is_sequence ?a_Share___init__ ?i_Share___init__ ?l_Share___init__ ?c_Share___init__ ?k_Share___init__ ?a_sum_of_halves ?l_sum_of_halves ?c_sum_of_halves ?k_sum_of_halves ?a_is_word ?l_is_word ?c_is_word ?k_is_word ?a_check_words ?l_check_words ?c_check_words ?k_check_words ?a_first_clash ?l_first_clash ?c_first_clash ?k_first_clash ?a_share_of ?l_share_of ?c_share_of ?k_share_of ?a_law_tape ?l_law_tape ?c_law_tape ?k_law_tape ?a_law_draw ?l_law_draw ?c_law_draw ?k_law_draw ?a_law_integer ?l_law_integer ?c_law_integer ?k_law_integer ?a_law_string ?l_law_string ?c_law_string ?k_law_string ?a_law_thing ?l_law_thing ?c_law_thing ?k_law_thing ?a_law_copy ?l_law_copy ?c_law_copy ?k_law_copy ?a_law_same ?l_law_same ?c_law_same ?k_law_same ?a_law_is_word ?l_law_is_word ?c_law_is_word ?k_law_is_word ?a_law_are_words ?l_law_are_words ?c_law_are_words ?k_law_are_words ?a_law_bits ?l_law_bits ?c_law_bits ?k_law_bits ?a_law_leaves ?l_law_leaves ?c_law_leaves ?k_law_leaves ?a_law_drawn_words ?l_law_drawn_words ?c_law_drawn_words ?k_law_drawn_words ?a_law_clash ?l_law_clash ?c_law_clash ?k_law_clash ?a_law_sum ?l_law_sum ?c_law_sum ?k_law_sum ?a_law_told_clash ?l_law_told_clash ?c_law_told_clash ?k_law_told_clash ?a_law_told_share ?l_law_told_share ?c_law_told_share ?k_law_told_share ?a_law_right ?l_law_right ?c_law_right ?k_law_right ?a_law_told_word ?l_law_told_word ?c_law_told_word ?k_law_told_word ?a_law_words_right ?l_law_words_right ?c_law_words_right ?k_law_words_right ?a_law_asks ?l_law_asks ?c_law_asks ?k_law_asks ?a_law ?l_law ?c_law ?k_law ?z_super ?z_isinstance ?z_tuple ?z_list ?z_max ?z_sum ?z_str ?z_all ?z_enumerate ?z_range ?z_len ?z_int ?z_abs ?z_bool ?z_min ?sPg ?sHd ?sPo ?sSa ?sHa ?cHn ?cTk ?sHm ?sCl ?sTy ?sNo ?sNu ?sFi ?sNe ?sNf ?sMk ?sKc
    (case aC_Share => k_is)
    (case aG => k_is)
    (case xgC_InvalidNumber => k_is)
    (case xxL_InvalidNumber => k_is)
    (case xsa_InvalidNumber => k_is)
    (case xga_InvalidNumber => k_is)
    (case xgg_InvalidNumber => k_is)
    (case xiC_InvalidNumber => k_is)
    (case xtI_InvalidNumber => k_is)
    (case xkC_InvalidNumber => k_is)
    (case xeC_InvalidNumber => k_is)
    (case xvC_InvalidNumber => k_is)
    (case xse_InvalidNumber => k_is)
    (case xtC_InvalidNumber => k_is)
    (case xhC_InvalidNumber => k_is)
    (case xcC_InvalidNumber => k_is)
    (case xsC_InvalidNumber => k_is)
    (case xlI_InvalidNumber => k_is)
    (case xcI_InvalidNumber => k_is)
    (case xcd_InvalidNumber => k_is)
    (case xcc_InvalidNumber => k_is)
    (case xfi_InvalidNumber => exact rfl)
    (case xff_InvalidNumber => first | rfl | decide +kernel)
    (case xup_InvalidNumber => first | k_is | ks_is)
    (case xn_InvalidNumber_number => k_is)
    (case xgC_InvalidWords => k_is)
    (case xxL_InvalidWords => k_is)
    (case xsa_InvalidWords => k_is)
    (case xga_InvalidWords => k_is)
    (case xgg_InvalidWords => k_is)
    (case xiC_InvalidWords => k_is)
    (case xtI_InvalidWords => k_is)
    (case xkC_InvalidWords => k_is)
    (case xeC_InvalidWords => k_is)
    (case xvC_InvalidWords => k_is)
    (case xse_InvalidWords => k_is)
    (case xtC_InvalidWords => k_is)
    (case xhC_InvalidWords => k_is)
    (case xcC_InvalidWords => k_is)
    (case xsC_InvalidWords => k_is)
    (case xlI_InvalidWords => k_is)
    (case xcI_InvalidWords => k_is)
    (case xcd_InvalidWords => k_is)
    (case xcc_InvalidWords => k_is)
    (case xfi_InvalidWords => exact rfl)
    (case xff_InvalidWords => first | rfl | decide +kernel)
    (case xup_InvalidWords => first | k_is | ks_is)
    (case xn_InvalidWords_words => k_is)
    (case xsu => k_is)
    (case xop => k_is)
    (case xtp => first | rfl | decide +kernel)
    (case a_is_sequence => k_is)
    (case l_is_sequence => k_is)
    (case c_is_sequence => k_is)
    (case k_is_sequence => k_is)
    (case a_Share___init__ => k_is)
    (case i_Share___init__ => k_is)
    (case l_Share___init__ => k_is)
    (case c_Share___init__ => k_is)
    (case k_Share___init__ => k_is)
    (case a_sum_of_halves => k_is)
    (case l_sum_of_halves => k_is)
    (case c_sum_of_halves => k_is)
    (case k_sum_of_halves => k_is)
    (case a_is_word => k_is)
    (case l_is_word => k_is)
    (case c_is_word => k_is)
    (case k_is_word => k_is)
    (case a_check_words => k_is)
    (case l_check_words => k_is)
    (case c_check_words => k_is)
    (case k_check_words => k_is)
    (case a_first_clash => k_is)
    (case l_first_clash => k_is)
    (case c_first_clash => k_is)
    (case k_first_clash => k_is)
    (case a_share_of => k_is)
    (case l_share_of => k_is)
    (case c_share_of => k_is)
    (case k_share_of => k_is)
    (case a_law_tape => k_is)
    (case l_law_tape => k_is)
    (case c_law_tape => k_is)
    (case k_law_tape => k_is)
    (case a_law_draw => k_is)
    (case l_law_draw => k_is)
    (case c_law_draw => k_is)
    (case k_law_draw => k_is)
    (case a_law_integer => k_is)
    (case l_law_integer => k_is)
    (case c_law_integer => k_is)
    (case k_law_integer => k_is)
    (case a_law_string => k_is)
    (case l_law_string => k_is)
    (case c_law_string => k_is)
    (case k_law_string => k_is)
    (case a_law_thing => k_is)
    (case l_law_thing => k_is)
    (case c_law_thing => k_is)
    (case k_law_thing => k_is)
    (case a_law_copy => k_is)
    (case l_law_copy => k_is)
    (case c_law_copy => k_is)
    (case k_law_copy => k_is)
    (case a_law_same => k_is)
    (case l_law_same => k_is)
    (case c_law_same => k_is)
    (case k_law_same => k_is)
    (case a_law_is_word => k_is)
    (case l_law_is_word => k_is)
    (case c_law_is_word => k_is)
    (case k_law_is_word => k_is)
    (case a_law_are_words => k_is)
    (case l_law_are_words => k_is)
    (case c_law_are_words => k_is)
    (case k_law_are_words => k_is)
    (case a_law_bits => k_is)
    (case l_law_bits => k_is)
    (case c_law_bits => k_is)
    (case k_law_bits => k_is)
    (case a_law_leaves => k_is)
    (case l_law_leaves => k_is)
    (case c_law_leaves => k_is)
    (case k_law_leaves => k_is)
    (case a_law_drawn_words => k_is)
    (case l_law_drawn_words => k_is)
    (case c_law_drawn_words => k_is)
    (case k_law_drawn_words => k_is)
    (case a_law_clash => k_is)
    (case l_law_clash => k_is)
    (case c_law_clash => k_is)
    (case k_law_clash => k_is)
    (case a_law_sum => k_is)
    (case l_law_sum => k_is)
    (case c_law_sum => k_is)
    (case k_law_sum => k_is)
    (case a_law_told_clash => k_is)
    (case l_law_told_clash => k_is)
    (case c_law_told_clash => k_is)
    (case k_law_told_clash => k_is)
    (case a_law_told_share => k_is)
    (case l_law_told_share => k_is)
    (case c_law_told_share => k_is)
    (case k_law_told_share => k_is)
    (case a_law_right => k_is)
    (case l_law_right => k_is)
    (case c_law_right => k_is)
    (case k_law_right => k_is)
    (case a_law_told_word => k_is)
    (case l_law_told_word => k_is)
    (case c_law_told_word => k_is)
    (case k_law_told_word => k_is)
    (case a_law_words_right => k_is)
    (case l_law_words_right => k_is)
    (case c_law_words_right => k_is)
    (case k_law_words_right => k_is)
    (case a_law_asks => k_is)
    (case l_law_asks => k_is)
    (case c_law_asks => k_is)
    (case k_law_asks => k_is)
    (case a_law => k_is)
    (case l_law => k_is)
    (case c_law => k_is)
    (case k_law => k_is)
    (case z_super => k_is)
    (case z_isinstance => k_is)
    (case z_tuple => k_is)
    (case z_list => k_is)
    (case z_max => k_is)
    (case z_sum => k_is)
    (case z_str => k_is)
    (case z_all => k_is)
    (case z_enumerate => k_is)
    (case z_range => k_is)
    (case z_len => k_is)
    (case z_int => k_is)
    (case z_abs => k_is)
    (case z_bool => k_is)
    (case z_min => k_is)
    (case sPg => k_is)
    (case sHd => k_is)
    (case sPo => k_is)
    (case sSa => k_is)
    (case sHa => k_is)
    (case cHn => k_is)
    (case cTk => k_is)
    (case sHm => k_is)
    (case sCl => k_is)
    (case sTy => k_is)
    (case sNo => k_is)
    (case sNu => k_is)
    (case sFi => k_is)
    (case sNe => k_is)
    (case sNf => k_is)
    (case sMk => k_is)
    (case sKc => k_is)
#print axioms PySem.Challenge.cw_keptbudgets_k03_words_and_clashes_holds
