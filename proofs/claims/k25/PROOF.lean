import PyProof.Rows.All
import Wide.All
import OpenK.AllK
import Wide.FinOn
import HandS.ForMost
import HandS.ForExc
import HandS.Codes
import HandS.Wide
import HandS.WideBits
import HandS.IsInst
import HandS.Defaults
import KE.KExcSuper
import HandS.ExcInit
import HandS.ExcIs
import HandS.More
import HandS.ExcCtx
import HandS.ExcField
import HandS.HotCalls
import HandS.SlotsOwn
import HandS.MakeKwOnly
import HandS.TryMany
import HandS.Gcd
import HandS.TupLe
import PyProof.FString3
import HandS.FStr
import PyProof.Rows.StrIntSpec
import HandS.StrMore
import KE.GoesMore
import HandS.SortInts
import PyProof.TupleIter
import HandS.SortRule
import KE.DataMinMax
import HandS.SortKw
import KE.KMathGC
import KE.KDictZip
import HandS.ExcValue
import KE.GoesEnum
import HandS.Flt
import HandS.Style
import HandS.Conv
import PySem.Challenge.RW_keptbudgets_k25_wrong_rows_and_budgets
set_option Elab.async false
set_option linter.all false
set_option maxRecDepth 100000
set_option maxHeartbeats 4000000
namespace KB
open PySem PySem.Spec PyProof.Rows L2

/-! ### heaps -/
theorem same_upd {H : Hp} {p : Addr} {o : HO} (h : H p = none) : Same H (upd H p o) := fun b x e => by
  rw [upd_ne (ne_of_none e h)]
  exact e
theorem same_set {B H : Hp} {p : Addr} {o : HO} (s : Same B H) : Same (upd B p o) (upd H p o) := fun b x e => by
  by_cases hb : b = p
  · subst hb
    rw [upd_same] at e ⊢
    exact e
  · rw [upd_ne hb] at e ⊢
    exact s b x e
theorem same_out {B H : Hp} {p : Addr} {o : HO} (s : Same B H) (h : B p = none) : Same B (upd H p o) := fun b x e => by
  rw [upd_ne (ne_of_none e h)]
  exact s b x e
theorem sz (n : Nat) (h : n ≤ 16777216 := by decide) : n ≤ sizeLine := by
  rw [sizeLine_eq]
  exact h
theorem szl {n : Nat} (h : n < 16777216) : n < sizeLine := by
  rw [sizeLine_eq]
  exact h
theorem szle {n : Nat} (h : n ≤ 16777216) : n ≤ sizeLine := by
  rw [sizeLine_eq]
  exact h

/-! ### the tape: B is all that stands beside it -/
structure Tp (B H : Hp) (t : Addr) (c : Nat) : Prop where
  same : Same B H
  bt : B t = none
  ex : ∃ (g : Addr) (gs : List Int) (sd ct : Int), B g = none ∧ t ≠ g ∧ H t = some (.lst [.ref g, .int sd, .int ct]) ∧ H g = some (.lst (gs.map V.int)) ∧
    gs.length ≤ 63 ∧ 0 ≤ sd ∧ sd < 2147483647 ∧ 0 ≤ ct ∧ ct ≤ (c : Int)
theorem Tp.le {B H : Hp} {t : Addr} {c d : Nat} (T : Tp B H t c) (h : c ≤ d) : Tp B H t d := by
  obtain ⟨s, b, g, gs, sd, ct, h1, h2, h3, h4, h5, h6, h7, h8, h9⟩ := T
  exact ⟨s, b, g, gs, sd, ct, h1, h2, h3, h4, h5, h6, h7, h8, by omega⟩
theorem Tp.new {B H : Hp} {t p : Addr} {c : Nat} {o : HO} (T : Tp B H t c) (h : H p = none) : Tp (upd B p o) (upd H p o) t c := by
  obtain ⟨s, b, g, gs, sd, ct, h1, h2, h3, h4, h5⟩ := T
  have e1 : t ≠ p := ne_of_none h3 h
  have e2 : g ≠ p := ne_of_none h4 h
  exact ⟨same_set s, by rw [upd_ne e1]; exact b, g, gs, sd, ct, by rw [upd_ne e2]; exact h1, h2, by rw [upd_ne e1]; exact h3, by rw [upd_ne e2]; exact h4, h5⟩
theorem Tp.set {B H : Hp} {t p : Addr} {c : Nat} {o o' : HO} (T : Tp B H t c) (h : B p = some o) : Tp (upd B p o') (upd H p o') t c := by
  obtain ⟨s, b, g, gs, sd, ct, h1, h2, h3, h4, h5⟩ := T
  have e1 : t ≠ p := fun z => by rw [z, h] at b; cases b
  have e2 : g ≠ p := fun z => by rw [z, h] at h1; cases h1
  exact ⟨same_set s, by rw [upd_ne e1]; exact b, g, gs, sd, ct, by rw [upd_ne e2]; exact h1, h2, by rw [upd_ne e1]; exact h3, by rw [upd_ne e2]; exact h4, h5⟩
theorem Tp.free {B H : Hp} {t p : Addr} {c : Nat} (T : Tp B H t c) (h : H p = none) : B p = none := T.same.free h
theorem Tp.at {B H : Hp} {t p : Addr} {c : Nat} {o : HO} (T : Tp B H t c) (h : B p = some o) : H p = some o := T.same _ _ h
theorem Tp.inst {B H : Hp} {t x dx C : Addr} {c : Nat} {fs : List (Str × V)} (T : Tp B H t c) (hx : H x = none) (hd : H dx = none) (ne : dx ≠ x) : Tp (upd (upd B dx (.own x)) x (.ins C dx fs)) (upd (upd H dx (.own x)) x (.ins C dx fs)) t c :=
  (T.new hd).new (by rw [upd_ne ne.symm]; exact hx)
theorem Tp.ext {B H H' : Hp} {t : Addr} {c : Nat} (T : Tp B H t c) (s : Same H H') : Tp B H' t c := by
  obtain ⟨sm, b, g, gs, sd, ct, h1, h2, h3, h4, h5⟩ := T
  exact ⟨sm.trans s, b, g, gs, sd, ct, h1, h2, s _ _ h3, s _ _ h4, h5⟩
theorem Tp.ext1 {B H H' : Hp} {t p : Addr} {c : Nat} {o : HO} (T : Tp B H t c) (s : Same H H') (hp : H p = none) (ho : H' p = some o) : Tp (upd B p o) H' t c := by
  obtain ⟨sm, b, g, gs, sd, ct, h1, h2, h3, h4, h5⟩ := T
  have e1 : t ≠ p := ne_of_none h3 hp
  have e2 : g ≠ p := ne_of_none h4 hp
  refine ⟨fun b x e => ?_, by rw [upd_ne e1]; exact b, g, gs, sd, ct, by rw [upd_ne e2]; exact h1, h2, s _ _ h3, s _ _ h4, h5⟩
  by_cases hb : b = p
  · subst hb
    rw [upd_same] at e
    rw [ho]
    exact e
  · rw [upd_ne hb] at e
    exact s _ _ (sm _ _ e)
theorem Tp.isn {B H : Hp} {t p : Addr} {c : Nat} (T : Tp B H t c) (h : H p = none) : B p = none := T.same.free h
theorem same_ins {B : Hp} {x dx C : Addr} {fs : List (Str × V)} (hx : B x = none) (hd : B dx = none) (ne : dx ≠ x) : Same B (upd (upd B dx (.own x)) x (.ins C dx fs)) :=
  (same_upd hd).trans (same_upd (by rw [upd_ne ne.symm]; exact hx))
/-- a draw's number is a natural one -/
theorem nat_of {n : Int} (h : 0 ≤ n) : ∃ k : Nat, n = (k : Int) := ⟨n.toNat, by omega⟩
end KB

namespace KB
open PySem PySem.Spec PyProof.Rows L2
section
variable {P : Program} {w : World} {K : PySem.W.Frag} {mg : Str → Option Value} {base : Heap}
/-- a def of the module that raises nothing, to be called by its name -/
structure Cal (P : Program) (w : World) (K : PySem.W.Frag) (mg : Str → Option Value) (base : Heap) (k : Nat) (x : Str) (sp : Sp) : Prop where
  ex : ∃ (f : Addr) (fd : FuncData) (ps : List Str), FnOk P w K mg base CX0 k f fd ps sp ∧ mg x = some (.ref f) ∧ PySem.W.keepIn K (.ref f) = true ∧ Binds K fd ps []
/-- .. called by keywords alone -/
structure CalK (P : Program) (w : World) (K : PySem.W.Frag) (mg : Str → Option Value) (base : Heap) (k : Nat) (x : Str) (n : Nat) (ks : List Str) (gV : List V → List V → List V) (sp : Sp) : Prop where
  ex : ∃ (f : Addr) (fd : FuncData) (ps : List Str) (g : List Value → List Value → List Value), FnOk P w K mg base CX0 k f fd ps sp ∧ mg x = some (.ref f) ∧ PySem.W.keepIn K (.ref f) = true ∧ KBn K fd ps n ks g gV
/-- a method of the class at C -/
structure Met (P : Program) (w : World) (K : PySem.W.Frag) (mg : Str → Option Value) (base : Heap) (k : Nat) (C : Addr) (m : Str) (sp : Sp) : Prop where
  ex : ∃ (f : Addr) (fd : FuncData) (ps : List Str), Cls K C ∧ Meth K C m f ∧ FnOk P w K mg base CX0 k f fd ps sp ∧ Binds K fd ps []
theorem L2Fun_kbn {x qual : Str} {st : Stmt} {f : Addr} {fd : FuncData} {ps ks : List Str} {n : Nat} {g : List Value → List Value → List Value} {gV : List V → List V → List V} (F : Fun K x qual st f fd)
    (h : ∀ (kV doc pm : Value) (an : Option Addr) (cdv ct : Value) (us ws : List Value), us.length = n → ws.length = ks.length → bindArgs (PySem.W.fnOf x qual (defArgs st) (defBody st) (defScope st) .none kV doc pm an cdv ct) ⟨us, ks.zip ws⟩ = pure (ps.zip (g us ws)))
    (hrel : ∀ {vs : List V} {us : List Value} {zs : List V} {ws : List Value}, Vals vs us → Vals zs ws → Vals (gV vs zs) (g us ws)) : KBn K fd ps n ks g gV := by
  obtain ⟨oc, od, kV, doc, pm, an, cdv, ct, osl, rfl, lk, hcd⟩ := F.ex
  exact ⟨fun s us ws _ l1 l2 => .of_eq (h kV doc pm an cdv ct us ws l1 l2), fun r1 r2 => hrel r1 r2⟩
end
theorem vals_rev : ∀ {vs : List V} {us : List Value}, Vals vs us → Vals vs.reverse us.reverse
  | _, _, .nil => .nil
  | _, _, .cons r t => by
    rw [List.reverse_cons, List.reverse_cons]
    exact (vals_rev t).append (.cons r .nil)
section
variable {X : Cx} {k j n : Nat} {C : Addr} {x m : Str} {sp : Sp} {p pos apos : Pos} {e o : Expr} {es : List Expr} {kws : List Keyword} {ta : TE} {t tk : TA} {ks : List Str} {gV : List V → List V → List V}
theorem pe_c (c : Cal X.prog X.w X.K X.mg X.base k x sp) (hr : Room j X.A) (hk : k ≤ j) (hg : Gl X x) (ha : PA X (e :: es) t)
    (hdb : (x == ("__debug__" : Str)) = false := by decide) (he : starEach (e :: es) X.env = (false, eval e X.env) :: starEach es X.env := by rfl) (hpl : (backTo pos (starEach es X.env)).any (·.1) = false := by rfl) :
    PE X (.Call (.Name x p) (e :: es) [] pos) (tCall sp [] E0 t) := by
  obtain ⟨f, fd, ps, F, hm, kp, b⟩ := c.ex
  exact pe_call F (hr.mono hk) hg hm kp b .nil pass0 ha hdb he hpl
theorem pe_c0 (c : Cal X.prog X.w X.K X.mg X.base k x sp) (hr : Room j X.A) (hk : k ≤ j) (hg : Gl X x)
    (hdb : (x == ("__debug__" : Str)) = false := by decide) :
    PE X (.Call (.Name x p) [] [] pos) (tCall sp [] E0 tNil) := by
  obtain ⟨f, fd, ps, F, hm, kp, b⟩ := c.ex
  exact pe_call0 F (hr.mono hk) hg hm kp b .nil pass0 hdb
theorem pe_mt {pl : Sem Bool} (c : Met X.prog X.w X.K X.mg X.base k C m sp) (hr : Room j X.A) (hk : k ≤ j) (he : PE X o ta) (ha : PA X (e :: es) t)
    (hst : starEach (e :: es) X.env = (false, eval e X.env) :: starEach es X.env := by rfl) (hpl : (backTo pos (starEach es X.env)).any (·.1) = false := by rfl)
    (ht : eval (.Call (.Attribute o m apos) (e :: es) [] pos) X.env = (do
      let ov ← eval o X.env
      standAt apos.atName
      let (f, first) ← holding [ov] (getMethod ov m pl)
      callWith pos f first (backTo pos (starEach (e :: es) X.env)) (backToKw pos (keywordEach [] X.env))) := by rfl) :
    PE X (.Call (.Attribute o m apos) (e :: es) [] pos) (tMeth C m sp [] E0 ta t) := by
  obtain ⟨f, fd, ps, hc, hm, F, b⟩ := c.ex
  exact pe_meth (pl := pl) he hc hm F (hr.mono hk) b .nil pass0 ha hst hpl ht
theorem pe_mt0 {pl : Sem Bool} (c : Met X.prog X.w X.K X.mg X.base k C m sp) (hr : Room j X.A) (hk : k ≤ j) (he : PE X o ta)
    (ht : eval (.Call (.Attribute o m apos) [] [] pos) X.env = (do
      let ov ← eval o X.env
      standAt apos.atName
      let (f, first) ← holding [ov] (getMethod ov m pl)
      callWith pos f first (backTo pos (starEach [] X.env)) (backToKw pos (keywordEach [] X.env))) := by rfl) :
    PE X (.Call (.Attribute o m apos) [] [] pos) (tMeth C m sp [] E0 ta tNil) := by
  obtain ⟨f, fd, ps, hc, hm, F, b⟩ := c.ex
  exact pe_meth0 (pl := pl) he hc hm F (hr.mono hk) b .nil pass0 ht
/-- f(k = v, ..) -/
def tCallK0 (m : Nat) (sp : Sp) (gV : List V → List V → List V) (E : XK) (tk : TA) : TE := fun σ H Q => tk σ H fun zs H2 => zs.length = m ∧ sp (gV [] zs) H2 Q E
theorem pe_cK0 (c : CalK X.prog X.w X.K X.mg X.base k x 0 ks gV sp) (hr : Room j X.A) (hk : k ≤ j) (hg : Gl X x) (hkw : PK X kws tk)
    (hall : (backToKw pos (keywordEach kws X.env)).all (·.1.isSome) = true := by rfl) (hks : (backToKw pos (keywordEach kws X.env)).filterMap (·.1) = ks := by rfl) (hdb : (x == ("__debug__" : Str)) = false := by decide)
    (hpl : ((backTo pos (starEach [] X.env)).any (·.1) || (backToKw pos (keywordEach kws X.env)).any (·.1.isNone)) = false := by rfl) :
    PE X (.Call (.Name x p) [] kws pos) (tCallK0 ks.length sp gV E0 tk) := by
  obtain ⟨f, fd, ps, g, F, hm, kp, hb⟩ := c.ex
  refine ⟨fun pins s σ H Q I h => ?_⟩
  refine wpAny_Call_Name_kw (ld_glob I hg hm ?_ hdb)
  refine PySem.W.callWith_KW0 (h₀ := X.base) I.ok.mod.kin kp hall ?_ hpl
  refine thn (hkw.run pos pins s σ H _ I h) fun ws s2 ⟨zs, H2, I2, rz, l2, q2⟩ => ⟨I2.kIn, ?_⟩
  rw [hks]
  have r2 : Vals (gV [] zs) (g [] ws) := hb.rel (vs := []) (us := []) .nil rz
  refine wpAny_call (codeAny_mono (F.run X.A X.stack s2 H2 ⟨[], ks.zip ws⟩ (g [] ws) (gV [] zs) Q E0 (hr.mono hk) I2.env0 (hb.to s2 [] ws I2.kIn rfl (rz.length.symm.trans l2)) r2 q2) fun r s' hq => ?_)
  cases r with
  | error e => exact pass0 pins σ H2 s2 e s' I2 hq
  | ok fl =>
    cases fl with
    | ret u => exact I2.after hq
    | next => exact False.elim hq
    | brk => exact False.elim hq
    | cont => exact False.elim hq
/-- C() of a class that has no __init__ of its own -/
structure Mk0 (K : PySem.W.Frag) (C : Addr) : Prop where
  makes : PySem.W.makesIn K C = true
  init : PySem.W.findIn K (.ref C) "__init__" = some (some (.builtin "object.__init__"))
  kp : PySem.W.keepIn K (.ref C) = true
  top : PySem.W.mroIn K C (.type "object") = some true
def tNew0 (C : Addr) : TE := fun _ H Q => ∀ x dx, H x = none → H dx = none → dx ≠ x → Q (.ref x) (upd (upd H dx (.own x)) x (.ins C dx []))
theorem pe_new0 (M : Mk0 X.K C) (hg : Gl X x) (hm : X.mg x = some (.ref C)) (hdb : (x == ("__debug__" : Str)) = false := by decide) : PE X (.Call (.Name x p) [] [] pos) (tNew0 C) := by
  refine ⟨fun pins s σ H Q I h => ?_⟩
  refine wpAny_Call_Name_kw (ld_glob I hg hm ?_ hdb)
  refine PySem.W.callWith_K0 I.kIn M.kp ?_
  have hq := h (s.heap.objs.size + 1) s.heap.objs.size (I.hok.fresh (Nat.le_succ _)) (I.hok.fresh (Nat.le_refl _)) (Nat.ne_of_lt (Nat.lt_succ_self _))
  have I2 := Inv.made (C := C) I
  have hx : ((s.heap.push PySem.W.emptyDict).push (PySem.W.instObj C s.heap.objs.size)).get? (s.heap.objs.size + 1) = some (PySem.W.instObj C s.heap.objs.size) := by
    have := Heap.get?_push_size (s.heap.push PySem.W.emptyDict) (o := PySem.W.instObj C s.heap.objs.size) rfl
    rwa [Heap.size_push] at this
  have t1 : PySem.W.Looks (model X.prog X.w) ((s.heap.push PySem.W.emptyDict).push (PySem.W.instObj C s.heap.objs.size)) (typeOf (.ref (s.heap.objs.size + 1))) (.ref C) := (PySem.W.Looks.ld hx).andThen .now
  have t2 : PySem.W.Looks (model X.prog X.w) ((s.heap.push PySem.W.emptyDict).push (PySem.W.instObj C s.heap.objs.size)) (isInstance (.ref (s.heap.objs.size + 1)) (.type "object")) true := t1.andThen (PySem.W.looks_mroIn I2.kIn M.top)
  refine wpAny_call (make_map0 I.kIn M.makes M.init (fun self => PySem.W.Looks.of_pure (PySem.W.oi_bind self)) ?_)
  refine codeAny_call_builtin PySem.W.oi_plain PySem.W.entry_oi (@PySem.W.check_slot (model X.prog X.w) _ _ _ "object.__init__" "object" "__init__" (.ref (s.heap.objs.size + 1)) [] [] _ PySem.W.oi_kind PySem.W.oi_split t2 (PySem.W.oi_args _) ?_)
  rw [PySem.W.oi_run]
  exact wpAny_pure (And.intro rfl ⟨V.ref (s.heap.objs.size + 1), _, I2, rfl, hq⟩)
end
end KB

/-! own errors: super().__init__('..'), then one or two fields -/
namespace KB
open PySem PySem.W PySem.Calls PyProof.Rows PySem.HandSPX
def xSup (msg : Str) (j : Nat) (p0 p1 p2 p3 p4 p5 : Pos) : Stmt := .Expr (.Call (.Attribute (.Call (.Name "super" p0) [] [] p1) "__init__" p2) [.Constant (.str msg) j p3] [] p4) p5
def xSet (f : Str) (q1 q2 q3 q4 : Pos) : Stmt := .Assign [.Attribute (.Name "self" q1) f q2] (.Name f q3) q4
def xArg (x : Str) (p : Pos) : Arg := { arg := x, annotation := none, pos := p }
def xArgs (l : List Arg) : Arguments := { posonlyargs := [], args := l, vararg := none, kwonlyargs := [], kw_defaults := [], kwarg := none, defaults := [] }
/-- what the written part says of the class at C, of its __init__ at fI, whose class cell is at cc -/
structure XCls (P : Program) (K : Frag) (mg : Str → Option Value) (x qual : Str) (C fI : Addr) (st : Stmt) : Prop where
  gC : mg x = some (.ref C)
  cls : ∃ nm q N bs bm sn sub ab col dd k0 k1 k2 k3 k5, K.lookup C = some (excClassObj nm q C N bs bm true sn sub ab col dd k0 k1 k2 k3 k5 "ValueError.__new__") ∧ refsVE bm = true
  sa : findIn K (.ref C) "__setattr__" = some (some (.builtin "object.__setattr__"))
  ga : findIn K (.ref C) "__getattribute__" = some (some (.builtin "BaseException.__getattribute__"))
  gg : findIn K (.ref C) "__getattr__" = some none
  iC : findIn K (.ref C) "__init__" = some (some (.ref fI))
  tC : typeIn K (.ref fI) = some (.type "function")
  kC : keepIn K (.ref C) = true
  exC : subIn K (.ref C) (.type "BaseException") = some true
  veC : subIn K (.ref C) (.type "ValueError") = some true
  self : mroIn K C (.ref C) = some true
  tyC : typeIn K (.ref C) = some (.type "type")
  hdC : hasDictIn K C = true
  te : exmOne K (.ref C) (.ref C) = some true
  up : ks_superIn K C C "__init__" = some (some (.builtin "ValueError.__init__"))
  sup : mg "super" = none
  opq : nsIn K cStatics "thirdparty.any" = some none
  top : (P.main.scope.names.lookup ("super" : Str)).isSome = false
  fn : ∃ (oc : Value) (od : Option Addr) (doc pm : Value) (an : Option Addr) (ct : Value) (osl : Array (Option Value)) (cda cc : Addr) (ccl cl : Value) (cdd cld : Option Addr) (ccs csl : Array (Option Value)) (vs : Array Value) (file : Str) (tf : Tok),
    K.lookup fI = some ⟨oc, od, .func (ksFn "__init__" qual (L2.defArgs st) (L2.defBody st) (L2.defScope st) .none .none doc pm an (.ref cda) ct cc), osl⟩ ∧ codeIn K (.ref cda) qual = true ∧
    K.lookup cda = some ⟨ccl, cdd, .fields vs, ccs⟩ ∧ vs[2]? = some (.str file tf) ∧ ((P.main.file : Str) == file) = true ∧ K.lookup cc = some ⟨cl, cld, .cell (some (.ref C)), csl⟩
/-- the scope of such an __init__ with these fields -/
structure XScope (sc : Scope) (fs : List Str) : Prop where
  kind : sc.kind = .function
  co : sc.isCoroutine = false
  gen : sc.isGenerator = false
  nocell : ∀ x ∈ sc.names, x.2 ≠ .cell
  self : sc.names.lookup ("self" : Str) = some NameKind.local
  fld : ∀ f ∈ fs, sc.names.lookup f = some NameKind.local
  cls : sc.names.lookup ("__class__" : Str) = some NameKind.free
  sup : sc.names.lookup ("super" : Str) = some NameKind.globalImplicit

section
variable {prog : Program} {w : World} {A : Around} {E : Value → Shared → Prop} {h : Heap} {g : Array GenState} {d : Drawn} {t : Nat} {os : OsState} {K : Frag} {mg : Str → Option Value}
/-- a call of a method of super(), its words in one line -/
theorem x_call {env : Env} {msg nm : Str} {j : Nat} {p0 p1 p2 p3 p4 : Pos} (hl : (p2.endLine == p4.line) = true) :
    eval (.Call (.Attribute (.Call (.Name "super" p0) [] [] p1) nm p2) [.Constant (.str msg) j p3] [] p4) env = (do
      let ov ← attributeBase (.Call (.Name "super" p0) [] [] p1) nm env (eval (.Call (.Name "super" p0) [] [] p1) env)
      standAt p2.atName
      let (f, first) ← holding [ov] (getMethod ov nm (do return (← importBound (.Call (.Name "super" p0) [] [] p1) env).getD true))
      callWith p4 f first (backTo p4 (starEach [.Constant (.str msg) j p3] env)) []) := by
  have e : methodCallPos true (.Call (.Name "super" p0) [] [] p1) env p2 p4 = pure p4 := by
    unfold methodCallPos
    rw [hl]
    rfl
  have e2 : methodCallForm ([Expr.Constant (.str msg) j p3].length + 0) (backTo p4 (starEach [.Constant (.str msg) j p3] env)) [] = true := rfl
  show (attributeBase _ _ _ _ >>= fun ov => standAt _ >>= fun _ => methodCall _ _ _ _ _ ov _ _ _) = _
  unfold methodCall
  show (attributeBase _ _ _ _ >>= fun ov => standAt _ >>= fun _ => holding [ov] (calleeOf (methodCallForm ([Expr.Constant (.str msg) j p3].length + 0) (backTo p4 (starEach [.Constant (.str msg) j p3] env)) []) _ _ ov _) >>= fun z =>
    methodCallPos (methodCallForm ([Expr.Constant (.str msg) j p3].length + 0) (backTo p4 (starEach [.Constant (.str msg) j p3] env)) []) _ _ _ _ >>= fun cp => callWith cp z.1 z.2 _ _) = _
  rw [e2, e]
  rfl
/-- super().__init__('..') as the first statement -/
theorem x_super {x C fI t0 L cc cda : Addr} {qual nm2 : Str} {fs : List Str} {mL : Str → Option Value} {st : Stmt} {sc : Scope} {body rest : List Stmt} {fd : FuncData} {ar : Arg} {vs : Array Value} {file : Str} {tf : Tok} {oc ccl cl : Value} {od cdd cld : Option Addr} {osl ccs csl : Array (Option Value)}
    {msg : Str} {j : Nat} {p0 p1 p2 p3 p4 p5 : Pos} {Q : Flow → Shared → Prop} (T : XCls prog K mg nm2 qual C fI st) (S : XScope sc fs) (X : K.In h) (hg : h.Ns mainGlobals mg) (hb : ∃ mb, h.Ns builtinsNs mb ∧ ∀ x : Str, x ≠ "__name__" → mb x = bootBuiltins x)
    (hns : h.Ns L mL) (hL : mL ar.arg = some (.ref x)) (hlo : sc.names.lookup ar.arg = some .local)
    (hl : (p2.endLine == p4.line) = true) (hx : h.get? x = some (excO C t0)) (hf : K.lookup fI = some ⟨oc, od, .func fd, osl⟩) (hp : (fd.params.posonlyargs ++ fd.params.args).head? = some ar)
    (hcode : K.lookup cda = some ⟨ccl, cdd, .fields vs, ccs⟩) (hvs : vs[2]? = some (.str file tf)) (hfile : ((prog.main.file : Str) == file) = true) (hcell : K.lookup cc = some ⟨cl, cld, .cell (some (.ref C)), csl⟩)
    (hq : ∀ h' t' t1, (∀ b o, b ≠ x → h.get? b = some o → h'.get? b = some o) → h'.get? x = some (excO C t1) → wpAny (model prog w) A (execs rest (ksEnv qual sc L fI (.ref cda) cc)) Q E ⟨h', g, d, t', os⟩) :
    _root_.PySem.wpAt (model prog w) A (.func body (ksEnv qual sc L fI (.ref cda) cc)) (execs (xSup msg j p0 p1 p2 p3 p4 p5 :: rest) (ksEnv qual sc L fI (.ref cda) cc)) Q E ⟨h, g, d, t, os⟩ := by
  obtain ⟨kind, nms, ig, ic, mo⟩ := sc
  have ek : kind = .function := S.kind
  subst ek
  obtain ⟨nm, q, N, bs, bm, sn, sub, ab, col, dd, k0, k1, k2, k3, k5, hC, hbm⟩ := T.cls
  obtain ⟨mb, hb1, hb2⟩ := hb
  have hcl : clsIn K C = some { name := nm, bases := bs, mro := .ref C :: bm, ns := N, qualname := q, hasDict := true, slotNames := sn, subclasses := sub, abstract := ab, collection := col, hasDel := false } := by unfold clsIn; rw [hC] <;> rfl
  have hCh := X _ _ hC
  refine ks_wpAt_execs_cons (ks_wpAt_Expr_any (ks_wpAt_MethodCall ?_ (x_call hl)) (by rfl) (by rfl))
  refine ks_wpAt_super_base (env := ksEnv qual { kind := .function, names := nms, isGenerator := ig, isCoroutine := ic, more := mo } L fI (.ref cda) cc) S.sup S.cls (by decide) rfl (X _ _ hf) rfl hp rfl (X _ _ hcode) rfl hvs hfile T.top ?_
  refine ks_loadName_global S.kind S.sup (loadGlobal_builtin (env := ksEnv qual { kind := .function, names := nms, isGenerator := ig, isCoroutine := ic, more := mo } L fI (.ref cda) cc) hg T.sup hb1 ((hb2 _ (by decide)).trans (by decide +kernel)) ⟨rfl, ?_⟩)
  refine wpAny_loadName_free S.kind S.cls rfl ⟨_, X _ _ hcell, rfl⟩ ?_
  refine wpAny_loadName_local S.kind hlo hns hL ?_
  refine ks_wpAny_isType_cls hCh rfl ⟨rfl, ?_⟩
  refine ks_wpAny_call_super hCh rfl hx rfl (fun c e => by cases e) (looks_mroIn X T.self) (fun h1 e1 kk1 => ?_)
  have X1 : K.In h1 := X.keeps kk1
  have hx1 := kk1 _ _ hx
  have hxC : x ≠ C := fun e => by rw [e, hCh] at hx; cases hx
  have I1 : InstAt h1 x (excO C t0) C none := ⟨hx1, rfl, rfl, trivial⟩
  have up := T.up
  unfold ks_superIn at up
  rw [hcl] at up
  refine kxs_getMethod kxs_ValueError e1 (looks_opaque X1 T.opq) (l₀ := .ref C :: bm) (fun A Q E s k q => wpAny_bind ((looks_clsIn X1 hcl) A _ E s k (wpAny_pure q))) rfl X1 up (I1.type.andThen (looks_subIn X1 T.veC)) hxC (by decide) ?_
  have hu : (h1.push (kxs_mw "ValueError.__init__" x)).get? h1.objs.size = some (kxs_mw "ValueError.__init__" x) := Heap.get?_push_at rfl rfl
  have kk2 : ∀ b o, h1.get? b = some o → (h1.push (kxs_mw "ValueError.__init__" x)).get? b = some o := fun b o e => Heap.get?_push_of_some _ e
  refine kxs_callWith (i := "ValueError.__init__") (x := x) (by rfl) ?_
  refine L2.FK.evalArgs_any (by rfl) (spliced_more (e := .Constant (.str msg) j p3) (rest := []) ?_ (by rfl))
  refine Calls.Constant_str ?_
  refine spliced_none ⟨hu, ?_⟩
  refine wpAny_call (codeAny_of_tree ?_)
  show wpAny _ A.in1 (callAny (.ref h1.objs.size) ⟨_, []⟩) _ _ _
  simp only [callAny]
  refine wpAny_bind (wpAny_load hu ?_)
  simp only [kxs_mw, show (Value.type "method-wrapper" == Value.type "method" || Value.type "method-wrapper" == Value.type "builtin_function_or_method" || Value.type "method-wrapper" == Value.type "method-wrapper") = true by decide, if_true]
  refine KFB.if_so (by decide) ?_
  refine wpAny_bind (check_bound_init F.excBase_ValueError.toExcCallFacts (kk2 _ _ (kk1 _ _ hCh)) (kk2 _ _ hx1) rfl ?_)
  refine wpAny_bind (wpAny_pure (wpAny_pure ?_))
  refine ⟨plainId_quiet F.excBase_ValueError.init.plain _, codeAny_builtin F.excBase_ValueError.initEntry ?_⟩
  refine exc_init_tree (cls := .ref C) (t0 := t0) (dv := none) (c2 := .none) (c3 := .none) (b4 := .bool false) (kk2 _ _ hx1) (by show 1 ≤ sizeLine; rw [sizeLine_eq]; decide) (fun h' kk3 e3 _ => ?_)
  exact wpAt_of_wpAny (hq _ _ _ (fun b o hb e => kk3 b o hb (kk2 _ _ (kk1 _ _ e))) e3)

theorem x_ld {M : Model} {s : Shared} {qual : Str} {sc : Scope} {L a cc : Addr} {cd : Value} {m : Str → Option Value} {x : Str} {pos : Pos} {v : Value} {Q : Value → Shared → Prop} (hn : s.heap.Ns L m) (hv : m x = some v) (h : Q v s)
    (hk : sc.kind = .function) (hl : sc.names.lookup x = some .local) (hd : (x == ("__debug__" : Str)) = false) :
    wpAny M A (eval (.Name x pos) (ksEnv qual sc L a cd cc)) Q E s := wpAny_Name (wpAny_loadName_local hk hl hn hv h) hd
/-- what the made exception's __init__ leaves -/
structure XEnd (h h' : Heap) (x C dx : Addr) (m : Str → Option Value) : Prop where
  keep : ∀ b o, b ≠ x → h.get? b = some o → h'.get? b = some o
  obj : ∃ t1, h'.get? x = some { cls := .ref C, dict := some dx, data := .fields #[.ref t1, .none, .none, .none, .bool false, .none] }
  dbig : h.objs.size ≤ dx
  dne : dx ≠ x
  ns : h'.Ns1 dx m
structure XBody (st : Stmt) (fs : List Str) : Prop where
  ex : ∃ (msg : Str) (j : Nat) (p0 p1 p2 p3 p4 p5 : Pos) (sets : List Stmt), (p2.endLine == p4.line) = true ∧ L2.defBody st = xSup msg j p0 p1 p2 p3 p4 p5 :: sets ∧
    ((∃ f q1 q2 q3 q4, fs = [f] ∧ sets = [xSet f q1 q2 q3 q4]) ∨ ∃ f f2 q1 q2 q3 q4 r1 r2 r3 r4, fs = [f, f2] ∧ sets = [xSet f q1 q2 q3 q4, xSet f2 r1 r2 r3 r4])
  head : ∃ ar, ((L2.defArgs st).posonlyargs ++ (L2.defArgs st).args).head? = some ar ∧ ar.arg = "self"
  bind : ∀ (qual : Str) (doc pm : Value) (an : Option Addr) (cd ct : Value) (cc : Addr) (u : Value) (us : List Value), us.length = fs.length →
    bindArgs (ksFn "__init__" qual (L2.defArgs st) (L2.defBody st) (L2.defScope st) .none .none doc pm an cd ct cc) ⟨u :: us, []⟩ = pure ((("self" : Str), u) :: fs.zip us)
  sc : XScope (L2.defScope st) fs
  dbg : ∀ f ∈ fs, (f == ("__debug__" : Str)) = false
  nd : (("self" : Str) :: fs).Nodup
def mOf (l : List (Str × Value)) : Str → Option Value := fun y => l.lookup y

theorem x_set {s : Shared} {x C fI L cc : Addr} {cda : Value} {qual nm2 f : Str} {fs : List Str} {mL : Str → Option Value} {st : Stmt} {sc : Scope} {v : Value} {ox : Obj} {od : Option Obj} {q1 q2 q3 q4 : Pos} {Q : Flow → Shared → Prop}
    (T : XCls prog K mg nm2 qual C fI st) (S : XScope sc fs) (X : K.In s.heap) (hns : s.heap.Ns L mL) (hself : mL "self" = some (.ref x)) (hf : f ∈ fs) (hv : mL f = some v) (hd : (f == ("__debug__" : Str)) = false) (J : InstAt s.heap x ox C od)
    (h : codeAny (model prog w) A (.call (.builtin "object.__setattr__") ⟨[.ref x, .str f s.toks, v], []⟩) (fun r s' => match r with | .ok (.ret _) => Q .next s' | .ok _ => False | .error e => E e s') { s with toks := s.toks + 1 }) :
    wpAny (model prog w) A (exec (xSet f q1 q2 q3 q4) (ksEnv qual sc L fI cda cc)) Q E s := by
  refine plainObj_wpAny_Assign_Attribute ?_ (by rfl)
  refine x_ld hns hv ?_ S.kind (S.fld f hf) hd
  refine x_ld hns hself ?_ S.kind S.self (by decide)
  exact set_plain X J T.sa h
theorem x_init1 {s : Shared} {x C fI t0 : Addr} {qual nm2 f : Str} {st : Stmt} {v : Value} {R : Result → Shared → Prop} (T : XCls prog K mg nm2 qual C fI st) (B : XBody st [f]) (noF : findIn K (.ref C) f = some none)
    (X : K.In s.heap) (hg : s.heap.Ns mainGlobals mg) (hb : ∃ mb, s.heap.Ns builtinsNs mb ∧ ∀ x : Str, x ≠ "__name__" → mb x = bootBuiltins x) (hlim : s.heap.NoLimit) (hx : s.heap.get? x = some (excO C t0)) (hnx : K.lookup x = none) (hgx : x ≠ mainGlobals) (hbx : x ≠ builtinsNs) (hroom : A.depth < recursionLimit)
    (hq : ∀ h' tk dx, XEnd s.heap h' x C dx (fun y => if y = f then some v else none) → R (.ok (.ret .none)) { s with heap := h', toks := tk }) :
    codeAny (model prog w) A (.call (.ref fI) ⟨[.ref x, v], []⟩) R s := by
  obtain ⟨oc, od, doc, pm, an, ct, osl, cda, cc, ccl, cl, cdd, cld, ccs, csl, vs, file, tf, ho, hcd, hcode, hvs, hfile, hcell⟩ := T.fn
  obtain ⟨nm, q, N, bs, bm, sn, sub, ab, col, dd, k0, k1, k2, k3, k5, hC, hbm⟩ := T.cls
  have hcl : clsIn K C = some { name := nm, bases := bs, mro := .ref C :: bm, ns := N, qualname := q, hasDict := true, slotNames := sn, subclasses := sub, abstract := ab, collection := col, hasDel := false } := by unfold clsIn; rw [hC] <;> rfl
  obtain ⟨msg, j, p0, p1, p2, p3, p4, p5, sets, hl, eB, eS⟩ := B.ex
  obtain ⟨q1, q2, q3, q4, rfl⟩ : ∃ q1 q2 q3 q4, sets = [xSet f q1 q2 q3 q4] := by
    rcases eS with ⟨f', q1, q2, q3, q4, e1, e2⟩ | ⟨f', f2, q1, q2, q3, q4, r1, r2, r3, r4, e1, e2⟩
    · cases e1
      exact ⟨q1, q2, q3, q4, e2⟩
    · cases e1
  obtain ⟨ar, hhead, har⟩ := B.head
  have hbd := B.bind qual doc pm an (.ref cda) ct cc (.ref x) [v] rfl
  rw [eB] at ho hbd
  have S := B.sc
  generalize L2.defScope st = sc at ho S hbd
  have fne : f ≠ "self" := by
    have z := B.nd
    rw [List.nodup_cons] at z
    exact fun e => z.1 (by rw [e]; exact List.mem_cons_self ..)
  have hb1 : (([(("self" : Str), Value.ref x), (f, v)]).reverse.lookup ("self" : Str)) = some (.ref x) := by
    show List.lookup ("self" : Str) [(f, v), (("self" : Str), Value.ref x)] = _
    have z : (("self" : Str) == f) = false := by simpa using fun e => fne e.symm
    simp [List.lookup, z]
  have hb2 : (([(("self" : Str), Value.ref x), (f, v)]).reverse.lookup f) = some v := by
    show List.lookup f [(f, v), (("self" : Str), Value.ref x)] = _
    simp [List.lookup]
  refine ks_codeAny_call_defAt (binds := [("self", .ref x), (f, v)]) hroom (X _ _ ho) rfl hlim (codeRec_of X hcd) rfl (.of_eq hbd) S.nocell ?_ (fun h₁ hns hk₁ => ?_) S.co S.gen S.kind
  · intro y hy
    rcases List.mem_cons.mp hy with rfl | hy
    · exact S.self
    · rcases List.mem_cons.mp hy with rfl | hy
      · exact S.fld f (by simp)
      · cases hy
  have X₁ : K.In h₁ := X.keeps hk₁
  have hx₁ := hk₁ _ _ hx
  obtain ⟨mb, hb3, hb4⟩ := hb
  refine x_super T S X₁ (hg.keeps hk₁) ⟨mb, hb3.keeps hk₁, hb4⟩ hns (by rw [har]; exact hb1) (by rw [har]; exact S.self) hl hx₁ ho hhead hcode hvs hfile hcell (fun h2 t2 t1 kk2 hx2 => ?_)
  have hLx : s.heap.objs.size ≠ x := Nat.ne_of_gt (Heap.lt_size hx)
  have X2 : K.In h2 := fun b o e => kk2 b o (fun z => by rw [z, hnx] at e; cases e) (X₁ b o e)
  have hns2 : h2.Ns s.heap.objs.size (fun y => [(("self" : Str), Value.ref x), (f, v)].reverse.lookup y) := by
    obtain ⟨oL, es, ep, e1, r⟩ := hns
    exact ⟨oL, es, ep, kk2 _ _ hLx e1, r⟩
  refine wpAny_execs_cons (x_set T S X2 hns2 hb1 (by simp) hb2 (B.dbg f (by simp)) (ox := excO C t1) (od := none) ⟨hx2, rfl, rfl, trivial⟩ ?_)
  refine exc_osa X2 hx2 hcl (show refsVE (.ref C :: bm) = true from hbm) rfl noF (fun h3 tk3 dx kk3 dn dne hx3 hn3 => ?_)
  show wpAny _ _ (execs _ _) _ _ _
  have z2 : s.heap.objs.size < h2.objs.size := hns2.lt
  exact wpAny_execs_nil (hq h3 tk3 dx ⟨fun b o hb e => kk3 b o hb (kk2 b o hb (hk₁ b o e)), ⟨t1, hx3⟩, Nat.le_of_lt (Nat.lt_of_lt_of_le z2 dn), dne, hn3⟩)
theorem x_init2 {s : Shared} {x C fI t0 : Addr} {qual nm2 f f2 : Str} {st : Stmt} {v v2 : Value} {R : Result → Shared → Prop} (T : XCls prog K mg nm2 qual C fI st) (B : XBody st [f, f2]) (noF : findIn K (.ref C) f = some none) (noF2 : findIn K (.ref C) f2 = some none)
    (X : K.In s.heap) (hg : s.heap.Ns mainGlobals mg) (hb : ∃ mb, s.heap.Ns builtinsNs mb ∧ ∀ x : Str, x ≠ "__name__" → mb x = bootBuiltins x) (hlim : s.heap.NoLimit) (hx : s.heap.get? x = some (excO C t0)) (hnx : K.lookup x = none) (hgx : x ≠ mainGlobals) (hbx : x ≠ builtinsNs) (hroom : A.depth < recursionLimit)
    (hq : ∀ h' tk dx, XEnd s.heap h' x C dx (fun y => if y = f2 then some v2 else if y = f then some v else none) → R (.ok (.ret .none)) { s with heap := h', toks := tk }) :
    codeAny (model prog w) A (.call (.ref fI) ⟨[.ref x, v, v2], []⟩) R s := by
  obtain ⟨oc, od, doc, pm, an, ct, osl, cda, cc, ccl, cl, cdd, cld, ccs, csl, vs, file, tf, ho, hcd, hcode, hvs, hfile, hcell⟩ := T.fn
  obtain ⟨nm, q, N, bs, bm, sn, sub, ab, col, dd, k0, k1, k2, k3, k5, hC, hbm⟩ := T.cls
  have hcl : clsIn K C = some { name := nm, bases := bs, mro := .ref C :: bm, ns := N, qualname := q, hasDict := true, slotNames := sn, subclasses := sub, abstract := ab, collection := col, hasDel := false } := by unfold clsIn; rw [hC] <;> rfl
  obtain ⟨msg, j, p0, p1, p2, p3, p4, p5, sets, hl, eB, eS⟩ := B.ex
  obtain ⟨q1, q2, q3, q4, r1, r2, r3, r4, rfl⟩ : ∃ q1 q2 q3 q4 r1 r2 r3 r4, sets = [xSet f q1 q2 q3 q4, xSet f2 r1 r2 r3 r4] := by
    rcases eS with ⟨f', q1, q2, q3, q4, e1, e2⟩ | ⟨f', f2', q1, q2, q3, q4, r1, r2, r3, r4, e1, e2⟩
    · cases e1
    · cases e1
      exact ⟨q1, q2, q3, q4, r1, r2, r3, r4, e2⟩
  obtain ⟨ar, hhead, har⟩ := B.head
  have hbd := B.bind qual doc pm an (.ref cda) ct cc (.ref x) [v, v2] rfl
  rw [eB] at ho hbd
  have S := B.sc
  generalize L2.defScope st = sc at ho S hbd
  have fne : f ≠ "self" ∧ f2 ≠ "self" ∧ f ≠ f2 := by
    have z := B.nd
    rw [List.nodup_cons, List.nodup_cons] at z
    exact ⟨fun e => z.1 (by rw [e]; simp), fun e => z.1 (by rw [e]; simp), fun e => z.2.1 (by rw [e]; simp)⟩
  have hb1 : (([(("self" : Str), Value.ref x), (f, v), (f2, v2)]).reverse.lookup ("self" : Str)) = some (.ref x) := by
    show List.lookup ("self" : Str) [(f2, v2), (f, v), (("self" : Str), Value.ref x)] = _
    have z : (("self" : Str) == f) = false := by simpa using fun e => fne.1 e.symm
    have z2 : (("self" : Str) == f2) = false := by simpa using fun e => fne.2.1 e.symm
    simp [List.lookup, z, z2]
  have hb2 : (([(("self" : Str), Value.ref x), (f, v), (f2, v2)]).reverse.lookup f) = some v := by
    show List.lookup f [(f2, v2), (f, v), (("self" : Str), Value.ref x)] = _
    have z : (f == f2) = false := by simpa using fne.2.2
    simp [List.lookup, z]
  have hb2' : (([(("self" : Str), Value.ref x), (f, v), (f2, v2)]).reverse.lookup f2) = some v2 := by
    show List.lookup f2 [(f2, v2), (f, v), (("self" : Str), Value.ref x)] = _
    simp [List.lookup]
  refine ks_codeAny_call_defAt (binds := [("self", .ref x), (f, v), (f2, v2)]) hroom (X _ _ ho) rfl hlim (codeRec_of X hcd) rfl (.of_eq hbd) S.nocell ?_ (fun h₁ hns hk₁ => ?_) S.co S.gen S.kind
  · intro y hy
    rcases List.mem_cons.mp hy with rfl | hy
    · exact S.self
    · rcases List.mem_cons.mp hy with rfl | hy
      · exact S.fld f (by simp)
      · rcases List.mem_cons.mp hy with rfl | hy
        · exact S.fld f2 (by simp)
        · cases hy
  have X₁ : K.In h₁ := X.keeps hk₁
  have hx₁ := hk₁ _ _ hx
  obtain ⟨mb, hb3, hb4⟩ := hb
  refine x_super T S X₁ (hg.keeps hk₁) ⟨mb, hb3.keeps hk₁, hb4⟩ hns (by rw [har]; exact hb1) (by rw [har]; exact S.self) hl hx₁ ho hhead hcode hvs hfile hcell (fun h2 t2 t1 kk2 hx2 => ?_)
  have hLx : s.heap.objs.size ≠ x := Nat.ne_of_gt (Heap.lt_size hx)
  have X2 : K.In h2 := fun b o e => kk2 b o (fun z => by rw [z, hnx] at e; cases e) (X₁ b o e)
  have hns2 : h2.Ns s.heap.objs.size (fun y => [(("self" : Str), Value.ref x), (f, v), (f2, v2)].reverse.lookup y) := by
    obtain ⟨oL, es, ep, e1, r⟩ := hns
    exact ⟨oL, es, ep, kk2 _ _ hLx e1, r⟩
  refine wpAny_execs_cons (x_set T S X2 hns2 hb1 (by simp) hb2 (B.dbg f (by simp)) (ox := excO C t1) (od := none) ⟨hx2, rfl, rfl, trivial⟩ ?_)
  refine exc_osa X2 hx2 hcl (show refsVE (.ref C :: bm) = true from hbm) rfl noF (fun h3 tk3 dx kk3 dn dne hx3 hn3 => ?_)
  show wpAny _ _ (execs _ _) _ _ _
  have z2 : s.heap.objs.size < h2.objs.size := hns2.lt
  have X3 : K.In h3 := fun b o e => kk3 b o (fun z => by rw [z, hnx] at e; cases e) (X2 b o e)
  have hns3 : h3.Ns s.heap.objs.size (fun y => [(("self" : Str), Value.ref x), (f, v), (f2, v2)].reverse.lookup y) := by
    obtain ⟨oL, es, ep, e1, r⟩ := hns2
    exact ⟨oL, es, ep, kk3 _ _ hLx e1, r⟩
  have W1 : Within (fun y => if y = f then some v else none) [f] := Within.cons f v Within.nil
  obtain ⟨oD, esD, epD, hoD, hdD, _⟩ := hn3.count W1
  refine wpAny_execs_cons (x_set T S X3 hns3 hb1 (by simp) hb2' (B.dbg f2 (by simp)) (ox := { cls := .ref C, dict := some dx, data := .fields #[.ref t1, .none, .none, .none, .bool false, .none] }) (od := some oD) ⟨hx3, rfl, rfl, hoD⟩ ?_)
  refine PySem.OEX.osa_old X3 hx3 hn3 W1 (by show 1 ≤ 1000; decide) hcl (show refsVE (.ref C :: bm) = true from hbm) rfl noF2 (fun h4 tk4 kk4 hn4 => ?_)
  show wpAny _ _ (execs _ _) _ _ _
  refine wpAny_execs_nil (hq h4 tk4 dx ⟨fun b o hb e => ?_, ⟨t1, kk4 _ _ (Ne.symm dne) hx3⟩, Nat.le_of_lt (Nat.lt_of_lt_of_le z2 dn), dne, hn4⟩)
  have hbd' : b ≠ dx := fun z => by
    have y := Heap.lt_size e
    rw [z] at y
    exact absurd (Nat.lt_of_lt_of_le y (Nat.le_trans (Nat.le_of_lt z2) dn)) (Nat.lt_irrefl _)
  exact kk4 b o hbd' (kk3 b o hb (kk2 b o hb (hk₁ b o e)))

/-- a made error -/
structure XMade (h h' : Heap) (e C d : Addr) (m : Str → Option Value) : Prop where
  keep : ∀ b o, h.get? b = some o → h'.get? b = some o
  new : h.objs.size ≤ e
  obj : ∃ oe vs, h'.get? e = some oe ∧ oe.cls = .ref C ∧ oe.dict = some d ∧ oe.data = .fields vs ∧ vs[1]? = some .none ∧ vs[2]? = some .none
  dbig : h.objs.size ≤ d
  dne : d ≠ e
  ns : h'.Ns1 d m
theorem x_made {s : Shared} {C fI : Addr} {qual nm2 : Str} {fs : List Str} {st : Stmt} {vs : List Value} {m : Str → Option Value} {R : Result → Shared → Prop} (T : XCls prog K mg nm2 qual C fI st)
    (hv : (∃ f v, fs = [f] ∧ vs = [v] ∧ m = fun y => if y = f then some v else none) ∨ ∃ f f2 v v2, fs = [f, f2] ∧ vs = [v, v2] ∧ m = fun y => if y = f2 then some v2 else if y = f then some v else none)
    (B : XBody st fs) (noF : ∀ f ∈ fs, findIn K (.ref C) f = some none)
    (X : K.In s.heap) (hg : s.heap.Ns mainGlobals mg) (hb : ∃ mb, s.heap.Ns builtinsNs mb ∧ ∀ x : Str, x ≠ "__name__" → mb x = bootBuiltins x) (hlim : s.heap.NoLimit) (hroom : A.depth + 1 < recursionLimit)
    (hq : ∀ h' tk e d, XMade s.heap h' e C d m → R (.ok (.ret (.ref e))) { s with heap := h', toks := tk }) :
    codeAny (model prog w) A (.call (.ref C) ⟨vs, []⟩) R s := by
  obtain ⟨nm, q, N, bs, bm, sn, sub, ab, col, dd, k0, k1, k2, k3, k5, hC, hbm⟩ := T.cls
  obtain ⟨hp, g, dr, tk, os⟩ := s
  have lv : vs.length ≤ sizeLine := by
    rw [sizeLine_eq]
    rcases hv with ⟨f, v, _, rfl, _⟩ | ⟨f, f2, v, v2, _, rfl, _⟩
    · exact (by decide : 1 ≤ 16777216)
    · exact (by decide : 2 ≤ 16777216)
  have k : ∀ b o, hp.get? b = some o → ((hp.push (kdv_tup vs)).push (excO C hp.objs.size)).get? b = some o := fun b o e => Heap.get?_push_of_some _ (Heap.get?_push_of_some _ e)
  have hget : ((hp.push (kdv_tup vs)).push (excO C hp.objs.size)).get? (hp.objs.size + 1) = some (excO C hp.objs.size) := by
    have z := Heap.get?_push_size (hp.push (kdv_tup vs)) (o := excO C hp.objs.size) rfl
    rwa [Heap.size_push] at z
  have beyond : ∀ {o}, hp.get? (hp.objs.size + 1) = some o → False := fun z => absurd (Nat.lt_of_succ_lt (Heap.lt_size z)) (Nat.lt_irrefl _)
  have hnx : K.lookup (hp.objs.size + 1) = none := by
    cases e : K.lookup (hp.objs.size + 1) with
    | none => rfl
    | some o => exact (beyond (X _ _ e)).elim
  have ngx : hp.objs.size + 1 ≠ mainGlobals := fun z => by
    have y := hg.lt
    rw [← z] at y
    exact absurd (Nat.lt_of_succ_lt y) (Nat.lt_irrefl _)
  obtain ⟨mb, hb1, hb2⟩ := hb
  have nbx : hp.objs.size + 1 ≠ builtinsNs := fun z => by
    have y := hb1.lt
    rw [← z] at y
    exact absurd (Nat.lt_of_succ_lt y) (Nat.lt_irrefl _)
  refine call_own F.excBase_ValueError (fun X => refsVE_contains X bm hbm) (X _ _ hC) (looks_findIn X T.iC) (fun self => bind_fn X self T.tC) lv ?_
  have fin : ∀ h' tk' dx, XEnd ((hp.push (kdv_tup vs)).push (excO C hp.objs.size)) h' (hp.objs.size + 1) C dx m → InitBack (hp.objs.size + 1) R (.ok (.ret .none)) ⟨h', g, dr, tk', os⟩ := fun h' tk' dx ⟨k', ⟨t1, hx⟩, dn, dne, hns⟩ => by
    have old : ∀ b o, hp.get? b = some o → h'.get? b = some o := fun b o e => k' b o (Nat.ne_of_lt (Nat.lt_succ_of_lt (Heap.lt_size e))) (k b o e)
    have z : hp.objs.size + 1 + 1 ≤ dx := by
      have y := dn
      rw [Heap.size_push, Heap.size_push] at y
      exact y
    exact ⟨rfl, hq h' tk' (hp.objs.size + 1) dx ⟨old, Nat.le_succ _, ⟨_, _, hx, rfl, rfl, rfl, rfl, rfl⟩, Nat.le_trans (Nat.le_trans (Nat.le_succ _) (Nat.le_succ _)) z, dne, hns⟩⟩
  rcases hv with ⟨f, v, rfl, rfl, rfl⟩ | ⟨f, f2, v, v2, rfl, rfl, rfl⟩
  · exact codeAny_mono (x_init1 (s := ⟨(hp.push (kdv_tup [v])).push (excO C hp.objs.size), g, dr, tk, os⟩) T B (noF f (by simp)) (X.keeps k) (hg.keeps k) ⟨mb, hb1.keeps k, hb2⟩ (hlim.keeps k) hget hnx ngx nbx hroom (R := InitBack (hp.objs.size + 1) R) fun h' tk' dx x => fin h' tk' dx x) fun r s2 z => z
  · exact codeAny_mono (x_init2 (s := ⟨(hp.push (kdv_tup [v, v2])).push (excO C hp.objs.size), g, dr, tk, os⟩) T B (noF f (by simp)) (noF f2 (by simp)) (X.keeps k) (hg.keeps k) ⟨mb, hb1.keeps k, hb2⟩ (hlim.keeps k) hget hnx ngx nbx hroom (R := InitBack (hp.objs.size + 1) R) fun h' tk' dx x => fin h' tk' dx x) fun r s2 z => z
end
end KB

namespace KB
open PySem PySem.Spec PyProof.Rows L2
theorem relO1 {v : V} {u : Value} {f : Str} (r : RelV v u) (g : Str) : RelO (List.lookup g [(f, v)]) (if g = f then some u else none) := by
  by_cases h : g = f
  · subst h
    rw [if_pos rfl]
    have q : List.lookup g [(g, v)] = some v := by simp [List.lookup]
    rw [q]
    exact r
  · rw [if_neg h]
    have q : List.lookup g [(f, v)] = none := by
      have z : (g == f) = false := by simpa using h
      simp [List.lookup, z]
    rw [q]
    trivial
theorem relO2 {v v2 : V} {u u2 : Value} {f f2 : Str} (hne : f ≠ f2) (r : RelV v u) (r2 : RelV v2 u2) (g : Str) : RelO (List.lookup g [(f, v), (f2, v2)]) (if g = f2 then some u2 else if g = f then some u else none) := by
  by_cases h2 : g = f2
  · subst h2
    rw [if_pos rfl]
    have z : (g == f) = false := by simpa using fun e => hne e.symm
    have q : List.lookup g [(f, v), (g, v2)] = some v2 := by simp [List.lookup, z]
    rw [q]
    exact r2
  · rw [if_neg h2]
    have z2 : (g == f2) = false := by simpa using h2
    by_cases h : g = f
    · subst h
      rw [if_pos rfl]
      have q : List.lookup g [(g, v), (f2, v2)] = some v := by simp [List.lookup]
      rw [q]
      exact r
    · rw [if_neg h]
      have z : (g == f) = false := by simpa using h
      have q : List.lookup g [(f, v), (f2, v2)] = none := by simp [List.lookup, z, z2]
      rw [q]
      trivial
/-- the error's class x, at C, with the fields fs -/
structure XErr (P : Program) (K : PySem.W.Frag) (mg : Str → Option Value) (x : Str) (C : Addr) (fs : List Str) : Prop where
  ex : ∃ (qual : Str) (fI : Addr) (st : Stmt), XCls P K mg x qual C fI st ∧ XBody st fs ∧ ∀ f ∈ fs, PySem.W.findIn K (.ref C) f = some none
theorem XErr.te {P : Program} {K : PySem.W.Frag} {mg : Str → Option Value} {x : Str} {C : Addr} {fs : List Str} (T : XErr P K mg x C fs) : PySem.W.exmOne K (.ref C) (.ref C) = some true := by
  obtain ⟨_, _, _, h, _⟩ := T.ex
  exact h.te
theorem XErr.gC {P : Program} {K : PySem.W.Frag} {mg : Str → Option Value} {x : Str} {C : Addr} {fs : List Str} (T : XErr P K mg x C fs) : mg x = some (.ref C) := by
  obtain ⟨_, _, _, h, _⟩ := T.ex
  exact h.gC
theorem XErr.xf {P : Program} {K : PySem.W.Frag} {mg : Str → Option Value} {x : Str} {C : Addr} {fs : List Str} (T : XErr P K mg x C fs) : XfC K C := by
  obtain ⟨_, _, _, h, _⟩ := T.ex
  exact ⟨h.ga, h.gg, h.exC, h.hdC⟩
theorem XErr.no {P : Program} {K : PySem.W.Frag} {mg : Str → Option Value} {x : Str} {C : Addr} {fs : List Str} (T : XErr P K mg x C fs) {f : Str} (h : f ∈ fs) : PySem.W.findIn K (.ref C) f = some none := by
  obtain ⟨_, _, _, _, _, z⟩ := T.ex
  exact z f h
/-- X(e, ..) -/
def tMkX (C : Addr) (fs : List Str) (ta : TA) : L2.St → Hp → XK → Prop := fun σ H Q => ta σ H fun vs H1 => vs.length = fs.length ∧ ∀ d, H1 d = none → Q (.ref C) (some d) (upd H1 d (.xd (fs.zip vs)))
section
variable {X : Cx} {C : Addr} {fs : List Str} {x : Str}
theorem pmk_x {a : Expr} {as : List Expr} {ta : TA} {p pos : Pos} {k : Nat} (T : XErr X.prog X.K X.mg x C fs) (hr : Room k X.A) (ha : PA X (a :: as) ta) (hg : Gl X x := by rfl) (hdb : (x == ("__debug__" : Str)) = false := by decide)
    (he : starEach (a :: as) X.env = (false, eval a X.env) :: starEach as X.env := by rfl) (hpl : (backTo pos (starEach as X.env)).any (·.1) = false := by rfl) :
    L2N.PMk X (.Call (.Name x p) (a :: as) [] pos) (tMkX C fs ta) := by
  intro pins s σ H Q I h
  obtain ⟨qual, fI, st, T1, B, nof⟩ := T.ex
  refine wpAny_Call_Name_kw (ld_glob I hg T1.gC ?_ hdb)
  refine PySem.W.callWith_K (h₀ := X.base) I.ok.mod.kin T1.kC (thn (ha.run pos pins s σ H _ I h) fun us s1 hh => ?_) he hpl
  obtain ⟨vs, H1, I1, r1, lv, q1⟩ := hh
  refine ⟨I1.kIn, ?_⟩
  show wpAny _ _ (call (.ref C) us) _ _ _
  have hlim := I1.nolimit
  obtain ⟨mb, b1, b2⟩ := I1.mod.blt
  have hm : ∃ m : Str → Option Value, ((∃ f v, fs = [f] ∧ us = [v] ∧ m = fun y => if y = f then some v else none) ∨ ∃ f f2 v v2, fs = [f, f2] ∧ us = [v, v2] ∧ m = fun y => if y = f2 then some v2 else if y = f then some v else none) ∧
      ∀ g, RelO (List.lookup g (fs.zip vs)) (m g) := by
    obtain ⟨msg, j, p0, p1, p2, p3, p4, p5, sets, hl, eB, eS⟩ := B.ex
    rcases eS with ⟨f, q1, q2, q3, q4, rfl, _⟩ | ⟨f, f2, q1, q2, q3, q4, r1', r2, r3, r4, rfl, _⟩
    · cases r1 with
      | nil => cases lv
      | cons rv rn =>
        cases rn with
        | nil => exact ⟨_, .inl ⟨f, _, rfl, rfl, rfl⟩, fun g => relO1 rv g⟩
        | cons _ _ => simp at lv
    · have fne : f ≠ f2 := by
        have z := B.nd
        rw [List.nodup_cons, List.nodup_cons] at z
        exact fun e => z.2.1 (by rw [e]; simp)
      cases r1 with
      | nil => cases lv
      | cons rv rn =>
        cases rn with
        | nil => simp at lv
        | cons rv2 rn2 =>
          cases rn2 with
          | nil => exact ⟨_, .inr ⟨f, f2, _, _, rfl, rfl, rfl⟩, fun g => relO2 fne rv rv2 g⟩
          | cons _ _ => simp at lv
  obtain ⟨m, hv, hrel⟩ := hm
  have kI := I1.kIn
  have gI := I1.mod.glob.keeps I1.bk
  have bI := b1.keeps I1.bk
  obtain ⟨hp, g, dr, tk, os⟩ := s1
  refine wpAny_call (x_made T1 hv B nof kI gI ⟨mb, bI, b2⟩ hlim (by have := hr.dp; omega) fun h' tk' e d M => ?_)
  show L2N.MkP X pins σ Q (.ref e) ⟨h', g, dr, tk', os⟩
  obtain ⟨oe, fv, hoe, hc, hd, hdat, h1, h2⟩ := M.obj
  have hns := M.ns
  obtain ⟨G', g1, g2⟩ := restrict h' fun b => decide (b ≠ e)
  have gk : ∀ b, b ≠ e → G'.get? b = h'.get? b := fun b hb => g1 b (decide_eq_true hb)
  have ge : G'.get? e = none := g2 e (by simp)
  have old : ∀ b o, hp.get? b = some o → G'.get? b = some o := fun b o q => (gk b (Nat.ne_of_lt (Nat.lt_of_lt_of_le (Heap.lt_size q) M.new))).trans (M.keep b o q)
  have ob : ObjOk X.prog X.w (upd H1 d (.xd (fs.zip vs))) G' d (.xd (fs.zip vs)) := ⟨_, hns.at (fun o q => (gk d M.dne).trans q), fun f => hrel f⟩
  have J : Inv X pins σ (upd H1 d (.xd (fs.zip vs))) ⟨G', g, dr, tk', os⟩ := I1.laid (t' := tk') old M.dbig ob
  refine ⟨e, oe, fv, ⟨G', g, dr, tk', os⟩, _, .ref C, some d, rfl, J, fun b o q => ?_, ge, hoe, ⟨hc, hd, ?_⟩, hdat, h1, ?_, rfl, I1.bare, raises_own T1.exC T1.tyC, q1 d (I1.hok.fresh M.dbig)⟩
  · by_cases hb : b = e
    · have q' : G'.get? b = some o := q
      rw [hb, ge] at q'; cases q'
    · exact (gk b hb).symm.trans q
  · intro vs' e'
    rw [hdat] at e'
    cases e'
    exact h2
  · rw [upd_ne (Ne.symm M.dne)]
    exact I1.hok.fresh M.new
end
end KB

/-! operators of own classes -/
namespace KB
open PySem PySem.W PySem.Calls PyProof.Rows
theorem ne_bind (self : Value) : bindSpecial (.builtin "object.__ne__") self = pure (.builtin "object.__ne__", [self]) := F.slot_object_ne.bind self
section
variable {prog : Program} {w : World} {A : Around} {E : Value → Shared → Prop} {s : Shared} {K : Frag} {x C f : Addr} {ox : Obj} {od : Option Obj} {b tb : Value}
/-- object.__ne__ asks the own __eq__ -/
theorem ne_own {Q : Value → Shared → Prop} (hu : A.units + 1 < cLine) (X : K.In s.heap) (I : InstAt s.heap x ox C od) (hb : Looks (model prog w) s.heap (typeOf b) tb) (hn : notFirst K C tb = true)
    (hs : findIn K (.ref C) "__ne__" = some (some (.builtin "object.__ne__"))) (he : findIn K (.ref C) "__eq__" = some (some (.ref f))) (hf : isFn K (.ref f) = true) (top : mroIn K C (.type "object") = some true)
    (h : wpAny (model prog w) A.in1 (call (.ref f) [.ref x, b]) (fun v s' => ∃ k, v = .bool k ∧ Q (.bool (!k)) s') E s) : wpAny (model prog w) A (richCompare .NotEq (.ref x) b) Q E s := by
  have sub : Looks (model prog w) s.heap (isInstance (.ref x) (.type "object")) true := I.type.andThen (looks_mroIn X top)
  have inner : wpAny (model prog w) A (call (.builtin "object.__ne__") ([.ref x] ++ [b])) (fun v s' => Q v s' ∧ v ≠ .notImplemented) E s := by
    refine wpAny_call (codeAny_call_builtin F.slot_object_ne.plain F.cmpEntry_ne (@check_slot (model prog w) _ _ s "object.__ne__" "object" "__ne__" (.ref x) [b] [] _ F.cmpKind_ne F.cmpSplit_ne sub (F.cmpArgs_ne _ _) ?_))
    have go : wpAny (model prog w) A.in1 (callSpecialIfBound? (.ref x) "__eq__" [b]) (fun r s' => ∃ k, r = some (.bool k) ∧ Q (.bool (!k)) s') E s := by
      refine ifBound_K X I he hf (wpAny_mono h (fun v s' hv => ?_) fun _ _ e => e)
      obtain ⟨k, rfl, q⟩ := hv
      exact ⟨k, rfl, q⟩
    unfold Builtin.«object.__ne__»
    refine wpAny_bind (wpAny_of_eq (a := ((Value.ref x : Value), [b])) (by first | rfl | (simp only [Builtin.slotArgs]; rfl)) ?_)
    refine wpAny_bind (wpAny_cRoomFor hu ?_)
    refine wpAny_bind (wpAny_mono go (fun r s' hr => ?_) fun _ _ e => e)
    obtain ⟨k, rfl, q⟩ := hr
    refine wpAny_bind (wpAny_truthy_bool ?_)
    exact wpAny_pure ⟨q, fun z => by cases z⟩
  have one : wpAny (model prog w) A (tryCompare (.ref x) (cmpInfo .NotEq).2.1 b) (fun r s' => ∃ v, r = some v ∧ Q v s') E s := by
    have bound : wpAny (model prog w) A (callSpecialIfBound? (.ref x) "__ne__" [b]) (fun r s' => ∃ v, r = some v ∧ Q v s' ∧ v ≠ .notImplemented) E s := by
      simp only [callSpecialIfBound?, bindSpecialIfBound?]
      refine wpAny_holding (wpAny_bind (wpAny_bind (wpAny_bind (I.type.here ((looks_findIn X hs).here ?_)))))
      refine wpAny_bind (wpAny_askSetting (wpAny_ite ?_))
      have fin : wpAny (model prog w) A (call (.builtin "object.__ne__") ([.ref x] ++ [b]) >>= fun v => pure (some v)) (fun r s' => ∃ v, r = some v ∧ Q v s' ∧ v ≠ .notImplemented) E s :=
        wpAny_bind (wpAny_mono inner (fun v s' h' => wpAny_pure ⟨v, rfl, h'⟩) fun _ _ h' => h')
      split
      · rw [ne_bind]
        exact wpAny_bind (wpAny_pure (wpAny_pure (by exact fin)))
      · refine wpAny_tryCatch ?_
        rw [ne_bind]
        exact wpAny_bind (wpAny_pure (wpAny_pure (by exact fin)))
    unfold tryCompare
    refine wpAny_bind (wpAny_mono bound (fun r s' hr => ?_) fun _ _ e => e)
    obtain ⟨v, rfl, q, nn⟩ := hr
    cases v <;> first | exact absurd rfl nn | exact wpAny_pure ⟨_, rfl, q⟩
  unfold richCompare
  simp only [oneThing_ref]
  refine wpAny_holding (wpAny_bind (wpAny_cRoomFor (Nat.lt_of_succ_lt hu) ?_))
  refine wpAny_bind (I.type.here (wpAny_bind (hb.here ?_)))
  split
  · rename_i q
    have e : subIn K tb (.ref C) = some false := by
      rcases Bool.or_eq_true_iff.mp hn with e | e
      · rw [beq_iff_eq.mp e] at q; simp at q
      · exact beq_iff_eq.mp e
    refine wpAny_bind ((looks_subIn X e).here ?_)
    simp only [Bool.false_eq_true, if_false]
    refine wpAny_bind (wpAny_mono one (fun r s' z => ?_) fun _ _ e => e)
    obtain ⟨v, rfl, hq⟩ := z
    exact wpAny_pure hq
  · refine wpAny_bind (wpAny_pure ?_)
    simp only [Bool.false_eq_true, if_false]
    refine wpAny_bind (wpAny_mono one (fun r s' z => ?_) fun _ _ e => e)
    obtain ⟨v, rfl, hq⟩ := z
    exact wpAny_pure hq
end
end KB
namespace KB
open PySem PySem.Spec PyProof.Rows L2
section
variable {X : Cx} {k j : Nat} {C : Addr} {m : Str} {sp : Sp}
/-- what an operator of the class at C wants of the class -/
structure OpC (K : PySem.W.Frag) (C : Addr) : Prop where
  first : PySem.W.selfFirst K C = true
  ne : PySem.W.findIn K (.ref C) "__ne__" = some (some (.builtin "object.__ne__"))
  top : PySem.W.mroIn K C (.type "object") = some true
def rBin (C : Addr) (sp : Sp) : R2 := fun x y H Q => ∃ a dx fs b dy gs, x = .ref a ∧ y = .ref b ∧ H a = some (.ins C dx fs) ∧ H b = some (.ins C dy gs) ∧ sp [x, y] H Q E0
theorem op_bin {op : Operator} (o : OpC X.K C) (c : Met X.prog X.w X.K X.mg X.base k C m sp) (hr : Room j X.A) (hk : k ≤ j) (hm : PySem.dunder op.info.2 = m := by rfl) : OpR X (binaryOp op) (rBin C sp) := by
  intro pins s σ H x y v u Q I rx ry h
  obtain ⟨f, fd, ps, hc, hme, F, b⟩ := c.ex
  obtain ⟨a, dx, fs, b', dy, gs, rfl, rfl, ha, hb, q⟩ := h
  cases (show v = Value.ref a from rx)
  cases (show u = Value.ref b' from ry)
  obtain ⟨mA, O, _⟩ := ins_get I.hok ha
  obtain ⟨od, J, _⟩ := O.look
  obtain ⟨mB, O', _⟩ := ins_get I.hok hb
  obtain ⟨od', J', _⟩ := O'.look
  obtain ⟨m', hF⟩ := I.fr
  have hs : PySem.W.findIn X.K (.ref C) (PySem.dunder op.info.2) = some (some (.ref f)) := by rw [hm]; exact hme.at_
  refine PySem.W.binop_K hF I.ok.mod.kin J J'.type o.first hs hme.fn ?_
  refine wpAny_mono (run_fn (us := [.ref a, .ref b']) (vs := [.ref a, .ref b']) F (hr.mono hk) b .nil pass0 I (.cons rfl (.cons rfl .nil)) q) (fun w s' z => ?_) fun _ _ x => x
  obtain ⟨z', H', I', rz, qz⟩ := z
  exact SlX.cmpback rz ⟨z', H', I', rz, qz⟩
/-- x == y, x an instance of C, y anything whose type is known -/
def rEqO (K : PySem.W.Frag) (C : Addr) (sp : Sp) : R2 := fun x y H Q => ∃ a dx fs t, x = .ref a ∧ H a = some (.ins C dx fs) ∧ TyX K H y t ∧ PySem.W.notFirst K C t = true ∧ sp [x, y] H Q E0
theorem op_eqO (c : Met X.prog X.w X.K X.mg X.base k C "__eq__" sp) (hr : Room j X.A) (hk : k ≤ j) : OpR X (compareOp .Eq) (rEqO X.K C sp) := by
  intro pins s σ H x y v u Q I rx ry h
  obtain ⟨f, fd, ps, hc, hme, F, b⟩ := c.ex
  obtain ⟨a, dx, fs, t, rfl, ha, ty, hn, q⟩ := h
  cases (show v = Value.ref a from rx)
  obtain ⟨mA, O, _⟩ := ins_get I.hok ha
  obtain ⟨od, J, _⟩ := O.look
  obtain ⟨m', hF⟩ := I.fr
  obtain ⟨P, Z, p, hne⟩ := kit_of I ry ty
  refine PySem.W.cmp_ofEq ?_
  refine PySem.W.cmp_K (op := .Eq) (tb := t) hr.units0 hF I.ok.mod.kin J (Z.ty _ _ I.kIn p) hn hme.at_ hme.fn ?_
  refine wpAny_mono (run_fn (us := [.ref a, u]) (vs := [.ref a, y]) F (hr.mono hk) b .nil pass0 I (.cons rfl (.cons ry .nil)) q) (fun w s' z => ?_) fun _ _ x => x
  obtain ⟨z', H', I', rz, qz⟩ := z
  exact SlX.cmpback rz ⟨z', H', I', rz, qz⟩
/-- x != y likewise -/
def rNeO (K : PySem.W.Frag) (C : Addr) (sp : Sp) : R2 := fun x y H Q => ∃ a dx fs t, x = .ref a ∧ H a = some (.ins C dx fs) ∧ TyX K H y t ∧ PySem.W.notFirst K C t = true ∧ sp [x, y] H (fun v H' => ∃ k, v = .bl k ∧ Q (.bl (!k)) H') E0
theorem op_neO (o : OpC X.K C) (c : Met X.prog X.w X.K X.mg X.base k C "__eq__" sp) (hr : Room j X.A) (hk : k + 1 ≤ j) : OpR X (compareOp .NotEq) (rNeO X.K C sp) := by
  intro pins s σ H x y v u Q I rx ry h
  obtain ⟨f, fd, ps, hc, hme, F, b⟩ := c.ex
  obtain ⟨a, dx, fs, t, rfl, ha, ty, hn, q⟩ := h
  cases (show v = Value.ref a from rx)
  obtain ⟨mA, O, _⟩ := ins_get I.hok ha
  obtain ⟨od, J, _⟩ := O.look
  obtain ⟨P, Z, p, hne⟩ := kit_of I ry ty
  refine PySem.W.cmp_ofNotEq ?_
  have l2 : ([V.ref a, y] : List V).length = ps.length := F.len _ _ _ _ q
  have b2 := b s [Value.ref a, u] I.kIn (by rw [List.append_nil]; exact l2)
  rw [List.append_nil] at b2
  refine ne_own (hu_of hr) I.kIn J (Z.ty _ _ I.kIn p) hn o.ne hme.at_ hme.fn o.top ?_
  refine wpAny_call (codeAny_mono (F.run X.A.in1 X.stack s H ⟨[.ref a, u], []⟩ [.ref a, u] [.ref a, y] _ E0 (hr.mono hk).in1 I.env0.in1 b2 (.cons rfl (.cons ry .nil)) q) fun r s' hq => ?_)
  cases r with
  | error e => exact pass0 pins σ H s e s' I hq
  | ok fl =>
    cases fl with
    | ret w =>
      obtain ⟨z, H', I', rz, kk, ez, qz⟩ := I.after hq
      subst ez
      cases (show w = Value.bool kk from rz)
      exact ⟨kk, rfl, .bl (!kk), H', I', rfl, qz⟩
    | next => exact False.elim hq
    | brk => exact False.elim hq
    | cont => exact False.elim hq
end
end KB

/-! defs that may raise: called where nothing is raised, and in a try -/
namespace KB
open PySem PySem.Spec PyProof.Rows L2
theorem passN0 {X : Cx} : Passes (L2N.CX X.prog X.w) X E0 := fun _ _ _ _ _ _ _ h => by
  obtain ⟨_, _, _, _, _, _, _, _, _, _, _, _, z⟩ := h
  exact z.elim
theorem takesN0 {X : Cx} : L2N.Takes X (fun _ _ _ _ => False) := fun _ _ x => by
  obtain ⟨_, _, _, _, _, _, _, _, _, _, _, _, _, _, _, _, z⟩ := x
  exact z.elim
section
variable {P : Program} {w : World} {K : PySem.W.Frag} {mg : Str → Option Value} {base : Heap}
structure CalX (P : Program) (w : World) (K : PySem.W.Frag) (mg : Str → Option Value) (base : Heap) (k : Nat) (x : Str) (sp : Sp) : Prop where
  ex : ∃ (f : Addr) (fd : FuncData) (ps : List Str), FnOk P w K mg base (L2N.CX P w) k f fd ps sp ∧ mg x = some (.ref f) ∧ PySem.W.keepIn K (.ref f) = true ∧ Binds K fd ps []
structure MetX (P : Program) (w : World) (K : PySem.W.Frag) (mg : Str → Option Value) (base : Heap) (k : Nat) (C : Addr) (m : Str) (sp : Sp) : Prop where
  ex : ∃ (f : Addr) (fd : FuncData) (ps : List Str), Cls K C ∧ Meth K C m f ∧ FnOk P w K mg base (L2N.CX P w) k f fd ps sp ∧ Binds K fd ps []
structure MakX (P : Program) (w : World) (K : PySem.W.Frag) (mg : Str → Option Value) (base : Heap) (k : Nat) (x : Str) (C : Addr) (sp : Sp) : Prop where
  ex : ∃ (f : Addr) (fd : FuncData) (ps : List Str), Mk K C f ∧ FnOk P w K mg base (L2N.CX P w) k f fd ps sp ∧ mg x = some (.ref C) ∧ Binds K fd ps []
structure MakXK (P : Program) (w : World) (K : PySem.W.Frag) (mg : Str → Option Value) (base : Heap) (k : Nat) (x : Str) (C : Addr) (ks : List Str) (gV : List V → List V → List V) (sp : Sp) : Prop where
  ex : ∃ (f : Addr) (fd : FuncData) (ps : List Str) (g : List Value → List Value → List Value), Mk K C f ∧ FnOk P w K mg base (L2N.CX P w) k f fd ps sp ∧ mg x = some (.ref C) ∧ KBn K fd ps 1 ks g gV
structure CalXK (P : Program) (w : World) (K : PySem.W.Frag) (mg : Str → Option Value) (base : Heap) (k : Nat) (x : Str) (n : Nat) (ks : List Str) (gV : List V → List V → List V) (sp : Sp) : Prop where
  ex : ∃ (f : Addr) (fd : FuncData) (ps : List Str) (g : List Value → List Value → List Value), FnOk P w K mg base (L2N.CX P w) k f fd ps sp ∧ mg x = some (.ref f) ∧ PySem.W.keepIn K (.ref f) = true ∧ KBn K fd ps n ks g gV
/-- a def that may raise keeps its promise -/
theorem Fun_okN {x qual : Str} {st : Stmt} {f : Addr} {fd : FuncData} {N ps : List Str} {k : Nat} {sp : Sp} (F : Fun K x qual st f fd) (S : FnScope N ps (defScope st)) (len : ∀ vs H Q E, sp vs H Q E → vs.length = ps.length)
    (hbody : ∀ (cdv : Value) (A : Around) (outer : List Env) (s : Shared) (H : Hp) (vs : List V) (Q : VK) (E : XK), Room k (A.deeper (envOfC qual (defScope st) s.heap.objs.size f cdv)) → sp vs H Q E →
      ∃ t, PSs (cxOf (L2N.CX P w) P w K mg base N qual (defScope st) f cdv A outer s H E) (defBody st) t ∧ t { nx := fun _ H' => Q .non H', rt := Q } (start N vs) H) : FnOk P w K mg base (L2N.CX P w) (k + 1) f fd ps sp := by
  obtain ⟨oc, od, kV, doc, pm, an, cdv, ct, osl, rfl, lk, hcd⟩ := F.ex
  exact fn_of lk hcd S len fun A outer s H vs Q E hr hsp => hbody cdv A outer s H vs Q E hr hsp
end
section
variable {X : Cx} {k j n : Nat} {C : Addr} {x m : Str} {sp : Sp} {p pos apos : Pos} {e o : Expr} {es : List Expr} {kws : List Keyword} {ta : TE} {t tk : TA} {ks : List Str} {gV : List V → List V → List V} {W : WX}
theorem pe_x (c : CalX X.prog X.w X.K X.mg X.base k x sp) (hr : Room j X.A) (hk : k ≤ j) (hg : Gl X x) (ha : PA X (e :: es) t)
    (hdb : (x == ("__debug__" : Str)) = false := by decide) (he : starEach (e :: es) X.env = (false, eval e X.env) :: starEach es X.env := by rfl) (hpl : (backTo pos (starEach es X.env)).any (·.1) = false := by rfl) :
    PE X (.Call (.Name x p) (e :: es) [] pos) (tCall sp [] E0 t) := by
  obtain ⟨f, fd, ps, F, hm, kp, b⟩ := c.ex
  exact pe_call F (hr.mono hk) hg hm kp b .nil passN0 ha hdb he hpl
theorem pe_xS (c : CalX X.prog X.w X.K X.mg X.base k x sp) (hr : Room j X.A) (hk : k ≤ j) (hg : Gl X x) (tk : L2N.Takes X W) (ha : PA X (e :: es) t)
    (hdb : (x == ("__debug__" : Str)) = false := by decide) (he : starEach (e :: es) X.env = (false, eval e X.env) :: starEach es X.env := by rfl) (hpl : (backTo pos (starEach es X.env)).any (·.1) = false := by rfl) :
    PE X (.Call (.Name x p) (e :: es) [] pos) (tCallS sp (WE W) t) := by
  obtain ⟨f, fd, ps, F, hm, kp, b⟩ := c.ex
  exact pe_callS F (hr.mono hk) hg hm kp b (fun σ => L2N.passAt tk σ) ha hdb he hpl
/-- f(k = v, ..) in a try -/
def tCallSK0 (m : Nat) (sp : Sp) (gV : List V → List V → List V) (E : L2.St → XK) (tk : TA) : TE := fun σ H Q => tk σ H fun zs H2 => zs.length = m ∧ sp (gV [] zs) H2 Q (E σ)
theorem pe_xSK0 (c : CalXK X.prog X.w X.K X.mg X.base k x 0 ks gV sp) (hr : Room j X.A) (hk : k ≤ j) (hg : Gl X x) (tke : L2N.Takes X W) (hkw : PK X kws tk)
    (hall : (backToKw pos (keywordEach kws X.env)).all (·.1.isSome) = true := by rfl) (hks : (backToKw pos (keywordEach kws X.env)).filterMap (·.1) = ks := by rfl) (hdb : (x == ("__debug__" : Str)) = false := by decide)
    (hpl : ((backTo pos (starEach [] X.env)).any (·.1) || (backToKw pos (keywordEach kws X.env)).any (·.1.isNone)) = false := by rfl) :
    PE X (.Call (.Name x p) [] kws pos) (tCallSK0 ks.length sp gV (WE W) tk) := by
  obtain ⟨f, fd, ps, g, F, hm, kp, hb⟩ := c.ex
  refine ⟨fun pins s σ H Q I h => ?_⟩
  refine wpAny_Call_Name_kw (ld_glob I hg hm ?_ hdb)
  refine PySem.W.callWith_KW0 (h₀ := X.base) I.ok.mod.kin kp hall ?_ hpl
  refine thn (hkw.run pos pins s σ H _ I h) fun ws s2 ⟨zs, H2, I2, rz, l2, q2⟩ => ⟨I2.kIn, ?_⟩
  rw [hks]
  have r2 : Vals (gV [] zs) (g [] ws) := hb.rel (vs := []) (us := []) .nil rz
  refine wpAny_call (codeAny_mono (F.run X.A X.stack s2 H2 ⟨[], ks.zip ws⟩ (g [] ws) (gV [] zs) Q (WE W σ) (hr.mono hk) I2.env0 (hb.to s2 [] ws I2.kIn rfl (rz.length.symm.trans l2)) r2 q2) fun r s' hq => ?_)
  cases r with
  | error e => exact L2N.passAt tke σ pins H2 s2 e s' I2 hq
  | ok fl =>
    cases fl with
    | ret u => exact I2.after hq
    | next => exact False.elim hq
    | brk => exact False.elim hq
    | cont => exact False.elim hq
/-- f(k = v, ..) where nothing is raised -/
theorem pe_xK0 (c : CalXK X.prog X.w X.K X.mg X.base k x 0 ks gV sp) (hr : Room j X.A) (hk : k ≤ j) (hg : Gl X x) (hkw : PK X kws tk)
    (hall : (backToKw pos (keywordEach kws X.env)).all (·.1.isSome) = true := by rfl) (hks : (backToKw pos (keywordEach kws X.env)).filterMap (·.1) = ks := by rfl) (hdb : (x == ("__debug__" : Str)) = false := by decide)
    (hpl : ((backTo pos (starEach [] X.env)).any (·.1) || (backToKw pos (keywordEach kws X.env)).any (·.1.isNone)) = false := by rfl) :
    PE X (.Call (.Name x p) [] kws pos) (tCallK0 ks.length sp gV E0 tk) := by
  obtain ⟨f, fd, ps, g, F, hm, kp, hb⟩ := c.ex
  refine ⟨fun pins s σ H Q I h => ?_⟩
  refine wpAny_Call_Name_kw (ld_glob I hg hm ?_ hdb)
  refine PySem.W.callWith_KW0 (h₀ := X.base) I.ok.mod.kin kp hall ?_ hpl
  refine thn (hkw.run pos pins s σ H _ I h) fun ws s2 ⟨zs, H2, I2, rz, l2, q2⟩ => ⟨I2.kIn, ?_⟩
  rw [hks]
  have r2 : Vals (gV [] zs) (g [] ws) := hb.rel (vs := []) (us := []) .nil rz
  refine wpAny_call (codeAny_mono (F.run X.A X.stack s2 H2 ⟨[], ks.zip ws⟩ (g [] ws) (gV [] zs) Q E0 (hr.mono hk) I2.env0 (hb.to s2 [] ws I2.kIn rfl (rz.length.symm.trans l2)) r2 q2) fun r s' hq => ?_)
  cases r with
  | error e => exact passN0 pins σ H2 s2 e s' I2 hq
  | ok fl =>
    cases fl with
    | ret u => exact I2.after hq
    | next => exact False.elim hq
    | brk => exact False.elim hq
    | cont => exact False.elim hq
theorem pe_mtx {pl : Sem Bool} (c : MetX X.prog X.w X.K X.mg X.base k C m sp) (hr : Room j X.A) (hk : k ≤ j) (he : PE X o ta) (ha : PA X (e :: es) t)
    (hst : starEach (e :: es) X.env = (false, eval e X.env) :: starEach es X.env := by rfl) (hpl : (backTo pos (starEach es X.env)).any (·.1) = false := by rfl)
    (ht : eval (.Call (.Attribute o m apos) (e :: es) [] pos) X.env = (do
      let ov ← eval o X.env
      standAt apos.atName
      let (f, first) ← holding [ov] (getMethod ov m pl)
      callWith pos f first (backTo pos (starEach (e :: es) X.env)) (backToKw pos (keywordEach [] X.env))) := by rfl) :
    PE X (.Call (.Attribute o m apos) (e :: es) [] pos) (tMeth C m sp [] E0 ta t) := by
  obtain ⟨f, fd, ps, hc, hm, F, b⟩ := c.ex
  exact pe_meth (pl := pl) he hc hm F (hr.mono hk) b .nil passN0 ha hst hpl ht
/-- o.m(e, ..) in a try -/
def tMethS (C : Addr) (m : Str) (sp : Sp) (E : L2.St → XK) (ta : TE) (t : TA) : TE := fun σ H Q => ta σ H fun x H1 => ∃ a dx fs, x = .ref a ∧ H1 a = some (.ins C dx fs) ∧ fs.lookup m = none ∧ t σ H1 fun vs H2 => sp (x :: vs) H2 Q (E σ)
theorem pe_mtxS {pl : Sem Bool} (c : MetX X.prog X.w X.K X.mg X.base k C m sp) (hr : Room j X.A) (hk : k ≤ j) (tk : L2N.Takes X W) (he : PE X o ta) (ha : PA X (e :: es) t)
    (hst : starEach (e :: es) X.env = (false, eval e X.env) :: starEach es X.env := by rfl) (hpl : (backTo pos (starEach es X.env)).any (·.1) = false := by rfl)
    (ht : eval (.Call (.Attribute o m apos) (e :: es) [] pos) X.env = (do
      let ov ← eval o X.env
      standAt apos.atName
      let (f, first) ← holding [ov] (getMethod ov m pl)
      callWith pos f first (backTo pos (starEach (e :: es) X.env)) (backToKw pos (keywordEach [] X.env))) := by rfl) :
    PE X (.Call (.Attribute o m apos) (e :: es) [] pos) (tMethS C m sp (WE W) ta t) := by
  obtain ⟨f, fd, ps, hc, hm, F, b⟩ := c.ex
  refine ⟨fun pins s σ H Q I h => ?_⟩
  refine PySem.W.methodCall_KW (pl := pl) (thn (he.run pins s σ H _ I h) fun u s1 ⟨x, H1, I1, rx, a, dx, fs, ex, ea, l, q⟩ => ?_) ht
  subst ex
  obtain rfl : u = Value.ref a := rx
  refine getmeth_ok I1 ea hc hm l ?_
  refine PySem.W.callWith_K (first := [.ref a]) (h₀ := X.base) I.ok.mod.kin hm.kp (thn (ha.run pos pins s1 σ H1 _ I1 q) fun us s2 ⟨vs, H2, I2, r, q2⟩ => ⟨I2.kIn, ?_⟩) hst hpl
  exact run_fnS (us := .ref a :: us) (vs := .ref a :: vs) F (hr.mono hk) b (L2N.passAt tk σ) I2 (.cons rfl r) q2
theorem pe_mkx (c : MakX X.prog X.w X.K X.mg X.base k x C sp) (hr : Room j X.A) (hk : k + 1 ≤ j) (hg : Gl X x) (ha : PA X (e :: es) t)
    (hdb : (x == ("__debug__" : Str)) = false := by decide) (he : starEach (e :: es) X.env = (false, eval e X.env) :: starEach es X.env := by rfl) (hpl : (backTo pos (starEach es X.env)).any (·.1) = false := by rfl) :
    PE X (.Call (.Name x p) (e :: es) [] pos) (tMake C sp [] E0 t) := by
  obtain ⟨f, fd, ps, M, F, hm, b⟩ := c.ex
  exact pe_make M F (hr.mono hk) hg hm b .nil passN0 ha hdb he hpl
theorem pe_mkxK0 (c : MakXK X.prog X.w X.K X.mg X.base k x C ks gV sp) (hr : Room j X.A) (hk : k + 1 ≤ j) (hg : Gl X x) (hkw : PK X kws tk)
    (hall : (backToKw pos (keywordEach kws X.env)).all (·.1.isSome) = true := by rfl) (hks : (backToKw pos (keywordEach kws X.env)).filterMap (·.1) = ks := by rfl) (hdb : (x == ("__debug__" : Str)) = false := by decide)
    (hpl : ((backTo pos (starEach [] X.env)).any (·.1) || (backToKw pos (keywordEach kws X.env)).any (·.1.isNone)) = false := by rfl) :
    PE X (.Call (.Name x p) [] kws pos) (tMakeK C 0 ks.length sp gV E0 tNil tk) := by
  obtain ⟨f, fd, ps, g, M, F, hm, b⟩ := c.ex
  exact pe_makeK0 M F (hr.mono hk) hg hm b passN0 hkw hall hks hdb hpl
/-- C(e, ..) in a try -/
def tMakeS (C : Addr) (sp : Sp) (E : L2.St → XK) (t : TA) : TE := fun σ H Q => t σ H fun vs H1 => ∀ x dx, H1 x = none → H1 dx = none → dx ≠ x → sp (.ref x :: vs) (upd (upd H1 dx (.own x)) x (.ins C dx [])) (fun v H2 => v = .non ∧ Q (.ref x) H2) (E σ)
theorem run_makeS {pins : List (Addr × Obj)} {σ : L2.St} {H : Hp} {s : Shared} {Q : VK} {f : Addr} {fd : FuncData} {ps : List Str} {us : List Value} {ws : List (Str × Value)} {ul : List Value} {vl : List V} (M : Mk X.K C f) (F : FnOk X.prog X.w X.K X.mg X.base (L2N.CX X.prog X.w) k f fd ps sp) (hr : Room (k + 1) X.A)
    (tk : L2N.Takes X W) (I : Inv X pins σ H s) (r : ∀ x, Vals (.ref x :: vl) (.ref x :: ul))
    (hb : ∀ (s' : Shared) (x : Addr), X.K.In s'.heap → BindsTo s' fd ⟨.ref x :: us, ws⟩ (ps.zip (.ref x :: ul)))
    (h : ∀ x dx, H x = none → H dx = none → dx ≠ x → sp (.ref x :: vl) (upd (upd H dx (.own x)) x (.ins C dx [])) (fun v H2 => v = .non ∧ Q (.ref x) H2) (WE W σ)) :
    wpAny (model X.prog X.w) X.A (call (.ref C) us ws) (EP X pins σ Q) X.xe s := by
  have hq := h (s.heap.objs.size + 1) s.heap.objs.size (I.hok.fresh (Nat.le_succ _)) (I.hok.fresh (Nat.le_refl _)) (Nat.ne_of_lt (Nat.lt_succ_self _))
  have I2 := Inv.made (C := C) I
  refine wpAny_call (make_map (f := f) I.kIn M.makes M.init (beq_iff_eq.mp M.fn) (codeAny_mono (F.run _ X.stack _ _ ⟨Value.ref (s.heap.objs.size + 1) :: us, ws⟩ (Value.ref (s.heap.objs.size + 1) :: ul) _ _ (WE W σ) (hr.make C us ws)
    (I2.env0.make C us ws) (hb _ _ I2.kIn) (r _) hq) fun r s' hq' => ?_))
  cases r with
  | error e => exact L2N.passAt tk σ pins _ _ e s' I2 hq'
  | ok fl =>
    cases fl with
    | ret u =>
      obtain ⟨v, H', I3, rv, ev, q3⟩ := I2.after hq'
      subst ev
      exact ⟨rv, ⟨V.ref (s.heap.objs.size + 1), H', I3, rfl, q3⟩⟩
    | next => exact False.elim hq'
    | brk => exact False.elim hq'
    | cont => exact False.elim hq'
theorem pe_mkxS (c : MakX X.prog X.w X.K X.mg X.base k x C sp) (hr : Room j X.A) (hk : k + 1 ≤ j) (hg : Gl X x) (tk : L2N.Takes X W) (ha : PA X (e :: es) t)
    (hdb : (x == ("__debug__" : Str)) = false := by decide) (he : starEach (e :: es) X.env = (false, eval e X.env) :: starEach es X.env := by rfl) (hpl : (backTo pos (starEach es X.env)).any (·.1) = false := by rfl) :
    PE X (.Call (.Name x p) (e :: es) [] pos) (tMakeS C sp (WE W) t) := by
  obtain ⟨f, fd, ps, M, F, hm, b⟩ := c.ex
  refine ⟨fun pins s σ H Q I h => ?_⟩
  refine wpAny_Call_Name_kw (ld_glob I hg hm ?_ hdb)
  refine PySem.W.callWith_K (h₀ := X.base) I.ok.mod.kin M.kp (thn (ha.run pos pins s σ H _ I h) fun us s1 ⟨vs, H1, I1, r, q⟩ => ⟨I1.kIn, ?_⟩) he hpl
  have hq := q (s1.heap.objs.size + 1) s1.heap.objs.size (I1.hok.fresh (Nat.le_succ _)) (I1.hok.fresh (Nat.le_refl _)) (Nat.ne_of_lt (Nat.lt_succ_self _))
  have hl : ∀ x : Addr, (Value.ref x :: us).length = ps.length := fun x => by
    have e1 := F.len _ _ _ _ hq
    rw [List.length_cons] at e1 ⊢
    rw [← r.length]
    exact e1
  refine run_makeS (ws := []) (ul := us) (vl := vs) M F (hr.mono hk) tk I1 (fun x => .cons rfl r) (fun s' x hK => ?_) q
  have b2 := b s' (Value.ref x :: us) hK (by rw [List.append_nil]; exact hl x)
  rw [List.append_nil] at b2
  exact b2
def tMakeSK (C : Addr) (m : Nat) (sp : Sp) (gV : List V → List V → List V) (E : L2.St → XK) (tk : TA) : TE := fun σ H Q => tk σ H fun zs H1 => zs.length = m ∧ ∃ vl, (∀ x, gV [.ref x] zs = .ref x :: vl) ∧ ∀ x dx, H1 x = none → H1 dx = none → dx ≠ x →
  sp (.ref x :: vl) (upd (upd H1 dx (.own x)) x (.ins C dx [])) (fun v H2 => v = .non ∧ Q (.ref x) H2) (E σ)
theorem pe_mkxSK0 (c : MakXK X.prog X.w X.K X.mg X.base k x C ks gV sp) (hr : Room j X.A) (hk : k + 1 ≤ j) (hg : Gl X x) (tke : L2N.Takes X W) (hkw : PK X kws tk)
    (hall : (backToKw pos (keywordEach kws X.env)).all (·.1.isSome) = true := by rfl) (hks : (backToKw pos (keywordEach kws X.env)).filterMap (·.1) = ks := by rfl) (hdb : (x == ("__debug__" : Str)) = false := by decide)
    (hpl : ((backTo pos (starEach [] X.env)).any (·.1) || (backToKw pos (keywordEach kws X.env)).any (·.1.isNone)) = false := by rfl) :
    PE X (.Call (.Name x p) [] kws pos) (tMakeSK C ks.length sp gV (WE W) tk) := by
  obtain ⟨f, fd, ps, g, M, F, hm, hb⟩ := c.ex
  refine ⟨fun pins s σ H Q I h => ?_⟩
  refine wpAny_Call_Name_kw (ld_glob I hg hm ?_ hdb)
  refine PySem.W.callWith_KW0 (h₀ := X.base) I.ok.mod.kin M.kp hall ?_ hpl
  refine thn (hkw.run pos pins s σ H _ I h) fun ws s2 ⟨zs, H2, I2, rz, l2, vl, ev, q⟩ => ⟨I2.kIn, ?_⟩
  rw [hks]
  have hq := q (s2.heap.objs.size + 1) s2.heap.objs.size (I2.hok.fresh (Nat.le_succ _)) (I2.hok.fresh (Nat.le_refl _)) (Nat.ne_of_lt (Nat.lt_succ_self _))
  have I3 := Inv.made (C := C) I2
  have r2 : Vals (gV [.ref (s2.heap.objs.size + 1)] zs) (g [.ref (s2.heap.objs.size + 1)] ws) := hb.rel (.cons rfl .nil) rz
  rw [ev] at r2
  refine wpAny_call (make_map (f := f) (vs := []) I2.kIn M.makes M.init (beq_iff_eq.mp M.fn) (codeAny_mono (F.run _ X.stack _ _ ⟨[Value.ref (s2.heap.objs.size + 1)], ks.zip ws⟩ (g [.ref (s2.heap.objs.size + 1)] ws) _ _ (WE W σ) ((hr.mono hk).make C [] (ks.zip ws))
    (I3.env0.make C [] (ks.zip ws)) (hb.to _ [Value.ref (s2.heap.objs.size + 1)] ws I3.kIn rfl (rz.length.symm.trans l2)) r2 hq) fun r s' hq' => ?_))
  cases r with
  | error e => exact L2N.passAt tke σ pins _ _ e s' I3 hq'
  | ok fl =>
    cases fl with
    | ret u =>
      obtain ⟨v, H', I4, rv, ev', q3⟩ := I3.after hq'
      subst ev'
      exact ⟨rv, ⟨V.ref (s2.heap.objs.size + 1), H', I4, rfl, q3⟩⟩
    | next => exact False.elim hq'
    | brk => exact False.elim hq'
    | cont => exact False.elim hq'
/-- raise X(e, ..) -/
def tRaiseX (C : Addr) (fs : List Str) (W : WX) (ta : TA) : TS := fun _ σ H => tMkX C fs ta σ H fun cls d H' => W cls d σ H'
theorem ps_raiseX {a : Expr} {as : List Expr} {fs : List Str} {p pos pos2 : Pos} (hc : X.calm = true) (T : XErr X.prog X.K X.mg x C fs) (hr : Room k X.A) (tk : L2N.Takes X W) (ha : PA X (a :: as) t) (hg : Gl X x := by rfl) (hdb : (x == ("__debug__" : Str)) = false := by decide)
    (he : starEach (a :: as) X.env = (false, eval a X.env) :: starEach as X.env := by rfl) (hpl : (backTo pos (starEach as X.env)).any (·.1) = false := by rfl) :
    PS X (.Raise (some (.Call (.Name x p) (a :: as) [] pos)) none pos2) (tRaiseX C fs W t) := L2N.ps_raise hc tk (pmk_x T hr ha hg hdb he hpl)
end
end KB
namespace KB
open PySem PySem.Spec PyProof.Rows L2
section
variable {P : Program} {w : World} {K : PySem.W.Frag} {mg : Str → Option Value} {base : Heap}
/-- a def that raises nothing, called within an except suite -/
structure CalH (P : Program) (w : World) (K : PySem.W.Frag) (mg : Str → Option Value) (base : Heap) (k : Nat) (x : Str) (sp : Sp) : Prop where
  ex : ∃ (f : Addr) (fd : FuncData) (ps : List Str), L2H.FnH P w K mg base CX0 k f fd ps sp ∧ mg x = some (.ref f) ∧ PySem.W.keepIn K (.ref f) = true ∧ Binds K fd ps []
theorem Fun_okH {x qual : Str} {st : Stmt} {f : Addr} {fd : FuncData} {N ps : List Str} {k : Nat} {sp : Sp} (F : Fun K x qual st f fd) (S : FnScope N ps (defScope st)) (len : ∀ vs H Q E, sp vs H Q E → vs.length = ps.length)
    (hbody : ∀ (cdv : Value) (A : Around) (outer : List Env) (s : Shared) (H : Hp) (vs : List V) (Q : VK) (E : XK) (p : Addr × Obj), L2H.Hot1 A p → L2H.RoomH k (A.deeper (envOfC qual (defScope st) s.heap.objs.size f cdv)) → sp vs H Q E →
      ∃ t, PSs (L2H.cxH CX0 P w K mg base N qual (defScope st) f cdv A outer s H E p).nox (defBody st) t ∧ t { nx := fun _ H' => Q .non H', rt := Q } (start N vs) H) : L2H.FnH P w K mg base CX0 (k + 1) f fd ps sp := by
  obtain ⟨oc, od, kV, doc, pm, an, cdv, ct, osl, rfl, lk, hcd⟩ := F.ex
  refine L2H.fn_ofH lk hcd S len fun A outer s H vs Q E p hot hr hsp => ?_
  obtain ⟨t, h, q⟩ := hbody cdv A outer s H vs Q E p hot hr hsp
  exact ⟨t, h.nox, q⟩
theorem exm_own {K : PySem.W.Frag} {S B : Addr} (h1 : PySem.W.subIn K (.ref S) (.type "BaseException") = some true) (h2 : PySem.W.isClsIn K S = true) (h3 : PySem.W.typeIn K (.ref S) = some (.type "type")) {b : Bool} (h4 : PySem.W.subIn K (.ref B) (.ref S) = some b) :
    PySem.W.exmOne K (.ref B) (.ref S) = some b := by
  have e1 : (PySem.W.subIn K (.ref S) (.type "BaseException") == some true) = true := by rw [h1] <;> rfl
  have e2 : ((PySem.W.clsIn K S).isSome && PySem.W.typeIn K (.ref S) == some (.type "type")) = true := by
    have h2' : (PySem.W.clsIn K S).isSome = true := h2
    rw [h2', h3] <;> rfl
  show (if (PySem.W.subIn K (.ref S) (.type "BaseException") == some true) = true then (if ((PySem.W.clsIn K S).isSome && PySem.W.typeIn K (.ref S) == some (.type "type")) = true then PySem.W.subIn K (.ref B) (.ref S) else none) else none) = some b
  rw [if_pos e1, if_pos e2]
  exact h4
end
section
variable {X : Cx} {k j : Nat} {x : Str} {sp : Sp} {p pos : Pos} {e : Expr} {es : List Expr} {t : TA}
theorem hotS {a : Addr} {oe : Obj} {cls : Value} {d : Option Addr} {pn : List (Addr × Obj)} (hz : L2N.Zn cls d oe) (hf : ∃ vs, oe.data = .fields vs) : L2H.HotC (X.suite a ((a, oe) :: pn)) := by
  obtain ⟨vs, h⟩ := hf
  exact ⟨(a, oe), ⟨rfl, vs, h, hz.2.2 vs h⟩, List.mem_cons_self ..⟩
theorem pe_cH (c : CalH X.prog X.w X.K X.mg X.base k x sp) (hr : L2H.RoomH j X.A) (hk : k ≤ j) (hot : L2H.HotC X) (hg : Gl X x) (ha : PA X (e :: es) t)
    (hdb : (x == ("__debug__" : Str)) = false := by decide) (he : starEach (e :: es) X.env = (false, eval e X.env) :: starEach es X.env := by rfl) (hpl : (backTo pos (starEach es X.env)).any (·.1) = false := by rfl) :
    PE X (.Call (.Name x p) (e :: es) [] pos) (tCallS sp (fun _ => E0) t) := by
  obtain ⟨f, fd, ps, F, hm, kp, b⟩ := c.ex
  exact L2H.pe_callH F (hr.mono hk) hot hg hm kp b (fun σ pins H s e s' _ h => h.elim) ha hdb he hpl
/-- // by any number that is not 0, below 9,000 bits -/
def CDivV (_ j : Int) : Prop := j ≠ 0 ∧ j.natAbs.log2 < 9000
theorem op_fdivV : OpR X (binaryOp .FloorDiv) (rI CDivV fun i j => .int (i.fdiv j)) := opI fun i j _ _ _ _ _ hc q => PyProof.Rows.floordiv_int hc.1 q (.inl (PyProof.noPylong_of_log2 hc.2))
end
end KB
namespace KB
open PySem PySem.Spec PyProof.Rows L2
section
variable {P : Program} {w : World} {K : PySem.W.Frag} {mg : Str → Option Value} {base : Heap}
structure MetK (CX : CXT) (P : Program) (w : World) (K : PySem.W.Frag) (mg : Str → Option Value) (base : Heap) (k : Nat) (C : Addr) (m : Str) (ks : List Str) (gV : List V → List V → List V) (sp : Sp) : Prop where
  ex : ∃ (f : Addr) (fd : FuncData) (ps : List Str) (g : List Value → List Value → List Value), Cls K C ∧ Meth K C m f ∧ FnOk P w K mg base CX k f fd ps sp ∧ KBn K fd ps 1 ks g gV
end
section
variable {X : Cx} {k j n : Nat} {C : Addr} {x m : Str} {sp : Sp} {p pos apos : Pos} {o : Expr} {kws : List Keyword} {ta : TE} {tk : TA} {ks : List Str} {gV : List V → List V → List V} {W : WX}
/-- o.m(k = v, ..) -/
def tMethSK (C : Addr) (m : Str) (n : Nat) (sp : Sp) (gV : List V → List V → List V) (E : L2.St → XK) (ta : TE) (tk : TA) : TE := fun σ H Q => ta σ H fun x H1 => ∃ a dx fs, x = .ref a ∧ H1 a = some (.ins C dx fs) ∧ fs.lookup m = none ∧ tk σ H1 fun zs H2 => zs.length = n ∧ sp (gV [x] zs) H2 Q (E σ)
theorem pe_mtKg {CX : CXT} {E : L2.St → XK} {pl : Sem Bool} (c : MetK CX X.prog X.w X.K X.mg X.base k C m ks gV sp) (hr : Room j X.A) (hk : k ≤ j) (hx : ∀ σ, PassesAt CX X σ (E σ)) (he : PE X o ta) (hkw : PK X kws tk)
    (hall : (backToKw pos (keywordEach kws X.env)).all (·.1.isSome) = true := by rfl) (hks : (backToKw pos (keywordEach kws X.env)).filterMap (·.1) = ks := by rfl)
    (hpl : ((backTo pos (starEach [] X.env)).any (·.1) || (backToKw pos (keywordEach kws X.env)).any (·.1.isNone)) = false := by rfl)
    (ht : eval (.Call (.Attribute o m apos) [] kws pos) X.env = (do
      let ov ← eval o X.env
      standAt apos.atName
      let (f, first) ← holding [ov] (getMethod ov m pl)
      callWith pos f first (backTo pos (starEach [] X.env)) (backToKw pos (keywordEach kws X.env))) := by rfl) :
    PE X (.Call (.Attribute o m apos) [] kws pos) (tMethSK C m ks.length sp gV E ta tk) := by
  obtain ⟨f, fd, ps, g, hc, hm, F, hb⟩ := c.ex
  refine ⟨fun pins s σ H Q I h => ?_⟩
  refine PySem.W.methodCall_KW (pl := pl) (thn (he.run pins s σ H _ I h) fun u s1 ⟨x, H1, I1, rx, a, dx, fs, ex, ea, l, q⟩ => ?_) ht
  subst ex
  obtain rfl : u = Value.ref a := rx
  refine getmeth_ok I1 ea hc hm l ?_
  refine PySem.W.callWith_KW0 (first := [.ref a]) (h₀ := X.base) I.ok.mod.kin hm.kp hall ?_ hpl
  refine thn (hkw.run pos pins s1 σ H1 _ I1 q) fun ws s2 ⟨zs, H2, I2, rz, l2, q2⟩ => ⟨I2.kIn, ?_⟩
  rw [hks]
  have r2 : Vals (gV [.ref a] zs) (g [.ref a] ws) := hb.rel (.cons rfl .nil) rz
  refine wpAny_call (codeAny_mono (F.run X.A X.stack s2 H2 ⟨[.ref a], ks.zip ws⟩ (g [.ref a] ws) (gV [.ref a] zs) Q (E σ) (hr.mono hk) I2.env0 (hb.to s2 [.ref a] ws I2.kIn rfl (rz.length.symm.trans l2)) r2 q2) fun r s' hq => ?_)
  cases r with
  | error e => exact hx σ pins H2 s2 e s' I2 hq
  | ok fl =>
    cases fl with
    | ret u => exact I2.after hq
    | next => exact False.elim hq
    | brk => exact False.elim hq
    | cont => exact False.elim hq
theorem pe_mtK0 {pl : Sem Bool} (c : MetK CX0 X.prog X.w X.K X.mg X.base k C m ks gV sp) (hr : Room j X.A) (hk : k ≤ j) (he : PE X o ta) (hkw : PK X kws tk)
    (hall : (backToKw pos (keywordEach kws X.env)).all (·.1.isSome) = true := by rfl) (hks : (backToKw pos (keywordEach kws X.env)).filterMap (·.1) = ks := by rfl)
    (hpl : ((backTo pos (starEach [] X.env)).any (·.1) || (backToKw pos (keywordEach kws X.env)).any (·.1.isNone)) = false := by rfl)
    (ht : eval (.Call (.Attribute o m apos) [] kws pos) X.env = (do
      let ov ← eval o X.env
      standAt apos.atName
      let (f, first) ← holding [ov] (getMethod ov m pl)
      callWith pos f first (backTo pos (starEach [] X.env)) (backToKw pos (keywordEach kws X.env))) := by rfl) :
    PE X (.Call (.Attribute o m apos) [] kws pos) (tMethSK C m ks.length sp gV (fun _ => E0) ta tk) :=
  pe_mtKg (pl := pl) c hr hk (fun σ pins H s e s' _ h => h.elim) he hkw hall hks hpl ht
theorem pe_mtxSK0 {pl : Sem Bool} (c : MetK (L2N.CX X.prog X.w) X.prog X.w X.K X.mg X.base k C m ks gV sp) (hr : Room j X.A) (hk : k ≤ j) (tke : L2N.Takes X W) (he : PE X o ta) (hkw : PK X kws tk)
    (hall : (backToKw pos (keywordEach kws X.env)).all (·.1.isSome) = true := by rfl) (hks : (backToKw pos (keywordEach kws X.env)).filterMap (·.1) = ks := by rfl)
    (hpl : ((backTo pos (starEach [] X.env)).any (·.1) || (backToKw pos (keywordEach kws X.env)).any (·.1.isNone)) = false := by rfl)
    (ht : eval (.Call (.Attribute o m apos) [] kws pos) X.env = (do
      let ov ← eval o X.env
      standAt apos.atName
      let (f, first) ← holding [ov] (getMethod ov m pl)
      callWith pos f first (backTo pos (starEach [] X.env)) (backToKw pos (keywordEach kws X.env))) := by rfl) :
    PE X (.Call (.Attribute o m apos) [] kws pos) (tMethSK C m ks.length sp gV (WE W) ta tk) :=
  pe_mtKg (pl := pl) c hr hk (fun σ => L2N.passAt tke σ) he hkw hall hks hpl ht
end
end KB

/-! shares: the numbers, and how an object of the class stands on the heap -/
namespace KB
open PySem PySem.Spec PyProof.Rows L2
section
variable {X : Cx} {a b c : Expr} {tA t1 t2 : TT} {pos : Pos}
/-- a if c else b, as a test -/
def tIfT (c t u : TT) : TT := fun σ H Q => c σ H fun k H1 => if k = true then t σ H1 Q else u σ H1 Q
theorem pt_ifT (hc : PT X c tA) (ha : PT X a t1) (hb : PT X b t2) : PT X (.IfExp c a b pos) (tIfT tA t1 t2) := by
  refine ⟨fun pins s σ H Q I h => ?_⟩
  refine isTrue_IfExp (thn (hc.run pins s σ H _ I h) fun d s1 ⟨H1, I1, q1⟩ => ?_)
  cases d with
  | true => exact ha.run pins s1 σ H1 Q I1 q1
  | false => exact hb.run pins s1 σ H1 Q I1 q1
end
theorem roomS {X : Cx} {k : Nat} {a : Addr} {pn : List (Addr × Obj)} (hr : Room k X.A) : L2H.RoomH k (X.suite a pn).A := ⟨hr.dp, hr.un⟩
theorem kit_me {K : PySem.W.Frag} {C : Addr} : PySem.W.kitOne K (.ref C) (.ref C) = some true := by
  unfold PySem.W.kitOne
  rw [if_pos (by simp)]
theorem kit_no {K : PySem.W.Frag} {C : Addr} {n : String} {b : Bool} (h1 : PySem.W.isClsIn K C = true) (h2 : PySem.W.typeIn K (.ref C) = some (.type "type")) (h3 : PySem.W.subIn K (.type n) (.ref C) = some b) : PySem.W.kitOne K (.type n) (.ref C) = some b := by
  have e0 : ((Value.type n) == (Value.ref C)) = false := by rfl
  have e2 : ((PySem.W.clsIn K C).isSome && PySem.W.typeIn K (.ref C) == some (.type "type")) = true := by
    have h1' : (PySem.W.clsIn K C).isSome = true := h1
    rw [h1', h2] <;> rfl
  unfold PySem.W.kitOne
  rw [e0]
  show (if ((PySem.W.clsIn K C).isSome && PySem.W.typeIn K (.ref C) == some (.type "type")) = true then PySem.W.subIn K (.type n) (.ref C) else none) = some b
  rw [if_pos e2]
  exact h3
def gN (o u : Int) : Nat := Nat.gcd o.natAbs u.natAbs
def rOd (o u : Int) : Int := if u < 0 then -(o / (gN o u : Int)) else o / (gN o u : Int)
def rUd (o u : Int) : Int := if u < 0 then -(u / (gN o u : Int)) else u / (gN o u : Int)
theorem gN_pos {o u : Int} (h : u ≠ 0) : 0 < gN o u := Nat.gcd_pos_of_pos_right _ (by omega)
theorem gN_o (o u : Int) : (gN o u : Int) ∣ o := Int.ofNat_dvd_left.mpr (Nat.gcd_dvd_left _ _)
theorem gN_u (o u : Int) : (gN o u : Int) ∣ u := Int.ofNat_dvd_left.mpr (Nat.gcd_dvd_right _ _)
theorem gN_le {o u : Int} (h : u ≠ 0) : gN o u ≤ u.natAbs := Nat.le_of_dvd (by omega) (Nat.gcd_dvd_right _ _)
/-- the sign of the divisor -/
def cN (o u : Int) : Int := if u < 0 then -(gN o u : Int) else (gN o u : Int)
theorem cN_ne {o u : Int} (h : u ≠ 0) : cN o u ≠ 0 := by
  have := gN_pos (o := o) h
  unfold cN
  split <;> omega
theorem cN_abs {o u : Int} : (cN o u).natAbs = gN o u := by
  unfold cN
  split <;> omega
theorem fdiv_of {a g : Int} (x : Int) (hg : g ≠ 0) (e : a = g * x) : a.fdiv g = x := by
  subst e
  rw [Int.fdiv_eq_ediv_of_dvd (Int.dvd_mul_right _ _)]
  exact Int.mul_ediv_cancel_left _ hg
theorem div_of {a g : Int} (x : Int) (hg : g ≠ 0) (e : a = g * x) : a / g = x := by
  subst e
  exact Int.mul_ediv_cancel_left _ hg
theorem fdiv_o {o u : Int} (h : u ≠ 0) : o.fdiv (cN o u) = rOd o u := by
  have g := gN_pos (o := o) h
  obtain ⟨x, e⟩ := gN_o o u
  have g0 : (gN o u : Int) ≠ 0 := by omega
  unfold rOd cN
  rw [div_of x g0 e]
  split
  · exact fdiv_of _ (by omega) (by rw [Int.neg_mul_neg]; exact e)
  · exact fdiv_of _ g0 e
theorem fdiv_u {o u : Int} (h : u ≠ 0) : u.fdiv (cN o u) = rUd o u := by
  have g := gN_pos (o := o) h
  obtain ⟨x, e⟩ := gN_u o u
  have g0 : (gN o u : Int) ≠ 0 := by omega
  unfold rUd cN
  rw [div_of x g0 e]
  split
  · exact fdiv_of _ (by omega) (by rw [Int.neg_mul_neg]; exact e)
  · exact fdiv_of _ g0 e
theorem rU_pos {o u : Int} (h : u ≠ 0) : 0 < rUd o u := by
  have g := gN_pos (o := o) h
  obtain ⟨x, e⟩ := gN_u o u
  have g0 : (gN o u : Int) ≠ 0 := by omega
  have gp : (0 : Int) < gN o u := by omega
  unfold rUd
  rw [div_of x g0 e]
  split
  · rename_i hu
    have : x < 0 := by
      rcases Int.lt_or_le x 0 with z | z
      · exact z
      · have := Int.mul_nonneg (Int.le_of_lt gp) z
        omega
    omega
  · rename_i hu
    rcases Int.lt_or_le 0 x with z | z
    · exact z
    · have : (gN o u : Int) * x ≤ 0 := Int.mul_nonpos_of_nonneg_of_nonpos (Int.le_of_lt gp) z
      omega
theorem rO_le (o u : Int) : (rOd o u).natAbs ≤ o.natAbs := by
  have z : (o / (gN o u : Int)).natAbs ≤ o.natAbs := Int.natAbs_ediv_le_natAbs _ _
  unfold rOd
  split
  · rw [Int.natAbs_neg]
    exact z
  · exact z
theorem rU_le (o u : Int) : (rUd o u).natAbs ≤ u.natAbs := by
  have z : (u / (gN o u : Int)).natAbs ≤ u.natAbs := Int.natAbs_ediv_le_natAbs _ _
  unfold rUd
  split
  · rw [Int.natAbs_neg]
    exact z
  · exact z
theorem gN_scale {g : Int} (a b : Int) (hg : 0 < g) : (gN (g * a) (g * b) : Int) = g * gN a b := by
  unfold gN
  rw [Int.natAbs_mul, Int.natAbs_mul, Nat.gcd_mul_left, Int.natCast_mul]
  congr 1
  omega
theorem rOd_scale {g : Int} (a b : Int) (hg : 0 < g) : rOd (g * a) (g * b) = rOd a b := by
  have e : (g * a) / (gN (g * a) (g * b) : Int) = a / (gN a b : Int) := by
    rw [gN_scale a b hg]
    exact Int.mul_ediv_mul_of_pos _ _ hg
  unfold rOd
  rw [e]
  by_cases h : b < 0
  · rw [if_pos h, if_pos (Int.mul_neg_of_pos_of_neg hg h)]
  · rw [if_neg h, if_neg (Int.not_lt.mpr (Int.mul_nonneg (Int.le_of_lt hg) (Int.not_lt.mp h)))]
theorem rUd_scale {g : Int} (a b : Int) (hg : 0 < g) : rUd (g * a) (g * b) = rUd a b := by
  have e : (g * b) / (gN (g * a) (g * b) : Int) = b / (gN a b : Int) := by
    rw [gN_scale a b hg]
    exact Int.mul_ediv_mul_of_pos _ _ hg
  unfold rUd
  rw [e]
  by_cases h : b < 0
  · rw [if_pos h, if_pos (Int.mul_neg_of_pos_of_neg hg h)]
  · rw [if_neg h, if_neg (Int.not_lt.mpr (Int.mul_nonneg (Int.le_of_lt hg) (Int.not_lt.mp h)))]
theorem red_ex {o u : Int} (hu : 0 < u) : ∃ g : Int, 0 < g ∧ o = g * rOd o u ∧ u = g * rUd o u := by
  have g0 := gN_pos (o := o) (Int.ne_of_gt hu)
  refine ⟨gN o u, by omega, ?_, ?_⟩
  · unfold rOd
    rw [if_neg (by omega), Int.mul_ediv_cancel' (gN_o o u)]
  · unfold rUd
    rw [if_neg (by omega), Int.mul_ediv_cancel' (gN_u o u)]
theorem red_sum {n d o u : Int} (hu : 0 < u) : rOd (n * u + o * d) (d * u) = rOd (n * rUd o u + rOd o u * d) (d * rUd o u) ∧ rUd (n * u + o * d) (d * u) = rUd (n * rUd o u + rOd o u * d) (d * rUd o u) := by
  obtain ⟨g, g0, eo, eu⟩ := red_ex (o := o) hu
  generalize rOd o u = o' at *
  generalize rUd o u = u' at *
  subst eo eu
  have e1 : n * (g * u') + (g * o') * d = g * (n * u' + o' * d) := by
    rw [Int.mul_add, Int.mul_left_comm n, Int.mul_assoc g o']
  have e2 : d * (g * u') = g * (d * u') := Int.mul_left_comm _ _ _
  rw [e1, e2]
  exact ⟨rOd_scale _ _ g0, rUd_scale _ _ g0⟩
theorem red_less {n d o u : Int} (hu : 0 < u) : rOd (n * u - o * d) (d * u) = rOd (n * rUd o u - rOd o u * d) (d * rUd o u) ∧ rUd (n * u - o * d) (d * u) = rUd (n * rUd o u - rOd o u * d) (d * rUd o u) := by
  obtain ⟨g, g0, eo, eu⟩ := red_ex (o := o) hu
  generalize rOd o u = o' at *
  generalize rUd o u = u' at *
  subst eo eu
  have e1 : n * (g * u') - (g * o') * d = g * (n * u' - o' * d) := by
    rw [Int.mul_sub, Int.mul_left_comm n, Int.mul_assoc g o']
  have e2 : d * (g * u') = g * (d * u') := Int.mul_left_comm _ _ _
  rw [e1, e2]
  exact ⟨rOd_scale _ _ g0, rUd_scale _ _ g0⟩
theorem red_times {n d o u : Int} (hu : 0 < u) : rOd (n * o) (d * u) = rOd (n * rOd o u) (d * rUd o u) ∧ rUd (n * o) (d * u) = rUd (n * rOd o u) (d * rUd o u) := by
  obtain ⟨g, g0, eo, eu⟩ := red_ex (o := o) hu
  generalize rOd o u = o' at *
  generalize rUd o u = u' at *
  subst eo eu
  have e1 : n * (g * o') = g * (n * o') := by
    rw [Int.mul_left_comm n]
  have e2 : d * (g * u') = g * (d * u') := Int.mul_left_comm _ _ _
  rw [e1, e2]
  exact ⟨rOd_scale _ _ g0, rUd_scale _ _ g0⟩
theorem gN_one (n : Int) : gN n 1 = 1 := Nat.gcd_one_right _
theorem gN_one' (n : Int) : gN 1 n = 1 := Nat.gcd_one_left _
theorem rOd_one (n : Int) : rOd n 1 = n := by
  unfold rOd
  rw [if_neg (by decide), gN_one]
  exact Int.ediv_one _
theorem rUd_one (n : Int) : rUd n 1 = 1 := by
  unfold rUd
  rw [if_neg (by decide), gN_one]
  rfl
theorem rOd_one' {n : Int} (h : 0 < n) : rOd 1 n = 1 := by
  unfold rOd
  rw [if_neg (by omega), gN_one']
  rfl
theorem rUd_one' {n : Int} (h : 0 < n) : rUd 1 n = n := by
  unfold rUd
  rw [if_neg (by omega), gN_one']
  exact Int.ediv_one _
/-- Euclid's turns: k turns done of a pair with the product M -/
structure Eu (o u : Int) (k l r : Nat) : Prop where
  g : Nat.gcd l r = gN o u
  l0 : 0 < l
  m : (k = 0 ∧ l = u.natAbs ∧ r = o.natAbs) ∨ (r ≤ l ∧ 2 ^ k * (l * r) ≤ 2 * (u.natAbs * o.natAbs))
theorem Eu.ini {o u : Int} (h : u ≠ 0) : Eu o u 0 u.natAbs o.natAbs := ⟨Nat.gcd_comm _ _, by omega, .inl ⟨rfl, rfl, rfl⟩⟩
theorem Eu.nxt {o u : Int} {k l r : Nat} (E : Eu o u k l r) (h : r ≠ 0) : Eu o u (k + 1) r (l % r) := by
  obtain ⟨g, l0, m⟩ := E
  have lt : l % r < r := Nat.mod_lt _ (by omega)
  refine ⟨?_, by omega, .inr ⟨by omega, ?_⟩⟩
  · rw [Nat.gcd_comm, ← Nat.gcd_rec, Nat.gcd_comm]
    exact g
  · rcases m with ⟨rfl, rfl, rfl⟩ | ⟨hr, hm⟩
    · have a1 : o.natAbs * (u.natAbs % o.natAbs) ≤ o.natAbs * u.natAbs := Nat.mul_le_mul_left _ (Nat.mod_le _ _)
      have a2 : o.natAbs * u.natAbs = u.natAbs * o.natAbs := Nat.mul_comm _ _
      show 2 ^ 1 * _ ≤ _
      omega
    · have h2 : 2 * (l % r) ≤ l := by
        have e := Nat.div_add_mod l r
        have d : 1 ≤ l / r := Nat.div_pos hr (by omega)
        have : r * 1 ≤ r * (l / r) := Nat.mul_le_mul_left _ d
        omega
      have h3 : 2 ^ (k + 1) * (r * (l % r)) = 2 ^ k * (r * (2 * (l % r))) := by
        rw [Nat.pow_succ, Nat.mul_assoc, ← Nat.mul_assoc 2 r, Nat.mul_comm 2 r, Nat.mul_assoc r 2]
      rw [h3]
      refine Nat.le_trans (Nat.mul_le_mul_left _ (Nat.mul_le_mul_left r h2)) ?_
      rw [Nat.mul_comm r l]
      exact hm
theorem Eu.fin {o u : Int} {l r : Nat} (E : Eu o u 9000 l r) (h1 : o.natAbs < 2 ^ 4000) (h2 : u.natAbs < 2 ^ 4000) : r = 0 := by
  obtain ⟨g, l0, m⟩ := E
  rcases m with ⟨z, _⟩ | ⟨hr, hm⟩
  · cases z
  · rcases Nat.eq_zero_or_pos r with z | z
    · exact z
    · exfalso
      have a1 : 1 ≤ l * r := Nat.mul_pos l0 z
      have a2 : 2 ^ 9000 * 1 ≤ 2 ^ 9000 * (l * r) := Nat.mul_le_mul_left _ a1
      have a3 : u.natAbs * o.natAbs ≤ 2 ^ 4000 * 2 ^ 4000 := Nat.mul_le_mul (Nat.le_of_lt h2) (Nat.le_of_lt h1)
      have a4 : (2 : Nat) ^ 4000 * 2 ^ 4000 = 2 ^ 8000 := by rw [← Nat.pow_add]
      have a5 : (2 : Nat) * 2 ^ 8000 = 2 ^ 8001 := (Nat.pow_succ' (m := 2) (n := 8000)).symm
      have a6 : (2 : Nat) ^ 8001 < 2 ^ 9000 := Nat.pow_lt_pow_right (by decide) (by decide)
      generalize (2 : Nat) ^ 9000 = A at *
      generalize (2 : Nat) ^ 8001 = B at *
      generalize (2 : Nat) ^ 8000 = D at *
      generalize (2 : Nat) ^ 4000 * 2 ^ 4000 = F at *
      omega
theorem Eu.gcd {o u : Int} {k l : Nat} (E : Eu o u k l 0) : l = gN o u := by
  have := E.g
  rwa [Nat.gcd_zero_right] at this
theorem bits_mul {x y : Int} {a b : Nat} (h1 : x.natAbs < 2 ^ a) (h2 : y.natAbs < 2 ^ b) : (x * y).natAbs < 2 ^ (a + b) := wide_lt h1 h2
theorem bits_add {x y : Int} {a : Nat} (h1 : x.natAbs < 2 ^ a) (h2 : y.natAbs < 2 ^ a) : (x + y).natAbs < 2 ^ (a + 1) := by
  rw [Nat.pow_succ]
  omega
theorem bits_sub {x y : Int} {a : Nat} (h1 : x.natAbs < 2 ^ a) (h2 : y.natAbs < 2 ^ a) : (x - y).natAbs < 2 ^ (a + 1) := by
  rw [Nat.pow_succ]
  omega
theorem bits_le {x : Int} {a b : Nat} (h : x.natAbs < 2 ^ a) (hb : a ≤ b) : x.natAbs < 2 ^ b := Nat.lt_of_lt_of_le h (Nat.pow_le_pow_right (by decide) hb)
theorem bits_of {x : Int} {a : Nat} (h : x.natAbs ≤ 2 ^ a) : x.natAbs < 2 ^ (a + 1) := by
  have : 0 < 2 ^ a := Nat.pow_pos (by decide)
  rw [Nat.pow_succ]
  omega

/-! ### an object of the class -/
structure ShC (K : PySem.W.Frag) (C : Addr) : Prop where
  ins : C8.InsC K C
  no : NoAttr K C "over"
  nu : NoAttr K C "under"
  op : OpC K C
  nf : PySem.W.notFirst K C (.ref C) = true
def fz (n d : Int) : List (Str × V) := [("over", .int n), ("under", .int d)]
theorem fz_o {n d : Int} : List.lookup ("over" : Str) (fz n d) = some (V.int n) := rfl
theorem fz_u {n d : Int} : List.lookup ("under" : Str) (fz n d) = some (V.int d) := rfl
def Sh (C : Addr) (H : Hp) (x : Addr) (n d : Int) : Prop := ∃ dx, H x = some (.ins C dx (fz n d))
theorem Sh.mono {C : Addr} {H H' : Hp} {x : Addr} {n d : Int} (h : Sh C H x n d) (s : Same H H') : Sh C H' x n d := by
  obtain ⟨dx, e⟩ := h
  exact ⟨dx, s _ _ e⟩
theorem ShC.ty {K : PySem.W.Frag} {C : Addr} (c : ShC K C) {H : Hp} {x : Addr} {n d : Int} (h : Sh C H x n d) : TyX K H (.ref x) (.ref C) := by
  obtain ⟨dx, e⟩ := h
  exact .base (.ins e c.ins.cl c.ins.ha c.ins.hn c.ins.htk c.ins.hm)
/-- a kind that is no share's -/
structure Foe (K : PySem.W.Frag) (C : Addr) (t : Value) : Prop where
  k : PySem.W.kitOne K t (.ref C) = some false
  nf : PySem.W.notFirst K C t = true
/-- a share is made at x, its dict at dx -/
def mkS (C : Addr) (H : Hp) (x dx : Addr) (n d : Int) : Hp := upd (upd H dx (.own x)) x (.ins C dx (fz n d))
theorem mkS_same {C : Addr} {H : Hp} {x dx : Addr} {n d : Int} (hx : H x = none) (hd : H dx = none) : Same H (mkS C H x dx n d) := (same_out (same_upd hd) hx)
theorem mkS_sh {C : Addr} {H : Hp} {x dx : Addr} {n d : Int} : Sh C (mkS C H x dx n d) x n d := ⟨dx, upd_same⟩
theorem Tp.mkSh {B H H' : Hp} {t x dx C : Addr} {c : Nat} {n d : Int} (T : Tp B H t c) (hx : H x = none) (hdx : H dx = none) (hne : dx ≠ x) (e : H' = upd (upd (upd H dx (.own x)) x (.ins C dx [])) x (.ins C dx (fz n d))) : ∃ B', Same B B' ∧ Tp B' H' t c ∧ Sh C B' x n d := by
  rw [upd_upd] at e
  subst e
  exact ⟨mkS C B x dx n d, mkS_same (T.isn hx) (T.isn hdx), T.inst hx hdx hne, mkS_sh⟩
def pick3 {α : Type} (a b c : α) : Nat → α
  | 0 => a
  | 1 => b
  | _ => c
theorem get3 {S : Nat → Addr} {i : Nat} (h : i < 3) : [V.ref (S 0), V.ref (S 1), V.ref (S 2)][i]? = some (V.ref (S i)) := by
  rcases (by omega : i = 0 ∨ i = 1 ∨ i = 2) with rfl | rfl | rfl <;> rfl
def spInit (C CN : Addr) : Sp := fun vs H Q E => ∃ x dx o u, vs = [.ref x, .int o, .int u] ∧ H x = some (.ins C dx []) ∧ u.natAbs < 2 ^ 9000 ∧
  ((u ≠ 0 ∧ ∀ H', H' = upd H x (.ins C dx (fz (rOd o u) (rUd o u))) → Q .non H') ∨ (u = 0 ∧ ∀ d, H d = none → E (.ref CN) (some d) (upd H d (.xd [("number", .int 0)]))))
/-- a binary operator of two shares -/
def spOp (C : Addr) (fo fu : Int → Int → Int → Int → Int) : Sp := fun vs H Q _ => ∃ a b n d m e, vs = [.ref a, .ref b] ∧ Sh C H a n d ∧ Sh C H b m e ∧ 0 < d ∧ 0 < e ∧ (n.natAbs < 2 ^ 4000 ∧ d.natAbs < 2 ^ 4000 ∧ m.natAbs < 2 ^ 4000 ∧ e.natAbs < 2 ^ 4000) ∧
  ∀ x dx, H x = none → H dx = none → dx ≠ x → Q (.ref x) (mkS C H x dx (rOd (fo n d m e) (fu n d m e)) (rUd (fo n d m e) (fu n d m e)))
def spAdd (C : Addr) : Sp := spOp C (fun n d m e => n * e + m * d) (fun _ d _ e => d * e)
def spSub (C : Addr) : Sp := spOp C (fun n d m e => n * e - m * d) (fun _ d _ e => d * e)
def spMul (C : Addr) : Sp := spOp C (fun n _ m _ => n * m) (fun _ d _ e => d * e)
def spEq (K : PySem.W.Frag) (C : Addr) : Sp := fun vs H Q _ => ∃ a y n d, vs = [.ref a, y] ∧ Sh C H a n d ∧ ((∃ b m e, y = .ref b ∧ Sh C H b m e ∧ Q (.bl (decide (n = m) && decide (d = e))) H) ∨ ∃ t, TyX K H y t ∧ Foe K C t ∧ Q (.bl false) H)
def spBelow (C : Addr) : Sp := fun vs H Q _ => ∃ a b n d m e, vs = [.ref a, .ref b] ∧ Sh C H a n d ∧ Sh C H b m e ∧ (n.natAbs < 2 ^ 4000 ∧ d.natAbs < 2 ^ 4000 ∧ m.natAbs < 2 ^ 4000 ∧ e.natAbs < 2 ^ 4000) ∧ Q (.bl (decide (n * e < m * d))) H
def spHalf (C : Addr) : Sp := fun vs H Q _ => ∃ n : Nat, vs = [.int n] ∧ n ≤ 8000 ∧ ∀ x dx, H x = none → H dx = none → dx ≠ x → Q (.ref x) (mkS C H x dx (rOd 1 (2 ^ n)) (rUd 1 (2 ^ n)))
end KB

/-! things: values of data on the heap -/
namespace KB
open PySem PySem.Spec PyProof.Rows L2
theorem sameT {K : PySem.W.Frag} {H H' : Hp} {a : Addr} {xs : List V} (e : Same H H') (h : SqT K H a xs) : SqT K H' a xs := by
  rcases h with (h | ⟨o, h⟩) | h
  · exact .inl (.inl (e _ _ h))
  · exact .inl (.inr ⟨o, e _ _ h⟩)
  · exact .inr h
mutual
theorem Dp.mono {K : PySem.W.Frag} {H H' : Hp} (s : Same H H') : ∀ (d : PyData) (v : V), Dp K H v d → Dp K H' v d
  | .none, _, h => by cases h; exact .non
  | .bool b, _, h => by cases h; exact .bl b
  | .int i, _, h => by cases h; exact .int i
  | .str x, _, h => by cases h; exact .str x
  | .list ds, _, h => by
    cases h with
    | lst hs ha => exact .lst (s.seq hs) (DpAll.mono s ds _ ha)
  | .tuple ds, _, h => by
    cases h with
    | tup hs ha => exact .tup (sameT s hs) (DpAll.mono s ds _ ha)
  | .dict _, _, h => by cases h
theorem DpAll.mono {K : PySem.W.Frag} {H H' : Hp} (s : Same H H') : ∀ (ds : List PyData) (vs : List V), DpAll K H vs ds → DpAll K H' vs ds
  | [], _, h => by cases h; exact .nil
  | d :: ds, _, h => by
    cases h with
    | cons h1 h2 => exact .cons (Dp.mono s d _ h1) (DpAll.mono s ds _ h2)
end
theorem DpAll.len {K : PySem.W.Frag} {H : Hp} : ∀ {ds : List PyData} {vs : List V}, DpAll K H vs ds → vs.length = ds.length
  | [], _, h => by cases h; rfl
  | d :: ds, _, h => by
    cases h with
    | cons h1 h2 => rw [List.length_cons, List.length_cons, DpAll.len h2]
theorem DpAll.get {K : PySem.W.Frag} {H : Hp} : ∀ {ds : List PyData} {vs : List V} {k : Nat} {d : PyData}, DpAll K H vs ds → ds[k]? = some d → ∃ v, vs[k]? = some v ∧ Dp K H v d
  | [], _, _, _, _, e => by simp at e
  | d :: ds, _, 0, d', h, e => by
    cases h with
    | cons h1 h2 =>
      cases Option.some.inj e
      exact ⟨_, rfl, h1⟩
  | d :: ds, _, k + 1, d', h, e => by
    cases h with
    | cons h1 h2 =>
      obtain ⟨v, h3, h4⟩ := DpAll.get h2 (show ds[k]? = some d' from e)
      exact ⟨v, h3, h4⟩
theorem DpAll.get' {K : PySem.W.Frag} {H : Hp} {ds : List PyData} {vs : List V} {k : Nat} {v : V} (h : DpAll K H vs ds) (e : vs[k]? = some v) : ∃ d, ds[k]? = some d ∧ Dp K H v d := by
  have hk : k < vs.length := (List.getElem?_eq_some_iff.mp e).1
  have hk' : k < ds.length := by rw [← DpAll.len h]; exact hk
  obtain ⟨v', h3, h4⟩ := DpAll.get h (List.getElem?_eq_getElem hk')
  rw [e] at h3
  cases Option.some.inj h3
  exact ⟨_, List.getElem?_eq_getElem hk', h4⟩
theorem DpAll.snoc {K : PySem.W.Frag} {H : Hp} {v : V} {d : PyData} (hd : Dp K H v d) : ∀ {ds : List PyData} {vs : List V}, DpAll K H vs ds → DpAll K H (vs ++ [v]) (ds ++ [d])
  | [], _, h => by cases h; exact .cons hd .nil
  | e :: ds, _, h => by
    cases h with
    | cons h1 h2 => exact .cons h1 (DpAll.snoc hd h2)
/-- data of a height below n, its sequences not long -/
def okD : Nat → PyData → Bool
  | 0, _ => false
  | _ + 1, .none => true
  | _ + 1, .bool _ => true
  | _ + 1, .int _ => true
  | _ + 1, .str _ => true
  | n + 1, .list ds => decide (ds.length ≤ 100000) && ds.all (okD n)
  | n + 1, .tuple ds => decide (ds.length ≤ 100000) && ds.all (okD n)
  | _ + 1, .dict _ => false
theorem okD_seq {n : Nat} {ds : List PyData} (h : (decide (ds.length ≤ 100000) && ds.all (okD n)) = true) : ds.length ≤ 100000 ∧ ∀ d ∈ ds, okD n d = true := by
  rw [Bool.and_eq_true] at h
  exact ⟨of_decide_eq_true h.1, List.all_eq_true.mp h.2⟩
theorem okD_mk {n : Nat} {ds : List PyData} (h1 : ds.length ≤ 100000) (h2 : ∀ d ∈ ds, okD n d = true) : (decide (ds.length ≤ 100000) && ds.all (okD n)) = true := by
  rw [Bool.and_eq_true]
  exact ⟨decide_eq_true h1, List.all_eq_true.mpr h2⟩
theorem ty_seq {K : PySem.W.Frag} {H : Hp} {a : Addr} {xs : List V} (h : SqL K H a xs) : TyX K H (.ref a) (.type "list") := by
  rcases h with (h | ⟨o, h⟩) | ⟨o, its, n, h1, h2, _⟩
  · exact .base (.lst h)
  · exact .base (.frz h)
  · exact .kList h1 h2
theorem ty_tup {K : PySem.W.Frag} {H : Hp} {a : Addr} {xs : List V} (h : SqT K H a xs) : TyX K H (.ref a) (.type "tuple") := by
  rcases h with (h | ⟨o, h⟩) | ⟨o, its, n, h1, h2, _⟩
  · exact .base (.tup h)
  · exact .fTuple h
  · exact .kTuple h1 h2
def tn : PyData → String
  | .none => "NoneType"
  | .bool _ => "bool"
  | .int _ => "int"
  | .str _ => "str"
  | .list _ => "list"
  | .tuple _ => "tuple"
  | .dict _ => "dict"
theorem ty_dp {K : PySem.W.Frag} {H : Hp} {d : PyData} {v : V} (h : Dp K H v d) : TyX K H v (.type (tn d)) := by
  cases h with
  | non => exact .base .non
  | bl b => exact .base (.bl b)
  | int i => exact .base (.int i)
  | str x => exact .base (.str x)
  | lst hs _ => exact ty_seq hs
  | tup hs _ => exact ty_tup hs
/-- x is b, b a bool -/
theorem op_isB {X : Cx} : OpR X (compareOp .Is) (fun x y H Q => ∃ b, y = .bl b ∧ Q (.bl (decide (x = .bl b))) H) := by
  intro pins s σ H x y v u Q I rx ry h
  obtain ⟨b, rfl, q⟩ := h
  cases (show u = Value.bool b from ry)
  have go : ∀ v : Value, PySem.plainIs v (.bool b) = true → RelV x v → wpAny (model X.prog X.w) X.A (compareOp .Is v (.bool b)) (EP X pins σ Q) X.xe s := fun v hp r => by
    refine PySem.wpAny_is_plain hp ⟨.bl (v == .bool b), H, I, rfl, ?_⟩
    have e : (v == Value.bool b) = decide (x = .bl b) := by
      rw [Bool.eq_iff_iff, beq_iff_eq, decide_eq_true_iff]
      constructor
      · intro z
        subst z
        exact RelV.inj r rfl
      · intro z
        subst z
        exact r
    rw [e]
    exact q
  refine go v ?_ rx
  cases x with
  | non => cases rx; rfl
  | bl j => cases rx; rfl
  | int j => obtain ⟨t, rfl⟩ := rx; rfl
  | str j => obtain ⟨t, rfl⟩ := rx; rfl
  | byt j => obtain ⟨t, rfl⟩ := rx; rfl
  | flt j => obtain ⟨t, rfl⟩ := rx; rfl
  | ref j => cases rx; rfl
  | ty j => cases rx; rfl
def spSame (K : PySem.W.Frag) (n : Nat) : Sp := fun vs H Q _ => ∃ x y d, vs = [x, y] ∧ okD n d = true ∧ Dp K H x d ∧ Dp K H y d ∧ Q (.bl true) H
/-- N: cells that are new behind H, as they stand in H' -/
structure Nw (N H H' : Hp) : Prop where
  same : Same N H'
  new : ∀ p, N p ≠ none → H p = none
def mrg (N M : Hp) : Hp := fun p => match N p with
  | some o => some o
  | none => M p
theorem mrg_l {N M : Hp} : Same N (mrg N M) := fun p o e => by
  unfold mrg
  rw [e]
theorem mrg_r {N M : Hp} (h : ∀ p, M p ≠ none → N p = none) : Same M (mrg N M) := fun p o e => by
  unfold mrg
  rw [h p (by rw [e]; exact fun z => by cases z)]
  exact e
theorem mrg_none {N M : Hp} {p : Addr} (h1 : N p = none) (h2 : M p = none) : mrg N M p = none := by
  unfold mrg
  rw [h1]
  exact h2
theorem mrg_same {N M H : Hp} (h1 : Same N H) (h2 : Same M H) : Same (mrg N M) H := fun p o e => by
  unfold mrg at e
  split at e
  · rename_i o' e'
    cases e
    exact h1 _ _ e'
  · exact h2 _ _ e
theorem Nw.nil {H : Hp} : Nw (fun _ => none) H H := ⟨fun _ _ e => (by cases e), fun _ h => absurd rfl h⟩
theorem Nw.disj {N M H H1 H2 : Hp} (h1 : Nw N H H1) (h2 : Nw M H1 H2) : ∀ p, M p ≠ none → N p = none := fun p h => h1.same.free (h2.new p h)
theorem Nw.add {N M H H1 H2 : Hp} (h1 : Nw N H H1) (h2 : Nw M H1 H2) (s : Same H H1) (s2 : Same H1 H2) : Nw (mrg N M) H H2 := by
  refine ⟨mrg_same (h1.same.trans s2) h2.same, fun p h => ?_⟩
  cases e : N p with
  | some o => exact h1.new p (by rw [e]; exact fun z => by cases z)
  | none =>
    refine s.free (h2.new p fun z => h ?_)
    exact mrg_none e z
theorem Nw.put {N H H1 : Hp} {l : Addr} {o : HO} (h1 : Nw N H H1) (s : Same H H1) (hl : H1 l = none) : Nw (upd N l o) H (upd H1 l o) := by
  refine ⟨same_set h1.same, fun p h => ?_⟩
  by_cases e : p = l
  · subst e
    exact s.free hl
  · rw [upd_ne e] at h
    exact h1.new p h
theorem Nw.out {N H H1 : Hp} {l : Addr} {o : HO} (h1 : Nw N H H1) (hl : N l = none) : Nw N H (upd H1 l o) := ⟨same_out h1.same hl, h1.new⟩
theorem Nw.own {N H H1 : Hp} {l : Addr} {o : HO} (h1 : Nw N H H1) (hl : H l = none) (e : H1 l = some o) : Nw (upd N l o) H H1 := by
  refine ⟨fun p x hx => ?_, fun p h => ?_⟩
  · by_cases z : p = l
    · subst z
      rw [upd_same] at hx
      cases hx
      exact e
    · rw [upd_ne z] at hx
      exact h1.same _ _ hx
  · by_cases z : p = l
    · subst z
      exact hl
    · rw [upd_ne z] at h
      exact h1.new p h
def spCopy (K : PySem.W.Frag) (n : Nat) : Sp := fun vs H Q _ => ∃ x d, vs = [x] ∧ okD n d = true ∧ Dp K H x d ∧ ∀ H' v N, Same H H' → Nw N H H' → Dp K N v d → Q v H'
end KB
namespace KB
open PySem PySem.Spec PyProof.Rows L2
/-- a text so many times -/
def repS (z : Str) (k : Int) : Str := ⟨((List.replicate k.toNat z.cps.toList).flatten).toArray⟩
theorem foldl_app (z : Array Nat) : ∀ (n : Nat) (b : Array Nat), ((List.replicate n z).foldl (· ++ ·) b).toList = b.toList ++ (List.replicate n z.toList).flatten
  | 0, b => by simp
  | n + 1, b => by
    rw [List.replicate_succ, List.foldl_cons, foldl_app z n, List.replicate_succ, List.flatten_cons, Array.toList_append, List.append_assoc]
theorem repS_len (z : Str) (k : Int) : (repS z k).length = k.toNat * z.length := by
  show ((List.replicate k.toNat z.cps.toList).flatten.toArray).size = _
  rw [List.size_toArray, List.length_flatten]
  simp
  rfl
def rRepS : R2 := fun x y H Q => ∃ (z : Str) (k : Int), x = .str z ∧ y = .int k ∧ -(2 ^ 63) ≤ k ∧ k < 2 ^ 63 ∧ k.toNat * z.length ≤ 16777216 ∧ Q (.str (repS z k)) H
theorem op_repS {X : Cx} : OpR X (binaryOp .Mult) rRepS := by
  intro pins s σ H x y v u Q I rx ry h
  obtain ⟨z, k, rfl, rfl, h1, h2, hz, q⟩ := h
  obtain ⟨t, rfl⟩ := rx
  obtain ⟨t', rfl⟩ := ry
  have hk : ¬ k < 1 → ((k.toNat * z.length : Nat) : Int) = (z.length : Int) * k := fun hk => by
    rw [Int.natCast_mul, Int.toNat_of_nonneg (by omega), Int.mul_comm]
  refine PySem.P.mul_str (by rw [decide_eq_false (by omega), decide_eq_false (by omega)] <;> rfl) (fun hk1 _ hgt => ?_) (fun hk1 _ => ?_) ?_
  · have e := hk hk1
    have : (z.length : Int) ≤ (2 ^ 63 - 1) / k := Int.le_ediv_of_mul_le (by omega) (by omega)
    omega
  · rw [Nat.mul_comm]
    unfold Builtin.Str.tooLong
    have e := sizeLine_eq
    simp only [decide_eq_false_iff_not]
    omega
  · have len := repS_len z k
    have e1 : k < 1 → Str.empty = repS z k := fun h => by
      unfold repS
      rw [show k.toNat = 0 by omega]
      rfl
    have e2 : (k == 1 || z.length == 0) = true → z = repS z k := fun h => by
      unfold repS
      rw [Bool.or_eq_true, beq_iff_eq, beq_iff_eq] at h
      rcases h with h | h
      · subst h
        obtain ⟨c⟩ := z
        simp
      · obtain ⟨c⟩ := z
        have : c = #[] := Array.eq_empty_of_size_eq_zero h
        subst this
        simp
    have e3 : (⟨(List.replicate k.toNat z.cps).foldl (· ++ ·) #[]⟩ : Str) = repS z k := by
      unfold repS
      congr 1
      apply Array.toList_inj.mp
      rw [foldl_app]
      simp
    have sl := sizeLine_eq
    by_cases c1 : k < 1
    · rw [if_pos c1, e1 c1]
      exact ⟨by rw [len]; omega, .str _, H, I.tok _, ⟨_, rfl⟩, q⟩
    · rw [if_neg c1]
      by_cases c2 : (k == 1 || z.length == 0) = true
      · rw [if_pos c2]
        rw [← e2 c2] at q
        exact ⟨.str _, H, I, ⟨_, rfl⟩, q⟩
      · rw [if_neg c2, e3]
        exact ⟨by rw [len]; omega, .str _, H, I.tok _, ⟨_, rfl⟩, q⟩
end KB
namespace KB
open PySem PySem.Spec PyProof.Rows L2
theorem Tp.shrink {B B' H : Hp} {t : Addr} {c : Nat} (T : Tp B' H t c) (s : Same B B') : Tp B H t c := by
  obtain ⟨sm, bt, g, gs, sd, ct, h1, h2⟩ := T
  exact ⟨s.trans sm, s.free bt, g, gs, sd, ct, s.free h1, h2⟩
theorem mrg_e {B : Hp} : mrg B (fun _ => none) = B := by
  funext p
  unfold mrg
  split
  · rename_i o e
    exact e.symm
  · rename_i e
    exact e.symm
theorem mrg_assoc {B N M : Hp} : mrg (mrg B N) M = mrg B (mrg N M) := by
  funext p
  unfold mrg
  cases B p <;> cases N p <;> rfl
theorem mrg_upd {B N : Hp} {D : Addr} {o : HO} : mrg (upd B D o) N = upd (mrg B N) D o := by
  funext p
  unfold mrg upd
  by_cases h : p = D
  · simp only [if_pos h]
  · simp only [if_neg h]
theorem mrg_move {B N : Hp} {D : Addr} {o : HO} (hB : B D = none) : mrg (upd B D o) N = mrg B (upd N D o) := by
  funext p
  unfold mrg upd
  by_cases h : p = D
  · subst h
    simp only [if_true, hB]
  · simp only [if_neg h]
theorem mrg_put {B N : Hp} {D : Addr} {o : HO} (hB : B D = none) : upd (mrg B N) D o = mrg B (upd N D o) := by rw [← mrg_upd, mrg_move hB]
/-- N's cells are new behind H -/
def New (N H : Hp) : Prop := ∀ p, N p ≠ none → H p = none
theorem New.nil {H : Hp} : New (fun _ => none) H := fun _ h => absurd rfl h
theorem New.off {N H : Hp} {p : Addr} {o : HO} (h : New N H) (e : H p = some o) : N p = none := by
  cases z : N p with
  | none => rfl
  | some o' =>
    have := h p (by rw [z]; exact fun z => by cases z)
    rw [e] at this
    cases this
theorem New.put {N H : Hp} {p : Addr} {o : HO} (h : New N H) (hp : H p = none) : New (upd N p o) H := fun q hq => by
  by_cases e : q = p
  · subst e
    exact hp
  · rw [upd_ne e] at hq
    exact h q hq
theorem New.r {B N H : Hp} (h : New N H) (s : Same B H) : Same N (mrg B N) := mrg_r fun p hp => s.free (h p hp)
/-- the tape behind a def that drew a thing: N is the thing -/
theorem Tp.e {B H : Hp} {t : Addr} {c : Nat} (T : Tp B H t c) : Tp (mrg B (fun _ => none)) H t c := by rw [mrg_e]; exact T
theorem at_some {α : Type} {xs : List α} {i : Int} (h0 : 0 ≤ i) (h1 : i < xs.length) : ∃ c, atI xs i = some c := by
  obtain ⟨j, rfl⟩ := nat_of h0
  exact ⟨_, atI_nat (List.getElem?_eq_getElem (by omega))⟩
end KB
namespace KB
open PySem PySem.Spec PyProof.Rows L2
theorem New.mrg {B N M : Hp} (h1 : New N B) (h2 : New M (mrg B N)) : New (mrg N M) B := fun p hp => by
  cases e : N p with
  | some o => exact h1 p (by rw [e]; exact fun z => by cases z)
  | none =>
    have : M p ≠ none := fun z => hp (mrg_none e z)
    have h3 := h2 p this
    unfold KB.mrg at h3
    cases eB : B p with
    | none => rfl
    | some o => rw [eB] at h3; cases h3
theorem mrg_nl {B N : Hp} {p : Addr} (h : mrg B N p = none) : B p = none := by
  unfold mrg at h
  cases e : B p with
  | none => rfl
  | some o => rw [e] at h; cases h
theorem mrg_nr {B N : Hp} {p : Addr} (h : mrg B N p = none) : N p = none := by
  have hb := mrg_nl h
  unfold mrg at h
  rw [hb] at h
  exact h
theorem dp_ints {K : PySem.W.Frag} {N : Hp} : ∀ is : List Int, DpAll K N (is.map V.int) (is.map PyData.int)
  | [] => .nil
  | i :: is => .cons (.int i) (dp_ints is)
/-- a list of things at D, drawn: ready to be handed on -/
structure Lst (K : PySem.W.Frag) (B H : Hp) (t : Addr) (c : Nat) (D : Addr) (zs : List V) (ds : List PyData) (N : Hp) : Prop where
  tp : Tp (mrg (upd B D (.lst zs)) N) H t c
  new : New N B
  bD : B D = none
  nD : N D = none
  all : DpAll K N zs ds
theorem Lst.ini {K : PySem.W.Frag} {B H : Hp} {t D : Addr} {c : Nat} (T : Tp B H t c) (hD : H D = none) : Lst K B (upd H D (.lst [])) t c D [] [] (fun _ => none) :=
  ⟨by rw [mrg_e]; exact T.new hD, New.nil, T.isn hD, rfl, .nil⟩
theorem Lst.hD {K : PySem.W.Frag} {B H : Hp} {t D : Addr} {c : Nat} {zs : List V} {ds : List PyData} {N : Hp} (L : Lst K B H t c D zs ds N) : H D = some (.lst zs) := L.tp.at (mrg_l _ _ upd_same)
/-- one thing more -/
theorem Lst.add {K : PySem.W.Frag} {B H H' : Hp} {t D : Addr} {c c' : Nat} {zs : List V} {ds : List PyData} {N M : Hp} {v : V} {d : PyData} (L : Lst K B H t c D zs ds N) (T : Tp (mrg (mrg (upd B D (.lst zs)) N) M) H' t c') (hM : New M (mrg (upd B D (.lst zs)) N)) (hv : Dp K M v d) :
    H' D = some (.lst zs) ∧ Lst K B (upd H' D (.lst (zs ++ [v]))) t c' D (zs ++ [v]) (ds ++ [d]) (mrg N M) := by
  rw [mrg_assoc] at T
  have hb : mrg (upd B D (.lst zs)) (mrg N M) D = some (.lst zs) := mrg_l _ _ upd_same
  have T2 := T.set (o' := .lst (zs ++ [v])) hb
  rw [← mrg_upd, upd_upd] at T2
  have mD : M D = none := hM.off (mrg_l _ _ upd_same)
  have dj : ∀ p, M p ≠ none → N p = none := fun p hp => mrg_nr (hM p hp)
  refine ⟨T.at hb, T2, L.new.mrg (M := M) fun p hp => ?_, L.bD, mrg_none L.nD mD, DpAll.snoc (Dp.mono (mrg_r dj) _ _ hv) (DpAll.mono mrg_l _ _ L.all)⟩
  have z := hM p hp
  have zn := mrg_nr z
  have zb := mrg_nl z
  refine mrg_none ?_ zn
  by_cases e : p = D
  · subst e
    exact L.bD
  · rw [upd_ne e] at zb
    exact zb
theorem Lst.asList {K : PySem.W.Frag} {B H : Hp} {t D : Addr} {c : Nat} {zs : List V} {ds : List PyData} {N : Hp} (L : Lst K B H t c D zs ds N) : Tp (mrg B (upd N D (.lst zs))) H t c ∧ New (upd N D (.lst zs)) B ∧ Dp K (upd N D (.lst zs)) (.ref D) (.list ds) :=
  ⟨by rw [← mrg_move L.bD]; exact L.tp, L.new.put L.bD, .lst (SqL.of upd_same) (DpAll.mono (same_upd L.nD) _ _ L.all)⟩
theorem Lst.asTup {K : PySem.W.Frag} {B H : Hp} {t D l : Addr} {c : Nat} {zs : List V} {ds : List PyData} {N : Hp} (L : Lst K B H t c D zs ds N) (hl : H l = none) : ∃ M, Tp (mrg B M) (upd H l (.tup zs)) t c ∧ New M B ∧ Dp K M (.ref l) (.tuple ds) := by
  have z := L.tp.isn hl
  have bl : upd B D (.lst zs) l = none := mrg_nl z
  have nl : N l = none := mrg_nr z
  have hne : D ≠ l := ne_of_none upd_same bl
  have bl2 : B l = none := by rw [upd_ne hne.symm] at bl; exact bl
  have T := L.tp.new (o := .tup zs) hl
  rw [mrg_put bl, mrg_move L.bD] at T
  have nD2 : upd N l (.tup zs) D = none := by rw [upd_ne hne]; exact L.nD
  exact ⟨_, T, (L.new.put bl2).put L.bD, .tup (SqT.of (same_upd nD2 _ _ upd_same)) (DpAll.mono ((same_upd nl).trans (same_upd nD2)) _ _ L.all)⟩
end KB
namespace KB
open PySem PySem.Spec PyProof.Rows L2
def isI : V → Bool
  | .int _ => true
  | _ => false
def isS (m : Nat) : V → Bool
  | .str z => decide (z.length ≤ m)
  | _ => false
theorem at_int {xs : List V} {i : Int} (h0 : 0 ≤ i) (h1 : i < xs.length) (h : xs.all isI = true) : ∃ z, atI xs i = some (.int z) := by
  obtain ⟨j, rfl⟩ := nat_of h0
  have e := List.getElem?_eq_getElem (l := xs) (i := j) (by omega)
  have m := List.all_eq_true.mp h _ (List.mem_of_getElem? e)
  cases q : xs[j]'(by omega) with
  | int z => exact ⟨z, atI_nat (by rw [e, q])⟩
  | _ => rw [q] at m; cases m
theorem at_str {m : Nat} {xs : List V} {i : Int} (h0 : 0 ≤ i) (h1 : i < xs.length) (h : xs.all (isS m) = true) : ∃ z : Str, atI xs i = some (.str z) ∧ z.length ≤ m := by
  obtain ⟨j, rfl⟩ := nat_of h0
  have e := List.getElem?_eq_getElem (l := xs) (i := j) (by omega)
  have mm := List.all_eq_true.mp h _ (List.mem_of_getElem? e)
  cases q : xs[j]'(by omega) with
  | str z => exact ⟨z, atI_nat (by rw [e, q]), by rw [q] at mm; exact of_decide_eq_true mm⟩
  | _ => rw [q] at mm; cases mm
end KB
namespace KB
open PySem PySem.Spec PyProof.Rows L2
theorem str_app_len (a b : Str) : (a ++ b).length = a.length + b.length := by
  show (a.cps ++ b.cps).size = a.cps.size + b.cps.size
  rw [Array.size_append]
end KB

/-! a number in base two: f'{n:b}' -/
namespace KB
open PySem PySem.Spec PyProof.Rows L2
def dgB (n : Nat) : List Nat := (Nat.toDigits 2 n).map fun c => c.toNat
def binS (n : Nat) : Str := ⟨(dgB n).toArray⟩
def padB (ds : List Nat) : List Nat := List.replicate (((-1 : Int) - ((([] : List Nat).length : Nat) + (([] : List Nat).length : Nat) + (([] : List Nat).length : Nat) : Int)) - ds.length).toNat 32
def dsB (n : Nat) : List Nat := if (dgB n).isEmpty then [] else List.replicate ((0 : Int).toNat - (dgB n).length) 48 ++ dgB n
theorem int_fmt (n : Nat) (t u : Tok) : Builtin.«int.__format__» ⟨[.int (n : Int) t, .str ("b" : Str) u], []⟩ = (typeNameOf (.str ("b" : Str) u) >>= fun _ => typeNameOfCut 200 (.int (n : Int) t) >>= fun _ => retStr ⟨(padB (dsB n) ++ [] ++ [] ++ List.replicate 0 32 ++ dsB n ++ [] ++ List.replicate 0 32).toArray⟩) := by
  rfl
theorem binS_eq (n : Nat) : (⟨(padB (dsB n) ++ [] ++ [] ++ List.replicate 0 32 ++ dsB n ++ [] ++ List.replicate 0 32).toArray⟩ : Str) = binS n := by
  have e1 : padB (dsB n) = [] := by
    unfold padB
    rw [show (((-1 : Int) - ((([] : List Nat).length : Nat) + (([] : List Nat).length : Nat) + (([] : List Nat).length : Nat) : Int)) - (dsB n).length).toNat = 0 by simp]
    rfl
  have e2 : dsB n = dgB n := by
    unfold dsB
    split
    · rename_i h
      exact (List.isEmpty_iff.mp h).symm
    · show List.replicate (0 - (dgB n).length) 48 ++ dgB n = dgB n
      rw [Nat.zero_sub]
      rfl
  rw [e1, e2]
  unfold binS
  simp
theorem gives_fmtB (n : Nat) (t u : Tok) : Gives (Builtin.«int.__format__» ⟨[.int (n : Int) t, .str ("b" : Str) u], []⟩) (.str (binS n)) := by
  rw [int_fmt, binS_eq]
  intro prog w A R s hq
  refine wpAny_bind (wpAny_typeNameOf (T := "str") (typeIs_str _ _ _) (by decide) fun _ => ?_)
  refine wpAny_bind (wpAny_typeNameOfCut_int ?_)
  exact (Gives.of_eq (t := retStr (binS n)) (m := .str (binS n)) rfl) prog w A R s hq
/-- {n:b}, n a number -/
def tFmtB (te : TE) : TE := fun σ H Q => te σ H fun x H1 => ∃ n : Nat, x = .int n ∧ (binS n).length ≤ sizeLine ∧ Q (.str (binS n)) H1
theorem pe_fmtB {X : Cx} {e sp : Expr} {te : TE} {pos : Pos} (he : PE X e te) (hs : PE X sp (tC (.str "b"))) : PE X (.FormattedValue e (-1) (some sp) pos) (tFmtB te) := by
  refine ⟨fun pins s σ H Q I h => ?_⟩
  refine wpAny_FormattedValue_spec (thn (he.run pins s σ H _ I h) fun v s1 ⟨x, H1, I1, r1, n, ex, hz, q⟩ => ?_)
  subst ex
  obtain ⟨t, rfl⟩ := r1
  refine thn (hs.run pins s1 σ H1 (fun y H2 => y = .str "b" ∧ Q (.str (binS n)) H2) I1 ⟨rfl, q⟩) fun r s2 ⟨y, H2, I2, r2, ey, q2⟩ => ?_
  subst ey
  obtain ⟨t2, rfl⟩ := r2
  refine ⟨_, _, rfl, ?_⟩
  exact wpAny_formatField_spec (T := "int") (by decide) (fun s' => typeIs_int s' _ _) F.slot_int_format F.entry_int_format F.args_int_format_2 (fun u => gives_fmtB n t u) ⟨.str (binS n), H2, (I2.tok _), ⟨_, rfl⟩, q2⟩ (by rw [sizeLine_eq]; decide) hz
end KB

/-! words: texts of the signs 0 and 1 -/
namespace KB
open PySem PySem.Spec PyProof.Rows L2 Builtin.Str
theorem tw_len {p : Nat → Bool} : ∀ l : List Nat, (l.takeWhile p).length ≤ l.length
  | [] => Nat.le_refl _
  | c :: r => by
    rw [List.takeWhile_cons]
    split
    · rw [List.length_cons, List.length_cons]
      exact Nat.succ_le_succ (tw_len r)
    · exact Nat.zero_le _
theorem tw_all {p : Nat → Bool} : ∀ l : List Nat, (l.takeWhile p).length = l.length ↔ l.all p = true
  | [] => by simp
  | c :: r => by
    rw [List.takeWhile_cons, List.all_cons, List.length_cons]
    cases h : p c with
    | true =>
      rw [if_pos rfl, List.length_cons, Bool.true_and, ← tw_all r]
      omega
    | false => simp
theorem tw_drop {p : Nat → Bool} : ∀ l : List Nat, l.all p = false → ∃ c r, l.drop (l.takeWhile p).length = c :: r ∧ p c = false
  | [], h => by cases h
  | c :: r, h => by
    rw [List.takeWhile_cons]
    cases hc : p c with
    | true =>
      rw [if_pos rfl, List.length_cons, List.drop_succ_cons]
      rw [List.all_cons, hc, Bool.true_and] at h
      exact tw_drop r h
    | false =>
      rw [if_neg (by simp)]
      exact ⟨c, r, rfl, hc⟩
theorem strSub_len (z : Str) (lo hi : Nat) (h : hi ≤ z.length) : (strSub z lo hi).length = hi - lo := by
  show (z.cps.extract lo hi).size = hi - lo
  rw [Array.size_extract]
  have h' : hi ≤ z.cps.size := h
  omega
theorem strip_len {p : Nat → Bool} (z : Str) : (Txt.stripBy p true true z).length = 0 ↔ z.cps.toList.all p = true := by
  have hn : z.cps.toList.length = z.length := Array.length_toList
  have hlo : stripLo p true z = (z.cps.toList.takeWhile p).length := by unfold stripLo; rw [if_pos rfl]
  have hle := tw_len (p := p) z.cps.toList
  cases ha : z.cps.toList.all p with
  | true =>
    have e := (tw_all z.cps.toList).mpr ha
    refine ⟨fun _ => rfl, fun _ => ?_⟩
    have hhi : stripHi p true z (stripLo p true z) = z.length := by
      unfold stripHi
      rw [if_pos rfl, hlo, e, List.drop_length]
      simp
    unfold Txt.stripBy stripSame stripped
    rw [hhi, hlo, e, hn]
    split
    · rename_i h
      simp at h
      exact h
    · rw [strSub_len _ _ _ (Nat.le_refl _), Nat.sub_self]
  | false =>
    refine ⟨fun h => ?_, fun h => by cases h⟩
    exfalso
    obtain ⟨c, r, hd, hc⟩ := tw_drop z.cps.toList ha
    have hk : (((z.cps.toList.drop (z.cps.toList.takeWhile p).length).reverse).takeWhile p).length < (z.cps.toList.drop (z.cps.toList.takeWhile p).length).length := by
      have h1 := tw_len (p := p) (z.cps.toList.drop (z.cps.toList.takeWhile p).length).reverse
      rw [List.length_reverse] at h1
      rcases Nat.lt_or_ge (((z.cps.toList.drop (z.cps.toList.takeWhile p).length).reverse).takeWhile p).length (z.cps.toList.drop (z.cps.toList.takeWhile p).length).length with h2 | h2
      · exact h2
      · have h3 := (tw_all (p := p) (z.cps.toList.drop (z.cps.toList.takeWhile p).length).reverse).mp (by rw [List.length_reverse]; omega)
        rw [List.all_reverse, hd, List.all_cons, hc] at h3
        cases h3
    rw [List.length_drop] at hk
    have hhi : stripHi p true z (stripLo p true z) = z.length - (((z.cps.toList.drop (z.cps.toList.takeWhile p).length).reverse).takeWhile p).length := by
      unfold stripHi
      rw [if_pos rfl, hlo]
    unfold Txt.stripBy stripSame stripped at h
    split at h
    · omega
    · rw [hhi, hlo, strSub_len _ _ _ (by omega)] at h
      omega
/-- all signs 0 or 1 -/
def isB (z : Str) : Bool := z.cps.toList.all (("01" : Str)).cps.contains
theorem strip01 (z : Str) : decide (V.str (Txt.stripChars z "01") = V.str "") = isB z := by
  have h := strip_len (p := (("01" : Str)).cps.contains) z
  rw [Bool.eq_iff_iff, decide_eq_true_iff]
  unfold isB
  rw [← h]
  constructor
  · intro e
    have e' := V.str.inj e
    show (Txt.stripChars z "01").length = 0
    rw [e'] <;> rfl
  · intro e
    have e' : (Txt.stripChars z "01").length = 0 := e
    congr 1
    generalize Txt.stripChars z "01" = y at e'
    obtain ⟨y⟩ := y
    have : y = #[] := Array.eq_empty_of_size_eq_zero e'
    subst this
    rfl
theorem isB_mem {z : Str} (h : isB z = true) {c : Nat} (hc : c ∈ z.cps.toList) : c = 48 ∨ c = 49 := by
  have := List.all_eq_true.mp h c hc
  have e : (("01" : Str)).cps = #[48, 49] := by decide
  rw [e] at this
  simpa using this
/-- is_word, of a datum -/
def isW : PyData → Bool
  | .str z => isB z
  | _ => false
def spIsWord (K : PySem.W.Frag) : Sp := fun vs H Q _ => ∃ v d, vs = [v] ∧ Dp K H v d ∧ (∀ z, d = .str z → z.length ≤ 100000) ∧ Q (.bl (isW d)) H
end KB
namespace KB
open PySem PySem.Spec PyProof.Rows L2
/-! ### enumerate(text) -/
def Ites (x : Str) : It := ⟨fun i _ => i < x.cps.size, fun i H v H' => ∃ T c, v = .ref T ∧ H T = none ∧ H' = upd H T (.tup [.int (i : Nat), .str ⟨#[c]⟩]) ∧ x.cps[i]? = some c, fun i _ => i = x.cps.size⟩
theorem turn_enumS {P : Program} {w : World} {K : PySem.W.Frag} {elts : List Expr} {kk : Nat} {tpos : Pos} (e it : Addr) (x : Str) (t : Tok) :
    Turn P w K (.Tuple elts kk tpos) (Ites x) [e, it] e (fun i h => (∃ old, IsEnum h e it ((i : Nat) : Int) old) ∧ h.IsStrIter it (strIterType x) x t i ∧ e ≠ it) where
  mem := by simp
  obj := fun i h st b hb => by
    obtain ⟨⟨old, he⟩, ⟨o, ho, hc, hd⟩, _⟩ := st
    have e' : b = e ∨ b = it := by simpa using hb
    rcases e' with z | z
    · rw [z]; exact ⟨_, he, fun v q => nomatch q⟩
    · rw [z]; exact ⟨o, ho, fun v q => by rw [hd] at q; cases q⟩
  keep := fun i h h' st k => let ⟨⟨old, he⟩, ⟨o, ho, r⟩, hne⟩ := st; ⟨⟨old, k e (by simp) _ he⟩, ⟨o, k it (by simp) o ho, r⟩, hne⟩
  item := by
    intro X hP hw hK hc i pins s σ H E I hf st hg
    subst hP hw hK
    obtain ⟨⟨old, he⟩, hit, hne⟩ := st
    have hel : e < s.heap.objs.size := Heap.lt_size he
    have hil : it < s.heap.objs.size := by obtain ⟨_, q, _⟩ := hit; exact Heap.lt_size q
    have D := Draws.text (prog := X.prog) (w := X.w) (A := X.A.in1) (show X.A.in1.handled = none from I.ok.hd hc) it x t
    refine wpAny_pyNext_enum_itemD (A := X.A) D he hit hg hne (by simpa using hne) fun v h' tk hv ho hit' hT hsz hk => ?_
    obtain ⟨c, u, hcx, rfl⟩ := hv
    refine ⟨_, rfl, wpAny_letOwnedTupleGo_enum (s := { s with heap := h', toks := tk + 1 }) ho fun h'' he' sb => ?_⟩
    have hT2 : h''.get? s.heap.objs.size = some { cls := .type "tuple", data := .seq #[.int i tk, .str ⟨#[c]⟩ u] } := (sb.2 _ (Nat.ne_of_gt hel)).trans hT
    have new : ObjOk X.prog X.w (upd H s.heap.objs.size (.tup [.int (i : Nat), .str ⟨#[c]⟩])) h'' s.heap.objs.size (.tup [.int (i : Nat), .str ⟨#[c]⟩]) :=
      ⟨by show 2 ≤ sizeLine; decide, [.int i tk, .str ⟨#[c]⟩ u], .cons ⟨_, rfl⟩ (.cons ⟨_, rfl⟩ .nil), ⟨_, hT2, rfl, _, rfl⟩⟩
    have I1 : Inv X pins σ (upd H s.heap.objs.size (.tup [.int (i : Nat), .str ⟨#[c]⟩])) { s with heap := h'', toks := tk + 1 } :=
      I.turnedNew (ch := [e, it]) (fun b ob hb q => (sb.2 b (fun z => hb (by simp [z]))).trans (hk b ob (fun z => hb (by simp [z])) (fun z => hb (by simp [z])) q)) hf (Nat.le_refl _) new
    refine ⟨.ref s.heap.objs.size, _, I1, rfl, ⟨_, c, rfl, I.hok.fresh (Nat.le_refl _), rfl, hcx⟩, ⟨⟨.str ⟨#[c]⟩ u, ?_⟩, ?_, hne⟩, fun b hb => ?_⟩
    · have e1 : ((i + 1 : Nat) : Int) = (i : Int) + 1 := by omega
      rw [e1]; exact he'
    · obtain ⟨o, ho', r⟩ := hit'
      exact ⟨o, (sb.2 it (Ne.symm hne)).trans ho', r⟩
    · have hb' : b < s.heap.objs.size := by
        have e' : b = e ∨ b = it := by simpa using hb
        rcases e' with z | z
        · rw [z]; exact hel
        · rw [z]; exact hil
      rw [upd_ne (Nat.ne_of_lt hb')]
      exact (hf b hb).1
  done := by
    intro X hP hw hK hc i pins s σ H E I hf st hg
    subst hP hw hK
    obtain ⟨⟨old, he⟩, hit, hne⟩ := st
    obtain ⟨f0, f1, f2, f3, f4, f5⟩ := hf it (by simp)
    have D := Draws.text (prog := X.prog) (w := X.w) (A := X.A.in1) (show X.A.in1.handled = none from I.ok.hd hc) it x t
    have en : i = x.cps.size := hg
    subst en
    exact wpAny_pyNext_enum_endD (A := X.A) D he hit fun h' eb => ⟨rfl, I.turned (t' := s.toks) (fun b o hb q => eb b o hb q) f0 f1 f3 f4 f5⟩
  self := fun A i s Q E st h => let ⟨⟨_, he⟩, _⟩ := st; wpAny_pyIter_enum he h
def iEnumS (ta : TA) : TI := fun σ H R => ta σ H fun vs H1 => ∃ x, vs = [.str x] ∧ R (Ites x) H1
theorem pi_enumS {X : Cx} {e : Expr} {ta : TA} {p pos tpos : Pos} {elts : List Expr} {kk : Nat} (hg : Gl X "enumerate") (hm : X.mg "enumerate" = none) (ha : PA X [e] ta) (hs : starEach [e] X.env = [(false, eval e X.env)] := by rfl) :
    PI X (.Tuple elts kk tpos) (.Call (.Name "enumerate" p) [e] [] pos) (iEnumS ta) := by
  refine ⟨fun pins s σ H R I h => ?_⟩
  refine Call_ (ld_blt I hg hm boot_enumerate (PyProof.Rows.callWith_type1 (thn (ha.run pos pins s σ H _ I h) fun us s1 ⟨vs, H1, I1, r1, q1⟩ => ?_) hs rfl))
  obtain ⟨x, ex, q⟩ := q1
  subst ex
  obtain ⟨u, rfl, t, rfl⟩ := vals1 r1
  refine call_enumerate_str fun h' he hit hsz hk => wpAny_pyIter_enum he ?_
  have I2 : Inv X pins σ H1 { s1 with heap := h' } := I1.kept (t' := s1.toks) hk
  refine ⟨s1.heap.objs.size + 1, [s1.heap.objs.size + 1, s1.heap.objs.size], _, _, H1, rfl, I2, turn_enumS (s1.heap.objs.size + 1) s1.heap.objs.size x t, ⟨⟨.none, he⟩, hit, Nat.succ_ne_self _⟩, fun b hb => ?_, q⟩
  have e' : b = s1.heap.objs.size + 1 ∨ b = s1.heap.objs.size := by simpa using hb
  have hle : s1.heap.objs.size ≤ b := by
    rcases e' with z | z
    · rw [z]; exact Nat.le_add_right _ _
    · rw [z]; exact Nat.le_refl _
  exact I1.fpOk hle (I1.hok.fresh hle)
/-- for at, sign in enumerate(text) -/
theorem for_enumS {x : Str} {g : TG} {tb : TS} {D : Ends} {σ : L2.St} {H : Hp} (Pv : Nat → L2.St → Hp → Prop) (h0 : Pv 0 σ H)
    (hs : ∀ i c σ H, x.cps[i]? = some c → Pv i σ H → ∀ T, H T = none → g (.ref T) σ (upd H T (.tup [.int (i : Nat), .str ⟨#[c]⟩])) fun σ2 H2 => tb { D with nx := Pv (i + 1), ct := Pv (i + 1), bk := D.nx } σ2 H2) (hd : ∀ σ H, Pv x.cps.size σ H → D.nx σ H) :
    ∃ W : Nat → Nat → L2.St → Hp → Prop, (∃ m, W 0 m σ H) ∧ ∀ i m σ H, W i m σ H →
      ((Ites x).stop i H ∧ D.nx σ H) ∨ ((Ites x).go i H ∧ ∃ N : L2.St → Hp → Prop, (∀ σ' H', N σ' H' → ∃ m', m' < m ∧ W (i + 1) m' σ' H') ∧ ∀ v H', (Ites x).yld i H v H' → g v σ H' fun σ2 H2 => tb { D with nx := N, ct := N, bk := D.nx } σ2 H2) := by
  refine ⟨fun i m σ H => m = x.cps.size - i ∧ i ≤ x.cps.size ∧ Pv i σ H, ⟨x.cps.size, by simp, Nat.zero_le _, h0⟩, ?_⟩
  rintro i m σ H ⟨rfl, hi, p⟩
  by_cases hlt : i < x.cps.size
  · refine .inr ⟨hlt, Pv (i + 1), fun σ' H' p' => ⟨x.cps.size - (i + 1), by omega, rfl, hlt, p'⟩, fun v H' y => ?_⟩
    obtain ⟨T, c, rfl, hT, rfl, hc⟩ := y
    exact hs i c σ H hc p T hT
  · have e : i = x.cps.size := by omega
    subst e
    exact .inl ⟨rfl, hd σ H p⟩
end KB

/-! sorted of a tuple of ints -/
namespace KB
open PySem PyProof.Rows Srt SrtO
section
variable {prog : Program} {w : World} {A : Around} {E : Value → Shared → Prop} {s : Shared}
theorem collect_tup {l : Addr} {vs : List Value} {Q : List Value → Shared → Prop} (hl : s.heap.IsTuple l vs.toArray)
    (h : Q vs { s with heap := (s.heap.push (seqObj "list" #[] 0)).update s.heap.objs.size (Obj.mapSeq (· ++ vs.toArray)) }) (hsz : vs.length ≤ sizeLine := by size_fits) :
    wpAny (model prog w) A (collect (.ref l)) Q E s := by
  obtain ⟨o, ho, hc, n, hd⟩ := id hl
  unfold collect
  refine wpAny_bind (wpAny_runValue (codeAny_builtin entry_proto_collect' ?_))
  show wpAny _ _ (do again (.builtin "list.__iadd__" ⟨[← newList [], .ref l], []⟩)) _ _ s
  refine wpAny_bind (wpAny_newList (wpAny_pure ⟨Code.quiet_builtin _ (by decide +kernel), codeAny_builtin entry_list_iadd' ?_⟩))
  show wpAny _ _ (Builtin.List.listExtendWith (.ref s.heap.objs.size) (.ref l) (.ref s.heap.objs.size)) _ _ { s with heap := s.heap.push (seqObj "list" #[] 0) }
  unfold Builtin.List.listExtendWith
  have ho' : (s.heap.push (seqObj "list" #[] 0)).get? l = some o := Heap.get?_push_of_some _ ho
  refine wpAny_bind (wpAny_typeOf (T := "tuple") ⟨o, ho', hc⟩ ?_)
  have ht : (Value.type "tuple" == Value.type "tuple") = true := by rfl
  rw [if_pos (by rw [ht]; simp)]
  refine wpAny_bind (listItems_at ho' hd ?_)
  refine wpAny_bind (listItems_at (xs := #[]) (n := 0) (Heap.get?_push_size _ rfl) rfl ?_)
  rw [if_neg (by simp)]
  refine wpAny_bind (listUpdate_at (xs := #[]) (n := 0) (Heap.get?_push_size _ rfl) rfl ?_ (Nat.zero_le _) (by show (#[] ++ vs.toArray).size ≤ sizeLine + 1; simp only [Array.size_append, List.size_toArray, List.length_nil]; omega))
  refine wpAny_pure ?_
  show wpAny (model prog w) A (do
      let o ← load s.heap.objs.size
      match o.data with
      | .seq xs _ => pure xs.toList
      | _ => unsupported "internal:collect") Q E { s with heap := (s.heap.push (seqObj "list" #[] 0)).update s.heap.objs.size (Obj.mapSeq (· ++ vs.toArray)) }
  refine wpAny_bind (wpAny_load (get?_update_seq (Heap.get?_push_size _ rfl) _) ?_)
  show wpAny _ _ (pure ((#[] : Array Value) ++ vs.toArray).toList) Q E _
  rw [show ((#[] : Array Value) ++ vs.toArray).toList = vs by simp]
  exact wpAny_pure h
theorem sorted_ordT {l : Addr} {vs : List Value} {ltv : Value → Value → Bool} {Q : Value → Shared → Prop} (O : Swo ltv) (hl : s.heap.IsTuple l vs.toArray) (hz : vs.length ≤ sizeLine)
    (hS : 2 ≤ vs.length → ∀ (h₁ : Heap) (a : Addr), h₁.get? a = some (seqObj "list" vs.toArray 0) → (∀ b o, s.heap.get? b = some o → b ≠ a ∧ h₁.get? b = some o) → SortableO prog w A.in1.in1 { s with heap := h₁ } a vs ltv)
    (h : ∀ out : List Value, Srtd ltv out → Stb ltv out vs → Q (.ref (s.heap.objs.size + 1)) { s with heap := sortedAll s.heap vs out.toArray }) :
    wpAny (model prog w) A (call (.builtin "sorted") [.ref l]) Q E s := by
  refine Calls.call_function_entry kind_sorted plain_sorted entry_sorted (args_sorted1 _) ?_
  unfold Builtin.«sorted»
  refine wpAny_bind (m := checkCount "sorted" 1 1 _) (wpAny_pure ?_)
  refine wpAny_bind (collect_tup hl ?_ hz)
  refine wpAny_bind (wpAny_newList ?_ hz)
  have hsz : ((s.heap.push (seqObj "list" #[] 0)).update s.heap.objs.size (Obj.mapSeq (· ++ vs.toArray))).objs.size = s.heap.objs.size + 1 := by
    rw [Heap.size_update, size_push']
  have hoL : (((s.heap.push (seqObj "list" #[] 0)).update s.heap.objs.size (Obj.mapSeq (· ++ vs.toArray))).push (seqObj "list" vs.toArray 0)).get? (s.heap.objs.size + 1) = some (seqObj "list" vs.toArray 0) := by
    rw [← hsz]; exact Heap.get?_push_size _ rfl
  have keep : ∀ b o, s.heap.get? b = some o → b ≠ s.heap.objs.size + 1 ∧ (((s.heap.push (seqObj "list" #[] 0)).update s.heap.objs.size (Obj.mapSeq (· ++ vs.toArray))).push (seqObj "list" vs.toArray 0)).get? b = some o := fun b o q => by
    have hlt : b < s.heap.objs.size := Heap.lt_size q
    refine ⟨Nat.ne_of_lt (Nat.lt_succ_of_lt hlt), Heap.get?_push_of_some _ ?_⟩
    rw [Heap.get?_update_ne _ _ _ _ (Nat.ne_of_lt hlt)]
    exact Heap.get?_push_of_some _ q
  show wpAny _ _ _ _ _ { s with heap := ((s.heap.push (seqObj "list" #[] 0)).update s.heap.objs.size (Obj.mapSeq (· ++ vs.toArray))).push (seqObj "list" vs.toArray 0) }
  rw [hsz]
  refine wpAny_bind (wpAny_holding (wpAny_call_entry slot_list_sort ⟨_, hoL, rfl⟩ entry_list_sort (list_sort_ord O hoL hz (fun h2 => hS h2 _ _ hoL keep) fun out hs hb => ⟨_, rfl, ?_⟩) (args_list_sort _)))
  exact wpAny_pure ⟨_, rfl, h out hs hb⟩
end
end KB
namespace KB
open PySem PySem.Spec PyProof.Rows L2
/-- sorted(xs), a list or a tuple of ints -/
def rSortedLT (K : PySem.W.Frag) : List V → Hp → VK → Prop := fun vs H Q => ∃ (a : Addr) (ns : List Int), vs = [V.ref a] ∧ (SqL K H a (ns.map V.int) ∨ SqT K H a (ns.map V.int)) ∧
  ∀ (ns' : List Int) (p : Addr), ns'.Perm ns → ns'.Pairwise (· ≤ ·) → H p = none → Q (.ref p) (upd H p (.lst (ns'.map V.int)))
theorem cr_sortedLT {X : Cx} : CallR X (.builtin "sorted") (rSortedLT X.K) := by
  intro pins s σ H vs us Q I r h
  obtain ⟨a, ns, rfl, hs, q⟩ := h
  rcases hs with hs | hs
  · exact cr_sortedI pins s σ H _ us Q I r ⟨a, ns, rfl, hs, q⟩
  · obtain ⟨its, rv, hl, hz⟩ := I.tuple hs
    rw [Vals.ref1 r]
    have hi := rv.ints
    refine sorted_ordT SrtO.swo_int (show s.heap.IsTuple a its.toArray from hl) (by rw [← rv.length]; exact hz) (fun h2 h₁ a' _ _ => SrtO.ints_sortable hi h2) fun out h1 h2 => ?_
    obtain ⟨k1, k2, k3⟩ := SrtO.ints_out hi h1 h2
    obtain ⟨ep, he'⟩ := PyProof.Rows.sortedAll_at s.heap its out.toArray
    have hlen : ((out.map SrtO.iv).map V.int).length ≤ sizeLine := by
      rw [List.length_map, k2.length_eq]
      rw [List.length_map] at hz
      exact hz
    exact ⟨.ref _, upd H (s.heap.objs.size + 1) (.lst ((out.map SrtO.iv).map V.int)), I.laid (t' := s.toks) (fun _ _ => PyProof.Rows.sortedAll_old) (Nat.le_succ _) ⟨hlen, out, ep, vals_of_ints k1, he'⟩, rfl, q _ _ k2 k3 (I.hok.fresh (Nat.le_succ _))⟩
end KB
/-! ### enumerate of a tuple -/
namespace KB
open PySem PyProof.Rows
open AutoSeq1 (wpAny_loadPart')
theorem new_enumT (l : Addr) (items : Array Value) (n : Nat) (dct : Option Addr) (sl : Array (Option Value)) :
    Meets (Builtin.«enumerate.__new__» ⟨[.type "enumerate", .ref l], []⟩) (fun _ R s => s.heap.get? l = some { cls := .type "tuple", dict := dct, data := .seq items n, slots := sl } ∧
      R (.ok (.ret (.ref (s.heap.push { cls := .type "tuple_iterator", data := .fields #[.ref l, .int 0 0] }).objs.size)))
        { s with heap := (s.heap.push { cls := .type "tuple_iterator", data := .fields #[.ref l, .int 0 0] }).push { cls := .type "enumerate", data := .fields #[.none, .bool false, .ref s.heap.objs.size, rawInt 0, .none, .none] } }) :=
  .of_wp fun prog w A R s h => by
    obtain ⟨hp, g, d, tk, os⟩ := s
    obtain ⟨hl, h⟩ := h
    have hsub := sub_enumerate
    have hT : Heap.IsTuple (Shared.heap ⟨hp, g, d, tk, os⟩) l items := ⟨_, hl, rfl, n, rfl⟩
    wp_walk using wpAny_loadPart' hl
    refine wpAny_stack_any fun st => wpAny_pure ?_
    split
    · rename_i c _ _ _ _ _
      cases (c == Value.type "enumerate") <;> (wp_walk using wpAny_loadPart' hl, wpAny_pyIter_tuple hT; exact ⟨_, rfl, h⟩)
    · wp_walk using wpAny_loadPart' hl, wpAny_pyIter_tuple hT
      exact ⟨_, rfl, h⟩
section
variable {prog : Program} {w : World} {A : Around} {E : Value → Shared → Prop} {s : Shared}
theorem call_enumT {l : Addr} {items : Array Value} {Q : Value → Shared → Prop} (hL : s.heap.IsTuple l items)
    (h : ∀ h', IsEnum h' (s.heap.objs.size + 1) s.heap.objs.size 0 .none → h'.IsTupleIter s.heap.objs.size l 0 → (∀ b o, s.heap.get? b = some o → h'.get? b = some o) → Q (.ref (s.heap.objs.size + 1)) { s with heap := h' }) :
    wpAny (model prog w) A (call (.type "enumerate") [.ref l]) Q E s := by
  obtain ⟨⟨c, dct, dt, sl⟩, hl, hc, n, hd⟩ := hL
  replace hc : c = .type "tuple" := hc
  replace hd : dt = .seq items n := hd
  subst hc hd
  refine callType_new F.called_enumerate (by decide) (F.typeCall_enumerate_1 _) (F.newCall_enumerate_1 _) (fun obj => F.args_object_init_2 obj _) F.entry_enumerate_new (new_enumT l items n dct sl) ⟨hl, ?_⟩
  have hz : (s.heap.push { cls := .type "tuple_iterator", data := .fields #[.ref l, .int 0 0] }).objs.size = s.heap.objs.size + 1 := Heap.size_push ..
  have he := Heap.get?_push_size (s.heap.push { cls := .type "tuple_iterator", data := .fields #[.ref l, .int 0 0] }) (o := { cls := .type "enumerate", data := .fields #[.none, .bool false, .ref s.heap.objs.size, rawInt 0, .none, .none] }) rfl
  show _ ∧ _
  rw [hz] at he ⊢
  exact ⟨⟨_, he, rfl⟩, h _ he ⟨_, Heap.get?_push_of_some _ (Heap.get?_push_size _ rfl), rfl, rfl⟩ fun b o x => Heap.get?_push_of_some _ (Heap.get?_push_of_some _ x)⟩
end
end KB
namespace KB
open PySem PySem.Spec PyProof.Rows L2
/-- the tuple at a, its items in new pairs -/
def Itet (K : PySem.W.Frag) (a : Addr) : It :=
  ⟨fun i H => ∃ (xs : List V) (x : V), SqT K H a xs ∧ xs[i]? = some x, fun i H v H' => ∃ T x, v = .ref T ∧ H T = none ∧ H' = upd H T (.tup [.int (i : Nat), x]) ∧ ∀ xs, SqT K H a xs → xs[i]? = some x, fun i H => ∃ xs : List V, SqT K H a xs ∧ xs.length = i⟩
theorem turn_enumT {P : Program} {w : World} {K : PySem.W.Frag} {elts : List Expr} {kk : Nat} {tpos : Pos} (a e it : Addr) :
    Turn P w K (.Tuple elts kk tpos) (Itet K a) [e, it] e (fun i h => (∃ old, IsEnum h e it ((i : Nat) : Int) old) ∧ h.IsTupleIter it a i ∧ e ≠ it ∧ a < it ∧ a < e) where
  mem := by simp
  obj := fun i h st b hb => by
    obtain ⟨⟨old, he⟩, ⟨o, ho, hc, hd⟩, _⟩ := st
    rcases (by simpa using hb : b = e ∨ b = it) with rfl | rfl
    · exact ⟨_, he, fun v q => nomatch q⟩
    · exact ⟨o, ho, fun v q => by rw [hd] at q; cases q⟩
  keep := fun i h h' st k => let ⟨⟨old, he⟩, hi, hne⟩ := st; ⟨⟨old, k e (by simp) _ he⟩, hi.at fun o q => k it (by simp) o q, hne⟩
  item := by
    intro X hP hw hK hc i pins s σ H E I hf st hg
    subst hP hw hK
    obtain ⟨⟨old, he⟩, hit, hne, hai, hae⟩ := st
    obtain ⟨xs, x, hq, hx⟩ := hg
    obtain ⟨its, rv, p, hz⟩ := I.tuple hq
    obtain ⟨u, hu, ru⟩ := rv.get hx
    have hel : e < s.heap.objs.size := Heap.lt_size he
    have hil : it < s.heap.objs.size := by obtain ⟨_, q, _⟩ := hit; exact Heap.lt_size q
    have D := PySem.Draws.tuple (prog := X.prog) (w := X.w) (A := X.A.in1) (show X.A.in1.handled = none from I.ok.hd hc) it a (Nat.ne_of_lt hai) its.toArray
    have hi' : i < its.toArray.size := by simpa using (List.getElem?_eq_some_iff.mp hu).1
    refine wpAny_pyNext_enum_itemD (A := X.A) D he ⟨hit, p⟩ hi' hne (by simp [hne]; exact Nat.ne_of_gt hae) fun v h' tk hv ho hit' hT hsz hk => ?_
    have ev : v = u := by
      have : its[i]? = some v := by simpa using hv
      rw [hu] at this
      exact (Option.some.inj this).symm
    subst ev
    refine ⟨_, rfl, wpAny_letOwnedTupleGo_enum (s := { s with heap := h', toks := tk + 1 }) ho fun h'' he' sb => ?_⟩
    have hT2 := (sb.2 _ (Nat.ne_of_gt hel)).trans hT
    have new : ObjOk X.prog X.w (upd H s.heap.objs.size (.tup [.int (i : Nat), x])) h'' s.heap.objs.size (.tup [.int (i : Nat), x]) :=
      ⟨by show 2 ≤ sizeLine; decide, [.int i tk, v], .cons ⟨_, rfl⟩ (.cons ru .nil), ⟨_, hT2, rfl, _, rfl⟩⟩
    have I1 : Inv X pins σ (upd H s.heap.objs.size (.tup [.int (i : Nat), x])) { s with heap := h'', toks := tk + 1 } :=
      I.turnedNew (ch := [e, it]) (fun b ob hb q => (sb.2 b (fun z => hb (by simp [z]))).trans (hk b ob (fun z => hb (by simp [z])) (fun z => hb (by simp [z])) q)) hf (Nat.le_refl _) new
    refine ⟨.ref s.heap.objs.size, _, I1, rfl, ⟨_, x, rfl, I.hok.fresh (Nat.le_refl _), rfl, fun ys hy => ?_⟩, ⟨⟨v, ?_⟩, hit'.1.at fun o q => (sb.2 it (Ne.symm hne)).trans q, hne, hai, hae⟩, fun b hb => ?_⟩
    · obtain ⟨its2, rv2, p2, _⟩ := I.tuple hy
      obtain ⟨o1, g1, _, n1, d1⟩ := p
      obtain ⟨o2, g2, _, n2, d2⟩ := p2
      rw [g1] at g2
      cases Option.some.inj g2
      rw [d1] at d2
      have ei : its = its2 := by injection d2 with z _; simpa using congrArg Array.toList z
      subst ei
      rw [Vals.inj rv2 rv]
      exact hx
    · rw [show ((i + 1 : Nat) : Int) = (i : Int) + 1 by omega]
      exact he'
    · have hb' : b < s.heap.objs.size := by
        rcases (by simpa using hb : b = e ∨ b = it) with rfl | rfl
        · exact hel
        · exact hil
      rw [upd_ne (Nat.ne_of_lt hb')]
      exact (hf b hb).1
  done := by
    intro X hP hw hK hc i pins s σ H E I hf st hg
    subst hP hw hK
    obtain ⟨⟨old, he⟩, hit, hne, hai, hae⟩ := st
    obtain ⟨xs, hq, hx⟩ := hg
    obtain ⟨its, rv, p, hz⟩ := I.tuple hq
    obtain ⟨f0, f1, f2, f3, f4, f5⟩ := hf it (by simp)
    have D := PySem.Draws.tuple (prog := X.prog) (w := X.w) (A := X.A.in1) (show X.A.in1.handled = none from I.ok.hd hc) it a (Nat.ne_of_lt hai) its.toArray
    have en : i = its.toArray.size := by rw [List.size_toArray, ← rv.length]; exact hx.symm
    subst en
    exact wpAny_pyNext_enum_endD (A := X.A) D he ⟨hit, p⟩ fun h' eb => ⟨rfl, I.turned (t' := s.toks) (fun b o hb q => eb b o hb q) f0 f1 f3 f4 f5⟩
  self := fun A i s Q E st h => let ⟨⟨_, he⟩, _⟩ := st; wpAny_pyIter_enum he h
/-- enumerate(x), a list or a tuple -/
def iEnumA (K : PySem.W.Frag) (ta : TA) : TI := fun σ H R => ta σ H fun vs H1 => ∃ a xs, vs = [.ref a] ∧ ((SqL K H1 a xs ∧ R (Ite K a) H1) ∨ (SqT K H1 a xs ∧ R (Itet K a) H1))
theorem pi_enumA {X : Cx} {e : Expr} {ta : TA} {p pos tpos : Pos} {elts : List Expr} {kk : Nat} (hg : Gl X "enumerate") (hm : X.mg "enumerate" = none) (ha : PA X [e] ta) (hs : starEach [e] X.env = [(false, eval e X.env)] := by rfl) :
    PI X (.Tuple elts kk tpos) (.Call (.Name "enumerate" p) [e] [] pos) (iEnumA X.K ta) := by
  refine ⟨fun pins s σ H R I h => ?_⟩
  refine Call_ (ld_blt I hg hm boot_enumerate (PyProof.Rows.callWith_type1 (thn (ha.run pos pins s σ H _ I h) fun us s1 ⟨vs, H1, I1, r1, q1⟩ => ?_) hs rfl))
  obtain ⟨a, xs, ex, q⟩ := q1
  subst ex
  have fr : ∀ b, b ∈ [s1.heap.objs.size + 1, s1.heap.objs.size] → FpOk X pins H1 b := fun b hb => by
    have hle : s1.heap.objs.size ≤ b := by
      rcases (by simpa using hb : b = s1.heap.objs.size + 1 ∨ b = s1.heap.objs.size) with z | z
      · rw [z]; exact Nat.le_add_right _ _
      · rw [z]; exact Nat.le_refl _
    exact I1.fpOk hle (I1.hok.fresh hle)
  cases r1 with
  | cons r rr =>
    cases rr
    cases r
    rcases q with ⟨hq, q⟩ | ⟨hq, q⟩
    · obtain ⟨its, rv, p', hz⟩ := I1.list hq
      refine call_enumerate_list p'.isList fun h' he hit hsz hk => wpAny_pyIter_enum he ?_
      have I2 : Inv X pins σ H1 { s1 with heap := h' } := I1.kept (t' := s1.toks) hk
      exact ⟨s1.heap.objs.size + 1, [s1.heap.objs.size + 1, s1.heap.objs.size], _, _, H1, rfl, I2, turn_enum a (s1.heap.objs.size + 1) s1.heap.objs.size, ⟨⟨.none, he⟩, hit, Nat.succ_ne_self _⟩, fr, q⟩
    · obtain ⟨its, rv, p', hz⟩ := I1.tuple hq
      have al : a < s1.heap.objs.size := by obtain ⟨o, g, _⟩ := id p'; exact Heap.lt_size g
      refine call_enumT p' fun h' he hit hk => wpAny_pyIter_enum he ?_
      have I2 : Inv X pins σ H1 { s1 with heap := h' } := I1.kept (t' := s1.toks) hk
      exact ⟨s1.heap.objs.size + 1, [s1.heap.objs.size + 1, s1.heap.objs.size], _, _, H1, rfl, I2, turn_enumT a (s1.heap.objs.size + 1) s1.heap.objs.size, ⟨⟨.none, he⟩, hit, Nat.succ_ne_self _, al, Nat.lt_succ_of_lt al⟩, fr, q⟩
theorem lc_enumL {K : PySem.W.Frag} {a : Addr} {xs : List V} {g : TG} {tt : TT} {te : TE} {vs : List Nat} {σ : L2.St} {H1 : Hp} {D : Addr} {Qd : Hp → Prop} (Pv : Nat → Hp → Prop) (h0 : Pv 0 (upd H1 D (.lst []))) (hl : ∀ i H, i ≤ xs.length → Pv i H → SqL K H a xs)
    (hs : ∀ i x H, xs[i]? = some x → Pv i H → ∀ T, H T = none → g (.ref T) (wipe σ vs) (upd H T (.tup [.int (i : Nat), x])) fun σ2 H2 => wipe σ2 vs = wipe σ vs ∧ tt σ2 H2 fun b H3 =>
      if b = true then te σ2 H3 fun y H4 => ∃ acc, H4 D = some (.lst acc) ∧ acc.length < sizeLine ∧ Pv (i + 1) (upd H4 D (.lst (acc ++ [y]))) else Pv (i + 1) H3) (hd : ∀ H, Pv xs.length H → Qd H) :
    ∃ W : Nat → Nat → Hp → Prop, (∃ m, W 0 m (upd H1 D (.lst []))) ∧ ∀ i m H, W i m H →
      ((Ite K a).stop i H ∧ Qd H) ∨ ((Ite K a).go i H ∧ ∃ Nx : Hp → Prop, (∀ H', Nx H' → ∃ m', m' < m ∧ W (i + 1) m' H') ∧ ∀ x H', (Ite K a).yld i H x H' → g x (wipe σ vs) H' fun σ2 H2 => wipe σ2 vs = wipe σ vs ∧ tt σ2 H2 fun b H3 =>
        if b = true then te σ2 H3 fun y H4 => ∃ acc, H4 D = some (.lst acc) ∧ acc.length < sizeLine ∧ Nx (upd H4 D (.lst (acc ++ [y]))) else Nx H3) := by
  refine ⟨fun i m H => m = xs.length - i ∧ i ≤ xs.length ∧ Pv i H, ⟨xs.length, by simp, Nat.zero_le _, h0⟩, ?_⟩
  rintro i m H ⟨rfl, hi, p⟩
  have q := hl i H hi p
  by_cases hlt : i < xs.length
  · refine .inr ⟨⟨xs, xs[i], q, by simp [hlt]⟩, Pv (i + 1), fun H' p' => ⟨xs.length - (i + 1), by omega, rfl, hlt, p'⟩, fun v H' y => ?_⟩
    obtain ⟨T, x, rfl, hT, rfl, y⟩ := y
    exact hs i x H (y xs q) p T hT
  · have e : i = xs.length := by omega
    subst e
    exact .inl ⟨⟨xs, q, Nat.le_refl _⟩, hd H p⟩
theorem lc_enumT {K : PySem.W.Frag} {a : Addr} {xs : List V} {g : TG} {tt : TT} {te : TE} {vs : List Nat} {σ : L2.St} {H1 : Hp} {D : Addr} {Qd : Hp → Prop} (Pv : Nat → Hp → Prop) (h0 : Pv 0 (upd H1 D (.lst []))) (hl : ∀ i H, i ≤ xs.length → Pv i H → SqT K H a xs)
    (hs : ∀ i x H, xs[i]? = some x → Pv i H → ∀ T, H T = none → g (.ref T) (wipe σ vs) (upd H T (.tup [.int (i : Nat), x])) fun σ2 H2 => wipe σ2 vs = wipe σ vs ∧ tt σ2 H2 fun b H3 =>
      if b = true then te σ2 H3 fun y H4 => ∃ acc, H4 D = some (.lst acc) ∧ acc.length < sizeLine ∧ Pv (i + 1) (upd H4 D (.lst (acc ++ [y]))) else Pv (i + 1) H3) (hd : ∀ H, Pv xs.length H → Qd H) :
    ∃ W : Nat → Nat → Hp → Prop, (∃ m, W 0 m (upd H1 D (.lst []))) ∧ ∀ i m H, W i m H →
      ((Itet K a).stop i H ∧ Qd H) ∨ ((Itet K a).go i H ∧ ∃ Nx : Hp → Prop, (∀ H', Nx H' → ∃ m', m' < m ∧ W (i + 1) m' H') ∧ ∀ x H', (Itet K a).yld i H x H' → g x (wipe σ vs) H' fun σ2 H2 => wipe σ2 vs = wipe σ vs ∧ tt σ2 H2 fun b H3 =>
        if b = true then te σ2 H3 fun y H4 => ∃ acc, H4 D = some (.lst acc) ∧ acc.length < sizeLine ∧ Nx (upd H4 D (.lst (acc ++ [y]))) else Nx H3) := by
  refine ⟨fun i m H => m = xs.length - i ∧ i ≤ xs.length ∧ Pv i H, ⟨xs.length, by simp, Nat.zero_le _, h0⟩, ?_⟩
  rintro i m H ⟨rfl, hi, p⟩
  have q := hl i H hi p
  by_cases hlt : i < xs.length
  · refine .inr ⟨⟨xs, xs[i], q, by simp [hlt]⟩, Pv (i + 1), fun H' p' => ⟨xs.length - (i + 1), by omega, rfl, hlt, p'⟩, fun v H' y => ?_⟩
    obtain ⟨T, x, rfl, hT, rfl, y⟩ := y
    exact hs i x H (y xs q) p T hT
  · have e : i = xs.length := by omega
    subst e
    exact .inl ⟨⟨xs, q, rfl⟩, hd H p⟩
end KB
namespace KB
open PySem PySem.Spec PyProof.Rows L2
section
variable {X : Cx} {tg l : Expr} {tl : TE}
/-- for x in e, e a list or a tuple -/
def iSeqA (K : PySem.W.Frag) (tl : TE) : TI := fun σ H R => tl σ H fun x H1 => ∃ a xs, x = .ref a ∧ ((SqL K H1 a xs ∧ R (Itl K a) H1) ∨ (SqT K H1 a xs ∧ R (Itt K a) H1))
theorem pi_seqA (hl : PE X l tl) : PI X tg l (iSeqA X.K tl) := by
  refine ⟨fun pins s σ H R I h => thn (hl.run pins s σ H _ I h) fun v s1 ⟨x, H1, I1, r1, a, xs, ex, q⟩ => ?_⟩
  subst ex
  cases r1
  have fr : ∀ b, b ∈ [s1.heap.objs.size] → FpOk X pins H1 b := fun b hb => by
    rw [List.mem_singleton.mp hb]
    exact I1.fpOk (Nat.le_refl _) (I1.hok.fresh (Nat.le_refl _))
  have kp : ∀ (o : Obj), Inv X pins σ H1 { s1 with heap := s1.heap.push o } := fun o => I1.kept (t' := s1.toks) fun b o' e => Heap.get?_push_of_some _ e
  rcases q with ⟨hq, q⟩ | ⟨hq, q⟩
  · obtain ⟨its, rv, p, hz⟩ := I1.list hq
    exact wpAny_pyIter_list p.isList ⟨_, [s1.heap.objs.size], _, _, H1, rfl, kp _, turn_list a _, ⟨_, Heap.get?_push_size _ rfl, rfl, rfl⟩, fr, q⟩
  · obtain ⟨its, rv, p, hz⟩ := I1.tuple hq
    exact wpAny_pyIter_tuple (show s1.heap.IsTuple a its.toArray from p) ⟨_, [s1.heap.objs.size], _, _, H1, rfl, kp _, turn_tuple a _, ⟨_, Heap.get?_push_size _ rfl, rfl, rfl⟩, fr, q⟩
end
/-! ### kinds of things -/
def isIntD : PyData → Bool
  | .int _ => true
  | _ => false
def isNumD : PyData → Bool
  | .int z => decide (0 ≤ z)
  | _ => false
def isSeqD : PyData → Bool
  | .list _ => true
  | .tuple _ => true
  | _ => false
def spKind (K : PySem.W.Frag) (p : PyData → Bool) : Sp := fun vs H Q _ => ∃ v d, vs = [v] ∧ Dp K H v d ∧ Q (.bl (p d)) H
def spSeq (K : PySem.W.Frag) : Sp := fun vs H Q _ => ∃ v d, vs = [v] ∧ Dp K H v d ∧ ∀ H', Same H H' → Q (.bl (isSeqD d)) H'
end KB
namespace KB
open PySem PySem.Spec PyProof.Rows L2
/-- a sequence of numbers -/
def rowD : PyData → Bool
  | .list ds => ds.all isNumD
  | .tuple ds => ds.all isNumD
  | _ => false
def spRow (K : PySem.W.Frag) : Sp := fun vs H Q _ => ∃ v d n, vs = [v] ∧ Dp K H v d ∧ okD n d = true ∧ ∀ H', Same H H' → Q (.bl (rowD d)) H'
end KB
namespace KB
open PySem PySem.Spec PyProof.Rows L2
/-- the sum of 2 ** (40 - n) -/
def kr : List Nat → Nat
  | [] => 0
  | n :: r => 2 ^ (40 - n) + kr r
theorem kr_app : ∀ a b : List Nat, kr (a ++ b) = kr a + kr b
  | [], b => by simp [kr]
  | n :: a, b => by
    show 2 ^ (40 - n) + kr (a ++ b) = 2 ^ (40 - n) + kr a + kr b
    rw [kr_app a b, Nat.add_assoc]
theorem kr_take {ls : List Nat} {i l : Nat} (h : ls[i]? = some l) : kr (ls.take (i + 1)) = kr (ls.take i) + 2 ^ (40 - l) := by
  rw [List.take_succ, h, kr_app]
  rfl
theorem kr_more {ls : List Nat} {i l : Nat} (h : ls[i]? = some l) : kr (ls.take i) < kr ls := by
  have e : ls = ls.take (i + 1) ++ ls.drop (i + 1) := (List.take_append_drop _ _).symm
  have h1 := kr_take h
  have h2 : kr ls = kr (ls.take (i + 1)) + kr (ls.drop (i + 1)) := by rw [← kr_app, ← e]
  have : 0 < 2 ^ (40 - l) := Nat.pow_pos (by decide)
  omega
def nI (n : Nat) : V := .int (n : Int)
/-- whether there is room: free of the words of length depth are left -/
structure Rm (ls : List Nat) (i free depth : Nat) : Prop where
  eq : free * 2 ^ (40 - depth) + kr (ls.take i) = 2 ^ 40
  d40 : depth ≤ 40
  at_ : (i = 0 ∧ depth = 0) ∨ ∃ k, i = k + 1 ∧ ls[k]? = some depth
theorem Rm.ini (ls : List Nat) : Rm ls 0 1 0 := ⟨by simp [kr], by omega, .inl ⟨rfl, rfl⟩⟩
theorem Rm.le {ls : List Nat} {i free depth l : Nat} (R : Rm ls i free depth) (hs : ls.Pairwise (· ≤ ·)) (h : ls[i]? = some l) : depth ≤ l := by
  rcases R.at_ with ⟨_, e⟩ | ⟨k, rfl, hk⟩
  · omega
  · obtain ⟨h1, e1⟩ := List.getElem?_eq_some_iff.mp hk
    obtain ⟨h2, e2⟩ := List.getElem?_eq_some_iff.mp h
    have := List.pairwise_iff_getElem.mp hs k (k + 1) h1 h2 (Nat.lt_succ_self _)
    rw [e1, e2] at this
    exact this
theorem Rm.small {ls : List Nat} {i free depth : Nat} (R : Rm ls i free depth) : free ≤ 2 ^ 40 := by
  have : 1 ≤ 2 ^ (40 - depth) := Nat.pow_pos (by decide)
  have h := R.eq
  have := Nat.mul_le_mul_left free this
  omega
theorem Rm.nxt {ls : List Nat} {i free depth l : Nat} (R : Rm ls i free depth) (hs : ls.Pairwise (· ≤ ·)) (h : ls[i]? = some l) (h40 : l ≤ 40) (hf : free ≠ 0) : 1 ≤ free * 2 ^ (l - depth) ∧ Rm ls (i + 1) (free * 2 ^ (l - depth) - 1) l := by
  have hd := R.le hs h
  have p : 1 ≤ 2 ^ (l - depth) := Nat.pow_pos (by decide)
  have f1 : 1 ≤ free * 2 ^ (l - depth) := Nat.mul_pos (by omega) p
  refine ⟨f1, ?_, h40, .inr ⟨i, rfl, h⟩⟩
  have e : free * 2 ^ (40 - depth) = free * 2 ^ (l - depth) * 2 ^ (40 - l) := by
    rw [Nat.mul_assoc, ← Nat.pow_add]
    congr 2
    omega
  have q := R.eq
  rw [e] at q
  rw [kr_take h, Nat.sub_mul, Nat.one_mul]
  have : 2 ^ (40 - l) ≤ free * 2 ^ (l - depth) * 2 ^ (40 - l) := by
    have := Nat.mul_le_mul_right (2 ^ (40 - l)) f1
    omega
  omega
def spRoom (K : PySem.W.Frag) : Sp := fun vs H Q _ => ∃ (a : Addr) (ls : List Nat), vs = [.ref a] ∧ SqL K H a (ls.map nI) ∧ ls.Pairwise (· ≤ ·) ∧ (∀ n ∈ ls, n ≤ 40) ∧ Q (.bl (decide (kr ls ≤ 2 ^ 40))) H
end KB

/-! the bits of a number in a width -/
namespace KB
open PySem PySem.Spec PyProof.Rows L2
/-- l bits of v, the highest first -/
def bitsL : Nat → Nat → List Nat
  | 0, _ => []
  | l + 1, v => bitsL l (v / 2) ++ [48 + v % 2]
theorem bitsL_len : ∀ l v, (bitsL l v).length = l
  | 0, _ => rfl
  | l + 1, v => by
    show (bitsL l (v / 2) ++ [48 + v % 2]).length = l + 1
    rw [List.length_append, bitsL_len l]
    rfl
theorem bitsL_get : ∀ (l v k : Nat), k < l → (bitsL l v)[k]? = some (48 + v / 2 ^ (l - 1 - k) % 2)
  | 0, _, _, h => absurd h (Nat.not_lt_zero _)
  | l + 1, v, k, h => by
    show (bitsL l (v / 2) ++ [48 + v % 2])[k]? = _
    have hl := bitsL_len l (v / 2)
    by_cases e : k < l
    · rw [List.getElem?_append_left (by omega), bitsL_get l (v / 2) k e, Nat.div_div_eq_div_mul, ← Nat.pow_succ']
      rw [show (l - 1 - k).succ = l + 1 - 1 - k by omega]
    · have : k = l := by omega
      subst this
      rw [List.getElem?_append_right (by omega), hl, Nat.sub_self]
      simp
theorem dg_digit (n : Nat) (h : n < 2) : (n.digitChar).toNat = 48 + n := by
  rcases (by omega : n = 0 ∨ n = 1) with rfl | rfl <;> rfl
theorem dgB_step {n : Nat} (h : 2 ≤ n) : dgB n = dgB (n / 2) ++ [48 + n % 2] := by
  unfold dgB
  rw [Nat.toDigits_of_base_le (by decide) h, List.map_append]
  congr 1
  show [(n % 2).digitChar.toNat] = _
  rw [dg_digit _ (Nat.mod_lt _ (by decide))]
theorem dgB_bits : ∀ (l v : Nat), v < 2 ^ l → dgB (2 ^ l + v) = 49 :: bitsL l v
  | 0, v, h => by
    have : v = 0 := by simpa using h
    subst this
    decide
  | l + 1, v, h => by
    have h2 : 2 ^ (l + 1) = 2 * 2 ^ l := Nat.pow_succ'
    have p : 1 ≤ 2 ^ l := Nat.pow_pos (by decide)
    rw [dgB_step (by omega), show (2 ^ (l + 1) + v) / 2 = 2 ^ l + v / 2 by omega, show (2 ^ (l + 1) + v) % 2 = v % 2 by omega, dgB_bits l (v / 2) (by omega)]
    rfl
/-- the word of v in l bits -/
def wordS (l v : Nat) : Str := ⟨(bitsL l v).toArray⟩
theorem wordS_len (l v : Nat) : (wordS l v).length = l := by
  show (bitsL l v).toArray.size = l
  rw [List.size_toArray, bitsL_len]
def spWordOf : Sp := fun vs H Q _ => ∃ v l : Nat, vs = [.int v, .int l] ∧ v < 2 ^ l ∧ l ≤ 1000 ∧ Q (.str (wordS l v)) H
end KB
namespace KB
open PySem PySem.Spec PyProof.Rows L2
def chS (c : Nat) : Str := ⟨#[c]⟩
theorem joinL_signs : ∀ cs : List Nat, TL.joinL [] (cs.map fun c => [c]) = cs
  | [] => rfl
  | [c] => rfl
  | c :: d :: r => by
    have := joinL_signs (d :: r)
    simp only [List.map_cons] at this ⊢
    simp only [TL.joinL, List.append_nil, List.nil_append, List.singleton_append] at this ⊢
    rw [this]
theorem join_signs (cs : List Nat) : Txt.join ("" : Str) (cs.map chS) = ⟨cs.toArray⟩ := by
  have h := SX.join_S [] (cs.map fun c => [c])
  rw [joinL_signs, List.map_map] at h
  exact h
theorem bit_sign (l v k : Nat) (h : k < l) : atI (("01" : Str)).cps.toList ((v : Int) / 2 ^ ((l : Int) - 1 - (k : Int)).toNat % 2 ^ 1) = some (48 + v / 2 ^ (l - 1 - k) % 2) := by
  have e : ((v : Int) / 2 ^ ((l : Int) - 1 - (k : Int)).toNat % 2 ^ 1) = ((v / 2 ^ (l - 1 - k) % 2 : Nat) : Int) := by
    rw [show ((l : Int) - 1 - (k : Int)).toNat = l - 1 - k by omega, Int.natCast_emod, Int.natCast_ediv, Int.natCast_pow]
    rfl
  rw [e]
  refine atI_nat ?_
  rcases (by omega : v / 2 ^ (l - 1 - k) % 2 = 0 ∨ v / 2 ^ (l - 1 - k) % 2 = 1) with h | h <;> rw [h] <;> rfl
def spLawWord : Sp := fun vs H Q _ => ∃ v l : Nat, vs = [.int v, .int l] ∧ l ≤ 1000 ∧ ∀ H', Same H H' → Q (.str (wordS l v)) H'
end KB

/-! sorted pairs: there is one order alone -/
namespace KB
open PySem PySem.Spec PyProof.Rows L2
theorem lex_anti {p q : Int × Int} (h1 : SrtO.lexB p q = false) (h2 : SrtO.lexB q p = false) : p = q := by
  have a := SrtO.lexB_no.mp h1
  have b := SrtO.lexB_no.mp h2
  obtain ⟨p1, p2⟩ := p
  obtain ⟨q1, q2⟩ := q
  simp only at a b
  have e1 : p1 = q1 := by omega
  have e2 : p2 = q2 := by omega
  rw [e1, e2]
theorem pairs_one : ∀ (a b : List (Int × Int)), a.Perm b → a.Pairwise (fun p q => SrtO.lexB q p = false) → b.Pairwise (fun p q => SrtO.lexB q p = false) → a = b
  | [], b, h, _, _ => h.nil_eq
  | x :: a, [], h, _, _ => absurd h.length_eq (by simp)
  | x :: a, y :: b, h, ha, hb => by
    have e : x = y := by
      have hx : x ∈ y :: b := h.mem_iff.mp (List.mem_cons_self ..)
      have hy : y ∈ x :: a := h.mem_iff.mpr (List.mem_cons_self ..)
      rcases List.mem_cons.mp hx with z | z
      · exact z
      · rcases List.mem_cons.mp hy with z' | z'
        · exact z'.symm
        · exact lex_anti ((List.pairwise_cons.mp hb).1 x z) ((List.pairwise_cons.mp ha).1 y z')
    subst e
    rw [pairs_one a b (List.Perm.cons_inv h) (List.pairwise_cons.mp ha).2 (List.pairwise_cons.mp hb).2]
end KB
namespace KB
open PySem PySem.Spec PyProof.Rows L2
def natD : PyData → Nat
  | .int z => z.toNat
  | _ => 0
/-- the numbers of a sequence of numbers -/
def lensD : PyData → List Nat
  | .list ds => ds.map natD
  | .tuple ds => ds.map natD
  | _ => []
def areD (d : PyData) : Bool := rowD d && decide (kr (lensD d) ≤ 2 ^ 40)
theorem kr_sum : ∀ ls : List Nat, (∀ n ∈ ls, n ≤ 40) → (ls.map fun n : Nat => (1 : Int) * 2 ^ ((40 : Int) - (n : Int)).toNat).sum = (kr ls : Int)
  | [], _ => rfl
  | n :: r, h => by
    have hn := h n (List.mem_cons_self ..)
    rw [List.map_cons, List.sum_cons, kr_sum r (fun m hm => h m (List.mem_cons_of_mem _ hm))]
    show _ = ((2 ^ (40 - n) + kr r : Nat) : Int)
    rw [Int.natCast_add, Int.natCast_pow, Int.one_mul, show ((40 : Int) - (n : Int)).toNat = 40 - n by omega]
    rfl
def spAre (K : PySem.W.Frag) : Sp := fun vs H Q _ => ∃ v d n, vs = [v] ∧ Dp K H v d ∧ okD n d = true ∧ (∀ ds, (d = .list ds ∨ d = .tuple ds) → ∀ z, .int z ∈ ds → z ≤ 40) ∧ ∀ H', Same H H' → Q (.bl (areD d)) H'
end KB

/-! max(xs, default=d), min(xs, default=d) of ints; sums of halves -/
namespace KB
open PySem PySem.Spec PyProof.Rows L2
def rBestD (K : PySem.W.Frag) (le : Int → Int → Prop) : List V → List V → Hp → VK → Prop := fun vs zs H Q => ∃ (a : Addr) (ns : List Int) (d : V), vs = [V.ref a] ∧ zs = [d] ∧ (SqL K H a (ns.map V.int) ∨ SqT K H a (ns.map V.int)) ∧ (ns = [] → Q d H) ∧ ∀ m, m ∈ ns → (∀ y ∈ ns, le y m) → Q (.int m) H
theorem best_gt {ns : List Int} {xs : Array (Int × Tok)} (hn : ns = xs.toList.map (·.1)) (hp : 0 < xs.size) : numAt xs (argBest (fun i j => decide (numAt xs i > numAt xs j)) (xs.size - 1)) ∈ ns ∧ ∀ y ∈ ns, y ≤ numAt xs (argBest (fun i j => decide (numAt xs i > numAt xs j)) (xs.size - 1)) := by
  obtain ⟨h1, h2⟩ := argBest_gt (numAt xs) (xs.size - 1)
  subst hn
  refine ⟨?_, fun y hy => ?_⟩
  · rw [numAt_eq]
    exact PySem.getD_mem (by rw [List.length_map, Array.length_toList]; omega)
  · obtain ⟨j, hj, rfl⟩ := mem_getD hy
    rw [List.length_map, Array.length_toList] at hj
    rw [← numAt_eq]
    exact h2 j (by omega)
theorem best_lt {ns : List Int} {xs : Array (Int × Tok)} (hn : ns = xs.toList.map (·.1)) (hp : 0 < xs.size) : numAt xs (argBest (fun i j => decide (numAt xs i < numAt xs j)) (xs.size - 1)) ∈ ns ∧ ∀ y ∈ ns, numAt xs (argBest (fun i j => decide (numAt xs i < numAt xs j)) (xs.size - 1)) ≤ y := by
  obtain ⟨h1, h2⟩ := argBest_lt (numAt xs) (xs.size - 1)
  subst hn
  refine ⟨?_, fun y hy => ?_⟩
  · rw [numAt_eq]
    exact PySem.getD_mem (by rw [List.length_map, Array.length_toList]; omega)
  · obtain ⟨j, hj, rfl⟩ := mem_getD hy
    rw [List.length_map, Array.length_toList] at hj
    rw [← numAt_eq]
    exact h2 j (by omega)
theorem ints_arr {its : List Value} {ns : List Int} (hi : IntsAre its ns) : ∃ xs : Array (Int × Tok), its.toArray = intItems xs ∧ ns = xs.toList.map (·.1) := by
  obtain ⟨xs, e⟩ := hi.allInts.items
  refine ⟨xs, e, ?_⟩
  have hn : numsOf (intItems xs).toList = ns := by rw [← e]; exact hi.numsOf
  rw [nums_intItems] at hn
  exact hn.symm
section
variable {X : Cx}
theorem cr_maxDef (hc : X.calm = true) : CallRK X (.builtin "max") [Str.ofString "default"] (rBestD X.K (· ≤ ·)) := by
  intro pins s σ H vs zs us ws Q I r rz h
  obtain ⟨a, ns, d, rfl, rfl, hs, q0, q⟩ := h
  obtain rfl := Vals.ref1 r
  obtain ⟨w1, rfl, rd⟩ := vals1 rz
  have hh := I.ok.hd hc
  show wpAny _ _ (call (.builtin "max") [.ref a] [(Str.ofString "default", w1)]) _ _ _
  rcases hs with hs | hs
  · obtain ⟨its, rv, hl, _⟩ := I.list hs
    obtain ⟨xs, e, hn⟩ := ints_arr rv.ints
    have hl' := hl.isList
    rw [e] at hl'
    have sz : (intItems xs).size = xs.size := by simp [intItems]
    refine call_max_walkD (PySem.W.iter_listW (A := X.A.in1) hh hl' fun s₂ e2 W st hfp hw hk => ?_)
    refine ⟨_, _, _, _, _, _, _, s.heap, (fun i j => decide (numAt xs i > numAt xs j)), rfl, W, st, hfp, hw, hk, fun hz s' m => ?_, fun hp => ⟨fun i j vi vj s1 Q1 E1 _ hi hj hq => CmpOf.ints_gt (P := fun i v => (intItems xs)[i]? = some v) (numAt xs) (fun i v h => intItems_at h) i j vi vj s1 Q1 E1 hi hj hq, fun v s' hP m => ?_⟩⟩
    · obtain ⟨h', tk, rfl, hk'⟩ := PySem.W.moved_old e2 rfl m
      refine ⟨d, H, I.kept hk', rd, q0 ?_⟩
      rw [hn]
      have : xs.size = 0 := by omega
      simp [Array.eq_empty_of_size_eq_zero this]
    · obtain ⟨h', tk, rfl, hk'⟩ := PySem.W.moved_old e2 rfl m
      obtain ⟨t, rfl⟩ := intItems_at hP
      rw [sz] at hp ⊢
      obtain ⟨b1, b2⟩ := best_gt hn hp
      exact ⟨.int _, H, I.kept hk', ⟨_, rfl⟩, q _ b1 b2⟩
  · obtain ⟨its, rv, hl, _⟩ := I.tuple hs
    obtain ⟨xs, e, hn⟩ := ints_arr rv.ints
    have hl' : s.heap.IsTuple a its.toArray := hl
    rw [e] at hl'
    have sz : (intItems xs).size = xs.size := by simp [intItems]
    refine call_max_walkD (PySem.W.iter_tupleW (A := X.A.in1) hh hl' fun s₂ e2 W st hfp hw hk => ?_)
    refine ⟨_, _, _, _, _, _, _, s.heap, (fun i j => decide (numAt xs i > numAt xs j)), rfl, W, st, hfp, hw, hk, fun hz s' m => ?_, fun hp => ⟨fun i j vi vj s1 Q1 E1 _ hi hj hq => CmpOf.ints_gt (P := fun i v => (intItems xs)[i]? = some v) (numAt xs) (fun i v h => intItems_at h) i j vi vj s1 Q1 E1 hi hj hq, fun v s' hP m => ?_⟩⟩
    · obtain ⟨h', tk, rfl, hk'⟩ := PySem.W.moved_old e2 rfl m
      refine ⟨d, H, I.kept hk', rd, q0 ?_⟩
      rw [hn]
      have : xs.size = 0 := by omega
      simp [Array.eq_empty_of_size_eq_zero this]
    · obtain ⟨h', tk, rfl, hk'⟩ := PySem.W.moved_old e2 rfl m
      obtain ⟨t, rfl⟩ := intItems_at hP
      rw [sz] at hp ⊢
      obtain ⟨b1, b2⟩ := best_gt hn hp
      exact ⟨.int _, H, I.kept hk', ⟨_, rfl⟩, q _ b1 b2⟩
theorem cr_minDef (hc : X.calm = true) : CallRK X (.builtin "min") [Str.ofString "default"] (rBestD X.K (· ≥ ·)) := by
  intro pins s σ H vs zs us ws Q I r rz h
  obtain ⟨a, ns, d, rfl, rfl, hs, q0, q⟩ := h
  obtain rfl := Vals.ref1 r
  obtain ⟨w1, rfl, rd⟩ := vals1 rz
  have hh := I.ok.hd hc
  show wpAny _ _ (call (.builtin "min") [.ref a] [(Str.ofString "default", w1)]) _ _ _
  rcases hs with hs | hs
  · obtain ⟨its, rv, hl, _⟩ := I.list hs
    obtain ⟨xs, e, hn⟩ := ints_arr rv.ints
    have hl' := hl.isList
    rw [e] at hl'
    have sz : (intItems xs).size = xs.size := by simp [intItems]
    refine call_min_walkD (PySem.W.iter_listW (A := X.A.in1) hh hl' fun s₂ e2 W st hfp hw hk => ?_)
    refine ⟨_, _, _, _, _, _, _, s.heap, (fun i j => decide (numAt xs i < numAt xs j)), rfl, W, st, hfp, hw, hk, fun hz s' m => ?_, fun hp => ⟨fun i j vi vj s1 Q1 E1 _ hi hj hq => CmpOf.ints_lt (P := fun i v => (intItems xs)[i]? = some v) (numAt xs) (fun i v h => intItems_at h) i j vi vj s1 Q1 E1 hi hj hq, fun v s' hP m => ?_⟩⟩
    · obtain ⟨h', tk, rfl, hk'⟩ := PySem.W.moved_old e2 rfl m
      refine ⟨d, H, I.kept hk', rd, q0 ?_⟩
      rw [hn]
      have : xs.size = 0 := by omega
      simp [Array.eq_empty_of_size_eq_zero this]
    · obtain ⟨h', tk, rfl, hk'⟩ := PySem.W.moved_old e2 rfl m
      obtain ⟨t, rfl⟩ := intItems_at hP
      rw [sz] at hp ⊢
      obtain ⟨b1, b2⟩ := best_lt hn hp
      exact ⟨.int _, H, I.kept hk', ⟨_, rfl⟩, q _ b1 b2⟩
  · obtain ⟨its, rv, hl, _⟩ := I.tuple hs
    obtain ⟨xs, e, hn⟩ := ints_arr rv.ints
    have hl' : s.heap.IsTuple a its.toArray := hl
    rw [e] at hl'
    have sz : (intItems xs).size = xs.size := by simp [intItems]
    refine call_min_walkD (PySem.W.iter_tupleW (A := X.A.in1) hh hl' fun s₂ e2 W st hfp hw hk => ?_)
    refine ⟨_, _, _, _, _, _, _, s.heap, (fun i j => decide (numAt xs i < numAt xs j)), rfl, W, st, hfp, hw, hk, fun hz s' m => ?_, fun hp => ⟨fun i j vi vj s1 Q1 E1 _ hi hj hq => CmpOf.ints_lt (P := fun i v => (intItems xs)[i]? = some v) (numAt xs) (fun i v h => intItems_at h) i j vi vj s1 Q1 E1 hi hj hq, fun v s' hP m => ?_⟩⟩
    · obtain ⟨h', tk, rfl, hk'⟩ := PySem.W.moved_old e2 rfl m
      refine ⟨d, H, I.kept hk', rd, q0 ?_⟩
      rw [hn]
      have : xs.size = 0 := by omega
      simp [Array.eq_empty_of_size_eq_zero this]
    · obtain ⟨h', tk, rfl, hk'⟩ := PySem.W.moved_old e2 rfl m
      obtain ⟨t, rfl⟩ := intItems_at hP
      rw [sz] at hp ⊢
      obtain ⟨b1, b2⟩ := best_lt hn hp
      exact ⟨.int _, H, I.kept hk', ⟨_, rfl⟩, q _ b1 b2⟩
end
end KB
namespace KB
open PySem PySem.Spec PyProof.Rows L2
/-- the sum of 2 ** (L - n) -/
def hs (L : Nat) : List Nat → Nat
  | [] => 0
  | n :: r => 2 ^ (L - n) + hs L r
theorem hs_kr : ∀ ls, hs 40 ls = kr ls
  | [] => rfl
  | n :: r => by
    show 2 ^ (40 - n) + hs 40 r = 2 ^ (40 - n) + kr r
    rw [hs_kr r]
theorem hs_up {m L : Nat} (h : m ≤ L) : ∀ {ls : List Nat}, (∀ n ∈ ls, n ≤ m) → hs L ls = 2 ^ (L - m) * hs m ls
  | [], _ => rfl
  | n :: r, hn => by
    have h1 := hn n (List.mem_cons_self ..)
    show 2 ^ (L - n) + hs L r = 2 ^ (L - m) * (2 ^ (m - n) + hs m r)
    rw [hs_up h (fun k hk => hn k (List.mem_cons_of_mem _ hk)), Nat.mul_add, ← Nat.pow_add]
    congr 2
    omega
theorem hs_app (L : Nat) : ∀ a b : List Nat, hs L (a ++ b) = hs L a + hs L b
  | [], b => by simp [hs]
  | n :: a, b => by
    show 2 ^ (L - n) + hs L (a ++ b) = 2 ^ (L - n) + hs L a + hs L b
    rw [hs_app L a b, Nat.add_assoc]
theorem hs_sum (m : Nat) : ∀ ls : List Nat, (∀ n ∈ ls, n ≤ m) → (ls.map fun n : Nat => (1 : Int) * 2 ^ ((m : Int) - (n : Int)).toNat).sum = (hs m ls : Int)
  | [], _ => rfl
  | n :: r, h => by
    have hn := h n (List.mem_cons_self ..)
    rw [List.map_cons, List.sum_cons, hs_sum m r (fun k hk => h k (List.mem_cons_of_mem _ hk))]
    show _ = ((2 ^ (m - n) + hs m r : Nat) : Int)
    rw [Int.natCast_add, Int.natCast_pow, Int.one_mul, show ((m : Int) - (n : Int)).toNat = m - n by omega]
    rfl
theorem red_hs {m L : Nat} {ls : List Nat} (h : m ≤ L) (hn : ∀ n ∈ ls, n ≤ m) : rOd (hs m ls) (2 ^ m) = rOd (hs L ls) (2 ^ L) ∧ rUd (hs m ls) (2 ^ m) = rUd (hs L ls) (2 ^ L) := by
  have p : (0 : Int) < 2 ^ (L - m) := Int.pow_pos (by decide)
  have e1 : ((hs L ls : Nat) : Int) = 2 ^ (L - m) * (hs m ls : Int) := by
    rw [hs_up h hn, Int.natCast_mul, Int.natCast_pow]
    rfl
  have e2 : (2 : Int) ^ L = 2 ^ (L - m) * 2 ^ m := by
    rw [← Int.pow_add]
    congr 1
    omega
  rw [e1, e2]
  exact ⟨(rOd_scale _ _ p).symm, (rUd_scale _ _ p).symm⟩
/-- all ints of a sequence of numbers -/
theorem dp_nums {K : PySem.W.Frag} {H : Hp} : ∀ {xs : List V} {ds : List PyData}, DpAll K H xs ds → ds.all isNumD = true → xs = (ds.map natD).map nI
  | _, _, .nil, _ => rfl
  | x :: xs, d :: ds, .cons hd ha, h => by
    rw [List.all_cons, Bool.and_eq_true] at h
    obtain ⟨h1, h2⟩ := h
    rw [List.map_cons, List.map_cons, dp_nums ha h2]
    cases d with
    | int z =>
      cases hd
      have : 0 ≤ z := of_decide_eq_true h1
      show V.int z :: _ = V.int ((z.toNat : Nat) : Int) :: _
      rw [Int.toNat_of_nonneg this]
    | _ => cases h1
end KB
namespace KB
open PySem PySem.Spec PyProof.Rows L2
/-- a walk over a list or a tuple that stands: S tells that it stands -/
structure LikeSeq (J : It) (S : Hp → Prop) (xs : List V) : Prop where
  mono : ∀ H H', Same H H' → S H → S H'
  go : ∀ i H, S H → i < xs.length → J.go i H
  yld : ∀ i H x H', S H → J.yld i H x H' → H' = H ∧ xs[i]? = some x
  stop : ∀ H, S H → J.stop xs.length H
theorem likeL (K : PySem.W.Frag) (a : Addr) (xs : List V) : LikeSeq (Itl K a) (fun H => SqL K H a xs) xs :=
  ⟨fun _ _ s q => s.seq q, fun i _ q h => ⟨xs, xs[i], q, by simp [h]⟩, fun _ _ _ _ q y => ⟨y.1, y.2 xs q⟩, fun _ q => ⟨xs, q, Nat.le_refl _⟩⟩
theorem likeT (K : PySem.W.Frag) (a : Addr) (xs : List V) : LikeSeq (Itt K a) (fun H => SqT K H a xs) xs :=
  ⟨fun _ _ s q => sameT s q, fun i _ q h => ⟨xs, xs[i], q, by simp [h]⟩, fun _ _ _ _ q y => ⟨y.1, y.2 xs q⟩, fun _ q => ⟨xs, q, Nat.le_refl _⟩⟩
theorem seq_two {K : PySem.W.Frag} {a : Addr} {xs : List V} {H : Hp} {R : It → Hp → Prop} (hs : SqL K H a xs ∨ SqT K H a xs) (h : ∀ J S, LikeSeq J S xs → S H → R J H) : (SqL K H a xs ∧ R (Itl K a) H) ∨ (SqT K H a xs ∧ R (Itt K a) H) := by
  rcases hs with q | q
  · exact .inl ⟨q, h _ _ (likeL K a xs) q⟩
  · exact .inr ⟨q, h _ _ (likeT K a xs) q⟩
theorem for_J {J : It} {S : Hp → Prop} {xs : List V} (L : LikeSeq J S xs) {g : TG} {tb : TS} {D : Ends} {σ : L2.St} {H : Hp} (Pv : Nat → L2.St → Hp → Prop) (h0 : Pv 0 σ H) (hl : ∀ i σ H, i ≤ xs.length → Pv i σ H → S H)
    (hs : ∀ i x σ H, xs[i]? = some x → Pv i σ H → g x σ H fun σ2 H2 => tb { D with nx := Pv (i + 1), ct := Pv (i + 1), bk := D.nx } σ2 H2) (hd : ∀ σ H, Pv xs.length σ H → D.nx σ H) :
    ∃ W : Nat → Nat → L2.St → Hp → Prop, (∃ m, W 0 m σ H) ∧ ∀ i m σ H, W i m σ H →
      (J.stop i H ∧ D.nx σ H) ∨ (J.go i H ∧ ∃ N : L2.St → Hp → Prop, (∀ σ' H', N σ' H' → ∃ m', m' < m ∧ W (i + 1) m' σ' H') ∧ ∀ x H', J.yld i H x H' → g x σ H' fun σ2 H2 => tb { D with nx := N, ct := N, bk := D.nx } σ2 H2) := by
  refine ⟨fun i m σ H => m = xs.length - i ∧ i ≤ xs.length ∧ Pv i σ H, ⟨xs.length, by simp, Nat.zero_le _, h0⟩, ?_⟩
  rintro i m σ H ⟨rfl, hi, p⟩
  have q := hl i σ H hi p
  by_cases hlt : i < xs.length
  · refine .inr ⟨L.go i H q hlt, Pv (i + 1), fun σ' H' p' => ⟨xs.length - (i + 1), by omega, rfl, hlt, p'⟩, fun x H' y => ?_⟩
    obtain ⟨e, yy⟩ := L.yld i H x H' q y; clear y
    subst e
    exact hs i x σ _ yy p
  · have e : i = xs.length := by omega
    subst e
    exact .inl ⟨L.stop H q, hd σ H p⟩
theorem lc_J {J : It} {S : Hp → Prop} {xs : List V} (L : LikeSeq J S xs) {g : TG} {tt : TT} {te : TE} {vs : List Nat} {σ : L2.St} {H1 : Hp} {D : Addr} {Qd : Hp → Prop} (Pv : Nat → Hp → Prop) (h0 : Pv 0 (upd H1 D (.lst []))) (hl : ∀ i H, i ≤ xs.length → Pv i H → S H)
    (hs : ∀ i x H, xs[i]? = some x → Pv i H → g x (wipe σ vs) H fun σ2 H2 => wipe σ2 vs = wipe σ vs ∧ tt σ2 H2 fun b H3 =>
      if b = true then te σ2 H3 fun y H4 => ∃ acc, H4 D = some (.lst acc) ∧ acc.length < sizeLine ∧ Pv (i + 1) (upd H4 D (.lst (acc ++ [y]))) else Pv (i + 1) H3) (hd : ∀ H, Pv xs.length H → Qd H) :
    ∃ W : Nat → Nat → Hp → Prop, (∃ m, W 0 m (upd H1 D (.lst []))) ∧ ∀ i m H, W i m H →
      (J.stop i H ∧ Qd H) ∨ (J.go i H ∧ ∃ Nx : Hp → Prop, (∀ H', Nx H' → ∃ m', m' < m ∧ W (i + 1) m' H') ∧ ∀ x H', J.yld i H x H' → g x (wipe σ vs) H' fun σ2 H2 => wipe σ2 vs = wipe σ vs ∧ tt σ2 H2 fun b H3 =>
        if b = true then te σ2 H3 fun y H4 => ∃ acc, H4 D = some (.lst acc) ∧ acc.length < sizeLine ∧ Nx (upd H4 D (.lst (acc ++ [y]))) else Nx H3) := by
  refine ⟨fun i m H => m = xs.length - i ∧ i ≤ xs.length ∧ Pv i H, ⟨xs.length, by simp, Nat.zero_le _, h0⟩, ?_⟩
  rintro i m H ⟨rfl, hi, p⟩
  have q := hl i H hi p
  by_cases hlt : i < xs.length
  · refine .inr ⟨L.go i H q hlt, Pv (i + 1), fun H' p' => ⟨xs.length - (i + 1), by omega, rfl, hlt, p'⟩, fun x H' y => ?_⟩
    obtain ⟨e, yy⟩ := L.yld i H x H' q y; clear y
    subst e
    exact hs i x _ yy p
  · have e : i = xs.length := by omega
    subst e
    exact .inl ⟨L.stop H q, hd H p⟩
theorem maxD_nat {K : PySem.W.Frag} {H : Hp} {a : Addr} {ls : List Nat} {L : Nat} {Q : VK} (hs : SqL K H a (ls.map nI) ∨ SqT K H a (ls.map nI)) (hL : ∀ n ∈ ls, n ≤ L) (h : ∀ m : Nat, m ≤ L → (∀ n ∈ ls, n ≤ m) → Q (.int m) H) : rBestD K (· ≤ ·) [.ref a] [.int 0] H Q := by
  have em : (ls.map fun n : Nat => (n : Int)).map V.int = ls.map nI := by rw [List.map_map]; rfl
  refine ⟨a, ls.map fun n : Nat => (n : Int), V.int 0, rfl, rfl, by rw [em]; exact hs, fun e0 => ?_, fun m hm hmax => ?_⟩
  · have : ls = [] := by simpa using e0
    subst this
    exact h 0 (Nat.zero_le _) (fun n hn => by cases hn)
  · obtain ⟨n, hn, rfl⟩ := List.mem_map.mp hm
    exact h n (hL n hn) fun k hk => by
      have := hmax _ (List.mem_map.mpr ⟨k, hk, rfl⟩)
      omega
end KB
namespace KB
open PySem PySem.Spec PyProof.Rows L2
section
variable {X : Cx} {tg l : Expr} {tl : TE}
/-- for x in e, e a list or a tuple: told once for both -/
def iSeqJ (K : PySem.W.Frag) (tl : TE) : TI := fun σ H R => tl σ H fun x H1 => ∃ a xs, x = .ref a ∧ (SqL K H1 a xs ∨ SqT K H1 a xs) ∧ ∀ J S, LikeSeq J S xs → S H1 → R J H1
theorem pi_seqJ (hl : PE X l tl) : PI X tg l (iSeqJ X.K tl) := by
  refine ⟨fun pins s σ H R I h => thn (hl.run pins s σ H _ I h) fun v s1 ⟨x, H1, I1, r1, a, xs, ex, hs, q⟩ => ?_⟩
  subst ex
  cases r1
  have fr : ∀ b, b ∈ [s1.heap.objs.size] → FpOk X pins H1 b := fun b hb => by
    rw [List.mem_singleton.mp hb]
    exact I1.fpOk (Nat.le_refl _) (I1.hok.fresh (Nat.le_refl _))
  have kp : ∀ (o : Obj), Inv X pins σ H1 { s1 with heap := s1.heap.push o } := fun o => I1.kept (t' := s1.toks) fun b o' e => Heap.get?_push_of_some _ e
  rcases hs with hq | hq
  · have q' := q _ _ (likeL X.K a xs) hq
    obtain ⟨its, rv, p, hz⟩ := I1.list hq
    exact wpAny_pyIter_list p.isList ⟨_, [s1.heap.objs.size], _, _, H1, rfl, kp _, turn_list a _, ⟨_, Heap.get?_push_size _ rfl, rfl, rfl⟩, fr, q'⟩
  · have q' := q _ _ (likeT X.K a xs) hq
    obtain ⟨its, rv, p, hz⟩ := I1.tuple hq
    exact wpAny_pyIter_tuple (show s1.heap.IsTuple a its.toArray from p) ⟨_, [s1.heap.objs.size], _, _, H1, rfl, kp _, turn_tuple a _, ⟨_, Heap.get?_push_size _ rfl, rfl, rfl⟩, fr, q'⟩
end
end KB
namespace KB
open PySem PySem.Spec PyProof.Rows L2
theorem row_at {K : PySem.W.Frag} {H : Hp} {v : V} {d : PyData} {n : Nat} (hv : Dp K H v d) (hok : okD n d = true) (hr : rowD d = true) : ∃ a, v = .ref a ∧ (SqL K H a ((lensD d).map nI) ∨ SqT K H a ((lensD d).map nI)) ∧ (lensD d).length ≤ 100000 := by
  cases n with
  | zero => cases d <;> first | (cases hok; done) | (cases hr; done)
  | succ n =>
  cases d with
  | list ds =>
    cases hv with
    | lst sx ax => exact ⟨_, rfl, .inl (by have e := dp_nums ax hr; rw [e] at sx; exact sx), by show (ds.map natD).length ≤ _; rw [List.length_map]; exact (okD_seq hok).1⟩
  | tuple ds =>
    cases hv with
    | tup sx ax => exact ⟨_, rfl, .inr (by have e := dp_nums ax hr; rw [e] at sx; exact sx), by show (ds.map natD).length ≤ _; rw [List.length_map]; exact (okD_seq hok).1⟩
  | _ => cases hr
theorem for_enumL {K : PySem.W.Frag} {a : Addr} {xs : List V} {g : TG} {tb : TS} {D : Ends} {σ : L2.St} {H : Hp} (Pv : Nat → L2.St → Hp → Prop) (h0 : Pv 0 σ H) (hl : ∀ i σ H, i ≤ xs.length → Pv i σ H → SqL K H a xs)
    (hs : ∀ i x σ H, xs[i]? = some x → Pv i σ H → ∀ T, H T = none → g (.ref T) σ (upd H T (.tup [.int (i : Nat), x])) fun σ2 H2 => tb { D with nx := Pv (i + 1), ct := Pv (i + 1), bk := D.nx } σ2 H2) (hd : ∀ σ H, Pv xs.length σ H → D.nx σ H) :
    ∃ W : Nat → Nat → L2.St → Hp → Prop, (∃ m, W 0 m σ H) ∧ ∀ i m σ H, W i m σ H →
      ((Ite K a).stop i H ∧ D.nx σ H) ∨ ((Ite K a).go i H ∧ ∃ N : L2.St → Hp → Prop, (∀ σ' H', N σ' H' → ∃ m', m' < m ∧ W (i + 1) m' σ' H') ∧ ∀ v H', (Ite K a).yld i H v H' → g v σ H' fun σ2 H2 => tb { D with nx := N, ct := N, bk := D.nx } σ2 H2) := by
  refine ⟨fun i m σ H => m = xs.length - i ∧ i ≤ xs.length ∧ Pv i σ H, ⟨xs.length, by simp, Nat.zero_le _, h0⟩, ?_⟩
  rintro i m σ H ⟨rfl, hi, p⟩
  have q := hl i σ H hi p
  by_cases hlt : i < xs.length
  · refine .inr ⟨⟨xs, xs[i], q, by simp [hlt]⟩, Pv (i + 1), fun σ' H' p' => ⟨xs.length - (i + 1), by omega, rfl, hlt, p'⟩, fun v H' y => ?_⟩
    obtain ⟨T, x, rfl, hT, rfl, y⟩ := y
    exact hs i x σ H (y xs q) p T hT
  · have e : i = xs.length := by omega
    subst e
    exact .inl ⟨⟨xs, q, Nat.le_refl _⟩, hd σ H p⟩
theorem bits_up {n m : Nat} (h : Builtin.Int.intBits (n : Int) ≤ m) : n < 2 ^ m := by
  unfold Builtin.Int.intBits at h
  split at h
  · rename_i h0
    have h0' : n = 0 := by simpa using h0
    subst h0'
    exact Nat.pow_pos (by decide)
  · have h2 := Nat.lt_log2_self (n := n)
    have h3 : 2 ^ ((n : Int).natAbs.log2 + 1) ≤ 2 ^ m := Nat.pow_le_pow_right (by decide) h
    have : (n : Int).natAbs = n := by omega
    rw [this] at h3
    omega
theorem bits_dn {n m : Nat} (h : n < 2 ^ m) : Builtin.Int.intBits (n : Int) ≤ m := by
  unfold Builtin.Int.intBits
  split
  · omega
  · have : (n : Int).natAbs = n := by omega
    rw [this]
    rename_i h0
    exact (Nat.log2_lt (fun z => h0 (by subst z; rfl))).mpr h
theorem kr_le {l : Nat} : ∀ {ys : List Nat}, (∀ y ∈ ys, l ≤ y) → kr ys ≤ ys.length * 2 ^ (40 - l)
  | [], _ => Nat.zero_le _
  | y :: r, h => by
    have h1 := h y (List.mem_cons_self ..)
    have h2 := kr_le (ys := r) fun z hz => h z (List.mem_cons_of_mem _ hz)
    have h3 : 2 ^ (40 - y) ≤ 2 ^ (40 - l) := Nat.pow_le_pow_right (by decide) (by omega)
    show 2 ^ (40 - y) + kr r ≤ (r.length + 1) * 2 ^ (40 - l)
    rw [Nat.add_mul]
    omega
theorem kr_drop {ls : List Nat} {i l : Nat} (hs : ls.Pairwise (· ≤ ·)) (h : ls[i]? = some l) : kr ls ≤ kr (ls.take i) + (ls.length - i) * 2 ^ (40 - l) := by
  have e : ls = ls.take i ++ ls.drop i := (List.take_append_drop _ _).symm
  have h2 : kr ls = kr (ls.take i) + kr (ls.drop i) := by rw [← kr_app, ← e]
  have h3 : kr (ls.drop i) ≤ (ls.drop i).length * 2 ^ (40 - l) := kr_le fun y hy => by
    obtain ⟨k, hk, rfl⟩ := List.getElem_of_mem hy
    rw [List.getElem_drop]
    obtain ⟨hi, ei⟩ := List.getElem?_eq_some_iff.mp h
    rw [List.length_drop] at hk
    rw [← ei]
    rcases Nat.eq_zero_or_pos k with z | z
    · subst z
      exact Nat.le_refl _
    · exact List.pairwise_iff_getElem.mp hs i (i + k) hi (by omega) (by omega)
  rw [List.length_drop] at h3
  omega
theorem kr_perm {a b : List Nat} (h : a.Perm b) : kr a = kr b := by
  induction h with
  | nil => rfl
  | cons x _ ih => show 2 ^ (40 - x) + _ = 2 ^ (40 - x) + _; rw [ih]
  | swap x y l => show 2 ^ (40 - y) + (2 ^ (40 - x) + _) = 2 ^ (40 - x) + (2 ^ (40 - y) + _); omega
  | trans _ _ h1 h2 => exact h1.trans h2
/-- room for T: room of the words of length depth are left -/
structure Rk (T : Nat) (ls : List Nat) (i room depth : Nat) : Prop where
  eq : room * 2 ^ (40 - depth) + kr (ls.take i) = T
  d40 : depth ≤ 40
  pos : 0 < room
  at_ : (i = 0 ∧ depth = 0) ∨ ∃ k, i = k + 1 ∧ ls[k]? = some depth
theorem Rk.ini (ls : List Nat) {r : Nat} (h : 0 < r) : Rk (r * 2 ^ 40) ls 0 r 0 := ⟨by simp [kr], by omega, h, .inl ⟨rfl, rfl⟩⟩
theorem Rk.le {T : Nat} {ls : List Nat} {i free depth l : Nat} (R : Rk T ls i free depth) (hs : ls.Pairwise (· ≤ ·)) (h : ls[i]? = some l) : depth ≤ l := by
  rcases R.at_ with ⟨_, e⟩ | ⟨k, rfl, hk⟩
  · omega
  · obtain ⟨h1, e1⟩ := List.getElem?_eq_some_iff.mp hk
    obtain ⟨h2, e2⟩ := List.getElem?_eq_some_iff.mp h
    have := List.pairwise_iff_getElem.mp hs k (k + 1) h1 h2 (Nat.lt_succ_self _)
    rw [e1, e2] at this
    exact this
theorem Rk.small {T : Nat} {ls : List Nat} {i free depth : Nat} (R : Rk T ls i free depth) : free ≤ T := by
  have : 1 ≤ 2 ^ (40 - depth) := Nat.pow_pos (by decide)
  have h := R.eq
  have := Nat.mul_le_mul_left free this
  omega
/-- all that are left do not fill the room -/
theorem Rk.enough {T : Nat} {ls : List Nat} {i room depth l : Nat} (R : Rk T ls i room depth) (hs : ls.Pairwise (· ≤ ·)) (h : ls[i]? = some l) (h40 : l ≤ 40) (hb : ls.length - i < 2 ^ (l - depth)) : kr ls < T := by
  have hd := R.le hs h
  have e := R.eq
  have k := kr_drop hs h
  have p : 0 < 2 ^ (40 - l) := Nat.pow_pos (by decide)
  have h1 : (ls.length - i) * 2 ^ (40 - l) < 2 ^ (l - depth) * 2 ^ (40 - l) := Nat.mul_lt_mul_of_pos_right hb p
  have h2 : 2 ^ (l - depth) * 2 ^ (40 - l) = 2 ^ (40 - depth) := by
    rw [← Nat.pow_add]
    congr 1
    omega
  have h3 : 1 * 2 ^ (40 - depth) ≤ room * 2 ^ (40 - depth) := Nat.mul_le_mul_right _ R.pos
  omega
theorem Rk.nxt {T : Nat} {ls : List Nat} {i free depth l : Nat} (R : Rk T ls i free depth) (hs : ls.Pairwise (· ≤ ·)) (h : ls[i]? = some l) (h40 : l ≤ 40) :
    1 ≤ free * 2 ^ (l - depth) ∧ (free * 2 ^ (l - depth) - 1 = 0 → T ≤ kr ls) ∧ (free * 2 ^ (l - depth) - 1 ≠ 0 → Rk T ls (i + 1) (free * 2 ^ (l - depth) - 1) l) := by
  have hd := R.le hs h
  have p : 1 ≤ 2 ^ (l - depth) := Nat.pow_pos (by decide)
  have f1 : 1 ≤ free * 2 ^ (l - depth) := Nat.mul_pos R.pos p
  have e : free * 2 ^ (40 - depth) = free * 2 ^ (l - depth) * 2 ^ (40 - l) := by
    rw [Nat.mul_assoc, ← Nat.pow_add]
    congr 2
    omega
  have q := R.eq
  rw [e] at q
  have hle : 1 * 2 ^ (40 - l) ≤ free * 2 ^ (l - depth) * 2 ^ (40 - l) := Nat.mul_le_mul_right _ f1
  have kt := kr_take h
  have kl : kr (ls.take (i + 1)) ≤ kr ls := by
    have e2 : ls = ls.take (i + 1) ++ ls.drop (i + 1) := (List.take_append_drop _ _).symm
    have : kr ls = kr (ls.take (i + 1)) + kr (ls.drop (i + 1)) := by rw [← kr_app, ← e2]
    omega
  refine ⟨f1, fun z => ?_, fun z => ⟨?_, h40, by omega, .inr ⟨i, rfl, h⟩⟩⟩
  · have : free * 2 ^ (l - depth) = 1 := by omega
    rw [this] at q
    omega
  · rw [kt, Nat.sub_mul]
    omega
theorem Rk.fin {T : Nat} {ls : List Nat} {room depth : Nat} (R : Rk T ls ls.length room depth) : kr ls < T := by
  have h := R.eq
  rw [List.take_length] at h
  have : 1 * 2 ^ (40 - depth) ≤ room * 2 ^ (40 - depth) := Nat.mul_le_mul_right _ R.pos
  have p : 0 < 2 ^ (40 - depth) := Nat.pow_pos (by decide)
  omega
end KB
namespace KB
open PySem PySem.Spec PyProof.Rows L2
theorem red_div {o u : Int} (hu : 0 < u) : rOd o u / rUd o u = o / u := by
  obtain ⟨g, g0, eo, eu⟩ := red_ex (o := o) hu
  generalize rOd o u = n at *
  generalize rUd o u = d at *
  rw [eo, eu, Int.mul_ediv_mul_of_pos _ _ g0]
theorem bits_log {q : Nat} : (if ((Builtin.Int.intBits (q : Int) : Nat) : Int) - 1 > 0 then ((Builtin.Int.intBits (q : Int) : Nat) : Int) - 1 else 0) = ((Nat.log2 q : Nat) : Int) := by
  by_cases h : q = 0
  · subst h
    rfl
  · have e : Builtin.Int.intBits (q : Int) = Nat.log2 q + 1 := by
      unfold Builtin.Int.intBits
      rw [if_neg (by simpa using h), show (q : Int).natAbs = q by omega]
    rw [e]
    split <;> omega
theorem kit2 {K : PySem.W.Frag} (t : String) (a b : String) (r1 r2 : Bool) (h1 : kitB t a = some r1) (h2 : kitB t b = some r2) : PySem.W.kitAny K (.type t) [.type a, .type b] = some (r1 || r2) :=
  kitAny_cons (kit_ty h1) (fun e => by subst e; exact kitAny_cons (kit_ty h2) (fun e => by subst e; rfl) (fun e => by subst e; rfl)) (fun e => by subst e; rfl)
end KB
namespace KB
open PySem PySem.Spec PyProof.Rows L2
theorem atN {ls : List Nat} {k l : Nat} (h : ls[k]? = some l) : atI (ls.map nI) (k : Int) = some (nI l) := atI_nat (by rw [List.getElem?_map, h]; rfl)
theorem flatN : ∀ ls : List Nat, (ls.map nI).all flatV = true
  | [] => rfl
  | n :: r => by
    rw [List.map_cons, List.all_cons, flatN r]
    rfl
theorem getN {ls : List Nat} {k : Nat} {v : V} (h : (ls.map nI)[k]? = some v) : ∃ n, ls[k]? = some n ∧ v = nI n := by
  rw [List.getElem?_map] at h
  cases e : ls[k]? with
  | none => rw [e] at h; cases h
  | some n => rw [e] at h; exact ⟨n, rfl, (Option.some.inj h).symm⟩
theorem idxN {m : Nat} : ∀ {ls : List Nat}, m ∈ ls → ∃ j : Nat, ls[j]? = some m ∧ ∀ (k : Nat) (z : Nat), k < j → ls[k]? = some z → z ≠ m
  | [], h => by cases h
  | n :: r, h => by
    by_cases e : n = m
    · exact ⟨0, by rw [e]; rfl, fun k z hk => absurd hk (Nat.not_lt_zero _)⟩
    · have hr : m ∈ r := by
        rcases List.mem_cons.mp h with z | z
        · exact absurd z.symm e
        · exact z
      obtain ⟨j, h1, h2⟩ := idxN hr
      refine ⟨j + 1, by rw [List.getElem?_cons_succ]; exact h1, fun k z hk hz => ?_⟩
      cases k with
      | zero => cases Option.some.inj hz; exact e
      | succ k => exact h2 k z (by omega) (by rw [List.getElem?_cons_succ] at hz; exact hz)
theorem indexN {K : PySem.W.Frag} {H : Hp} {a : Addr} {ls : List Nat} {m : Nat} {Q : VK} (hS : SqL K H a (ls.map nI)) (hm : m ∈ ls) (q : ∀ j, ls[j]? = some m → Q (.int (j : Nat)) H) : rIndex K (.ref a) [.int (m : Int)] H Q := by
  obtain ⟨j, h1, h2⟩ := idxN hm
  refine ⟨a, ls.map nI, .int (m : Int), j, nI m, rfl, rfl, hS, rfl, flatN ls, by rw [List.getElem?_map, h1]; rfl, ?_, fun k z hk hz => ?_, q j h1⟩
  · simp [eqV, nI]
  · obtain ⟨n, hn, rfl⟩ := getN hz
    have := h2 k n hk hn
    simp [eqV, nI]
    omega
theorem maxN {K : PySem.W.Frag} {H : Hp} {a : Addr} {ls : List Nat} {Q : VK} (hS : SqL K H a (ls.map nI)) (h0 : 0 < ls.length) (q : ∀ m, m ∈ ls → (∀ n ∈ ls, n ≤ m) → Q (.int (m : Int)) H) : rMax K [.ref a] H Q := by
  have em : (ls.map fun n : Nat => (n : Int)).map V.int = ls.map nI := by rw [List.map_map]; rfl
  refine ⟨a, ls.map fun n : Nat => (n : Int), rfl, by rw [em]; exact hS, by rw [List.length_map]; exact h0, fun m hm hmax => ?_⟩
  obtain ⟨n, hn, rfl⟩ := List.mem_map.mp hm
  exact q n hn fun k hk => by
    have := hmax _ (List.mem_map.mpr ⟨k, hk, rfl⟩)
    omega
/-- a list of numbers that stands by itself, beside the tape -/
structure Nl (B0 B H : Hp) (t p : Addr) (c : Nat) (bs : List Nat) : Prop where
  same : Same B0 B
  tp : Tp B H t c
  at_ : B p = some (.lst (bs.map nI))
  nb : B0 p = none
theorem Nl.set {B0 B H : Hp} {t p : Addr} {c : Nat} {bs : List Nat} (N : Nl B0 B H t p c bs) (zs : List Nat) : Nl B0 (upd B p (.lst (zs.map nI))) (upd H p (.lst (zs.map nI))) t p c zs :=
  ⟨same_out N.same N.nb, N.tp.set N.at_, upd_same, N.nb⟩
theorem Nl.hd {B0 B H : Hp} {t p : Addr} {c : Nat} {bs : List Nat} (N : Nl B0 B H t p c bs) : H p = some (.lst (bs.map nI)) := N.tp.at N.at_
theorem Nl.le {B0 B H : Hp} {t p : Addr} {c d : Nat} {bs : List Nat} (N : Nl B0 B H t p c bs) (h : c ≤ d) : Nl B0 B H t p d bs := ⟨N.same, N.tp.le h, N.at_, N.nb⟩
theorem Nl.drw {B0 B H H' : Hp} {t p : Addr} {c d : Nat} {bs : List Nat} (N : Nl B0 B H t p c bs) (T : Tp B H' t d) : Nl B0 B H' t p d bs := ⟨N.same, T, N.at_, N.nb⟩
theorem setN (ls : List Nat) (k n : Nat) : (ls.map nI).set k (nI n) = (ls.set k n).map nI := by rw [List.map_set]
end KB
namespace KB
open PySem PySem.Spec PyProof.Rows L2
theorem sqI {K : PySem.W.Frag} {H : Hp} {a : Addr} {ls : List Nat} (hS : SqL K H a (ls.map nI)) : SqL K H a ((ls.map fun n : Nat => (n : Int)).map V.int) := by
  rw [List.map_map]
  exact hS
theorem ix_get {ls : List Nat} {j m : Nat} (h : ls[j]? = some m) : (ls.map nI)[j]? = some (nI m) := by rw [List.getElem?_map, h]; rfl
theorem ix_eq (m : Nat) : eqV (nI m) (.int (m : Int)) = true := by simp [eqV, nI]
theorem ix_min {ls : List Nat} {j m : Nat} (h : ∀ (k : Nat) (z : Nat), k < j → ls[k]? = some z → z ≠ m) : ∀ (k : Nat) (z' : V), k < j → (ls.map nI)[k]? = some z' → eqV z' (.int (m : Int)) = false := fun k z hk hz => by
  obtain ⟨n, hn, rfl⟩ := getN hz
  have := h k n hk hn
  simp [eqV, nI]
  omega
end KB
namespace KB
open PySem PySem.Spec PyProof.Rows L2
theorem ixN_nat {n j : Nat} (h : j < n) : ixN n (j : Int) = some j := by
  unfold ixN
  rw [if_pos (by omega), if_pos (by omega)]
  rfl
theorem Nl.put {B0 B H : Hp} {t p : Addr} {c : Nat} {bs : List Nat} (N : Nl B0 B H t p c bs) (j n : Nat) : Nl B0 (upd B p (.lst ((bs.map nI).set j (nI n)))) (upd H p (.lst ((bs.map nI).set j (nI n)))) t p c (bs.set j n) := by
  rw [setN]
  exact N.set _
theorem Nl.app {B0 B H : Hp} {t p : Addr} {c : Nat} {bs : List Nat} (N : Nl B0 B H t p c bs) (n : Nat) : Nl B0 (upd B p (.lst (bs.map nI ++ [nI n]))) (upd H p (.lst (bs.map nI ++ [nI n]))) t p c (bs ++ [n]) := by
  rw [show bs.map nI ++ [nI n] = (bs ++ [n]).map nI by rw [List.map_append]; rfl]
  exact N.set _
theorem mem_set_le {bs : List Nat} {j n m : Nat} (h : ∀ k ∈ bs, k ≤ m) (hn : n ≤ m) : ∀ k ∈ bs.set j n, k ≤ m := fun k hk => by
  rcases List.mem_or_eq_of_mem_set hk with z | z
  · exact h k z
  · omega
theorem mem_app_le {bs : List Nat} {n m : Nat} (h : ∀ k ∈ bs, k ≤ m) (hn : n ≤ m) : ∀ k ∈ bs ++ [n], k ≤ m := fun k hk => by
  rcases List.mem_append.mp hk with z | z
  · exact h k z
  · rw [List.mem_singleton.mp z]
    exact hn
end KB
namespace KB
open PySem PySem.Spec PyProof.Rows L2
theorem seqIx_nat {n j : Nat} (h : j < n) : seqIndex? (j : Int) n = some j := by
  unfold seqIndex?
  simp
  omega
theorem eraN : ∀ (bs : List Nat) (j : Nat), (bs.map nI).eraseIdx j = (bs.eraseIdx j).map nI
  | [], _ => rfl
  | _ :: _, 0 => rfl
  | b :: r, j + 1 => by
    rw [List.map_cons, List.eraseIdx_cons_succ, List.eraseIdx_cons_succ, List.map_cons, eraN r j]
theorem Nl.era {B0 B H : Hp} {t p : Addr} {c : Nat} {bs : List Nat} (N : Nl B0 B H t p c bs) (j : Nat) : Nl B0 (upd B p (.lst ((bs.map nI).eraseIdx j))) (upd H p (.lst ((bs.map nI).eraseIdx j))) t p c (bs.eraseIdx j) := by
  rw [eraN bs j]
  exact N.set _
theorem Nl.ins {B0 B H : Hp} {t p : Addr} {c : Nat} {bs : List Nat} (N : Nl B0 B H t p c bs) (j n : Nat) : Nl B0 (upd B p (.lst ((bs.map nI).take j ++ [nI n] ++ (bs.map nI).drop j))) (upd H p (.lst ((bs.map nI).take j ++ [nI n] ++ (bs.map nI).drop j))) t p c (bs.take j ++ [n] ++ bs.drop j) := by
  rw [show (bs.map nI).take j ++ [nI n] ++ (bs.map nI).drop j = (bs.take j ++ [n] ++ bs.drop j).map nI by simp [List.map_take, List.map_drop]]
  exact N.set _
theorem mem_era_le {bs : List Nat} {j m : Nat} (h : ∀ k ∈ bs, k ≤ m) : ∀ k ∈ bs.eraseIdx j, k ≤ m := fun k hk => h k (List.mem_of_mem_eraseIdx hk)
theorem mem_ins_le {bs : List Nat} {j n m : Nat} (h : ∀ k ∈ bs, k ≤ m) (hn : n ≤ m) : ∀ k ∈ bs.take j ++ [n] ++ bs.drop j, k ≤ m := fun k hk => by
  rcases List.mem_append.mp hk with z | z
  · rcases List.mem_append.mp z with z | z
    · exact h k (List.mem_of_mem_take z)
    · rw [List.mem_singleton.mp z]
      exact hn
  · exact h k (List.mem_of_mem_drop z)
end KB
namespace KB
open PySem PySem.Spec PyProof.Rows L2
theorem cut_from (bs : List Nat) (x : Nat) (h : x ≤ bs.length) : cutV (bs.map nI) (some (x : Int)) none = (bs.drop x).map nI := by
  have e : HT.sIx (bs.map nI).length 0 (some (x : Int)) = x := by rw [HT.sIx_nat, List.length_map]; omega
  have e2 : HT.sIx (bs.map nI).length (bs.map nI).length none = (bs.map nI).length := rfl
  unfold cutV
  rw [e, e2, ← List.map_drop, List.take_of_length_le (by simp)]
theorem cut_to (bs : List Nat) (x : Nat) (h : x ≤ bs.length) : cutV (bs.map nI) none (some (x : Int)) = (bs.take x).map nI := by
  have e : HT.sIx (bs.map nI).length (bs.map nI).length (some (x : Int)) = x := by rw [HT.sIx_nat, List.length_map]; omega
  have e2 : HT.sIx (bs.map nI).length 0 none = 0 := rfl
  unfold cutV
  rw [e, e2, List.drop_zero, Nat.sub_zero, ← List.map_take]
end KB
namespace KB
open PySem PySem.Spec PyProof.Rows L2
def ndD (ls : List Nat) : List PyData := ls.map fun n : Nat => PyData.int (n : Int)
theorem dp_nd {K : PySem.W.Frag} {H : Hp} : ∀ ls : List Nat, DpAll K H (ls.map nI) (ndD ls)
  | [] => .nil
  | n :: r => .cons (.int _) (dp_nd r)
theorem ndD_len (ls : List Nat) : (ndD ls).length = ls.length := List.length_map ..
theorem ndD_nat (ls : List Nat) : (ndD ls).map natD = ls := by
  unfold ndD
  rw [List.map_map]
  exact List.map_id'' (fun n => by simp [natD]) ls
theorem ndD_ok (ls : List Nat) (n : Nat) : ∀ d ∈ ndD ls, okD (n + 1) d = true := fun d hd => by
  obtain ⟨k, _, rfl⟩ := List.mem_map.mp hd
  rfl
theorem nums_dp {K : PySem.W.Frag} {H : Hp} {a : Addr} {ls : List Nat} (h : H a = some (.lst (ls.map nI)) ∨ H a = some (.tup (ls.map nI))) (hl : ls.length ≤ 100000) (h40 : ∀ n ∈ ls, n ≤ 40) :
    ∃ d, Dp K H (.ref a) d ∧ okD 4 d = true ∧ (rowD d = true → (lensD d).length ≤ 100000 ∧ ∀ n ∈ lensD d, n ≤ 40) := by
  rcases h with h | h
  · refine ⟨.list (ndD ls), .lst (SqL.of h) (dp_nd ls), okD_mk (by rw [ndD_len]; exact hl) (ndD_ok ls 2), fun _ => ?_⟩
    show ((ndD ls).map natD).length ≤ 100000 ∧ ∀ n ∈ (ndD ls).map natD, n ≤ 40
    rw [ndD_nat]
    exact ⟨hl, h40⟩
  · refine ⟨.tuple (ndD ls), .tup (SqT.of h) (dp_nd ls), okD_mk (by rw [ndD_len]; exact hl) (ndD_ok ls 2), fun _ => ?_⟩
    show ((ndD ls).map natD).length ≤ 100000 ∧ ∀ n ∈ (ndD ls).map natD, n ≤ 40
    rw [ndD_nat]
    exact ⟨hl, h40⟩
theorem DpAll.set' {K : PySem.W.Frag} {H : Hp} {v : V} {d : PyData} (hv : Dp K H v d) : ∀ {vs : List V} {ds : List PyData} (k : Nat), DpAll K H vs ds → DpAll K H (vs.set k v) (ds.set k d)
  | _, _, _, .nil => .nil
  | _, _, 0, .cons _ t => .cons hv t
  | _, _, k + 1, .cons h t => .cons h (DpAll.set' hv k t)
theorem sIx_m1 (n : Nat) : HT.sIx n n (some ((n : Int) - 1)) = n - 1 := by
  cases n with
  | zero => rfl
  | succ n =>
    rw [show (((n + 1 : Nat) : Int) - 1) = ((n : Nat) : Int) by omega, HT.sIx_nat]
    omega
theorem cut_m1 (bs : List Nat) : cutV (bs.map nI) none (some (((bs.map nI).length : Nat) - 1 : Int)) = (bs.take (bs.length - 1)).map nI := by
  unfold cutV
  rw [sIx_m1, show HT.sIx (bs.map nI).length 0 none = 0 from rfl, List.drop_zero, Nat.sub_zero, List.length_map, List.map_take]
theorem cut_k (bs : List Nat) (x : Nat) : cutV (bs.map nI) none (some (x : Int)) = (bs.take x).map nI := by
  unfold cutV
  rw [HT.sIx_nat, show HT.sIx (bs.map nI).length 0 none = 0 from rfl, List.drop_zero, Nat.sub_zero, List.map_take, List.length_map]
  rcases Nat.le_total x bs.length with h | h
  · rw [Nat.min_eq_left h]
  · rw [Nat.min_eq_right h, List.take_of_length_le (by simp), List.take_of_length_le (by simpa using h)]
end KB
namespace KB
open PySem PySem.Spec PyProof.Rows L2
/-- a, b = .., two names -/
theorem pg_two {X : Cx} (K : PySem.W.Frag) {i j : Nat} {x y : Str} {px py pos : Pos} {kk : Nat} (hN : X.N.Nodup) (hi : X.N[i]? = some x) (hj : X.N[j]? = some y)
    (hx : Loc X.env.scope x := by first | exact Or.inl rfl | exact Or.inr rfl) (hy : Loc X.env.scope y := by first | exact Or.inl rfl | exact Or.inr rfl)
    (hfx : X.fn x = true ∨ X.env.scope.names.lookup x = some .local := by first | exact .inl rfl | exact .inr rfl | assumption) (hfy : X.fn y = true ∨ X.env.scope.names.lookup y = some .local := by first | exact .inl rfl | exact .inr rfl | assumption)
    (hc : X.calm = true := by rfl) (hK : X.K = K := by rfl) : PG X (.Tuple [.Name x px, .Name y py] kk pos) (gTup K 2 (gCons (gName i) (gCons (gName j) gNil))) := by
  subst hK
  exact pg_tup hc (pgs_cons (pg_name hN hi hx hfx) (pgs_cons (pg_name hN hj hy hfy) pgs_nil))
end KB
namespace KB
open PySem PySem.Spec PyProof.Rows L2
/-- o.m(e) of a built-in, within a comprehension -/
theorem pe_bmC {X : Cx} (K : PySem.W.Frag) {o e : Expr} {es : List Expr} {to : TE} {t : TA} {name : Str} {apos cpos : Pos} {T id : String} {r : V → List V → Hp → VK → Prop} (pa : PlainAttrs T) (slot : Slot T name id) (hty : typeOf (.builtin id) = pure (.type "method_descriptor")) (hm : MtR X id r) (ho : PE X o to) (ha : PA X (e :: es) t)
    (hbase : attributeBase o name X.env (eval o X.env) = eval o X.env := by rfl)
    (hfew : ((backTo cpos (starEach (e :: es) X.env)).all (fun x => !x.1) && (backToKw cpos (keywordEach [] X.env)).all (fun x => x.1.isSome)
      && decide ((e :: es).length + ([] : List Keyword).length + (if ([] : List Keyword).isEmpty then 0 else 1) < 30)) = true := by rfl)
    (hline : (apos.endLine == cpos.line) = true := by rfl) (hs : starEach (e :: es) X.env = (false, eval e X.env) :: starEach es X.env := by rfl) (hplain : (backTo cpos (starEach es X.env)).any (·.1) = false := by rfl)
    (hK : X.K = K := by rfl) : PE X (.Call (.Attribute o name apos) (e :: es) [] cpos) (tBM K T r to t) := by
  subst hK
  exact pe_bm pa slot hty hm ho ha hbase hfew hline hs hplain
end KB
namespace KB
open PySem PySem.Spec PyProof.Rows L2
theorem ixN_m1 {n : Nat} (h : 0 < n) : ixN n (-1) = some (n - 1) := by
  unfold ixN
  rw [if_neg (by decide), if_pos (by omega)]
  congr 1
  omega
theorem at_m1 {ls : List Nat} {l : Nat} (h : ls[ls.length - 1]? = some l) : atI (ls.map nI) (-1) = some (nI l) := by
  have hp : 0 < ls.length := by
    have := (List.getElem?_eq_some_iff.mp h).1
    omega
  unfold atI
  rw [List.length_map, ixN_m1 hp]
  show (ls.map nI)[ls.length - 1]? = _
  rw [List.getElem?_map, h]
  rfl
end KB

/-! enumerate of a list or a tuple, told once; codes of lengths -/
namespace KB
open PySem PySem.Spec PyProof.Rows L2
/-- a walk over the numbered items of a list or a tuple that stands -/
structure LikeEn (J : It) (S : Hp → Prop) (xs : List V) : Prop where
  mono : ∀ H H', Same H H' → S H → S H'
  go : ∀ i H, S H → i < xs.length → J.go i H
  yld : ∀ i H v H', S H → J.yld i H v H' → ∃ T x, v = .ref T ∧ H T = none ∧ H' = upd H T (.tup [.int (i : Nat), x]) ∧ xs[i]? = some x
  stop : ∀ H, S H → J.stop xs.length H
theorem likeEnL (K : PySem.W.Frag) (a : Addr) (xs : List V) : LikeEn (Ite K a) (fun H => SqL K H a xs) xs :=
  ⟨fun _ _ s q => s.seq q, fun i _ q h => ⟨xs, xs[i], q, by simp [h]⟩, fun _ _ _ _ q y => by
    obtain ⟨T, x, e, h1, h2, h3⟩ := y
    exact ⟨T, x, e, h1, h2, h3 xs q⟩, fun _ q => ⟨xs, q, Nat.le_refl _⟩⟩
theorem likeEnT (K : PySem.W.Frag) (a : Addr) (xs : List V) : LikeEn (Itet K a) (fun H => SqT K H a xs) xs :=
  ⟨fun _ _ s q => sameT s q, fun i _ q h => ⟨xs, xs[i], q, by simp [h]⟩, fun _ _ _ _ q y => by
    obtain ⟨T, x, e, h1, h2, h3⟩ := y
    exact ⟨T, x, e, h1, h2, h3 xs q⟩, fun _ q => ⟨xs, q, rfl⟩⟩
def iEnumJ (K : PySem.W.Frag) (ta : TA) : TI := fun σ H R => ta σ H fun vs H1 => ∃ a xs, vs = [.ref a] ∧ (SqL K H1 a xs ∨ SqT K H1 a xs) ∧ ∀ J S, LikeEn J S xs → S H1 → R J H1
theorem pi_enumJ {X : Cx} {e : Expr} {ta : TA} {p pos tpos : Pos} {elts : List Expr} {kk : Nat} (hg : Gl X "enumerate") (hm : X.mg "enumerate" = none) (ha : PA X [e] ta) (hs : starEach [e] X.env = [(false, eval e X.env)] := by rfl) :
    PI X (.Tuple elts kk tpos) (.Call (.Name "enumerate" p) [e] [] pos) (iEnumJ X.K ta) := by
  refine ⟨fun pins s σ H R I h => ?_⟩
  refine Call_ (ld_blt I hg hm boot_enumerate (PyProof.Rows.callWith_type1 (thn (ha.run pos pins s σ H _ I h) fun us s1 ⟨vs, H1, I1, r1, q1⟩ => ?_) hs rfl))
  obtain ⟨a, xs, ex, hs', q⟩ := q1
  subst ex
  have fr : ∀ b, b ∈ [s1.heap.objs.size + 1, s1.heap.objs.size] → FpOk X pins H1 b := fun b hb => by
    have hle : s1.heap.objs.size ≤ b := by
      rcases (by simpa using hb : b = s1.heap.objs.size + 1 ∨ b = s1.heap.objs.size) with z | z
      · rw [z]; exact Nat.le_add_right _ _
      · rw [z]; exact Nat.le_refl _
    exact I1.fpOk hle (I1.hok.fresh hle)
  cases r1 with
  | cons r rr =>
    cases rr
    cases r
    rcases hs' with hq | hq
    · have q' := q _ _ (likeEnL X.K a xs) hq
      obtain ⟨its, rv, p', hz⟩ := I1.list hq
      refine call_enumerate_list p'.isList fun h' he hit hsz hk => wpAny_pyIter_enum he ?_
      have I2 : Inv X pins σ H1 { s1 with heap := h' } := I1.kept (t' := s1.toks) hk
      exact ⟨s1.heap.objs.size + 1, [s1.heap.objs.size + 1, s1.heap.objs.size], _, _, H1, rfl, I2, turn_enum a (s1.heap.objs.size + 1) s1.heap.objs.size, ⟨⟨.none, he⟩, hit, Nat.succ_ne_self _⟩, fr, q'⟩
    · have q' := q _ _ (likeEnT X.K a xs) hq
      obtain ⟨its, rv, p', hz⟩ := I1.tuple hq
      have al : a < s1.heap.objs.size := by obtain ⟨o, g, _⟩ := id p'; exact Heap.lt_size g
      refine call_enumT p' fun h' he hit hk => wpAny_pyIter_enum he ?_
      have I2 : Inv X pins σ H1 { s1 with heap := h' } := I1.kept (t' := s1.toks) hk
      exact ⟨s1.heap.objs.size + 1, [s1.heap.objs.size + 1, s1.heap.objs.size], _, _, H1, rfl, I2, turn_enumT a (s1.heap.objs.size + 1) s1.heap.objs.size, ⟨⟨.none, he⟩, hit, Nat.succ_ne_self _, al, Nat.lt_succ_of_lt al⟩, fr, q'⟩
theorem for_enumJ {J : It} {S : Hp → Prop} {xs : List V} (L : LikeEn J S xs) {g : TG} {tb : TS} {D : Ends} {σ : L2.St} {H : Hp} (Pv : Nat → L2.St → Hp → Prop) (h0 : Pv 0 σ H) (hl : ∀ i σ H, i ≤ xs.length → Pv i σ H → S H)
    (hs : ∀ i x σ H, xs[i]? = some x → Pv i σ H → ∀ T, H T = none → g (.ref T) σ (upd H T (.tup [.int (i : Nat), x])) fun σ2 H2 => tb { D with nx := Pv (i + 1), ct := Pv (i + 1), bk := D.nx } σ2 H2) (hd : ∀ σ H, Pv xs.length σ H → D.nx σ H) :
    ∃ W : Nat → Nat → L2.St → Hp → Prop, (∃ m, W 0 m σ H) ∧ ∀ i m σ H, W i m σ H →
      (J.stop i H ∧ D.nx σ H) ∨ (J.go i H ∧ ∃ N : L2.St → Hp → Prop, (∀ σ' H', N σ' H' → ∃ m', m' < m ∧ W (i + 1) m' σ' H') ∧ ∀ v H', J.yld i H v H' → g v σ H' fun σ2 H2 => tb { D with nx := N, ct := N, bk := D.nx } σ2 H2) := by
  refine ⟨fun i m σ H => m = xs.length - i ∧ i ≤ xs.length ∧ Pv i σ H, ⟨xs.length, by simp, Nat.zero_le _, h0⟩, ?_⟩
  rintro i m σ H ⟨rfl, hi, p⟩
  have q := hl i σ H hi p
  by_cases hlt : i < xs.length
  · refine .inr ⟨L.go i H q hlt, Pv (i + 1), fun σ' H' p' => ⟨xs.length - (i + 1), by omega, rfl, hlt, p'⟩, fun v H' y => ?_⟩
    obtain ⟨T, x, rfl, hT, rfl, hx⟩ := L.yld i H v H' q y
    exact hs i x σ H hx p T hT
  · have e : i = xs.length := by omega
    subst e
    exact .inl ⟨L.stop H q, hd σ H p⟩
theorem lc_enumJ {J : It} {S : Hp → Prop} {xs : List V} (L : LikeEn J S xs) {g : TG} {tt : TT} {te : TE} {vs : List Nat} {σ : L2.St} {H1 : Hp} {D : Addr} {Qd : Hp → Prop} (Pv : Nat → Hp → Prop) (h0 : Pv 0 (upd H1 D (.lst []))) (hl : ∀ i H, i ≤ xs.length → Pv i H → S H)
    (hs : ∀ i x H, xs[i]? = some x → Pv i H → ∀ T, H T = none → g (.ref T) (wipe σ vs) (upd H T (.tup [.int (i : Nat), x])) fun σ2 H2 => wipe σ2 vs = wipe σ vs ∧ tt σ2 H2 fun b H3 =>
      if b = true then te σ2 H3 fun y H4 => ∃ acc, H4 D = some (.lst acc) ∧ acc.length < sizeLine ∧ Pv (i + 1) (upd H4 D (.lst (acc ++ [y]))) else Pv (i + 1) H3) (hd : ∀ H, Pv xs.length H → Qd H) :
    ∃ W : Nat → Nat → Hp → Prop, (∃ m, W 0 m (upd H1 D (.lst []))) ∧ ∀ i m H, W i m H →
      (J.stop i H ∧ Qd H) ∨ (J.go i H ∧ ∃ Nx : Hp → Prop, (∀ H', Nx H' → ∃ m', m' < m ∧ W (i + 1) m' H') ∧ ∀ x H', J.yld i H x H' → g x (wipe σ vs) H' fun σ2 H2 => wipe σ2 vs = wipe σ vs ∧ tt σ2 H2 fun b H3 =>
        if b = true then te σ2 H3 fun y H4 => ∃ acc, H4 D = some (.lst acc) ∧ acc.length < sizeLine ∧ Nx (upd H4 D (.lst (acc ++ [y]))) else Nx H3) := by
  refine ⟨fun i m H => m = xs.length - i ∧ i ≤ xs.length ∧ Pv i H, ⟨xs.length, by simp, Nat.zero_le _, h0⟩, ?_⟩
  rintro i m H ⟨rfl, hi, p⟩
  have q := hl i H hi p
  by_cases hlt : i < xs.length
  · refine .inr ⟨L.go i H q hlt, Pv (i + 1), fun H' p' => ⟨xs.length - (i + 1), by omega, rfl, hlt, p'⟩, fun v H' y => ?_⟩
    obtain ⟨T, x, rfl, hT, rfl, hx⟩ := L.yld i H v H' q y
    exact hs i x H hx p T hT
  · have e : i = xs.length := by omega
    subst e
    exact .inl ⟨L.stop H q, hd H p⟩

/-! ### pairs in order -/
def kOf (H : Hp) : V → Int × Int
  | .ref t => match H t with
    | some (.tup [.int a, .int b]) => (a, b)
    | _ => (0, 0)
  | _ => (0, 0)
theorem kOf_at {H : Hp} {t : Addr} {a b : Int} (h : H t = some (.tup [.int a, .int b])) : kOf H (.ref t) = (a, b) := by
  show (match H t with | some (.tup [.int a, .int b]) => (a, b) | _ => (0, 0)) = _
  rw [h]
def prs (ls : List Nat) : List (Int × Int) := (List.range ls.length).map fun j => ((ls.getD j 0 : Nat), (j : Int))
theorem prs_len (ls : List Nat) : (prs ls).length = ls.length := by simp [prs]
theorem prs_get {ls : List Nat} {j l : Nat} (h : ls[j]? = some l) : (prs ls)[j]? = some ((l : Int), (j : Int)) := by
  have hj := (List.getElem?_eq_some_iff.mp h).1
  unfold prs
  rw [List.getElem?_map, List.getElem?_range hj]
  show some (((ls.getD j 0 : Nat) : Int), (j : Int)) = _
  rw [List.getD_eq_getElem?_getD, h]
  rfl
def IsOrd (ls : List Nat) (ks : List (Int × Int)) : Prop := ks.Perm (prs ls) ∧ ks.Pairwise (fun p q => SrtO.lexB q p = false)
theorem IsOrd.uniq {ls : List Nat} {ks ks' : List (Int × Int)} (h : IsOrd ls ks) (h' : IsOrd ls ks') : ks = ks' := pairs_one _ _ (h.1.trans h'.1.symm) h.2 h'.2
theorem IsOrd.mem {ls : List Nat} {ks : List (Int × Int)} (h : IsOrd ls ks) {p : Int × Int} (hp : p ∈ ks) : ∃ l k : Nat, p = ((l : Int), (k : Int)) ∧ ls[k]? = some l := by
  have := h.1.mem_iff.mp hp
  unfold prs at this
  obtain ⟨j, hj, rfl⟩ := List.mem_map.mp this
  have hj' := List.mem_range.mp hj
  refine ⟨_, j, rfl, ?_⟩
  rw [List.getD_eq_getElem?_getD, List.getElem?_eq_getElem hj']
  rfl
theorem IsOrd.len {ls : List Nat} {ks : List (Int × Int)} (h : IsOrd ls ks) : ks.length = ls.length := by rw [h.1.length_eq, prs_len]
theorem prs_fst (ls : List Nat) : (prs ls).map (fun p => p.1.toNat) = ls := by
  unfold prs
  rw [List.map_map]
  refine List.ext_getElem? fun j => ?_
  rw [List.getElem?_map]
  by_cases h : j < ls.length
  · rw [List.getElem?_range h, List.getElem?_eq_getElem h]
    show some ((((ls.getD j 0 : Nat) : Int)).toNat) = _
    rw [Int.toNat_natCast, List.getD_eq_getElem?_getD, List.getElem?_eq_getElem h]
    rfl
  · rw [List.getElem?_eq_none (by simpa using h), List.getElem?_eq_none (by omega)]
    rfl
theorem IsOrd.kr {ls : List Nat} {ks : List (Int × Int)} (h : IsOrd ls ks) : kr (ks.map fun p => p.1.toNat) = kr ls := by
  have := kr_perm (h.1.map fun p => p.1.toNat)
  rw [prs_fst] at this
  exact this
theorem IsOrd.fst {ls : List Nat} {ks : List (Int × Int)} (h : IsOrd ls ks) : (ks.map fun p => p.1.toNat).Pairwise (· ≤ ·) := by
  rw [List.pairwise_map]
  refine h.2.imp fun {p q} hpq => ?_
  have := SrtO.lexB_no.mp hpq
  omega
theorem ord_of {H : Hp} {xs ys : List V} {ls : List Nat} (hx : xs.map (kOf H) = prs ls) (h1 : SrtO.Srtd (ltP (kOf H)) ys) (h2 : ys.Perm xs) : IsOrd ls (ys.map (kOf H)) := by
  refine ⟨by rw [← hx]; exact h2.map _, ?_⟩
  rw [List.pairwise_map]
  exact h1

/-! ### the words of a code -/
def fillW : List (Int × Int) → Nat → List Str → List Str
  | [], _, ws => ws
  | p :: r, used, ws => fillW r (used + 2 ^ (40 - p.1.toNat)) (ws.set p.2.toNat (wordS p.1.toNat (used / 2 ^ (40 - p.1.toNat))))
def codeS (ks : List (Int × Int)) (n : Nat) : List Str := fillW ks 0 (List.replicate n "")
structure Cd (ks : List (Int × Int)) (n i used : Nat) (ws : List Str) : Prop where
  len : ws.length = n
  sum : used = kr ((ks.map fun p => p.1.toNat).take i)
  fil : fillW (ks.drop i) used ws = codeS ks n
theorem Cd.ini (ks : List (Int × Int)) (n : Nat) : Cd ks n 0 0 (List.replicate n "") := ⟨List.length_replicate, by simp [kr], rfl⟩
theorem Cd.nxt {ks : List (Int × Int)} {n i used : Nat} {ws : List Str} (C : Cd ks n i used ws) {l k : Nat} (h : ks[i]? = some ((l : Int), (k : Int))) : Cd ks n (i + 1) (used + 2 ^ (40 - l)) (ws.set k (wordS l (used / 2 ^ (40 - l)))) := by
  obtain ⟨hi, he⟩ := List.getElem?_eq_some_iff.mp h
  refine ⟨by rw [List.length_set]; exact C.len, ?_, ?_⟩
  · rw [kr_take (l := l) (by rw [List.getElem?_map, h]; rfl), C.sum]
  · have := C.fil
    rw [List.drop_eq_getElem_cons hi, he] at this
    exact this
theorem Cd.fin {ks : List (Int × Int)} {n used : Nat} {ws : List Str} (C : Cd ks n ks.length used ws) : ws = codeS ks n := by
  have := C.fil
  rw [List.drop_length] at this
  exact this
theorem Cd.room {ks : List (Int × Int)} {n i used : Nat} {ws : List Str} (C : Cd ks n i used ws) {l k : Nat} (h : ks[i]? = some ((l : Int), (k : Int))) (hk : kr (ks.map fun p => p.1.toNat) ≤ 2 ^ 40) : used + 2 ^ (40 - l) ≤ 2 ^ 40 := by
  have e := kr_take (ls := ks.map fun p => p.1.toNat) (i := i) (l := l) (by rw [List.getElem?_map, h]; rfl)
  have s := C.sum
  have : kr ((ks.map fun p => p.1.toNat).take (i + 1)) ≤ kr (ks.map fun p => p.1.toNat) := by
    have e2 := List.take_append_drop (i + 1) (ks.map fun p => p.1.toNat)
    have := kr_app ((ks.map fun p => p.1.toNat).take (i + 1)) ((ks.map fun p => p.1.toNat).drop (i + 1))
    rw [e2] at this
    omega
  omega
theorem val_step {used value before l : Nat} (e : used = value * 2 ^ (40 - before)) (hb : before ≤ l) (h40 : l ≤ 40) (hr : used + 2 ^ (40 - l) ≤ 2 ^ 40) :
    value * 2 ^ (l - before) = used / 2 ^ (40 - l) ∧ value * 2 ^ (l - before) < 2 ^ l ∧ used + 2 ^ (40 - l) = (value * 2 ^ (l - before) + 1) * 2 ^ (40 - l) := by
  have p : 0 < 2 ^ (40 - l) := Nat.pow_pos (by decide)
  have e2 : used = value * 2 ^ (l - before) * 2 ^ (40 - l) := by
    rw [e, Nat.mul_assoc, ← Nat.pow_add]
    congr 2
    omega
  have e3 : (2 : Nat) ^ 40 = 2 ^ l * 2 ^ (40 - l) := by
    rw [← Nat.pow_add]
    congr 1
    omega
  refine ⟨?_, ?_, ?_⟩
  · rw [e2, Nat.mul_div_cancel _ p]
  · rw [e3] at hr
    refine Nat.lt_of_mul_lt_mul_right (a := 2 ^ (40 - l)) ?_
    rw [← e2]
    omega
  · rw [Nat.add_mul, Nat.one_mul, ← e2]
end KB
namespace KB
open PySem PySem.Spec PyProof.Rows L2
theorem pairs_made {H : Hp} {ts : List V} {ls : List Nat} (hl : ts.length = ls.length) (h : ∀ (j : Nat) (y : V), ts[j]? = some y → ∃ (t : Addr) (l : Nat), y = .ref t ∧ ls[j]? = some l ∧ H t = some (.tup [.int (l : Int), .int (j : Int)])) :
    ts.map (kOf H) = prs ls ∧ ∀ x ∈ ts, ∃ t, x = .ref t ∧ H t = some (.tup [.int (kOf H x).1, .int (kOf H x).2]) := by
  constructor
  · refine List.ext_getElem? fun j => ?_
    rw [List.getElem?_map]
    by_cases hj : j < ts.length
    · have e := List.getElem?_eq_getElem hj
      obtain ⟨t, l, ey, hlj, ht⟩ := h j _ e
      rw [e, prs_get hlj, ey]
      exact congrArg some (kOf_at ht)
    · rw [List.getElem?_eq_none (by omega), List.getElem?_eq_none (by rw [prs_len]; omega)]
      rfl
  · intro x hx
    obtain ⟨j, hj, e⟩ := List.getElem_of_mem hx
    obtain ⟨t, l, ey, _, ht⟩ := h j x (by rw [List.getElem?_eq_getElem hj, e])
    exact ⟨t, ey, by rw [ey, kOf_at ht]; exact ht⟩
/-- a heap without one cell -/
def rem (H : Hp) (a : Addr) : Hp := fun b => if b = a then none else H b
theorem rem_self {H : Hp} {a : Addr} : rem H a a = none := by unfold rem; simp
theorem rem_at {H : Hp} {a b : Addr} {o : HO} (h : H b = some o) (ne : b ≠ a) : rem H a b = some o := by unfold rem; rw [if_neg ne]; exact h
theorem rem_same {H : Hp} {a : Addr} : Same (rem H a) H := fun b o e => by
  unfold rem at e
  split at e
  · cases e
  · exact e
theorem same_rem {B H : Hp} {a : Addr} (s : Same B H) (h : B a = none) : Same B (rem H a) := fun b o e => rem_at (s _ _ e) (ne_of_none e h)
theorem rep_flat (n : Nat) (v : V) : (List.replicate n [v]).flatten = List.replicate n v := by
  rw [show ([v] : List V) = List.replicate 1 v from rfl, List.flatten_replicate_replicate, Nat.mul_one]
end KB
namespace KB
open PySem PySem.Spec PyProof.Rows L2
theorem bitsL_take : ∀ (l v m : Nat), m ≤ l → (bitsL l v).take m = bitsL m (v / 2 ^ (l - m))
  | 0, v, m, h => by
    have : m = 0 := by omega
    subst this
    rfl
  | l + 1, v, m, h => by
    have hl := bitsL_len l (v / 2)
    by_cases e : m = l + 1
    · subst e
      rw [Nat.sub_self, Nat.pow_zero, Nat.div_one, List.take_of_length_le (by rw [bitsL_len]; omega)]
    · show (bitsL l (v / 2) ++ [48 + v % 2]).take m = _
      rw [List.take_append_of_le_length (by omega), bitsL_take l (v / 2) m (by omega), Nat.div_div_eq_div_mul, ← Nat.pow_succ', show (l - m).succ = l + 1 - m by omega]
theorem bitsL_inj : ∀ (l v w : Nat), v < 2 ^ l → w < 2 ^ l → bitsL l v = bitsL l w → v = w
  | 0, v, w, hv, hw, _ => by
    have a : v = 0 := by simpa using hv
    have b : w = 0 := by simpa using hw
    rw [a, b]
  | l + 1, v, w, hv, hw, h => by
    have h1 : bitsL l (v / 2) ++ [48 + v % 2] = bitsL l (w / 2) ++ [48 + w % 2] := h
    have h2 := List.append_inj h1 (by rw [bitsL_len, bitsL_len])
    have p : 2 ^ (l + 1) = 2 * 2 ^ l := Nat.pow_succ'
    have e1 := bitsL_inj l (v / 2) (w / 2) (by omega) (by omega) h2.1
    have e2 : 48 + v % 2 = 48 + w % 2 := by simpa using h2.2
    omega
theorem starts_word {l v m u : Nat} (hm : m ≤ l) (hv : v < 2 ^ l) (hu : u < 2 ^ m) : Txt.startswith (wordS l v) (wordS m u) = decide (v / 2 ^ (l - m) = u) := by
  have e : Txt.startswith (wordS l v) (wordS m u) = ((bitsL l v).take m == bitsL m u) := by
    unfold Txt.startswith
    rw [wordS_len, wordS_len, PySem.StrLaws.subAt_eq, wordS_len, List.drop_zero]
    rw [show decide (0 + m ≤ l) = true from decide_eq_true (by omega), Bool.true_and]
    rfl
  rw [e, bitsL_take l v m hm]
  by_cases h : v / 2 ^ (l - m) = u
  · rw [h]
    simp
  · rw [decide_eq_false h]
    have hlt : v / 2 ^ (l - m) < 2 ^ m := by
      rw [Nat.div_lt_iff_lt_mul (Nat.pow_pos (by decide)), ← Nat.pow_add, show m + (l - m) = l by omega]
      exact hv
    refine beq_eq_false_iff_ne.mpr fun z => h (bitsL_inj m _ _ hlt hu z)
/-- the words ahead -/
def tkS (ks : List (Int × Int)) (j : Nat) : Str := wordS ((ks.map fun p => p.1.toNat).getD j 0) (kr ((ks.map fun p => p.1.toNat).take j) / 2 ^ (40 - (ks.map fun p => p.1.toNat).getD j 0))
def ua (fs : List Nat) (j : Nat) : Nat := kr (fs.take j)
theorem ua_succ {fs : List Nat} {j l : Nat} (h : fs[j]? = some l) : ua fs (j + 1) = ua fs j + 2 ^ (40 - l) := kr_take h
theorem ua_dvd {fs : List Nat} (hs : fs.Pairwise (· ≤ ·)) {l i : Nat} (h : fs[i]? = some l) : ∀ j, j ≤ i → 2 ^ (40 - l) ∣ ua fs j
  | 0, _ => by simp [ua, kr]
  | j + 1, hj => by
    obtain ⟨hi, ei⟩ := List.getElem?_eq_some_iff.mp h
    have e := List.getElem?_eq_getElem (show j < fs.length by omega)
    rw [ua_succ e]
    refine Nat.dvd_add (ua_dvd hs h j (by omega)) (Nat.pow_dvd_pow 2 ?_)
    have : fs[j] ≤ l := by
      rw [← ei]
      exact List.pairwise_iff_getElem.mp hs j i (by omega) hi (by omega)
    omega
theorem ua_mono {fs : List Nat} : ∀ {i j : Nat}, i ≤ j → j ≤ fs.length → ua fs i ≤ ua fs j
  | i, 0, h, _ => by
    have : i = 0 := by omega
    subst this
    exact Nat.le_refl _
  | i, j + 1, h, hl => by
    by_cases e : i = j + 1
    · subst e; exact Nat.le_refl _
    · have := ua_mono (fs := fs) (i := i) (j := j) (by omega) (by omega)
      rw [ua_succ (List.getElem?_eq_getElem (show j < fs.length by omega))]
      exact Nat.le_trans this (Nat.le_add_right _ _)
/-- a value in l bits is begun by an earlier word exactly if it lies below what is used -/
theorem begun_iff {fs : List Nat} (hs : fs.Pairwise (· ≤ ·)) (h40 : ∀ n ∈ fs, n ≤ 40) (hk : kr fs ≤ 2 ^ 40) {i l v : Nat} (h : fs[i]? = some l) (hv : v < 2 ^ l) :
    ((List.range i).map fun j => Txt.startswith (wordS l v) (wordS (fs.getD j 0) (ua fs j / 2 ^ (40 - fs.getD j 0)))).any id = decide (v * 2 ^ (40 - l) < ua fs i) := by
  obtain ⟨hi, ei⟩ := List.getElem?_eq_some_iff.mp h
  have hl40 := h40 l (List.mem_of_getElem? h)
  have one : ∀ j, j < i → (Txt.startswith (wordS l v) (wordS (fs.getD j 0) (ua fs j / 2 ^ (40 - fs.getD j 0))) = decide (ua fs j ≤ v * 2 ^ (40 - l) ∧ v * 2 ^ (40 - l) < ua fs (j + 1))) := fun j hj => by
    have hjl : j < fs.length := by omega
    have e := List.getElem?_eq_getElem hjl
    obtain ⟨m, em⟩ : ∃ m, fs[j] = m := ⟨_, rfl⟩
    rw [em] at e
    have gd : fs.getD j 0 = m := by rw [List.getD_eq_getElem?_getD, e]; rfl
    rw [gd]
    have hml : m ≤ l := by
      rw [← em, ← ei]
      exact List.pairwise_iff_getElem.mp hs j i hjl hi hj
    obtain ⟨u, hu⟩ := ua_dvd hs e j (Nat.le_refl _)
    have p : 0 < 2 ^ (40 - m) := Nat.pow_pos (by decide)
    have hsu : ua fs (j + 1) = 2 ^ (40 - m) * (u + 1) := by rw [ua_succ e, hu, Nat.mul_add, Nat.mul_one]
    have hle : ua fs (j + 1) ≤ 2 ^ 40 := by
      have h1 := ua_mono (fs := fs) (i := j + 1) (j := fs.length) (by omega) (Nat.le_refl _)
      have : ua fs fs.length = kr fs := by unfold ua; rw [List.take_length]
      omega
    have e40 : (2 : Nat) ^ 40 = 2 ^ (40 - m) * 2 ^ m := by
      rw [← Nat.pow_add]
      congr 1
      omega
    have hu2 : u < 2 ^ m := by
      rw [hsu, e40] at hle
      have := Nat.le_of_mul_le_mul_left hle p
      omega
    have ep : 2 ^ (40 - m) = 2 ^ (40 - l) * 2 ^ (l - m) := by
      rw [← Nat.pow_add]
      congr 1
      omega
    have pl : 0 < 2 ^ (40 - l) := Nat.pow_pos (by decide)
    have plm : 0 < 2 ^ (l - m) := Nat.pow_pos (by decide)
    rw [hu, Nat.mul_div_cancel_left _ p, starts_word hml hv hu2, hsu]
    refine decide_eq_decide.mpr ?_
    rw [ep, Nat.mul_assoc, Nat.mul_assoc, Nat.mul_comm v]
    constructor
    · intro z
      have := (Nat.div_eq_iff plm).mp z
      refine ⟨Nat.mul_le_mul_left _ ?_, Nat.mul_lt_mul_of_pos_left ?_ pl⟩
      · rw [Nat.mul_comm]; omega
      · rw [Nat.mul_comm, Nat.add_mul]; omega
    · rintro ⟨z1, z2⟩
      have z1' := Nat.le_of_mul_le_mul_left z1 pl
      have z2' := Nat.lt_of_mul_lt_mul_left z2
      refine (Nat.div_eq_iff plm).mpr ?_
      rw [Nat.mul_comm] at z1'
      rw [Nat.mul_comm, Nat.add_mul] at z2'
      omega
  rw [List.any_map]
  by_cases hlt : v * 2 ^ (40 - l) < ua fs i
  · rw [decide_eq_true hlt]
    have ex : ∀ n, n ≤ i → v * 2 ^ (40 - l) < ua fs n → ∃ j, j < n ∧ ua fs j ≤ v * 2 ^ (40 - l) ∧ v * 2 ^ (40 - l) < ua fs (j + 1) := by
      intro n
      induction n with
      | zero => intro _ z; simp [ua, kr] at z
      | succ n ih =>
        intro hn z
        by_cases y : v * 2 ^ (40 - l) < ua fs n
        · obtain ⟨j, h1, h2⟩ := ih (by omega) y
          exact ⟨j, by omega, h2⟩
        · exact ⟨n, Nat.lt_succ_self _, by omega, z⟩
    obtain ⟨j, hj, h2⟩ := ex i (Nat.le_refl _) hlt
    refine List.any_eq_true.mpr ⟨j, List.mem_range.mpr hj, ?_⟩
    show Txt.startswith _ _ = true
    rw [one j hj]
    exact decide_eq_true h2
  · rw [decide_eq_false hlt]
    refine List.any_eq_false.mpr fun j hj => ?_
    have hj' := List.mem_range.mp hj
    show ¬ Txt.startswith _ _ = true
    rw [one j hj']
    intro z
    have := of_decide_eq_true z
    have := ua_mono (fs := fs) (i := j + 1) (j := i) (by omega) (by omega)
    omega
end KB
namespace KB
open PySem PySem.Spec PyProof.Rows L2
theorem fillW_len : ∀ (ks : List (Int × Int)) (u : Nat) (ws : List Str), (fillW ks u ws).length = ws.length
  | [], _, _ => rfl
  | p :: r, u, ws => by
    show (fillW r _ _).length = _
    rw [fillW_len r, List.length_set]
theorem codeS_len (ks : List (Int × Int)) (n : Nat) : (codeS ks n).length = n := by
  unfold codeS
  rw [fillW_len, List.length_replicate]
end KB

namespace KB
open PySem PySem.Spec PyProof.Rows L2
/-! ### the box: the tape of the later stages; B is all that stands beside it -/
structure Bx (B H : Hp) (t : Addr) (c : Nat) : Prop where
  same : Same B H
  bt : B t = none
  ex : ∃ (g : Addr) (gs : List Int) (j : Nat) (w sd ct : Int), B g = none ∧ t ≠ g ∧ H t = some (.lst [.ref g, .int j, .int w, .int sd, .int ct]) ∧ H g = some (.lst (gs.map V.int)) ∧
    gs.length ≤ 63 ∧ j ≤ 63 ∧ 0 ≤ sd ∧ sd < 2147483647 ∧ 0 ≤ ct ∧ ct ≤ (c : Int)
theorem Bx.le {B H : Hp} {t : Addr} {c d : Nat} (T : Bx B H t c) (h : c ≤ d) : Bx B H t d := by
  obtain ⟨s, b, g, gs, j, w, sd, ct, h1, h2, h3, h4, h5, h5', h6, h7, h8, h9⟩ := T
  exact ⟨s, b, g, gs, j, w, sd, ct, h1, h2, h3, h4, h5, h5', h6, h7, h8, by omega⟩
theorem Bx.new {B H : Hp} {t p : Addr} {c : Nat} {o : HO} (T : Bx B H t c) (h : H p = none) : Bx (upd B p o) (upd H p o) t c := by
  obtain ⟨s, b, g, gs, j, w, sd, ct, h1, h2, h3, h4, h5⟩ := T
  have e1 : t ≠ p := ne_of_none h3 h
  have e2 : g ≠ p := ne_of_none h4 h
  exact ⟨same_set s, by rw [upd_ne e1]; exact b, g, gs, j, w, sd, ct, by rw [upd_ne e2]; exact h1, h2, by rw [upd_ne e1]; exact h3, by rw [upd_ne e2]; exact h4, h5⟩
theorem Bx.set {B H : Hp} {t p : Addr} {c : Nat} {o o' : HO} (T : Bx B H t c) (h : B p = some o) : Bx (upd B p o') (upd H p o') t c := by
  obtain ⟨s, b, g, gs, j, w, sd, ct, h1, h2, h3, h4, h5⟩ := T
  have e1 : t ≠ p := fun z => by rw [z, h] at b; cases b
  have e2 : g ≠ p := fun z => by rw [z, h] at h1; cases h1
  exact ⟨same_set s, by rw [upd_ne e1]; exact b, g, gs, j, w, sd, ct, by rw [upd_ne e2]; exact h1, h2, by rw [upd_ne e1]; exact h3, by rw [upd_ne e2]; exact h4, h5⟩
theorem Bx.free {B H : Hp} {t p : Addr} {c : Nat} (T : Bx B H t c) (h : H p = none) : B p = none := T.same.free h
theorem Bx.isn {B H : Hp} {t p : Addr} {c : Nat} (T : Bx B H t c) (h : H p = none) : B p = none := T.same.free h
theorem Bx.at {B H : Hp} {t p : Addr} {c : Nat} {o : HO} (T : Bx B H t c) (h : B p = some o) : H p = some o := T.same _ _ h
theorem Bx.inst {B H : Hp} {t x dx C : Addr} {c : Nat} {fs : List (Str × V)} (T : Bx B H t c) (hx : H x = none) (hd : H dx = none) (ne : dx ≠ x) : Bx (upd (upd B dx (.own x)) x (.ins C dx fs)) (upd (upd H dx (.own x)) x (.ins C dx fs)) t c :=
  (T.new hd).new (by rw [upd_ne ne.symm]; exact hx)
theorem Bx.ext {B H H' : Hp} {t : Addr} {c : Nat} (T : Bx B H t c) (s : Same H H') : Bx B H' t c := by
  obtain ⟨sm, b, g, gs, j, w, sd, ct, h1, h2, h3, h4, h5⟩ := T
  exact ⟨sm.trans s, b, g, gs, j, w, sd, ct, h1, h2, s _ _ h3, s _ _ h4, h5⟩
theorem Bx.ext1 {B H H' : Hp} {t p : Addr} {c : Nat} {o : HO} (T : Bx B H t c) (s : Same H H') (hp : H p = none) (ho : H' p = some o) : Bx (upd B p o) H' t c := by
  obtain ⟨sm, b, g, gs, j, w, sd, ct, h1, h2, h3, h4, h5⟩ := T
  have e1 : t ≠ p := ne_of_none h3 hp
  have e2 : g ≠ p := ne_of_none h4 hp
  refine ⟨fun b x e => ?_, by rw [upd_ne e1]; exact b, g, gs, j, w, sd, ct, by rw [upd_ne e2]; exact h1, h2, s _ _ h3, s _ _ h4, h5⟩
  by_cases hb : b = p
  · subst hb
    rw [upd_same] at e
    rw [ho]
    exact e
  · rw [upd_ne hb] at e
    exact s _ _ (sm _ _ e)
/-- the base shrinks to what a heap below it holds -/
theorem Bx.low {A B H : Hp} {t : Addr} {c : Nat} (T : Bx B H t c) (s : Same A B) : Bx A H t c := by
  obtain ⟨sm, b, g, gs, j, w, sd, ct, h1, h5⟩ := T
  exact ⟨s.trans sm, s.free b, g, gs, j, w, sd, ct, s.free h1, h5⟩
/-- what a def leaves that only adds cells: the base takes them up -/
theorem Bx.up {B B' H H' : Hp} {t : Addr} {c : Nat} (T : Bx B H t c) (s : Same H H') (sb : Same B B') (s' : Same B' H') (h : ∀ a, B' a ≠ none → B a = none → H a = none) : Bx B' H' t c := by
  obtain ⟨sm, b, g, gs, j, w, sd, ct, h1, h2, h3, h4, h5⟩ := T
  refine ⟨s', ?_, g, gs, j, w, sd, ct, ?_, h2, s _ _ h3, s _ _ h4, h5⟩
  · exact Classical.byContradiction fun z => by have := h t z b; rw [h3] at this; cases this
  · exact Classical.byContradiction fun z => by have := h g z h1; rw [h4] at this; cases this

/-! ### math.comb -/
section
variable {X : Cx}
def rComb : List V → Hp → VK → Prop := fun vs H Q => ∃ a b : Nat, vs = [.int a, .int b] ∧ a ≤ 18000 ∧ Q (.int (PySem.W.mcComb a b)) H
theorem cr_comb : CallR X (.builtin "math.comb") rComb := by
  intro pins s σ H vs us Q I r h
  obtain ⟨a, b, rfl, ha, q⟩ := h
  obtain ⟨t, u, rfl⟩ := Vals.int2 r
  exact PySem.W.mc_comb (by omega) (by omega) (by omega) (.inr (by omega)) fun _ => ⟨.int _, H, I.tok _, ⟨_, rfl⟩, q⟩
end
end KB

namespace KZ
open PySem
open PySem.Sem (wp)
/-! ### zip's next while the tuple that it gave out is still held, over iterators of any kind -/
section
variable {prog : Program} {w : World} {A : Around} {E : Value → Shared → Prop} {s : Shared} {z TI TO T i1 i2 : Addr} {f : Bool} {oT : Obj} {fp1 fp2 : List Addr} {n1 n2 i : Nat} {P1 P2 : Nat → Value → Prop} {St1 St2 : Nat → Heap → Prop}
theorem next_item_held {Q : Value → Shared → Prop} (S : ZipSep2 z TI TO i1 i2 fp1 fp2) (D1 : Draws prog w A i1 fp1 n1 P1 St1) (D2 : Draws prog w A i2 fp2 n2 P2 St2)
    (hz : IsZipHeld s.heap z TI TO T f) (hT : s.heap.get? T = some oT) (hTI : IsTupOf2 s.heap TI (.ref i1) (.ref i2)) (st1 : St1 i s.heap) (st2 : St2 i s.heap) (hlt1 : i < n1) (hlt2 : i < n2)
    (hQ : ∀ x1 x2 h' tk, P1 i x1 → P2 i x2 → IsZipHeld h' z TI TO T true → St1 (i + 1) h' → St2 (i + 1) h' → IsTupOf2 h' s.heap.objs.size x1 x2 → h'.objs.size = s.heap.objs.size + 1 →
      (∀ c o, c ≠ z → c ≠ i1 → c ≠ i2 → s.heap.get? c = some o → h'.get? c = some o) → Q (.ref s.heap.objs.size) { s with heap := h', toks := tk }) :
    wpAny (model prog w) A (Builtin.«zip.__next__» ⟨[.ref z], []⟩) (fun fin s' => ∃ v, fin = .done (.ret v) ∧ Q v s') E s := by
  obtain ⟨hp, g, d, tk0, os⟩ := s
  show wpAny _ _ (field (.ref z) 2 >>= _) _ _ _
  refine wpAny_bind (wpAny_field hz rfl (x := .bool false) rfl ?_)
  show wpAny _ _ (field (.ref z) 3 >>= _) _ _ _
  refine wpAny_bind (wpAny_field hz rfl (x := .ref TI) rfl ?_)
  refine wpAny_bind (wpAny_seqItems hTI rfl ?_)
  show wpAny _ _ (Builtin.SmallTypes.ownedTupleIsFree (.ref z) >>= _) _ _ _
  refine wpAny_bind (wpAny_tupleHeld_zip hz hT fun h₁ hz₁ hs₁ => ?_)
  replace hs₁ : Heap.SameBut z hp h₁ := hs₁
  simp only [Bool.false_eq_true, if_false]
  refine wpAny_bind ?_
  rw [← Array.forIn_toList]
  simp only [List.forIn_cons, List.forIn_nil]
  refine wpAny_bind (wpAny_bind (wpAny_holding ?_))
  show wpAny _ _ (Builtin.SmallTypes.nextOf (.ref i1) >>= _) _ _ ⟨h₁, g, d, tk0, os⟩
  refine wpAny_bind (D1.item i _ _ _ hlt1 (D1.over st1 hs₁ S.zf1) fun x1 p1 tk1 hx1 sn1 hp1 => wpAny_pure ?_)
  replace hp1 : Heap.SameBut i1 h₁ p1 := hp1
  refine wpAny_pure ?_
  refine wpAny_bind (wpAny_bind (wpAny_holding ?_))
  show wpAny _ _ (Builtin.SmallTypes.nextOf (.ref i2) >>= _) _ _ ⟨p1, g, d, tk1, os⟩
  refine wpAny_bind (D2.item i _ _ _ hlt2 (D2.over (D2.over st2 hs₁ S.zf2) hp1 S.sep1_2) fun x2 p2 tk2 hx2 sn2 hp2 => wpAny_pure ?_)
  replace hp2 : Heap.SameBut i2 p1 p2 := hp2
  refine wpAny_pure (wpAny_pure ?_)
  show wpAny _ _ (newTuple [x1, x2] >>= _) _ _ ⟨p2, g, d, tk2, os⟩
  refine wpAny_bind (wpAny_newTuple ?_)
  have hsz : p2.objs.size = hp.objs.size := by rw [hp2.1, hp1.1, hs₁.1]
  have hz₃ : IsZipHeld p2 z TI TO T true := hp2.extBut _ _ S.zi2 (hp1.extBut _ _ S.zi1 hz₁)
  have hk : ∀ c o, c ≠ z → c ≠ i1 → c ≠ i2 → hp.get? c = some o → p2.get? c = some o := fun c o c1 c2 c3 e => hp2.extBut _ _ c3 (hp1.extBut _ _ c2 (hs₁.extBut _ _ c1 e))
  have hj1 : St1 (i + 1) p2 := D1.over sn1 hp2 S.sep2_1
  refine wpAny_pure ⟨_, rfl, ?_⟩
  show Q (.ref p2.objs.size) ⟨p2.push { cls := .type "tuple", data := .seq #[x1, x2] }, g, d, tk2, os⟩
  have hpp : IsTupOf2 (p2.push { cls := .type "tuple", data := .seq #[x1, x2] }) p2.objs.size x1 x2 := Heap.get?_push_size _ rfl
  have hz4 : (p2.push { cls := .type "tuple", data := .seq #[x1, x2] }).objs.size = p2.objs.size + 1 := Heap.size_push ..
  rw [hsz] at hpp hz4 ⊢
  exact hQ x1 x2 _ tk2 hx1 hx2 (Heap.get?_push_of_some _ hz₃) (D1.frame _ _ _ hj1 fun b _ o e => Heap.get?_push_of_some _ e) (D2.frame _ _ _ sn2 fun b _ o e => Heap.get?_push_of_some _ e) hpp hz4 fun c o c1 c2 c3 e => Heap.get?_push_of_some _ (hk c o c1 c2 c3 e)
theorem next_end_held {Q : Fin → Shared → Prop} (S : ZipSep2 z TI TO i1 i2 fp1 fp2) (D1 : Draws prog w A i1 fp1 n1 P1 St1) (D2 : Draws prog w A i2 fp2 n2 P2 St2)
    (hz : IsZipHeld s.heap z TI TO T f) (hT : s.heap.get? T = some oT) (hTI : IsTupOf2 s.heap TI (.ref i1) (.ref i2)) (st1 : St1 i s.heap) (st2 : St2 i s.heap) (hle1 : i ≤ n1) (hle2 : i ≤ n2) (hend : i = n1 ∨ i = n2)
    (hE : ∀ h' tk e, (∀ c o, c ≠ z → c ≠ i1 → c ≠ i2 → s.heap.get? c = some o → h'.get? c = some o) → (∃ o, h'.get? e = some o ∧ o.cls = .type "StopIteration") → E (.ref e) { s with heap := h', toks := tk }) :
    wpAny (model prog w) A (Builtin.«zip.__next__» ⟨[.ref z], []⟩) Q E s := by
  obtain ⟨hp, g, d, tk0, os⟩ := s
  show wpAny _ _ (field (.ref z) 2 >>= _) _ _ _
  refine wpAny_bind (wpAny_field hz rfl (x := .bool false) rfl ?_)
  show wpAny _ _ (field (.ref z) 3 >>= _) _ _ _
  refine wpAny_bind (wpAny_field hz rfl (x := .ref TI) rfl ?_)
  refine wpAny_bind (wpAny_seqItems hTI rfl ?_)
  show wpAny _ _ (Builtin.SmallTypes.ownedTupleIsFree (.ref z) >>= _) _ _ _
  refine wpAny_bind (wpAny_tupleHeld_zip hz hT fun h₁ hz₁ hs₁ => ?_)
  replace hs₁ : Heap.SameBut z hp h₁ := hs₁
  simp only [Bool.false_eq_true, if_false]
  refine wpAny_bind ?_
  rw [← Array.forIn_toList]
  simp only [List.forIn_cons, List.forIn_nil]
  refine wpAny_bind (wpAny_bind (wpAny_holding ?_))
  show wpAny _ _ (Builtin.SmallTypes.nextOf (.ref i1) >>= _) _ _ ⟨h₁, g, d, tk0, os⟩
  by_cases hlt1 : i < n1
  · refine wpAny_bind (D1.item i _ _ _ hlt1 (D1.over st1 hs₁ S.zf1) fun x1 p1 tk1 hx1 sn1 hp1 => wpAny_pure ?_)
    replace hp1 : Heap.SameBut i1 h₁ p1 := hp1
    have hi2 : i = n2 := by omega
    refine wpAny_pure ?_
    refine wpAny_bind (wpAny_bind (wpAny_holding ?_))
    show wpAny _ _ (Builtin.SmallTypes.nextOf (.ref i2) >>= _) _ _ ⟨p1, g, d, tk1, os⟩
    refine wpAny_bind (D2.done ⟨p1, g, d, tk1, os⟩ _ _ (by rw [← hi2]; exact (D2.over (D2.over st2 hs₁ S.zf2) hp1 S.sep1_2)) fun q e hq he => ?_)
    exact hE q tk1 e (fun c o c1 c2 c3 x => hq _ _ c3 (hp1.extBut _ _ c2 (hs₁.extBut _ _ c1 x))) he
  · have hi1 : i = n1 := by omega
    refine wpAny_bind (D1.done ⟨h₁, g, d, tk0, os⟩ _ _ (by rw [← hi1]; exact (D1.over st1 hs₁ S.zf1)) fun q e hq he => ?_)
    exact hE q tk0 e (fun c o c1 c2 _ x => hq _ _ c2 (hs₁.extBut _ _ c1 x)) he
theorem pyNext_item_held {Q : Option Value → Shared → Prop} (S : ZipSep2 z TI TO i1 i2 fp1 fp2) (D1 : Draws prog w A.in1 i1 fp1 n1 P1 St1) (D2 : Draws prog w A.in1 i2 fp2 n2 P2 St2)
    (hz : IsZipHeld s.heap z TI TO T f) (hT : s.heap.get? T = some oT) (hTI : IsTupOf2 s.heap TI (.ref i1) (.ref i2)) (st1 : St1 i s.heap) (st2 : St2 i s.heap) (hlt1 : i < n1) (hlt2 : i < n2)
    (hQ : ∀ x1 x2 h' tk, P1 i x1 → P2 i x2 → IsZipHeld h' z TI TO T true → St1 (i + 1) h' → St2 (i + 1) h' → IsTupOf2 h' s.heap.objs.size x1 x2 → h'.objs.size = s.heap.objs.size + 1 →
      (∀ c o, c ≠ z → c ≠ i1 → c ≠ i2 → s.heap.get? c = some o → h'.get? c = some o) → Q (some (.ref s.heap.objs.size)) { s with heap := h', toks := tk }) :
    wpAny (model prog w) A (pyNext (.ref z)) Q E s := by
  have hTy : s.TypeIs (.ref z) "zip" := ⟨_, hz, rfl⟩
  unfold pyNext
  exact wpAny_bind (wpAny_attempt (wpAny_callSpecial?_slot (name := Str.ofString "__next__") hTy F.slot_zip_next
    (wpAny_call_entry F.slot_zip_next hTy F.entry_zip_next
      (next_item_held S D1 D2 hz hT hTI st1 st2 hlt1 hlt2 fun x1 x2 h' tk a1 a2 a3 a4 a5 a6 a7 a8 => wpAny_pure (hQ x1 x2 h' tk a1 a2 a3 a4 a5 a6 a7 a8)) (F.args_zip_next_1 _))))
theorem pyNext_end_held {Q : Option Value → Shared → Prop} (S : ZipSep2 z TI TO i1 i2 fp1 fp2) (D1 : Draws prog w A.in1 i1 fp1 n1 P1 St1) (D2 : Draws prog w A.in1 i2 fp2 n2 P2 St2)
    (hz : IsZipHeld s.heap z TI TO T f) (hT : s.heap.get? T = some oT) (hTI : IsTupOf2 s.heap TI (.ref i1) (.ref i2)) (st1 : St1 i s.heap) (st2 : St2 i s.heap) (hle1 : i ≤ n1) (hle2 : i ≤ n2) (hend : i = n1 ∨ i = n2)
    (hQ : ∀ h' tk, (∀ c o, c ≠ z → c ≠ i1 → c ≠ i2 → s.heap.get? c = some o → h'.get? c = some o) → Q none { s with heap := h', toks := tk }) : wpAny (model prog w) A (pyNext (.ref z)) Q E s := by
  have hTy : s.TypeIs (.ref z) "zip" := ⟨_, hz, rfl⟩
  unfold pyNext
  refine wpAny_bind (wpAny_attempt (wpAny_callSpecial?_slot (name := Str.ofString "__next__") hTy F.slot_zip_next
    (wpAny_call_entry F.slot_zip_next hTy F.entry_zip_next (next_end_held S D1 D2 hz hT hTI st1 st2 hle1 hle2 hend fun h' tk e hk he => ?_) (F.args_zip_next_1 _))))
  obtain ⟨o, ho, hc⟩ := he
  refine wpAny_bind (wpAny_isInstance (T := "StopIteration") (b := true) ⟨o, ho, hc⟩ isSubtype_stop ?_)
  exact wpAny_pure (hQ _ _ hk)
end

/-! ### list(zip(..)): the loop that fills the list -/
/-- the tuples that were made: new, apart, of the items in their order -/
structure Made (as bs : Array Value) (base : Nat) (h : Heap) (Ts : List Addr) : Prop where
  nodup : Ts.Nodup
  new : ∀ T ∈ Ts, base ≤ T ∧ T < h.objs.size
  at_ : ∀ (j : Nat) (T : Addr), Ts[j]? = some T → ∃ x y, as[j]? = some x ∧ bs[j]? = some y ∧ IsTupOf2 h T x y
theorem Made.nil {as bs : Array Value} {base : Nat} {h : Heap} : Made as bs base h [] := ⟨List.nodup_nil, (fun T hT => by cases hT), (fun j T hj => by cases hj)⟩
theorem Made.over {as bs : Array Value} {base : Nat} {h h' : Heap} {Ts : List Addr} (M : Made as bs base h Ts) (hs : h.objs.size ≤ h'.objs.size) (k : ∀ b o, base ≤ b → h.get? b = some o → h'.get? b = some o) : Made as bs base h' Ts :=
  ⟨M.nodup, fun T hT => ⟨(M.new T hT).1, Nat.lt_of_lt_of_le (M.new T hT).2 hs⟩, fun j T hj => let ⟨x, y, h1, h2, h3⟩ := M.at_ j T hj; ⟨x, y, h1, h2, k T _ (M.new T (List.mem_of_getElem? hj)).1 h3⟩⟩
theorem Made.push {as bs : Array Value} {base : Nat} {h h' : Heap} {Ts : List Addr} {x y : Value} (M : Made as bs base h Ts) (hb : base ≤ h.objs.size) (hx : as[Ts.length]? = some x) (hy : bs[Ts.length]? = some y) (hT : IsTupOf2 h' h.objs.size x y) (hs : h'.objs.size = h.objs.size + 1) (k : ∀ b o, base ≤ b → h.get? b = some o → h'.get? b = some o) : Made as bs base h' (Ts ++ [h.objs.size]) := by
  have M' := M.over (h' := h') (by omega) k
  refine ⟨List.nodup_append.mpr ⟨M.nodup, by simp, fun a ha b hb' e => ?_⟩, fun T hT' => ?_, fun j T hj => ?_⟩
  · rw [List.mem_singleton.mp hb'] at e
    have := (M.new a ha).2
    rw [e] at this
    exact absurd this (Nat.lt_irrefl _)
  · rcases List.mem_append.mp hT' with q | q
    · exact M'.new T q
    · rw [List.mem_singleton.mp q]
      exact ⟨hb, by rw [hs]; exact Nat.lt_succ_self _⟩
  · by_cases hl : j < Ts.length
    · rw [List.getElem?_append_left hl] at hj
      exact M'.at_ j T hj
    · rw [List.getElem?_append_right (by omega)] at hj
      have e : j - Ts.length = 0 := by
        cases e : j - Ts.length with
        | zero => rfl
        | succ m => rw [e] at hj; cases hj
      rw [e] at hj
      cases hj
      have ej : j = Ts.length := by omega
      rw [ej]
      exact ⟨x, y, hx, hy, hT⟩
/-- how zip stands when its next is to come -/
def Zst (z TI TO i1 i2 : Addr) (St1 St2 : Nat → Heap → Prop) (Ts : List Addr) (h : Heap) : Prop :=
  IsTupOf2 h TI (.ref i1) (.ref i2) ∧ St1 Ts.length h ∧ St2 Ts.length h ∧ ((IsZip h z TI TO .none ∧ ∃ a b, IsTupOf2 h TO a b) ∨ ∃ T f, T ∈ Ts ∧ IsZipHeld h z TI TO T f)
section
variable {prog : Program} {w : World} {A : Around} {z TI TO i1 i2 SS : Addr} {fp1 fp2 : List Addr} {as bs : Array Value} {St1 St2 : Nat → Heap → Prop} {base : Nat} {n : Nat}
theorem zst_over (S : ZipSep2 z TI TO i1 i2 fp1 fp2) (D1 : Draws prog w A i1 fp1 as.size (fun i v => as[i]? = some v) St1) (D2 : Draws prog w A i2 fp2 bs.size (fun i v => bs[i]? = some v) St2) {h h' : Heap} {Ts : List Addr} (st : Zst z TI TO i1 i2 St1 St2 Ts h) (n1 : SS ∉ fp1) (n2 : SS ∉ fp2) (nz : SS ≠ z) (nTI : SS ≠ TI) (nTO : SS ≠ TO)
    (k : ∀ b o, b ≠ SS → h.get? b = some o → h'.get? b = some o) : Zst z TI TO i1 i2 St1 St2 Ts h' := by
  obtain ⟨h1, h2, h3, h4⟩ := st
  refine ⟨k _ _ nTI.symm h1, D1.frame _ _ _ h2 fun b hb o e => k b o (fun q => n1 (q ▸ hb)) e, D2.frame _ _ _ h3 fun b hb o e => k b o (fun q => n2 (q ▸ hb)) e, ?_⟩
  rcases h4 with ⟨hz, a, b, hO⟩ | ⟨T, f, hT, hz⟩
  · exact .inl ⟨k _ _ nz.symm hz, a, b, k _ _ nTO.symm hO⟩
  · exact .inr ⟨T, f, hT, k _ _ nz.symm hz⟩
/-- the next tuple -/
theorem next_pair {E : Value → Shared → Prop} {Q : Option Value → Shared → Prop} {s : Shared} {Ts : List Addr} (S : ZipSep2 z TI TO i1 i2 fp1 fp2) (D1 : Draws prog w A.in1 i1 fp1 as.size (fun i v => as[i]? = some v) St1) (D2 : Draws prog w A.in1 i2 fp2 bs.size (fun i v => bs[i]? = some v) St2) (st : Zst z TI TO i1 i2 St1 St2 Ts s.heap) (M : Made as bs base s.heap Ts)
    (hb : base ≤ s.heap.objs.size) (bz : z < base) (bO : TO < base) (bI : TI < base) (b1 : i1 < base) (b2 : i2 < base) (l1 : Ts.length < as.size) (l2 : Ts.length < bs.size)
    (hQ : ∀ h' tk, Zst z TI TO i1 i2 St1 St2 (Ts ++ [s.heap.objs.size]) h' → Made as bs base h' (Ts ++ [s.heap.objs.size]) → s.heap.objs.size ≤ h'.objs.size → (∀ c o, c ≠ z → c ≠ TO → c ≠ i1 → c ≠ i2 → s.heap.get? c = some o → h'.get? c = some o) → Q (some (.ref s.heap.objs.size)) { s with heap := h', toks := tk }) :
    wpAny (model prog w) A (pyNext (.ref z)) Q E s := by
  obtain ⟨hTI, st1, st2, h4⟩ := st
  have far : ∀ {h' : Heap}, (∀ c o, c ≠ z → c ≠ TO → c ≠ i1 → c ≠ i2 → s.heap.get? c = some o → h'.get? c = some o) → ∀ b o, base ≤ b → s.heap.get? b = some o → h'.get? b = some o := fun k b o hb' e =>
    k b o (Nat.ne_of_gt (Nat.lt_of_lt_of_le bz hb')) (Nat.ne_of_gt (Nat.lt_of_lt_of_le bO hb')) (Nat.ne_of_gt (Nat.lt_of_lt_of_le b1 hb')) (Nat.ne_of_gt (Nat.lt_of_lt_of_le b2 hb')) e
  rcases h4 with ⟨hz, a, b, hO⟩ | ⟨T, f, hT, hz⟩
  · refine wpAny_pyNext_zipD2_item S D1 D2 hz hTI hO st1 st2 l1 l2 fun x1 x2 h' tk p1 p2 hz' _ st1' st2' hT' hs k => ?_
    exact hQ h' tk ⟨k _ _ S.TIz S.TITO S.TIi1 S.TIi2 hTI, by rw [List.length_append]; exact st1', by rw [List.length_append]; exact st2', .inr ⟨_, false, List.mem_append_right _ (List.mem_singleton.mpr rfl), hz'⟩⟩ (M.push hb p1 p2 hT' hs (far k)) (by omega) k
  · obtain ⟨j, hj⟩ := List.mem_iff_getElem?.mp hT
    obtain ⟨x0, y0, _, _, hTt⟩ := M.at_ j T hj
    refine pyNext_item_held S D1 D2 hz hTt hTI st1 st2 l1 l2 fun x1 x2 h' tk p1 p2 hz' st1' st2' hT' hs k => ?_
    have k' : ∀ c o, c ≠ z → c ≠ TO → c ≠ i1 → c ≠ i2 → s.heap.get? c = some o → h'.get? c = some o := fun c o c1 _ c3 c4 e => k c o c1 c3 c4 e
    exact hQ h' tk ⟨k _ _ S.TIz S.TIi1 S.TIi2 hTI, by rw [List.length_append]; exact st1', by rw [List.length_append]; exact st2', .inr ⟨T, true, List.mem_append_left _ hT, hz'⟩⟩ (M.push hb p1 p2 hT' hs (far k')) (by omega) k'
theorem next_none {E : Value → Shared → Prop} {Q : Option Value → Shared → Prop} {s : Shared} {Ts : List Addr} (S : ZipSep2 z TI TO i1 i2 fp1 fp2) (D1 : Draws prog w A.in1 i1 fp1 as.size (fun i v => as[i]? = some v) St1) (D2 : Draws prog w A.in1 i2 fp2 bs.size (fun i v => bs[i]? = some v) St2) (st : Zst z TI TO i1 i2 St1 St2 Ts s.heap) (M : Made as bs base s.heap Ts)
    (l1 : Ts.length ≤ as.size) (l2 : Ts.length ≤ bs.size) (he : Ts.length = as.size ∨ Ts.length = bs.size)
    (hQ : ∀ h' tk, (∀ c o, c ≠ z → c ≠ TO → c ≠ i1 → c ≠ i2 → s.heap.get? c = some o → h'.get? c = some o) → Q none { s with heap := h', toks := tk }) :
    wpAny (model prog w) A (pyNext (.ref z)) Q E s := by
  obtain ⟨hTI, st1, st2, h4⟩ := st
  rcases h4 with ⟨hz, a, b, hO⟩ | ⟨T, f, hT, hz⟩
  · exact wpAny_pyNext_zipD2_end S D1 D2 hz hTI hO st1 st2 l1 l2 he fun h' tk k => hQ h' tk k
  · obtain ⟨j, hj⟩ := List.mem_iff_getElem?.mp hT
    obtain ⟨x0, y0, _, _, hTt⟩ := M.at_ j T hj
    exact pyNext_end_held S D1 D2 hz hTt hTI st1 st2 l1 l2 he fun h' tk k => hQ h' tk fun c o c1 _ c3 c4 e => k c o c1 c3 c4 e
end
section
variable {prog : Program} {w : World} {A : Around} {R : Result → Shared → Prop} {z TI TO i1 i2 SS : Addr} {fp1 fp2 : List Addr} {as bs : Array Value} {St1 St2 : Nat → Heap → Prop} {base : Nat} {n : Nat}
theorem loop_zip (S : ZipSep2 z TI TO i1 i2 fp1 fp2) (D1 : Draws prog w A.in1.in1 i1 fp1 as.size (fun i v => as[i]? = some v) St1) (D2 : Draws prog w A.in1.in1 i2 fp2 bs.size (fun i v => bs[i]? = some v) St2)
    (hn1 : as.size = n) (hn2 : bs.size = n) (hn : n ≤ 1000000) (bz : z < base) (bO : TO < base) (bI : TI < base) (b1 : i1 < base) (b2 : i2 < base) (bS : SS < base) (s1 : SS ∉ fp1) (s2 : SS ∉ fp2) (nz : SS ≠ z) (nTI : SS ≠ TI) (nTO : SS ≠ TO) (ni1 : SS ≠ i1) (ni2 : SS ≠ i2) (res : Value) :
    ∀ (k : Nat) (s : Shared) (Ts : List Addr) (c : Nat), n - Ts.length = k → Ts.length ≤ n → base ≤ s.heap.objs.size → Zst z TI TO i1 i2 St1 St2 Ts s.heap → Made as bs base s.heap Ts → s.heap.get? SS = some { cls := .type "list", dict := none, data := .seq (Ts.map Value.ref).toArray c, slots := #[] } →
    (∀ h' tk Ts' c', (∀ c o, c ≠ z → c ≠ TO → c ≠ i1 → c ≠ i2 → c ≠ SS → s.heap.get? c = some o → h'.get? c = some o) → Made as bs base h' Ts' → Ts'.length = n → h'.get? SS = some { cls := .type "list", dict := none, data := .seq (Ts'.map Value.ref).toArray c', slots := #[] } → R (.ok (.ret res)) { s with heap := h', toks := tk }) →
    codeAny (model prog w) A (.builtin "list.extend.loop" ⟨[.ref SS, .ref z, res], []⟩) R s := by
  have line : (1000000 : Nat) < sizeLine := by rw [sizeLine_eq]; decide
  intro k
  induction k with
  | zero =>
    intro s Ts c hk hle hb st M hS hR
    have hlen : Ts.length = n := by omega
    refine codeAny_builtin F.entry_extend_loop ?_
    rw [Around.under_plainId F.plain_extend_loop _]
    show wpAny _ A.in1 (pyNext (.ref z) >>= _) _ _ s
    refine wpAny_bind (next_none S D1 D2 st M (by omega) (by omega) (.inl (by omega)) fun h' tk k => ?_)
    have kk : ∀ b o, base ≤ b → s.heap.get? b = some o → h'.get? b = some o := fun b o hb' e => k b o (Nat.ne_of_gt (Nat.lt_of_lt_of_le bz hb')) (Nat.ne_of_gt (Nat.lt_of_lt_of_le bO hb')) (Nat.ne_of_gt (Nat.lt_of_lt_of_le b1 hb')) (Nat.ne_of_gt (Nat.lt_of_lt_of_le b2 hb')) e
    have M' : Made as bs base h' Ts := by
      refine ⟨M.nodup, fun T hT => ⟨(M.new T hT).1, ?_⟩, fun j T hj => let ⟨x, y, h1, h2, h3⟩ := M.at_ j T hj; ⟨x, y, h1, h2, kk T _ (M.new T (List.mem_of_getElem? hj)).1 h3⟩⟩
      obtain ⟨j, hj⟩ := List.mem_iff_getElem?.mp hT
      obtain ⟨x, y, _, _, h3⟩ := M.at_ j T hj
      exact Heap.lt_size (kk T _ (M.new T hT).1 h3)
    exact wpAny_pure (hR h' tk Ts c (fun b o c1 c2 c3 c4 _ e => k b o c1 c2 c3 c4 e) M' hlen (k _ _ nz nTO ni1 ni2 hS))
  | succ k ih =>
    intro s Ts c hk hle hb st M hS hR
    refine codeAny_builtin F.entry_extend_loop ?_
    rw [Around.under_plainId F.plain_extend_loop _]
    show wpAny _ A.in1 (pyNext (.ref z) >>= _) _ _ s
    refine wpAny_bind (next_pair S D1 D2 st M hb bz bO bI b1 b2 (by omega) (by omega) fun h' tk st' M' hsz k' => ?_)
    have hS' := k' _ _ nz nTO ni1 ni2 hS
    show wpAny _ A.in1 (updateSeq SS (·.push (.ref s.heap.objs.size)) >>= _) _ _ _
    refine wpAny_bind ?_
    have hlen : (Ts.map Value.ref).toArray.size = Ts.length := by simp
    have oth : ∀ b o, b ≠ SS → h'.get? b = some o → (h'.update SS (Obj.mapSeq (·.push (.ref s.heap.objs.size)))).get? b = some o := fun b o hb' e => (Heap.get?_update_other _ _ (Ne.symm hb')).trans e
    have hS2 := Heap.get?_update_self (Obj.mapSeq (·.push (Value.ref s.heap.objs.size))) hS' rfl
    have hTm : ((Ts ++ [s.heap.objs.size]).map Value.ref).toArray = (Ts.map Value.ref).toArray.push (.ref s.heap.objs.size) := by simp
    refine wpAny_updateSeq hS' rfl (wpAny_pure ⟨plainId_quiet F.plain_extend_loop _, ih { s with heap := h'.update SS (Obj.mapSeq (·.push (.ref s.heap.objs.size))), toks := tk } (Ts ++ [s.heap.objs.size]) _ (by rw [List.length_append]; simp; omega) (by rw [List.length_append]; simp; omega) ?_ ?_ ?_ (by rw [hTm]; exact hS2) fun h'' tk'' Ts' c' k'' M'' hl'' hS'' => ?_⟩)
      (by rw [hlen]; omega) (by show ((Ts.map Value.ref).toArray.push (.ref s.heap.objs.size)).size ≤ sizeLine + 1; rw [Array.size_push, hlen]; omega)
    · show base ≤ (h'.update SS _).objs.size
      rw [Heap.size_update]
      omega
    · exact zst_over S D1 D2 st' s1 s2 nz nTI nTO oth
    · exact M'.over (by rw [Heap.size_update]; exact Nat.le_refl _) fun b o hb' e => oth b o (Nat.ne_of_gt (Nat.lt_of_lt_of_le bS hb')) e
    · exact hR h'' tk'' Ts' c' (fun b o c1 c2 c3 c4 c5 e => k'' b o c1 c2 c3 c4 c5 (oth b o c5 (k' b o c1 c2 c3 c4 e))) M'' hl'' hS''
end
theorem zip_no_len : typeLookup (.type "zip") "__len__" = pure none := am_miss_of_fast (by decide +kernel)
theorem zip_no_hint : typeLookup (.type "zip") "__length_hint__" = pure none := am_miss_of_fast (by decide +kernel)
section
variable {prog : Program} {w : World} {A : Around} {s : Shared} {R : Result → Shared → Prop} {z TI TO i1 i2 : Addr} {fp1 fp2 : List Addr} {as bs : Array Value} {St1 St2 : Nat → Heap → Prop} {n : Nat}
theorem extend_zip (S : ZipSep2 z TI TO i1 i2 fp1 fp2) (D1 : Draws prog w A.in1.in1 i1 fp1 as.size (fun i v => as[i]? = some v) St1) (D2 : Draws prog w A.in1.in1 i2 fp2 bs.size (fun i v => bs[i]? = some v) St2)
    (hn1 : as.size = n) (hn2 : bs.size = n) (hn : n ≤ 1000000) (SS : Addr) (bz : z < SS) (bO : TO < SS) (bI : TI < SS) (b1 : i1 < SS) (b2 : i2 < SS) (bS : SS < s.heap.objs.size) (s1 : SS ∉ fp1) (s2 : SS ∉ fp2) (res : Value) (c₀ : Nat)
    (hz : IsZip s.heap z TI TO .none) (hO : ∃ a b, IsTupOf2 s.heap TO a b) (hTI : IsTupOf2 s.heap TI (.ref i1) (.ref i2)) (st1 : St1 0 s.heap) (st2 : St2 0 s.heap)
    (hS : s.heap.get? SS = some { cls := .type "list", data := .seq #[] c₀ })
    (hR : ∀ h' tk Ts' c', (∀ c o, c ≠ z → c ≠ TO → c ≠ i1 → c ≠ i2 → c ≠ SS → s.heap.get? c = some o → h'.get? c = some o) → Made as bs (SS + 1) h' Ts' → Ts'.length = n → h'.get? SS = some { cls := .type "list", dict := none, data := .seq (Ts'.map Value.ref).toArray c', slots := #[] } → R (.ok (.ret res)) { s with heap := h', toks := tk }) :
    wpAny (model prog w) A.in1 (Builtin.List.listExtendWith (.ref SS) (.ref z) res)
      (fun fin s' => match fin with | .done f => R (.ok f) s' | .again c' => c'.quiet = true ∧ codeAny (model prog w) A c' R s') (fun e s' => R (.error e) s') s := by
  have hSz : SS ≠ z := Nat.ne_of_gt bz
  have hT : s.TypeIs (.ref z) "zip" := ⟨_, hz, rfl⟩
  unfold Builtin.List.listExtendWith
  refine wpAny_bind (wpAny_typeOf hT ?_)
  have h1 : Builtin.List.listSameRef (.ref SS) (.ref z) = false := by simp [Builtin.List.listSameRef, hSz]
  have h2 : (Value.type "zip" == Value.type "list") = false := by decide
  have h3 : (Value.type "zip" == Value.type "tuple") = false := by decide
  simp only [h1, h2, h3, Bool.or_false, Bool.false_eq_true, if_false]
  refine wpAny_bind (wpAny_pyIter_zip hz ?_)
  refine wpAny_bind (wpAny_holding ?_)
  unfold Builtin.List.listLengthHint
  refine wpAny_bind (wpAny_specialOf hT zip_no_len ?_)
  show wpAny _ A.in1 (specialOf (Value.ref z) (Str.ofString "__length_hint__") >>= _) _ _ _
  refine wpAny_bind (wpAny_specialOf hT zip_no_hint ?_)
  refine wpAny_pure ?_
  show wpAny _ A.in1 (rule "list.extend.makes-room" >>= fun _ => Builtin.List.listTouch (.ref SS) >>= fun _ =>
    again (.builtin "list.extend.loop" ⟨[.ref SS, .ref z, res], []⟩)) _ _ _
  refine wpAny_bind (wpAny_rule ?_)
  refine wpAny_bind ?_
  show wpAny _ A.in1 (updateSeq SS (·.push .none) >>= fun _ => updateSeq SS (·.pop)) _ _ _
  refine wpAny_bind (wpAny_updateSeq hS rfl ?_)
  have hS₂ := Heap.get?_update_self (Obj.mapSeq (·.push Value.none)) hS rfl
  refine wpAny_updateSeq (hz := by seq_fits) hS₂ rfl ?_
  have hS₃ := Heap.get?_update_self (Obj.mapSeq (·.pop)) hS₂ rfl
  have oth : ∀ b o, b ≠ SS → s.heap.get? b = some o → ((s.heap.update SS (Obj.mapSeq (·.push Value.none))).update SS (Obj.mapSeq (·.pop))).get? b = some o :=
    fun b o hb e => (Heap.get?_update_other _ _ (Ne.symm hb)).trans ((Heap.get?_update_other _ _ (Ne.symm hb)).trans e)
  have st0 : Zst z TI TO i1 i2 St1 St2 [] s.heap := ⟨hTI, st1, st2, .inl ⟨hz, hO⟩⟩
  have hsz : ((s.heap.update SS (Obj.mapSeq (·.push Value.none))).update SS (Obj.mapSeq (·.pop))).objs.size = s.heap.objs.size := by rw [Heap.size_update, Heap.size_update]
  refine wpAny_pure ⟨plainId_quiet F.plain_extend_loop _, loop_zip (base := SS + 1) S D1 D2 hn1 hn2 hn (Nat.lt_succ_of_lt bz) (Nat.lt_succ_of_lt bO) (Nat.lt_succ_of_lt bI) (Nat.lt_succ_of_lt b1) (Nat.lt_succ_of_lt b2) (Nat.lt_succ_self _) s1 s2 hSz (Nat.ne_of_gt bI) (Nat.ne_of_gt bO) (Nat.ne_of_gt b1) (Nat.ne_of_gt b2) res n _ [] _ rfl (Nat.zero_le _) (by show SS + 1 ≤ Array.size _; rw [hsz]; exact bS) (zst_over S D1 D2 st0 s1 s2 hSz (Nat.ne_of_gt bI) (Nat.ne_of_gt bO) oth) Made.nil hS₃ fun h' tk Ts' c' k M hl hS' => ?_⟩
  exact hR h' tk Ts' c' (fun b o c1 c2 c3 c4 c5 e => k b o c1 c2 c3 c4 c5 (oth b o c5 e)) M hl hS'
theorem call_list_zip {E : Value → Shared → Prop} {Q : Value → Shared → Prop} (S : ZipSep2 z TI TO i1 i2 fp1 fp2) (D1 : Draws prog w A.in1.in1.in1 i1 fp1 as.size (fun i v => as[i]? = some v) St1) (D2 : Draws prog w A.in1.in1.in1 i2 fp2 bs.size (fun i v => bs[i]? = some v) St2)
    (hn1 : as.size = n) (hn2 : bs.size = n) (hn : n ≤ 1000000) (bz : z < s.heap.objs.size) (bO : TO < s.heap.objs.size) (bI : TI < s.heap.objs.size) (b1 : i1 < s.heap.objs.size) (b2 : i2 < s.heap.objs.size) (s1 : ∀ b ∈ fp1, b < s.heap.objs.size) (s2 : ∀ b ∈ fp2, b < s.heap.objs.size)
    (hz : IsZip s.heap z TI TO .none) (hO : ∃ a b, IsTupOf2 s.heap TO a b) (hTI : IsTupOf2 s.heap TI (.ref i1) (.ref i2)) (st1 : St1 0 s.heap) (st2 : St2 0 s.heap)
    (hQ : ∀ h' tk Ts' c', (∀ c o, c ≠ z → c ≠ TO → c ≠ i1 → c ≠ i2 → s.heap.get? c = some o → h'.get? c = some o) → Made as bs (s.heap.objs.size + 1) h' Ts' → Ts'.length = n → h'.get? s.heap.objs.size = some { cls := .type "list", dict := none, data := .seq (Ts'.map Value.ref).toArray c', slots := #[] } → Q (.ref s.heap.objs.size) { s with heap := h', toks := tk }) :
    wpAny (model prog w) A (call (.type "list") [.ref z]) Q E s := by
  refine callType_codes (Q₁ := fun obj s₁ => obj = .ref s.heap.objs.size ∧ s₁ = { s with heap := s.heap.push { cls := .type "list", data := .seq #[] } }) F.called_list (F.typeCall_list_1 _) F.entry_list_init
    (code_list_new _ ⟨rfl, rfl⟩) fun obj s₁ h₁ => ?_
  obtain ⟨rfl, rfl⟩ := h₁
  have hS : (s.heap.push { cls := .type "list", data := .seq #[] }).get? s.heap.objs.size = some { cls := .type "list", data := .seq #[] } := Heap.get?_push_size _ rfl
  have nfp1 : s.heap.objs.size ∉ fp1 := fun q => Nat.lt_irrefl _ (s1 _ q)
  have nfp2 : s.heap.objs.size ∉ fp2 := fun q => Nat.lt_irrefl _ (s2 _ q)
  refine ⟨⟨_, hS, rfl⟩, F.args_list_init_2 _ _, ?_⟩
  show wpAny _ A.in1.in1 (do let old ← Builtin.List.listItems (.ref s.heap.objs.size); Builtin.List.listUpdate (.ref s.heap.objs.size) (fun _ => #[]); letGo old.toList.reverse; Builtin.List.listExtendWith (.ref s.heap.objs.size) (.ref z) .none) _ _ _
  refine wpAny_bind ?_
  unfold Builtin.List.listItems
  refine wpAny_bind (wpAny_seqItems hS rfl (wpAny_pure ?_))
  show wpAny _ A.in1.in1 (updateSeq s.heap.objs.size (fun _ => #[]) >>= fun _ => letGo (#[] : Array Value).toList.reverse >>= fun _ => Builtin.List.listExtendWith (.ref s.heap.objs.size) (.ref z) .none) _ _ _
  refine wpAny_bind (wpAny_updateSeq hS rfl ?_)
  have hS₂ := Heap.get?_update_self (Obj.mapSeq (fun _ => (#[] : Array Value))) hS rfl
  have oth : ∀ b o, b ≠ s.heap.objs.size → s.heap.get? b = some o → ((s.heap.push { cls := .type "list", data := .seq #[] }).update s.heap.objs.size (Obj.mapSeq (fun _ => (#[] : Array Value)))).get? b = some o :=
    fun b o hb e => (Heap.get?_update_other _ _ (Ne.symm hb)).trans (Heap.get?_push_of_some _ e)
  refine wpAny_bind (wpAny_letGo ?_)
  have o' : ∀ b o, b < s.heap.objs.size → s.heap.get? b = some o → _ := fun b o hb e => oth b o (Nat.ne_of_lt hb) e
  obtain ⟨a, b, hO⟩ := hO
  refine extend_zip (A := A.in1) (n := n) S D1 D2 hn1 hn2 hn s.heap.objs.size bz bO bI b1 b2 (by show s.heap.objs.size < Array.size _; rw [Heap.size_update, Heap.size_push]; exact Nat.lt_succ_self _) nfp1 nfp2 .none _ (o' _ _ bz hz) ⟨a, b, o' _ _ bO hO⟩ (o' _ _ bI hTI) (D1.frame _ _ _ st1 fun b hb o e => o' b o (s1 b hb) e) (D2.frame _ _ _ st2 fun b hb o e => o' b o (s2 b hb) e) hS₂ fun h' tk Ts' c' k M hl hS' => ?_
  exact ⟨rfl, hQ h' tk Ts' c' (fun b o c1 c2 c3 c4 e => k b o c1 c2 c3 c4 (Nat.ne_of_lt (Heap.lt_size e)) (o' b o (Heap.lt_size e) e)) M hl hS'⟩
end
end KZ

namespace KB
open PySem PySem.Spec PyProof.Rows L2 KZ
theorem sep2 {sz a b : Addr} (ha : a < sz) (hb : b < sz) : ZipSep2 (sz + 4) (sz + 2) (sz + 3) sz (sz + 1) [sz, a] [sz + 1, b] := by
  have k : ∀ i j : Nat, i ≠ j → (sz + i : Nat) ≠ sz + j := fun i j h e => h (Nat.add_left_cancel e)
  have n : ∀ (c : Addr) (i : Nat), c < sz → (sz + i : Nat) ≠ c := fun c i h => Nat.ne_of_gt (Nat.lt_of_lt_of_le h (Nat.le_add_right _ _))
  have m1 : ∀ i : Nat, i ≠ 0 → (sz + i : Addr) ∉ [sz, a] := fun i h q => by
    rcases List.mem_cons.mp q with e | q
    · exact k i 0 h e
    · exact n a i ha (List.mem_singleton.mp q)
  have m2 : ∀ i : Nat, i ≠ 1 → (sz + i : Addr) ∉ [(sz + 1 : Addr), b] := fun i h q => by
    rcases List.mem_cons.mp q with e | q
    · exact k i 1 h e
    · exact n b i hb (List.mem_singleton.mp q)
  exact ⟨k 2 4 (by decide), k 3 4 (by decide), k 2 3 (by decide), k 2 0 (by decide), List.mem_cons_self .., m1 4 (by decide), m1 3 (by decide), k 2 1 (by decide), List.mem_cons_self .., m2 4 (by decide), m2 3 (by decide), m2 0 (by decide), m1 1 (by decide)⟩
section
variable {X : Cx} {pins : List (Addr × Obj)} {σ : L2.St} {H : Hp} {s : Shared}
/-- where zip may draw from: a list or a tuple -/
theorem zsrc {a : Addr} {xs : List V} (I : Inv X pins σ H s) (h : SqL X.K H a xs ∨ SqT X.K H a xs) : ∃ (its : List Value) (o : Obj) (H0 : Heap → Prop), Vals xs its ∧ Begins (.ref a) o H0 ∧ H0 s.heap ∧ a < s.heap.objs.size ∧
    ∀ (A : Around) (it : Addr), A.handled = none → a ≠ it → ∃ St : Nat → Heap → Prop, Draws X.prog X.w A it [it, a] its.toArray.size (fun i v => its.toArray[i]? = some v) St ∧ ∀ h', H0 h' → h'.get? it = some o → St 0 h' := by
  rcases h with h | h
  · obtain ⟨its, rv, p, _⟩ := I.list h
    exact ⟨its, _, _, rv, begins_list a its.toArray, p.isList, p.lt, fun A it hh hne => ⟨_, Draws.list hh it a hne its.toArray, fun h' hl hi => ⟨⟨_, hi, rfl, rfl⟩, hl⟩⟩⟩
  · obtain ⟨its, rv, p, _⟩ := I.tuple h
    have lt : a < s.heap.objs.size := by obtain ⟨o, ho, _⟩ := id p; exact Heap.lt_size ho
    exact ⟨its, _, _, rv, begins_tuple a its.toArray, (show s.heap.IsTuple a its.toArray from p), lt, fun A it hh hne => ⟨_, Draws.tuple hh it a hne its.toArray, fun h' hl hi => ⟨⟨_, hi, rfl, rfl⟩, hl⟩⟩⟩
theorem un_add {fs ex : List Addr} {H H1 : Hp} {h h1 : Heap} {a : Addr} {o : HO} (u : Un fs ex H H1 h h1) (hp : h.objs.size ≤ a) (hn : H1 a = none) : Un fs ex H (upd H1 a o) h h1 where
  keep := u.keep
  slot := u.slot
  free := fun b ob e n x => by
    rw [upd_ne (Nat.ne_of_lt (Nat.lt_of_lt_of_le (Heap.lt_size e) hp))]
    exact u.free b ob e n x
  there := u.there
  tups := fun b xs e => by
    have q := u.tups b xs e
    rw [upd_ne (ne_of_none q hn)]
    exact q
  frzs := fun b o u' e => by
    have q := u.frzs b o u' e
    rw [upd_ne (ne_of_none q hn)]
    exact q
  tbls := fun b ps e => by
    obtain ⟨more, q⟩ := u.tbls b ps e
    exact ⟨more, by rw [upd_ne (ne_of_none q hn)]; exact q⟩
theorem vals_ref : ∀ ts : List Addr, Vals (ts.map V.ref) (ts.map Value.ref)
  | [] => .nil
  | t :: r => .cons rfl (vals_ref r)
/-- the tuples taken up, one after another -/
theorem took {P : Program} {w : World} {fs : List Addr} {H : Hp} {h0 h : Heap} {base : Nat} {Ts : List Addr} {xs ys : List V} {its its2 : List Value} (k : ∀ b o, h0.get? b = some o → h.get? b = some o) (ok : HOk P w H h0) (M : Made its.toArray its2.toArray base h Ts) (hb : h0.objs.size ≤ base) (rx : Vals xs its) (ry : Vals ys its2) :
    ∀ j, j ≤ Ts.length → ∃ H', Un fs [] H H' h0 h ∧ HOk P w H' h ∧ Same H H' ∧ (∀ i, i < j → ∀ t x y, Ts[i]? = some t → xs[i]? = some x → ys[i]? = some y → H' t = some (.tup [x, y])) ∧ ∀ a, H' a ≠ none → H a ≠ none ∨ ∃ i, i < j ∧ Ts[i]? = some a
  | 0, _ => ⟨H, Un.kept k, ok.kept k, fun _ _ e => e, fun i hi => absurd hi (Nat.not_lt_zero _), fun a ha => .inl ha⟩
  | j + 1, hj => by
    obtain ⟨H', u, ok', sm, f, g⟩ := took k ok M hb rx ry j (Nat.le_of_succ_le hj)
    have hjl : j < Ts.length := hj
    have ht : Ts[j]? = some Ts[j] := List.getElem?_eq_getElem hjl
    obtain ⟨v, v2, hv, hv2, hT⟩ := M.at_ j _ ht
    have hv' : its[j]? = some v := by simpa using hv
    have hv2' : its2[j]? = some v2 := by simpa using hv2
    have lx := rx.length
    have ly := ry.length
    have jx : j < xs.length := by have := (List.getElem?_eq_some_iff.mp hv').1; omega
    have jy : j < ys.length := by have := (List.getElem?_eq_some_iff.mp hv2').1; omega
    obtain ⟨v', hv'', r1⟩ := rx.get (List.getElem?_eq_getElem jx)
    obtain ⟨v2', hv2'', r2⟩ := ry.get (List.getElem?_eq_getElem jy)
    rw [hv'] at hv''
    rw [hv2'] at hv2''
    cases hv''
    cases hv2''
    have hge : h0.objs.size ≤ Ts[j] := Nat.le_trans hb (M.new _ (List.getElem_mem hjl)).1
    have hn : H' Ts[j] = none := by
      refine Classical.byContradiction fun z => ?_
      rcases g _ z with q | ⟨i, hi, q⟩
      · exact q (ok.fresh hge)
      · have il := (List.getElem?_eq_some_iff.mp q).1
        have e := (List.getElem?_eq_some_iff.mp q).2
        have := (List.pairwise_iff_getElem.mp M.nodup i j il hjl hi)
        exact this e
    refine ⟨upd H' Ts[j] (.tup [xs[j], ys[j]]), un_add u hge hn, HOk.laidN ok' (fun _ _ e => e) hn ⟨by show 2 ≤ sizeLine; rw [sizeLine_eq]; decide, [v, v2], .cons r1 (.cons r2 .nil), ⟨_, hT, rfl, _, rfl⟩⟩, sm.trans (same_upd hn), fun i hi t x y h1 h2 h3 => ?_, fun a ha => ?_⟩
    · by_cases e : i = j
      · subst e
        rw [ht] at h1
        cases h1
        rw [List.getElem?_eq_getElem jx] at h2
        rw [List.getElem?_eq_getElem jy] at h3
        cases h2
        cases h3
        exact upd_same
      · have q := f i (by omega) t x y h1 h2 h3
        rw [upd_ne (ne_of_none q hn)]
        exact q
    · by_cases e : a = Ts[j]
      · exact .inr ⟨j, Nat.lt_succ_self _, by rw [e]; exact ht⟩
      · rw [upd_ne e] at ha
        rcases g a ha with q | ⟨i, hi, q⟩
        · exact .inl q
        · exact .inr ⟨i, by omega, q⟩
end
section
variable {X : Cx} {e e2 : Expr} {ta : TA} {p p2 pos pos2 : Pos}
/-- list(zip(x, y)), x and y lists or tuples of one length -/
def tZipL (K : PySem.W.Frag) (ta : TA) : TE := fun σ H Q => ta σ H fun vs H1 => ∃ (a b : Addr) (xs ys : List V), vs = [.ref a, .ref b] ∧ (SqL K H1 a xs ∨ SqT K H1 a xs) ∧ (SqL K H1 b ys ∨ SqT K H1 b ys) ∧ xs.length = ys.length ∧ xs.length ≤ 1000000 ∧
  ∀ (H' : Hp) (l : Addr) (ts : List Addr), Same H1 H' → H' l = some (.lst (ts.map V.ref)) → ts.length = xs.length → (∀ (i : Nat) (t : Addr) (x y : V), ts[i]? = some t → xs[i]? = some x → ys[i]? = some y → H' t = some (.tup [x, y])) → Q (.ref l) H'
theorem pe_listzip (hc : X.calm = true) (hgl : Gl X "list") (hml : X.mg "list" = none) (hgz : Gl X "zip") (hmz : X.mg "zip" = none) (ha : PA X [e, e2] ta)
    (hs2 : starEach [e, e2] X.env = (false, eval e X.env) :: starEach [e2] X.env := by rfl) (hpl2 : (backTo pos2 (starEach [e2] X.env)).any (·.1) = false := by rfl)
    (hs : starEach [.Call (.Name "zip" p2) [e, e2] [] pos2] X.env = (false, eval (.Call (.Name "zip" p2) [e, e2] [] pos2) X.env) :: starEach [] X.env := by rfl) (hpl : (backTo pos (starEach [] X.env)).any (·.1) = false := by rfl) :
    PE X (.Call (.Name "list" p) [.Call (.Name "zip" p2) [e, e2] [] pos2] [] pos) (tZipL X.K ta) := by
  refine ⟨fun pins s σ H Q I h => ?_⟩
  refine wpAny_Call_Name_kw (ld_blt I hgl hml (u := .type "list") (by decide +kernel) ?_)
  refine PyProof.Rows.callWith_type1 ?_ hs hpl
  rw [hs]
  show wpAny _ _ (spliced ((false, eval (.Call (.Name "zip" p2) [e, e2] [] pos2) X.env) :: backTo pos (starEach [] X.env))) _ _ s
  refine Calls.spliced_cons ?_
  refine wpAny_Call_Name_kw (ld_blt I hgz hmz PyProof.Rows.boot_zip ?_)
  refine PyProof.Rows.callWith_type1 (thn (ha.run pos2 pins s σ H _ I h) fun us s1 ⟨vs, H1, I1, r1, q1⟩ => ?_) hs2 hpl2
  obtain ⟨a, b, xs, ys, ex, hqa, hqb, hlen, hmil, q⟩ := q1
  subst ex
  cases r1 with
  | cons r rr =>
  cases rr with
  | cons r' rr =>
  cases rr
  cases r
  cases r'
  obtain ⟨its, o1, P1, rx, B1, c1, la, D1⟩ := zsrc I1 hqa
  obtain ⟨its2, o2, P2, ry, B2, c2, lb, D2⟩ := zsrc I1 hqb
  have lx := rx.length
  have ly := ry.length
  refine zip_begins2 B1 B2 c1 c2 fun h' hz hTI hTO g1 g2 hsz hk => ?_
  refine Calls.spliced_nil ?_
  have hh : X.A.in1.in1.in1.handled = none := I1.ok.hd hc
  have hS := sep2 la lb
  have na : a ≠ s1.heap.objs.size := Nat.ne_of_lt la
  have nb : b ≠ s1.heap.objs.size + 1 := Nat.ne_of_lt (Nat.lt_succ_of_lt lb)
  obtain ⟨St1, E1, F1⟩ := D1 X.A.in1.in1.in1 s1.heap.objs.size hh na
  obtain ⟨St2, E2, F2⟩ := D2 X.A.in1.in1.in1 (s1.heap.objs.size + 1) hh nb
  have up : ∀ c : Addr, c < s1.heap.objs.size → c < h'.objs.size := fun c hc' => by rw [hsz]; exact Nat.lt_of_lt_of_le hc' (Nat.le_add_right _ _)
  have upi : ∀ i : Nat, i < 5 → (s1.heap.objs.size + i : Addr) < h'.objs.size := fun i hi => by rw [hsz]; exact Nat.add_lt_add_left hi _
  refine call_list_zip (s := { s1 with heap := h' }) (n := its.length) hS E1 E2 (by simp) (by simp; omega) (by omega) (upi 4 (by decide)) (upi 3 (by decide)) (upi 2 (by decide)) (upi 0 (by decide)) (upi 1 (by decide))
    (fun c hc' => by
      rcases List.mem_cons.mp hc' with z | z
      · rw [z]; exact upi 0 (by decide)
      · rw [List.mem_singleton.mp z]; exact up a la)
    (fun c hc' => by
      rcases List.mem_cons.mp hc' with z | z
      · rw [z]; exact upi 1 (by decide)
      · rw [List.mem_singleton.mp z]; exact up b lb)
    hz ⟨_, _, hTO⟩ hTI (F1 h' (B1.keeps _ _ c1 hk) g1) (F2 h' (B2.keeps _ _ c2 hk) g2) fun h2 tk Ts c' k M hl hS2 => ?_
  have old : ∀ c o, s1.heap.get? c = some o → h2.get? c = some o := fun c o e => by
    have lt := Heap.lt_size e
    have n : ∀ i : Nat, c ≠ s1.heap.objs.size + i := fun i => Nat.ne_of_lt (Nat.lt_of_lt_of_le lt (Nat.le_add_right _ _))
    exact k c o (n 4) (n 3) (n 0) (n 1) (hk c o e)
  have hbase : s1.heap.objs.size ≤ h'.objs.size + 1 := by rw [hsz]; omega
  obtain ⟨H2, u, ok, sm, f, g⟩ := took old I1.hok M hbase rx ry Ts.length (Nat.le_refl _)
  have hlge : s1.heap.objs.size ≤ h'.objs.size := by rw [hsz]; omega
  have hln : H2 h'.objs.size = none := by
    refine Classical.byContradiction fun z => ?_
    rcases g _ z with q' | ⟨i, _, q'⟩
    · exact q' (I1.hok.fresh hlge)
    · exact absurd (M.new _ (List.mem_of_getElem? q')).1 (Nat.not_succ_le_self _)
  have hTl : Ts.length ≤ sizeLine := by rw [sizeLine_eq]; omega
  have ok2 := HOk.laidN (a := h'.objs.size) (o := .lst (Ts.map V.ref)) ok (fun _ _ e => e) hln ⟨by rw [List.length_map]; exact hTl, Ts.map Value.ref, c', vals_ref Ts, hS2⟩
  have I2 := I1.un (t' := tk) (un_add (o := .lst (Ts.map V.ref)) u hlge hln) ok2
  exact ⟨.ref h'.objs.size, _, I2, rfl, q _ _ Ts (sm.trans (same_upd hln)) upd_same (by omega) fun i t x y h1 h2 h3 => by
    have w := f i (List.getElem?_eq_some_iff.mp h1).1 t x y h1 h2 h3
    rw [upd_ne (ne_of_none w hln)]
    exact w⟩
end
end KB

namespace KB
open PySem PySem.Spec PyProof.Rows L2
/-! ### words as lists of signs; which begins which -/
theorem starts_iff {a b : Str} : Txt.startswith a b = true ↔ b.cps.toList <+: a.cps.toList := by
  unfold Txt.startswith
  rw [PySem.StrLaws.subAt_eq, List.drop_zero]
  have l : ∀ z : Str, z.length = z.cps.toList.length := fun z => by simp [Str.length]
  constructor
  · intro h
    rw [Bool.and_eq_true] at h
    have := eq_of_beq h.2
    rw [l] at this
    have t := List.take_append_drop b.cps.toList.length a.cps.toList
    rw [this] at t
    exact ⟨_, t⟩
  · rintro ⟨t, ht⟩
    rw [l, l, ← ht, Bool.and_eq_true]
    refine ⟨decide_eq_true (by simp), ?_⟩
    simp
/-- one of two rows of signs begins the other -/
def Cmp (x y : List Nat) : Prop := x <+: y ∨ y <+: x
theorem Cmp.symm {x y : List Nat} (h : Cmp x y) : Cmp y x := h.elim .inr .inl
theorem cmp_app {x y : List Nat} {c : Nat} (h : Cmp (x ++ [c]) y) : Cmp x y := by
  rcases h with h | h
  · exact .inl (List.IsPrefix.trans ⟨[c], rfl⟩ h)
  · exact List.prefix_or_prefix_of_prefix ⟨[c], rfl⟩ h
theorem cmp_two {x : List Nat} {c d : Nat} (h : c ≠ d) : ¬ Cmp (x ++ [c]) (x ++ [d]) := by
  rintro (⟨t, e⟩ | ⟨t, e⟩)
  · rw [List.append_assoc] at e
    have := List.append_cancel_left e
    simp at this
    exact h this.1
  · rw [List.append_assoc] at e
    have := List.append_cancel_left e
    simp at this
    exact h this.1.symm
def Bits (x : List Nat) : Prop := ∀ c ∈ x, c = 48 ∨ c = 49
theorem cmp_split {x y : List Nat} (hy : Bits y) (h : Cmp x y) : Cmp (x ++ [49]) y ∨ Cmp (x ++ [48]) y := by
  rcases h with ⟨t, rfl⟩ | h
  · cases t with
    | nil => exact .inl (.inr (by rw [List.append_nil]; exact ⟨[49], rfl⟩))
    | cons c t =>
      rcases hy c (by simp) with e | e <;> subst e
      · exact .inr (.inl ⟨t, by simp⟩)
      · exact .inl (.inl ⟨t, by simp⟩)
  · exact .inl (.inr (List.IsPrefix.trans h ⟨[49], rfl⟩))
/-- the leaves of a drawn tree over s -/
structure Leaf (s : List Nat) (ls : List (List Nat)) : Prop where
  bits : ∀ x ∈ ls, Bits x ∧ x.length ≤ 40
  apart : ls.Pairwise fun x y => ¬ Cmp x y
  sum : (ls.map fun x => 2 ^ (60 - x.length)).sum = 2 ^ (60 - s.length)
  cover : s = [] → ∀ y, Bits y → ∃ x ∈ ls, Cmp x y
theorem Leaf.one {s : List Nat} (hb : Bits s) (hl : s.length ≤ 40) : Leaf s [s] :=
  ⟨fun x hx => by rw [List.mem_singleton.mp hx]; exact ⟨hb, hl⟩, List.pairwise_singleton _ _, by simp, fun e y _ => ⟨s, List.mem_singleton.mpr rfl, .inl (by rw [e]; exact List.nil_prefix)⟩⟩
theorem Leaf.perm {s : List Nat} {ls ls' : List (List Nat)} (L : Leaf s ls) (p : ls.Perm ls') : Leaf s ls' :=
  ⟨fun x hx => L.bits x (p.mem_iff.mpr hx), (p.pairwise_iff fun h z => h z.symm).mp L.apart, by rw [← L.sum]; exact ((p.map _).sum_nat).symm, fun e y hy => by
    obtain ⟨x, hx, h⟩ := L.cover e y hy
    exact ⟨x, p.mem_iff.mp hx, h⟩⟩
theorem Leaf.split {s x : List Nat} {r : List (List Nat)} (L : Leaf s (x :: r)) (hx : x.length < 40) : Leaf s ((x ++ [49]) :: (x ++ [48]) :: r) := by
  have bx := L.bits x (List.mem_cons_self ..)
  have ap := List.pairwise_cons.mp L.apart
  refine ⟨fun y hy => ?_, ?_, ?_, fun e y hy => ?_⟩
  · rcases List.mem_cons.mp hy with e | hy
    · rw [e]
      exact ⟨fun c hc => (List.mem_append.mp hc).elim (bx.1 c) fun z => .inr (List.mem_singleton.mp z), by rw [List.length_append]; simp; omega⟩
    rcases List.mem_cons.mp hy with e | hy
    · rw [e]
      exact ⟨fun c hc => (List.mem_append.mp hc).elim (bx.1 c) fun z => .inl (List.mem_singleton.mp z), by rw [List.length_append]; simp; omega⟩
    · exact L.bits y (List.mem_cons_of_mem _ hy)
  · refine List.pairwise_cons.mpr ⟨fun y hy => ?_, List.pairwise_cons.mpr ⟨fun y hy h => ap.1 y hy (cmp_app h), ap.2⟩⟩
    rcases List.mem_cons.mp hy with e | hy
    · rw [e]
      exact cmp_two (by decide)
    · exact fun h => ap.1 y hy (cmp_app h)
  · rw [← L.sum]
    simp only [List.map_cons, List.sum_cons, List.length_append, List.length_cons, List.length_nil]
    rw [← Nat.add_assoc, ← Nat.two_mul, ← Nat.pow_succ', show (60 - (x.length + (0 + 1))).succ = 60 - x.length by omega]
  · obtain ⟨z, hz, h⟩ := L.cover e y hy
    rcases List.mem_cons.mp hz with e | hz
    · rw [e] at h
      rcases cmp_split hy h with h | h
      · exact ⟨_, List.mem_cons_self .., h⟩
      · exact ⟨_, List.mem_cons_of_mem _ (List.mem_cons_self ..), h⟩
    · exact ⟨z, List.mem_cons_of_mem _ (List.mem_cons_of_mem _ hz), h⟩
/-- some of them -/
theorem Leaf.sum_le {s : List Nat} {ls : List (List Nat)} (L : Leaf s ls) : (ls.map fun x => 2 ^ (60 - x.length)).sum ≤ 2 ^ 60 := by
  rw [L.sum]
  exact Nat.pow_le_pow_right (by decide) (by omega)
theorem perm_erase {α : Type} : ∀ (ls : List α) (j : Nat) (x : α), ls[j]? = some x → ls.Perm (x :: ls.eraseIdx j)
  | [], j, x, h => by cases j <;> cases h
  | a :: r, 0, x, h => by cases h; exact .refl _
  | a :: r, j + 1, x, h => (List.Perm.cons a (perm_erase r j x h)).trans (List.Perm.swap x a _)
theorem perm_set {α : Type} : ∀ (ls : List α) (j : Nat) (y : α), j < ls.length → (ls.set j y).Perm (y :: ls.eraseIdx j)
  | [], j, y, h => absurd h (Nat.not_lt_zero _)
  | a :: r, 0, y, h => .refl _
  | a :: r, j + 1, y, h => (List.Perm.cons a (perm_set r j y (Nat.lt_of_succ_lt_succ h))).trans (List.Perm.swap y a _)
theorem Leaf.ins {s x : List Nat} {ls : List (List Nat)} {j n : Nat} (L : Leaf s ls) (hj : ls[j]? = some x) (h40 : x.length < 40) : Leaf s ((ls.set j (x ++ [49])).take n ++ [x ++ [48]] ++ (ls.set j (x ++ [49])).drop n) := by
  have hl := (List.getElem?_eq_some_iff.mp hj).1
  have hx := (List.getElem?_eq_some_iff.mp hj).2
  have p1 : ls.Perm (x :: ls.eraseIdx j) := perm_erase _ _ _ hj
  have p2 : (ls.set j (x ++ [49])).Perm ((x ++ [49]) :: ls.eraseIdx j) := perm_set _ _ _ hl
  refine ((L.perm p1).split h40).perm ?_
  have p3 : ((ls.set j (x ++ [49])).take n ++ [x ++ [48]] ++ (ls.set j (x ++ [49])).drop n).Perm ((x ++ [48]) :: ls.set j (x ++ [49])) := by
    rw [List.append_assoc, List.singleton_append]
    refine List.perm_middle.trans ?_
    rw [List.take_append_drop]
  exact ((List.Perm.swap _ _ _).trans ((List.Perm.cons _ p2.symm).trans p3.symm))
def Lc (w : Str) : List Nat := w.cps.toList
theorem Lc_one (w : Str) : Lc (w ++ ("1" : Str)) = Lc w ++ [49] := by
  show (w.cps ++ (("1" : Str)).cps).toList = w.cps.toList ++ [49]
  rw [Array.toList_append]
  rfl
theorem Lc_nil (w : Str) : Lc (w ++ ("0" : Str)) = Lc w ++ [48] := by
  show (w.cps ++ (("0" : Str)).cps).toList = w.cps.toList ++ [48]
  rw [Array.toList_append]
  rfl
theorem Lc_len (w : Str) : (Lc w).length = w.length := by simp [Lc, Str.length]
theorem leaf_turn {s : List Nat} {ws : List Str} {j n : Nat} {w : Str} (L : Leaf s (ws.map Lc)) (hj : ws[j]? = some w) (h40 : w.length < 40) : Leaf s (((ws.set j (w ++ ("1" : Str))).take n ++ [w ++ ("0" : Str)] ++ (ws.set j (w ++ ("1" : Str))).drop n).map Lc) := by
  have := L.ins (n := n) (j := j) (x := Lc w) (by rw [List.getElem?_map, hj]; rfl) (by rw [Lc_len]; exact h40)
  rw [List.map_append, List.map_append, List.map_take, List.map_drop, List.map_set, Lc_one, List.map_cons, Lc_nil]
  exact this
theorem cut_tk (xs : List V) (x : Nat) : cutV xs none (some (x : Int)) = xs.take x := by
  have e2 : HT.sIx xs.length 0 none = 0 := rfl
  unfold cutV
  rw [HT.sIx_nat, e2, Nat.sub_zero, List.drop_zero]
  by_cases h : x ≤ xs.length
  · rw [show min x xs.length = x by omega]
  · rw [show min x xs.length = xs.length by omega, List.take_length, List.take_of_length_le (by omega)]
theorem cut_dr (xs : List V) (x : Nat) : cutV xs (some (x : Int)) none = xs.drop x := by
  have e2 : HT.sIx xs.length xs.length none = xs.length := rfl
  unfold cutV
  rw [HT.sIx_nat, e2]
  by_cases h : x ≤ xs.length
  · rw [show min x xs.length = x by omega, List.take_of_length_le (by rw [List.length_drop]; exact Nat.le_refl _)]
  · rw [show min x xs.length = xs.length by omega, List.drop_of_length_le (Nat.le_refl _), List.drop_of_length_le (by omega), List.take_nil]
end KB
namespace KB
open PySem PySem.Spec PyProof.Rows L2
theorem gN_odd {o : Nat} (j : Nat) (h : o % 2 = 1) : gN (o : Int) ((2 ^ j : Nat) : Int) = 1 := by
  show Nat.gcd o (2 ^ j) = 1
  have e : Nat.gcd o 2 = 1 := by
    rw [Nat.gcd_comm, Nat.gcd_rec, h]
    decide
  exact Nat.Coprime.pow_right j e
theorem red_odd {o : Nat} (j : Nat) (h : o % 2 = 1) : rOd (o : Int) ((2 ^ j : Nat) : Int) = o ∧ rUd (o : Int) ((2 ^ j : Nat) : Int) = ((2 ^ j : Nat) : Int) := by
  have g := gN_odd j h
  have p : ¬ ((2 ^ j : Nat) : Int) < 0 := Int.not_lt.mpr (Int.natCast_nonneg _)
  constructor
  · unfold rOd
    rw [if_neg p, g]
    simp
  · unfold rUd
    rw [if_neg p, g]
    simp
theorem red_half {o j : Nat} (h : o % 2 = 0) : rOd (o : Int) ((2 ^ (j + 1) : Nat) : Int) = rOd ((o / 2 : Nat) : Int) ((2 ^ j : Nat) : Int) ∧ rUd (o : Int) ((2 ^ (j + 1) : Nat) : Int) = rUd ((o / 2 : Nat) : Int) ((2 ^ j : Nat) : Int) := by
  have e1 : (o : Int) = 2 * ((o / 2 : Nat) : Int) := by omega
  have e2 : ((2 ^ (j + 1) : Nat) : Int) = 2 * ((2 ^ j : Nat) : Int) := by rw [Nat.pow_succ]; omega
  rw [e2]
  constructor
  · have := rOd_scale (g := 2) ((o / 2 : Nat) : Int) ((2 ^ j : Nat) : Int) (by decide)
    rw [← e1] at this
    exact this
  · have := rUd_scale (g := 2) ((o / 2 : Nat) : Int) ((2 ^ j : Nat) : Int) (by decide)
    rw [← e1] at this
    exact this
end KB
namespace KB
open PySem PySem.Spec PyProof.Rows L2
/-- a loop over the signs of a text -/
theorem for_sgn {x : Str} {g : TG} {tb : TS} {D : Ends} {σ : L2.St} {H : Hp} (Pv : Nat → L2.St → Hp → Prop) (h0 : Pv 0 σ H)
    (hs : ∀ i c σ H, x.cps[i]? = some c → Pv i σ H → g (.str ⟨#[c]⟩) σ H fun σ2 H2 => tb { D with nx := Pv (i + 1), ct := Pv (i + 1), bk := D.nx } σ2 H2) (hd : ∀ σ H, Pv x.cps.size σ H → D.nx σ H) :
    ∃ W : Nat → Nat → L2.St → Hp → Prop, (∃ m, W 0 m σ H) ∧ ∀ i m σ H, W i m σ H →
      ((Its x).stop i H ∧ D.nx σ H) ∨ ((Its x).go i H ∧ ∃ N : L2.St → Hp → Prop, (∀ σ' H', N σ' H' → ∃ m', m' < m ∧ W (i + 1) m' σ' H') ∧ ∀ v H', (Its x).yld i H v H' → g v σ H' fun σ2 H2 => tb { D with nx := N, ct := N, bk := D.nx } σ2 H2) := by
  refine ⟨fun i m σ H => m = x.cps.size - i ∧ i ≤ x.cps.size ∧ Pv i σ H, ⟨x.cps.size, by simp, Nat.zero_le _, h0⟩, ?_⟩
  rintro i m σ H ⟨rfl, hi, p⟩
  by_cases hlt : i < x.cps.size
  · refine .inr ⟨hlt, Pv (i + 1), fun σ' H' p' => ⟨x.cps.size - (i + 1), by omega, rfl, hlt, p'⟩, fun v H' y => ?_⟩
    obtain ⟨rfl, c, hc, rfl⟩ := y
    exact hs i c σ _ hc p
  · have e : i = x.cps.size := by omega
    subst e
    exact .inl ⟨Nat.le_refl _, hd σ H p⟩
end KB
namespace KB
open PySem PySem.Spec PyProof.Rows L2
/-! ### the words of a code do not begin one another -/
theorem fill_keep {k : Nat} : ∀ (ks : List (Int × Int)) (u : Nat) (ws : List Str), (∀ p ∈ ks, p.2.toNat ≠ k) → (fillW ks u ws)[k]? = ws[k]?
  | [], _, _, _ => rfl
  | p :: r, u, ws, h => by
    show (fillW r _ _)[k]? = _
    rw [fill_keep r _ _ fun q hq => h q (List.mem_cons_of_mem _ hq), List.getElem?_set_ne (h p (List.mem_cons_self ..))]
theorem fill_get : ∀ (ks : List (Int × Int)) (u : Nat) (ws : List Str), (ks.map fun p => p.2.toNat).Nodup → ∀ (j : Nat) (p : Int × Int), ks[j]? = some p → p.2.toNat < ws.length →
    (fillW ks u ws)[p.2.toNat]? = some (wordS p.1.toNat ((u + kr ((ks.map fun p => p.1.toNat).take j)) / 2 ^ (40 - p.1.toNat)))
  | [], _, _, _, j, p, h, _ => by cases j <;> cases h
  | q :: r, u, ws, nd, 0, p, h, hl => by
    cases h
    rw [List.map_cons, List.nodup_cons] at nd
    show (fillW r _ _)[q.2.toNat]? = _
    rw [fill_keep r _ _ fun x hx e => nd.1 (List.mem_map.mpr ⟨x, hx, e⟩), List.getElem?_set_self hl]
    rfl
  | q :: r, u, ws, nd, j + 1, p, h, hl => by
    rw [List.map_cons, List.nodup_cons] at nd
    show (fillW r _ _)[p.2.toNat]? = _
    rw [fill_get r _ _ nd.2 j p h (by rw [List.length_set]; exact hl), List.map_cons, List.take_succ_cons]
    show some (wordS _ ((u + 2 ^ (40 - q.1.toNat) + _) / _)) = some (wordS _ ((u + (2 ^ (40 - q.1.toNat) + _)) / _))
    rw [Nat.add_assoc]
theorem Lc_word (l v : Nat) : Lc (wordS l v) = bitsL l v := by
  unfold Lc wordS
  simp
/-- of two words of a code, sorted, none begins the other -/
theorem code_apart {fs : List Nat} (hs : fs.Pairwise (· ≤ ·)) (h40 : ∀ n ∈ fs, n ≤ 40) (hk : kr fs ≤ 2 ^ 40) {i j l m : Nat} (hi : fs[i]? = some l) (hj : fs[j]? = some m) (hji : j < i) :
    ¬ Cmp (Lc (wordS m (ua fs j / 2 ^ (40 - m)))) (Lc (wordS l (ua fs i / 2 ^ (40 - l)))) := by
  have hil := (List.getElem?_eq_some_iff.mp hi).1
  have hjl := (List.getElem?_eq_some_iff.mp hj).1
  have ei := (List.getElem?_eq_some_iff.mp hi).2
  have ej := (List.getElem?_eq_some_iff.mp hj).2
  have hml : m ≤ l := by
    have := List.pairwise_iff_getElem.mp hs j i hjl hil hji
    omega
  have hl40 := h40 l (List.mem_of_getElem? hi)
  have p : 0 < 2 ^ (40 - l) := Nat.pow_pos (by decide)
  have dv := ua_dvd hs hi i (Nat.le_refl _)
  have room : ua fs i + 2 ^ (40 - l) ≤ 2 ^ 40 := by
    rw [← ua_succ hi]
    have e2 := List.take_append_drop (i + 1) fs
    have := kr_app (fs.take (i + 1)) (fs.drop (i + 1))
    rw [e2] at this
    unfold ua
    omega
  have back : ua fs i / 2 ^ (40 - l) * 2 ^ (40 - l) = ua fs i := Nat.div_mul_cancel dv
  have hv : ua fs i / 2 ^ (40 - l) < 2 ^ l := by
    rw [Nat.div_lt_iff_lt_mul p, ← Nat.pow_add, show l + (40 - l) = 40 by omega]
    omega
  have b := begun_iff hs h40 hk hi hv
  rw [back, decide_eq_false (Nat.lt_irrefl _)] at b
  have gj : fs.getD j 0 = m := by rw [List.getD_eq_getElem?_getD, hj]; rfl
  have no : ¬ Txt.startswith (wordS l (ua fs i / 2 ^ (40 - l))) (wordS m (ua fs j / 2 ^ (40 - m))) = true := fun z => by
    have := List.any_eq_false.mp b _ (List.mem_map.mpr ⟨j, List.mem_range.mpr hji, rfl⟩)
    rw [gj] at this
    exact this z
  rintro (z | z)
  · exact no (starts_iff.mpr z)
  · have le := z.length_le
    rw [Lc_word, Lc_word, bitsL_len, bitsL_len] at le
    have e : Lc (wordS l (ua fs i / 2 ^ (40 - l))) = Lc (wordS m (ua fs j / 2 ^ (40 - m))) := z.eq_of_length (by rw [Lc_word, Lc_word, bitsL_len, bitsL_len]; omega)
    exact no (starts_iff.mpr ⟨[], by rw [List.append_nil]; exact e.symm⟩)
theorem bitsL_bits : ∀ l v, Bits (bitsL l v)
  | 0, _ => fun c hc => by cases hc
  | l + 1, v => fun c hc => by
    rcases List.mem_append.mp (show c ∈ bitsL l (v / 2) ++ [48 + v % 2] from hc) with z | z
    · exact bitsL_bits l _ c z
    · rw [List.mem_singleton.mp z]
      omega
theorem Lc_bits (l v : Nat) : Bits (Lc (wordS l v)) := by
  rw [Lc_word]
  exact bitsL_bits l v
theorem prs_snd (ls : List Nat) : (prs ls).map (fun p => p.2.toNat) = List.range ls.length := by
  unfold prs
  rw [List.map_map]
  refine List.ext_getElem? fun j => ?_
  rw [List.getElem?_map]
  by_cases h : j < ls.length
  · rw [List.getElem?_range h]
    show some (((j : Int)).toNat) = _
    rw [Int.toNat_natCast]
  · rw [List.getElem?_eq_none (by simpa using h)]
    rfl
theorem code_words {ls : List Nat} {ks : List (Int × Int)} (h : IsOrd ls ks) (h40 : ∀ n ∈ ls, n ≤ 40) (hk : kr ls ≤ 2 ^ 40) :
    (∀ (k l : Nat), ls[k]? = some l → ∃ v, (codeS ks ls.length)[k]? = some (wordS l v)) ∧ ((codeS ks ls.length).map Lc).Pairwise fun x y => ¬ Cmp x y := by
  have nd : (ks.map fun p => p.2.toNat).Nodup := by
    have := (h.1.map fun p => p.2.toNat).nodup_iff.mpr (by rw [prs_snd]; exact List.nodup_range)
    exact this
  obtain ⟨fs, hfs⟩ : ∃ fs, fs = ks.map fun p => p.1.toNat := ⟨_, rfl⟩
  have hs : fs.Pairwise (· ≤ ·) := by rw [hfs]; exact h.fst
  have hkf : kr fs ≤ 2 ^ 40 := by rw [hfs, h.kr]; exact hk
  have f40 : ∀ n ∈ fs, n ≤ 40 := fun n hn => by
    rw [hfs] at hn
    obtain ⟨p, hp, rfl⟩ := List.mem_map.mp hn
    obtain ⟨l, k, rfl, hl⟩ := h.mem hp
    show ((l : Int)).toNat ≤ 40
    rw [Int.toNat_natCast]
    exact h40 l (List.mem_of_getElem? hl)
  have one : ∀ (k l : Nat), ls[k]? = some l → ∃ j, ks[j]? = some ((l : Int), (k : Int)) ∧ fs[j]? = some l ∧ (codeS ks ls.length)[k]? = some (wordS l (ua fs j / 2 ^ (40 - l))) := fun k l hl => by
    have hkl := (List.getElem?_eq_some_iff.mp hl).1
    have hm : ((l : Int), (k : Int)) ∈ ks := h.1.mem_iff.mpr (List.mem_of_getElem? (prs_get hl))
    obtain ⟨j, hj⟩ := List.mem_iff_getElem?.mp hm
    have g := fill_get ks 0 (List.replicate ls.length "") nd j _ hj (by rw [List.length_replicate]; exact hkl)
    refine ⟨j, hj, by rw [hfs, List.getElem?_map, hj]; rfl, ?_⟩
    rw [Nat.zero_add] at g
    have e1 : ((l : Int), (k : Int)).1.toNat = l := rfl
    have e2 : ((l : Int), (k : Int)).2.toNat = k := rfl
    rw [e1, e2, ← hfs] at g
    exact g
  refine ⟨fun k l hl => let ⟨j, _, _, h3⟩ := one k l hl; ⟨_, h3⟩, ?_⟩
  rw [List.pairwise_iff_getElem]
  intro x y hx hy hxy
  have cl := codeS_len ks ls.length
  have hx' : x < ls.length := by rw [List.length_map, cl] at hx; exact hx
  have hy' : y < ls.length := by rw [List.length_map, cl] at hy; exact hy
  obtain ⟨jx, a1, a2, a3⟩ := one x _ (List.getElem?_eq_getElem hx')
  obtain ⟨jy, b1, b2, b3⟩ := one y _ (List.getElem?_eq_getElem hy')
  have ex := (List.getElem?_eq_some_iff.mp a3).2
  have ey := (List.getElem?_eq_some_iff.mp b3).2
  rw [List.getElem_map, List.getElem_map, ex, ey]
  rcases Nat.lt_trichotomy jx jy with z | z | z
  · exact code_apart hs f40 hkf b2 a2 z
  · rw [z, b1] at a1
    have := congrArg (fun o : Option (Int × Int) => match o with | some p => p.2 | none => 0) a1
    have e : (y : Int) = (x : Int) := this
    omega
  · exact fun c => code_apart hs f40 hkf a2 b2 z c.symm
end KB

namespace KB
open PySem PySem.Spec PyProof.Rows L2
/-! ### a list of numbers beside the box -/
structure Nb (B0 B H : Hp) (t p : Addr) (c : Nat) (bs : List Nat) : Prop where
  same : Same B0 B
  bx : Bx B H t c
  at_ : B p = some (.lst (bs.map nI))
  nb : B0 p = none
theorem Nb.set {B0 B H : Hp} {t p : Addr} {c : Nat} {bs : List Nat} (N : Nb B0 B H t p c bs) (zs : List Nat) : Nb B0 (upd B p (.lst (zs.map nI))) (upd H p (.lst (zs.map nI))) t p c zs :=
  ⟨same_out N.same N.nb, N.bx.set N.at_, upd_same, N.nb⟩
theorem Nb.hd {B0 B H : Hp} {t p : Addr} {c : Nat} {bs : List Nat} (N : Nb B0 B H t p c bs) : H p = some (.lst (bs.map nI)) := N.bx.at N.at_
theorem Nb.le {B0 B H : Hp} {t p : Addr} {c d : Nat} {bs : List Nat} (N : Nb B0 B H t p c bs) (h : c ≤ d) : Nb B0 B H t p d bs := ⟨N.same, N.bx.le h, N.at_, N.nb⟩
theorem Nb.drw {B0 B H H' : Hp} {t p : Addr} {c d : Nat} {bs : List Nat} (N : Nb B0 B H t p c bs) (T : Bx B H' t d) : Nb B0 B H' t p d bs := ⟨N.same, T, N.at_, N.nb⟩
theorem Nb.put {B0 B H : Hp} {t p : Addr} {c : Nat} {bs : List Nat} (N : Nb B0 B H t p c bs) (j n : Nat) : Nb B0 (upd B p (.lst ((bs.map nI).set j (nI n)))) (upd H p (.lst ((bs.map nI).set j (nI n)))) t p c (bs.set j n) := by
  rw [setN]
  exact N.set _
theorem Nb.app {B0 B H : Hp} {t p : Addr} {c : Nat} {bs : List Nat} (N : Nb B0 B H t p c bs) (n : Nat) : Nb B0 (upd B p (.lst (bs.map nI ++ [nI n]))) (upd H p (.lst (bs.map nI ++ [nI n]))) t p c (bs ++ [n]) := by
  rw [show bs.map nI ++ [nI n] = (bs ++ [n]).map nI by rw [List.map_append]; rfl]
  exact N.set _
theorem Nb.era {B0 B H : Hp} {t p : Addr} {c : Nat} {bs : List Nat} (N : Nb B0 B H t p c bs) (j : Nat) : Nb B0 (upd B p (.lst ((bs.map nI).eraseIdx j))) (upd H p (.lst ((bs.map nI).eraseIdx j))) t p c (bs.eraseIdx j) := by
  rw [eraN bs j]
  exact N.set _
theorem Nb.ins {B0 B H : Hp} {t p : Addr} {c : Nat} {bs : List Nat} (N : Nb B0 B H t p c bs) (j n : Nat) : Nb B0 (upd B p (.lst ((bs.map nI).take j ++ [nI n] ++ (bs.map nI).drop j))) (upd H p (.lst ((bs.map nI).take j ++ [nI n] ++ (bs.map nI).drop j))) t p c (bs.take j ++ [n] ++ bs.drop j) := by
  rw [show (bs.map nI).take j ++ [nI n] ++ (bs.map nI).drop j = (bs.take j ++ [n] ++ bs.drop j).map nI by simp [List.map_take, List.map_drop]]
  exact N.set _
/-- a new list of numbers -/
theorem Bx.nb {B H : Hp} {t p : Addr} {c : Nat} (T : Bx B H t c) (hp : H p = none) (bs : List Nat) : Nb B (upd B p (.lst (bs.map nI))) (upd H p (.lst (bs.map nI))) t p c bs :=
  ⟨same_upd (T.isn hp), T.new hp, upd_same, T.isn hp⟩
/-- what is below the base, too -/
theorem Nb.low {A B0 B H : Hp} {t p : Addr} {c : Nat} {bs : List Nat} (N : Nb B0 B H t p c bs) (s : Same A B0) : Nb A B H t p c bs := ⟨s.trans N.same, N.bx, N.at_, s.free N.nb⟩
/-- the list's place, from its members -/
theorem Nb.at_nat {B0 B H : Hp} {t p : Addr} {c : Nat} {bs : List Nat} {i : Nat} (hi : i < bs.length) : atI (bs.map nI) (i : Int) = some (.int (bs.getD i 0 : Nat)) :=
  atI_nat (j := i) (by rw [List.getElem?_map, List.getD_eq_getElem?_getD, List.getElem?_eq_getElem hi]; rfl)
theorem at_num {bs : List Nat} {i : Nat} (hi : i < bs.length) : atI (bs.map nI) (i : Int) = some (.int (bs.getD i 0 : Nat)) :=
  atI_nat (j := i) (by rw [List.getElem?_map, List.getD_eq_getElem?_getD, List.getElem?_eq_getElem hi]; rfl)
theorem getD_le {bs : List Nat} {i m : Nat} (h : ∀ n ∈ bs, n ≤ m) : bs.getD i 0 ≤ m := by
  rw [List.getD_eq_getElem?_getD]
  cases e : bs[i]? with
  | none => exact Nat.zero_le _
  | some n => exact h n (List.mem_of_getElem? e)
end KB

namespace KB
open PySem PySem.Spec PyProof.Rows L2
/-! ### math.lcm of wide numbers -/
section
variable {X : Cx}
def rLcm : List V → Hp → VK → Prop := fun vs H Q => ∃ a b : Nat, vs = [.int a, .int b] ∧ a < 2 ^ 12000 ∧ b < 2 ^ 12000 ∧ Q (.int (Nat.lcm a b : Nat)) H
theorem cr_lcm : CallR X (.builtin "math.lcm") rLcm := by
  intro pins s σ H vs us Q I r h
  obtain ⟨a, b, rfl, ha, hb, q⟩ := h
  obtain ⟨t, u, rfl⟩ := Vals.int2 r
  have lg : ∀ n : Nat, n < 2 ^ 12000 → n.log2 < 12000 := fun n hn => by
    by_cases h0 : n = 0
    · subst h0
      decide
    · exact (Nat.log2_lt h0).mpr hn
  have h1 : (max 1 ((a : Int)).natAbs).log2 < 12000 := lg _ (by rw [Int.natAbs_natCast]; exact Nat.max_lt.mpr ⟨Nat.lt_of_lt_of_le (by decide) (Nat.pow_le_pow_right (by decide : 0 < 2) (show 1 ≤ 12000 by decide)), ha⟩)
  have h2 : (max ((a : Int)).natAbs ((b : Int)).natAbs).log2 < 12000 := lg _ (by rw [Int.natAbs_natCast, Int.natAbs_natCast]; exact Nat.max_lt.mpr ⟨ha, hb⟩)
  have h3 : ((((Nat.lcm 1 ((a : Int)).natAbs).lcm ((b : Int)).natAbs : Nat) : Int)).natAbs.log2 < bitsLine := by
    rw [PySem.W.mc_lcm_one, Int.natAbs_natCast, Int.natAbs_natCast, Int.natAbs_natCast]
    have e : bitsLine = 134217728 := by decide
    rw [e]
    by_cases h0 : a.lcm b = 0
    · rw [h0]
      decide
    · refine (Nat.log2_lt h0).mpr (Nat.lt_of_le_of_lt (PySem.W.mc_lcm_le a b) ?_)
      have h4 : a * b ≤ 2 ^ 12000 * 2 ^ 12000 := Nat.mul_le_mul (Nat.le_of_lt ha) (Nat.le_of_lt hb)
      rw [← Nat.pow_add] at h4
      exact Nat.lt_of_le_of_lt h4 (Nat.pow_lt_pow_right (by decide) (by decide))
  refine call_function_meets PySem.W.MGF.kind_lcm PySem.W.MGF.plain_lcm PySem.W.MGF.entry_lcm (PySem.W.MGF.args_lcm _ _) (PySem.W.mg_run_lcm a t b u (by omega) (by omega) h3).meets ?_
  rw [PySem.W.mc_lcm_one, Int.natAbs_natCast, Int.natAbs_natCast]
  exact ⟨.int _, H, I.tok _, ⟨_, rfl⟩, q⟩
end
end KB
namespace KB
open PySem PySem.Spec PyProof.Rows L2
/-- e.f within a comprehension -/
theorem pe_fldC {X : Cx} (K : PySem.W.Frag) {e : Expr} {f : Str} {pos : Pos} {ta : TE} (he : PE X e ta) (hb : attributeBase e f X.env (eval e X.env) = eval e X.env) (hK : X.K = K := by rfl) : PE X (.Attribute e f pos) (tFld K ta f) := by
  subst hK
  exact pe_fld he hb
end KB
namespace KB
open PySem PySem.Spec PyProof.Rows L2
/-- a comprehension without a condition -/
theorem tyes {σ : L2.St} {H : Hp} {A B : Hp → Prop} (h : A H) : tYes σ H fun b H3 => if b = true then A H3 else B H3 := by
  show if true = true then A H else B H
  rw [if_pos rfl]
  exact h
end KB
namespace KB
open PySem PySem.Spec PyProof.Rows L2
theorem Sh.lst {C D x : Addr} {H : Hp} {n d : Int} {xs : List V} {o : HO} (h : Sh C H x n d) (e : H D = some (.lst xs)) : Sh C (upd H D o) x n d := by
  obtain ⟨dx, h⟩ := h
  exact ⟨dx, by rw [upd_ne (fun z => by rw [z, e] at h; cases h)]; exact h⟩
end KB

namespace KB
open PySem PySem.Spec PyProof.Rows L2
/-! ### zip(one, other), each a list, a tuple or a text -/
inductive Src | lst (a : Addr) | tup (a : Addr) | txt (x : Str)
def sgnsV (x : Str) : List V := x.cps.toList.map fun c => V.str ⟨#[c]⟩
def Src.v : Src → V
  | .lst a => .ref a
  | .tup a => .ref a
  | .txt x => .str x
def Src.has (K : PySem.W.Frag) (H : Hp) : Src → List V → Prop
  | .lst a, xs => SqL K H a xs
  | .tup a, xs => SqT K H a xs
  | .txt x, xs => xs = sgnsV x
def Src.fp : Src → List Addr
  | .lst a => [a]
  | .tup a => [a]
  | .txt _ => []
def Src.at (t : Tok) (it : Addr) (i : Nat) (h : Heap) : Src → Prop
  | .lst a => h.IsListIter it a i
  | .tup a => h.IsTupleIter it a i
  | .txt x => h.IsStrIter it (strIterType x) x t i
def ItZ (K : PySem.W.Frag) (u1 u2 : Src) : It := ⟨
  fun i H => ∃ (xs ys : List V) (x y : V), u1.has K H xs ∧ u2.has K H ys ∧ xs[i]? = some x ∧ ys[i]? = some y,
  fun i H v H' => ∃ T x y, v = .ref T ∧ H T = none ∧ H' = upd H T (.tup [x, y]) ∧ (∀ xs, u1.has K H xs → xs[i]? = some x) ∧ (∀ ys, u2.has K H ys → ys[i]? = some y),
  fun i H => ∃ xs ys : List V, u1.has K H xs ∧ u2.has K H ys ∧ i ≤ xs.length ∧ i ≤ ys.length ∧ (i = xs.length ∨ i = ys.length)⟩
section
variable {X : Cx} {pins : List (Addr × Obj)} {σ : L2.St} {H : Hp} {s : Shared}
theorem Src.inj (I : Inv X pins σ H s) : ∀ {u : Src} {xs ys : List V}, u.has X.K H xs → u.has X.K H ys → xs = ys
  | .lst _, _, _, h1, h2 => I.list_inj h1 h2
  | .tup _, _, _, h1, h2 => I.tuple_inj h1 h2
  | .txt _, _, _, h1, h2 => h1.trans h2.symm
theorem vals_of {xs : List V} {its : List Value} (rv : Vals xs its) {j : Nat} {x : Value} (h : its.toArray[j]? = some x) : ∃ y, xs[j]? = some y ∧ RelV y x := by
  have hl := rv.length
  have hj : j < its.length := by
    have := (Array.getElem?_eq_some_iff.mp h).1
    simpa using this
  have e : xs[j]? = some xs[j] := List.getElem?_eq_getElem (by omega)
  obtain ⟨u, hu, ru⟩ := rv.get e
  have h' : its[j]? = some x := by simpa using h
  rw [hu] at h'
  cases h'
  exact ⟨_, e, ru⟩
theorem src_draws (I : Inv X pins σ H s) {A : Around} (hh : A.handled = none) {t : Tok} {it : Addr} {i : Nat} : ∀ {u : Src} {xs : List V}, u.has X.K H xs → u.at t it i s.heap → (∀ a ∈ u.fp, a ≠ it) →
    ∃ (St : Nat → Heap → Prop) (P : Nat → Value → Prop), Draws X.prog X.w A it (it :: u.fp) xs.length P St ∧ St i s.heap ∧ (∀ j x, P j x → ∃ y, xs[j]? = some y ∧ RelV y x) ∧ ∀ j h', St j h' → u.at t it j h'
  | .lst a, xs, h, hat, hne => by
    obtain ⟨its, rv, p, _⟩ := I.list h
    have hl : xs.length = its.toArray.size := by rw [rv.length]; simp
    rw [hl]
    exact ⟨_, _, Draws.list hh it a (hne a (List.mem_singleton.mpr rfl)) its.toArray, ⟨hat, p.isList⟩, fun j x hx => vals_of rv hx, fun j h' st => st.1⟩
  | .tup a, xs, h, hat, hne => by
    obtain ⟨its, rv, p, _⟩ := I.tuple h
    have hl : xs.length = its.toArray.size := by rw [rv.length]; simp
    rw [hl]
    exact ⟨_, _, Draws.tuple hh it a (hne a (List.mem_singleton.mpr rfl)) its.toArray, ⟨hat, (show s.heap.IsTuple a its.toArray from p)⟩, fun j x hx => vals_of rv hx, fun j h' st => st.1⟩
  | .txt x, xs, h, hat, hne => by
    have e : xs = sgnsV x := h
    subst e
    have hl : (sgnsV x).length = x.cps.size := by unfold sgnsV; simp
    rw [hl]
    refine ⟨_, _, Draws.text hh it x t, hat, fun j v hv => ?_, fun j h' st => st⟩
    obtain ⟨c, u, hc, rfl⟩ := hv
    refine ⟨.str ⟨#[c]⟩, ?_, ⟨_, rfl⟩⟩
    unfold sgnsV
    rw [List.getElem?_map, Array.getElem?_toList, hc]
    rfl
theorem src_begins (I : Inv X pins σ H s) : ∀ {u : Src} {xs : List V} {val : Value}, u.has X.K H xs → RelV u.v val → ∃ (t : Tok) (o : Obj) (H0 : Heap → Prop), Begins val o H0 ∧ H0 s.heap ∧ (∀ a ∈ u.fp, a < s.heap.objs.size) ∧ ∀ h' it, h'.get? it = some o → u.at t it 0 h'
  | .lst a, xs, val, h, r => by
    obtain ⟨its, rv, p, _⟩ := I.list h
    cases r
    exact ⟨0, _, _, begins_list a its.toArray, p.isList, fun b hb => by rw [List.mem_singleton.mp hb]; exact p.lt, fun h' it hi => ⟨_, hi, rfl, rfl⟩⟩
  | .tup a, xs, val, h, r => by
    obtain ⟨its, rv, p, _⟩ := I.tuple h
    cases r
    have lt : a < s.heap.objs.size := by obtain ⟨o, ho, _⟩ := id p; exact Heap.lt_size ho
    exact ⟨0, _, _, begins_tuple a its.toArray, (show s.heap.IsTuple a its.toArray from p), fun b hb => by rw [List.mem_singleton.mp hb]; exact lt, fun h' it hi => ⟨_, hi, rfl, rfl⟩⟩
  | .txt x, xs, val, h, r => by
    obtain ⟨t, rfl⟩ := r
    exact ⟨t, _, _, begins_text x t, trivial, fun b hb => (by cases hb), fun h' it hi => ⟨_, hi, rfl, rfl⟩⟩
end
theorem turn_zipG {P : Program} {w : World} {K : PySem.W.Frag} {elts : List Expr} {kk : Nat} {tpos : Pos} {u1 u2 : Src} {t1 t2 : Tok} {z TI TO i1 i2 : Addr} (D : ZipSep2 z TI TO i1 i2 (i1 :: u1.fp) (i2 :: u2.fp)) (n1 : ∀ a ∈ u1.fp, a ≠ i1) (n2 : ∀ a ∈ u2.fp, a ≠ i2) :
    Turn P w K (.Tuple elts kk tpos) (ItZ K u1 u2) [z, TI, TO, i1, i2] z (fun i h => IsZip h z TI TO .none ∧ IsTupOf2 h TI (.ref i1) (.ref i2) ∧ (∃ x y, IsTupOf2 h TO x y) ∧ u1.at t1 i1 i h ∧ u2.at t2 i2 i h) where
  mem := by simp
  obj := fun i h st c hc => by
    have atO : ∀ {u : Src} {t : Tok} {it : Addr}, u.at t it i h → ∃ o, h.get? it = some o ∧ ∀ v, o.data ≠ .cell v := fun {u t it} hu => by
      cases u with
      | lst a => obtain ⟨o, e, _, d⟩ := hu; exact ⟨o, e, fun v q => by rw [d] at q; cases q⟩
      | tup a => obtain ⟨o, e, _, d⟩ := hu; exact ⟨o, e, fun v q => by rw [d] at q; cases q⟩
      | txt x => obtain ⟨o, e, _, d⟩ := hu; exact ⟨o, e, fun v q => by rw [d] at q; cases q⟩
    obtain ⟨hz, hTI, ⟨x, y, hTO⟩, h1, h2⟩ := st
    have e' : c = z ∨ c = TI ∨ c = TO ∨ c = i1 ∨ c = i2 := by simpa using hc
    rcases e' with q | q | q | q | q
    · rw [q]; exact ⟨_, hz, fun v q => nomatch q⟩
    · rw [q]; exact ⟨_, hTI, fun v q => nomatch q⟩
    · rw [q]; exact ⟨_, hTO, fun v q => nomatch q⟩
    · rw [q]; exact atO h1
    · rw [q]; exact atO h2
  keep := fun i h h' st k => by
    have atK : ∀ {u : Src} {t : Tok} {it : Addr}, it ∈ [z, TI, TO, i1, i2] → u.at t it i h → u.at t it i h' := fun {u t it} hm hu => by
      cases u with
      | lst a => obtain ⟨o, e, r⟩ := hu; exact ⟨o, k it hm o e, r⟩
      | tup a => obtain ⟨o, e, r⟩ := hu; exact ⟨o, k it hm o e, r⟩
      | txt x => obtain ⟨o, e, r⟩ := hu; exact ⟨o, k it hm o e, r⟩
    obtain ⟨hz, hTI, ⟨x, y, hTO⟩, h1, h2⟩ := st
    exact ⟨k z (by simp) _ hz, k TI (by simp) _ hTI, ⟨x, y, k TO (by simp) _ hTO⟩, atK (by simp) h1, atK (by simp) h2⟩
  item := by
    intro X hP hw hK hc i pins s σ H E I hf st hg
    subst hP hw hK
    obtain ⟨hz, hTI, ⟨x0, y0, hTO⟩, h1, h2⟩ := st
    obtain ⟨xs, ys, x, y, hqx, hqy, hx, hy⟩ := hg
    obtain ⟨St1, P1, D1, s1, r1, b1⟩ := src_draws I (A := X.A.in1) (show X.A.in1.handled = none from I.ok.hd hc) hqx h1 n1
    obtain ⟨St2, P2, D2, s2, r2, b2⟩ := src_draws I (A := X.A.in1) (show X.A.in1.handled = none from I.ok.hd hc) hqy h2 n2
    have hzl : z < s.heap.objs.size := Heap.lt_size hz
    have l1 := (List.getElem?_eq_some_iff.mp hx).1
    have l2 := (List.getElem?_eq_some_iff.mp hy).1
    have li : ∀ {u : Src} {t : Tok} {it : Addr}, u.at t it i s.heap → it < s.heap.objs.size := fun {u t it} hu => by
      cases u with
      | lst a => obtain ⟨o, e, _⟩ := hu; exact Heap.lt_size e
      | tup a => obtain ⟨o, e, _⟩ := hu; exact Heap.lt_size e
      | txt x => obtain ⟨o, e, _⟩ := hu; exact Heap.lt_size e
    have li1 := li h1
    have li2 := li h2
    refine wpAny_pyNext_zipD2_item D D1 D2 hz hTI hTO s1 s2 l1 l2 fun u v h' tk p1 p2 z' TO' s1' s2' hT hsz hk => ?_
    obtain ⟨x', hx', ru⟩ := r1 i u p1
    obtain ⟨y', hy', rv⟩ := r2 i v p2
    rw [hx] at hx'
    cases hx'
    rw [hy] at hy'
    cases hy'
    refine ⟨_, rfl, wpAny_letOwnedTupleGo_zip (s := { s with heap := h', toks := tk }) z' fun h'' z'' sb => ?_⟩
    have hT2 : h''.get? s.heap.objs.size = some { cls := .type "tuple", data := .seq #[u, v] } := (sb.2 _ (Nat.ne_of_gt hzl)).trans hT
    have new : ObjOk X.prog X.w (upd H s.heap.objs.size (.tup [x, y])) h'' s.heap.objs.size (.tup [x, y]) :=
      ⟨by show 2 ≤ sizeLine; decide, [u, v], .cons ru (.cons rv .nil), ⟨_, hT2, rfl, _, rfl⟩⟩
    have I1 : Inv X pins σ (upd H s.heap.objs.size (.tup [x, y])) { s with heap := h'', toks := tk } :=
      I.turnedNew (t' := tk) (ch := [z, TI, TO, i1, i2]) (fun c o hb q => (sb.2 c (fun q' => hb (by simp [q']))).trans (hk c o (fun q' => hb (by simp [q'])) (fun q' => hb (by simp [q'])) (fun q' => hb (by simp [q'])) (fun q' => hb (by simp [q'])) q)) hf (Nat.le_refl _) new
    have aK : ∀ {u : Src} {t : Tok} {it : Addr}, it ≠ z → u.at t it (i + 1) h' → u.at t it (i + 1) h'' := fun {u t it} hm hu => by
      cases u with
      | lst a => obtain ⟨o, e, r⟩ := hu; exact ⟨o, (sb.2 it hm).trans e, r⟩
      | tup a => obtain ⟨o, e, r⟩ := hu; exact ⟨o, (sb.2 it hm).trans e, r⟩
      | txt x => obtain ⟨o, e, r⟩ := hu; exact ⟨o, (sb.2 it hm).trans e, r⟩
    refine ⟨.ref s.heap.objs.size, _, I1, rfl, ⟨_, x, y, rfl, I.hok.fresh (Nat.le_refl _), rfl, fun l hl => by rw [Src.inj I hl hqx]; exact hx, fun l hl => by rw [Src.inj I hl hqy]; exact hy⟩, ⟨z'', ?_, ⟨u, v, ?_⟩, aK D.zi1.symm (b1 _ _ s1'), aK D.zi2.symm (b2 _ _ s2')⟩, fun c hcm => ?_⟩
    · exact (sb.2 _ D.TIz).trans (hk _ _ D.TIz D.TITO D.TIi1 D.TIi2 hTI)
    · exact (sb.2 _ D.TOz).trans TO'
    · have hlt : c < s.heap.objs.size := by
        have e' : c = z ∨ c = TI ∨ c = TO ∨ c = i1 ∨ c = i2 := by simpa using hcm
        rcases e' with q | q | q | q | q
        · rw [q]; exact hzl
        · rw [q]; exact Heap.lt_size hTI
        · rw [q]; exact Heap.lt_size hTO
        · rw [q]; exact li1
        · rw [q]; exact li2
      rw [upd_ne (Nat.ne_of_lt hlt)]
      exact (hf c hcm).1
  done := by
    intro X hP hw hK hc i pins s σ H E I hf st hg
    subst hP hw hK
    obtain ⟨hz, hTI, ⟨x0, y0, hTO⟩, h1, h2⟩ := st
    obtain ⟨xs, ys, hqx, hqy, le1, le2, hend⟩ := hg
    obtain ⟨St1, P1, D1, s1, r1, b1⟩ := src_draws I (A := X.A.in1) (show X.A.in1.handled = none from I.ok.hd hc) hqx h1 n1
    obtain ⟨St2, P2, D2, s2, r2, b2⟩ := src_draws I (A := X.A.in1) (show X.A.in1.handled = none from I.ok.hd hc) hqy h2 n2
    exact wpAny_pyNext_zipD2_end D D1 D2 hz hTI hTO s1 s2 le1 le2 hend fun h' tk hk => ⟨rfl, I.turnedL (t' := tk) (ch := [z, TI, TO, i1, i2]) (fun c o hb q =>
      hk c o (fun q' => hb (by simp [q'])) (fun q' => hb (by simp [q'])) (fun q' => hb (by simp [q'])) (fun q' => hb (by simp [q'])) q) hf⟩
  self := fun A i s Q E st h => wpAny_pyIter_zip st.1 h
/-- what a walk over a zip needs to know -/
structure LikeZp (J : It) (S : Hp → Prop) (xs ys : List V) : Prop where
  mono : ∀ H H', Same H H' → S H → S H'
  go : ∀ i H, S H → i < xs.length → i < ys.length → J.go i H
  yld : ∀ i H v H', S H → J.yld i H v H' → ∃ T x y, v = .ref T ∧ H T = none ∧ H' = upd H T (.tup [x, y]) ∧ xs[i]? = some x ∧ ys[i]? = some y
  stop : ∀ i H, S H → i ≤ xs.length → i ≤ ys.length → (i = xs.length ∨ i = ys.length) → J.stop i H
theorem Src.mono {K : PySem.W.Frag} {H H' : Hp} (sm : Same H H') : ∀ {u : Src} {xs : List V}, u.has K H xs → u.has K H' xs
  | .lst _, _, h => sm.seq h
  | .tup _, _, h => sameT sm h
  | .txt _, _, h => h
theorem likeZp (K : PySem.W.Frag) (u1 u2 : Src) (xs ys : List V) : LikeZp (ItZ K u1 u2) (fun H => u1.has K H xs ∧ u2.has K H ys) xs ys where
  mono := fun H H' sm h => ⟨Src.mono sm h.1, Src.mono sm h.2⟩
  go := fun i H h l1 l2 => ⟨xs, ys, _, _, h.1, h.2, List.getElem?_eq_getElem l1, List.getElem?_eq_getElem l2⟩
  yld := fun i H v H' h y => by
    obtain ⟨T, x, y', rfl, hT, rfl, f1, f2⟩ := y
    exact ⟨T, x, y', rfl, hT, rfl, f1 _ h.1, f2 _ h.2⟩
  stop := fun i H h l1 l2 e => ⟨xs, ys, h.1, h.2, l1, l2, e⟩
def iZipJ (K : PySem.W.Frag) (ta : TA) : TI := fun σ H R => ta σ H fun vs H1 => ∃ (u1 u2 : Src) (xs ys : List V), vs = [u1.v, u2.v] ∧ u1.has K H1 xs ∧ u2.has K H1 ys ∧ ∀ J S, LikeZp J S xs ys → S H1 → R J H1
theorem pi_zipJ {X : Cx} {e e2 : Expr} {ta : TA} {p pos tpos : Pos} {elts : List Expr} {kk : Nat} (hg : Gl X "zip") (hm : X.mg "zip" = none) (ha : PA X [e, e2] ta)
    (hs : starEach [e, e2] X.env = (false, eval e X.env) :: starEach [e2] X.env := by rfl) (hpl : (backTo pos (starEach [e2] X.env)).any (·.1) = false := by rfl) :
    PI X (.Tuple elts kk tpos) (.Call (.Name "zip" p) [e, e2] [] pos) (iZipJ X.K ta) := by
  refine ⟨fun pins s σ H R I h => ?_⟩
  refine Call_ (ld_blt I hg hm PyProof.Rows.boot_zip (PyProof.Rows.callWith_type1 (thn (ha.run pos pins s σ H _ I h) fun us s1 ⟨vs, H1, I1, r1, q1⟩ => ?_) hs hpl))
  obtain ⟨u1, u2, xs, ys, ex, hx, hy, q1⟩ := q1
  subst ex
  cases r1 with
  | cons r rr =>
    cases rr with
    | cons r' rr =>
      cases rr
      obtain ⟨t1, o1, H01, B1, k1, a1, c1⟩ := src_begins I1 hx r
      obtain ⟨t2, o2, H02, B2, k2, a2, c2⟩ := src_begins I1 hy r'
      refine zip_begins2 B1 B2 k1 k2 fun h' hz hTI hTO g1 g2 hsz hk => wpAny_pyIter_zip hz ?_
      have I2 : Inv X pins σ H1 { s1 with heap := h' } := I1.kept (t' := s1.toks) hk
      have fresh5 : ∀ c, c ∈ [s1.heap.objs.size + 4, s1.heap.objs.size + 2, s1.heap.objs.size + 3, s1.heap.objs.size, s1.heap.objs.size + 1] → FpOk X pins H1 c := fun c hcm => by
        have e' : c = s1.heap.objs.size + 4 ∨ c = s1.heap.objs.size + 2 ∨ c = s1.heap.objs.size + 3 ∨ c = s1.heap.objs.size ∨ c = s1.heap.objs.size + 1 := by simpa using hcm
        have hle : s1.heap.objs.size ≤ c := by
          rcases e' with z | z | z | z | z
          · rw [z]; exact Nat.le_add_right _ _
          · rw [z]; exact Nat.le_add_right _ _
          · rw [z]; exact Nat.le_add_right _ _
          · rw [z]; exact Nat.le_refl _
          · rw [z]; exact Nat.le_add_right _ _
        exact I1.fpOk hle (I1.hok.fresh hle)
      have S : ZipSep2 (s1.heap.objs.size + 4) (s1.heap.objs.size + 2) (s1.heap.objs.size + 3) s1.heap.objs.size (s1.heap.objs.size + 1) (s1.heap.objs.size :: u1.fp) ((s1.heap.objs.size + 1) :: u2.fp) := zip_sep2 a1 a2
      refine ⟨s1.heap.objs.size + 4, [s1.heap.objs.size + 4, s1.heap.objs.size + 2, s1.heap.objs.size + 3, s1.heap.objs.size, s1.heap.objs.size + 1], _, _, H1, rfl, I2, turn_zipG (t1 := t1) (t2 := t2) S (fun a ha => Nat.ne_of_lt (a1 a ha)) (fun a ha => Nat.ne_of_lt (Nat.lt_succ_of_lt (a2 a ha))), ⟨hz, hTI, ⟨_, _, hTO⟩, c1 _ _ g1, c2 _ _ g2⟩, fresh5, q1 _ _ (likeZp X.K u1 u2 xs ys) ⟨hx, hy⟩⟩
theorem for_zipJ {J : It} {S : Hp → Prop} {xs ys : List V} (L : LikeZp J S xs ys) {n : Nat} (hn : n = min xs.length ys.length) {g : TG} {tb : TS} {D : Ends} {σ : L2.St} {H : Hp} (Pv : Nat → L2.St → Hp → Prop) (h0 : Pv 0 σ H) (hl : ∀ i σ H, i ≤ n → Pv i σ H → S H)
    (hs : ∀ i x y σ H, xs[i]? = some x → ys[i]? = some y → Pv i σ H → ∀ T, H T = none → g (.ref T) σ (upd H T (.tup [x, y])) fun σ2 H2 => tb { D with nx := Pv (i + 1), ct := Pv (i + 1), bk := D.nx } σ2 H2) (hd : ∀ σ H, Pv n σ H → D.nx σ H) :
    ∃ W : Nat → Nat → L2.St → Hp → Prop, (∃ m, W 0 m σ H) ∧ ∀ i m σ H, W i m σ H →
      (J.stop i H ∧ D.nx σ H) ∨ (J.go i H ∧ ∃ N : L2.St → Hp → Prop, (∀ σ' H', N σ' H' → ∃ m', m' < m ∧ W (i + 1) m' σ' H') ∧ ∀ v H', J.yld i H v H' → g v σ H' fun σ2 H2 => tb { D with nx := N, ct := N, bk := D.nx } σ2 H2) := by
  subst hn
  refine ⟨fun i m σ H => m = min xs.length ys.length - i ∧ i ≤ min xs.length ys.length ∧ Pv i σ H, ⟨_, rfl, Nat.zero_le _, h0⟩, ?_⟩
  rintro i m σ H ⟨rfl, hi, p⟩
  have q := hl i σ H hi p
  by_cases hlt : i < min xs.length ys.length
  · refine .inr ⟨L.go i H q (by omega) (by omega), Pv (i + 1), fun σ' H' p' => ⟨min xs.length ys.length - (i + 1), by omega, rfl, hlt, p'⟩, fun v H' y => ?_⟩
    obtain ⟨T, x, y', rfl, hT, rfl, hx, hy⟩ := L.yld i H v H' q y
    exact hs i x y' σ H hx hy p T hT
  · have e : i = min xs.length ys.length := by omega
    subst e
    exact .inl ⟨L.stop _ H q (by omega) (by omega) (by omega), hd σ H p⟩
theorem lc_zipJ {J : It} {S : Hp → Prop} {xs ys : List V} (L : LikeZp J S xs ys) {n : Nat} (hn : n = min xs.length ys.length) {g : TG} {tt : TT} {te : TE} {vs : List Nat} {σ : L2.St} {H1 : Hp} {D : Addr} {Qd : Hp → Prop} (Pv : Nat → Hp → Prop) (h0 : Pv 0 (upd H1 D (.lst []))) (hl : ∀ i H, i ≤ n → Pv i H → S H)
    (hs : ∀ i x y H, xs[i]? = some x → ys[i]? = some y → Pv i H → ∀ T, H T = none → g (.ref T) (wipe σ vs) (upd H T (.tup [x, y])) fun σ2 H2 => wipe σ2 vs = wipe σ vs ∧ tt σ2 H2 fun b H3 =>
      if b = true then te σ2 H3 fun y H4 => ∃ acc, H4 D = some (.lst acc) ∧ acc.length < sizeLine ∧ Pv (i + 1) (upd H4 D (.lst (acc ++ [y]))) else Pv (i + 1) H3) (hd : ∀ H, Pv n H → Qd H) :
    ∃ W : Nat → Nat → Hp → Prop, (∃ m, W 0 m (upd H1 D (.lst []))) ∧ ∀ i m H, W i m H →
      (J.stop i H ∧ Qd H) ∨ (J.go i H ∧ ∃ Nx : Hp → Prop, (∀ H', Nx H' → ∃ m', m' < m ∧ W (i + 1) m' H') ∧ ∀ x H', J.yld i H x H' → g x (wipe σ vs) H' fun σ2 H2 => wipe σ2 vs = wipe σ vs ∧ tt σ2 H2 fun b H3 =>
        if b = true then te σ2 H3 fun y H4 => ∃ acc, H4 D = some (.lst acc) ∧ acc.length < sizeLine ∧ Nx (upd H4 D (.lst (acc ++ [y]))) else Nx H3) := by
  subst hn
  refine ⟨fun i m H => m = min xs.length ys.length - i ∧ i ≤ min xs.length ys.length ∧ Pv i H, ⟨_, rfl, Nat.zero_le _, h0⟩, ?_⟩
  rintro i m H ⟨rfl, hi, p⟩
  have q := hl i H hi p
  by_cases hlt : i < min xs.length ys.length
  · refine .inr ⟨L.go i H q (by omega) (by omega), Pv (i + 1), fun H' p' => ⟨min xs.length ys.length - (i + 1), by omega, rfl, hlt, p'⟩, fun v H' y => ?_⟩
    obtain ⟨T, x, y', rfl, hT, rfl, hx, hy⟩ := L.yld i H v H' q y
    exact hs i x y' H hx hy p T hT
  · have e : i = min xs.length ys.length := by omega
    subst e
    exact .inl ⟨L.stop _ H q (by omega) (by omega) (by omega), hd H p⟩
end KB

namespace KB
open PySem PySem.Spec PyProof.Rows L2
/-! ### an own class whose __init__ lets nothing out -/
structure Mak (P : Program) (w : World) (K : PySem.W.Frag) (mg : Str → Option Value) (base : Heap) (k : Nat) (x : Str) (C : Addr) (sp : Sp) : Prop where
  ex : ∃ (f : Addr) (fd : FuncData) (ps : List Str), Mk K C f ∧ FnOk P w K mg base CX0 k f fd ps sp ∧ mg x = some (.ref C) ∧ Binds K fd ps []
section
variable {X : Cx} {x C : _} {k j : Nat} {sp : Sp} {e : Expr} {es : List Expr} {t : TA} {p pos : Pos}
theorem pe_mk {x : Str} {C : Addr} (c : Mak X.prog X.w X.K X.mg X.base k x C sp) (hr : Room j X.A) (hk : k + 1 ≤ j) (hg : Gl X x) (ha : PA X (e :: es) t)
    (hdb : (x == ("__debug__" : Str)) = false := by decide) (he : starEach (e :: es) X.env = (false, eval e X.env) :: starEach es X.env := by rfl) (hpl : (backTo pos (starEach es X.env)).any (·.1) = false := by rfl) :
    PE X (.Call (.Name x p) (e :: es) [] pos) (tMake C sp [] E0 t) := by
  obtain ⟨f, fd, ps, M, F, hm, b⟩ := c.ex
  exact pe_make M F (hr.mono hk) hg hm b .nil pass0 ha hdb he hpl
end
/-- the list's repetition by a text's or number's count, and numbers not at their place -/
def misL (w r : Str) : Nat := ((w.cps.toList.zip r.cps.toList).filter fun p => p.1 != p.2).length
end KB
namespace KB
open PySem PySem.Spec PyProof.Rows L2
theorem SqL.offI {K : PySem.W.Frag} {H : Hp} {a x C dx : Addr} {xs : List V} {fs : List (Str × V)} {o : HO} (h : SqL K H a xs) (hx : H x = some (.ins C dx fs)) : SqL K (upd H x o) a xs := by
  rcases h with (h | ⟨o', h⟩) | h
  · exact .inl (.inl (by rw [upd_ne (fun e => by rw [e, hx] at h; cases h)]; exact h))
  · exact .inl (.inr ⟨o', by rw [upd_ne (fun e => by rw [e, hx] at h; cases h)]; exact h⟩)
  · exact .inr h
theorem SqT.offI {K : PySem.W.Frag} {H : Hp} {a x C dx : Addr} {xs : List V} {fs : List (Str × V)} {o : HO} (h : SqT K H a xs) (hx : H x = some (.ins C dx fs)) : SqT K (upd H x o) a xs := by
  rcases h with (h | ⟨o', h⟩) | h
  · exact .inl (.inl (by rw [upd_ne (fun e => by rw [e, hx] at h; cases h)]; exact h))
  · exact .inl (.inr ⟨o', by rw [upd_ne (fun e => by rw [e, hx] at h; cases h)]; exact h⟩)
  · exact .inr h
/-- tuple(x) of a list or a tuple -/
theorem tuple_of {K : PySem.W.Frag} {H : Hp} {a : Addr} {xs : List V} {Q : VK} (h : SqL K H a xs ∨ SqT K H a xs) (q : ∀ H' p, Same H H' → SqT K H' p xs → Q (.ref p) H') :
    ∃ p ys, [V.ref a] = [V.ref p] ∧ ((SqL K H p ys ∧ ∀ l, H l = none → Q (.ref l) (upd H l (.tup ys))) ∨ SqT K H p ys ∧ Q (.ref p) H) := by
  rcases h with h | h
  · exact ⟨a, xs, rfl, .inl ⟨h, fun l hl => q _ l (same_upd hl) (SqT.of upd_same)⟩⟩
  · exact ⟨a, xs, rfl, .inr ⟨h, q H a (fun _ _ e => e) h⟩⟩
end KB
namespace KB
open PySem PySem.Spec PyProof.Rows L2
theorem tup_or {K : PySem.W.Frag} {H : Hp} {a : Addr} {xs : List V} {Q : VK} (h : SqL K H a xs ∨ SqT K H a xs) (q : ∀ H' p, Same H H' → SqT K H' p xs → Q (.ref p) H') :
    (SqL K H a xs ∧ ∀ l, H l = none → Q (.ref l) (upd H l (.tup xs))) ∨ SqT K H a xs ∧ Q (.ref a) H := by
  rcases h with h | h
  · exact .inl ⟨h, fun l hl => q _ l (same_upd hl) (SqT.of upd_same)⟩
  · exact .inr ⟨h, q H a (fun _ _ e => e) h⟩
end KB
namespace KB
theorem filt_step (p : Nat → Bool) (i : Nat) : (List.range (i + 1)).filter p = (List.range i).filter p ++ (if p i = true then [i] else []) := by
  rw [List.range_succ, List.filter_append]
  congr 1
  cases h : p i <;> simp [h]
theorem filt_le (p : Nat → Bool) (i : Nat) : ((List.range i).filter p).length ≤ i := by
  have := List.length_filter_le p (List.range i)
  rwa [List.length_range] at this
end KB
namespace KB
open PySem PySem.Spec PyProof.Rows L2
theorem in_addS {X : Cx} : InOp X .Add (fun x y H Q => ∃ i j, x = .str i ∧ y = .str j ∧ i.length + j.length ≤ sizeLine ∧ Q (.str (i ++ j)) H) := fun pins s σ H x y u v Q I rx ry h => iop_add_str pins s σ H x y u v Q I rx ry h
def LB : Nat := 1000
theorem LB_eq : LB = 1000 := rfl
theorem len_app (a b : Str) : (a ++ b).length = a.length + b.length := by
  show (a.cps ++ b.cps).size = a.cps.size + b.cps.size
  rw [Array.size_append]
end KB
namespace KB
open PySem PySem.Spec PyProof.Rows L2
theorem same_self {H : Hp} {x : Addr} {o : HO} (h : H x = some o) : Same (upd H x o) H := fun b u e => by
  by_cases hb : b = x
  · subst hb
    rw [upd_same] at e
    rw [h]
    exact e
  · rw [upd_ne hb] at e
    exact e
end KB
namespace KB
open PySem PySem.Spec PyProof.Rows L2
/-- sep.join(xs) within a comprehension -/
def tJoinC (K : PySem.W.Frag) (to te : TE) : TE := tM1 (fun x xs H Q => ∃ a p, ∃ ys : List Str, x = .str a ∧ xs = [.ref p] ∧ (SqL K H p (ys.map V.str) ∨ SqT K H p (ys.map V.str)) ∧ (ys.map (·.length)).sum + ys.length * a.length ≤ 16777216 ∧ Q (.str (Txt.join a ys)) H) to te
theorem pe_joinC {X : Cx} (K : PySem.W.Frag) {o e : Expr} {to te : TE} {apos pos : Pos} (ho : PE X o to) (he : PE X e te) (hs : starEach [e] X.env = [(false, eval e X.env)] := by rfl) (hbase : attributeBase o "join" X.env (eval o X.env) = eval o X.env := by rfl) (hline : (apos.endLine == pos.line) = true := by rfl) (hK : X.K = K := by rfl) :
    PE X (.Call (.Attribute o "join" apos) [e] [] pos) (tJoinC K to te) := by
  subst hK
  exact pe_join ho he hs hbase hline
end KB
namespace KB
open PySem PySem.Spec PyProof.Rows L2
/-! ### a list of strings beside the tape -/
structure Ns (B0 B H : Hp) (t p : Addr) (c : Nat) (ws : List Str) : Prop where
  same : Same B0 B
  tp : Tp B H t c
  at_ : B p = some (.lst (ws.map V.str))
  nb : B0 p = none
theorem Ns.set {B0 B H : Hp} {t p : Addr} {c : Nat} {ws : List Str} (N : Ns B0 B H t p c ws) (zs : List Str) : Ns B0 (upd B p (.lst (zs.map V.str))) (upd H p (.lst (zs.map V.str))) t p c zs :=
  ⟨same_out N.same N.nb, N.tp.set N.at_, upd_same, N.nb⟩
theorem Ns.hd {B0 B H : Hp} {t p : Addr} {c : Nat} {ws : List Str} (N : Ns B0 B H t p c ws) : H p = some (.lst (ws.map V.str)) := N.tp.at N.at_
theorem Ns.le {B0 B H : Hp} {t p : Addr} {c d : Nat} {ws : List Str} (N : Ns B0 B H t p c ws) (h : c ≤ d) : Ns B0 B H t p d ws := ⟨N.same, N.tp.le h, N.at_, N.nb⟩
theorem Ns.drw {B0 B H H' : Hp} {t p : Addr} {c d : Nat} {ws : List Str} (N : Ns B0 B H t p c ws) (T : Tp B H' t d) : Ns B0 B H' t p d ws := ⟨N.same, T, N.at_, N.nb⟩
theorem Ns.app {B0 B H : Hp} {t p : Addr} {c : Nat} {ws : List Str} (N : Ns B0 B H t p c ws) (z : Str) : Ns B0 (upd B p (.lst (ws.map V.str ++ [.str z]))) (upd H p (.lst (ws.map V.str ++ [.str z]))) t p c (ws ++ [z]) := by
  rw [show ws.map V.str ++ [V.str z] = (ws ++ [z]).map V.str by rw [List.map_append]; rfl]
  exact N.set _
theorem Tp.ns {B H : Hp} {t p : Addr} {c : Nat} (T : Tp B H t c) (hp : H p = none) (ws : List Str) : Ns B (upd B p (.lst (ws.map V.str))) (upd H p (.lst (ws.map V.str))) t p c ws :=
  ⟨same_upd (T.isn hp), T.new hp, upd_same, T.isn hp⟩
theorem at_strs {ws : List Str} {i : Nat} (hi : i < ws.length) : atI (ws.map V.str) (i : Int) = some (.str (ws.getD i "")) :=
  atI_nat (j := i) (by rw [List.getElem?_map, List.getD_eq_getElem?_getD, List.getElem?_eq_getElem hi]; rfl)
/-! ### bit words -/
theorem isB_all {z : Str} : isB z = true ↔ ∀ c ∈ z.cps.toList, c = 48 ∨ c = 49 := by
  constructor
  · intro h c hc
    exact isB_mem h hc
  · intro h
    show z.cps.toList.all (("01" : Str)).cps.contains = true
    have e01 : (("01" : Str)).cps = #[48, 49] := by decide
    rw [e01, List.all_eq_true]
    intro c hc
    rcases h c hc with e | e <;> rw [e] <;> simp
theorem isB_app {a b : Str} (h1 : isB a = true) (h2 : isB b = true) : isB (a ++ b) = true := by
  rw [isB_all] at h1 h2 ⊢
  intro c hc
  have hc' : c ∈ (a.cps ++ b.cps).toList := hc
  rw [Array.toList_append] at hc'
  rcases List.mem_append.mp hc' with z | z
  · exact h1 c z
  · exact h2 c z
theorem isB_rep {z : Str} {k : Int} (h : isB z = true) : isB (repS z k) = true := by
  rw [isB_all] at h ⊢
  intro c hc
  have hc' : c ∈ ((List.replicate k.toNat z.cps.toList).flatten).toArray.toList := hc
  have hc2 : c ∈ (List.replicate k.toNat z.cps.toList).flatten := by simpa using hc'
  obtain ⟨l, hl, hcl⟩ := List.mem_flatten.mp hc2
  rw [List.eq_of_mem_replicate hl] at hcl
  exact h c hcl
theorem isB_cut {z : Str} {lo hi : Option Int} (h : isB z = true) : isB (cutS z lo hi) = true := by
  rw [isB_all] at h ⊢
  intro c hc
  have hc' : c ∈ ((z.cps.toList.drop (HT.sIx z.length 0 lo)).take (HT.sIx z.length z.length hi - HT.sIx z.length 0 lo)).toArray.toList := hc
  have hc2 : c ∈ (z.cps.toList.drop (HT.sIx z.length 0 lo)).take (HT.sIx z.length z.length hi - HT.sIx z.length 0 lo) := by simpa using hc'
  exact h c (List.mem_of_mem_drop (List.mem_of_mem_take hc2))
theorem cut_len {z : Str} {k : Nat} (h : k ≤ z.length) : (cutS z none (some (k : Int))).length = k := by
  show (((z.cps.toList.drop (HT.sIx z.length 0 none)).take (HT.sIx z.length z.length (some (k : Int)) - HT.sIx z.length 0 none)).toArray).size = k
  have e2 : HT.sIx z.length 0 none = 0 := rfl
  rw [HT.sIx_nat, e2, Nat.sub_zero, List.drop_zero, List.size_toArray, List.length_take, Array.length_toList]
  have : z.length = z.cps.size := rfl
  omega
end KB
namespace KB
open PySem PySem.Spec PyProof.Rows L2
theorem isB_one : isB "1" = true := isB_all.mpr fun c hc => .inr (by
  have e : (("1" : Str)).cps.toList = [49] := by decide
  rw [e] at hc
  exact List.mem_singleton.mp hc)
theorem isB_zero : isB "0" = true := isB_all.mpr fun c hc => .inl (by
  have e : (("0" : Str)).cps.toList = [48] := by decide
  rw [e] at hc
  exact List.mem_singleton.mp hc)
theorem four_bits (a b c d : Bool) : ∃ n : Nat, n ≤ 4 ∧ ((((if a = true then 1 else 0) + (if b = true then 1 else 0) : Int) + (if c = true then 1 else 0) : Int) + (if d = true then 1 else 0) : Int) = (n : Int) := by
  cases a <;> cases b <;> cases c <;> cases d <;> exact ⟨_, by decide, rfl⟩
theorem sum_signs (cs : List Nat) : ((cs.map chS).map (·.length)).sum = cs.length := by
  induction cs with
  | nil => rfl
  | cons c r ih =>
    rw [List.map_cons, List.map_cons, List.sum_cons, ih, List.length_cons]
    show 1 + r.length = _
    omega
end KB
namespace KB
open PySem PySem.Spec PyProof.Rows L2
/-- the base takes up all that is no list -/
theorem Tp.grow {B H : Hp} {t : Addr} {c : Nat} (T : Tp B H t c) : ∃ B', Same B B' ∧ Tp B' H t c ∧ ∀ a o, H a = some o → (∀ xs, o ≠ .lst xs) → B' a = some o := by
  obtain ⟨sm, b, g, gs, sd, ct, h1, h2, h3, h4, h5⟩ := T
  refine ⟨fun a => if a = t ∨ a = g then none else H a, fun a o e => ?_, ⟨fun a o e => ?_, ?_, g, gs, sd, ct, ?_, h2, h3, h4, h5⟩, fun a o e n => ?_⟩
  · have n1 : a ≠ t := fun z => by rw [z, b] at e; cases e
    have n2 : a ≠ g := fun z => by rw [z, h1] at e; cases e
    show (if a = t ∨ a = g then none else H a) = some o
    rw [if_neg (fun z => z.elim n1 n2)]
    exact sm _ _ e
  · have e' : (if a = t ∨ a = g then none else H a) = some o := e
    split at e'
    · cases e'
    · exact e'
  · show (if t = t ∨ t = g then none else H t) = none
    rw [if_pos (.inl rfl)]
  · show (if g = t ∨ g = g then none else H g) = none
    rw [if_pos (.inr rfl)]
  · have n1 : a ≠ t := fun z => by rw [z, h3] at e; exact n _ (Option.some.inj e).symm
    have n2 : a ≠ g := fun z => by rw [z, h4] at e; exact n _ (Option.some.inj e).symm
    show (if a = t ∨ a = g then none else H a) = some o
    rw [if_neg (fun z => z.elim n1 n2)]
    exact e
theorem SqT.up {K : PySem.W.Frag} {H B : Hp} {a : Addr} {xs : List V} (h : SqT K H a xs) (k : ∀ a o, H a = some o → (∀ xs, o ≠ .lst xs) → B a = some o) : SqT K B a xs := by
  rcases h with (h | ⟨o', h⟩) | h
  · exact .inl (.inl (k _ _ h fun _ e => by cases e))
  · exact .inl (.inr ⟨o', k _ _ h fun _ e => by cases e⟩)
  · exact .inr h
theorem int_zero : PySem.intText? (⟨#[48]⟩ : Str) = some 0 := by decide +kernel
theorem int_one : PySem.intText? (⟨#[49]⟩ : Str) = some 1 := by decide +kernel
end KB

namespace KB
open PySem PySem.Spec PyProof.Rows L2
/-! ### what a heap holds beside another one; bases that take up what was made -/
def dif (B B' : Hp) : Hp := fun a => match B a with
  | none => B' a
  | some _ => none
theorem dif_at {B B' : Hp} {a : Addr} {o : HO} (h : B a = none) (h' : B' a = some o) : dif B B' a = some o := by
  unfold dif
  rw [h]
  exact h'
theorem dif_same {B B' : Hp} : Same (dif B B') B' := fun a o e => by
  unfold dif at e
  split at e
  · exact e
  · cases e
theorem dif_off {B B' : Hp} {a : Addr} {o : HO} (h : B a = some o) : dif B B' a = none := by
  unfold dif
  rw [h]
/-- B and what H' holds beside H -/
def uni (B H H' : Hp) : Hp := fun a => match H a with
  | none => H' a
  | some _ => B a
theorem uni_new {B H H' : Hp} {a : Addr} {o : HO} (h : H a = none) (h' : H' a = some o) : uni B H H' a = some o := by
  unfold uni
  rw [h]
  exact h'
theorem uni_old {B H H' : Hp} (s : Same B H) : Same B (uni B H H') := fun a o e => by
  unfold uni
  rw [s _ _ e]
  exact e
theorem uni_up {B H H' : Hp} (s : Same B H) (s' : Same H H') : Same (uni B H H') H' := fun a o e => by
  unfold uni at e
  split at e
  · exact e
  · exact s' _ _ (s _ _ e)
theorem uni_ne {B H H' : Hp} {a : Addr} (h : uni B H H' a ≠ none) (h' : B a = none) : H a = none := by
  unfold uni at h
  cases e : H a with
  | none => rfl
  | some o => rw [e] at h; exact absurd h' h
theorem Bx.more {B H H' : Hp} {t : Addr} {c : Nat} (T : Bx B H t c) (s : Same H H') : ∃ B', Same B B' ∧ Bx B' H' t c ∧ ∀ a o, H a = none → H' a = some o → B' a = some o :=
  ⟨uni B H H', uni_old T.same, T.up s (uni_old T.same) (uni_up T.same s) fun _ h h' => uni_ne h h', fun _ _ h h' => uni_new h h'⟩
theorem Tp.more {B H H' : Hp} {t : Addr} {c : Nat} (T : Tp B H t c) (s : Same H H') : ∃ B', Same B B' ∧ Tp B' H' t c ∧ ∀ a o, H a = none → H' a = some o → B' a = some o := by
  have T0 := T
  obtain ⟨sm, b, g, gs, sd, ct, h1, h2, h3, h4, h5⟩ := T
  refine ⟨uni B H H', uni_old sm, ⟨uni_up sm s, ?_, g, gs, sd, ct, ?_, h2, s _ _ h3, s _ _ h4, h5⟩, fun _ _ h h' => uni_new h h'⟩
  · exact Classical.byContradiction fun z => by have := uni_ne z b; rw [h3] at this; cases this
  · exact Classical.byContradiction fun z => by have := uni_ne z h1; rw [h4] at this; cases this
theorem cut_len2 {z : Str} {k : Nat} (h : k ≤ z.length) : (cutS z (some (k : Int)) none).length = z.length - k := by
  have e1 : HT.sIx z.length z.length none = z.length := rfl
  show ((z.cps.toList.drop (HT.sIx z.length 0 (some (k : Int)))).take _).toArray.size = _
  have hl : z.cps.toList.length = z.length := by rw [Array.length_toList]; rfl
  rw [HT.sIx_nat, e1, List.size_toArray, List.length_take, List.length_drop, hl]
  omega
theorem bit_ch {n : Int} {ch : Nat} (n0 : 0 ≤ n) (n1 : n < 2) (hch : atI (("01" : Str)).cps.toList n = some ch) : ch = 48 ∨ ch = 49 := by
  have e01 : (("01" : Str)).cps = #[48, 49] := by decide
  rw [e01] at hch
  obtain ⟨j, rfl⟩ := nat_of n0
  rcases (by omega : j = 0 ∨ j = 1) with e | e <;> subst e
  · exact .inl (Option.some.inj hch).symm
  · exact .inr (Option.some.inj hch).symm
theorem isB_chs {cs : List Nat} (h : ∀ y ∈ cs, y = 48 ∨ y = 49) : isB (⟨cs.toArray⟩ : Str) = true := isB_all.mpr fun c hc => h c (by simpa using hc)
theorem okD_up : ∀ {n : Nat} {d : PyData}, okD n d = true → okD (n + 1) d = true
  | 0, d, h => by cases d <;> cases h
  | n + 1, .none, _ => rfl
  | n + 1, .bool _, _ => rfl
  | n + 1, .int _, _ => rfl
  | n + 1, .str _, _ => rfl
  | n + 1, .list ds, h => okD_mk (okD_seq h).1 fun d hd => okD_up ((okD_seq h).2 d hd)
  | n + 1, .tuple ds, h => okD_mk (okD_seq h).1 fun d hd => okD_up ((okD_seq h).2 d hd)
  | n + 1, .dict _, h => by cases h
theorem cut_any (xs : List V) (x : Nat) : cutV xs none (some (x : Int)) = xs.take x := by
  have e2 : HT.sIx xs.length 0 none = 0 := rfl
  unfold cutV
  rw [HT.sIx_nat, e2, Nat.sub_zero, List.drop_zero]
  by_cases h : x ≤ xs.length
  · rw [show min x xs.length = x by omega]
  · rw [show min x xs.length = xs.length by omega, List.take_length, List.take_of_length_le (by omega)]
theorem at_ints {ls : List Int} {i : Nat} (h : i < ls.length) : atI (ls.map V.int) (i : Int) = some (.int (ls.getD i 0)) := atI_nat (by
  rw [List.getElem?_map, List.getD_eq_getElem?_getD, List.getElem?_eq_getElem h]
  rfl)
theorem sgnsV_len (x : Str) : (sgnsV x).length = x.length := by
  unfold sgnsV
  rw [List.length_map, Array.length_toList]
  rfl
theorem likeS (x : Str) : LikeSeq (Its x) (fun _ => True) (sgnsV x) :=
  ⟨fun _ _ _ q => q, fun i _ _ h => by rw [sgnsV_len] at h; exact h, fun i H v H' _ y => ⟨y.1, by
    obtain ⟨_, c, hc, rfl⟩ := y
    unfold sgnsV
    rw [List.getElem?_map, Array.getElem?_toList, hc]
    rfl⟩, fun _ _ => by rw [sgnsV_len]; exact Nat.le_refl _⟩
theorem sgn_at {z : Str} {i : Nat} {x : V} (h : (sgnsV z)[i]? = some x) : ∃ c, z.cps[i]? = some c ∧ x = .str ⟨#[c]⟩ := by
  unfold sgnsV at h
  rw [List.getElem?_map, Array.getElem?_toList] at h
  cases e : z.cps[i]? with
  | none => rw [e] at h; cases h
  | some c => rw [e] at h; exact ⟨c, rfl, (Option.some.inj h).symm⟩
theorem getS {ws : List Str} {k : Nat} {v : V} (h : (ws.map V.str)[k]? = some v) : ∃ z, ws[k]? = some z ∧ v = .str z := by
  rw [List.getElem?_map] at h
  cases e : ws[k]? with
  | none => rw [e] at h; cases h
  | some n => rw [e] at h; exact ⟨n, rfl, (Option.some.inj h).symm⟩
/-- one of two -/
def pk {α : Type} (x y : α) : Nat → α
  | 0 => x
  | _ => y
theorem two_at {α : Type} {f : Nat → α} {j : Nat} (h : j < 2) : [f 0, f 1][j]? = some (f j) := by
  rcases (by omega : j = 0 ∨ j = 1) with e | e <;> subst e <;> rfl
theorem nums_is {K : PySem.W.Frag} {H : Hp} {a : Addr} {ls : List Nat} (hS : H a = some (.lst (ls.map nI)) ∨ H a = some (.tup (ls.map nI))) (hl : ls.length ≤ 100000) : ∃ d, Dp K H (.ref a) d ∧ okD 2 d = true ∧ rowD d = true ∧ lensD d = ls := by
  have al : (ndD ls).all isNumD = true := by
    rw [List.all_eq_true]
    intro d hd
    obtain ⟨n, _, rfl⟩ := List.mem_map.mp hd
    exact decide_eq_true (Int.natCast_nonneg n)
  have okm := okD_mk (n := 1) (ds := ndD ls) (by rw [ndD_len]; exact hl) fun d hd => ndD_ok ls 0 d hd
  rcases hS with h | h
  · exact ⟨.list (ndD ls), .lst (SqL.of h) (dp_nd ls), okm, al, ndD_nat ls⟩
  · exact ⟨.tuple (ndD ls), .tup (SqT.of h) (dp_nd ls), okm, al, ndD_nat ls⟩
end KB

namespace KB
open PySem PySem.Spec PyProof.Rows L2
/-! ### calls with a keyword-only parameter -/
theorem un1 {n c : Nat} (h : n + 64 < c) : n + 1 < c := by omega
section
variable {P : Program} {w : World} {K : PySem.W.Frag} {mg : Str → Option Value} {base : Heap}
/-- C(e, ..), the defaults dvs behind -/
structure MakXD (P : Program) (w : World) (K : PySem.W.Frag) (mg : Str → Option Value) (base : Heap) (k : Nat) (x : Str) (C : Addr) (dvs : List V) (sp : Sp) : Prop where
  ex : ∃ (f : Addr) (fd : FuncData) (ps : List Str) (ds : List Value), Mk K C f ∧ FnOk P w K mg base (L2N.CX P w) k f fd ps sp ∧ mg x = some (.ref C) ∧ Binds K fd ps ds ∧ Vals dvs ds
/-- C(e, .., k = v, ..): n values by place -/
structure MakXN (P : Program) (w : World) (K : PySem.W.Frag) (mg : Str → Option Value) (base : Heap) (k : Nat) (x : Str) (C : Addr) (n : Nat) (ks : List Str) (gV : List V → List V → List V) (sp : Sp) : Prop where
  ex : ∃ (f : Addr) (fd : FuncData) (ps : List Str) (g : List Value → List Value → List Value), Mk K C f ∧ FnOk P w K mg base (L2N.CX P w) k f fd ps sp ∧ mg x = some (.ref C) ∧ KBn K fd ps (n + 1) ks g gV
/-- f(e, ..), the defaults dvs behind; f may raise -/
structure CalXD (P : Program) (w : World) (K : PySem.W.Frag) (mg : Str → Option Value) (base : Heap) (k : Nat) (x : Str) (dvs : List V) (sp : Sp) : Prop where
  ex : ∃ (f : Addr) (fd : FuncData) (ps : List Str) (ds : List Value), FnOk P w K mg base (L2N.CX P w) k f fd ps sp ∧ mg x = some (.ref f) ∧ PySem.W.keepIn K (.ref f) = true ∧ Binds K fd ps ds ∧ Vals dvs ds
end
section
variable {X : Cx} {k j n : Nat} {C : Addr} {x : Str} {sp : Sp} {p pos apos : Pos} {e o : Expr} {es : List Expr} {kws : List Keyword} {ta : TE} {t tk : TA} {ks : List Str} {gV : List V → List V → List V} {dvs : List V}
theorem pe_mkxD (c : MakXD X.prog X.w X.K X.mg X.base k x C dvs sp) (hr : Room j X.A) (hk : k + 1 ≤ j) (hg : Gl X x) (ha : PA X (e :: es) t)
    (hdb : (x == ("__debug__" : Str)) = false := by decide) (he : starEach (e :: es) X.env = (false, eval e X.env) :: starEach es X.env := by rfl) (hpl : (backTo pos (starEach es X.env)).any (·.1) = false := by rfl) :
    PE X (.Call (.Name x p) (e :: es) [] pos) (tMake C sp dvs E0 t) := by
  obtain ⟨f, fd, ps, ds, M, F, hm, b, hd⟩ := c.ex
  exact pe_make M F (hr.mono hk) hg hm b hd passN0 ha hdb he hpl
theorem pe_mkxN (c : MakXN X.prog X.w X.K X.mg X.base k x C n ks gV sp) (hr : Room j X.A) (hk : k + 1 ≤ j) (hg : Gl X x) (ha : PA X (e :: es) t) (hkw : PK X kws tk)
    (hall : (backToKw pos (keywordEach kws X.env)).all (·.1.isSome) = true := by rfl) (hks : (backToKw pos (keywordEach kws X.env)).filterMap (·.1) = ks := by rfl) (hdb : (x == ("__debug__" : Str)) = false := by decide)
    (he : starEach (e :: es) X.env = (false, eval e X.env) :: starEach es X.env := by rfl) (hpl : ((backTo pos (starEach (e :: es) X.env)).any (·.1) || (backToKw pos (keywordEach kws X.env)).any (·.1.isNone)) = false := by rfl) :
    PE X (.Call (.Name x p) (e :: es) kws pos) (tMakeK C n ks.length sp gV E0 t tk) := by
  obtain ⟨f, fd, ps, g, M, F, hm, b⟩ := c.ex
  exact pe_makeK M F (hr.mono hk) hg hm b passN0 ha hkw hall hks hdb he hpl
end
/-! ### C(e, ..) with defaults, in a try -/
def tMakeSD (C : Addr) (sp : Sp) (dvs : List V) (E : L2.St → XK) (t : TA) : TE := fun σ H Q => t σ H fun vs H1 => ∀ x dx, H1 x = none → H1 dx = none → dx ≠ x → sp (.ref x :: (vs ++ dvs)) (upd (upd H1 dx (.own x)) x (.ins C dx [])) (fun v H2 => v = .non ∧ Q (.ref x) H2) (E σ)
section
variable {X : Cx} {k j : Nat} {C : Addr} {x : Str} {sp : Sp} {p pos : Pos} {e : Expr} {es : List Expr} {t : TA} {dvs : List V} {W : WX}
theorem pe_mkxSD (c : MakXD X.prog X.w X.K X.mg X.base k x C dvs sp) (hr : Room j X.A) (hk : k + 1 ≤ j) (hg : Gl X x) (tk : L2N.Takes X W) (ha : PA X (e :: es) t)
    (hdb : (x == ("__debug__" : Str)) = false := by decide) (he : starEach (e :: es) X.env = (false, eval e X.env) :: starEach es X.env := by rfl) (hpl : (backTo pos (starEach es X.env)).any (·.1) = false := by rfl) :
    PE X (.Call (.Name x p) (e :: es) [] pos) (tMakeSD C sp dvs (WE W) t) := by
  obtain ⟨f, fd, ps, ds, M, F, hm, b, hd⟩ := c.ex
  refine ⟨fun pins s σ H Q I h => ?_⟩
  refine wpAny_Call_Name_kw (ld_glob I hg hm ?_ hdb)
  refine PySem.W.callWith_K (h₀ := X.base) I.ok.mod.kin M.kp (thn (ha.run pos pins s σ H _ I h) fun us s1 ⟨vs, H1, I1, r, q⟩ => ⟨I1.kIn, ?_⟩) he hpl
  have hq := q (s1.heap.objs.size + 1) s1.heap.objs.size (I1.hok.fresh (Nat.le_succ _)) (I1.hok.fresh (Nat.le_refl _)) (Nat.ne_of_lt (Nat.lt_succ_self _))
  have hl : ∀ x : Addr, (Value.ref x :: us ++ ds).length = ps.length := fun x => by
    have e1 := F.len _ _ _ _ hq
    rw [List.length_cons, List.length_append] at e1
    rw [List.length_append, List.length_cons, ← r.length, ← hd.length, ← e1]
    omega
  exact run_makeS (us := us) (ws := []) (ul := us ++ ds) (vl := vs ++ dvs) M F (hr.mono hk) tk I1 (fun x => .cons rfl (r.append hd)) (fun s' x hK => b s' (Value.ref x :: us) hK (hl x)) q
end
/-! ### walks: backwards over a list, and comprehensions with two fors -/
theorem for_rev {K : PySem.W.Frag} {a : Addr} {xs : List V} {g : TG} {tb : TS} {D : Ends} {σ : L2.St} {H : Hp} (Pv : Nat → L2.St → Hp → Prop) (h0 : Pv 0 σ H) (hl : ∀ i σ H, i ≤ xs.length → Pv i σ H → SqL K H a xs)
    (hs : ∀ i x σ H, i < xs.length → xs[xs.length - 1 - i]? = some x → Pv i σ H → g x σ H fun σ2 H2 => tb { D with nx := Pv (i + 1), ct := Pv (i + 1), bk := D.nx } σ2 H2) (hd : ∀ σ H, Pv xs.length σ H → D.nx σ H) :
    ∃ W : Nat → Nat → L2.St → Hp → Prop, (∃ m, W 0 m σ H) ∧ ∀ i m σ H, W i m σ H →
      ((Itv K a xs.length).stop i H ∧ D.nx σ H) ∨ ((Itv K a xs.length).go i H ∧ ∃ N : L2.St → Hp → Prop, (∀ σ' H', N σ' H' → ∃ m', m' < m ∧ W (i + 1) m' σ' H') ∧ ∀ x H', (Itv K a xs.length).yld i H x H' → g x σ H' fun σ2 H2 => tb { D with nx := N, ct := N, bk := D.nx } σ2 H2) := by
  refine ⟨fun i m σ H => m = xs.length - i ∧ i ≤ xs.length ∧ Pv i σ H, ⟨xs.length, by simp, Nat.zero_le _, h0⟩, ?_⟩
  rintro i m σ H ⟨rfl, hi, p⟩
  have q := hl i σ H hi p
  by_cases hlt : i < xs.length
  · have e := List.getElem?_eq_getElem (show xs.length - 1 - i < xs.length by omega)
    refine .inr ⟨⟨hlt, xs, _, q, e⟩, Pv (i + 1), fun σ' H' p' => ⟨xs.length - (i + 1), by omega, rfl, hlt, p'⟩, fun x H' y => ?_⟩
    obtain ⟨e, y⟩ := y
    subst e
    exact hs i x σ _ hlt (y xs q) p
  · have e : i = xs.length := by omega
    subst e
    exact .inl ⟨Nat.le_refl _, hd σ H p⟩
theorem lc2_J {J : It} {S : Hp → Prop} {xs : List V} (L : LikeSeq J S xs) {g : TG} {tt : TT} {wi1 : TI} {g1 : TG} {tt1 : TT} {te : TE} {vs vs1 : List Nat} {σ : L2.St} {H1 : Hp} {D : Addr} {Qd : Hp → Prop} (Pv : Nat → Hp → Prop) (h0 : Pv 0 (upd H1 D (.lst []))) (hl : ∀ i H, i ≤ xs.length → Pv i H → S H)
    (hs : ∀ i x H, xs[i]? = some x → Pv i H → g x (wipe σ vs) H fun σ2 H2 => wipe σ2 vs = wipe σ vs ∧ tt σ2 H2 fun b H3 =>
      if b = true then wi1 σ2 H3 fun J1 H4 => ∃ W1 : Nat → Nat → Hp → Prop, (∃ m, W1 0 m H4) ∧ ∀ j k H, W1 j k H →
        (J1.stop j H ∧ Pv (i + 1) H) ∨ (J1.go j H ∧ ∃ Nx1 : Hp → Prop, (∀ H', Nx1 H' → ∃ k', k' < k ∧ W1 (j + 1) k' H') ∧ ∀ x H', J1.yld j H x H' → g1 x (wipe σ2 vs1) H' fun σ3 H5 => wipe σ3 vs1 = wipe σ2 vs1 ∧ tt1 σ3 H5 fun b H6 =>
          if b = true then te σ3 H6 fun y H7 => ∃ acc, H7 D = some (.lst acc) ∧ acc.length < sizeLine ∧ Nx1 (upd H7 D (.lst (acc ++ [y]))) else Nx1 H6)
      else Pv (i + 1) H3) (hd : ∀ H, Pv xs.length H → Qd H) :
    ∃ W : Nat → Nat → Hp → Prop, (∃ m, W 0 m (upd H1 D (.lst []))) ∧ ∀ i m H, W i m H →
      (J.stop i H ∧ Qd H) ∨ (J.go i H ∧ ∃ Nx : Hp → Prop, (∀ H', Nx H' → ∃ m', m' < m ∧ W (i + 1) m' H') ∧ ∀ x H', J.yld i H x H' → g x (wipe σ vs) H' fun σ2 H2 => wipe σ2 vs = wipe σ vs ∧ tt σ2 H2 fun b H3 =>
        if b = true then wi1 σ2 H3 fun J1 H4 => ∃ W1 : Nat → Nat → Hp → Prop, (∃ m, W1 0 m H4) ∧ ∀ j k H, W1 j k H →
          (J1.stop j H ∧ Nx H) ∨ (J1.go j H ∧ ∃ Nx1 : Hp → Prop, (∀ H', Nx1 H' → ∃ k', k' < k ∧ W1 (j + 1) k' H') ∧ ∀ x H', J1.yld j H x H' → g1 x (wipe σ2 vs1) H' fun σ3 H5 => wipe σ3 vs1 = wipe σ2 vs1 ∧ tt1 σ3 H5 fun b H6 =>
            if b = true then te σ3 H6 fun y H7 => ∃ acc, H7 D = some (.lst acc) ∧ acc.length < sizeLine ∧ Nx1 (upd H7 D (.lst (acc ++ [y]))) else Nx1 H6)
        else Nx H3) := by
  refine ⟨fun i m H => m = xs.length - i ∧ i ≤ xs.length ∧ Pv i H, ⟨xs.length, by simp, Nat.zero_le _, h0⟩, ?_⟩
  rintro i m H ⟨rfl, hi, p⟩
  have q := hl i H hi p
  by_cases hlt : i < xs.length
  · refine .inr ⟨L.go i H q hlt, Pv (i + 1), fun H' p' => ⟨xs.length - (i + 1), by omega, rfl, hlt, p'⟩, fun x H' y => ?_⟩
    obtain ⟨e, yy⟩ := L.yld i H x H' q y; clear y
    subst e
    exact hs i x _ yy p
  · have e : i = xs.length := by omega
    subst e
    exact .inl ⟨L.stop H q, hd H p⟩
theorem lc2_in {J1 : It} {S1 : Hp → Prop} {ys : List V} (L : LikeSeq J1 S1 ys) {g1 : TG} {tt1 : TT} {te : TE} {vs1 : List Nat} {σ2 : L2.St} {H4 : Hp} {D : Addr} {Nx : Hp → Prop} (Pw : Nat → Hp → Prop) (h0 : Pw 0 H4) (hl : ∀ i H, i ≤ ys.length → Pw i H → S1 H)
    (hs : ∀ j y H, ys[j]? = some y → Pw j H → g1 y (wipe σ2 vs1) H fun σ3 H5 => wipe σ3 vs1 = wipe σ2 vs1 ∧ tt1 σ3 H5 fun b H6 =>
      if b = true then te σ3 H6 fun y H7 => ∃ acc, H7 D = some (.lst acc) ∧ acc.length < sizeLine ∧ Pw (j + 1) (upd H7 D (.lst (acc ++ [y]))) else Pw (j + 1) H6) (hd : ∀ H, Pw ys.length H → Nx H) :
    ∃ W1 : Nat → Nat → Hp → Prop, (∃ m, W1 0 m H4) ∧ ∀ j k H, W1 j k H →
      (J1.stop j H ∧ Nx H) ∨ (J1.go j H ∧ ∃ Nx1 : Hp → Prop, (∀ H', Nx1 H' → ∃ k', k' < k ∧ W1 (j + 1) k' H') ∧ ∀ x H', J1.yld j H x H' → g1 x (wipe σ2 vs1) H' fun σ3 H5 => wipe σ3 vs1 = wipe σ2 vs1 ∧ tt1 σ3 H5 fun b H6 =>
        if b = true then te σ3 H6 fun y H7 => ∃ acc, H7 D = some (.lst acc) ∧ acc.length < sizeLine ∧ Nx1 (upd H7 D (.lst (acc ++ [y]))) else Nx1 H6) := by
  refine ⟨fun i m H => m = ys.length - i ∧ i ≤ ys.length ∧ Pw i H, ⟨ys.length, by simp, Nat.zero_le _, h0⟩, ?_⟩
  rintro i m H ⟨rfl, hi, p⟩
  have q := hl i H hi p
  by_cases hlt : i < ys.length
  · refine .inr ⟨L.go i H q hlt, Pw (i + 1), fun H' p' => ⟨ys.length - (i + 1), by omega, rfl, hlt, p'⟩, fun x H' y => ?_⟩
    obtain ⟨e, yy⟩ := L.yld i H x H' q y; clear y
    subst e
    exact hs i x _ yy p
  · have e : i = ys.length := by omega
    subst e
    exact .inl ⟨L.stop H q, hd H p⟩
theorem max3 (a b c : Int) : nuMax3 (.int a) (.int b) (.int c) = some (.int (if (if a < b then b else a) < c then c else (if a < b then b else a))) := by
  have l : ∀ x y : Int, nuLt (.int x) (.int y) = some (decide (x < y)) := fun _ _ => rfl
  have m : ∀ x y : Int, nuMax2 (.int x) (.int y) = some (.int (if x < y then y else x)) := fun x y => by
    unfold nuMax2
    rw [l]
    by_cases h : x < y
    · rw [decide_eq_true h, if_pos h]
      rfl
    · rw [decide_eq_false h, if_neg h]
      rfl
  unfold nuMax3
  rw [m]
  exact m _ _
end KB

/-! ### a try with several clauses that all give the exception the same name (the library has one such clause, or several without a name) -/
namespace L2N
open PySem PySem.Spec PyProof.Rows L2
/-- the ends of a suite behind which the name in slot i is gone -/
def gone (i : Nat) (D : Ends) : Ends := { nx := fun σ H => D.nx (σ.set i none) H, rt := D.rt, bk := fun σ H => D.bk (σ.set i none) H, ct := fun σ H => D.ct (σ.set i none) H }
def wNamed (K : PySem.W.Frag) (i : Nat) (Wout : WX) (D : Ends) : List (Value × (Addr → Value → Option Addr → TS)) → WX
  | [] => Wout
  | z :: r => fun cls d σ H => ∃ b, PySem.W.exmOne K cls z.1 = some b ∧ (b = true → ∀ a, H a = none → z.2 a cls d (gone i D) (σ.set i (some (.ref a))) H) ∧ (b = false → wNamed K i Wout D r cls d σ H)
inductive NamedOk (X : Cx) (n : Str) : List ExceptHandler → List (Value × (Addr → Value → Option Addr → TS)) → Prop
  | nil : NamedOk X n [] []
  | cons {x : Str} {c : Value} {ts : Addr → Value → Option Addr → TS} {s0 : Stmt} {ss : List Stmt} {p1 p2 : Pos} {hs : List ExceptHandler} {l : List (Value × (Addr → Value → Option Addr → TS))} (nm : Names X x c)
      (su : ∀ (a : Addr) (oe : Obj) (cls : Value) (d : Option Addr) (pn : List (Addr × Obj)), Zn cls d oe → (∃ vs, oe.data = .fields vs) → PSs (X.suite a ((a, oe) :: pn)) (s0 :: ss) (ts a cls d)) (rest : NamedOk X n hs l) :
      NamedOk X n (.ExceptHandler (some (.Name x p1)) (some n) (s0 :: ss) p2 :: hs) ((c, ts) :: l)
section
variable {X : Cx} {n : Str} {i : Nat} {body : List Stmt} {h0 : ExceptHandler} {hds : List ExceptHandler} {l : List (Value × (Addr → Value → Option Addr → TS))} {pos : Pos} {tb : WX → TS} {Wout : WX}
theorem ps_try_named (hst : X.stack = X.env :: X.outer) (hfr : X.env.frame = some X.env.locals) (nd : X.N.Nodup) (hi : X.N[i]? = some n) (loc : X.env.kindOf n = some .local) (tk : Takes X Wout)
    (hb : ∀ (W : WX) (pn : List (Addr × Obj)) (xe : Value → Shared → Prop), Takes (X.tr pn xe) W → PassesOwn (model X.prog X.w) X.A X.env xe → PSs (X.tr pn xe) body (tb W))
    (hh : NamedOk X n (h0 :: hds) l) : PS X (.Try body (h0 :: hds) [] [] pos) (fun D σ H => tb (wNamed X.K i Wout D l) D σ H) := by
  refine ⟨fun pins s σ H D I h => ?_⟩
  have ok := I.ok
  have af : X.A.frames = some (X.env :: X.outer) := by rw [ok.frames, hst]
  refine wpAny_Try_except (wpAny_mono ((hb (wNamed X.K i Wout D l) (X.pn ++ pins) (fun e s1 => wpAny (model X.prog X.w) X.A (noteFrame e X.env) (fun _ s2 => wpAny (model X.prog X.w) X.A (setFlight e none) (fun _ s3 =>
    wpAny (model X.prog X.w) X.A (handleBy e X.env (h0 :: hds)) (SP X pins D) X.xe s3) X.xe s2) X.xe s1) (fun u s' caught => ?_) PassesOwn.looking).run [] s σ H D (I.toTry _) h) (fun f s1 q => ?_) (fun e s1 he => he))
  · obtain ⟨a, B, sI, pins', σ', H', cls, d, rfl, J', nb, up, sky, na, os, ag, want⟩ := caught
    have J : Inv X pins σ' H' sI := J'.ofTry ok
    refine Sky.land Zn.steady af hfr (by rw [← hst]; exact sky) fun h3 fl up3 => ?_
    have J3 : Inv X pins σ' H' { s' with heap := h3 } := J.landed nb fl.1 (up.trans up3) os ag
    obtain ⟨o3, vs3, at3, z3, d3⟩ := fl.there
    have apart : a ∉ frs (X.env :: X.outer) := fun hm => by
      obtain ⟨_, o', e', no⟩ := fl.2.2.1.mem hm
      rw [at3] at e'
      cases e'
      exact no _ d3
    have nL : a ≠ X.env.locals := fun z => apart (List.mem_filterMap.mpr ⟨X.env, List.mem_cons_self, by rw [hfr, z]⟩)
    have nF : a ∉ X.fs := fun hm => by
      obtain ⟨e, he, q⟩ := List.mem_filterMap.mp hm
      exact apart (List.mem_filterMap.mpr ⟨e, List.mem_cons_of_mem _ he, q⟩)
    have S3 := J3.suite at3 d3 na nL nF
    have ty : PySem.W.Looks (model X.prog X.w) h3 (typeOf (.ref a)) cls := fun A Q E s k q => wpAny_typeOf_ref (k _ _ at3) (by rw [z3.1]; exact q)
    have along : ∀ {hs : List ExceptHandler} {m : List (Value × (Addr → Value → Option Addr → TS))}, NamedOk X n hs m → wNamed X.K i Wout D m cls d σ' H' → wpAny (model X.prog X.w) X.A (handleBy (.ref a) X.env hs) (SP X pins D) X.xe { s' with heap := h3 } := by
      intro hs m k
      induction k with
      | nil =>
        intro w
        obtain ⟨_, _, _, oe, vs, T, _, _, he, _, hd, h1, _⟩ := id fl
        have out : wpAny (model X.prog X.w) X.A (setFlight (.ref a) X.env.frame) (fun _ s4 => wpAny (model X.prog X.w) X.A (throw (.ref a) : Sem Flow) (SP X pins D) X.xe s4) X.xe { s' with heap := h3 } := by
          rw [hfr]
          exact HandSPX.setFlight_upZ fl fun h4 hh4 up4 => wpAny_throw (tk _ _ ⟨a, B, sI, pins, σ', H', cls, d, rfl, J, nb, (up.trans up3).trans up4, .inr (.inr (by rw [hst]; exact hh4)), na, os, ag, w⟩)
        refine wpAny_handleBy_nil ?_
        unfold PySem.passOn
        refine wpAny_bind (wpAny_field he hd h1 ?_)
        rw [if_neg (show ¬ ((Value.ref T == Value.none) = true) from by simp)]
        first
          | exact wpAny_bind (wpAny_pure (wpAny_bind out))
          | exact wpAny_bind out
      | @cons x c ts s0 ss p1 p2 hs2 l2 nm su rest ih =>
        intro w
        obtain ⟨b, hb1, yes, no⟩ := w
        have named : ∀ {Q : Value → Shared → Prop} {E : Value → Shared → Prop}, Q c { s' with heap := h3 } → wpAny (model X.prog X.w) (X.A.mark (some (.ref a))) (eval (.Name x p1) X.env) Q E { s' with heap := h3 } := fun {Q E} q => by
          rcases nm with ⟨hg, hdb, hm | ⟨hm, hv, hn⟩⟩
          · exact ld_glob (X := X.suite a ((a, o3) :: (X.pn ++ pins))) S3 hg hm q hdb
          · exact ld_blt (X := X.suite a ((a, o3) :: (X.pn ++ pins))) S3 hg hm hv q hn hdb
        refine wpAny_handleBy_cons (codeAny_handlers_test ?_) (by intro q; cases q)
        refine named ((PySem.W.exm_one (M := model X.prog X.w) J3.kIn ty hb1).here ?_)
        cases b with
        | false => exact ih (no rfl)
        | true =>
          refine codeAny_handlers_suite_as (HandSPX.lands_againZ fl fun h4 fl4 up4 => ?_)
          have J4 : Inv X pins σ' H' { s' with heap := h4 } := J.landed nb fl4.1 ((up.trans up3).trans up4) os ag
          obtain ⟨o4, vs4, at4, z4, d4⟩ := fl4.there
          refine store_ok (X := X.suite a ((a, o4) :: (X.pn ++ pins))) (v := .ref a) (J4.suite at4 d4 na nL nF) nd hi (.inl loc) rfl (fun s5 S5 => ?_) (.inr loc)
          refine wpAny_mono ((su a o4 cls d (X.pn ++ pins) z4 ⟨_, d4⟩).run [] s5 _ H' _ S5 (yes rfl a na)) (fun f s6 q => ?_) (fun _ _ z => False.elim z)
          have leave : ∀ {σ6 : St} {H6 : Hp} {Q : Shared → Prop}, Inv (X.suite a ((a, o4) :: (X.pn ++ pins))) [] σ6 H6 s6 → (∀ s7, Inv X pins (σ6.set i none) H6 s7 → Q s7) →
              wpAny (model X.prog X.w) X.A (do bindName X.env n .none; unbindBehindTheSuite X.env n p2) (fun _ s7 => Q s7) X.xe s6 := fun {σ6 H6 Q} S6 hq => gone_ok (S6.unsuite ok) nd hi loc hq
          cases f with
          | next =>
            obtain ⟨_, _, S6, q6⟩ := q
            exact leave S6 fun s7 J7 => ⟨_, _, J7, q6⟩
          | brk =>
            obtain ⟨_, _, S6, q6⟩ := q
            exact leave S6 fun s7 J7 => ⟨_, _, J7, q6⟩
          | cont =>
            obtain ⟨_, _, S6, q6⟩ := q
            exact leave S6 fun s7 J7 => ⟨_, _, J7, q6⟩
          | ret u =>
            obtain ⟨_, _, _, S6, r6, q6⟩ := q
            exact leave S6 fun s7 J7 => ⟨_, _, _, J7, r6, q6⟩
    exact along hh want
  · cases f with
    | next =>
      obtain ⟨_, _, K1, q1⟩ := q
      exact wpAny_execs_nil ⟨_, _, K1.ofTry ok, q1⟩
    | brk =>
      obtain ⟨_, _, K1, q1⟩ := q
      exact ⟨_, _, K1.ofTry ok, q1⟩
    | cont =>
      obtain ⟨_, _, K1, q1⟩ := q
      exact ⟨_, _, K1.ofTry ok, q1⟩
    | ret u =>
      obtain ⟨_, _, _, K1, r1, q1⟩ := q
      exact ⟨_, _, _, K1.ofTry ok, r1, q1⟩
end
end L2N

/-! # KSL: xs[a:c] = ys, a list stored into a slice of another -/
namespace KB
open PySem PySem.Spec PyProof.Rows L2
def rSetSl : V → Option Int → Option Int → V → Hp → (Hp → Prop) → Prop := fun o lo hi v H Q => ∃ l b xs ys a c, o = .ref l ∧ v = .ref b ∧ lo = some a ∧ hi = some c ∧ H l = some (.lst xs) ∧ H b = some (.lst ys) ∧ l ≠ b ∧ 0 ≤ a ∧ a ≤ c ∧ c ≤ (xs.length : Int) ∧ xs.length + ys.length ≤ sizeLine ∧ Q (upd H l (.lst (xs.take a.toNat ++ ys ++ xs.drop c.toNat)))
def gSlice (to : TE) (tl th : TO) : TG := fun v σ H Q => to σ H fun o H1 => tl σ H1 fun lo H2 => th σ H2 fun hi H3 => rSetSl o lo hi v H3 fun H4 => Q σ H4
section
variable {X : Cx} {pos p2 : Pos}
theorem pg_slice {o : Expr} {lo hi : Option Expr} {to : TE} {tl th : TO} (ho : PE X o to) (hl : PO X lo tl) (hu : PO X hi th)
    (ha : ∀ v, assign (.Subscript o (.Slice lo hi none p2) pos) X.env v = (do
      let ov ← holding [v] (eval o X.env)
      let iv ← holding [v, ov] (eval (.Slice lo hi none p2) X.env)
      standAt pos
      holding [v, ov, iv] (setItem ov iv v)
      release [iv, v, ov] []) := by intro _; rfl) : PG X (.Subscript o (.Slice lo hi none p2) pos) (gSlice to tl th) := by
  refine ⟨fun pins s σ H v u Q I r h => ?_⟩
  rw [ha]
  refine wpAny_bind (wpAny_holding (thn (ho.run pins s σ H _ I h) fun ov s1 ⟨x, H1, I1, r1, q1⟩ => ?_))
  refine wpAny_bind (wpAny_holding (wpAny_Slice (thn (hl.run pins s1 σ H1 _ I1 q1) fun vl s2 ⟨l, H2, I2, pl, q2⟩ => thn (hu.run pins s2 σ H2 _ I2 q2) fun vu s3 ⟨y, H3, I3, pu, q3⟩ => ?_)))
  rw [evalPart_none]
  refine wpAny_pure ?_
  have I4 : Inv X pins σ H3 { s3 with heap := s3.heap.push { cls := .type "slice", data := .fields #[vl, vu, .none] } } := I3.kept (t' := s3.toks) fun b ob q => Heap.get?_push_of_some _ q
  obtain ⟨l', b, xs, ys, a, c, rfl, rfl, rfl, rfl, hH, hB, hne, h0, hac, hc, hz, q⟩ := q3
  cases r1
  cases r
  have ra : RelV (.int a) vl := by cases pl; exact ⟨_, rfl⟩
  have rc : RelV (.int c) vu := by cases pu; exact ⟨_, rfl⟩
  refine wpAny_bind (wpAny_standAt (wpAny_bind (wpAny_holding (set_slice I4 hH hB hne (Heap.IsSliceOf.new ..) ra rc h0 hac hc hz fun s5 I5 => ?_))))
  exact wpAny_release ⟨σ, _, I5, q⟩
end
end KB

namespace K25
open PySem PySem.Spec PyProof.Rows L2 KB
local macro_rules | `(tactic| walk_at "hp") => `(tactic| (repeat' (first | exact upd_same | assumption | (refine same_upd (by assumption) _ _ ?_) | (rw [upd_ne (by assumption)]) | (rw [upd_ne (Ne.symm (by assumption))]))))

def topS (i : Nat) : Stmt := PySem.Challenge.pw_keptbudgets_k25_wrong_rows_and_budgets.main.body.getD i (.Pass ⟨0, 0, 0, 0⟩)
abbrev s_InvalidNumber___init__ : Stmt := inClass (topS 4) 0
theorem xb_InvalidNumber : XBody s_InvalidNumber___init__ ["number"] := ⟨⟨_, _, _, _, _, _, _, _, _, rfl, rfl, .inl ⟨_, _, _, _, _, rfl, rfl⟩⟩, ⟨_, rfl, rfl⟩, fun _ _ _ _ _ _ _ _ us hl => match us, hl with | [_], _ => rfl, ⟨rfl, rfl, rfl, by decide +kernel, rfl, by decide +kernel, rfl, rfl⟩, by decide +kernel, by decide +kernel⟩
abbrev s_InvalidBudgets___init__ : Stmt := inClass (topS 5) 0
theorem xb_InvalidBudgets : XBody s_InvalidBudgets___init__ ["budgets"] := ⟨⟨_, _, _, _, _, _, _, _, _, rfl, rfl, .inl ⟨_, _, _, _, _, rfl, rfl⟩⟩, ⟨_, rfl, rfl⟩, fun _ _ _ _ _ _ _ _ us hl => match us, hl with | [_], _ => rfl, ⟨rfl, rfl, rfl, by decide +kernel, rfl, by decide +kernel, rfl, rfl⟩, by decide +kernel, by decide +kernel⟩
abbrev s_InvalidRows___init__ : Stmt := inClass (topS 6) 0
theorem xb_InvalidRows : XBody s_InvalidRows___init__ ["rows"] := ⟨⟨_, _, _, _, _, _, _, _, _, rfl, rfl, .inl ⟨_, _, _, _, _, rfl, rfl⟩⟩, ⟨_, rfl, rfl⟩, fun _ _ _ _ _ _ _ _ us hl => match us, hl with | [_], _ => rfl, ⟨rfl, rfl, rfl, by decide +kernel, rfl, by decide +kernel, rfl, rfl⟩, by decide +kernel, by decide +kernel⟩
abbrev s_is_integer : Stmt := topS 8
theorem sc_is_integer : FnScope ["value"] ["value"] (defScope s_is_integer) := ⟨rfl, rfl, rfl, by decide +kernel, rfl, by decide +kernel, by decide +kernel⟩
abbrev s_is_number : Stmt := topS 9
theorem sc_is_number : FnScope ["value"] ["value"] (defScope s_is_number) := ⟨rfl, rfl, rfl, by decide +kernel, rfl, by decide +kernel, by decide +kernel⟩
abbrev s_is_bit : Stmt := topS 10
theorem sc_is_bit : FnScope ["value"] ["value"] (defScope s_is_bit) := ⟨rfl, rfl, rfl, by decide +kernel, rfl, by decide +kernel, by decide +kernel⟩
abbrev s_is_sequence : Stmt := topS 11
theorem sc_is_sequence : FnScope ["value"] ["value"] (defScope s_is_sequence) := ⟨rfl, rfl, rfl, by decide +kernel, rfl, by decide +kernel, by decide +kernel⟩
abbrev s_are_numbers : Stmt := topS 12
theorem sc_are_numbers : FnScope ["value", "part"] ["value"] (defScope s_are_numbers) := ⟨rfl, rfl, rfl, by decide +kernel, rfl, by decide +kernel, by decide +kernel⟩
abbrev s_Share___init__ : Stmt := inClass (topS 14) 0
theorem sc_Share___init__ : FnScope ["self", "over", "under", "common"] ["self", "over", "under"] (defScope s_Share___init__) := ⟨rfl, rfl, rfl, by decide +kernel, rfl, by decide +kernel, by decide +kernel⟩
abbrev s_Share_is_below : Stmt := inClass (topS 14) 5
theorem sc_Share_is_below : FnScope ["self", "other"] ["self", "other"] (defScope s_Share_is_below) := ⟨rfl, rfl, rfl, by decide +kernel, rfl, by decide +kernel, by decide +kernel⟩
abbrev s_sum_of_halves : Stmt := topS 15
theorem sc_sum_of_halves : FnScope ["lengths", "longest", "over", "length"] ["lengths"] (defScope s_sum_of_halves) := ⟨rfl, rfl, rfl, by decide +kernel, rfl, by decide +kernel, by decide +kernel⟩
abbrev s_is_word : Stmt := topS 17
theorem sc_is_word : FnScope ["value"] ["value"] (defScope s_is_word) := ⟨rfl, rfl, rfl, by decide +kernel, rfl, by decide +kernel, by decide +kernel⟩
abbrev s_check_bit : Stmt := topS 19
theorem sc_check_bit : FnScope ["bit"] ["bit"] (defScope s_check_bit) := ⟨rfl, rfl, rfl, by decide +kernel, rfl, by decide +kernel, by decide +kernel⟩
abbrev s_check_rows : Stmt := topS 20
theorem sc_check_rows : FnScope ["rows"] ["rows"] (defScope s_check_rows) := ⟨rfl, rfl, rfl, by decide +kernel, rfl, by decide +kernel, by decide +kernel⟩
abbrev s_check_budgets : Stmt := topS 21
theorem sc_check_budgets : FnScope ["budgets"] ["budgets"] (defScope s_check_budgets) := ⟨rfl, rfl, rfl, by decide +kernel, rfl, by decide +kernel, by decide +kernel⟩
abbrev s_check_budgets_of : Stmt := topS 22
theorem sc_check_budgets_of : FnScope ["rows", "budgets"] ["rows", "budgets"] (defScope s_check_budgets_of) := ⟨rfl, rfl, rfl, by decide +kernel, rfl, by decide +kernel, by decide +kernel⟩
abbrev s_are_rows : Stmt := topS 23
theorem sc_are_rows : FnScope ["value", "part", "word"] ["value"] (defScope s_are_rows) := ⟨rfl, rfl, rfl, by decide +kernel, rfl, by decide +kernel, by decide +kernel⟩
abbrev s_can_keep : Stmt := topS 30
theorem sc_can_keep : FnScope ["budgets", "room", "depth", "place", "budget", "left", "down"] ["budgets"] (defScope s_can_keep) := ⟨rfl, rfl, rfl, by decide +kernel, rfl, by decide +kernel, by decide +kernel⟩
abbrev s_in_order : Stmt := topS 34
theorem sc_in_order : FnScope ["budgets", "program", "budget"] ["budgets"] (defScope s_in_order) := ⟨rfl, rfl, rfl, by decide +kernel, rfl, by decide +kernel, by decide +kernel⟩
abbrev s_with_less : Stmt := topS 37
theorem sc_with_less : FnScope ["side", "budget", "program"] ["side"] (defScope s_with_less) := ⟨rfl, rfl, rfl, by decide +kernel, rfl, by decide +kernel, by decide +kernel⟩
abbrev s_check_breakable : Stmt := topS 33
theorem sc_check_breakable : FnScope ["budgets"] ["budgets"] (defScope s_check_breakable) := ⟨rfl, rfl, rfl, by decide +kernel, rfl, by decide +kernel, by decide +kernel⟩
abbrev s_broken_on : Stmt := topS 36
theorem sc_broken_on : FnScope ["side", "budget", "program"] ["side"] (defScope s_broken_on) := ⟨rfl, rfl, rfl, by decide +kernel, rfl, by decide +kernel, by decide +kernel⟩
abbrev s_sides_of : Stmt := topS 35
theorem sc_sides_of : FnScope ["living", "room", "depth", "many", "budget"] ["living"] (defScope s_sides_of) := ⟨rfl, rfl, rfl, by decide +kernel, rfl, by decide +kernel, by decide +kernel⟩
abbrev s_hear : Stmt := topS 25
theorem sc_hear : FnScope ["guesser", "bit"] ["guesser", "bit"] (defScope s_hear) := ⟨rfl, rfl, rfl, by decide +kernel, rfl, by decide +kernel, by decide +kernel⟩
abbrev s_Writers___init__ : Stmt := inClass (topS 27) 0
theorem sc_Writers___init__ : FnScope ["self", "rows", "flips"] ["self", "rows", "flips"] (defScope s_Writers___init__) := ⟨rfl, rfl, rfl, by decide +kernel, rfl, by decide +kernel, by decide +kernel⟩
abbrev s_Writers_flips_left : Stmt := inClass (topS 27) 1
theorem sc_Writers_flips_left : FnScope ["self", "program", "word", "row", "told", "own"] ["self", "program", "word"] (defScope s_Writers_flips_left) := ⟨rfl, rfl, rfl, by decide +kernel, rfl, by decide +kernel, by decide +kernel⟩
abbrev s_Writers_living_at : Stmt := inClass (topS 27) 2
theorem sc_Writers_living_at : FnScope ["self", "word", "k"] ["self", "word"] (defScope s_Writers_living_at) := ⟨rfl, rfl, rfl, by decide +kernel, rfl, by decide +kernel, by decide +kernel⟩
abbrev s_without_flips : Stmt := topS 28
theorem sc_without_flips : FnScope ["rows"] ["rows"] (defScope s_without_flips) := ⟨rfl, rfl, rfl, by decide +kernel, rfl, by decide +kernel, by decide +kernel⟩
abbrev s_Keeper___init__ : Stmt := inClass (topS 31) 0
theorem sc_Keeper___init__ : FnScope ["self", "rows", "budgets"] ["self", "rows", "budgets"] (defScope s_Keeper___init__) := ⟨rfl, rfl, rfl, by decide +kernel, rfl, by decide +kernel, by decide +kernel⟩
abbrev s_Keeper_guess : Stmt := inClass (topS 31) 1
theorem sc_Keeper_guess : FnScope ["self"] ["self"] (defScope s_Keeper_guess) := ⟨rfl, rfl, rfl, by decide +kernel, rfl, by decide +kernel, by decide +kernel⟩
abbrev s_Keeper_tell : Stmt := inClass (topS 31) 2
theorem sc_Keeper_tell : FnScope ["self", "bit"] ["self", "bit"] (defScope s_Keeper_tell) := ⟨rfl, rfl, rfl, by decide +kernel, rfl, by decide +kernel, by decide +kernel⟩
abbrev s_Keeper_living : Stmt := inClass (topS 31) 3
theorem sc_Keeper_living : FnScope ["self"] ["self"] (defScope s_Keeper_living) := ⟨rfl, rfl, rfl, by decide +kernel, rfl, by decide +kernel, by decide +kernel⟩
abbrev s_Keeper__weight_of : Stmt := inClass (topS 31) 4
theorem sc_Keeper__weight_of : FnScope ["self", "sign", "writers", "program"] ["self", "sign"] (defScope s_Keeper__weight_of) := ⟨rfl, rfl, rfl, by decide +kernel, rfl, by decide +kernel, by decide +kernel⟩
abbrev s_Breaker___init__ : Stmt := inClass (topS 32) 0
theorem sc_Breaker___init__ : FnScope ["self", "budgets"] ["self", "budgets"] (defScope s_Breaker___init__) := ⟨rfl, rfl, rfl, by decide +kernel, rfl, by decide +kernel, by decide +kernel⟩
abbrev s_Breaker_answer : Stmt := inClass (topS 32) 1
theorem sc_Breaker_answer : FnScope ["self", "bit", "told", "side"] ["self", "bit"] (defScope s_Breaker_answer) := ⟨rfl, rfl, rfl, by decide +kernel, rfl, by decide +kernel, by decide +kernel⟩
abbrev s_law_tape : Stmt := topS 39
theorem sc_law_tape : FnScope ["script", "great", "seed", "cell"] ["script"] (defScope s_law_tape) := ⟨rfl, rfl, rfl, by decide +kernel, rfl, by decide +kernel, by decide +kernel⟩
abbrev s_law_draw : Stmt := topS 40
theorem sc_law_draw : FnScope ["tape", "limit", "great", "number", "mixed"] ["tape", "limit"] (defScope s_law_draw) := ⟨rfl, rfl, rfl, by decide +kernel, rfl, by decide +kernel, by decide +kernel⟩
abbrev s_law_bits : Stmt := topS 41
theorem sc_law_bits : FnScope ["tape", "many", "k"] ["tape", "many"] (defScope s_law_bits) := ⟨rfl, rfl, rfl, by decide +kernel, rfl, by decide +kernel, by decide +kernel⟩
abbrev s_law_below : Stmt := topS 42
theorem sc_law_below : FnScope ["tape", "number", "k"] ["tape"] (defScope s_law_below) := ⟨rfl, rfl, rfl, by decide +kernel, rfl, by decide +kernel, by decide +kernel⟩
abbrev s_law_string : Stmt := topS 43
theorem sc_law_string : FnScope ["tape", "k"] ["tape"] (defScope s_law_string) := ⟨rfl, rfl, rfl, by decide +kernel, rfl, by decide +kernel, by decide +kernel⟩
abbrev s_law_stranger : Stmt := topS 44
theorem sc_law_stranger : FnScope ["tape", "deep", "kind", "parts", "k"] ["tape", "deep"] (defScope s_law_stranger) := ⟨rfl, rfl, rfl, by decide +kernel, rfl, by decide +kernel, by decide +kernel⟩
abbrev s_law_copy : Stmt := topS 45
theorem sc_law_copy : FnScope ["thing", "part"] ["thing"] (defScope s_law_copy) := ⟨rfl, rfl, rfl, by decide +kernel, rfl, by decide +kernel, by decide +kernel⟩
abbrev s_law_same : Stmt := topS 46
theorem sc_law_same : FnScope ["told", "due", "k"] ["told", "due"] (defScope s_law_same) := ⟨rfl, rfl, rfl, by decide +kernel, rfl, by decide +kernel, by decide +kernel⟩
abbrev s_law_is_word : Stmt := topS 47
theorem sc_law_is_word : FnScope ["value", "sign"] ["value"] (defScope s_law_is_word) := ⟨rfl, rfl, rfl, by decide +kernel, rfl, by decide +kernel, by decide +kernel⟩
abbrev s_law_are_rows : Stmt := topS 48
theorem sc_law_are_rows : FnScope ["value", "part"] ["value"] (defScope s_law_are_rows) := ⟨rfl, rfl, rfl, by decide +kernel, rfl, by decide +kernel, by decide +kernel⟩
abbrev s_law_are_budgets : Stmt := topS 49
theorem sc_law_are_budgets : FnScope ["value", "many", "part"] ["value", "many"] (defScope s_law_are_budgets) := ⟨rfl, rfl, rfl, by decide +kernel, rfl, by decide +kernel, by decide +kernel⟩
abbrev s_law_told : Stmt := topS 50
theorem sc_law_told : FnScope ["rows", "budgets", "by_name", "made", "e"] ["rows", "budgets", "by_name"] (defScope s_law_told) := ⟨rfl, rfl, rfl, by decide +kernel, rfl, by decide +kernel, by decide +kernel⟩
abbrev s_law_right : Stmt := topS 51
theorem sc_law_right : FnScope ["rows", "budgets", "by_name", "kept_rows", "kept", "told"] ["rows", "budgets", "by_name"] (defScope s_law_right) := ⟨rfl, rfl, rfl, by decide +kernel, rfl, by decide +kernel, by decide +kernel⟩
abbrev s_law_put : Stmt := topS 52
theorem sc_law_put : FnScope ["parts", "at", "value", "kind", "spoilt"] ["parts", "at", "value", "kind"] (defScope s_law_put) := ⟨rfl, rfl, rfl, by decide +kernel, rfl, by decide +kernel, by decide +kernel⟩
abbrev s_law_spoilt_rows : Stmt := topS 53
theorem sc_law_spoilt_rows : FnScope ["tape", "rows", "at", "kind"] ["tape", "rows"] (defScope s_law_spoilt_rows) := ⟨rfl, rfl, rfl, by decide +kernel, rfl, by decide +kernel, by decide +kernel⟩
abbrev s_law_spoilt_budgets : Stmt := topS 54
theorem sc_law_spoilt_budgets : FnScope ["tape", "budgets", "at", "kind"] ["tape", "budgets"] (defScope s_law_spoilt_budgets) := ⟨rfl, rfl, rfl, by decide +kernel, rfl, by decide +kernel, by decide +kernel⟩
abbrev s_law_tell_refused : Stmt := topS 55
theorem sc_law_tell_refused : FnScope ["keeper", "bit", "e"] ["keeper", "bit"] (defScope s_law_tell_refused) := ⟨rfl, rfl, rfl, by decide +kernel, rfl, by decide +kernel, by decide +kernel⟩
abbrev s_law_answer_refused : Stmt := topS 56
theorem sc_law_answer_refused : FnScope ["breaker", "bit", "e"] ["breaker", "bit"] (defScope s_law_answer_refused) := ⟨rfl, rfl, rfl, by decide +kernel, rfl, by decide +kernel, by decide +kernel⟩
abbrev s_law_bits_right : Stmt := topS 57
theorem sc_law_bits_right : FnScope ["tape", "keeper", "breaker", "k", "bit"] ["tape", "keeper", "breaker"] (defScope s_law_bits_right) := ⟨rfl, rfl, rfl, by decide +kernel, rfl, by decide +kernel, by decide +kernel⟩
abbrev s_law_asks : Stmt := topS 58
theorem sc_law_asks : FnScope ["script", "tape", "size", "rows", "k", "budgets", "row", "named", "keeper", "breaker", "wrong_rows", "wrong", "empty"] ["script"] (defScope s_law_asks) := ⟨rfl, rfl, rfl, by decide +kernel, rfl, by decide +kernel, by decide +kernel⟩
abbrev s_law : Stmt := topS 59
theorem sc_law : FnScope ["script"] ["script"] (defScope s_law) := ⟨rfl, rfl, rfl, by decide +kernel, rfl, by decide +kernel, by decide +kernel⟩
structure Txt (K : PySem.W.Frag) (mg : Str → Option Value) (C_Share : Addr) (C_Writers : Addr) (C_Keeper : Addr) (C_Breaker : Addr) : Prop where
  b_super : mg "super" = none
  b_isinstance : mg "isinstance" = none
  b_int : mg "int" = none
  b_bool : mg "bool" = none
  b_tuple : mg "tuple" = none
  b_list : mg "list" = none
  b_all : mg "all" = none
  b_max : mg "max" = none
  b_sum : mg "sum" = none
  b_str : mg "str" = none
  b_len : mg "len" = none
  b_enumerate : mg "enumerate" = none
  b_sorted : mg "sorted" = none
  b_min : mg "min" = none
  b_zip : mg "zip" = none
  b_range : mg "range" = none
  b_abs : mg "abs" = none
  f_gcd : mg "gcd" = some (.builtin "math.gcd")
  g_Share : mg "Share" = some (.ref C_Share)
/-! ### the tape's two defs -/
def spTape (K : PySem.W.Frag) : Sp := fun vs H Q _ => ∃ (a : Addr) (ns : List Int), vs = [.ref a] ∧ SqL K H a (ns.map V.int) ∧ ns.length ≤ 63 ∧ ∀ H' t, Tp H H' t 0 → Q (.ref t) H'
def spDraw : Sp := fun vs H Q _ => ∃ (B : Hp) (t : Addr) (c : Nat) (lim : Int), vs = [.ref t, .int lim] ∧ Tp B H t c ∧ 0 < lim ∧ lim < 1073741824 ∧ c < 1000000000 ∧ ∀ H' n, Tp B H' t (c + 1) → 0 ≤ n → n < lim → Q (.int n) H'
section
variable {P : Program} {w : World} {K : PySem.W.Frag} {mg : Str → Option Value} {base : Heap} {C_Share C_Writers C_Keeper C_Breaker : Addr}
theorem ok_law_tape {f : Addr} {fd : FuncData} (F : Fun K "_law_tape" "_law_tape" s_law_tape f fd) (T : Txt K mg C_Share C_Writers C_Keeper C_Breaker) : FnOk P w K mg base CX0 1 f fd ["script"] (spTape K) := by
  refine F.ok sc_law_tape (fun vs H Q E h => ?_) (fun cdv A outer s H vs Q E hr h => ?_)
  · obtain ⟨a, ns, rfl, _⟩ := h
    rfl
  · obtain ⟨a, ns, rfl, hS, hlen, q⟩ := h
    refine ⟨_, (pss_cons (ps_set (i := 1) sc_law_tape.nd rfl (by first | exact Or.inl rfl | exact Or.inr rfl) (pe_lst pa_nil))
    (pss_cons (ps_set (i := 2) sc_law_tape.nd rfl (by first | exact Or.inl rfl | exact Or.inr rfl) pe_int)
    (pss_cons (ps_for PassesOwn.never rfl (pi_list (pe_slice sl_list (pv 0) po_none (po_some pe_int))) (pg_name (i := 3) sc_law_tape.nd rfl (by first | exact Or.inl rfl | exact Or.inr rfl))
      (pss_cons (ps_set (i := 2) sc_law_tape.nd rfl (by first | exact Or.inl rfl | exact Or.inr rfl) (pe_op op_mod (pe_callTy call_int1 (by rfl) T.b_int (by decide +kernel) (pa_cons (pe_op op_add (pe_op op_mul (pv 2) pe_int) (pe_callTy call_int1 (by rfl) T.b_int (by decide +kernel) (pa_cons (pv 3) pa_nil))) pa_nil)) pe_int))
        (pss_one (ps_if (pt_cmpR op_ge (pe_callB call_abs (by rfl) T.b_abs (by decide +kernel) (pa_cons (pe_callTy call_int1 (by rfl) T.b_int (by decide +kernel) (pa_cons (pv 3) pa_nil)) pa_nil)) (pe_op op_pow pe_int pe_int) (nomark _))
          (pss_one (ps_expr (pe_bm PySem.F.plainAttrs_list PySem.F.slot_list_append PySem.F.type_list_append mt_append (pv 1) (pa_cons (pe_callB call_abs (by rfl) T.b_abs (by decide +kernel) (pa_cons (pe_callTy call_int1 (by rfl) T.b_int (by decide +kernel) (pa_cons (pv 3) pa_nil)) pa_nil)) pa_nil))))
          pss_nil))))
    (pss_cons (ps_expr (pe_bm0 PySem.F.plainAttrs_list PySem.F.slot_list_reverse PySem.F.type_list_reverse mt_reverse (pv 1)))
    (pss_one (ps_ret (pe_lst (pa_cons (pv 1) (pa_cons (pv 2) (pa_cons pe_int pa_nil)))))))))), ?_⟩
    refine ⟨Nat.zero_le _, fun g hg => ?_⟩
    have s1 : Same H (upd H g (.lst [])) := same_upd hg
    refine ⟨_, rfl, 63, rfl, a, _, rfl, s1.seq hS, fun p hp => ?_⟩
    have hpg : g ≠ p := ne_of_none upd_same hp
    have hHp : H p = none := s1.free hp
    obtain ⟨ms, em, lm⟩ : ∃ ms : List Int, cutV (ns.map V.int) none (some 63) = ms.map V.int ∧ ms.length ≤ 63 := by
      refine ⟨(ns.drop (HT.sIx (ns.map V.int).length 0 none)).take (HT.sIx (ns.map V.int).length (ns.map V.int).length (some 63) - HT.sIx (ns.map V.int).length 0 none), ?_, ?_⟩
      · unfold cutV
        rw [List.map_take, List.map_drop]
      · rw [List.length_take, List.length_drop]
        omega
    rw [em]
    refine ⟨p, rfl, ⟨_, SqL.of upd_same⟩, for_list (K := K) (a := p) (xs := ms.map V.int) (fun i σ H' => ∃ (gs : List Int) (sd : Int) (v : Option V), σ = [some (.ref a), some (.ref g), some (.int sd), v] ∧ Same H H' ∧ H' g = some (.lst (gs.map V.int)) ∧ H' p = some (.lst (ms.map V.int)) ∧ gs.length ≤ i ∧ 0 ≤ sd ∧ sd < 2147483647)
      ⟨[], _, none, rfl, ?_, ?_, upd_same, Nat.le_refl _, by decide, by decide⟩ (fun i σ H' _ h => ?_) ?_ ?_⟩
    · exact s1.trans (same_upd hp)
    · rw [upd_ne hpg, upd_same]
      rfl
    · obtain ⟨_, _, _, _, _, _, h, _⟩ := h
      exact SqL.of h
    · rintro i x σ H' hi ⟨gs, sd, v, rfl, sm, eg, ep, hl, h0, h1⟩
      obtain ⟨u, rfl⟩ : ∃ u, x = V.int u := by
        rw [List.getElem?_map] at hi
        cases e : ms[i]? with
        | none => rw [e] at hi; cases hi
        | some u => rw [e] at hi; exact ⟨u, (Option.some.inj hi).symm⟩
      have hi63 : i < 63 := by
        have q := (List.getElem?_eq_some_iff.mp hi).1
        rw [List.length_map] at q
        omega
      refine ⟨_, rfl, _, _, rfl, rfl, .inl ⟨by omega, by omega⟩, _, rfl, .inl ⟨_, rfl, _, _, rfl, rfl, .inl ⟨_, rfl, _, _, rfl, rfl, (by show (0 : Int) < 2147483647; decide), ?_⟩⟩⟩
      have b0 := Int.emod_nonneg (sd * 48271 + u) (b := 2147483647) (by decide)
      have b1 := Int.emod_lt_of_pos (sd * 48271 + u) (b := 2147483647) (by decide)
      refine ⟨_, rfl, .inl ⟨_, rfl, _, rfl, _, _, rfl, rfl, ⟨by decide, by decide, by decide⟩, _, _, rfl, rfl, _, rfl, ite2 (fun _ => ?_) (fun _ => ?_)⟩⟩
      · refine ⟨_, rfl, .inl ⟨rfl, _, SqL.of eg⟩, _, rfl, .inl ⟨_, rfl, _, rfl, g, _, _, rfl, rfl, eg, ?_, ?_⟩⟩
        · rw [List.length_map]
          exact szl (by omega)
        · refine ⟨gs ++ [if u < 0 then -u else u], _, _, rfl, same_out sm hg, ?_, ?_, ?_, b0, b1⟩
          · rw [upd_same, List.map_append]
            rfl
          · rw [upd_ne hpg.symm]
            exact ep
          · rw [List.length_append]
            simp only [List.length_cons, List.length_nil]
            omega
      · exact ⟨gs, _, _, rfl, sm, eg, ep, by omega, b0, b1⟩
    · rintro σ H' ⟨gs, sd, v, rfl, sm, eg, ep, hl, h0, h1⟩
      refine ⟨_, rfl, .inl ⟨rfl, _, SqL.of eg⟩, g, _, rfl, rfl, eg, ?_⟩
      refine ⟨_, rfl, _, rfl, szle (by show 3 ≤ 16777216; decide), fun t ht => ?_⟩
      have ht' : H' t = none := by
        by_cases e : t = g
        · rw [e, upd_same] at ht
          cases ht
        · rw [upd_ne e] at ht
          exact ht
      have htg : t ≠ g := fun e => by rw [e, upd_same] at ht; cases ht
      refine q _ t ⟨same_out (same_out sm hg) (sm.free ht'), sm.free ht', g, gs.reverse, sd, 0, hg, htg, upd_same, ?_, ?_, h0, h1, by decide, by decide⟩
      · rw [upd_ne htg.symm, upd_same, List.map_reverse]
      · rw [List.length_reverse]
        rw [List.length_map] at hl
        omega
theorem ok_law_draw {f : Addr} {fd : FuncData} (F : Fun K "_law_draw" "_law_draw" s_law_draw f fd) (T : Txt K mg C_Share C_Writers C_Keeper C_Breaker) : FnOk P w K mg base CX0 1 f fd ["tape", "limit"] spDraw := by
  refine F.ok sc_law_draw (fun vs H Q E h => ?_) (fun cdv A outer s H vs Q E hr h => ?_)
  · obtain ⟨B, t, c, lim, rfl, _⟩ := h
    rfl
  · obtain ⟨B, t, c, lim, rfl, ⟨sm, bt, g, gs, sd, ct, bg, htg, et, eg, hgl, s0, s1, c0, c1⟩, l0, l1, hc, q⟩ := h
    refine ⟨_, (pss_cons (ps_set (i := 2) sc_law_draw.nd rfl (by first | exact Or.inl rfl | exact Or.inr rfl) (pe_ix ix_list (pv 0) pe_int (fun _ _ => rfl)))
    (pss_cons (ps_if (pt_truth (pv 2) (by intro _; rfl))
      (pss_cons (ps_set (i := 3) sc_law_draw.nd rfl (by first | exact Or.inl rfl | exact Or.inr rfl) (pe_bm0 PySem.F.plainAttrs_list PySem.F.slot_list_pop PySem.F.type_list_pop mt_pop (pv 2)))
        (pss_cons (ps_if (pt_cmpR op_ge (pv 3) (pv 1) (nomark _))
          (pss_one (ps_expr (pe_bm PySem.F.plainAttrs_list PySem.F.slot_list_append PySem.F.type_list_append mt_append (pv 2) (pa_cons (pe_op op_fdivN (pv 3) (pv 1)) pa_nil))))
          pss_nil)
        (pss_one (ps_ret (pe_op op_mod (pe_callTy call_int1 (by rfl) T.b_int (by decide +kernel) (pa_cons (pv 3) pa_nil)) (pv 1))))))
      pss_nil)
    (pss_cons (ps_asg (pe_op op_add (pe_ix ix_list (pv 0) pe_int (fun _ _ => rfl)) pe_int) (pg_sub (pv 0) pe_int set_list))
    (pss_cons (ps_set (i := 4) sc_law_draw.nd rfl (by first | exact Or.inl rfl | exact Or.inr rfl) (pe_op op_mod (pe_callTy call_int1 (by rfl) T.b_int (by decide +kernel) (pa_cons (pe_op op_add (pe_op op_mul (pe_callTy call_int1 (by rfl) T.b_int (by decide +kernel) (pa_cons (pe_op op_add (pe_ix ix_list (pv 0) pe_int (fun _ _ => rfl)) (pe_ix ix_list (pv 0) pe_int (fun _ _ => rfl))) pa_nil)) pe_int) (pe_op op_mul (pe_op op_mul (pe_ix ix_list (pv 0) pe_int (fun _ _ => rfl)) (pe_ix ix_list (pv 0) pe_int (fun _ _ => rfl))) pe_int)) pa_nil)) pe_int))
    (pss_one (ps_ret (pe_op op_mod (pe_op op_fdiv (pe_op op_mod (pe_callTy call_int1 (by rfl) T.b_int (by decide +kernel) (pa_cons (pe_op op_add (pe_op op_mul (pv 4) (pv 4)) (pe_op op_mul (pe_ix ix_list (pv 0) pe_int (fun _ _ => rfl)) pe_int)) pa_nil)) pe_int) pe_int) (pv 1)))))))), ?_⟩
    refine ⟨_, rfl, t, _, _, _, rfl, rfl, SqL.of et, atI_nat (j := 0) rfl, ?_⟩
    refine ⟨_, rfl, _, .inl ⟨_, SqL.of eg, rfl⟩, ?_⟩
    cases hgs : gs.reverse with
    | nil =>
      have e0 : gs = [] := by
        have := congrArg List.reverse hgs
        rwa [List.reverse_reverse] at this
      subst e0
      refine iteF ?_
      refine ⟨_, rfl, t, _, _, _, rfl, rfl, SqL.of et, atI_nat (j := 2) rfl, _, _, rfl, rfl, ?_⟩
      refine ⟨_, rfl, t, _, _, _, rfl, rfl, et, rfl, ?_⟩
      have eg' : ∀ o, upd H t o g = some (.lst (([] : List Int).map V.int)) := fun o => by rw [upd_ne htg.symm]; exact eg
      have et2 : (upd H t (.lst [.ref g, .int sd, .int (ct + 1)])) t = some (.lst [.ref g, .int sd, .int (ct + 1)]) := upd_same
      have at1 : atI [V.ref g, V.int sd, V.int (ct + 1)] 1 = some (.int sd) := atI_nat (j := 1) rfl
      have at2 : atI [V.ref g, V.int sd, V.int (ct + 1)] 2 = some (.int (ct + 1)) := atI_nat (j := 2) rfl
      have hb : ct + 1 ≤ 1000000000 := by omega
      have hsq : 0 ≤ (ct + 1) * (ct + 1) ∧ (ct + 1) * (ct + 1) ≤ 1000000000 * 1000000000 := ⟨Int.mul_nonneg (by omega) (by omega), Int.mul_le_mul hb hb (by omega) (by decide)⟩
      refine ⟨_, rfl, t, _, _, _, rfl, rfl, SqL.of et2, at1, _, rfl, t, _, _, _, rfl, rfl, SqL.of et2, at2, _, _, rfl, rfl, .inl ⟨_, rfl, _, _, rfl, rfl, .inl ⟨by omega, by omega⟩, ?_⟩⟩
      refine ⟨_, rfl, t, _, _, _, rfl, rfl, SqL.of et2, at2, _, rfl, t, _, _, _, rfl, rfl, SqL.of et2, at2, _, _, rfl, rfl, .inl ⟨by omega, by omega⟩, ?_⟩
      refine ⟨_, _, rfl, rfl, .inl ⟨by omega, by omega⟩, _, _, rfl, rfl, .inl ⟨_, rfl, _, _, rfl, rfl, (by show (0 : Int) < 2147483629; decide), ?_⟩⟩
      have b0 := Int.emod_nonneg ((sd + (ct + 1)) * 69621 + (ct + 1) * (ct + 1) * 40692) (b := 2147483629) (by decide)
      have b1 := Int.emod_lt_of_pos ((sd + (ct + 1)) * 69621 + (ct + 1) * (ct + 1) * 40692) (b := 2147483629) (by decide)
      refine ⟨_, rfl, _, rfl, _, _, rfl, rfl, .inl ⟨by omega, by omega⟩, _, rfl, t, _, _, _, rfl, rfl, SqL.of et2, at2, _, _, rfl, rfl, .inl ⟨by omega, by omega⟩, _, _, rfl, rfl, .inl ⟨_, rfl, _, _, rfl, rfl, (by show (0 : Int) < 2147483647; decide), _, _, rfl, rfl, ⟨by decide, by decide⟩, _, rfl, _, _, rfl, rfl, l0, ?_⟩⟩
      refine q _ _ ⟨same_out sm bt, bt, g, [], sd, ct + 1, bg, htg, upd_same, eg' _, Nat.zero_le _, s0, s1, by omega, by omega⟩ (Int.emod_nonneg _ (by omega)) (Int.emod_lt_of_pos _ l0)
    | cons n r =>
      have e0 : gs = r.reverse ++ [n] := by
        have := congrArg List.reverse hgs
        rwa [List.reverse_reverse, List.reverse_cons] at this
      subst e0
      have eT : (!((r.reverse ++ [n]).map V.int).isEmpty) = true := by
        rw [List.map_append]
        cases List.map V.int r.reverse <;> rfl
      rw [eT]
      refine iteT ?_
      have lr : r.length ≤ 62 := by
        rw [List.length_append, List.length_reverse] at hgl
        simp only [List.length_cons, List.length_nil] at hgl
        omega
      have eg2 : H g = some (.lst (r.reverse.map V.int ++ [V.int n])) := by
        rw [eg, List.map_append]
        rfl
      have hpop : (r.reverse.map V.int ++ [V.int n])[(r.reverse.map V.int ++ [V.int n]).length - 1]? = some (V.int n) := by
        rw [List.length_append]
        simp
      refine ⟨_, rfl, .inl ⟨rfl, _, SqL.of eg2⟩, g, _, _, rfl, rfl, eg2, hpop, ?_⟩
      rw [List.dropLast_concat]
      have fin : ∀ H' gs', Same B H' → H' t = some (.lst [.ref g, .int sd, .int ct]) → H' g = some (.lst (List.map V.int gs')) → gs'.length ≤ 63 → Q (.int (n % lim)) H' := fun H' gs' a1 a2 a3 a4 =>
        q _ _ ⟨a1, bt, g, gs', sd, ct, bg, htg, a2, a3, a4, s0, s1, c0, by omega⟩ (Int.emod_nonneg _ (by omega)) (Int.emod_lt_of_pos _ l0)
      refine ⟨_, rfl, _, rfl, _, _, rfl, rfl, _, rfl, ite2 (fun _ => ?_) (fun _ => ?_)⟩
      · refine ⟨_, rfl, .inl ⟨rfl, _, SqL.of upd_same⟩, _, rfl, _, rfl, _, _, rfl, rfl, ⟨by omega, by omega⟩, g, _, _, rfl, rfl, upd_same, ?_, ?_⟩
        · rw [List.length_map, List.length_reverse]
          exact szl (by omega)
        · refine ⟨_, rfl, .inl ⟨_, rfl, _, rfl, _, _, rfl, rfl, l0, ?_⟩⟩
          refine fin _ (r.reverse ++ [n.fdiv lim]) (same_out (same_out sm bg) bg) ?_ ?_ ?_
          · rw [upd_ne htg, upd_ne htg]
            exact et
          · rw [upd_same, List.map_append]
            rfl
          · rw [List.length_append, List.length_reverse]
            simp only [List.length_cons, List.length_nil]
            omega
      · refine ⟨_, rfl, .inl ⟨_, rfl, _, rfl, _, _, rfl, rfl, l0, ?_⟩⟩
        refine fin _ r.reverse (same_out sm bg) ?_ upd_same ?_
        · rw [upd_ne htg]
          exact et
        · rw [List.length_reverse]
          omega
end

/-! ### copies of things, and whether two are the same -/
section
variable {P : Program} {w : World} {K : PySem.W.Frag} {mg : Str → Option Value} {base : Heap} {C_Share C_Writers C_Keeper C_Breaker : Addr}
theorem ok_law_same1 {n : Nat} {f : Addr} {fd : FuncData} (F : Fun K "_law_same" "_law_same" s_law_same f fd) (T : Txt K mg C_Share C_Writers C_Keeper C_Breaker) (c_law_same : Cal P w K mg base n "_law_same" (spSame K n)) : FnOk P w K mg base CX0 (n + 1) f fd ["told", "due"] (spSame K (n + 1)) := by
  refine F.ok sc_law_same (fun vs H Q E h => ?_) (fun cdv A outer s H vs Q E hr h => ?_)
  · obtain ⟨x, y, d, rfl, _⟩ := h
    rfl
  · obtain ⟨x, y, d, rfl, ok, hx, hy, q⟩ := h
    refine ⟨_, (pss_cons (ps_if (pt_cmpR op_isN (pv 1) pe_non (nomark _))
      (pss_one (ps_ret (pe_cmpR op_isN (pv 0) pe_non (nomark _))))
      pss_nil)
    (pss_cons (ps_if (pt_cmpR op_isB (pv 1) pe_bl (nomark _))
      (pss_one (ps_ret (pe_cmpR op_isB (pv 0) pe_bl (nomark _))))
      pss_nil)
    (pss_cons (ps_if (pt_cmpR op_isB (pv 1) pe_bl (nomark _))
      (pss_one (ps_ret (pe_cmpR op_isB (pv 0) pe_bl (nomark _))))
      pss_nil)
    (pss_cons (ps_if (pt_val (pe_callB call_isi (by rfl) T.b_isinstance (by decide +kernel) (pa_cons (pv 1) (pa_cons (pe_bltn (v := .ty "str") (by rfl) T.b_str (by decide +kernel) rfl) pa_nil))))
      (pss_one (ps_ret (pe_and (pe_callB call_isi (by rfl) T.b_isinstance (by decide +kernel) (pa_cons (pv 0) (pa_cons (pe_bltn (v := .ty "str") (by rfl) T.b_str (by decide +kernel) rfl) pa_nil))) (pe_one (pe_cmpR op_eq (pv 0) (pv 1) (nomark _))))))
      pss_nil)
    (pss_cons (ps_if (pt_val (pe_callB call_isi (by rfl) T.b_isinstance (by decide +kernel) (pa_cons (pv 1) (pa_cons (pe_bltn (v := .ty "int") (by rfl) T.b_int (by decide +kernel) rfl) pa_nil))))
      (pss_one (ps_ret (pe_and (pe_callB call_isi (by rfl) T.b_isinstance (by decide +kernel) (pa_cons (pv 0) (pa_cons (pe_bltn (v := .ty "int") (by rfl) T.b_int (by decide +kernel) rfl) pa_nil))) (pe_and (pe_not (pe_callB call_isi (by rfl) T.b_isinstance (by decide +kernel) (pa_cons (pv 0) (pa_cons (pe_bltn (v := .ty "bool") (by rfl) T.b_bool (by decide +kernel) rfl) pa_nil)))) (pe_one (pe_cmpR op_eq (pv 0) (pv 1) (nomark _)))))))
      pss_nil)
    (pss_cons (ps_if (PW.pt (pw_and (pt_val (pe_callB call_isi (by rfl) T.b_isinstance (by decide +kernel) (pa_cons (pv 1) (pa_cons (pe_bltn (v := .ty "tuple") (by rfl) T.b_tuple (by decide +kernel) rfl) pa_nil)))) (pw_and1 (pt_not (pt_val (pe_callB call_isi (by rfl) T.b_isinstance (by decide +kernel) (pa_cons (pv 0) (pa_cons (pe_bltn (v := .ty "tuple") (by rfl) T.b_tuple (by decide +kernel) rfl) pa_nil))))))))
      (pss_one (ps_ret pe_bl))
      pss_nil)
    (pss_cons (ps_if (PW.pt (pw_and (pt_val (pe_callB call_isi (by rfl) T.b_isinstance (by decide +kernel) (pa_cons (pv 1) (pa_cons (pe_bltn (v := .ty "list") (by rfl) T.b_list (by decide +kernel) rfl) pa_nil)))) (pw_and1 (pt_not (pt_val (pe_callB call_isi (by rfl) T.b_isinstance (by decide +kernel) (pa_cons (pv 0) (pa_cons (pe_bltn (v := .ty "list") (by rfl) T.b_list (by decide +kernel) rfl) pa_nil))))))))
      (pss_one (ps_ret pe_bl))
      pss_nil)
    (pss_cons (ps_if (pt_cmpR op_ne (pe_callB call_len_seq (by rfl) T.b_len PySem.boot_len (pa_cons (pv 0) pa_nil)) (pe_callB call_len_seq (by rfl) T.b_len PySem.boot_len (pa_cons (pv 1) pa_nil)) (nomark _))
      (pss_one (ps_ret pe_bl))
      pss_nil)
    (pss_cons (ps_for PassesOwn.never rfl (pi_range1 (by rfl) T.b_range (pa_cons (pe_callB call_len_seq (by rfl) T.b_len PySem.boot_len (pa_cons (pv 1) pa_nil)) pa_nil)) (pg_name (i := 2) sc_law_same.nd rfl (by first | exact Or.inl rfl | exact Or.inr rfl))
      (pss_one (ps_if (pt_not (pt_val (pe_c c_law_same hr (by omega) (by rfl) (pa_cons (pe_ix ix_seq (pv 0) (pv 2) (fun _ _ => rfl)) (pa_cons (pe_ix ix_seq (pv 1) (pv 2) (fun _ _ => rfl)) pa_nil)))))
          (pss_one (ps_ret pe_bl))
          pss_nil)))
    (pss_one (ps_ret pe_bl))))))))))), ?_⟩
    have nn : ∀ v e, Dp K H v e → e ≠ .none → decide (v = .non) = false := fun v e h he => by cases h <;> simp_all
    have nb : ∀ v e b, Dp K H v e → e ≠ .bool b → decide (v = .bl b) = false := fun v e b h he => by cases h <;> simp_all
    -- None
    by_cases h0 : d = .none
    · subst h0
      cases hx
      cases hy
      exact ⟨_, rfl, rfl, _, rfl, iteT ⟨_, rfl, rfl, q⟩⟩
    refine ⟨_, rfl, rfl, _, rfl, ?_⟩
    rw [nn y d hy h0]
    refine iteF ?_
    by_cases h1 : d = .bool true
    · subst h1
      cases hx
      cases hy
      exact ⟨_, rfl, _, rfl, _, rfl, iteT ⟨_, rfl, _, rfl, q⟩⟩
    refine ⟨_, rfl, _, rfl, _, rfl, ?_⟩
    rw [nb y d true hy h1]
    refine iteF ?_
    by_cases h2 : d = .bool false
    · subst h2
      cases hx
      cases hy
      exact ⟨_, rfl, _, rfl, _, rfl, iteT ⟨_, rfl, _, rfl, q⟩⟩
    refine ⟨_, rfl, _, rfl, _, rfl, ?_⟩
    rw [nb y d false hy h2]
    refine iteF ?_
    have tx := ty_dp hx
    have ty := ty_dp hy
    cases d with
    | none => exact absurd rfl h0
    | bool b => cases b <;> simp at h1 h2
    | dict kvs => cases hx
    | str z =>
      cases hx
      cases hy
      refine ⟨_, rfl, _, _, _, _, _, rfl, .ty _, .base (.str z), kit_ty (r := true) (by decide), _, rfl, iteT ?_⟩
      refine ⟨_, rfl, _, _, _, _, _, rfl, .ty _, .base (.str z), kit_ty (r := true) (by decide), _, rfl, iteT ?_⟩
      rw [← show decide (V.str z = V.str z) = true by simp] at q
      exact ⟨_, rfl, _, rfl, rfl, q⟩
    | int z =>
      cases hx
      cases hy
      refine ⟨_, rfl, _, _, _, _, _, rfl, .ty _, .base (.int z), kit_ty (r := false) (by decide), _, rfl, iteF ?_⟩
      refine ⟨_, rfl, _, _, _, _, _, rfl, .ty _, .base (.int z), kit_ty (r := true) (by decide), _, rfl, iteT ?_⟩
      refine ⟨_, rfl, _, _, _, _, _, rfl, .ty _, .base (.int z), kit_ty (r := true) (by decide), _, rfl, iteT ?_⟩
      refine ⟨_, rfl, _, _, _, _, _, rfl, .ty _, .base (.int z), kit_ty (r := false) (by decide), _, rfl, _, rfl, iteT ?_⟩
      rw [← show decide (V.int z = V.int z) = true by simp] at q
      exact ⟨_, rfl, _, rfl, rfl, q⟩
    | list ds =>
      cases hx with
      | lst sx ax =>
      cases hy with
      | lst sy ay =>
      rename_i px xs py ys
      obtain ⟨lz, hall⟩ := okD_seq ok
      have lx := DpAll.len ax
      have ly := DpAll.len ay
      have tx := ty_seq sx
      have ty := ty_seq sy
      refine ⟨_, rfl, _, _, _, _, _, rfl, .ty _, ty, kit_ty (r := false) (by decide), _, rfl, iteF ?_⟩
      refine ⟨_, rfl, _, _, _, _, _, rfl, .ty _, ty, kit_ty (r := false) (by decide), _, rfl, iteF ?_⟩
      refine ⟨_, rfl, _, _, _, _, _, rfl, .ty _, ty, kit_ty (r := false) (by decide), _, rfl, iteF (iteF ?_)⟩
      refine ⟨_, rfl, _, _, _, _, _, rfl, .ty _, ty, kit_ty (r := true) (by decide), _, rfl, iteT ⟨_, rfl, _, _, _, _, _, rfl, .ty _, tx, kit_ty (r := true) (by decide), _, rfl, iteF ?_⟩⟩
      refine ⟨_, rfl, px, xs, rfl, .inl sx, _, rfl, py, ys, rfl, .inl sy, rfl, _, rfl, ?_⟩
      rw [show (!decide (V.int (xs.length : Int) = V.int (ys.length : Int))) = false by rw [lx, ly]; simp]
      refine iteF ?_
      refine ⟨_, rfl, py, ys, rfl, .inl sy, ys.length, rfl, by omega, by omega, for_range (n := ys.length) (fun i σ H' => ∃ v, σ = [some (.ref px), some (.ref py), v] ∧ H' = H) ⟨_, rfl, rfl⟩ ?_ ?_⟩
      · rintro i σ H' hi ⟨v, rfl, rfl⟩
        have hd : ds[i]? = some ds[i] := List.getElem?_eq_getElem (by omega)
        obtain ⟨v1, e1, d1⟩ := DpAll.get ax hd
        obtain ⟨v2, e2, d2⟩ := DpAll.get ay hd
        refine ⟨_, rfl, _, rfl, .inl ⟨px, _, _, _, rfl, rfl, sx, at_of (j := i) (by omega) e1, _, rfl, _, rfl, .inl ⟨py, _, _, _, rfl, rfl, sy, at_of (j := i) (by omega) e2, ?_⟩⟩⟩
        exact ⟨_, _, ds[i], rfl, hall _ (List.mem_of_getElem? hd), d1, d2, _, rfl, iteF ⟨_, rfl, rfl⟩⟩
      · rintro σ H' ⟨v, rfl, rfl⟩
        exact q
    | tuple ds =>
      cases hx with
      | tup sx ax =>
      cases hy with
      | tup sy ay =>
      rename_i px xs py ys
      obtain ⟨lz, hall⟩ := okD_seq ok
      have lx := DpAll.len ax
      have ly := DpAll.len ay
      have tx := ty_tup sx
      have ty := ty_tup sy
      refine ⟨_, rfl, _, _, _, _, _, rfl, .ty _, ty, kit_ty (r := false) (by decide), _, rfl, iteF ?_⟩
      refine ⟨_, rfl, _, _, _, _, _, rfl, .ty _, ty, kit_ty (r := false) (by decide), _, rfl, iteF ?_⟩
      refine ⟨_, rfl, _, _, _, _, _, rfl, .ty _, ty, kit_ty (r := true) (by decide), _, rfl, iteT ⟨_, rfl, _, _, _, _, _, rfl, .ty _, tx, kit_ty (r := true) (by decide), _, rfl, iteF ?_⟩⟩
      refine ⟨_, rfl, _, _, _, _, _, rfl, .ty _, ty, kit_ty (r := false) (by decide), _, rfl, iteF (iteF ?_)⟩
      refine ⟨_, rfl, px, xs, rfl, .inr sx, _, rfl, py, ys, rfl, .inr sy, rfl, _, rfl, ?_⟩
      rw [show (!decide (V.int (xs.length : Int) = V.int (ys.length : Int))) = false by rw [lx, ly]; simp]
      refine iteF ?_
      refine ⟨_, rfl, py, ys, rfl, .inr sy, ys.length, rfl, by omega, by omega, for_range (n := ys.length) (fun i σ H' => ∃ v, σ = [some (.ref px), some (.ref py), v] ∧ H' = H) ⟨_, rfl, rfl⟩ ?_ ?_⟩
      · rintro i σ H' hi ⟨v, rfl, rfl⟩
        have hd : ds[i]? = some ds[i] := List.getElem?_eq_getElem (by omega)
        obtain ⟨v1, e1, d1⟩ := DpAll.get ax hd
        obtain ⟨v2, e2, d2⟩ := DpAll.get ay hd
        refine ⟨_, rfl, _, rfl, .inr (.inl ⟨px, _, _, _, rfl, rfl, sx, at_of (j := i) (by omega) e1, _, rfl, _, rfl, .inr (.inl ⟨py, _, _, _, rfl, rfl, sy, at_of (j := i) (by omega) e2, ?_⟩)⟩)⟩
        exact ⟨_, _, ds[i], rfl, hall _ (List.mem_of_getElem? hd), d1, d2, _, rfl, iteF ⟨_, rfl, rfl⟩⟩
      · rintro σ H' ⟨v, rfl, rfl⟩
        exact q
end
section
variable {P : Program} {w : World} {K : PySem.W.Frag} {mg : Str → Option Value} {base : Heap} {C_Share C_Writers C_Keeper C_Breaker : Addr}
theorem ok_law_copy1 {n : Nat} {f : Addr} {fd : FuncData} (F : Fun K "_law_copy" "_law_copy" s_law_copy f fd) (T : Txt K mg C_Share C_Writers C_Keeper C_Breaker) (c_law_copy : Cal P w K mg base n "_law_copy" (spCopy K n)) : FnOk P w K mg base CX0 (n + 1) f fd ["thing"] (spCopy K (n + 1)) := by
  refine F.ok sc_law_copy (fun vs H Q E h => ?_) (fun cdv A outer s H vs Q E hr h => ?_)
  · obtain ⟨x, d, rfl, _⟩ := h
    rfl
  · obtain ⟨x, d, rfl, ok, hx, q⟩ := h
    refine ⟨_, (pss_cons (ps_if (pt_val (pe_callB call_isi (by rfl) T.b_isinstance (by decide +kernel) (pa_cons (pv 0) (pa_cons (pe_bltn (v := .ty "tuple") (by rfl) T.b_tuple (by decide +kernel) rfl) pa_nil))))
      (pss_one (ps_ret (pe_callTy call_tuple_of (by rfl) T.b_tuple (by decide +kernel) (pa_cons (pe_lc (own := [("part", 1)]) rfl sc_law_copy.nd (pi_tup (pv 0)) (blkOk_by (own := [("part", 1)]) (N := ["thing", "part"]) (sc := defScope s_law_copy) (by decide +kernel)) (fun _ _ _ _ _ => (pg_name (i := 1) sc_law_copy.nd rfl (by first | exact Or.inl rfl | exact Or.inr rfl))) (fun _ _ _ _ _ => pts_nil) (fun _ _ _ _ _ => (pe_c c_law_copy hr (by omega) (by rfl) (pa_cons (pv 1) pa_nil)))) pa_nil))))
      pss_nil)
    (pss_cons (ps_if (pt_val (pe_callB call_isi (by rfl) T.b_isinstance (by decide +kernel) (pa_cons (pv 0) (pa_cons (pe_bltn (v := .ty "list") (by rfl) T.b_list (by decide +kernel) rfl) pa_nil))))
      (pss_one (ps_ret (pe_lc (own := [("part", 1)]) rfl sc_law_copy.nd (pi_list (pv 0)) (blkOk_by (own := [("part", 1)]) (N := ["thing", "part"]) (sc := defScope s_law_copy) (by decide +kernel)) (fun _ _ _ _ _ => (pg_name (i := 1) sc_law_copy.nd rfl (by first | exact Or.inl rfl | exact Or.inr rfl))) (fun _ _ _ _ _ => pts_nil) (fun _ _ _ _ _ => (pe_c c_law_copy hr (by omega) (by rfl) (pa_cons (pv 1) pa_nil))))))
      pss_nil)
    (pss_one (ps_ret (pv 0))))), ?_⟩
    have qs : ∀ N, Nw N H H → Dp K N x d → Q x H := fun N h1 h2 => q H x N (fun _ _ e => e) h1 h2
    cases d with
    | none =>
      cases hx
      exact ⟨_, rfl, _, _, _, _, _, rfl, .ty _, .base .non, kit_ty (r := false) (by decide), _, rfl, iteF ⟨_, rfl, _, _, _, _, _, rfl, .ty _, .base .non, kit_ty (r := false) (by decide), _, rfl, iteF ⟨_, rfl, qs _ Nw.nil .non⟩⟩⟩
    | bool b =>
      cases hx
      exact ⟨_, rfl, _, _, _, _, _, rfl, .ty _, .base (.bl b), kit_ty (r := false) (by decide), _, rfl, iteF ⟨_, rfl, _, _, _, _, _, rfl, .ty _, .base (.bl b), kit_ty (r := false) (by decide), _, rfl, iteF ⟨_, rfl, qs _ Nw.nil (.bl b)⟩⟩⟩
    | int b =>
      cases hx
      exact ⟨_, rfl, _, _, _, _, _, rfl, .ty _, .base (.int b), kit_ty (r := false) (by decide), _, rfl, iteF ⟨_, rfl, _, _, _, _, _, rfl, .ty _, .base (.int b), kit_ty (r := false) (by decide), _, rfl, iteF ⟨_, rfl, qs _ Nw.nil (.int b)⟩⟩⟩
    | str b =>
      cases hx
      exact ⟨_, rfl, _, _, _, _, _, rfl, .ty _, .base (.str b), kit_ty (r := false) (by decide), _, rfl, iteF ⟨_, rfl, _, _, _, _, _, rfl, .ty _, .base (.str b), kit_ty (r := false) (by decide), _, rfl, iteF ⟨_, rfl, qs _ Nw.nil (.str b)⟩⟩⟩
    | dict kvs => cases hx
    | tuple ds =>
      cases hx with
      | tup sx ax =>
      rename_i px xs
      obtain ⟨lz, hall⟩ := okD_seq ok
      have lx := DpAll.len ax
      refine ⟨_, rfl, _, _, _, _, _, rfl, .ty _, ty_tup sx, kit_ty (r := true) (by decide), _, rfl, iteT ?_⟩
      refine ⟨_, rfl, px, rfl, ⟨_, sx⟩, fun D hD => lc_tup (K := K) (a := px) (xs := xs) (fun i H' => ∃ zs N, Same H H' ∧ H' D = some (.lst zs) ∧ N D = none ∧ Nw N H H' ∧ DpAll K N zs (ds.take i)) ⟨[], fun _ => none, same_upd hD, upd_same, rfl, ⟨fun _ _ e => (by cases e), fun _ h => absurd rfl h⟩, .nil⟩ ?_ ?_ ?_⟩
      · rintro i H' _ ⟨zs, N, sm, _⟩
        exact sameT sm sx
      · rintro i v H' hi ⟨zs, N, sm, eD, nD, nw, az⟩
        obtain ⟨d, hd, dv⟩ := DpAll.get' ax hi
        have hi' := (List.getElem?_eq_some_iff.mp hd).1
        refine ⟨rfl, iteT (B := ∃ zs N, Same H H' ∧ H' D = some (.lst zs) ∧ N D = none ∧ Nw N H H' ∧ DpAll K N zs (ds.take (i + 1))) ?_⟩
        refine ⟨_, rfl, v, d, rfl, hall _ (List.mem_of_getElem? hd), Dp.mono sm d v dv, fun H2 v2 N2 s2 nw2 d2 => ?_⟩
        have lz' := DpAll.len az
        rw [List.length_take] at lz'
        have e2 := s2 _ _ eD
        have nD2 : N2 D = none := by
          cases e : N2 D with
          | none => rfl
          | some o =>
            have := nw2.new D (by rw [e]; exact fun z => by cases z)
            rw [eD] at this
            cases this
        have nD3 := mrg_none nD nD2
        have nw3 := nw.add nw2 sm s2
        have az3 := DpAll.snoc (Dp.mono (mrg_r (nw.disj nw2)) _ _ d2) (DpAll.mono (mrg_l (M := N2)) _ _ az)
        rw [show ds.take i ++ [d] = ds.take (i + 1) by rw [List.take_succ, hd]; rfl] at az3
        exact ⟨zs, e2, szl (by omega), zs ++ [v2], mrg N N2, same_out (sm.trans s2) hD, upd_same, nD3, nw3.out nD3, az3⟩
      · rintro H' ⟨zs, N, sm, eD, nD, nw, az⟩
        rw [List.take_of_length_le (by omega)] at az
        exact ⟨D, zs, rfl, .inl ⟨SqL.of eD, fun l hl => q _ _ _ (sm.trans (same_upd hl)) (nw.put sm hl) (.tup (SqT.of upd_same) (DpAll.mono (same_upd (nw.same.free hl)) _ _ az))⟩⟩
    | list ds =>
      cases hx with
      | lst sx ax =>
      rename_i px xs
      obtain ⟨lz, hall⟩ := okD_seq ok
      have lx := DpAll.len ax
      refine ⟨_, rfl, _, _, _, _, _, rfl, .ty _, ty_seq sx, kit_ty (r := false) (by decide), _, rfl, iteF ⟨_, rfl, _, _, _, _, _, rfl, .ty _, ty_seq sx, kit_ty (r := true) (by decide), _, rfl, iteT ?_⟩⟩
      refine ⟨_, rfl, px, rfl, ⟨_, sx⟩, fun D hD => lc_list (K := K) (a := px) (xs := xs) (fun i H' => ∃ zs N, Same H H' ∧ H' D = some (.lst zs) ∧ N D = none ∧ Nw N H H' ∧ DpAll K N zs (ds.take i)) ⟨[], fun _ => none, same_upd hD, upd_same, rfl, ⟨fun _ _ e => (by cases e), fun _ h => absurd rfl h⟩, .nil⟩ ?_ ?_ ?_⟩
      · rintro i H' _ ⟨zs, N, sm, _⟩
        exact sm.seq sx
      · rintro i v H' hi ⟨zs, N, sm, eD, nD, nw, az⟩
        obtain ⟨d, hd, dv⟩ := DpAll.get' ax hi
        have hi' := (List.getElem?_eq_some_iff.mp hd).1
        refine ⟨rfl, iteT (B := ∃ zs N, Same H H' ∧ H' D = some (.lst zs) ∧ N D = none ∧ Nw N H H' ∧ DpAll K N zs (ds.take (i + 1))) ?_⟩
        refine ⟨_, rfl, v, d, rfl, hall _ (List.mem_of_getElem? hd), Dp.mono sm d v dv, fun H2 v2 N2 s2 nw2 d2 => ?_⟩
        have lz' := DpAll.len az
        rw [List.length_take] at lz'
        have e2 := s2 _ _ eD
        have nD2 : N2 D = none := by
          cases e : N2 D with
          | none => rfl
          | some o =>
            have := nw2.new D (by rw [e]; exact fun z => by cases z)
            rw [eD] at this
            cases this
        have nD3 := mrg_none nD nD2
        have nw3 := nw.add nw2 sm s2
        have az3 := DpAll.snoc (Dp.mono (mrg_r (nw.disj nw2)) _ _ d2) (DpAll.mono (mrg_l (M := N2)) _ _ az)
        rw [show ds.take i ++ [d] = ds.take (i + 1) by rw [List.take_succ, hd]; rfl] at az3
        exact ⟨zs, e2, szl (by omega), zs ++ [v2], mrg N N2, same_out (sm.trans s2) hD, upd_same, nD3, nw3.out nD3, az3⟩
      · rintro H' ⟨zs, N, sm, eD, nD, nw, az⟩
        rw [List.take_of_length_le (by omega)] at az
        exact q _ _ _ sm (nw.own hD eD) (.lst (SqL.of upd_same) (DpAll.mono (same_upd nD) _ _ az))
end
section
variable {P : Program} {w : World} {K : PySem.W.Frag} {mg : Str → Option Value} {base : Heap} {C_Share C_Writers C_Keeper C_Breaker : Addr}
theorem cal_law_same {f : Addr} {fd : FuncData} (F : Fun K "_law_same" "_law_same" s_law_same f fd) (T : Txt K mg C_Share C_Writers C_Keeper C_Breaker) (hm : mg "_law_same" = some (.ref f)) (kp : PySem.W.keepIn K (.ref f) = true) (b : Binds K fd ["told", "due"] []) : ∀ n, Cal P w K mg base n "_law_same" (spSame K n)
  | 0 => ⟨_, _, _, ⟨fun _ _ _ _ ⟨_, _, _, _, z, _⟩ => (by cases z), fun _ _ _ _ _ _ _ _ _ _ _ _ _ ⟨_, _, _, _, z, _⟩ => (by cases z)⟩, hm, kp, b⟩
  | n + 1 => ⟨_, _, _, ok_law_same1 F T (cal_law_same F T hm kp b n), hm, kp, b⟩
theorem cal_law_copy {f : Addr} {fd : FuncData} (F : Fun K "_law_copy" "_law_copy" s_law_copy f fd) (T : Txt K mg C_Share C_Writers C_Keeper C_Breaker) (hm : mg "_law_copy" = some (.ref f)) (kp : PySem.W.keepIn K (.ref f) = true) (b : Binds K fd ["thing"] []) : ∀ n, Cal P w K mg base n "_law_copy" (spCopy K n)
  | 0 => ⟨_, _, _, ⟨fun _ _ _ _ ⟨_, _, _, z, _⟩ => (by cases z), fun _ _ _ _ _ _ _ _ _ _ _ _ _ ⟨_, _, _, z, _⟩ => (by cases z)⟩, hm, kp, b⟩
  | n + 1 => ⟨_, _, _, ok_law_copy1 F T (cal_law_copy F T hm kp b n), hm, kp, b⟩
end

/-! ### _law_same within an except suite -/
section
variable {P : Program} {w : World} {K : PySem.W.Frag} {mg : Str → Option Value} {base : Heap} {C_Share C_Writers C_Keeper C_Breaker : Addr}
theorem ok_law_same1H {n : Nat} {f : Addr} {fd : FuncData} (F : Fun K "_law_same" "_law_same" s_law_same f fd) (T : Txt K mg C_Share C_Writers C_Keeper C_Breaker) (ch_law_same : CalH P w K mg base n "_law_same" (spSame K n)) : L2H.FnH P w K mg base CX0 (n + 1) f fd ["told", "due"] (spSame K (n + 1)) := by
  refine Fun_okH F sc_law_same (fun vs H Q E h => ?_) (fun cdv A outer s H vs Q E p hot hr h => ?_)
  · obtain ⟨x, y, d, rfl, _⟩ := h
    rfl
  · obtain ⟨x, y, d, rfl, ok, hx, hy, q⟩ := h
    refine ⟨_, (pss_cons (ps_if (pt_cmpR op_isN (pv 1) pe_non (nomark _))
      (pss_one (ps_ret (pe_cmpR op_isN (pv 0) pe_non (nomark _))))
      pss_nil)
    (pss_cons (ps_if (pt_cmpR op_isB (pv 1) pe_bl (nomark _))
      (pss_one (ps_ret (pe_cmpR op_isB (pv 0) pe_bl (nomark _))))
      pss_nil)
    (pss_cons (ps_if (pt_cmpR op_isB (pv 1) pe_bl (nomark _))
      (pss_one (ps_ret (pe_cmpR op_isB (pv 0) pe_bl (nomark _))))
      pss_nil)
    (pss_cons (ps_if (pt_val (pe_callB call_isi (by rfl) T.b_isinstance (by decide +kernel) (pa_cons (pv 1) (pa_cons (pe_bltn (v := .ty "str") (by rfl) T.b_str (by decide +kernel) rfl) pa_nil))))
      (pss_one (ps_ret (pe_and (pe_callB call_isi (by rfl) T.b_isinstance (by decide +kernel) (pa_cons (pv 0) (pa_cons (pe_bltn (v := .ty "str") (by rfl) T.b_str (by decide +kernel) rfl) pa_nil))) (pe_one (pe_cmpR op_eq (pv 0) (pv 1) (nomark _))))))
      pss_nil)
    (pss_cons (ps_if (pt_val (pe_callB call_isi (by rfl) T.b_isinstance (by decide +kernel) (pa_cons (pv 1) (pa_cons (pe_bltn (v := .ty "int") (by rfl) T.b_int (by decide +kernel) rfl) pa_nil))))
      (pss_one (ps_ret (pe_and (pe_callB call_isi (by rfl) T.b_isinstance (by decide +kernel) (pa_cons (pv 0) (pa_cons (pe_bltn (v := .ty "int") (by rfl) T.b_int (by decide +kernel) rfl) pa_nil))) (pe_and (pe_not (pe_callB call_isi (by rfl) T.b_isinstance (by decide +kernel) (pa_cons (pv 0) (pa_cons (pe_bltn (v := .ty "bool") (by rfl) T.b_bool (by decide +kernel) rfl) pa_nil)))) (pe_one (pe_cmpR op_eq (pv 0) (pv 1) (nomark _)))))))
      pss_nil)
    (pss_cons (ps_if (PW.pt (pw_and (pt_val (pe_callB call_isi (by rfl) T.b_isinstance (by decide +kernel) (pa_cons (pv 1) (pa_cons (pe_bltn (v := .ty "tuple") (by rfl) T.b_tuple (by decide +kernel) rfl) pa_nil)))) (pw_and1 (pt_not (pt_val (pe_callB call_isi (by rfl) T.b_isinstance (by decide +kernel) (pa_cons (pv 0) (pa_cons (pe_bltn (v := .ty "tuple") (by rfl) T.b_tuple (by decide +kernel) rfl) pa_nil))))))))
      (pss_one (ps_ret pe_bl))
      pss_nil)
    (pss_cons (ps_if (PW.pt (pw_and (pt_val (pe_callB call_isi (by rfl) T.b_isinstance (by decide +kernel) (pa_cons (pv 1) (pa_cons (pe_bltn (v := .ty "list") (by rfl) T.b_list (by decide +kernel) rfl) pa_nil)))) (pw_and1 (pt_not (pt_val (pe_callB call_isi (by rfl) T.b_isinstance (by decide +kernel) (pa_cons (pv 0) (pa_cons (pe_bltn (v := .ty "list") (by rfl) T.b_list (by decide +kernel) rfl) pa_nil))))))))
      (pss_one (ps_ret pe_bl))
      pss_nil)
    (pss_cons (ps_if (pt_cmpR op_ne (pe_callB call_len_seq (by rfl) T.b_len PySem.boot_len (pa_cons (pv 0) pa_nil)) (pe_callB call_len_seq (by rfl) T.b_len PySem.boot_len (pa_cons (pv 1) pa_nil)) (nomark _))
      (pss_one (ps_ret pe_bl))
      pss_nil)
    (pss_cons (L2H.ps_forH PassesOwn.never ⟨p, hot, List.mem_cons_self ..⟩ (L2H.pi_range1H (by rfl) T.b_range (pa_cons (pe_callB call_len_seq (by rfl) T.b_len PySem.boot_len (pa_cons (pv 1) pa_nil)) pa_nil)) (pg_name (i := 2) sc_law_same.nd rfl (by first | exact Or.inl rfl | exact Or.inr rfl))
      (pss_one (ps_if (pt_not (pt_val (pe_cH ch_law_same hr (by omega) ⟨p, hot, List.mem_cons_self ..⟩ (by rfl) (pa_cons (pe_ix ix_seq (pv 0) (pv 2) (fun _ _ => rfl)) (pa_cons (pe_ix ix_seq (pv 1) (pv 2) (fun _ _ => rfl)) pa_nil)))))
          (pss_one (ps_ret pe_bl))
          pss_nil)))
    (pss_one (ps_ret pe_bl))))))))))), ?_⟩
    have nn : ∀ v e, Dp K H v e → e ≠ .none → decide (v = .non) = false := fun v e h he => by cases h <;> simp_all
    have nb : ∀ v e b, Dp K H v e → e ≠ .bool b → decide (v = .bl b) = false := fun v e b h he => by cases h <;> simp_all
    -- None
    by_cases h0 : d = .none
    · subst h0
      cases hx
      cases hy
      exact ⟨_, rfl, rfl, _, rfl, iteT ⟨_, rfl, rfl, q⟩⟩
    refine ⟨_, rfl, rfl, _, rfl, ?_⟩
    rw [nn y d hy h0]
    refine iteF ?_
    by_cases h1 : d = .bool true
    · subst h1
      cases hx
      cases hy
      exact ⟨_, rfl, _, rfl, _, rfl, iteT ⟨_, rfl, _, rfl, q⟩⟩
    refine ⟨_, rfl, _, rfl, _, rfl, ?_⟩
    rw [nb y d true hy h1]
    refine iteF ?_
    by_cases h2 : d = .bool false
    · subst h2
      cases hx
      cases hy
      exact ⟨_, rfl, _, rfl, _, rfl, iteT ⟨_, rfl, _, rfl, q⟩⟩
    refine ⟨_, rfl, _, rfl, _, rfl, ?_⟩
    rw [nb y d false hy h2]
    refine iteF ?_
    have tx := ty_dp hx
    have ty := ty_dp hy
    cases d with
    | none => exact absurd rfl h0
    | bool b => cases b <;> simp at h1 h2
    | dict kvs => cases hx
    | str z =>
      cases hx
      cases hy
      refine ⟨_, rfl, _, _, _, _, _, rfl, .ty _, .base (.str z), kit_ty (r := true) (by decide), _, rfl, iteT ?_⟩
      refine ⟨_, rfl, _, _, _, _, _, rfl, .ty _, .base (.str z), kit_ty (r := true) (by decide), _, rfl, iteT ?_⟩
      rw [← show decide (V.str z = V.str z) = true by simp] at q
      exact ⟨_, rfl, _, rfl, rfl, q⟩
    | int z =>
      cases hx
      cases hy
      refine ⟨_, rfl, _, _, _, _, _, rfl, .ty _, .base (.int z), kit_ty (r := false) (by decide), _, rfl, iteF ?_⟩
      refine ⟨_, rfl, _, _, _, _, _, rfl, .ty _, .base (.int z), kit_ty (r := true) (by decide), _, rfl, iteT ?_⟩
      refine ⟨_, rfl, _, _, _, _, _, rfl, .ty _, .base (.int z), kit_ty (r := true) (by decide), _, rfl, iteT ?_⟩
      refine ⟨_, rfl, _, _, _, _, _, rfl, .ty _, .base (.int z), kit_ty (r := false) (by decide), _, rfl, _, rfl, iteT ?_⟩
      rw [← show decide (V.int z = V.int z) = true by simp] at q
      exact ⟨_, rfl, _, rfl, rfl, q⟩
    | list ds =>
      cases hx with
      | lst sx ax =>
      cases hy with
      | lst sy ay =>
      rename_i px xs py ys
      obtain ⟨lz, hall⟩ := okD_seq ok
      have lx := DpAll.len ax
      have ly := DpAll.len ay
      have tx := ty_seq sx
      have ty := ty_seq sy
      refine ⟨_, rfl, _, _, _, _, _, rfl, .ty _, ty, kit_ty (r := false) (by decide), _, rfl, iteF ?_⟩
      refine ⟨_, rfl, _, _, _, _, _, rfl, .ty _, ty, kit_ty (r := false) (by decide), _, rfl, iteF ?_⟩
      refine ⟨_, rfl, _, _, _, _, _, rfl, .ty _, ty, kit_ty (r := false) (by decide), _, rfl, iteF (iteF ?_)⟩
      refine ⟨_, rfl, _, _, _, _, _, rfl, .ty _, ty, kit_ty (r := true) (by decide), _, rfl, iteT ⟨_, rfl, _, _, _, _, _, rfl, .ty _, tx, kit_ty (r := true) (by decide), _, rfl, iteF ?_⟩⟩
      refine ⟨_, rfl, px, xs, rfl, .inl sx, _, rfl, py, ys, rfl, .inl sy, rfl, _, rfl, ?_⟩
      rw [show (!decide (V.int (xs.length : Int) = V.int (ys.length : Int))) = false by rw [lx, ly]; simp]
      refine iteF ?_
      refine ⟨_, rfl, py, ys, rfl, .inl sy, ys.length, rfl, by omega, by omega, for_range (n := ys.length) (fun i σ H' => ∃ v, σ = [some (.ref px), some (.ref py), v] ∧ H' = H) ⟨_, rfl, rfl⟩ ?_ ?_⟩
      · rintro i σ H' hi ⟨v, rfl, rfl⟩
        have hd : ds[i]? = some ds[i] := List.getElem?_eq_getElem (by omega)
        obtain ⟨v1, e1, d1⟩ := DpAll.get ax hd
        obtain ⟨v2, e2, d2⟩ := DpAll.get ay hd
        refine ⟨_, rfl, _, rfl, .inl ⟨px, _, _, _, rfl, rfl, sx, at_of (j := i) (by omega) e1, _, rfl, _, rfl, .inl ⟨py, _, _, _, rfl, rfl, sy, at_of (j := i) (by omega) e2, ?_⟩⟩⟩
        exact ⟨_, _, ds[i], rfl, hall _ (List.mem_of_getElem? hd), d1, d2, _, rfl, iteF ⟨_, rfl, rfl⟩⟩
      · rintro σ H' ⟨v, rfl, rfl⟩
        exact q
    | tuple ds =>
      cases hx with
      | tup sx ax =>
      cases hy with
      | tup sy ay =>
      rename_i px xs py ys
      obtain ⟨lz, hall⟩ := okD_seq ok
      have lx := DpAll.len ax
      have ly := DpAll.len ay
      have tx := ty_tup sx
      have ty := ty_tup sy
      refine ⟨_, rfl, _, _, _, _, _, rfl, .ty _, ty, kit_ty (r := false) (by decide), _, rfl, iteF ?_⟩
      refine ⟨_, rfl, _, _, _, _, _, rfl, .ty _, ty, kit_ty (r := false) (by decide), _, rfl, iteF ?_⟩
      refine ⟨_, rfl, _, _, _, _, _, rfl, .ty _, ty, kit_ty (r := true) (by decide), _, rfl, iteT ⟨_, rfl, _, _, _, _, _, rfl, .ty _, tx, kit_ty (r := true) (by decide), _, rfl, iteF ?_⟩⟩
      refine ⟨_, rfl, _, _, _, _, _, rfl, .ty _, ty, kit_ty (r := false) (by decide), _, rfl, iteF (iteF ?_)⟩
      refine ⟨_, rfl, px, xs, rfl, .inr sx, _, rfl, py, ys, rfl, .inr sy, rfl, _, rfl, ?_⟩
      rw [show (!decide (V.int (xs.length : Int) = V.int (ys.length : Int))) = false by rw [lx, ly]; simp]
      refine iteF ?_
      refine ⟨_, rfl, py, ys, rfl, .inr sy, ys.length, rfl, by omega, by omega, for_range (n := ys.length) (fun i σ H' => ∃ v, σ = [some (.ref px), some (.ref py), v] ∧ H' = H) ⟨_, rfl, rfl⟩ ?_ ?_⟩
      · rintro i σ H' hi ⟨v, rfl, rfl⟩
        have hd : ds[i]? = some ds[i] := List.getElem?_eq_getElem (by omega)
        obtain ⟨v1, e1, d1⟩ := DpAll.get ax hd
        obtain ⟨v2, e2, d2⟩ := DpAll.get ay hd
        refine ⟨_, rfl, _, rfl, .inr (.inl ⟨px, _, _, _, rfl, rfl, sx, at_of (j := i) (by omega) e1, _, rfl, _, rfl, .inr (.inl ⟨py, _, _, _, rfl, rfl, sy, at_of (j := i) (by omega) e2, ?_⟩)⟩)⟩
        exact ⟨_, _, ds[i], rfl, hall _ (List.mem_of_getElem? hd), d1, d2, _, rfl, iteF ⟨_, rfl, rfl⟩⟩
      · rintro σ H' ⟨v, rfl, rfl⟩
        exact q
theorem cal_law_sameH {f : Addr} {fd : FuncData} (F : Fun K "_law_same" "_law_same" s_law_same f fd) (T : Txt K mg C_Share C_Writers C_Keeper C_Breaker) (hm : mg "_law_same" = some (.ref f)) (kp : PySem.W.keepIn K (.ref f) = true) (b : Binds K fd ["told", "due"] []) : ∀ n, CalH P w K mg base n "_law_same" (spSame K n)
  | 0 => ⟨_, _, _, ⟨fun _ _ _ _ ⟨_, _, _, _, z, _⟩ => (by cases z), fun _ _ _ _ _ _ _ _ _ _ _ _ _ _ _ _ ⟨_, _, _, _, z, _⟩ => (by cases z)⟩, hm, kp, b⟩
  | n + 1 => ⟨_, _, _, ok_law_same1H F T (cal_law_sameH F T hm kp b n), hm, kp, b⟩
end

/-! ### isinstance(v, (list, tuple)) (as in samei) -/
theorem kit_lt {K : PySem.W.Frag} {H : Hp} {v : V} {d : PyData} (hv : Dp K H v d) : PySem.W.kitAny K (.type (tn d)) [.type "list", .type "tuple"] = some (isSeqD d) := by
  have k2 : ∀ r1 r2, kitB (tn d) "list" = some r1 → kitB (tn d) "tuple" = some r2 → PySem.W.kitAny K (.type (tn d)) [.type "list", .type "tuple"] = some (r1 || r2) := fun r1 r2 h1 h2 =>
    kitAny_cons (kit_ty h1) (fun e => by subst e; exact kitAny_cons (kit_ty h2) (fun e => by subst e; rfl) (fun e => by subst e; rfl)) (fun e => by subst e; rfl)
  cases d with
  | none => exact k2 false false (by decide) (by decide)
  | bool b => exact k2 false false (by show kitB "bool" _ = _; decide) (by show kitB "bool" _ = _; decide)
  | int b => exact k2 false false (by show kitB "int" _ = _; decide) (by show kitB "int" _ = _; decide)
  | str b => exact k2 false false (by show kitB "str" _ = _; decide) (by show kitB "str" _ = _; decide)
  | list b => exact k2 true false (by show kitB "list" _ = _; decide) (by show kitB "list" _ = _; decide)
  | tuple b => exact k2 false true (by show kitB "tuple" _ = _; decide) (by show kitB "tuple" _ = _; decide)
  | dict b => cases hv
theorem dp_list {K : PySem.W.Frag} {H : Hp} {v : V} {ds : List PyData} (h : Dp K H v (.list ds)) : ∃ a xs, v = .ref a ∧ SqL K H a xs ∧ DpAll K H xs ds := by
  cases h with
  | lst sx ax => exact ⟨_, _, rfl, sx, ax⟩
theorem dp_tuple {K : PySem.W.Frag} {H : Hp} {v : V} {ds : List PyData} (h : Dp K H v (.tuple ds)) : ∃ a xs, v = .ref a ∧ SqT K H a xs ∧ DpAll K H xs ds := by
  cases h with
  | tup sx ax => exact ⟨_, _, rfl, sx, ax⟩

/-! ### is_integer, is_number, is_sequence -/
section
variable {P : Program} {w : World} {K : PySem.W.Frag} {mg : Str → Option Value} {base : Heap} {C_Share C_Writers C_Keeper C_Breaker : Addr}
theorem ok_is_integer {f : Addr} {fd : FuncData} (F : Fun K "is_integer" "is_integer" s_is_integer f fd) (T : Txt K mg C_Share C_Writers C_Keeper C_Breaker) : FnOk P w K mg base CX0 1 f fd ["value"] (spKind K isIntD) := by
  refine F.ok sc_is_integer (fun vs H Q E h => ?_) (fun cdv A outer s H vs Q E hr h => ?_)
  · obtain ⟨v, d, rfl, _⟩ := h
    rfl
  · obtain ⟨v, d, rfl, hv, q⟩ := h
    refine ⟨_, (pss_one (ps_ret (pe_and (pe_callB call_isi (by rfl) T.b_isinstance (by decide +kernel) (pa_cons (pv 0) (pa_cons (pe_bltn (v := .ty "int") (by rfl) T.b_int (by decide +kernel) rfl) pa_nil))) (pe_one (pe_not (pe_callB call_isi (by rfl) T.b_isinstance (by decide +kernel) (pa_cons (pv 0) (pa_cons (pe_bltn (v := .ty "bool") (by rfl) T.b_bool (by decide +kernel) rfl) pa_nil)))))))), ?_⟩
    cases d with
    | int z =>
      cases hv
      exact ⟨_, rfl, _, _, _, _, _, rfl, .ty _, .base (.int z), kit_ty (r := true) (by decide), _, rfl, iteT ⟨_, rfl, _, _, _, _, _, rfl, .ty _, .base (.int z), kit_ty (r := false) (by decide), _, rfl, q⟩⟩
    | bool b =>
      cases hv
      exact ⟨_, rfl, _, _, _, _, _, rfl, .ty _, .base (.bl b), kit_ty (r := true) (by decide), _, rfl, iteT ⟨_, rfl, _, _, _, _, _, rfl, .ty _, .base (.bl b), kit_ty (r := true) (by decide), _, rfl, q⟩⟩
    | str z => cases hv; exact ⟨_, rfl, _, _, _, _, _, rfl, .ty _, .base (.str z), kit_ty (r := false) (by decide), _, rfl, iteF q⟩
    | none => cases hv; exact ⟨_, rfl, _, _, _, _, _, rfl, .ty _, .base .non, kit_ty (r := false) (by decide), _, rfl, iteF q⟩
    | list ds =>
      cases hv with
      | lst sx _ => exact ⟨_, rfl, _, _, _, _, _, rfl, .ty _, ty_seq sx, kit_ty (r := false) (by decide), _, rfl, iteF q⟩
    | tuple ds =>
      cases hv with
      | tup sx _ => exact ⟨_, rfl, _, _, _, _, _, rfl, .ty _, ty_tup sx, kit_ty (r := false) (by decide), _, rfl, iteF q⟩
    | dict ds => cases hv
theorem ok_is_number {f : Addr} {fd : FuncData} (F : Fun K "is_number" "is_number" s_is_number f fd) (T : Txt K mg C_Share C_Writers C_Keeper C_Breaker) (c_is_integer : Cal P w K mg base 1 "is_integer" (spKind K isIntD)) : FnOk P w K mg base CX0 2 f fd ["value"] (spKind K isNumD) := by
  refine F.ok sc_is_number (fun vs H Q E h => ?_) (fun cdv A outer s H vs Q E hr h => ?_)
  · obtain ⟨v, d, rfl, _⟩ := h
    rfl
  · obtain ⟨v, d, rfl, hv, q⟩ := h
    refine ⟨_, (pss_one (ps_ret (pe_and (pe_c c_is_integer hr (by omega) (by rfl) (pa_cons (pv 0) pa_nil)) (pe_one (pe_cmpR op_ge (pv 0) pe_int (nomark _)))))), ?_⟩
    cases d with
    | int z =>
      cases hv
      exact ⟨_, rfl, _, .int z, rfl, .int z, _, rfl, iteT ⟨_, rfl, _, _, rfl, rfl, q⟩⟩
    | dict ds => cases hv
    | _ => exact ⟨_, rfl, _, _, rfl, hv, _, rfl, iteF q⟩
theorem ok_is_sequence {f : Addr} {fd : FuncData} (F : Fun K "is_sequence" "is_sequence" s_is_sequence f fd) (T : Txt K mg C_Share C_Writers C_Keeper C_Breaker) : FnOk P w K mg base CX0 1 f fd ["value"] (spSeq K) := by
  refine F.ok sc_is_sequence (fun vs H Q E h => ?_) (fun cdv A outer s H vs Q E hr h => ?_)
  · obtain ⟨v, d, rfl, _⟩ := h
    rfl
  · obtain ⟨v, d, rfl, hv, q⟩ := h
    refine ⟨_, (pss_one (ps_ret (pe_callB call_isiT (by rfl) T.b_isinstance (by decide +kernel) (pa_cons (pv 0) (pa_cons (pe_tup (pa_cons (pe_bltn (v := .ty "tuple") (by rfl) T.b_tuple (by decide +kernel) rfl) (pa_cons (pe_bltn (v := .ty "list") (by rfl) T.b_list (by decide +kernel) rfl) pa_nil))) pa_nil))))), ?_⟩
    refine ⟨_, rfl, szle (by show 2 ≤ 16777216; decide), fun tp htp => ?_⟩
    have s1 := same_upd (o := .tup [.ty "tuple", .ty "list"]) htp
    have ty := ty_dp (Dp.mono s1 _ _ hv)
    have kk : ∀ b, PySem.W.kitAny K (.type (tn d)) [.type "tuple", .type "list"] = some b → b = isSeqD d → _ := fun b hb e => (⟨v, tp, [.ty "tuple", .ty "list"], _, [.type "tuple", .type "list"], b, rfl, upd_same, .cons (.ty _) (.cons (.ty _) .nil), ty, hb, by rw [e]; exact q _ s1⟩ : rIsiT K [v, .ref tp] (upd H tp (.tup [.ty "tuple", .ty "list"])) Q)
    have k2 : ∀ r1 r2, kitB (tn d) "tuple" = some r1 → kitB (tn d) "list" = some r2 → PySem.W.kitAny K (.type (tn d)) [.type "tuple", .type "list"] = some (r1 || r2) := fun r1 r2 h1 h2 =>
      kitAny_cons (kit_ty h1) (fun e => by subst e; exact kitAny_cons (kit_ty h2) (fun e => by subst e; rfl) (fun e => by subst e; rfl)) (fun e => by subst e; rfl)
    cases d with
    | none => exact kk _ (k2 false false (by decide) (by decide)) rfl
    | bool b => exact kk _ (k2 false false (by show kitB "bool" _ = _; decide) (by show kitB "bool" _ = _; decide)) rfl
    | int b => exact kk _ (k2 false false (by show kitB "int" _ = _; decide) (by show kitB "int" _ = _; decide)) rfl
    | str b => exact kk _ (k2 false false (by show kitB "str" _ = _; decide) (by show kitB "str" _ = _; decide)) rfl
    | list b => exact kk _ (k2 false true (by show kitB "list" _ = _; decide) (by show kitB "list" _ = _; decide)) rfl
    | tuple b => exact kk _ (k2 true false (by show kitB "tuple" _ = _; decide) (by show kitB "tuple" _ = _; decide)) rfl
    | dict b => cases hv
end

section
variable {P : Program} {w : World} {K : PySem.W.Frag} {mg : Str → Option Value} {base : Heap} {C_Share C_Writers C_Keeper C_Breaker : Addr}
theorem ok_are_numbers {f : Addr} {fd : FuncData} (F : Fun K "are_numbers" "are_numbers" s_are_numbers f fd) (T : Txt K mg C_Share C_Writers C_Keeper C_Breaker) (c_is_sequence : Cal P w K mg base 1 "is_sequence" (spSeq K)) (c_is_number : Cal P w K mg base 2 "is_number" (spKind K isNumD)) : FnOk P w K mg base CX0 3 f fd ["value"] (spRow K) := by
  refine F.ok sc_are_numbers (fun vs H Q E h => ?_) (fun cdv A outer s H vs Q E hr h => ?_)
  · obtain ⟨v, d, n, rfl, _⟩ := h
    rfl
  · obtain ⟨v, d, n, rfl, hv, hok, q⟩ := h
    refine ⟨_, (pss_one (ps_ret (pe_and (pe_c c_is_sequence hr (by omega) (by rfl) (pa_cons (pv 0) pa_nil)) (pe_one (pe_callB (cr_all rfl) (by rfl) T.b_all (by decide +kernel) (pa_cons (pe_lc (own := [("part", 1)]) rfl sc_are_numbers.nd (pi_seqA (pv 0)) (blkOk_by (own := [("part", 1)]) (N := ["value", "part"]) (sc := defScope s_are_numbers) (by decide +kernel)) (fun _ _ _ _ _ => (pg_name (i := 1) sc_are_numbers.nd rfl (by first | exact Or.inl rfl | exact Or.inr rfl))) (fun _ _ _ _ _ => pts_nil) (fun _ _ _ _ _ => (pe_c c_is_number hr (by omega) (by rfl) (pa_cons (pv 1) pa_nil)))) pa_nil)))))), ?_⟩
    refine ⟨_, rfl, v, d, rfl, hv, fun H1 s1 => ⟨_, rfl, ?_⟩⟩
    cases d with
    | none => exact iteF (q _ s1)
    | bool b => exact iteF (q _ s1)
    | int b => exact iteF (q _ s1)
    | str b => exact iteF (q _ s1)
    | dict b => cases hv
    | list ds =>
      cases hv with
      | lst sx ax =>
      rename_i a xs
      cases n with
      | zero => cases hok
      | succ n =>
      obtain ⟨lz, _⟩ := okD_seq hok
      have lx := DpAll.len ax
      refine iteT ?_
      refine ⟨_, rfl, a, xs, rfl, .inl ⟨s1.seq sx, fun D hD => lc_list (K := K) (a := a) (xs := xs) (fun i H' => Same H1 H' ∧ H' D = some (.lst (((ds.take i).map isNumD).map V.bl))) ⟨same_upd hD, upd_same⟩ ?_ ?_ ?_⟩⟩
      · rintro i H' _ ⟨sm, _⟩
        exact (s1.trans sm).seq sx
      · rintro i x H' hi ⟨sm, eD⟩
        obtain ⟨e, he, dx⟩ := DpAll.get' ax hi
        have hi' := (List.getElem?_eq_some_iff.mp he).1
        refine ⟨rfl, iteT (B := Same H1 H' ∧ H' D = some (.lst (((ds.take (i + 1)).map isNumD).map V.bl))) ?_⟩
        refine ⟨_, rfl, x, e, rfl, Dp.mono (s1.trans sm) _ _ dx, _, eD, szl (by rw [List.length_map, List.length_map, List.length_take]; omega), same_out sm hD, ?_⟩
        rw [upd_same, List.take_succ, he, List.map_append, List.map_append]
        rfl
      · rintro H' ⟨sm, eD⟩
        rw [List.take_of_length_le (by omega)] at eD
        refine ⟨D, ds.map isNumD, rfl, SqL.of eD, ?_⟩
        rw [List.all_map]
        exact q H' (s1.trans sm)
    | tuple ds =>
      cases hv with
      | tup sx ax =>
      rename_i a xs
      cases n with
      | zero => cases hok
      | succ n =>
      obtain ⟨lz, _⟩ := okD_seq hok
      have lx := DpAll.len ax
      refine iteT ?_
      refine ⟨_, rfl, a, xs, rfl, .inr ⟨sameT s1 sx, fun D hD => lc_tup (K := K) (a := a) (xs := xs) (fun i H' => Same H1 H' ∧ H' D = some (.lst (((ds.take i).map isNumD).map V.bl))) ⟨same_upd hD, upd_same⟩ ?_ ?_ ?_⟩⟩
      · rintro i H' _ ⟨sm, _⟩
        exact sameT (s1.trans sm) sx
      · rintro i x H' hi ⟨sm, eD⟩
        obtain ⟨e, he, dx⟩ := DpAll.get' ax hi
        have hi' := (List.getElem?_eq_some_iff.mp he).1
        refine ⟨rfl, iteT (B := Same H1 H' ∧ H' D = some (.lst (((ds.take (i + 1)).map isNumD).map V.bl))) ?_⟩
        refine ⟨_, rfl, x, e, rfl, Dp.mono (s1.trans sm) _ _ dx, _, eD, szl (by rw [List.length_map, List.length_map, List.length_take]; omega), same_out sm hD, ?_⟩
        rw [upd_same, List.take_succ, he, List.map_append, List.map_append]
        rfl
      · rintro H' ⟨sm, eD⟩
        rw [List.take_of_length_le (by omega)] at eD
        refine ⟨D, ds.map isNumD, rfl, SqL.of eD, ?_⟩
        rw [List.all_map]
        exact q H' (s1.trans sm)
end

section
variable {P : Program} {w : World} {K : PySem.W.Frag} {mg : Str → Option Value} {base : Heap} {C_Share C_Writers C_Keeper C_Breaker : Addr} {C_InvalidNumber : Addr}
theorem ok_Share___init__ {f : Addr} {fd : FuncData} (F : Fun K "__init__" "Share.__init__" s_Share___init__ f fd) (T : Txt K mg C_Share C_Writers C_Keeper C_Breaker) (x_InvalidNumber : XErr P K mg "InvalidNumber" C_InvalidNumber ["number"]) (c : ShC K C_Share) : FnOk P w K mg base (L2N.CX P w) 1 f fd ["self", "over", "under"] (spInit C_Share C_InvalidNumber) := by
  refine Fun_okN F sc_Share___init__ (fun vs H Q E h => ?_) (fun cdv A outer s H vs Q E hr h => ?_)
  · obtain ⟨x, dx, o, u, rfl, _⟩ := h
    rfl
  · obtain ⟨x, dx, o, u, rfl, hx, hu, q⟩ := h
    refine ⟨_, (pss_cons (ps_if (pt_cmpR op_eq (pv 2) pe_int (nomark _))
      (pss_one (ps_raiseX rfl x_InvalidNumber hr (L2N.takes_of rfl rfl rfl rfl) (pa_cons (pv 2) pa_nil)))
      pss_nil)
    (pss_cons (ps_set (i := 3) sc_Share___init__.nd rfl (by first | exact Or.inl rfl | exact Or.inr rfl) (pe_callBfun cr_gcd (by rfl) T.f_gcd (pa_cons (pv 1) (pa_cons (pv 2) pa_nil))))
    (pss_cons (ps_if (pt_cmpR op_lt (pv 2) pe_int (nomark _))
      (pss_one (ps_set (i := 3) sc_Share___init__.nd rfl (by first | exact Or.inl rfl | exact Or.inr rfl) (pe_un un_neg (pv 3))))
      pss_nil)
    (pss_cons (ps_fld (pv 0) (pe_op op_fdivV (pv 1) (pv 3)) rfl)
    (pss_one (ps_fld (pv 0) (pe_op op_fdivV (pv 2) (pv 3)) rfl)))))), ?_⟩
    have z0 : decide (V.int u = V.int 0) = decide (u = 0) := by simp
    rcases q with ⟨hn, q⟩ | ⟨rfl, q⟩
    · replace q := q _ rfl
      refine ⟨_, rfl, rfl, _, rfl, ?_⟩
      rw [z0, decide_eq_false hn]
      refine iteF ?_
      have l9 : ∀ g : Int, g.natAbs = gN o u → g.natAbs.log2 < 9000 := fun g e => by
        have := gN_pos (o := o) hn
        have := gN_le (o := o) hn
        exact (Nat.log2_lt (by omega)).mpr (by omega)
      refine ⟨_, rfl, _, rfl, _, _, rfl, _, rfl, _, _, rfl, rfl, _, rfl, ?_⟩
      by_cases hu0 : u < 0
      · have ec : -((Nat.gcd o.natAbs u.natAbs : Nat) : Int) = cN o u := by unfold cN gN; rw [if_pos hu0]
        have cc : ∀ i : Int, CDivV i (-((Nat.gcd o.natAbs u.natAbs : Nat) : Int)) := fun i => by rw [ec]; exact ⟨cN_ne hn, l9 _ cN_abs⟩
        have e1 : o.fdiv (-((Nat.gcd o.natAbs u.natAbs : Nat) : Int)) = rOd o u := by rw [ec]; exact fdiv_o hn
        have e2 : u.fdiv (-((Nat.gcd o.natAbs u.natAbs : Nat) : Int)) = rUd o u := by rw [ec]; exact fdiv_u hn
        rw [← e1, ← e2, ← upd_upd (o := .ins C_Share dx [("over", V.int (o.fdiv (-((Nat.gcd o.natAbs u.natAbs : Nat) : Int))))])] at q
        rw [decide_eq_true hu0]
        refine iteT ?_
        refine ⟨_, rfl, _, rfl, ?_⟩
        refine ⟨_, rfl, _, rfl, _, _, rfl, rfl, cc _, _, rfl, x, _, dx, _, rfl, hx, c.ins.cl, c.no, by decide, ?_⟩
        refine ⟨_, rfl, _, rfl, _, _, rfl, rfl, cc _, _, rfl, x, _, dx, _, rfl, upd_same, c.ins.cl, c.nu, by show 1 < 1000; decide, ?_⟩
        exact q
      · have ec : ((Nat.gcd o.natAbs u.natAbs : Nat) : Int) = cN o u := by unfold cN gN; rw [if_neg hu0]
        have cc : ∀ i : Int, CDivV i ((Nat.gcd o.natAbs u.natAbs : Nat) : Int) := fun i => by rw [ec]; exact ⟨cN_ne hn, l9 _ cN_abs⟩
        have e1 : o.fdiv ((Nat.gcd o.natAbs u.natAbs : Nat) : Int) = rOd o u := by rw [ec]; exact fdiv_o hn
        have e2 : u.fdiv ((Nat.gcd o.natAbs u.natAbs : Nat) : Int) = rUd o u := by rw [ec]; exact fdiv_u hn
        rw [← e1, ← e2, ← upd_upd (o := .ins C_Share dx [("over", V.int (o.fdiv ((Nat.gcd o.natAbs u.natAbs : Nat) : Int)))])] at q
        rw [decide_eq_false hu0]
        refine iteF ?_
        refine ⟨_, rfl, _, rfl, _, _, rfl, rfl, cc _, _, rfl, x, _, dx, _, rfl, hx, c.ins.cl, c.no, by decide, ?_⟩
        refine ⟨_, rfl, _, rfl, _, _, rfl, rfl, cc _, _, rfl, x, _, dx, _, rfl, upd_same, c.ins.cl, c.nu, by show 1 < 1000; decide, ?_⟩
        exact q
    · refine ⟨_, rfl, rfl, _, rfl, ?_⟩
      rw [z0, decide_eq_true rfl]
      refine iteT ?_
      exact ⟨_, rfl, rfl, fun d hd => q d hd⟩
end

section
variable {P : Program} {w : World} {K : PySem.W.Frag} {mg : Str → Option Value} {base : Heap} {C_Share C_Writers C_Keeper C_Breaker : Addr} {C_InvalidNumber : Addr}
theorem ok_Share_is_below {f : Addr} {fd : FuncData} (F : Fun K "is_below" "Share.is_below" s_Share_is_below f fd) (T : Txt K mg C_Share C_Writers C_Keeper C_Breaker) (c : ShC K C_Share) : FnOk P w K mg base CX0 1 f fd ["self", "other"] (spBelow C_Share) := by
  refine F.ok sc_Share_is_below (fun vs H Q E h => ?_) (fun cdv A outer s H vs Q E hr h => ?_)
  · obtain ⟨a, b, n, d, m, e, rfl, _⟩ := h
    rfl
  · obtain ⟨a, b, n, d, m, e, rfl, ⟨da, ha⟩, ⟨db, hb⟩, ⟨b1, b2, b3, b4⟩, q⟩ := h
    refine ⟨_, (pss_one (ps_ret (pe_cmpR op_lt (pe_op op_mulW (pe_fld (pv 0) rfl) (pe_fld (pv 1) rfl)) (pe_op op_mulW (pe_fld (pv 1) rfl) (pe_fld (pv 0) rfl)) (nomark _)))), ?_⟩
    refine ⟨_, rfl, a, C_Share, da, _, _, rfl, ha, c.ins.cl, c.no, fz_o, _, rfl, b, C_Share, db, _, _, rfl, hb, c.ins.cl, c.nu, fz_u, _, _, rfl, rfl, wide_mul b1 b4 (by decide) (by decide) (by decide), ?_⟩
    exact ⟨_, rfl, b, C_Share, db, _, _, rfl, hb, c.ins.cl, c.no, fz_o, _, rfl, a, C_Share, da, _, _, rfl, ha, c.ins.cl, c.nu, fz_u, _, _, rfl, rfl, wide_mul b3 b2 (by decide) (by decide) (by decide), _, _, rfl, rfl, q⟩
end

/-! ### the sum of halves -/
def spHalves (K : PySem.W.Frag) (C : Addr) : Sp := fun vs H Q _ => ∃ (a : Addr) (ls : List Nat) (L : Nat), vs = [.ref a] ∧ (SqL K H a (ls.map nI) ∨ SqT K H a (ls.map nI)) ∧ (∀ n ∈ ls, n ≤ L) ∧ L ≤ 3000 ∧ ls.length ≤ 100000 ∧ ∀ H' x, Same H H' → Sh C H' x (rOd (hs L ls) (2 ^ L)) (rUd (hs L ls) (2 ^ L)) → Q (.ref x) H'
section
variable {P : Program} {w : World} {K : PySem.W.Frag} {mg : Str → Option Value} {base : Heap} {C_Share C_Writers C_Keeper C_Breaker : Addr} {C_InvalidNumber : Addr}
theorem ok_sum_of_halves {f : Addr} {fd : FuncData} (F : Fun K "sum_of_halves" "sum_of_halves" s_sum_of_halves f fd) (T : Txt K mg C_Share C_Writers C_Keeper C_Breaker) (m_Share : MakX P w K mg base 1 "Share" C_Share (spInit C_Share C_InvalidNumber)) : FnOk P w K mg base CX0 3 f fd ["lengths"] (spHalves K C_Share) := by
  refine F.ok sc_sum_of_halves (fun vs H Q E h => ?_) (fun cdv A outer s H vs Q E hr h => ?_)
  · obtain ⟨a, ls, L, rfl, _⟩ := h
    rfl
  · obtain ⟨a, ls, L, rfl, hS, hL, hL3, hlen, q⟩ := h
    refine ⟨_, (pss_cons (ps_set (i := 1) sc_sum_of_halves.nd rfl (by first | exact Or.inl rfl | exact Or.inr rfl) (pe_callBK (cr_maxDef rfl) (by rfl) T.b_max (by decide +kernel) (pa_cons (pv 0) pa_nil) (pk_cons pe_int pk_nil)))
    (pss_cons (ps_set (i := 2) sc_sum_of_halves.nd rfl (by first | exact Or.inl rfl | exact Or.inr rfl) (pe_callB (cr_sum rfl) (by rfl) T.b_sum (by decide +kernel) (pa_cons (pe_lc (own := [("length", 3)]) rfl sc_sum_of_halves.nd (pi_seqJ (pv 0)) (blkOk_by (own := [("length", 3)]) (N := ["lengths", "longest", "over", "length"]) (sc := defScope s_sum_of_halves) (by decide +kernel)) (fun _ _ _ _ _ => (pg_name (i := 3) sc_sum_of_halves.nd rfl (by first | exact Or.inl rfl | exact Or.inr rfl))) (fun _ _ _ _ _ => pts_nil) (fun _ _ _ _ _ => (pe_op op_shlW pe_int (pe_op op_sub (pv 1) (pv 3))))) pa_nil)))
    (pss_one (ps_ret (pe_mkx m_Share hr (by omega) (by rfl) (pa_cons (pv 2) (pa_cons (pe_op op_shlW pe_int (pv 1)) pa_nil))))))), ?_⟩
    -- what follows the greatest one
    have rest : ∀ m : Nat, m ≤ L → (∀ n ∈ ls, n ≤ m) → ∀ (D : Addr) (H2 : Hp), Same H H2 → H2 D = some (.lst ((ls.map fun n : Nat => (1 : Int) * 2 ^ ((m : Int) - (n : Int)).toNat).map V.int)) → ∀ x dx, H2 x = none → H2 dx = none → dx ≠ x → ∀ H', H' = upd (upd (upd H2 dx (.own x)) x (.ins C_Share dx [])) x (.ins C_Share dx (fz (rOd (ls.map fun n : Nat => (1 : Int) * 2 ^ ((m : Int) - (n : Int)).toNat).sum (1 * 2 ^ ((m : Int)).toNat)) (rUd (ls.map fun n : Nat => (1 : Int) * 2 ^ ((m : Int) - (n : Int)).toNat).sum (1 * 2 ^ ((m : Int)).toNat)))) → Q (.ref x) H' := by
      intro m hm hn D H2 sm eD x dx hx hdx hne H' e'
      rw [upd_upd, hs_sum m ls hn, Int.one_mul, Int.toNat_natCast, (red_hs hm hn).1, (red_hs hm hn).2] at e'
      subst e'
      exact q _ x (sm.trans (mkS_same hx hdx)) mkS_sh
    have step : ∀ m : Nat, m ≤ L → (∀ n ∈ ls, n ≤ m) → CShl 1 (m : Int) ∧ ((1 : Int) * 2 ^ ((m : Int)).toNat).natAbs < 2 ^ 9000 ∧ (1 : Int) * 2 ^ ((m : Int)).toNat ≠ 0 := by
      intro m hm hn
      refine ⟨⟨by omega, by rw [show Builtin.Int.intBits 1 = 1 by decide]; omega⟩, ?_, ?_⟩
      · rw [Int.one_mul, Int.toNat_natCast, Int.natAbs_pow]
        exact Nat.pow_lt_pow_right (by decide) (by omega)
      · rw [Int.one_mul, Int.toNat_natCast]
        exact Int.ne_of_gt (Int.pow_pos (by decide))
    have csl : ∀ m n : Nat, m ≤ L → n ≤ m → CShl 1 ((m : Int) - (n : Int)) := fun m n h1 h2 => ⟨by omega, by rw [show Builtin.Int.intBits 1 = 1 by decide]; omega⟩
    refine ⟨_, rfl, maxD_nat hS hL fun m hm hn => ?_⟩
    obtain ⟨c1, c2, c3⟩ := step m hm hn
    refine ⟨_, rfl, a, _, rfl, hS, fun J S LS sJ => fun D hD => lc_J LS (fun i H' => Same H H' ∧ H' D = some (.lst (((ls.take i).map fun n : Nat => (1 : Int) * 2 ^ ((m : Int) - (n : Int)).toNat).map V.int))) ⟨same_upd hD, upd_same⟩ (fun i H' _ h => LS.mono _ _ h.1 sJ) ?_ ?_⟩
    · rintro i x H' hi ⟨sm, eD⟩
      obtain ⟨n, hi', rfl⟩ : ∃ n, ls[i]? = some n ∧ nI n = x := by
        rw [List.getElem?_map] at hi
        cases e : ls[i]? with
        | none => rw [e] at hi; cases hi
        | some n => rw [e] at hi; exact ⟨n, rfl, Option.some.inj hi⟩
      have hil := (List.getElem?_eq_some_iff.mp hi').1
      have hnm := hn n (List.mem_of_getElem? hi')
      refine ⟨rfl, iteT (B := Same H H' ∧ H' D = some (.lst (((ls.take (i + 1)).map fun n : Nat => (1 : Int) * 2 ^ ((m : Int) - (n : Int)).toNat).map V.int))) ?_⟩
      refine ⟨_, rfl, _, rfl, _, _, rfl, rfl, _, _, rfl, rfl, csl m n hm hnm, _, eD, szl (by rw [List.length_map, List.length_map, List.length_take]; omega), same_out sm hD, ?_⟩
      rw [upd_same, List.take_succ, hi', List.map_append, List.map_append]
      rfl
    · rintro H' ⟨sm, eD⟩
      rw [List.length_map, List.take_length] at eD
      refine ⟨D, _, rfl, SqL.of eD, ?_⟩
      refine ⟨_, rfl, _, rfl, _, _, rfl, rfl, c1, fun x dx hx hdx hne => ⟨x, dx, _, _, rfl, upd_same, c2, .inl ⟨c3, fun H2 e2 => ⟨rfl, rest m hm hn D H' sm eD x dx hx hdx hne H2 e2⟩⟩⟩⟩
end

/-! ### is_word -/
section
variable {P : Program} {w : World} {K : PySem.W.Frag} {mg : Str → Option Value} {base : Heap} {C_Share C_Writers C_Keeper C_Breaker : Addr}
theorem ok_is_word {f : Addr} {fd : FuncData} (F : Fun K "is_word" "is_word" s_is_word f fd) (T : Txt K mg C_Share C_Writers C_Keeper C_Breaker) : FnOk P w K mg base CX0 1 f fd ["value"] (spIsWord K) := by
  refine F.ok sc_is_word (fun vs H Q E h => ?_) (fun cdv A outer s H vs Q E hr h => ?_)
  · obtain ⟨v, d, rfl, _⟩ := h
    rfl
  · obtain ⟨v, d, rfl, hv, hz, q⟩ := h
    refine ⟨_, (pss_one (ps_ret (pe_and (pe_callB call_isi (by rfl) T.b_isinstance (by decide +kernel) (pa_cons (pv 0) (pa_cons (pe_bltn (v := .ty "str") (by rfl) T.b_str (by decide +kernel) rfl) pa_nil))) (pe_one (pe_cmpR op_eq (pe_bm PySem.F.plainAttrs_str PySem.F.slot_str_strip PySem.F.type_str_strip mt_stripChars (pv 0) (pa_cons pe_str pa_nil)) pe_str (nomark _)))))), ?_⟩
    cases d with
    | str z =>
      cases hv
      refine ⟨_, rfl, _, _, _, _, _, rfl, .ty _, .base (.str z), kit_ty (r := true) (by decide), _, rfl, iteT ?_⟩
      refine ⟨_, rfl, rfl, z, _, rfl, rfl, szle (Nat.le_trans (hz z rfl) (by decide)), rfl, ?_⟩
      rw [strip01]
      exact q
    | none => cases hv; exact ⟨_, rfl, _, _, _, _, _, rfl, .ty _, .base .non, kit_ty (r := false) (by decide), _, rfl, iteF q⟩
    | bool b => cases hv; exact ⟨_, rfl, _, _, _, _, _, rfl, .ty _, .base (.bl b), kit_ty (r := false) (by decide), _, rfl, iteF q⟩
    | int b => cases hv; exact ⟨_, rfl, _, _, _, _, _, rfl, .ty _, .base (.int b), kit_ty (r := false) (by decide), _, rfl, iteF q⟩
    | list ds =>
      cases hv with
      | lst sx _ => exact ⟨_, rfl, _, _, _, _, _, rfl, .ty _, ty_seq sx, kit_ty (r := false) (by decide), _, rfl, iteF q⟩
    | tuple ds =>
      cases hv with
      | tup sx _ => exact ⟨_, rfl, _, _, _, _, _, rfl, .ty _, ty_tup sx, kit_ty (r := false) (by decide), _, rfl, iteF q⟩
    | dict ds => cases hv
end

/-! ### _check_words, first_clash, share_of, split -/
def wordsD : PyData → Bool
  | .list ds => ds.all isW
  | .tuple ds => ds.all isW
  | _ => false
def strD : PyData → Str
  | .str z => z
  | _ => ""
def wsD : PyData → List Str
  | .list ds => ds.map strD
  | .tuple ds => ds.map strD
  | _ => []
/-- no text of a sequence is longer than a line holds -/
def shortD : PyData → Prop
  | .list ds => ∀ z, .str z ∈ ds → z.length ≤ 100000
  | .tuple ds => ∀ z, .str z ∈ ds → z.length ≤ 100000
  | _ => True
def bad (a b : Str) : Bool := Txt.startswith a b || Txt.startswith b a

/-! ### rows of programs -/
def rowsOk (ds : List PyData) : Bool := !ds.isEmpty && (ds.all isW && ds.all fun e => (strD e).length == (strD (ds.getD 0 .none)).length)
def rowsD : PyData → Bool
  | .list ds => rowsOk ds
  | .tuple ds => rowsOk ds
  | _ => false
def spAreRows (K : PySem.W.Frag) : Sp := fun vs H Q _ => ∃ v d n, vs = [v] ∧ Dp K H v d ∧ okD n d = true ∧ shortD d ∧ ∀ H', Same H H' → Q (.bl (rowsD d)) H'
theorem dp_str {K : PySem.W.Frag} {H : Hp} {v : V} {e : PyData} (h : Dp K H v e) (hw : isW e = true) : v = .str (strD e) := by
  cases e with
  | str z => cases h; rfl
  | none => cases hw
  | bool b => cases hw
  | int i => cases hw
  | list ds => cases hw
  | tuple ds => cases hw
  | dict ds => cases hw
theorem dp_seq {K : PySem.W.Frag} {H : Hp} {v : V} {d : PyData} {n : Nat} (hv : Dp K H v d) (hok : okD n d = true) (hsh : shortD d) :
    (∃ a xs ds, v = .ref a ∧ (SqL K H a xs ∨ SqT K H a xs) ∧ DpAll K H xs ds ∧ isSeqD d = true ∧ rowsD d = rowsOk ds ∧ (∀ z, .str z ∈ ds → z.length ≤ 100000) ∧ ds.length ≤ 100000) ∨ (isSeqD d = false ∧ rowsD d = false) := by
  cases d with
  | none => exact .inr ⟨rfl, rfl⟩
  | bool b => exact .inr ⟨rfl, rfl⟩
  | int b => exact .inr ⟨rfl, rfl⟩
  | str b => exact .inr ⟨rfl, rfl⟩
  | dict b => cases hv
  | list ds =>
    cases hv with
    | lst sx ax =>
    cases n with
    | zero => cases hok
    | succ n => exact .inl ⟨_, _, ds, rfl, .inl sx, ax, rfl, rfl, hsh, (okD_seq hok).1⟩
  | tuple ds =>
    cases hv with
    | tup sx ax =>
    cases n with
    | zero => cases hok
    | succ n => exact .inl ⟨_, _, ds, rfl, .inr sx, ax, rfl, rfl, hsh, (okD_seq hok).1⟩
section
variable {P : Program} {w : World} {K : PySem.W.Frag} {mg : Str → Option Value} {base : Heap} {C_Share C_Writers C_Keeper C_Breaker : Addr} {C_InvalidRows : Addr}
theorem ok_are_rows {f : Addr} {fd : FuncData} (F : Fun K "_are_rows" "_are_rows" s_are_rows f fd) (T : Txt K mg C_Share C_Writers C_Keeper C_Breaker) (c_is_sequence : Cal P w K mg base 1 "is_sequence" (spSeq K)) (c_is_word : Cal P w K mg base 1 "is_word" (spIsWord K)) : FnOk P w K mg base CX0 2 f fd ["value"] (spAreRows K) := by
  refine F.ok sc_are_rows (fun vs H Q E h => ?_) (fun cdv A outer s H vs Q E hr h => ?_)
  · obtain ⟨v, d, n, rfl, _⟩ := h
    rfl
  · obtain ⟨v, d, n, rfl, hv, hok, hsh, q⟩ := h
    refine ⟨_, (pss_cons (ps_if (PW.pt (pw_or (pt_not (pt_val (pe_c c_is_sequence hr (by omega) (by rfl) (pa_cons (pv 0) pa_nil)))) (pw_or1 (pt_cmpR op_eq (pe_callB call_len_seq (by rfl) T.b_len (by decide +kernel) (pa_cons (pv 0) pa_nil)) pe_int (nomark _)))))
      (pss_one (ps_ret pe_bl))
      pss_nil)
    (pss_one (ps_ret (pe_and (pe_callB (cr_all rfl) (by rfl) T.b_all (by decide +kernel) (pa_cons (pe_lc (own := [("part", 1)]) rfl sc_are_rows.nd (pi_seqJ (pv 0)) (blkOk_by (own := [("part", 1)]) (N := ["value", "part", "word"]) (sc := defScope s_are_rows) (by decide +kernel)) (fun _ _ _ _ _ => (pg_name (i := 1) sc_are_rows.nd rfl (by first | exact Or.inl rfl | exact Or.inr rfl))) (fun _ _ _ _ _ => pts_nil) (fun _ _ _ _ _ => (pe_c c_is_word hr (by omega) (by rfl) (pa_cons (pv 1) pa_nil)))) pa_nil)) (pe_one (pe_callB (cr_all rfl) (by rfl) T.b_all (by decide +kernel) (pa_cons (pe_lc (own := [("word", 2)]) rfl sc_are_rows.nd (pi_seqJ (pv 0)) (blkOk_by (own := [("word", 2)]) (N := ["value", "part", "word"]) (sc := defScope s_are_rows) (by decide +kernel)) (fun _ _ _ _ _ => (pg_name (i := 2) sc_are_rows.nd rfl (by first | exact Or.inl rfl | exact Or.inr rfl))) (fun _ _ _ _ _ => pts_nil) (fun _ _ _ _ _ => (pe_cmpR op_eq (pe_callB call_len_str (by rfl) T.b_len (by decide +kernel) (pa_cons (pv 2) pa_nil)) (pe_callB call_len_str (by rfl) T.b_len PySem.boot_len (pa_cons (pe_ix (show IxR _ (rIx K) from ix_seq) (pv 0) pe_int (fun _ _ => rfl)) pa_nil)) (nomark _)))) pa_nil))))))), ?_⟩
    refine ⟨_, rfl, v, d, rfl, hv, fun H1 s1 => ⟨_, rfl, ?_⟩⟩
    rcases dp_seq hv hok hsh with ⟨a, xs, ds, rfl, hS, hD, e1, e2, e3, e4⟩ | ⟨e1, e2⟩
    · rw [e1]
      rw [e2] at q
      have lx := DpAll.len hD
      have S1 : ∀ {H' : Hp}, Same H H' → (SqL K H' a xs ∨ SqT K H' a xs) := fun sm => hS.imp (fun z => sm.seq z) (fun z => sameT sm z)
      refine iteF ?_
      refine ⟨_, rfl, a, xs, rfl, S1 s1, rfl, _, rfl, ite2 (fun h => ?_) (fun h => ?_)⟩
      · have h0 : (xs.length : Int) = 0 := V.int.inj (of_decide_eq_true h)
        have : ds = [] := List.eq_nil_of_length_eq_zero (by omega)
        subst this
        exact q _ s1
      · have h0 : ¬ ds = [] := fun z => h (decide_eq_true (congrArg V.int (by rw [z] at lx; show (xs.length : Int) = 0; rw [lx]; rfl)))
        have s1' : ∀ {H' : Hp}, Same H1 H' → Same H H' := fun z => s1.trans z
        refine ⟨_, rfl, a, xs, rfl, S1 s1, fun J S LS sJ D hD' => lc_J LS (fun i H' => Same H1 H' ∧ H' D = some (.lst (((ds.take i).map isW).map V.bl))) ⟨same_upd hD', upd_same⟩ (fun i H' _ h => LS.mono _ _ h.1 sJ) ?_ ?_⟩
        · rintro i x H' hi ⟨sm, eD⟩
          obtain ⟨e, he, dx⟩ := DpAll.get' hD hi
          have hi' := (List.getElem?_eq_some_iff.mp he).1
          refine ⟨rfl, ?_⟩
          refine tyes ?_
          refine ⟨_, rfl, x, e, rfl, Dp.mono (s1.trans sm) _ _ dx, (fun z hz => e3 z (hz ▸ List.mem_of_getElem? he)), _, eD, szl (by rw [List.length_map, List.length_map, List.length_take]; omega), same_out sm hD', ?_⟩
          rw [upd_same, List.take_succ, he, List.map_append, List.map_append]
          rfl
        · rintro H2 ⟨sm, eD⟩
          rw [List.take_of_length_le (by omega)] at eD
          refine ⟨D, ds.map isW, rfl, SqL.of eD, _, rfl, ?_⟩
          have hall : (ds.map isW).all id = ds.all isW := by rw [List.all_map]; rfl
          rw [hall]
          have hro : rowsOk ds = (ds.all isW && ds.all fun e => (strD e).length == (strD (ds.getD 0 .none)).length) := by
            unfold rowsOk
            cases ds with
            | nil => exact absurd rfl h0
            | cons _ _ => rfl
          cases hw : ds.all isW with
          | false =>
            rw [hw, Bool.false_and] at hro
            rw [hro] at q
            exact iteF (q _ (s1.trans sm))
          | true =>
            rw [hw, Bool.true_and] at hro
            refine iteT ?_
            have s2 := s1.trans sm
            refine ⟨_, rfl, a, xs, rfl, S1 s2, fun J S LS sJ D2 hD2 => lc_J LS (fun i H' => Same H2 H' ∧ H' D2 = some (.lst (((ds.take i).map fun e => (strD e).length == (strD (ds.getD 0 .none)).length).map V.bl))) ⟨same_upd hD2, upd_same⟩ (fun i H' _ h => LS.mono _ _ h.1 sJ) ?_ ?_⟩
            · rintro i x H' hi ⟨sm, eD⟩
              obtain ⟨e, he, dx⟩ := DpAll.get' hD hi
              have hi' := (List.getElem?_eq_some_iff.mp he).1
              have we : isW e = true := List.all_eq_true.mp hw e (List.mem_of_getElem? he)
              have hx := dp_str dx we
              subst hx
              obtain ⟨e0, he0⟩ : ∃ e0, ds[0]? = some e0 := ⟨ds[0]'(by omega), List.getElem?_eq_getElem (by omega)⟩
              have w0 : isW e0 = true := List.all_eq_true.mp hw e0 (List.mem_of_getElem? he0)
              obtain ⟨x0, hx0⟩ : ∃ x0, xs[0]? = some x0 := ⟨xs[0]'(by omega), List.getElem?_eq_getElem (by omega)⟩
              obtain ⟨e0', he0', dx0⟩ := DpAll.get' hD hx0
              rw [he0] at he0'
              cases he0'
              have hxx := dp_str dx0 w0
              subst hxx
              have sl : ∀ {d' : PyData}, isW d' = true → d' ∈ ds → (strD d').length ≤ 16777216 := fun {d'} hw' hm => by
                cases d' with
                | str z => exact Nat.le_trans (e3 z hm) (by decide)
                | none => cases hw'
                | bool b => cases hw'
                | int i => cases hw'
                | list ds => cases hw'
                | tuple ds => cases hw'
                | dict ds => cases hw'
              have g0 : atI xs 0 = some (.str (strD e0)) := atI_nat (j := 0) hx0
              refine ⟨rfl, ?_⟩
              refine tyes ?_
              have hix : ∀ {Q : VK}, Q (.str (strD e0)) H' → rIx K (.ref a) (.int 0) H' Q := fun {Q} hq => by
                rcases S1 (s2.trans sm) with z | z
                · exact .inl ⟨a, _, _, _, rfl, rfl, z, g0, hq⟩
                · exact .inr (.inl ⟨a, _, _, _, rfl, rfl, z, g0, hq⟩)
              refine ⟨_, rfl, strD e, rfl, szle (sl we (List.mem_of_getElem? he)), _, rfl, hix ⟨strD e0, rfl, szle (sl w0 (List.mem_of_getElem? he0)), ?_⟩⟩
              refine ⟨rfl, _, eD, szl (by rw [List.length_map, List.length_map, List.length_take]; omega), same_out sm hD2, ?_⟩
              rw [upd_same, List.take_succ, he, List.map_append, List.map_append, List.getD_eq_getElem?_getD, he0]
              refine congrArg (fun z => some (HO.lst (_ ++ [V.bl z]))) ?_
              show decide (V.int _ = V.int _) = ((strD e).length == (strD e0).length)
              rw [Bool.eq_iff_iff]
              simp
              omega
            · rintro H3 ⟨sm3, eD3⟩
              rw [List.take_of_length_le (by omega)] at eD3
              refine ⟨D2, _, rfl, SqL.of eD3, ?_⟩
              rw [List.all_map]
              rw [hro] at q
              exact q _ (s2.trans sm3)
    · rw [e1]
      rw [e2] at q
      exact iteT (q _ s1)
def spCheckRows (K : PySem.W.Frag) (CR : Addr) : Sp := fun vs H Q E => ∃ v d n, vs = [v] ∧ Dp K H v d ∧ okD n d = true ∧ shortD d ∧ ((rowsD d = true ∧ ∀ H', Same H H' → Q .non H') ∨ (rowsD d = false ∧ ∀ H' dd, Same H H' → H' dd = some (.xd [("rows", v)]) → E (.ref CR) (some dd) H'))
theorem ok_check_rows {f : Addr} {fd : FuncData} (F : Fun K "check_rows" "check_rows" s_check_rows f fd) (T : Txt K mg C_Share C_Writers C_Keeper C_Breaker) (x_InvalidRows : XErr P K mg "InvalidRows" C_InvalidRows ["rows"]) (c_are_rows : Cal P w K mg base 2 "_are_rows" (spAreRows K)) : FnOk P w K mg base (L2N.CX P w) 3 f fd ["rows"] (spCheckRows K C_InvalidRows) := by
  refine Fun_okN F sc_check_rows (fun vs H Q E h => ?_) (fun cdv A outer s H vs Q E hr h => ?_)
  · obtain ⟨v, d, n, rfl, _⟩ := h
    rfl
  · obtain ⟨v, d, n, rfl, hv, hok, hsh, q⟩ := h
    refine ⟨_, (pss_one (ps_if (pt_not (pt_val (pe_c c_are_rows hr (by omega) (by rfl) (pa_cons (pv 0) pa_nil))))
      (pss_one (ps_raiseX rfl x_InvalidRows hr (L2N.takes_of rfl rfl rfl rfl) (pa_cons (pv 0) pa_nil)))
      pss_nil)), ?_⟩
    refine ⟨_, rfl, v, d, n, rfl, hv, hok, hsh, fun H1 s1 => ⟨_, rfl, ?_⟩⟩
    rcases q with ⟨hr, q⟩ | ⟨hr, q⟩
    · rw [hr]
      exact iteF (q _ s1)
    · rw [hr]
      exact iteT ⟨_, rfl, rfl, fun dd hd => q _ dd (s1.trans (same_upd hd)) upd_same⟩
def lenD : PyData → Nat
  | .list ds => ds.length
  | .tuple ds => ds.length
  | _ => 0
/-- budgets for rows: refused unless a sequence of as many numbers -/
def spCheckOf (K : PySem.W.Frag) (CB : Addr) : Sp := fun vs H Q E => ∃ (r : Addr) (xs : List V) (v : V) (d : PyData) (n : Nat), vs = [.ref r, v] ∧ (SqL K H r xs ∨ SqT K H r xs) ∧ Dp K H v d ∧ okD n d = true ∧ ((rowD d = true ∧ lenD d = xs.length ∧ ∀ H', Same H H' → Q .non H') ∨ (¬ (rowD d = true ∧ lenD d = xs.length) ∧ ∀ H' dd, Same H H' → H' dd = some (.xd [("budgets", v)]) → E (.ref CB) (some dd) H'))
theorem row_seq {K : PySem.W.Frag} {H : Hp} {v : V} {d : PyData} (hv : Dp K H v d) (hr : rowD d = true) : ∃ a xs, v = .ref a ∧ (SqL K H a xs ∨ SqT K H a xs) ∧ xs.length = lenD d := by
  cases d with
  | none => cases hr
  | bool b => cases hr
  | int b => cases hr
  | str b => cases hr
  | dict b => cases hr
  | list ds =>
    cases hv with
    | lst sx ax => exact ⟨_, _, rfl, .inl sx, DpAll.len ax⟩
  | tuple ds =>
    cases hv with
    | tup sx ax => exact ⟨_, _, rfl, .inr sx, DpAll.len ax⟩
theorem ok_check_budgets_of {f : Addr} {fd : FuncData} {C_InvalidBudgets : Addr} (F : Fun K "check_budgets_of" "check_budgets_of" s_check_budgets_of f fd) (T : Txt K mg C_Share C_Writers C_Keeper C_Breaker) (x_InvalidBudgets : XErr P K mg "InvalidBudgets" C_InvalidBudgets ["budgets"]) (c_are_numbers : Cal P w K mg base 3 "are_numbers" (spRow K)) : FnOk P w K mg base (L2N.CX P w) 4 f fd ["rows", "budgets"] (spCheckOf K C_InvalidBudgets) := by
  refine Fun_okN F sc_check_budgets_of (fun vs H Q E h => ?_) (fun cdv A outer s H vs Q E hr h => ?_)
  · obtain ⟨r, xs, v, d, n, rfl, _⟩ := h
    rfl
  · obtain ⟨r, xs, v, d, n, rfl, hS, hv, hok, q⟩ := h
    refine ⟨_, (pss_one (ps_if (PW.pt (pw_or (pt_not (pt_val (pe_c c_are_numbers hr (by omega) (by rfl) (pa_cons (pv 1) pa_nil)))) (pw_or1 (pt_cmpR op_ne (pe_callB call_len_seq (by rfl) T.b_len (by decide +kernel) (pa_cons (pv 1) pa_nil)) (pe_callB call_len_seq (by rfl) T.b_len (by decide +kernel) (pa_cons (pv 0) pa_nil)) (nomark _)))))
      (pss_one (ps_raiseX rfl x_InvalidBudgets hr (L2N.takes_of rfl rfl rfl rfl) (pa_cons (pv 1) pa_nil)))
      pss_nil)), ?_⟩
    refine ⟨_, rfl, v, d, n, rfl, hv, hok, fun H1 s1 => ⟨_, rfl, ?_⟩⟩
    cases hrd : rowD d with
    | false =>
      rcases q with ⟨hr, _, q⟩ | ⟨hr, q⟩
      · rw [hrd] at hr
        cases hr
      · exact iteT ⟨_, rfl, rfl, fun dd hd => q _ dd (s1.trans (same_upd hd)) upd_same⟩
    | true =>
      obtain ⟨a, ys, rfl, hY, hl⟩ := row_seq hv hrd
      refine iteF ?_
      refine ⟨_, rfl, a, ys, rfl, hY.imp (fun z => s1.seq z) (fun z => sameT s1 z), _, rfl, r, xs, rfl, hS.imp (fun z => s1.seq z) (fun z => sameT s1 z), rfl, _, rfl, ?_⟩
      rcases q with ⟨hr, hl2, q⟩ | ⟨hr, q⟩
      · refine ite2 (fun h => absurd h (by show ¬ (!decide (V.int (ys.length : Int) = V.int (xs.length : Int))) = true; rw [hl, hl2, decide_eq_true rfl]; decide)) (fun _ => q _ s1)
      · refine ite2 (fun _ => ⟨_, rfl, rfl, fun dd hd => q _ dd (s1.trans (same_upd hd)) upd_same⟩) (fun h => ?_)
        refine absurd ?_ hr
        refine ⟨hrd, ?_⟩
        have : ¬ (!decide (V.int (ys.length : Int) = V.int (xs.length : Int))) = true := h
        have e : V.int (ys.length : Int) = V.int (xs.length : Int) := by
          refine Classical.byContradiction fun z => this ?_
          rw [decide_eq_false z]
          rfl
        have := V.int.inj e
        omega
end

/-! ### Writers: rows with flips -/
structure WrC (K : PySem.W.Frag) (C : Addr) : Prop where
  ins : C8.InsC K C
  nr : NoAttr K C "rows"
  nf : NoAttr K C "flips"
  nl : NoAttr K C "length"
def wfz (p1 p2 : Addr) (n : Nat) : List (Str × V) := [("rows", .ref p1), ("flips", .ref p2), ("length", .int (n : Int))]
theorem wfz_r {p1 p2 : Addr} {n : Nat} : List.lookup ("rows" : Str) (wfz p1 p2 n) = some (V.ref p1) := rfl
theorem wfz_f {p1 p2 : Addr} {n : Nat} : List.lookup ("flips" : Str) (wfz p1 p2 n) = some (V.ref p2) := rfl
theorem wfz_l {p1 p2 : Addr} {n : Nat} : List.lookup ("length" : Str) (wfz p1 p2 n) = some (V.int (n : Int)) := rfl
def Wr (K : PySem.W.Frag) (C : Addr) (H : Hp) (x : Addr) (rows : List Str) (fl : List Nat) (n : Nat) : Prop := ∃ dx p1 p2, H x = some (.ins C dx (wfz p1 p2 n)) ∧ SqT K H p1 (rows.map V.str) ∧ SqT K H p2 (fl.map nI)
theorem Wr.mono {K : PySem.W.Frag} {C : Addr} {H H' : Hp} {x : Addr} {rows : List Str} {fl : List Nat} {n : Nat} (h : Wr K C H x rows fl n) (s : Same H H') : Wr K C H' x rows fl n := by
  obtain ⟨dx, p1, p2, h1, h2, h3⟩ := h
  exact ⟨dx, p1, p2, s _ _ h1, sameT s h2, sameT s h3⟩
def misN (w r : Str) (i : Nat) : Nat := (((w.cps.toList.zip r.cps.toList).take i).filter fun p => p.1 != p.2).length
def livL (rows : List Str) (fl : List Nat) (n : Nat) (w : Str) : List Nat := if n < w.length then [] else (List.range rows.length).filter fun k => misL w (rows.getD k "") ≤ fl.getD k 0
def spWInit (K : PySem.W.Frag) (C : Addr) : Sp := fun vs H Q _ => ∃ (x dx r f : Addr) (rows : List Str) (fl : List Nat) (z : Str), vs = [.ref x, .ref r, .ref f] ∧ H x = some (.ins C dx []) ∧ (SqL K H r (rows.map V.str) ∨ SqT K H r (rows.map V.str)) ∧ (SqL K H f (fl.map nI) ∨ SqT K H f (fl.map nI)) ∧ rows[0]? = some z ∧ z.length ≤ 100000 ∧
  ∀ H' p1 p2, Same (upd H x (.ins C dx (wfz p1 p2 z.length))) H' → SqT K H' p1 (rows.map V.str) → SqT K H' p2 (fl.map nI) → Q .non H'
def spFL (K : PySem.W.Frag) (C : Addr) : Sp := fun vs H Q _ => ∃ (x : Addr) (k : Nat) (w : Str) (rows : List Str) (fl : List Nat) (n : Nat), vs = [.ref x, .int k, .str w] ∧ Wr K C H x rows fl n ∧ k < rows.length ∧ k < fl.length ∧ w.length ≤ 100000 ∧ ∀ H', Same H H' → Q (.int ((fl.getD k 0 : Nat) - (misL w (rows.getD k "") : Nat))) H'
def spLiv (K : PySem.W.Frag) (C : Addr) : Sp := fun vs H Q _ => ∃ (x : Addr) (w : Str) (rows : List Str) (fl : List Nat) (n : Nat), vs = [.ref x, .str w] ∧ Wr K C H x rows fl n ∧ rows.length ≤ fl.length ∧ rows.length ≤ 100000 ∧ w.length ≤ 100000 ∧ ∀ H' p, Same H H' → H p = none → H' p = some (.tup ((livL rows fl n w).map nI)) → Q (.ref p) H'
def spWF (K : PySem.W.Frag) (C : Addr) : Sp := fun vs H Q _ => ∃ (r : Addr) (rows : List Str) (z : Str), vs = [.ref r] ∧ (SqL K H r (rows.map V.str) ∨ SqT K H r (rows.map V.str)) ∧ rows.length ≤ 100000 ∧ rows[0]? = some z ∧ z.length ≤ 100000 ∧ ∀ H' x, Same H H' → H x = none → Wr K C H' x rows (List.replicate rows.length 0) z.length → Q (.ref x) H'
section
variable {P : Program} {w : World} {K : PySem.W.Frag} {mg : Str → Option Value} {base : Heap} {C_Share C_Writers C_Keeper C_Breaker : Addr}
theorem ok_Writers___init__ {f : Addr} {fd : FuncData} (F : Fun K "__init__" "Writers.__init__" s_Writers___init__ f fd) (T : Txt K mg C_Share C_Writers C_Keeper C_Breaker) (c : WrC K C_Writers) : FnOk P w K mg base CX0 1 f fd ["self", "rows", "flips"] (spWInit K C_Writers) := by
  refine F.ok sc_Writers___init__ (fun vs H Q E h => ?_) (fun cdv A outer s H vs Q E hr h => ?_)
  · obtain ⟨x, dx, r, fa, rows, fl, z, rfl, _⟩ := h
    rfl
  · obtain ⟨x, dx, r, fa, rows, fl, z, rfl, hx, hR, hF, hz, hzl, q⟩ := h
    refine ⟨_, (C8.pss_cut (ps_fld (pv 0) (pe_callTy call_tuple_of (by rfl) T.b_tuple (by decide +kernel) (pa_cons (pv 1) pa_nil)) rfl)
    (C8.pss_cut (ps_fld (pv 0) (pe_callTy call_tuple_of (by rfl) T.b_tuple (by decide +kernel) (pa_cons (pv 2) pa_nil)) rfl)
    (pss_one (ps_fld (pv 0) (pe_callB call_len_str (by rfl) T.b_len PySem.boot_len (pa_cons (pe_ix ix_seq (pv 1) pe_int (fun _ _ => rfl)) pa_nil)) rfl)))), ?_⟩
    refine ⟨fun σ H' => ∃ (H1 : Hp) (p1 : Addr), σ = [some (.ref x), some (.ref r), some (.ref fa)] ∧ Same H H1 ∧ SqT K H1 p1 (rows.map V.str) ∧ H' = upd H1 x (.ins C_Writers dx [("rows", .ref p1)]), ?_, ?_⟩
    · rcases hR with h | h
      · exact ⟨_, rfl, r, _, rfl, .inl ⟨h, fun p hp => ⟨_, rfl, x, _, dx, _, rfl, same_upd hp _ _ hx, c.ins.cl, c.nr, by decide, _, p, rfl, same_upd hp, SqT.of upd_same, rfl⟩⟩⟩
      · exact ⟨_, rfl, r, _, rfl, .inr ⟨h, _, rfl, x, _, dx, _, rfl, hx, c.ins.cl, c.nr, by decide, _, r, rfl, fun _ _ e => e, h, rfl⟩⟩
    rintro σ H' ⟨H1, p1, rfl, s1, e1, rfl⟩
    have hx1 := s1 _ _ hx
    have hF1 : SqL K (upd H1 x (.ins C_Writers dx [("rows", .ref p1)])) fa (fl.map nI) ∨ SqT K (upd H1 x (.ins C_Writers dx [("rows", .ref p1)])) fa (fl.map nI) := hF.imp (fun h => SqL.offI (s1.seq h) hx1) (fun h => SqT.offI (sameT s1 h) hx1)
    have hx1' := upd_same (H := H1) (a := x) (o := .ins C_Writers dx [("rows", .ref p1)])
    refine ⟨fun σ H' => ∃ (H2 : Hp) (p2 : Addr), σ = [some (.ref x), some (.ref r), some (.ref fa)] ∧ Same (upd H1 x (.ins C_Writers dx [("rows", .ref p1)])) H2 ∧ SqT K H2 p2 (fl.map nI) ∧ H' = upd H2 x (.ins C_Writers dx [("rows", .ref p1), ("flips", .ref p2)]), ?_, ?_⟩
    · rcases hF1 with h | h
      · exact ⟨_, rfl, fa, _, rfl, .inl ⟨h, fun p hp => ⟨_, rfl, x, _, dx, _, rfl, same_upd hp _ _ hx1', c.ins.cl, c.nf, by show 1 < 1000; decide, _, p, rfl, same_upd hp, SqT.of upd_same, rfl⟩⟩⟩
      · exact ⟨_, rfl, fa, _, rfl, .inr ⟨h, _, rfl, x, _, dx, _, rfl, hx1', c.ins.cl, c.nf, by show 1 < 1000; decide, _, fa, rfl, fun _ _ e => e, h, rfl⟩⟩
    rintro σ H' ⟨H2, p2, rfl, s2, e2, rfl⟩
    have hx2 := s2 _ _ hx1'
    have hx3 := upd_same (H := H2) (a := x) (o := .ins C_Writers dx [("rows", .ref p1), ("flips", .ref p2)])
    have hR3 : SqL K (upd H2 x (.ins C_Writers dx [("rows", .ref p1), ("flips", .ref p2)])) r (rows.map V.str) ∨ SqT K (upd H2 x (.ins C_Writers dx [("rows", .ref p1), ("flips", .ref p2)])) r (rows.map V.str) := hR.imp (fun h => SqL.offI (s2.seq (SqL.offI (s1.seq h) hx1)) hx2) (fun h => SqT.offI (sameT s2 (SqT.offI (sameT s1 h) hx1)) hx2)
    have g0 : atI (rows.map V.str) 0 = some (.str z) := atI_nat (j := 0) (by rw [List.getElem?_map, hz]; rfl)
    have hix : ∀ {Q : VK}, Q (.str z) (upd H2 x (.ins C_Writers dx [("rows", .ref p1), ("flips", .ref p2)])) → rIx K (.ref r) (.int 0) (upd H2 x (.ins C_Writers dx [("rows", .ref p1), ("flips", .ref p2)])) Q := fun {Q} hq => by
      rcases hR3 with h | h
      · exact .inl ⟨r, _, _, _, rfl, rfl, h, g0, hq⟩
      · exact .inr (.inl ⟨r, _, _, _, rfl, rfl, h, g0, hq⟩)
    refine ⟨_, rfl, hix ⟨z, rfl, szle (Nat.le_trans hzl (by decide)), ?_⟩⟩
    refine ⟨_, rfl, x, _, dx, _, rfl, hx3, c.ins.cl, c.nl, by show 2 < 1000; decide, ?_⟩
    refine (show Q .non (upd (upd H2 x (.ins C_Writers dx [("rows", .ref p1), ("flips", .ref p2)])) x (.ins C_Writers dx (wfz p1 p2 z.length))) from ?_)
    have e1' := SqT.offI (o := .ins C_Writers dx [("rows", .ref p1), ("flips", .ref p2)]) (sameT s2 (SqT.offI (o := .ins C_Writers dx [("rows", .ref p1)]) e1 hx1)) hx2
    have e2' := SqT.offI (o := .ins C_Writers dx [("rows", .ref p1), ("flips", .ref p2)]) e2 hx2
    refine q _ p1 p2 ?_ (SqT.offI e1' hx3) (SqT.offI e2' hx3)
    have t1 : Same (upd H x (.ins C_Writers dx (wfz p1 p2 z.length))) (upd H1 x (.ins C_Writers dx (wfz p1 p2 z.length))) := same_set s1
    have t2 : Same (upd (upd H1 x (.ins C_Writers dx [("rows", .ref p1)])) x (.ins C_Writers dx (wfz p1 p2 z.length))) (upd H2 x (.ins C_Writers dx (wfz p1 p2 z.length))) := same_set s2
    rw [upd_upd] at t2
    rw [upd_upd]
    exact t1.trans t2
theorem misN_all (w r : Str) : misN w r (min (sgnsV w).length (sgnsV r).length) = misL w r := by
  unfold misN misL sgnsV
  rw [List.take_of_length_le (by rw [List.length_zip, List.length_map, List.length_map]; exact Nat.le_refl _)]
theorem misN_step {w r : Str} {i c d : Nat} (hc : w.cps.toList[i]? = some c) (hd : r.cps.toList[i]? = some d) : misN w r (i + 1) = misN w r i + (if c != d then 1 else 0) := by
  unfold misN
  have e : (w.cps.toList.zip r.cps.toList)[i]? = some (c, d) := by
    rw [List.getElem?_zip_eq_some]
    exact ⟨hc, hd⟩
  rw [List.take_succ, e, List.filter_append, List.length_append]
  congr 1
  cases h : (c != d) with
  | true => simp [h]
  | false => simp [h]
theorem sign_get {z : Str} {i : Nat} {x : V} (h : (sgnsV z)[i]? = some x) : ∃ c, z.cps.toList[i]? = some c ∧ x = .str ⟨#[c]⟩ := by
  unfold sgnsV at h
  rw [List.getElem?_map] at h
  cases e : z.cps.toList[i]? with
  | none => rw [e] at h; cases h
  | some c => rw [e] at h; exact ⟨c, rfl, (Option.some.inj h).symm⟩
theorem ok_Writers_flips_left {f : Addr} {fd : FuncData} (F : Fun K "flips_left" "Writers.flips_left" s_Writers_flips_left f fd) (T : Txt K mg C_Share C_Writers C_Keeper C_Breaker) (c : WrC K C_Writers) : FnOk P w K mg base CX0 1 f fd ["self", "program", "word"] (spFL K C_Writers) := by
  refine F.ok sc_Writers_flips_left (fun vs H Q E h => ?_) (fun cdv A outer s H vs Q E hr h => ?_)
  · obtain ⟨x, k, wd, rows, fl, n, rfl, _⟩ := h
    rfl
  · obtain ⟨x, k, wd, rows, fl, n, rfl, ⟨dx, p1, p2, hx, hR, hF⟩, hk, hk2, hwl, q⟩ := h
    refine ⟨_, (pss_cons (ps_set (i := 3) sc_Writers_flips_left.nd rfl (by first | exact Or.inl rfl | exact Or.inr rfl) (pe_ix ix_tup (pe_fld (pv 0) rfl) (pv 1) (fun _ _ => rfl)))
    (pss_one (ps_ret (pe_op op_sub (pe_ix ix_tup (pe_fld (pv 0) rfl) (pv 1) (fun _ _ => rfl)) (pe_callB call_len_seq (by rfl) T.b_len PySem.boot_len (pa_cons (pe_lc (own := [("told", 4), ("own", 5)]) rfl sc_Writers_flips_left.nd (pi_zipJ (by rfl) T.b_zip (pa_cons (pv 2) (pa_cons (pv 3) pa_nil))) (blkOk_by (own := [("told", 4), ("own", 5)]) (N := ["self", "program", "word", "row", "told", "own"]) (sc := defScope s_Writers_flips_left) (by decide +kernel)) (fun _ _ _ _ _ => (pg_two K (i := 4) (j := 5) sc_Writers_flips_left.nd rfl rfl)) (fun _ _ _ _ _ => (pts_one (pt_cmpR op_ne (pv 4) (pv 5) (nomark _)))) (fun _ _ _ _ _ => pe_int)) pa_nil)))))), ?_⟩
    have g1 : atI (rows.map V.str) (k : Int) = some (.str (rows.getD k "")) := atI_nat (j := k) (by rw [List.getElem?_map, List.getD_eq_getElem?_getD, List.getElem?_eq_getElem hk]; rfl)
    have g2 : atI (fl.map nI) (k : Int) = some (.int (fl.getD k 0 : Nat)) := at_num hk2
    refine ⟨_, rfl, x, C_Writers, dx, _, _, rfl, hx, c.ins.cl, c.nr, wfz_r, _, rfl, p1, _, _, _, rfl, rfl, hR, g1, ?_⟩
    generalize rows.getD k "" = row at g1 q
    refine ⟨_, rfl, x, C_Writers, dx, _, _, rfl, hx, c.ins.cl, c.nf, wfz_f, _, rfl, p2, _, _, _, rfl, rfl, hF, g2, ?_⟩
    refine ⟨_, rfl, _, rfl, .txt wd, .txt row, sgnsV wd, sgnsV row, rfl, rfl, rfl, fun J S LS sJ D hD => lc_zipJ LS rfl (fun i H' => Same H H' ∧ H' D = some (.lst (List.replicate (misN wd row i) (V.int 1)))) ⟨same_upd hD, upd_same⟩ (fun i H' _ h => LS.mono _ _ h.1 sJ) ?_ ?_⟩
    · rintro i y1 y2 H' h1 h2 ⟨sm, eD⟩ t ht
      obtain ⟨c1, hc1, rfl⟩ := sign_get h1
      obtain ⟨c2, hc2, rfl⟩ := sign_get h2
      have st := misN_step hc1 hc2
      have sm2 : Same H (upd H' t (.tup [.str ⟨#[c1]⟩, .str ⟨#[c2]⟩])) := sm.trans (same_upd ht)
      have eD2 := same_upd (o := .tup [.str ⟨#[c1]⟩, .str ⟨#[c2]⟩]) ht _ _ eD
      have hi : i < wd.length := by
        have := (List.getElem?_eq_some_iff.mp hc1).1
        simpa [Str.length] using this
      have ml : misN wd row i ≤ i := by
        unfold misN
        refine Nat.le_trans (List.length_filter_le _ _) ?_
        rw [List.length_take]
        omega
      refine ⟨t, _, rfl, SqT.of upd_same, rfl, _, _, rfl, _, _, rfl, rfl, rfl, ?_⟩
      refine ⟨_, rfl, _, rfl, rfl, _, rfl, ite2 (fun h => ?_) (fun h => ?_)⟩
      · have hne : (c1 != c2) = true := by
          by_cases e : c1 = c2
          · subst e
            exact absurd h (by show ¬ (!decide (V.str ⟨#[c1]⟩ = V.str ⟨#[c1]⟩)) = true; rw [decide_eq_true rfl]; decide)
          · simpa using e
        rw [hne, if_pos rfl] at st
        refine ⟨_, eD2, szl (by rw [List.length_replicate]; omega), same_out sm2 hD, ?_⟩
        rw [upd_same, st, List.replicate_succ']
      · have heq : (c1 != c2) = false := by
          by_cases e : c1 = c2
          · subst e
            simp
          · refine absurd ?_ h
            show (!decide (V.str ⟨#[c1]⟩ = V.str ⟨#[c2]⟩)) = true
            rw [decide_eq_false (fun z => e (by have := congrArg (fun a : Array Nat => a[0]?) (congrArg Str.cps (V.str.inj z)); simpa using this))]
            rfl
        rw [heq] at st
        refine ⟨sm2, ?_⟩
        rw [st]
        exact eD2
    · rintro H' ⟨sm, eD⟩
      rw [misN_all] at eD
      refine ⟨D, _, rfl, .inl (SqL.of eD), _, _, rfl, rfl, ?_⟩
      rw [List.length_replicate]
      exact q _ sm
theorem ok_Writers_living_at {f : Addr} {fd : FuncData} (F : Fun K "living_at" "Writers.living_at" s_Writers_living_at f fd) (T : Txt K mg C_Share C_Writers C_Keeper C_Breaker) (c : WrC K C_Writers) (c_Writers_flips_left : Met P w K mg base 1 C_Writers "flips_left" (spFL K C_Writers)) : FnOk P w K mg base CX0 2 f fd ["self", "word"] (spLiv K C_Writers) := by
  refine F.ok sc_Writers_living_at (fun vs H Q E h => ?_) (fun cdv A outer s H vs Q E hr h => ?_)
  · obtain ⟨x, wd, rows, fl, n, rfl, _⟩ := h
    rfl
  · obtain ⟨x, wd, rows, fl, n, rfl, hW, hl, hl2, hwl, q⟩ := h
    refine ⟨_, (pss_cons (ps_if (pt_cmpR op_gt (pe_callB call_len_str (by rfl) T.b_len PySem.boot_len (pa_cons (pv 1) pa_nil)) (pe_fld (pv 0) rfl) (nomark _))
      (pss_one (ps_ret (pe_tup pa_nil)))
      pss_nil)
    (pss_one (ps_ret (pe_callTy call_tuple_of (by rfl) T.b_tuple (by decide +kernel) (pa_cons (pe_lc (own := [("k", 2)]) rfl sc_Writers_living_at.nd (pi_range1 (by rfl) T.b_range (pa_cons (pe_callB call_len_seq (by rfl) T.b_len (by decide +kernel) (pa_cons (pe_fld (pv 0) rfl) pa_nil)) pa_nil)) (blkOk_by (own := [("k", 2)]) (N := ["self", "word", "k"]) (sc := defScope s_Writers_living_at) (by decide +kernel)) (fun _ _ _ _ _ => (pg_name (i := 2) sc_Writers_living_at.nd rfl (by first | exact Or.inl rfl | exact Or.inr rfl))) (fun _ _ _ _ _ => (pts_one (pt_cmpR op_ge (pe_mt c_Writers_flips_left hr (by omega) (pv 0) (pa_cons (pv 2) (pa_cons (pv 1) pa_nil))) pe_int (nomark _)))) (fun _ _ _ _ _ => (pv 2))) pa_nil))))), ?_⟩
    have hW' := hW
    obtain ⟨dx, p1, p2, hx, hR, hF⟩ := hW'
    refine ⟨_, rfl, wd, rfl, szle (Nat.le_trans hwl (by decide)), _, rfl, x, C_Writers, dx, _, _, rfl, hx, c.ins.cl, c.nl, wfz_l, _, _, rfl, rfl, _, rfl, ite2 (fun h => ?_) (fun h => ?_)⟩
    · have h1 : n < wd.length := by
        have := of_decide_eq_true h
        omega
      refine ⟨Nat.zero_le _, fun p hp => q _ p (same_upd hp) hp ?_⟩
      unfold livL
      rw [if_pos h1, upd_same]
      rfl
    · have h1 : ¬ n < wd.length := fun z => h (decide_eq_true (by show (n : Int) < (wd.length : Int); omega))
      refine ⟨_, rfl, x, C_Writers, dx, _, _, rfl, hx, c.ins.cl, c.nr, wfz_r, p1, _, rfl, .inr hR, ((rows.length : Nat) : Int), by rw [List.length_map], by omega, by omega, fun D hD => lc_range (lo := 0) (n := rows.length) (fun i H' => Same H H' ∧ H' D = some (.lst (((List.range i).filter fun k => misL wd (rows.getD k "") ≤ fl.getD k 0).map nI))) ⟨same_upd hD, upd_same⟩ ?_ ?_⟩
      · rintro i H' hi ⟨sm, eD⟩
        have z : (0 : Int) + (i : Int) = (i : Int) := Int.zero_add _
        have hfl := filt_step (fun k => decide (misL wd (rows.getD k "") ≤ fl.getD k 0)) i
        refine ⟨rfl, ?_⟩
        refine ⟨_, rfl, x, dx, _, rfl, sm _ _ hx, rfl, _, rfl, _, rfl, x, i, wd, rows, fl, n, by rw [z]; rfl, hW.mono sm, hi, by omega, hwl, fun H4 s4 => ?_⟩
        refine ⟨_, _, rfl, rfl, _, rfl, ite2 (fun h2 => ?_) (fun h2 => ?_)⟩
        · have h3 : misL wd (rows.getD i "") ≤ fl.getD i 0 := by
            have := of_decide_eq_true h2
            omega
          rw [if_pos (decide_eq_true h3)] at hfl
          have ln : ((List.range i).filter fun k => decide (misL wd (rows.getD k "") ≤ fl.getD k 0)).length ≤ i := by
            have := List.length_filter_le (fun k => decide (misL wd (rows.getD k "") ≤ fl.getD k 0)) (List.range i)
            rwa [List.length_range] at this
          refine ⟨_, rfl, _, s4 _ _ eD, szl (by rw [List.length_map]; omega), same_out (sm.trans s4) hD, ?_⟩
          rw [upd_same, hfl, List.map_append]
          show some (HO.lst (_ ++ [V.int (0 + (i : Int))])) = _
          rw [z]
          rfl
        · have h3 : ¬ misL wd (rows.getD i "") ≤ fl.getD i 0 := fun w => h2 (decide_eq_true (by show (0 : Int) ≤ ((fl.getD i 0 : Nat) : Int) - ((misL wd (rows.getD i "") : Nat) : Int); omega))
          rw [if_neg (fun w => h3 (of_decide_eq_true w)), List.append_nil] at hfl
          rw [hfl]
          exact ⟨sm.trans s4, s4 _ _ eD⟩
      · rintro H' ⟨sm, eD⟩
        refine ⟨D, _, rfl, .inl ⟨SqL.of eD, fun p hp => q _ p (sm.trans (same_upd hp)) (sm.free hp) ?_⟩⟩
        unfold livL
        rw [if_neg h1, upd_same]
end

section
variable {P : Program} {w : World} {K : PySem.W.Frag} {mg : Str → Option Value} {base : Heap} {C_Share C_Writers C_Keeper C_Breaker : Addr}
theorem ok_without_flips {f : Addr} {fd : FuncData} (F : Fun K "without_flips" "without_flips" s_without_flips f fd) (T : Txt K mg C_Share C_Writers C_Keeper C_Breaker) (m_Writers : Mak P w K mg base 1 "Writers" C_Writers (spWInit K C_Writers)) : FnOk P w K mg base CX0 3 f fd ["rows"] (spWF K C_Writers) := by
  refine F.ok sc_without_flips (fun vs H Q E h => ?_) (fun cdv A outer s H vs Q E hr h => ?_)
  · obtain ⟨r, rows, z, rfl, _⟩ := h
    rfl
  · obtain ⟨r, rows, z, rfl, hR, hl, hz, hzl, q⟩ := h
    refine ⟨_, (pss_one (ps_ret (pe_mk m_Writers hr (by omega) (by rfl) (pa_cons (pv 0) (pa_cons (pe_op op_rep (pe_lst (pa_cons pe_int pa_nil)) (pe_callB call_len_seq (by rfl) T.b_len (by decide +kernel) (pa_cons (pv 0) pa_nil))) pa_nil))))), ?_⟩
    refine ⟨_, rfl, szle (by show 1 ≤ 16777216; decide), fun p0 hp0 => ?_⟩
    have s0 := same_upd (o := .lst [V.int 0]) hp0
    refine ⟨_, rfl, r, _, rfl, hR.imp (fun h => s0.seq h) (fun h => sameT s0 h), p0, _, _, rfl, rfl, upd_same, by rw [List.length_map]; omega, by rw [List.length_map]; omega, szle (by rw [List.length_map]; show 1 * rows.length ≤ 16777216; omega), fun p1 hp1 => ?_⟩
    have efl : (List.replicate (((rows.map V.str).length : Nat) : Int).toNat [V.int 0]).flatten = (List.replicate rows.length 0).map nI := by
      rw [List.length_map, Int.toNat_natCast]
      induction rows.length with
      | zero => rfl
      | succ k ih => rw [List.replicate_succ, List.flatten_cons, ih]; rfl
    refine fun x dx hx hdx hne => ?_
    have sp := (s0.trans (same_upd (o := .lst (List.replicate (((rows.map V.str).length : Nat) : Int).toNat [V.int 0]).flatten) hp1)).trans (same_ins (C := C_Writers) (fs := []) hx hdx hne)
    have sb := s0.trans (same_upd (o := .lst (List.replicate (((rows.map V.str).length : Nat) : Int).toNat [V.int 0]).flatten) hp1)
    have p1x : p1 ≠ x := fun e => by rw [← e, upd_same] at hx; cases hx
    have p1d : p1 ≠ dx := fun e => by rw [← e, upd_same] at hdx; cases hdx
    refine ⟨x, dx, r, p1, rows, List.replicate rows.length 0, z, rfl, upd_same, hR.imp (fun h => sp.seq h) (fun h => sameT sp h), .inl (SqL.of (by rw [upd_ne p1x, upd_ne p1d, upd_same, efl])), hz, hzl, fun H' q1 q2 sm f1 f2 => ⟨rfl, ?_⟩⟩
    have sH : Same H H' := (sb.trans (same_out (same_out (same_upd hdx) hx) hx)).trans sm
    exact q H' x sH (sb.free hx) ⟨dx, q1, q2, sm _ _ upd_same, f1, f2⟩
end

/-! ### bits -/
def isBitD : PyData → Bool
  | .int i => decide (0 ≤ i) && decide (i ≤ 1)
  | _ => false
def spCheckBit (K : PySem.W.Frag) (CN : Addr) : Sp := fun vs H Q E => ∃ v d, vs = [v] ∧ Dp K H v d ∧ ((isBitD d = true ∧ Q .non H) ∨ (isBitD d = false ∧ ∀ H' dd, Same H H' → H' dd = some (.xd [("number", v)]) → E (.ref CN) (some dd) H'))
section
variable {P : Program} {w : World} {K : PySem.W.Frag} {mg : Str → Option Value} {base : Heap} {C_Share C_Writers C_Keeper C_Breaker : Addr} {C_InvalidNumber : Addr}
theorem ok_is_bit {f : Addr} {fd : FuncData} (F : Fun K "is_bit" "is_bit" s_is_bit f fd) (T : Txt K mg C_Share C_Writers C_Keeper C_Breaker) (c_is_integer : Cal P w K mg base 1 "is_integer" (spKind K isIntD)) : FnOk P w K mg base CX0 2 f fd ["value"] (spKind K isBitD) := by
  refine F.ok sc_is_bit (fun vs H Q E h => ?_) (fun cdv A outer s H vs Q E hr h => ?_)
  · obtain ⟨v, d, rfl, _⟩ := h
    rfl
  · obtain ⟨v, d, rfl, hv, q⟩ := h
    refine ⟨_, (pss_one (ps_ret (pe_and (pe_c c_is_integer hr (by omega) (by rfl) (pa_cons (pv 0) pa_nil)) (pe_one (pe_chain op_le op_le pe_int (pv 0) pe_int))))), ?_⟩
    cases d with
    | int z =>
      cases hv
      refine ⟨_, rfl, _, .int z, rfl, .int z, _, rfl, iteT ⟨_, rfl, _, _, rfl, rfl, _, rfl, ite2 (fun h => ?_) (fun h => ?_)⟩⟩
      · have h' : decide (0 ≤ z) = true := h
        refine ⟨_, _, rfl, rfl, ?_⟩
        have e : isBitD (.int z) = decide (z ≤ 1) := by show (decide (0 ≤ z) && decide (z ≤ 1)) = _; rw [h', Bool.true_and]
        rw [e] at q
        exact q
      · have h' : decide (0 ≤ z) = false := Bool.eq_false_iff.mpr h
        have e : isBitD (.int z) = false := by show (decide (0 ≤ z) && decide (z ≤ 1)) = _; rw [h', Bool.false_and]
        rw [e] at q
        exact q
    | dict ds => cases hv
    | _ => exact ⟨_, rfl, _, _, rfl, hv, _, rfl, iteF q⟩
theorem ok_check_bit {f : Addr} {fd : FuncData} (F : Fun K "check_bit" "check_bit" s_check_bit f fd) (T : Txt K mg C_Share C_Writers C_Keeper C_Breaker) (x_InvalidNumber : XErr P K mg "InvalidNumber" C_InvalidNumber ["number"]) (c_is_bit : Cal P w K mg base 2 "is_bit" (spKind K isBitD)) : FnOk P w K mg base (L2N.CX P w) 3 f fd ["bit"] (spCheckBit K C_InvalidNumber) := by
  refine Fun_okN F sc_check_bit (fun vs H Q E h => ?_) (fun cdv A outer s H vs Q E hr h => ?_)
  · obtain ⟨v, d, rfl, _⟩ := h
    rfl
  · obtain ⟨v, d, rfl, hv, q⟩ := h
    refine ⟨_, (pss_one (ps_if (pt_not (pt_val (pe_c c_is_bit hr (by omega) (by rfl) (pa_cons (pv 0) pa_nil))))
      (pss_one (ps_raiseX rfl x_InvalidNumber hr (L2N.takes_of rfl rfl rfl rfl) (pa_cons (pv 0) pa_nil)))
      pss_nil)), ?_⟩
    refine ⟨_, rfl, v, d, rfl, hv, _, rfl, ?_⟩
    rcases q with ⟨hr, q⟩ | ⟨hr, q⟩
    · rw [hr]
      exact iteF q
    · rw [hr]
      exact iteT ⟨_, rfl, rfl, fun dd hd => q _ dd (same_upd hd) upd_same⟩
end

/-! ### Keeper -/
structure KpC (K : PySem.W.Frag) (C : Addr) : Prop where
  ins : C8.InsC K C
  ns : NoAttr K C "seen"
  ne : NoAttr K C "errors"
  nw : NoAttr K C "_writers"
  nb : NoAttr K C "_budgets"
def kfz (seen : Str) (e : Int) (wr bu : Addr) : List (Str × V) := [("seen", .str seen), ("errors", .int e), ("_writers", .ref wr), ("_budgets", .ref bu)]
theorem kfz_s {seen : Str} {e : Int} {wr bu : Addr} : List.lookup ("seen" : Str) (kfz seen e wr bu) = some (V.str seen) := rfl
theorem kfz_e {seen : Str} {e : Int} {wr bu : Addr} : List.lookup ("errors" : Str) (kfz seen e wr bu) = some (V.int e) := rfl
theorem kfz_w {seen : Str} {e : Int} {wr bu : Addr} : List.lookup ("_writers" : Str) (kfz seen e wr bu) = some (V.ref wr) := rfl
theorem kfz_b {seen : Str} {e : Int} {wr bu : Addr} : List.lookup ("_budgets" : Str) (kfz seen e wr bu) = some (V.ref bu) := rfl
/-- the rows, the budgets, the length -/
structure Gm where
  rows : List Str
  bs : List Nat
  n : Nat
structure GmOk (g : Gm) : Prop where
  ne : 0 < g.rows.length
  len : g.rows.length ≤ 1000
  eq : g.bs.length = g.rows.length
  bl : ∀ b ∈ g.bs, b ≤ 1000
  rl : ∀ z ∈ g.rows, z.length = g.n
  rb : ∀ z ∈ g.rows, isB z = true
  nl : g.n ≤ 1000
def KpB (K : PySem.W.Frag) (CW : Addr) (H : Hp) (wr bu : Addr) (g : Gm) : Prop := Wr K CW H wr g.rows (List.replicate g.rows.length 0) g.n ∧ SqT K H bu (g.bs.map nI)
theorem KpB.mono {K : PySem.W.Frag} {CW : Addr} {H H' : Hp} {wr bu : Addr} {g : Gm} (h : KpB K CW H wr bu g) (s : Same H H') : KpB K CW H' wr bu g := ⟨h.1.mono s, sameT s h.2⟩
def livG (g : Gm) (w : Str) : List Nat := livL g.rows (List.replicate g.rows.length 0) g.n w
def wlG (g : Gm) (w : Str) : List Nat := (livG g w).map fun k => g.bs.getD k 0
def gssG (g : Gm) (seen : Str) : Nat := if hs LB (wlG g (seen ++ ("0" : Str))) < hs LB (wlG g (seen ++ ("1" : Str))) then 1 else 0
theorem livG_lt {g : Gm} {w : Str} : ∀ k ∈ livG g w, k < g.rows.length := fun k hk => by
  unfold livG livL at hk
  split at hk
  · cases hk
  · exact List.mem_range.mp (List.mem_filter.mp hk).1
theorem livG_len {g : Gm} {w : Str} : (livG g w).length ≤ g.rows.length := by
  unfold livG livL
  split
  · exact Nat.zero_le _
  · exact filt_le _ _
theorem wlG_le {g : Gm} (G : GmOk g) {w : Str} : ∀ b ∈ wlG g w, b ≤ 1000 := fun b hb => by
  obtain ⟨k, hk, rfl⟩ := List.mem_map.mp hb
  exact getD_le G.bl
theorem hs_le1 (L : Nat) : ∀ ls : List Nat, hs L ls ≤ ls.length * 2 ^ L
  | [] => Nat.zero_le _
  | b :: r => by
    have ih := hs_le1 L r
    have : 2 ^ (L - b) ≤ 2 ^ L := Nat.pow_le_pow_right (by decide) (Nat.sub_le _ _)
    show 2 ^ (L - b) + hs L r ≤ (r.length + 1) * 2 ^ L
    rw [Nat.add_mul, Nat.one_mul]
    omega
theorem red_lt {a b u : Nat} (hu : 0 < u) : decide (rOd (a : Int) (u : Int) * rUd (b : Int) (u : Int) < rOd (b : Int) (u : Int) * rUd (a : Int) (u : Int)) = decide (a < b) := by
  have p : (0 : Int) < (u : Int) := by omega
  obtain ⟨g, g0, e1, e2⟩ := red_ex (o := (a : Int)) p
  obtain ⟨h, h0, e3, e4⟩ := red_ex (o := (b : Int)) p
  have pa := rU_pos (o := (a : Int)) (show (u : Int) ≠ 0 by omega)
  have pb := rU_pos (o := (b : Int)) (show (u : Int) ≠ 0 by omega)
  rw [decide_eq_decide]
  have k : g * h * (rOd (a : Int) (u : Int) * rUd (b : Int) (u : Int)) = (a : Int) * u := by
    rw [Int.mul_assoc g h, Int.mul_left_comm h, ← Int.mul_assoc g, ← e1, ← e4]
  have k2 : g * h * (rOd (b : Int) (u : Int) * rUd (a : Int) (u : Int)) = (b : Int) * u := by
    rw [Int.mul_comm g h, Int.mul_assoc h g, Int.mul_left_comm g, ← Int.mul_assoc h, ← e3, ← e2]
  have gh : 0 < g * h := Int.mul_pos g0 h0
  constructor
  · intro z
    have := Int.mul_lt_mul_of_pos_left z gh
    rw [k, k2] at this
    have := Int.lt_of_mul_lt_mul_right this (Int.le_of_lt p)
    omega
  · intro z
    refine Int.lt_of_mul_lt_mul_left (a := g * h) ?_ (Int.le_of_lt gh)
    rw [k, k2]
    exact Int.mul_lt_mul_of_pos_right (by omega) p
theorem rows_dp {K : PySem.W.Frag} {H : Hp} {a : Addr} {g : Gm} (hS : SqL K H a (g.rows.map V.str) ∨ SqT K H a (g.rows.map V.str)) (G : GmOk g) :
    ∃ d, Dp K H (.ref a) d ∧ okD 2 d = true ∧ shortD d ∧ rowsD d = true := by
  have ok : ∀ e ∈ g.rows.map PyData.str, okD 1 e = true := fun e he => by
    obtain ⟨z, hz', rfl⟩ := List.mem_map.mp he
    rfl
  have al : (g.rows.map PyData.str).all isW = true := by
    rw [List.all_eq_true]
    intro e he
    obtain ⟨z, hz', rfl⟩ := List.mem_map.mp he
    exact G.rb z hz'
  have hlen := G.len
  have hnl := G.nl
  have sh : ∀ z, .str z ∈ g.rows.map PyData.str → z.length ≤ 100000 := fun z hz' => by
    obtain ⟨y, hy, e⟩ := List.mem_map.mp hz'
    have e' : y = z := PyData.str.inj e
    rw [← e', G.rl y hy]
    omega
  have okm := okD_mk (n := 1) (ds := g.rows.map PyData.str) (by rw [List.length_map]; omega) ok
  have ro : rowsOk (g.rows.map PyData.str) = true := by
    unfold rowsOk
    rw [al, Bool.true_and]
    have h0 := G.ne
    have ne : (g.rows.map PyData.str).isEmpty = false := by
      cases h : g.rows with
      | nil => rw [h] at h0; exact absurd h0 (by decide)
      | cons _ _ => rfl
    rw [ne]
    show (g.rows.map PyData.str).all _ = true
    rw [List.all_eq_true]
    intro e he
    obtain ⟨y, hy, rfl⟩ := List.mem_map.mp he
    have g0 : (g.rows.map PyData.str).getD 0 .none = .str (g.rows[0]'h0) := by rw [List.getD_eq_getElem?_getD, List.getElem?_map, List.getElem?_eq_getElem h0]; rfl
    rw [g0]
    show (y.length == (g.rows[0]'h0).length) = true
    rw [G.rl y hy, G.rl _ (List.getElem_mem h0)]
    simp
  have dps : ∀ ws : List Str, DpAll K H (ws.map V.str) (ws.map PyData.str) := fun ws => by
    induction ws with
    | nil => exact .nil
    | cons z r ih => exact .cons (.str z) ih
  rcases hS with h | h
  · exact ⟨.list _, .lst h (dps _), okm, sh, ro⟩
  · exact ⟨.tuple _, .tup h (dps _), okm, sh, ro⟩
theorem nums_dp2 {K : PySem.W.Frag} {H : Hp} {a : Addr} {ls : List Nat} (hS : SqL K H a (ls.map nI) ∨ SqT K H a (ls.map nI)) (hl : ls.length ≤ 100000) :
    ∃ d, Dp K H (.ref a) d ∧ okD 2 d = true ∧ rowD d = true ∧ lenD d = ls.length := by
  have al : (ndD ls).all isNumD = true := by
    rw [List.all_eq_true]
    intro d hd
    obtain ⟨n, _, rfl⟩ := List.mem_map.mp hd
    exact decide_eq_true (Int.natCast_nonneg n)
  have ok : ∀ e ∈ ndD ls, okD 1 e = true := fun e he => by
    obtain ⟨n, _, rfl⟩ := List.mem_map.mp he
    rfl
  have okm := okD_mk (n := 1) (ds := ndD ls) (by rw [ndD_len]; exact hl) ok
  rcases hS with h | h
  · exact ⟨.list (ndD ls), .lst h (dp_nd ls), okm, al, ndD_len ls⟩
  · exact ⟨.tuple (ndD ls), .tup h (dp_nd ls), okm, al, ndD_len ls⟩
def spKInit (K : PySem.W.Frag) (C CW : Addr) : Sp := fun vs H Q _ => ∃ (x dx r b : Addr) (g : Gm), vs = [.ref x, .ref r, .ref b] ∧ H x = some (.ins C dx []) ∧ (SqL K H r (g.rows.map V.str) ∨ SqT K H r (g.rows.map V.str)) ∧ (SqL K H b (g.bs.map nI) ∨ SqT K H b (g.bs.map nI)) ∧ GmOk g ∧
  ∀ H' wr bu, Same (upd H x (.ins C dx (kfz "" 0 wr bu))) H' → KpB K CW H' wr bu g → Q .non H'
def spKW (K : PySem.W.Frag) (C CW CS : Addr) : Sp := fun vs H Q _ => ∃ (x dx wr bu : Addr) (g : Gm) (seen sg : Str) (e : Int), vs = [.ref x, .str sg] ∧ H x = some (.ins C dx (kfz seen e wr bu)) ∧ KpB K CW H wr bu g ∧ GmOk g ∧ seen.length ≤ 1000 ∧ sg.length = 1 ∧ ∀ H' y, Same H H' → Sh CS H' y (rOd (hs LB (wlG g (seen ++ sg)) : Nat) (2 ^ LB)) (rUd (hs LB (wlG g (seen ++ sg)) : Nat) (2 ^ LB)) → Q (.ref y) H'
def spKG (K : PySem.W.Frag) (C CW : Addr) : Sp := fun vs H Q _ => ∃ (x dx wr bu : Addr) (g : Gm) (seen : Str) (e : Int), vs = [.ref x] ∧ H x = some (.ins C dx (kfz seen e wr bu)) ∧ KpB K CW H wr bu g ∧ GmOk g ∧ seen.length ≤ 1000 ∧ ∀ H', Same H H' → Q (.int (gssG g seen : Nat)) H'
def bitS : Nat → Str
  | 0 => "0"
  | _ => "1"
def spKT (K : PySem.W.Frag) (C CW : Addr) : Sp := fun vs H Q _ => ∃ (x dx wr bu : Addr) (g : Gm) (seen : Str) (e : Int) (b : Nat), vs = [.ref x, .int b] ∧ H x = some (.ins C dx (kfz seen e wr bu)) ∧ KpB K CW H wr bu g ∧ GmOk g ∧ seen.length < 1000 ∧ b ≤ 1 ∧ ∀ H', Same (upd H x (.ins C dx (kfz (seen ++ bitS b) (e + if gssG g seen = b then 0 else 1) wr bu))) H' → Q .non H'

section
variable {P : Program} {w : World} {K : PySem.W.Frag} {mg : Str → Option Value} {base : Heap} {C_Share C_Writers C_Keeper C_Breaker : Addr} {C_InvalidNumber C_InvalidRows C_InvalidBudgets : Addr}
theorem ok_Keeper__weight_of {f : Addr} {fd : FuncData} (F : Fun K "_weight_of" "Keeper._weight_of" s_Keeper__weight_of f fd) (T : Txt K mg C_Share C_Writers C_Keeper C_Breaker) (c : KpC K C_Keeper) (c_Writers_living_at : Met P w K mg base 2 C_Writers "living_at" (spLiv K C_Writers)) (c_sum_of_halves : Cal P w K mg base 3 "sum_of_halves" (spHalves K C_Share)) : FnOk P w K mg base CX0 4 f fd ["self", "sign"] (spKW K C_Keeper C_Writers C_Share) := by
  refine F.ok sc_Keeper__weight_of (fun vs H Q E h => ?_) (fun cdv A outer s H vs Q E hr h => ?_)
  · obtain ⟨x, dx, wr, bu, g, seen, sg, e, rfl, _⟩ := h
    rfl
  · obtain ⟨x, dx, wr, bu, g, seen, sg, e, rfl, hx, hB, G, hsl, hs1, q⟩ := h
    refine ⟨_, (pss_cons (ps_set (i := 2) sc_Keeper__weight_of.nd rfl (by first | exact Or.inl rfl | exact Or.inr rfl) (pe_mt c_Writers_living_at hr (by omega) (pe_fld (pv 0) rfl) (pa_cons (pe_op op_add_str (pe_fld (pv 0) rfl) (pv 1)) pa_nil)))
    (pss_one (ps_ret (pe_c c_sum_of_halves hr (by omega) (by rfl) (pa_cons (pe_lc (own := [("program", 3)]) rfl sc_Keeper__weight_of.nd (pi_tup (pv 2)) (blkOk_by (own := [("program", 3)]) (N := ["self", "sign", "writers", "program"]) (sc := defScope s_Keeper__weight_of) (by decide +kernel)) (fun _ _ _ _ _ => (pg_name (i := 3) sc_Keeper__weight_of.nd rfl (by first | exact Or.inl rfl | exact Or.inr rfl))) (fun _ _ _ _ _ => pts_nil) (fun _ _ _ _ _ => (pe_ix (show IxR _ (rIxT K) from ix_tup) (pe_fldC K (pv 0) rfl) (pv 3) (fun _ _ => rfl)))) pa_nil))))), ?_⟩
    have hBW := hB.1
    obtain ⟨dw, p1, p2, hw, _, _⟩ := hBW
    have lwd : (seen ++ sg).length = seen.length + 1 := by rw [len_app, hs1]
    refine ⟨_, rfl, x, C_Keeper, dx, _, _, rfl, hx, c.ins.cl, c.nw, kfz_w, wr, dw, _, rfl, hw, rfl, _, rfl, x, C_Keeper, dx, _, _, rfl, hx, c.ins.cl, c.ns, kfz_s, _, rfl, _, _, rfl, rfl, szle (by show seen.length + sg.length ≤ 16777216; omega), ?_⟩
    refine ⟨wr, seen ++ sg, g.rows, List.replicate g.rows.length 0, g.n, rfl, hB.1, by rw [List.length_replicate]; exact Nat.le_refl _, by have := G.len; omega, by rw [lwd]; omega, fun H1 p s1 hp0 hp => ?_⟩
    have hp' : H1 p = some (.tup ((livG g (seen ++ sg)).map nI)) := hp
    have hx1 := s1 _ _ hx
    refine ⟨_, rfl, p, rfl, ⟨_, SqT.of hp'⟩, fun D hD => lc_tup (K := K) (a := p) (xs := (livG g (seen ++ sg)).map nI) (fun i H' => Same H1 H' ∧ H' D = some (.lst ((((livG g (seen ++ sg)).take i).map fun k => g.bs.getD k 0).map nI))) ⟨same_upd hD, upd_same⟩ (fun i H' _ h => SqT.of (h.1 _ _ hp')) ?_ ?_⟩
    · rintro i y H' hi ⟨sm, eD⟩
      obtain ⟨k, hk, rfl⟩ : ∃ k, (livG g (seen ++ sg))[i]? = some k ∧ nI k = y := by
        rw [List.getElem?_map] at hi
        cases e : (livG g (seen ++ sg))[i]? with
        | none => rw [e] at hi; cases hi
        | some n => rw [e] at hi; exact ⟨n, rfl, Option.some.inj hi⟩
      have hkl := livG_lt k (List.mem_of_getElem? hk)
      have hil := (List.getElem?_eq_some_iff.mp hk).1
      have hll := livG_len (g := g) (w := seen ++ sg)
      have hGl := G.len
      have hGe := G.eq
      refine ⟨rfl, ?_⟩
      refine tyes ?_
      refine ⟨_, rfl, x, C_Keeper, dx, _, _, rfl, sm _ _ hx1, c.ins.cl, c.nb, kfz_b, _, rfl, bu, _, _, _, rfl, rfl, sameT (s1.trans sm) hB.2, at_num (by omega), _, eD, szl (by rw [List.length_map, List.length_map, List.length_take]; omega), same_out sm hD, ?_⟩
      rw [upd_same, List.take_succ, hk, List.map_append, List.map_append]
      rfl
    · rintro H' ⟨sm, eD⟩
      rw [List.length_map, List.take_length] at eD
      have hll := livG_len (g := g) (w := seen ++ sg)
      have hGl := G.len
      exact ⟨D, wlG g (seen ++ sg), LB, rfl, .inl (SqL.of eD), wlG_le G, by rw [LB_eq]; decide, by unfold wlG; rw [List.length_map]; omega, fun H2 y s2 hy => q H2 y ((s1.trans sm).trans s2) hy⟩
theorem ok_Keeper_guess {f : Addr} {fd : FuncData} (F : Fun K "guess" "Keeper.guess" s_Keeper_guess f fd) (T : Txt K mg C_Share C_Writers C_Keeper C_Breaker) (c : KpC K C_Keeper) (sc : ShC K C_Share) (c_Keeper__weight_of : Met P w K mg base 4 C_Keeper "_weight_of" (spKW K C_Keeper C_Writers C_Share)) (c_Share_is_below : Met P w K mg base 1 C_Share "is_below" (spBelow C_Share)) : FnOk P w K mg base CX0 5 f fd ["self"] (spKG K C_Keeper C_Writers) := by
  refine F.ok sc_Keeper_guess (fun vs H Q E h => ?_) (fun cdv A outer s H vs Q E hr h => ?_)
  · obtain ⟨x, dx, wr, bu, g, seen, e, rfl, _⟩ := h
    rfl
  · obtain ⟨x, dx, wr, bu, g, seen, e, rfl, hx, hB, G, hsl, q⟩ := h
    refine ⟨_, (pss_one (ps_ret (pe_ifExp (pt_val (pe_mt c_Share_is_below hr (by omega) (pe_mt c_Keeper__weight_of hr (by omega) (pv 0) (pa_cons pe_str pa_nil)) (pa_cons (pe_mt c_Keeper__weight_of hr (by omega) (pv 0) (pa_cons pe_str pa_nil)) pa_nil))) pe_int pe_int))), ?_⟩
    have l0 : (("0" : Str)).length = 1 := rfl
    have l1 : (("1" : Str)).length = 1 := rfl
    refine ⟨_, rfl, x, dx, _, rfl, hx, rfl, x, dx, wr, bu, g, seen, "0", e, rfl, hx, hB, G, hsl, l0, fun H1 y0 s1 ⟨d0, h0⟩ => ?_⟩
    have hx1 := s1 _ _ hx
    refine ⟨y0, d0, _, rfl, h0, rfl, _, rfl, x, dx, _, rfl, hx1, rfl, x, dx, wr, bu, g, seen, "1", e, rfl, hx1, hB.mono s1, G, hsl, l1, fun H2 y1 s2 ⟨d1, h1⟩ => ?_⟩
    have p2 : 0 < 2 ^ LB := Nat.pow_pos (by decide)
    have e2 : (2 : Int) ^ LB = ((2 ^ LB : Nat) : Int) := by rw [Int.natCast_pow]; rfl
    rw [e2] at h0 h1
    have rl := red_lt (a := hs LB (wlG g (seen ++ ("0" : Str)))) (b := hs LB (wlG g (seen ++ ("1" : Str)))) p2
    have hw : ∀ z, hs LB (wlG g z) ≤ 1000 * 2 ^ LB := fun z => Nat.le_trans (hs_le1 LB _) (Nat.mul_le_mul_right _ (by unfold wlG; rw [List.length_map]; exact Nat.le_trans livG_len G.len))
    have bnd : 1000 * 2 ^ LB < 2 ^ 4000 := by
      have : 1000 * 2 ^ LB < 2 ^ 10 * 2 ^ LB := Nat.mul_lt_mul_of_pos_right (by decide) p2
      rw [← Nat.pow_add] at this
      exact Nat.lt_trans this (Nat.pow_lt_pow_right (by decide) (by rw [LB_eq]; decide))
    have bn : ∀ z, (rOd (hs LB (wlG g z) : Nat) ((2 ^ LB : Nat) : Int)).natAbs < 2 ^ 4000 := fun z => Nat.lt_of_le_of_lt (rO_le _ _) (Nat.lt_of_le_of_lt (by rw [Int.natAbs_natCast]; exact hw z) bnd)
    have bd : ∀ z, (rUd (hs LB (wlG g z) : Nat) ((2 ^ LB : Nat) : Int)).natAbs < 2 ^ 4000 := fun z => Nat.lt_of_le_of_lt (rU_le _ _) (by rw [Int.natAbs_natCast]; exact Nat.pow_lt_pow_right (by decide) (by rw [LB_eq]; decide))
    refine ⟨y0, y1, _, _, _, _, rfl, ⟨d0, s2 _ _ h0⟩, ⟨d1, h1⟩, ⟨bn _, bd _, bn _, bd _⟩, _, rfl, ?_⟩
    rw [rl]
    unfold gssG at q
    by_cases hlt : hs LB (wlG g (seen ++ ("0" : Str))) < hs LB (wlG g (seen ++ ("1" : Str)))
    · rw [if_pos hlt] at q
      rw [decide_eq_true hlt]
      exact iteT (q _ (s1.trans s2))
    · rw [if_neg hlt] at q
      rw [decide_eq_false hlt]
      exact iteF (q _ (s1.trans s2))
theorem ok_hear {f : Addr} {fd : FuncData} (F : Fun K "hear" "hear" s_hear f fd) (T : Txt K mg C_Share C_Writers C_Keeper C_Breaker) (c : KpC K C_Keeper) (c_check_bit : CalX P w K mg base 3 "check_bit" (spCheckBit K C_InvalidNumber)) (c_Keeper_guess : Met P w K mg base 5 C_Keeper "guess" (spKG K C_Keeper C_Writers)) : FnOk P w K mg base (L2N.CX P w) 6 f fd ["guesser", "bit"] (spKT K C_Keeper C_Writers) := by
  refine Fun_okN F sc_hear (fun vs H Q E h => ?_) (fun cdv A outer s H vs Q E hr h => ?_)
  · obtain ⟨x, dx, wr, bu, g, seen, e, b, rfl, _⟩ := h
    rfl
  · obtain ⟨x, dx, wr, bu, g, seen, e, b, rfl, hx, hB, G, hsl, hb, q⟩ := h
    refine ⟨_, (pss_cons (ps_expr (pe_xS c_check_bit hr (by omega) (by rfl) (L2N.takes_of rfl rfl rfl rfl) (pa_cons (pv 1) pa_nil)))
    (C8.pss_cut (ps_if (pt_cmpR op_ne (pe_mt0 c_Keeper_guess hr (by omega) (pv 0)) (pv 1) (nomark _))
      (pss_one (ps_fldaug (pv 0) pe_int in_add))
      pss_nil)
    (pss_one (ps_fldaug (pv 0) (pe_callTy call_str_int (by rfl) T.b_str (by decide +kernel) (pa_cons (pv 1) pa_nil)) in_addS)))), ?_⟩
    have hbd : isBitD (.int (b : Int)) = true := by
      show (decide ((0 : Int) ≤ (b : Int)) && decide ((b : Int) ≤ 1)) = true
      rw [decide_eq_true (show (0 : Int) ≤ (b : Int) by omega), decide_eq_true (show (b : Int) ≤ 1 by omega)]
      rfl
    refine ⟨_, rfl, _, .int (b : Int), rfl, .int _, .inl ⟨hbd, ?_⟩⟩
    refine ⟨fun σ H' => σ = [some (.ref x), some (.int (b : Int))] ∧ Same (upd H x (.ins C_Keeper dx (kfz seen (e + if gssG g seen = b then 0 else 1) wr bu))) H', ?_, ?_⟩
    · refine ⟨_, rfl, x, dx, _, rfl, hx, rfl, x, dx, wr, bu, g, seen, e, rfl, hx, hB, G, by omega, fun H1 s1 => ?_⟩
      have hx1 := s1 _ _ hx
      refine ⟨_, rfl, rfl, _, rfl, ite2 (fun h => ?_) (fun h => ?_)⟩
      · have hne : ¬ gssG g seen = b := fun z => by
          rw [z] at h
          exact absurd h (by show ¬ (!decide (V.int (b : Int) = V.int (b : Int))) = true; rw [decide_eq_true rfl]; decide)
        rw [if_neg hne]
        exact ⟨_, rfl, x, C_Keeper, dx, _, _, rfl, hx1, c.ins.cl, c.ne, kfz_e, _, _, rfl, rfl, dx, _, hx1, by show 4 < 1000; decide, rfl, same_set s1⟩
      · have heq : gssG g seen = b := by
          refine Classical.byContradiction fun z => h ?_
          show (!decide (V.int (gssG g seen : Nat) = V.int (b : Int))) = true
          rw [decide_eq_false (fun w => z (by have := V.int.inj w; omega))]
          rfl
        rw [if_pos heq, Int.add_zero]
        exact ⟨rfl, (same_self hx).trans s1⟩
    · rintro σ H2 ⟨rfl, s2⟩
      have hx2 := s2 _ _ upd_same
      have hbs : Str.ofString (toString (b : Int)) = bitS b := by
        rcases (by omega : b = 0 ∨ b = 1) with z | z <;> subst z <;> rfl
      refine ⟨_, rfl, x, C_Keeper, dx, _, _, rfl, hx2, c.ins.cl, c.ns, kfz_s, _, rfl, (b : Int), rfl, ?_, seen, bitS b, rfl, congrArg V.str hbs, szle ?_, dx, _, hx2, by show 4 < 1000; decide, ?_⟩
      · rcases (by omega : b = 0 ∨ b = 1) with z | z <;> subst z <;> decide
      · have : (bitS b).length = 1 := by rcases (by omega : b = 0 ∨ b = 1) with z | z <;> subst z <;> rfl
        omega
      · have t := same_set (p := x) (o := .ins C_Keeper dx (kfz (seen ++ bitS b) (e + if gssG g seen = b then 0 else 1) wr bu)) s2
        rw [upd_upd] at t
        exact q _ t
theorem ok_Keeper_tell {f : Addr} {fd : FuncData} (F : Fun K "tell" "Keeper.tell" s_Keeper_tell f fd) (T : Txt K mg C_Share C_Writers C_Keeper C_Breaker) (c_hear : CalX P w K mg base 6 "hear" (spKT K C_Keeper C_Writers)) : FnOk P w K mg base (L2N.CX P w) 7 f fd ["self", "bit"] (spKT K C_Keeper C_Writers) := by
  refine Fun_okN F sc_Keeper_tell (fun vs H Q E h => ?_) (fun cdv A outer s H vs Q E hr h => ?_)
  · obtain ⟨x, dx, wr, bu, g, seen, e, b, rfl, _⟩ := h
    rfl
  · obtain ⟨x, dx, wr, bu, g, seen, e, b, rfl, hx, hB, G, hsl, hb, q⟩ := h
    refine ⟨_, (pss_one (ps_expr (pe_xS c_hear hr (by omega) (by rfl) (L2N.takes_of rfl rfl rfl rfl) (pa_cons (pv 0) (pa_cons (pv 1) pa_nil))))), ?_⟩
    exact ⟨_, rfl, _, rfl, x, dx, wr, bu, g, seen, e, b, rfl, hx, hB, G, hsl, hb, fun H' s' => q H' s'⟩
theorem ok_Keeper___init__ {f : Addr} {fd : FuncData} (F : Fun K "__init__" "Keeper.__init__" s_Keeper___init__ f fd) (T : Txt K mg C_Share C_Writers C_Keeper C_Breaker) (c : KpC K C_Keeper) (c_check_rows : CalX P w K mg base 3 "check_rows" (spCheckRows K C_InvalidRows)) (c_check_budgets_of : CalX P w K mg base 4 "check_budgets_of" (spCheckOf K C_InvalidBudgets)) (c_without_flips : Cal P w K mg base 3 "without_flips" (spWF K C_Writers)) : FnOk P w K mg base (L2N.CX P w) 5 f fd ["self", "rows", "budgets"] (spKInit K C_Keeper C_Writers) := by
  refine Fun_okN F sc_Keeper___init__ (fun vs H Q E h => ?_) (fun cdv A outer s H vs Q E hr h => ?_)
  · obtain ⟨x, dx, r, b, g, rfl, _⟩ := h
    rfl
  · obtain ⟨x, dx, r, b, g, rfl, hx, hR, hBu, G, q⟩ := h
    refine ⟨_, (pss_cons (ps_expr (pe_xS c_check_rows hr (by omega) (by rfl) (L2N.takes_of rfl rfl rfl rfl) (pa_cons (pv 1) pa_nil)))
    (pss_cons (ps_expr (pe_xS c_check_budgets_of hr (by omega) (by rfl) (L2N.takes_of rfl rfl rfl rfl) (pa_cons (pv 1) (pa_cons (pv 2) pa_nil))))
    (pss_cons (ps_fld (pv 0) pe_str rfl)
    (pss_cons (ps_fld (pv 0) pe_int rfl)
    (pss_cons (ps_fld (pv 0) (pe_c c_without_flips hr (by omega) (by rfl) (pa_cons (pv 1) pa_nil)) rfl)
    (pss_one (ps_fld (pv 0) (pe_callTy call_tuple_of (by rfl) T.b_tuple (by decide +kernel) (pa_cons (pv 2) pa_nil)) rfl))))))), ?_⟩
    obtain ⟨d, hd, hok, hsh, hrd⟩ := rows_dp hR G
    refine ⟨_, rfl, _, d, 2, rfl, hd, hok, hsh, .inl ⟨hrd, fun H1 s1 => ?_⟩⟩
    have hR1 : SqL K H1 r (g.rows.map V.str) ∨ SqT K H1 r (g.rows.map V.str) := hR.imp (fun z => s1.seq z) (fun z => sameT s1 z)
    have hB1 : SqL K H1 b (g.bs.map nI) ∨ SqT K H1 b (g.bs.map nI) := hBu.imp (fun z => s1.seq z) (fun z => sameT s1 z)
    obtain ⟨d2, hd2, hok2, hrd2, hl2⟩ := nums_dp2 hB1 (show g.bs.length ≤ 100000 by have := G.len; have := G.eq; omega)
    refine ⟨_, rfl, _, rfl, r, _, _, d2, 2, rfl, hR1, hd2, hok2, .inl ⟨hrd2, by rw [hl2, List.length_map]; exact G.eq, fun H2 s2 => ?_⟩⟩
    have s12 := s1.trans s2
    have hx2 := s12 _ _ hx
    refine ⟨_, rfl, x, _, dx, _, rfl, hx2, c.ins.cl, c.ns, by decide, ?_⟩
    refine ⟨_, rfl, x, _, dx, _, rfl, upd_same, c.ins.cl, c.ne, by show 1 < 1000; decide, ?_⟩
    obtain ⟨H4, hH4⟩ : ∃ H4, H4 = upd H2 x (.ins C_Keeper dx [("seen", .str ""), ("errors", .int 0)]) := ⟨_, rfl⟩
    have hx4 : H4 x = some (.ins C_Keeper dx [("seen", .str ""), ("errors", .int 0)]) := by rw [hH4, upd_same]
    have hR4 : SqL K H4 r (g.rows.map V.str) ∨ SqT K H4 r (g.rows.map V.str) := by rw [hH4]; exact hR.imp (fun z => SqL.offI (s12.seq z) hx2) (fun z => SqT.offI (sameT s12 z) hx2)
    have hB4 : SqL K H4 b (g.bs.map nI) ∨ SqT K H4 b (g.bs.map nI) := by rw [hH4]; exact hBu.imp (fun z => SqL.offI (s12.seq z) hx2) (fun z => SqT.offI (sameT s12 z) hx2)
    obtain ⟨z, hz⟩ : ∃ z, g.rows[0]? = some z := ⟨g.rows[0]'G.ne, List.getElem?_eq_getElem G.ne⟩
    have hzl := G.rl z (List.mem_of_getElem? hz)
    rw [upd_upd]
    refine (show (sFld (cxOf (L2N.CX P w) P w K mg base ["self", "rows", "budgets"] "Keeper.__init__" (defScope s_Keeper___init__) f cdv A outer s H E).K (tVar 0) (tCall (spWF K C_Writers) [] E0 (tCons (tVar 1) tNil)) "_writers") _ _ (upd H2 x (.ins C_Keeper dx [("seen", .str ""), ("errors", .int 0)])) from ?_)
    have s24 : ∀ o, Same (upd H x o) (upd H4 x o) := fun o => by rw [hH4, upd_upd]; exact same_set s12
    rw [← hH4]
    have hGl := G.len
    have hGn := G.nl
    refine ⟨_, rfl, r, g.rows, z, rfl, hR4, by omega, hz, by omega, fun H5 wr s5 hwr hW => ?_⟩
    rw [hzl] at hW
    have hx5 := s5 _ _ hx4
    refine ⟨_, rfl, x, _, dx, _, rfl, hx5, c.ins.cl, c.nw, by show 2 < 1000; decide, ?_⟩
    have hwx : wr ≠ x := fun e => by rw [e, hx4] at hwr; cases hwr
    have hB5 : SqL K H5 b (g.bs.map nI) ∨ SqT K H5 b (g.bs.map nI) := hB4.imp (fun z => s5.seq z) (fun z => sameT s5 z)
    obtain ⟨O6, hO6⟩ : ∃ O6, O6 = HO.ins C_Keeper dx [("seen", .str ""), ("errors", .int 0), ("_writers", .ref wr)] := ⟨_, rfl⟩
    have hB6 : SqL K (upd H5 x O6) b (g.bs.map nI) ∨ SqT K (upd H5 x O6) b (g.bs.map nI) := hB5.imp (fun z => SqL.offI z hx5) (fun z => SqT.offI z hx5)
    have offW : ∀ {G : Hp} {o : HO} {fs : List (Str × V)}, G x = some (.ins C_Keeper dx fs) → Wr K C_Writers G wr g.rows (List.replicate g.rows.length 0) g.n → Wr K C_Writers (upd G x o) wr g.rows (List.replicate g.rows.length 0) g.n := fun {G o fs} hg hw => by
      obtain ⟨dw, q1, q2, k1, k2, k3⟩ := hw
      exact ⟨dw, q1, q2, by rw [upd_ne hwx]; exact k1, SqT.offI k2 hg, SqT.offI k3 hg⟩
    have hW6 : Wr K C_Writers (upd H5 x O6) wr g.rows (List.replicate g.rows.length 0) g.n := offW hx5 hW
    have hx6 : upd H5 x O6 x = some (.ins C_Keeper dx [("seen", .str ""), ("errors", .int 0), ("_writers", .ref wr)]) := by rw [upd_same, hO6]
    have s6 : ∀ o, Same (upd H x o) (upd (upd H5 x O6) x o) := fun o => by rw [upd_upd]; exact (s24 o).trans (same_set s5)
    have fin : ∀ (H7 : Hp) (p : Addr), Same (upd H5 x O6) H7 → SqT K H7 p (g.bs.map nI) → Q .non (upd H7 x (.ins C_Keeper dx (kfz "" 0 wr p))) := fun H7 p s7 hp => by
      have hx7 := s7 _ _ hx6
      exact q _ wr p ((s6 _).trans (same_set s7)) ⟨offW hx7 (hW6.mono s7), SqT.offI hp hx7⟩
    have hO : upd H5 x (.ins C_Keeper dx (putF "_writers" (.ref wr) [("seen", .str ""), ("errors", .int 0)])) = upd H5 x O6 := by rw [hO6]; rfl
    rw [hO]
    generalize upd H5 x O6 = H6 at hB6 hx6 fin
    rcases hB6 with h | h
    · exact ⟨_, rfl, b, _, rfl, .inl ⟨h, fun p hp => ⟨_, rfl, x, _, dx, _, rfl, same_upd hp _ _ hx6, c.ins.cl, c.nb, by show 3 < 1000; decide, fin _ p (same_upd hp) (SqT.of upd_same)⟩⟩⟩
    · exact ⟨_, rfl, b, _, rfl, .inr ⟨h, _, rfl, x, _, dx, _, rfl, hx6, c.ins.cl, c.nb, by show 3 < 1000; decide, fin _ b (fun _ _ e => e) h⟩⟩
end

def spBits : Sp := fun vs H Q _ => ∃ (B : Hp) (t : Addr) (c m : Nat), vs = [.ref t, .int m] ∧ Tp B H t c ∧ m ≤ 100000 ∧ c < 100000000 ∧ ∀ H' z, Tp B H' t (c + m) → isB z = true → z.length = m → Q (.str z) H'
section
variable {P : Program} {w : World} {K : PySem.W.Frag} {mg : Str → Option Value} {base : Heap} {C_Share C_Writers C_Keeper C_Breaker : Addr}
theorem ok_law_bits {f : Addr} {fd : FuncData} (F : Fun K "_law_bits" "_law_bits" s_law_bits f fd) (T : Txt K mg C_Share C_Writers C_Keeper C_Breaker) (c_law_draw : Cal P w K mg base 1 "_law_draw" spDraw) : FnOk P w K mg base CX0 2 f fd ["tape", "many"] spBits := by
  refine F.ok sc_law_bits (fun vs H Q E h => ?_) (fun cdv A outer s H vs Q E hr h => ?_)
  · obtain ⟨B, t, c, m, rfl, _⟩ := h
    rfl
  · obtain ⟨B, t, c, m, rfl, T0, hm, hc, q⟩ := h
    refine ⟨_, (pss_one (ps_ret (pe_join pe_str (pe_lc (own := [("k", 2)]) rfl sc_law_bits.nd (pi_range1 (by rfl) T.b_range (pa_cons (pv 1) pa_nil)) (blkOk_by (own := [("k", 2)]) (N := ["tape", "many", "k"]) (sc := defScope s_law_bits) (by decide +kernel)) (fun _ _ _ _ _ => (pg_name (i := 2) sc_law_bits.nd rfl (by first | exact Or.inl rfl | exact Or.inr rfl))) (fun _ _ _ _ _ => pts_nil) (fun _ _ _ _ _ => (pe_ix ix_str pe_str (pe_c c_law_draw hr (by omega) (by rfl) (pa_cons (pv 0) (pa_cons pe_int pa_nil))) (fun _ _ => rfl))))))), ?_⟩
    have e01 : (("01" : Str)).cps = #[48, 49] := by decide
    refine ⟨⟨_, rfl⟩, _, rfl, m, rfl, by omega, by omega, fun D hD => lc_range (lo := 0) (n := m) (fun i H' => ∃ cs : List Nat, Tp (upd B D (.lst ((cs.map chS).map V.str))) H' t (c + i) ∧ cs.length = i ∧ ∀ y ∈ cs, y = 48 ∨ y = 49) ⟨[], T0.new hD, rfl, (fun y hy => by cases hy)⟩ ?_ ?_⟩
    · rintro i H' hi ⟨cs, T3, ly, sy⟩
      refine ⟨rfl, iteT (B := ∃ cs : List Nat, Tp (upd B D (.lst ((cs.map chS).map V.str))) H' t (c + (i + 1)) ∧ cs.length = i + 1 ∧ ∀ y ∈ cs, y = 48 ∨ y = 49) ?_⟩
      refine ⟨_, rfl, _, t, c + i, 2, rfl, T3, by decide, by decide, by omega, fun H4 n T4 n0 n1 => ?_⟩
      obtain ⟨ch, hch⟩ := at_some (xs := (("01" : Str)).cps.toList) n0 (by rw [show (((("01" : Str)).cps.toList.length : Int)) = 2 from rfl]; exact n1)
      have hb : ch = 48 ∨ ch = 49 := by
        have h2 := hch
        rw [e01] at h2
        obtain ⟨j, rfl⟩ := nat_of n0
        rcases (by omega : j = 0 ∨ j = 1) with e | e <;> subst e
        · exact .inl (Option.some.inj h2).symm
        · exact .inr (Option.some.inj h2).symm
      refine ⟨_, _, ch, rfl, rfl, szle (by decide), hch, (cs.map chS).map V.str, T4.at upd_same, szl (by rw [List.length_map, List.length_map]; omega), cs ++ [ch], ?_, by simp [ly], fun y hy => ?_⟩
      · have T5 := T4.set (o' := .lst ((cs.map chS).map V.str ++ [V.str ⟨#[ch]⟩])) upd_same
        rw [upd_upd] at T5
        rw [List.map_append, List.map_append]
        exact T5
      · rcases List.mem_append.mp hy with z | z
        · exact sy y z
        · rw [List.mem_singleton.mp z]
          exact hb
    · rintro H' ⟨cs, T3, ly, sy⟩
      have hB : B D = none := T0.isn hD
      have len1 : ∀ xs : List Nat, ((xs.map chS).map (fun x => x.length)).sum = xs.length := fun xs => by
        induction xs with
        | nil => rfl
        | cons x r ih =>
          rw [List.map_cons, List.map_cons, List.sum_cons, ih]
          show 1 + r.length = r.length + 1
          omega
      refine ⟨_, D, cs.map chS, rfl, rfl, .inl (SqL.of (T3.at upd_same)), ?_, ?_⟩
      · show ((cs.map chS).map (fun x => x.length)).sum + (cs.map chS).length * 0 ≤ 16777216
        rw [len1]
        omega
      · rw [join_signs]
        refine q _ _ (T3.shrink (same_upd hB)) ?_ ?_
        · show cs.toArray.toList.all (("01" : Str)).cps.contains = true
          rw [e01, List.all_eq_true]
          intro y hy
          rcases sy y hy with z | z <;> rw [z] <;> simp
        · show cs.toArray.size = m
          rw [List.size_toArray]
          exact ly
end

/-! ### how often a keeper errs -/
theorem mis_nil (r : Str) : misL "" r = 0 := rfl
theorem zip_snoc {α : Type} : ∀ (a r : List α) (c d : α), r[a.length]? = some d → (a ++ [c]).zip r = a.zip r ++ [(c, d)]
  | [], r, c, d, h => by
    cases r with
    | nil => cases h
    | cons x r => cases h; simp
  | y :: a, r, c, d, h => by
    cases r with
    | nil => cases h
    | cons x r =>
      have ih := zip_snoc a r c d (by simpa using h)
      show (y, x) :: (a ++ [c]).zip r = (y, x) :: (a.zip r ++ [(c, d)])
      rw [ih]
theorem mis_snoc {a r : Str} {c d : Nat} (h : r.cps.toList[a.length]? = some d) : misL (a ++ (⟨#[c]⟩ : Str)) r = misL a r + (if c = d then 0 else 1) := by
  unfold misL
  have e : (a ++ (⟨#[c]⟩ : Str)).cps.toList = a.cps.toList ++ [c] := by
    show (a.cps ++ #[c]).toList = _
    rw [Array.toList_append]
  have hl : a.cps.toList.length = a.length := by rw [Array.length_toList]; rfl
  rw [e, zip_snoc _ _ _ d (by rw [hl]; exact h), List.filter_append, List.length_append]
  congr 1
  by_cases hcd : c = d
  · rw [if_pos hcd]
    simp [hcd]
  · rw [if_neg hcd]
    simp [hcd]
def tkS (r : Str) (i : Nat) : Str := ⟨(r.cps.toList.take i).toArray⟩
theorem tkS_zero (r : Str) : tkS r 0 = "" := rfl
theorem tkS_all (r : Str) : tkS r r.cps.size = r := by
  unfold tkS
  rw [List.take_of_length_le (by rw [Array.length_toList]; exact Nat.le_refl _)]
theorem tkS_len {r : Str} {i : Nat} (h : i ≤ r.length) : (tkS r i).length = i := by
  show ((r.cps.toList.take i).toArray).size = i
  rw [List.size_toArray, List.length_take, Array.length_toList]
  have : r.length = r.cps.size := rfl
  omega
theorem tkS_succ {r : Str} {i c : Nat} (h : r.cps[i]? = some c) : tkS r (i + 1) = tkS r i ++ (⟨#[c]⟩ : Str) := by
  unfold tkS
  have h' : r.cps.toList[i]? = some c := by rw [Array.getElem?_toList]; exact h
  rw [List.take_succ, h']
  show (⟨(r.cps.toList.take i ++ [c]).toArray⟩ : Str) = ⟨(r.cps.toList.take i).toArray ++ #[c]⟩
  congr 1
  simp
theorem mis_take (r : Str) : ∀ i, i ≤ r.length → misL (tkS r i) r = 0
  | 0, _ => rfl
  | i + 1, h => by
    have hi : i < r.cps.size := h
    have e : r.cps[i]? = some r.cps[i] := Array.getElem?_eq_getElem hi
    rw [tkS_succ e, mis_snoc (d := r.cps[i]) (by rw [tkS_len (by omega), Array.getElem?_toList]; exact e), mis_take r i (by omega), if_pos rfl]
theorem bitS_ch (b : Nat) (h : b ≤ 1) : bitS b = (⟨#[48 + b]⟩ : Str) := by
  rcases (by omega : b = 0 ∨ b = 1) with e | e <;> subst e <;> rfl

theorem zeros_getD (n k : Nat) : (List.replicate n 0).getD k 0 = 0 := by
  rw [List.getD_eq_getElem?_getD, List.getElem?_replicate]
  split <;> rfl
theorem livG_eq {g : Gm} {w : Str} (h : w.length ≤ g.n) : livG g w = (List.range g.rows.length).filter fun k => decide (misL w (g.rows.getD k "") ≤ 0) := by
  unfold livG livL
  rw [if_neg (by omega)]
  congr 1
  funext k
  rw [zeros_getD]
theorem hs_part (L : Nat) (f : Nat → Nat) (p p0 p1 : Nat → Bool) : ∀ xs : List Nat, (∀ k ∈ xs, p k = (p0 k || p1 k) ∧ (p0 k && p1 k) = false) → hs L ((xs.filter p).map f) = hs L ((xs.filter p0).map f) + hs L ((xs.filter p1).map f)
  | [], _ => rfl
  | x :: r, h => by
    have ih := hs_part L f p p0 p1 r fun k hk => h k (List.mem_cons_of_mem _ hk)
    obtain ⟨h1, h2⟩ := h x (List.mem_cons_self ..)
    cases e0 : p0 x with
    | true =>
      have e1 : p1 x = false := by rw [e0] at h2; simpa using h2
      rw [e0, e1] at h1
      rw [List.filter_cons_of_pos (by rw [h1]; rfl), List.filter_cons_of_pos (by rw [e0]), List.filter_cons_of_neg (by rw [e1]; decide)]
      show 2 ^ (L - f x) + hs L _ = 2 ^ (L - f x) + hs L _ + _
      rw [ih]
      omega
    | false =>
      cases e1 : p1 x with
      | true =>
        rw [e0, e1] at h1
        rw [List.filter_cons_of_pos (by rw [h1]; rfl), List.filter_cons_of_neg (by rw [e0]; decide), List.filter_cons_of_pos (by rw [e1])]
        show 2 ^ (L - f x) + hs L _ = hs L _ + (2 ^ (L - f x) + hs L _)
        rw [ih]
        omega
      | false =>
        rw [e0, e1] at h1
        rw [List.filter_cons_of_neg (by rw [h1]; decide), List.filter_cons_of_neg (by rw [e0]; decide), List.filter_cons_of_neg (by rw [e1]; decide), ih]
theorem wl_split {g : Gm} (G : GmOk g) {seen : Str} (h : seen.length < g.n) : hs LB (wlG g seen) = hs LB (wlG g (seen ++ ("0" : Str))) + hs LB (wlG g (seen ++ ("1" : Str))) := by
  have l0 : (seen ++ ("0" : Str)).length = seen.length + 1 := by rw [len_app]; rfl
  have l1 : (seen ++ ("1" : Str)).length = seen.length + 1 := by rw [len_app]; rfl
  unfold wlG
  rw [livG_eq (by omega), livG_eq (by omega), livG_eq (by omega)]
  refine hs_part LB _ _ _ _ _ fun k hk => ?_
  have hkl := List.mem_range.mp hk
  have hrm : g.rows.getD k "" ∈ g.rows := by
    rw [List.getD_eq_getElem?_getD, List.getElem?_eq_getElem hkl]
    exact List.getElem_mem _
  have hrl := G.rl _ hrm
  have hrb := G.rb _ hrm
  generalize g.rows.getD k "" = r at hrl hrb
  have hi : seen.length < r.cps.toList.length := by rw [Array.length_toList]; have : r.length = r.cps.size := rfl; omega
  have e : r.cps.toList[seen.length]? = some r.cps.toList[seen.length] := List.getElem?_eq_getElem hi
  have hb := isB_all.mp hrb _ (List.getElem_mem hi)
  have m0 := mis_snoc (a := seen) (c := 48) e
  have m1 := mis_snoc (a := seen) (c := 49) e
  rw [show (seen ++ ("0" : Str)) = seen ++ (⟨#[48]⟩ : Str) from rfl, show (seen ++ ("1" : Str)) = seen ++ (⟨#[49]⟩ : Str) from rfl, m0, m1]
  rcases hb with hb | hb
  · rw [hb, if_pos rfl, if_neg (by decide)]
    constructor
    · rw [Bool.eq_iff_iff]
      simp
    · rw [Bool.and_eq_false_iff]
      exact .inr (decide_eq_false (by omega))
  · rw [hb, if_neg (by decide), if_pos rfl]
    constructor
    · rw [Bool.eq_iff_iff]
      simp
    · rw [Bool.and_eq_false_iff]
      exact .inl (decide_eq_false (by omega))
theorem wl_ini {g : Gm} (G : GmOk g) : wlG g "" = g.bs := by
  unfold wlG
  rw [livG_eq (by show 0 ≤ g.n; omega)]
  have : ((List.range g.rows.length).filter fun k => decide (misL "" (g.rows.getD k "") ≤ 0)) = List.range g.rows.length := List.filter_eq_self.mpr fun k _ => by rw [mis_nil]; rfl
  rw [this, ← G.eq]
  refine List.ext_getElem? fun i => ?_
  by_cases hi : i < g.bs.length
  · rw [List.getElem?_map, List.getElem?_range hi, List.getElem?_eq_getElem hi]
    show some (g.bs.getD i 0) = _
    rw [List.getD_eq_getElem?_getD, List.getElem?_eq_getElem hi]
    rfl
  · rw [List.getElem?_eq_none (by rw [List.length_map, List.length_range]; omega), List.getElem?_eq_none (by omega)]
/-- the potential does not rise -/
theorem pot_step {g : Gm} (G : GmOk g) {seen : Str} {b e S : Nat} (h : seen.length < g.n) (hb : b ≤ 1) (hp : hs LB (wlG g seen) * 2 ^ e ≤ S) : hs LB (wlG g (seen ++ bitS b)) * 2 ^ (e + if gssG g seen = b then 0 else 1) ≤ S := by
  have sp := wl_split G h
  have pe := Nat.pow_pos (n := e) (show 0 < 2 by decide)
  rcases (by omega : b = 0 ∨ b = 1) with z | z
  · subst z
    show hs LB (wlG g (seen ++ ("0" : Str))) * _ ≤ S
    by_cases hg : gssG g seen = 0
    · rw [if_pos hg, Nat.add_zero]
      exact Nat.le_trans (Nat.mul_le_mul_right _ (by omega)) hp
    · rw [if_neg hg, Nat.pow_succ]
      have hlt : hs LB (wlG g (seen ++ ("0" : Str))) < hs LB (wlG g (seen ++ ("1" : Str))) := by
        unfold gssG at hg
        split at hg
        · assumption
        · exact absurd rfl hg
      have : hs LB (wlG g (seen ++ ("0" : Str))) * (2 ^ e * 2) = 2 * hs LB (wlG g (seen ++ ("0" : Str))) * 2 ^ e := by rw [Nat.mul_comm (2 ^ e) 2, ← Nat.mul_assoc, Nat.mul_comm _ 2]
      rw [this]
      exact Nat.le_trans (Nat.mul_le_mul_right _ (by omega)) hp
  · subst z
    show hs LB (wlG g (seen ++ ("1" : Str))) * _ ≤ S
    by_cases hg : gssG g seen = 1
    · rw [if_pos hg, Nat.add_zero]
      exact Nat.le_trans (Nat.mul_le_mul_right _ (by omega)) hp
    · rw [if_neg hg, Nat.pow_succ]
      have hlt : ¬ hs LB (wlG g (seen ++ ("0" : Str))) < hs LB (wlG g (seen ++ ("1" : Str))) := by
        unfold gssG at hg
        split at hg
        · exact absurd rfl hg
        · assumption
      have : hs LB (wlG g (seen ++ ("1" : Str))) * (2 ^ e * 2) = 2 * hs LB (wlG g (seen ++ ("1" : Str))) * 2 ^ e := by rw [Nat.mul_comm (2 ^ e) 2, ← Nat.mul_assoc, Nat.mul_comm _ 2]
      rw [this]
      exact Nat.le_trans (Nat.mul_le_mul_right _ (by omega)) hp
theorem hs_mem {L : Nat} : ∀ {ls : List Nat} {b : Nat}, b ∈ ls → 2 ^ (L - b) ≤ hs L ls
  | x :: r, b, h => by
    show 2 ^ (L - b) ≤ 2 ^ (L - x) + hs L r
    rcases List.mem_cons.mp h with e | e
    · subst e
      omega
    · exact Nat.le_trans (hs_mem (L := L) e) (Nat.le_add_left _ _)
/-- a row told whole: its program lives -/
theorem pot_end {g : Gm} (G : GmOk g) {q : Nat} (hq : q < g.rows.length) : 2 ^ (LB - g.bs.getD q 0) ≤ hs LB (wlG g (g.rows.getD q "")) := by
  have hrm : g.rows.getD q "" ∈ g.rows := by
    rw [List.getD_eq_getElem?_getD, List.getElem?_eq_getElem hq]
    exact List.getElem_mem _
  have hrl := G.rl _ hrm
  refine hs_mem ?_
  unfold wlG
  rw [livG_eq (by omega)]
  refine List.mem_map.mpr ⟨q, List.mem_filter.mpr ⟨List.mem_range.mpr hq, ?_⟩, rfl⟩
  refine decide_eq_true ?_
  have := mis_take (g.rows.getD q "") (g.rows.getD q "").length (Nat.le_refl _)
  rw [show tkS (g.rows.getD q "") (g.rows.getD q "").length = g.rows.getD q "" from tkS_all _] at this
  omega

/-! ### a keeper beside cells that change -/
theorem Wr.up {K : PySem.W.Frag} {C : Addr} {H B : Hp} {x : Addr} {rows : List Str} {fl : List Nat} {n : Nat} (h : Wr K C H x rows fl n) (k : ∀ a o, H a = some o → (∀ xs, o ≠ .lst xs) → B a = some o) : Wr K C B x rows fl n := by
  obtain ⟨dx, p1, p2, h1, h2, h3⟩ := h
  exact ⟨dx, p1, p2, k _ _ h1 (fun _ e => by cases e), SqT.up h2 k, SqT.up h3 k⟩
theorem KpB.up {K : PySem.W.Frag} {CW : Addr} {H B : Hp} {wr bu : Addr} {g : Gm} (h : KpB K CW H wr bu g) (k : ∀ a o, H a = some o → (∀ xs, o ≠ .lst xs) → B a = some o) : KpB K CW B wr bu g := ⟨Wr.up h.1 k, SqT.up h.2 k⟩
theorem KpB.set {K : PySem.W.Frag} {CW C : Addr} {H : Hp} {k dx wr bu : Addr} {g : Gm} {s : Str} {e : Int} {o : HO} (h : KpB K CW H wr bu g) (hk : H k = some (.ins C dx (kfz s e wr bu))) : KpB K CW (upd H k o) wr bu g := by
  obtain ⟨⟨dw, p1, p2, h1, h2, h3⟩, h4⟩ := h
  refine ⟨⟨dw, p1, p2, ?_, SqT.offI h2 hk, SqT.offI h3 hk⟩, SqT.offI h4 hk⟩
  rw [upd_ne]
  · exact h1
  · intro z
    rw [z, hk] at h1
    have h5 := congrArg (fun o : Option HO => match o with | some (.ins _ _ fs) => (fs.map Prod.fst)[0]? | _ => none) h1
    exact absurd h5 (by show ¬ (some ("seen" : Str) = some ("rows" : Str)); decide)

/-! ### a keeper is told anything -/
def spKT2 (K : PySem.W.Frag) (C CW CN : Addr) : Sp := fun vs H Q E => ∃ (x dx wr bu : Addr) (g : Gm) (seen : Str) (e : Int) (v : V) (d : PyData), vs = [.ref x, v] ∧ H x = some (.ins C dx (kfz seen e wr bu)) ∧ KpB K CW H wr bu g ∧ GmOk g ∧ seen.length < 1000 ∧ Dp K H v d ∧ ((∃ b : Nat, v = .int b ∧ d = .int b ∧ b ≤ 1 ∧ ∀ H', Same (upd H x (.ins C dx (kfz (seen ++ bitS b) (e + if gssG g seen = b then 0 else 1) wr bu))) H' → Q .non H') ∨ (isBitD d = false ∧ ∀ H' dd, Same H H' → H' dd = some (.xd [("number", v)]) → E (.ref CN) (some dd) H'))
def spKL (K : PySem.W.Frag) (C CW : Addr) : Sp := fun vs H Q _ => ∃ (x dx wr bu : Addr) (g : Gm) (seen : Str) (e : Int), vs = [.ref x] ∧ H x = some (.ins C dx (kfz seen e wr bu)) ∧ KpB K CW H wr bu g ∧ GmOk g ∧ seen.length ≤ 1000 ∧ ∀ H' p, Same H H' → H p = none → H' p = some (.tup ((livG g seen).map nI)) → Q (.ref p) H'
section
variable {P : Program} {w : World} {K : PySem.W.Frag} {mg : Str → Option Value} {base : Heap} {C_Share C_Writers C_Keeper C_Breaker : Addr} {C_InvalidNumber : Addr}
theorem ok_Keeper_living {f : Addr} {fd : FuncData} (F : Fun K "living" "Keeper.living" s_Keeper_living f fd) (T : Txt K mg C_Share C_Writers C_Keeper C_Breaker) (c : KpC K C_Keeper) (c_Writers_living_at : Met P w K mg base 2 C_Writers "living_at" (spLiv K C_Writers)) : FnOk P w K mg base CX0 3 f fd ["self"] (spKL K C_Keeper C_Writers) := by
  refine F.ok sc_Keeper_living (fun vs H Q E h => ?_) (fun cdv A outer s H vs Q E hr h => ?_)
  · obtain ⟨x, dx, wr, bu, g, seen, e, rfl, _⟩ := h
    rfl
  · obtain ⟨x, dx, wr, bu, g, seen, e, rfl, hx, hB, G, hsl, q⟩ := h
    refine ⟨_, (pss_one (ps_ret (pe_mt c_Writers_living_at hr (by omega) (pe_fld (pv 0) rfl) (pa_cons (pe_fld (pv 0) rfl) pa_nil)))), ?_⟩
    have hBW := hB.1
    obtain ⟨dw, p1, p2, hw, _, _⟩ := hBW
    refine ⟨_, rfl, x, C_Keeper, dx, _, _, rfl, hx, c.ins.cl, c.nw, kfz_w, wr, dw, _, rfl, hw, rfl, _, rfl, x, C_Keeper, dx, _, _, rfl, hx, c.ins.cl, c.ns, kfz_s, ?_⟩
    exact ⟨wr, seen, g.rows, List.replicate g.rows.length 0, g.n, rfl, hB.1, by rw [List.length_replicate]; exact Nat.le_refl _, by have := G.len; omega, by omega, fun H1 p s1 hp0 hp => q H1 p s1 hp0 hp⟩
theorem ok_hear2 {f : Addr} {fd : FuncData} (F : Fun K "hear" "hear" s_hear f fd) (T : Txt K mg C_Share C_Writers C_Keeper C_Breaker) (c : KpC K C_Keeper) (c_check_bit : CalX P w K mg base 3 "check_bit" (spCheckBit K C_InvalidNumber)) (c_Keeper_guess : Met P w K mg base 5 C_Keeper "guess" (spKG K C_Keeper C_Writers)) : FnOk P w K mg base (L2N.CX P w) 6 f fd ["guesser", "bit"] (spKT2 K C_Keeper C_Writers C_InvalidNumber) := by
  refine Fun_okN F sc_hear (fun vs H Q E h => ?_) (fun cdv A outer s H vs Q E hr h => ?_)
  · obtain ⟨x, dx, wr, bu, g, seen, e, v, d, rfl, _⟩ := h
    rfl
  · obtain ⟨x, dx, wr, bu, g, seen, e, v, d, rfl, hx, hB, G, hsl, hv, hq⟩ := h
    refine ⟨_, (pss_cons (ps_expr (pe_xS c_check_bit hr (by omega) (by rfl) (L2N.takes_of rfl rfl rfl rfl) (pa_cons (pv 1) pa_nil)))
    (C8.pss_cut (ps_if (pt_cmpR op_ne (pe_mt0 c_Keeper_guess hr (by omega) (pv 0)) (pv 1) (nomark _))
      (pss_one (ps_fldaug (pv 0) pe_int in_add))
      pss_nil)
    (pss_one (ps_fldaug (pv 0) (pe_callTy call_str_int (by rfl) T.b_str (by decide +kernel) (pa_cons (pv 1) pa_nil)) in_addS)))), ?_⟩
    rcases hq with ⟨b, rfl, rfl, hb, q⟩ | ⟨hbd, q⟩
    case inr => exact ⟨_, rfl, _, d, rfl, hv, .inr ⟨hbd, fun H1 dd s1 h1 => q H1 dd s1 h1⟩⟩
    have hbd : isBitD (.int (b : Int)) = true := by
      show (decide ((0 : Int) ≤ (b : Int)) && decide ((b : Int) ≤ 1)) = true
      rw [decide_eq_true (show (0 : Int) ≤ (b : Int) by omega), decide_eq_true (show (b : Int) ≤ 1 by omega)]
      rfl
    refine ⟨_, rfl, _, .int (b : Int), rfl, .int _, .inl ⟨hbd, ?_⟩⟩
    refine ⟨fun σ H' => σ = [some (.ref x), some (.int (b : Int))] ∧ Same (upd H x (.ins C_Keeper dx (kfz seen (e + if gssG g seen = b then 0 else 1) wr bu))) H', ?_, ?_⟩
    · refine ⟨_, rfl, x, dx, _, rfl, hx, rfl, x, dx, wr, bu, g, seen, e, rfl, hx, hB, G, by omega, fun H1 s1 => ?_⟩
      have hx1 := s1 _ _ hx
      refine ⟨_, rfl, rfl, _, rfl, ite2 (fun h => ?_) (fun h => ?_)⟩
      · have hne : ¬ gssG g seen = b := fun z => by
          rw [z] at h
          exact absurd h (by show ¬ (!decide (V.int (b : Int) = V.int (b : Int))) = true; rw [decide_eq_true rfl]; decide)
        rw [if_neg hne]
        exact ⟨_, rfl, x, C_Keeper, dx, _, _, rfl, hx1, c.ins.cl, c.ne, kfz_e, _, _, rfl, rfl, dx, _, hx1, by show 4 < 1000; decide, rfl, same_set s1⟩
      · have heq : gssG g seen = b := by
          refine Classical.byContradiction fun z => h ?_
          show (!decide (V.int (gssG g seen : Nat) = V.int (b : Int))) = true
          rw [decide_eq_false (fun w => z (by have := V.int.inj w; omega))]
          rfl
        rw [if_pos heq, Int.add_zero]
        exact ⟨rfl, (same_self hx).trans s1⟩
    · rintro σ H2 ⟨rfl, s2⟩
      have hx2 := s2 _ _ upd_same
      have hbs : Str.ofString (toString (b : Int)) = bitS b := by
        rcases (by omega : b = 0 ∨ b = 1) with z | z <;> subst z <;> rfl
      refine ⟨_, rfl, x, C_Keeper, dx, _, _, rfl, hx2, c.ins.cl, c.ns, kfz_s, _, rfl, (b : Int), rfl, ?_, seen, bitS b, rfl, congrArg V.str hbs, szle ?_, dx, _, hx2, by show 4 < 1000; decide, ?_⟩
      · rcases (by omega : b = 0 ∨ b = 1) with z | z <;> subst z <;> decide
      · have : (bitS b).length = 1 := by rcases (by omega : b = 0 ∨ b = 1) with z | z <;> subst z <;> rfl
        omega
      · have t := same_set (p := x) (o := .ins C_Keeper dx (kfz (seen ++ bitS b) (e + if gssG g seen = b then 0 else 1) wr bu)) s2
        rw [upd_upd] at t
        exact q _ t
theorem ok_Keeper_tell2 {f : Addr} {fd : FuncData} (F : Fun K "tell" "Keeper.tell" s_Keeper_tell f fd) (T : Txt K mg C_Share C_Writers C_Keeper C_Breaker) (c_hear : CalX P w K mg base 6 "hear" (spKT2 K C_Keeper C_Writers C_InvalidNumber)) : FnOk P w K mg base (L2N.CX P w) 7 f fd ["self", "bit"] (spKT2 K C_Keeper C_Writers C_InvalidNumber) := by
  refine Fun_okN F sc_Keeper_tell (fun vs H Q E h => ?_) (fun cdv A outer s H vs Q E hr h => ?_)
  · obtain ⟨x, dx, wr, bu, g, seen, e, v, d, rfl, _⟩ := h
    rfl
  · obtain ⟨x, dx, wr, bu, g, seen, e, v, d, rfl, hx, hB, G, hsl, hv, hq⟩ := h
    refine ⟨_, (pss_one (ps_expr (pe_xS c_hear hr (by omega) (by rfl) (L2N.takes_of rfl rfl rfl rfl) (pa_cons (pv 0) (pa_cons (pv 1) pa_nil))))), ?_⟩
    exact ⟨_, rfl, _, rfl, x, dx, wr, bu, g, seen, e, v, d, rfl, hx, hB, G, hsl, hv, hq⟩
end

/-! ### refused unless a row of numbers -/
def spCheckB (K : PySem.W.Frag) (CB : Addr) : Sp := fun vs H Q E => ∃ v d n, vs = [v] ∧ Dp K H v d ∧ okD n d = true ∧ ((rowD d = true ∧ ∀ H', Same H H' → Q .non H') ∨ (rowD d = false ∧ ∀ H' dd, Same H H' → H' dd = some (.xd [("budgets", v)]) → E (.ref CB) (some dd) H'))
section
variable {P : Program} {w : World} {K : PySem.W.Frag} {mg : Str → Option Value} {base : Heap} {C_Share C_Writers C_Keeper C_Breaker : Addr} {C_InvalidBudgets : Addr}
theorem ok_check_budgets {f : Addr} {fd : FuncData} (F : Fun K "check_budgets" "check_budgets" s_check_budgets f fd) (T : Txt K mg C_Share C_Writers C_Keeper C_Breaker) (x_InvalidBudgets : XErr P K mg "InvalidBudgets" C_InvalidBudgets ["budgets"]) (c_are_numbers : Cal P w K mg base 3 "are_numbers" (spRow K)) : FnOk P w K mg base (L2N.CX P w) 4 f fd ["budgets"] (spCheckB K C_InvalidBudgets) := by
  refine Fun_okN F sc_check_budgets (fun vs H Q E h => ?_) (fun cdv A outer s H vs Q E hr h => ?_)
  · obtain ⟨v, d, n, rfl, _⟩ := h
    rfl
  · obtain ⟨v, d, n, rfl, hv, hok, q⟩ := h
    refine ⟨_, (pss_one (ps_if (pt_not (pt_val (pe_c c_are_numbers hr (by omega) (by rfl) (pa_cons (pv 0) pa_nil))))
      (pss_one (ps_raiseX rfl x_InvalidBudgets hr (L2N.takes_of rfl rfl rfl rfl) (pa_cons (pv 0) pa_nil)))
      pss_nil)), ?_⟩
    refine ⟨_, rfl, v, d, n, rfl, hv, hok, fun H1 s1 => ⟨_, rfl, ?_⟩⟩
    rcases q with ⟨hr, q⟩ | ⟨hr, q⟩
    · rw [hr]
      exact iteF (q _ s1)
    · rw [hr]
      exact iteT ⟨_, rfl, rfl, fun dd hd => q _ dd (s1.trans (same_upd hd)) upd_same⟩
end

def spCanKeep (K : PySem.W.Frag) (CB : Addr) : Sp := fun vs H Q E => ∃ v d n, vs = [v] ∧ Dp K H v d ∧ okD n d = true ∧ (rowD d = true → (lensD d).length ≤ 100000 ∧ ∀ n ∈ lensD d, n ≤ 40) ∧ ((rowD d = true ∧ ∀ H', Same H H' → Q (.bl (decide (kr (lensD d) < 2 * 2 ^ 40))) H') ∨ (rowD d = false ∧ ∀ H' dd, Same H H' → H' dd = some (.xd [("budgets", v)]) → E (.ref CB) (some dd) H'))
section
variable {P : Program} {w : World} {K : PySem.W.Frag} {mg : Str → Option Value} {base : Heap} {C_Share C_Writers C_Keeper C_Breaker : Addr} {C_InvalidBudgets : Addr}
theorem ok_can_keep {f : Addr} {fd : FuncData} (F : Fun K "can_keep" "can_keep" s_can_keep f fd) (T : Txt K mg C_Share C_Writers C_Keeper C_Breaker) (c_check_budgets : CalX P w K mg base 4 "check_budgets" (spCheckB K C_InvalidBudgets)) : FnOk P w K mg base (L2N.CX P w) 5 f fd ["budgets"] (spCanKeep K C_InvalidBudgets) := by
  refine Fun_okN F sc_can_keep (fun vs H Q E h => ?_) (fun cdv A outer s H vs Q E hr h => ?_)
  · obtain ⟨v, d, n, rfl, _⟩ := h
    rfl
  · obtain ⟨v, d, n, rfl, hv, hok, hlen, q⟩ := h
    refine ⟨_, (pss_cons (ps_expr (pe_xS c_check_budgets hr (by omega) (by rfl) (L2N.takes_of rfl rfl rfl rfl) (pa_cons (pv 0) pa_nil)))
    (pss_cons (ps_set (i := 1) sc_can_keep.nd rfl (by first | exact Or.inl rfl | exact Or.inr rfl) pe_int)
    (pss_cons (ps_set (i := 2) sc_can_keep.nd rfl (by first | exact Or.inl rfl | exact Or.inr rfl) pe_int)
    (pss_cons (ps_for (passes_of rfl) rfl (pi_enum (by rfl) T.b_enumerate (pa_cons (pe_callB cr_sortedLT (by rfl) T.b_sorted (by decide +kernel) (pa_cons (pv 0) pa_nil)) pa_nil)) (pg_tup rfl (pgs_cons (pg_name (i := 3) sc_can_keep.nd rfl (by first | exact Or.inl rfl | exact Or.inr rfl)) (pgs_cons (pg_name (i := 4) sc_can_keep.nd rfl (by first | exact Or.inl rfl | exact Or.inr rfl)) pgs_nil)))
      (pss_cons (ps_set (i := 5) sc_can_keep.nd rfl (by first | exact Or.inl rfl | exact Or.inr rfl) (pe_op op_sub (pe_callB call_len_seq (by rfl) T.b_len PySem.boot_len (pa_cons (pv 0) pa_nil)) (pv 3)))
        (pss_cons (ps_set (i := 6) sc_can_keep.nd rfl (by first | exact Or.inl rfl | exact Or.inr rfl) (pe_op op_sub (pv 4) (pv 2)))
        (pss_cons (ps_if (pt_cmpR op_ge (pv 6) (pe_bits (pv 5)) (nomark _))
          (pss_one (ps_ret pe_bl))
          pss_nil)
        (pss_cons (ps_set (i := 1) sc_can_keep.nd rfl (by first | exact Or.inl rfl | exact Or.inr rfl) (pe_op op_sub (pe_op op_shlW (pv 1) (pv 6)) pe_int))
        (pss_cons (ps_set (i := 2) sc_can_keep.nd rfl (by first | exact Or.inl rfl | exact Or.inr rfl) (pv 4))
        (pss_one (ps_if (pt_cmpR op_eq (pv 1) pe_int (nomark _))
          (pss_one (ps_ret pe_bl))
          pss_nil))))))))
    (pss_one (ps_ret pe_bl)))))), ?_⟩
    rcases q with ⟨hr, q⟩ | ⟨hr, q⟩
    · refine ⟨_, rfl, v, d, n, rfl, hv, hok, .inl ⟨hr, fun H1 s1 => ?_⟩⟩
      obtain ⟨a, rfl, hS, _⟩ := row_at hv hok hr
      obtain ⟨h5, h40⟩ := hlen hr
      obtain ⟨ls, el⟩ : ∃ ls, lensD d = ls := ⟨_, rfl⟩
      rw [el] at hS h5 h40 q
      have em : (ls.map fun n : Nat => (n : Int)).map V.int = ls.map nI := by rw [List.map_map]; rfl
      have hS1 : SqL K H1 a (ls.map nI) ∨ SqT K H1 a (ls.map nI) := hS.imp (fun z => s1.seq z) fun z => sameT s1 z
      refine ⟨_, rfl, a, ls.map fun n : Nat => (n : Int), rfl, by rw [em]; exact hS1, fun ns p hp hpw hn => ?_⟩
      obtain ⟨ss, rfl⟩ : ∃ ss : List Nat, ns = ss.map fun n : Nat => (n : Int) := by
        refine ⟨ns.map Int.toNat, ?_⟩
        rw [List.map_map]
        refine (List.map_id' ns).symm.trans (List.map_congr_left fun z hz => ?_)
        obtain ⟨k, _, rfl⟩ := List.mem_map.mp (hp.mem_iff.mp hz)
        simp
      have hperm : ss.Perm ls := by
        have := hp.map Int.toNat
        rw [List.map_map, List.map_map, show (Int.toNat ∘ fun n : Nat => (n : Int)) = id from funext fun n => Int.toNat_natCast n, List.map_id, List.map_id] at this
        exact this
      have hsort : ss.Pairwise (· ≤ ·) := by
        rw [List.pairwise_map] at hpw
        exact hpw.imp fun z => by omega
      have hkr : kr ls = kr ss := (kr_perm hperm).symm
      have hlen2 : ss.length = ls.length := hperm.length_eq
      have s40 : ∀ n ∈ ss, n ≤ 40 := fun n hn => h40 n (hperm.mem_iff.mp hn)
      have s2 : Same H1 (upd H1 p (.lst ((ss.map fun n : Nat => (n : Int)).map V.int))) := same_upd hn
      have eP : upd H1 p (.lst ((ss.map fun n : Nat => (n : Int)).map V.int)) p = some (.lst (ss.map nI)) := by
        rw [upd_same, List.map_map]
        rfl
      obtain ⟨H2, e2⟩ : ∃ H2, upd H1 p (.lst ((ss.map fun n : Nat => (n : Int)).map V.int)) = H2 := ⟨_, rfl⟩
      rw [e2] at s2 eP ⊢
      rw [hkr] at q
      have fin : ∀ H', Same H2 H' → Q (.bl (decide (kr ss < 2 * 2 ^ 40))) H' := fun H' s3 => q H' ((s1.trans s2).trans s3)
      refine ⟨p, _, rfl, SqL.of eP, for_enumL (xs := ss.map nI) (fun i σ H' => ∃ (v3 v4 v5 v6 : Option V) (room depth : Nat) (x y : Int), σ = [some (.ref a), some (.int x), some (.int y), v3, v4, v5, v6] ∧ Same H2 H' ∧ x = (room : Int) ∧ y = (depth : Int) ∧ Rk (2 * 2 ^ 40) ss i room depth)
        ⟨_, _, _, _, 2, 0, 2, 0, rfl, fun _ _ e => e, rfl, rfl, Rk.ini ss (by decide)⟩ (fun i σ H' _ h => ?_) ?_ ?_⟩
      · obtain ⟨_, _, _, _, _, _, _, _, _, s3, _⟩ := h
        exact SqL.of (s3 _ _ eP)
      · rintro i x σ H' hi ⟨v3, v4, v5, v6, room, depth, x1, y1, rfl, s3, rfl, rfl, R⟩ TT hT
        obtain ⟨l, hl, rfl⟩ : ∃ l, ss[i]? = some l ∧ nI l = x := by
          rw [List.getElem?_map] at hi
          cases e : ss[i]? with
          | none => rw [e] at hi; cases hi
          | some n => rw [e] at hi; exact ⟨n, rfl, Option.some.inj hi⟩
        have hil := (List.getElem?_eq_some_iff.mp hl).1
        have hl40 := s40 l (List.mem_of_getElem? hl)
        have hd := R.le hsort hl
        have s4 : Same H2 (upd H' TT (.tup [.int (i : Nat), nI l])) := s3.trans (same_upd hT)
        have hS4 := hS1.imp (fun z => (s2.trans s4).seq z) fun z => sameT (s2.trans s4) z
        obtain ⟨H4, e4⟩ : ∃ H4, upd H' TT (.tup [.int (i : Nat), nI l]) = H4 := ⟨_, rfl⟩
        have eT : H4 TT = some (.tup [.int (i : Nat), nI l]) := by rw [← e4]; exact upd_same
        rw [e4] at s4 hS4 ⊢
        refine ⟨TT, _, rfl, SqT.of eT, rfl, _, _, rfl, _, _, rfl, rfl, ?_⟩
        -- left, down
        have hll : i < ls.length := by omega
        refine ⟨_, rfl, a, _, rfl, hS4, _, rfl, _, _, rfl, rfl, ?_⟩
        refine ⟨_, rfl, _, rfl, _, _, rfl, rfl, ?_⟩
        refine ⟨_, rfl, _, rfl, _, rfl, _, _, rfl, rfl, _, rfl, ?_⟩
        have e1 : (((ls.map nI).length : Nat) : Int) - (i : Int) = ((ls.length - i : Nat) : Int) := by rw [List.length_map]; omega
        have e2 : (l : Int) - (depth : Int) = ((l - depth : Nat) : Int) := by omega
        refine ite2 (fun hb => ?_) (fun hb => ?_)
        · have hb1 : ((Builtin.Int.intBits ((((ls.map nI).length : Nat) : Int) - (i : Int)) : Nat) : Int) ≤ (l : Int) - (depth : Int) := of_decide_eq_true hb
          rw [e1, e2] at hb1
          have lt := R.enough hsort hl hl40 (by rw [hlen2]; exact bits_up (by omega))
          have := fin _ s4
          rw [decide_eq_true lt] at this
          exact this
        · have hb1 : ¬ ((Builtin.Int.intBits ((((ls.map nI).length : Nat) : Int) - (i : Int)) : Nat) : Int) ≤ (l : Int) - (depth : Int) := fun z => hb (decide_eq_true z)
          have hbs := bits_dn (n := room) (m := 42) (by have := R.small; omega)
          have cs : CShl (room : Int) ((l : Int) - (depth : Int)) := ⟨by omega, by omega⟩
          obtain ⟨n1, n2, n3⟩ := R.nxt hsort hl hl40
          have er : (room : Int) * 2 ^ ((l : Int) - (depth : Int)).toNat - 1 = ((room * 2 ^ (l - depth) - 1 : Nat) : Int) := by
            rw [e2, Int.toNat_natCast, Int.natCast_sub n1, Int.natCast_mul, Int.natCast_pow]
            rfl
          refine ⟨_, rfl, _, rfl, _, _, rfl, rfl, cs, _, _, rfl, rfl, ?_⟩
          refine ⟨_, rfl, ?_⟩
          refine ⟨_, rfl, rfl, _, rfl, ?_⟩
          refine ite2 (fun hz => ?_) (fun hz => ?_)
          · have hz1 : (room : Int) * 2 ^ ((l : Int) - (depth : Int)).toNat - 1 = 0 := V.int.inj (of_decide_eq_true hz)
            have := fin _ s4
            rw [decide_eq_false (by have := n2 (by omega); omega)] at this
            exact this
          · have hz1 : (room : Int) * 2 ^ ((l : Int) - (depth : Int)).toNat - 1 ≠ 0 := fun z => hz (decide_eq_true (congrArg V.int z))
            exact ⟨_, _, _, _, room * 2 ^ (l - depth) - 1, l, _, _, rfl, s4, er, rfl, n3 (by omega)⟩
      · rintro σ H' ⟨v3, v4, v5, v6, room, depth, x1, y1, rfl, s3, rfl, rfl, R⟩
        rw [List.length_map] at R
        have := fin H' s3
        rw [decide_eq_true R.fin] at this
        exact this
    · exact ⟨_, rfl, v, d, n, rfl, hv, hok, .inr ⟨hr, fun H1 dd s1 hd => q H1 dd s1 hd⟩⟩
end

/-! ### breakers: pairs of a budget and a program -/
/-- a list of pairs -/
def Prs (H : Hp) (ys : List V) (ks : List (Int × Int)) : Prop := ys.length = ks.length ∧ ∀ (i : Nat) (y : V), ys[i]? = some y → ∃ (t : Addr) (p : Int × Int), y = .ref t ∧ ks[i]? = some p ∧ H t = some (.tup [.int p.1, .int p.2])
theorem Prs.mono {H H' : Hp} {ys : List V} {ks : List (Int × Int)} (h : Prs H ys ks) (s : Same H H') : Prs H' ys ks := ⟨h.1, fun i y hi => by
  obtain ⟨t, p, e1, e2, e3⟩ := h.2 i y hi
  exact ⟨t, p, e1, e2, s _ _ e3⟩⟩
theorem Prs.nil {H : Hp} : Prs H [] [] := ⟨rfl, fun i y h => by cases h⟩
theorem Prs.snoc {H : Hp} {ys : List V} {ks : List (Int × Int)} (h : Prs H ys ks) {t : Addr} {p : Int × Int} (ht : H t = some (.tup [.int p.1, .int p.2])) : Prs H (ys ++ [.ref t]) (ks ++ [p]) := by
  refine ⟨by simp [h.1], fun i y hi => ?_⟩
  by_cases hlt : i < ys.length
  · rw [List.getElem?_append_left hlt] at hi
    obtain ⟨t2, p2, e1, e2, e3⟩ := h.2 i y hi
    exact ⟨t2, p2, e1, by rw [List.getElem?_append_left (by rw [← h.1]; exact hlt)]; exact e2, e3⟩
  · have hj2 := (List.getElem?_eq_some_iff.mp hi).1
    have e : i = ys.length := by simp at hj2; omega
    subst e
    rw [List.getElem?_append_right (Nat.le_refl _), Nat.sub_self] at hi
    cases Option.some.inj hi
    refine ⟨t, p, rfl, ?_, ht⟩
    rw [h.1, List.getElem?_append_right (Nat.le_refl _), Nat.sub_self]
    rfl
theorem Prs.off {H : Hp} {ys xs : List V} {ks : List (Int × Int)} {D : Addr} {o : HO} (h : Prs H ys ks) (hD : H D = some (.lst xs)) : Prs (upd H D o) ys ks := ⟨h.1, fun i y hi => by
  obtain ⟨t, p, e1, e2, e3⟩ := h.2 i y hi
  exact ⟨t, p, e1, e2, by rw [upd_ne (fun e => by rw [e, hD] at e3; cases e3)]; exact e3⟩⟩
def spInOrd (K : PySem.W.Frag) : Sp := fun vs H Q _ => ∃ (a : Addr) (ls : List Nat), vs = [.ref a] ∧ (SqL K H a (ls.map nI) ∨ SqT K H a (ls.map nI)) ∧ ls.length ≤ 100000 ∧ ∀ H' po ys ks, Same H H' → H po = none → H' po = some (.lst ys) → Prs H' ys ks → IsOrd ls ks → Q (.ref po) H'
def spLess (K : PySem.W.Frag) : Sp := fun vs H Q _ => ∃ (a : Addr) (ys : List V) (ks : List (Int × Int)), vs = [.ref a] ∧ SqL K H a ys ∧ Prs H ys ks ∧ ks.length ≤ 100000 ∧ ∀ H' po ys', Same H H' → H po = none → H' po = some (.lst ys') → Prs H' ys' (ks.map fun p => (p.1 - 1, p.2)) → Q (.ref po) H'
def Brk (ks : List (Int × Int)) (v : V) : Prop := ((∀ p ∈ ks, p.1 ≠ 0) ∧ v = .non) ∨ ∃ m : Int, v = .int m ∧ (∃ p ∈ ks, p.1 = 0 ∧ p.2 = m) ∧ ∀ p ∈ ks, p.1 = 0 → m ≤ p.2
def spBrk (K : PySem.W.Frag) : Sp := fun vs H Q _ => ∃ (a : Addr) (ys : List V) (ks : List (Int × Int)), vs = [.ref a] ∧ SqL K H a ys ∧ Prs H ys ks ∧ ks.length ≤ 100000 ∧ ∀ H' v, Same H H' → Brk ks v → Q v H'
def spSides (K : PySem.W.Frag) : Sp := fun vs H Q _ => ∃ (a : Addr) (ys : List V) (ks : List (Int × Int)) (ls : List Nat), vs = [.ref a] ∧ SqL K H a ys ∧ Prs H ys ks ∧ ks.length ≤ 100000 ∧ ls.length = ks.length ∧ (∀ (i : Nat) (p : Int × Int), ks[i]? = some p → ∃ l : Nat, ls[i]? = some l ∧ p.1 = l) ∧ ls.Pairwise (· ≤ ·) ∧ (∀ l ∈ ls, l ≤ 40) ∧ 2 ^ 40 ≤ kr ls ∧
  ∀ H' p pa pb m, Same H H' → m ≤ ls.length → kr (ls.take m) = 2 ^ 40 → H' p = some (.tup [.ref pa, .ref pb]) → H' pa = some (.lst (ys.take m)) → H' pb = some (.lst (ys.drop m)) → Q (.ref p) H'
def spBreakable (K : PySem.W.Frag) (CB : Addr) : Sp := fun vs H Q E => ∃ v d n, vs = [v] ∧ Dp K H v d ∧ okD n d = true ∧ (rowD d = true → (lensD d).length ≤ 100000 ∧ ∀ n ∈ lensD d, n ≤ 40) ∧ (((rowD d && !decide (kr (lensD d) < 2 * 2 ^ 40)) = true ∧ ∀ H', Same H H' → Q .non H') ∨ ((rowD d && !decide (kr (lensD d) < 2 * 2 ^ 40)) = false ∧ ∀ H' dd, Same H H' → H' dd = some (.xd [("budgets", v)]) → E (.ref CB) (some dd) H'))
section
variable {P : Program} {w : World} {K : PySem.W.Frag} {mg : Str → Option Value} {base : Heap} {C_Share C_Writers C_Keeper C_Breaker : Addr} {C_InvalidBudgets : Addr}
theorem ok_in_order {f : Addr} {fd : FuncData} (F : Fun K "_in_order" "_in_order" s_in_order f fd) (T : Txt K mg C_Share C_Writers C_Keeper C_Breaker) : FnOk P w K mg base CX0 1 f fd ["budgets"] (spInOrd K) := by
  refine F.ok sc_in_order (fun vs H Q E h => ?_) (fun cdv A outer s H vs Q E hr h => ?_)
  · obtain ⟨a, ls, rfl, _⟩ := h
    rfl
  · obtain ⟨a, ls, rfl, hS, hl5, q⟩ := h
    refine ⟨_, (pss_one (ps_ret (pe_callB cr_sortedPO (by rfl) T.b_sorted (by decide +kernel) (pa_cons (pe_lc (own := [("program", 1), ("budget", 2)]) rfl sc_in_order.nd (pi_enumJ (by rfl) T.b_enumerate (pa_cons (pv 0) pa_nil)) (blkOk_by (own := [("program", 1), ("budget", 2)]) (N := ["budgets", "program", "budget"]) (sc := defScope s_in_order) (by decide +kernel)) (fun _ _ _ _ _ => (pg_two K (i := 1) (j := 2) sc_in_order.nd rfl rfl)) (fun _ _ _ _ _ => pts_nil) (fun _ _ _ _ _ => (pe_tup (pa_cons (pv 2) (pa_cons (pv 1) pa_nil))))) pa_nil)))), ?_⟩
    refine ⟨_, rfl, a, _, rfl, hS, fun J S LE sJ => fun D hD => lc_enumJ LE (fun i H' => ∃ ts : List V, Same H H' ∧ H' D = some (.lst ts) ∧ ts.length = i ∧ ∀ (j : Nat) (y : V), ts[j]? = some y → ∃ (t : Addr) (l : Nat), y = .ref t ∧ ls[j]? = some l ∧ H' t = some (.tup [.int (l : Int), .int (j : Int)])) ⟨[], same_upd hD, upd_same, rfl, fun j y h => by cases h⟩ (fun i H' _ h => by obtain ⟨_, sm, _⟩ := h; exact LE.mono _ _ sm sJ) ?_ ?_⟩
    · rintro i x H' hi ⟨ts, sm, eD, hl, hts⟩ T hT
      obtain ⟨l, hil, rfl⟩ := getN hi
      have hil' := (List.getElem?_eq_some_iff.mp hil).1
      refine ⟨T, _, rfl, SqT.of upd_same, rfl, _, _, rfl, _, _, rfl, rfl, ?_⟩
      refine ⟨rfl, iteT (B := ∃ ts : List V, Same H H' ∧ H' D = some (.lst ts) ∧ ts.length = i + 1 ∧ ∀ (j : Nat) (y : V), ts[j]? = some y → ∃ (t : Addr) (l : Nat), y = .ref t ∧ ls[j]? = some l ∧ H' t = some (.tup [.int (l : Int), .int (j : Int)])) ?_⟩
      have sT := sm.trans (same_upd (o := .tup [.int (i : Nat), nI l]) hT)
      refine ⟨_, rfl, _, rfl, szle (by show 2 ≤ 16777216; decide), fun t2 ht2 => ?_⟩
      have nD2 : D ≠ t2 := fun z => by
        have nDT : D ≠ T := ne_of_none eD hT
        rw [← z, upd_ne nDT, eD] at ht2
        cases ht2
      have nDT : D ≠ T := ne_of_none eD hT
      have sT2 := sT.trans (same_upd (o := .tup [nI l, .int (i : Nat)]) ht2)
      refine ⟨ts, by rw [upd_ne nD2, upd_ne nDT]; exact eD, szl (by omega), ts ++ [.ref t2], same_out sT2 hD, upd_same, by simp [hl], fun j y hj => ?_⟩
      by_cases hlt : j < ts.length
      · rw [List.getElem?_append_left hlt] at hj
        obtain ⟨t, l', ey, hlj, ht⟩ := hts j y hj
        refine ⟨t, l', ey, hlj, ?_⟩
        have ntD : t ≠ D := fun z => by rw [z, eD] at ht; cases ht
        rw [upd_ne ntD]
        exact same_upd ht2 _ _ (same_upd hT _ _ ht)
      · have hj2 := (List.getElem?_eq_some_iff.mp hj).1
        have e : j = i := by simp at hj2; omega
        subst e
        rw [List.getElem?_append_right (by omega), hl, Nat.sub_self] at hj
        cases Option.some.inj hj
        exact ⟨t2, l, rfl, hil, by rw [upd_ne nD2.symm]; exact upd_same⟩
    rintro H4 ⟨ts, sm, eD, hl, hts⟩
    rw [List.length_map] at hl
    obtain ⟨pm1, pm2⟩ := pairs_made hl hts
    refine ⟨D, ts, kOf H4, rfl, SqL.of eD, pm2, fun ys po srt stb hpo => ?_⟩
    have ho := ord_of pm1 srt stb.perm
    have hperm2 := stb.perm
    have s6 := same_upd (o := .lst ys) hpo
    refine q _ po ys (ys.map (kOf H4)) (sm.trans s6) (sm.free hpo) upd_same ⟨by rw [List.length_map], fun i y hi => ?_⟩ ho
    obtain ⟨t, ey, ht⟩ := pm2 y (hperm2.mem_iff.mp (List.mem_of_getElem? hi))
    exact ⟨t, kOf H4 y, ey, by rw [List.getElem?_map, hi]; rfl, s6 _ _ ht⟩
theorem ok_with_less {f : Addr} {fd : FuncData} (F : Fun K "_with_less" "_with_less" s_with_less f fd) (T : Txt K mg C_Share C_Writers C_Keeper C_Breaker) : FnOk P w K mg base CX0 1 f fd ["side"] (spLess K) := by
  refine F.ok sc_with_less (fun vs H Q E h => ?_) (fun cdv A outer s H vs Q E hr h => ?_)
  · obtain ⟨a, ys, ks, rfl, _⟩ := h
    rfl
  · obtain ⟨a, ys, ks, rfl, hS, hP, hl, q⟩ := h
    refine ⟨_, (pss_one (ps_ret (pe_lc (own := [("budget", 1), ("program", 2)]) rfl sc_with_less.nd (pi_list (pv 0)) (blkOk_by (own := [("budget", 1), ("program", 2)]) (N := ["side", "budget", "program"]) (sc := defScope s_with_less) (by decide +kernel)) (fun _ _ _ _ _ => (pg_two K (i := 1) (j := 2) sc_with_less.nd rfl rfl)) (fun _ _ _ _ _ => pts_nil) (fun _ _ _ _ _ => (pe_tup (pa_cons (pe_op op_sub (pv 1) pe_int) (pa_cons (pv 2) pa_nil))))))), ?_⟩
    refine ⟨_, rfl, a, rfl, ⟨_, hS⟩, fun D hD => lc_list (K := K) (a := a) (xs := ys) (fun i H' => ∃ zs : List V, Same H H' ∧ H' D = some (.lst zs) ∧ zs.length = i ∧ Prs H' zs ((ks.take i).map fun p => (p.1 - 1, p.2))) ⟨[], same_upd hD, upd_same, rfl, Prs.nil⟩ (fun i H' _ h => ?_) ?_ ?_⟩
    · obtain ⟨_, sm, _⟩ := h
      exact sm.seq hS
    · rintro i x H' hi ⟨zs, sm, eD, hz, hp⟩
      obtain ⟨t, p, rfl, hk, ht⟩ := hP.2 i x hi
      have hil := (List.getElem?_eq_some_iff.mp hk).1
      refine ⟨t, _, rfl, SqT.of (sm _ _ ht), rfl, _, _, rfl, _, _, rfl, rfl, ?_⟩
      refine ⟨rfl, ?_⟩
      refine tyes ?_
      refine ⟨_, rfl, _, _, rfl, rfl, _, rfl, szle (by show 2 ≤ 16777216; decide), fun t2 ht2 => ?_⟩
      have nD2 : D ≠ t2 := ne_of_none eD ht2
      have s2 := same_upd (o := .tup [.int (p.1 - 1), .int p.2]) ht2
      have eD2 := s2 _ _ eD
      refine ⟨zs, eD2, szl (by omega), zs ++ [.ref t2], same_out (sm.trans s2) hD, upd_same, by simp [hz], ?_⟩
      rw [List.take_succ, hk]
      show Prs _ _ (((ks.take i) ++ [p]).map _)
      rw [List.map_append]
      exact ((hp.mono s2).snoc (p := (p.1 - 1, p.2)) upd_same).off eD2
    · rintro H' ⟨zs, sm, eD, hz, hp⟩
      rw [hP.1, List.take_length] at hp
      exact q _ D zs sm hD eD hp
theorem ok_check_breakable {f : Addr} {fd : FuncData} (F : Fun K "_check_breakable" "_check_breakable" s_check_breakable f fd) (T : Txt K mg C_Share C_Writers C_Keeper C_Breaker) (x_InvalidBudgets : XErr P K mg "InvalidBudgets" C_InvalidBudgets ["budgets"]) (c_are_numbers : Cal P w K mg base 3 "are_numbers" (spRow K)) (c_can_keep : CalX P w K mg base 5 "can_keep" (spCanKeep K C_InvalidBudgets)) : FnOk P w K mg base (L2N.CX P w) 6 f fd ["budgets"] (spBreakable K C_InvalidBudgets) := by
  refine Fun_okN F sc_check_breakable (fun vs H Q E h => ?_) (fun cdv A outer s H vs Q E hr h => ?_)
  · obtain ⟨v, d, n, rfl, _⟩ := h
    rfl
  · obtain ⟨v, d, n, rfl, hv, hok, h40, q⟩ := h
    refine ⟨_, (pss_one (ps_if (PW.pt (pw_or (pt_not (pt_val (pe_c c_are_numbers hr (by omega) (by rfl) (pa_cons (pv 0) pa_nil)))) (pw_or1 (pt_val (pe_xS c_can_keep hr (by omega) (by rfl) (L2N.takes_of rfl rfl rfl rfl) (pa_cons (pv 0) pa_nil))))))
      (pss_one (ps_raiseX rfl x_InvalidBudgets hr (L2N.takes_of rfl rfl rfl rfl) (pa_cons (pv 0) pa_nil)))
      pss_nil)), ?_⟩
    refine ⟨_, rfl, v, d, n, rfl, hv, hok, fun H1 s1 => ⟨_, rfl, ?_⟩⟩
    cases hrd : rowD d with
    | false =>
      rw [hrd] at q
      rcases q with ⟨z, _⟩ | ⟨_, q⟩
      · cases z
      · refine iteT ?_
        exact ⟨_, rfl, rfl, fun dd hd => q _ dd (s1.trans (same_upd hd)) upd_same⟩
    | true =>
      refine iteF ?_
      have hv1 := Dp.mono s1 _ _ hv
      refine ⟨_, rfl, v, d, n, rfl, hv1, hok, h40, .inl ⟨hrd, fun H2 s2 => ⟨_, rfl, ?_⟩⟩⟩
      rw [hrd, Bool.true_and] at q
      cases hk : decide (kr (lensD d) < 2 * 2 ^ 40) with
      | true =>
        rw [hk] at q
        rcases q with ⟨z, _⟩ | ⟨_, q⟩
        · cases z
        · refine iteT ?_
          exact ⟨_, rfl, rfl, fun dd hd => q _ dd ((s1.trans s2).trans (same_upd hd)) upd_same⟩
      | false =>
        rw [hk] at q
        rcases q with ⟨_, q⟩ | ⟨z, _⟩
        · exact iteF (q _ (s1.trans s2))
        · cases z
theorem ok_broken_on {f : Addr} {fd : FuncData} (F : Fun K "_broken_on" "_broken_on" s_broken_on f fd) (T : Txt K mg C_Share C_Writers C_Keeper C_Breaker) : FnOk P w K mg base CX0 1 f fd ["side"] (spBrk K) := by
  refine F.ok sc_broken_on (fun vs H Q E h => ?_) (fun cdv A outer s H vs Q E hr h => ?_)
  · obtain ⟨a, ys, ks, rfl, _⟩ := h
    rfl
  · obtain ⟨a, ys, ks, rfl, hS, hP, hl, q⟩ := h
    refine ⟨_, (pss_one (ps_ret (pe_callBK (cr_minDef rfl) (by rfl) T.b_min (by decide +kernel) (pa_cons (pe_lc (own := [("budget", 1), ("program", 2)]) rfl sc_broken_on.nd (pi_list (pv 0)) (blkOk_by (own := [("budget", 1), ("program", 2)]) (N := ["side", "budget", "program"]) (sc := defScope s_broken_on) (by decide +kernel)) (fun _ _ _ _ _ => (pg_two K (i := 1) (j := 2) sc_broken_on.nd rfl rfl)) (fun _ _ _ _ _ => (pts_one (pt_cmpR op_eq (pv 1) pe_int (nomark _)))) (fun _ _ _ _ _ => (pv 2))) pa_nil) (pk_cons pe_non pk_nil)))), ?_⟩
    refine ⟨_, rfl, a, rfl, ⟨_, hS⟩, fun D hD => lc_list (K := K) (a := a) (xs := ys) (fun i H' => Same H H' ∧ H' D = some (.lst ((((ks.take i).filter fun p => decide (p.1 = 0)).map Prod.snd).map V.int))) ⟨same_upd hD, upd_same⟩ (fun i H' _ h => h.1.seq hS) ?_ ?_⟩
    · rintro i x H' hi ⟨sm, eD⟩
      obtain ⟨t, p, rfl, hk, ht⟩ := hP.2 i x hi
      have hil := (List.getElem?_eq_some_iff.mp hk).1
      refine ⟨t, _, rfl, SqT.of (sm _ _ ht), rfl, _, _, rfl, _, _, rfl, rfl, ?_⟩
      have ln : ((((ks.take i).filter fun p => decide (p.1 = 0)).map Prod.snd).map V.int).length ≤ 100000 := by
        rw [List.length_map, List.length_map]
        refine Nat.le_trans (List.length_filter_le _ _) ?_
        rw [List.length_take]
        omega
      have tk : (ks.take (i + 1)).filter (fun p => decide (p.1 = 0)) = (ks.take i).filter (fun p => decide (p.1 = 0)) ++ (if p.1 = 0 then [p] else []) := by
        rw [List.take_succ, hk]
        show ((ks.take i) ++ [p]).filter _ = _
        rw [List.filter_append]
        congr 1
        by_cases z : p.1 = 0
        · rw [if_pos z]
          simp [z]
        · rw [if_neg z]
          simp [z]
      refine ⟨rfl, ?_⟩
      refine ⟨_, rfl, rfl, _, rfl, ite2 (fun h => ?_) (fun h => ?_)⟩
      · have z : p.1 = 0 := V.int.inj (of_decide_eq_true h)
        rw [if_pos z] at tk
        refine ⟨_, rfl, _, eD, szl (by omega), same_out sm hD, ?_⟩
        rw [upd_same, tk, List.map_append, List.map_append]
        rfl
      · have z : ¬ p.1 = 0 := fun w => h (decide_eq_true (congrArg V.int w))
        rw [if_neg z, List.append_nil] at tk
        rw [tk]
        exact ⟨sm, eD⟩
    · rintro H' ⟨sm, eD⟩
      rw [hP.1, List.take_length] at eD
      refine ⟨D, (ks.filter fun p => decide (p.1 = 0)).map Prod.snd, .non, rfl, rfl, .inl (SqL.of eD), fun z => q _ _ sm (.inl ⟨fun p hp hz => ?_, rfl⟩), fun m hm hle => q _ _ sm (.inr ⟨m, rfl, ?_, fun p hp hz => ?_⟩)⟩
      · have : p ∈ ks.filter fun p => decide (p.1 = 0) := List.mem_filter.mpr ⟨hp, decide_eq_true hz⟩
        have h2 := List.mem_map_of_mem (f := Prod.snd) this
        rw [z] at h2
        cases h2
      · obtain ⟨p, hp, e⟩ := List.mem_map.mp hm
        obtain ⟨h1, h2⟩ := List.mem_filter.mp hp
        exact ⟨p, h1, of_decide_eq_true h2, e⟩
      · exact hle _ (List.mem_map_of_mem (f := Prod.snd) (List.mem_filter.mpr ⟨hp, decide_eq_true hz⟩))
theorem ok_sides_of {f : Addr} {fd : FuncData} (F : Fun K "_sides_of" "_sides_of" s_sides_of f fd) (T : Txt K mg C_Share C_Writers C_Keeper C_Breaker) : FnOk P w K mg base CX0 1 f fd ["living"] (spSides K) := by
  refine F.ok sc_sides_of (fun vs H Q E h => ?_) (fun cdv A outer s H vs Q E hr h => ?_)
  · obtain ⟨a, ys, ks, ls, rfl, _⟩ := h
    rfl
  · obtain ⟨a, ys, ks, ls, rfl, hS, hP, hl, hll, hfst, hs, h40, hk, q⟩ := h
    refine ⟨_, (pss_cons (ps_set (i := 1) sc_sides_of.nd rfl (by first | exact Or.inl rfl | exact Or.inr rfl) pe_int)
    (pss_cons (ps_set (i := 2) sc_sides_of.nd rfl (by first | exact Or.inl rfl | exact Or.inr rfl) pe_int)
    (pss_cons (ps_set (i := 3) sc_sides_of.nd rfl (by first | exact Or.inl rfl | exact Or.inr rfl) pe_int)
    (pss_cons (ps_while PassesOwn.never (pt_cmpR op_gt (pv 1) pe_int (nomark _))
      (pss_cons (ps_set (i := 4) sc_sides_of.nd rfl (by first | exact Or.inl rfl | exact Or.inr rfl) (pe_ix ix_tup (pe_ix ix_list (pv 0) (pv 3) (fun _ _ => rfl)) pe_int (fun _ _ => rfl)))
        (pss_cons (ps_set (i := 1) sc_sides_of.nd rfl (by first | exact Or.inl rfl | exact Or.inr rfl) (pe_op op_sub (pe_op op_shlW (pv 1) (pe_op op_sub (pv 4) (pv 2))) pe_int))
        (pss_cons (ps_set (i := 2) sc_sides_of.nd rfl (by first | exact Or.inl rfl | exact Or.inr rfl) (pv 4))
        (pss_one (ps_aug (i := 3) sc_sides_of.nd rfl (by first | exact Or.inl rfl | exact Or.inr rfl) pe_int ip_add))))))
    (pss_one (ps_ret (pe_tup (pa_cons (pe_slice sl_list (pv 0) po_none (po_some (pv 3))) (pa_cons (pe_slice sl_list (pv 0) (po_some (pv 3)) po_none) pa_nil))))))))), ?_⟩
    refine ⟨fun n σ H' => ∃ (i free depth : Nat) (v4 : Option V), σ = [some (.ref a), some (.int (free : Int)), some (.int (depth : Int)), some (.int (i : Int)), v4] ∧ H' = H ∧ Rm ls i free depth ∧ n + i = ls.length, ⟨ls.length, 0, 1, 0, none, rfl, rfl, Rm.ini ls, rfl⟩, ?_⟩
    rintro n σ Hc ⟨i, free, depth, v4, rfl, rfl, R, hn⟩
    refine ⟨_, rfl, _, _, rfl, rfl, _, rfl, ite2 (fun h => ?_) (fun h => ?_)⟩
    · have hf : free ≠ 0 := by have := of_decide_eq_true h; omega
      have hil : i < ls.length := by
        refine Classical.byContradiction fun z => ?_
        have e := R.eq
        rw [List.take_of_length_le (by omega)] at e
        have : 0 < free * 2 ^ (40 - depth) := Nat.mul_pos (by omega) (Nat.pow_pos (by decide))
        omega
      have hyl : i < ys.length := by rw [hP.1, ← hll]; exact hil
      obtain ⟨t, p, ey, hkp, ht⟩ := hP.2 i ys[i] (List.getElem?_eq_getElem hyl)
      obtain ⟨l, hli, hpl⟩ := hfst i p hkp
      have hl40 := h40 l (List.mem_of_getElem? hli)
      have hd := R.le hs hli
      obtain ⟨n1, R2⟩ := R.nxt hs hli hl40 hf
      have hsm := R.small
      have hb : Builtin.Int.intBits (free : Int) ≤ 41 := by
        unfold Builtin.Int.intBits
        split
        · omega
        · have := PySem.Flt.log2_lt_of (by decide : 0 < 41) (show ((free : Int)).natAbs < 2 ^ 41 by omega)
          omega
      have cs : CShl (free : Int) ((l : Int) - (depth : Int)) := ⟨by omega, by omega⟩
      refine ⟨fun σ H' => ∃ (i free depth : Nat) (v4 : Option V), σ = [some (.ref a), some (.int (free : Int)), some (.int (depth : Int)), some (.int (i : Int)), v4] ∧ H' = Hc ∧ Rm ls i free depth ∧ n - 1 + i = ls.length, fun σ' H' h => ⟨n - 1, by omega, h⟩, ?_⟩
      refine ⟨_, rfl, _, rfl, a, _, _, _, rfl, rfl, hS, by rw [← ey]; exact atI_nat (List.getElem?_eq_getElem hyl), t, _, _, _, rfl, rfl, SqT.of ht, atI_nat (j := 0) rfl, ?_⟩
      rw [hpl]
      refine ⟨_, rfl, _, rfl, _, rfl, _, _, rfl, rfl, _, _, rfl, rfl, cs, _, _, rfl, rfl, ?_⟩
      refine ⟨_, rfl, ?_⟩
      refine ⟨_, rfl, _, _, rfl, rfl, i + 1, free * 2 ^ (l - depth) - 1, l, some (.int (l : Int)), ?_, rfl, R2, by omega⟩
      rw [show ((l : Int) - (depth : Int)).toNat = l - depth by omega, Int.natCast_sub n1, Int.natCast_mul, Int.natCast_pow, Int.natCast_add]
      rfl
    · have hf : free = 0 := by
        refine Classical.byContradiction fun z => h (decide_eq_true ?_)
        omega
      have e := R.eq
      rw [hf, Nat.zero_mul, Nat.zero_add] at e
      refine ⟨_, rfl, _, rfl, _, rfl, a, _, rfl, hS, fun p2 hp2 => ?_⟩
      have s2 := same_upd (o := .lst (cutV ys none (some (i : Int)))) hp2
      refine ⟨_, rfl, _, rfl, _, rfl, a, _, rfl, s2.seq hS, fun p3 hp3 => ⟨szle (by show 2 ≤ 16777216; decide), fun p4 hp4 => ?_⟩⟩
      have s3 := same_upd (o := .lst (cutV ys (some (i : Int)) none)) hp3
      have s4 := same_upd (o := .tup [.ref p2, .ref p3]) hp4
      have e1 : cutV ys (some (i : Int)) none = ys.drop i := cut_dr _ _
      have e2 : cutV ys none (some (i : Int)) = ys.take i := cut_tk _ _
      exact q _ p4 p2 p3 i ((s2.trans s3).trans s4) (by omega) e upd_same (by rw [← e2]; exact s4 _ _ (s3 _ _ upd_same)) (by rw [← e1]; exact s4 _ _ upd_same)
end

/-! ### class Breaker -/
structure BrC (K : PySem.W.Frag) (C : Addr) : Prop where
  ins : C8.InsC K C
  nb : NoAttr K C "broken"
  nr : NoAttr K C "row"
  nl : NoAttr K C "_living"
def bfz (v : V) (row : Str) (p : Addr) : List (Str × V) := [("broken", v), ("row", .str row), ("_living", .ref p)]
theorem bfz_b {v : V} {row : Str} {p : Addr} : List.lookup ("broken" : Str) (bfz v row p) = some v := rfl
theorem bfz_r {v : V} {row : Str} {p : Addr} : List.lookup ("row" : Str) (bfz v row p) = some (V.str row) := rfl
theorem bfz_l {v : V} {row : Str} {p : Addr} : List.lookup ("_living" : Str) (bfz v row p) = some (V.ref p) := rfl
def spBInit (K : PySem.W.Frag) (C CB : Addr) : Sp := fun vs H Q E => ∃ (x dx : Addr) (v : V) (d : PyData) (n : Nat), vs = [.ref x, v] ∧ H x = some (.ins C dx []) ∧ Dp K H v d ∧ okD n d = true ∧ (rowD d = true → (lensD d).length ≤ 100000 ∧ ∀ n ∈ lensD d, n ≤ 40) ∧
  (((rowD d && !decide (kr (lensD d) < 2 * 2 ^ 40)) = true ∧ ∀ H' p ys ks, Same (upd H x (.ins C dx (bfz .non "" p))) H' → H p = none → H' p = some (.lst ys) → Prs H' ys ks → IsOrd (lensD d) ks → Q .non H') ∨ ((rowD d && !decide (kr (lensD d) < 2 * 2 ^ 40)) = false ∧ ∀ H' dd, Same H H' → H' dd = some (.xd [("budgets", v)]) → E (.ref CB) (some dd) H'))
theorem Prs.offI {H : Hp} {ys : List V} {ks : List (Int × Int)} {x C dx : Addr} {fs : List (Str × V)} {o : HO} (h : Prs H ys ks) (hx : H x = some (.ins C dx fs)) : Prs (upd H x o) ys ks := ⟨h.1, fun i y hi => by
  obtain ⟨t, p, e1, e2, e3⟩ := h.2 i y hi
  exact ⟨t, p, e1, e2, by rw [upd_ne (fun e => by rw [e, hx] at e3; cases e3)]; exact e3⟩⟩
theorem Prs.take {H : Hp} {ys : List V} {ks : List (Int × Int)} (h : Prs H ys ks) (m : Nat) : Prs H (ys.take m) (ks.take m) := ⟨by rw [List.length_take, List.length_take, h.1], fun i y hi => by
  rw [List.getElem?_take] at hi
  split at hi
  case isTrue z =>
    obtain ⟨t, p, e1, e2, e3⟩ := h.2 i y hi
    exact ⟨t, p, e1, by rw [List.getElem?_take, if_pos z]; exact e2, e3⟩
  case isFalse => cases hi⟩
theorem Prs.drop {H : Hp} {ys : List V} {ks : List (Int × Int)} (h : Prs H ys ks) (m : Nat) : Prs H (ys.drop m) (ks.drop m) := ⟨by rw [List.length_drop, List.length_drop, h.1], fun i y hi => by
  rw [List.getElem?_drop] at hi
  obtain ⟨t, p, e1, e2, e3⟩ := h.2 _ y hi
  exact ⟨t, p, e1, by rw [List.getElem?_drop]; exact e2, e3⟩⟩
def tolS : Nat → Str
  | 0 => "0"
  | _ => "1"
def sideK (b m : Nat) (ks : List (Int × Int)) : List (Int × Int) := if b = 1 then ks.take m else ks.drop m
def spBA (K : PySem.W.Frag) (C CN : Addr) : Sp := fun vs H Q E => ∃ (x dx : Addr) (v : V) (d : PyData) (brk : V) (row : Str) (p : Addr), vs = [.ref x, v] ∧ H x = some (.ins C dx (bfz brk row p)) ∧ Dp K H v d ∧
  ((isBitD d = false ∧ ∀ H' dd, Same H H' → H' dd = some (.xd [("number", v)]) → E (.ref CN) (some dd) H') ∨ ∃ b : Nat, b ≤ 1 ∧ v = .int b ∧ d = .int b ∧ ((∃ m : Int, brk = .int m ∧ Q .non H) ∨ (brk = .non ∧ row.length ≤ 1000 ∧ ∃ (ys : List V) (ks : List (Int × Int)) (ls : List Nat), H p = some (.lst ys) ∧ Prs H ys ks ∧ ks.length ≤ 100000 ∧ ls.length = ks.length ∧ (∀ (i : Nat) (p : Int × Int), ks[i]? = some p → ∃ l : Nat, ls[i]? = some l ∧ p.1 = l) ∧ ls.Pairwise (· ≤ ·) ∧ (∀ l ∈ ls, l ≤ 40) ∧ 2 ^ 40 ≤ kr ls ∧
    ∀ H' m p' ys' v', Same (upd H x (.ins C dx (bfz v' (row ++ tolS (1 - b)) p'))) H' → H p' = none → m ≤ ls.length → kr (ls.take m) = 2 ^ 40 → H' p' = some (.lst ys') → Prs H' ys' ((sideK b m ks).map fun p => (p.1 - 1, p.2)) → Brk (sideK b m ks) v' → Q (.int (1 - b : Nat)) H')))
section
variable {P : Program} {w : World} {K : PySem.W.Frag} {mg : Str → Option Value} {base : Heap} {C_Share C_Writers C_Keeper C_Breaker : Addr} {C_InvalidBudgets C_InvalidNumber : Addr}
theorem ok_Breaker___init__ {f : Addr} {fd : FuncData} (F : Fun K "__init__" "Breaker.__init__" s_Breaker___init__ f fd) (T : Txt K mg C_Share C_Writers C_Keeper C_Breaker) (c : BrC K C_Breaker) (c_check_breakable : CalX P w K mg base 6 "_check_breakable" (spBreakable K C_InvalidBudgets)) (c_in_order : Cal P w K mg base 1 "_in_order" (spInOrd K)) : FnOk P w K mg base (L2N.CX P w) 7 f fd ["self", "budgets"] (spBInit K C_Breaker C_InvalidBudgets) := by
  refine Fun_okN F sc_Breaker___init__ (fun vs H Q E h => ?_) (fun cdv A outer s H vs Q E hr h => ?_)
  · obtain ⟨x, dx, v, d, n, rfl, _⟩ := h
    rfl
  · obtain ⟨x, dx, v, d, n, rfl, hx, hv, hok, h40, q⟩ := h
    refine ⟨_, (pss_cons (ps_expr (pe_xS c_check_breakable hr (by omega) (by rfl) (L2N.takes_of rfl rfl rfl rfl) (pa_cons (pv 1) pa_nil)))
    (pss_cons (ps_fld (pv 0) pe_non rfl)
    (C8.pss_cut (ps_fld (pv 0) pe_str rfl)
    (pss_one (ps_fld (pv 0) (pe_c c_in_order hr (by omega) (by rfl) (pa_cons (pv 1) pa_nil)) rfl))))), ?_⟩
    rcases q with ⟨hb, q⟩ | ⟨hb, q⟩
    case inr => exact ⟨_, rfl, v, d, n, rfl, hv, hok, h40, .inr ⟨hb, fun H1 dd s1 h1 => q H1 dd s1 h1⟩⟩
    refine ⟨_, rfl, v, d, n, rfl, hv, hok, h40, .inl ⟨hb, fun H1 s1 => ?_⟩⟩
    have hrw : rowD d = true := (Bool.and_eq_true_iff.mp hb).1
    obtain ⟨a, rfl, hS, hl5⟩ := row_at (Dp.mono s1 _ _ hv) hok hrw
    have hx1 := s1 _ _ hx
    refine ⟨_, rfl, x, _, dx, _, rfl, hx1, c.ins.cl, c.nb, by decide, ?_⟩
    refine ⟨fun σ H' => σ = [some (.ref x), some (.ref a)] ∧ H' = upd H1 x (.ins C_Breaker dx [("broken", .non), ("row", .str "")]), ?_, ?_⟩
    · refine ⟨_, rfl, x, _, dx, _, rfl, upd_same, c.ins.cl, c.nr, by show 1 < 1000; decide, rfl, ?_⟩
      rw [upd_upd]
      rfl
    rintro σ H4 ⟨rfl, rfl⟩
    have hS4 : SqL K (upd H1 x (.ins C_Breaker dx [("broken", .non), ("row", .str "")])) a ((lensD d).map nI) ∨ SqT K (upd H1 x (.ins C_Breaker dx [("broken", .non), ("row", .str "")])) a ((lensD d).map nI) := hS.imp (fun z => SqL.offI z hx1) (fun z => SqT.offI z hx1)
    refine ⟨_, rfl, a, lensD d, rfl, hS4, (h40 hrw).1, fun H5 po ys ks s5 npo hpo hP hO => ?_⟩
    have hx5 := s5 _ _ upd_same
    refine ⟨_, rfl, x, _, dx, _, rfl, hx5, c.ins.cl, c.nl, by show 2 < 1000; decide, ?_⟩
    have sf : Same (upd H x (.ins C_Breaker dx (bfz .non "" po))) (upd H5 x (.ins C_Breaker dx (bfz .non "" po))) := by
      have := same_set (p := x) (o := .ins C_Breaker dx (bfz .non "" po)) s5
      rw [upd_upd] at this
      exact (same_set s1).trans this
    have nx : po ≠ x := fun e => by rw [e, upd_same] at npo; cases npo
    exact q _ po ys ks sf (s1.free (by rw [upd_ne nx] at npo; exact npo)) (by rw [upd_ne nx]; exact hpo) ⟨hP.1, fun i y hi => by
      obtain ⟨t, p, e1, e2, e3⟩ := hP.2 i y hi
      exact ⟨t, p, e1, e2, by rw [upd_ne (fun e => by rw [e, hx5] at e3; cases e3)]; exact e3⟩⟩ hO
theorem ok_Breaker_answer {f : Addr} {fd : FuncData} (F : Fun K "answer" "Breaker.answer" s_Breaker_answer f fd) (T : Txt K mg C_Share C_Writers C_Keeper C_Breaker) (c : BrC K C_Breaker) (c_check_bit : CalX P w K mg base 3 "check_bit" (spCheckBit K C_InvalidNumber)) (c_sides_of : Cal P w K mg base 1 "_sides_of" (spSides K)) (c_broken_on : Cal P w K mg base 1 "_broken_on" (spBrk K)) (c_with_less : Cal P w K mg base 1 "_with_less" (spLess K)) : FnOk P w K mg base (L2N.CX P w) 4 f fd ["self", "bit"] (spBA K C_Breaker C_InvalidNumber) := by
  refine Fun_okN F sc_Breaker_answer (fun vs H Q E h => ?_) (fun cdv A outer s H vs Q E hr h => ?_)
  · obtain ⟨x, dx, v, d, brk, row, p, rfl, _⟩ := h
    rfl
  · obtain ⟨x, dx, v, d, brk, row, p, rfl, hx, hv, hq⟩ := h
    refine ⟨_, (pss_cons (ps_expr (pe_xS c_check_bit hr (by omega) (by rfl) (L2N.takes_of rfl rfl rfl rfl) (pa_cons (pv 1) pa_nil)))
    (pss_cons (ps_if (pt_cmpR op_notN (pe_fld (pv 0) rfl) pe_non (nomark _))
      (pss_one (ps_ret pe_non))
      pss_nil)
    (pss_cons (ps_set (i := 2) sc_Breaker_answer.nd rfl (by first | exact Or.inl rfl | exact Or.inr rfl) (pe_op op_sub pe_int (pv 1)))
    (pss_cons (ps_set (i := 3) sc_Breaker_answer.nd rfl (by first | exact Or.inl rfl | exact Or.inr rfl) (pe_ix ix_tup (pe_c c_sides_of hr (by omega) (by rfl) (pa_cons (pe_fld (pv 0) rfl) pa_nil)) (pv 2) (fun _ _ => rfl)))
    (C8.pss_cut (ps_fldaug (pv 0) (pe_callTy call_str_int (by rfl) T.b_str (by decide +kernel) (pa_cons (pv 2) pa_nil)) in_addS)
    (C8.pss_cut (ps_fld (pv 0) (pe_c c_broken_on hr (by omega) (by rfl) (pa_cons (pv 3) pa_nil)) rfl)
    (pss_cons (ps_fld (pv 0) (pe_c c_with_less hr (by omega) (by rfl) (pa_cons (pv 3) pa_nil)) rfl)
    (pss_one (ps_ret (pv 2)))))))))), ?_⟩
    rcases hq with ⟨hb, q⟩ | ⟨b, hb1, rfl, rfl, hq⟩
    · exact ⟨_, rfl, _, d, rfl, hv, .inr ⟨hb, fun H1 dd s1 h1 => q H1 dd s1 h1⟩⟩
    have hbd : isBitD (.int (b : Int)) = true := by
      show (decide ((0 : Int) ≤ (b : Int)) && decide ((b : Int) ≤ 1)) = true
      rw [decide_eq_true (show (0 : Int) ≤ (b : Int) by omega), decide_eq_true (show (b : Int) ≤ 1 by omega)]
      rfl
    refine ⟨_, rfl, _, .int (b : Int), rfl, .int _, .inl ⟨hbd, ?_⟩⟩
    rcases hq with ⟨m, rfl, q⟩ | ⟨rfl, hrl, ys, ks, ls, hp, hP, hl, hll, hfst, hs, h40, hk, q⟩
    · refine ⟨_, rfl, x, C_Breaker, dx, _, _, rfl, hx, c.ins.cl, c.nb, bfz_b, rfl, _, rfl, iteT ?_⟩
      exact q
    refine ⟨_, rfl, x, C_Breaker, dx, _, _, rfl, hx, c.ins.cl, c.nb, bfz_b, rfl, _, rfl, iteF ?_⟩
    refine ⟨_, rfl, _, _, rfl, rfl, ?_⟩
    refine ⟨_, rfl, x, C_Breaker, dx, _, _, rfl, hx, c.ins.cl, c.nl, bfz_l, p, ys, ks, ls, rfl, SqL.of hp, hP, hl, hll, hfst, hs, h40, hk, fun H1 pp pa pb m s1 hm hkr hpp hpa hpb => ?_⟩
    have hP1 := hP.mono s1
    have hx1 := s1 _ _ hx
    obtain ⟨ps, yss, hat, hps, hPs⟩ : ∃ ps yss, atI [V.ref pa, .ref pb] (1 - (b : Int)) = some (.ref ps) ∧ H1 ps = some (.lst yss) ∧ Prs H1 yss (sideK b m ks) := by
      rcases (by omega : b = 0 ∨ b = 1) with z | z <;> subst z
      · exact ⟨pb, ys.drop m, atI_nat (j := 1) rfl, hpb, hP1.drop m⟩
      · exact ⟨pa, ys.take m, atI_nat (j := 0) rfl, hpa, hP1.take m⟩
    have sl : (sideK b m ks).length ≤ 100000 := by
      unfold sideK
      split
      · rw [List.length_take]; omega
      · rw [List.length_drop]; omega
    have e1b : (1 : Int) - (b : Int) = ((1 - b : Nat) : Int) := by omega
    refine ⟨_, rfl, pp, _, _, _, rfl, rfl, SqT.of hpp, hat, ?_⟩
    refine ⟨fun σ H' => σ = [some (.ref x), some (.int (b : Int)), some (.int (1 - b : Nat)), some (.ref ps)] ∧ H' = upd H1 x (.ins C_Breaker dx (bfz .non (row ++ tolS (1 - b)) p)), ?_, ?_⟩
    · have htl : Str.ofString (toString ((1 : Int) - (b : Int))) = tolS (1 - b) := by
        rcases (by omega : b = 0 ∨ b = 1) with z | z <;> subst z <;> rfl
      refine ⟨_, rfl, x, C_Breaker, dx, _, _, rfl, hx1, c.ins.cl, c.nr, bfz_r, _, rfl, ((1 : Int) - (b : Int)), rfl, ?_, row, tolS (1 - b), rfl, congrArg V.str htl, szle ?_, dx, _, hx1, by show 3 < 1000; decide, ?_⟩
      · rcases (by omega : b = 0 ∨ b = 1) with z | z <;> subst z <;> decide
      · have : (tolS (1 - b)).length = 1 := by rcases (by omega : b = 0 ∨ b = 1) with z | z <;> subst z <;> rfl
        omega
      · refine ⟨?_, rfl⟩
        rw [← e1b]
        rfl
    rintro σ H2 ⟨rfl, rfl⟩
    have nxs : ps ≠ x := fun e => by rw [e, hx1] at hps; cases hps
    refine ⟨fun σ H' => ∃ v', σ = [some (.ref x), some (.int (b : Int)), some (.int (1 - b : Nat)), some (.ref ps)] ∧ Brk (sideK b m ks) v' ∧ Same (upd H1 x (.ins C_Breaker dx (bfz v' (row ++ tolS (1 - b)) p))) H', ?_, ?_⟩
    · refine ⟨_, rfl, ps, yss, sideK b m ks, rfl, SqL.of (by rw [upd_ne nxs]; exact hps), hPs.offI hx1, sl, fun H3 v' s3 hbk => ?_⟩
      have hx3 := s3 _ _ upd_same
      refine ⟨_, rfl, x, _, dx, _, rfl, hx3, c.ins.cl, c.nb, by show 3 < 1000; decide, v', rfl, hbk, ?_⟩
      have := same_set (p := x) (o := .ins C_Breaker dx (bfz v' (row ++ tolS (1 - b)) p)) s3
      rw [upd_upd] at this
      exact this
    rintro σ H3 ⟨v', rfl, hbk, s3⟩
    have hx3 := s3 _ _ upd_same
    have hps3 : H3 ps = some (.lst yss) := s3 _ _ (by rw [upd_ne nxs]; exact hps)
    refine ⟨_, rfl, ps, yss, sideK b m ks, rfl, SqL.of hps3, (hPs.offI hx1).mono s3, sl, fun H4 po ys' s4 npo hpo hP4 => ?_⟩
    have hx4 := s4 _ _ hx3
    refine ⟨_, rfl, x, _, dx, _, rfl, hx4, c.ins.cl, c.nl, by show 3 < 1000; decide, _, rfl, ?_⟩
    have nxo : po ≠ x := fun e => by rw [e, hx3] at npo; cases npo
    refine q _ m po ys' v' ?_ (s1.free (by have := s3.free npo; rwa [upd_ne nxo] at this)) hm hkr (by rw [upd_ne nxo]; exact hpo) (hP4.offI hx4) hbk
    have t := same_set (p := x) (o := .ins C_Breaker dx (bfz v' (row ++ tolS (1 - b)) po)) (s3.trans s4)
    rw [upd_upd] at t
    exact (same_set s1).trans t
end

/-! ### strangers -/
def spBelow0 : Sp := fun vs H Q _ => ∃ (B : Hp) (t : Addr) (c : Nat), vs = [.ref t] ∧ Tp B H t c ∧ c < 100000000 ∧ ∀ H' n, Tp B H' t (c + 12) → n < 0 → Q (.int n) H'
def spString : Sp := fun vs H Q _ => ∃ (B : Hp) (t : Addr) (c : Nat), vs = [.ref t] ∧ Tp B H t c ∧ c < 100000000 ∧ ∀ H' z, Tp B H' t (c + 12) → z.length ≤ 400 → Q (.str z) H'
/-- no text above 400, no int above 40 -/
def Sm (d : PyData) : Prop := (∀ z, d = .str z → z.length ≤ 400) ∧ ∀ z, d = .int z → z ≤ 40
def I25 (d : PyData) : Prop := Sm d ∧ ∀ ds, (d = .list ds ∨ d = .tuple ds) → ds.length ≤ 1000 ∧ ∀ e ∈ ds, Sm e
theorem i25_leaf {d : PyData} (h : Sm d) (h2 : isSeqD d = false) : I25 d := ⟨h, fun ds e => by rcases e with rfl | rfl <;> cases h2⟩
def spStranger (K : PySem.W.Frag) (m : Nat) : Sp := fun vs H Q _ => ∃ (B : Hp) (t : Addr) (c deep : Nat), vs = [.ref t, .int (deep : Int)] ∧ deep < m ∧ Tp B H t c ∧ c + 30 * 3 ^ deep < 100000000 ∧
  ∀ H' v d N, Tp (mrg B N) H' t (c + 30 * 3 ^ deep) → New N B → Dp K N v d → okD (deep + 2) d = true → I25 d → Q v H'
section
variable {P : Program} {w : World} {K : PySem.W.Frag} {mg : Str → Option Value} {base : Heap} {C_Share C_Writers C_Keeper C_Breaker : Addr}
theorem ok_law_below {f : Addr} {fd : FuncData} (F : Fun K "_law_below" "_law_below" s_law_below f fd) (T : Txt K mg C_Share C_Writers C_Keeper C_Breaker) (c_law_draw : Cal P w K mg base 1 "_law_draw" spDraw) : FnOk P w K mg base CX0 2 f fd ["tape"] spBelow0 := by
  refine F.ok sc_law_below (fun vs H Q E h => ?_) (fun cdv A outer s H vs Q E hr h => ?_)
  · obtain ⟨B, t, c, rfl, _⟩ := h
    rfl
  · obtain ⟨B, t, c, rfl, TT, hc, q⟩ := h
    refine ⟨_, (pss_cons (ps_set (i := 1) sc_law_below.nd rfl (by first | exact Or.inl rfl | exact Or.inr rfl) (pe_op op_sub (pe_un un_neg pe_int) (pe_c c_law_draw hr (by omega) (by rfl) (pa_cons (pv 0) (pa_cons pe_int pa_nil)))))
    (C8.pss_cut (ps_if (pt_cmpR op_eq (pe_c c_law_draw hr (by omega) (by rfl) (pa_cons (pv 0) (pa_cons pe_int pa_nil))) pe_int (nomark _))
      (pss_one (ps_for PassesOwn.never rfl (pi_range1 (by rfl) T.b_range (pa_cons (pe_c c_law_draw hr (by omega) (by rfl) (pa_cons (pv 0) (pa_cons pe_int pa_nil))) pa_nil)) (pg_name (i := 2) sc_law_below.nd rfl (by first | exact Or.inl rfl | exact Or.inr rfl))
          (pss_one (ps_set (i := 1) sc_law_below.nd rfl (by first | exact Or.inl rfl | exact Or.inr rfl) (pe_op op_mulW (pv 1) (pe_op op_add (pe_op op_pow pe_int pe_int) (pe_c c_law_draw hr (by omega) (by rfl) (pa_cons (pv 0) (pa_cons pe_int pa_nil)))))))))
      pss_nil)
    (pss_one (ps_ret (pv 1))))), ?_⟩
    have pb : ∀ d : Int, 0 ≤ d → d < 1000 → ((10 : Int) ^ (64 : Int).toNat + d).natAbs < 2 ^ 213 ∧ 0 < (10 : Int) ^ (64 : Int).toNat + d := fun d h0 h1 => by
      rw [show (64 : Int).toNat = 64 from rfl]
      omega
    refine ⟨_, rfl, _, rfl, B, t, c, 4, rfl, TT, by decide, by decide, by omega, fun H1 k T1 k0 k1 => ⟨_, _, rfl, rfl, ?_⟩⟩
    refine ⟨fun σ H' => ∃ (v : Option V) (x : Int), σ = [some (.ref t), some (.int x), v] ∧ Tp B H' t (c + 11) ∧ x < 0, ?_, ?_⟩
    · refine ⟨_, rfl, B, t, c + 1, 3, rfl, T1, by decide, by decide, by omega, fun H2 m T2 m0 m1 => ⟨rfl, _, rfl, ?_⟩⟩
      refine ite2 (fun _ => ?_) (fun _ => ⟨none, _, rfl, T2.le (by omega), by omega⟩)
      refine ⟨_, rfl, B, t, c + 2, 6, rfl, T2, by decide, by decide, by omega, fun H4 z T4 z0 z1 => ?_⟩
      obtain ⟨n, rfl⟩ := nat_of z0
      refine ⟨n, rfl, by omega, by omega, for_range (n := n) (fun i σ H' => ∃ (v : Option V) (x : Int), σ = [some (.ref t), some (.int x), v] ∧ Tp B H' t (c + 3 + i) ∧ x < 0 ∧ x.natAbs < 2 ^ (214 * (i + 1)))
        ⟨_, _, rfl, T4, by omega, bits_le (a := 4) (by omega) (by omega)⟩ ?_ ?_⟩
      · rintro i σ H' hi ⟨v, x, rfl, T5, nx, bx⟩
        refine ⟨_, rfl, _, _, rfl, rfl, ⟨by decide, by decide, by decide⟩, _, rfl, B, t, c + 3 + i, 1000, rfl, T5, by decide, by decide, by omega, fun H6 d2 T6 e0 e1 => ⟨_, _, rfl, rfl, ?_⟩⟩
        refine ⟨_, _, rfl, rfl, wide_mul bx (pb d2 e0 e1).1 (by omega) (by decide) (by omega), ?_⟩
        exact ⟨_, _, rfl, T6, Int.mul_neg_of_neg_of_pos nx (pb d2 e0 e1).2, bits_le (bits_mul bx (pb d2 e0 e1).1) (by omega)⟩
      · rintro σ H' ⟨v, x, rfl, T5, nx, bx⟩
        exact ⟨_, _, rfl, T5.le (by omega), nx⟩
    · rintro σ H' ⟨v, x, rfl, T5, nx⟩
      exact ⟨_, rfl, q _ _ (T5.le (by omega)) nx⟩
theorem ok_law_string {f : Addr} {fd : FuncData} (F : Fun K "_law_string" "_law_string" s_law_string f fd) (T : Txt K mg C_Share C_Writers C_Keeper C_Breaker) (c_law_draw : Cal P w K mg base 1 "_law_draw" spDraw) : FnOk P w K mg base CX0 2 f fd ["tape"] spString := by
  refine F.ok sc_law_string (fun vs H Q E h => ?_) (fun cdv A outer s H vs Q E hr h => ?_)
  · obtain ⟨B, t, c, rfl, _⟩ := h
    rfl
  · obtain ⟨B, t, c, rfl, TT, hc, q⟩ := h
    refine ⟨_, (pss_cons (ps_if (pt_cmpR op_eq (pe_c c_law_draw hr (by omega) (by rfl) (pa_cons (pv 0) (pa_cons pe_int pa_nil))) pe_int (nomark _))
      (pss_one (ps_ret (pe_op op_add_str (pe_op op_repS (pe_ix ix_str pe_str (pe_c c_law_draw hr (by omega) (by rfl) (pa_cons (pv 0) (pa_cons pe_int pa_nil))) (fun _ _ => rfl)) (pe_c c_law_draw hr (by omega) (by rfl) (pa_cons (pv 0) (pa_cons pe_int pa_nil)))) pe_str)))
      pss_nil)
    (pss_one (ps_ret (pe_join pe_str (pe_lc (own := [("k", 1)]) rfl sc_law_string.nd (pi_range1 (by rfl) T.b_range (pa_cons (pe_c c_law_draw hr (by omega) (by rfl) (pa_cons (pv 0) (pa_cons pe_int pa_nil))) pa_nil)) (blkOk_by (own := [("k", 1)]) (N := ["tape", "k"]) (sc := defScope s_law_string) (by decide +kernel)) (fun _ _ _ _ _ => (pg_name (i := 1) sc_law_string.nd rfl (by first | exact Or.inl rfl | exact Or.inr rfl))) (fun _ _ _ _ _ => pts_nil) (fun _ _ _ _ _ => (pe_ix ix_str pe_str (pe_c c_law_draw hr (by omega) (by rfl) (pa_cons (pv 0) (pa_cons pe_int pa_nil))) (fun _ _ => rfl)))))))), ?_⟩
    refine ⟨_, rfl, B, t, c, 12, rfl, TT, by decide, by decide, by omega, fun H1 k T1 k0 k1 => ⟨rfl, _, rfl, ?_⟩⟩
    refine ite2 (fun _ => ?_) (fun _ => ?_)
    · refine ⟨_, rfl, B, t, c + 1, 2, rfl, T1, by decide, by decide, by omega, fun H2 m T2 m0 m1 => ?_⟩
      obtain ⟨ch, hch⟩ := at_some (xs := (("01" : Str)).cps.toList) m0 (by rw [show ((("01" : Str)).cps.toList.length : Int) = 2 from rfl]; exact m1)
      refine ⟨_, _, ch, rfl, rfl, szle (by decide), hch, ?_⟩
      refine ⟨_, rfl, B, t, c + 2, 400, rfl, T2, by decide, by decide, by omega, fun H3 l T3 l0 l1 => ?_⟩
      obtain ⟨l, rfl⟩ := nat_of l0
      have rl : (repS (⟨#[ch]⟩ : Str) (l : Int)).length = l := by rw [repS_len]; show l * 1 = l; omega
      refine ⟨_, l, rfl, rfl, by omega, by omega, by show l * 1 ≤ 16777216; omega, _, "x", rfl, rfl, szle (by rw [rl]; show l + 1 ≤ _; omega), q _ _ (T3.le (by omega)) ?_⟩
      rw [PySem.Str.length_append, rl]
      show l + 1 ≤ 400
      omega
    · refine ⟨⟨_, rfl⟩, _, rfl, B, t, c + 1, 4, rfl, T1, by decide, by decide, by omega, fun H2 m T2 m0 m1 => ?_⟩
      obtain ⟨m, rfl⟩ := nat_of m0
      refine ⟨m, rfl, by omega, by omega, fun D hD => lc_range (lo := 0) (n := m) (fun i H' => ∃ cs : List Nat, Tp (upd B D (.lst ((cs.map chS).map V.str))) H' t (c + 2 + i) ∧ cs.length = i) ⟨[], T2.new hD, rfl⟩ ?_ ?_⟩
      · rintro i H' hi ⟨cs, T3, ly⟩
        refine ⟨rfl, iteT (B := ∃ cs : List Nat, Tp (upd B D (.lst ((cs.map chS).map V.str))) H' t (c + 2 + (i + 1)) ∧ cs.length = i + 1) ?_⟩
        refine ⟨_, rfl, _, t, c + 2 + i, 6, rfl, T3, by decide, by decide, by omega, fun H4 n T4 n0 n1 => ?_⟩
        obtain ⟨ch, hch⟩ := at_some (xs := (("01 12-" : Str)).cps.toList) n0 (by rw [show (((("01 12-" : Str)).cps.toList.length : Int)) = 6 from rfl]; exact n1)
        refine ⟨_, _, ch, rfl, rfl, szle (by decide), hch, (cs.map chS).map V.str, T4.at upd_same, szl (by rw [List.length_map, List.length_map]; omega), cs ++ [ch], ?_, by simp [ly]⟩
        have T5 := T4.set (o' := .lst ((cs.map chS).map V.str ++ [V.str ⟨#[ch]⟩])) upd_same
        rw [upd_upd] at T5
        rw [List.map_append, List.map_append]
        exact T5
      · rintro H' ⟨cs, T3, ly⟩
        have hB : B D = none := T2.isn hD
        have sl : ∀ cs : List Nat, ((cs.map chS).map (·.length)).sum = cs.length := fun cs => by
          induction cs with
          | nil => rfl
          | cons x r ih => simp only [List.map_cons, List.sum_cons, ih, List.length_cons]; show 1 + r.length = _; omega
        refine ⟨_, D, cs.map chS, rfl, rfl, .inl (SqL.of (T3.at upd_same)), by rw [sl]; show _ + _ * 0 ≤ _; omega, q _ _ ((T3.shrink (same_upd hB)).le (by omega)) ?_⟩
        rw [join_signs]
        show cs.toArray.size ≤ 400
        rw [List.size_toArray]
        omega
theorem i25_seq {ds : List PyData} (hl : ds.length ≤ 1000) (h : ∀ d ∈ ds, Sm d) : I25 (.list ds) ∧ I25 (.tuple ds) := by
  refine ⟨⟨⟨fun z h' => (by cases h'), fun z h' => (by cases h')⟩, fun ds' h' => ?_⟩, ⟨fun z h' => (by cases h'), fun z h' => (by cases h')⟩, fun ds' h' => ?_⟩
  · rcases h' with h' | h' <;> cases h'
    exact ⟨hl, h⟩
  · rcases h' with h' | h' <;> cases h'
    exact ⟨hl, h⟩
theorem ok_law_stranger1 {m : Nat} {f : Addr} {fd : FuncData} (F : Fun K "_law_stranger" "_law_stranger" s_law_stranger f fd) (T : Txt K mg C_Share C_Writers C_Keeper C_Breaker) (c_law_draw : Cal P w K mg base 1 "_law_draw" spDraw) (c_law_below : Cal P w K mg base 2 "_law_below" spBelow0) (c_law_string : Cal P w K mg base 2 "_law_string" spString)
    (c_law_stranger : Cal P w K mg base (m + 2) "_law_stranger" (spStranger K m)) : FnOk P w K mg base CX0 (m + 1 + 2) f fd ["tape", "deep"] (spStranger K (m + 1)) := by
  refine F.ok sc_law_stranger (fun vs H Q E h => ?_) (fun cdv A outer s H vs Q E hr h => ?_)
  · obtain ⟨B, t, c, deep, rfl, _⟩ := h
    rfl
  · obtain ⟨B, t, c, deep, rfl, hm, TT, hc, q⟩ := h
    refine ⟨_, (pss_cons (ps_set (i := 2) sc_law_stranger.nd rfl (by first | exact Or.inl rfl | exact Or.inr rfl) (pe_c c_law_draw hr (by omega) (by rfl) (pa_cons (pv 0) (pa_cons pe_int pa_nil))))
    (pss_cons (ps_if (pt_cmpR op_eq (pv 2) pe_int (nomark _))
      (pss_one (ps_ret pe_non))
      pss_nil)
    (pss_cons (ps_if (pt_cmpR op_eq (pv 2) pe_int (nomark _))
      (pss_one (ps_ret (pe_cmpR op_eq (pe_c c_law_draw hr (by omega) (by rfl) (pa_cons (pv 0) (pa_cons pe_int pa_nil))) pe_int (nomark _))))
      pss_nil)
    (pss_cons (ps_if (pt_cmpR op_eq (pv 2) pe_int (nomark _))
      (pss_one (ps_ret (pe_c c_law_below hr (by omega) (by rfl) (pa_cons (pv 0) pa_nil))))
      pss_nil)
    (pss_cons (ps_if (pt_cmpR op_eq (pv 2) pe_int (nomark _))
      (pss_one (ps_ret (pe_c c_law_draw hr (by omega) (by rfl) (pa_cons (pv 0) (pa_cons pe_int pa_nil)))))
      pss_nil)
    (pss_cons (ps_if (PW.pt (pw_or (pt_cmpR op_eq (pv 2) pe_int (nomark _)) (pw_or1 (pt_cmpR op_lt (pv 1) pe_int (nomark _)))))
      (pss_one (ps_ret (pe_c c_law_string hr (by omega) (by rfl) (pa_cons (pv 0) pa_nil))))
      pss_nil)
    (pss_cons (ps_setLc (i := 3) (own := [("k", 4)]) rfl sc_law_stranger.nd rfl rfl (sw_true rfl rfl rfl (by decide +kernel)) (pi_range1 (by rfl) T.b_range (pa_cons (pe_c c_law_draw hr (by omega) (by rfl) (pa_cons (pv 0) (pa_cons pe_int pa_nil))) pa_nil)) (blkOk_by (own := [("k", 4)]) (N := ["tape", "deep", "kind", "parts", "k"]) (sc := defScope s_law_stranger) (by decide +kernel)) (fun _ _ _ _ _ => (pg_name (i := 4) sc_law_stranger.nd rfl (by first | exact Or.inl rfl | exact Or.inr rfl))) (fun _ _ _ _ _ => pts_nil) (fun _ _ _ _ _ => (pe_c c_law_stranger hr (by omega) (by rfl) (pa_cons (pv 0) (pa_cons (pe_op op_sub (pv 1) pe_int) pa_nil)))))
    (pss_cons (ps_if (pt_cmpR op_eq (pv 2) pe_int (nomark _))
      (pss_one (ps_ret (pv 3)))
      pss_nil)
    (pss_one (ps_ret (pe_callTy call_tuple_of (by rfl) T.b_tuple (by decide +kernel) (pa_cons (pv 3) pa_nil)))))))))))), ?_⟩
    have p1 : 1 ≤ 3 ^ deep := Nat.pow_pos (by decide)
    have sc : ∀ H' v d, Tp B H' t (c + 30 * 3 ^ deep) → (∀ N, Dp K N v d) → okD (deep + 2) d = true → Sm d → isSeqD d = false → Q v H' := fun H' v d T1 h1 h2 h3 h4 => q H' v d _ T1.e New.nil (h1 _) h2 (i25_leaf h3 h4)
    refine ⟨_, rfl, B, t, c, 8, rfl, TT, by decide, by decide, by omega, fun H1 k T1 k0 k1 => ?_⟩
    refine ⟨_, rfl, rfl, _, rfl, ?_⟩
    refine ite2 (fun _ => ?_) (fun _ => ?_)
    · exact sc _ _ .none (T1.le (by omega)) (fun _ => .non) rfl ⟨fun z h => (by cases h), fun z h => (by cases h)⟩ rfl
    refine ⟨_, rfl, rfl, _, rfl, ?_⟩
    refine ite2 (fun _ => ?_) (fun _ => ?_)
    · exact ⟨_, rfl, B, t, c + 1, 2, rfl, T1, by decide, by decide, by omega, fun H2 b T2 b0 b1 => ⟨rfl, sc _ _ (.bool _) (T2.le (by omega)) (fun _ => .bl _) rfl ⟨fun z h => (by cases h), fun z h => (by cases h)⟩ rfl⟩⟩
    refine ⟨_, rfl, rfl, _, rfl, ?_⟩
    refine ite2 (fun _ => ?_) (fun _ => ?_)
    · exact ⟨_, rfl, B, t, c + 1, rfl, T1, by omega, fun H2 n T2 n0 => sc _ _ (.int n) (T2.le (by omega)) (fun _ => .int _) rfl ⟨fun z h => (by cases h), fun z h => (by cases h; omega)⟩ rfl⟩
    refine ⟨_, rfl, rfl, _, rfl, ?_⟩
    refine ite2 (fun _ => ?_) (fun _ => ?_)
    · exact ⟨_, rfl, B, t, c + 1, 4, rfl, T1, by decide, by decide, by omega, fun H2 n T2 n0 n1 => sc _ _ (.int n) (T2.le (by omega)) (fun _ => .int _) rfl ⟨fun z h => (by cases h), fun z h => (by cases h; omega)⟩ rfl⟩
    have str_ : ∀ H' z, Tp B H' t (c + 1 + 12) → z.length ≤ 400 → Q (.str z) H' := fun H' z T2 hz => sc _ _ (.str z) (T2.le (by omega)) (fun _ => .str _) rfl ⟨fun z h => (by cases h; exact hz), fun z h => (by cases h)⟩ rfl
    refine ⟨_, rfl, rfl, _, rfl, ?_⟩
    refine ite2 (fun _ => ?_) (fun hk3 => ?_)
    · exact iteT ⟨_, rfl, B, t, c + 1, rfl, T1, by omega, str_⟩
    refine ⟨_, rfl, _, _, rfl, rfl, _, rfl, ?_⟩
    refine ite2 (fun _ => ?_) (fun hd => ?_)
    · exact ⟨_, rfl, B, t, c + 1, rfl, T1, by omega, str_⟩
    obtain ⟨e, rfl⟩ : ∃ e, deep = e + 1 := ⟨deep - 1, by simp at hd; omega⟩
    have p3 : 3 ^ (e + 1) = 3 * 3 ^ e := Nat.pow_succ'
    have pe1 : 1 ≤ 3 ^ e := Nat.pow_pos (by decide)
    rw [p3] at hc q
    -- parts
    refine ⟨_, rfl, B, t, c + 1, 3, rfl, T1, by decide, by decide, by omega, fun H2 n T2 n0 n1 => ?_⟩
    obtain ⟨n, rfl⟩ := nat_of n0
    refine ⟨n, rfl, by omega, by omega, fun D hD => lc_range (lo := 0) (n := n) (fun i H' => ∃ zs ds N, Lst K B H' t (c + 2 + i * (30 * 3 ^ e)) D zs ds N ∧ ds.length = i ∧ ∀ d ∈ ds, okD (e + 2) d = true ∧ Sm d) ⟨[], [], _, by simpa using Lst.ini T2 hD, rfl, fun d h => by cases h⟩ ?_ ?_⟩
    · rintro i H' hi ⟨zs, ds, N, L, ld, hd⟩
      have lz := DpAll.len L.all
      refine ⟨rfl, iteT (B := ∃ zs ds N, Lst K B H' t (c + 2 + (i + 1) * (30 * 3 ^ e)) D zs ds N ∧ ds.length = i + 1 ∧ ∀ d ∈ ds, okD (e + 2) d = true ∧ Sm d) ?_⟩
      have hi2 : i = 0 ∨ i = 1 := by omega
      refine ⟨_, rfl, _, rfl, _, _, rfl, rfl, _, t, c + 2 + i * (30 * 3 ^ e), e, congrArg (fun z => [V.ref t, V.int z]) (by omega), by omega, L.tp, by rcases hi2 with rfl | rfl <;> omega, fun H4 v d M T4 nM dv okd i40 => ?_⟩
      obtain ⟨hD4, L4⟩ := L.add T4 nM dv
      refine ⟨zs, hD4, szl (by omega), zs ++ [v], ds ++ [d], mrg N M, ?_, by simp [ld], fun x hx => ?_⟩
      · rw [show c + 2 + (i + 1) * (30 * 3 ^ e) = c + 2 + i * (30 * 3 ^ e) + 30 * 3 ^ e by rw [Nat.add_mul]; omega]
        exact L4
      · rcases List.mem_append.mp hx with h | h
        · exact hd x h
        · rw [List.mem_singleton.mp h]
          exact ⟨okd, i40.1⟩
    rintro H3 ⟨zs, ds, N, L0, ld, hd⟩
    have cn : c + 2 + n * (30 * 3 ^ e) ≤ c + 30 * (3 * 3 ^ e) := by
      have hn : n = 0 ∨ n = 1 ∨ n = 2 := by omega
      rcases hn with rfl | rfl | rfl <;> omega
    have L : Lst K B H3 t (c + 30 * (3 * 3 ^ e)) D zs ds N := ⟨L0.tp.le cn, L0.new, L0.bD, L0.nD, L0.all⟩
    have h40 := i25_seq (ds := ds) (by omega) fun d hd' => (hd d hd').2
    have hok := okD_mk (n := e + 2) (ds := ds) (by omega) fun d hd' => (hd d hd').1
    refine ⟨_, rfl, rfl, _, rfl, ite2 (fun _ => ?_) (fun _ => ?_)⟩
    · obtain ⟨l1, l2, l3⟩ := L.asList
      exact ⟨_, rfl, q _ _ _ _ l1 l2 l3 hok h40.1⟩
    · refine ⟨_, rfl, D, zs, rfl, .inl ⟨SqL.of L.hD, fun l hl0 => ?_⟩⟩
      obtain ⟨M, l1, l2, l3⟩ := L.asTup hl0
      exact q _ _ _ _ l1 l2 l3 hok h40.2
theorem cal_law_stranger {f : Addr} {fd : FuncData} (F : Fun K "_law_stranger" "_law_stranger" s_law_stranger f fd) (T : Txt K mg C_Share C_Writers C_Keeper C_Breaker) (hm : mg "_law_stranger" = some (.ref f)) (kp : PySem.W.keepIn K (.ref f) = true) (b : Binds K fd ["tape", "deep"] []) (c_law_draw : Cal P w K mg base 1 "_law_draw" spDraw) (c_law_below : Cal P w K mg base 2 "_law_below" spBelow0) (c_law_string : Cal P w K mg base 2 "_law_string" spString) : ∀ n, Cal P w K mg base (n + 2) "_law_stranger" (spStranger K n)
  | 0 => ⟨_, _, _, ⟨fun _ _ _ _ ⟨_, _, _, _, _, z, _⟩ => absurd z (Nat.not_lt_zero _), fun _ _ _ _ _ _ _ _ _ _ _ _ _ ⟨_, _, _, _, _, z, _⟩ => absurd z (Nat.not_lt_zero _)⟩, hm, kp, b⟩
  | n + 1 => ⟨_, _, _, ok_law_stranger1 F T c_law_draw c_law_below c_law_string (cal_law_stranger F T hm kp b c_law_draw c_law_below c_law_string n), hm, kp, b⟩
end

/-! ### the law's own checks -/
def spWordL (K : PySem.W.Frag) : Sp := fun vs H Q _ => ∃ v d, vs = [v] ∧ Dp K H v d ∧ (∀ z, d = .str z → z.length ≤ 100000) ∧ ∀ H', Same H H' → Q (.bl (isW d)) H'
section
variable {P : Program} {w : World} {K : PySem.W.Frag} {mg : Str → Option Value} {base : Heap} {C_Share C_Writers C_Keeper C_Breaker : Addr}
theorem in01 (ch : Nat) : inV (.str ⟨#[ch]⟩) [.str "0", .str "1"] = decide (ch = 48 ∨ ch = 49) := by
  by_cases h : ch = 48
  · subst h; rfl
  by_cases h2 : ch = 49
  · subst h2; rfl
  rw [decide_eq_false (fun e => e.elim h h2)]
  have n1 : (("0" : Str) == (⟨#[ch]⟩ : Str)) = false := beq_eq_false_iff_ne.mpr fun e => h (by have := congrArg (fun z : Str => z.cps.toList) e; exact (List.cons.inj (show [48] = [ch] from this)).1.symm)
  have n2 : (("1" : Str) == (⟨#[ch]⟩ : Str)) = false := beq_eq_false_iff_ne.mpr fun e => h2 (by have := congrArg (fun z : Str => z.cps.toList) e; exact (List.cons.inj (show [49] = [ch] from this)).1.symm)
  show (("0" : Str) == (⟨#[ch]⟩ : Str) || (("1" : Str) == (⟨#[ch]⟩ : Str) || false)) = false
  rw [n1, n2]
  rfl
theorem ok_law_is_word {f : Addr} {fd : FuncData} (F : Fun K "_law_is_word" "_law_is_word" s_law_is_word f fd) (T : Txt K mg C_Share C_Writers C_Keeper C_Breaker) : FnOk P w K mg base CX0 1 f fd ["value"] (spWordL K) := by
  refine F.ok sc_law_is_word (fun vs H Q E h => ?_) (fun cdv A outer s H vs Q E hr h => ?_)
  · obtain ⟨v, d, rfl, _⟩ := h
    rfl
  · obtain ⟨v, d, rfl, hv, hz, q⟩ := h
    refine ⟨_, (pss_cons (ps_if (pt_not (pt_val (pe_callB call_isi (by rfl) T.b_isinstance (by decide +kernel) (pa_cons (pv 0) (pa_cons (pe_bltn (v := .ty "str") (by rfl) T.b_str (by decide +kernel) rfl) pa_nil)))))
      (pss_one (ps_ret pe_bl))
      pss_nil)
    (pss_cons (ps_for PassesOwn.never rfl (pi_str (pv 0)) (pg_name (i := 1) sc_law_is_word.nd rfl (by first | exact Or.inl rfl | exact Or.inr rfl))
      (pss_one (ps_if (pt_cmpR op_notIn_seq (pv 1) (pe_tup (pa_cons pe_str (pa_cons pe_str pa_nil))) (by rfl))
          (pss_one (ps_ret pe_bl))
          pss_nil)))
    (pss_one (ps_ret pe_bl)))), ?_⟩
    cases d with
    | none => cases hv; exact ⟨_, rfl, _, _, _, _, _, rfl, .ty _, .base .non, kit_ty (r := false) (by decide), _, rfl, iteT (q _ (fun _ _ e => e))⟩
    | bool b => cases hv; exact ⟨_, rfl, _, _, _, _, _, rfl, .ty _, .base (.bl b), kit_ty (r := false) (by decide), _, rfl, iteT (q _ (fun _ _ e => e))⟩
    | int b => cases hv; exact ⟨_, rfl, _, _, _, _, _, rfl, .ty _, .base (.int b), kit_ty (r := false) (by decide), _, rfl, iteT (q _ (fun _ _ e => e))⟩
    | dict b => cases hv
    | list b =>
      cases hv with
      | lst sy _ => exact ⟨_, rfl, _, _, _, _, _, rfl, .ty _, ty_seq sy, kit_ty (r := false) (by decide), _, rfl, iteT (q _ (fun _ _ e => e))⟩
    | tuple b =>
      cases hv with
      | tup sy _ => exact ⟨_, rfl, _, _, _, _, _, rfl, .ty _, ty_tup sy, kit_ty (r := false) (by decide), _, rfl, iteT (q _ (fun _ _ e => e))⟩
    | str z =>
      cases hv
      refine ⟨_, rfl, _, _, _, _, _, rfl, .ty _, .base (.str z), kit_ty (r := true) (by decide), _, rfl, iteF ?_⟩
      refine ⟨_, rfl, z, rfl, for_J (likeS z) (fun i σ H' => ∃ w : Option V, σ = [some (.str z), w] ∧ Same H H' ∧ ∀ c ∈ z.cps.toList.take i, c = 48 ∨ c = 49) ⟨none, rfl, fun _ _ e => e, fun c hc => by cases hc⟩ (fun _ _ _ _ _ => True.intro) ?_ ?_⟩
      · rintro i x σ H' hi ⟨w, rfl, sm, hall⟩
        obtain ⟨ch, hc, rfl⟩ := sgn_at hi
        have hc2 : z.cps.toList[i]? = some ch := by rw [Array.getElem?_toList]; exact hc
        refine ⟨_, rfl, szle (by show 2 ≤ 16777216; decide), fun p hp => ?_⟩
        have sp := same_upd (o := .tup [.str "0", .str "1"]) hp
        refine ⟨p, _, rfl, .inr (SqT.of upd_same), rfl, rfl, _, rfl, ?_⟩
        have hin : inV (.str ⟨#[ch]⟩) [.str "0", .str "1"] = decide (ch = 48 ∨ ch = 49) := in01 ch
        rw [if_pos rfl, hin]
        by_cases h : ch = 48 ∨ ch = 49
        · rw [decide_eq_true h]
          refine iteF ⟨_, rfl, sm.trans sp, fun c hc' => ?_⟩
          rw [List.take_succ, hc2] at hc'
          rcases List.mem_append.mp hc' with h' | h'
          · exact hall c h'
          · have : c = ch := by simpa using h'
            rw [this]
            exact h
        · rw [decide_eq_false h]
          have e0 : isW (.str z) = false := Bool.eq_false_iff.mpr fun e => h (isB_mem (z := z) e (List.mem_of_getElem? hc2))
          rw [e0] at q
          exact iteT (q _ (sm.trans sp))
      · rintro σ H' ⟨w, rfl, sm, hall⟩
        have e1 : isW (.str z) = true := isB_all.mpr fun c hc => hall c (by rw [List.take_of_length_le (by unfold sgnsV; rw [List.length_map]; exact Nat.le_refl _)]; exact hc)
        rw [e1] at q
        exact q _ sm
theorem ok_law_are_rows {f : Addr} {fd : FuncData} (F : Fun K "_law_are_rows" "_law_are_rows" s_law_are_rows f fd) (T : Txt K mg C_Share C_Writers C_Keeper C_Breaker) (c_law_is_word : Cal P w K mg base 1 "_law_is_word" (spWordL K)) : FnOk P w K mg base CX0 2 f fd ["value"] (spAreRows K) := by
  refine F.ok sc_law_are_rows (fun vs H Q E h => ?_) (fun cdv A outer s H vs Q E hr h => ?_)
  · obtain ⟨v, d, n, rfl, _⟩ := h
    rfl
  · obtain ⟨v, d, n, rfl, hv, hok, hsh, q⟩ := h
    refine ⟨_, (pss_cons (ps_if (PW.pt (pw_or (pt_not (pt_val (pe_callB call_isiT (by rfl) T.b_isinstance (by decide +kernel) (pa_cons (pv 0) (pa_cons (pe_tup (pa_cons (pe_bltn (v := .ty "list") (by rfl) T.b_list (by decide +kernel) rfl) (pa_cons (pe_bltn (v := .ty "tuple") (by rfl) T.b_tuple (by decide +kernel) rfl) pa_nil))) pa_nil))))) (pw_or1 (pt_cmpR op_eq (pe_callB call_len_seq (by rfl) T.b_len (by decide +kernel) (pa_cons (pv 0) pa_nil)) pe_int (nomark _)))))
      (pss_one (ps_ret pe_bl))
      pss_nil)
    (pss_cons (ps_for PassesOwn.never rfl (pi_seqJ (pv 0)) (pg_name (i := 1) sc_law_are_rows.nd rfl (by first | exact Or.inl rfl | exact Or.inr rfl))
      (pss_one (ps_if (PW.pt (pw_or (pt_not (pt_val (pe_c c_law_is_word hr (by omega) (by rfl) (pa_cons (pv 1) pa_nil)))) (pw_or1 (pt_cmpR op_ne (pe_callB call_len_str (by rfl) T.b_len (by decide +kernel) (pa_cons (pv 1) pa_nil)) (pe_callB call_len_str (by rfl) T.b_len (by decide +kernel) (pa_cons (pe_ix ix_seq (pv 0) pe_int (fun _ _ => rfl)) pa_nil)) (nomark _)))))
          (pss_one (ps_ret pe_bl))
          pss_nil)))
    (pss_one (ps_ret pe_bl)))), ?_⟩
    refine ⟨_, rfl, szle (by show 2 ≤ 16777216; decide), fun tp htp => ?_⟩
    have s1 := same_upd (o := .tup [.ty "list", .ty "tuple"]) htp
    refine ⟨v, tp, [.ty "list", .ty "tuple"], _, [.type "list", .type "tuple"], isSeqD d, rfl, upd_same, .cons (.ty _) (.cons (.ty _) .nil), ty_dp (Dp.mono s1 _ _ hv), kit_lt hv, _, rfl, ?_⟩
    generalize upd H tp (.tup [.ty "list", .ty "tuple"]) = H1 at s1 ⊢
    rcases dp_seq hv hok hsh with ⟨a, xs, ds, rfl, hS, hD, e1, e2, e3, e4⟩ | ⟨e1, e2⟩
    · rw [e1]
      rw [e2] at q
      have lx := DpAll.len hD
      have S1 : ∀ {H' : Hp}, Same H H' → (SqL K H' a xs ∨ SqT K H' a xs) := fun sm => hS.imp (fun z => sm.seq z) (fun z => sameT sm z)
      refine iteF ?_
      refine ⟨_, rfl, a, xs, rfl, S1 s1, rfl, _, rfl, ite2 (fun h => ?_) (fun h => ?_)⟩
      · have h0 : (xs.length : Int) = 0 := V.int.inj (of_decide_eq_true h)
        have : ds = [] := List.eq_nil_of_length_eq_zero (by omega)
        subst this
        exact q _ s1
      have h0 : 0 < ds.length := by
        cases ds with
        | nil => exact absurd (decide_eq_true (congrArg V.int (by show (xs.length : Int) = 0; rw [lx]; rfl))) h
        | cons _ _ => exact Nat.succ_pos _
      have hro : rowsOk ds = (ds.all isW && ds.all fun e => (strD e).length == (strD (ds.getD 0 .none)).length) := by
        unfold rowsOk
        cases ds with
        | nil => exact absurd h0 (Nat.lt_irrefl _)
        | cons _ _ => rfl
      have e0 : ds[0]? = some (ds.getD 0 .none) := by rw [List.getD_eq_getElem?_getD, List.getElem?_eq_getElem h0]; rfl
      obtain ⟨x0, hx0⟩ : ∃ x0, xs[0]? = some x0 := ⟨xs[0]'(by omega), List.getElem?_eq_getElem (by omega)⟩
      obtain ⟨e0', he0', dx0⟩ := DpAll.get' hD hx0
      rw [e0] at he0'
      cases he0'
      refine ⟨_, rfl, a, xs, rfl, S1 s1, fun J S LS sJ => for_J LS (fun i σ H' => ∃ w : Option V, σ = [some (.ref a), w] ∧ Same H1 H' ∧ ∀ e ∈ ds.take i, isW e = true ∧ (strD e).length = (strD (ds.getD 0 .none)).length) ⟨none, rfl, fun _ _ e => e, fun e he => by cases he⟩ (fun i σ H' _ h => by obtain ⟨_, _, sm, _⟩ := h; exact LS.mono _ _ sm sJ) ?_ ?_⟩
      · rintro i x σ H' hi ⟨w, rfl, sm, hall⟩
        obtain ⟨e, he, dx⟩ := DpAll.get' hD hi
        have s2 := s1.trans sm
        refine ⟨_, rfl, x, e, rfl, Dp.mono s2 _ _ dx, (fun z hz => e3 z (hz ▸ List.mem_of_getElem? he)), fun H3 s3 => ?_⟩
        have s4 := s2.trans s3
        have bad : (ds.all isW && ds.all fun e => (strD e).length == (strD (ds.getD 0 .none)).length) = false → Q (.bl false) H3 := fun hb => by
          have := q H3 s4
          rwa [hro, hb] at this
        refine ⟨_, rfl, ?_⟩
        cases hw : isW e with
        | false =>
          refine iteT (iteT (bad ?_))
          have ea : ds.all isW = false := Bool.eq_false_iff.mpr fun z => by
            have := List.all_eq_true.mp z e (List.mem_of_getElem? he)
            rw [hw] at this
            cases this
          rw [ea]
          rfl
        | true =>
          refine iteF ?_
          have hx := dp_str dx hw
          subst hx
          have w0 : isW (ds.getD 0 .none) = true := by
            cases i with
            | zero => rw [e0] at he; cases he; exact hw
            | succ j => exact (hall _ (by rw [List.mem_take_iff_getElem]; exact ⟨0, by omega, by rw [List.getD_eq_getElem?_getD, List.getElem?_eq_getElem h0]; rfl⟩)).1
          have hx0' := dp_str dx0 w0
          subst hx0'
          have m0 : ds.getD 0 .none ∈ ds := List.mem_of_getElem? e0
          have sl : ∀ {d' : PyData}, isW d' = true → d' ∈ ds → (strD d').length ≤ 100000 := fun {d'} hw' hm => by
            cases d' with
            | str z => exact e3 z hm
            | none => cases hw'
            | bool b => cases hw'
            | int i => cases hw'
            | list ds => cases hw'
            | tuple ds => cases hw'
            | dict ds => cases hw'
          have le := sl hw (List.mem_of_getElem? he)
          have l0 := sl w0 m0
          have fin : ∀ (R1 R2 : Prop), (¬ (strD e).length = (strD (ds.getD 0 .none)).length → R1) → ((strD e).length = (strD (ds.getD 0 .none)).length → R2) → if (!decide (V.int ((strD e).length : Nat) = V.int ((strD (ds.getD 0 .none)).length : Nat))) = true then R1 else R2 := fun R1 R2 h1 h2 => by
            by_cases x : (strD e).length = (strD (ds.getD 0 .none)).length
            · rw [if_neg (by rw [x, decide_eq_true rfl]; decide)]
              exact h2 x
            · rw [if_pos (by rw [decide_eq_false (fun z => x (by have := V.int.inj z; omega))]; rfl)]
              exact h1 x
          have good : (strD e).length = (strD (ds.getD 0 .none)).length → ∀ e' ∈ ds.take (i + 1), isW e' = true ∧ (strD e').length = (strD (ds.getD 0 .none)).length := fun x e' he' => by
            rw [List.take_succ, he] at he'
            rcases List.mem_append.mp he' with h' | h'
            · exact hall e' h'
            · have : e' = e := by simpa using h'
              rw [this]
              exact ⟨hw, x⟩
          have bad2 : ¬ (strD e).length = (strD (ds.getD 0 .none)).length → Q (.bl false) H3 := fun x => bad (by
            have ea : (ds.all fun e => (strD e).length == (strD (ds.getD 0 .none)).length) = false := Bool.eq_false_iff.mpr fun z => x (beq_iff_eq.mp (List.all_eq_true.mp z e (List.mem_of_getElem? he)))
            rw [ea, Bool.and_false])
          have hix : ∀ {Q : VK}, Q (.str (strD (ds.getD 0 .none))) H3 → rIx K (.ref a) (.int 0) H3 Q := fun {Q} hq => by
            rcases S1 s4 with z | z
            · exact .inl ⟨a, _, _, _, rfl, rfl, z, atI_nat (j := 0) hx0, hq⟩
            · exact .inr (.inl ⟨a, _, _, _, rfl, rfl, z, atI_nat (j := 0) hx0, hq⟩)
          exact ⟨_, rfl, _, rfl, szle (by omega), _, rfl, hix ⟨_, rfl, szle (by omega), rfl, _, rfl, fin _ _ (fun x => bad2 x) (fun x => ⟨_, rfl, sm.trans s3, good x⟩)⟩⟩
      · rintro σ H' ⟨w, rfl, sm, hall⟩
        rw [List.take_of_length_le (by omega)] at hall
        have : rowsOk ds = true := by
          rw [hro, Bool.and_eq_true]
          exact ⟨List.all_eq_true.mpr fun e he => (hall e he).1, List.all_eq_true.mpr fun e he => beq_iff_eq.mpr (hall e he).2⟩
        rw [this] at q
        exact q _ (s1.trans sm)
    · rw [e1]
      rw [e2] at q
      exact iteT (iteT (q _ s1))
def spBudL (K : PySem.W.Frag) : Sp := fun vs H Q _ => ∃ (v : V) (d : PyData) (n m : Nat), vs = [v, .int (m : Int)] ∧ Dp K H v d ∧ okD n d = true ∧ ∀ H', Same H H' → Q (.bl (rowD d && decide (lenD d = m))) H'
theorem ok_law_are_budgets {f : Addr} {fd : FuncData} (F : Fun K "_law_are_budgets" "_law_are_budgets" s_law_are_budgets f fd) (T : Txt K mg C_Share C_Writers C_Keeper C_Breaker) : FnOk P w K mg base CX0 1 f fd ["value", "many"] (spBudL K) := by
  refine F.ok sc_law_are_budgets (fun vs H Q E h => ?_) (fun cdv A outer s H vs Q E hr h => ?_)
  · obtain ⟨v, d, n, m, rfl, _⟩ := h
    rfl
  · obtain ⟨v, d, n, m, rfl, hv, hok, q⟩ := h
    refine ⟨_, (pss_cons (ps_if (PW.pt (pw_or (pt_not (pt_val (pe_callB call_isiT (by rfl) T.b_isinstance (by decide +kernel) (pa_cons (pv 0) (pa_cons (pe_tup (pa_cons (pe_bltn (v := .ty "list") (by rfl) T.b_list (by decide +kernel) rfl) (pa_cons (pe_bltn (v := .ty "tuple") (by rfl) T.b_tuple (by decide +kernel) rfl) pa_nil))) pa_nil))))) (pw_or1 (pt_cmpR op_ne (pe_callB call_len_seq (by rfl) T.b_len (by decide +kernel) (pa_cons (pv 0) pa_nil)) (pv 1) (nomark _)))))
      (pss_one (ps_ret pe_bl))
      pss_nil)
    (pss_cons (ps_for PassesOwn.never rfl (pi_seqJ (pv 0)) (pg_name (i := 2) sc_law_are_budgets.nd rfl (by first | exact Or.inl rfl | exact Or.inr rfl))
      (pss_one (ps_if (PW.pt (pw_or (pt_not (pt_val (pe_callB call_isi (by rfl) T.b_isinstance (by decide +kernel) (pa_cons (pv 2) (pa_cons (pe_bltn (v := .ty "int") (by rfl) T.b_int (by decide +kernel) rfl) pa_nil))))) (pw_or (pt_val (pe_callB call_isi (by rfl) T.b_isinstance (by decide +kernel) (pa_cons (pv 2) (pa_cons (pe_bltn (v := .ty "bool") (by rfl) T.b_bool (by decide +kernel) rfl) pa_nil)))) (pw_or1 (pt_cmpR op_lt (pv 2) pe_int (nomark _))))))
          (pss_one (ps_ret pe_bl))
          pss_nil)))
    (pss_one (ps_ret pe_bl)))), ?_⟩
    refine ⟨_, rfl, szle (by show 2 ≤ 16777216; decide), fun tp htp => ?_⟩
    have s1 := same_upd (o := .tup [.ty "list", .ty "tuple"]) htp
    refine ⟨v, tp, [.ty "list", .ty "tuple"], _, [.type "list", .type "tuple"], isSeqD d, rfl, upd_same, .cons (.ty _) (.cons (.ty _) .nil), ty_dp (Dp.mono s1 _ _ hv), kit_lt hv, _, rfl, ?_⟩
    generalize upd H tp (.tup [.ty "list", .ty "tuple"]) = H1 at s1 ⊢
    obtain ⟨a, xs, ds, rfl, hS, hD, e1, e2, e3⟩ | ⟨e1, e2⟩ : (∃ a xs ds, v = .ref a ∧ (SqL K H a xs ∨ SqT K H a xs) ∧ DpAll K H xs ds ∧ isSeqD d = true ∧ rowD d = ds.all isNumD ∧ lenD d = ds.length) ∨ (isSeqD d = false ∧ rowD d = false) := by
      cases d with
      | none => exact .inr ⟨rfl, rfl⟩
      | bool b => exact .inr ⟨rfl, rfl⟩
      | int b => exact .inr ⟨rfl, rfl⟩
      | str b => exact .inr ⟨rfl, rfl⟩
      | dict b => cases hv
      | list ds =>
        cases hv with
        | lst sx ax => exact .inl ⟨_, _, ds, rfl, .inl sx, ax, rfl, rfl, rfl⟩
      | tuple ds =>
        cases hv with
        | tup sx ax => exact .inl ⟨_, _, ds, rfl, .inr sx, ax, rfl, rfl, rfl⟩
    · rw [e1]
      rw [e2, e3] at q
      have lx := DpAll.len hD
      have S1 : ∀ {H' : Hp}, Same H H' → (SqL K H' a xs ∨ SqT K H' a xs) := fun sm => hS.imp (fun z => sm.seq z) (fun z => sameT sm z)
      refine iteF ?_
      refine ⟨_, rfl, a, xs, rfl, S1 s1, _, rfl, rfl, _, rfl, ite2 (fun h => ?_) (fun h => ?_)⟩
      · have h0 : ¬ ds.length = m := fun z => by
          rw [lx, z, decide_eq_true rfl] at h
          exact absurd h (by decide)
        rw [decide_eq_false h0, Bool.and_false] at q
        exact q _ s1
      have h0 : ds.length = m := by
        refine Classical.byContradiction fun z => h ?_
        rw [decide_eq_false (fun w => z (by have := V.int.inj w; omega))]
        rfl
      rw [decide_eq_true h0, Bool.and_true] at q
      refine ⟨_, rfl, a, xs, rfl, S1 s1, fun J S LS sJ => for_J LS (fun i σ H' => ∃ w : Option V, σ = [some (.ref a), some (.int (m : Int)), w] ∧ H' = H1 ∧ (ds.take i).all isNumD = true) ⟨none, rfl, rfl, rfl⟩ (fun i σ H' _ h => by obtain ⟨_, _, rfl, _⟩ := h; exact sJ) ?_ ?_⟩
      · rintro i x σ H' hi ⟨w, rfl, rfl, hall⟩
        obtain ⟨e, he, dx⟩ := DpAll.get' hD hi
        have dx1 := Dp.mono s1 _ _ dx
        have bad : isNumD e = false → Q (.bl false) H' := fun hb => by
          have e0 : ds.all isNumD = false := Bool.eq_false_iff.mpr fun z => by
            have := List.all_eq_true.mp z e (List.mem_of_getElem? he)
            rw [hb] at this
            cases this
          have := q H' s1
          rwa [e0] at this
        have good : isNumD e = true → (ds.take (i + 1)).all isNumD = true := fun hg => by
          rw [List.take_succ, he, List.all_append, hall]
          simpa using hg
        cases e with
        | int z =>
          cases dx1
          refine ⟨_, rfl, _, _, _, _, _, rfl, .ty _, .base (.int z), kit_ty (r := true) (by decide), _, rfl, iteF ?_⟩
          refine ⟨_, rfl, _, _, _, _, _, rfl, .ty _, .base (.int z), kit_ty (r := false) (by decide), _, rfl, iteF ?_⟩
          refine ⟨_, rfl, _, _, rfl, rfl, _, rfl, ?_⟩
          by_cases hz : z < 0
          · rw [decide_eq_true hz]
            exact iteT (bad (decide_eq_false (by omega)))
          · rw [decide_eq_false hz]
            exact iteF ⟨_, rfl, rfl, good (decide_eq_true (by omega))⟩
        | bool b =>
          cases dx1
          refine ⟨_, rfl, _, _, _, _, _, rfl, .ty _, .base (.bl b), kit_ty (r := true) (by decide), _, rfl, iteF ?_⟩
          exact ⟨_, rfl, _, _, _, _, _, rfl, .ty _, .base (.bl b), kit_ty (r := true) (by decide), _, rfl, iteT (iteT (bad rfl))⟩
        | none => cases dx1; exact ⟨_, rfl, _, _, _, _, _, rfl, .ty _, .base .non, kit_ty (r := false) (by decide), _, rfl, iteT (iteT (bad rfl))⟩
        | str b => cases dx1; exact ⟨_, rfl, _, _, _, _, _, rfl, .ty _, .base (.str b), kit_ty (r := false) (by decide), _, rfl, iteT (iteT (bad rfl))⟩
        | dict b => cases dx1
        | list b =>
          cases dx1 with
          | lst sy _ => exact ⟨_, rfl, _, _, _, _, _, rfl, .ty _, ty_seq sy, kit_ty (r := false) (by decide), _, rfl, iteT (iteT (bad rfl))⟩
        | tuple b =>
          cases dx1 with
          | tup sy _ => exact ⟨_, rfl, _, _, _, _, _, rfl, .ty _, ty_tup sy, kit_ty (r := false) (by decide), _, rfl, iteT (iteT (bad rfl))⟩
      · rintro σ H' ⟨w, rfl, rfl, hall⟩
        rw [List.take_of_length_le (by omega)] at hall
        rw [hall] at q
        exact q _ s1
    · rw [e1]
      rw [e2, Bool.false_and] at q
      exact iteT (iteT (q _ s1))
end

/-! ### what is wrong with rows or budgets (as in gamebad) -/
theorem fn_or {P : Program} {w : World} {K : PySem.W.Frag} {mg : Str → Option Value} {base : Heap} {CX : CXT} {k : Nat} {f : Addr} {fd : FuncData} {ps : List Str} {s1 s2 : Sp} (F1 : FnOk P w K mg base CX k f fd ps s1) (F2 : FnOk P w K mg base CX k f fd ps s2) : FnOk P w K mg base CX k f fd ps (fun vs H Q E => s1 vs H Q E ∨ s2 vs H Q E) :=
  ⟨fun vs H Q E h => h.elim (F1.len vs H Q E) (F2.len vs H Q E), fun A outer s H args us vs Q E hr he hb hv h => h.elim (F1.run A outer s H args us vs Q E hr he hb hv) (F2.run A outer s H args us vs Q E hr he hb hv)⟩
/-- what is wrong with rows v and budgets u -/
def WrongG (K : PySem.W.Frag) (CR CB : Addr) (H : Hp) (v u : V) (E : XK) : Prop := ∃ (d e : PyData) (m n : Nat), Dp K H v d ∧ okD m d = true ∧ shortD d ∧ Dp K H u e ∧ okD n e = true ∧
  ((rowsD d = false ∧ ∀ H' dd, Same H H' → H' dd = some (.xd [("rows", v)]) → E (.ref CR) (some dd) H') ∨ (rowsD d = true ∧ ∃ (r : Addr) (xs : List V), v = .ref r ∧ (SqL K H r xs ∨ SqT K H r xs) ∧ ¬ (rowD e = true ∧ lenD e = xs.length) ∧ ∀ H' dd, Same H H' → H' dd = some (.xd [("budgets", u)]) → E (.ref CB) (some dd) H'))

/-! ### a keeper of wrong rows or budgets; what is told of it -/
def spKBad (K : PySem.W.Frag) (C CR CB : Addr) : Sp := fun vs H _ E => ∃ x dx v u, vs = [.ref x, v, u] ∧ H x = some (.ins C dx []) ∧ WrongG K CR CB H v u E
def spKAll (K : PySem.W.Frag) (C CW CR CB : Addr) : Sp := fun vs H Q E => spKInit K C CW vs H Q E ∨ spKBad K C CR CB vs H Q E
def rngN (n : Nat) : List Nat := List.range n
def spTold25 (K : PySem.W.Frag) : Sp := fun vs H Q _ => ∃ v u nm, vs = [v, u, .bl nm] ∧ ((∃ (g : Gm) (r b : Addr), v = .ref r ∧ u = .ref b ∧ (SqL K H r (g.rows.map V.str) ∨ SqT K H r (g.rows.map V.str)) ∧ (SqL K H b (g.bs.map nI) ∨ SqT K H b (g.bs.map nI)) ∧ GmOk g ∧ ∀ H' p p2 p3, Same H H' → H' p = some (.lst [.int 0, .ref p2]) → H' p2 = some (.lst [.str "", .int 0, .ref p3]) → H' p3 = some (.tup ((List.range g.rows.length).map nI)) → Q (.ref p) H') ∨
  ∃ (d e : PyData) (m n : Nat), Dp K H v d ∧ okD m d = true ∧ shortD d ∧ Dp K H u e ∧ okD n e = true ∧ ((rowsD d = false ∧ ∀ H' p, Same H H' → H' p = some (.lst [.int 1, v]) → Q (.ref p) H') ∨ (rowsD d = true ∧ ∃ (r : Addr) (xs : List V), v = .ref r ∧ (SqL K H r xs ∨ SqT K H r xs) ∧ ¬ (rowD e = true ∧ lenD e = xs.length) ∧ ∀ H' p, Same H H' → H' p = some (.lst [.int 2, u]) → Q (.ref p) H')))
theorem liv_all {g : Gm} (G : GmOk g) : livG g "" = List.range g.rows.length := by
  unfold livG livL
  rw [if_neg (by show ¬ g.n < 0; omega)]
  refine List.filter_eq_self.mpr fun k _ => ?_
  exact decide_eq_true (Nat.zero_le _)
section
variable {P : Program} {w : World} {K : PySem.W.Frag} {mg : Str → Option Value} {base : Heap} {C_Share C_Writers C_Keeper C_Breaker : Addr} {C_InvalidRows C_InvalidBudgets : Addr}
theorem ok_Keeper___init___bad {f : Addr} {fd : FuncData} (F : Fun K "__init__" "Keeper.__init__" s_Keeper___init__ f fd) (T : Txt K mg C_Share C_Writers C_Keeper C_Breaker) (c_check_rows : CalX P w K mg base 3 "check_rows" (spCheckRows K C_InvalidRows)) (c_check_budgets_of : CalX P w K mg base 4 "check_budgets_of" (spCheckOf K C_InvalidBudgets)) (c_without_flips : Cal P w K mg base 3 "without_flips" (spWF K C_Writers)) : FnOk P w K mg base (L2N.CX P w) 5 f fd ["self", "rows", "budgets"] (spKBad K C_Keeper C_InvalidRows C_InvalidBudgets) := by
  refine Fun_okN F sc_Keeper___init__ (fun vs H Q E h => ?_) (fun cdv A outer s H vs Q E hr h => ?_)
  · obtain ⟨x, dx, v, u, rfl, _⟩ := h
    rfl
  · obtain ⟨x, dx, v, u, rfl, hx, d, e, m, n, hd, hok, hsh, he, hoke, h⟩ := h
    refine ⟨_, (pss_cons (ps_expr (pe_xS c_check_rows hr (by omega) (by rfl) (L2N.takes_of rfl rfl rfl rfl) (pa_cons (pv 1) pa_nil)))
    (pss_cons (ps_expr (pe_xS c_check_budgets_of hr (by omega) (by rfl) (L2N.takes_of rfl rfl rfl rfl) (pa_cons (pv 1) (pa_cons (pv 2) pa_nil))))
    (pss_cons (ps_fld (pv 0) pe_str rfl)
    (pss_cons (ps_fld (pv 0) pe_int rfl)
    (pss_cons (ps_fld (pv 0) (pe_c c_without_flips hr (by omega) (by rfl) (pa_cons (pv 1) pa_nil)) rfl)
    (pss_one (ps_fld (pv 0) (pe_callTy call_tuple_of (by rfl) T.b_tuple (by decide +kernel) (pa_cons (pv 2) pa_nil)) rfl))))))), ?_⟩
    rcases h with ⟨hr, q⟩ | ⟨hr, r, xs, rfl, hS, hbad, q⟩
    · exact ⟨_, rfl, v, d, m, rfl, hd, hok, hsh, .inr ⟨hr, fun H1 dd s1 h1 => q H1 dd s1 h1⟩⟩
    · refine ⟨_, rfl, _, d, m, rfl, hd, hok, hsh, .inl ⟨hr, fun H1 s1 => ?_⟩⟩
      exact ⟨_, rfl, _, rfl, r, xs, u, e, n, rfl, hS.imp (fun z => s1.seq z) (fun z => sameT s1 z), Dp.mono s1 _ _ he, hoke, .inr ⟨hbad, fun H2 dd s2 h2 => q H2 dd (s1.trans s2) h2⟩⟩
theorem ok_law_told {f : Addr} {fd : FuncData} (F : Fun K "_law_told" "_law_told" s_law_told f fd) (T : Txt K mg C_Share C_Writers C_Keeper C_Breaker) (c : KpC K C_Keeper) (x_InvalidRows : XErr P K mg "InvalidRows" C_InvalidRows ["rows"]) (x_InvalidBudgets : XErr P K mg "InvalidBudgets" C_InvalidBudgets ["budgets"]) (m_Keeper : MakX P w K mg base 5 "Keeper" C_Keeper (spKAll K C_Keeper C_Writers C_InvalidRows C_InvalidBudgets)) (mk_Keeper_budgets_rows : MakXK P w K mg base 5 "Keeper" C_Keeper ["budgets", "rows"] (fun xs zs => xs ++ zs.reverse) (spKAll K C_Keeper C_Writers C_InvalidRows C_InvalidBudgets)) (c_Keeper_living : Met P w K mg base 3 C_Keeper "living" (spKL K C_Keeper C_Writers)) (hno : PySem.W.exmOne K (.ref C_InvalidBudgets) (.ref C_InvalidRows) = some false) : FnOk P w K mg base CX0 7 f fd ["rows", "budgets", "by_name"] (spTold25 K) := by
  refine F.ok sc_law_told (fun vs H Q E h => ?_) (fun cdv A outer s H vs Q E hr h => ?_)
  · obtain ⟨v, u, nm, rfl, _⟩ := h
    rfl
  · obtain ⟨v, u, nm, rfl, h⟩ := h
    refine ⟨_, (pss_one (L2N.ps_try_named (i := 4) (tb := fun W => (tSeq (tAsg (tIf (tB (tVar 2)) (tMakeSK C_Keeper 2 (spKAll K C_Keeper C_Writers C_InvalidRows C_InvalidBudgets) (fun xs zs => xs ++ zs.reverse) (WE W) (tCons (tVar 1) (tCons (tVar 0) tNil))) (tMakeS C_Keeper (spKAll K C_Keeper C_Writers C_InvalidRows C_InvalidBudgets) (WE W) (tCons (tVar 0) (tCons (tVar 1) tNil)))) (gName 3)) (tRet (tLst (tCons (tC (.int 0)) (tCons (tLst (tCons (tFld K (tVar 3) "seen") (tCons (tFld K (tVar 3) "errors") (tCons (tMeth C_Keeper "living" (spKL K C_Keeper C_Writers) [] E0 (tVar 3) tNil) tNil)))) tNil))))))
      (l := [(.ref C_InvalidRows, fun a cls d => (tRet (tLst (tCons (tC (.int 1)) (tCons (tXf a cls d C_InvalidRows "rows" (tVar 4)) tNil))))), (.ref C_InvalidBudgets, fun a cls d => (tRet (tLst (tCons (tC (.int 2)) (tCons (tXf a cls d C_InvalidBudgets "budgets" (tVar 4)) tNil)))))]) rfl rfl sc_law_told.nd rfl rfl takesN0
      (fun W pn xe tk pwn => (pss_cons (ps_set (i := 3) sc_law_told.nd rfl (by first | exact Or.inl rfl | exact Or.inr rfl) (pe_ifExp (pt_val (pv 2)) (pe_mkxSK0 mk_Keeper_budgets_rows hr (by omega) (by rfl) tk (pk_cons (pv 1) (pk_cons (pv 0) pk_nil))) (pe_mkxS m_Keeper hr (by omega) (by rfl) tk (pa_cons (pv 0) (pa_cons (pv 1) pa_nil)))))
        (pss_one (ps_ret (pe_lst (pa_cons pe_int (pa_cons (pe_lst (pa_cons (pe_fld (pv 3) rfl) (pa_cons (pe_fld (pv 3) rfl) (pa_cons (pe_mt0 c_Keeper_living hr (by omega) (pv 3)) pa_nil)))) pa_nil)))))))
      (.cons ⟨rfl, by decide, .inl x_InvalidRows.gC⟩ (fun a oe cls d pn hz hf => (pss_one (ps_ret (pe_lst (pa_cons pe_int (pa_cons (pe_xf x_InvalidRows.xf (x_InvalidRows.no (by simp)) hz.zc hf (pv 4)) pa_nil)))))) (.cons ⟨rfl, by decide, .inl x_InvalidBudgets.gC⟩ (fun a oe cls d pn hz hf => (pss_one (ps_ret (pe_lst (pa_cons pe_int (pa_cons (pe_xf x_InvalidBudgets.xf (x_InvalidBudgets.no (by simp)) hz.zc hf (pv 4)) pa_nil)))))) .nil)))), ?_⟩
    have hlv : ∀ g : Gm, GmOk g → livG g "" = List.range g.rows.length := fun g G => liv_all G
    cases nm
    · refine ⟨_, rfl, _, rfl, iteF ?_⟩
      refine ⟨_, rfl, _, rfl, fun k dk hk hdk hne => ?_⟩
      have i4 := same_ins (C := C_Keeper) (fs := []) hk hdk hne
      rcases h with ⟨g, r, b, rfl, rfl, hR, hB, G, q⟩ | ⟨d, e, m, n, hd, hok, hsh, he, hoke, h⟩
      · refine .inl ⟨k, dk, r, b, g, rfl, upd_same, hR.imp (fun z => i4.seq z) (fun z => sameT i4 z), hB.imp (fun z => i4.seq z) (fun z => sameT i4 z), G, fun H1 wr bu sm hKp => ⟨rfl, ?_⟩⟩
        rw [upd_upd] at sm
        have s1 : Same H H1 := (same_ins hk hdk hne).trans sm
        have hx := sm _ _ upd_same
        refine ⟨_, rfl, k, C_Keeper, dk, _, _, rfl, hx, c.ins.cl, c.ns, kfz_s, _, rfl, k, C_Keeper, dk, _, _, rfl, hx, c.ins.cl, c.ne, kfz_e, ?_⟩
        refine ⟨_, rfl, k, dk, _, rfl, hx, rfl, k, dk, wr, bu, g, "", 0, rfl, hx, hKp, G, by show 0 ≤ 1000; decide, fun H2 p3 s2 np3 hp3 => ?_⟩
        rw [hlv g G] at hp3
        refine ⟨szle (by show 3 ≤ 16777216; decide), fun p2 hp2 => ⟨szle (by show 2 ≤ 16777216; decide), fun p hp => ?_⟩⟩
        have t3 := same_upd (o := .lst [.str "", .int 0, .ref p3]) hp2
        have t4 := same_upd (o := .lst [.int 0, .ref p2]) hp
        exact q _ p p2 p3 (s1.trans (s2.trans (t3.trans t4))) upd_same (t4 _ _ upd_same) ((t3.trans t4) _ _ hp3)
      · refine .inr ⟨k, dk, _, _, rfl, upd_same, d, e, m, n, Dp.mono i4 _ _ hd, hok, hsh, Dp.mono i4 _ _ he, hoke, ?_⟩
        rcases h with ⟨hr, q⟩ | ⟨hr, r, xs, rfl, hS, hbad, q⟩
        · refine .inl ⟨hr, fun H1 dd s1 h1 => ⟨true, x_InvalidRows.te, fun _ z hz => ?_, fun z => by cases z⟩⟩
          exact ⟨_, rfl, rfl, rfl, dd, _, _, rfl, h1, rfl, szle (by show 2 ≤ 16777216; decide), fun p hp => q _ p ((i4.trans s1).trans (same_upd hp)) upd_same⟩
        · refine .inr ⟨hr, r, xs, rfl, hS.imp (fun z => i4.seq z) (fun z => sameT i4 z), hbad, fun H1 dd s1 h1 => ⟨false, hno, fun z => (by cases z), fun _ => ⟨true, x_InvalidBudgets.te, fun _ z hz => ?_, fun z => by cases z⟩⟩⟩
          exact ⟨_, rfl, rfl, rfl, dd, _, _, rfl, h1, rfl, szle (by show 2 ≤ 16777216; decide), fun p hp => q _ p ((i4.trans s1).trans (same_upd hp)) upd_same⟩
    · refine ⟨_, rfl, _, rfl, iteT ?_⟩
      refine ⟨_, rfl, _, rfl, rfl, _, fun _ => rfl, fun k dk hk hdk hne => ?_⟩
      have i4 := same_ins (C := C_Keeper) (fs := []) hk hdk hne
      rcases h with ⟨g, r, b, rfl, rfl, hR, hB, G, q⟩ | ⟨d, e, m, n, hd, hok, hsh, he, hoke, h⟩
      · refine .inl ⟨k, dk, r, b, g, rfl, upd_same, hR.imp (fun z => i4.seq z) (fun z => sameT i4 z), hB.imp (fun z => i4.seq z) (fun z => sameT i4 z), G, fun H1 wr bu sm hKp => ⟨rfl, ?_⟩⟩
        rw [upd_upd] at sm
        have s1 : Same H H1 := (same_ins hk hdk hne).trans sm
        have hx := sm _ _ upd_same
        refine ⟨_, rfl, k, C_Keeper, dk, _, _, rfl, hx, c.ins.cl, c.ns, kfz_s, _, rfl, k, C_Keeper, dk, _, _, rfl, hx, c.ins.cl, c.ne, kfz_e, ?_⟩
        refine ⟨_, rfl, k, dk, _, rfl, hx, rfl, k, dk, wr, bu, g, "", 0, rfl, hx, hKp, G, by show 0 ≤ 1000; decide, fun H2 p3 s2 np3 hp3 => ?_⟩
        rw [hlv g G] at hp3
        refine ⟨szle (by show 3 ≤ 16777216; decide), fun p2 hp2 => ⟨szle (by show 2 ≤ 16777216; decide), fun p hp => ?_⟩⟩
        have t3 := same_upd (o := .lst [.str "", .int 0, .ref p3]) hp2
        have t4 := same_upd (o := .lst [.int 0, .ref p2]) hp
        exact q _ p p2 p3 (s1.trans (s2.trans (t3.trans t4))) upd_same (t4 _ _ upd_same) ((t3.trans t4) _ _ hp3)
      · refine .inr ⟨k, dk, _, _, rfl, upd_same, d, e, m, n, Dp.mono i4 _ _ hd, hok, hsh, Dp.mono i4 _ _ he, hoke, ?_⟩
        rcases h with ⟨hr, q⟩ | ⟨hr, r, xs, rfl, hS, hbad, q⟩
        · refine .inl ⟨hr, fun H1 dd s1 h1 => ⟨true, x_InvalidRows.te, fun _ z hz => ?_, fun z => by cases z⟩⟩
          exact ⟨_, rfl, rfl, rfl, dd, _, _, rfl, h1, rfl, szle (by show 2 ≤ 16777216; decide), fun p hp => q _ p ((i4.trans s1).trans (same_upd hp)) upd_same⟩
        · refine .inr ⟨hr, r, xs, rfl, hS.imp (fun z => i4.seq z) (fun z => sameT i4 z), hbad, fun H1 dd s1 h1 => ⟨false, hno, fun z => (by cases z), fun _ => ⟨true, x_InvalidBudgets.te, fun _ z hz => ?_, fun z => by cases z⟩⟩⟩
          exact ⟨_, rfl, rfl, rfl, dd, _, _, rfl, h1, rfl, szle (by show 2 ≤ 16777216; decide), fun p hp => q _ p ((i4.trans s1).trans (same_upd hp)) upd_same⟩
end

/-! ### whether a keeper is told as it should be -/
theorem dps_str {K : PySem.W.Frag} {H : Hp} : ∀ {xs : List V} {ds : List PyData}, DpAll K H xs ds → ds.all isW = true → xs = (ds.map strD).map V.str
  | _, _, .nil, _ => rfl
  | _, _, .cons h r, ha => by
    rw [List.all_cons, Bool.and_eq_true] at ha
    rw [dp_str h ha.1, dps_str r ha.2]
    rfl
theorem w_str {e : PyData} (h : isW e = true) : e = .str (strD e) := by
  cases e with
  | str z => rfl
  | none => cases h
  | bool b => cases h
  | int i => cases h
  | list ds => cases h
  | tuple ds => cases h
  | dict ds => cases h
/-- the words of rows that are right -/
theorem rows_at {K : PySem.W.Frag} {H : Hp} {v : V} {d : PyData} (hv : Dp K H v d) (hr : rowsD d = true) (h25 : I25 d) : ∃ (a : Addr) (ws : List Str) (m : Nat), v = .ref a ∧ (SqL K H a (ws.map V.str) ∨ SqT K H a (ws.map V.str)) ∧ 0 < ws.length ∧ ws.length = lenD d ∧ ws.length ≤ 1000 ∧ (∀ z ∈ ws, isB z = true) ∧ (∀ z ∈ ws, z.length = m) ∧ m ≤ 400 := by
  obtain ⟨a, xs, ds, rfl, hS, hD, hl, hro, hds⟩ : ∃ a xs ds, v = .ref a ∧ (SqL K H a xs ∨ SqT K H a xs) ∧ DpAll K H xs ds ∧ lenD d = ds.length ∧ rowsOk ds = true ∧ (ds.length ≤ 1000 ∧ ∀ e ∈ ds, Sm e) := by
    cases d with
    | none => cases hr
    | bool b => cases hr
    | int b => cases hr
    | str b => cases hr
    | dict b => cases hr
    | list ds =>
      cases hv with
      | lst sx ax => exact ⟨_, _, ds, rfl, .inl sx, ax, rfl, hr, h25.2 ds (.inl rfl)⟩
    | tuple ds =>
      cases hv with
      | tup sx ax => exact ⟨_, _, ds, rfl, .inr sx, ax, rfl, hr, h25.2 ds (.inr rfl)⟩
  unfold rowsOk at hro
  rw [Bool.and_eq_true, Bool.and_eq_true] at hro
  obtain ⟨h0, h1, h2⟩ := hro
  have hx := dps_str hD h1
  subst hx
  have hpos : 0 < ds.length := by
    cases ds with
    | nil => cases h0
    | cons _ _ => exact Nat.succ_pos _
  have m0 : ds.getD 0 .none ∈ ds := by
    rw [List.getD_eq_getElem?_getD, List.getElem?_eq_getElem hpos]
    exact List.getElem_mem _
  have sl : ∀ e ∈ ds, (strD e).length ≤ 400 := fun e he => (hds.2 e he).1 _ (w_str (List.all_eq_true.mp h1 e he))
  refine ⟨a, ds.map strD, (strD (ds.getD 0 .none)).length, rfl, hS, by rw [List.length_map]; exact hpos, by rw [List.length_map, hl], by rw [List.length_map]; exact hds.1, fun z hz => ?_, fun z hz => ?_, sl _ m0⟩
  · obtain ⟨e, he, rfl⟩ := List.mem_map.mp hz
    have := List.all_eq_true.mp h1 e he
    rw [w_str this] at this
    exact this
  · obtain ⟨e, he, rfl⟩ := List.mem_map.mp hz
    exact beq_iff_eq.mp (List.all_eq_true.mp h2 e he)
theorem lens_25 {e : PyData} (hr : rowD e = true) (h25 : I25 e) : (lensD e).length = lenD e ∧ ∀ n ∈ lensD e, n ≤ 1000 := by
  have aux : ∀ ds : List PyData, (∀ e ∈ ds, Sm e) → ds.all isNumD = true → ∀ n ∈ ds.map natD, n ≤ 1000 := fun ds hs ha n hn => by
    obtain ⟨x, hx, rfl⟩ := List.mem_map.mp hn
    have := List.all_eq_true.mp ha x hx
    cases x with
    | int z => have := (hs _ hx).2 z rfl; show z.toNat ≤ 1000; omega
    | none => cases this
    | bool b => cases this
    | str b => cases this
    | list b => cases this
    | tuple b => cases this
    | dict b => cases this
  cases e with
  | list ds => exact ⟨List.length_map .., aux ds (h25.2 ds (.inl rfl)).2 hr⟩
  | tuple ds => exact ⟨List.length_map .., aux ds (h25.2 ds (.inr rfl)).2 hr⟩
  | none => cases hr
  | bool b => cases hr
  | int b => cases hr
  | str b => cases hr
  | dict b => cases hr
theorem rgV_nat (n : Nat) : rgV 0 (n : Int) = (List.range n).map nI := by
  unfold rgV
  rw [show ((n : Int) - 0).toNat = n by omega]
  exact List.map_congr_left fun i _ => by rw [Int.zero_add]; rfl
theorem i25_short {d : PyData} (h : I25 d) : shortD d := by
  cases d with
  | list ds => exact fun z hz => Nat.le_trans (((h.2 ds (.inl rfl)).2 _ hz).1 z rfl) (by decide)
  | tuple ds => exact fun z hz => Nat.le_trans (((h.2 ds (.inr rfl)).2 _ hz).1 z rfl) (by decide)
  | none => trivial
  | bool b => trivial
  | int b => trivial
  | str b => trivial
  | dict b => trivial
def spRight25 (K : PySem.W.Frag) : Sp := fun vs H Q _ => ∃ (v u : V) (d e : PyData) (nm : Bool), vs = [v, u, .bl nm] ∧ Dp K H v d ∧ okD 4 d = true ∧ I25 d ∧ Dp K H u e ∧ okD 4 e = true ∧ I25 e ∧ ∀ H', Same H H' → Q (.bl true) H'
section
variable {P : Program} {w : World} {K : PySem.W.Frag} {mg : Str → Option Value} {base : Heap} {C_Share C_Writers C_Keeper C_Breaker : Addr}
theorem ok_law_right {f : Addr} {fd : FuncData} (F : Fun K "_law_right" "_law_right" s_law_right f fd) (T : Txt K mg C_Share C_Writers C_Keeper C_Breaker) (c_law_copy : Cal P w K mg base 4 "_law_copy" (spCopy K 4)) (c_law_same : Cal P w K mg base 4 "_law_same" (spSame K 4)) (c_law_are_rows : Cal P w K mg base 2 "_law_are_rows" (spAreRows K)) (c_law_are_budgets : Cal P w K mg base 1 "_law_are_budgets" (spBudL K)) (c_law_told : Cal P w K mg base 7 "_law_told" (spTold25 K)) : FnOk P w K mg base CX0 8 f fd ["rows", "budgets", "by_name"] (spRight25 K) := by
  refine F.ok sc_law_right (fun vs H Q E h => ?_) (fun cdv A outer s H vs Q E hr h => ?_)
  · obtain ⟨v, u, d, e, nm, rfl, _⟩ := h
    rfl
  · obtain ⟨v, u, d, e, nm, rfl, hv, hok, h25, hu, hoku, h25u, q⟩ := h
    refine ⟨_, (pss_cons (ps_set (i := 3) sc_law_right.nd rfl (by first | exact Or.inl rfl | exact Or.inr rfl) (pe_c c_law_copy hr (by omega) (by rfl) (pa_cons (pv 0) pa_nil)))
    (pss_cons (ps_set (i := 4) sc_law_right.nd rfl (by first | exact Or.inl rfl | exact Or.inr rfl) (pe_c c_law_copy hr (by omega) (by rfl) (pa_cons (pv 1) pa_nil)))
    (pss_cons (ps_set (i := 5) sc_law_right.nd rfl (by first | exact Or.inl rfl | exact Or.inr rfl) (pe_c c_law_told hr (by omega) (by rfl) (pa_cons (pv 0) (pa_cons (pv 1) (pa_cons (pv 2) pa_nil)))))
    (pss_cons (ps_if (PW.pt (pw_or (pt_not (pt_val (pe_c c_law_same hr (by omega) (by rfl) (pa_cons (pv 0) (pa_cons (pv 3) pa_nil))))) (pw_or1 (pt_not (pt_val (pe_c c_law_same hr (by omega) (by rfl) (pa_cons (pv 1) (pa_cons (pv 4) pa_nil))))))))
      (pss_one (ps_ret pe_bl))
      pss_nil)
    (pss_cons (ps_if (pt_not (pt_val (pe_c c_law_are_rows hr (by omega) (by rfl) (pa_cons (pv 3) pa_nil))))
      (pss_one (ps_ret (pe_and (pe_cmpR op_eq (pe_ix ix_list (pv 5) pe_int (fun _ _ => rfl)) pe_int (nomark _)) (pe_one (pe_c c_law_same hr (by omega) (by rfl) (pa_cons (pe_ix ix_list (pv 5) pe_int (fun _ _ => rfl)) (pa_cons (pv 3) pa_nil)))))))
      pss_nil)
    (pss_cons (ps_if (pt_not (pt_val (pe_c c_law_are_budgets hr (by omega) (by rfl) (pa_cons (pv 4) (pa_cons (pe_callB call_len_seq (by rfl) T.b_len (by decide +kernel) (pa_cons (pv 3) pa_nil)) pa_nil)))))
      (pss_one (ps_ret (pe_and (pe_cmpR op_eq (pe_ix ix_list (pv 5) pe_int (fun _ _ => rfl)) pe_int (nomark _)) (pe_one (pe_c c_law_same hr (by omega) (by rfl) (pa_cons (pe_ix ix_list (pv 5) pe_int (fun _ _ => rfl)) (pa_cons (pv 4) pa_nil)))))))
      pss_nil)
    (pss_one (ps_ret (pe_and (pe_cmpR op_eq (pe_ix ix_list (pv 5) pe_int (fun _ _ => rfl)) pe_int (nomark _)) (pe_one (pe_c c_law_same hr (by omega) (by rfl) (pa_cons (pe_ix ix_list (pv 5) pe_int (fun _ _ => rfl)) (pa_cons (pe_lst (pa_cons pe_str (pa_cons pe_int (pa_cons (pe_tupRg rfl (by rfl) T.b_tuple (prg_1 (by rfl) T.b_range (pe_callB call_len_seq (by rfl) T.b_len PySem.boot_len (pa_cons (pv 3) pa_nil)))) pa_nil)))) pa_nil))))))))))))), ?_⟩
    refine ⟨_, rfl, v, d, rfl, hok, hv, fun H1 v2 N s1 nw dv2 => ?_⟩
    have d2 := Dp.mono nw.same _ _ dv2
    refine ⟨_, rfl, u, e, rfl, hoku, Dp.mono s1 _ _ hu, fun H2 u2 N2 s2 nw2 du2 => ?_⟩
    have e2 := Dp.mono nw2.same _ _ du2
    have d2 := Dp.mono s2 _ _ d2
    have s12 := s1.trans s2
    refine ⟨_, rfl, _, rfl, _, rfl, v, u, nm, rfl, ?_⟩
    by_cases hr1 : rowsD d = true
    · obtain ⟨r, ws, m, rfl, hS, hpos, hlen, hl1000, hB, hm, hm4⟩ := rows_at hv hr1 h25
      have hS2 : SqL K H2 r (ws.map V.str) ∨ SqT K H2 r (ws.map V.str) := hS.imp (fun z => s12.seq z) (fun z => sameT s12 z)
      by_cases hr2 : rowD e = true ∧ lenD e = lenD d
      · obtain ⟨b, rfl, hT, hbl⟩ := row_at hu hoku hr2.1
        obtain ⟨l1, l2⟩ := lens_25 hr2.1 h25u
        have G : GmOk ⟨ws, lensD e, m⟩ := ⟨hpos, hl1000, by show (lensD e).length = ws.length; omega, l2, hm, hB, by show m ≤ 1000; omega⟩
        refine .inl ⟨⟨ws, lensD e, m⟩, r, b, rfl, rfl, hS2, hT.imp (fun z => s12.seq z) (fun z => sameT s12 z), G, fun H3 p p2 p3 s3 hp hp2 hp3 => ?_⟩
        have s123 := s12.trans s3
        have hv3 := Dp.mono s123 _ _ hv
        have hu3 := Dp.mono s123 _ _ hu
        have d3 := Dp.mono s3 _ _ d2
        have e3 := Dp.mono s3 _ _ e2
        refine ⟨_, rfl, _, rfl, _, v2, d, rfl, hok, hv3, d3, _, rfl, iteF ?_⟩
        refine ⟨_, rfl, _, rfl, _, u2, e, rfl, hoku, hu3, e3, _, rfl, iteF ?_⟩
        refine ⟨_, rfl, v2, d, 4, rfl, d3, hok, i25_short h25, fun H4 s4 => ⟨_, rfl, ?_⟩⟩
        have S4 := s123.trans s4
        have hp4 := s4 _ _ hp
        rw [hr1]
        refine iteF ?_
        obtain ⟨r2, ws2, m2, rfl, hS4, _, hlen2, _⟩ := rows_at (Dp.mono s4 _ _ d3) hr1 h25
        refine ⟨_, rfl, _, rfl, r2, _, rfl, hS4, u2, e, 4, ws2.length, by rw [List.length_map]; rfl, Dp.mono s4 _ _ e3, hoku, fun H5 s5 => ⟨_, rfl, ?_⟩⟩
        rw [hr2.1, decide_eq_true (show lenD e = ws2.length by omega)]
        refine iteF ?_
        have S5 := S4.trans s5
        have hp5 := s5 _ _ hp4
        refine ⟨_, rfl, p, _, _, _, rfl, rfl, SqL.of hp5, atI_nat (j := 0) rfl, rfl, _, rfl, ?_⟩
        rw [if_pos (decide_eq_true rfl)]
        have hS5 : SqL K H5 r2 (ws2.map V.str) ∨ SqT K H5 r2 (ws2.map V.str) := hS4.imp (fun z => s5.seq z) (fun z => sameT s5 z)
        refine ⟨_, rfl, p, _, _, _, rfl, rfl, SqL.of hp5, atI_nat (j := 1) rfl, _, rfl, r2, _, rfl, hS5, _, rfl, RgOk.of_le (by decide) (by rw [List.length_map]; omega) (by decide) (by omega), fun pq hpq => ⟨szle (by show 3 ≤ 16777216; decide), fun pl hpl => ?_⟩⟩
        rw [List.length_map, rgV_nat, show ws2.length = ws.length by omega] at hpl ⊢
        have t6 := same_upd (o := .tup ((List.range ws.length).map nI)) hpq
        have t7 := same_upd (o := .lst [.str "", .int 0, .ref pq]) hpl
        have t8 := t6.trans t7
        have okr : okD 3 (.tuple (ndD (List.range ws.length))) = true := okD_mk (n := 2) (by rw [ndD_len, List.length_range]; omega) fun x hx => by
          obtain ⟨k, _, rfl⟩ := List.mem_map.mp hx
          rfl
        refine ⟨_, _, .list [.str "", .int 0, .tuple (ndD (List.range ws.length))], rfl, okD_mk (by show 3 ≤ 100000; decide) (fun x hx => ?_), .lst (SqL.of (t8 _ _ ((s4.trans s5) _ _ hp2))) (.cons (.str _) (.cons (.int _) (.cons (.tup (SqT.of (t8 _ _ ((s4.trans s5) _ _ hp3))) (dp_nd _)) .nil))), .lst (SqL.of upd_same) (.cons (.str _) (.cons (.int _) (.cons (.tup (SqT.of (t7 _ _ upd_same)) (dp_nd _)) .nil))), q _ (S5.trans t8)⟩
        simp only [List.mem_cons, List.not_mem_nil, or_false] at hx
        rcases hx with rfl | rfl | rfl
        · rfl
        · rfl
        · exact okr
      · refine .inr ⟨d, e, 4, 4, Dp.mono s12 _ _ hv, hok, i25_short h25, Dp.mono s12 _ _ hu, hoku, .inr ⟨hr1, r, ws.map V.str, rfl, hS2, by rw [List.length_map, hlen]; exact hr2, fun H3 p s3 hp => ?_⟩⟩
        have s123 := s12.trans s3
        have hv3 := Dp.mono s123 _ _ hv
        have hu3 := Dp.mono s123 _ _ hu
        have d3 := Dp.mono s3 _ _ d2
        have e3 := Dp.mono s3 _ _ e2
        refine ⟨_, rfl, _, rfl, _, v2, d, rfl, hok, hv3, d3, _, rfl, iteF ?_⟩
        refine ⟨_, rfl, _, rfl, _, u2, e, rfl, hoku, hu3, e3, _, rfl, iteF ?_⟩
        refine ⟨_, rfl, v2, d, 4, rfl, d3, hok, i25_short h25, fun H4 s4 => ⟨_, rfl, ?_⟩⟩
        have S4 := s123.trans s4
        have hp4 := s4 _ _ hp
        rw [hr1]
        refine iteF ?_
        obtain ⟨r2, ws2, m2, rfl, hS4, _, hlen2, _⟩ := rows_at (Dp.mono s4 _ _ d3) hr1 h25
        refine ⟨_, rfl, _, rfl, r2, _, rfl, hS4, u2, e, 4, ws2.length, by rw [List.length_map]; rfl, Dp.mono s4 _ _ e3, hoku, fun H5 s5 => ⟨_, rfl, ?_⟩⟩
        have hbad : (rowD e && decide (lenD e = ws2.length)) = false := Bool.eq_false_iff.mpr fun z => hr2 (by
          rw [Bool.and_eq_true] at z
          exact ⟨z.1, by have := of_decide_eq_true z.2; omega⟩)
        rw [hbad]
        refine iteT ?_
        have S5 := S4.trans s5
        have hp5 := s5 _ _ hp4
        refine ⟨_, rfl, p, _, _, _, rfl, rfl, SqL.of hp5, atI_nat (j := 0) rfl, rfl, _, rfl, ?_⟩
        rw [if_pos (decide_eq_true rfl)]
        exact ⟨_, rfl, p, _, _, _, rfl, rfl, SqL.of hp5, atI_nat (j := 1) rfl, _, rfl, _, u2, e, rfl, hoku, Dp.mono S5 _ _ hu, Dp.mono (s4.trans s5) _ _ e3, q _ S5⟩
    · have hr0 : rowsD d = false := Bool.eq_false_iff.mpr hr1
      refine .inr ⟨d, e, 4, 4, Dp.mono s12 _ _ hv, hok, i25_short h25, Dp.mono s12 _ _ hu, hoku, .inl ⟨hr0, fun H3 p s3 hp => ?_⟩⟩
      ·
        have s123 := s12.trans s3
        have hv3 := Dp.mono s123 _ _ hv
        have hu3 := Dp.mono s123 _ _ hu
        have d3 := Dp.mono s3 _ _ d2
        have e3 := Dp.mono s3 _ _ e2
        refine ⟨_, rfl, _, rfl, _, v2, d, rfl, hok, hv3, d3, _, rfl, iteF ?_⟩
        refine ⟨_, rfl, _, rfl, _, u2, e, rfl, hoku, hu3, e3, _, rfl, iteF ?_⟩
        refine ⟨_, rfl, v2, d, 4, rfl, d3, hok, i25_short h25, fun H4 s4 => ⟨_, rfl, ?_⟩⟩
        have S4 := s123.trans s4
        have hp4 := s4 _ _ hp
        rw [hr0]
        refine iteT ?_
        refine ⟨_, rfl, p, _, _, _, rfl, rfl, SqL.of hp4, atI_nat (j := 0) rfl, rfl, _, rfl, ?_⟩
        rw [if_pos (decide_eq_true rfl)]
        exact ⟨_, rfl, p, _, _, _, rfl, rfl, SqL.of hp4, atI_nat (j := 1) rfl, _, rfl, _, v2, d, rfl, hok, Dp.mono S4 _ _ hv, Dp.mono s4 _ _ d3, q _ S4⟩
end

/-! ### rows and budgets spoilt -/
/-- a list of drawn things, told by its data -/
def spPut (K : PySem.W.Frag) : Sp := fun vs H Q _ => ∃ (a : Addr) (xs : List V) (i : Nat) (v : V) (k : Nat), vs = [.ref a, .int (i : Int), v, .int (k : Int)] ∧ SqL K H a xs ∧ i < xs.length ∧ xs.length ≤ 1000 ∧
  ∀ H' p ys, Same H H' → H p = none → H' p = some (.lst ys) → (k = 0 ∧ ys = xs.take i ++ xs.drop (i + 1) ∨ k = 1 ∧ ys = xs.take i ++ [v] ++ xs.drop i ∨ 1 < k ∧ ys = xs.take i ++ [v] ++ xs.drop (i + 1)) → Q (.ref p) H'
section
variable {P : Program} {w : World} {K : PySem.W.Frag} {mg : Str → Option Value} {base : Heap} {C_Share C_Writers C_Keeper C_Breaker : Addr}
theorem ok_law_put {f : Addr} {fd : FuncData} (F : Fun K "_law_put" "_law_put" s_law_put f fd) (T : Txt K mg C_Share C_Writers C_Keeper C_Breaker) : FnOk P w K mg base CX0 1 f fd ["parts", "at", "value", "kind"] (spPut K) := by
  refine F.ok sc_law_put (fun vs H Q E h => ?_) (fun cdv A outer s H vs Q E hr h => ?_)
  · obtain ⟨a, xs, i, v, k, rfl, _⟩ := h
    rfl
  · obtain ⟨a, xs, i, v, k, rfl, hS, hi, hl, q⟩ := h
    refine ⟨_, (pss_cons (ps_set (i := 4) sc_law_put.nd rfl (by first | exact Or.inl rfl | exact Or.inr rfl) (pe_callTy call_list_of (by rfl) T.b_list (by decide +kernel) (pa_cons (pv 0) pa_nil)))
    (C8.pss_cut (ps_if (pt_cmpR op_eq (pv 3) pe_int (nomark _))
      (pss_one (ps_asg (pe_lst pa_nil) (pg_slice (pv 4) (po_some (pv 1)) (po_some (pe_op op_add (pv 1) pe_int)))))
      (pss_one (ps_if (pt_cmpR op_eq (pv 3) pe_int (nomark _))
          (pss_one (ps_expr (pe_bm PySem.F.plainAttrs_list PySem.F.slot_list_insert PySem.F.type_list_insert mt_insert (pv 4) (pa_cons (pv 1) (pa_cons (pv 2) pa_nil)))))
          (pss_one (ps_asg (pe_lst (pa_cons (pv 2) pa_nil)) (pg_slice (pv 4) (po_some (pv 1)) (po_some (pe_op op_add (pv 1) pe_int))))))))
    (pss_one (ps_ret (pv 4))))), ?_⟩
    refine ⟨_, rfl, a, _, rfl, .inl hS, fun p hp => ?_⟩
    have s1 := same_upd (o := .lst xs) hp
    have e1 := upd_same (H := H) (a := p) (o := .lst xs)
    have rel : ∀ {H2 : Hp} {ys : List V}, Same (upd H p (.lst xs)) H2 → Same H (upd H2 p (.lst ys)) := fun z => same_out (s1.trans z) hp
    refine ⟨fun σ H' => ∃ ys, σ = [some (.ref a), some (.int (i : Int)), some v, some (.int (k : Int)), some (.ref p)] ∧ Same H H' ∧ H' p = some (.lst ys) ∧ (k = 0 ∧ ys = xs.take i ++ xs.drop (i + 1) ∨ k = 1 ∧ ys = xs.take i ++ [v] ++ xs.drop i ∨ 1 < k ∧ ys = xs.take i ++ [v] ++ xs.drop (i + 1)), ?_, ?_⟩
    · generalize upd H p (.lst xs) = H1 at s1 e1 rel ⊢
      refine ⟨_, rfl, rfl, _, rfl, ite2 (fun h0 => ?_) (fun h0 => ?_)⟩
      · have k0 : k = 0 := by have := V.int.inj (of_decide_eq_true h0); omega
        refine ⟨szle (by show 0 ≤ 16777216; decide), fun b hb => ?_⟩
        have hpb : p ≠ b := fun z => by rw [← z, e1] at hb; cases hb
        have z2 := same_upd (o := .lst []) hb
        refine ⟨_, rfl, _, rfl, _, rfl, _, rfl, _, _, rfl, rfl, _, rfl, p, b, xs, [], (i : Int), (i : Int) + 1, rfl, rfl, rfl, rfl, z2 _ _ e1, upd_same, hpb, by omega, by omega, by omega, ?_, _, rfl, rel z2, upd_same, .inl ⟨k0, ?_⟩⟩
        · show xs.length + 0 ≤ sizeLine
          rw [sizeLine_eq]
          omega
        · rw [show ((i : Int)).toNat = i by omega, show ((i : Int) + 1).toNat = i + 1 by omega, List.append_nil]
      have k0 : ¬ k = 0 := fun z => h0 (by rw [z]; rfl)
      refine ⟨_, rfl, rfl, _, rfl, ite2 (fun h1 => ?_) (fun h1 => ?_)⟩
      · have k1 : k = 1 := by have := V.int.inj (of_decide_eq_true h1); omega
        refine ⟨_, rfl, .inl ⟨rfl, _, SqL.of e1⟩, _, rfl, _, rfl, p, xs, (i : Int), v, rfl, rfl, e1, szl (by omega), by omega, by omega, _, rfl, rel (fun _ _ e => e), upd_same, .inr (.inl ⟨k1, ?_⟩)⟩
        rw [show ((i : Int)).toNat = i by omega]
      · have k1 : ¬ k = 1 := fun z => h1 (by rw [z]; rfl)
        refine ⟨_, rfl, szle (by show 1 ≤ 16777216; decide), fun b hb => ?_⟩
        have hpb : p ≠ b := fun z => by rw [← z, e1] at hb; cases hb
        have z2 := same_upd (o := .lst [v]) hb
        refine ⟨_, rfl, _, rfl, _, rfl, _, rfl, _, _, rfl, rfl, _, rfl, p, b, xs, [v], (i : Int), (i : Int) + 1, rfl, rfl, rfl, rfl, z2 _ _ e1, upd_same, hpb, by omega, by omega, by omega, ?_, _, rfl, rel z2, upd_same, .inr (.inr ⟨by omega, ?_⟩)⟩
        · show xs.length + 1 ≤ sizeLine
          rw [sizeLine_eq]
          omega
        · rw [show ((i : Int)).toNat = i by omega, show ((i : Int) + 1).toNat = i + 1 by omega]
    · rintro σ H' ⟨ys, rfl, sm, hp', hr'⟩
      exact ⟨_, rfl, q H' p ys sm hp hp' hr'⟩
end

/-! ### drawn lists with one part changed -/
theorem dps_app {K : PySem.W.Frag} {H : Hp} : ∀ {vs : List V} {ds : List PyData} {vs' : List V} {ds' : List PyData}, DpAll K H vs ds → DpAll K H vs' ds' → DpAll K H (vs ++ vs') (ds ++ ds')
  | _, _, _, _, .nil, h => h
  | _, _, _, _, .cons a r, h => .cons a (dps_app r h)
theorem dps_take {K : PySem.W.Frag} {H : Hp} : ∀ {vs : List V} {ds : List PyData} (n : Nat), DpAll K H vs ds → DpAll K H (vs.take n) (ds.take n)
  | _, _, 0, _ => .nil
  | _, _, _ + 1, .nil => .nil
  | _, _, n + 1, .cons a r => .cons a (dps_take n r)
theorem dps_drop {K : PySem.W.Frag} {H : Hp} : ∀ {vs : List V} {ds : List PyData} (n : Nat), DpAll K H vs ds → DpAll K H (vs.drop n) (ds.drop n)
  | _, _, 0, h => h
  | _, _, _ + 1, .nil => .nil
  | _, _, n + 1, .cons _ r => dps_drop n r
/-- parts that are small and not deep -/
def Sms (ds : List PyData) : Prop := ∀ d ∈ ds, okD 3 d = true ∧ Sm d
theorem put_dp {K : PySem.W.Frag} {H : Hp} {p : Addr} {xs ys : List V} {v : V} {ds : List PyData} {d : PyData} {i k : Nat} (hD : DpAll K H xs ds) (hs : Sms ds) (hl : ds.length ≤ 100) (hv : Dp K H v d) (hd : okD 3 d = true ∧ Sm d) (hp : H p = some (.lst ys))
    (hy : k = 0 ∧ ys = xs.take i ++ xs.drop (i + 1) ∨ k = 1 ∧ ys = xs.take i ++ [v] ++ xs.drop i ∨ 1 < k ∧ ys = xs.take i ++ [v] ++ xs.drop (i + 1)) : ∃ e, Dp K H (.ref p) e ∧ okD 4 e = true ∧ I25 e := by
  have fin : ∀ es : List PyData, DpAll K H ys es → Sms es → es.length ≤ 1000 → ∃ e, Dp K H (.ref p) e ∧ okD 4 e = true ∧ I25 e := fun es h1 h2 h3 =>
    ⟨.list es, .lst (SqL.of hp) h1, okD_mk (by omega) fun x hx => (h2 x hx).1, (i25_seq h3 fun x hx => (h2 x hx).2).1⟩
  have ht : ∀ j, Sms (ds.take j) := fun j x hx => hs x (List.mem_of_mem_take hx)
  have hr : ∀ j, Sms (ds.drop j) := fun j x hx => hs x (List.mem_of_mem_drop hx)
  have ap : ∀ {a b : List PyData}, Sms a → Sms b → Sms (a ++ b) := fun ha hb x hx => (List.mem_append.mp hx).elim (ha x) (hb x)
  have one : Sms [d] := fun x hx => by rw [List.mem_singleton.mp hx]; exact hd
  rcases hy with ⟨_, rfl⟩ | ⟨_, rfl⟩ | ⟨_, rfl⟩
  · exact fin _ (dps_app (dps_take i hD) (dps_drop (i + 1) hD)) (ap (ht _) (hr _)) (by rw [List.length_append, List.length_take, List.length_drop]; omega)
  · exact fin _ (dps_app (dps_app (dps_take i hD) (.cons hv .nil)) (dps_drop i hD)) (ap (ap (ht _) one) (hr _)) (by rw [List.length_append, List.length_append, List.length_take, List.length_drop]; show _ + 1 + _ ≤ 1000; omega)
  · exact fin _ (dps_app (dps_app (dps_take i hD) (.cons hv .nil)) (dps_drop (i + 1) hD)) (ap (ap (ht _) one) (hr _)) (by rw [List.length_append, List.length_append, List.length_take, List.length_drop]; show _ + 1 + _ ≤ 1000; omega)
theorem dp_strs {K : PySem.W.Frag} {H : Hp} : ∀ ws : List Str, DpAll K H (ws.map V.str) (ws.map PyData.str)
  | [] => .nil
  | z :: r => .cons (.str z) (dp_strs r)
theorem sms_strs {ws : List Str} (h : ∀ z ∈ ws, z.length ≤ 400) : Sms (ws.map PyData.str) := fun d hd => by
  obtain ⟨z, hz, rfl⟩ := List.mem_map.mp hd
  exact ⟨rfl, fun y e => (by cases e; exact h z hz), fun y e => by cases e⟩
theorem sms_nd {ls : List Nat} (h : ∀ z ∈ ls, z ≤ 40) : Sms (ndD ls) := fun d hd => by
  obtain ⟨z, hz, rfl⟩ := List.mem_map.mp hd
  exact ⟨rfl, fun y e => (by cases e), fun y e => by cases e; have := h z hz; omega⟩
theorem cut_short (z : Str) (lo hi : Option Int) : (cutS z lo hi).length ≤ z.length := by
  unfold cutS
  show (List.toArray _).size ≤ z.cps.size
  rw [List.size_toArray, List.length_take, List.length_drop, Array.length_toList]
  omega
def spSpR (K : PySem.W.Frag) : Sp := fun vs H Q _ => ∃ (B : Hp) (t pr : Addr) (c : Nat) (rows : List Str), vs = [.ref t, .ref pr] ∧ Tp B H t c ∧ c < 1000000 ∧ B pr = some (.lst (rows.map V.str)) ∧ 0 < rows.length ∧ rows.length ≤ 12 ∧ (∀ z ∈ rows, z.length ≤ 12) ∧
  ∀ B' H' v d, Same B B' → Tp B' H' t (c + 300) → Dp K B' v d → okD 4 d = true → I25 d → Q v H'
def spSpB (K : PySem.W.Frag) : Sp := fun vs H Q _ => ∃ (B : Hp) (t pb : Addr) (c : Nat) (bs : List Nat), vs = [.ref t, .ref pb] ∧ Tp B H t c ∧ c < 1000000 ∧ B pb = some (.lst (bs.map nI)) ∧ 0 < bs.length ∧ bs.length ≤ 12 ∧ (∀ b ∈ bs, b ≤ 10) ∧
  ∀ B' H' v d, Same B B' → Tp B' H' t (c + 300) → Dp K B' v d → okD 4 d = true → I25 d → Q v H'
section
variable {P : Program} {w : World} {K : PySem.W.Frag} {mg : Str → Option Value} {base : Heap} {C_Share C_Writers C_Keeper C_Breaker : Addr}
theorem ok_law_spoilt_rows {f : Addr} {fd : FuncData} (F : Fun K "_law_spoilt_rows" "_law_spoilt_rows" s_law_spoilt_rows f fd) (T : Txt K mg C_Share C_Writers C_Keeper C_Breaker) (c_law_draw : Cal P w K mg base 1 "_law_draw" spDraw) (c_law_put : Cal P w K mg base 1 "_law_put" (spPut K)) (c_law_stranger : Cal P w K mg base 5 "_law_stranger" (spStranger K 3)) : FnOk P w K mg base CX0 6 f fd ["tape", "rows"] (spSpR K) := by
  refine F.ok sc_law_spoilt_rows (fun vs H Q E h => ?_) (fun cdv A outer s H vs Q E hr h => ?_)
  · obtain ⟨B, t, pr, c, rows, rfl, _⟩ := h
    rfl
  · obtain ⟨B, t, pr, c, rows, rfl, T0, hc, er, h0, h12, hz, q⟩ := h
    refine ⟨_, (pss_cons (ps_set (i := 2) sc_law_spoilt_rows.nd rfl (by first | exact Or.inl rfl | exact Or.inr rfl) (pe_c c_law_draw hr (by omega) (by rfl) (pa_cons (pv 0) (pa_cons (pe_callB call_len_seq (by rfl) T.b_len PySem.boot_len (pa_cons (pv 1) pa_nil)) pa_nil))))
    (pss_cons (ps_set (i := 3) sc_law_spoilt_rows.nd rfl (by first | exact Or.inl rfl | exact Or.inr rfl) (pe_c c_law_draw hr (by omega) (by rfl) (pa_cons (pv 0) (pa_cons pe_int pa_nil))))
    (pss_cons (ps_if (pt_cmpR op_eq (pv 3) pe_int (nomark _))
      (pss_one (ps_ret (pe_c c_law_put hr (by omega) (by rfl) (pa_cons (pv 1) (pa_cons (pv 2) (pa_cons (pe_slice sl_str (pe_ix ix_list (pv 1) (pv 2) (fun _ _ => rfl)) (po_some pe_int) po_none) (pa_cons pe_int pa_nil)))))))
      pss_nil)
    (pss_cons (ps_if (pt_cmpR op_eq (pv 3) pe_int (nomark _))
      (pss_one (ps_ret (pe_c c_law_put hr (by omega) (by rfl) (pa_cons (pv 1) (pa_cons (pv 2) (pa_cons (pe_op op_add_str (pe_slice sl_str (pe_ix ix_list (pv 1) (pv 2) (fun _ _ => rfl)) po_none (po_some pe_int)) pe_str) (pa_cons pe_int pa_nil)))))))
      pss_nil)
    (pss_cons (ps_if (pt_cmpR op_eq (pv 3) pe_int (nomark _))
      (pss_one (ps_ret (pe_c c_law_put hr (by omega) (by rfl) (pa_cons (pv 1) (pa_cons (pv 2) (pa_cons (pe_op op_add_str (pe_slice sl_str (pe_ix ix_list (pv 1) (pv 2) (fun _ _ => rfl)) po_none (po_some (pe_un un_neg pe_int))) pe_str) (pa_cons pe_int pa_nil)))))))
      pss_nil)
    (pss_cons (ps_if (pt_cmpR op_eq (pv 3) pe_int (nomark _))
      (pss_one (ps_ret (pe_c c_law_stranger hr (by omega) (by rfl) (pa_cons (pv 0) (pa_cons pe_int pa_nil)))))
      pss_nil)
    (pss_one (ps_ret (pe_c c_law_put hr (by omega) (by rfl) (pa_cons (pv 1) (pa_cons (pv 2) (pa_cons (pe_c c_law_stranger hr (by omega) (by rfl) (pa_cons (pv 0) (pa_cons pe_int pa_nil))) (pa_cons pe_int pa_nil))))))))))))), ?_⟩
    refine ⟨_, rfl, _, rfl, pr, _, rfl, .inl (SqL.of (T0.at er)), B, t, _, (rows.length : Int), by rw [List.length_map]; rfl, T0, by omega, by omega, by omega, fun H1 i T1 i0 i1 => ?_⟩
    obtain ⟨i, rfl⟩ := nat_of i0
    have hi : i < rows.length := by omega
    refine ⟨_, rfl, B, t, _, 6, rfl, T1, by decide, by decide, by omega, fun H2 k T2 k0 k1 => ?_⟩
    have put : ∀ (B3 H3 : Hp) (v : V) (d : PyData) (k : Nat), Same B B3 → Tp B3 H3 t (c + 200) → Dp K B3 v d → (okD 3 d = true ∧ Sm d) → spPut K [.ref pr, .int (i : Int), v, .int (k : Int)] H3 Q E0 := fun B3 H3 v d k s3 T3 hd hs => by
      refine ⟨pr, _, i, v, k, rfl, SqL.of (T3.at (s3 _ _ er)), by rw [List.length_map]; exact hi, by rw [List.length_map]; omega, fun H' p ys s' hp hp' hy => ?_⟩
      have sp := same_upd (o := .lst ys) (T3.isn hp)
      obtain ⟨e, e1, e2, e3⟩ := put_dp (DpAll.mono sp _ _ (dp_strs rows)) (sms_strs fun z hz' => Nat.le_trans (hz z hz') (by decide)) (by rw [List.length_map]; omega) (Dp.mono sp _ _ hd) hs (upd_same (H := B3) (a := p) (o := .lst ys)) hy
      exact q _ H' (.ref p) e (s3.trans sp) ((T3.ext1 s' hp hp').le (by omega)) e1 e2 e3
    have hzi : (rows.getD i "").length ≤ 12 := hz _ (by rw [List.getD_eq_getElem?_getD, List.getElem?_eq_getElem hi]; exact List.getElem_mem _)
    have str : ∀ z : Str, z.length ≤ 400 → spPut K [.ref pr, .int (i : Int), .str z, .int 2] H2 Q E0 := fun z hz => put B H2 (.str z) (.str z) 2 (fun _ _ e => e) (T2.le (by omega)) (.str z) ⟨rfl, fun y e => (by cases e; exact hz), fun y e => by cases e⟩
    refine ⟨_, rfl, rfl, _, rfl, ite2 (fun _ => ?_) (fun _ => ?_)⟩
    · exact ⟨_, rfl, _, rfl, _, rfl, _, rfl, pr, _, _, _, rfl, rfl, SqL.of (T2.at er), at_strs (i := i) hi, _, rfl, _, rfl, szle (by omega), str _ (Nat.le_trans (cut_short _ _ _) (by omega))⟩
    refine ⟨_, rfl, rfl, _, rfl, ite2 (fun _ => ?_) (fun _ => ?_)⟩
    · exact ⟨_, rfl, _, rfl, _, rfl, _, rfl, pr, _, _, _, rfl, rfl, SqL.of (T2.at er), at_strs (i := i) hi, _, rfl, _, rfl, szle (by omega), _, _, rfl, rfl, szle (by have := cut_short (rows.getD i "") none (some (11 : Int)); show _ + 1 ≤ _; omega), str _ (by rw [PySem.Str.length_append]; have := cut_short (rows.getD i "") none (some (11 : Int)); show _ + 1 ≤ _; omega)⟩
    refine ⟨_, rfl, rfl, _, rfl, ite2 (fun _ => ?_) (fun _ => ?_)⟩
    · exact ⟨_, rfl, _, rfl, _, rfl, _, rfl, pr, _, _, _, rfl, rfl, SqL.of (T2.at er), at_strs (i := i) hi, _, rfl, _, rfl, _, rfl, szle (by omega), _, _, rfl, rfl, szle (by have := cut_short (rows.getD i "") none (some (-1 : Int)); show _ + 1 ≤ _; omega), str _ (by rw [PySem.Str.length_append]; have := cut_short (rows.getD i "") none (some (-1 : Int)); show _ + 1 ≤ _; omega)⟩
    refine ⟨_, rfl, rfl, _, rfl, ite2 (fun _ => ?_) (fun _ => ?_)⟩
    · exact ⟨_, rfl, B, t, _, 2, rfl, by decide, T2, by omega, fun H3 v d N T3 nw hd hok h25 => q _ H3 v d mrg_l (T3.le (by omega)) (Dp.mono (mrg_r nw) _ _ hd) hok h25⟩
    · exact ⟨_, rfl, _, rfl, _, rfl, B, t, _, 1, rfl, by decide, T2, by omega, fun H3 v d N T3 nw hd hok h25 => put _ H3 v d 2 mrg_l (T3.le (by omega)) (Dp.mono (mrg_r nw) _ _ hd) ⟨hok, h25.1⟩⟩
theorem ok_law_spoilt_budgets {f : Addr} {fd : FuncData} (F : Fun K "_law_spoilt_budgets" "_law_spoilt_budgets" s_law_spoilt_budgets f fd) (T : Txt K mg C_Share C_Writers C_Keeper C_Breaker) (c_law_draw : Cal P w K mg base 1 "_law_draw" spDraw) (c_law_put : Cal P w K mg base 1 "_law_put" (spPut K)) (c_law_stranger : Cal P w K mg base 5 "_law_stranger" (spStranger K 3)) : FnOk P w K mg base CX0 6 f fd ["tape", "budgets"] (spSpB K) := by
  refine F.ok sc_law_spoilt_budgets (fun vs H Q E h => ?_) (fun cdv A outer s H vs Q E hr h => ?_)
  · obtain ⟨B, t, pb, c, bs, rfl, _⟩ := h
    rfl
  · obtain ⟨B, t, pb, c, bs, rfl, T0, hc, eb, h0, h12, hz, q⟩ := h
    refine ⟨_, (pss_cons (ps_set (i := 2) sc_law_spoilt_budgets.nd rfl (by first | exact Or.inl rfl | exact Or.inr rfl) (pe_c c_law_draw hr (by omega) (by rfl) (pa_cons (pv 0) (pa_cons (pe_callB call_len_seq (by rfl) T.b_len PySem.boot_len (pa_cons (pv 1) pa_nil)) pa_nil))))
    (pss_cons (ps_set (i := 3) sc_law_spoilt_budgets.nd rfl (by first | exact Or.inl rfl | exact Or.inr rfl) (pe_c c_law_draw hr (by omega) (by rfl) (pa_cons (pv 0) (pa_cons pe_int pa_nil))))
    (pss_cons (ps_if (pt_cmpR op_lt (pv 3) pe_int (nomark _))
      (pss_one (ps_ret (pe_c c_law_put hr (by omega) (by rfl) (pa_cons (pv 1) (pa_cons (pv 2) (pa_cons (pe_c c_law_draw hr (by omega) (by rfl) (pa_cons (pv 0) (pa_cons pe_int pa_nil))) (pa_cons (pv 3) pa_nil)))))))
      pss_nil)
    (pss_cons (ps_if (pt_cmpR op_eq (pv 3) pe_int (nomark _))
      (pss_one (ps_ret (pe_c c_law_stranger hr (by omega) (by rfl) (pa_cons (pv 0) (pa_cons pe_int pa_nil)))))
      pss_nil)
    (pss_one (ps_ret (pe_c c_law_put hr (by omega) (by rfl) (pa_cons (pv 1) (pa_cons (pv 2) (pa_cons (pe_c c_law_stranger hr (by omega) (by rfl) (pa_cons (pv 0) (pa_cons pe_int pa_nil))) (pa_cons pe_int pa_nil))))))))))), ?_⟩
    refine ⟨_, rfl, _, rfl, pb, _, rfl, .inl (SqL.of (T0.at eb)), B, t, _, (bs.length : Int), by rw [List.length_map]; rfl, T0, by omega, by omega, by omega, fun H1 i T1 i0 i1 => ?_⟩
    obtain ⟨i, rfl⟩ := nat_of i0
    have hi : i < bs.length := by omega
    refine ⟨_, rfl, B, t, _, 5, rfl, T1, by decide, by decide, by omega, fun H2 k T2 k0 k1 => ?_⟩
    have put : ∀ (B3 H3 : Hp) (v : V) (d : PyData) (k : Nat), Same B B3 → Tp B3 H3 t (c + 200) → Dp K B3 v d → (okD 3 d = true ∧ Sm d) → spPut K [.ref pb, .int (i : Int), v, .int (k : Int)] H3 Q E0 := fun B3 H3 v d k s3 T3 hd hs => by
      refine ⟨pb, _, i, v, k, rfl, SqL.of (T3.at (s3 _ _ eb)), by rw [List.length_map]; exact hi, by rw [List.length_map]; omega, fun H' p ys s' hp hp' hy => ?_⟩
      have sp := same_upd (o := .lst ys) (T3.isn hp)
      obtain ⟨e, e1, e2, e3⟩ := put_dp (DpAll.mono sp _ _ (dp_nd bs)) (sms_nd fun z hz' => Nat.le_trans (hz z hz') (by decide)) (by rw [ndD_len]; omega) (Dp.mono sp _ _ hd) hs (upd_same (H := B3) (a := p) (o := .lst ys)) hy
      exact q _ H' (.ref p) e (s3.trans sp) ((T3.ext1 s' hp hp').le (by omega)) e1 e2 e3
    refine ⟨_, rfl, _, _, rfl, rfl, _, rfl, ite2 (fun hk => ?_) (fun _ => ?_)⟩
    · obtain ⟨k, rfl⟩ := nat_of k0
      exact ⟨_, rfl, _, rfl, _, rfl, B, t, _, 4, rfl, T2, by decide, by decide, by omega, fun H3 x T3 x0 x1 => ⟨_, rfl, put B H3 (.int x) (.int x) k (fun _ _ e => e) (T3.le (by omega)) (.int x) ⟨rfl, fun y e => (by cases e), fun y e => by cases e; omega⟩⟩⟩
    refine ⟨_, rfl, rfl, _, rfl, ite2 (fun _ => ?_) (fun _ => ?_)⟩
    · exact ⟨_, rfl, B, t, _, 2, rfl, by decide, T2, by omega, fun H3 v d N T3 nw hd hok h25 => q _ H3 v d mrg_l (T3.le (by omega)) (Dp.mono (mrg_r nw) _ _ hd) hok h25⟩
    · exact ⟨_, rfl, _, rfl, _, rfl, B, t, _, 1, rfl, by decide, T2, by omega, fun H3 v d N T3 nw hd hok h25 => put _ H3 v d 2 mrg_l (T3.le (by omega)) (Dp.mono (mrg_r nw) _ _ hd) ⟨hok, h25.1⟩⟩
end

/-! ### bits refused -/
def spTRf (K : PySem.W.Frag) (C CW : Addr) : Sp := fun vs H Q _ => ∃ (x dx wr bu : Addr) (g : Gm) (v : V) (d : PyData), vs = [.ref x, v] ∧ H x = some (.ins C dx (kfz "" 0 wr bu)) ∧ KpB K CW H wr bu g ∧ GmOk g ∧ Dp K H v d ∧ okD 3 d = true ∧ isBitD d = false ∧ ∀ H', Same H H' → Q (.bl true) H'
def spARf (K : PySem.W.Frag) (C : Addr) : Sp := fun vs H Q _ => ∃ (x dx : Addr) (brk : V) (row : Str) (p : Addr) (v : V) (d : PyData), vs = [.ref x, v] ∧ H x = some (.ins C dx (bfz brk row p)) ∧ Dp K H v d ∧ okD 3 d = true ∧ isBitD d = false ∧ ∀ H', Same H H' → Q (.bl true) H'
def spBits25 (K : PySem.W.Frag) (CK CW CB : Addr) : Sp := fun vs H Q _ => ∃ (B : Hp) (t : Addr) (c : Nat) (x dx wr bu : Addr) (g : Gm) (y dy p : Addr), vs = [.ref t, .ref x, .ref y] ∧ Tp B H t c ∧ c < 1000000 ∧ B x = some (.ins CK dx (kfz "" 0 wr bu)) ∧ KpB K CW B wr bu g ∧ GmOk g ∧ B y = some (.ins CB dy (bfz .non "" p)) ∧ ∀ H', Same B H' → Q (.bl true) H'
theorem in_01 (z : Int) : inV (.int z) [.int 0, .int 1] = decide (z = 0 ∨ z = 1) := by
  by_cases h : z = 0
  · subst h; rfl
  by_cases h2 : z = 1
  · subst h2; rfl
  rw [decide_eq_false (fun e => e.elim h h2)]
  show ((0 : Int) == z || ((1 : Int) == z || false)) = false
  rw [beq_eq_false_iff_ne.mpr (fun e => h e.symm), beq_eq_false_iff_ne.mpr (fun e => h2 e.symm)]
  rfl
section
variable {P : Program} {w : World} {K : PySem.W.Frag} {mg : Str → Option Value} {base : Heap} {C_Share C_Writers C_Keeper C_Breaker : Addr} {C_InvalidNumber : Addr}
theorem ok_law_tell_refused {f : Addr} {fd : FuncData} (F : Fun K "_law_tell_refused" "_law_tell_refused" s_law_tell_refused f fd) (T : Txt K mg C_Share C_Writers C_Keeper C_Breaker) (x_InvalidNumber : XErr P K mg "InvalidNumber" C_InvalidNumber ["number"]) (c_Keeper_tell : MetX P w K mg base 7 C_Keeper "tell" (spKT2 K C_Keeper C_Writers C_InvalidNumber)) (ch_law_same : CalH P w K mg base 3 "_law_same" (spSame K 3)) : FnOk P w K mg base CX0 8 f fd ["keeper", "bit"] (spTRf K C_Keeper C_Writers) := by
  refine F.ok sc_law_tell_refused (fun vs H Q E h => ?_) (fun cdv A outer s H vs Q E hr h => ?_)
  · obtain ⟨x, dx, wr, bu, g, v, d, rfl, _⟩ := h
    rfl
  · obtain ⟨x, dx, wr, bu, g, v, d, rfl, hx, hK, G, hv, hok, hnb, q⟩ := h
    refine ⟨_, (pss_cons (L2N.ps_try_as (i := 2) (tb := fun W => (tDrop (tMethS C_Keeper "tell" (spKT2 K C_Keeper C_Writers C_InvalidNumber) (WE W) (tVar 0) (tCons (tVar 1) tNil))))
      (ts := fun a cls d => (tRet (tCallS (spSame K 3) (fun _ => E0) (tCons (tXf a cls d C_InvalidNumber "number" (tVar 2)) (tCons (tVar 1) tNil))))) rfl rfl sc_law_tell_refused.nd rfl rfl ⟨rfl, by decide, .inl x_InvalidNumber.gC⟩ takesN0
      (fun W pn xe tk pwn => (pss_one (ps_expr (pe_mtxS c_Keeper_tell hr (by omega) tk (pv 0) (pa_cons (pv 1) pa_nil)))))
      (fun a oe cls d pn hz hf => (pss_one (ps_ret (pe_cH ch_law_same (roomS hr) (by omega) (hotS hz hf) (by rfl) (pa_cons (pe_xf x_InvalidNumber.xf (x_InvalidNumber.no (by simp)) hz.zc hf (pv 2)) (pa_cons (pv 1) pa_nil)))))))
    (pss_one (ps_ret pe_bl))), ?_⟩
    exact ⟨_, rfl, x, dx, _, rfl, hx, rfl, _, rfl, x, dx, wr, bu, g, "", 0, v, d, rfl, hx, hK, G, by show 0 < 1000; decide, hv, .inr ⟨hnb, fun H1 dd s1 hd => ⟨true, x_InvalidNumber.te, fun _ z hz => ⟨_, rfl, rfl, rfl, dd, _, _, rfl, hd, rfl, _, rfl, v, v, d, rfl, hok, Dp.mono s1 _ _ hv, Dp.mono s1 _ _ hv, q H1 s1⟩, fun z => by cases z⟩⟩⟩
theorem ok_law_answer_refused {f : Addr} {fd : FuncData} (F : Fun K "_law_answer_refused" "_law_answer_refused" s_law_answer_refused f fd) (T : Txt K mg C_Share C_Writers C_Keeper C_Breaker) (x_InvalidNumber : XErr P K mg "InvalidNumber" C_InvalidNumber ["number"]) (c_Breaker_answer : MetX P w K mg base 4 C_Breaker "answer" (spBA K C_Breaker C_InvalidNumber)) (ch_law_same : CalH P w K mg base 3 "_law_same" (spSame K 3)) : FnOk P w K mg base CX0 5 f fd ["breaker", "bit"] (spARf K C_Breaker) := by
  refine F.ok sc_law_answer_refused (fun vs H Q E h => ?_) (fun cdv A outer s H vs Q E hr h => ?_)
  · obtain ⟨x, dx, brk, row, p, v, d, rfl, _⟩ := h
    rfl
  · obtain ⟨x, dx, brk, row, p, v, d, rfl, hx, hv, hok, hnb, q⟩ := h
    refine ⟨_, (pss_cons (L2N.ps_try_as (i := 2) (tb := fun W => (tDrop (tMethS C_Breaker "answer" (spBA K C_Breaker C_InvalidNumber) (WE W) (tVar 0) (tCons (tVar 1) tNil))))
      (ts := fun a cls d => (tRet (tCallS (spSame K 3) (fun _ => E0) (tCons (tXf a cls d C_InvalidNumber "number" (tVar 2)) (tCons (tVar 1) tNil))))) rfl rfl sc_law_answer_refused.nd rfl rfl ⟨rfl, by decide, .inl x_InvalidNumber.gC⟩ takesN0
      (fun W pn xe tk pwn => (pss_one (ps_expr (pe_mtxS c_Breaker_answer hr (by omega) tk (pv 0) (pa_cons (pv 1) pa_nil)))))
      (fun a oe cls d pn hz hf => (pss_one (ps_ret (pe_cH ch_law_same (roomS hr) (by omega) (hotS hz hf) (by rfl) (pa_cons (pe_xf x_InvalidNumber.xf (x_InvalidNumber.no (by simp)) hz.zc hf (pv 2)) (pa_cons (pv 1) pa_nil)))))))
    (pss_one (ps_ret pe_bl))), ?_⟩
    exact ⟨_, rfl, x, dx, _, rfl, hx, rfl, _, rfl, x, dx, v, d, brk, row, p, rfl, hx, hv, .inl ⟨hnb, fun H1 dd s1 hd => ⟨true, x_InvalidNumber.te, fun _ z hz => ⟨_, rfl, rfl, rfl, dd, _, _, rfl, hd, rfl, _, rfl, v, v, d, rfl, hok, Dp.mono s1 _ _ hv, Dp.mono s1 _ _ hv, q H1 s1⟩, fun z => by cases z⟩⟩⟩
theorem ok_law_bits_right {f : Addr} {fd : FuncData} (F : Fun K "_law_bits_right" "_law_bits_right" s_law_bits_right f fd) (T : Txt K mg C_Share C_Writers C_Keeper C_Breaker) (kc : KpC K C_Keeper) (bc : BrC K C_Breaker) (c_law_stranger : Cal P w K mg base 5 "_law_stranger" (spStranger K 3)) (c_law_tell_refused : Cal P w K mg base 8 "_law_tell_refused" (spTRf K C_Keeper C_Writers)) (c_law_answer_refused : Cal P w K mg base 5 "_law_answer_refused" (spARf K C_Breaker)) (c_law_same : Cal P w K mg base 4 "_law_same" (spSame K 4)) : FnOk P w K mg base CX0 9 f fd ["tape", "keeper", "breaker"] (spBits25 K C_Keeper C_Writers C_Breaker) := by
  refine F.ok sc_law_bits_right (fun vs H Q E h => ?_) (fun cdv A outer s H vs Q E hr h => ?_)
  · obtain ⟨B, t, c, x, dx, wr, bu, g, y, dy, p, rfl, _⟩ := h
    rfl
  · obtain ⟨B, t, c, x, dx, wr, bu, g, y, dy, p, rfl, T0, hc, hx, hK, G, hy, q⟩ := h
    refine ⟨_, (pss_cons (ps_for PassesOwn.never rfl (pi_range1 (by rfl) T.b_range (pa_cons pe_int pa_nil)) (pg_name (i := 3) sc_law_bits_right.nd rfl (by first | exact Or.inl rfl | exact Or.inr rfl))
      (pss_cons (ps_set (i := 4) sc_law_bits_right.nd rfl (by first | exact Or.inl rfl | exact Or.inr rfl) (pe_c c_law_stranger hr (by omega) (by rfl) (pa_cons (pv 0) (pa_cons pe_int pa_nil))))
        (C8.pss_cut (ps_if (PW.pt (pw_and (pt_val (pe_callB call_isi (by rfl) T.b_isinstance (by decide +kernel) (pa_cons (pv 4) (pa_cons (pe_bltn (v := .ty "int") (by rfl) T.b_int (by decide +kernel) rfl) pa_nil)))) (pw_and (pt_not (pt_val (pe_callB call_isi (by rfl) T.b_isinstance (by decide +kernel) (pa_cons (pv 4) (pa_cons (pe_bltn (v := .ty "bool") (by rfl) T.b_bool (by decide +kernel) rfl) pa_nil))))) (pw_and1 (pt_cmpR op_in_seq (pv 4) (pe_tup (pa_cons pe_int (pa_cons pe_int pa_nil))) (by rfl))))))
          (pss_one (ps_set (i := 4) sc_law_bits_right.nd rfl (by first | exact Or.inl rfl | exact Or.inr rfl) (pe_op op_add (pv 4) pe_int)))
          pss_nil)
        (pss_one (ps_if (PW.pt (pw_or (pt_not (pt_val (pe_c c_law_tell_refused hr (by omega) (by rfl) (pa_cons (pv 1) (pa_cons (pv 4) pa_nil))))) (pw_or1 (pt_not (pt_val (pe_c c_law_answer_refused hr (by omega) (by rfl) (pa_cons (pv 2) (pa_cons (pv 4) pa_nil))))))))
          (pss_one (ps_ret pe_bl))
          pss_nil)))))
    (pss_one (ps_ret (pe_c c_law_same hr (by omega) (by rfl) (pa_cons (pe_lst (pa_cons (pe_fld (pv 1) rfl) (pa_cons (pe_fld (pv 1) rfl) (pa_cons (pe_fld (pv 2) rfl) (pa_cons (pe_fld (pv 2) rfl) pa_nil))))) (pa_cons (pe_lst (pa_cons pe_str (pa_cons pe_int (pa_cons pe_str (pa_cons pe_non pa_nil))))) pa_nil)))))), ?_⟩
    refine ⟨4, rfl, by decide, by decide, for_range (n := 4) (fun i σ H' => ∃ (v3 v4 : Option V) (B' : Hp), σ = [some (.ref t), some (.ref x), some (.ref y), v3, v4] ∧ Tp B' H' t (c + 100 * i) ∧ Same B B') ⟨none, none, B, rfl, T0, fun _ _ e => e⟩ ?_ ?_⟩
    · rintro i σ H1 hi ⟨v3, v4, B1, rfl, T1, s1⟩
      refine ⟨_, rfl, B1, t, _, 1, rfl, by decide, T1, by omega, fun H2 v d N T2 nw hd hok h25 => ?_⟩
      have hd := Dp.mono (mrg_r nw) _ _ hd
      have s2 : Same B (mrg B1 N) := s1.trans mrg_l
      have T2 := T2.le (show c + 100 * i + 30 * 3 ^ 1 ≤ c + 100 * (i + 1) by omega)
      generalize mrg B1 N = B2 at hd s2 T2
      refine ⟨fun σ H' => ∃ (v3 : Option V) (v' : V) (d' : PyData), σ = [some (.ref t), some (.ref x), some (.ref y), v3, some v'] ∧ Same H2 H' ∧ Dp K B2 v' d' ∧ okD 3 d' = true ∧ isBitD d' = false, ?_, ?_⟩
      · have no : ∀ v d, Dp K B2 v d → okD 3 d = true → isBitD d = false → ∃ (v3' : Option V) (v' : V) (d' : PyData), [some (V.ref t), some (.ref x), some (.ref y), some (V.int (0 + (i : Int))), some v] = [some (.ref t), some (.ref x), some (.ref y), v3', some v'] ∧ Same H2 H2 ∧ Dp K B2 v' d' ∧ okD 3 d' = true ∧ isBitD d' = false := fun v d h1 h2 h3 => ⟨_, v, d, rfl, fun _ _ e => e, h1, h2, h3⟩
        have TS := T2.same
        cases d with
        | none => cases hd; exact ⟨_, rfl, _, _, _, _, _, rfl, .ty _, .base .non, kit_ty (r := false) (by decide), _, rfl, iteF (no _ _ .non hok rfl)⟩
        | str b => cases hd; exact ⟨_, rfl, _, _, _, _, _, rfl, .ty _, .base (.str b), kit_ty (r := false) (by decide), _, rfl, iteF (no _ _ (.str _) hok rfl)⟩
        | dict b => cases hd
        | list b =>
          have hd0 := hd
          cases hd with
          | lst sy _ => exact ⟨_, rfl, _, _, _, _, _, rfl, .ty _, ty_seq (TS.seq sy), kit_ty (r := false) (by decide), _, rfl, iteF (no _ _ hd0 hok rfl)⟩
        | tuple b =>
          have hd0 := hd
          cases hd with
          | tup sy _ => exact ⟨_, rfl, _, _, _, _, _, rfl, .ty _, ty_tup (sameT TS sy), kit_ty (r := false) (by decide), _, rfl, iteF (no _ _ hd0 hok rfl)⟩
        | bool b =>
          cases hd
          refine ⟨_, rfl, _, _, _, _, _, rfl, .ty _, .base (.bl b), kit_ty (r := true) (by decide), _, rfl, iteT ?_⟩
          exact ⟨_, rfl, _, _, _, _, _, rfl, .ty _, .base (.bl b), kit_ty (r := true) (by decide), _, rfl, iteF (no _ _ (.bl _) hok rfl)⟩
        | int z =>
          cases hd
          refine ⟨_, rfl, _, _, _, _, _, rfl, .ty _, .base (.int z), kit_ty (r := true) (by decide), _, rfl, iteT ?_⟩
          refine ⟨_, rfl, _, _, _, _, _, rfl, .ty _, .base (.int z), kit_ty (r := false) (by decide), _, rfl, iteT ?_⟩
          refine ⟨_, rfl, szle (by show 2 ≤ 16777216; decide), fun tp htp => ?_⟩
          have sp := same_upd (o := .tup [.int 0, .int 1]) htp
          refine ⟨tp, _, rfl, .inr (SqT.of upd_same), rfl, rfl, _, rfl, ?_⟩
          have hin : inV (.int z) [.int 0, .int 1] = decide (z = 0 ∨ z = 1) := in_01 z
          rw [if_neg (by decide : ¬ false = true), hin]
          by_cases h : z = 0 ∨ z = 1
          · rw [decide_eq_true h]
            refine iteT ?_
            exact ⟨_, rfl, _, _, rfl, rfl, _, .int (z + 2), .int (z + 2), rfl, sp, .int _, rfl, by
              show (decide (0 ≤ z + 2) && decide (z + 2 ≤ 1)) = false
              rw [decide_eq_false (show ¬ z + 2 ≤ 1 by omega), Bool.and_false]⟩
          · rw [decide_eq_false h]
            refine iteF ?_
            exact ⟨_, .int z, .int z, rfl, sp, .int _, hok, by
              show (decide (0 ≤ z) && decide (z ≤ 1)) = false
              by_cases h1 : 0 ≤ z
              · rw [decide_eq_false (show ¬ z ≤ 1 by omega), Bool.and_false]
              · rw [decide_eq_false h1, Bool.false_and]⟩
      · rintro σ H3 ⟨v3, v', d', rfl, s3, hd', hok', hnb⟩
        have T3 := T2.ext s3
        have S3 := s2.trans T3.same
        refine ⟨_, rfl, _, rfl, x, dx, wr, bu, g, v', d', rfl, S3 _ _ hx, hK.mono S3, G, Dp.mono T3.same _ _ hd', hok', hnb, fun H4 s4 => ⟨_, rfl, iteF ?_⟩⟩
        have S4 := S3.trans s4
        exact ⟨_, rfl, _, rfl, y, dy, .non, "", p, v', d', rfl, S4 _ _ hy, Dp.mono (T3.same.trans s4) _ _ hd', hok', hnb, fun H5 s5 => ⟨_, rfl, iteF ⟨_, _, B2, rfl, (T3.ext s4).ext s5, s2⟩⟩⟩
    · rintro σ H1 ⟨v3, v4, B1, rfl, T1, s1⟩
      have S1 := s1.trans T1.same
      refine ⟨_, rfl, x, C_Keeper, dx, _, _, rfl, S1 _ _ hx, kc.ins.cl, kc.ns, kfz_s, _, rfl, x, C_Keeper, dx, _, _, rfl, S1 _ _ hx, kc.ins.cl, kc.ne, kfz_e, _, rfl, y, C_Breaker, dy, _, _, rfl, S1 _ _ hy, bc.ins.cl, bc.nr, bfz_r, _, rfl, y, C_Breaker, dy, _, _, rfl, S1 _ _ hy, bc.ins.cl, bc.nb, bfz_b, szle (by show 4 ≤ 16777216; decide), fun pa hpa => ⟨szle (by show 4 ≤ 16777216; decide), fun pb hpb => ?_⟩⟩
      have z1 := same_upd (o := .lst [.str "", .int 0, .str "", .non]) hpa
      have z2 := same_upd (o := .lst [.str "", .int 0, .str "", .non]) hpb
      have da : DpAll K (upd (upd H1 pa (.lst [.str "", .int 0, .str "", .non])) pb (.lst [.str "", .int 0, .str "", .non])) [.str "", .int 0, .str "", .non] [.str "", .int 0, .str "", .none] := .cons (.str _) (.cons (.int _) (.cons (.str _) (.cons .non .nil)))
      exact ⟨_, _, .list [.str "", .int 0, .str "", .none], rfl, rfl, .lst (SqL.of (z2 _ _ upd_same)) da, .lst (SqL.of upd_same) da, q _ (S1.trans (z1.trans z2))⟩
end

/-! ### a new cell beside the tape (as in wb) -/
theorem tp_add {B H : Hp} {t p : Addr} {c : Nat} {o : HO} (T : Tp B H t c) (hp : H p = none) : ∃ B', Same B B' ∧ Tp B' (upd H p o) t c ∧ B' p = some o := ⟨_, same_upd (T.isn hp), T.new hp, upd_same⟩

/-! ### the law -/
def spAsks (K : PySem.W.Frag) : Sp := fun vs H Q _ => ∃ (a : Addr) (ns : List Int), vs = [.ref a] ∧ SqL K H a (ns.map V.int) ∧ ns.length ≤ 63 ∧ ∀ H', Q (.bl true) H'
theorem liv_two (tail : Str) (b : Str) (hb : b = "0" ∨ b = "1") : livG ⟨["0" ++ tail, "1" ++ tail], [1, 0], tail.length + 1⟩ b = if b = "0" then [0] else [1] := by
  have e0 : ("0" ++ tail : Str).cps.toList = 48 :: tail.cps.toList := by rw [PySem.Str.cps_append, Array.toList_append]; rfl
  have e1 : ("1" ++ tail : Str).cps.toList = 49 :: tail.cps.toList := by rw [PySem.Str.cps_append, Array.toList_append]; rfl
  have m : ∀ (c x : Nat) (r : Str), r.cps.toList = x :: tail.cps.toList → misL (⟨#[c]⟩ : Str) r = if c = x then 0 else 1 := fun c x r h => by
    unfold misL
    rw [h]
    show (([c].zip (x :: tail.cps.toList)).filter fun p => p.1 != p.2).length = _
    rw [List.zip_cons_cons, List.zip_nil_left, List.filter_cons, List.filter_nil]
    by_cases z : c = x
    · subst z; simp
    · simp [z]
  have a00 : misL "0" ("0" ++ tail) = 0 := m 48 48 _ e0
  have a01 : misL "0" ("1" ++ tail) = 1 := m 48 49 _ e1
  have a10 : misL "1" ("0" ++ tail) = 1 := m 49 48 _ e0
  have a11 : misL "1" ("1" ++ tail) = 0 := m 49 49 _ e1
  rcases hb with rfl | rfl
  · unfold livG livL
    rw [if_neg (by show ¬ tail.length + 1 < 1; omega), if_pos rfl]
    show ([0, 1] : List Nat).filter (fun k => decide (misL "0" ((["0" ++ tail, "1" ++ tail] : List Str).getD k "") ≤ ([0, 0] : List Nat).getD k 0)) = [0]
    rw [List.filter_cons, List.filter_cons, List.filter_nil]
    show (if decide (misL "0" ("0" ++ tail) ≤ 0) = true then _ else _) = _
    rw [a00]
    show 0 :: (if decide (misL "0" ("1" ++ tail) ≤ 0) = true then _ else _) = _
    rw [a01]
    rfl
  · unfold livG livL
    rw [if_neg (by show ¬ tail.length + 1 < 1; omega), if_neg (by decide)]
    show ([0, 1] : List Nat).filter (fun k => decide (misL "1" ((["0" ++ tail, "1" ++ tail] : List Str).getD k "") ≤ ([0, 0] : List Nat).getD k 0)) = [1]
    rw [List.filter_cons, List.filter_cons, List.filter_nil]
    show (if decide (misL "1" ("0" ++ tail) ≤ 0) = true then _ else _) = _
    rw [a10]
    show (if decide (misL "1" ("1" ++ tail) ≤ 0) = true then _ else _) = _
    rw [a11]
    rfl
theorem liv_first {tail : Str} : livG ⟨["0" ++ tail, "1" ++ tail], [1, 0], tail.length + 1⟩ ("" ++ bitS 1) = [1] := liv_two tail "1" (.inr rfl)
theorem gss_first {tail : Str} : gssG ⟨["0" ++ tail, "1" ++ tail], [1, 0], tail.length + 1⟩ "" = 1 := by
  have h0 := liv_two tail "0" (.inl rfl)
  have h1 := liv_two tail "1" (.inr rfl)
  rw [if_pos rfl] at h0
  rw [if_neg (by decide)] at h1
  have h0' : wlG ⟨["0" ++ tail, "1" ++ tail], [1, 0], tail.length + 1⟩ "0" = [1] := by unfold wlG; rw [h0]; rfl
  have h1' : wlG ⟨["0" ++ tail, "1" ++ tail], [1, 0], tail.length + 1⟩ "1" = [0] := by unfold wlG; rw [h1]; rfl
  unfold gssG
  rw [show (("" : Str) ++ "0") = "0" from rfl, show (("" : Str) ++ "1") = "1" from rfl, h0', h1']
  have lp : 0 < LB := by rw [LB_eq]; decide
  generalize LB = L at lp
  refine if_pos ?_
  show 2 ^ (L - 1) + 0 < 2 ^ (L - 0) + 0
  exact Nat.pow_lt_pow_right (by decide) (by omega)
section
variable {P : Program} {w : World} {K : PySem.W.Frag} {mg : Str → Option Value} {base : Heap} {C_Share C_Writers C_Keeper C_Breaker : Addr} {C_InvalidRows C_InvalidBudgets C_InvalidNumber : Addr}
theorem ok_law_asks {f : Addr} {fd : FuncData} (F : Fun K "_law_asks" "_law_asks" s_law_asks f fd) (T : Txt K mg C_Share C_Writers C_Keeper C_Breaker) (kc : KpC K C_Keeper) (bc : BrC K C_Breaker) (c_law_tape : Cal P w K mg base 1 "_law_tape" (spTape K)) (c_law_draw : Cal P w K mg base 1 "_law_draw" spDraw) (c_law_bits : Cal P w K mg base 2 "_law_bits" spBits) (m_Keeper : MakX P w K mg base 5 "Keeper" C_Keeper (spKAll K C_Keeper C_Writers C_InvalidRows C_InvalidBudgets)) (m_Breaker : MakX P w K mg base 7 "Breaker" C_Breaker (spBInit K C_Breaker C_InvalidBudgets)) (c_law_right : Cal P w K mg base 8 "_law_right" (spRight25 K)) (c_law_spoilt_rows : Cal P w K mg base 6 "_law_spoilt_rows" (spSpR K)) (c_law_spoilt_budgets : Cal P w K mg base 6 "_law_spoilt_budgets" (spSpB K)) (c_law_bits_right : Cal P w K mg base 9 "_law_bits_right" (spBits25 K C_Keeper C_Writers C_Breaker)) (c_law_same : Cal P w K mg base 4 "_law_same" (spSame K 4)) (c_Keeper_tell : MetX P w K mg base 7 C_Keeper "tell" (spKT2 K C_Keeper C_Writers C_InvalidNumber)) (c_Keeper_living : Met P w K mg base 3 C_Keeper "living" (spKL K C_Keeper C_Writers)) : FnOk P w K mg base CX0 10 f fd ["script"] (spAsks K) := by
  refine F.ok sc_law_asks (fun vs H Q E h => ?_) (fun cdv A outer s H vs Q E hr h => ?_)
  · obtain ⟨a, ns, rfl, _⟩ := h
    rfl
  · obtain ⟨a, ns, rfl, hS, hlen, q⟩ := h
    refine ⟨_, (pss_cons (ps_set (i := 1) sc_law_asks.nd rfl (by first | exact Or.inl rfl | exact Or.inr rfl) (pe_c c_law_tape hr (by omega) (by rfl) (pa_cons (pv 0) pa_nil)))
    (pss_cons (ps_set (i := 2) sc_law_asks.nd rfl (by first | exact Or.inl rfl | exact Or.inr rfl) (pe_c c_law_draw hr (by omega) (by rfl) (pa_cons (pv 1) (pa_cons (pe_ix ix_list (pe_lst (pa_cons pe_int (pa_cons pe_int pa_nil))) (pe_c c_law_draw hr (by omega) (by rfl) (pa_cons (pv 1) (pa_cons pe_int pa_nil))) (fun _ _ => rfl)) pa_nil))))
    (pss_cons (ps_setLc (i := 3) (own := [("k", 4)]) rfl sc_law_asks.nd rfl rfl (sw_true rfl rfl rfl (by decide +kernel)) (pi_range1 (by rfl) T.b_range (pa_cons (pe_op op_add pe_int (pe_c c_law_draw hr (by omega) (by rfl) (pa_cons (pv 1) (pa_cons pe_int pa_nil)))) pa_nil)) (blkOk_by (own := [("k", 4)]) (N := ["script", "tape", "size", "rows", "k", "budgets", "row", "named", "keeper", "breaker", "wrong_rows", "wrong", "empty"]) (sc := defScope s_law_asks) (by decide +kernel)) (fun _ _ _ _ _ => (pg_name (i := 4) sc_law_asks.nd rfl (by first | exact Or.inl rfl | exact Or.inr rfl))) (fun _ _ _ _ _ => pts_nil) (fun _ _ _ _ _ => (pe_c c_law_bits hr (by omega) (by rfl) (pa_cons (pv 1) (pa_cons (pv 2) pa_nil)))))
    (pss_cons (ps_setLc (i := 5) (own := [("row", 6)]) rfl sc_law_asks.nd rfl rfl (sw_true rfl rfl rfl (by decide +kernel)) (pi_list (pv 3)) (blkOk_by (own := [("row", 6)]) (N := ["script", "tape", "size", "rows", "k", "budgets", "row", "named", "keeper", "breaker", "wrong_rows", "wrong", "empty"]) (sc := defScope s_law_asks) (by decide +kernel)) (fun _ _ _ _ _ => (pg_name (i := 6) sc_law_asks.nd rfl (by first | exact Or.inl rfl | exact Or.inr rfl))) (fun _ _ _ _ _ => pts_nil) (fun _ _ _ _ _ => (pe_c c_law_draw hr (by omega) (by rfl) (pa_cons (pv 1) (pa_cons pe_int pa_nil)))))
    (pss_cons (ps_set (i := 7) sc_law_asks.nd rfl (by first | exact Or.inl rfl | exact Or.inr rfl) (pe_cmpR op_eq (pe_c c_law_draw hr (by omega) (by rfl) (pa_cons (pv 1) (pa_cons pe_int pa_nil))) pe_int (nomark _)))
    (pss_cons (ps_set (i := 8) sc_law_asks.nd rfl (by first | exact Or.inl rfl | exact Or.inr rfl) (pe_mkx m_Keeper hr (by omega) (by rfl) (pa_cons (pe_lst (pa_cons (pe_op op_add_str pe_str (pe_slice sl_str (pe_ix ix_list (pv 3) pe_int (fun _ _ => rfl)) (po_some pe_int) po_none)) (pa_cons (pe_op op_add_str pe_str (pe_slice sl_str (pe_ix ix_list (pv 3) pe_int (fun _ _ => rfl)) (po_some pe_int) po_none)) pa_nil))) (pa_cons (pe_lst (pa_cons pe_int (pa_cons pe_int pa_nil))) pa_nil))))
    (pss_cons (ps_set (i := 9) sc_law_asks.nd rfl (by first | exact Or.inl rfl | exact Or.inr rfl) (pe_mkx m_Breaker hr (by omega) (by rfl) (pa_cons (pe_lst (pa_cons pe_int (pa_cons pe_int (pa_cons pe_int pa_nil)))) pa_nil)))
    (pss_cons (ps_if (PW.pt (pw_or (pt_not (pt_val (pe_c c_law_right hr (by omega) (by rfl) (pa_cons (pv 3) (pa_cons (pe_callTy call_tuple_of (by rfl) T.b_tuple (by decide +kernel) (pa_cons (pv 5) pa_nil)) (pa_cons (pv 7) pa_nil)))))) (pw_or1 (pt_not (pt_val (pe_c c_law_right hr (by omega) (by rfl) (pa_cons (pe_callTy call_tuple_of (by rfl) T.b_tuple (by decide +kernel) (pa_cons (pv 3) pa_nil)) (pa_cons (pv 5) (pa_cons (pe_not (pv 7)) pa_nil)))))))))
      (pss_one (ps_ret pe_bl))
      pss_nil)
    (pss_cons (ps_for PassesOwn.never rfl (pi_range1 (by rfl) T.b_range (pa_cons pe_int pa_nil)) (pg_name (i := 4) sc_law_asks.nd rfl (by first | exact Or.inl rfl | exact Or.inr rfl))
      (pss_cons (ps_set (i := 10) sc_law_asks.nd rfl (by first | exact Or.inl rfl | exact Or.inr rfl) (pe_c c_law_spoilt_rows hr (by omega) (by rfl) (pa_cons (pv 1) (pa_cons (pv 3) pa_nil))))
        (pss_cons (ps_set (i := 11) sc_law_asks.nd rfl (by first | exact Or.inl rfl | exact Or.inr rfl) (pe_c c_law_spoilt_budgets hr (by omega) (by rfl) (pa_cons (pv 1) (pa_cons (pv 5) pa_nil))))
        (pss_cons (ps_if (PW.pt (pw_or (pt_not (pt_val (pe_c c_law_right hr (by omega) (by rfl) (pa_cons (pv 10) (pa_cons (pv 5) (pa_cons (pv 7) pa_nil)))))) (pw_or1 (pt_not (pt_val (pe_c c_law_right hr (by omega) (by rfl) (pa_cons (pv 3) (pa_cons (pv 11) (pa_cons (pv 7) pa_nil)))))))))
          (pss_one (ps_ret pe_bl))
          pss_nil)
        (pss_one (ps_if (pt_not (pt_val (pe_c c_law_right hr (by omega) (by rfl) (pa_cons (pv 10) (pa_cons (pv 11) (pa_cons (pe_not (pv 7)) pa_nil))))))
          (pss_one (ps_ret pe_bl))
          pss_nil))))))
    (pss_cons (ps_setLc (i := 12) (own := [("row", 6)]) rfl sc_law_asks.nd rfl rfl (sw_true rfl rfl rfl (by decide +kernel)) (pi_list (pv 3)) (blkOk_by (own := [("row", 6)]) (N := ["script", "tape", "size", "rows", "k", "budgets", "row", "named", "keeper", "breaker", "wrong_rows", "wrong", "empty"]) (sc := defScope s_law_asks) (by decide +kernel)) (fun _ _ _ _ _ => (pg_name (i := 6) sc_law_asks.nd rfl (by first | exact Or.inl rfl | exact Or.inr rfl))) (fun _ _ _ _ _ => pts_nil) (fun _ _ _ _ _ => pe_str))
    (pss_cons (ps_if (PW.pt (pw_or (pt_not (pt_val (pe_c c_law_right hr (by omega) (by rfl) (pa_cons (pv 12) (pa_cons (pv 5) (pa_cons (pv 7) pa_nil)))))) (pw_or (pt_not (pt_val (pe_c c_law_right hr (by omega) (by rfl) (pa_cons (pe_tup pa_nil) (pa_cons (pe_tup pa_nil) (pa_cons (pv 7) pa_nil)))))) (pw_or1 (pt_not (pt_val (pe_c c_law_right hr (by omega) (by rfl) (pa_cons (pe_lst pa_nil) (pa_cons (pv 5) (pa_cons (pv 7) pa_nil))))))))))
      (pss_one (ps_ret pe_bl))
      pss_nil)
    (pss_cons (ps_if (PW.pt (pw_or (pt_not (pt_val (pe_c c_law_right hr (by omega) (by rfl) (pa_cons pe_str (pa_cons (pe_lst (pa_cons pe_int (pa_cons pe_int pa_nil))) (pa_cons (pv 7) pa_nil)))))) (pw_or1 (pt_not (pt_val (pe_c c_law_right hr (by omega) (by rfl) (pa_cons (pv 3) (pa_cons (pe_op op_repS pe_str (pe_callB call_len_seq (by rfl) T.b_len PySem.boot_len (pa_cons (pv 3) pa_nil))) (pa_cons (pv 7) pa_nil)))))))))
      (pss_one (ps_ret pe_bl))
      pss_nil)
    (pss_cons (ps_if (PW.pt (pw_or (pt_not (pt_val (pe_c c_law_bits_right hr (by omega) (by rfl) (pa_cons (pv 1) (pa_cons (pv 8) (pa_cons (pv 9) pa_nil)))))) (pw_or1 (pt_not (pt_val (pe_c c_law_same hr (by omega) (by rfl) (pa_cons (pe_mtx c_Keeper_tell hr (by omega) (pv 8) (pa_cons pe_int pa_nil)) (pa_cons pe_non pa_nil))))))))
      (pss_one (ps_ret pe_bl))
      pss_nil)
    (pss_one (ps_ret (pe_c c_law_same hr (by omega) (by rfl) (pa_cons (pe_lst (pa_cons (pe_fld (pv 8) rfl) (pa_cons (pe_fld (pv 8) rfl) (pa_cons (pe_mt0 c_Keeper_living hr (by omega) (pv 8)) pa_nil)))) (pa_cons (pe_lst (pa_cons pe_str (pa_cons pe_int (pa_cons (pe_tup (pa_cons pe_int pa_nil)) pa_nil)))) pa_nil)))))))))))))))))), ?_⟩
    refine ⟨_, rfl, a, ns, rfl, hS, hlen, fun H0 t T0 => ?_⟩
    refine ⟨_, rfl, szle (by show 2 ≤ 16777216; decide), fun l hl => ?_⟩
    have T1 := T0.new (o := .lst (([4, 13] : List Nat).map nI)) hl
    refine ⟨_, rfl, _, t, _, 2, rfl, T1, by decide, by decide, by decide, fun H1 x T1 x0 x1 => ?_⟩
    obtain ⟨x, rfl⟩ := nat_of x0
    have h7 : ∀ x, x < 2 → 4 ≤ ([4, 13] : List Nat).getD x 0 ∧ ([4, 13] : List Nat).getD x 0 ≤ 13 := by decide
    obtain ⟨h71, h72⟩ := h7 x (by omega)
    refine ⟨l, _, _, _, rfl, rfl, SqL.of (T1.at upd_same), at_num (bs := [4, 13]) (by show x < 2; omega), ?_⟩
    generalize ([4, 13] : List Nat).getD x 0 = hi at h71 h72 ⊢
    have T1 := T1.shrink (same_upd (T0.isn hl))
    refine ⟨H, t, _, (hi : Int), rfl, T1, by omega, by omega, by omega, fun H2 n T2 n0 n1 => ?_⟩
    obtain ⟨n, rfl⟩ := nat_of n0
    refine ⟨_, rfl, H, t, _, 8, rfl, T2, by decide, by decide, by omega, fun H3 m T3 m0 m1 => ⟨_, _, rfl, rfl, ?_⟩⟩
    obtain ⟨m, rfl⟩ := nat_of m0
    refine ⟨((m + 1 : Nat) : Int), congrArg (fun z => [V.int z]) (by omega), by omega, by omega, fun D hD => lc_range (lo := 0) (n := m + 1) (fun i H' => ∃ ws : List Str, Tp (upd H D (.lst (ws.map V.str))) H' t (10 + 20 * i) ∧ ws.length = i ∧ ∀ z ∈ ws, isB z = true ∧ z.length = n) ⟨[], (T3.new hD).le (by omega), rfl, fun z hz => by cases hz⟩ ?_ ?_⟩
    · rintro i H' hi' ⟨ws, T4, lw, hw⟩
      refine ⟨rfl, ?_⟩
      refine tyes ?_
      refine ⟨_, rfl, _, rfl, _, t, _, n, rfl, T4, by omega, by omega, fun H5 z T5 zb zl => ⟨ws.map V.str, T5.at upd_same, szl (by rw [List.length_map]; omega), ws ++ [z], ?_, by simp [lw], fun y hy => ?_⟩⟩
      · have T6 := T5.set (o' := .lst (ws.map V.str ++ [V.str z])) upd_same
        rw [upd_upd] at T6
        rw [List.map_append]
        exact T6.le (by omega)
      · rcases List.mem_append.mp hy with h | h
        · exact hw y h
        · rw [List.mem_singleton.mp h]
          exact ⟨zb, zl⟩
    rintro H4 ⟨rows, T4, hrl, hrw⟩
    have er := upd_same (H := H) (a := D) (o := .lst (rows.map V.str))
    generalize upd H D (.lst (rows.map V.str)) = B4 at T4 er
    refine ⟨_, rfl, D, rfl, ⟨_, SqL.of (T4.at er)⟩, fun D1 hD1 => lc_list (K := K) (a := D) (xs := rows.map V.str) (fun i H' => ∃ (B' : Hp) (fs : List Nat), Nl B4 B' H' t D1 (200 + i) fs ∧ fs.length = i ∧ ∀ b ∈ fs, b ≤ 10) ⟨_, [], ⟨same_upd (T4.isn hD1), (T4.new hD1).le (by omega), upd_same, T4.isn hD1⟩, rfl, fun b hb => by cases hb⟩ (fun i H' _ h => by obtain ⟨B', fs, N, _⟩ := h; exact SqL.of (N.tp.at (N.same _ _ er))) ?_ ?_⟩
    · rintro i y H' hi' ⟨B', fs, N, hfl, h12⟩
      obtain ⟨z, hz, rfl⟩ := getS hi'
      have hil := (List.getElem?_eq_some_iff.mp hz).1
      refine ⟨rfl, ?_⟩
      refine tyes ?_
      refine ⟨_, rfl, B', t, _, 11, rfl, N.tp, by decide, by decide, by omega, fun H5 z T5 z0 z1 => ?_⟩
      obtain ⟨z, rfl⟩ := nat_of z0
      have N5 := N.drw T5
      exact ⟨_, N5.hd, szl (by rw [List.length_map]; omega), _, fs ++ [z], (N5.app z).le (by omega), by simp [hfl], mem_app_le h12 (by omega)⟩
    rintro H5 ⟨B5, bs, N5, hbl, hbm⟩
    rw [List.length_map] at N5 hbl
    have er := N5.same _ _ er
    have eb := N5.at_
    have T5 := N5.tp
    clear N5 T4 T3 T2 T1 T0
    refine ⟨_, rfl, B5, t, _, 2, rfl, T5, by decide, by decide, by omega, fun H6 y T6 _ _ => ⟨rfl, ?_⟩⟩
    generalize decide (V.int y = V.int 1) = nm
    have hm0 : 0 < rows.length := by omega
    have z0 : rows.getD 0 "" ∈ rows := by
      rw [List.getD_eq_getElem?_getD, List.getElem?_eq_getElem hm0]
      exact List.getElem_mem _
    have z0l := (hrw _ z0).2
    have z0b := (hrw _ z0).1
    have tl := cut_short (rows.getD 0 "") (some (1 : Int)) none
    have tb : isB (cutS (rows.getD 0 "") (some (1 : Int)) none) = true := isB_cut z0b
    -- a keeper
    refine ⟨_, rfl, D, _, _, _, rfl, rfl, SqL.of (T6.at er), at_strs (i := 0) hm0, _, rfl, _, rfl, szle (by omega), _, _, rfl, rfl, szle (by show 1 + _ ≤ _; omega), _, rfl, D, _, _, _, rfl, rfl, SqL.of (T6.at er), at_strs (i := 0) hm0, _, rfl, _, rfl, szle (by omega), _, _, rfl, rfl, szle (by show 1 + _ ≤ _; omega), szle (by show 2 ≤ 16777216; decide), fun k1 hk1 => ⟨szle (by show 2 ≤ 16777216; decide), fun k2 hk2 => ?_⟩⟩
    generalize cutS (rows.getD 0 "") (some (1 : Int)) none = tail at *
    obtain ⟨B7, s7, T7, g1⟩ := tp_add (o := .lst [V.str ("0" ++ tail), V.str ("1" ++ tail)]) T6 hk1
    obtain ⟨B8, s8, T8, g2⟩ := tp_add (o := .lst [V.int 1, V.int 0]) T7 hk2
    have g1 := s8 _ _ g1
    have er := (s7.trans s8) _ _ er
    have eb := (s7.trans s8) _ _ eb
    clear T7 hk2 hk1
    generalize upd (upd H6 k1 (.lst [V.str ("0" ++ tail), V.str ("1" ++ tail)])) k2 (.lst [V.int 1, V.int 0]) = H8 at T8 ⊢
    intro x dx hx hdx hne
    have G0 : GmOk ⟨["0" ++ tail, "1" ++ tail], [1, 0], tail.length + 1⟩ := ⟨by show 0 < 2; decide, by show 2 ≤ 1000; decide, rfl, fun b hb => by simp at hb; omega, fun z hz => by
      simp only [List.mem_cons, List.not_mem_nil, or_false] at hz
      rcases hz with rfl | rfl <;> rw [PySem.Str.length_append] <;> show 1 + tail.length = tail.length + 1 <;> omega, fun z hz => by
      simp only [List.mem_cons, List.not_mem_nil, or_false] at hz
      rcases hz with rfl | rfl
      · exact isB_app isB_zero tb
      · exact isB_app isB_one tb, by show tail.length + 1 ≤ 1000; omega⟩
    have i4 := same_ins (C := C_Keeper) (fs := []) hx hdx hne
    refine .inl ⟨x, dx, k1, k2, ⟨["0" ++ tail, "1" ++ tail], [1, 0], tail.length + 1⟩, rfl, upd_same, .inl (i4.seq (SqL.of (T8.at g1))), .inl (i4.seq (SqL.of (T8.at g2))), G0, fun H9 wr bu sm hKp => ⟨rfl, ?_⟩⟩
    rw [upd_upd] at sm
    have s9 : Same H8 H9 := (same_ins hx hdx hne).trans sm
    obtain ⟨B9, s9', T9, kk⟩ := (T8.ext s9).grow
    have hx9 := kk _ _ (sm _ _ upd_same) (fun _ e => by cases e)
    have hK9 := KpB.up hKp kk
    have er := s9' _ _ er
    have eb := s9' _ _ eb
    clear kk hKp sm s9 s9' T8 i4 hx hdx hne g1 g2
    -- a breaker
    refine ⟨szle (by show 3 ≤ 16777216; decide), fun k3 hk3 => ?_⟩
    obtain ⟨B10, s10, T10, g3⟩ := tp_add (o := .lst [V.int 1, V.int 0, V.int 1]) T9 hk3
    generalize upd H9 k3 (.lst [V.int 1, V.int 0, V.int 1]) = H10 at T10 ⊢
    intro y dy hy hdy hney
    have i5 := same_ins (C := C_Breaker) (fs := []) hy hdy hney
    refine ⟨y, dy, .ref k3, .list [.int 1, .int 0, .int 1], 2, rfl, upd_same, .lst (i5.seq (SqL.of (T10.at g3))) (.cons (.int _) (.cons (.int _) (.cons (.int _) .nil))), rfl, fun _ => ⟨by show 3 ≤ 100000; decide, by decide⟩, .inl ⟨by decide +kernel, fun H11 p ys ks sm _ _ _ _ => ⟨rfl, ?_⟩⟩⟩
    rw [upd_upd] at sm
    have s11 : Same H10 H11 := (same_ins hy hdy hney).trans sm
    obtain ⟨B11, s11', T11, kk⟩ := (T10.ext s11).grow
    have hy11 := kk _ _ (sm _ _ upd_same) (fun _ e => by cases e)
    have hx11 := (s10.trans s11') _ _ hx9
    have hK11 := hK9.mono (s10.trans s11')
    have er := (s10.trans s11') _ _ er
    have eb := (s10.trans s11') _ _ eb
    clear kk sm s11 s11' T10 T9 i5 hy hdy hney g3 hx9 hK9 s10 hk3
    have smR : Sms (rows.map PyData.str) := sms_strs fun z hz => by rw [(hrw z hz).2]; omega
    have smB : Sms (ndD bs) := sms_nd fun z hz => by have := hbm z hz; omega
    have okR : okD 4 (.list (rows.map PyData.str)) = true ∧ okD 4 (.tuple (rows.map PyData.str)) = true := ⟨okD_mk (n := 3) (by rw [List.length_map]; omega) fun x hx => (smR x hx).1, okD_mk (n := 3) (by rw [List.length_map]; omega) fun x hx => (smR x hx).1⟩
    have okB : okD 4 (.list (ndD bs)) = true ∧ okD 4 (.tuple (ndD bs)) = true := ⟨okD_mk (n := 3) (by rw [ndD_len]; omega) fun x hx => (smB x hx).1, okD_mk (n := 3) (by rw [ndD_len]; omega) fun x hx => (smB x hx).1⟩
    have iR := i25_seq (ds := rows.map PyData.str) (by rw [List.length_map]; omega) fun x hx => (smR x hx).2
    have iB := i25_seq (ds := ndD bs) (by rw [ndD_len]; omega) fun x hx => (smB x hx).2
    have dR : ∀ J, Same B11 J → Dp K J (.ref D) (.list (rows.map PyData.str)) := fun J s => .lst (SqL.of (s _ _ er)) (dp_strs rows)
    have dB : ∀ J, Same B11 J → Dp K J (.ref D1) (.list (ndD bs)) := fun J s => .lst (SqL.of (s _ _ eb)) (dp_nd bs)
    refine ⟨_, rfl, _, rfl, D1, _, rfl, .inl ⟨SqL.of (T11.at eb), fun q1 hq1 => ?_⟩⟩
    have t1 := same_upd (o := .tup (bs.map nI)) hq1
    refine ⟨_, rfl, _, _, _, _, nm, rfl, dR _ (T11.same.trans t1), okR.1, iR.1, .tup (SqT.of upd_same) (dp_nd bs), okB.2, iB.2, fun H12 s12 => ⟨_, rfl, iteF ?_⟩⟩
    have T12 := (T11.ext t1).ext s12
    refine ⟨_, rfl, D, _, rfl, .inl ⟨SqL.of (T12.at er), fun q2 hq2 => ?_⟩⟩
    have t2 := same_upd (o := .tup (rows.map V.str)) hq2
    refine ⟨_, rfl, _, rfl, _, rfl, _, _, _, _, !nm, rfl, .tup (SqT.of upd_same) (dp_strs rows), okR.2, iR.2, dB _ (T12.same.trans t2), okB.1, iB.1, fun H13 s13 => ⟨_, rfl, iteF ?_⟩⟩
    have T13 := (T12.ext t2).ext s13
    have T13 := T13.le (show 200 + rows.length + 1 ≤ 400 + 1000 * 0 by omega)
    clear T12 T11 t1 t2 s12 s13 hq1 hq2
    refine ⟨3, rfl, by decide, by decide, for_range (n := 3) (fun i σ H' => ∃ (v4 v6 v10 v11 v12 : Option V) (B' : Hp), σ = [some (.ref a), some (.ref t), some (.int (n : Int)), some (.ref D), v4, some (.ref D1), v6, some (.bl nm), some (.ref x), some (.ref y), v10, v11, v12] ∧ Tp B' H' t (400 + 1000 * i) ∧ Same B11 B') ⟨_, _, _, _, _, B11, rfl, T13, fun _ _ e => e⟩ ?_ ?_⟩
    · rintro i σ H1 hi ⟨v4, v6, v10, v11, v12, B1, rfl, T1, s1⟩
      refine ⟨_, rfl, _, rfl, B1, t, D, _, rows, rfl, T1, by omega, s1 _ _ er, hm0, by omega, fun z hz => by rw [(hrw z hz).2]; omega, fun B2 H2 v d s2 T2 dv okv iv => ?_⟩
      have s2 := s1.trans s2
      refine ⟨_, rfl, _, rfl, B2, t, D1, _, bs, rfl, T2, by omega, s2 _ _ eb, by omega, by omega, hbm, fun B3 H3 u e s3 T3 du oku iu => ?_⟩
      have dv := Dp.mono s3 _ _ dv
      have s3 := s2.trans s3
      refine ⟨_, rfl, _, rfl, _, rfl, _, _, _, _, nm, rfl, Dp.mono T3.same _ _ dv, okv, iv, dB _ (s3.trans T3.same), okB.1, iB.1, fun H4 s4 => ⟨_, rfl, iteF ?_⟩⟩
      have T4 := T3.ext s4
      refine ⟨_, rfl, _, rfl, _, rfl, _, _, _, _, nm, rfl, dR _ (s3.trans T4.same), okR.1, iR.1, Dp.mono T4.same _ _ du, oku, iu, fun H5 s5 => ⟨_, rfl, iteF ?_⟩⟩
      have T5 := T4.ext s5
      refine ⟨_, rfl, _, rfl, _, rfl, _, rfl, _, _, _, _, !nm, rfl, Dp.mono T5.same _ _ dv, okv, iv, Dp.mono T5.same _ _ du, oku, iu, fun H6 s6 => ⟨_, rfl, iteF ?_⟩⟩
      exact ⟨_, _, _, _, _, B3, rfl, (T5.ext s6).le (by omega), s3⟩
    rintro σ H1 ⟨v4, v6, v10, v11, v12, B1, rfl, T1, s1⟩
    have er := s1 _ _ er
    have eb := s1 _ _ eb
    have dR : ∀ J, Same B1 J → Dp K J (.ref D) (.list (rows.map PyData.str)) := fun J s => dR J (s1.trans s)
    have dB : ∀ J, Same B1 J → Dp K J (.ref D1) (.list (ndD bs)) := fun J s => dB J (s1.trans s)
    have hx1 := s1 _ _ hx11
    have hK1 := hK11.mono s1
    have hy1 := s1 _ _ hy11
    refine ⟨_, rfl, D, rfl, ⟨_, SqL.of (T1.at er)⟩, fun D2 hD2 => lc_list (K := K) (a := D) (xs := rows.map V.str) (fun i H' => Tp (upd B1 D2 (.lst ((List.replicate i ("" : Str)).map V.str))) H' t (400 + 1000 * 3)) (T1.new hD2) (fun i H' _ h => SqL.of (h.at (same_upd (T1.isn hD2) _ _ er))) ?_ ?_⟩
    · rintro i y' H' hi' T2
      have hil := (List.getElem?_eq_some_iff.mp hi').1
      rw [List.length_map] at hil
      refine ⟨rfl, ?_⟩
      refine tyes ?_
      refine ⟨_, T2.at upd_same, szl (by rw [List.length_map, List.length_replicate]; omega), ?_⟩
      have T3 := T2.set (o' := .lst ((List.replicate i ("" : Str)).map V.str ++ [V.str ""])) upd_same
      rw [upd_upd] at T3
      rw [List.replicate_succ', List.map_append]
      exact T3
    intro H2 T2
    rw [List.length_map] at T2
    have T2 := T2.shrink (same_upd (T1.isn hD2)) |> fun _ => T2
    have e2 := upd_same (H := B1) (a := D2) (o := .lst ((List.replicate rows.length ("" : Str)).map V.str))
    have s2 := same_upd (o := .lst ((List.replicate rows.length ("" : Str)).map V.str)) (T1.isn hD2)
    generalize upd B1 D2 (.lst ((List.replicate rows.length ("" : Str)).map V.str)) = B2 at T2 e2 s2
    have smE : Sms ((List.replicate rows.length ("" : Str)).map PyData.str) := sms_strs fun z hz => by rw [(List.mem_replicate.mp hz).2]; decide
    have lE : ((List.replicate rows.length ("" : Str)).map PyData.str).length ≤ 1000 := by rw [List.length_map, List.length_replicate]; omega
    refine ⟨_, rfl, _, rfl, _, rfl, _, _, .list ((List.replicate rows.length ("" : Str)).map PyData.str), _, nm, rfl, .lst (SqL.of (T2.at e2)) (dp_strs _), okD_mk (n := 3) (by omega) (fun x hx => (smE x hx).1), (i25_seq lE fun x hx => (smE x hx).2).1, dB _ (s2.trans T2.same), okB.1, iB.1, fun H3 s3 => ⟨_, rfl, iteF ?_⟩⟩
    have u3 := s2.trans (T2.same.trans s3)
    have T3 := T2.ext s3
    have nl : I25 (.list []) ∧ I25 (.tuple []) := i25_seq (ds := []) (by decide) fun d hd => by cases hd
    refine ⟨szle (by show 0 ≤ 16777216; decide), fun p1 hp1 => ⟨szle (by show 0 ≤ 16777216; decide), fun p2 hp2 => ?_⟩⟩
    have v1 := same_upd (o := .tup []) hp1
    have v2 := same_upd (o := .tup []) hp2
    refine ⟨_, rfl, _, _, .tuple [], .tuple [], nm, rfl, .tup (SqT.of (v2 _ _ upd_same)) .nil, rfl, nl.2, .tup (SqT.of upd_same) .nil, rfl, nl.2, fun H4 s4 => ⟨_, rfl, iteF ?_⟩⟩
    have u4 := u3.trans (v1.trans (v2.trans s4))
    have T4 := ((T3.ext v1).ext v2).ext s4
    refine ⟨szle (by show 0 ≤ 16777216; decide), fun p3 hp3 => ?_⟩
    have v3 := same_upd (o := .lst []) hp3
    refine ⟨_, rfl, _, rfl, _, _, .list [], _, nm, rfl, .lst (SqL.of upd_same) .nil, rfl, nl.1, dB _ (u4.trans v3), okB.1, iB.1, fun H5 s5 => ⟨_, rfl, iteF ?_⟩⟩
    have u5 := u4.trans (v3.trans s5)
    have T5 := (T4.ext v3).ext s5
    refine ⟨szle (by show 2 ≤ 16777216; decide), fun p4 hp4 => ?_⟩
    have v4' := same_upd (o := .lst [.int 0, .int 0]) hp4
    refine ⟨_, rfl, _, _, .str "01", .list [.int 0, .int 0], nm, rfl, .str _, rfl, i25_leaf ⟨fun z e => (by cases e; decide), fun z e => by cases e⟩ rfl, .lst (SqL.of upd_same) (.cons (.int _) (.cons (.int _) .nil)), rfl, (i25_seq (ds := [.int 0, .int 0]) (by decide) fun d hd => by
      simp only [List.mem_cons, List.not_mem_nil, or_false, or_self] at hd
      rw [hd]
      exact ⟨fun z e => (by cases e), fun z e => by cases e; decide⟩).1, fun H6 s6 => ⟨_, rfl, iteF ?_⟩⟩
    have u6 := u5.trans (v4'.trans s6)
    have T6 := (T5.ext v4').ext s6
    refine ⟨_, rfl, _, rfl, D, _, rfl, .inl (SqL.of (u6 _ _ er)), ?_⟩
    refine ⟨_, _, rfl, rfl, by omega, by rw [List.length_map]; omega, by rw [List.length_map]; show _ * 1 ≤ 16777216; omega, _, rfl, _, _, _, .str _, nm, rfl, dR _ u6, okR.1, iR.1, .str _, rfl, i25_leaf ⟨fun z e => ?_, fun z e => by cases e⟩ rfl, fun H7 s7 => ⟨_, rfl, iteF ?_⟩⟩
    · cases e
      rw [repS_len, List.length_map]
      show _ * 1 ≤ 400
      omega
    have T7 := T6.ext s7
    refine ⟨_, rfl, _, rfl, _, rfl, B2, t, _, x, dx, wr, bu, _, y, dy, p, rfl, T7, by omega, s2 _ _ hx1, hK1.mono s2, G0, s2 _ _ hy1, fun H8' s8' => ⟨_, rfl, iteF ?_⟩⟩
    have hx8 := s8' _ _ (s2 _ _ hx1)
    have hK8 := (hK1.mono s2).mono s8'
    refine ⟨_, rfl, x, dx, _, rfl, hx8, rfl, x, dx, wr, bu, _, "", 0, .int 1, .int 1, rfl, hx8, hK8, G0, by show 0 < 1000; decide, .int 1, .inl ⟨1, rfl, rfl, by decide, fun H9 s9 => ?_⟩⟩
    refine ⟨_, _, .none, rfl, rfl, .non, .non, _, rfl, iteF ?_⟩
    rw [gss_first, if_pos rfl] at s9
    have hx9 := s9 _ _ upd_same
    have hK9 := (hK8.set hx8).mono s9
    refine ⟨_, rfl, x, C_Keeper, dx, _, _, rfl, hx9, kc.ins.cl, kc.ns, kfz_s, _, rfl, x, C_Keeper, dx, _, _, rfl, hx9, kc.ins.cl, kc.ne, kfz_e, _, rfl, x, dx, _, rfl, hx9, rfl, x, dx, wr, bu, _, _, _, rfl, hx9, hK9, G0, by decide, fun H10 p3 s10 np3 hp3 => ?_⟩
    rw [liv_first] at hp3
    refine ⟨szle (by show 3 ≤ 16777216; decide), fun p5 hp5 => ?_⟩
    have w5 := same_upd (o := .lst [.str ("" ++ bitS 1), .int (0 + 0), .ref p3]) hp5
    refine ⟨szle (by show 1 ≤ 16777216; decide), fun p6 hp6 => ⟨szle (by show 3 ≤ 16777216; decide), fun p7 hp7 => ?_⟩⟩
    have w6 := same_upd (o := .tup [.int 1]) hp6
    have w7 := same_upd (o := .lst [.str "1", .int 0, .ref p6]) hp7
    exact ⟨_, _, .list [.str "1", .int 0, .tuple [.int 1]], rfl, rfl, .lst (SqL.of ((w6.trans w7) _ _ upd_same)) (.cons (.str _) (.cons (.int _) (.cons (.tup (SqT.of ((w5.trans (w6.trans w7)) _ _ hp3)) (.cons (.int _) .nil)) .nil))), .lst (SqL.of upd_same) (.cons (.str _) (.cons (.int _) (.cons (.tup (SqT.of (w7 _ _ upd_same)) (.cons (.int _) .nil)) .nil))), q _⟩
end

abbrev spLaw := spAsks
section
variable {P : Program} {w : World} {K : PySem.W.Frag} {mg : Str → Option Value} {base : Heap} {C_Share C_Writers C_Keeper C_Breaker : Addr}
theorem ok_law {f : Addr} {fd : FuncData} (F : Fun K "law" "law" s_law f fd) (T : Txt K mg C_Share C_Writers C_Keeper C_Breaker) (c_law_asks : Cal P w K mg base 10 "_law_asks" (spAsks K)) : FnOk P w K mg base CX0 11 f fd ["script"] (spLaw K) := by
  refine F.ok sc_law (fun vs H Q E h => ?_) (fun cdv A outer s H vs Q E hr h => ?_)
  · obtain ⟨a, ns, rfl, _⟩ := h
    rfl
  · obtain ⟨a, ns, rfl, hS, hlen, q⟩ := h
    refine ⟨_, (pss_one (ps_try_thru0
      (pss_one (ps_ret (pe_c c_law_asks hr (by omega) (by rfl) (pa_cons (pv 0) pa_nil)))))), ?_⟩
    exact ⟨_, rfl, a, ns, rfl, hS, hlen, fun H' => q H'⟩
end

theorem all_mk {l : PySem.W.OpenLaw} {w : World} {K : PySem.W.Frag} {h : Heap} {mg : Str → Option Value} {fa f_is_integer f_is_number f_is_bit f_is_sequence f_are_numbers f_Share___init__ f_Share_is_below f_sum_of_halves f_is_word f_check_bit f_check_rows f_check_budgets f_check_budgets_of f_are_rows f_can_keep f_in_order f_with_less f_check_breakable f_broken_on f_sides_of f_hear f_Writers___init__ f_Writers_flips_left f_Writers_living_at f_without_flips f_Keeper___init__ f_Keeper_guess f_Keeper_tell f_Keeper_living f_Keeper__weight_of f_Breaker___init__ f_Breaker_answer f_law_tape f_law_draw f_law_bits f_law_below f_law_string f_law_stranger f_law_copy f_law_same f_law_is_word f_law_are_rows f_law_are_budgets f_law_told f_law_right f_law_put f_law_spoilt_rows f_law_spoilt_budgets f_law_tell_refused f_law_answer_refused f_law_bits_right f_law_asks f_law C_InvalidNumber C_InvalidBudgets C_InvalidRows C_Share C_Writers C_Keeper C_Breaker : Addr} (X : K.In h) (G : h.Ns mainGlobals mg) (hfa : mg "law" = some (.ref fa))
    {nm_InvalidNumber qn_InvalidNumber : Str} {N_InvalidNumber B_InvalidNumber : Addr} {bs_InvalidNumber sub_InvalidNumber : List Value} {sn_InvalidNumber : List Str} {ab_InvalidNumber : Bool} {col_InvalidNumber : Option Bool} {dd_InvalidNumber : Option Addr} {m0_InvalidNumber m1_InvalidNumber m2_InvalidNumber m3_InvalidNumber m5_InvalidNumber : Option Value} {oc_InvalidNumber dc_InvalidNumber pm_InvalidNumber ct_InvalidNumber ccl_InvalidNumber cl_InvalidNumber : Value} {od_InvalidNumber an_InvalidNumber cdd_InvalidNumber cld_InvalidNumber : Option Addr} {sl_InvalidNumber ccs_InvalidNumber csl_InvalidNumber : Array (Option Value)} {f_InvalidNumber cda_InvalidNumber cc_InvalidNumber : Addr} {vs_InvalidNumber : Array Value} {file_InvalidNumber : Str} {tf_InvalidNumber : Tok}
    {nm_InvalidBudgets qn_InvalidBudgets : Str} {N_InvalidBudgets B_InvalidBudgets : Addr} {bs_InvalidBudgets sub_InvalidBudgets : List Value} {sn_InvalidBudgets : List Str} {ab_InvalidBudgets : Bool} {col_InvalidBudgets : Option Bool} {dd_InvalidBudgets : Option Addr} {m0_InvalidBudgets m1_InvalidBudgets m2_InvalidBudgets m3_InvalidBudgets m5_InvalidBudgets : Option Value} {oc_InvalidBudgets dc_InvalidBudgets pm_InvalidBudgets ct_InvalidBudgets ccl_InvalidBudgets cl_InvalidBudgets : Value} {od_InvalidBudgets an_InvalidBudgets cdd_InvalidBudgets cld_InvalidBudgets : Option Addr} {sl_InvalidBudgets ccs_InvalidBudgets csl_InvalidBudgets : Array (Option Value)} {f_InvalidBudgets cda_InvalidBudgets cc_InvalidBudgets : Addr} {vs_InvalidBudgets : Array Value} {file_InvalidBudgets : Str} {tf_InvalidBudgets : Tok}
    {nm_InvalidRows qn_InvalidRows : Str} {N_InvalidRows B_InvalidRows : Addr} {bs_InvalidRows sub_InvalidRows : List Value} {sn_InvalidRows : List Str} {ab_InvalidRows : Bool} {col_InvalidRows : Option Bool} {dd_InvalidRows : Option Addr} {m0_InvalidRows m1_InvalidRows m2_InvalidRows m3_InvalidRows m5_InvalidRows : Option Value} {oc_InvalidRows dc_InvalidRows pm_InvalidRows ct_InvalidRows ccl_InvalidRows cl_InvalidRows : Value} {od_InvalidRows an_InvalidRows cdd_InvalidRows cld_InvalidRows : Option Addr} {sl_InvalidRows ccs_InvalidRows csl_InvalidRows : Array (Option Value)} {f_InvalidRows cda_InvalidRows cc_InvalidRows : Addr} {vs_InvalidRows : Array Value} {file_InvalidRows : Str} {tf_InvalidRows : Tok}
    {od_is_integer an_is_integer : Option Addr} {sl_is_integer : Array (Option Value)} {oc_is_integer kV_is_integer dc_is_integer pm_is_integer cd_is_integer ct_is_integer : Value}
    {od_is_number an_is_number : Option Addr} {sl_is_number : Array (Option Value)} {oc_is_number kV_is_number dc_is_number pm_is_number cd_is_number ct_is_number : Value}
    {od_is_bit an_is_bit : Option Addr} {sl_is_bit : Array (Option Value)} {oc_is_bit kV_is_bit dc_is_bit pm_is_bit cd_is_bit ct_is_bit : Value}
    {od_is_sequence an_is_sequence : Option Addr} {sl_is_sequence : Array (Option Value)} {oc_is_sequence kV_is_sequence dc_is_sequence pm_is_sequence cd_is_sequence ct_is_sequence : Value}
    {od_are_numbers an_are_numbers : Option Addr} {sl_are_numbers : Array (Option Value)} {oc_are_numbers kV_are_numbers dc_are_numbers pm_are_numbers cd_are_numbers ct_are_numbers : Value}
    {od_Share___init__ an_Share___init__ : Option Addr} {sl_Share___init__ : Array (Option Value)} {oc_Share___init__ kV_Share___init__ dc_Share___init__ pm_Share___init__ cd_Share___init__ ct_Share___init__ : Value}
    {od_Share_is_below an_Share_is_below : Option Addr} {sl_Share_is_below : Array (Option Value)} {oc_Share_is_below kV_Share_is_below dc_Share_is_below pm_Share_is_below cd_Share_is_below ct_Share_is_below : Value}
    {od_sum_of_halves an_sum_of_halves : Option Addr} {sl_sum_of_halves : Array (Option Value)} {oc_sum_of_halves kV_sum_of_halves dc_sum_of_halves pm_sum_of_halves cd_sum_of_halves ct_sum_of_halves : Value}
    {od_is_word an_is_word : Option Addr} {sl_is_word : Array (Option Value)} {oc_is_word kV_is_word dc_is_word pm_is_word cd_is_word ct_is_word : Value}
    {od_check_bit an_check_bit : Option Addr} {sl_check_bit : Array (Option Value)} {oc_check_bit kV_check_bit dc_check_bit pm_check_bit cd_check_bit ct_check_bit : Value}
    {od_check_rows an_check_rows : Option Addr} {sl_check_rows : Array (Option Value)} {oc_check_rows kV_check_rows dc_check_rows pm_check_rows cd_check_rows ct_check_rows : Value}
    {od_check_budgets an_check_budgets : Option Addr} {sl_check_budgets : Array (Option Value)} {oc_check_budgets kV_check_budgets dc_check_budgets pm_check_budgets cd_check_budgets ct_check_budgets : Value}
    {od_check_budgets_of an_check_budgets_of : Option Addr} {sl_check_budgets_of : Array (Option Value)} {oc_check_budgets_of kV_check_budgets_of dc_check_budgets_of pm_check_budgets_of cd_check_budgets_of ct_check_budgets_of : Value}
    {od_are_rows an_are_rows : Option Addr} {sl_are_rows : Array (Option Value)} {oc_are_rows kV_are_rows dc_are_rows pm_are_rows cd_are_rows ct_are_rows : Value}
    {od_can_keep an_can_keep : Option Addr} {sl_can_keep : Array (Option Value)} {oc_can_keep kV_can_keep dc_can_keep pm_can_keep cd_can_keep ct_can_keep : Value}
    {od_in_order an_in_order : Option Addr} {sl_in_order : Array (Option Value)} {oc_in_order kV_in_order dc_in_order pm_in_order cd_in_order ct_in_order : Value}
    {od_with_less an_with_less : Option Addr} {sl_with_less : Array (Option Value)} {oc_with_less kV_with_less dc_with_less pm_with_less cd_with_less ct_with_less : Value}
    {od_check_breakable an_check_breakable : Option Addr} {sl_check_breakable : Array (Option Value)} {oc_check_breakable kV_check_breakable dc_check_breakable pm_check_breakable cd_check_breakable ct_check_breakable : Value}
    {od_broken_on an_broken_on : Option Addr} {sl_broken_on : Array (Option Value)} {oc_broken_on kV_broken_on dc_broken_on pm_broken_on cd_broken_on ct_broken_on : Value}
    {od_sides_of an_sides_of : Option Addr} {sl_sides_of : Array (Option Value)} {oc_sides_of kV_sides_of dc_sides_of pm_sides_of cd_sides_of ct_sides_of : Value}
    {od_hear an_hear : Option Addr} {sl_hear : Array (Option Value)} {oc_hear kV_hear dc_hear pm_hear cd_hear ct_hear : Value}
    {od_Writers___init__ an_Writers___init__ : Option Addr} {sl_Writers___init__ : Array (Option Value)} {oc_Writers___init__ kV_Writers___init__ dc_Writers___init__ pm_Writers___init__ cd_Writers___init__ ct_Writers___init__ : Value}
    {od_Writers_flips_left an_Writers_flips_left : Option Addr} {sl_Writers_flips_left : Array (Option Value)} {oc_Writers_flips_left kV_Writers_flips_left dc_Writers_flips_left pm_Writers_flips_left cd_Writers_flips_left ct_Writers_flips_left : Value}
    {od_Writers_living_at an_Writers_living_at : Option Addr} {sl_Writers_living_at : Array (Option Value)} {oc_Writers_living_at kV_Writers_living_at dc_Writers_living_at pm_Writers_living_at cd_Writers_living_at ct_Writers_living_at : Value}
    {od_without_flips an_without_flips : Option Addr} {sl_without_flips : Array (Option Value)} {oc_without_flips kV_without_flips dc_without_flips pm_without_flips cd_without_flips ct_without_flips : Value}
    {od_Keeper___init__ an_Keeper___init__ : Option Addr} {sl_Keeper___init__ : Array (Option Value)} {oc_Keeper___init__ kV_Keeper___init__ dc_Keeper___init__ pm_Keeper___init__ cd_Keeper___init__ ct_Keeper___init__ : Value}
    {od_Keeper_guess an_Keeper_guess : Option Addr} {sl_Keeper_guess : Array (Option Value)} {oc_Keeper_guess kV_Keeper_guess dc_Keeper_guess pm_Keeper_guess cd_Keeper_guess ct_Keeper_guess : Value}
    {od_Keeper_tell an_Keeper_tell : Option Addr} {sl_Keeper_tell : Array (Option Value)} {oc_Keeper_tell kV_Keeper_tell dc_Keeper_tell pm_Keeper_tell cd_Keeper_tell ct_Keeper_tell : Value}
    {od_Keeper_living an_Keeper_living : Option Addr} {sl_Keeper_living : Array (Option Value)} {oc_Keeper_living kV_Keeper_living dc_Keeper_living pm_Keeper_living cd_Keeper_living ct_Keeper_living : Value}
    {od_Keeper__weight_of an_Keeper__weight_of : Option Addr} {sl_Keeper__weight_of : Array (Option Value)} {oc_Keeper__weight_of kV_Keeper__weight_of dc_Keeper__weight_of pm_Keeper__weight_of cd_Keeper__weight_of ct_Keeper__weight_of : Value}
    {od_Breaker___init__ an_Breaker___init__ : Option Addr} {sl_Breaker___init__ : Array (Option Value)} {oc_Breaker___init__ kV_Breaker___init__ dc_Breaker___init__ pm_Breaker___init__ cd_Breaker___init__ ct_Breaker___init__ : Value}
    {od_Breaker_answer an_Breaker_answer : Option Addr} {sl_Breaker_answer : Array (Option Value)} {oc_Breaker_answer kV_Breaker_answer dc_Breaker_answer pm_Breaker_answer cd_Breaker_answer ct_Breaker_answer : Value}
    {od_law_tape an_law_tape : Option Addr} {sl_law_tape : Array (Option Value)} {oc_law_tape kV_law_tape dc_law_tape pm_law_tape cd_law_tape ct_law_tape : Value}
    {od_law_draw an_law_draw : Option Addr} {sl_law_draw : Array (Option Value)} {oc_law_draw kV_law_draw dc_law_draw pm_law_draw cd_law_draw ct_law_draw : Value}
    {od_law_bits an_law_bits : Option Addr} {sl_law_bits : Array (Option Value)} {oc_law_bits kV_law_bits dc_law_bits pm_law_bits cd_law_bits ct_law_bits : Value}
    {od_law_below an_law_below : Option Addr} {sl_law_below : Array (Option Value)} {oc_law_below kV_law_below dc_law_below pm_law_below cd_law_below ct_law_below : Value}
    {od_law_string an_law_string : Option Addr} {sl_law_string : Array (Option Value)} {oc_law_string kV_law_string dc_law_string pm_law_string cd_law_string ct_law_string : Value}
    {od_law_stranger an_law_stranger : Option Addr} {sl_law_stranger : Array (Option Value)} {oc_law_stranger kV_law_stranger dc_law_stranger pm_law_stranger cd_law_stranger ct_law_stranger : Value}
    {od_law_copy an_law_copy : Option Addr} {sl_law_copy : Array (Option Value)} {oc_law_copy kV_law_copy dc_law_copy pm_law_copy cd_law_copy ct_law_copy : Value}
    {od_law_same an_law_same : Option Addr} {sl_law_same : Array (Option Value)} {oc_law_same kV_law_same dc_law_same pm_law_same cd_law_same ct_law_same : Value}
    {od_law_is_word an_law_is_word : Option Addr} {sl_law_is_word : Array (Option Value)} {oc_law_is_word kV_law_is_word dc_law_is_word pm_law_is_word cd_law_is_word ct_law_is_word : Value}
    {od_law_are_rows an_law_are_rows : Option Addr} {sl_law_are_rows : Array (Option Value)} {oc_law_are_rows kV_law_are_rows dc_law_are_rows pm_law_are_rows cd_law_are_rows ct_law_are_rows : Value}
    {od_law_are_budgets an_law_are_budgets : Option Addr} {sl_law_are_budgets : Array (Option Value)} {oc_law_are_budgets kV_law_are_budgets dc_law_are_budgets pm_law_are_budgets cd_law_are_budgets ct_law_are_budgets : Value}
    {od_law_told an_law_told : Option Addr} {sl_law_told : Array (Option Value)} {oc_law_told kV_law_told dc_law_told pm_law_told cd_law_told ct_law_told : Value}
    {od_law_right an_law_right : Option Addr} {sl_law_right : Array (Option Value)} {oc_law_right kV_law_right dc_law_right pm_law_right cd_law_right ct_law_right : Value}
    {od_law_put an_law_put : Option Addr} {sl_law_put : Array (Option Value)} {oc_law_put kV_law_put dc_law_put pm_law_put cd_law_put ct_law_put : Value}
    {od_law_spoilt_rows an_law_spoilt_rows : Option Addr} {sl_law_spoilt_rows : Array (Option Value)} {oc_law_spoilt_rows kV_law_spoilt_rows dc_law_spoilt_rows pm_law_spoilt_rows cd_law_spoilt_rows ct_law_spoilt_rows : Value}
    {od_law_spoilt_budgets an_law_spoilt_budgets : Option Addr} {sl_law_spoilt_budgets : Array (Option Value)} {oc_law_spoilt_budgets kV_law_spoilt_budgets dc_law_spoilt_budgets pm_law_spoilt_budgets cd_law_spoilt_budgets ct_law_spoilt_budgets : Value}
    {od_law_tell_refused an_law_tell_refused : Option Addr} {sl_law_tell_refused : Array (Option Value)} {oc_law_tell_refused kV_law_tell_refused dc_law_tell_refused pm_law_tell_refused cd_law_tell_refused ct_law_tell_refused : Value}
    {od_law_answer_refused an_law_answer_refused : Option Addr} {sl_law_answer_refused : Array (Option Value)} {oc_law_answer_refused kV_law_answer_refused dc_law_answer_refused pm_law_answer_refused cd_law_answer_refused ct_law_answer_refused : Value}
    {od_law_bits_right an_law_bits_right : Option Addr} {sl_law_bits_right : Array (Option Value)} {oc_law_bits_right kV_law_bits_right dc_law_bits_right pm_law_bits_right cd_law_bits_right ct_law_bits_right : Value}
    {od_law_asks an_law_asks : Option Addr} {sl_law_asks : Array (Option Value)} {oc_law_asks kV_law_asks dc_law_asks pm_law_asks cd_law_asks ct_law_asks : Value}
    {od_law an_law : Option Addr} {sl_law : Array (Option Value)} {oc_law kV_law dc_law pm_law cd_law ct_law : Value}
    (aC_Share : PySem.W.nsIn K mainGlobals "Share" = some (some (.ref C_Share)))
    (aC_Writers : PySem.W.nsIn K mainGlobals "Writers" = some (some (.ref C_Writers)))
    (aC_Keeper : PySem.W.nsIn K mainGlobals "Keeper" = some (some (.ref C_Keeper)))
    (aC_Breaker : PySem.W.nsIn K mainGlobals "Breaker" = some (some (.ref C_Breaker)))
    (aG : PySem.W.nsIn K mainGlobals "gcd" = some (some (.builtin "math.gcd")))
    (xgC_InvalidNumber : PySem.W.nsIn K mainGlobals "InvalidNumber" = some (some (.ref C_InvalidNumber)))
    (xxL_InvalidNumber : K.lookup C_InvalidNumber = some (excClassObj nm_InvalidNumber qn_InvalidNumber C_InvalidNumber N_InvalidNumber bs_InvalidNumber [.ref B_InvalidNumber, .type "ValueError", .type "Exception", .type "BaseException", .type "object"] true sn_InvalidNumber sub_InvalidNumber ab_InvalidNumber col_InvalidNumber dd_InvalidNumber m0_InvalidNumber m1_InvalidNumber m2_InvalidNumber m3_InvalidNumber m5_InvalidNumber "ValueError.__new__"))
    (xsa_InvalidNumber : PySem.W.findIn K (.ref C_InvalidNumber) "__setattr__" = some (some (.builtin "object.__setattr__")))
    (xga_InvalidNumber : PySem.W.findIn K (.ref C_InvalidNumber) "__getattribute__" = some (some (.builtin "BaseException.__getattribute__")))
    (xgg_InvalidNumber : PySem.W.findIn K (.ref C_InvalidNumber) "__getattr__" = some none)
    (xiC_InvalidNumber : PySem.W.findIn K (.ref C_InvalidNumber) "__init__" = some (some (.ref f_InvalidNumber)))
    (xtI_InvalidNumber : PySem.W.typeIn K (.ref f_InvalidNumber) = some (.type "function"))
    (xkC_InvalidNumber : PySem.W.keepIn K (.ref C_InvalidNumber) = true)
    (xeC_InvalidNumber : PySem.W.subIn K (.ref C_InvalidNumber) (.type "BaseException") = some true)
    (xvC_InvalidNumber : PySem.W.subIn K (.ref C_InvalidNumber) (.type "ValueError") = some true)
    (xse_InvalidNumber : PySem.W.mroIn K C_InvalidNumber (.ref C_InvalidNumber) = some true)
    (xtC_InvalidNumber : PySem.W.typeIn K (.ref C_InvalidNumber) = some (.type "type"))
    (xhC_InvalidNumber : PySem.W.hasDictIn K C_InvalidNumber = true)
    (xcC_InvalidNumber : PySem.W.isClsIn K C_InvalidNumber = true)
    (xsC_InvalidNumber : PySem.W.subIn K (.ref C_InvalidNumber) (.ref C_InvalidNumber) = some true)
    (xlI_InvalidNumber : K.lookup f_InvalidNumber = some ⟨oc_InvalidNumber, od_InvalidNumber, .func (PySem.W.ksFn "__init__" "InvalidNumber.__init__" (defArgs s_InvalidNumber___init__) (defBody s_InvalidNumber___init__) (defScope s_InvalidNumber___init__) .none .none dc_InvalidNumber pm_InvalidNumber an_InvalidNumber (.ref cda_InvalidNumber) ct_InvalidNumber cc_InvalidNumber), sl_InvalidNumber⟩)
    (xcI_InvalidNumber : PySem.W.codeIn K (.ref cda_InvalidNumber) "InvalidNumber.__init__" = true)
    (xcd_InvalidNumber : K.lookup cda_InvalidNumber = some ⟨ccl_InvalidNumber, cdd_InvalidNumber, .fields vs_InvalidNumber, ccs_InvalidNumber⟩)
    (xcc_InvalidNumber : K.lookup cc_InvalidNumber = some ⟨cl_InvalidNumber, cld_InvalidNumber, .cell (some (.ref C_InvalidNumber)), csl_InvalidNumber⟩)
    (xfi_InvalidNumber : vs_InvalidNumber[2]? = some (.str file_InvalidNumber tf_InvalidNumber))
    (xff_InvalidNumber : ((l.prog.main.file : Str) == file_InvalidNumber) = true)
    (xup_InvalidNumber : PySem.W.ks_superIn K C_InvalidNumber C_InvalidNumber "__init__" = some (some (.builtin "ValueError.__init__")))
    (xn_InvalidNumber_number : PySem.W.findIn K (.ref C_InvalidNumber) "number" = some none)
    (xgC_InvalidBudgets : PySem.W.nsIn K mainGlobals "InvalidBudgets" = some (some (.ref C_InvalidBudgets)))
    (xxL_InvalidBudgets : K.lookup C_InvalidBudgets = some (excClassObj nm_InvalidBudgets qn_InvalidBudgets C_InvalidBudgets N_InvalidBudgets bs_InvalidBudgets [.ref B_InvalidBudgets, .type "ValueError", .type "Exception", .type "BaseException", .type "object"] true sn_InvalidBudgets sub_InvalidBudgets ab_InvalidBudgets col_InvalidBudgets dd_InvalidBudgets m0_InvalidBudgets m1_InvalidBudgets m2_InvalidBudgets m3_InvalidBudgets m5_InvalidBudgets "ValueError.__new__"))
    (xsa_InvalidBudgets : PySem.W.findIn K (.ref C_InvalidBudgets) "__setattr__" = some (some (.builtin "object.__setattr__")))
    (xga_InvalidBudgets : PySem.W.findIn K (.ref C_InvalidBudgets) "__getattribute__" = some (some (.builtin "BaseException.__getattribute__")))
    (xgg_InvalidBudgets : PySem.W.findIn K (.ref C_InvalidBudgets) "__getattr__" = some none)
    (xiC_InvalidBudgets : PySem.W.findIn K (.ref C_InvalidBudgets) "__init__" = some (some (.ref f_InvalidBudgets)))
    (xtI_InvalidBudgets : PySem.W.typeIn K (.ref f_InvalidBudgets) = some (.type "function"))
    (xkC_InvalidBudgets : PySem.W.keepIn K (.ref C_InvalidBudgets) = true)
    (xeC_InvalidBudgets : PySem.W.subIn K (.ref C_InvalidBudgets) (.type "BaseException") = some true)
    (xvC_InvalidBudgets : PySem.W.subIn K (.ref C_InvalidBudgets) (.type "ValueError") = some true)
    (xse_InvalidBudgets : PySem.W.mroIn K C_InvalidBudgets (.ref C_InvalidBudgets) = some true)
    (xtC_InvalidBudgets : PySem.W.typeIn K (.ref C_InvalidBudgets) = some (.type "type"))
    (xhC_InvalidBudgets : PySem.W.hasDictIn K C_InvalidBudgets = true)
    (xcC_InvalidBudgets : PySem.W.isClsIn K C_InvalidBudgets = true)
    (xsC_InvalidBudgets : PySem.W.subIn K (.ref C_InvalidBudgets) (.ref C_InvalidBudgets) = some true)
    (xlI_InvalidBudgets : K.lookup f_InvalidBudgets = some ⟨oc_InvalidBudgets, od_InvalidBudgets, .func (PySem.W.ksFn "__init__" "InvalidBudgets.__init__" (defArgs s_InvalidBudgets___init__) (defBody s_InvalidBudgets___init__) (defScope s_InvalidBudgets___init__) .none .none dc_InvalidBudgets pm_InvalidBudgets an_InvalidBudgets (.ref cda_InvalidBudgets) ct_InvalidBudgets cc_InvalidBudgets), sl_InvalidBudgets⟩)
    (xcI_InvalidBudgets : PySem.W.codeIn K (.ref cda_InvalidBudgets) "InvalidBudgets.__init__" = true)
    (xcd_InvalidBudgets : K.lookup cda_InvalidBudgets = some ⟨ccl_InvalidBudgets, cdd_InvalidBudgets, .fields vs_InvalidBudgets, ccs_InvalidBudgets⟩)
    (xcc_InvalidBudgets : K.lookup cc_InvalidBudgets = some ⟨cl_InvalidBudgets, cld_InvalidBudgets, .cell (some (.ref C_InvalidBudgets)), csl_InvalidBudgets⟩)
    (xfi_InvalidBudgets : vs_InvalidBudgets[2]? = some (.str file_InvalidBudgets tf_InvalidBudgets))
    (xff_InvalidBudgets : ((l.prog.main.file : Str) == file_InvalidBudgets) = true)
    (xup_InvalidBudgets : PySem.W.ks_superIn K C_InvalidBudgets C_InvalidBudgets "__init__" = some (some (.builtin "ValueError.__init__")))
    (xn_InvalidBudgets_budgets : PySem.W.findIn K (.ref C_InvalidBudgets) "budgets" = some none)
    (xgC_InvalidRows : PySem.W.nsIn K mainGlobals "InvalidRows" = some (some (.ref C_InvalidRows)))
    (xxL_InvalidRows : K.lookup C_InvalidRows = some (excClassObj nm_InvalidRows qn_InvalidRows C_InvalidRows N_InvalidRows bs_InvalidRows [.ref B_InvalidRows, .type "ValueError", .type "Exception", .type "BaseException", .type "object"] true sn_InvalidRows sub_InvalidRows ab_InvalidRows col_InvalidRows dd_InvalidRows m0_InvalidRows m1_InvalidRows m2_InvalidRows m3_InvalidRows m5_InvalidRows "ValueError.__new__"))
    (xsa_InvalidRows : PySem.W.findIn K (.ref C_InvalidRows) "__setattr__" = some (some (.builtin "object.__setattr__")))
    (xga_InvalidRows : PySem.W.findIn K (.ref C_InvalidRows) "__getattribute__" = some (some (.builtin "BaseException.__getattribute__")))
    (xgg_InvalidRows : PySem.W.findIn K (.ref C_InvalidRows) "__getattr__" = some none)
    (xiC_InvalidRows : PySem.W.findIn K (.ref C_InvalidRows) "__init__" = some (some (.ref f_InvalidRows)))
    (xtI_InvalidRows : PySem.W.typeIn K (.ref f_InvalidRows) = some (.type "function"))
    (xkC_InvalidRows : PySem.W.keepIn K (.ref C_InvalidRows) = true)
    (xeC_InvalidRows : PySem.W.subIn K (.ref C_InvalidRows) (.type "BaseException") = some true)
    (xvC_InvalidRows : PySem.W.subIn K (.ref C_InvalidRows) (.type "ValueError") = some true)
    (xse_InvalidRows : PySem.W.mroIn K C_InvalidRows (.ref C_InvalidRows) = some true)
    (xtC_InvalidRows : PySem.W.typeIn K (.ref C_InvalidRows) = some (.type "type"))
    (xhC_InvalidRows : PySem.W.hasDictIn K C_InvalidRows = true)
    (xcC_InvalidRows : PySem.W.isClsIn K C_InvalidRows = true)
    (xsC_InvalidRows : PySem.W.subIn K (.ref C_InvalidRows) (.ref C_InvalidRows) = some true)
    (xlI_InvalidRows : K.lookup f_InvalidRows = some ⟨oc_InvalidRows, od_InvalidRows, .func (PySem.W.ksFn "__init__" "InvalidRows.__init__" (defArgs s_InvalidRows___init__) (defBody s_InvalidRows___init__) (defScope s_InvalidRows___init__) .none .none dc_InvalidRows pm_InvalidRows an_InvalidRows (.ref cda_InvalidRows) ct_InvalidRows cc_InvalidRows), sl_InvalidRows⟩)
    (xcI_InvalidRows : PySem.W.codeIn K (.ref cda_InvalidRows) "InvalidRows.__init__" = true)
    (xcd_InvalidRows : K.lookup cda_InvalidRows = some ⟨ccl_InvalidRows, cdd_InvalidRows, .fields vs_InvalidRows, ccs_InvalidRows⟩)
    (xcc_InvalidRows : K.lookup cc_InvalidRows = some ⟨cl_InvalidRows, cld_InvalidRows, .cell (some (.ref C_InvalidRows)), csl_InvalidRows⟩)
    (xfi_InvalidRows : vs_InvalidRows[2]? = some (.str file_InvalidRows tf_InvalidRows))
    (xff_InvalidRows : ((l.prog.main.file : Str) == file_InvalidRows) = true)
    (xup_InvalidRows : PySem.W.ks_superIn K C_InvalidRows C_InvalidRows "__init__" = some (some (.builtin "ValueError.__init__")))
    (xn_InvalidRows_rows : PySem.W.findIn K (.ref C_InvalidRows) "rows" = some none)
    (xsu : PySem.W.nsIn K mainGlobals "super" = some none)
    (xop : PySem.W.nsIn K cStatics "thirdparty.any" = some none)
    (xtp : (l.prog.main.scope.names.lookup ("super" : Str)).isSome = false)
    (a_is_integer : PySem.W.nsIn K mainGlobals "is_integer" = some (some (.ref f_is_integer)))
    (l_is_integer : K.lookup f_is_integer = some ⟨oc_is_integer, od_is_integer, .func (PySem.W.fnOf "is_integer" "is_integer" (defArgs s_is_integer) (defBody s_is_integer) (defScope s_is_integer) .none kV_is_integer dc_is_integer pm_is_integer an_is_integer cd_is_integer ct_is_integer), sl_is_integer⟩)
    (c_is_integer : PySem.W.codeIn K cd_is_integer "is_integer" = true)
    (k_is_integer : PySem.W.keepIn K (.ref f_is_integer) = true)
    (a_is_number : PySem.W.nsIn K mainGlobals "is_number" = some (some (.ref f_is_number)))
    (l_is_number : K.lookup f_is_number = some ⟨oc_is_number, od_is_number, .func (PySem.W.fnOf "is_number" "is_number" (defArgs s_is_number) (defBody s_is_number) (defScope s_is_number) .none kV_is_number dc_is_number pm_is_number an_is_number cd_is_number ct_is_number), sl_is_number⟩)
    (c_is_number : PySem.W.codeIn K cd_is_number "is_number" = true)
    (k_is_number : PySem.W.keepIn K (.ref f_is_number) = true)
    (a_is_bit : PySem.W.nsIn K mainGlobals "is_bit" = some (some (.ref f_is_bit)))
    (l_is_bit : K.lookup f_is_bit = some ⟨oc_is_bit, od_is_bit, .func (PySem.W.fnOf "is_bit" "is_bit" (defArgs s_is_bit) (defBody s_is_bit) (defScope s_is_bit) .none kV_is_bit dc_is_bit pm_is_bit an_is_bit cd_is_bit ct_is_bit), sl_is_bit⟩)
    (c_is_bit : PySem.W.codeIn K cd_is_bit "is_bit" = true)
    (k_is_bit : PySem.W.keepIn K (.ref f_is_bit) = true)
    (a_is_sequence : PySem.W.nsIn K mainGlobals "is_sequence" = some (some (.ref f_is_sequence)))
    (l_is_sequence : K.lookup f_is_sequence = some ⟨oc_is_sequence, od_is_sequence, .func (PySem.W.fnOf "is_sequence" "is_sequence" (defArgs s_is_sequence) (defBody s_is_sequence) (defScope s_is_sequence) .none kV_is_sequence dc_is_sequence pm_is_sequence an_is_sequence cd_is_sequence ct_is_sequence), sl_is_sequence⟩)
    (c_is_sequence : PySem.W.codeIn K cd_is_sequence "is_sequence" = true)
    (k_is_sequence : PySem.W.keepIn K (.ref f_is_sequence) = true)
    (a_are_numbers : PySem.W.nsIn K mainGlobals "are_numbers" = some (some (.ref f_are_numbers)))
    (l_are_numbers : K.lookup f_are_numbers = some ⟨oc_are_numbers, od_are_numbers, .func (PySem.W.fnOf "are_numbers" "are_numbers" (defArgs s_are_numbers) (defBody s_are_numbers) (defScope s_are_numbers) .none kV_are_numbers dc_are_numbers pm_are_numbers an_are_numbers cd_are_numbers ct_are_numbers), sl_are_numbers⟩)
    (c_are_numbers : PySem.W.codeIn K cd_are_numbers "are_numbers" = true)
    (k_are_numbers : PySem.W.keepIn K (.ref f_are_numbers) = true)
    (a_Share___init__ : PySem.W.findIn K (.ref C_Share) "__init__" = some (some (.ref f_Share___init__)))
    (i_Share___init__ : PySem.W.isFn K (.ref f_Share___init__) = true)
    (l_Share___init__ : K.lookup f_Share___init__ = some ⟨oc_Share___init__, od_Share___init__, .func (PySem.W.fnOf "__init__" "Share.__init__" (defArgs s_Share___init__) (defBody s_Share___init__) (defScope s_Share___init__) .none kV_Share___init__ dc_Share___init__ pm_Share___init__ an_Share___init__ cd_Share___init__ ct_Share___init__), sl_Share___init__⟩)
    (c_Share___init__ : PySem.W.codeIn K cd_Share___init__ "Share.__init__" = true)
    (k_Share___init__ : PySem.W.keepIn K (.ref f_Share___init__) = true)
    (a_Share_is_below : PySem.W.findIn K (.ref C_Share) "is_below" = some (some (.ref f_Share_is_below)))
    (i_Share_is_below : PySem.W.isFn K (.ref f_Share_is_below) = true)
    (l_Share_is_below : K.lookup f_Share_is_below = some ⟨oc_Share_is_below, od_Share_is_below, .func (PySem.W.fnOf "is_below" "Share.is_below" (defArgs s_Share_is_below) (defBody s_Share_is_below) (defScope s_Share_is_below) .none kV_Share_is_below dc_Share_is_below pm_Share_is_below an_Share_is_below cd_Share_is_below ct_Share_is_below), sl_Share_is_below⟩)
    (c_Share_is_below : PySem.W.codeIn K cd_Share_is_below "Share.is_below" = true)
    (k_Share_is_below : PySem.W.keepIn K (.ref f_Share_is_below) = true)
    (a_sum_of_halves : PySem.W.nsIn K mainGlobals "sum_of_halves" = some (some (.ref f_sum_of_halves)))
    (l_sum_of_halves : K.lookup f_sum_of_halves = some ⟨oc_sum_of_halves, od_sum_of_halves, .func (PySem.W.fnOf "sum_of_halves" "sum_of_halves" (defArgs s_sum_of_halves) (defBody s_sum_of_halves) (defScope s_sum_of_halves) .none kV_sum_of_halves dc_sum_of_halves pm_sum_of_halves an_sum_of_halves cd_sum_of_halves ct_sum_of_halves), sl_sum_of_halves⟩)
    (c_sum_of_halves : PySem.W.codeIn K cd_sum_of_halves "sum_of_halves" = true)
    (k_sum_of_halves : PySem.W.keepIn K (.ref f_sum_of_halves) = true)
    (a_is_word : PySem.W.nsIn K mainGlobals "is_word" = some (some (.ref f_is_word)))
    (l_is_word : K.lookup f_is_word = some ⟨oc_is_word, od_is_word, .func (PySem.W.fnOf "is_word" "is_word" (defArgs s_is_word) (defBody s_is_word) (defScope s_is_word) .none kV_is_word dc_is_word pm_is_word an_is_word cd_is_word ct_is_word), sl_is_word⟩)
    (c_is_word : PySem.W.codeIn K cd_is_word "is_word" = true)
    (k_is_word : PySem.W.keepIn K (.ref f_is_word) = true)
    (a_check_bit : PySem.W.nsIn K mainGlobals "check_bit" = some (some (.ref f_check_bit)))
    (l_check_bit : K.lookup f_check_bit = some ⟨oc_check_bit, od_check_bit, .func (PySem.W.fnOf "check_bit" "check_bit" (defArgs s_check_bit) (defBody s_check_bit) (defScope s_check_bit) .none kV_check_bit dc_check_bit pm_check_bit an_check_bit cd_check_bit ct_check_bit), sl_check_bit⟩)
    (c_check_bit : PySem.W.codeIn K cd_check_bit "check_bit" = true)
    (k_check_bit : PySem.W.keepIn K (.ref f_check_bit) = true)
    (a_check_rows : PySem.W.nsIn K mainGlobals "check_rows" = some (some (.ref f_check_rows)))
    (l_check_rows : K.lookup f_check_rows = some ⟨oc_check_rows, od_check_rows, .func (PySem.W.fnOf "check_rows" "check_rows" (defArgs s_check_rows) (defBody s_check_rows) (defScope s_check_rows) .none kV_check_rows dc_check_rows pm_check_rows an_check_rows cd_check_rows ct_check_rows), sl_check_rows⟩)
    (c_check_rows : PySem.W.codeIn K cd_check_rows "check_rows" = true)
    (k_check_rows : PySem.W.keepIn K (.ref f_check_rows) = true)
    (a_check_budgets : PySem.W.nsIn K mainGlobals "check_budgets" = some (some (.ref f_check_budgets)))
    (l_check_budgets : K.lookup f_check_budgets = some ⟨oc_check_budgets, od_check_budgets, .func (PySem.W.fnOf "check_budgets" "check_budgets" (defArgs s_check_budgets) (defBody s_check_budgets) (defScope s_check_budgets) .none kV_check_budgets dc_check_budgets pm_check_budgets an_check_budgets cd_check_budgets ct_check_budgets), sl_check_budgets⟩)
    (c_check_budgets : PySem.W.codeIn K cd_check_budgets "check_budgets" = true)
    (k_check_budgets : PySem.W.keepIn K (.ref f_check_budgets) = true)
    (a_check_budgets_of : PySem.W.nsIn K mainGlobals "check_budgets_of" = some (some (.ref f_check_budgets_of)))
    (l_check_budgets_of : K.lookup f_check_budgets_of = some ⟨oc_check_budgets_of, od_check_budgets_of, .func (PySem.W.fnOf "check_budgets_of" "check_budgets_of" (defArgs s_check_budgets_of) (defBody s_check_budgets_of) (defScope s_check_budgets_of) .none kV_check_budgets_of dc_check_budgets_of pm_check_budgets_of an_check_budgets_of cd_check_budgets_of ct_check_budgets_of), sl_check_budgets_of⟩)
    (c_check_budgets_of : PySem.W.codeIn K cd_check_budgets_of "check_budgets_of" = true)
    (k_check_budgets_of : PySem.W.keepIn K (.ref f_check_budgets_of) = true)
    (a_are_rows : PySem.W.nsIn K mainGlobals "_are_rows" = some (some (.ref f_are_rows)))
    (l_are_rows : K.lookup f_are_rows = some ⟨oc_are_rows, od_are_rows, .func (PySem.W.fnOf "_are_rows" "_are_rows" (defArgs s_are_rows) (defBody s_are_rows) (defScope s_are_rows) .none kV_are_rows dc_are_rows pm_are_rows an_are_rows cd_are_rows ct_are_rows), sl_are_rows⟩)
    (c_are_rows : PySem.W.codeIn K cd_are_rows "_are_rows" = true)
    (k_are_rows : PySem.W.keepIn K (.ref f_are_rows) = true)
    (a_can_keep : PySem.W.nsIn K mainGlobals "can_keep" = some (some (.ref f_can_keep)))
    (l_can_keep : K.lookup f_can_keep = some ⟨oc_can_keep, od_can_keep, .func (PySem.W.fnOf "can_keep" "can_keep" (defArgs s_can_keep) (defBody s_can_keep) (defScope s_can_keep) .none kV_can_keep dc_can_keep pm_can_keep an_can_keep cd_can_keep ct_can_keep), sl_can_keep⟩)
    (c_can_keep : PySem.W.codeIn K cd_can_keep "can_keep" = true)
    (k_can_keep : PySem.W.keepIn K (.ref f_can_keep) = true)
    (a_in_order : PySem.W.nsIn K mainGlobals "_in_order" = some (some (.ref f_in_order)))
    (l_in_order : K.lookup f_in_order = some ⟨oc_in_order, od_in_order, .func (PySem.W.fnOf "_in_order" "_in_order" (defArgs s_in_order) (defBody s_in_order) (defScope s_in_order) .none kV_in_order dc_in_order pm_in_order an_in_order cd_in_order ct_in_order), sl_in_order⟩)
    (c_in_order : PySem.W.codeIn K cd_in_order "_in_order" = true)
    (k_in_order : PySem.W.keepIn K (.ref f_in_order) = true)
    (a_with_less : PySem.W.nsIn K mainGlobals "_with_less" = some (some (.ref f_with_less)))
    (l_with_less : K.lookup f_with_less = some ⟨oc_with_less, od_with_less, .func (PySem.W.fnOf "_with_less" "_with_less" (defArgs s_with_less) (defBody s_with_less) (defScope s_with_less) .none kV_with_less dc_with_less pm_with_less an_with_less cd_with_less ct_with_less), sl_with_less⟩)
    (c_with_less : PySem.W.codeIn K cd_with_less "_with_less" = true)
    (k_with_less : PySem.W.keepIn K (.ref f_with_less) = true)
    (a_check_breakable : PySem.W.nsIn K mainGlobals "_check_breakable" = some (some (.ref f_check_breakable)))
    (l_check_breakable : K.lookup f_check_breakable = some ⟨oc_check_breakable, od_check_breakable, .func (PySem.W.fnOf "_check_breakable" "_check_breakable" (defArgs s_check_breakable) (defBody s_check_breakable) (defScope s_check_breakable) .none kV_check_breakable dc_check_breakable pm_check_breakable an_check_breakable cd_check_breakable ct_check_breakable), sl_check_breakable⟩)
    (c_check_breakable : PySem.W.codeIn K cd_check_breakable "_check_breakable" = true)
    (k_check_breakable : PySem.W.keepIn K (.ref f_check_breakable) = true)
    (a_broken_on : PySem.W.nsIn K mainGlobals "_broken_on" = some (some (.ref f_broken_on)))
    (l_broken_on : K.lookup f_broken_on = some ⟨oc_broken_on, od_broken_on, .func (PySem.W.fnOf "_broken_on" "_broken_on" (defArgs s_broken_on) (defBody s_broken_on) (defScope s_broken_on) .none kV_broken_on dc_broken_on pm_broken_on an_broken_on cd_broken_on ct_broken_on), sl_broken_on⟩)
    (c_broken_on : PySem.W.codeIn K cd_broken_on "_broken_on" = true)
    (k_broken_on : PySem.W.keepIn K (.ref f_broken_on) = true)
    (a_sides_of : PySem.W.nsIn K mainGlobals "_sides_of" = some (some (.ref f_sides_of)))
    (l_sides_of : K.lookup f_sides_of = some ⟨oc_sides_of, od_sides_of, .func (PySem.W.fnOf "_sides_of" "_sides_of" (defArgs s_sides_of) (defBody s_sides_of) (defScope s_sides_of) .none kV_sides_of dc_sides_of pm_sides_of an_sides_of cd_sides_of ct_sides_of), sl_sides_of⟩)
    (c_sides_of : PySem.W.codeIn K cd_sides_of "_sides_of" = true)
    (k_sides_of : PySem.W.keepIn K (.ref f_sides_of) = true)
    (a_hear : PySem.W.nsIn K mainGlobals "hear" = some (some (.ref f_hear)))
    (l_hear : K.lookup f_hear = some ⟨oc_hear, od_hear, .func (PySem.W.fnOf "hear" "hear" (defArgs s_hear) (defBody s_hear) (defScope s_hear) .none kV_hear dc_hear pm_hear an_hear cd_hear ct_hear), sl_hear⟩)
    (c_hear : PySem.W.codeIn K cd_hear "hear" = true)
    (k_hear : PySem.W.keepIn K (.ref f_hear) = true)
    (a_Writers___init__ : PySem.W.findIn K (.ref C_Writers) "__init__" = some (some (.ref f_Writers___init__)))
    (i_Writers___init__ : PySem.W.isFn K (.ref f_Writers___init__) = true)
    (l_Writers___init__ : K.lookup f_Writers___init__ = some ⟨oc_Writers___init__, od_Writers___init__, .func (PySem.W.fnOf "__init__" "Writers.__init__" (defArgs s_Writers___init__) (defBody s_Writers___init__) (defScope s_Writers___init__) .none kV_Writers___init__ dc_Writers___init__ pm_Writers___init__ an_Writers___init__ cd_Writers___init__ ct_Writers___init__), sl_Writers___init__⟩)
    (c_Writers___init__ : PySem.W.codeIn K cd_Writers___init__ "Writers.__init__" = true)
    (k_Writers___init__ : PySem.W.keepIn K (.ref f_Writers___init__) = true)
    (a_Writers_flips_left : PySem.W.findIn K (.ref C_Writers) "flips_left" = some (some (.ref f_Writers_flips_left)))
    (i_Writers_flips_left : PySem.W.isFn K (.ref f_Writers_flips_left) = true)
    (l_Writers_flips_left : K.lookup f_Writers_flips_left = some ⟨oc_Writers_flips_left, od_Writers_flips_left, .func (PySem.W.fnOf "flips_left" "Writers.flips_left" (defArgs s_Writers_flips_left) (defBody s_Writers_flips_left) (defScope s_Writers_flips_left) .none kV_Writers_flips_left dc_Writers_flips_left pm_Writers_flips_left an_Writers_flips_left cd_Writers_flips_left ct_Writers_flips_left), sl_Writers_flips_left⟩)
    (c_Writers_flips_left : PySem.W.codeIn K cd_Writers_flips_left "Writers.flips_left" = true)
    (k_Writers_flips_left : PySem.W.keepIn K (.ref f_Writers_flips_left) = true)
    (a_Writers_living_at : PySem.W.findIn K (.ref C_Writers) "living_at" = some (some (.ref f_Writers_living_at)))
    (i_Writers_living_at : PySem.W.isFn K (.ref f_Writers_living_at) = true)
    (l_Writers_living_at : K.lookup f_Writers_living_at = some ⟨oc_Writers_living_at, od_Writers_living_at, .func (PySem.W.fnOf "living_at" "Writers.living_at" (defArgs s_Writers_living_at) (defBody s_Writers_living_at) (defScope s_Writers_living_at) .none kV_Writers_living_at dc_Writers_living_at pm_Writers_living_at an_Writers_living_at cd_Writers_living_at ct_Writers_living_at), sl_Writers_living_at⟩)
    (c_Writers_living_at : PySem.W.codeIn K cd_Writers_living_at "Writers.living_at" = true)
    (k_Writers_living_at : PySem.W.keepIn K (.ref f_Writers_living_at) = true)
    (a_without_flips : PySem.W.nsIn K mainGlobals "without_flips" = some (some (.ref f_without_flips)))
    (l_without_flips : K.lookup f_without_flips = some ⟨oc_without_flips, od_without_flips, .func (PySem.W.fnOf "without_flips" "without_flips" (defArgs s_without_flips) (defBody s_without_flips) (defScope s_without_flips) .none kV_without_flips dc_without_flips pm_without_flips an_without_flips cd_without_flips ct_without_flips), sl_without_flips⟩)
    (c_without_flips : PySem.W.codeIn K cd_without_flips "without_flips" = true)
    (k_without_flips : PySem.W.keepIn K (.ref f_without_flips) = true)
    (a_Keeper___init__ : PySem.W.findIn K (.ref C_Keeper) "__init__" = some (some (.ref f_Keeper___init__)))
    (i_Keeper___init__ : PySem.W.isFn K (.ref f_Keeper___init__) = true)
    (l_Keeper___init__ : K.lookup f_Keeper___init__ = some ⟨oc_Keeper___init__, od_Keeper___init__, .func (PySem.W.fnOf "__init__" "Keeper.__init__" (defArgs s_Keeper___init__) (defBody s_Keeper___init__) (defScope s_Keeper___init__) .none kV_Keeper___init__ dc_Keeper___init__ pm_Keeper___init__ an_Keeper___init__ cd_Keeper___init__ ct_Keeper___init__), sl_Keeper___init__⟩)
    (c_Keeper___init__ : PySem.W.codeIn K cd_Keeper___init__ "Keeper.__init__" = true)
    (k_Keeper___init__ : PySem.W.keepIn K (.ref f_Keeper___init__) = true)
    (a_Keeper_guess : PySem.W.findIn K (.ref C_Keeper) "guess" = some (some (.ref f_Keeper_guess)))
    (i_Keeper_guess : PySem.W.isFn K (.ref f_Keeper_guess) = true)
    (l_Keeper_guess : K.lookup f_Keeper_guess = some ⟨oc_Keeper_guess, od_Keeper_guess, .func (PySem.W.fnOf "guess" "Keeper.guess" (defArgs s_Keeper_guess) (defBody s_Keeper_guess) (defScope s_Keeper_guess) .none kV_Keeper_guess dc_Keeper_guess pm_Keeper_guess an_Keeper_guess cd_Keeper_guess ct_Keeper_guess), sl_Keeper_guess⟩)
    (c_Keeper_guess : PySem.W.codeIn K cd_Keeper_guess "Keeper.guess" = true)
    (k_Keeper_guess : PySem.W.keepIn K (.ref f_Keeper_guess) = true)
    (a_Keeper_tell : PySem.W.findIn K (.ref C_Keeper) "tell" = some (some (.ref f_Keeper_tell)))
    (i_Keeper_tell : PySem.W.isFn K (.ref f_Keeper_tell) = true)
    (l_Keeper_tell : K.lookup f_Keeper_tell = some ⟨oc_Keeper_tell, od_Keeper_tell, .func (PySem.W.fnOf "tell" "Keeper.tell" (defArgs s_Keeper_tell) (defBody s_Keeper_tell) (defScope s_Keeper_tell) .none kV_Keeper_tell dc_Keeper_tell pm_Keeper_tell an_Keeper_tell cd_Keeper_tell ct_Keeper_tell), sl_Keeper_tell⟩)
    (c_Keeper_tell : PySem.W.codeIn K cd_Keeper_tell "Keeper.tell" = true)
    (k_Keeper_tell : PySem.W.keepIn K (.ref f_Keeper_tell) = true)
    (a_Keeper_living : PySem.W.findIn K (.ref C_Keeper) "living" = some (some (.ref f_Keeper_living)))
    (i_Keeper_living : PySem.W.isFn K (.ref f_Keeper_living) = true)
    (l_Keeper_living : K.lookup f_Keeper_living = some ⟨oc_Keeper_living, od_Keeper_living, .func (PySem.W.fnOf "living" "Keeper.living" (defArgs s_Keeper_living) (defBody s_Keeper_living) (defScope s_Keeper_living) .none kV_Keeper_living dc_Keeper_living pm_Keeper_living an_Keeper_living cd_Keeper_living ct_Keeper_living), sl_Keeper_living⟩)
    (c_Keeper_living : PySem.W.codeIn K cd_Keeper_living "Keeper.living" = true)
    (k_Keeper_living : PySem.W.keepIn K (.ref f_Keeper_living) = true)
    (a_Keeper__weight_of : PySem.W.findIn K (.ref C_Keeper) "_weight_of" = some (some (.ref f_Keeper__weight_of)))
    (i_Keeper__weight_of : PySem.W.isFn K (.ref f_Keeper__weight_of) = true)
    (l_Keeper__weight_of : K.lookup f_Keeper__weight_of = some ⟨oc_Keeper__weight_of, od_Keeper__weight_of, .func (PySem.W.fnOf "_weight_of" "Keeper._weight_of" (defArgs s_Keeper__weight_of) (defBody s_Keeper__weight_of) (defScope s_Keeper__weight_of) .none kV_Keeper__weight_of dc_Keeper__weight_of pm_Keeper__weight_of an_Keeper__weight_of cd_Keeper__weight_of ct_Keeper__weight_of), sl_Keeper__weight_of⟩)
    (c_Keeper__weight_of : PySem.W.codeIn K cd_Keeper__weight_of "Keeper._weight_of" = true)
    (k_Keeper__weight_of : PySem.W.keepIn K (.ref f_Keeper__weight_of) = true)
    (a_Breaker___init__ : PySem.W.findIn K (.ref C_Breaker) "__init__" = some (some (.ref f_Breaker___init__)))
    (i_Breaker___init__ : PySem.W.isFn K (.ref f_Breaker___init__) = true)
    (l_Breaker___init__ : K.lookup f_Breaker___init__ = some ⟨oc_Breaker___init__, od_Breaker___init__, .func (PySem.W.fnOf "__init__" "Breaker.__init__" (defArgs s_Breaker___init__) (defBody s_Breaker___init__) (defScope s_Breaker___init__) .none kV_Breaker___init__ dc_Breaker___init__ pm_Breaker___init__ an_Breaker___init__ cd_Breaker___init__ ct_Breaker___init__), sl_Breaker___init__⟩)
    (c_Breaker___init__ : PySem.W.codeIn K cd_Breaker___init__ "Breaker.__init__" = true)
    (k_Breaker___init__ : PySem.W.keepIn K (.ref f_Breaker___init__) = true)
    (a_Breaker_answer : PySem.W.findIn K (.ref C_Breaker) "answer" = some (some (.ref f_Breaker_answer)))
    (i_Breaker_answer : PySem.W.isFn K (.ref f_Breaker_answer) = true)
    (l_Breaker_answer : K.lookup f_Breaker_answer = some ⟨oc_Breaker_answer, od_Breaker_answer, .func (PySem.W.fnOf "answer" "Breaker.answer" (defArgs s_Breaker_answer) (defBody s_Breaker_answer) (defScope s_Breaker_answer) .none kV_Breaker_answer dc_Breaker_answer pm_Breaker_answer an_Breaker_answer cd_Breaker_answer ct_Breaker_answer), sl_Breaker_answer⟩)
    (c_Breaker_answer : PySem.W.codeIn K cd_Breaker_answer "Breaker.answer" = true)
    (k_Breaker_answer : PySem.W.keepIn K (.ref f_Breaker_answer) = true)
    (a_law_tape : PySem.W.nsIn K mainGlobals "_law_tape" = some (some (.ref f_law_tape)))
    (l_law_tape : K.lookup f_law_tape = some ⟨oc_law_tape, od_law_tape, .func (PySem.W.fnOf "_law_tape" "_law_tape" (defArgs s_law_tape) (defBody s_law_tape) (defScope s_law_tape) .none kV_law_tape dc_law_tape pm_law_tape an_law_tape cd_law_tape ct_law_tape), sl_law_tape⟩)
    (c_law_tape : PySem.W.codeIn K cd_law_tape "_law_tape" = true)
    (k_law_tape : PySem.W.keepIn K (.ref f_law_tape) = true)
    (a_law_draw : PySem.W.nsIn K mainGlobals "_law_draw" = some (some (.ref f_law_draw)))
    (l_law_draw : K.lookup f_law_draw = some ⟨oc_law_draw, od_law_draw, .func (PySem.W.fnOf "_law_draw" "_law_draw" (defArgs s_law_draw) (defBody s_law_draw) (defScope s_law_draw) .none kV_law_draw dc_law_draw pm_law_draw an_law_draw cd_law_draw ct_law_draw), sl_law_draw⟩)
    (c_law_draw : PySem.W.codeIn K cd_law_draw "_law_draw" = true)
    (k_law_draw : PySem.W.keepIn K (.ref f_law_draw) = true)
    (a_law_bits : PySem.W.nsIn K mainGlobals "_law_bits" = some (some (.ref f_law_bits)))
    (l_law_bits : K.lookup f_law_bits = some ⟨oc_law_bits, od_law_bits, .func (PySem.W.fnOf "_law_bits" "_law_bits" (defArgs s_law_bits) (defBody s_law_bits) (defScope s_law_bits) .none kV_law_bits dc_law_bits pm_law_bits an_law_bits cd_law_bits ct_law_bits), sl_law_bits⟩)
    (c_law_bits : PySem.W.codeIn K cd_law_bits "_law_bits" = true)
    (k_law_bits : PySem.W.keepIn K (.ref f_law_bits) = true)
    (a_law_below : PySem.W.nsIn K mainGlobals "_law_below" = some (some (.ref f_law_below)))
    (l_law_below : K.lookup f_law_below = some ⟨oc_law_below, od_law_below, .func (PySem.W.fnOf "_law_below" "_law_below" (defArgs s_law_below) (defBody s_law_below) (defScope s_law_below) .none kV_law_below dc_law_below pm_law_below an_law_below cd_law_below ct_law_below), sl_law_below⟩)
    (c_law_below : PySem.W.codeIn K cd_law_below "_law_below" = true)
    (k_law_below : PySem.W.keepIn K (.ref f_law_below) = true)
    (a_law_string : PySem.W.nsIn K mainGlobals "_law_string" = some (some (.ref f_law_string)))
    (l_law_string : K.lookup f_law_string = some ⟨oc_law_string, od_law_string, .func (PySem.W.fnOf "_law_string" "_law_string" (defArgs s_law_string) (defBody s_law_string) (defScope s_law_string) .none kV_law_string dc_law_string pm_law_string an_law_string cd_law_string ct_law_string), sl_law_string⟩)
    (c_law_string : PySem.W.codeIn K cd_law_string "_law_string" = true)
    (k_law_string : PySem.W.keepIn K (.ref f_law_string) = true)
    (a_law_stranger : PySem.W.nsIn K mainGlobals "_law_stranger" = some (some (.ref f_law_stranger)))
    (l_law_stranger : K.lookup f_law_stranger = some ⟨oc_law_stranger, od_law_stranger, .func (PySem.W.fnOf "_law_stranger" "_law_stranger" (defArgs s_law_stranger) (defBody s_law_stranger) (defScope s_law_stranger) .none kV_law_stranger dc_law_stranger pm_law_stranger an_law_stranger cd_law_stranger ct_law_stranger), sl_law_stranger⟩)
    (c_law_stranger : PySem.W.codeIn K cd_law_stranger "_law_stranger" = true)
    (k_law_stranger : PySem.W.keepIn K (.ref f_law_stranger) = true)
    (a_law_copy : PySem.W.nsIn K mainGlobals "_law_copy" = some (some (.ref f_law_copy)))
    (l_law_copy : K.lookup f_law_copy = some ⟨oc_law_copy, od_law_copy, .func (PySem.W.fnOf "_law_copy" "_law_copy" (defArgs s_law_copy) (defBody s_law_copy) (defScope s_law_copy) .none kV_law_copy dc_law_copy pm_law_copy an_law_copy cd_law_copy ct_law_copy), sl_law_copy⟩)
    (c_law_copy : PySem.W.codeIn K cd_law_copy "_law_copy" = true)
    (k_law_copy : PySem.W.keepIn K (.ref f_law_copy) = true)
    (a_law_same : PySem.W.nsIn K mainGlobals "_law_same" = some (some (.ref f_law_same)))
    (l_law_same : K.lookup f_law_same = some ⟨oc_law_same, od_law_same, .func (PySem.W.fnOf "_law_same" "_law_same" (defArgs s_law_same) (defBody s_law_same) (defScope s_law_same) .none kV_law_same dc_law_same pm_law_same an_law_same cd_law_same ct_law_same), sl_law_same⟩)
    (c_law_same : PySem.W.codeIn K cd_law_same "_law_same" = true)
    (k_law_same : PySem.W.keepIn K (.ref f_law_same) = true)
    (a_law_is_word : PySem.W.nsIn K mainGlobals "_law_is_word" = some (some (.ref f_law_is_word)))
    (l_law_is_word : K.lookup f_law_is_word = some ⟨oc_law_is_word, od_law_is_word, .func (PySem.W.fnOf "_law_is_word" "_law_is_word" (defArgs s_law_is_word) (defBody s_law_is_word) (defScope s_law_is_word) .none kV_law_is_word dc_law_is_word pm_law_is_word an_law_is_word cd_law_is_word ct_law_is_word), sl_law_is_word⟩)
    (c_law_is_word : PySem.W.codeIn K cd_law_is_word "_law_is_word" = true)
    (k_law_is_word : PySem.W.keepIn K (.ref f_law_is_word) = true)
    (a_law_are_rows : PySem.W.nsIn K mainGlobals "_law_are_rows" = some (some (.ref f_law_are_rows)))
    (l_law_are_rows : K.lookup f_law_are_rows = some ⟨oc_law_are_rows, od_law_are_rows, .func (PySem.W.fnOf "_law_are_rows" "_law_are_rows" (defArgs s_law_are_rows) (defBody s_law_are_rows) (defScope s_law_are_rows) .none kV_law_are_rows dc_law_are_rows pm_law_are_rows an_law_are_rows cd_law_are_rows ct_law_are_rows), sl_law_are_rows⟩)
    (c_law_are_rows : PySem.W.codeIn K cd_law_are_rows "_law_are_rows" = true)
    (k_law_are_rows : PySem.W.keepIn K (.ref f_law_are_rows) = true)
    (a_law_are_budgets : PySem.W.nsIn K mainGlobals "_law_are_budgets" = some (some (.ref f_law_are_budgets)))
    (l_law_are_budgets : K.lookup f_law_are_budgets = some ⟨oc_law_are_budgets, od_law_are_budgets, .func (PySem.W.fnOf "_law_are_budgets" "_law_are_budgets" (defArgs s_law_are_budgets) (defBody s_law_are_budgets) (defScope s_law_are_budgets) .none kV_law_are_budgets dc_law_are_budgets pm_law_are_budgets an_law_are_budgets cd_law_are_budgets ct_law_are_budgets), sl_law_are_budgets⟩)
    (c_law_are_budgets : PySem.W.codeIn K cd_law_are_budgets "_law_are_budgets" = true)
    (k_law_are_budgets : PySem.W.keepIn K (.ref f_law_are_budgets) = true)
    (a_law_told : PySem.W.nsIn K mainGlobals "_law_told" = some (some (.ref f_law_told)))
    (l_law_told : K.lookup f_law_told = some ⟨oc_law_told, od_law_told, .func (PySem.W.fnOf "_law_told" "_law_told" (defArgs s_law_told) (defBody s_law_told) (defScope s_law_told) .none kV_law_told dc_law_told pm_law_told an_law_told cd_law_told ct_law_told), sl_law_told⟩)
    (c_law_told : PySem.W.codeIn K cd_law_told "_law_told" = true)
    (k_law_told : PySem.W.keepIn K (.ref f_law_told) = true)
    (a_law_right : PySem.W.nsIn K mainGlobals "_law_right" = some (some (.ref f_law_right)))
    (l_law_right : K.lookup f_law_right = some ⟨oc_law_right, od_law_right, .func (PySem.W.fnOf "_law_right" "_law_right" (defArgs s_law_right) (defBody s_law_right) (defScope s_law_right) .none kV_law_right dc_law_right pm_law_right an_law_right cd_law_right ct_law_right), sl_law_right⟩)
    (c_law_right : PySem.W.codeIn K cd_law_right "_law_right" = true)
    (k_law_right : PySem.W.keepIn K (.ref f_law_right) = true)
    (a_law_put : PySem.W.nsIn K mainGlobals "_law_put" = some (some (.ref f_law_put)))
    (l_law_put : K.lookup f_law_put = some ⟨oc_law_put, od_law_put, .func (PySem.W.fnOf "_law_put" "_law_put" (defArgs s_law_put) (defBody s_law_put) (defScope s_law_put) .none kV_law_put dc_law_put pm_law_put an_law_put cd_law_put ct_law_put), sl_law_put⟩)
    (c_law_put : PySem.W.codeIn K cd_law_put "_law_put" = true)
    (k_law_put : PySem.W.keepIn K (.ref f_law_put) = true)
    (a_law_spoilt_rows : PySem.W.nsIn K mainGlobals "_law_spoilt_rows" = some (some (.ref f_law_spoilt_rows)))
    (l_law_spoilt_rows : K.lookup f_law_spoilt_rows = some ⟨oc_law_spoilt_rows, od_law_spoilt_rows, .func (PySem.W.fnOf "_law_spoilt_rows" "_law_spoilt_rows" (defArgs s_law_spoilt_rows) (defBody s_law_spoilt_rows) (defScope s_law_spoilt_rows) .none kV_law_spoilt_rows dc_law_spoilt_rows pm_law_spoilt_rows an_law_spoilt_rows cd_law_spoilt_rows ct_law_spoilt_rows), sl_law_spoilt_rows⟩)
    (c_law_spoilt_rows : PySem.W.codeIn K cd_law_spoilt_rows "_law_spoilt_rows" = true)
    (k_law_spoilt_rows : PySem.W.keepIn K (.ref f_law_spoilt_rows) = true)
    (a_law_spoilt_budgets : PySem.W.nsIn K mainGlobals "_law_spoilt_budgets" = some (some (.ref f_law_spoilt_budgets)))
    (l_law_spoilt_budgets : K.lookup f_law_spoilt_budgets = some ⟨oc_law_spoilt_budgets, od_law_spoilt_budgets, .func (PySem.W.fnOf "_law_spoilt_budgets" "_law_spoilt_budgets" (defArgs s_law_spoilt_budgets) (defBody s_law_spoilt_budgets) (defScope s_law_spoilt_budgets) .none kV_law_spoilt_budgets dc_law_spoilt_budgets pm_law_spoilt_budgets an_law_spoilt_budgets cd_law_spoilt_budgets ct_law_spoilt_budgets), sl_law_spoilt_budgets⟩)
    (c_law_spoilt_budgets : PySem.W.codeIn K cd_law_spoilt_budgets "_law_spoilt_budgets" = true)
    (k_law_spoilt_budgets : PySem.W.keepIn K (.ref f_law_spoilt_budgets) = true)
    (a_law_tell_refused : PySem.W.nsIn K mainGlobals "_law_tell_refused" = some (some (.ref f_law_tell_refused)))
    (l_law_tell_refused : K.lookup f_law_tell_refused = some ⟨oc_law_tell_refused, od_law_tell_refused, .func (PySem.W.fnOf "_law_tell_refused" "_law_tell_refused" (defArgs s_law_tell_refused) (defBody s_law_tell_refused) (defScope s_law_tell_refused) .none kV_law_tell_refused dc_law_tell_refused pm_law_tell_refused an_law_tell_refused cd_law_tell_refused ct_law_tell_refused), sl_law_tell_refused⟩)
    (c_law_tell_refused : PySem.W.codeIn K cd_law_tell_refused "_law_tell_refused" = true)
    (k_law_tell_refused : PySem.W.keepIn K (.ref f_law_tell_refused) = true)
    (a_law_answer_refused : PySem.W.nsIn K mainGlobals "_law_answer_refused" = some (some (.ref f_law_answer_refused)))
    (l_law_answer_refused : K.lookup f_law_answer_refused = some ⟨oc_law_answer_refused, od_law_answer_refused, .func (PySem.W.fnOf "_law_answer_refused" "_law_answer_refused" (defArgs s_law_answer_refused) (defBody s_law_answer_refused) (defScope s_law_answer_refused) .none kV_law_answer_refused dc_law_answer_refused pm_law_answer_refused an_law_answer_refused cd_law_answer_refused ct_law_answer_refused), sl_law_answer_refused⟩)
    (c_law_answer_refused : PySem.W.codeIn K cd_law_answer_refused "_law_answer_refused" = true)
    (k_law_answer_refused : PySem.W.keepIn K (.ref f_law_answer_refused) = true)
    (a_law_bits_right : PySem.W.nsIn K mainGlobals "_law_bits_right" = some (some (.ref f_law_bits_right)))
    (l_law_bits_right : K.lookup f_law_bits_right = some ⟨oc_law_bits_right, od_law_bits_right, .func (PySem.W.fnOf "_law_bits_right" "_law_bits_right" (defArgs s_law_bits_right) (defBody s_law_bits_right) (defScope s_law_bits_right) .none kV_law_bits_right dc_law_bits_right pm_law_bits_right an_law_bits_right cd_law_bits_right ct_law_bits_right), sl_law_bits_right⟩)
    (c_law_bits_right : PySem.W.codeIn K cd_law_bits_right "_law_bits_right" = true)
    (k_law_bits_right : PySem.W.keepIn K (.ref f_law_bits_right) = true)
    (a_law_asks : PySem.W.nsIn K mainGlobals "_law_asks" = some (some (.ref f_law_asks)))
    (l_law_asks : K.lookup f_law_asks = some ⟨oc_law_asks, od_law_asks, .func (PySem.W.fnOf "_law_asks" "_law_asks" (defArgs s_law_asks) (defBody s_law_asks) (defScope s_law_asks) .none kV_law_asks dc_law_asks pm_law_asks an_law_asks cd_law_asks ct_law_asks), sl_law_asks⟩)
    (c_law_asks : PySem.W.codeIn K cd_law_asks "_law_asks" = true)
    (k_law_asks : PySem.W.keepIn K (.ref f_law_asks) = true)
    (a_law : PySem.W.nsIn K mainGlobals "law" = some (some (.ref f_law)))
    (l_law : K.lookup f_law = some ⟨oc_law, od_law, .func (PySem.W.fnOf "law" "law" (defArgs s_law) (defBody s_law) (defScope s_law) .none kV_law dc_law pm_law an_law cd_law ct_law), sl_law⟩)
    (c_law : PySem.W.codeIn K cd_law "law" = true)
    (k_law : PySem.W.keepIn K (.ref f_law) = true)
    (z_super : PySem.W.nsIn K mainGlobals "super" = some none)
    (z_isinstance : PySem.W.nsIn K mainGlobals "isinstance" = some none)
    (z_int : PySem.W.nsIn K mainGlobals "int" = some none)
    (z_bool : PySem.W.nsIn K mainGlobals "bool" = some none)
    (z_tuple : PySem.W.nsIn K mainGlobals "tuple" = some none)
    (z_list : PySem.W.nsIn K mainGlobals "list" = some none)
    (z_all : PySem.W.nsIn K mainGlobals "all" = some none)
    (z_max : PySem.W.nsIn K mainGlobals "max" = some none)
    (z_sum : PySem.W.nsIn K mainGlobals "sum" = some none)
    (z_str : PySem.W.nsIn K mainGlobals "str" = some none)
    (z_len : PySem.W.nsIn K mainGlobals "len" = some none)
    (z_enumerate : PySem.W.nsIn K mainGlobals "enumerate" = some none)
    (z_sorted : PySem.W.nsIn K mainGlobals "sorted" = some none)
    (z_min : PySem.W.nsIn K mainGlobals "min" = some none)
    (z_zip : PySem.W.nsIn K mainGlobals "zip" = some none)
    (z_range : PySem.W.nsIn K mainGlobals "range" = some none)
    (z_abs : PySem.W.nsIn K mainGlobals "abs" = some none)
    (sPg : PySem.W.plainGet K C_Share Str.empty = true)
    (sHd : PySem.W.hasDictIn K C_Share = true)
    (sPo : PySem.W.plainOver K C_Share = true)
    (sSa : PySem.W.findIn K (.ref C_Share) "__setattr__" = some (some (.builtin "object.__setattr__")))
    (sHa : PySem.W.findIn K (.ref C_Share) "__class__" = some (some (.builtin "object.__class__")))
    (cHn : PySem.W.specialIn K (.builtin "object.__class__") "__get__" = some (some (.builtin "getset_descriptor.__get__")))
    (cTk : PySem.W.takesIn K (.builtin "object.__class__") = some true)
    (sHm : PySem.W.mroIn K C_Share (.type "object") = some true)
    (sCl : PySem.W.isClsIn K C_Share = true)
    (sTy : PySem.W.typeIn K (.ref C_Share) = some (.type "type"))
    (sNo : PySem.W.findIn K (.ref C_Share) "over" = some none)
    (sNu : PySem.W.findIn K (.ref C_Share) "under" = some none)
    (sFi : PySem.W.selfFirst K C_Share = true)
    (sNe : PySem.W.findIn K (.ref C_Share) "__ne__" = some (some (.builtin "object.__ne__")))
    (sNf : PySem.W.notFirst K C_Share (.ref C_Share) = true)
    (sMk : PySem.W.makesIn K C_Share = true)
    (sKc : PySem.W.keepIn K (.ref C_Share) = true)
    (writersPg : PySem.W.plainGet K C_Writers Str.empty = true)
    (writersHd : PySem.W.hasDictIn K C_Writers = true)
    (writersPo : PySem.W.plainOver K C_Writers = true)
    (writersSa : PySem.W.findIn K (.ref C_Writers) "__setattr__" = some (some (.builtin "object.__setattr__")))
    (writersHa : PySem.W.findIn K (.ref C_Writers) "__class__" = some (some (.builtin "object.__class__")))
    (writersHm : PySem.W.mroIn K C_Writers (.type "object") = some true)
    (writersMk : PySem.W.makesIn K C_Writers = true)
    (writersKc : PySem.W.keepIn K (.ref C_Writers) = true)
    (writersN_rows : PySem.W.findIn K (.ref C_Writers) "rows" = some none)
    (writersN_flips : PySem.W.findIn K (.ref C_Writers) "flips" = some none)
    (writersN_length : PySem.W.findIn K (.ref C_Writers) "length" = some none)
    (keeperPg : PySem.W.plainGet K C_Keeper Str.empty = true)
    (keeperHd : PySem.W.hasDictIn K C_Keeper = true)
    (keeperPo : PySem.W.plainOver K C_Keeper = true)
    (keeperSa : PySem.W.findIn K (.ref C_Keeper) "__setattr__" = some (some (.builtin "object.__setattr__")))
    (keeperHa : PySem.W.findIn K (.ref C_Keeper) "__class__" = some (some (.builtin "object.__class__")))
    (keeperHm : PySem.W.mroIn K C_Keeper (.type "object") = some true)
    (keeperMk : PySem.W.makesIn K C_Keeper = true)
    (keeperKc : PySem.W.keepIn K (.ref C_Keeper) = true)
    (keeperN_seen : PySem.W.findIn K (.ref C_Keeper) "seen" = some none)
    (keeperN_errors : PySem.W.findIn K (.ref C_Keeper) "errors" = some none)
    (keeperN__writers : PySem.W.findIn K (.ref C_Keeper) "_writers" = some none)
    (keeperN__budgets : PySem.W.findIn K (.ref C_Keeper) "_budgets" = some none)
    (breakerPg : PySem.W.plainGet K C_Breaker Str.empty = true)
    (breakerHd : PySem.W.hasDictIn K C_Breaker = true)
    (breakerPo : PySem.W.plainOver K C_Breaker = true)
    (breakerSa : PySem.W.findIn K (.ref C_Breaker) "__setattr__" = some (some (.builtin "object.__setattr__")))
    (breakerHa : PySem.W.findIn K (.ref C_Breaker) "__class__" = some (some (.builtin "object.__class__")))
    (breakerHm : PySem.W.mroIn K C_Breaker (.type "object") = some true)
    (breakerMk : PySem.W.makesIn K C_Breaker = true)
    (breakerKc : PySem.W.keepIn K (.ref C_Breaker) = true)
    (breakerN_broken : PySem.W.findIn K (.ref C_Breaker) "broken" = some none)
    (breakerN_row : PySem.W.findIn K (.ref C_Breaker) "row" = some none)
    (breakerN__living : PySem.W.findIn K (.ref C_Breaker) "_living" = some none)
    (xno : PySem.W.subIn K (.ref C_InvalidBudgets) (.ref C_InvalidRows) = some false)
    : ∃ fd : FuncData, (∀ (s : Shared) (v : Value), BindsTo s fd ⟨[v], []⟩ [("script", v)]) ∧ ∀ base : Heap, K.In base → base.Ns mainGlobals mg → FnOk l.prog w K mg base CX0 11 fa fd ["script"] (spLaw K) := by
  have e := hfa.symm.trans (PySem.W.mg_of X G a_law)
  cases e
  have T : Txt K mg C_Share C_Writers C_Keeper C_Breaker := ⟨PySem.W.mg_none_of X G z_super, PySem.W.mg_none_of X G z_isinstance, PySem.W.mg_none_of X G z_int, PySem.W.mg_none_of X G z_bool, PySem.W.mg_none_of X G z_tuple, PySem.W.mg_none_of X G z_list, PySem.W.mg_none_of X G z_all, PySem.W.mg_none_of X G z_max, PySem.W.mg_none_of X G z_sum, PySem.W.mg_none_of X G z_str, PySem.W.mg_none_of X G z_len, PySem.W.mg_none_of X G z_enumerate, PySem.W.mg_none_of X G z_sorted, PySem.W.mg_none_of X G z_min, PySem.W.mg_none_of X G z_zip, PySem.W.mg_none_of X G z_range, PySem.W.mg_none_of X G z_abs, PySem.W.mg_of X G aG, PySem.W.mg_of X G aC_Share⟩
  have x_InvalidNumber : XErr l.prog K mg "InvalidNumber" C_InvalidNumber ["number"] := ⟨"InvalidNumber.__init__", f_InvalidNumber, s_InvalidNumber___init__, ⟨PySem.W.mg_of X G xgC_InvalidNumber, ⟨_, _, _, _, _, _, _, _, _, _, _, _, _, _, _, xxL_InvalidNumber, by rfl⟩, xsa_InvalidNumber, xga_InvalidNumber, xgg_InvalidNumber, xiC_InvalidNumber, xtI_InvalidNumber, xkC_InvalidNumber, xeC_InvalidNumber, xvC_InvalidNumber, xse_InvalidNumber, xtC_InvalidNumber, xhC_InvalidNumber, exm_own xeC_InvalidNumber xcC_InvalidNumber xtC_InvalidNumber xsC_InvalidNumber, xup_InvalidNumber, PySem.W.mg_none_of X G xsu, xop, xtp, _, _, _, _, _, _, _, _, _, _, _, _, _, _, _, _, _, _, xlI_InvalidNumber, xcI_InvalidNumber, xcd_InvalidNumber, xfi_InvalidNumber, xff_InvalidNumber, xcc_InvalidNumber⟩, xb_InvalidNumber, by simpa using xn_InvalidNumber_number⟩
  have x_InvalidBudgets : XErr l.prog K mg "InvalidBudgets" C_InvalidBudgets ["budgets"] := ⟨"InvalidBudgets.__init__", f_InvalidBudgets, s_InvalidBudgets___init__, ⟨PySem.W.mg_of X G xgC_InvalidBudgets, ⟨_, _, _, _, _, _, _, _, _, _, _, _, _, _, _, xxL_InvalidBudgets, by rfl⟩, xsa_InvalidBudgets, xga_InvalidBudgets, xgg_InvalidBudgets, xiC_InvalidBudgets, xtI_InvalidBudgets, xkC_InvalidBudgets, xeC_InvalidBudgets, xvC_InvalidBudgets, xse_InvalidBudgets, xtC_InvalidBudgets, xhC_InvalidBudgets, exm_own xeC_InvalidBudgets xcC_InvalidBudgets xtC_InvalidBudgets xsC_InvalidBudgets, xup_InvalidBudgets, PySem.W.mg_none_of X G xsu, xop, xtp, _, _, _, _, _, _, _, _, _, _, _, _, _, _, _, _, _, _, xlI_InvalidBudgets, xcI_InvalidBudgets, xcd_InvalidBudgets, xfi_InvalidBudgets, xff_InvalidBudgets, xcc_InvalidBudgets⟩, xb_InvalidBudgets, by simpa using xn_InvalidBudgets_budgets⟩
  have x_InvalidRows : XErr l.prog K mg "InvalidRows" C_InvalidRows ["rows"] := ⟨"InvalidRows.__init__", f_InvalidRows, s_InvalidRows___init__, ⟨PySem.W.mg_of X G xgC_InvalidRows, ⟨_, _, _, _, _, _, _, _, _, _, _, _, _, _, _, xxL_InvalidRows, by rfl⟩, xsa_InvalidRows, xga_InvalidRows, xgg_InvalidRows, xiC_InvalidRows, xtI_InvalidRows, xkC_InvalidRows, xeC_InvalidRows, xvC_InvalidRows, xse_InvalidRows, xtC_InvalidRows, xhC_InvalidRows, exm_own xeC_InvalidRows xcC_InvalidRows xtC_InvalidRows xsC_InvalidRows, xup_InvalidRows, PySem.W.mg_none_of X G xsu, xop, xtp, _, _, _, _, _, _, _, _, _, _, _, _, _, _, _, _, _, _, xlI_InvalidRows, xcI_InvalidRows, xcd_InvalidRows, xfi_InvalidRows, xff_InvalidRows, xcc_InvalidRows⟩, xb_InvalidRows, by simpa using xn_InvalidRows_rows⟩
  have F_is_integer := fun_mk (x := "is_integer") (qual := "is_integer") (st := s_is_integer) l_is_integer c_is_integer k_is_integer
  have b_is_integer := F_is_integer.binds (ps := ["value"]) fun _ _ _ _ _ _ us hl => match us, hl with | [_], _ => rfl
  have F_is_number := fun_mk (x := "is_number") (qual := "is_number") (st := s_is_number) l_is_number c_is_number k_is_number
  have b_is_number := F_is_number.binds (ps := ["value"]) fun _ _ _ _ _ _ us hl => match us, hl with | [_], _ => rfl
  have F_is_bit := fun_mk (x := "is_bit") (qual := "is_bit") (st := s_is_bit) l_is_bit c_is_bit k_is_bit
  have b_is_bit := F_is_bit.binds (ps := ["value"]) fun _ _ _ _ _ _ us hl => match us, hl with | [_], _ => rfl
  have F_is_sequence := fun_mk (x := "is_sequence") (qual := "is_sequence") (st := s_is_sequence) l_is_sequence c_is_sequence k_is_sequence
  have b_is_sequence := F_is_sequence.binds (ps := ["value"]) fun _ _ _ _ _ _ us hl => match us, hl with | [_], _ => rfl
  have F_are_numbers := fun_mk (x := "are_numbers") (qual := "are_numbers") (st := s_are_numbers) l_are_numbers c_are_numbers k_are_numbers
  have b_are_numbers := F_are_numbers.binds (ps := ["value"]) fun _ _ _ _ _ _ us hl => match us, hl with | [_], _ => rfl
  have F_Share___init__ := fun_mk (x := "__init__") (qual := "Share.__init__") (st := s_Share___init__) l_Share___init__ c_Share___init__ k_Share___init__
  have b_Share___init__ := F_Share___init__.binds (ps := ["self", "over", "under"]) fun _ _ _ _ _ _ us hl => match us, hl with | [_, _, _], _ => rfl
  have F_Share_is_below := fun_mk (x := "is_below") (qual := "Share.is_below") (st := s_Share_is_below) l_Share_is_below c_Share_is_below k_Share_is_below
  have b_Share_is_below := F_Share_is_below.binds (ps := ["self", "other"]) fun _ _ _ _ _ _ us hl => match us, hl with | [_, _], _ => rfl
  have F_sum_of_halves := fun_mk (x := "sum_of_halves") (qual := "sum_of_halves") (st := s_sum_of_halves) l_sum_of_halves c_sum_of_halves k_sum_of_halves
  have b_sum_of_halves := F_sum_of_halves.binds (ps := ["lengths"]) fun _ _ _ _ _ _ us hl => match us, hl with | [_], _ => rfl
  have F_is_word := fun_mk (x := "is_word") (qual := "is_word") (st := s_is_word) l_is_word c_is_word k_is_word
  have b_is_word := F_is_word.binds (ps := ["value"]) fun _ _ _ _ _ _ us hl => match us, hl with | [_], _ => rfl
  have F_check_bit := fun_mk (x := "check_bit") (qual := "check_bit") (st := s_check_bit) l_check_bit c_check_bit k_check_bit
  have b_check_bit := F_check_bit.binds (ps := ["bit"]) fun _ _ _ _ _ _ us hl => match us, hl with | [_], _ => rfl
  have F_check_rows := fun_mk (x := "check_rows") (qual := "check_rows") (st := s_check_rows) l_check_rows c_check_rows k_check_rows
  have b_check_rows := F_check_rows.binds (ps := ["rows"]) fun _ _ _ _ _ _ us hl => match us, hl with | [_], _ => rfl
  have F_check_budgets := fun_mk (x := "check_budgets") (qual := "check_budgets") (st := s_check_budgets) l_check_budgets c_check_budgets k_check_budgets
  have b_check_budgets := F_check_budgets.binds (ps := ["budgets"]) fun _ _ _ _ _ _ us hl => match us, hl with | [_], _ => rfl
  have F_check_budgets_of := fun_mk (x := "check_budgets_of") (qual := "check_budgets_of") (st := s_check_budgets_of) l_check_budgets_of c_check_budgets_of k_check_budgets_of
  have b_check_budgets_of := F_check_budgets_of.binds (ps := ["rows", "budgets"]) fun _ _ _ _ _ _ us hl => match us, hl with | [_, _], _ => rfl
  have F_are_rows := fun_mk (x := "_are_rows") (qual := "_are_rows") (st := s_are_rows) l_are_rows c_are_rows k_are_rows
  have b_are_rows := F_are_rows.binds (ps := ["value"]) fun _ _ _ _ _ _ us hl => match us, hl with | [_], _ => rfl
  have F_can_keep := fun_mk (x := "can_keep") (qual := "can_keep") (st := s_can_keep) l_can_keep c_can_keep k_can_keep
  have b_can_keep := F_can_keep.binds (ps := ["budgets"]) fun _ _ _ _ _ _ us hl => match us, hl with | [_], _ => rfl
  have F_in_order := fun_mk (x := "_in_order") (qual := "_in_order") (st := s_in_order) l_in_order c_in_order k_in_order
  have b_in_order := F_in_order.binds (ps := ["budgets"]) fun _ _ _ _ _ _ us hl => match us, hl with | [_], _ => rfl
  have F_with_less := fun_mk (x := "_with_less") (qual := "_with_less") (st := s_with_less) l_with_less c_with_less k_with_less
  have b_with_less := F_with_less.binds (ps := ["side"]) fun _ _ _ _ _ _ us hl => match us, hl with | [_], _ => rfl
  have F_check_breakable := fun_mk (x := "_check_breakable") (qual := "_check_breakable") (st := s_check_breakable) l_check_breakable c_check_breakable k_check_breakable
  have b_check_breakable := F_check_breakable.binds (ps := ["budgets"]) fun _ _ _ _ _ _ us hl => match us, hl with | [_], _ => rfl
  have F_broken_on := fun_mk (x := "_broken_on") (qual := "_broken_on") (st := s_broken_on) l_broken_on c_broken_on k_broken_on
  have b_broken_on := F_broken_on.binds (ps := ["side"]) fun _ _ _ _ _ _ us hl => match us, hl with | [_], _ => rfl
  have F_sides_of := fun_mk (x := "_sides_of") (qual := "_sides_of") (st := s_sides_of) l_sides_of c_sides_of k_sides_of
  have b_sides_of := F_sides_of.binds (ps := ["living"]) fun _ _ _ _ _ _ us hl => match us, hl with | [_], _ => rfl
  have F_hear := fun_mk (x := "hear") (qual := "hear") (st := s_hear) l_hear c_hear k_hear
  have b_hear := F_hear.binds (ps := ["guesser", "bit"]) fun _ _ _ _ _ _ us hl => match us, hl with | [_, _], _ => rfl
  have F_Writers___init__ := fun_mk (x := "__init__") (qual := "Writers.__init__") (st := s_Writers___init__) l_Writers___init__ c_Writers___init__ k_Writers___init__
  have b_Writers___init__ := F_Writers___init__.binds (ps := ["self", "rows", "flips"]) fun _ _ _ _ _ _ us hl => match us, hl with | [_, _, _], _ => rfl
  have F_Writers_flips_left := fun_mk (x := "flips_left") (qual := "Writers.flips_left") (st := s_Writers_flips_left) l_Writers_flips_left c_Writers_flips_left k_Writers_flips_left
  have b_Writers_flips_left := F_Writers_flips_left.binds (ps := ["self", "program", "word"]) fun _ _ _ _ _ _ us hl => match us, hl with | [_, _, _], _ => rfl
  have F_Writers_living_at := fun_mk (x := "living_at") (qual := "Writers.living_at") (st := s_Writers_living_at) l_Writers_living_at c_Writers_living_at k_Writers_living_at
  have b_Writers_living_at := F_Writers_living_at.binds (ps := ["self", "word"]) fun _ _ _ _ _ _ us hl => match us, hl with | [_, _], _ => rfl
  have F_without_flips := fun_mk (x := "without_flips") (qual := "without_flips") (st := s_without_flips) l_without_flips c_without_flips k_without_flips
  have b_without_flips := F_without_flips.binds (ps := ["rows"]) fun _ _ _ _ _ _ us hl => match us, hl with | [_], _ => rfl
  have F_Keeper___init__ := fun_mk (x := "__init__") (qual := "Keeper.__init__") (st := s_Keeper___init__) l_Keeper___init__ c_Keeper___init__ k_Keeper___init__
  have b_Keeper___init__ := F_Keeper___init__.binds (ps := ["self", "rows", "budgets"]) fun _ _ _ _ _ _ us hl => match us, hl with | [_, _, _], _ => rfl
  have F_Keeper_guess := fun_mk (x := "guess") (qual := "Keeper.guess") (st := s_Keeper_guess) l_Keeper_guess c_Keeper_guess k_Keeper_guess
  have b_Keeper_guess := F_Keeper_guess.binds (ps := ["self"]) fun _ _ _ _ _ _ us hl => match us, hl with | [_], _ => rfl
  have F_Keeper_tell := fun_mk (x := "tell") (qual := "Keeper.tell") (st := s_Keeper_tell) l_Keeper_tell c_Keeper_tell k_Keeper_tell
  have b_Keeper_tell := F_Keeper_tell.binds (ps := ["self", "bit"]) fun _ _ _ _ _ _ us hl => match us, hl with | [_, _], _ => rfl
  have F_Keeper_living := fun_mk (x := "living") (qual := "Keeper.living") (st := s_Keeper_living) l_Keeper_living c_Keeper_living k_Keeper_living
  have b_Keeper_living := F_Keeper_living.binds (ps := ["self"]) fun _ _ _ _ _ _ us hl => match us, hl with | [_], _ => rfl
  have F_Keeper__weight_of := fun_mk (x := "_weight_of") (qual := "Keeper._weight_of") (st := s_Keeper__weight_of) l_Keeper__weight_of c_Keeper__weight_of k_Keeper__weight_of
  have b_Keeper__weight_of := F_Keeper__weight_of.binds (ps := ["self", "sign"]) fun _ _ _ _ _ _ us hl => match us, hl with | [_, _], _ => rfl
  have F_Breaker___init__ := fun_mk (x := "__init__") (qual := "Breaker.__init__") (st := s_Breaker___init__) l_Breaker___init__ c_Breaker___init__ k_Breaker___init__
  have b_Breaker___init__ := F_Breaker___init__.binds (ps := ["self", "budgets"]) fun _ _ _ _ _ _ us hl => match us, hl with | [_, _], _ => rfl
  have F_Breaker_answer := fun_mk (x := "answer") (qual := "Breaker.answer") (st := s_Breaker_answer) l_Breaker_answer c_Breaker_answer k_Breaker_answer
  have b_Breaker_answer := F_Breaker_answer.binds (ps := ["self", "bit"]) fun _ _ _ _ _ _ us hl => match us, hl with | [_, _], _ => rfl
  have F_law_tape := fun_mk (x := "_law_tape") (qual := "_law_tape") (st := s_law_tape) l_law_tape c_law_tape k_law_tape
  have b_law_tape := F_law_tape.binds (ps := ["script"]) fun _ _ _ _ _ _ us hl => match us, hl with | [_], _ => rfl
  have F_law_draw := fun_mk (x := "_law_draw") (qual := "_law_draw") (st := s_law_draw) l_law_draw c_law_draw k_law_draw
  have b_law_draw := F_law_draw.binds (ps := ["tape", "limit"]) fun _ _ _ _ _ _ us hl => match us, hl with | [_, _], _ => rfl
  have F_law_bits := fun_mk (x := "_law_bits") (qual := "_law_bits") (st := s_law_bits) l_law_bits c_law_bits k_law_bits
  have b_law_bits := F_law_bits.binds (ps := ["tape", "many"]) fun _ _ _ _ _ _ us hl => match us, hl with | [_, _], _ => rfl
  have F_law_below := fun_mk (x := "_law_below") (qual := "_law_below") (st := s_law_below) l_law_below c_law_below k_law_below
  have b_law_below := F_law_below.binds (ps := ["tape"]) fun _ _ _ _ _ _ us hl => match us, hl with | [_], _ => rfl
  have F_law_string := fun_mk (x := "_law_string") (qual := "_law_string") (st := s_law_string) l_law_string c_law_string k_law_string
  have b_law_string := F_law_string.binds (ps := ["tape"]) fun _ _ _ _ _ _ us hl => match us, hl with | [_], _ => rfl
  have F_law_stranger := fun_mk (x := "_law_stranger") (qual := "_law_stranger") (st := s_law_stranger) l_law_stranger c_law_stranger k_law_stranger
  have b_law_stranger := F_law_stranger.binds (ps := ["tape", "deep"]) fun _ _ _ _ _ _ us hl => match us, hl with | [_, _], _ => rfl
  have F_law_copy := fun_mk (x := "_law_copy") (qual := "_law_copy") (st := s_law_copy) l_law_copy c_law_copy k_law_copy
  have b_law_copy := F_law_copy.binds (ps := ["thing"]) fun _ _ _ _ _ _ us hl => match us, hl with | [_], _ => rfl
  have F_law_same := fun_mk (x := "_law_same") (qual := "_law_same") (st := s_law_same) l_law_same c_law_same k_law_same
  have b_law_same := F_law_same.binds (ps := ["told", "due"]) fun _ _ _ _ _ _ us hl => match us, hl with | [_, _], _ => rfl
  have F_law_is_word := fun_mk (x := "_law_is_word") (qual := "_law_is_word") (st := s_law_is_word) l_law_is_word c_law_is_word k_law_is_word
  have b_law_is_word := F_law_is_word.binds (ps := ["value"]) fun _ _ _ _ _ _ us hl => match us, hl with | [_], _ => rfl
  have F_law_are_rows := fun_mk (x := "_law_are_rows") (qual := "_law_are_rows") (st := s_law_are_rows) l_law_are_rows c_law_are_rows k_law_are_rows
  have b_law_are_rows := F_law_are_rows.binds (ps := ["value"]) fun _ _ _ _ _ _ us hl => match us, hl with | [_], _ => rfl
  have F_law_are_budgets := fun_mk (x := "_law_are_budgets") (qual := "_law_are_budgets") (st := s_law_are_budgets) l_law_are_budgets c_law_are_budgets k_law_are_budgets
  have b_law_are_budgets := F_law_are_budgets.binds (ps := ["value", "many"]) fun _ _ _ _ _ _ us hl => match us, hl with | [_, _], _ => rfl
  have F_law_told := fun_mk (x := "_law_told") (qual := "_law_told") (st := s_law_told) l_law_told c_law_told k_law_told
  have b_law_told := F_law_told.binds (ps := ["rows", "budgets", "by_name"]) fun _ _ _ _ _ _ us hl => match us, hl with | [_, _, _], _ => rfl
  have F_law_right := fun_mk (x := "_law_right") (qual := "_law_right") (st := s_law_right) l_law_right c_law_right k_law_right
  have b_law_right := F_law_right.binds (ps := ["rows", "budgets", "by_name"]) fun _ _ _ _ _ _ us hl => match us, hl with | [_, _, _], _ => rfl
  have F_law_put := fun_mk (x := "_law_put") (qual := "_law_put") (st := s_law_put) l_law_put c_law_put k_law_put
  have b_law_put := F_law_put.binds (ps := ["parts", "at", "value", "kind"]) fun _ _ _ _ _ _ us hl => match us, hl with | [_, _, _, _], _ => rfl
  have F_law_spoilt_rows := fun_mk (x := "_law_spoilt_rows") (qual := "_law_spoilt_rows") (st := s_law_spoilt_rows) l_law_spoilt_rows c_law_spoilt_rows k_law_spoilt_rows
  have b_law_spoilt_rows := F_law_spoilt_rows.binds (ps := ["tape", "rows"]) fun _ _ _ _ _ _ us hl => match us, hl with | [_, _], _ => rfl
  have F_law_spoilt_budgets := fun_mk (x := "_law_spoilt_budgets") (qual := "_law_spoilt_budgets") (st := s_law_spoilt_budgets) l_law_spoilt_budgets c_law_spoilt_budgets k_law_spoilt_budgets
  have b_law_spoilt_budgets := F_law_spoilt_budgets.binds (ps := ["tape", "budgets"]) fun _ _ _ _ _ _ us hl => match us, hl with | [_, _], _ => rfl
  have F_law_tell_refused := fun_mk (x := "_law_tell_refused") (qual := "_law_tell_refused") (st := s_law_tell_refused) l_law_tell_refused c_law_tell_refused k_law_tell_refused
  have b_law_tell_refused := F_law_tell_refused.binds (ps := ["keeper", "bit"]) fun _ _ _ _ _ _ us hl => match us, hl with | [_, _], _ => rfl
  have F_law_answer_refused := fun_mk (x := "_law_answer_refused") (qual := "_law_answer_refused") (st := s_law_answer_refused) l_law_answer_refused c_law_answer_refused k_law_answer_refused
  have b_law_answer_refused := F_law_answer_refused.binds (ps := ["breaker", "bit"]) fun _ _ _ _ _ _ us hl => match us, hl with | [_, _], _ => rfl
  have F_law_bits_right := fun_mk (x := "_law_bits_right") (qual := "_law_bits_right") (st := s_law_bits_right) l_law_bits_right c_law_bits_right k_law_bits_right
  have b_law_bits_right := F_law_bits_right.binds (ps := ["tape", "keeper", "breaker"]) fun _ _ _ _ _ _ us hl => match us, hl with | [_, _, _], _ => rfl
  have F_law_asks := fun_mk (x := "_law_asks") (qual := "_law_asks") (st := s_law_asks) l_law_asks c_law_asks k_law_asks
  have b_law_asks := F_law_asks.binds (ps := ["script"]) fun _ _ _ _ _ _ us hl => match us, hl with | [_], _ => rfl
  have F_law := fun_mk (x := "law") (qual := "law") (st := s_law) l_law c_law k_law
  have b_law := F_law.binds (ps := ["script"]) fun _ _ _ _ _ _ us hl => match us, hl with | [_], _ => rfl
  refine ⟨PySem.W.fnOf "law" "law" (defArgs s_law) (defBody s_law) (defScope s_law) .none kV_law dc_law pm_law an_law cd_law ct_law, fun s v => .of_eq rfl, fun base KB GB => ?_⟩
  have sc : ShC K C_Share := ⟨⟨⟨sPg, sHd, sPo, sSa⟩, sHa, cHn, cTk, sHm, kit_me⟩, sNo, sNu, ⟨sFi, sNe, sHm⟩, sNf⟩
  have cl_Share := sc.ins.cl
  have in_Writers : C8.InsC K C_Writers := ⟨⟨writersPg, writersHd, writersPo, writersSa⟩, writersHa, cHn, cTk, writersHm, kit_me⟩
  have cl_Writers := in_Writers.cl
  have in_Keeper : C8.InsC K C_Keeper := ⟨⟨keeperPg, keeperHd, keeperPo, keeperSa⟩, keeperHa, cHn, cTk, keeperHm, kit_me⟩
  have cl_Keeper := in_Keeper.cl
  have in_Breaker : C8.InsC K C_Breaker := ⟨⟨breakerPg, breakerHd, breakerPo, breakerSa⟩, breakerHa, cHn, cTk, breakerHm, kit_me⟩
  have cl_Breaker := in_Breaker.cl
  have wc : WrC K C_Writers := ⟨in_Writers, writersN_rows, writersN_flips, writersN_length⟩
  have kc : KpC K C_Keeper := ⟨in_Keeper, keeperN_seen, keeperN_errors, keeperN__writers, keeperN__budgets⟩
  have bc : BrC K C_Breaker := ⟨in_Breaker, breakerN_broken, breakerN_row, breakerN__living⟩
  have hno : PySem.W.exmOne K (.ref C_InvalidBudgets) (.ref C_InvalidRows) = some false := exm_own xeC_InvalidRows xcC_InvalidRows xtC_InvalidRows xno
  have G_Share___init__ := ok_Share___init__ (P := l.prog) (w := w) (base := base) F_Share___init__ T x_InvalidNumber sc
  have M_Share : Mk K C_Share f_Share___init__ := ⟨sMk, a_Share___init__, i_Share___init__, sKc⟩
  have m_Share : MakX l.prog w K mg base 1 "Share" C_Share (spInit C_Share C_InvalidNumber) := ⟨_, _, _, M_Share, G_Share___init__, PySem.W.mg_of X G aC_Share, b_Share___init__⟩
  have G_Share_is_below := ok_Share_is_below (P := l.prog) (w := w) (base := base) F_Share_is_below T sc
  have c_Share_is_below : Met l.prog w K mg base 1 C_Share "is_below" (spBelow C_Share) := ⟨_, _, _, cl_Share, ⟨a_Share_is_below, i_Share_is_below, k_Share_is_below⟩, G_Share_is_below, b_Share_is_below⟩
  have G_is_integer := ok_is_integer (P := l.prog) (w := w) (base := base) F_is_integer T 
  have c_is_integer : Cal l.prog w K mg base 1 "is_integer" (spKind K isIntD) := ⟨_, _, _, G_is_integer, PySem.W.mg_of X G a_is_integer, k_is_integer, b_is_integer⟩
  have G_is_number := ok_is_number (P := l.prog) (w := w) (base := base) F_is_number T c_is_integer
  have c_is_number : Cal l.prog w K mg base 2 "is_number" (spKind K isNumD) := ⟨_, _, _, G_is_number, PySem.W.mg_of X G a_is_number, k_is_number, b_is_number⟩
  have G_is_bit := ok_is_bit (P := l.prog) (w := w) (base := base) F_is_bit T c_is_integer
  have c_is_bit : Cal l.prog w K mg base 2 "is_bit" (spKind K isBitD) := ⟨_, _, _, G_is_bit, PySem.W.mg_of X G a_is_bit, k_is_bit, b_is_bit⟩
  have G_is_sequence := ok_is_sequence (P := l.prog) (w := w) (base := base) F_is_sequence T 
  have c_is_sequence : Cal l.prog w K mg base 1 "is_sequence" (spSeq K) := ⟨_, _, _, G_is_sequence, PySem.W.mg_of X G a_is_sequence, k_is_sequence, b_is_sequence⟩
  have G_are_numbers := ok_are_numbers (P := l.prog) (w := w) (base := base) F_are_numbers T c_is_sequence c_is_number
  have c_are_numbers : Cal l.prog w K mg base 3 "are_numbers" (spRow K) := ⟨_, _, _, G_are_numbers, PySem.W.mg_of X G a_are_numbers, k_are_numbers, b_are_numbers⟩
  have G_sum_of_halves := ok_sum_of_halves (P := l.prog) (w := w) (base := base) F_sum_of_halves T m_Share
  have c_sum_of_halves : Cal l.prog w K mg base 3 "sum_of_halves" (spHalves K C_Share) := ⟨_, _, _, G_sum_of_halves, PySem.W.mg_of X G a_sum_of_halves, k_sum_of_halves, b_sum_of_halves⟩
  have G_is_word := ok_is_word (P := l.prog) (w := w) (base := base) F_is_word T 
  have c_is_word : Cal l.prog w K mg base 1 "is_word" (spIsWord K) := ⟨_, _, _, G_is_word, PySem.W.mg_of X G a_is_word, k_is_word, b_is_word⟩
  have G_check_bit := ok_check_bit (P := l.prog) (w := w) (base := base) F_check_bit T x_InvalidNumber c_is_bit
  have c_check_bit : CalX l.prog w K mg base 3 "check_bit" (spCheckBit K C_InvalidNumber) := ⟨_, _, _, G_check_bit, PySem.W.mg_of X G a_check_bit, k_check_bit, b_check_bit⟩
  have G_are_rows := ok_are_rows (P := l.prog) (w := w) (base := base) F_are_rows T c_is_sequence c_is_word
  have c_are_rows : Cal l.prog w K mg base 2 "_are_rows" (spAreRows K) := ⟨_, _, _, G_are_rows, PySem.W.mg_of X G a_are_rows, k_are_rows, b_are_rows⟩
  have G_check_rows := ok_check_rows (P := l.prog) (w := w) (base := base) F_check_rows T x_InvalidRows c_are_rows
  have c_check_rows : CalX l.prog w K mg base 3 "check_rows" (spCheckRows K C_InvalidRows) := ⟨_, _, _, G_check_rows, PySem.W.mg_of X G a_check_rows, k_check_rows, b_check_rows⟩
  have G_check_budgets := ok_check_budgets (P := l.prog) (w := w) (base := base) F_check_budgets T x_InvalidBudgets c_are_numbers
  have c_check_budgets : CalX l.prog w K mg base 4 "check_budgets" (spCheckB K C_InvalidBudgets) := ⟨_, _, _, G_check_budgets, PySem.W.mg_of X G a_check_budgets, k_check_budgets, b_check_budgets⟩
  have G_check_budgets_of := ok_check_budgets_of (P := l.prog) (w := w) (base := base) F_check_budgets_of T x_InvalidBudgets c_are_numbers
  have c_check_budgets_of : CalX l.prog w K mg base 4 "check_budgets_of" (spCheckOf K C_InvalidBudgets) := ⟨_, _, _, G_check_budgets_of, PySem.W.mg_of X G a_check_budgets_of, k_check_budgets_of, b_check_budgets_of⟩
  have G_can_keep := ok_can_keep (P := l.prog) (w := w) (base := base) F_can_keep T c_check_budgets
  have c_can_keep : CalX l.prog w K mg base 5 "can_keep" (spCanKeep K C_InvalidBudgets) := ⟨_, _, _, G_can_keep, PySem.W.mg_of X G a_can_keep, k_can_keep, b_can_keep⟩
  have G_in_order := ok_in_order (P := l.prog) (w := w) (base := base) F_in_order T 
  have c_in_order : Cal l.prog w K mg base 1 "_in_order" (spInOrd K) := ⟨_, _, _, G_in_order, PySem.W.mg_of X G a_in_order, k_in_order, b_in_order⟩
  have G_with_less := ok_with_less (P := l.prog) (w := w) (base := base) F_with_less T 
  have c_with_less : Cal l.prog w K mg base 1 "_with_less" (spLess K) := ⟨_, _, _, G_with_less, PySem.W.mg_of X G a_with_less, k_with_less, b_with_less⟩
  have G_check_breakable := ok_check_breakable (P := l.prog) (w := w) (base := base) F_check_breakable T x_InvalidBudgets c_are_numbers c_can_keep
  have c_check_breakable : CalX l.prog w K mg base 6 "_check_breakable" (spBreakable K C_InvalidBudgets) := ⟨_, _, _, G_check_breakable, PySem.W.mg_of X G a_check_breakable, k_check_breakable, b_check_breakable⟩
  have G_broken_on := ok_broken_on (P := l.prog) (w := w) (base := base) F_broken_on T 
  have c_broken_on : Cal l.prog w K mg base 1 "_broken_on" (spBrk K) := ⟨_, _, _, G_broken_on, PySem.W.mg_of X G a_broken_on, k_broken_on, b_broken_on⟩
  have G_sides_of := ok_sides_of (P := l.prog) (w := w) (base := base) F_sides_of T 
  have c_sides_of : Cal l.prog w K mg base 1 "_sides_of" (spSides K) := ⟨_, _, _, G_sides_of, PySem.W.mg_of X G a_sides_of, k_sides_of, b_sides_of⟩
  have G_Writers___init__ := ok_Writers___init__ (P := l.prog) (w := w) (base := base) F_Writers___init__ T wc
  have M_Writers : Mk K C_Writers f_Writers___init__ := ⟨writersMk, a_Writers___init__, i_Writers___init__, writersKc⟩
  have m_Writers : Mak l.prog w K mg base 1 "Writers" C_Writers (spWInit K C_Writers) := ⟨_, _, _, M_Writers, G_Writers___init__, PySem.W.mg_of X G aC_Writers, b_Writers___init__⟩
  have G_Writers_flips_left := ok_Writers_flips_left (P := l.prog) (w := w) (base := base) F_Writers_flips_left T wc
  have c_Writers_flips_left : Met l.prog w K mg base 1 C_Writers "flips_left" (spFL K C_Writers) := ⟨_, _, _, cl_Writers, ⟨a_Writers_flips_left, i_Writers_flips_left, k_Writers_flips_left⟩, G_Writers_flips_left, b_Writers_flips_left⟩
  have G_Writers_living_at := ok_Writers_living_at (P := l.prog) (w := w) (base := base) F_Writers_living_at T wc c_Writers_flips_left
  have c_Writers_living_at : Met l.prog w K mg base 2 C_Writers "living_at" (spLiv K C_Writers) := ⟨_, _, _, cl_Writers, ⟨a_Writers_living_at, i_Writers_living_at, k_Writers_living_at⟩, G_Writers_living_at, b_Writers_living_at⟩
  have G_without_flips := ok_without_flips (P := l.prog) (w := w) (base := base) F_without_flips T m_Writers
  have c_without_flips : Cal l.prog w K mg base 3 "without_flips" (spWF K C_Writers) := ⟨_, _, _, G_without_flips, PySem.W.mg_of X G a_without_flips, k_without_flips, b_without_flips⟩
  have G_Keeper__weight_of := ok_Keeper__weight_of (P := l.prog) (w := w) (base := base) F_Keeper__weight_of T kc c_Writers_living_at c_sum_of_halves
  have c_Keeper__weight_of : Met l.prog w K mg base 4 C_Keeper "_weight_of" (spKW K C_Keeper C_Writers C_Share) := ⟨_, _, _, cl_Keeper, ⟨a_Keeper__weight_of, i_Keeper__weight_of, k_Keeper__weight_of⟩, G_Keeper__weight_of, b_Keeper__weight_of⟩
  have G_Keeper_guess := ok_Keeper_guess (P := l.prog) (w := w) (base := base) F_Keeper_guess T kc sc c_Keeper__weight_of c_Share_is_below
  have c_Keeper_guess : Met l.prog w K mg base 5 C_Keeper "guess" (spKG K C_Keeper C_Writers) := ⟨_, _, _, cl_Keeper, ⟨a_Keeper_guess, i_Keeper_guess, k_Keeper_guess⟩, G_Keeper_guess, b_Keeper_guess⟩
  have G_Keeper_living := ok_Keeper_living (P := l.prog) (w := w) (base := base) F_Keeper_living T kc c_Writers_living_at
  have c_Keeper_living : Met l.prog w K mg base 3 C_Keeper "living" (spKL K C_Keeper C_Writers) := ⟨_, _, _, cl_Keeper, ⟨a_Keeper_living, i_Keeper_living, k_Keeper_living⟩, G_Keeper_living, b_Keeper_living⟩
  have G_hear := ok_hear2 (P := l.prog) (w := w) (base := base) F_hear T kc c_check_bit c_Keeper_guess
  have c_hear : CalX l.prog w K mg base 6 "hear" (spKT2 K C_Keeper C_Writers C_InvalidNumber) := ⟨_, _, _, G_hear, PySem.W.mg_of X G a_hear, k_hear, b_hear⟩
  have G_Keeper_tell := ok_Keeper_tell2 (P := l.prog) (w := w) (base := base) F_Keeper_tell T c_hear
  have c_Keeper_tell : MetX l.prog w K mg base 7 C_Keeper "tell" (spKT2 K C_Keeper C_Writers C_InvalidNumber) := ⟨_, _, _, cl_Keeper, ⟨a_Keeper_tell, i_Keeper_tell, k_Keeper_tell⟩, G_Keeper_tell, b_Keeper_tell⟩
  have G_Keeper___init__ : FnOk l.prog w K mg base (L2N.CX l.prog w) 5 _ _ _ (spKAll K C_Keeper C_Writers C_InvalidRows C_InvalidBudgets) := fn_or (ok_Keeper___init__ (P := l.prog) (w := w) (base := base) F_Keeper___init__ T kc c_check_rows c_check_budgets_of c_without_flips) (ok_Keeper___init___bad (P := l.prog) (w := w) (base := base) F_Keeper___init__ T c_check_rows c_check_budgets_of c_without_flips)
  have M_Keeper : Mk K C_Keeper f_Keeper___init__ := ⟨keeperMk, a_Keeper___init__, i_Keeper___init__, keeperKc⟩
  have m_Keeper : MakX l.prog w K mg base 5 "Keeper" C_Keeper (spKAll K C_Keeper C_Writers C_InvalidRows C_InvalidBudgets) := ⟨_, _, _, M_Keeper, G_Keeper___init__, PySem.W.mg_of X G aC_Keeper, b_Keeper___init__⟩
  have mk_Keeper_budgets_rows : MakXK l.prog w K mg base 5 "Keeper" C_Keeper ["budgets", "rows"] (fun xs zs => xs ++ zs.reverse) (spKAll K C_Keeper C_Writers C_InvalidRows C_InvalidBudgets) := ⟨_, _, _, fun us ws => us ++ ws.reverse, M_Keeper, G_Keeper___init__, PySem.W.mg_of X G aC_Keeper, L2Fun_kbn F_Keeper___init__ (fun _ _ _ _ _ _ us ws h1 h2 => match us, ws, h1, h2 with | [_], [_, _], _, _ => rfl) (fun r1 r2 => r1.append (vals_rev r2))⟩
  have G_Breaker___init__ := ok_Breaker___init__ (P := l.prog) (w := w) (base := base) F_Breaker___init__ T bc c_check_breakable c_in_order
  have M_Breaker : Mk K C_Breaker f_Breaker___init__ := ⟨breakerMk, a_Breaker___init__, i_Breaker___init__, breakerKc⟩
  have m_Breaker : MakX l.prog w K mg base 7 "Breaker" C_Breaker (spBInit K C_Breaker C_InvalidBudgets) := ⟨_, _, _, M_Breaker, G_Breaker___init__, PySem.W.mg_of X G aC_Breaker, b_Breaker___init__⟩
  have G_Breaker_answer := ok_Breaker_answer (P := l.prog) (w := w) (base := base) F_Breaker_answer T bc c_check_bit c_sides_of c_broken_on c_with_less
  have c_Breaker_answer : MetX l.prog w K mg base 4 C_Breaker "answer" (spBA K C_Breaker C_InvalidNumber) := ⟨_, _, _, cl_Breaker, ⟨a_Breaker_answer, i_Breaker_answer, k_Breaker_answer⟩, G_Breaker_answer, b_Breaker_answer⟩
  have c_law_same := cal_law_same (P := l.prog) (w := w) (base := base) F_law_same T (PySem.W.mg_of X G a_law_same) k_law_same b_law_same 4
  have ch_law_same := cal_law_sameH (P := l.prog) (w := w) (base := base) F_law_same T (PySem.W.mg_of X G a_law_same) k_law_same b_law_same 3
  have c_law_copy := cal_law_copy (P := l.prog) (w := w) (base := base) F_law_copy T (PySem.W.mg_of X G a_law_copy) k_law_copy b_law_copy 4
  have G_law_tape := ok_law_tape (P := l.prog) (w := w) (base := base) F_law_tape T 
  have c_law_tape : Cal l.prog w K mg base 1 "_law_tape" (spTape K) := ⟨_, _, _, G_law_tape, PySem.W.mg_of X G a_law_tape, k_law_tape, b_law_tape⟩
  have G_law_draw := ok_law_draw (P := l.prog) (w := w) (base := base) F_law_draw T 
  have c_law_draw : Cal l.prog w K mg base 1 "_law_draw" (spDraw) := ⟨_, _, _, G_law_draw, PySem.W.mg_of X G a_law_draw, k_law_draw, b_law_draw⟩
  have G_law_bits := ok_law_bits (P := l.prog) (w := w) (base := base) F_law_bits T c_law_draw
  have c_law_bits : Cal l.prog w K mg base 2 "_law_bits" (spBits) := ⟨_, _, _, G_law_bits, PySem.W.mg_of X G a_law_bits, k_law_bits, b_law_bits⟩
  have G_law_below := ok_law_below (P := l.prog) (w := w) (base := base) F_law_below T c_law_draw
  have c_law_below : Cal l.prog w K mg base 2 "_law_below" (spBelow0) := ⟨_, _, _, G_law_below, PySem.W.mg_of X G a_law_below, k_law_below, b_law_below⟩
  have G_law_string := ok_law_string (P := l.prog) (w := w) (base := base) F_law_string T c_law_draw
  have c_law_string : Cal l.prog w K mg base 2 "_law_string" (spString) := ⟨_, _, _, G_law_string, PySem.W.mg_of X G a_law_string, k_law_string, b_law_string⟩
  have c_law_stranger : Cal l.prog w K mg base 5 "_law_stranger" (spStranger K 3) := cal_law_stranger F_law_stranger T (PySem.W.mg_of X G a_law_stranger) k_law_stranger b_law_stranger c_law_draw c_law_below c_law_string 3
  have G_law_is_word := ok_law_is_word (P := l.prog) (w := w) (base := base) F_law_is_word T 
  have c_law_is_word : Cal l.prog w K mg base 1 "_law_is_word" (spWordL K) := ⟨_, _, _, G_law_is_word, PySem.W.mg_of X G a_law_is_word, k_law_is_word, b_law_is_word⟩
  have G_law_are_rows := ok_law_are_rows (P := l.prog) (w := w) (base := base) F_law_are_rows T c_law_is_word
  have c_law_are_rows : Cal l.prog w K mg base 2 "_law_are_rows" (spAreRows K) := ⟨_, _, _, G_law_are_rows, PySem.W.mg_of X G a_law_are_rows, k_law_are_rows, b_law_are_rows⟩
  have G_law_are_budgets := ok_law_are_budgets (P := l.prog) (w := w) (base := base) F_law_are_budgets T 
  have c_law_are_budgets : Cal l.prog w K mg base 1 "_law_are_budgets" (spBudL K) := ⟨_, _, _, G_law_are_budgets, PySem.W.mg_of X G a_law_are_budgets, k_law_are_budgets, b_law_are_budgets⟩
  have G_law_told := ok_law_told (P := l.prog) (w := w) (base := base) F_law_told T kc x_InvalidRows x_InvalidBudgets m_Keeper mk_Keeper_budgets_rows c_Keeper_living hno
  have c_law_told : Cal l.prog w K mg base 7 "_law_told" (spTold25 K) := ⟨_, _, _, G_law_told, PySem.W.mg_of X G a_law_told, k_law_told, b_law_told⟩
  have G_law_right := ok_law_right (P := l.prog) (w := w) (base := base) F_law_right T c_law_copy c_law_same c_law_are_rows c_law_are_budgets c_law_told
  have c_law_right : Cal l.prog w K mg base 8 "_law_right" (spRight25 K) := ⟨_, _, _, G_law_right, PySem.W.mg_of X G a_law_right, k_law_right, b_law_right⟩
  have G_law_put := ok_law_put (P := l.prog) (w := w) (base := base) F_law_put T 
  have c_law_put : Cal l.prog w K mg base 1 "_law_put" (spPut K) := ⟨_, _, _, G_law_put, PySem.W.mg_of X G a_law_put, k_law_put, b_law_put⟩
  have G_law_spoilt_rows := ok_law_spoilt_rows (P := l.prog) (w := w) (base := base) F_law_spoilt_rows T c_law_draw c_law_put c_law_stranger
  have c_law_spoilt_rows : Cal l.prog w K mg base 6 "_law_spoilt_rows" (spSpR K) := ⟨_, _, _, G_law_spoilt_rows, PySem.W.mg_of X G a_law_spoilt_rows, k_law_spoilt_rows, b_law_spoilt_rows⟩
  have G_law_spoilt_budgets := ok_law_spoilt_budgets (P := l.prog) (w := w) (base := base) F_law_spoilt_budgets T c_law_draw c_law_put c_law_stranger
  have c_law_spoilt_budgets : Cal l.prog w K mg base 6 "_law_spoilt_budgets" (spSpB K) := ⟨_, _, _, G_law_spoilt_budgets, PySem.W.mg_of X G a_law_spoilt_budgets, k_law_spoilt_budgets, b_law_spoilt_budgets⟩
  have G_law_tell_refused := ok_law_tell_refused (P := l.prog) (w := w) (base := base) F_law_tell_refused T x_InvalidNumber c_Keeper_tell ch_law_same
  have c_law_tell_refused : Cal l.prog w K mg base 8 "_law_tell_refused" (spTRf K C_Keeper C_Writers) := ⟨_, _, _, G_law_tell_refused, PySem.W.mg_of X G a_law_tell_refused, k_law_tell_refused, b_law_tell_refused⟩
  have G_law_answer_refused := ok_law_answer_refused (P := l.prog) (w := w) (base := base) F_law_answer_refused T x_InvalidNumber c_Breaker_answer ch_law_same
  have c_law_answer_refused : Cal l.prog w K mg base 5 "_law_answer_refused" (spARf K C_Breaker) := ⟨_, _, _, G_law_answer_refused, PySem.W.mg_of X G a_law_answer_refused, k_law_answer_refused, b_law_answer_refused⟩
  have G_law_bits_right := ok_law_bits_right (P := l.prog) (w := w) (base := base) F_law_bits_right T kc bc c_law_stranger c_law_tell_refused c_law_answer_refused c_law_same
  have c_law_bits_right : Cal l.prog w K mg base 9 "_law_bits_right" (spBits25 K C_Keeper C_Writers C_Breaker) := ⟨_, _, _, G_law_bits_right, PySem.W.mg_of X G a_law_bits_right, k_law_bits_right, b_law_bits_right⟩
  have G_law_asks := ok_law_asks (P := l.prog) (w := w) (base := base) F_law_asks T kc bc c_law_tape c_law_draw c_law_bits m_Keeper m_Breaker c_law_right c_law_spoilt_rows c_law_spoilt_budgets c_law_bits_right c_law_same c_Keeper_tell c_Keeper_living
  have c_law_asks : Cal l.prog w K mg base 10 "_law_asks" (spAsks K) := ⟨_, _, _, G_law_asks, PySem.W.mg_of X G a_law_asks, k_law_asks, b_law_asks⟩
  have G_law := ok_law (P := l.prog) (w := w) (base := base) F_law T c_law_asks
  exact G_law
end K25
open PySem PySem.W PyProof.Rows
set_option maxRecDepth 100000 in
set_option maxHeartbeats 0 in
theorem PySem.Challenge.cw_keptbudgets_k25_wrong_rows_and_budgets_holds : PySem.Challenge.rw_keptbudgets_k25_wrong_rows_and_budgets.Holds := by
  w_on; o_law; k_head; (case hw => w_witness2)
  k_fill
  refine L2.walk_of (l := PySem.Challenge.rw_keptbudgets_k25_wrong_rows_and_budgets) (n := 63) (k := 11) (x := "script") (CX := fun w => L2.CX0) (sp := fun w => K25.spLaw _) rfl (by decide) rfl ⟨rfl, by decide, by decide⟩ (fun w h Y => PySem.W.kIn_of Y) ?F (fun _ _ a ns hl _ hS => ⟨a, ns, rfl, hS, hl, fun _ => rfl⟩) (fun _ _ _ _ _ h => h)
  case F =>
    intro w mg fa h KX G hmg
    refine' K25.all_mk KX G hmg ?aC_Share ?aC_Writers ?aC_Keeper ?aC_Breaker ?aG ?xgC_InvalidNumber ?xxL_InvalidNumber ?xsa_InvalidNumber ?xga_InvalidNumber ?xgg_InvalidNumber ?xiC_InvalidNumber ?xtI_InvalidNumber ?xkC_InvalidNumber ?xeC_InvalidNumber ?xvC_InvalidNumber ?xse_InvalidNumber ?xtC_InvalidNumber ?xhC_InvalidNumber ?xcC_InvalidNumber ?xsC_InvalidNumber ?xlI_InvalidNumber ?xcI_InvalidNumber ?xcd_InvalidNumber ?xcc_InvalidNumber ?xfi_InvalidNumber ?xff_InvalidNumber ?xup_InvalidNumber ?xn_InvalidNumber_number ?xgC_InvalidBudgets ?xxL_InvalidBudgets ?xsa_InvalidBudgets ?xga_InvalidBudgets ?xgg_InvalidBudgets ?xiC_InvalidBudgets ?xtI_InvalidBudgets ?xkC_InvalidBudgets ?xeC_InvalidBudgets ?xvC_InvalidBudgets ?xse_InvalidBudgets ?xtC_InvalidBudgets ?xhC_InvalidBudgets ?xcC_InvalidBudgets ?xsC_InvalidBudgets ?xlI_InvalidBudgets ?xcI_InvalidBudgets ?xcd_InvalidBudgets ?xcc_InvalidBudgets ?xfi_InvalidBudgets ?xff_InvalidBudgets ?xup_InvalidBudgets ?xn_InvalidBudgets_budgets ?xgC_InvalidRows ?xxL_InvalidRows ?xsa_InvalidRows ?xga_InvalidRows ?xgg_InvalidRows ?xiC_InvalidRows ?xtI_InvalidRows ?xkC_InvalidRows ?xeC_InvalidRows ?xvC_InvalidRows ?xse_InvalidRows ?xtC_InvalidRows ?xhC_InvalidRows ?xcC_InvalidRows ?xsC_InvalidRows ?xlI_InvalidRows ?xcI_InvalidRows ?xcd_InvalidRows ?xcc_InvalidRows ?xfi_InvalidRows ?xff_InvalidRows ?xup_InvalidRows ?xn_InvalidRows_rows ?xsu ?xop ?xtp ?a_is_integer ?l_is_integer ?c_is_integer ?k_is_integer ?a_is_number ?l_is_number ?c_is_number ?k_is_number ?a_is_bit ?l_is_bit ?c_is_bit ?k_is_bit ?a_is_sequence ?l_is_sequence ?c_is_sequence ?k_is_sequence ?a_are_numbers ?l_are_numbers ?c_are_numbers ?k_are_numbers ?a_Share___init__ ?i_Share___init__ ?l_Share___init__ ?c_Share___init__ ?k_Share___init__ ?a_Share_is_below ?i_Share_is_below ?l_Share_is_below ?c_Share_is_below ?k_Share_is_below ?a_sum_of_halves ?l_sum_of_halves ?c_sum_of_halves ?k_sum_of_halves ?a_is_word ?l_is_word ?c_is_word ?k_is_word ?a_check_bit ?l_check_bit ?c_check_bit ?k_check_bit ?a_check_rows ?l_check_rows ?c_check_rows ?k_check_rows ?a_check_budgets ?l_check_budgets ?c_check_budgets ?k_check_budgets ?a_check_budgets_of ?l_check_budgets_of ?c_check_budgets_of ?k_check_budgets_of ?a_are_rows ?l_are_rows ?c_are_rows ?k_are_rows ?a_can_keep ?l_can_keep ?c_can_keep ?k_can_keep ?a_in_order ?l_in_order ?c_in_order ?k_in_order ?a_with_less ?l_with_less ?c_with_less ?k_with_less ?a_check_breakable ?l_check_breakable ?c_check_breakable ?k_check_breakable ?a_broken_on ?l_broken_on ?c_broken_on ?k_broken_on ?a_sides_of ?l_sides_of ?c_sides_of ?k_sides_of ?a_hear ?l_hear ?c_hear ?k_hear ?a_Writers___init__ ?i_Writers___init__ ?l_Writers___init__ ?c_Writers___init__ ?k_Writers___init__ ?a_Writers_flips_left ?i_Writers_flips_left ?l_Writers_flips_left ?c_Writers_flips_left ?k_Writers_flips_left ?a_Writers_living_at ?i_Writers_living_at ?l_Writers_living_at ?c_Writers_living_at ?k_Writers_living_at ?a_without_flips ?l_without_flips ?c_without_flips ?k_without_flips ?a_Keeper___init__ ?i_Keeper___init__ ?l_Keeper___init__ ?c_Keeper___init__ ?k_Keeper___init__ ?a_Keeper_guess ?i_Keeper_guess ?l_Keeper_guess ?c_Keeper_guess ?k_Keeper_guess ?a_Keeper_tell ?i_Keeper_tell ?l_Keeper_tell ?c_Keeper_tell ?k_Keeper_tell ?a_Keeper_living ?i_Keeper_living ?l_Keeper_living ?c_Keeper_living ?k_Keeper_living ?a_Keeper__weight_of ?i_Keeper__weight_of ?l_Keeper__weight_of ?c_Keeper__weight_of ?k_Keeper__weight_of ?a_Breaker___init__ ?i_Breaker___init__ ?l_Breaker___init__ ?c_Breaker___init__ ?k_Breaker___init__ ?a_Breaker_answer ?i_Breaker_answer ?l_Breaker_answer ?c_Breaker_answer ?k_Breaker_answer ?a_law_tape ?l_law_tape ?c_law_tape ?k_law_tape ?a_law_draw ?l_law_draw ?c_law_draw ?k_law_draw ?a_law_bits ?l_law_bits ?c_law_bits ?k_law_bits ?a_law_below ?l_law_below ?c_law_below ?k_law_below ?a_law_string ?l_law_string ?c_law_string ?k_law_string ?a_law_stranger ?l_law_stranger ?c_law_stranger ?k_law_stranger ?a_law_copy ?l_law_copy ?c_law_copy ?k_law_copy ?a_law_same ?l_law_same ?c_law_same ?k_law_same ?a_law_is_word ?l_law_is_word ?c_law_is_word ?k_law_is_word ?a_law_are_rows ?l_law_are_rows ?c_law_are_rows ?k_law_are_rows ?a_law_are_budgets ?l_law_are_budgets ?c_law_are_budgets ?k_law_are_budgets ?a_law_told ?l_law_told ?c_law_told ?k_law_told ?a_law_right ?l_law_right ?c_law_right ?k_law_right ?a_law_put ?l_law_put ?c_law_put ?k_law_put ?a_law_spoilt_rows ?l_law_spoilt_rows ?c_law_spoilt_rows ?k_law_spoilt_rows ?a_law_spoilt_budgets ?l_law_spoilt_budgets ?c_law_spoilt_budgets ?k_law_spoilt_budgets ?a_law_tell_refused ?l_law_tell_refused ?c_law_tell_refused ?k_law_tell_refused ?a_law_answer_refused ?l_law_answer_refused ?c_law_answer_refused ?k_law_answer_refused ?a_law_bits_right ?l_law_bits_right ?c_law_bits_right ?k_law_bits_right ?a_law_asks ?l_law_asks ?c_law_asks ?k_law_asks ?a_law ?l_law ?c_law ?k_law ?z_super ?z_isinstance ?z_int ?z_bool ?z_tuple ?z_list ?z_all ?z_max ?z_sum ?z_str ?z_len ?z_enumerate ?z_sorted ?z_min ?z_zip ?z_range ?z_abs ?sPg ?sHd ?sPo ?sSa ?sHa ?cHn ?cTk ?sHm ?sCl ?sTy ?sNo ?sNu ?sFi ?sNe ?sNf ?sMk ?sKc ?writersPg ?writersHd ?writersPo ?writersSa ?writersHa ?writersHm ?writersMk ?writersKc ?writersN_rows ?writersN_flips ?writersN_length ?keeperPg ?keeperHd ?keeperPo ?keeperSa ?keeperHa ?keeperHm ?keeperMk ?keeperKc ?keeperN_seen ?keeperN_errors ?keeperN__writers ?keeperN__budgets ?breakerPg ?breakerHd ?breakerPo ?breakerSa ?breakerHa ?breakerHm ?breakerMk ?breakerKc ?breakerN_broken ?breakerN_row ?breakerN__living ?xno
    (case aC_Share => k_is)
    (case aC_Writers => k_is)
    (case aC_Keeper => k_is)
    (case aC_Breaker => k_is)
    (case aG => k_is)
    (case xgC_InvalidNumber => k_is)
    (case xxL_InvalidNumber => k_is)
    (case xsa_InvalidNumber => k_is)
    (case xga_InvalidNumber => k_is)
    (case xgg_InvalidNumber => k_is)
    (case xiC_InvalidNumber => k_is)
    (case xtI_InvalidNumber => k_is)
    (case xkC_InvalidNumber => k_is)
    (case xeC_InvalidNumber => k_is)
    (case xvC_InvalidNumber => k_is)
    (case xse_InvalidNumber => k_is)
    (case xtC_InvalidNumber => k_is)
    (case xhC_InvalidNumber => k_is)
    (case xcC_InvalidNumber => k_is)
    (case xsC_InvalidNumber => k_is)
    (case xlI_InvalidNumber => k_is)
    (case xcI_InvalidNumber => k_is)
    (case xcd_InvalidNumber => k_is)
    (case xcc_InvalidNumber => k_is)
    (case xfi_InvalidNumber => exact rfl)
    (case xff_InvalidNumber => first | rfl | decide +kernel)
    (case xup_InvalidNumber => first | k_is | ks_is)
    (case xn_InvalidNumber_number => k_is)
    (case xgC_InvalidBudgets => k_is)
    (case xxL_InvalidBudgets => k_is)
    (case xsa_InvalidBudgets => k_is)
    (case xga_InvalidBudgets => k_is)
    (case xgg_InvalidBudgets => k_is)
    (case xiC_InvalidBudgets => k_is)
    (case xtI_InvalidBudgets => k_is)
    (case xkC_InvalidBudgets => k_is)
    (case xeC_InvalidBudgets => k_is)
    (case xvC_InvalidBudgets => k_is)
    (case xse_InvalidBudgets => k_is)
    (case xtC_InvalidBudgets => k_is)
    (case xhC_InvalidBudgets => k_is)
    (case xcC_InvalidBudgets => k_is)
    (case xsC_InvalidBudgets => k_is)
    (case xlI_InvalidBudgets => k_is)
    (case xcI_InvalidBudgets => k_is)
    (case xcd_InvalidBudgets => k_is)
    (case xcc_InvalidBudgets => k_is)
    (case xfi_InvalidBudgets => exact rfl)
    (case xff_InvalidBudgets => first | rfl | decide +kernel)
    (case xup_InvalidBudgets => first | k_is | ks_is)
    (case xn_InvalidBudgets_budgets => k_is)
    (case xgC_InvalidRows => k_is)
    (case xxL_InvalidRows => k_is)
    (case xsa_InvalidRows => k_is)
    (case xga_InvalidRows => k_is)
    (case xgg_InvalidRows => k_is)
    (case xiC_InvalidRows => k_is)
    (case xtI_InvalidRows => k_is)
    (case xkC_InvalidRows => k_is)
    (case xeC_InvalidRows => k_is)
    (case xvC_InvalidRows => k_is)
    (case xse_InvalidRows => k_is)
    (case xtC_InvalidRows => k_is)
    (case xhC_InvalidRows => k_is)
    (case xcC_InvalidRows => k_is)
    (case xsC_InvalidRows => k_is)
    (case xlI_InvalidRows => k_is)
    (case xcI_InvalidRows => k_is)
    (case xcd_InvalidRows => k_is)
    (case xcc_InvalidRows => k_is)
    (case xfi_InvalidRows => exact rfl)
    (case xff_InvalidRows => first | rfl | decide +kernel)
    (case xup_InvalidRows => first | k_is | ks_is)
    (case xn_InvalidRows_rows => k_is)
    (case xsu => k_is)
    (case xop => k_is)
    (case xtp => first | rfl | decide +kernel)
    (case a_is_integer => k_is)
    (case l_is_integer => k_is)
    (case c_is_integer => k_is)
    (case k_is_integer => k_is)
    (case a_is_number => k_is)
    (case l_is_number => k_is)
    (case c_is_number => k_is)
    (case k_is_number => k_is)
    (case a_is_bit => k_is)
    (case l_is_bit => k_is)
    (case c_is_bit => k_is)
    (case k_is_bit => k_is)
    (case a_is_sequence => k_is)
    (case l_is_sequence => k_is)
    (case c_is_sequence => k_is)
    (case k_is_sequence => k_is)
    (case a_are_numbers => k_is)
    (case l_are_numbers => k_is)
    (case c_are_numbers => k_is)
    (case k_are_numbers => k_is)
    (case a_Share___init__ => k_is)
    (case i_Share___init__ => k_is)
    (case l_Share___init__ => k_is)
    (case c_Share___init__ => k_is)
    (case k_Share___init__ => k_is)
    (case a_Share_is_below => k_is)
    (case i_Share_is_below => k_is)
    (case l_Share_is_below => k_is)
    (case c_Share_is_below => k_is)
    (case k_Share_is_below => k_is)
    (case a_sum_of_halves => k_is)
    (case l_sum_of_halves => k_is)
    (case c_sum_of_halves => k_is)
    (case k_sum_of_halves => k_is)
    (case a_is_word => k_is)
    (case l_is_word => k_is)
    (case c_is_word => k_is)
    (case k_is_word => k_is)
    (case a_check_bit => k_is)
    (case l_check_bit => k_is)
    (case c_check_bit => k_is)
    (case k_check_bit => k_is)
    (case a_check_rows => k_is)
    (case l_check_rows => k_is)
    (case c_check_rows => k_is)
    (case k_check_rows => k_is)
    (case a_check_budgets => k_is)
    (case l_check_budgets => k_is)
    (case c_check_budgets => k_is)
    (case k_check_budgets => k_is)
    (case a_check_budgets_of => k_is)
    (case l_check_budgets_of => k_is)
    (case c_check_budgets_of => k_is)
    (case k_check_budgets_of => k_is)
    (case a_are_rows => k_is)
    (case l_are_rows => k_is)
    (case c_are_rows => k_is)
    (case k_are_rows => k_is)
    (case a_can_keep => k_is)
    (case l_can_keep => k_is)
    (case c_can_keep => k_is)
    (case k_can_keep => k_is)
    (case a_in_order => k_is)
    (case l_in_order => k_is)
    (case c_in_order => k_is)
    (case k_in_order => k_is)
    (case a_with_less => k_is)
    (case l_with_less => k_is)
    (case c_with_less => k_is)
    (case k_with_less => k_is)
    (case a_check_breakable => k_is)
    (case l_check_breakable => k_is)
    (case c_check_breakable => k_is)
    (case k_check_breakable => k_is)
    (case a_broken_on => k_is)
    (case l_broken_on => k_is)
    (case c_broken_on => k_is)
    (case k_broken_on => k_is)
    (case a_sides_of => k_is)
    (case l_sides_of => k_is)
    (case c_sides_of => k_is)
    (case k_sides_of => k_is)
    (case a_hear => k_is)
    (case l_hear => k_is)
    (case c_hear => k_is)
    (case k_hear => k_is)
    (case a_Writers___init__ => k_is)
    (case i_Writers___init__ => k_is)
    (case l_Writers___init__ => k_is)
    (case c_Writers___init__ => k_is)
    (case k_Writers___init__ => k_is)
    (case a_Writers_flips_left => k_is)
    (case i_Writers_flips_left => k_is)
    (case l_Writers_flips_left => k_is)
    (case c_Writers_flips_left => k_is)
    (case k_Writers_flips_left => k_is)
    (case a_Writers_living_at => k_is)
    (case i_Writers_living_at => k_is)
    (case l_Writers_living_at => k_is)
    (case c_Writers_living_at => k_is)
    (case k_Writers_living_at => k_is)
    (case a_without_flips => k_is)
    (case l_without_flips => k_is)
    (case c_without_flips => k_is)
    (case k_without_flips => k_is)
    (case a_Keeper___init__ => k_is)
    (case i_Keeper___init__ => k_is)
    (case l_Keeper___init__ => k_is)
    (case c_Keeper___init__ => k_is)
    (case k_Keeper___init__ => k_is)
    (case a_Keeper_guess => k_is)
    (case i_Keeper_guess => k_is)
    (case l_Keeper_guess => k_is)
    (case c_Keeper_guess => k_is)
    (case k_Keeper_guess => k_is)
    (case a_Keeper_tell => k_is)
    (case i_Keeper_tell => k_is)
    (case l_Keeper_tell => k_is)
    (case c_Keeper_tell => k_is)
    (case k_Keeper_tell => k_is)
    (case a_Keeper_living => k_is)
    (case i_Keeper_living => k_is)
    (case l_Keeper_living => k_is)
    (case c_Keeper_living => k_is)
    (case k_Keeper_living => k_is)
    (case a_Keeper__weight_of => k_is)
    (case i_Keeper__weight_of => k_is)
    (case l_Keeper__weight_of => k_is)
    (case c_Keeper__weight_of => k_is)
    (case k_Keeper__weight_of => k_is)
    (case a_Breaker___init__ => k_is)
    (case i_Breaker___init__ => k_is)
    (case l_Breaker___init__ => k_is)
    (case c_Breaker___init__ => k_is)
    (case k_Breaker___init__ => k_is)
    (case a_Breaker_answer => k_is)
    (case i_Breaker_answer => k_is)
    (case l_Breaker_answer => k_is)
    (case c_Breaker_answer => k_is)
    (case k_Breaker_answer => k_is)
    (case a_law_tape => k_is)
    (case l_law_tape => k_is)
    (case c_law_tape => k_is)
    (case k_law_tape => k_is)
    (case a_law_draw => k_is)
    (case l_law_draw => k_is)
    (case c_law_draw => k_is)
    (case k_law_draw => k_is)
    (case a_law_bits => k_is)
    (case l_law_bits => k_is)
    (case c_law_bits => k_is)
    (case k_law_bits => k_is)
    (case a_law_below => k_is)
    (case l_law_below => k_is)
    (case c_law_below => k_is)
    (case k_law_below => k_is)
    (case a_law_string => k_is)
    (case l_law_string => k_is)
    (case c_law_string => k_is)
    (case k_law_string => k_is)
    (case a_law_stranger => k_is)
    (case l_law_stranger => k_is)
    (case c_law_stranger => k_is)
    (case k_law_stranger => k_is)
    (case a_law_copy => k_is)
    (case l_law_copy => k_is)
    (case c_law_copy => k_is)
    (case k_law_copy => k_is)
    (case a_law_same => k_is)
    (case l_law_same => k_is)
    (case c_law_same => k_is)
    (case k_law_same => k_is)
    (case a_law_is_word => k_is)
    (case l_law_is_word => k_is)
    (case c_law_is_word => k_is)
    (case k_law_is_word => k_is)
    (case a_law_are_rows => k_is)
    (case l_law_are_rows => k_is)
    (case c_law_are_rows => k_is)
    (case k_law_are_rows => k_is)
    (case a_law_are_budgets => k_is)
    (case l_law_are_budgets => k_is)
    (case c_law_are_budgets => k_is)
    (case k_law_are_budgets => k_is)
    (case a_law_told => k_is)
    (case l_law_told => k_is)
    (case c_law_told => k_is)
    (case k_law_told => k_is)
    (case a_law_right => k_is)
    (case l_law_right => k_is)
    (case c_law_right => k_is)
    (case k_law_right => k_is)
    (case a_law_put => k_is)
    (case l_law_put => k_is)
    (case c_law_put => k_is)
    (case k_law_put => k_is)
    (case a_law_spoilt_rows => k_is)
    (case l_law_spoilt_rows => k_is)
    (case c_law_spoilt_rows => k_is)
    (case k_law_spoilt_rows => k_is)
    (case a_law_spoilt_budgets => k_is)
    (case l_law_spoilt_budgets => k_is)
    (case c_law_spoilt_budgets => k_is)
    (case k_law_spoilt_budgets => k_is)
    (case a_law_tell_refused => k_is)
    (case l_law_tell_refused => k_is)
    (case c_law_tell_refused => k_is)
    (case k_law_tell_refused => k_is)
    (case a_law_answer_refused => k_is)
    (case l_law_answer_refused => k_is)
    (case c_law_answer_refused => k_is)
    (case k_law_answer_refused => k_is)
    (case a_law_bits_right => k_is)
    (case l_law_bits_right => k_is)
    (case c_law_bits_right => k_is)
    (case k_law_bits_right => k_is)
    (case a_law_asks => k_is)
    (case l_law_asks => k_is)
    (case c_law_asks => k_is)
    (case k_law_asks => k_is)
    (case a_law => k_is)
    (case l_law => k_is)
    (case c_law => k_is)
    (case k_law => k_is)
    (case z_super => k_is)
    (case z_isinstance => k_is)
    (case z_int => k_is)
    (case z_bool => k_is)
    (case z_tuple => k_is)
    (case z_list => k_is)
    (case z_all => k_is)
    (case z_max => k_is)
    (case z_sum => k_is)
    (case z_str => k_is)
    (case z_len => k_is)
    (case z_enumerate => k_is)
    (case z_sorted => k_is)
    (case z_min => k_is)
    (case z_zip => k_is)
    (case z_range => k_is)
    (case z_abs => k_is)
    (case sPg => k_is)
    (case sHd => k_is)
    (case sPo => k_is)
    (case sSa => k_is)
    (case sHa => k_is)
    (case cHn => k_is)
    (case cTk => k_is)
    (case sHm => k_is)
    (case sCl => k_is)
    (case sTy => k_is)
    (case sNo => k_is)
    (case sNu => k_is)
    (case sFi => k_is)
    (case sNe => k_is)
    (case sNf => k_is)
    (case sMk => k_is)
    (case sKc => k_is)
    (case writersPg => k_is)
    (case writersHd => k_is)
    (case writersPo => k_is)
    (case writersSa => k_is)
    (case writersHa => k_is)
    (case writersHm => k_is)
    (case writersMk => k_is)
    (case writersKc => k_is)
    (case writersN_rows => k_is)
    (case writersN_flips => k_is)
    (case writersN_length => k_is)
    (case keeperPg => k_is)
    (case keeperHd => k_is)
    (case keeperPo => k_is)
    (case keeperSa => k_is)
    (case keeperHa => k_is)
    (case keeperHm => k_is)
    (case keeperMk => k_is)
    (case keeperKc => k_is)
    (case keeperN_seen => k_is)
    (case keeperN_errors => k_is)
    (case keeperN__writers => k_is)
    (case keeperN__budgets => k_is)
    (case breakerPg => k_is)
    (case breakerHd => k_is)
    (case breakerPo => k_is)
    (case breakerSa => k_is)
    (case breakerHa => k_is)
    (case breakerHm => k_is)
    (case breakerMk => k_is)
    (case breakerKc => k_is)
    (case breakerN_broken => k_is)
    (case breakerN_row => k_is)
    (case breakerN__living => k_is)
    (case xno => k_is)
#print axioms PySem.Challenge.cw_keptbudgets_k25_wrong_rows_and_budgets_holds
