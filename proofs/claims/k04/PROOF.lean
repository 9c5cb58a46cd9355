import PyProof.Rows.All
import Wide.All
import OpenK.AllK
import Wide.FinOn
import HandS.ForMost
import HandS.ForExc
import HandS.Codes
import HandS.Wide
import HandS.WideBits
import HandS.IsInst
import HandS.Defaults
import KE.KExcSuper
import HandS.ExcInit
import HandS.ExcIs
import HandS.More
import HandS.ExcCtx
import HandS.ExcField
import HandS.HotCalls
import HandS.SlotsOwn
import HandS.MakeKwOnly
import HandS.TryMany
import HandS.Gcd
import HandS.TupLe
import PyProof.FString3
import HandS.FStr
import PyProof.Rows.StrIntSpec
import HandS.StrMore
import KE.GoesMore
import HandS.SortInts
import PyProof.TupleIter
import HandS.SortRule
import KE.DataMinMax
import HandS.SortKw
import PySem.Challenge.RW_keptbudgets_k04_code_of_lengths
set_option Elab.async false
set_option linter.all false
set_option maxRecDepth 100000
set_option maxHeartbeats 4000000
namespace KB
open PySem PySem.Spec PyProof.Rows L2

/-! ### heaps -/
theorem same_upd {H : Hp} {p : Addr} {o : HO} (h : H p = none) : Same H (upd H p o) := fun b x e => by
  rw [upd_ne (ne_of_none e h)]
  exact e
theorem same_set {B H : Hp} {p : Addr} {o : HO} (s : Same B H) : Same (upd B p o) (upd H p o) := fun b x e => by
  by_cases hb : b = p
  · subst hb
    rw [upd_same] at e ⊢
    exact e
  · rw [upd_ne hb] at e ⊢
    exact s b x e
theorem same_out {B H : Hp} {p : Addr} {o : HO} (s : Same B H) (h : B p = none) : Same B (upd H p o) := fun b x e => by
  rw [upd_ne (ne_of_none e h)]
  exact s b x e
theorem sz (n : Nat) (h : n ≤ 16777216 := by decide) : n ≤ sizeLine := by
  rw [sizeLine_eq]
  exact h
theorem szl {n : Nat} (h : n < 16777216) : n < sizeLine := by
  rw [sizeLine_eq]
  exact h
theorem szle {n : Nat} (h : n ≤ 16777216) : n ≤ sizeLine := by
  rw [sizeLine_eq]
  exact h

/-! ### the tape: B is all that stands beside it -/
structure Tp (B H : Hp) (t : Addr) (c : Nat) : Prop where
  same : Same B H
  bt : B t = none
  ex : ∃ (g : Addr) (gs : List Int) (sd ct : Int), B g = none ∧ t ≠ g ∧ H t = some (.lst [.ref g, .int sd, .int ct]) ∧ H g = some (.lst (gs.map V.int)) ∧
    gs.length ≤ 63 ∧ 0 ≤ sd ∧ sd < 2147483647 ∧ 0 ≤ ct ∧ ct ≤ (c : Int)
theorem Tp.le {B H : Hp} {t : Addr} {c d : Nat} (T : Tp B H t c) (h : c ≤ d) : Tp B H t d := by
  obtain ⟨s, b, g, gs, sd, ct, h1, h2, h3, h4, h5, h6, h7, h8, h9⟩ := T
  exact ⟨s, b, g, gs, sd, ct, h1, h2, h3, h4, h5, h6, h7, h8, by omega⟩
theorem Tp.new {B H : Hp} {t p : Addr} {c : Nat} {o : HO} (T : Tp B H t c) (h : H p = none) : Tp (upd B p o) (upd H p o) t c := by
  obtain ⟨s, b, g, gs, sd, ct, h1, h2, h3, h4, h5⟩ := T
  have e1 : t ≠ p := ne_of_none h3 h
  have e2 : g ≠ p := ne_of_none h4 h
  exact ⟨same_set s, by rw [upd_ne e1]; exact b, g, gs, sd, ct, by rw [upd_ne e2]; exact h1, h2, by rw [upd_ne e1]; exact h3, by rw [upd_ne e2]; exact h4, h5⟩
theorem Tp.set {B H : Hp} {t p : Addr} {c : Nat} {o o' : HO} (T : Tp B H t c) (h : B p = some o) : Tp (upd B p o') (upd H p o') t c := by
  obtain ⟨s, b, g, gs, sd, ct, h1, h2, h3, h4, h5⟩ := T
  have e1 : t ≠ p := fun z => by rw [z, h] at b; cases b
  have e2 : g ≠ p := fun z => by rw [z, h] at h1; cases h1
  exact ⟨same_set s, by rw [upd_ne e1]; exact b, g, gs, sd, ct, by rw [upd_ne e2]; exact h1, h2, by rw [upd_ne e1]; exact h3, by rw [upd_ne e2]; exact h4, h5⟩
theorem Tp.free {B H : Hp} {t p : Addr} {c : Nat} (T : Tp B H t c) (h : H p = none) : B p = none := T.same.free h
theorem Tp.at {B H : Hp} {t p : Addr} {c : Nat} {o : HO} (T : Tp B H t c) (h : B p = some o) : H p = some o := T.same _ _ h
theorem Tp.inst {B H : Hp} {t x dx C : Addr} {c : Nat} {fs : List (Str × V)} (T : Tp B H t c) (hx : H x = none) (hd : H dx = none) (ne : dx ≠ x) : Tp (upd (upd B dx (.own x)) x (.ins C dx fs)) (upd (upd H dx (.own x)) x (.ins C dx fs)) t c :=
  (T.new hd).new (by rw [upd_ne ne.symm]; exact hx)
theorem Tp.ext {B H H' : Hp} {t : Addr} {c : Nat} (T : Tp B H t c) (s : Same H H') : Tp B H' t c := by
  obtain ⟨sm, b, g, gs, sd, ct, h1, h2, h3, h4, h5⟩ := T
  exact ⟨sm.trans s, b, g, gs, sd, ct, h1, h2, s _ _ h3, s _ _ h4, h5⟩
theorem Tp.ext1 {B H H' : Hp} {t p : Addr} {c : Nat} {o : HO} (T : Tp B H t c) (s : Same H H') (hp : H p = none) (ho : H' p = some o) : Tp (upd B p o) H' t c := by
  obtain ⟨sm, b, g, gs, sd, ct, h1, h2, h3, h4, h5⟩ := T
  have e1 : t ≠ p := ne_of_none h3 hp
  have e2 : g ≠ p := ne_of_none h4 hp
  refine ⟨fun b x e => ?_, by rw [upd_ne e1]; exact b, g, gs, sd, ct, by rw [upd_ne e2]; exact h1, h2, s _ _ h3, s _ _ h4, h5⟩
  by_cases hb : b = p
  · subst hb
    rw [upd_same] at e
    rw [ho]
    exact e
  · rw [upd_ne hb] at e
    exact s _ _ (sm _ _ e)
theorem Tp.isn {B H : Hp} {t p : Addr} {c : Nat} (T : Tp B H t c) (h : H p = none) : B p = none := T.same.free h
theorem same_ins {B : Hp} {x dx C : Addr} {fs : List (Str × V)} (hx : B x = none) (hd : B dx = none) (ne : dx ≠ x) : Same B (upd (upd B dx (.own x)) x (.ins C dx fs)) :=
  (same_upd hd).trans (same_upd (by rw [upd_ne ne.symm]; exact hx))
/-- a draw's number is a natural one -/
theorem nat_of {n : Int} (h : 0 ≤ n) : ∃ k : Nat, n = (k : Int) := ⟨n.toNat, by omega⟩
end KB

namespace KB
open PySem PySem.Spec PyProof.Rows L2
section
variable {P : Program} {w : World} {K : PySem.W.Frag} {mg : Str → Option Value} {base : Heap}
/-- a def of the module that raises nothing, to be called by its name -/
structure Cal (P : Program) (w : World) (K : PySem.W.Frag) (mg : Str → Option Value) (base : Heap) (k : Nat) (x : Str) (sp : Sp) : Prop where
  ex : ∃ (f : Addr) (fd : FuncData) (ps : List Str), FnOk P w K mg base CX0 k f fd ps sp ∧ mg x = some (.ref f) ∧ PySem.W.keepIn K (.ref f) = true ∧ Binds K fd ps []
/-- .. called by keywords alone -/
structure CalK (P : Program) (w : World) (K : PySem.W.Frag) (mg : Str → Option Value) (base : Heap) (k : Nat) (x : Str) (n : Nat) (ks : List Str) (gV : List V → List V → List V) (sp : Sp) : Prop where
  ex : ∃ (f : Addr) (fd : FuncData) (ps : List Str) (g : List Value → List Value → List Value), FnOk P w K mg base CX0 k f fd ps sp ∧ mg x = some (.ref f) ∧ PySem.W.keepIn K (.ref f) = true ∧ KBn K fd ps n ks g gV
/-- a method of the class at C -/
structure Met (P : Program) (w : World) (K : PySem.W.Frag) (mg : Str → Option Value) (base : Heap) (k : Nat) (C : Addr) (m : Str) (sp : Sp) : Prop where
  ex : ∃ (f : Addr) (fd : FuncData) (ps : List Str), Cls K C ∧ Meth K C m f ∧ FnOk P w K mg base CX0 k f fd ps sp ∧ Binds K fd ps []
theorem L2Fun_kbn {x qual : Str} {st : Stmt} {f : Addr} {fd : FuncData} {ps ks : List Str} {n : Nat} {g : List Value → List Value → List Value} {gV : List V → List V → List V} (F : Fun K x qual st f fd)
    (h : ∀ (kV doc pm : Value) (an : Option Addr) (cdv ct : Value) (us ws : List Value), us.length = n → ws.length = ks.length → bindArgs (PySem.W.fnOf x qual (defArgs st) (defBody st) (defScope st) .none kV doc pm an cdv ct) ⟨us, ks.zip ws⟩ = pure (ps.zip (g us ws)))
    (hrel : ∀ {vs : List V} {us : List Value} {zs : List V} {ws : List Value}, Vals vs us → Vals zs ws → Vals (gV vs zs) (g us ws)) : KBn K fd ps n ks g gV := by
  obtain ⟨oc, od, kV, doc, pm, an, cdv, ct, osl, rfl, lk, hcd⟩ := F.ex
  exact ⟨fun s us ws _ l1 l2 => .of_eq (h kV doc pm an cdv ct us ws l1 l2), fun r1 r2 => hrel r1 r2⟩
end
theorem vals_rev : ∀ {vs : List V} {us : List Value}, Vals vs us → Vals vs.reverse us.reverse
  | _, _, .nil => .nil
  | _, _, .cons r t => by
    rw [List.reverse_cons, List.reverse_cons]
    exact (vals_rev t).append (.cons r .nil)
section
variable {X : Cx} {k j n : Nat} {C : Addr} {x m : Str} {sp : Sp} {p pos apos : Pos} {e o : Expr} {es : List Expr} {kws : List Keyword} {ta : TE} {t tk : TA} {ks : List Str} {gV : List V → List V → List V}
theorem pe_c (c : Cal X.prog X.w X.K X.mg X.base k x sp) (hr : Room j X.A) (hk : k ≤ j) (hg : Gl X x) (ha : PA X (e :: es) t)
    (hdb : (x == ("__debug__" : Str)) = false := by decide) (he : starEach (e :: es) X.env = (false, eval e X.env) :: starEach es X.env := by rfl) (hpl : (backTo pos (starEach es X.env)).any (·.1) = false := by rfl) :
    PE X (.Call (.Name x p) (e :: es) [] pos) (tCall sp [] E0 t) := by
  obtain ⟨f, fd, ps, F, hm, kp, b⟩ := c.ex
  exact pe_call F (hr.mono hk) hg hm kp b .nil pass0 ha hdb he hpl
theorem pe_c0 (c : Cal X.prog X.w X.K X.mg X.base k x sp) (hr : Room j X.A) (hk : k ≤ j) (hg : Gl X x)
    (hdb : (x == ("__debug__" : Str)) = false := by decide) :
    PE X (.Call (.Name x p) [] [] pos) (tCall sp [] E0 tNil) := by
  obtain ⟨f, fd, ps, F, hm, kp, b⟩ := c.ex
  exact pe_call0 F (hr.mono hk) hg hm kp b .nil pass0 hdb
theorem pe_mt {pl : Sem Bool} (c : Met X.prog X.w X.K X.mg X.base k C m sp) (hr : Room j X.A) (hk : k ≤ j) (he : PE X o ta) (ha : PA X (e :: es) t)
    (hst : starEach (e :: es) X.env = (false, eval e X.env) :: starEach es X.env := by rfl) (hpl : (backTo pos (starEach es X.env)).any (·.1) = false := by rfl)
    (ht : eval (.Call (.Attribute o m apos) (e :: es) [] pos) X.env = (do
      let ov ← eval o X.env
      standAt apos.atName
      let (f, first) ← holding [ov] (getMethod ov m pl)
      callWith pos f first (backTo pos (starEach (e :: es) X.env)) (backToKw pos (keywordEach [] X.env))) := by rfl) :
    PE X (.Call (.Attribute o m apos) (e :: es) [] pos) (tMeth C m sp [] E0 ta t) := by
  obtain ⟨f, fd, ps, hc, hm, F, b⟩ := c.ex
  exact pe_meth (pl := pl) he hc hm F (hr.mono hk) b .nil pass0 ha hst hpl ht
theorem pe_mt0 {pl : Sem Bool} (c : Met X.prog X.w X.K X.mg X.base k C m sp) (hr : Room j X.A) (hk : k ≤ j) (he : PE X o ta)
    (ht : eval (.Call (.Attribute o m apos) [] [] pos) X.env = (do
      let ov ← eval o X.env
      standAt apos.atName
      let (f, first) ← holding [ov] (getMethod ov m pl)
      callWith pos f first (backTo pos (starEach [] X.env)) (backToKw pos (keywordEach [] X.env))) := by rfl) :
    PE X (.Call (.Attribute o m apos) [] [] pos) (tMeth C m sp [] E0 ta tNil) := by
  obtain ⟨f, fd, ps, hc, hm, F, b⟩ := c.ex
  exact pe_meth0 (pl := pl) he hc hm F (hr.mono hk) b .nil pass0 ht
/-- f(k = v, ..) -/
def tCallK0 (m : Nat) (sp : Sp) (gV : List V → List V → List V) (E : XK) (tk : TA) : TE := fun σ H Q => tk σ H fun zs H2 => zs.length = m ∧ sp (gV [] zs) H2 Q E
theorem pe_cK0 (c : CalK X.prog X.w X.K X.mg X.base k x 0 ks gV sp) (hr : Room j X.A) (hk : k ≤ j) (hg : Gl X x) (hkw : PK X kws tk)
    (hall : (backToKw pos (keywordEach kws X.env)).all (·.1.isSome) = true := by rfl) (hks : (backToKw pos (keywordEach kws X.env)).filterMap (·.1) = ks := by rfl) (hdb : (x == ("__debug__" : Str)) = false := by decide)
    (hpl : ((backTo pos (starEach [] X.env)).any (·.1) || (backToKw pos (keywordEach kws X.env)).any (·.1.isNone)) = false := by rfl) :
    PE X (.Call (.Name x p) [] kws pos) (tCallK0 ks.length sp gV E0 tk) := by
  obtain ⟨f, fd, ps, g, F, hm, kp, hb⟩ := c.ex
  refine ⟨fun pins s σ H Q I h => ?_⟩
  refine wpAny_Call_Name_kw (ld_glob I hg hm ?_ hdb)
  refine PySem.W.callWith_KW0 (h₀ := X.base) I.ok.mod.kin kp hall ?_ hpl
  refine thn (hkw.run pos pins s σ H _ I h) fun ws s2 ⟨zs, H2, I2, rz, l2, q2⟩ => ⟨I2.kIn, ?_⟩
  rw [hks]
  have r2 : Vals (gV [] zs) (g [] ws) := hb.rel (vs := []) (us := []) .nil rz
  refine wpAny_call (codeAny_mono (F.run X.A X.stack s2 H2 ⟨[], ks.zip ws⟩ (g [] ws) (gV [] zs) Q E0 (hr.mono hk) I2.env0 (hb.to s2 [] ws I2.kIn rfl (rz.length.symm.trans l2)) r2 q2) fun r s' hq => ?_)
  cases r with
  | error e => exact pass0 pins σ H2 s2 e s' I2 hq
  | ok fl =>
    cases fl with
    | ret u => exact I2.after hq
    | next => exact False.elim hq
    | brk => exact False.elim hq
    | cont => exact False.elim hq
/-- C() of a class that has no __init__ of its own -/
structure Mk0 (K : PySem.W.Frag) (C : Addr) : Prop where
  makes : PySem.W.makesIn K C = true
  init : PySem.W.findIn K (.ref C) "__init__" = some (some (.builtin "object.__init__"))
  kp : PySem.W.keepIn K (.ref C) = true
  top : PySem.W.mroIn K C (.type "object") = some true
def tNew0 (C : Addr) : TE := fun _ H Q => ∀ x dx, H x = none → H dx = none → dx ≠ x → Q (.ref x) (upd (upd H dx (.own x)) x (.ins C dx []))
theorem pe_new0 (M : Mk0 X.K C) (hg : Gl X x) (hm : X.mg x = some (.ref C)) (hdb : (x == ("__debug__" : Str)) = false := by decide) : PE X (.Call (.Name x p) [] [] pos) (tNew0 C) := by
  refine ⟨fun pins s σ H Q I h => ?_⟩
  refine wpAny_Call_Name_kw (ld_glob I hg hm ?_ hdb)
  refine PySem.W.callWith_K0 I.kIn M.kp ?_
  have hq := h (s.heap.objs.size + 1) s.heap.objs.size (I.hok.fresh (Nat.le_succ _)) (I.hok.fresh (Nat.le_refl _)) (Nat.ne_of_lt (Nat.lt_succ_self _))
  have I2 := Inv.made (C := C) I
  have hx : ((s.heap.push PySem.W.emptyDict).push (PySem.W.instObj C s.heap.objs.size)).get? (s.heap.objs.size + 1) = some (PySem.W.instObj C s.heap.objs.size) := by
    have := Heap.get?_push_size (s.heap.push PySem.W.emptyDict) (o := PySem.W.instObj C s.heap.objs.size) rfl
    rwa [Heap.size_push] at this
  have t1 : PySem.W.Looks (model X.prog X.w) ((s.heap.push PySem.W.emptyDict).push (PySem.W.instObj C s.heap.objs.size)) (typeOf (.ref (s.heap.objs.size + 1))) (.ref C) := (PySem.W.Looks.ld hx).andThen .now
  have t2 : PySem.W.Looks (model X.prog X.w) ((s.heap.push PySem.W.emptyDict).push (PySem.W.instObj C s.heap.objs.size)) (isInstance (.ref (s.heap.objs.size + 1)) (.type "object")) true := t1.andThen (PySem.W.looks_mroIn I2.kIn M.top)
  refine wpAny_call (make_map0 I.kIn M.makes M.init (fun self => PySem.W.Looks.of_pure (PySem.W.oi_bind self)) ?_)
  refine codeAny_call_builtin PySem.W.oi_plain PySem.W.entry_oi (@PySem.W.check_slot (model X.prog X.w) _ _ _ "object.__init__" "object" "__init__" (.ref (s.heap.objs.size + 1)) [] [] _ PySem.W.oi_kind PySem.W.oi_split t2 (PySem.W.oi_args _) ?_)
  rw [PySem.W.oi_run]
  exact wpAny_pure (And.intro rfl ⟨V.ref (s.heap.objs.size + 1), _, I2, rfl, hq⟩)
end
end KB

/-! own errors: super().__init__('..'), then one or two fields -/
namespace KB
open PySem PySem.W PySem.Calls PyProof.Rows PySem.HandSPX
def xSup (msg : Str) (j : Nat) (p0 p1 p2 p3 p4 p5 : Pos) : Stmt := .Expr (.Call (.Attribute (.Call (.Name "super" p0) [] [] p1) "__init__" p2) [.Constant (.str msg) j p3] [] p4) p5
def xSet (f : Str) (q1 q2 q3 q4 : Pos) : Stmt := .Assign [.Attribute (.Name "self" q1) f q2] (.Name f q3) q4
def xArg (x : Str) (p : Pos) : Arg := { arg := x, annotation := none, pos := p }
def xArgs (l : List Arg) : Arguments := { posonlyargs := [], args := l, vararg := none, kwonlyargs := [], kw_defaults := [], kwarg := none, defaults := [] }
/-- what the written part says of the class at C, of its __init__ at fI, whose class cell is at cc -/
structure XCls (P : Program) (K : Frag) (mg : Str → Option Value) (x qual : Str) (C fI : Addr) (st : Stmt) : Prop where
  gC : mg x = some (.ref C)
  cls : ∃ nm q N bs bm sn sub ab col dd k0 k1 k2 k3 k5, K.lookup C = some (excClassObj nm q C N bs bm true sn sub ab col dd k0 k1 k2 k3 k5 "ValueError.__new__") ∧ refsVE bm = true
  sa : findIn K (.ref C) "__setattr__" = some (some (.builtin "object.__setattr__"))
  ga : findIn K (.ref C) "__getattribute__" = some (some (.builtin "BaseException.__getattribute__"))
  gg : findIn K (.ref C) "__getattr__" = some none
  iC : findIn K (.ref C) "__init__" = some (some (.ref fI))
  tC : typeIn K (.ref fI) = some (.type "function")
  kC : keepIn K (.ref C) = true
  exC : subIn K (.ref C) (.type "BaseException") = some true
  veC : subIn K (.ref C) (.type "ValueError") = some true
  self : mroIn K C (.ref C) = some true
  tyC : typeIn K (.ref C) = some (.type "type")
  hdC : hasDictIn K C = true
  te : exmOne K (.ref C) (.ref C) = some true
  up : ks_superIn K C C "__init__" = some (some (.builtin "ValueError.__init__"))
  sup : mg "super" = none
  opq : nsIn K cStatics "thirdparty.any" = some none
  top : (P.main.scope.names.lookup ("super" : Str)).isSome = false
  fn : ∃ (oc : Value) (od : Option Addr) (doc pm : Value) (an : Option Addr) (ct : Value) (osl : Array (Option Value)) (cda cc : Addr) (ccl cl : Value) (cdd cld : Option Addr) (ccs csl : Array (Option Value)) (vs : Array Value) (file : Str) (tf : Tok),
    K.lookup fI = some ⟨oc, od, .func (ksFn "__init__" qual (L2.defArgs st) (L2.defBody st) (L2.defScope st) .none .none doc pm an (.ref cda) ct cc), osl⟩ ∧ codeIn K (.ref cda) qual = true ∧
    K.lookup cda = some ⟨ccl, cdd, .fields vs, ccs⟩ ∧ vs[2]? = some (.str file tf) ∧ ((P.main.file : Str) == file) = true ∧ K.lookup cc = some ⟨cl, cld, .cell (some (.ref C)), csl⟩
/-- the scope of such an __init__ with these fields -/
structure XScope (sc : Scope) (fs : List Str) : Prop where
  kind : sc.kind = .function
  co : sc.isCoroutine = false
  gen : sc.isGenerator = false
  nocell : ∀ x ∈ sc.names, x.2 ≠ .cell
  self : sc.names.lookup ("self" : Str) = some NameKind.local
  fld : ∀ f ∈ fs, sc.names.lookup f = some NameKind.local
  cls : sc.names.lookup ("__class__" : Str) = some NameKind.free
  sup : sc.names.lookup ("super" : Str) = some NameKind.globalImplicit

section
variable {prog : Program} {w : World} {A : Around} {E : Value → Shared → Prop} {h : Heap} {g : Array GenState} {d : Drawn} {t : Nat} {os : OsState} {K : Frag} {mg : Str → Option Value}
/-- a call of a method of super(), its words in one line -/
theorem x_call {env : Env} {msg nm : Str} {j : Nat} {p0 p1 p2 p3 p4 : Pos} (hl : (p2.endLine == p4.line) = true) :
    eval (.Call (.Attribute (.Call (.Name "super" p0) [] [] p1) nm p2) [.Constant (.str msg) j p3] [] p4) env = (do
      let ov ← attributeBase (.Call (.Name "super" p0) [] [] p1) nm env (eval (.Call (.Name "super" p0) [] [] p1) env)
      standAt p2.atName
      let (f, first) ← holding [ov] (getMethod ov nm (do return (← importBound (.Call (.Name "super" p0) [] [] p1) env).getD true))
      callWith p4 f first (backTo p4 (starEach [.Constant (.str msg) j p3] env)) []) := by
  have e : methodCallPos true (.Call (.Name "super" p0) [] [] p1) env p2 p4 = pure p4 := by
    unfold methodCallPos
    rw [hl]
    rfl
  have e2 : methodCallForm ([Expr.Constant (.str msg) j p3].length + 0) (backTo p4 (starEach [.Constant (.str msg) j p3] env)) [] = true := rfl
  show (attributeBase _ _ _ _ >>= fun ov => standAt _ >>= fun _ => methodCall _ _ _ _ _ ov _ _ _) = _
  unfold methodCall
  show (attributeBase _ _ _ _ >>= fun ov => standAt _ >>= fun _ => holding [ov] (calleeOf (methodCallForm ([Expr.Constant (.str msg) j p3].length + 0) (backTo p4 (starEach [.Constant (.str msg) j p3] env)) []) _ _ ov _) >>= fun z =>
    methodCallPos (methodCallForm ([Expr.Constant (.str msg) j p3].length + 0) (backTo p4 (starEach [.Constant (.str msg) j p3] env)) []) _ _ _ _ >>= fun cp => callWith cp z.1 z.2 _ _) = _
  rw [e2, e]
  rfl
/-- super().__init__('..') as the first statement -/
theorem x_super {x C fI t0 L cc cda : Addr} {qual nm2 : Str} {fs : List Str} {mL : Str → Option Value} {st : Stmt} {sc : Scope} {body rest : List Stmt} {fd : FuncData} {ar : Arg} {vs : Array Value} {file : Str} {tf : Tok} {oc ccl cl : Value} {od cdd cld : Option Addr} {osl ccs csl : Array (Option Value)}
    {msg : Str} {j : Nat} {p0 p1 p2 p3 p4 p5 : Pos} {Q : Flow → Shared → Prop} (T : XCls prog K mg nm2 qual C fI st) (S : XScope sc fs) (X : K.In h) (hg : h.Ns mainGlobals mg) (hb : ∃ mb, h.Ns builtinsNs mb ∧ ∀ x : Str, x ≠ "__name__" → mb x = bootBuiltins x)
    (hns : h.Ns L mL) (hL : mL ar.arg = some (.ref x)) (hlo : sc.names.lookup ar.arg = some .local)
    (hl : (p2.endLine == p4.line) = true) (hx : h.get? x = some (excO C t0)) (hf : K.lookup fI = some ⟨oc, od, .func fd, osl⟩) (hp : (fd.params.posonlyargs ++ fd.params.args).head? = some ar)
    (hcode : K.lookup cda = some ⟨ccl, cdd, .fields vs, ccs⟩) (hvs : vs[2]? = some (.str file tf)) (hfile : ((prog.main.file : Str) == file) = true) (hcell : K.lookup cc = some ⟨cl, cld, .cell (some (.ref C)), csl⟩)
    (hq : ∀ h' t' t1, (∀ b o, b ≠ x → h.get? b = some o → h'.get? b = some o) → h'.get? x = some (excO C t1) → wpAny (model prog w) A (execs rest (ksEnv qual sc L fI (.ref cda) cc)) Q E ⟨h', g, d, t', os⟩) :
    _root_.PySem.wpAt (model prog w) A (.func body (ksEnv qual sc L fI (.ref cda) cc)) (execs (xSup msg j p0 p1 p2 p3 p4 p5 :: rest) (ksEnv qual sc L fI (.ref cda) cc)) Q E ⟨h, g, d, t, os⟩ := by
  obtain ⟨kind, nms, ig, ic, mo⟩ := sc
  have ek : kind = .function := S.kind
  subst ek
  obtain ⟨nm, q, N, bs, bm, sn, sub, ab, col, dd, k0, k1, k2, k3, k5, hC, hbm⟩ := T.cls
  obtain ⟨mb, hb1, hb2⟩ := hb
  have hcl : clsIn K C = some { name := nm, bases := bs, mro := .ref C :: bm, ns := N, qualname := q, hasDict := true, slotNames := sn, subclasses := sub, abstract := ab, collection := col, hasDel := false } := by unfold clsIn; rw [hC] <;> rfl
  have hCh := X _ _ hC
  refine ks_wpAt_execs_cons (ks_wpAt_Expr_any (ks_wpAt_MethodCall ?_ (x_call hl)) (by rfl) (by rfl))
  refine ks_wpAt_super_base (env := ksEnv qual { kind := .function, names := nms, isGenerator := ig, isCoroutine := ic, more := mo } L fI (.ref cda) cc) S.sup S.cls (by decide) rfl (X _ _ hf) rfl hp rfl (X _ _ hcode) rfl hvs hfile T.top ?_
  refine ks_loadName_global S.kind S.sup (loadGlobal_builtin (env := ksEnv qual { kind := .function, names := nms, isGenerator := ig, isCoroutine := ic, more := mo } L fI (.ref cda) cc) hg T.sup hb1 ((hb2 _ (by decide)).trans (by decide +kernel)) ⟨rfl, ?_⟩)
  refine wpAny_loadName_free S.kind S.cls rfl ⟨_, X _ _ hcell, rfl⟩ ?_
  refine wpAny_loadName_local S.kind hlo hns hL ?_
  refine ks_wpAny_isType_cls hCh rfl ⟨rfl, ?_⟩
  refine ks_wpAny_call_super hCh rfl hx rfl (fun c e => by cases e) (looks_mroIn X T.self) (fun h1 e1 kk1 => ?_)
  have X1 : K.In h1 := X.keeps kk1
  have hx1 := kk1 _ _ hx
  have hxC : x ≠ C := fun e => by rw [e, hCh] at hx; cases hx
  have I1 : InstAt h1 x (excO C t0) C none := ⟨hx1, rfl, rfl, trivial⟩
  have up := T.up
  unfold ks_superIn at up
  rw [hcl] at up
  refine kxs_getMethod kxs_ValueError e1 (looks_opaque X1 T.opq) (l₀ := .ref C :: bm) (fun A Q E s k q => wpAny_bind ((looks_clsIn X1 hcl) A _ E s k (wpAny_pure q))) rfl X1 up (I1.type.andThen (looks_subIn X1 T.veC)) hxC (by decide) ?_
  have hu : (h1.push (kxs_mw "ValueError.__init__" x)).get? h1.objs.size = some (kxs_mw "ValueError.__init__" x) := Heap.get?_push_at rfl rfl
  have kk2 : ∀ b o, h1.get? b = some o → (h1.push (kxs_mw "ValueError.__init__" x)).get? b = some o := fun b o e => Heap.get?_push_of_some _ e
  refine kxs_callWith (i := "ValueError.__init__") (x := x) (by rfl) ?_
  refine L2.FK.evalArgs_any (by rfl) (spliced_more (e := .Constant (.str msg) j p3) (rest := []) ?_ (by rfl))
  refine Calls.Constant_str ?_
  refine spliced_none ⟨hu, ?_⟩
  refine wpAny_call (codeAny_of_tree ?_)
  show wpAny _ A.in1 (callAny (.ref h1.objs.size) ⟨_, []⟩) _ _ _
  simp only [callAny]
  refine wpAny_bind (wpAny_load hu ?_)
  simp only [kxs_mw, show (Value.type "method-wrapper" == Value.type "method" || Value.type "method-wrapper" == Value.type "builtin_function_or_method" || Value.type "method-wrapper" == Value.type "method-wrapper") = true by decide, if_true]
  refine KFB.if_so (by decide) ?_
  refine wpAny_bind (check_bound_init F.excBase_ValueError.toExcCallFacts (kk2 _ _ (kk1 _ _ hCh)) (kk2 _ _ hx1) rfl ?_)
  refine wpAny_bind (wpAny_pure (wpAny_pure ?_))
  refine ⟨plainId_quiet F.excBase_ValueError.init.plain _, codeAny_builtin F.excBase_ValueError.initEntry ?_⟩
  refine exc_init_tree (cls := .ref C) (t0 := t0) (dv := none) (c2 := .none) (c3 := .none) (b4 := .bool false) (kk2 _ _ hx1) (by show 1 ≤ sizeLine; rw [sizeLine_eq]; decide) (fun h' kk3 e3 _ => ?_)
  exact wpAt_of_wpAny (hq _ _ _ (fun b o hb e => kk3 b o hb (kk2 _ _ (kk1 _ _ e))) e3)

theorem x_ld {M : Model} {s : Shared} {qual : Str} {sc : Scope} {L a cc : Addr} {cd : Value} {m : Str → Option Value} {x : Str} {pos : Pos} {v : Value} {Q : Value → Shared → Prop} (hn : s.heap.Ns L m) (hv : m x = some v) (h : Q v s)
    (hk : sc.kind = .function) (hl : sc.names.lookup x = some .local) (hd : (x == ("__debug__" : Str)) = false) :
    wpAny M A (eval (.Name x pos) (ksEnv qual sc L a cd cc)) Q E s := wpAny_Name (wpAny_loadName_local hk hl hn hv h) hd
/-- what the made exception's __init__ leaves -/
structure XEnd (h h' : Heap) (x C dx : Addr) (m : Str → Option Value) : Prop where
  keep : ∀ b o, b ≠ x → h.get? b = some o → h'.get? b = some o
  obj : ∃ t1, h'.get? x = some { cls := .ref C, dict := some dx, data := .fields #[.ref t1, .none, .none, .none, .bool false, .none] }
  dbig : h.objs.size ≤ dx
  dne : dx ≠ x
  ns : h'.Ns1 dx m
structure XBody (st : Stmt) (fs : List Str) : Prop where
  ex : ∃ (msg : Str) (j : Nat) (p0 p1 p2 p3 p4 p5 : Pos) (sets : List Stmt), (p2.endLine == p4.line) = true ∧ L2.defBody st = xSup msg j p0 p1 p2 p3 p4 p5 :: sets ∧
    ((∃ f q1 q2 q3 q4, fs = [f] ∧ sets = [xSet f q1 q2 q3 q4]) ∨ ∃ f f2 q1 q2 q3 q4 r1 r2 r3 r4, fs = [f, f2] ∧ sets = [xSet f q1 q2 q3 q4, xSet f2 r1 r2 r3 r4])
  head : ∃ ar, ((L2.defArgs st).posonlyargs ++ (L2.defArgs st).args).head? = some ar ∧ ar.arg = "self"
  bind : ∀ (qual : Str) (doc pm : Value) (an : Option Addr) (cd ct : Value) (cc : Addr) (u : Value) (us : List Value), us.length = fs.length →
    bindArgs (ksFn "__init__" qual (L2.defArgs st) (L2.defBody st) (L2.defScope st) .none .none doc pm an cd ct cc) ⟨u :: us, []⟩ = pure ((("self" : Str), u) :: fs.zip us)
  sc : XScope (L2.defScope st) fs
  dbg : ∀ f ∈ fs, (f == ("__debug__" : Str)) = false
  nd : (("self" : Str) :: fs).Nodup
def mOf (l : List (Str × Value)) : Str → Option Value := fun y => l.lookup y

theorem x_set {s : Shared} {x C fI L cc : Addr} {cda : Value} {qual nm2 f : Str} {fs : List Str} {mL : Str → Option Value} {st : Stmt} {sc : Scope} {v : Value} {ox : Obj} {od : Option Obj} {q1 q2 q3 q4 : Pos} {Q : Flow → Shared → Prop}
    (T : XCls prog K mg nm2 qual C fI st) (S : XScope sc fs) (X : K.In s.heap) (hns : s.heap.Ns L mL) (hself : mL "self" = some (.ref x)) (hf : f ∈ fs) (hv : mL f = some v) (hd : (f == ("__debug__" : Str)) = false) (J : InstAt s.heap x ox C od)
    (h : codeAny (model prog w) A (.call (.builtin "object.__setattr__") ⟨[.ref x, .str f s.toks, v], []⟩) (fun r s' => match r with | .ok (.ret _) => Q .next s' | .ok _ => False | .error e => E e s') { s with toks := s.toks + 1 }) :
    wpAny (model prog w) A (exec (xSet f q1 q2 q3 q4) (ksEnv qual sc L fI cda cc)) Q E s := by
  refine plainObj_wpAny_Assign_Attribute ?_ (by rfl)
  refine x_ld hns hv ?_ S.kind (S.fld f hf) hd
  refine x_ld hns hself ?_ S.kind S.self (by decide)
  exact set_plain X J T.sa h
theorem x_init1 {s : Shared} {x C fI t0 : Addr} {qual nm2 f : Str} {st : Stmt} {v : Value} {R : Result → Shared → Prop} (T : XCls prog K mg nm2 qual C fI st) (B : XBody st [f]) (noF : findIn K (.ref C) f = some none)
    (X : K.In s.heap) (hg : s.heap.Ns mainGlobals mg) (hb : ∃ mb, s.heap.Ns builtinsNs mb ∧ ∀ x : Str, x ≠ "__name__" → mb x = bootBuiltins x) (hlim : s.heap.NoLimit) (hx : s.heap.get? x = some (excO C t0)) (hnx : K.lookup x = none) (hgx : x ≠ mainGlobals) (hbx : x ≠ builtinsNs) (hroom : A.depth < recursionLimit)
    (hq : ∀ h' tk dx, XEnd s.heap h' x C dx (fun y => if y = f then some v else none) → R (.ok (.ret .none)) { s with heap := h', toks := tk }) :
    codeAny (model prog w) A (.call (.ref fI) ⟨[.ref x, v], []⟩) R s := by
  obtain ⟨oc, od, doc, pm, an, ct, osl, cda, cc, ccl, cl, cdd, cld, ccs, csl, vs, file, tf, ho, hcd, hcode, hvs, hfile, hcell⟩ := T.fn
  obtain ⟨nm, q, N, bs, bm, sn, sub, ab, col, dd, k0, k1, k2, k3, k5, hC, hbm⟩ := T.cls
  have hcl : clsIn K C = some { name := nm, bases := bs, mro := .ref C :: bm, ns := N, qualname := q, hasDict := true, slotNames := sn, subclasses := sub, abstract := ab, collection := col, hasDel := false } := by unfold clsIn; rw [hC] <;> rfl
  obtain ⟨msg, j, p0, p1, p2, p3, p4, p5, sets, hl, eB, eS⟩ := B.ex
  obtain ⟨q1, q2, q3, q4, rfl⟩ : ∃ q1 q2 q3 q4, sets = [xSet f q1 q2 q3 q4] := by
    rcases eS with ⟨f', q1, q2, q3, q4, e1, e2⟩ | ⟨f', f2, q1, q2, q3, q4, r1, r2, r3, r4, e1, e2⟩
    · cases e1
      exact ⟨q1, q2, q3, q4, e2⟩
    · cases e1
  obtain ⟨ar, hhead, har⟩ := B.head
  have hbd := B.bind qual doc pm an (.ref cda) ct cc (.ref x) [v] rfl
  rw [eB] at ho hbd
  have S := B.sc
  generalize L2.defScope st = sc at ho S hbd
  have fne : f ≠ "self" := by
    have z := B.nd
    rw [List.nodup_cons] at z
    exact fun e => z.1 (by rw [e]; exact List.mem_cons_self ..)
  have hb1 : (([(("self" : Str), Value.ref x), (f, v)]).reverse.lookup ("self" : Str)) = some (.ref x) := by
    show List.lookup ("self" : Str) [(f, v), (("self" : Str), Value.ref x)] = _
    have z : (("self" : Str) == f) = false := by simpa using fun e => fne e.symm
    simp [List.lookup, z]
  have hb2 : (([(("self" : Str), Value.ref x), (f, v)]).reverse.lookup f) = some v := by
    show List.lookup f [(f, v), (("self" : Str), Value.ref x)] = _
    simp [List.lookup]
  refine ks_codeAny_call_defAt (binds := [("self", .ref x), (f, v)]) hroom (X _ _ ho) rfl hlim (codeRec_of X hcd) rfl (.of_eq hbd) S.nocell ?_ (fun h₁ hns hk₁ => ?_) S.co S.gen S.kind
  · intro y hy
    rcases List.mem_cons.mp hy with rfl | hy
    · exact S.self
    · rcases List.mem_cons.mp hy with rfl | hy
      · exact S.fld f (by simp)
      · cases hy
  have X₁ : K.In h₁ := X.keeps hk₁
  have hx₁ := hk₁ _ _ hx
  obtain ⟨mb, hb3, hb4⟩ := hb
  refine x_super T S X₁ (hg.keeps hk₁) ⟨mb, hb3.keeps hk₁, hb4⟩ hns (by rw [har]; exact hb1) (by rw [har]; exact S.self) hl hx₁ ho hhead hcode hvs hfile hcell (fun h2 t2 t1 kk2 hx2 => ?_)
  have hLx : s.heap.objs.size ≠ x := Nat.ne_of_gt (Heap.lt_size hx)
  have X2 : K.In h2 := fun b o e => kk2 b o (fun z => by rw [z, hnx] at e; cases e) (X₁ b o e)
  have hns2 : h2.Ns s.heap.objs.size (fun y => [(("self" : Str), Value.ref x), (f, v)].reverse.lookup y) := by
    obtain ⟨oL, es, ep, e1, r⟩ := hns
    exact ⟨oL, es, ep, kk2 _ _ hLx e1, r⟩
  refine wpAny_execs_cons (x_set T S X2 hns2 hb1 (by simp) hb2 (B.dbg f (by simp)) (ox := excO C t1) (od := none) ⟨hx2, rfl, rfl, trivial⟩ ?_)
  refine exc_osa X2 hx2 hcl (show refsVE (.ref C :: bm) = true from hbm) rfl noF (fun h3 tk3 dx kk3 dn dne hx3 hn3 => ?_)
  show wpAny _ _ (execs _ _) _ _ _
  have z2 : s.heap.objs.size < h2.objs.size := hns2.lt
  exact wpAny_execs_nil (hq h3 tk3 dx ⟨fun b o hb e => kk3 b o hb (kk2 b o hb (hk₁ b o e)), ⟨t1, hx3⟩, Nat.le_of_lt (Nat.lt_of_lt_of_le z2 dn), dne, hn3⟩)
theorem x_init2 {s : Shared} {x C fI t0 : Addr} {qual nm2 f f2 : Str} {st : Stmt} {v v2 : Value} {R : Result → Shared → Prop} (T : XCls prog K mg nm2 qual C fI st) (B : XBody st [f, f2]) (noF : findIn K (.ref C) f = some none) (noF2 : findIn K (.ref C) f2 = some none)
    (X : K.In s.heap) (hg : s.heap.Ns mainGlobals mg) (hb : ∃ mb, s.heap.Ns builtinsNs mb ∧ ∀ x : Str, x ≠ "__name__" → mb x = bootBuiltins x) (hlim : s.heap.NoLimit) (hx : s.heap.get? x = some (excO C t0)) (hnx : K.lookup x = none) (hgx : x ≠ mainGlobals) (hbx : x ≠ builtinsNs) (hroom : A.depth < recursionLimit)
    (hq : ∀ h' tk dx, XEnd s.heap h' x C dx (fun y => if y = f2 then some v2 else if y = f then some v else none) → R (.ok (.ret .none)) { s with heap := h', toks := tk }) :
    codeAny (model prog w) A (.call (.ref fI) ⟨[.ref x, v, v2], []⟩) R s := by
  obtain ⟨oc, od, doc, pm, an, ct, osl, cda, cc, ccl, cl, cdd, cld, ccs, csl, vs, file, tf, ho, hcd, hcode, hvs, hfile, hcell⟩ := T.fn
  obtain ⟨nm, q, N, bs, bm, sn, sub, ab, col, dd, k0, k1, k2, k3, k5, hC, hbm⟩ := T.cls
  have hcl : clsIn K C = some { name := nm, bases := bs, mro := .ref C :: bm, ns := N, qualname := q, hasDict := true, slotNames := sn, subclasses := sub, abstract := ab, collection := col, hasDel := false } := by unfold clsIn; rw [hC] <;> rfl
  obtain ⟨msg, j, p0, p1, p2, p3, p4, p5, sets, hl, eB, eS⟩ := B.ex
  obtain ⟨q1, q2, q3, q4, r1, r2, r3, r4, rfl⟩ : ∃ q1 q2 q3 q4 r1 r2 r3 r4, sets = [xSet f q1 q2 q3 q4, xSet f2 r1 r2 r3 r4] := by
    rcases eS with ⟨f', q1, q2, q3, q4, e1, e2⟩ | ⟨f', f2', q1, q2, q3, q4, r1, r2, r3, r4, e1, e2⟩
    · cases e1
    · cases e1
      exact ⟨q1, q2, q3, q4, r1, r2, r3, r4, e2⟩
  obtain ⟨ar, hhead, har⟩ := B.head
  have hbd := B.bind qual doc pm an (.ref cda) ct cc (.ref x) [v, v2] rfl
  rw [eB] at ho hbd
  have S := B.sc
  generalize L2.defScope st = sc at ho S hbd
  have fne : f ≠ "self" ∧ f2 ≠ "self" ∧ f ≠ f2 := by
    have z := B.nd
    rw [List.nodup_cons, List.nodup_cons] at z
    exact ⟨fun e => z.1 (by rw [e]; simp), fun e => z.1 (by rw [e]; simp), fun e => z.2.1 (by rw [e]; simp)⟩
  have hb1 : (([(("self" : Str), Value.ref x), (f, v), (f2, v2)]).reverse.lookup ("self" : Str)) = some (.ref x) := by
    show List.lookup ("self" : Str) [(f2, v2), (f, v), (("self" : Str), Value.ref x)] = _
    have z : (("self" : Str) == f) = false := by simpa using fun e => fne.1 e.symm
    have z2 : (("self" : Str) == f2) = false := by simpa using fun e => fne.2.1 e.symm
    simp [List.lookup, z, z2]
  have hb2 : (([(("self" : Str), Value.ref x), (f, v), (f2, v2)]).reverse.lookup f) = some v := by
    show List.lookup f [(f2, v2), (f, v), (("self" : Str), Value.ref x)] = _
    have z : (f == f2) = false := by simpa using fne.2.2
    simp [List.lookup, z]
  have hb2' : (([(("self" : Str), Value.ref x), (f, v), (f2, v2)]).reverse.lookup f2) = some v2 := by
    show List.lookup f2 [(f2, v2), (f, v), (("self" : Str), Value.ref x)] = _
    simp [List.lookup]
  refine ks_codeAny_call_defAt (binds := [("self", .ref x), (f, v), (f2, v2)]) hroom (X _ _ ho) rfl hlim (codeRec_of X hcd) rfl (.of_eq hbd) S.nocell ?_ (fun h₁ hns hk₁ => ?_) S.co S.gen S.kind
  · intro y hy
    rcases List.mem_cons.mp hy with rfl | hy
    · exact S.self
    · rcases List.mem_cons.mp hy with rfl | hy
      · exact S.fld f (by simp)
      · rcases List.mem_cons.mp hy with rfl | hy
        · exact S.fld f2 (by simp)
        · cases hy
  have X₁ : K.In h₁ := X.keeps hk₁
  have hx₁ := hk₁ _ _ hx
  obtain ⟨mb, hb3, hb4⟩ := hb
  refine x_super T S X₁ (hg.keeps hk₁) ⟨mb, hb3.keeps hk₁, hb4⟩ hns (by rw [har]; exact hb1) (by rw [har]; exact S.self) hl hx₁ ho hhead hcode hvs hfile hcell (fun h2 t2 t1 kk2 hx2 => ?_)
  have hLx : s.heap.objs.size ≠ x := Nat.ne_of_gt (Heap.lt_size hx)
  have X2 : K.In h2 := fun b o e => kk2 b o (fun z => by rw [z, hnx] at e; cases e) (X₁ b o e)
  have hns2 : h2.Ns s.heap.objs.size (fun y => [(("self" : Str), Value.ref x), (f, v), (f2, v2)].reverse.lookup y) := by
    obtain ⟨oL, es, ep, e1, r⟩ := hns
    exact ⟨oL, es, ep, kk2 _ _ hLx e1, r⟩
  refine wpAny_execs_cons (x_set T S X2 hns2 hb1 (by simp) hb2 (B.dbg f (by simp)) (ox := excO C t1) (od := none) ⟨hx2, rfl, rfl, trivial⟩ ?_)
  refine exc_osa X2 hx2 hcl (show refsVE (.ref C :: bm) = true from hbm) rfl noF (fun h3 tk3 dx kk3 dn dne hx3 hn3 => ?_)
  show wpAny _ _ (execs _ _) _ _ _
  have z2 : s.heap.objs.size < h2.objs.size := hns2.lt
  have X3 : K.In h3 := fun b o e => kk3 b o (fun z => by rw [z, hnx] at e; cases e) (X2 b o e)
  have hns3 : h3.Ns s.heap.objs.size (fun y => [(("self" : Str), Value.ref x), (f, v), (f2, v2)].reverse.lookup y) := by
    obtain ⟨oL, es, ep, e1, r⟩ := hns2
    exact ⟨oL, es, ep, kk3 _ _ hLx e1, r⟩
  have W1 : Within (fun y => if y = f then some v else none) [f] := Within.cons f v Within.nil
  obtain ⟨oD, esD, epD, hoD, hdD, _⟩ := hn3.count W1
  refine wpAny_execs_cons (x_set T S X3 hns3 hb1 (by simp) hb2' (B.dbg f2 (by simp)) (ox := { cls := .ref C, dict := some dx, data := .fields #[.ref t1, .none, .none, .none, .bool false, .none] }) (od := some oD) ⟨hx3, rfl, rfl, hoD⟩ ?_)
  refine PySem.OEX.osa_old X3 hx3 hn3 W1 (by show 1 ≤ 1000; decide) hcl (show refsVE (.ref C :: bm) = true from hbm) rfl noF2 (fun h4 tk4 kk4 hn4 => ?_)
  show wpAny _ _ (execs _ _) _ _ _
  refine wpAny_execs_nil (hq h4 tk4 dx ⟨fun b o hb e => ?_, ⟨t1, kk4 _ _ (Ne.symm dne) hx3⟩, Nat.le_of_lt (Nat.lt_of_lt_of_le z2 dn), dne, hn4⟩)
  have hbd' : b ≠ dx := fun z => by
    have y := Heap.lt_size e
    rw [z] at y
    exact absurd (Nat.lt_of_lt_of_le y (Nat.le_trans (Nat.le_of_lt z2) dn)) (Nat.lt_irrefl _)
  exact kk4 b o hbd' (kk3 b o hb (kk2 b o hb (hk₁ b o e)))

/-- a made error -/
structure XMade (h h' : Heap) (e C d : Addr) (m : Str → Option Value) : Prop where
  keep : ∀ b o, h.get? b = some o → h'.get? b = some o
  new : h.objs.size ≤ e
  obj : ∃ oe vs, h'.get? e = some oe ∧ oe.cls = .ref C ∧ oe.dict = some d ∧ oe.data = .fields vs ∧ vs[1]? = some .none ∧ vs[2]? = some .none
  dbig : h.objs.size ≤ d
  dne : d ≠ e
  ns : h'.Ns1 d m
theorem x_made {s : Shared} {C fI : Addr} {qual nm2 : Str} {fs : List Str} {st : Stmt} {vs : List Value} {m : Str → Option Value} {R : Result → Shared → Prop} (T : XCls prog K mg nm2 qual C fI st)
    (hv : (∃ f v, fs = [f] ∧ vs = [v] ∧ m = fun y => if y = f then some v else none) ∨ ∃ f f2 v v2, fs = [f, f2] ∧ vs = [v, v2] ∧ m = fun y => if y = f2 then some v2 else if y = f then some v else none)
    (B : XBody st fs) (noF : ∀ f ∈ fs, findIn K (.ref C) f = some none)
    (X : K.In s.heap) (hg : s.heap.Ns mainGlobals mg) (hb : ∃ mb, s.heap.Ns builtinsNs mb ∧ ∀ x : Str, x ≠ "__name__" → mb x = bootBuiltins x) (hlim : s.heap.NoLimit) (hroom : A.depth + 1 < recursionLimit)
    (hq : ∀ h' tk e d, XMade s.heap h' e C d m → R (.ok (.ret (.ref e))) { s with heap := h', toks := tk }) :
    codeAny (model prog w) A (.call (.ref C) ⟨vs, []⟩) R s := by
  obtain ⟨nm, q, N, bs, bm, sn, sub, ab, col, dd, k0, k1, k2, k3, k5, hC, hbm⟩ := T.cls
  obtain ⟨hp, g, dr, tk, os⟩ := s
  have lv : vs.length ≤ sizeLine := by
    rw [sizeLine_eq]
    rcases hv with ⟨f, v, _, rfl, _⟩ | ⟨f, f2, v, v2, _, rfl, _⟩
    · exact (by decide : 1 ≤ 16777216)
    · exact (by decide : 2 ≤ 16777216)
  have k : ∀ b o, hp.get? b = some o → ((hp.push (kdv_tup vs)).push (excO C hp.objs.size)).get? b = some o := fun b o e => Heap.get?_push_of_some _ (Heap.get?_push_of_some _ e)
  have hget : ((hp.push (kdv_tup vs)).push (excO C hp.objs.size)).get? (hp.objs.size + 1) = some (excO C hp.objs.size) := by
    have z := Heap.get?_push_size (hp.push (kdv_tup vs)) (o := excO C hp.objs.size) rfl
    rwa [Heap.size_push] at z
  have beyond : ∀ {o}, hp.get? (hp.objs.size + 1) = some o → False := fun z => absurd (Nat.lt_of_succ_lt (Heap.lt_size z)) (Nat.lt_irrefl _)
  have hnx : K.lookup (hp.objs.size + 1) = none := by
    cases e : K.lookup (hp.objs.size + 1) with
    | none => rfl
    | some o => exact (beyond (X _ _ e)).elim
  have ngx : hp.objs.size + 1 ≠ mainGlobals := fun z => by
    have y := hg.lt
    rw [← z] at y
    exact absurd (Nat.lt_of_succ_lt y) (Nat.lt_irrefl _)
  obtain ⟨mb, hb1, hb2⟩ := hb
  have nbx : hp.objs.size + 1 ≠ builtinsNs := fun z => by
    have y := hb1.lt
    rw [← z] at y
    exact absurd (Nat.lt_of_succ_lt y) (Nat.lt_irrefl _)
  refine call_own F.excBase_ValueError (fun X => refsVE_contains X bm hbm) (X _ _ hC) (looks_findIn X T.iC) (fun self => bind_fn X self T.tC) lv ?_
  have fin : ∀ h' tk' dx, XEnd ((hp.push (kdv_tup vs)).push (excO C hp.objs.size)) h' (hp.objs.size + 1) C dx m → InitBack (hp.objs.size + 1) R (.ok (.ret .none)) ⟨h', g, dr, tk', os⟩ := fun h' tk' dx ⟨k', ⟨t1, hx⟩, dn, dne, hns⟩ => by
    have old : ∀ b o, hp.get? b = some o → h'.get? b = some o := fun b o e => k' b o (Nat.ne_of_lt (Nat.lt_succ_of_lt (Heap.lt_size e))) (k b o e)
    have z : hp.objs.size + 1 + 1 ≤ dx := by
      have y := dn
      rw [Heap.size_push, Heap.size_push] at y
      exact y
    exact ⟨rfl, hq h' tk' (hp.objs.size + 1) dx ⟨old, Nat.le_succ _, ⟨_, _, hx, rfl, rfl, rfl, rfl, rfl⟩, Nat.le_trans (Nat.le_trans (Nat.le_succ _) (Nat.le_succ _)) z, dne, hns⟩⟩
  rcases hv with ⟨f, v, rfl, rfl, rfl⟩ | ⟨f, f2, v, v2, rfl, rfl, rfl⟩
  · exact codeAny_mono (x_init1 (s := ⟨(hp.push (kdv_tup [v])).push (excO C hp.objs.size), g, dr, tk, os⟩) T B (noF f (by simp)) (X.keeps k) (hg.keeps k) ⟨mb, hb1.keeps k, hb2⟩ (hlim.keeps k) hget hnx ngx nbx hroom (R := InitBack (hp.objs.size + 1) R) fun h' tk' dx x => fin h' tk' dx x) fun r s2 z => z
  · exact codeAny_mono (x_init2 (s := ⟨(hp.push (kdv_tup [v, v2])).push (excO C hp.objs.size), g, dr, tk, os⟩) T B (noF f (by simp)) (noF f2 (by simp)) (X.keeps k) (hg.keeps k) ⟨mb, hb1.keeps k, hb2⟩ (hlim.keeps k) hget hnx ngx nbx hroom (R := InitBack (hp.objs.size + 1) R) fun h' tk' dx x => fin h' tk' dx x) fun r s2 z => z
end
end KB

namespace KB
open PySem PySem.Spec PyProof.Rows L2
theorem relO1 {v : V} {u : Value} {f : Str} (r : RelV v u) (g : Str) : RelO (List.lookup g [(f, v)]) (if g = f then some u else none) := by
  by_cases h : g = f
  · subst h
    rw [if_pos rfl]
    have q : List.lookup g [(g, v)] = some v := by simp [List.lookup]
    rw [q]
    exact r
  · rw [if_neg h]
    have q : List.lookup g [(f, v)] = none := by
      have z : (g == f) = false := by simpa using h
      simp [List.lookup, z]
    rw [q]
    trivial
theorem relO2 {v v2 : V} {u u2 : Value} {f f2 : Str} (hne : f ≠ f2) (r : RelV v u) (r2 : RelV v2 u2) (g : Str) : RelO (List.lookup g [(f, v), (f2, v2)]) (if g = f2 then some u2 else if g = f then some u else none) := by
  by_cases h2 : g = f2
  · subst h2
    rw [if_pos rfl]
    have z : (g == f) = false := by simpa using fun e => hne e.symm
    have q : List.lookup g [(f, v), (g, v2)] = some v2 := by simp [List.lookup, z]
    rw [q]
    exact r2
  · rw [if_neg h2]
    have z2 : (g == f2) = false := by simpa using h2
    by_cases h : g = f
    · subst h
      rw [if_pos rfl]
      have q : List.lookup g [(g, v), (f2, v2)] = some v := by simp [List.lookup]
      rw [q]
      exact r
    · rw [if_neg h]
      have z : (g == f) = false := by simpa using h
      have q : List.lookup g [(f, v), (f2, v2)] = none := by simp [List.lookup, z, z2]
      rw [q]
      trivial
/-- the error's class x, at C, with the fields fs -/
structure XErr (P : Program) (K : PySem.W.Frag) (mg : Str → Option Value) (x : Str) (C : Addr) (fs : List Str) : Prop where
  ex : ∃ (qual : Str) (fI : Addr) (st : Stmt), XCls P K mg x qual C fI st ∧ XBody st fs ∧ ∀ f ∈ fs, PySem.W.findIn K (.ref C) f = some none
theorem XErr.te {P : Program} {K : PySem.W.Frag} {mg : Str → Option Value} {x : Str} {C : Addr} {fs : List Str} (T : XErr P K mg x C fs) : PySem.W.exmOne K (.ref C) (.ref C) = some true := by
  obtain ⟨_, _, _, h, _⟩ := T.ex
  exact h.te
theorem XErr.gC {P : Program} {K : PySem.W.Frag} {mg : Str → Option Value} {x : Str} {C : Addr} {fs : List Str} (T : XErr P K mg x C fs) : mg x = some (.ref C) := by
  obtain ⟨_, _, _, h, _⟩ := T.ex
  exact h.gC
theorem XErr.xf {P : Program} {K : PySem.W.Frag} {mg : Str → Option Value} {x : Str} {C : Addr} {fs : List Str} (T : XErr P K mg x C fs) : XfC K C := by
  obtain ⟨_, _, _, h, _⟩ := T.ex
  exact ⟨h.ga, h.gg, h.exC, h.hdC⟩
theorem XErr.no {P : Program} {K : PySem.W.Frag} {mg : Str → Option Value} {x : Str} {C : Addr} {fs : List Str} (T : XErr P K mg x C fs) {f : Str} (h : f ∈ fs) : PySem.W.findIn K (.ref C) f = some none := by
  obtain ⟨_, _, _, _, _, z⟩ := T.ex
  exact z f h
/-- X(e, ..) -/
def tMkX (C : Addr) (fs : List Str) (ta : TA) : L2.St → Hp → XK → Prop := fun σ H Q => ta σ H fun vs H1 => vs.length = fs.length ∧ ∀ d, H1 d = none → Q (.ref C) (some d) (upd H1 d (.xd (fs.zip vs)))
section
variable {X : Cx} {C : Addr} {fs : List Str} {x : Str}
theorem pmk_x {a : Expr} {as : List Expr} {ta : TA} {p pos : Pos} {k : Nat} (T : XErr X.prog X.K X.mg x C fs) (hr : Room k X.A) (ha : PA X (a :: as) ta) (hg : Gl X x := by rfl) (hdb : (x == ("__debug__" : Str)) = false := by decide)
    (he : starEach (a :: as) X.env = (false, eval a X.env) :: starEach as X.env := by rfl) (hpl : (backTo pos (starEach as X.env)).any (·.1) = false := by rfl) :
    L2N.PMk X (.Call (.Name x p) (a :: as) [] pos) (tMkX C fs ta) := by
  intro pins s σ H Q I h
  obtain ⟨qual, fI, st, T1, B, nof⟩ := T.ex
  refine wpAny_Call_Name_kw (ld_glob I hg T1.gC ?_ hdb)
  refine PySem.W.callWith_K (h₀ := X.base) I.ok.mod.kin T1.kC (thn (ha.run pos pins s σ H _ I h) fun us s1 hh => ?_) he hpl
  obtain ⟨vs, H1, I1, r1, lv, q1⟩ := hh
  refine ⟨I1.kIn, ?_⟩
  show wpAny _ _ (call (.ref C) us) _ _ _
  have hlim := I1.nolimit
  obtain ⟨mb, b1, b2⟩ := I1.mod.blt
  have hm : ∃ m : Str → Option Value, ((∃ f v, fs = [f] ∧ us = [v] ∧ m = fun y => if y = f then some v else none) ∨ ∃ f f2 v v2, fs = [f, f2] ∧ us = [v, v2] ∧ m = fun y => if y = f2 then some v2 else if y = f then some v else none) ∧
      ∀ g, RelO (List.lookup g (fs.zip vs)) (m g) := by
    obtain ⟨msg, j, p0, p1, p2, p3, p4, p5, sets, hl, eB, eS⟩ := B.ex
    rcases eS with ⟨f, q1, q2, q3, q4, rfl, _⟩ | ⟨f, f2, q1, q2, q3, q4, r1', r2, r3, r4, rfl, _⟩
    · cases r1 with
      | nil => cases lv
      | cons rv rn =>
        cases rn with
        | nil => exact ⟨_, .inl ⟨f, _, rfl, rfl, rfl⟩, fun g => relO1 rv g⟩
        | cons _ _ => simp at lv
    · have fne : f ≠ f2 := by
        have z := B.nd
        rw [List.nodup_cons, List.nodup_cons] at z
        exact fun e => z.2.1 (by rw [e]; simp)
      cases r1 with
      | nil => cases lv
      | cons rv rn =>
        cases rn with
        | nil => simp at lv
        | cons rv2 rn2 =>
          cases rn2 with
          | nil => exact ⟨_, .inr ⟨f, f2, _, _, rfl, rfl, rfl⟩, fun g => relO2 fne rv rv2 g⟩
          | cons _ _ => simp at lv
  obtain ⟨m, hv, hrel⟩ := hm
  have kI := I1.kIn
  have gI := I1.mod.glob.keeps I1.bk
  have bI := b1.keeps I1.bk
  obtain ⟨hp, g, dr, tk, os⟩ := s1
  refine wpAny_call (x_made T1 hv B nof kI gI ⟨mb, bI, b2⟩ hlim (by have := hr.dp; omega) fun h' tk' e d M => ?_)
  show L2N.MkP X pins σ Q (.ref e) ⟨h', g, dr, tk', os⟩
  obtain ⟨oe, fv, hoe, hc, hd, hdat, h1, h2⟩ := M.obj
  have hns := M.ns
  obtain ⟨G', g1, g2⟩ := restrict h' fun b => decide (b ≠ e)
  have gk : ∀ b, b ≠ e → G'.get? b = h'.get? b := fun b hb => g1 b (decide_eq_true hb)
  have ge : G'.get? e = none := g2 e (by simp)
  have old : ∀ b o, hp.get? b = some o → G'.get? b = some o := fun b o q => (gk b (Nat.ne_of_lt (Nat.lt_of_lt_of_le (Heap.lt_size q) M.new))).trans (M.keep b o q)
  have ob : ObjOk X.prog X.w (upd H1 d (.xd (fs.zip vs))) G' d (.xd (fs.zip vs)) := ⟨_, hns.at (fun o q => (gk d M.dne).trans q), fun f => hrel f⟩
  have J : Inv X pins σ (upd H1 d (.xd (fs.zip vs))) ⟨G', g, dr, tk', os⟩ := I1.laid (t' := tk') old M.dbig ob
  refine ⟨e, oe, fv, ⟨G', g, dr, tk', os⟩, _, .ref C, some d, rfl, J, fun b o q => ?_, ge, hoe, ⟨hc, hd, ?_⟩, hdat, h1, ?_, rfl, I1.bare, raises_own T1.exC T1.tyC, q1 d (I1.hok.fresh M.dbig)⟩
  · by_cases hb : b = e
    · have q' : G'.get? b = some o := q
      rw [hb, ge] at q'; cases q'
    · exact (gk b hb).symm.trans q
  · intro vs' e'
    rw [hdat] at e'
    cases e'
    exact h2
  · rw [upd_ne (Ne.symm M.dne)]
    exact I1.hok.fresh M.new
end
end KB

/-! operators of own classes -/
namespace KB
open PySem PySem.W PySem.Calls PyProof.Rows
theorem ne_bind (self : Value) : bindSpecial (.builtin "object.__ne__") self = pure (.builtin "object.__ne__", [self]) := F.slot_object_ne.bind self
section
variable {prog : Program} {w : World} {A : Around} {E : Value → Shared → Prop} {s : Shared} {K : Frag} {x C f : Addr} {ox : Obj} {od : Option Obj} {b tb : Value}
/-- object.__ne__ asks the own __eq__ -/
theorem ne_own {Q : Value → Shared → Prop} (hu : A.units + 1 < cLine) (X : K.In s.heap) (I : InstAt s.heap x ox C od) (hb : Looks (model prog w) s.heap (typeOf b) tb) (hn : notFirst K C tb = true)
    (hs : findIn K (.ref C) "__ne__" = some (some (.builtin "object.__ne__"))) (he : findIn K (.ref C) "__eq__" = some (some (.ref f))) (hf : isFn K (.ref f) = true) (top : mroIn K C (.type "object") = some true)
    (h : wpAny (model prog w) A.in1 (call (.ref f) [.ref x, b]) (fun v s' => ∃ k, v = .bool k ∧ Q (.bool (!k)) s') E s) : wpAny (model prog w) A (richCompare .NotEq (.ref x) b) Q E s := by
  have sub : Looks (model prog w) s.heap (isInstance (.ref x) (.type "object")) true := I.type.andThen (looks_mroIn X top)
  have inner : wpAny (model prog w) A (call (.builtin "object.__ne__") ([.ref x] ++ [b])) (fun v s' => Q v s' ∧ v ≠ .notImplemented) E s := by
    refine wpAny_call (codeAny_call_builtin F.slot_object_ne.plain F.cmpEntry_ne (@check_slot (model prog w) _ _ s "object.__ne__" "object" "__ne__" (.ref x) [b] [] _ F.cmpKind_ne F.cmpSplit_ne sub (F.cmpArgs_ne _ _) ?_))
    have go : wpAny (model prog w) A.in1 (callSpecialIfBound? (.ref x) "__eq__" [b]) (fun r s' => ∃ k, r = some (.bool k) ∧ Q (.bool (!k)) s') E s := by
      refine ifBound_K X I he hf (wpAny_mono h (fun v s' hv => ?_) fun _ _ e => e)
      obtain ⟨k, rfl, q⟩ := hv
      exact ⟨k, rfl, q⟩
    unfold Builtin.«object.__ne__»
    refine wpAny_bind (wpAny_of_eq (a := ((Value.ref x : Value), [b])) (by first | rfl | (simp only [Builtin.slotArgs]; rfl)) ?_)
    refine wpAny_bind (wpAny_cRoomFor hu ?_)
    refine wpAny_bind (wpAny_mono go (fun r s' hr => ?_) fun _ _ e => e)
    obtain ⟨k, rfl, q⟩ := hr
    refine wpAny_bind (wpAny_truthy_bool ?_)
    exact wpAny_pure ⟨q, fun z => by cases z⟩
  have one : wpAny (model prog w) A (tryCompare (.ref x) (cmpInfo .NotEq).2.1 b) (fun r s' => ∃ v, r = some v ∧ Q v s') E s := by
    have bound : wpAny (model prog w) A (callSpecialIfBound? (.ref x) "__ne__" [b]) (fun r s' => ∃ v, r = some v ∧ Q v s' ∧ v ≠ .notImplemented) E s := by
      simp only [callSpecialIfBound?, bindSpecialIfBound?]
      refine wpAny_holding (wpAny_bind (wpAny_bind (wpAny_bind (I.type.here ((looks_findIn X hs).here ?_)))))
      refine wpAny_bind (wpAny_askSetting (wpAny_ite ?_))
      have fin : wpAny (model prog w) A (call (.builtin "object.__ne__") ([.ref x] ++ [b]) >>= fun v => pure (some v)) (fun r s' => ∃ v, r = some v ∧ Q v s' ∧ v ≠ .notImplemented) E s :=
        wpAny_bind (wpAny_mono inner (fun v s' h' => wpAny_pure ⟨v, rfl, h'⟩) fun _ _ h' => h')
      split
      · rw [ne_bind]
        exact wpAny_bind (wpAny_pure (wpAny_pure (by exact fin)))
      · refine wpAny_tryCatch ?_
        rw [ne_bind]
        exact wpAny_bind (wpAny_pure (wpAny_pure (by exact fin)))
    unfold tryCompare
    refine wpAny_bind (wpAny_mono bound (fun r s' hr => ?_) fun _ _ e => e)
    obtain ⟨v, rfl, q, nn⟩ := hr
    cases v <;> first | exact absurd rfl nn | exact wpAny_pure ⟨_, rfl, q⟩
  unfold richCompare
  simp only [oneThing_ref]
  refine wpAny_holding (wpAny_bind (wpAny_cRoomFor (Nat.lt_of_succ_lt hu) ?_))
  refine wpAny_bind (I.type.here (wpAny_bind (hb.here ?_)))
  split
  · rename_i q
    have e : subIn K tb (.ref C) = some false := by
      rcases Bool.or_eq_true_iff.mp hn with e | e
      · rw [beq_iff_eq.mp e] at q; simp at q
      · exact beq_iff_eq.mp e
    refine wpAny_bind ((looks_subIn X e).here ?_)
    simp only [Bool.false_eq_true, if_false]
    refine wpAny_bind (wpAny_mono one (fun r s' z => ?_) fun _ _ e => e)
    obtain ⟨v, rfl, hq⟩ := z
    exact wpAny_pure hq
  · refine wpAny_bind (wpAny_pure ?_)
    simp only [Bool.false_eq_true, if_false]
    refine wpAny_bind (wpAny_mono one (fun r s' z => ?_) fun _ _ e => e)
    obtain ⟨v, rfl, hq⟩ := z
    exact wpAny_pure hq
end
end KB
namespace KB
open PySem PySem.Spec PyProof.Rows L2
section
variable {X : Cx} {k j : Nat} {C : Addr} {m : Str} {sp : Sp}
/-- what an operator of the class at C wants of the class -/
structure OpC (K : PySem.W.Frag) (C : Addr) : Prop where
  first : PySem.W.selfFirst K C = true
  ne : PySem.W.findIn K (.ref C) "__ne__" = some (some (.builtin "object.__ne__"))
  top : PySem.W.mroIn K C (.type "object") = some true
def rBin (C : Addr) (sp : Sp) : R2 := fun x y H Q => ∃ a dx fs b dy gs, x = .ref a ∧ y = .ref b ∧ H a = some (.ins C dx fs) ∧ H b = some (.ins C dy gs) ∧ sp [x, y] H Q E0
theorem op_bin {op : Operator} (o : OpC X.K C) (c : Met X.prog X.w X.K X.mg X.base k C m sp) (hr : Room j X.A) (hk : k ≤ j) (hm : PySem.dunder op.info.2 = m := by rfl) : OpR X (binaryOp op) (rBin C sp) := by
  intro pins s σ H x y v u Q I rx ry h
  obtain ⟨f, fd, ps, hc, hme, F, b⟩ := c.ex
  obtain ⟨a, dx, fs, b', dy, gs, rfl, rfl, ha, hb, q⟩ := h
  cases (show v = Value.ref a from rx)
  cases (show u = Value.ref b' from ry)
  obtain ⟨mA, O, _⟩ := ins_get I.hok ha
  obtain ⟨od, J, _⟩ := O.look
  obtain ⟨mB, O', _⟩ := ins_get I.hok hb
  obtain ⟨od', J', _⟩ := O'.look
  obtain ⟨m', hF⟩ := I.fr
  have hs : PySem.W.findIn X.K (.ref C) (PySem.dunder op.info.2) = some (some (.ref f)) := by rw [hm]; exact hme.at_
  refine PySem.W.binop_K hF I.ok.mod.kin J J'.type o.first hs hme.fn ?_
  refine wpAny_mono (run_fn (us := [.ref a, .ref b']) (vs := [.ref a, .ref b']) F (hr.mono hk) b .nil pass0 I (.cons rfl (.cons rfl .nil)) q) (fun w s' z => ?_) fun _ _ x => x
  obtain ⟨z', H', I', rz, qz⟩ := z
  exact SlX.cmpback rz ⟨z', H', I', rz, qz⟩
/-- x == y, x an instance of C, y anything whose type is known -/
def rEqO (K : PySem.W.Frag) (C : Addr) (sp : Sp) : R2 := fun x y H Q => ∃ a dx fs t, x = .ref a ∧ H a = some (.ins C dx fs) ∧ TyX K H y t ∧ PySem.W.notFirst K C t = true ∧ sp [x, y] H Q E0
theorem op_eqO (c : Met X.prog X.w X.K X.mg X.base k C "__eq__" sp) (hr : Room j X.A) (hk : k ≤ j) : OpR X (compareOp .Eq) (rEqO X.K C sp) := by
  intro pins s σ H x y v u Q I rx ry h
  obtain ⟨f, fd, ps, hc, hme, F, b⟩ := c.ex
  obtain ⟨a, dx, fs, t, rfl, ha, ty, hn, q⟩ := h
  cases (show v = Value.ref a from rx)
  obtain ⟨mA, O, _⟩ := ins_get I.hok ha
  obtain ⟨od, J, _⟩ := O.look
  obtain ⟨m', hF⟩ := I.fr
  obtain ⟨P, Z, p, hne⟩ := kit_of I ry ty
  refine PySem.W.cmp_ofEq ?_
  refine PySem.W.cmp_K (op := .Eq) (tb := t) hr.units0 hF I.ok.mod.kin J (Z.ty _ _ I.kIn p) hn hme.at_ hme.fn ?_
  refine wpAny_mono (run_fn (us := [.ref a, u]) (vs := [.ref a, y]) F (hr.mono hk) b .nil pass0 I (.cons rfl (.cons ry .nil)) q) (fun w s' z => ?_) fun _ _ x => x
  obtain ⟨z', H', I', rz, qz⟩ := z
  exact SlX.cmpback rz ⟨z', H', I', rz, qz⟩
/-- x != y likewise -/
def rNeO (K : PySem.W.Frag) (C : Addr) (sp : Sp) : R2 := fun x y H Q => ∃ a dx fs t, x = .ref a ∧ H a = some (.ins C dx fs) ∧ TyX K H y t ∧ PySem.W.notFirst K C t = true ∧ sp [x, y] H (fun v H' => ∃ k, v = .bl k ∧ Q (.bl (!k)) H') E0
theorem op_neO (o : OpC X.K C) (c : Met X.prog X.w X.K X.mg X.base k C "__eq__" sp) (hr : Room j X.A) (hk : k + 1 ≤ j) : OpR X (compareOp .NotEq) (rNeO X.K C sp) := by
  intro pins s σ H x y v u Q I rx ry h
  obtain ⟨f, fd, ps, hc, hme, F, b⟩ := c.ex
  obtain ⟨a, dx, fs, t, rfl, ha, ty, hn, q⟩ := h
  cases (show v = Value.ref a from rx)
  obtain ⟨mA, O, _⟩ := ins_get I.hok ha
  obtain ⟨od, J, _⟩ := O.look
  obtain ⟨P, Z, p, hne⟩ := kit_of I ry ty
  refine PySem.W.cmp_ofNotEq ?_
  have l2 : ([V.ref a, y] : List V).length = ps.length := F.len _ _ _ _ q
  have b2 := b s [Value.ref a, u] I.kIn (by rw [List.append_nil]; exact l2)
  rw [List.append_nil] at b2
  refine ne_own (hu_of hr) I.kIn J (Z.ty _ _ I.kIn p) hn o.ne hme.at_ hme.fn o.top ?_
  refine wpAny_call (codeAny_mono (F.run X.A.in1 X.stack s H ⟨[.ref a, u], []⟩ [.ref a, u] [.ref a, y] _ E0 (hr.mono hk).in1 I.env0.in1 b2 (.cons rfl (.cons ry .nil)) q) fun r s' hq => ?_)
  cases r with
  | error e => exact pass0 pins σ H s e s' I hq
  | ok fl =>
    cases fl with
    | ret w =>
      obtain ⟨z, H', I', rz, kk, ez, qz⟩ := I.after hq
      subst ez
      cases (show w = Value.bool kk from rz)
      exact ⟨kk, rfl, .bl (!kk), H', I', rfl, qz⟩
    | next => exact False.elim hq
    | brk => exact False.elim hq
    | cont => exact False.elim hq
end
end KB

/-! defs that may raise: called where nothing is raised, and in a try -/
namespace KB
open PySem PySem.Spec PyProof.Rows L2
theorem passN0 {X : Cx} : Passes (L2N.CX X.prog X.w) X E0 := fun _ _ _ _ _ _ _ h => by
  obtain ⟨_, _, _, _, _, _, _, _, _, _, _, _, z⟩ := h
  exact z.elim
theorem takesN0 {X : Cx} : L2N.Takes X (fun _ _ _ _ => False) := fun _ _ x => by
  obtain ⟨_, _, _, _, _, _, _, _, _, _, _, _, _, _, _, _, z⟩ := x
  exact z.elim
section
variable {P : Program} {w : World} {K : PySem.W.Frag} {mg : Str → Option Value} {base : Heap}
structure CalX (P : Program) (w : World) (K : PySem.W.Frag) (mg : Str → Option Value) (base : Heap) (k : Nat) (x : Str) (sp : Sp) : Prop where
  ex : ∃ (f : Addr) (fd : FuncData) (ps : List Str), FnOk P w K mg base (L2N.CX P w) k f fd ps sp ∧ mg x = some (.ref f) ∧ PySem.W.keepIn K (.ref f) = true ∧ Binds K fd ps []
structure MetX (P : Program) (w : World) (K : PySem.W.Frag) (mg : Str → Option Value) (base : Heap) (k : Nat) (C : Addr) (m : Str) (sp : Sp) : Prop where
  ex : ∃ (f : Addr) (fd : FuncData) (ps : List Str), Cls K C ∧ Meth K C m f ∧ FnOk P w K mg base (L2N.CX P w) k f fd ps sp ∧ Binds K fd ps []
structure MakX (P : Program) (w : World) (K : PySem.W.Frag) (mg : Str → Option Value) (base : Heap) (k : Nat) (x : Str) (C : Addr) (sp : Sp) : Prop where
  ex : ∃ (f : Addr) (fd : FuncData) (ps : List Str), Mk K C f ∧ FnOk P w K mg base (L2N.CX P w) k f fd ps sp ∧ mg x = some (.ref C) ∧ Binds K fd ps []
structure MakXK (P : Program) (w : World) (K : PySem.W.Frag) (mg : Str → Option Value) (base : Heap) (k : Nat) (x : Str) (C : Addr) (ks : List Str) (gV : List V → List V → List V) (sp : Sp) : Prop where
  ex : ∃ (f : Addr) (fd : FuncData) (ps : List Str) (g : List Value → List Value → List Value), Mk K C f ∧ FnOk P w K mg base (L2N.CX P w) k f fd ps sp ∧ mg x = some (.ref C) ∧ KBn K fd ps 1 ks g gV
structure CalXK (P : Program) (w : World) (K : PySem.W.Frag) (mg : Str → Option Value) (base : Heap) (k : Nat) (x : Str) (n : Nat) (ks : List Str) (gV : List V → List V → List V) (sp : Sp) : Prop where
  ex : ∃ (f : Addr) (fd : FuncData) (ps : List Str) (g : List Value → List Value → List Value), FnOk P w K mg base (L2N.CX P w) k f fd ps sp ∧ mg x = some (.ref f) ∧ PySem.W.keepIn K (.ref f) = true ∧ KBn K fd ps n ks g gV
/-- a def that may raise keeps its promise -/
theorem Fun_okN {x qual : Str} {st : Stmt} {f : Addr} {fd : FuncData} {N ps : List Str} {k : Nat} {sp : Sp} (F : Fun K x qual st f fd) (S : FnScope N ps (defScope st)) (len : ∀ vs H Q E, sp vs H Q E → vs.length = ps.length)
    (hbody : ∀ (cdv : Value) (A : Around) (outer : List Env) (s : Shared) (H : Hp) (vs : List V) (Q : VK) (E : XK), Room k (A.deeper (envOfC qual (defScope st) s.heap.objs.size f cdv)) → sp vs H Q E →
      ∃ t, PSs (cxOf (L2N.CX P w) P w K mg base N qual (defScope st) f cdv A outer s H E) (defBody st) t ∧ t { nx := fun _ H' => Q .non H', rt := Q } (start N vs) H) : FnOk P w K mg base (L2N.CX P w) (k + 1) f fd ps sp := by
  obtain ⟨oc, od, kV, doc, pm, an, cdv, ct, osl, rfl, lk, hcd⟩ := F.ex
  exact fn_of lk hcd S len fun A outer s H vs Q E hr hsp => hbody cdv A outer s H vs Q E hr hsp
end
section
variable {X : Cx} {k j n : Nat} {C : Addr} {x m : Str} {sp : Sp} {p pos apos : Pos} {e o : Expr} {es : List Expr} {kws : List Keyword} {ta : TE} {t tk : TA} {ks : List Str} {gV : List V → List V → List V} {W : WX}
theorem pe_x (c : CalX X.prog X.w X.K X.mg X.base k x sp) (hr : Room j X.A) (hk : k ≤ j) (hg : Gl X x) (ha : PA X (e :: es) t)
    (hdb : (x == ("__debug__" : Str)) = false := by decide) (he : starEach (e :: es) X.env = (false, eval e X.env) :: starEach es X.env := by rfl) (hpl : (backTo pos (starEach es X.env)).any (·.1) = false := by rfl) :
    PE X (.Call (.Name x p) (e :: es) [] pos) (tCall sp [] E0 t) := by
  obtain ⟨f, fd, ps, F, hm, kp, b⟩ := c.ex
  exact pe_call F (hr.mono hk) hg hm kp b .nil passN0 ha hdb he hpl
theorem pe_xS (c : CalX X.prog X.w X.K X.mg X.base k x sp) (hr : Room j X.A) (hk : k ≤ j) (hg : Gl X x) (tk : L2N.Takes X W) (ha : PA X (e :: es) t)
    (hdb : (x == ("__debug__" : Str)) = false := by decide) (he : starEach (e :: es) X.env = (false, eval e X.env) :: starEach es X.env := by rfl) (hpl : (backTo pos (starEach es X.env)).any (·.1) = false := by rfl) :
    PE X (.Call (.Name x p) (e :: es) [] pos) (tCallS sp (WE W) t) := by
  obtain ⟨f, fd, ps, F, hm, kp, b⟩ := c.ex
  exact pe_callS F (hr.mono hk) hg hm kp b (fun σ => L2N.passAt tk σ) ha hdb he hpl
/-- f(k = v, ..) in a try -/
def tCallSK0 (m : Nat) (sp : Sp) (gV : List V → List V → List V) (E : L2.St → XK) (tk : TA) : TE := fun σ H Q => tk σ H fun zs H2 => zs.length = m ∧ sp (gV [] zs) H2 Q (E σ)
theorem pe_xSK0 (c : CalXK X.prog X.w X.K X.mg X.base k x 0 ks gV sp) (hr : Room j X.A) (hk : k ≤ j) (hg : Gl X x) (tke : L2N.Takes X W) (hkw : PK X kws tk)
    (hall : (backToKw pos (keywordEach kws X.env)).all (·.1.isSome) = true := by rfl) (hks : (backToKw pos (keywordEach kws X.env)).filterMap (·.1) = ks := by rfl) (hdb : (x == ("__debug__" : Str)) = false := by decide)
    (hpl : ((backTo pos (starEach [] X.env)).any (·.1) || (backToKw pos (keywordEach kws X.env)).any (·.1.isNone)) = false := by rfl) :
    PE X (.Call (.Name x p) [] kws pos) (tCallSK0 ks.length sp gV (WE W) tk) := by
  obtain ⟨f, fd, ps, g, F, hm, kp, hb⟩ := c.ex
  refine ⟨fun pins s σ H Q I h => ?_⟩
  refine wpAny_Call_Name_kw (ld_glob I hg hm ?_ hdb)
  refine PySem.W.callWith_KW0 (h₀ := X.base) I.ok.mod.kin kp hall ?_ hpl
  refine thn (hkw.run pos pins s σ H _ I h) fun ws s2 ⟨zs, H2, I2, rz, l2, q2⟩ => ⟨I2.kIn, ?_⟩
  rw [hks]
  have r2 : Vals (gV [] zs) (g [] ws) := hb.rel (vs := []) (us := []) .nil rz
  refine wpAny_call (codeAny_mono (F.run X.A X.stack s2 H2 ⟨[], ks.zip ws⟩ (g [] ws) (gV [] zs) Q (WE W σ) (hr.mono hk) I2.env0 (hb.to s2 [] ws I2.kIn rfl (rz.length.symm.trans l2)) r2 q2) fun r s' hq => ?_)
  cases r with
  | error e => exact L2N.passAt tke σ pins H2 s2 e s' I2 hq
  | ok fl =>
    cases fl with
    | ret u => exact I2.after hq
    | next => exact False.elim hq
    | brk => exact False.elim hq
    | cont => exact False.elim hq
/-- f(k = v, ..) where nothing is raised -/
theorem pe_xK0 (c : CalXK X.prog X.w X.K X.mg X.base k x 0 ks gV sp) (hr : Room j X.A) (hk : k ≤ j) (hg : Gl X x) (hkw : PK X kws tk)
    (hall : (backToKw pos (keywordEach kws X.env)).all (·.1.isSome) = true := by rfl) (hks : (backToKw pos (keywordEach kws X.env)).filterMap (·.1) = ks := by rfl) (hdb : (x == ("__debug__" : Str)) = false := by decide)
    (hpl : ((backTo pos (starEach [] X.env)).any (·.1) || (backToKw pos (keywordEach kws X.env)).any (·.1.isNone)) = false := by rfl) :
    PE X (.Call (.Name x p) [] kws pos) (tCallK0 ks.length sp gV E0 tk) := by
  obtain ⟨f, fd, ps, g, F, hm, kp, hb⟩ := c.ex
  refine ⟨fun pins s σ H Q I h => ?_⟩
  refine wpAny_Call_Name_kw (ld_glob I hg hm ?_ hdb)
  refine PySem.W.callWith_KW0 (h₀ := X.base) I.ok.mod.kin kp hall ?_ hpl
  refine thn (hkw.run pos pins s σ H _ I h) fun ws s2 ⟨zs, H2, I2, rz, l2, q2⟩ => ⟨I2.kIn, ?_⟩
  rw [hks]
  have r2 : Vals (gV [] zs) (g [] ws) := hb.rel (vs := []) (us := []) .nil rz
  refine wpAny_call (codeAny_mono (F.run X.A X.stack s2 H2 ⟨[], ks.zip ws⟩ (g [] ws) (gV [] zs) Q E0 (hr.mono hk) I2.env0 (hb.to s2 [] ws I2.kIn rfl (rz.length.symm.trans l2)) r2 q2) fun r s' hq => ?_)
  cases r with
  | error e => exact passN0 pins σ H2 s2 e s' I2 hq
  | ok fl =>
    cases fl with
    | ret u => exact I2.after hq
    | next => exact False.elim hq
    | brk => exact False.elim hq
    | cont => exact False.elim hq
theorem pe_mtx {pl : Sem Bool} (c : MetX X.prog X.w X.K X.mg X.base k C m sp) (hr : Room j X.A) (hk : k ≤ j) (he : PE X o ta) (ha : PA X (e :: es) t)
    (hst : starEach (e :: es) X.env = (false, eval e X.env) :: starEach es X.env := by rfl) (hpl : (backTo pos (starEach es X.env)).any (·.1) = false := by rfl)
    (ht : eval (.Call (.Attribute o m apos) (e :: es) [] pos) X.env = (do
      let ov ← eval o X.env
      standAt apos.atName
      let (f, first) ← holding [ov] (getMethod ov m pl)
      callWith pos f first (backTo pos (starEach (e :: es) X.env)) (backToKw pos (keywordEach [] X.env))) := by rfl) :
    PE X (.Call (.Attribute o m apos) (e :: es) [] pos) (tMeth C m sp [] E0 ta t) := by
  obtain ⟨f, fd, ps, hc, hm, F, b⟩ := c.ex
  exact pe_meth (pl := pl) he hc hm F (hr.mono hk) b .nil passN0 ha hst hpl ht
/-- o.m(e, ..) in a try -/
def tMethS (C : Addr) (m : Str) (sp : Sp) (E : L2.St → XK) (ta : TE) (t : TA) : TE := fun σ H Q => ta σ H fun x H1 => ∃ a dx fs, x = .ref a ∧ H1 a = some (.ins C dx fs) ∧ fs.lookup m = none ∧ t σ H1 fun vs H2 => sp (x :: vs) H2 Q (E σ)
theorem pe_mtxS {pl : Sem Bool} (c : MetX X.prog X.w X.K X.mg X.base k C m sp) (hr : Room j X.A) (hk : k ≤ j) (tk : L2N.Takes X W) (he : PE X o ta) (ha : PA X (e :: es) t)
    (hst : starEach (e :: es) X.env = (false, eval e X.env) :: starEach es X.env := by rfl) (hpl : (backTo pos (starEach es X.env)).any (·.1) = false := by rfl)
    (ht : eval (.Call (.Attribute o m apos) (e :: es) [] pos) X.env = (do
      let ov ← eval o X.env
      standAt apos.atName
      let (f, first) ← holding [ov] (getMethod ov m pl)
      callWith pos f first (backTo pos (starEach (e :: es) X.env)) (backToKw pos (keywordEach [] X.env))) := by rfl) :
    PE X (.Call (.Attribute o m apos) (e :: es) [] pos) (tMethS C m sp (WE W) ta t) := by
  obtain ⟨f, fd, ps, hc, hm, F, b⟩ := c.ex
  refine ⟨fun pins s σ H Q I h => ?_⟩
  refine PySem.W.methodCall_KW (pl := pl) (thn (he.run pins s σ H _ I h) fun u s1 ⟨x, H1, I1, rx, a, dx, fs, ex, ea, l, q⟩ => ?_) ht
  subst ex
  obtain rfl : u = Value.ref a := rx
  refine getmeth_ok I1 ea hc hm l ?_
  refine PySem.W.callWith_K (first := [.ref a]) (h₀ := X.base) I.ok.mod.kin hm.kp (thn (ha.run pos pins s1 σ H1 _ I1 q) fun us s2 ⟨vs, H2, I2, r, q2⟩ => ⟨I2.kIn, ?_⟩) hst hpl
  exact run_fnS (us := .ref a :: us) (vs := .ref a :: vs) F (hr.mono hk) b (L2N.passAt tk σ) I2 (.cons rfl r) q2
theorem pe_mkx (c : MakX X.prog X.w X.K X.mg X.base k x C sp) (hr : Room j X.A) (hk : k + 1 ≤ j) (hg : Gl X x) (ha : PA X (e :: es) t)
    (hdb : (x == ("__debug__" : Str)) = false := by decide) (he : starEach (e :: es) X.env = (false, eval e X.env) :: starEach es X.env := by rfl) (hpl : (backTo pos (starEach es X.env)).any (·.1) = false := by rfl) :
    PE X (.Call (.Name x p) (e :: es) [] pos) (tMake C sp [] E0 t) := by
  obtain ⟨f, fd, ps, M, F, hm, b⟩ := c.ex
  exact pe_make M F (hr.mono hk) hg hm b .nil passN0 ha hdb he hpl
theorem pe_mkxK0 (c : MakXK X.prog X.w X.K X.mg X.base k x C ks gV sp) (hr : Room j X.A) (hk : k + 1 ≤ j) (hg : Gl X x) (hkw : PK X kws tk)
    (hall : (backToKw pos (keywordEach kws X.env)).all (·.1.isSome) = true := by rfl) (hks : (backToKw pos (keywordEach kws X.env)).filterMap (·.1) = ks := by rfl) (hdb : (x == ("__debug__" : Str)) = false := by decide)
    (hpl : ((backTo pos (starEach [] X.env)).any (·.1) || (backToKw pos (keywordEach kws X.env)).any (·.1.isNone)) = false := by rfl) :
    PE X (.Call (.Name x p) [] kws pos) (tMakeK C 0 ks.length sp gV E0 tNil tk) := by
  obtain ⟨f, fd, ps, g, M, F, hm, b⟩ := c.ex
  exact pe_makeK0 M F (hr.mono hk) hg hm b passN0 hkw hall hks hdb hpl
/-- C(e, ..) in a try -/
def tMakeS (C : Addr) (sp : Sp) (E : L2.St → XK) (t : TA) : TE := fun σ H Q => t σ H fun vs H1 => ∀ x dx, H1 x = none → H1 dx = none → dx ≠ x → sp (.ref x :: vs) (upd (upd H1 dx (.own x)) x (.ins C dx [])) (fun v H2 => v = .non ∧ Q (.ref x) H2) (E σ)
theorem run_makeS {pins : List (Addr × Obj)} {σ : L2.St} {H : Hp} {s : Shared} {Q : VK} {f : Addr} {fd : FuncData} {ps : List Str} {us : List Value} {ws : List (Str × Value)} {ul : List Value} {vl : List V} (M : Mk X.K C f) (F : FnOk X.prog X.w X.K X.mg X.base (L2N.CX X.prog X.w) k f fd ps sp) (hr : Room (k + 1) X.A)
    (tk : L2N.Takes X W) (I : Inv X pins σ H s) (r : ∀ x, Vals (.ref x :: vl) (.ref x :: ul))
    (hb : ∀ (s' : Shared) (x : Addr), X.K.In s'.heap → BindsTo s' fd ⟨.ref x :: us, ws⟩ (ps.zip (.ref x :: ul)))
    (h : ∀ x dx, H x = none → H dx = none → dx ≠ x → sp (.ref x :: vl) (upd (upd H dx (.own x)) x (.ins C dx [])) (fun v H2 => v = .non ∧ Q (.ref x) H2) (WE W σ)) :
    wpAny (model X.prog X.w) X.A (call (.ref C) us ws) (EP X pins σ Q) X.xe s := by
  have hq := h (s.heap.objs.size + 1) s.heap.objs.size (I.hok.fresh (Nat.le_succ _)) (I.hok.fresh (Nat.le_refl _)) (Nat.ne_of_lt (Nat.lt_succ_self _))
  have I2 := Inv.made (C := C) I
  refine wpAny_call (make_map (f := f) I.kIn M.makes M.init (beq_iff_eq.mp M.fn) (codeAny_mono (F.run _ X.stack _ _ ⟨Value.ref (s.heap.objs.size + 1) :: us, ws⟩ (Value.ref (s.heap.objs.size + 1) :: ul) _ _ (WE W σ) (hr.make C us ws)
    (I2.env0.make C us ws) (hb _ _ I2.kIn) (r _) hq) fun r s' hq' => ?_))
  cases r with
  | error e => exact L2N.passAt tk σ pins _ _ e s' I2 hq'
  | ok fl =>
    cases fl with
    | ret u =>
      obtain ⟨v, H', I3, rv, ev, q3⟩ := I2.after hq'
      subst ev
      exact ⟨rv, ⟨V.ref (s.heap.objs.size + 1), H', I3, rfl, q3⟩⟩
    | next => exact False.elim hq'
    | brk => exact False.elim hq'
    | cont => exact False.elim hq'
theorem pe_mkxS (c : MakX X.prog X.w X.K X.mg X.base k x C sp) (hr : Room j X.A) (hk : k + 1 ≤ j) (hg : Gl X x) (tk : L2N.Takes X W) (ha : PA X (e :: es) t)
    (hdb : (x == ("__debug__" : Str)) = false := by decide) (he : starEach (e :: es) X.env = (false, eval e X.env) :: starEach es X.env := by rfl) (hpl : (backTo pos (starEach es X.env)).any (·.1) = false := by rfl) :
    PE X (.Call (.Name x p) (e :: es) [] pos) (tMakeS C sp (WE W) t) := by
  obtain ⟨f, fd, ps, M, F, hm, b⟩ := c.ex
  refine ⟨fun pins s σ H Q I h => ?_⟩
  refine wpAny_Call_Name_kw (ld_glob I hg hm ?_ hdb)
  refine PySem.W.callWith_K (h₀ := X.base) I.ok.mod.kin M.kp (thn (ha.run pos pins s σ H _ I h) fun us s1 ⟨vs, H1, I1, r, q⟩ => ⟨I1.kIn, ?_⟩) he hpl
  have hq := q (s1.heap.objs.size + 1) s1.heap.objs.size (I1.hok.fresh (Nat.le_succ _)) (I1.hok.fresh (Nat.le_refl _)) (Nat.ne_of_lt (Nat.lt_succ_self _))
  have hl : ∀ x : Addr, (Value.ref x :: us).length = ps.length := fun x => by
    have e1 := F.len _ _ _ _ hq
    rw [List.length_cons] at e1 ⊢
    rw [← r.length]
    exact e1
  refine run_makeS (ws := []) (ul := us) (vl := vs) M F (hr.mono hk) tk I1 (fun x => .cons rfl r) (fun s' x hK => ?_) q
  have b2 := b s' (Value.ref x :: us) hK (by rw [List.append_nil]; exact hl x)
  rw [List.append_nil] at b2
  exact b2
def tMakeSK (C : Addr) (m : Nat) (sp : Sp) (gV : List V → List V → List V) (E : L2.St → XK) (tk : TA) : TE := fun σ H Q => tk σ H fun zs H1 => zs.length = m ∧ ∃ vl, (∀ x, gV [.ref x] zs = .ref x :: vl) ∧ ∀ x dx, H1 x = none → H1 dx = none → dx ≠ x →
  sp (.ref x :: vl) (upd (upd H1 dx (.own x)) x (.ins C dx [])) (fun v H2 => v = .non ∧ Q (.ref x) H2) (E σ)
theorem pe_mkxSK0 (c : MakXK X.prog X.w X.K X.mg X.base k x C ks gV sp) (hr : Room j X.A) (hk : k + 1 ≤ j) (hg : Gl X x) (tke : L2N.Takes X W) (hkw : PK X kws tk)
    (hall : (backToKw pos (keywordEach kws X.env)).all (·.1.isSome) = true := by rfl) (hks : (backToKw pos (keywordEach kws X.env)).filterMap (·.1) = ks := by rfl) (hdb : (x == ("__debug__" : Str)) = false := by decide)
    (hpl : ((backTo pos (starEach [] X.env)).any (·.1) || (backToKw pos (keywordEach kws X.env)).any (·.1.isNone)) = false := by rfl) :
    PE X (.Call (.Name x p) [] kws pos) (tMakeSK C ks.length sp gV (WE W) tk) := by
  obtain ⟨f, fd, ps, g, M, F, hm, hb⟩ := c.ex
  refine ⟨fun pins s σ H Q I h => ?_⟩
  refine wpAny_Call_Name_kw (ld_glob I hg hm ?_ hdb)
  refine PySem.W.callWith_KW0 (h₀ := X.base) I.ok.mod.kin M.kp hall ?_ hpl
  refine thn (hkw.run pos pins s σ H _ I h) fun ws s2 ⟨zs, H2, I2, rz, l2, vl, ev, q⟩ => ⟨I2.kIn, ?_⟩
  rw [hks]
  have hq := q (s2.heap.objs.size + 1) s2.heap.objs.size (I2.hok.fresh (Nat.le_succ _)) (I2.hok.fresh (Nat.le_refl _)) (Nat.ne_of_lt (Nat.lt_succ_self _))
  have I3 := Inv.made (C := C) I2
  have r2 : Vals (gV [.ref (s2.heap.objs.size + 1)] zs) (g [.ref (s2.heap.objs.size + 1)] ws) := hb.rel (.cons rfl .nil) rz
  rw [ev] at r2
  refine wpAny_call (make_map (f := f) (vs := []) I2.kIn M.makes M.init (beq_iff_eq.mp M.fn) (codeAny_mono (F.run _ X.stack _ _ ⟨[Value.ref (s2.heap.objs.size + 1)], ks.zip ws⟩ (g [.ref (s2.heap.objs.size + 1)] ws) _ _ (WE W σ) ((hr.mono hk).make C [] (ks.zip ws))
    (I3.env0.make C [] (ks.zip ws)) (hb.to _ [Value.ref (s2.heap.objs.size + 1)] ws I3.kIn rfl (rz.length.symm.trans l2)) r2 hq) fun r s' hq' => ?_))
  cases r with
  | error e => exact L2N.passAt tke σ pins _ _ e s' I3 hq'
  | ok fl =>
    cases fl with
    | ret u =>
      obtain ⟨v, H', I4, rv, ev', q3⟩ := I3.after hq'
      subst ev'
      exact ⟨rv, ⟨V.ref (s2.heap.objs.size + 1), H', I4, rfl, q3⟩⟩
    | next => exact False.elim hq'
    | brk => exact False.elim hq'
    | cont => exact False.elim hq'
/-- raise X(e, ..) -/
def tRaiseX (C : Addr) (fs : List Str) (W : WX) (ta : TA) : TS := fun _ σ H => tMkX C fs ta σ H fun cls d H' => W cls d σ H'
theorem ps_raiseX {a : Expr} {as : List Expr} {fs : List Str} {p pos pos2 : Pos} (hc : X.calm = true) (T : XErr X.prog X.K X.mg x C fs) (hr : Room k X.A) (tk : L2N.Takes X W) (ha : PA X (a :: as) t) (hg : Gl X x := by rfl) (hdb : (x == ("__debug__" : Str)) = false := by decide)
    (he : starEach (a :: as) X.env = (false, eval a X.env) :: starEach as X.env := by rfl) (hpl : (backTo pos (starEach as X.env)).any (·.1) = false := by rfl) :
    PS X (.Raise (some (.Call (.Name x p) (a :: as) [] pos)) none pos2) (tRaiseX C fs W t) := L2N.ps_raise hc tk (pmk_x T hr ha hg hdb he hpl)
end
end KB
namespace KB
open PySem PySem.Spec PyProof.Rows L2
section
variable {P : Program} {w : World} {K : PySem.W.Frag} {mg : Str → Option Value} {base : Heap}
/-- a def that raises nothing, called within an except suite -/
structure CalH (P : Program) (w : World) (K : PySem.W.Frag) (mg : Str → Option Value) (base : Heap) (k : Nat) (x : Str) (sp : Sp) : Prop where
  ex : ∃ (f : Addr) (fd : FuncData) (ps : List Str), L2H.FnH P w K mg base CX0 k f fd ps sp ∧ mg x = some (.ref f) ∧ PySem.W.keepIn K (.ref f) = true ∧ Binds K fd ps []
theorem Fun_okH {x qual : Str} {st : Stmt} {f : Addr} {fd : FuncData} {N ps : List Str} {k : Nat} {sp : Sp} (F : Fun K x qual st f fd) (S : FnScope N ps (defScope st)) (len : ∀ vs H Q E, sp vs H Q E → vs.length = ps.length)
    (hbody : ∀ (cdv : Value) (A : Around) (outer : List Env) (s : Shared) (H : Hp) (vs : List V) (Q : VK) (E : XK) (p : Addr × Obj), L2H.Hot1 A p → L2H.RoomH k (A.deeper (envOfC qual (defScope st) s.heap.objs.size f cdv)) → sp vs H Q E →
      ∃ t, PSs (L2H.cxH CX0 P w K mg base N qual (defScope st) f cdv A outer s H E p).nox (defBody st) t ∧ t { nx := fun _ H' => Q .non H', rt := Q } (start N vs) H) : L2H.FnH P w K mg base CX0 (k + 1) f fd ps sp := by
  obtain ⟨oc, od, kV, doc, pm, an, cdv, ct, osl, rfl, lk, hcd⟩ := F.ex
  refine L2H.fn_ofH lk hcd S len fun A outer s H vs Q E p hot hr hsp => ?_
  obtain ⟨t, h, q⟩ := hbody cdv A outer s H vs Q E p hot hr hsp
  exact ⟨t, h.nox, q⟩
theorem exm_own {K : PySem.W.Frag} {S B : Addr} (h1 : PySem.W.subIn K (.ref S) (.type "BaseException") = some true) (h2 : PySem.W.isClsIn K S = true) (h3 : PySem.W.typeIn K (.ref S) = some (.type "type")) {b : Bool} (h4 : PySem.W.subIn K (.ref B) (.ref S) = some b) :
    PySem.W.exmOne K (.ref B) (.ref S) = some b := by
  have e1 : (PySem.W.subIn K (.ref S) (.type "BaseException") == some true) = true := by rw [h1] <;> rfl
  have e2 : ((PySem.W.clsIn K S).isSome && PySem.W.typeIn K (.ref S) == some (.type "type")) = true := by
    have h2' : (PySem.W.clsIn K S).isSome = true := h2
    rw [h2', h3] <;> rfl
  show (if (PySem.W.subIn K (.ref S) (.type "BaseException") == some true) = true then (if ((PySem.W.clsIn K S).isSome && PySem.W.typeIn K (.ref S) == some (.type "type")) = true then PySem.W.subIn K (.ref B) (.ref S) else none) else none) = some b
  rw [if_pos e1, if_pos e2]
  exact h4
end
section
variable {X : Cx} {k j : Nat} {x : Str} {sp : Sp} {p pos : Pos} {e : Expr} {es : List Expr} {t : TA}
theorem hotS {a : Addr} {oe : Obj} {cls : Value} {d : Option Addr} {pn : List (Addr × Obj)} (hz : L2N.Zn cls d oe) (hf : ∃ vs, oe.data = .fields vs) : L2H.HotC (X.suite a ((a, oe) :: pn)) := by
  obtain ⟨vs, h⟩ := hf
  exact ⟨(a, oe), ⟨rfl, vs, h, hz.2.2 vs h⟩, List.mem_cons_self ..⟩
theorem pe_cH (c : CalH X.prog X.w X.K X.mg X.base k x sp) (hr : L2H.RoomH j X.A) (hk : k ≤ j) (hot : L2H.HotC X) (hg : Gl X x) (ha : PA X (e :: es) t)
    (hdb : (x == ("__debug__" : Str)) = false := by decide) (he : starEach (e :: es) X.env = (false, eval e X.env) :: starEach es X.env := by rfl) (hpl : (backTo pos (starEach es X.env)).any (·.1) = false := by rfl) :
    PE X (.Call (.Name x p) (e :: es) [] pos) (tCallS sp (fun _ => E0) t) := by
  obtain ⟨f, fd, ps, F, hm, kp, b⟩ := c.ex
  exact L2H.pe_callH F (hr.mono hk) hot hg hm kp b (fun σ pins H s e s' _ h => h.elim) ha hdb he hpl
/-- // by any number that is not 0, below 9,000 bits -/
def CDivV (_ j : Int) : Prop := j ≠ 0 ∧ j.natAbs.log2 < 9000
theorem op_fdivV : OpR X (binaryOp .FloorDiv) (rI CDivV fun i j => .int (i.fdiv j)) := opI fun i j _ _ _ _ _ hc q => PyProof.Rows.floordiv_int hc.1 q (.inl (PyProof.noPylong_of_log2 hc.2))
end
end KB
namespace KB
open PySem PySem.Spec PyProof.Rows L2
section
variable {P : Program} {w : World} {K : PySem.W.Frag} {mg : Str → Option Value} {base : Heap}
structure MetK (CX : CXT) (P : Program) (w : World) (K : PySem.W.Frag) (mg : Str → Option Value) (base : Heap) (k : Nat) (C : Addr) (m : Str) (ks : List Str) (gV : List V → List V → List V) (sp : Sp) : Prop where
  ex : ∃ (f : Addr) (fd : FuncData) (ps : List Str) (g : List Value → List Value → List Value), Cls K C ∧ Meth K C m f ∧ FnOk P w K mg base CX k f fd ps sp ∧ KBn K fd ps 1 ks g gV
end
section
variable {X : Cx} {k j n : Nat} {C : Addr} {x m : Str} {sp : Sp} {p pos apos : Pos} {o : Expr} {kws : List Keyword} {ta : TE} {tk : TA} {ks : List Str} {gV : List V → List V → List V} {W : WX}
/-- o.m(k = v, ..) -/
def tMethSK (C : Addr) (m : Str) (n : Nat) (sp : Sp) (gV : List V → List V → List V) (E : L2.St → XK) (ta : TE) (tk : TA) : TE := fun σ H Q => ta σ H fun x H1 => ∃ a dx fs, x = .ref a ∧ H1 a = some (.ins C dx fs) ∧ fs.lookup m = none ∧ tk σ H1 fun zs H2 => zs.length = n ∧ sp (gV [x] zs) H2 Q (E σ)
theorem pe_mtKg {CX : CXT} {E : L2.St → XK} {pl : Sem Bool} (c : MetK CX X.prog X.w X.K X.mg X.base k C m ks gV sp) (hr : Room j X.A) (hk : k ≤ j) (hx : ∀ σ, PassesAt CX X σ (E σ)) (he : PE X o ta) (hkw : PK X kws tk)
    (hall : (backToKw pos (keywordEach kws X.env)).all (·.1.isSome) = true := by rfl) (hks : (backToKw pos (keywordEach kws X.env)).filterMap (·.1) = ks := by rfl)
    (hpl : ((backTo pos (starEach [] X.env)).any (·.1) || (backToKw pos (keywordEach kws X.env)).any (·.1.isNone)) = false := by rfl)
    (ht : eval (.Call (.Attribute o m apos) [] kws pos) X.env = (do
      let ov ← eval o X.env
      standAt apos.atName
      let (f, first) ← holding [ov] (getMethod ov m pl)
      callWith pos f first (backTo pos (starEach [] X.env)) (backToKw pos (keywordEach kws X.env))) := by rfl) :
    PE X (.Call (.Attribute o m apos) [] kws pos) (tMethSK C m ks.length sp gV E ta tk) := by
  obtain ⟨f, fd, ps, g, hc, hm, F, hb⟩ := c.ex
  refine ⟨fun pins s σ H Q I h => ?_⟩
  refine PySem.W.methodCall_KW (pl := pl) (thn (he.run pins s σ H _ I h) fun u s1 ⟨x, H1, I1, rx, a, dx, fs, ex, ea, l, q⟩ => ?_) ht
  subst ex
  obtain rfl : u = Value.ref a := rx
  refine getmeth_ok I1 ea hc hm l ?_
  refine PySem.W.callWith_KW0 (first := [.ref a]) (h₀ := X.base) I.ok.mod.kin hm.kp hall ?_ hpl
  refine thn (hkw.run pos pins s1 σ H1 _ I1 q) fun ws s2 ⟨zs, H2, I2, rz, l2, q2⟩ => ⟨I2.kIn, ?_⟩
  rw [hks]
  have r2 : Vals (gV [.ref a] zs) (g [.ref a] ws) := hb.rel (.cons rfl .nil) rz
  refine wpAny_call (codeAny_mono (F.run X.A X.stack s2 H2 ⟨[.ref a], ks.zip ws⟩ (g [.ref a] ws) (gV [.ref a] zs) Q (E σ) (hr.mono hk) I2.env0 (hb.to s2 [.ref a] ws I2.kIn rfl (rz.length.symm.trans l2)) r2 q2) fun r s' hq => ?_)
  cases r with
  | error e => exact hx σ pins H2 s2 e s' I2 hq
  | ok fl =>
    cases fl with
    | ret u => exact I2.after hq
    | next => exact False.elim hq
    | brk => exact False.elim hq
    | cont => exact False.elim hq
theorem pe_mtK0 {pl : Sem Bool} (c : MetK CX0 X.prog X.w X.K X.mg X.base k C m ks gV sp) (hr : Room j X.A) (hk : k ≤ j) (he : PE X o ta) (hkw : PK X kws tk)
    (hall : (backToKw pos (keywordEach kws X.env)).all (·.1.isSome) = true := by rfl) (hks : (backToKw pos (keywordEach kws X.env)).filterMap (·.1) = ks := by rfl)
    (hpl : ((backTo pos (starEach [] X.env)).any (·.1) || (backToKw pos (keywordEach kws X.env)).any (·.1.isNone)) = false := by rfl)
    (ht : eval (.Call (.Attribute o m apos) [] kws pos) X.env = (do
      let ov ← eval o X.env
      standAt apos.atName
      let (f, first) ← holding [ov] (getMethod ov m pl)
      callWith pos f first (backTo pos (starEach [] X.env)) (backToKw pos (keywordEach kws X.env))) := by rfl) :
    PE X (.Call (.Attribute o m apos) [] kws pos) (tMethSK C m ks.length sp gV (fun _ => E0) ta tk) :=
  pe_mtKg (pl := pl) c hr hk (fun σ pins H s e s' _ h => h.elim) he hkw hall hks hpl ht
theorem pe_mtxSK0 {pl : Sem Bool} (c : MetK (L2N.CX X.prog X.w) X.prog X.w X.K X.mg X.base k C m ks gV sp) (hr : Room j X.A) (hk : k ≤ j) (tke : L2N.Takes X W) (he : PE X o ta) (hkw : PK X kws tk)
    (hall : (backToKw pos (keywordEach kws X.env)).all (·.1.isSome) = true := by rfl) (hks : (backToKw pos (keywordEach kws X.env)).filterMap (·.1) = ks := by rfl)
    (hpl : ((backTo pos (starEach [] X.env)).any (·.1) || (backToKw pos (keywordEach kws X.env)).any (·.1.isNone)) = false := by rfl)
    (ht : eval (.Call (.Attribute o m apos) [] kws pos) X.env = (do
      let ov ← eval o X.env
      standAt apos.atName
      let (f, first) ← holding [ov] (getMethod ov m pl)
      callWith pos f first (backTo pos (starEach [] X.env)) (backToKw pos (keywordEach kws X.env))) := by rfl) :
    PE X (.Call (.Attribute o m apos) [] kws pos) (tMethSK C m ks.length sp gV (WE W) ta tk) :=
  pe_mtKg (pl := pl) c hr hk (fun σ => L2N.passAt tke σ) he hkw hall hks hpl ht
end
end KB

/-! shares: the numbers, and how an object of the class stands on the heap -/
namespace KB
open PySem PySem.Spec PyProof.Rows L2
section
variable {X : Cx} {a b c : Expr} {tA t1 t2 : TT} {pos : Pos}
/-- a if c else b, as a test -/
def tIfT (c t u : TT) : TT := fun σ H Q => c σ H fun k H1 => if k = true then t σ H1 Q else u σ H1 Q
theorem pt_ifT (hc : PT X c tA) (ha : PT X a t1) (hb : PT X b t2) : PT X (.IfExp c a b pos) (tIfT tA t1 t2) := by
  refine ⟨fun pins s σ H Q I h => ?_⟩
  refine isTrue_IfExp (thn (hc.run pins s σ H _ I h) fun d s1 ⟨H1, I1, q1⟩ => ?_)
  cases d with
  | true => exact ha.run pins s1 σ H1 Q I1 q1
  | false => exact hb.run pins s1 σ H1 Q I1 q1
end
theorem roomS {X : Cx} {k : Nat} {a : Addr} {pn : List (Addr × Obj)} (hr : Room k X.A) : L2H.RoomH k (X.suite a pn).A := ⟨hr.dp, hr.un⟩
theorem kit_me {K : PySem.W.Frag} {C : Addr} : PySem.W.kitOne K (.ref C) (.ref C) = some true := by
  unfold PySem.W.kitOne
  rw [if_pos (by simp)]
theorem kit_no {K : PySem.W.Frag} {C : Addr} {n : String} {b : Bool} (h1 : PySem.W.isClsIn K C = true) (h2 : PySem.W.typeIn K (.ref C) = some (.type "type")) (h3 : PySem.W.subIn K (.type n) (.ref C) = some b) : PySem.W.kitOne K (.type n) (.ref C) = some b := by
  have e0 : ((Value.type n) == (Value.ref C)) = false := by rfl
  have e2 : ((PySem.W.clsIn K C).isSome && PySem.W.typeIn K (.ref C) == some (.type "type")) = true := by
    have h1' : (PySem.W.clsIn K C).isSome = true := h1
    rw [h1', h2] <;> rfl
  unfold PySem.W.kitOne
  rw [e0]
  show (if ((PySem.W.clsIn K C).isSome && PySem.W.typeIn K (.ref C) == some (.type "type")) = true then PySem.W.subIn K (.type n) (.ref C) else none) = some b
  rw [if_pos e2]
  exact h3
def gN (o u : Int) : Nat := Nat.gcd o.natAbs u.natAbs
def rOd (o u : Int) : Int := if u < 0 then -(o / (gN o u : Int)) else o / (gN o u : Int)
def rUd (o u : Int) : Int := if u < 0 then -(u / (gN o u : Int)) else u / (gN o u : Int)
theorem gN_pos {o u : Int} (h : u ≠ 0) : 0 < gN o u := Nat.gcd_pos_of_pos_right _ (by omega)
theorem gN_o (o u : Int) : (gN o u : Int) ∣ o := Int.ofNat_dvd_left.mpr (Nat.gcd_dvd_left _ _)
theorem gN_u (o u : Int) : (gN o u : Int) ∣ u := Int.ofNat_dvd_left.mpr (Nat.gcd_dvd_right _ _)
theorem gN_le {o u : Int} (h : u ≠ 0) : gN o u ≤ u.natAbs := Nat.le_of_dvd (by omega) (Nat.gcd_dvd_right _ _)
/-- the sign of the divisor -/
def cN (o u : Int) : Int := if u < 0 then -(gN o u : Int) else (gN o u : Int)
theorem cN_ne {o u : Int} (h : u ≠ 0) : cN o u ≠ 0 := by
  have := gN_pos (o := o) h
  unfold cN
  split <;> omega
theorem cN_abs {o u : Int} : (cN o u).natAbs = gN o u := by
  unfold cN
  split <;> omega
theorem fdiv_of {a g : Int} (x : Int) (hg : g ≠ 0) (e : a = g * x) : a.fdiv g = x := by
  subst e
  rw [Int.fdiv_eq_ediv_of_dvd (Int.dvd_mul_right _ _)]
  exact Int.mul_ediv_cancel_left _ hg
theorem div_of {a g : Int} (x : Int) (hg : g ≠ 0) (e : a = g * x) : a / g = x := by
  subst e
  exact Int.mul_ediv_cancel_left _ hg
theorem fdiv_o {o u : Int} (h : u ≠ 0) : o.fdiv (cN o u) = rOd o u := by
  have g := gN_pos (o := o) h
  obtain ⟨x, e⟩ := gN_o o u
  have g0 : (gN o u : Int) ≠ 0 := by omega
  unfold rOd cN
  rw [div_of x g0 e]
  split
  · exact fdiv_of _ (by omega) (by rw [Int.neg_mul_neg]; exact e)
  · exact fdiv_of _ g0 e
theorem fdiv_u {o u : Int} (h : u ≠ 0) : u.fdiv (cN o u) = rUd o u := by
  have g := gN_pos (o := o) h
  obtain ⟨x, e⟩ := gN_u o u
  have g0 : (gN o u : Int) ≠ 0 := by omega
  unfold rUd cN
  rw [div_of x g0 e]
  split
  · exact fdiv_of _ (by omega) (by rw [Int.neg_mul_neg]; exact e)
  · exact fdiv_of _ g0 e
theorem rU_pos {o u : Int} (h : u ≠ 0) : 0 < rUd o u := by
  have g := gN_pos (o := o) h
  obtain ⟨x, e⟩ := gN_u o u
  have g0 : (gN o u : Int) ≠ 0 := by omega
  have gp : (0 : Int) < gN o u := by omega
  unfold rUd
  rw [div_of x g0 e]
  split
  · rename_i hu
    have : x < 0 := by
      rcases Int.lt_or_le x 0 with z | z
      · exact z
      · have := Int.mul_nonneg (Int.le_of_lt gp) z
        omega
    omega
  · rename_i hu
    rcases Int.lt_or_le 0 x with z | z
    · exact z
    · have : (gN o u : Int) * x ≤ 0 := Int.mul_nonpos_of_nonneg_of_nonpos (Int.le_of_lt gp) z
      omega
theorem rO_le (o u : Int) : (rOd o u).natAbs ≤ o.natAbs := by
  have z : (o / (gN o u : Int)).natAbs ≤ o.natAbs := Int.natAbs_ediv_le_natAbs _ _
  unfold rOd
  split
  · rw [Int.natAbs_neg]
    exact z
  · exact z
theorem rU_le (o u : Int) : (rUd o u).natAbs ≤ u.natAbs := by
  have z : (u / (gN o u : Int)).natAbs ≤ u.natAbs := Int.natAbs_ediv_le_natAbs _ _
  unfold rUd
  split
  · rw [Int.natAbs_neg]
    exact z
  · exact z
theorem gN_scale {g : Int} (a b : Int) (hg : 0 < g) : (gN (g * a) (g * b) : Int) = g * gN a b := by
  unfold gN
  rw [Int.natAbs_mul, Int.natAbs_mul, Nat.gcd_mul_left, Int.natCast_mul]
  congr 1
  omega
theorem rOd_scale {g : Int} (a b : Int) (hg : 0 < g) : rOd (g * a) (g * b) = rOd a b := by
  have e : (g * a) / (gN (g * a) (g * b) : Int) = a / (gN a b : Int) := by
    rw [gN_scale a b hg]
    exact Int.mul_ediv_mul_of_pos _ _ hg
  unfold rOd
  rw [e]
  by_cases h : b < 0
  · rw [if_pos h, if_pos (Int.mul_neg_of_pos_of_neg hg h)]
  · rw [if_neg h, if_neg (Int.not_lt.mpr (Int.mul_nonneg (Int.le_of_lt hg) (Int.not_lt.mp h)))]
theorem rUd_scale {g : Int} (a b : Int) (hg : 0 < g) : rUd (g * a) (g * b) = rUd a b := by
  have e : (g * b) / (gN (g * a) (g * b) : Int) = b / (gN a b : Int) := by
    rw [gN_scale a b hg]
    exact Int.mul_ediv_mul_of_pos _ _ hg
  unfold rUd
  rw [e]
  by_cases h : b < 0
  · rw [if_pos h, if_pos (Int.mul_neg_of_pos_of_neg hg h)]
  · rw [if_neg h, if_neg (Int.not_lt.mpr (Int.mul_nonneg (Int.le_of_lt hg) (Int.not_lt.mp h)))]
theorem red_ex {o u : Int} (hu : 0 < u) : ∃ g : Int, 0 < g ∧ o = g * rOd o u ∧ u = g * rUd o u := by
  have g0 := gN_pos (o := o) (Int.ne_of_gt hu)
  refine ⟨gN o u, by omega, ?_, ?_⟩
  · unfold rOd
    rw [if_neg (by omega), Int.mul_ediv_cancel' (gN_o o u)]
  · unfold rUd
    rw [if_neg (by omega), Int.mul_ediv_cancel' (gN_u o u)]
theorem red_sum {n d o u : Int} (hu : 0 < u) : rOd (n * u + o * d) (d * u) = rOd (n * rUd o u + rOd o u * d) (d * rUd o u) ∧ rUd (n * u + o * d) (d * u) = rUd (n * rUd o u + rOd o u * d) (d * rUd o u) := by
  obtain ⟨g, g0, eo, eu⟩ := red_ex (o := o) hu
  generalize rOd o u = o' at *
  generalize rUd o u = u' at *
  subst eo eu
  have e1 : n * (g * u') + (g * o') * d = g * (n * u' + o' * d) := by
    rw [Int.mul_add, Int.mul_left_comm n, Int.mul_assoc g o']
  have e2 : d * (g * u') = g * (d * u') := Int.mul_left_comm _ _ _
  rw [e1, e2]
  exact ⟨rOd_scale _ _ g0, rUd_scale _ _ g0⟩
theorem red_less {n d o u : Int} (hu : 0 < u) : rOd (n * u - o * d) (d * u) = rOd (n * rUd o u - rOd o u * d) (d * rUd o u) ∧ rUd (n * u - o * d) (d * u) = rUd (n * rUd o u - rOd o u * d) (d * rUd o u) := by
  obtain ⟨g, g0, eo, eu⟩ := red_ex (o := o) hu
  generalize rOd o u = o' at *
  generalize rUd o u = u' at *
  subst eo eu
  have e1 : n * (g * u') - (g * o') * d = g * (n * u' - o' * d) := by
    rw [Int.mul_sub, Int.mul_left_comm n, Int.mul_assoc g o']
  have e2 : d * (g * u') = g * (d * u') := Int.mul_left_comm _ _ _
  rw [e1, e2]
  exact ⟨rOd_scale _ _ g0, rUd_scale _ _ g0⟩
theorem red_times {n d o u : Int} (hu : 0 < u) : rOd (n * o) (d * u) = rOd (n * rOd o u) (d * rUd o u) ∧ rUd (n * o) (d * u) = rUd (n * rOd o u) (d * rUd o u) := by
  obtain ⟨g, g0, eo, eu⟩ := red_ex (o := o) hu
  generalize rOd o u = o' at *
  generalize rUd o u = u' at *
  subst eo eu
  have e1 : n * (g * o') = g * (n * o') := by
    rw [Int.mul_left_comm n]
  have e2 : d * (g * u') = g * (d * u') := Int.mul_left_comm _ _ _
  rw [e1, e2]
  exact ⟨rOd_scale _ _ g0, rUd_scale _ _ g0⟩
theorem gN_one (n : Int) : gN n 1 = 1 := Nat.gcd_one_right _
theorem gN_one' (n : Int) : gN 1 n = 1 := Nat.gcd_one_left _
theorem rOd_one (n : Int) : rOd n 1 = n := by
  unfold rOd
  rw [if_neg (by decide), gN_one]
  exact Int.ediv_one _
theorem rUd_one (n : Int) : rUd n 1 = 1 := by
  unfold rUd
  rw [if_neg (by decide), gN_one]
  rfl
theorem rOd_one' {n : Int} (h : 0 < n) : rOd 1 n = 1 := by
  unfold rOd
  rw [if_neg (by omega), gN_one']
  rfl
theorem rUd_one' {n : Int} (h : 0 < n) : rUd 1 n = n := by
  unfold rUd
  rw [if_neg (by omega), gN_one']
  exact Int.ediv_one _
/-- Euclid's turns: k turns done of a pair with the product M -/
structure Eu (o u : Int) (k l r : Nat) : Prop where
  g : Nat.gcd l r = gN o u
  l0 : 0 < l
  m : (k = 0 ∧ l = u.natAbs ∧ r = o.natAbs) ∨ (r ≤ l ∧ 2 ^ k * (l * r) ≤ 2 * (u.natAbs * o.natAbs))
theorem Eu.ini {o u : Int} (h : u ≠ 0) : Eu o u 0 u.natAbs o.natAbs := ⟨Nat.gcd_comm _ _, by omega, .inl ⟨rfl, rfl, rfl⟩⟩
theorem Eu.nxt {o u : Int} {k l r : Nat} (E : Eu o u k l r) (h : r ≠ 0) : Eu o u (k + 1) r (l % r) := by
  obtain ⟨g, l0, m⟩ := E
  have lt : l % r < r := Nat.mod_lt _ (by omega)
  refine ⟨?_, by omega, .inr ⟨by omega, ?_⟩⟩
  · rw [Nat.gcd_comm, ← Nat.gcd_rec, Nat.gcd_comm]
    exact g
  · rcases m with ⟨rfl, rfl, rfl⟩ | ⟨hr, hm⟩
    · have a1 : o.natAbs * (u.natAbs % o.natAbs) ≤ o.natAbs * u.natAbs := Nat.mul_le_mul_left _ (Nat.mod_le _ _)
      have a2 : o.natAbs * u.natAbs = u.natAbs * o.natAbs := Nat.mul_comm _ _
      show 2 ^ 1 * _ ≤ _
      omega
    · have h2 : 2 * (l % r) ≤ l := by
        have e := Nat.div_add_mod l r
        have d : 1 ≤ l / r := Nat.div_pos hr (by omega)
        have : r * 1 ≤ r * (l / r) := Nat.mul_le_mul_left _ d
        omega
      have h3 : 2 ^ (k + 1) * (r * (l % r)) = 2 ^ k * (r * (2 * (l % r))) := by
        rw [Nat.pow_succ, Nat.mul_assoc, ← Nat.mul_assoc 2 r, Nat.mul_comm 2 r, Nat.mul_assoc r 2]
      rw [h3]
      refine Nat.le_trans (Nat.mul_le_mul_left _ (Nat.mul_le_mul_left r h2)) ?_
      rw [Nat.mul_comm r l]
      exact hm
theorem Eu.fin {o u : Int} {l r : Nat} (E : Eu o u 9000 l r) (h1 : o.natAbs < 2 ^ 4000) (h2 : u.natAbs < 2 ^ 4000) : r = 0 := by
  obtain ⟨g, l0, m⟩ := E
  rcases m with ⟨z, _⟩ | ⟨hr, hm⟩
  · cases z
  · rcases Nat.eq_zero_or_pos r with z | z
    · exact z
    · exfalso
      have a1 : 1 ≤ l * r := Nat.mul_pos l0 z
      have a2 : 2 ^ 9000 * 1 ≤ 2 ^ 9000 * (l * r) := Nat.mul_le_mul_left _ a1
      have a3 : u.natAbs * o.natAbs ≤ 2 ^ 4000 * 2 ^ 4000 := Nat.mul_le_mul (Nat.le_of_lt h2) (Nat.le_of_lt h1)
      have a4 : (2 : Nat) ^ 4000 * 2 ^ 4000 = 2 ^ 8000 := by rw [← Nat.pow_add]
      have a5 : (2 : Nat) * 2 ^ 8000 = 2 ^ 8001 := (Nat.pow_succ' (m := 2) (n := 8000)).symm
      have a6 : (2 : Nat) ^ 8001 < 2 ^ 9000 := Nat.pow_lt_pow_right (by decide) (by decide)
      generalize (2 : Nat) ^ 9000 = A at *
      generalize (2 : Nat) ^ 8001 = B at *
      generalize (2 : Nat) ^ 8000 = D at *
      generalize (2 : Nat) ^ 4000 * 2 ^ 4000 = F at *
      omega
theorem Eu.gcd {o u : Int} {k l : Nat} (E : Eu o u k l 0) : l = gN o u := by
  have := E.g
  rwa [Nat.gcd_zero_right] at this
theorem bits_mul {x y : Int} {a b : Nat} (h1 : x.natAbs < 2 ^ a) (h2 : y.natAbs < 2 ^ b) : (x * y).natAbs < 2 ^ (a + b) := wide_lt h1 h2
theorem bits_add {x y : Int} {a : Nat} (h1 : x.natAbs < 2 ^ a) (h2 : y.natAbs < 2 ^ a) : (x + y).natAbs < 2 ^ (a + 1) := by
  rw [Nat.pow_succ]
  omega
theorem bits_sub {x y : Int} {a : Nat} (h1 : x.natAbs < 2 ^ a) (h2 : y.natAbs < 2 ^ a) : (x - y).natAbs < 2 ^ (a + 1) := by
  rw [Nat.pow_succ]
  omega
theorem bits_le {x : Int} {a b : Nat} (h : x.natAbs < 2 ^ a) (hb : a ≤ b) : x.natAbs < 2 ^ b := Nat.lt_of_lt_of_le h (Nat.pow_le_pow_right (by decide) hb)
theorem bits_of {x : Int} {a : Nat} (h : x.natAbs ≤ 2 ^ a) : x.natAbs < 2 ^ (a + 1) := by
  have : 0 < 2 ^ a := Nat.pow_pos (by decide)
  rw [Nat.pow_succ]
  omega

/-! ### an object of the class -/
structure ShC (K : PySem.W.Frag) (C : Addr) : Prop where
  ins : C8.InsC K C
  no : NoAttr K C "over"
  nu : NoAttr K C "under"
  op : OpC K C
  nf : PySem.W.notFirst K C (.ref C) = true
def fz (n d : Int) : List (Str × V) := [("over", .int n), ("under", .int d)]
theorem fz_o {n d : Int} : List.lookup ("over" : Str) (fz n d) = some (V.int n) := rfl
theorem fz_u {n d : Int} : List.lookup ("under" : Str) (fz n d) = some (V.int d) := rfl
def Sh (C : Addr) (H : Hp) (x : Addr) (n d : Int) : Prop := ∃ dx, H x = some (.ins C dx (fz n d))
theorem Sh.mono {C : Addr} {H H' : Hp} {x : Addr} {n d : Int} (h : Sh C H x n d) (s : Same H H') : Sh C H' x n d := by
  obtain ⟨dx, e⟩ := h
  exact ⟨dx, s _ _ e⟩
theorem ShC.ty {K : PySem.W.Frag} {C : Addr} (c : ShC K C) {H : Hp} {x : Addr} {n d : Int} (h : Sh C H x n d) : TyX K H (.ref x) (.ref C) := by
  obtain ⟨dx, e⟩ := h
  exact .base (.ins e c.ins.cl c.ins.ha c.ins.hn c.ins.htk c.ins.hm)
/-- a kind that is no share's -/
structure Foe (K : PySem.W.Frag) (C : Addr) (t : Value) : Prop where
  k : PySem.W.kitOne K t (.ref C) = some false
  nf : PySem.W.notFirst K C t = true
/-- a share is made at x, its dict at dx -/
def mkS (C : Addr) (H : Hp) (x dx : Addr) (n d : Int) : Hp := upd (upd H dx (.own x)) x (.ins C dx (fz n d))
theorem mkS_same {C : Addr} {H : Hp} {x dx : Addr} {n d : Int} (hx : H x = none) (hd : H dx = none) : Same H (mkS C H x dx n d) := (same_out (same_upd hd) hx)
theorem mkS_sh {C : Addr} {H : Hp} {x dx : Addr} {n d : Int} : Sh C (mkS C H x dx n d) x n d := ⟨dx, upd_same⟩
theorem Tp.mkSh {B H H' : Hp} {t x dx C : Addr} {c : Nat} {n d : Int} (T : Tp B H t c) (hx : H x = none) (hdx : H dx = none) (hne : dx ≠ x) (e : H' = upd (upd (upd H dx (.own x)) x (.ins C dx [])) x (.ins C dx (fz n d))) : ∃ B', Same B B' ∧ Tp B' H' t c ∧ Sh C B' x n d := by
  rw [upd_upd] at e
  subst e
  exact ⟨mkS C B x dx n d, mkS_same (T.isn hx) (T.isn hdx), T.inst hx hdx hne, mkS_sh⟩
def pick3 {α : Type} (a b c : α) : Nat → α
  | 0 => a
  | 1 => b
  | _ => c
theorem get3 {S : Nat → Addr} {i : Nat} (h : i < 3) : [V.ref (S 0), V.ref (S 1), V.ref (S 2)][i]? = some (V.ref (S i)) := by
  rcases (by omega : i = 0 ∨ i = 1 ∨ i = 2) with rfl | rfl | rfl <;> rfl
def spInit (C CN : Addr) : Sp := fun vs H Q E => ∃ x dx o u, vs = [.ref x, .int o, .int u] ∧ H x = some (.ins C dx []) ∧ u.natAbs < 2 ^ 9000 ∧
  ((u ≠ 0 ∧ ∀ H', H' = upd H x (.ins C dx (fz (rOd o u) (rUd o u))) → Q .non H') ∨ (u = 0 ∧ ∀ d, H d = none → E (.ref CN) (some d) (upd H d (.xd [("number", .int 0)]))))
/-- a binary operator of two shares -/
def spOp (C : Addr) (fo fu : Int → Int → Int → Int → Int) : Sp := fun vs H Q _ => ∃ a b n d m e, vs = [.ref a, .ref b] ∧ Sh C H a n d ∧ Sh C H b m e ∧ 0 < d ∧ 0 < e ∧ (n.natAbs < 2 ^ 4000 ∧ d.natAbs < 2 ^ 4000 ∧ m.natAbs < 2 ^ 4000 ∧ e.natAbs < 2 ^ 4000) ∧
  ∀ x dx, H x = none → H dx = none → dx ≠ x → Q (.ref x) (mkS C H x dx (rOd (fo n d m e) (fu n d m e)) (rUd (fo n d m e) (fu n d m e)))
def spAdd (C : Addr) : Sp := spOp C (fun n d m e => n * e + m * d) (fun _ d _ e => d * e)
def spSub (C : Addr) : Sp := spOp C (fun n d m e => n * e - m * d) (fun _ d _ e => d * e)
def spMul (C : Addr) : Sp := spOp C (fun n _ m _ => n * m) (fun _ d _ e => d * e)
def spEq (K : PySem.W.Frag) (C : Addr) : Sp := fun vs H Q _ => ∃ a y n d, vs = [.ref a, y] ∧ Sh C H a n d ∧ ((∃ b m e, y = .ref b ∧ Sh C H b m e ∧ Q (.bl (decide (n = m) && decide (d = e))) H) ∨ ∃ t, TyX K H y t ∧ Foe K C t ∧ Q (.bl false) H)
def spBelow (C : Addr) : Sp := fun vs H Q _ => ∃ a b n d m e, vs = [.ref a, .ref b] ∧ Sh C H a n d ∧ Sh C H b m e ∧ (n.natAbs < 2 ^ 4000 ∧ d.natAbs < 2 ^ 4000 ∧ m.natAbs < 2 ^ 4000 ∧ e.natAbs < 2 ^ 4000) ∧ Q (.bl (decide (n * e < m * d))) H
def spHalf (C : Addr) : Sp := fun vs H Q _ => ∃ n : Nat, vs = [.int n] ∧ n ≤ 8000 ∧ ∀ x dx, H x = none → H dx = none → dx ≠ x → Q (.ref x) (mkS C H x dx (rOd 1 (2 ^ n)) (rUd 1 (2 ^ n)))
end KB

/-! things: values of data on the heap -/
namespace KB
open PySem PySem.Spec PyProof.Rows L2
theorem sameT {K : PySem.W.Frag} {H H' : Hp} {a : Addr} {xs : List V} (e : Same H H') (h : SqT K H a xs) : SqT K H' a xs := by
  rcases h with (h | ⟨o, h⟩) | h
  · exact .inl (.inl (e _ _ h))
  · exact .inl (.inr ⟨o, e _ _ h⟩)
  · exact .inr h
mutual
theorem Dp.mono {K : PySem.W.Frag} {H H' : Hp} (s : Same H H') : ∀ (d : PyData) (v : V), Dp K H v d → Dp K H' v d
  | .none, _, h => by cases h; exact .non
  | .bool b, _, h => by cases h; exact .bl b
  | .int i, _, h => by cases h; exact .int i
  | .str x, _, h => by cases h; exact .str x
  | .list ds, _, h => by
    cases h with
    | lst hs ha => exact .lst (s.seq hs) (DpAll.mono s ds _ ha)
  | .tuple ds, _, h => by
    cases h with
    | tup hs ha => exact .tup (sameT s hs) (DpAll.mono s ds _ ha)
  | .dict _, _, h => by cases h
theorem DpAll.mono {K : PySem.W.Frag} {H H' : Hp} (s : Same H H') : ∀ (ds : List PyData) (vs : List V), DpAll K H vs ds → DpAll K H' vs ds
  | [], _, h => by cases h; exact .nil
  | d :: ds, _, h => by
    cases h with
    | cons h1 h2 => exact .cons (Dp.mono s d _ h1) (DpAll.mono s ds _ h2)
end
theorem DpAll.len {K : PySem.W.Frag} {H : Hp} : ∀ {ds : List PyData} {vs : List V}, DpAll K H vs ds → vs.length = ds.length
  | [], _, h => by cases h; rfl
  | d :: ds, _, h => by
    cases h with
    | cons h1 h2 => rw [List.length_cons, List.length_cons, DpAll.len h2]
theorem DpAll.get {K : PySem.W.Frag} {H : Hp} : ∀ {ds : List PyData} {vs : List V} {k : Nat} {d : PyData}, DpAll K H vs ds → ds[k]? = some d → ∃ v, vs[k]? = some v ∧ Dp K H v d
  | [], _, _, _, _, e => by simp at e
  | d :: ds, _, 0, d', h, e => by
    cases h with
    | cons h1 h2 =>
      cases Option.some.inj e
      exact ⟨_, rfl, h1⟩
  | d :: ds, _, k + 1, d', h, e => by
    cases h with
    | cons h1 h2 =>
      obtain ⟨v, h3, h4⟩ := DpAll.get h2 (show ds[k]? = some d' from e)
      exact ⟨v, h3, h4⟩
theorem DpAll.get' {K : PySem.W.Frag} {H : Hp} {ds : List PyData} {vs : List V} {k : Nat} {v : V} (h : DpAll K H vs ds) (e : vs[k]? = some v) : ∃ d, ds[k]? = some d ∧ Dp K H v d := by
  have hk : k < vs.length := (List.getElem?_eq_some_iff.mp e).1
  have hk' : k < ds.length := by rw [← DpAll.len h]; exact hk
  obtain ⟨v', h3, h4⟩ := DpAll.get h (List.getElem?_eq_getElem hk')
  rw [e] at h3
  cases Option.some.inj h3
  exact ⟨_, List.getElem?_eq_getElem hk', h4⟩
theorem DpAll.snoc {K : PySem.W.Frag} {H : Hp} {v : V} {d : PyData} (hd : Dp K H v d) : ∀ {ds : List PyData} {vs : List V}, DpAll K H vs ds → DpAll K H (vs ++ [v]) (ds ++ [d])
  | [], _, h => by cases h; exact .cons hd .nil
  | e :: ds, _, h => by
    cases h with
    | cons h1 h2 => exact .cons h1 (DpAll.snoc hd h2)
/-- data of a height below n, its sequences not long -/
def okD : Nat → PyData → Bool
  | 0, _ => false
  | _ + 1, .none => true
  | _ + 1, .bool _ => true
  | _ + 1, .int _ => true
  | _ + 1, .str _ => true
  | n + 1, .list ds => decide (ds.length ≤ 100000) && ds.all (okD n)
  | n + 1, .tuple ds => decide (ds.length ≤ 100000) && ds.all (okD n)
  | _ + 1, .dict _ => false
theorem okD_seq {n : Nat} {ds : List PyData} (h : (decide (ds.length ≤ 100000) && ds.all (okD n)) = true) : ds.length ≤ 100000 ∧ ∀ d ∈ ds, okD n d = true := by
  rw [Bool.and_eq_true] at h
  exact ⟨of_decide_eq_true h.1, List.all_eq_true.mp h.2⟩
theorem okD_mk {n : Nat} {ds : List PyData} (h1 : ds.length ≤ 100000) (h2 : ∀ d ∈ ds, okD n d = true) : (decide (ds.length ≤ 100000) && ds.all (okD n)) = true := by
  rw [Bool.and_eq_true]
  exact ⟨decide_eq_true h1, List.all_eq_true.mpr h2⟩
theorem ty_seq {K : PySem.W.Frag} {H : Hp} {a : Addr} {xs : List V} (h : SqL K H a xs) : TyX K H (.ref a) (.type "list") := by
  rcases h with (h | ⟨o, h⟩) | ⟨o, its, n, h1, h2, _⟩
  · exact .base (.lst h)
  · exact .base (.frz h)
  · exact .kList h1 h2
theorem ty_tup {K : PySem.W.Frag} {H : Hp} {a : Addr} {xs : List V} (h : SqT K H a xs) : TyX K H (.ref a) (.type "tuple") := by
  rcases h with (h | ⟨o, h⟩) | ⟨o, its, n, h1, h2, _⟩
  · exact .base (.tup h)
  · exact .fTuple h
  · exact .kTuple h1 h2
def tn : PyData → String
  | .none => "NoneType"
  | .bool _ => "bool"
  | .int _ => "int"
  | .str _ => "str"
  | .list _ => "list"
  | .tuple _ => "tuple"
  | .dict _ => "dict"
theorem ty_dp {K : PySem.W.Frag} {H : Hp} {d : PyData} {v : V} (h : Dp K H v d) : TyX K H v (.type (tn d)) := by
  cases h with
  | non => exact .base .non
  | bl b => exact .base (.bl b)
  | int i => exact .base (.int i)
  | str x => exact .base (.str x)
  | lst hs _ => exact ty_seq hs
  | tup hs _ => exact ty_tup hs
/-- x is b, b a bool -/
theorem op_isB {X : Cx} : OpR X (compareOp .Is) (fun x y H Q => ∃ b, y = .bl b ∧ Q (.bl (decide (x = .bl b))) H) := by
  intro pins s σ H x y v u Q I rx ry h
  obtain ⟨b, rfl, q⟩ := h
  cases (show u = Value.bool b from ry)
  have go : ∀ v : Value, PySem.plainIs v (.bool b) = true → RelV x v → wpAny (model X.prog X.w) X.A (compareOp .Is v (.bool b)) (EP X pins σ Q) X.xe s := fun v hp r => by
    refine PySem.wpAny_is_plain hp ⟨.bl (v == .bool b), H, I, rfl, ?_⟩
    have e : (v == Value.bool b) = decide (x = .bl b) := by
      rw [Bool.eq_iff_iff, beq_iff_eq, decide_eq_true_iff]
      constructor
      · intro z
        subst z
        exact RelV.inj r rfl
      · intro z
        subst z
        exact r
    rw [e]
    exact q
  refine go v ?_ rx
  cases x with
  | non => cases rx; rfl
  | bl j => cases rx; rfl
  | int j => obtain ⟨t, rfl⟩ := rx; rfl
  | str j => obtain ⟨t, rfl⟩ := rx; rfl
  | byt j => obtain ⟨t, rfl⟩ := rx; rfl
  | flt j => obtain ⟨t, rfl⟩ := rx; rfl
  | ref j => cases rx; rfl
  | ty j => cases rx; rfl
def spSame (K : PySem.W.Frag) (n : Nat) : Sp := fun vs H Q _ => ∃ x y d, vs = [x, y] ∧ okD n d = true ∧ Dp K H x d ∧ Dp K H y d ∧ Q (.bl true) H
/-- N: cells that are new behind H, as they stand in H' -/
structure Nw (N H H' : Hp) : Prop where
  same : Same N H'
  new : ∀ p, N p ≠ none → H p = none
def mrg (N M : Hp) : Hp := fun p => match N p with
  | some o => some o
  | none => M p
theorem mrg_l {N M : Hp} : Same N (mrg N M) := fun p o e => by
  unfold mrg
  rw [e]
theorem mrg_r {N M : Hp} (h : ∀ p, M p ≠ none → N p = none) : Same M (mrg N M) := fun p o e => by
  unfold mrg
  rw [h p (by rw [e]; exact fun z => by cases z)]
  exact e
theorem mrg_none {N M : Hp} {p : Addr} (h1 : N p = none) (h2 : M p = none) : mrg N M p = none := by
  unfold mrg
  rw [h1]
  exact h2
theorem mrg_same {N M H : Hp} (h1 : Same N H) (h2 : Same M H) : Same (mrg N M) H := fun p o e => by
  unfold mrg at e
  split at e
  · rename_i o' e'
    cases e
    exact h1 _ _ e'
  · exact h2 _ _ e
theorem Nw.nil {H : Hp} : Nw (fun _ => none) H H := ⟨fun _ _ e => (by cases e), fun _ h => absurd rfl h⟩
theorem Nw.disj {N M H H1 H2 : Hp} (h1 : Nw N H H1) (h2 : Nw M H1 H2) : ∀ p, M p ≠ none → N p = none := fun p h => h1.same.free (h2.new p h)
theorem Nw.add {N M H H1 H2 : Hp} (h1 : Nw N H H1) (h2 : Nw M H1 H2) (s : Same H H1) (s2 : Same H1 H2) : Nw (mrg N M) H H2 := by
  refine ⟨mrg_same (h1.same.trans s2) h2.same, fun p h => ?_⟩
  cases e : N p with
  | some o => exact h1.new p (by rw [e]; exact fun z => by cases z)
  | none =>
    refine s.free (h2.new p fun z => h ?_)
    exact mrg_none e z
theorem Nw.put {N H H1 : Hp} {l : Addr} {o : HO} (h1 : Nw N H H1) (s : Same H H1) (hl : H1 l = none) : Nw (upd N l o) H (upd H1 l o) := by
  refine ⟨same_set h1.same, fun p h => ?_⟩
  by_cases e : p = l
  · subst e
    exact s.free hl
  · rw [upd_ne e] at h
    exact h1.new p h
theorem Nw.out {N H H1 : Hp} {l : Addr} {o : HO} (h1 : Nw N H H1) (hl : N l = none) : Nw N H (upd H1 l o) := ⟨same_out h1.same hl, h1.new⟩
theorem Nw.own {N H H1 : Hp} {l : Addr} {o : HO} (h1 : Nw N H H1) (hl : H l = none) (e : H1 l = some o) : Nw (upd N l o) H H1 := by
  refine ⟨fun p x hx => ?_, fun p h => ?_⟩
  · by_cases z : p = l
    · subst z
      rw [upd_same] at hx
      cases hx
      exact e
    · rw [upd_ne z] at hx
      exact h1.same _ _ hx
  · by_cases z : p = l
    · subst z
      exact hl
    · rw [upd_ne z] at h
      exact h1.new p h
def spCopy (K : PySem.W.Frag) (n : Nat) : Sp := fun vs H Q _ => ∃ x d, vs = [x] ∧ okD n d = true ∧ Dp K H x d ∧ ∀ H' v N, Same H H' → Nw N H H' → Dp K N v d → Q v H'
end KB
namespace KB
open PySem PySem.Spec PyProof.Rows L2
/-- a text so many times -/
def repS (z : Str) (k : Int) : Str := ⟨((List.replicate k.toNat z.cps.toList).flatten).toArray⟩
theorem foldl_app (z : Array Nat) : ∀ (n : Nat) (b : Array Nat), ((List.replicate n z).foldl (· ++ ·) b).toList = b.toList ++ (List.replicate n z.toList).flatten
  | 0, b => by simp
  | n + 1, b => by
    rw [List.replicate_succ, List.foldl_cons, foldl_app z n, List.replicate_succ, List.flatten_cons, Array.toList_append, List.append_assoc]
theorem repS_len (z : Str) (k : Int) : (repS z k).length = k.toNat * z.length := by
  show ((List.replicate k.toNat z.cps.toList).flatten.toArray).size = _
  rw [List.size_toArray, List.length_flatten]
  simp
  rfl
def rRepS : R2 := fun x y H Q => ∃ (z : Str) (k : Int), x = .str z ∧ y = .int k ∧ -(2 ^ 63) ≤ k ∧ k < 2 ^ 63 ∧ k.toNat * z.length ≤ 16777216 ∧ Q (.str (repS z k)) H
theorem op_repS {X : Cx} : OpR X (binaryOp .Mult) rRepS := by
  intro pins s σ H x y v u Q I rx ry h
  obtain ⟨z, k, rfl, rfl, h1, h2, hz, q⟩ := h
  obtain ⟨t, rfl⟩ := rx
  obtain ⟨t', rfl⟩ := ry
  have hk : ¬ k < 1 → ((k.toNat * z.length : Nat) : Int) = (z.length : Int) * k := fun hk => by
    rw [Int.natCast_mul, Int.toNat_of_nonneg (by omega), Int.mul_comm]
  refine PySem.P.mul_str (by rw [decide_eq_false (by omega), decide_eq_false (by omega)] <;> rfl) (fun hk1 _ hgt => ?_) (fun hk1 _ => ?_) ?_
  · have e := hk hk1
    have : (z.length : Int) ≤ (2 ^ 63 - 1) / k := Int.le_ediv_of_mul_le (by omega) (by omega)
    omega
  · rw [Nat.mul_comm]
    unfold Builtin.Str.tooLong
    have e := sizeLine_eq
    simp only [decide_eq_false_iff_not]
    omega
  · have len := repS_len z k
    have e1 : k < 1 → Str.empty = repS z k := fun h => by
      unfold repS
      rw [show k.toNat = 0 by omega]
      rfl
    have e2 : (k == 1 || z.length == 0) = true → z = repS z k := fun h => by
      unfold repS
      rw [Bool.or_eq_true, beq_iff_eq, beq_iff_eq] at h
      rcases h with h | h
      · subst h
        obtain ⟨c⟩ := z
        simp
      · obtain ⟨c⟩ := z
        have : c = #[] := Array.eq_empty_of_size_eq_zero h
        subst this
        simp
    have e3 : (⟨(List.replicate k.toNat z.cps).foldl (· ++ ·) #[]⟩ : Str) = repS z k := by
      unfold repS
      congr 1
      apply Array.toList_inj.mp
      rw [foldl_app]
      simp
    have sl := sizeLine_eq
    by_cases c1 : k < 1
    · rw [if_pos c1, e1 c1]
      exact ⟨by rw [len]; omega, .str _, H, I.tok _, ⟨_, rfl⟩, q⟩
    · rw [if_neg c1]
      by_cases c2 : (k == 1 || z.length == 0) = true
      · rw [if_pos c2]
        rw [← e2 c2] at q
        exact ⟨.str _, H, I, ⟨_, rfl⟩, q⟩
      · rw [if_neg c2, e3]
        exact ⟨by rw [len]; omega, .str _, H, I.tok _, ⟨_, rfl⟩, q⟩
end KB
namespace KB
open PySem PySem.Spec PyProof.Rows L2
theorem Tp.shrink {B B' H : Hp} {t : Addr} {c : Nat} (T : Tp B' H t c) (s : Same B B') : Tp B H t c := by
  obtain ⟨sm, bt, g, gs, sd, ct, h1, h2⟩ := T
  exact ⟨s.trans sm, s.free bt, g, gs, sd, ct, s.free h1, h2⟩
theorem mrg_e {B : Hp} : mrg B (fun _ => none) = B := by
  funext p
  unfold mrg
  split
  · rename_i o e
    exact e.symm
  · rename_i e
    exact e.symm
theorem mrg_assoc {B N M : Hp} : mrg (mrg B N) M = mrg B (mrg N M) := by
  funext p
  unfold mrg
  cases B p <;> cases N p <;> rfl
theorem mrg_upd {B N : Hp} {D : Addr} {o : HO} : mrg (upd B D o) N = upd (mrg B N) D o := by
  funext p
  unfold mrg upd
  by_cases h : p = D
  · simp only [if_pos h]
  · simp only [if_neg h]
theorem mrg_move {B N : Hp} {D : Addr} {o : HO} (hB : B D = none) : mrg (upd B D o) N = mrg B (upd N D o) := by
  funext p
  unfold mrg upd
  by_cases h : p = D
  · subst h
    simp only [if_true, hB]
  · simp only [if_neg h]
theorem mrg_put {B N : Hp} {D : Addr} {o : HO} (hB : B D = none) : upd (mrg B N) D o = mrg B (upd N D o) := by rw [← mrg_upd, mrg_move hB]
/-- N's cells are new behind H -/
def New (N H : Hp) : Prop := ∀ p, N p ≠ none → H p = none
theorem New.nil {H : Hp} : New (fun _ => none) H := fun _ h => absurd rfl h
theorem New.off {N H : Hp} {p : Addr} {o : HO} (h : New N H) (e : H p = some o) : N p = none := by
  cases z : N p with
  | none => rfl
  | some o' =>
    have := h p (by rw [z]; exact fun z => by cases z)
    rw [e] at this
    cases this
theorem New.put {N H : Hp} {p : Addr} {o : HO} (h : New N H) (hp : H p = none) : New (upd N p o) H := fun q hq => by
  by_cases e : q = p
  · subst e
    exact hp
  · rw [upd_ne e] at hq
    exact h q hq
theorem New.r {B N H : Hp} (h : New N H) (s : Same B H) : Same N (mrg B N) := mrg_r fun p hp => s.free (h p hp)
/-- the tape behind a def that drew a thing: N is the thing -/
theorem Tp.e {B H : Hp} {t : Addr} {c : Nat} (T : Tp B H t c) : Tp (mrg B (fun _ => none)) H t c := by rw [mrg_e]; exact T
theorem at_some {α : Type} {xs : List α} {i : Int} (h0 : 0 ≤ i) (h1 : i < xs.length) : ∃ c, atI xs i = some c := by
  obtain ⟨j, rfl⟩ := nat_of h0
  exact ⟨_, atI_nat (List.getElem?_eq_getElem (by omega))⟩
end KB
namespace KB
open PySem PySem.Spec PyProof.Rows L2
theorem New.mrg {B N M : Hp} (h1 : New N B) (h2 : New M (mrg B N)) : New (mrg N M) B := fun p hp => by
  cases e : N p with
  | some o => exact h1 p (by rw [e]; exact fun z => by cases z)
  | none =>
    have : M p ≠ none := fun z => hp (mrg_none e z)
    have h3 := h2 p this
    unfold KB.mrg at h3
    cases eB : B p with
    | none => rfl
    | some o => rw [eB] at h3; cases h3
theorem mrg_nl {B N : Hp} {p : Addr} (h : mrg B N p = none) : B p = none := by
  unfold mrg at h
  cases e : B p with
  | none => rfl
  | some o => rw [e] at h; cases h
theorem mrg_nr {B N : Hp} {p : Addr} (h : mrg B N p = none) : N p = none := by
  have hb := mrg_nl h
  unfold mrg at h
  rw [hb] at h
  exact h
theorem dp_ints {K : PySem.W.Frag} {N : Hp} : ∀ is : List Int, DpAll K N (is.map V.int) (is.map PyData.int)
  | [] => .nil
  | i :: is => .cons (.int i) (dp_ints is)
/-- a list of things at D, drawn: ready to be handed on -/
structure Lst (K : PySem.W.Frag) (B H : Hp) (t : Addr) (c : Nat) (D : Addr) (zs : List V) (ds : List PyData) (N : Hp) : Prop where
  tp : Tp (mrg (upd B D (.lst zs)) N) H t c
  new : New N B
  bD : B D = none
  nD : N D = none
  all : DpAll K N zs ds
theorem Lst.ini {K : PySem.W.Frag} {B H : Hp} {t D : Addr} {c : Nat} (T : Tp B H t c) (hD : H D = none) : Lst K B (upd H D (.lst [])) t c D [] [] (fun _ => none) :=
  ⟨by rw [mrg_e]; exact T.new hD, New.nil, T.isn hD, rfl, .nil⟩
theorem Lst.hD {K : PySem.W.Frag} {B H : Hp} {t D : Addr} {c : Nat} {zs : List V} {ds : List PyData} {N : Hp} (L : Lst K B H t c D zs ds N) : H D = some (.lst zs) := L.tp.at (mrg_l _ _ upd_same)
/-- one thing more -/
theorem Lst.add {K : PySem.W.Frag} {B H H' : Hp} {t D : Addr} {c c' : Nat} {zs : List V} {ds : List PyData} {N M : Hp} {v : V} {d : PyData} (L : Lst K B H t c D zs ds N) (T : Tp (mrg (mrg (upd B D (.lst zs)) N) M) H' t c') (hM : New M (mrg (upd B D (.lst zs)) N)) (hv : Dp K M v d) :
    H' D = some (.lst zs) ∧ Lst K B (upd H' D (.lst (zs ++ [v]))) t c' D (zs ++ [v]) (ds ++ [d]) (mrg N M) := by
  rw [mrg_assoc] at T
  have hb : mrg (upd B D (.lst zs)) (mrg N M) D = some (.lst zs) := mrg_l _ _ upd_same
  have T2 := T.set (o' := .lst (zs ++ [v])) hb
  rw [← mrg_upd, upd_upd] at T2
  have mD : M D = none := hM.off (mrg_l _ _ upd_same)
  have dj : ∀ p, M p ≠ none → N p = none := fun p hp => mrg_nr (hM p hp)
  refine ⟨T.at hb, T2, L.new.mrg (M := M) fun p hp => ?_, L.bD, mrg_none L.nD mD, DpAll.snoc (Dp.mono (mrg_r dj) _ _ hv) (DpAll.mono mrg_l _ _ L.all)⟩
  have z := hM p hp
  have zn := mrg_nr z
  have zb := mrg_nl z
  refine mrg_none ?_ zn
  by_cases e : p = D
  · subst e
    exact L.bD
  · rw [upd_ne e] at zb
    exact zb
theorem Lst.asList {K : PySem.W.Frag} {B H : Hp} {t D : Addr} {c : Nat} {zs : List V} {ds : List PyData} {N : Hp} (L : Lst K B H t c D zs ds N) : Tp (mrg B (upd N D (.lst zs))) H t c ∧ New (upd N D (.lst zs)) B ∧ Dp K (upd N D (.lst zs)) (.ref D) (.list ds) :=
  ⟨by rw [← mrg_move L.bD]; exact L.tp, L.new.put L.bD, .lst (SqL.of upd_same) (DpAll.mono (same_upd L.nD) _ _ L.all)⟩
theorem Lst.asTup {K : PySem.W.Frag} {B H : Hp} {t D l : Addr} {c : Nat} {zs : List V} {ds : List PyData} {N : Hp} (L : Lst K B H t c D zs ds N) (hl : H l = none) : ∃ M, Tp (mrg B M) (upd H l (.tup zs)) t c ∧ New M B ∧ Dp K M (.ref l) (.tuple ds) := by
  have z := L.tp.isn hl
  have bl : upd B D (.lst zs) l = none := mrg_nl z
  have nl : N l = none := mrg_nr z
  have hne : D ≠ l := ne_of_none upd_same bl
  have bl2 : B l = none := by rw [upd_ne hne.symm] at bl; exact bl
  have T := L.tp.new (o := .tup zs) hl
  rw [mrg_put bl, mrg_move L.bD] at T
  have nD2 : upd N l (.tup zs) D = none := by rw [upd_ne hne]; exact L.nD
  exact ⟨_, T, (L.new.put bl2).put L.bD, .tup (SqT.of (same_upd nD2 _ _ upd_same)) (DpAll.mono ((same_upd nl).trans (same_upd nD2)) _ _ L.all)⟩
end KB
namespace KB
open PySem PySem.Spec PyProof.Rows L2
def isI : V → Bool
  | .int _ => true
  | _ => false
def isS (m : Nat) : V → Bool
  | .str z => decide (z.length ≤ m)
  | _ => false
theorem at_int {xs : List V} {i : Int} (h0 : 0 ≤ i) (h1 : i < xs.length) (h : xs.all isI = true) : ∃ z, atI xs i = some (.int z) := by
  obtain ⟨j, rfl⟩ := nat_of h0
  have e := List.getElem?_eq_getElem (l := xs) (i := j) (by omega)
  have m := List.all_eq_true.mp h _ (List.mem_of_getElem? e)
  cases q : xs[j]'(by omega) with
  | int z => exact ⟨z, atI_nat (by rw [e, q])⟩
  | _ => rw [q] at m; cases m
theorem at_str {m : Nat} {xs : List V} {i : Int} (h0 : 0 ≤ i) (h1 : i < xs.length) (h : xs.all (isS m) = true) : ∃ z : Str, atI xs i = some (.str z) ∧ z.length ≤ m := by
  obtain ⟨j, rfl⟩ := nat_of h0
  have e := List.getElem?_eq_getElem (l := xs) (i := j) (by omega)
  have mm := List.all_eq_true.mp h _ (List.mem_of_getElem? e)
  cases q : xs[j]'(by omega) with
  | str z => exact ⟨z, atI_nat (by rw [e, q]), by rw [q] at mm; exact of_decide_eq_true mm⟩
  | _ => rw [q] at mm; cases mm
end KB
namespace KB
open PySem PySem.Spec PyProof.Rows L2
theorem str_app_len (a b : Str) : (a ++ b).length = a.length + b.length := by
  show (a.cps ++ b.cps).size = a.cps.size + b.cps.size
  rw [Array.size_append]
end KB

/-! a number in base two: f'{n:b}' -/
namespace KB
open PySem PySem.Spec PyProof.Rows L2
def dgB (n : Nat) : List Nat := (Nat.toDigits 2 n).map fun c => c.toNat
def binS (n : Nat) : Str := ⟨(dgB n).toArray⟩
def padB (ds : List Nat) : List Nat := List.replicate (((-1 : Int) - ((([] : List Nat).length : Nat) + (([] : List Nat).length : Nat) + (([] : List Nat).length : Nat) : Int)) - ds.length).toNat 32
def dsB (n : Nat) : List Nat := if (dgB n).isEmpty then [] else List.replicate ((0 : Int).toNat - (dgB n).length) 48 ++ dgB n
theorem int_fmt (n : Nat) (t u : Tok) : Builtin.«int.__format__» ⟨[.int (n : Int) t, .str ("b" : Str) u], []⟩ = (typeNameOf (.str ("b" : Str) u) >>= fun _ => typeNameOfCut 200 (.int (n : Int) t) >>= fun _ => retStr ⟨(padB (dsB n) ++ [] ++ [] ++ List.replicate 0 32 ++ dsB n ++ [] ++ List.replicate 0 32).toArray⟩) := by
  rfl
theorem binS_eq (n : Nat) : (⟨(padB (dsB n) ++ [] ++ [] ++ List.replicate 0 32 ++ dsB n ++ [] ++ List.replicate 0 32).toArray⟩ : Str) = binS n := by
  have e1 : padB (dsB n) = [] := by
    unfold padB
    rw [show (((-1 : Int) - ((([] : List Nat).length : Nat) + (([] : List Nat).length : Nat) + (([] : List Nat).length : Nat) : Int)) - (dsB n).length).toNat = 0 by simp]
    rfl
  have e2 : dsB n = dgB n := by
    unfold dsB
    split
    · rename_i h
      exact (List.isEmpty_iff.mp h).symm
    · show List.replicate (0 - (dgB n).length) 48 ++ dgB n = dgB n
      rw [Nat.zero_sub]
      rfl
  rw [e1, e2]
  unfold binS
  simp
theorem gives_fmtB (n : Nat) (t u : Tok) : Gives (Builtin.«int.__format__» ⟨[.int (n : Int) t, .str ("b" : Str) u], []⟩) (.str (binS n)) := by
  rw [int_fmt, binS_eq]
  intro prog w A R s hq
  refine wpAny_bind (wpAny_typeNameOf (T := "str") (typeIs_str _ _ _) (by decide) fun _ => ?_)
  refine wpAny_bind (wpAny_typeNameOfCut_int ?_)
  exact (Gives.of_eq (t := retStr (binS n)) (m := .str (binS n)) rfl) prog w A R s hq
/-- {n:b}, n a number -/
def tFmtB (te : TE) : TE := fun σ H Q => te σ H fun x H1 => ∃ n : Nat, x = .int n ∧ (binS n).length ≤ sizeLine ∧ Q (.str (binS n)) H1
theorem pe_fmtB {X : Cx} {e sp : Expr} {te : TE} {pos : Pos} (he : PE X e te) (hs : PE X sp (tC (.str "b"))) : PE X (.FormattedValue e (-1) (some sp) pos) (tFmtB te) := by
  refine ⟨fun pins s σ H Q I h => ?_⟩
  refine wpAny_FormattedValue_spec (thn (he.run pins s σ H _ I h) fun v s1 ⟨x, H1, I1, r1, n, ex, hz, q⟩ => ?_)
  subst ex
  obtain ⟨t, rfl⟩ := r1
  refine thn (hs.run pins s1 σ H1 (fun y H2 => y = .str "b" ∧ Q (.str (binS n)) H2) I1 ⟨rfl, q⟩) fun r s2 ⟨y, H2, I2, r2, ey, q2⟩ => ?_
  subst ey
  obtain ⟨t2, rfl⟩ := r2
  refine ⟨_, _, rfl, ?_⟩
  exact wpAny_formatField_spec (T := "int") (by decide) (fun s' => typeIs_int s' _ _) F.slot_int_format F.entry_int_format F.args_int_format_2 (fun u => gives_fmtB n t u) ⟨.str (binS n), H2, (I2.tok _), ⟨_, rfl⟩, q2⟩ (by rw [sizeLine_eq]; decide) hz
end KB

/-! words: texts of the signs 0 and 1 -/
namespace KB
open PySem PySem.Spec PyProof.Rows L2 Builtin.Str
theorem tw_len {p : Nat → Bool} : ∀ l : List Nat, (l.takeWhile p).length ≤ l.length
  | [] => Nat.le_refl _
  | c :: r => by
    rw [List.takeWhile_cons]
    split
    · rw [List.length_cons, List.length_cons]
      exact Nat.succ_le_succ (tw_len r)
    · exact Nat.zero_le _
theorem tw_all {p : Nat → Bool} : ∀ l : List Nat, (l.takeWhile p).length = l.length ↔ l.all p = true
  | [] => by simp
  | c :: r => by
    rw [List.takeWhile_cons, List.all_cons, List.length_cons]
    cases h : p c with
    | true =>
      rw [if_pos rfl, List.length_cons, Bool.true_and, ← tw_all r]
      omega
    | false => simp
theorem tw_drop {p : Nat → Bool} : ∀ l : List Nat, l.all p = false → ∃ c r, l.drop (l.takeWhile p).length = c :: r ∧ p c = false
  | [], h => by cases h
  | c :: r, h => by
    rw [List.takeWhile_cons]
    cases hc : p c with
    | true =>
      rw [if_pos rfl, List.length_cons, List.drop_succ_cons]
      rw [List.all_cons, hc, Bool.true_and] at h
      exact tw_drop r h
    | false =>
      rw [if_neg (by simp)]
      exact ⟨c, r, rfl, hc⟩
theorem strSub_len (z : Str) (lo hi : Nat) (h : hi ≤ z.length) : (strSub z lo hi).length = hi - lo := by
  show (z.cps.extract lo hi).size = hi - lo
  rw [Array.size_extract]
  have h' : hi ≤ z.cps.size := h
  omega
theorem strip_len {p : Nat → Bool} (z : Str) : (Txt.stripBy p true true z).length = 0 ↔ z.cps.toList.all p = true := by
  have hn : z.cps.toList.length = z.length := Array.length_toList
  have hlo : stripLo p true z = (z.cps.toList.takeWhile p).length := by unfold stripLo; rw [if_pos rfl]
  have hle := tw_len (p := p) z.cps.toList
  cases ha : z.cps.toList.all p with
  | true =>
    have e := (tw_all z.cps.toList).mpr ha
    refine ⟨fun _ => rfl, fun _ => ?_⟩
    have hhi : stripHi p true z (stripLo p true z) = z.length := by
      unfold stripHi
      rw [if_pos rfl, hlo, e, List.drop_length]
      simp
    unfold Txt.stripBy stripSame stripped
    rw [hhi, hlo, e, hn]
    split
    · rename_i h
      simp at h
      exact h
    · rw [strSub_len _ _ _ (Nat.le_refl _), Nat.sub_self]
  | false =>
    refine ⟨fun h => ?_, fun h => by cases h⟩
    exfalso
    obtain ⟨c, r, hd, hc⟩ := tw_drop z.cps.toList ha
    have hk : (((z.cps.toList.drop (z.cps.toList.takeWhile p).length).reverse).takeWhile p).length < (z.cps.toList.drop (z.cps.toList.takeWhile p).length).length := by
      have h1 := tw_len (p := p) (z.cps.toList.drop (z.cps.toList.takeWhile p).length).reverse
      rw [List.length_reverse] at h1
      rcases Nat.lt_or_ge (((z.cps.toList.drop (z.cps.toList.takeWhile p).length).reverse).takeWhile p).length (z.cps.toList.drop (z.cps.toList.takeWhile p).length).length with h2 | h2
      · exact h2
      · have h3 := (tw_all (p := p) (z.cps.toList.drop (z.cps.toList.takeWhile p).length).reverse).mp (by rw [List.length_reverse]; omega)
        rw [List.all_reverse, hd, List.all_cons, hc] at h3
        cases h3
    rw [List.length_drop] at hk
    have hhi : stripHi p true z (stripLo p true z) = z.length - (((z.cps.toList.drop (z.cps.toList.takeWhile p).length).reverse).takeWhile p).length := by
      unfold stripHi
      rw [if_pos rfl, hlo]
    unfold Txt.stripBy stripSame stripped at h
    split at h
    · omega
    · rw [hhi, hlo, strSub_len _ _ _ (by omega)] at h
      omega
/-- all signs 0 or 1 -/
def isB (z : Str) : Bool := z.cps.toList.all (("01" : Str)).cps.contains
theorem strip01 (z : Str) : decide (V.str (Txt.stripChars z "01") = V.str "") = isB z := by
  have h := strip_len (p := (("01" : Str)).cps.contains) z
  rw [Bool.eq_iff_iff, decide_eq_true_iff]
  unfold isB
  rw [← h]
  constructor
  · intro e
    have e' := V.str.inj e
    show (Txt.stripChars z "01").length = 0
    rw [e'] <;> rfl
  · intro e
    have e' : (Txt.stripChars z "01").length = 0 := e
    congr 1
    generalize Txt.stripChars z "01" = y at e'
    obtain ⟨y⟩ := y
    have : y = #[] := Array.eq_empty_of_size_eq_zero e'
    subst this
    rfl
theorem isB_mem {z : Str} (h : isB z = true) {c : Nat} (hc : c ∈ z.cps.toList) : c = 48 ∨ c = 49 := by
  have := List.all_eq_true.mp h c hc
  have e : (("01" : Str)).cps = #[48, 49] := by decide
  rw [e] at this
  simpa using this
/-- is_word, of a datum -/
def isW : PyData → Bool
  | .str z => isB z
  | _ => false
def spIsWord (K : PySem.W.Frag) : Sp := fun vs H Q _ => ∃ v d, vs = [v] ∧ Dp K H v d ∧ (∀ z, d = .str z → z.length ≤ 100000) ∧ Q (.bl (isW d)) H
end KB
namespace KB
open PySem PySem.Spec PyProof.Rows L2
/-! ### enumerate(text) -/
def Ites (x : Str) : It := ⟨fun i _ => i < x.cps.size, fun i H v H' => ∃ T c, v = .ref T ∧ H T = none ∧ H' = upd H T (.tup [.int (i : Nat), .str ⟨#[c]⟩]) ∧ x.cps[i]? = some c, fun i _ => i = x.cps.size⟩
theorem turn_enumS {P : Program} {w : World} {K : PySem.W.Frag} {elts : List Expr} {kk : Nat} {tpos : Pos} (e it : Addr) (x : Str) (t : Tok) :
    Turn P w K (.Tuple elts kk tpos) (Ites x) [e, it] e (fun i h => (∃ old, IsEnum h e it ((i : Nat) : Int) old) ∧ h.IsStrIter it (strIterType x) x t i ∧ e ≠ it) where
  mem := by simp
  obj := fun i h st b hb => by
    obtain ⟨⟨old, he⟩, ⟨o, ho, hc, hd⟩, _⟩ := st
    have e' : b = e ∨ b = it := by simpa using hb
    rcases e' with z | z
    · rw [z]; exact ⟨_, he, fun v q => nomatch q⟩
    · rw [z]; exact ⟨o, ho, fun v q => by rw [hd] at q; cases q⟩
  keep := fun i h h' st k => let ⟨⟨old, he⟩, ⟨o, ho, r⟩, hne⟩ := st; ⟨⟨old, k e (by simp) _ he⟩, ⟨o, k it (by simp) o ho, r⟩, hne⟩
  item := by
    intro X hP hw hK hc i pins s σ H E I hf st hg
    subst hP hw hK
    obtain ⟨⟨old, he⟩, hit, hne⟩ := st
    have hel : e < s.heap.objs.size := Heap.lt_size he
    have hil : it < s.heap.objs.size := by obtain ⟨_, q, _⟩ := hit; exact Heap.lt_size q
    have D := Draws.text (prog := X.prog) (w := X.w) (A := X.A.in1) (show X.A.in1.handled = none from I.ok.hd hc) it x t
    refine wpAny_pyNext_enum_itemD (A := X.A) D he hit hg hne (by simpa using hne) fun v h' tk hv ho hit' hT hsz hk => ?_
    obtain ⟨c, u, hcx, rfl⟩ := hv
    refine ⟨_, rfl, wpAny_letOwnedTupleGo_enum (s := { s with heap := h', toks := tk + 1 }) ho fun h'' he' sb => ?_⟩
    have hT2 : h''.get? s.heap.objs.size = some { cls := .type "tuple", data := .seq #[.int i tk, .str ⟨#[c]⟩ u] } := (sb.2 _ (Nat.ne_of_gt hel)).trans hT
    have new : ObjOk X.prog X.w (upd H s.heap.objs.size (.tup [.int (i : Nat), .str ⟨#[c]⟩])) h'' s.heap.objs.size (.tup [.int (i : Nat), .str ⟨#[c]⟩]) :=
      ⟨by show 2 ≤ sizeLine; decide, [.int i tk, .str ⟨#[c]⟩ u], .cons ⟨_, rfl⟩ (.cons ⟨_, rfl⟩ .nil), ⟨_, hT2, rfl, _, rfl⟩⟩
    have I1 : Inv X pins σ (upd H s.heap.objs.size (.tup [.int (i : Nat), .str ⟨#[c]⟩])) { s with heap := h'', toks := tk + 1 } :=
      I.turnedNew (ch := [e, it]) (fun b ob hb q => (sb.2 b (fun z => hb (by simp [z]))).trans (hk b ob (fun z => hb (by simp [z])) (fun z => hb (by simp [z])) q)) hf (Nat.le_refl _) new
    refine ⟨.ref s.heap.objs.size, _, I1, rfl, ⟨_, c, rfl, I.hok.fresh (Nat.le_refl _), rfl, hcx⟩, ⟨⟨.str ⟨#[c]⟩ u, ?_⟩, ?_, hne⟩, fun b hb => ?_⟩
    · have e1 : ((i + 1 : Nat) : Int) = (i : Int) + 1 := by omega
      rw [e1]; exact he'
    · obtain ⟨o, ho', r⟩ := hit'
      exact ⟨o, (sb.2 it (Ne.symm hne)).trans ho', r⟩
    · have hb' : b < s.heap.objs.size := by
        have e' : b = e ∨ b = it := by simpa using hb
        rcases e' with z | z
        · rw [z]; exact hel
        · rw [z]; exact hil
      rw [upd_ne (Nat.ne_of_lt hb')]
      exact (hf b hb).1
  done := by
    intro X hP hw hK hc i pins s σ H E I hf st hg
    subst hP hw hK
    obtain ⟨⟨old, he⟩, hit, hne⟩ := st
    obtain ⟨f0, f1, f2, f3, f4, f5⟩ := hf it (by simp)
    have D := Draws.text (prog := X.prog) (w := X.w) (A := X.A.in1) (show X.A.in1.handled = none from I.ok.hd hc) it x t
    have en : i = x.cps.size := hg
    subst en
    exact wpAny_pyNext_enum_endD (A := X.A) D he hit fun h' eb => ⟨rfl, I.turned (t' := s.toks) (fun b o hb q => eb b o hb q) f0 f1 f3 f4 f5⟩
  self := fun A i s Q E st h => let ⟨⟨_, he⟩, _⟩ := st; wpAny_pyIter_enum he h
def iEnumS (ta : TA) : TI := fun σ H R => ta σ H fun vs H1 => ∃ x, vs = [.str x] ∧ R (Ites x) H1
theorem pi_enumS {X : Cx} {e : Expr} {ta : TA} {p pos tpos : Pos} {elts : List Expr} {kk : Nat} (hg : Gl X "enumerate") (hm : X.mg "enumerate" = none) (ha : PA X [e] ta) (hs : starEach [e] X.env = [(false, eval e X.env)] := by rfl) :
    PI X (.Tuple elts kk tpos) (.Call (.Name "enumerate" p) [e] [] pos) (iEnumS ta) := by
  refine ⟨fun pins s σ H R I h => ?_⟩
  refine Call_ (ld_blt I hg hm boot_enumerate (PyProof.Rows.callWith_type1 (thn (ha.run pos pins s σ H _ I h) fun us s1 ⟨vs, H1, I1, r1, q1⟩ => ?_) hs rfl))
  obtain ⟨x, ex, q⟩ := q1
  subst ex
  obtain ⟨u, rfl, t, rfl⟩ := vals1 r1
  refine call_enumerate_str fun h' he hit hsz hk => wpAny_pyIter_enum he ?_
  have I2 : Inv X pins σ H1 { s1 with heap := h' } := I1.kept (t' := s1.toks) hk
  refine ⟨s1.heap.objs.size + 1, [s1.heap.objs.size + 1, s1.heap.objs.size], _, _, H1, rfl, I2, turn_enumS (s1.heap.objs.size + 1) s1.heap.objs.size x t, ⟨⟨.none, he⟩, hit, Nat.succ_ne_self _⟩, fun b hb => ?_, q⟩
  have e' : b = s1.heap.objs.size + 1 ∨ b = s1.heap.objs.size := by simpa using hb
  have hle : s1.heap.objs.size ≤ b := by
    rcases e' with z | z
    · rw [z]; exact Nat.le_add_right _ _
    · rw [z]; exact Nat.le_refl _
  exact I1.fpOk hle (I1.hok.fresh hle)
/-- for at, sign in enumerate(text) -/
theorem for_enumS {x : Str} {g : TG} {tb : TS} {D : Ends} {σ : L2.St} {H : Hp} (Pv : Nat → L2.St → Hp → Prop) (h0 : Pv 0 σ H)
    (hs : ∀ i c σ H, x.cps[i]? = some c → Pv i σ H → ∀ T, H T = none → g (.ref T) σ (upd H T (.tup [.int (i : Nat), .str ⟨#[c]⟩])) fun σ2 H2 => tb { D with nx := Pv (i + 1), ct := Pv (i + 1), bk := D.nx } σ2 H2) (hd : ∀ σ H, Pv x.cps.size σ H → D.nx σ H) :
    ∃ W : Nat → Nat → L2.St → Hp → Prop, (∃ m, W 0 m σ H) ∧ ∀ i m σ H, W i m σ H →
      ((Ites x).stop i H ∧ D.nx σ H) ∨ ((Ites x).go i H ∧ ∃ N : L2.St → Hp → Prop, (∀ σ' H', N σ' H' → ∃ m', m' < m ∧ W (i + 1) m' σ' H') ∧ ∀ v H', (Ites x).yld i H v H' → g v σ H' fun σ2 H2 => tb { D with nx := N, ct := N, bk := D.nx } σ2 H2) := by
  refine ⟨fun i m σ H => m = x.cps.size - i ∧ i ≤ x.cps.size ∧ Pv i σ H, ⟨x.cps.size, by simp, Nat.zero_le _, h0⟩, ?_⟩
  rintro i m σ H ⟨rfl, hi, p⟩
  by_cases hlt : i < x.cps.size
  · refine .inr ⟨hlt, Pv (i + 1), fun σ' H' p' => ⟨x.cps.size - (i + 1), by omega, rfl, hlt, p'⟩, fun v H' y => ?_⟩
    obtain ⟨T, c, rfl, hT, rfl, hc⟩ := y
    exact hs i c σ H hc p T hT
  · have e : i = x.cps.size := by omega
    subst e
    exact .inl ⟨rfl, hd σ H p⟩
end KB

/-! sorted of a tuple of ints -/
namespace KB
open PySem PyProof.Rows Srt SrtO
section
variable {prog : Program} {w : World} {A : Around} {E : Value → Shared → Prop} {s : Shared}
theorem collect_tup {l : Addr} {vs : List Value} {Q : List Value → Shared → Prop} (hl : s.heap.IsTuple l vs.toArray)
    (h : Q vs { s with heap := (s.heap.push (seqObj "list" #[] 0)).update s.heap.objs.size (Obj.mapSeq (· ++ vs.toArray)) }) (hsz : vs.length ≤ sizeLine := by size_fits) :
    wpAny (model prog w) A (collect (.ref l)) Q E s := by
  obtain ⟨o, ho, hc, n, hd⟩ := id hl
  unfold collect
  refine wpAny_bind (wpAny_runValue (codeAny_builtin entry_proto_collect' ?_))
  show wpAny _ _ (do again (.builtin "list.__iadd__" ⟨[← newList [], .ref l], []⟩)) _ _ s
  refine wpAny_bind (wpAny_newList (wpAny_pure ⟨Code.quiet_builtin _ (by decide +kernel), codeAny_builtin entry_list_iadd' ?_⟩))
  show wpAny _ _ (Builtin.List.listExtendWith (.ref s.heap.objs.size) (.ref l) (.ref s.heap.objs.size)) _ _ { s with heap := s.heap.push (seqObj "list" #[] 0) }
  unfold Builtin.List.listExtendWith
  have ho' : (s.heap.push (seqObj "list" #[] 0)).get? l = some o := Heap.get?_push_of_some _ ho
  refine wpAny_bind (wpAny_typeOf (T := "tuple") ⟨o, ho', hc⟩ ?_)
  have ht : (Value.type "tuple" == Value.type "tuple") = true := by rfl
  rw [if_pos (by rw [ht]; simp)]
  refine wpAny_bind (listItems_at ho' hd ?_)
  refine wpAny_bind (listItems_at (xs := #[]) (n := 0) (Heap.get?_push_size _ rfl) rfl ?_)
  rw [if_neg (by simp)]
  refine wpAny_bind (listUpdate_at (xs := #[]) (n := 0) (Heap.get?_push_size _ rfl) rfl ?_ (Nat.zero_le _) (by show (#[] ++ vs.toArray).size ≤ sizeLine + 1; simp only [Array.size_append, List.size_toArray, List.length_nil]; omega))
  refine wpAny_pure ?_
  show wpAny (model prog w) A (do
      let o ← load s.heap.objs.size
      match o.data with
      | .seq xs _ => pure xs.toList
      | _ => unsupported "internal:collect") Q E { s with heap := (s.heap.push (seqObj "list" #[] 0)).update s.heap.objs.size (Obj.mapSeq (· ++ vs.toArray)) }
  refine wpAny_bind (wpAny_load (get?_update_seq (Heap.get?_push_size _ rfl) _) ?_)
  show wpAny _ _ (pure ((#[] : Array Value) ++ vs.toArray).toList) Q E _
  rw [show ((#[] : Array Value) ++ vs.toArray).toList = vs by simp]
  exact wpAny_pure h
theorem sorted_ordT {l : Addr} {vs : List Value} {ltv : Value → Value → Bool} {Q : Value → Shared → Prop} (O : Swo ltv) (hl : s.heap.IsTuple l vs.toArray) (hz : vs.length ≤ sizeLine)
    (hS : 2 ≤ vs.length → ∀ (h₁ : Heap) (a : Addr), h₁.get? a = some (seqObj "list" vs.toArray 0) → (∀ b o, s.heap.get? b = some o → b ≠ a ∧ h₁.get? b = some o) → SortableO prog w A.in1.in1 { s with heap := h₁ } a vs ltv)
    (h : ∀ out : List Value, Srtd ltv out → Stb ltv out vs → Q (.ref (s.heap.objs.size + 1)) { s with heap := sortedAll s.heap vs out.toArray }) :
    wpAny (model prog w) A (call (.builtin "sorted") [.ref l]) Q E s := by
  refine Calls.call_function_entry kind_sorted plain_sorted entry_sorted (args_sorted1 _) ?_
  unfold Builtin.«sorted»
  refine wpAny_bind (m := checkCount "sorted" 1 1 _) (wpAny_pure ?_)
  refine wpAny_bind (collect_tup hl ?_ hz)
  refine wpAny_bind (wpAny_newList ?_ hz)
  have hsz : ((s.heap.push (seqObj "list" #[] 0)).update s.heap.objs.size (Obj.mapSeq (· ++ vs.toArray))).objs.size = s.heap.objs.size + 1 := by
    rw [Heap.size_update, size_push']
  have hoL : (((s.heap.push (seqObj "list" #[] 0)).update s.heap.objs.size (Obj.mapSeq (· ++ vs.toArray))).push (seqObj "list" vs.toArray 0)).get? (s.heap.objs.size + 1) = some (seqObj "list" vs.toArray 0) := by
    rw [← hsz]; exact Heap.get?_push_size _ rfl
  have keep : ∀ b o, s.heap.get? b = some o → b ≠ s.heap.objs.size + 1 ∧ (((s.heap.push (seqObj "list" #[] 0)).update s.heap.objs.size (Obj.mapSeq (· ++ vs.toArray))).push (seqObj "list" vs.toArray 0)).get? b = some o := fun b o q => by
    have hlt : b < s.heap.objs.size := Heap.lt_size q
    refine ⟨Nat.ne_of_lt (Nat.lt_succ_of_lt hlt), Heap.get?_push_of_some _ ?_⟩
    rw [Heap.get?_update_ne _ _ _ _ (Nat.ne_of_lt hlt)]
    exact Heap.get?_push_of_some _ q
  show wpAny _ _ _ _ _ { s with heap := ((s.heap.push (seqObj "list" #[] 0)).update s.heap.objs.size (Obj.mapSeq (· ++ vs.toArray))).push (seqObj "list" vs.toArray 0) }
  rw [hsz]
  refine wpAny_bind (wpAny_holding (wpAny_call_entry slot_list_sort ⟨_, hoL, rfl⟩ entry_list_sort (list_sort_ord O hoL hz (fun h2 => hS h2 _ _ hoL keep) fun out hs hb => ⟨_, rfl, ?_⟩) (args_list_sort _)))
  exact wpAny_pure ⟨_, rfl, h out hs hb⟩
end
end KB
namespace KB
open PySem PySem.Spec PyProof.Rows L2
/-- sorted(xs), a list or a tuple of ints -/
def rSortedLT (K : PySem.W.Frag) : List V → Hp → VK → Prop := fun vs H Q => ∃ (a : Addr) (ns : List Int), vs = [V.ref a] ∧ (SqL K H a (ns.map V.int) ∨ SqT K H a (ns.map V.int)) ∧
  ∀ (ns' : List Int) (p : Addr), ns'.Perm ns → ns'.Pairwise (· ≤ ·) → H p = none → Q (.ref p) (upd H p (.lst (ns'.map V.int)))
theorem cr_sortedLT {X : Cx} : CallR X (.builtin "sorted") (rSortedLT X.K) := by
  intro pins s σ H vs us Q I r h
  obtain ⟨a, ns, rfl, hs, q⟩ := h
  rcases hs with hs | hs
  · exact cr_sortedI pins s σ H _ us Q I r ⟨a, ns, rfl, hs, q⟩
  · obtain ⟨its, rv, hl, hz⟩ := I.tuple hs
    rw [Vals.ref1 r]
    have hi := rv.ints
    refine sorted_ordT SrtO.swo_int (show s.heap.IsTuple a its.toArray from hl) (by rw [← rv.length]; exact hz) (fun h2 h₁ a' _ _ => SrtO.ints_sortable hi h2) fun out h1 h2 => ?_
    obtain ⟨k1, k2, k3⟩ := SrtO.ints_out hi h1 h2
    obtain ⟨ep, he'⟩ := PyProof.Rows.sortedAll_at s.heap its out.toArray
    have hlen : ((out.map SrtO.iv).map V.int).length ≤ sizeLine := by
      rw [List.length_map, k2.length_eq]
      rw [List.length_map] at hz
      exact hz
    exact ⟨.ref _, upd H (s.heap.objs.size + 1) (.lst ((out.map SrtO.iv).map V.int)), I.laid (t' := s.toks) (fun _ _ => PyProof.Rows.sortedAll_old) (Nat.le_succ _) ⟨hlen, out, ep, vals_of_ints k1, he'⟩, rfl, q _ _ k2 k3 (I.hok.fresh (Nat.le_succ _))⟩
end KB
/-! ### enumerate of a tuple -/
namespace KB
open PySem PyProof.Rows
open AutoSeq1 (wpAny_loadPart')
theorem new_enumT (l : Addr) (items : Array Value) (n : Nat) (dct : Option Addr) (sl : Array (Option Value)) :
    Meets (Builtin.«enumerate.__new__» ⟨[.type "enumerate", .ref l], []⟩) (fun _ R s => s.heap.get? l = some { cls := .type "tuple", dict := dct, data := .seq items n, slots := sl } ∧
      R (.ok (.ret (.ref (s.heap.push { cls := .type "tuple_iterator", data := .fields #[.ref l, .int 0 0] }).objs.size)))
        { s with heap := (s.heap.push { cls := .type "tuple_iterator", data := .fields #[.ref l, .int 0 0] }).push { cls := .type "enumerate", data := .fields #[.none, .bool false, .ref s.heap.objs.size, rawInt 0, .none, .none] } }) :=
  .of_wp fun prog w A R s h => by
    obtain ⟨hp, g, d, tk, os⟩ := s
    obtain ⟨hl, h⟩ := h
    have hsub := sub_enumerate
    have hT : Heap.IsTuple (Shared.heap ⟨hp, g, d, tk, os⟩) l items := ⟨_, hl, rfl, n, rfl⟩
    wp_walk using wpAny_loadPart' hl
    refine wpAny_stack_any fun st => wpAny_pure ?_
    split
    · rename_i c _ _ _ _ _
      cases (c == Value.type "enumerate") <;> (wp_walk using wpAny_loadPart' hl, wpAny_pyIter_tuple hT; exact ⟨_, rfl, h⟩)
    · wp_walk using wpAny_loadPart' hl, wpAny_pyIter_tuple hT
      exact ⟨_, rfl, h⟩
section
variable {prog : Program} {w : World} {A : Around} {E : Value → Shared → Prop} {s : Shared}
theorem call_enumT {l : Addr} {items : Array Value} {Q : Value → Shared → Prop} (hL : s.heap.IsTuple l items)
    (h : ∀ h', IsEnum h' (s.heap.objs.size + 1) s.heap.objs.size 0 .none → h'.IsTupleIter s.heap.objs.size l 0 → (∀ b o, s.heap.get? b = some o → h'.get? b = some o) → Q (.ref (s.heap.objs.size + 1)) { s with heap := h' }) :
    wpAny (model prog w) A (call (.type "enumerate") [.ref l]) Q E s := by
  obtain ⟨⟨c, dct, dt, sl⟩, hl, hc, n, hd⟩ := hL
  replace hc : c = .type "tuple" := hc
  replace hd : dt = .seq items n := hd
  subst hc hd
  refine callType_new F.called_enumerate (by decide) (F.typeCall_enumerate_1 _) (F.newCall_enumerate_1 _) (fun obj => F.args_object_init_2 obj _) F.entry_enumerate_new (new_enumT l items n dct sl) ⟨hl, ?_⟩
  have hz : (s.heap.push { cls := .type "tuple_iterator", data := .fields #[.ref l, .int 0 0] }).objs.size = s.heap.objs.size + 1 := Heap.size_push ..
  have he := Heap.get?_push_size (s.heap.push { cls := .type "tuple_iterator", data := .fields #[.ref l, .int 0 0] }) (o := { cls := .type "enumerate", data := .fields #[.none, .bool false, .ref s.heap.objs.size, rawInt 0, .none, .none] }) rfl
  show _ ∧ _
  rw [hz] at he ⊢
  exact ⟨⟨_, he, rfl⟩, h _ he ⟨_, Heap.get?_push_of_some _ (Heap.get?_push_size _ rfl), rfl, rfl⟩ fun b o x => Heap.get?_push_of_some _ (Heap.get?_push_of_some _ x)⟩
end
end KB
namespace KB
open PySem PySem.Spec PyProof.Rows L2
/-- the tuple at a, its items in new pairs -/
def Itet (K : PySem.W.Frag) (a : Addr) : It :=
  ⟨fun i H => ∃ (xs : List V) (x : V), SqT K H a xs ∧ xs[i]? = some x, fun i H v H' => ∃ T x, v = .ref T ∧ H T = none ∧ H' = upd H T (.tup [.int (i : Nat), x]) ∧ ∀ xs, SqT K H a xs → xs[i]? = some x, fun i H => ∃ xs : List V, SqT K H a xs ∧ xs.length = i⟩
theorem turn_enumT {P : Program} {w : World} {K : PySem.W.Frag} {elts : List Expr} {kk : Nat} {tpos : Pos} (a e it : Addr) :
    Turn P w K (.Tuple elts kk tpos) (Itet K a) [e, it] e (fun i h => (∃ old, IsEnum h e it ((i : Nat) : Int) old) ∧ h.IsTupleIter it a i ∧ e ≠ it ∧ a < it ∧ a < e) where
  mem := by simp
  obj := fun i h st b hb => by
    obtain ⟨⟨old, he⟩, ⟨o, ho, hc, hd⟩, _⟩ := st
    rcases (by simpa using hb : b = e ∨ b = it) with rfl | rfl
    · exact ⟨_, he, fun v q => nomatch q⟩
    · exact ⟨o, ho, fun v q => by rw [hd] at q; cases q⟩
  keep := fun i h h' st k => let ⟨⟨old, he⟩, hi, hne⟩ := st; ⟨⟨old, k e (by simp) _ he⟩, hi.at fun o q => k it (by simp) o q, hne⟩
  item := by
    intro X hP hw hK hc i pins s σ H E I hf st hg
    subst hP hw hK
    obtain ⟨⟨old, he⟩, hit, hne, hai, hae⟩ := st
    obtain ⟨xs, x, hq, hx⟩ := hg
    obtain ⟨its, rv, p, hz⟩ := I.tuple hq
    obtain ⟨u, hu, ru⟩ := rv.get hx
    have hel : e < s.heap.objs.size := Heap.lt_size he
    have hil : it < s.heap.objs.size := by obtain ⟨_, q, _⟩ := hit; exact Heap.lt_size q
    have D := PySem.Draws.tuple (prog := X.prog) (w := X.w) (A := X.A.in1) (show X.A.in1.handled = none from I.ok.hd hc) it a (Nat.ne_of_lt hai) its.toArray
    have hi' : i < its.toArray.size := by simpa using (List.getElem?_eq_some_iff.mp hu).1
    refine wpAny_pyNext_enum_itemD (A := X.A) D he ⟨hit, p⟩ hi' hne (by simp [hne]; exact Nat.ne_of_gt hae) fun v h' tk hv ho hit' hT hsz hk => ?_
    have ev : v = u := by
      have : its[i]? = some v := by simpa using hv
      rw [hu] at this
      exact (Option.some.inj this).symm
    subst ev
    refine ⟨_, rfl, wpAny_letOwnedTupleGo_enum (s := { s with heap := h', toks := tk + 1 }) ho fun h'' he' sb => ?_⟩
    have hT2 := (sb.2 _ (Nat.ne_of_gt hel)).trans hT
    have new : ObjOk X.prog X.w (upd H s.heap.objs.size (.tup [.int (i : Nat), x])) h'' s.heap.objs.size (.tup [.int (i : Nat), x]) :=
      ⟨by show 2 ≤ sizeLine; decide, [.int i tk, v], .cons ⟨_, rfl⟩ (.cons ru .nil), ⟨_, hT2, rfl, _, rfl⟩⟩
    have I1 : Inv X pins σ (upd H s.heap.objs.size (.tup [.int (i : Nat), x])) { s with heap := h'', toks := tk + 1 } :=
      I.turnedNew (ch := [e, it]) (fun b ob hb q => (sb.2 b (fun z => hb (by simp [z]))).trans (hk b ob (fun z => hb (by simp [z])) (fun z => hb (by simp [z])) q)) hf (Nat.le_refl _) new
    refine ⟨.ref s.heap.objs.size, _, I1, rfl, ⟨_, x, rfl, I.hok.fresh (Nat.le_refl _), rfl, fun ys hy => ?_⟩, ⟨⟨v, ?_⟩, hit'.1.at fun o q => (sb.2 it (Ne.symm hne)).trans q, hne, hai, hae⟩, fun b hb => ?_⟩
    · obtain ⟨its2, rv2, p2, _⟩ := I.tuple hy
      obtain ⟨o1, g1, _, n1, d1⟩ := p
      obtain ⟨o2, g2, _, n2, d2⟩ := p2
      rw [g1] at g2
      cases Option.some.inj g2
      rw [d1] at d2
      have ei : its = its2 := by injection d2 with z _; simpa using congrArg Array.toList z
      subst ei
      rw [Vals.inj rv2 rv]
      exact hx
    · rw [show ((i + 1 : Nat) : Int) = (i : Int) + 1 by omega]
      exact he'
    · have hb' : b < s.heap.objs.size := by
        rcases (by simpa using hb : b = e ∨ b = it) with rfl | rfl
        · exact hel
        · exact hil
      rw [upd_ne (Nat.ne_of_lt hb')]
      exact (hf b hb).1
  done := by
    intro X hP hw hK hc i pins s σ H E I hf st hg
    subst hP hw hK
    obtain ⟨⟨old, he⟩, hit, hne, hai, hae⟩ := st
    obtain ⟨xs, hq, hx⟩ := hg
    obtain ⟨its, rv, p, hz⟩ := I.tuple hq
    obtain ⟨f0, f1, f2, f3, f4, f5⟩ := hf it (by simp)
    have D := PySem.Draws.tuple (prog := X.prog) (w := X.w) (A := X.A.in1) (show X.A.in1.handled = none from I.ok.hd hc) it a (Nat.ne_of_lt hai) its.toArray
    have en : i = its.toArray.size := by rw [List.size_toArray, ← rv.length]; exact hx.symm
    subst en
    exact wpAny_pyNext_enum_endD (A := X.A) D he ⟨hit, p⟩ fun h' eb => ⟨rfl, I.turned (t' := s.toks) (fun b o hb q => eb b o hb q) f0 f1 f3 f4 f5⟩
  self := fun A i s Q E st h => let ⟨⟨_, he⟩, _⟩ := st; wpAny_pyIter_enum he h
/-- enumerate(x), a list or a tuple -/
def iEnumA (K : PySem.W.Frag) (ta : TA) : TI := fun σ H R => ta σ H fun vs H1 => ∃ a xs, vs = [.ref a] ∧ ((SqL K H1 a xs ∧ R (Ite K a) H1) ∨ (SqT K H1 a xs ∧ R (Itet K a) H1))
theorem pi_enumA {X : Cx} {e : Expr} {ta : TA} {p pos tpos : Pos} {elts : List Expr} {kk : Nat} (hg : Gl X "enumerate") (hm : X.mg "enumerate" = none) (ha : PA X [e] ta) (hs : starEach [e] X.env = [(false, eval e X.env)] := by rfl) :
    PI X (.Tuple elts kk tpos) (.Call (.Name "enumerate" p) [e] [] pos) (iEnumA X.K ta) := by
  refine ⟨fun pins s σ H R I h => ?_⟩
  refine Call_ (ld_blt I hg hm boot_enumerate (PyProof.Rows.callWith_type1 (thn (ha.run pos pins s σ H _ I h) fun us s1 ⟨vs, H1, I1, r1, q1⟩ => ?_) hs rfl))
  obtain ⟨a, xs, ex, q⟩ := q1
  subst ex
  have fr : ∀ b, b ∈ [s1.heap.objs.size + 1, s1.heap.objs.size] → FpOk X pins H1 b := fun b hb => by
    have hle : s1.heap.objs.size ≤ b := by
      rcases (by simpa using hb : b = s1.heap.objs.size + 1 ∨ b = s1.heap.objs.size) with z | z
      · rw [z]; exact Nat.le_add_right _ _
      · rw [z]; exact Nat.le_refl _
    exact I1.fpOk hle (I1.hok.fresh hle)
  cases r1 with
  | cons r rr =>
    cases rr
    cases r
    rcases q with ⟨hq, q⟩ | ⟨hq, q⟩
    · obtain ⟨its, rv, p', hz⟩ := I1.list hq
      refine call_enumerate_list p'.isList fun h' he hit hsz hk => wpAny_pyIter_enum he ?_
      have I2 : Inv X pins σ H1 { s1 with heap := h' } := I1.kept (t' := s1.toks) hk
      exact ⟨s1.heap.objs.size + 1, [s1.heap.objs.size + 1, s1.heap.objs.size], _, _, H1, rfl, I2, turn_enum a (s1.heap.objs.size + 1) s1.heap.objs.size, ⟨⟨.none, he⟩, hit, Nat.succ_ne_self _⟩, fr, q⟩
    · obtain ⟨its, rv, p', hz⟩ := I1.tuple hq
      have al : a < s1.heap.objs.size := by obtain ⟨o, g, _⟩ := id p'; exact Heap.lt_size g
      refine call_enumT p' fun h' he hit hk => wpAny_pyIter_enum he ?_
      have I2 : Inv X pins σ H1 { s1 with heap := h' } := I1.kept (t' := s1.toks) hk
      exact ⟨s1.heap.objs.size + 1, [s1.heap.objs.size + 1, s1.heap.objs.size], _, _, H1, rfl, I2, turn_enumT a (s1.heap.objs.size + 1) s1.heap.objs.size, ⟨⟨.none, he⟩, hit, Nat.succ_ne_self _, al, Nat.lt_succ_of_lt al⟩, fr, q⟩
theorem lc_enumL {K : PySem.W.Frag} {a : Addr} {xs : List V} {g : TG} {tt : TT} {te : TE} {vs : List Nat} {σ : L2.St} {H1 : Hp} {D : Addr} {Qd : Hp → Prop} (Pv : Nat → Hp → Prop) (h0 : Pv 0 (upd H1 D (.lst []))) (hl : ∀ i H, i ≤ xs.length → Pv i H → SqL K H a xs)
    (hs : ∀ i x H, xs[i]? = some x → Pv i H → ∀ T, H T = none → g (.ref T) (wipe σ vs) (upd H T (.tup [.int (i : Nat), x])) fun σ2 H2 => wipe σ2 vs = wipe σ vs ∧ tt σ2 H2 fun b H3 =>
      if b = true then te σ2 H3 fun y H4 => ∃ acc, H4 D = some (.lst acc) ∧ acc.length < sizeLine ∧ Pv (i + 1) (upd H4 D (.lst (acc ++ [y]))) else Pv (i + 1) H3) (hd : ∀ H, Pv xs.length H → Qd H) :
    ∃ W : Nat → Nat → Hp → Prop, (∃ m, W 0 m (upd H1 D (.lst []))) ∧ ∀ i m H, W i m H →
      ((Ite K a).stop i H ∧ Qd H) ∨ ((Ite K a).go i H ∧ ∃ Nx : Hp → Prop, (∀ H', Nx H' → ∃ m', m' < m ∧ W (i + 1) m' H') ∧ ∀ x H', (Ite K a).yld i H x H' → g x (wipe σ vs) H' fun σ2 H2 => wipe σ2 vs = wipe σ vs ∧ tt σ2 H2 fun b H3 =>
        if b = true then te σ2 H3 fun y H4 => ∃ acc, H4 D = some (.lst acc) ∧ acc.length < sizeLine ∧ Nx (upd H4 D (.lst (acc ++ [y]))) else Nx H3) := by
  refine ⟨fun i m H => m = xs.length - i ∧ i ≤ xs.length ∧ Pv i H, ⟨xs.length, by simp, Nat.zero_le _, h0⟩, ?_⟩
  rintro i m H ⟨rfl, hi, p⟩
  have q := hl i H hi p
  by_cases hlt : i < xs.length
  · refine .inr ⟨⟨xs, xs[i], q, by simp [hlt]⟩, Pv (i + 1), fun H' p' => ⟨xs.length - (i + 1), by omega, rfl, hlt, p'⟩, fun v H' y => ?_⟩
    obtain ⟨T, x, rfl, hT, rfl, y⟩ := y
    exact hs i x H (y xs q) p T hT
  · have e : i = xs.length := by omega
    subst e
    exact .inl ⟨⟨xs, q, Nat.le_refl _⟩, hd H p⟩
theorem lc_enumT {K : PySem.W.Frag} {a : Addr} {xs : List V} {g : TG} {tt : TT} {te : TE} {vs : List Nat} {σ : L2.St} {H1 : Hp} {D : Addr} {Qd : Hp → Prop} (Pv : Nat → Hp → Prop) (h0 : Pv 0 (upd H1 D (.lst []))) (hl : ∀ i H, i ≤ xs.length → Pv i H → SqT K H a xs)
    (hs : ∀ i x H, xs[i]? = some x → Pv i H → ∀ T, H T = none → g (.ref T) (wipe σ vs) (upd H T (.tup [.int (i : Nat), x])) fun σ2 H2 => wipe σ2 vs = wipe σ vs ∧ tt σ2 H2 fun b H3 =>
      if b = true then te σ2 H3 fun y H4 => ∃ acc, H4 D = some (.lst acc) ∧ acc.length < sizeLine ∧ Pv (i + 1) (upd H4 D (.lst (acc ++ [y]))) else Pv (i + 1) H3) (hd : ∀ H, Pv xs.length H → Qd H) :
    ∃ W : Nat → Nat → Hp → Prop, (∃ m, W 0 m (upd H1 D (.lst []))) ∧ ∀ i m H, W i m H →
      ((Itet K a).stop i H ∧ Qd H) ∨ ((Itet K a).go i H ∧ ∃ Nx : Hp → Prop, (∀ H', Nx H' → ∃ m', m' < m ∧ W (i + 1) m' H') ∧ ∀ x H', (Itet K a).yld i H x H' → g x (wipe σ vs) H' fun σ2 H2 => wipe σ2 vs = wipe σ vs ∧ tt σ2 H2 fun b H3 =>
        if b = true then te σ2 H3 fun y H4 => ∃ acc, H4 D = some (.lst acc) ∧ acc.length < sizeLine ∧ Nx (upd H4 D (.lst (acc ++ [y]))) else Nx H3) := by
  refine ⟨fun i m H => m = xs.length - i ∧ i ≤ xs.length ∧ Pv i H, ⟨xs.length, by simp, Nat.zero_le _, h0⟩, ?_⟩
  rintro i m H ⟨rfl, hi, p⟩
  have q := hl i H hi p
  by_cases hlt : i < xs.length
  · refine .inr ⟨⟨xs, xs[i], q, by simp [hlt]⟩, Pv (i + 1), fun H' p' => ⟨xs.length - (i + 1), by omega, rfl, hlt, p'⟩, fun v H' y => ?_⟩
    obtain ⟨T, x, rfl, hT, rfl, y⟩ := y
    exact hs i x H (y xs q) p T hT
  · have e : i = xs.length := by omega
    subst e
    exact .inl ⟨⟨xs, q, rfl⟩, hd H p⟩
end KB
namespace KB
open PySem PySem.Spec PyProof.Rows L2
section
variable {X : Cx} {tg l : Expr} {tl : TE}
/-- for x in e, e a list or a tuple -/
def iSeqA (K : PySem.W.Frag) (tl : TE) : TI := fun σ H R => tl σ H fun x H1 => ∃ a xs, x = .ref a ∧ ((SqL K H1 a xs ∧ R (Itl K a) H1) ∨ (SqT K H1 a xs ∧ R (Itt K a) H1))
theorem pi_seqA (hl : PE X l tl) : PI X tg l (iSeqA X.K tl) := by
  refine ⟨fun pins s σ H R I h => thn (hl.run pins s σ H _ I h) fun v s1 ⟨x, H1, I1, r1, a, xs, ex, q⟩ => ?_⟩
  subst ex
  cases r1
  have fr : ∀ b, b ∈ [s1.heap.objs.size] → FpOk X pins H1 b := fun b hb => by
    rw [List.mem_singleton.mp hb]
    exact I1.fpOk (Nat.le_refl _) (I1.hok.fresh (Nat.le_refl _))
  have kp : ∀ (o : Obj), Inv X pins σ H1 { s1 with heap := s1.heap.push o } := fun o => I1.kept (t' := s1.toks) fun b o' e => Heap.get?_push_of_some _ e
  rcases q with ⟨hq, q⟩ | ⟨hq, q⟩
  · obtain ⟨its, rv, p, hz⟩ := I1.list hq
    exact wpAny_pyIter_list p.isList ⟨_, [s1.heap.objs.size], _, _, H1, rfl, kp _, turn_list a _, ⟨_, Heap.get?_push_size _ rfl, rfl, rfl⟩, fr, q⟩
  · obtain ⟨its, rv, p, hz⟩ := I1.tuple hq
    exact wpAny_pyIter_tuple (show s1.heap.IsTuple a its.toArray from p) ⟨_, [s1.heap.objs.size], _, _, H1, rfl, kp _, turn_tuple a _, ⟨_, Heap.get?_push_size _ rfl, rfl, rfl⟩, fr, q⟩
end
/-! ### kinds of things -/
def isIntD : PyData → Bool
  | .int _ => true
  | _ => false
def isNumD : PyData → Bool
  | .int z => decide (0 ≤ z)
  | _ => false
def isSeqD : PyData → Bool
  | .list _ => true
  | .tuple _ => true
  | _ => false
def spKind (K : PySem.W.Frag) (p : PyData → Bool) : Sp := fun vs H Q _ => ∃ v d, vs = [v] ∧ Dp K H v d ∧ Q (.bl (p d)) H
def spSeq (K : PySem.W.Frag) : Sp := fun vs H Q _ => ∃ v d, vs = [v] ∧ Dp K H v d ∧ ∀ H', Same H H' → Q (.bl (isSeqD d)) H'
end KB
namespace KB
open PySem PySem.Spec PyProof.Rows L2
/-- a sequence of numbers -/
def rowD : PyData → Bool
  | .list ds => ds.all isNumD
  | .tuple ds => ds.all isNumD
  | _ => false
def spRow (K : PySem.W.Frag) : Sp := fun vs H Q _ => ∃ v d n, vs = [v] ∧ Dp K H v d ∧ okD n d = true ∧ ∀ H', Same H H' → Q (.bl (rowD d)) H'
end KB
namespace KB
open PySem PySem.Spec PyProof.Rows L2
/-- the sum of 2 ** (40 - n) -/
def kr : List Nat → Nat
  | [] => 0
  | n :: r => 2 ^ (40 - n) + kr r
theorem kr_app : ∀ a b : List Nat, kr (a ++ b) = kr a + kr b
  | [], b => by simp [kr]
  | n :: a, b => by
    show 2 ^ (40 - n) + kr (a ++ b) = 2 ^ (40 - n) + kr a + kr b
    rw [kr_app a b, Nat.add_assoc]
theorem kr_take {ls : List Nat} {i l : Nat} (h : ls[i]? = some l) : kr (ls.take (i + 1)) = kr (ls.take i) + 2 ^ (40 - l) := by
  rw [List.take_succ, h, kr_app]
  rfl
theorem kr_more {ls : List Nat} {i l : Nat} (h : ls[i]? = some l) : kr (ls.take i) < kr ls := by
  have e : ls = ls.take (i + 1) ++ ls.drop (i + 1) := (List.take_append_drop _ _).symm
  have h1 := kr_take h
  have h2 : kr ls = kr (ls.take (i + 1)) + kr (ls.drop (i + 1)) := by rw [← kr_app, ← e]
  have : 0 < 2 ^ (40 - l) := Nat.pow_pos (by decide)
  omega
def nI (n : Nat) : V := .int (n : Int)
/-- whether there is room: free of the words of length depth are left -/
structure Rm (ls : List Nat) (i free depth : Nat) : Prop where
  eq : free * 2 ^ (40 - depth) + kr (ls.take i) = 2 ^ 40
  d40 : depth ≤ 40
  at_ : (i = 0 ∧ depth = 0) ∨ ∃ k, i = k + 1 ∧ ls[k]? = some depth
theorem Rm.ini (ls : List Nat) : Rm ls 0 1 0 := ⟨by simp [kr], by omega, .inl ⟨rfl, rfl⟩⟩
theorem Rm.le {ls : List Nat} {i free depth l : Nat} (R : Rm ls i free depth) (hs : ls.Pairwise (· ≤ ·)) (h : ls[i]? = some l) : depth ≤ l := by
  rcases R.at_ with ⟨_, e⟩ | ⟨k, rfl, hk⟩
  · omega
  · obtain ⟨h1, e1⟩ := List.getElem?_eq_some_iff.mp hk
    obtain ⟨h2, e2⟩ := List.getElem?_eq_some_iff.mp h
    have := List.pairwise_iff_getElem.mp hs k (k + 1) h1 h2 (Nat.lt_succ_self _)
    rw [e1, e2] at this
    exact this
theorem Rm.small {ls : List Nat} {i free depth : Nat} (R : Rm ls i free depth) : free ≤ 2 ^ 40 := by
  have : 1 ≤ 2 ^ (40 - depth) := Nat.pow_pos (by decide)
  have h := R.eq
  have := Nat.mul_le_mul_left free this
  omega
theorem Rm.nxt {ls : List Nat} {i free depth l : Nat} (R : Rm ls i free depth) (hs : ls.Pairwise (· ≤ ·)) (h : ls[i]? = some l) (h40 : l ≤ 40) (hf : free ≠ 0) : 1 ≤ free * 2 ^ (l - depth) ∧ Rm ls (i + 1) (free * 2 ^ (l - depth) - 1) l := by
  have hd := R.le hs h
  have p : 1 ≤ 2 ^ (l - depth) := Nat.pow_pos (by decide)
  have f1 : 1 ≤ free * 2 ^ (l - depth) := Nat.mul_pos (by omega) p
  refine ⟨f1, ?_, h40, .inr ⟨i, rfl, h⟩⟩
  have e : free * 2 ^ (40 - depth) = free * 2 ^ (l - depth) * 2 ^ (40 - l) := by
    rw [Nat.mul_assoc, ← Nat.pow_add]
    congr 2
    omega
  have q := R.eq
  rw [e] at q
  rw [kr_take h, Nat.sub_mul, Nat.one_mul]
  have : 2 ^ (40 - l) ≤ free * 2 ^ (l - depth) * 2 ^ (40 - l) := by
    have := Nat.mul_le_mul_right (2 ^ (40 - l)) f1
    omega
  omega
def spRoom (K : PySem.W.Frag) : Sp := fun vs H Q _ => ∃ (a : Addr) (ls : List Nat), vs = [.ref a] ∧ SqL K H a (ls.map nI) ∧ ls.Pairwise (· ≤ ·) ∧ (∀ n ∈ ls, n ≤ 40) ∧ Q (.bl (decide (kr ls ≤ 2 ^ 40))) H
end KB

/-! the bits of a number in a width -/
namespace KB
open PySem PySem.Spec PyProof.Rows L2
/-- l bits of v, the highest first -/
def bitsL : Nat → Nat → List Nat
  | 0, _ => []
  | l + 1, v => bitsL l (v / 2) ++ [48 + v % 2]
theorem bitsL_len : ∀ l v, (bitsL l v).length = l
  | 0, _ => rfl
  | l + 1, v => by
    show (bitsL l (v / 2) ++ [48 + v % 2]).length = l + 1
    rw [List.length_append, bitsL_len l]
    rfl
theorem bitsL_get : ∀ (l v k : Nat), k < l → (bitsL l v)[k]? = some (48 + v / 2 ^ (l - 1 - k) % 2)
  | 0, _, _, h => absurd h (Nat.not_lt_zero _)
  | l + 1, v, k, h => by
    show (bitsL l (v / 2) ++ [48 + v % 2])[k]? = _
    have hl := bitsL_len l (v / 2)
    by_cases e : k < l
    · rw [List.getElem?_append_left (by omega), bitsL_get l (v / 2) k e, Nat.div_div_eq_div_mul, ← Nat.pow_succ']
      rw [show (l - 1 - k).succ = l + 1 - 1 - k by omega]
    · have : k = l := by omega
      subst this
      rw [List.getElem?_append_right (by omega), hl, Nat.sub_self]
      simp
theorem dg_digit (n : Nat) (h : n < 2) : (n.digitChar).toNat = 48 + n := by
  rcases (by omega : n = 0 ∨ n = 1) with rfl | rfl <;> rfl
theorem dgB_step {n : Nat} (h : 2 ≤ n) : dgB n = dgB (n / 2) ++ [48 + n % 2] := by
  unfold dgB
  rw [Nat.toDigits_of_base_le (by decide) h, List.map_append]
  congr 1
  show [(n % 2).digitChar.toNat] = _
  rw [dg_digit _ (Nat.mod_lt _ (by decide))]
theorem dgB_bits : ∀ (l v : Nat), v < 2 ^ l → dgB (2 ^ l + v) = 49 :: bitsL l v
  | 0, v, h => by
    have : v = 0 := by simpa using h
    subst this
    decide
  | l + 1, v, h => by
    have h2 : 2 ^ (l + 1) = 2 * 2 ^ l := Nat.pow_succ'
    have p : 1 ≤ 2 ^ l := Nat.pow_pos (by decide)
    rw [dgB_step (by omega), show (2 ^ (l + 1) + v) / 2 = 2 ^ l + v / 2 by omega, show (2 ^ (l + 1) + v) % 2 = v % 2 by omega, dgB_bits l (v / 2) (by omega)]
    rfl
/-- the word of v in l bits -/
def wordS (l v : Nat) : Str := ⟨(bitsL l v).toArray⟩
theorem wordS_len (l v : Nat) : (wordS l v).length = l := by
  show (bitsL l v).toArray.size = l
  rw [List.size_toArray, bitsL_len]
def spWordOf : Sp := fun vs H Q _ => ∃ v l : Nat, vs = [.int v, .int l] ∧ v < 2 ^ l ∧ l ≤ 1000 ∧ Q (.str (wordS l v)) H
end KB
namespace KB
open PySem PySem.Spec PyProof.Rows L2
def chS (c : Nat) : Str := ⟨#[c]⟩
theorem joinL_signs : ∀ cs : List Nat, TL.joinL [] (cs.map fun c => [c]) = cs
  | [] => rfl
  | [c] => rfl
  | c :: d :: r => by
    have := joinL_signs (d :: r)
    simp only [List.map_cons] at this ⊢
    simp only [TL.joinL, List.append_nil, List.nil_append, List.singleton_append] at this ⊢
    rw [this]
theorem join_signs (cs : List Nat) : Txt.join ("" : Str) (cs.map chS) = ⟨cs.toArray⟩ := by
  have h := SX.join_S [] (cs.map fun c => [c])
  rw [joinL_signs, List.map_map] at h
  exact h
theorem bit_sign (l v k : Nat) (h : k < l) : atI (("01" : Str)).cps.toList ((v : Int) / 2 ^ ((l : Int) - 1 - (k : Int)).toNat % 2 ^ 1) = some (48 + v / 2 ^ (l - 1 - k) % 2) := by
  have e : ((v : Int) / 2 ^ ((l : Int) - 1 - (k : Int)).toNat % 2 ^ 1) = ((v / 2 ^ (l - 1 - k) % 2 : Nat) : Int) := by
    rw [show ((l : Int) - 1 - (k : Int)).toNat = l - 1 - k by omega, Int.natCast_emod, Int.natCast_ediv, Int.natCast_pow]
    rfl
  rw [e]
  refine atI_nat ?_
  rcases (by omega : v / 2 ^ (l - 1 - k) % 2 = 0 ∨ v / 2 ^ (l - 1 - k) % 2 = 1) with h | h <;> rw [h] <;> rfl
def spLawWord : Sp := fun vs H Q _ => ∃ v l : Nat, vs = [.int v, .int l] ∧ l ≤ 1000 ∧ ∀ H', Same H H' → Q (.str (wordS l v)) H'
end KB

/-! sorted pairs: there is one order alone -/
namespace KB
open PySem PySem.Spec PyProof.Rows L2
theorem lex_anti {p q : Int × Int} (h1 : SrtO.lexB p q = false) (h2 : SrtO.lexB q p = false) : p = q := by
  have a := SrtO.lexB_no.mp h1
  have b := SrtO.lexB_no.mp h2
  obtain ⟨p1, p2⟩ := p
  obtain ⟨q1, q2⟩ := q
  simp only at a b
  have e1 : p1 = q1 := by omega
  have e2 : p2 = q2 := by omega
  rw [e1, e2]
theorem pairs_one : ∀ (a b : List (Int × Int)), a.Perm b → a.Pairwise (fun p q => SrtO.lexB q p = false) → b.Pairwise (fun p q => SrtO.lexB q p = false) → a = b
  | [], b, h, _, _ => h.nil_eq
  | x :: a, [], h, _, _ => absurd h.length_eq (by simp)
  | x :: a, y :: b, h, ha, hb => by
    have e : x = y := by
      have hx : x ∈ y :: b := h.mem_iff.mp (List.mem_cons_self ..)
      have hy : y ∈ x :: a := h.mem_iff.mpr (List.mem_cons_self ..)
      rcases List.mem_cons.mp hx with z | z
      · exact z
      · rcases List.mem_cons.mp hy with z' | z'
        · exact z'.symm
        · exact lex_anti ((List.pairwise_cons.mp hb).1 x z) ((List.pairwise_cons.mp ha).1 y z')
    subst e
    rw [pairs_one a b (List.Perm.cons_inv h) (List.pairwise_cons.mp ha).2 (List.pairwise_cons.mp hb).2]
end KB
namespace KB
open PySem PySem.Spec PyProof.Rows L2
def natD : PyData → Nat
  | .int z => z.toNat
  | _ => 0
/-- the numbers of a sequence of numbers -/
def lensD : PyData → List Nat
  | .list ds => ds.map natD
  | .tuple ds => ds.map natD
  | _ => []
def areD (d : PyData) : Bool := rowD d && decide (kr (lensD d) ≤ 2 ^ 40)
theorem kr_sum : ∀ ls : List Nat, (∀ n ∈ ls, n ≤ 40) → (ls.map fun n : Nat => (1 : Int) * 2 ^ ((40 : Int) - (n : Int)).toNat).sum = (kr ls : Int)
  | [], _ => rfl
  | n :: r, h => by
    have hn := h n (List.mem_cons_self ..)
    rw [List.map_cons, List.sum_cons, kr_sum r (fun m hm => h m (List.mem_cons_of_mem _ hm))]
    show _ = ((2 ^ (40 - n) + kr r : Nat) : Int)
    rw [Int.natCast_add, Int.natCast_pow, Int.one_mul, show ((40 : Int) - (n : Int)).toNat = 40 - n by omega]
    rfl
def spAre (K : PySem.W.Frag) : Sp := fun vs H Q _ => ∃ v d n, vs = [v] ∧ Dp K H v d ∧ okD n d = true ∧ (∀ ds, (d = .list ds ∨ d = .tuple ds) → ∀ z, .int z ∈ ds → z ≤ 40) ∧ ∀ H', Same H H' → Q (.bl (areD d)) H'
end KB

/-! max(xs, default=d), min(xs, default=d) of ints; sums of halves -/
namespace KB
open PySem PySem.Spec PyProof.Rows L2
def rBestD (K : PySem.W.Frag) (le : Int → Int → Prop) : List V → List V → Hp → VK → Prop := fun vs zs H Q => ∃ (a : Addr) (ns : List Int) (d : V), vs = [V.ref a] ∧ zs = [d] ∧ (SqL K H a (ns.map V.int) ∨ SqT K H a (ns.map V.int)) ∧ (ns = [] → Q d H) ∧ ∀ m, m ∈ ns → (∀ y ∈ ns, le y m) → Q (.int m) H
theorem best_gt {ns : List Int} {xs : Array (Int × Tok)} (hn : ns = xs.toList.map (·.1)) (hp : 0 < xs.size) : numAt xs (argBest (fun i j => decide (numAt xs i > numAt xs j)) (xs.size - 1)) ∈ ns ∧ ∀ y ∈ ns, y ≤ numAt xs (argBest (fun i j => decide (numAt xs i > numAt xs j)) (xs.size - 1)) := by
  obtain ⟨h1, h2⟩ := argBest_gt (numAt xs) (xs.size - 1)
  subst hn
  refine ⟨?_, fun y hy => ?_⟩
  · rw [numAt_eq]
    exact PySem.getD_mem (by rw [List.length_map, Array.length_toList]; omega)
  · obtain ⟨j, hj, rfl⟩ := mem_getD hy
    rw [List.length_map, Array.length_toList] at hj
    rw [← numAt_eq]
    exact h2 j (by omega)
theorem best_lt {ns : List Int} {xs : Array (Int × Tok)} (hn : ns = xs.toList.map (·.1)) (hp : 0 < xs.size) : numAt xs (argBest (fun i j => decide (numAt xs i < numAt xs j)) (xs.size - 1)) ∈ ns ∧ ∀ y ∈ ns, numAt xs (argBest (fun i j => decide (numAt xs i < numAt xs j)) (xs.size - 1)) ≤ y := by
  obtain ⟨h1, h2⟩ := argBest_lt (numAt xs) (xs.size - 1)
  subst hn
  refine ⟨?_, fun y hy => ?_⟩
  · rw [numAt_eq]
    exact PySem.getD_mem (by rw [List.length_map, Array.length_toList]; omega)
  · obtain ⟨j, hj, rfl⟩ := mem_getD hy
    rw [List.length_map, Array.length_toList] at hj
    rw [← numAt_eq]
    exact h2 j (by omega)
theorem ints_arr {its : List Value} {ns : List Int} (hi : IntsAre its ns) : ∃ xs : Array (Int × Tok), its.toArray = intItems xs ∧ ns = xs.toList.map (·.1) := by
  obtain ⟨xs, e⟩ := hi.allInts.items
  refine ⟨xs, e, ?_⟩
  have hn : numsOf (intItems xs).toList = ns := by rw [← e]; exact hi.numsOf
  rw [nums_intItems] at hn
  exact hn.symm
section
variable {X : Cx}
theorem cr_maxDef (hc : X.calm = true) : CallRK X (.builtin "max") [Str.ofString "default"] (rBestD X.K (· ≤ ·)) := by
  intro pins s σ H vs zs us ws Q I r rz h
  obtain ⟨a, ns, d, rfl, rfl, hs, q0, q⟩ := h
  obtain rfl := Vals.ref1 r
  obtain ⟨w1, rfl, rd⟩ := vals1 rz
  have hh := I.ok.hd hc
  show wpAny _ _ (call (.builtin "max") [.ref a] [(Str.ofString "default", w1)]) _ _ _
  rcases hs with hs | hs
  · obtain ⟨its, rv, hl, _⟩ := I.list hs
    obtain ⟨xs, e, hn⟩ := ints_arr rv.ints
    have hl' := hl.isList
    rw [e] at hl'
    have sz : (intItems xs).size = xs.size := by simp [intItems]
    refine call_max_walkD (PySem.W.iter_listW (A := X.A.in1) hh hl' fun s₂ e2 W st hfp hw hk => ?_)
    refine ⟨_, _, _, _, _, _, _, s.heap, (fun i j => decide (numAt xs i > numAt xs j)), rfl, W, st, hfp, hw, hk, fun hz s' m => ?_, fun hp => ⟨fun i j vi vj s1 Q1 E1 _ hi hj hq => CmpOf.ints_gt (P := fun i v => (intItems xs)[i]? = some v) (numAt xs) (fun i v h => intItems_at h) i j vi vj s1 Q1 E1 hi hj hq, fun v s' hP m => ?_⟩⟩
    · obtain ⟨h', tk, rfl, hk'⟩ := PySem.W.moved_old e2 rfl m
      refine ⟨d, H, I.kept hk', rd, q0 ?_⟩
      rw [hn]
      have : xs.size = 0 := by omega
      simp [Array.eq_empty_of_size_eq_zero this]
    · obtain ⟨h', tk, rfl, hk'⟩ := PySem.W.moved_old e2 rfl m
      obtain ⟨t, rfl⟩ := intItems_at hP
      rw [sz] at hp ⊢
      obtain ⟨b1, b2⟩ := best_gt hn hp
      exact ⟨.int _, H, I.kept hk', ⟨_, rfl⟩, q _ b1 b2⟩
  · obtain ⟨its, rv, hl, _⟩ := I.tuple hs
    obtain ⟨xs, e, hn⟩ := ints_arr rv.ints
    have hl' : s.heap.IsTuple a its.toArray := hl
    rw [e] at hl'
    have sz : (intItems xs).size = xs.size := by simp [intItems]
    refine call_max_walkD (PySem.W.iter_tupleW (A := X.A.in1) hh hl' fun s₂ e2 W st hfp hw hk => ?_)
    refine ⟨_, _, _, _, _, _, _, s.heap, (fun i j => decide (numAt xs i > numAt xs j)), rfl, W, st, hfp, hw, hk, fun hz s' m => ?_, fun hp => ⟨fun i j vi vj s1 Q1 E1 _ hi hj hq => CmpOf.ints_gt (P := fun i v => (intItems xs)[i]? = some v) (numAt xs) (fun i v h => intItems_at h) i j vi vj s1 Q1 E1 hi hj hq, fun v s' hP m => ?_⟩⟩
    · obtain ⟨h', tk, rfl, hk'⟩ := PySem.W.moved_old e2 rfl m
      refine ⟨d, H, I.kept hk', rd, q0 ?_⟩
      rw [hn]
      have : xs.size = 0 := by omega
      simp [Array.eq_empty_of_size_eq_zero this]
    · obtain ⟨h', tk, rfl, hk'⟩ := PySem.W.moved_old e2 rfl m
      obtain ⟨t, rfl⟩ := intItems_at hP
      rw [sz] at hp ⊢
      obtain ⟨b1, b2⟩ := best_gt hn hp
      exact ⟨.int _, H, I.kept hk', ⟨_, rfl⟩, q _ b1 b2⟩
theorem cr_minDef (hc : X.calm = true) : CallRK X (.builtin "min") [Str.ofString "default"] (rBestD X.K (· ≥ ·)) := by
  intro pins s σ H vs zs us ws Q I r rz h
  obtain ⟨a, ns, d, rfl, rfl, hs, q0, q⟩ := h
  obtain rfl := Vals.ref1 r
  obtain ⟨w1, rfl, rd⟩ := vals1 rz
  have hh := I.ok.hd hc
  show wpAny _ _ (call (.builtin "min") [.ref a] [(Str.ofString "default", w1)]) _ _ _
  rcases hs with hs | hs
  · obtain ⟨its, rv, hl, _⟩ := I.list hs
    obtain ⟨xs, e, hn⟩ := ints_arr rv.ints
    have hl' := hl.isList
    rw [e] at hl'
    have sz : (intItems xs).size = xs.size := by simp [intItems]
    refine call_min_walkD (PySem.W.iter_listW (A := X.A.in1) hh hl' fun s₂ e2 W st hfp hw hk => ?_)
    refine ⟨_, _, _, _, _, _, _, s.heap, (fun i j => decide (numAt xs i < numAt xs j)), rfl, W, st, hfp, hw, hk, fun hz s' m => ?_, fun hp => ⟨fun i j vi vj s1 Q1 E1 _ hi hj hq => CmpOf.ints_lt (P := fun i v => (intItems xs)[i]? = some v) (numAt xs) (fun i v h => intItems_at h) i j vi vj s1 Q1 E1 hi hj hq, fun v s' hP m => ?_⟩⟩
    · obtain ⟨h', tk, rfl, hk'⟩ := PySem.W.moved_old e2 rfl m
      refine ⟨d, H, I.kept hk', rd, q0 ?_⟩
      rw [hn]
      have : xs.size = 0 := by omega
      simp [Array.eq_empty_of_size_eq_zero this]
    · obtain ⟨h', tk, rfl, hk'⟩ := PySem.W.moved_old e2 rfl m
      obtain ⟨t, rfl⟩ := intItems_at hP
      rw [sz] at hp ⊢
      obtain ⟨b1, b2⟩ := best_lt hn hp
      exact ⟨.int _, H, I.kept hk', ⟨_, rfl⟩, q _ b1 b2⟩
  · obtain ⟨its, rv, hl, _⟩ := I.tuple hs
    obtain ⟨xs, e, hn⟩ := ints_arr rv.ints
    have hl' : s.heap.IsTuple a its.toArray := hl
    rw [e] at hl'
    have sz : (intItems xs).size = xs.size := by simp [intItems]
    refine call_min_walkD (PySem.W.iter_tupleW (A := X.A.in1) hh hl' fun s₂ e2 W st hfp hw hk => ?_)
    refine ⟨_, _, _, _, _, _, _, s.heap, (fun i j => decide (numAt xs i < numAt xs j)), rfl, W, st, hfp, hw, hk, fun hz s' m => ?_, fun hp => ⟨fun i j vi vj s1 Q1 E1 _ hi hj hq => CmpOf.ints_lt (P := fun i v => (intItems xs)[i]? = some v) (numAt xs) (fun i v h => intItems_at h) i j vi vj s1 Q1 E1 hi hj hq, fun v s' hP m => ?_⟩⟩
    · obtain ⟨h', tk, rfl, hk'⟩ := PySem.W.moved_old e2 rfl m
      refine ⟨d, H, I.kept hk', rd, q0 ?_⟩
      rw [hn]
      have : xs.size = 0 := by omega
      simp [Array.eq_empty_of_size_eq_zero this]
    · obtain ⟨h', tk, rfl, hk'⟩ := PySem.W.moved_old e2 rfl m
      obtain ⟨t, rfl⟩ := intItems_at hP
      rw [sz] at hp ⊢
      obtain ⟨b1, b2⟩ := best_lt hn hp
      exact ⟨.int _, H, I.kept hk', ⟨_, rfl⟩, q _ b1 b2⟩
end
end KB
namespace KB
open PySem PySem.Spec PyProof.Rows L2
/-- the sum of 2 ** (L - n) -/
def hs (L : Nat) : List Nat → Nat
  | [] => 0
  | n :: r => 2 ^ (L - n) + hs L r
theorem hs_kr : ∀ ls, hs 40 ls = kr ls
  | [] => rfl
  | n :: r => by
    show 2 ^ (40 - n) + hs 40 r = 2 ^ (40 - n) + kr r
    rw [hs_kr r]
theorem hs_up {m L : Nat} (h : m ≤ L) : ∀ {ls : List Nat}, (∀ n ∈ ls, n ≤ m) → hs L ls = 2 ^ (L - m) * hs m ls
  | [], _ => rfl
  | n :: r, hn => by
    have h1 := hn n (List.mem_cons_self ..)
    show 2 ^ (L - n) + hs L r = 2 ^ (L - m) * (2 ^ (m - n) + hs m r)
    rw [hs_up h (fun k hk => hn k (List.mem_cons_of_mem _ hk)), Nat.mul_add, ← Nat.pow_add]
    congr 2
    omega
theorem hs_app (L : Nat) : ∀ a b : List Nat, hs L (a ++ b) = hs L a + hs L b
  | [], b => by simp [hs]
  | n :: a, b => by
    show 2 ^ (L - n) + hs L (a ++ b) = 2 ^ (L - n) + hs L a + hs L b
    rw [hs_app L a b, Nat.add_assoc]
theorem hs_sum (m : Nat) : ∀ ls : List Nat, (∀ n ∈ ls, n ≤ m) → (ls.map fun n : Nat => (1 : Int) * 2 ^ ((m : Int) - (n : Int)).toNat).sum = (hs m ls : Int)
  | [], _ => rfl
  | n :: r, h => by
    have hn := h n (List.mem_cons_self ..)
    rw [List.map_cons, List.sum_cons, hs_sum m r (fun k hk => h k (List.mem_cons_of_mem _ hk))]
    show _ = ((2 ^ (m - n) + hs m r : Nat) : Int)
    rw [Int.natCast_add, Int.natCast_pow, Int.one_mul, show ((m : Int) - (n : Int)).toNat = m - n by omega]
    rfl
theorem red_hs {m L : Nat} {ls : List Nat} (h : m ≤ L) (hn : ∀ n ∈ ls, n ≤ m) : rOd (hs m ls) (2 ^ m) = rOd (hs L ls) (2 ^ L) ∧ rUd (hs m ls) (2 ^ m) = rUd (hs L ls) (2 ^ L) := by
  have p : (0 : Int) < 2 ^ (L - m) := Int.pow_pos (by decide)
  have e1 : ((hs L ls : Nat) : Int) = 2 ^ (L - m) * (hs m ls : Int) := by
    rw [hs_up h hn, Int.natCast_mul, Int.natCast_pow]
    rfl
  have e2 : (2 : Int) ^ L = 2 ^ (L - m) * 2 ^ m := by
    rw [← Int.pow_add]
    congr 1
    omega
  rw [e1, e2]
  exact ⟨(rOd_scale _ _ p).symm, (rUd_scale _ _ p).symm⟩
/-- all ints of a sequence of numbers -/
theorem dp_nums {K : PySem.W.Frag} {H : Hp} : ∀ {xs : List V} {ds : List PyData}, DpAll K H xs ds → ds.all isNumD = true → xs = (ds.map natD).map nI
  | _, _, .nil, _ => rfl
  | x :: xs, d :: ds, .cons hd ha, h => by
    rw [List.all_cons, Bool.and_eq_true] at h
    obtain ⟨h1, h2⟩ := h
    rw [List.map_cons, List.map_cons, dp_nums ha h2]
    cases d with
    | int z =>
      cases hd
      have : 0 ≤ z := of_decide_eq_true h1
      show V.int z :: _ = V.int ((z.toNat : Nat) : Int) :: _
      rw [Int.toNat_of_nonneg this]
    | _ => cases h1
end KB
namespace KB
open PySem PySem.Spec PyProof.Rows L2
/-- a walk over a list or a tuple that stands: S tells that it stands -/
structure LikeSeq (J : It) (S : Hp → Prop) (xs : List V) : Prop where
  mono : ∀ H H', Same H H' → S H → S H'
  go : ∀ i H, S H → i < xs.length → J.go i H
  yld : ∀ i H x H', S H → J.yld i H x H' → H' = H ∧ xs[i]? = some x
  stop : ∀ H, S H → J.stop xs.length H
theorem likeL (K : PySem.W.Frag) (a : Addr) (xs : List V) : LikeSeq (Itl K a) (fun H => SqL K H a xs) xs :=
  ⟨fun _ _ s q => s.seq q, fun i _ q h => ⟨xs, xs[i], q, by simp [h]⟩, fun _ _ _ _ q y => ⟨y.1, y.2 xs q⟩, fun _ q => ⟨xs, q, Nat.le_refl _⟩⟩
theorem likeT (K : PySem.W.Frag) (a : Addr) (xs : List V) : LikeSeq (Itt K a) (fun H => SqT K H a xs) xs :=
  ⟨fun _ _ s q => sameT s q, fun i _ q h => ⟨xs, xs[i], q, by simp [h]⟩, fun _ _ _ _ q y => ⟨y.1, y.2 xs q⟩, fun _ q => ⟨xs, q, Nat.le_refl _⟩⟩
theorem seq_two {K : PySem.W.Frag} {a : Addr} {xs : List V} {H : Hp} {R : It → Hp → Prop} (hs : SqL K H a xs ∨ SqT K H a xs) (h : ∀ J S, LikeSeq J S xs → S H → R J H) : (SqL K H a xs ∧ R (Itl K a) H) ∨ (SqT K H a xs ∧ R (Itt K a) H) := by
  rcases hs with q | q
  · exact .inl ⟨q, h _ _ (likeL K a xs) q⟩
  · exact .inr ⟨q, h _ _ (likeT K a xs) q⟩
theorem for_J {J : It} {S : Hp → Prop} {xs : List V} (L : LikeSeq J S xs) {g : TG} {tb : TS} {D : Ends} {σ : L2.St} {H : Hp} (Pv : Nat → L2.St → Hp → Prop) (h0 : Pv 0 σ H) (hl : ∀ i σ H, i ≤ xs.length → Pv i σ H → S H)
    (hs : ∀ i x σ H, xs[i]? = some x → Pv i σ H → g x σ H fun σ2 H2 => tb { D with nx := Pv (i + 1), ct := Pv (i + 1), bk := D.nx } σ2 H2) (hd : ∀ σ H, Pv xs.length σ H → D.nx σ H) :
    ∃ W : Nat → Nat → L2.St → Hp → Prop, (∃ m, W 0 m σ H) ∧ ∀ i m σ H, W i m σ H →
      (J.stop i H ∧ D.nx σ H) ∨ (J.go i H ∧ ∃ N : L2.St → Hp → Prop, (∀ σ' H', N σ' H' → ∃ m', m' < m ∧ W (i + 1) m' σ' H') ∧ ∀ x H', J.yld i H x H' → g x σ H' fun σ2 H2 => tb { D with nx := N, ct := N, bk := D.nx } σ2 H2) := by
  refine ⟨fun i m σ H => m = xs.length - i ∧ i ≤ xs.length ∧ Pv i σ H, ⟨xs.length, by simp, Nat.zero_le _, h0⟩, ?_⟩
  rintro i m σ H ⟨rfl, hi, p⟩
  have q := hl i σ H hi p
  by_cases hlt : i < xs.length
  · refine .inr ⟨L.go i H q hlt, Pv (i + 1), fun σ' H' p' => ⟨xs.length - (i + 1), by omega, rfl, hlt, p'⟩, fun x H' y => ?_⟩
    obtain ⟨e, yy⟩ := L.yld i H x H' q y; clear y
    subst e
    exact hs i x σ _ yy p
  · have e : i = xs.length := by omega
    subst e
    exact .inl ⟨L.stop H q, hd σ H p⟩
theorem lc_J {J : It} {S : Hp → Prop} {xs : List V} (L : LikeSeq J S xs) {g : TG} {tt : TT} {te : TE} {vs : List Nat} {σ : L2.St} {H1 : Hp} {D : Addr} {Qd : Hp → Prop} (Pv : Nat → Hp → Prop) (h0 : Pv 0 (upd H1 D (.lst []))) (hl : ∀ i H, i ≤ xs.length → Pv i H → S H)
    (hs : ∀ i x H, xs[i]? = some x → Pv i H → g x (wipe σ vs) H fun σ2 H2 => wipe σ2 vs = wipe σ vs ∧ tt σ2 H2 fun b H3 =>
      if b = true then te σ2 H3 fun y H4 => ∃ acc, H4 D = some (.lst acc) ∧ acc.length < sizeLine ∧ Pv (i + 1) (upd H4 D (.lst (acc ++ [y]))) else Pv (i + 1) H3) (hd : ∀ H, Pv xs.length H → Qd H) :
    ∃ W : Nat → Nat → Hp → Prop, (∃ m, W 0 m (upd H1 D (.lst []))) ∧ ∀ i m H, W i m H →
      (J.stop i H ∧ Qd H) ∨ (J.go i H ∧ ∃ Nx : Hp → Prop, (∀ H', Nx H' → ∃ m', m' < m ∧ W (i + 1) m' H') ∧ ∀ x H', J.yld i H x H' → g x (wipe σ vs) H' fun σ2 H2 => wipe σ2 vs = wipe σ vs ∧ tt σ2 H2 fun b H3 =>
        if b = true then te σ2 H3 fun y H4 => ∃ acc, H4 D = some (.lst acc) ∧ acc.length < sizeLine ∧ Nx (upd H4 D (.lst (acc ++ [y]))) else Nx H3) := by
  refine ⟨fun i m H => m = xs.length - i ∧ i ≤ xs.length ∧ Pv i H, ⟨xs.length, by simp, Nat.zero_le _, h0⟩, ?_⟩
  rintro i m H ⟨rfl, hi, p⟩
  have q := hl i H hi p
  by_cases hlt : i < xs.length
  · refine .inr ⟨L.go i H q hlt, Pv (i + 1), fun H' p' => ⟨xs.length - (i + 1), by omega, rfl, hlt, p'⟩, fun x H' y => ?_⟩
    obtain ⟨e, yy⟩ := L.yld i H x H' q y; clear y
    subst e
    exact hs i x _ yy p
  · have e : i = xs.length := by omega
    subst e
    exact .inl ⟨L.stop H q, hd H p⟩
theorem maxD_nat {K : PySem.W.Frag} {H : Hp} {a : Addr} {ls : List Nat} {L : Nat} {Q : VK} (hs : SqL K H a (ls.map nI) ∨ SqT K H a (ls.map nI)) (hL : ∀ n ∈ ls, n ≤ L) (h : ∀ m : Nat, m ≤ L → (∀ n ∈ ls, n ≤ m) → Q (.int m) H) : rBestD K (· ≤ ·) [.ref a] [.int 0] H Q := by
  have em : (ls.map fun n : Nat => (n : Int)).map V.int = ls.map nI := by rw [List.map_map]; rfl
  refine ⟨a, ls.map fun n : Nat => (n : Int), V.int 0, rfl, rfl, by rw [em]; exact hs, fun e0 => ?_, fun m hm hmax => ?_⟩
  · have : ls = [] := by simpa using e0
    subst this
    exact h 0 (Nat.zero_le _) (fun n hn => by cases hn)
  · obtain ⟨n, hn, rfl⟩ := List.mem_map.mp hm
    exact h n (hL n hn) fun k hk => by
      have := hmax _ (List.mem_map.mpr ⟨k, hk, rfl⟩)
      omega
end KB
namespace KB
open PySem PySem.Spec PyProof.Rows L2
section
variable {X : Cx} {tg l : Expr} {tl : TE}
/-- for x in e, e a list or a tuple: told once for both -/
def iSeqJ (K : PySem.W.Frag) (tl : TE) : TI := fun σ H R => tl σ H fun x H1 => ∃ a xs, x = .ref a ∧ (SqL K H1 a xs ∨ SqT K H1 a xs) ∧ ∀ J S, LikeSeq J S xs → S H1 → R J H1
theorem pi_seqJ (hl : PE X l tl) : PI X tg l (iSeqJ X.K tl) := by
  refine ⟨fun pins s σ H R I h => thn (hl.run pins s σ H _ I h) fun v s1 ⟨x, H1, I1, r1, a, xs, ex, hs, q⟩ => ?_⟩
  subst ex
  cases r1
  have fr : ∀ b, b ∈ [s1.heap.objs.size] → FpOk X pins H1 b := fun b hb => by
    rw [List.mem_singleton.mp hb]
    exact I1.fpOk (Nat.le_refl _) (I1.hok.fresh (Nat.le_refl _))
  have kp : ∀ (o : Obj), Inv X pins σ H1 { s1 with heap := s1.heap.push o } := fun o => I1.kept (t' := s1.toks) fun b o' e => Heap.get?_push_of_some _ e
  rcases hs with hq | hq
  · have q' := q _ _ (likeL X.K a xs) hq
    obtain ⟨its, rv, p, hz⟩ := I1.list hq
    exact wpAny_pyIter_list p.isList ⟨_, [s1.heap.objs.size], _, _, H1, rfl, kp _, turn_list a _, ⟨_, Heap.get?_push_size _ rfl, rfl, rfl⟩, fr, q'⟩
  · have q' := q _ _ (likeT X.K a xs) hq
    obtain ⟨its, rv, p, hz⟩ := I1.tuple hq
    exact wpAny_pyIter_tuple (show s1.heap.IsTuple a its.toArray from p) ⟨_, [s1.heap.objs.size], _, _, H1, rfl, kp _, turn_tuple a _, ⟨_, Heap.get?_push_size _ rfl, rfl, rfl⟩, fr, q'⟩
end
end KB
namespace KB
open PySem PySem.Spec PyProof.Rows L2
theorem row_at {K : PySem.W.Frag} {H : Hp} {v : V} {d : PyData} {n : Nat} (hv : Dp K H v d) (hok : okD n d = true) (hr : rowD d = true) : ∃ a, v = .ref a ∧ (SqL K H a ((lensD d).map nI) ∨ SqT K H a ((lensD d).map nI)) ∧ (lensD d).length ≤ 100000 := by
  cases n with
  | zero => cases d <;> first | (cases hok; done) | (cases hr; done)
  | succ n =>
  cases d with
  | list ds =>
    cases hv with
    | lst sx ax => exact ⟨_, rfl, .inl (by have e := dp_nums ax hr; rw [e] at sx; exact sx), by show (ds.map natD).length ≤ _; rw [List.length_map]; exact (okD_seq hok).1⟩
  | tuple ds =>
    cases hv with
    | tup sx ax => exact ⟨_, rfl, .inr (by have e := dp_nums ax hr; rw [e] at sx; exact sx), by show (ds.map natD).length ≤ _; rw [List.length_map]; exact (okD_seq hok).1⟩
  | _ => cases hr
theorem for_enumL {K : PySem.W.Frag} {a : Addr} {xs : List V} {g : TG} {tb : TS} {D : Ends} {σ : L2.St} {H : Hp} (Pv : Nat → L2.St → Hp → Prop) (h0 : Pv 0 σ H) (hl : ∀ i σ H, i ≤ xs.length → Pv i σ H → SqL K H a xs)
    (hs : ∀ i x σ H, xs[i]? = some x → Pv i σ H → ∀ T, H T = none → g (.ref T) σ (upd H T (.tup [.int (i : Nat), x])) fun σ2 H2 => tb { D with nx := Pv (i + 1), ct := Pv (i + 1), bk := D.nx } σ2 H2) (hd : ∀ σ H, Pv xs.length σ H → D.nx σ H) :
    ∃ W : Nat → Nat → L2.St → Hp → Prop, (∃ m, W 0 m σ H) ∧ ∀ i m σ H, W i m σ H →
      ((Ite K a).stop i H ∧ D.nx σ H) ∨ ((Ite K a).go i H ∧ ∃ N : L2.St → Hp → Prop, (∀ σ' H', N σ' H' → ∃ m', m' < m ∧ W (i + 1) m' σ' H') ∧ ∀ v H', (Ite K a).yld i H v H' → g v σ H' fun σ2 H2 => tb { D with nx := N, ct := N, bk := D.nx } σ2 H2) := by
  refine ⟨fun i m σ H => m = xs.length - i ∧ i ≤ xs.length ∧ Pv i σ H, ⟨xs.length, by simp, Nat.zero_le _, h0⟩, ?_⟩
  rintro i m σ H ⟨rfl, hi, p⟩
  have q := hl i σ H hi p
  by_cases hlt : i < xs.length
  · refine .inr ⟨⟨xs, xs[i], q, by simp [hlt]⟩, Pv (i + 1), fun σ' H' p' => ⟨xs.length - (i + 1), by omega, rfl, hlt, p'⟩, fun v H' y => ?_⟩
    obtain ⟨T, x, rfl, hT, rfl, y⟩ := y
    exact hs i x σ H (y xs q) p T hT
  · have e : i = xs.length := by omega
    subst e
    exact .inl ⟨⟨xs, q, Nat.le_refl _⟩, hd σ H p⟩
theorem bits_up {n m : Nat} (h : Builtin.Int.intBits (n : Int) ≤ m) : n < 2 ^ m := by
  unfold Builtin.Int.intBits at h
  split at h
  · rename_i h0
    have h0' : n = 0 := by simpa using h0
    subst h0'
    exact Nat.pow_pos (by decide)
  · have h2 := Nat.lt_log2_self (n := n)
    have h3 : 2 ^ ((n : Int).natAbs.log2 + 1) ≤ 2 ^ m := Nat.pow_le_pow_right (by decide) h
    have : (n : Int).natAbs = n := by omega
    rw [this] at h3
    omega
theorem bits_dn {n m : Nat} (h : n < 2 ^ m) : Builtin.Int.intBits (n : Int) ≤ m := by
  unfold Builtin.Int.intBits
  split
  · omega
  · have : (n : Int).natAbs = n := by omega
    rw [this]
    rename_i h0
    exact (Nat.log2_lt (fun z => h0 (by subst z; rfl))).mpr h
theorem kr_le {l : Nat} : ∀ {ys : List Nat}, (∀ y ∈ ys, l ≤ y) → kr ys ≤ ys.length * 2 ^ (40 - l)
  | [], _ => Nat.zero_le _
  | y :: r, h => by
    have h1 := h y (List.mem_cons_self ..)
    have h2 := kr_le (ys := r) fun z hz => h z (List.mem_cons_of_mem _ hz)
    have h3 : 2 ^ (40 - y) ≤ 2 ^ (40 - l) := Nat.pow_le_pow_right (by decide) (by omega)
    show 2 ^ (40 - y) + kr r ≤ (r.length + 1) * 2 ^ (40 - l)
    rw [Nat.add_mul]
    omega
theorem kr_drop {ls : List Nat} {i l : Nat} (hs : ls.Pairwise (· ≤ ·)) (h : ls[i]? = some l) : kr ls ≤ kr (ls.take i) + (ls.length - i) * 2 ^ (40 - l) := by
  have e : ls = ls.take i ++ ls.drop i := (List.take_append_drop _ _).symm
  have h2 : kr ls = kr (ls.take i) + kr (ls.drop i) := by rw [← kr_app, ← e]
  have h3 : kr (ls.drop i) ≤ (ls.drop i).length * 2 ^ (40 - l) := kr_le fun y hy => by
    obtain ⟨k, hk, rfl⟩ := List.getElem_of_mem hy
    rw [List.getElem_drop]
    obtain ⟨hi, ei⟩ := List.getElem?_eq_some_iff.mp h
    rw [List.length_drop] at hk
    rw [← ei]
    rcases Nat.eq_zero_or_pos k with z | z
    · subst z
      exact Nat.le_refl _
    · exact List.pairwise_iff_getElem.mp hs i (i + k) hi (by omega) (by omega)
  rw [List.length_drop] at h3
  omega
theorem kr_perm {a b : List Nat} (h : a.Perm b) : kr a = kr b := by
  induction h with
  | nil => rfl
  | cons x _ ih => show 2 ^ (40 - x) + _ = 2 ^ (40 - x) + _; rw [ih]
  | swap x y l => show 2 ^ (40 - y) + (2 ^ (40 - x) + _) = 2 ^ (40 - x) + (2 ^ (40 - y) + _); omega
  | trans _ _ h1 h2 => exact h1.trans h2
/-- room for T: room of the words of length depth are left -/
structure Rk (T : Nat) (ls : List Nat) (i room depth : Nat) : Prop where
  eq : room * 2 ^ (40 - depth) + kr (ls.take i) = T
  d40 : depth ≤ 40
  pos : 0 < room
  at_ : (i = 0 ∧ depth = 0) ∨ ∃ k, i = k + 1 ∧ ls[k]? = some depth
theorem Rk.ini (ls : List Nat) {r : Nat} (h : 0 < r) : Rk (r * 2 ^ 40) ls 0 r 0 := ⟨by simp [kr], by omega, h, .inl ⟨rfl, rfl⟩⟩
theorem Rk.le {T : Nat} {ls : List Nat} {i free depth l : Nat} (R : Rk T ls i free depth) (hs : ls.Pairwise (· ≤ ·)) (h : ls[i]? = some l) : depth ≤ l := by
  rcases R.at_ with ⟨_, e⟩ | ⟨k, rfl, hk⟩
  · omega
  · obtain ⟨h1, e1⟩ := List.getElem?_eq_some_iff.mp hk
    obtain ⟨h2, e2⟩ := List.getElem?_eq_some_iff.mp h
    have := List.pairwise_iff_getElem.mp hs k (k + 1) h1 h2 (Nat.lt_succ_self _)
    rw [e1, e2] at this
    exact this
theorem Rk.small {T : Nat} {ls : List Nat} {i free depth : Nat} (R : Rk T ls i free depth) : free ≤ T := by
  have : 1 ≤ 2 ^ (40 - depth) := Nat.pow_pos (by decide)
  have h := R.eq
  have := Nat.mul_le_mul_left free this
  omega
/-- all that are left do not fill the room -/
theorem Rk.enough {T : Nat} {ls : List Nat} {i room depth l : Nat} (R : Rk T ls i room depth) (hs : ls.Pairwise (· ≤ ·)) (h : ls[i]? = some l) (h40 : l ≤ 40) (hb : ls.length - i < 2 ^ (l - depth)) : kr ls < T := by
  have hd := R.le hs h
  have e := R.eq
  have k := kr_drop hs h
  have p : 0 < 2 ^ (40 - l) := Nat.pow_pos (by decide)
  have h1 : (ls.length - i) * 2 ^ (40 - l) < 2 ^ (l - depth) * 2 ^ (40 - l) := Nat.mul_lt_mul_of_pos_right hb p
  have h2 : 2 ^ (l - depth) * 2 ^ (40 - l) = 2 ^ (40 - depth) := by
    rw [← Nat.pow_add]
    congr 1
    omega
  have h3 : 1 * 2 ^ (40 - depth) ≤ room * 2 ^ (40 - depth) := Nat.mul_le_mul_right _ R.pos
  omega
theorem Rk.nxt {T : Nat} {ls : List Nat} {i free depth l : Nat} (R : Rk T ls i free depth) (hs : ls.Pairwise (· ≤ ·)) (h : ls[i]? = some l) (h40 : l ≤ 40) :
    1 ≤ free * 2 ^ (l - depth) ∧ (free * 2 ^ (l - depth) - 1 = 0 → T ≤ kr ls) ∧ (free * 2 ^ (l - depth) - 1 ≠ 0 → Rk T ls (i + 1) (free * 2 ^ (l - depth) - 1) l) := by
  have hd := R.le hs h
  have p : 1 ≤ 2 ^ (l - depth) := Nat.pow_pos (by decide)
  have f1 : 1 ≤ free * 2 ^ (l - depth) := Nat.mul_pos R.pos p
  have e : free * 2 ^ (40 - depth) = free * 2 ^ (l - depth) * 2 ^ (40 - l) := by
    rw [Nat.mul_assoc, ← Nat.pow_add]
    congr 2
    omega
  have q := R.eq
  rw [e] at q
  have hle : 1 * 2 ^ (40 - l) ≤ free * 2 ^ (l - depth) * 2 ^ (40 - l) := Nat.mul_le_mul_right _ f1
  have kt := kr_take h
  have kl : kr (ls.take (i + 1)) ≤ kr ls := by
    have e2 : ls = ls.take (i + 1) ++ ls.drop (i + 1) := (List.take_append_drop _ _).symm
    have : kr ls = kr (ls.take (i + 1)) + kr (ls.drop (i + 1)) := by rw [← kr_app, ← e2]
    omega
  refine ⟨f1, fun z => ?_, fun z => ⟨?_, h40, by omega, .inr ⟨i, rfl, h⟩⟩⟩
  · have : free * 2 ^ (l - depth) = 1 := by omega
    rw [this] at q
    omega
  · rw [kt, Nat.sub_mul]
    omega
theorem Rk.fin {T : Nat} {ls : List Nat} {room depth : Nat} (R : Rk T ls ls.length room depth) : kr ls < T := by
  have h := R.eq
  rw [List.take_length] at h
  have : 1 * 2 ^ (40 - depth) ≤ room * 2 ^ (40 - depth) := Nat.mul_le_mul_right _ R.pos
  have p : 0 < 2 ^ (40 - depth) := Nat.pow_pos (by decide)
  omega
end KB
namespace KB
open PySem PySem.Spec PyProof.Rows L2
theorem red_div {o u : Int} (hu : 0 < u) : rOd o u / rUd o u = o / u := by
  obtain ⟨g, g0, eo, eu⟩ := red_ex (o := o) hu
  generalize rOd o u = n at *
  generalize rUd o u = d at *
  rw [eo, eu, Int.mul_ediv_mul_of_pos _ _ g0]
theorem bits_log {q : Nat} : (if ((Builtin.Int.intBits (q : Int) : Nat) : Int) - 1 > 0 then ((Builtin.Int.intBits (q : Int) : Nat) : Int) - 1 else 0) = ((Nat.log2 q : Nat) : Int) := by
  by_cases h : q = 0
  · subst h
    rfl
  · have e : Builtin.Int.intBits (q : Int) = Nat.log2 q + 1 := by
      unfold Builtin.Int.intBits
      rw [if_neg (by simpa using h), show (q : Int).natAbs = q by omega]
    rw [e]
    split <;> omega
theorem kit2 {K : PySem.W.Frag} (t : String) (a b : String) (r1 r2 : Bool) (h1 : kitB t a = some r1) (h2 : kitB t b = some r2) : PySem.W.kitAny K (.type t) [.type a, .type b] = some (r1 || r2) :=
  kitAny_cons (kit_ty h1) (fun e => by subst e; exact kitAny_cons (kit_ty h2) (fun e => by subst e; rfl) (fun e => by subst e; rfl)) (fun e => by subst e; rfl)
end KB
namespace KB
open PySem PySem.Spec PyProof.Rows L2
theorem atN {ls : List Nat} {k l : Nat} (h : ls[k]? = some l) : atI (ls.map nI) (k : Int) = some (nI l) := atI_nat (by rw [List.getElem?_map, h]; rfl)
theorem flatN : ∀ ls : List Nat, (ls.map nI).all flatV = true
  | [] => rfl
  | n :: r => by
    rw [List.map_cons, List.all_cons, flatN r]
    rfl
theorem getN {ls : List Nat} {k : Nat} {v : V} (h : (ls.map nI)[k]? = some v) : ∃ n, ls[k]? = some n ∧ v = nI n := by
  rw [List.getElem?_map] at h
  cases e : ls[k]? with
  | none => rw [e] at h; cases h
  | some n => rw [e] at h; exact ⟨n, rfl, (Option.some.inj h).symm⟩
theorem idxN {m : Nat} : ∀ {ls : List Nat}, m ∈ ls → ∃ j : Nat, ls[j]? = some m ∧ ∀ (k : Nat) (z : Nat), k < j → ls[k]? = some z → z ≠ m
  | [], h => by cases h
  | n :: r, h => by
    by_cases e : n = m
    · exact ⟨0, by rw [e]; rfl, fun k z hk => absurd hk (Nat.not_lt_zero _)⟩
    · have hr : m ∈ r := by
        rcases List.mem_cons.mp h with z | z
        · exact absurd z.symm e
        · exact z
      obtain ⟨j, h1, h2⟩ := idxN hr
      refine ⟨j + 1, by rw [List.getElem?_cons_succ]; exact h1, fun k z hk hz => ?_⟩
      cases k with
      | zero => cases Option.some.inj hz; exact e
      | succ k => exact h2 k z (by omega) (by rw [List.getElem?_cons_succ] at hz; exact hz)
theorem indexN {K : PySem.W.Frag} {H : Hp} {a : Addr} {ls : List Nat} {m : Nat} {Q : VK} (hS : SqL K H a (ls.map nI)) (hm : m ∈ ls) (q : ∀ j, ls[j]? = some m → Q (.int (j : Nat)) H) : rIndex K (.ref a) [.int (m : Int)] H Q := by
  obtain ⟨j, h1, h2⟩ := idxN hm
  refine ⟨a, ls.map nI, .int (m : Int), j, nI m, rfl, rfl, hS, rfl, flatN ls, by rw [List.getElem?_map, h1]; rfl, ?_, fun k z hk hz => ?_, q j h1⟩
  · simp [eqV, nI]
  · obtain ⟨n, hn, rfl⟩ := getN hz
    have := h2 k n hk hn
    simp [eqV, nI]
    omega
theorem maxN {K : PySem.W.Frag} {H : Hp} {a : Addr} {ls : List Nat} {Q : VK} (hS : SqL K H a (ls.map nI)) (h0 : 0 < ls.length) (q : ∀ m, m ∈ ls → (∀ n ∈ ls, n ≤ m) → Q (.int (m : Int)) H) : rMax K [.ref a] H Q := by
  have em : (ls.map fun n : Nat => (n : Int)).map V.int = ls.map nI := by rw [List.map_map]; rfl
  refine ⟨a, ls.map fun n : Nat => (n : Int), rfl, by rw [em]; exact hS, by rw [List.length_map]; exact h0, fun m hm hmax => ?_⟩
  obtain ⟨n, hn, rfl⟩ := List.mem_map.mp hm
  exact q n hn fun k hk => by
    have := hmax _ (List.mem_map.mpr ⟨k, hk, rfl⟩)
    omega
/-- a list of numbers that stands by itself, beside the tape -/
structure Nl (B0 B H : Hp) (t p : Addr) (c : Nat) (bs : List Nat) : Prop where
  same : Same B0 B
  tp : Tp B H t c
  at_ : B p = some (.lst (bs.map nI))
  nb : B0 p = none
theorem Nl.set {B0 B H : Hp} {t p : Addr} {c : Nat} {bs : List Nat} (N : Nl B0 B H t p c bs) (zs : List Nat) : Nl B0 (upd B p (.lst (zs.map nI))) (upd H p (.lst (zs.map nI))) t p c zs :=
  ⟨same_out N.same N.nb, N.tp.set N.at_, upd_same, N.nb⟩
theorem Nl.hd {B0 B H : Hp} {t p : Addr} {c : Nat} {bs : List Nat} (N : Nl B0 B H t p c bs) : H p = some (.lst (bs.map nI)) := N.tp.at N.at_
theorem Nl.le {B0 B H : Hp} {t p : Addr} {c d : Nat} {bs : List Nat} (N : Nl B0 B H t p c bs) (h : c ≤ d) : Nl B0 B H t p d bs := ⟨N.same, N.tp.le h, N.at_, N.nb⟩
theorem Nl.drw {B0 B H H' : Hp} {t p : Addr} {c d : Nat} {bs : List Nat} (N : Nl B0 B H t p c bs) (T : Tp B H' t d) : Nl B0 B H' t p d bs := ⟨N.same, T, N.at_, N.nb⟩
theorem setN (ls : List Nat) (k n : Nat) : (ls.map nI).set k (nI n) = (ls.set k n).map nI := by rw [List.map_set]
end KB
namespace KB
open PySem PySem.Spec PyProof.Rows L2
theorem sqI {K : PySem.W.Frag} {H : Hp} {a : Addr} {ls : List Nat} (hS : SqL K H a (ls.map nI)) : SqL K H a ((ls.map fun n : Nat => (n : Int)).map V.int) := by
  rw [List.map_map]
  exact hS
theorem ix_get {ls : List Nat} {j m : Nat} (h : ls[j]? = some m) : (ls.map nI)[j]? = some (nI m) := by rw [List.getElem?_map, h]; rfl
theorem ix_eq (m : Nat) : eqV (nI m) (.int (m : Int)) = true := by simp [eqV, nI]
theorem ix_min {ls : List Nat} {j m : Nat} (h : ∀ (k : Nat) (z : Nat), k < j → ls[k]? = some z → z ≠ m) : ∀ (k : Nat) (z' : V), k < j → (ls.map nI)[k]? = some z' → eqV z' (.int (m : Int)) = false := fun k z hk hz => by
  obtain ⟨n, hn, rfl⟩ := getN hz
  have := h k n hk hn
  simp [eqV, nI]
  omega
end KB
namespace KB
open PySem PySem.Spec PyProof.Rows L2
theorem ixN_nat {n j : Nat} (h : j < n) : ixN n (j : Int) = some j := by
  unfold ixN
  rw [if_pos (by omega), if_pos (by omega)]
  rfl
theorem Nl.put {B0 B H : Hp} {t p : Addr} {c : Nat} {bs : List Nat} (N : Nl B0 B H t p c bs) (j n : Nat) : Nl B0 (upd B p (.lst ((bs.map nI).set j (nI n)))) (upd H p (.lst ((bs.map nI).set j (nI n)))) t p c (bs.set j n) := by
  rw [setN]
  exact N.set _
theorem Nl.app {B0 B H : Hp} {t p : Addr} {c : Nat} {bs : List Nat} (N : Nl B0 B H t p c bs) (n : Nat) : Nl B0 (upd B p (.lst (bs.map nI ++ [nI n]))) (upd H p (.lst (bs.map nI ++ [nI n]))) t p c (bs ++ [n]) := by
  rw [show bs.map nI ++ [nI n] = (bs ++ [n]).map nI by rw [List.map_append]; rfl]
  exact N.set _
theorem mem_set_le {bs : List Nat} {j n m : Nat} (h : ∀ k ∈ bs, k ≤ m) (hn : n ≤ m) : ∀ k ∈ bs.set j n, k ≤ m := fun k hk => by
  rcases List.mem_or_eq_of_mem_set hk with z | z
  · exact h k z
  · omega
theorem mem_app_le {bs : List Nat} {n m : Nat} (h : ∀ k ∈ bs, k ≤ m) (hn : n ≤ m) : ∀ k ∈ bs ++ [n], k ≤ m := fun k hk => by
  rcases List.mem_append.mp hk with z | z
  · exact h k z
  · rw [List.mem_singleton.mp z]
    exact hn
end KB
namespace KB
open PySem PySem.Spec PyProof.Rows L2
theorem seqIx_nat {n j : Nat} (h : j < n) : seqIndex? (j : Int) n = some j := by
  unfold seqIndex?
  simp
  omega
theorem eraN : ∀ (bs : List Nat) (j : Nat), (bs.map nI).eraseIdx j = (bs.eraseIdx j).map nI
  | [], _ => rfl
  | _ :: _, 0 => rfl
  | b :: r, j + 1 => by
    rw [List.map_cons, List.eraseIdx_cons_succ, List.eraseIdx_cons_succ, List.map_cons, eraN r j]
theorem Nl.era {B0 B H : Hp} {t p : Addr} {c : Nat} {bs : List Nat} (N : Nl B0 B H t p c bs) (j : Nat) : Nl B0 (upd B p (.lst ((bs.map nI).eraseIdx j))) (upd H p (.lst ((bs.map nI).eraseIdx j))) t p c (bs.eraseIdx j) := by
  rw [eraN bs j]
  exact N.set _
theorem Nl.ins {B0 B H : Hp} {t p : Addr} {c : Nat} {bs : List Nat} (N : Nl B0 B H t p c bs) (j n : Nat) : Nl B0 (upd B p (.lst ((bs.map nI).take j ++ [nI n] ++ (bs.map nI).drop j))) (upd H p (.lst ((bs.map nI).take j ++ [nI n] ++ (bs.map nI).drop j))) t p c (bs.take j ++ [n] ++ bs.drop j) := by
  rw [show (bs.map nI).take j ++ [nI n] ++ (bs.map nI).drop j = (bs.take j ++ [n] ++ bs.drop j).map nI by simp [List.map_take, List.map_drop]]
  exact N.set _
theorem mem_era_le {bs : List Nat} {j m : Nat} (h : ∀ k ∈ bs, k ≤ m) : ∀ k ∈ bs.eraseIdx j, k ≤ m := fun k hk => h k (List.mem_of_mem_eraseIdx hk)
theorem mem_ins_le {bs : List Nat} {j n m : Nat} (h : ∀ k ∈ bs, k ≤ m) (hn : n ≤ m) : ∀ k ∈ bs.take j ++ [n] ++ bs.drop j, k ≤ m := fun k hk => by
  rcases List.mem_append.mp hk with z | z
  · rcases List.mem_append.mp z with z | z
    · exact h k (List.mem_of_mem_take z)
    · rw [List.mem_singleton.mp z]
      exact hn
  · exact h k (List.mem_of_mem_drop z)
end KB
namespace KB
open PySem PySem.Spec PyProof.Rows L2
theorem cut_from (bs : List Nat) (x : Nat) (h : x ≤ bs.length) : cutV (bs.map nI) (some (x : Int)) none = (bs.drop x).map nI := by
  have e : HT.sIx (bs.map nI).length 0 (some (x : Int)) = x := by rw [HT.sIx_nat, List.length_map]; omega
  have e2 : HT.sIx (bs.map nI).length (bs.map nI).length none = (bs.map nI).length := rfl
  unfold cutV
  rw [e, e2, ← List.map_drop, List.take_of_length_le (by simp)]
theorem cut_to (bs : List Nat) (x : Nat) (h : x ≤ bs.length) : cutV (bs.map nI) none (some (x : Int)) = (bs.take x).map nI := by
  have e : HT.sIx (bs.map nI).length (bs.map nI).length (some (x : Int)) = x := by rw [HT.sIx_nat, List.length_map]; omega
  have e2 : HT.sIx (bs.map nI).length 0 none = 0 := rfl
  unfold cutV
  rw [e, e2, List.drop_zero, Nat.sub_zero, ← List.map_take]
end KB
namespace KB
open PySem PySem.Spec PyProof.Rows L2
def ndD (ls : List Nat) : List PyData := ls.map fun n : Nat => PyData.int (n : Int)
theorem dp_nd {K : PySem.W.Frag} {H : Hp} : ∀ ls : List Nat, DpAll K H (ls.map nI) (ndD ls)
  | [] => .nil
  | n :: r => .cons (.int _) (dp_nd r)
theorem ndD_len (ls : List Nat) : (ndD ls).length = ls.length := List.length_map ..
theorem ndD_nat (ls : List Nat) : (ndD ls).map natD = ls := by
  unfold ndD
  rw [List.map_map]
  exact List.map_id'' (fun n => by simp [natD]) ls
theorem ndD_ok (ls : List Nat) (n : Nat) : ∀ d ∈ ndD ls, okD (n + 1) d = true := fun d hd => by
  obtain ⟨k, _, rfl⟩ := List.mem_map.mp hd
  rfl
theorem nums_dp {K : PySem.W.Frag} {H : Hp} {a : Addr} {ls : List Nat} (h : H a = some (.lst (ls.map nI)) ∨ H a = some (.tup (ls.map nI))) (hl : ls.length ≤ 100000) (h40 : ∀ n ∈ ls, n ≤ 40) :
    ∃ d, Dp K H (.ref a) d ∧ okD 4 d = true ∧ (rowD d = true → (lensD d).length ≤ 100000 ∧ ∀ n ∈ lensD d, n ≤ 40) := by
  rcases h with h | h
  · refine ⟨.list (ndD ls), .lst (SqL.of h) (dp_nd ls), okD_mk (by rw [ndD_len]; exact hl) (ndD_ok ls 2), fun _ => ?_⟩
    show ((ndD ls).map natD).length ≤ 100000 ∧ ∀ n ∈ (ndD ls).map natD, n ≤ 40
    rw [ndD_nat]
    exact ⟨hl, h40⟩
  · refine ⟨.tuple (ndD ls), .tup (SqT.of h) (dp_nd ls), okD_mk (by rw [ndD_len]; exact hl) (ndD_ok ls 2), fun _ => ?_⟩
    show ((ndD ls).map natD).length ≤ 100000 ∧ ∀ n ∈ (ndD ls).map natD, n ≤ 40
    rw [ndD_nat]
    exact ⟨hl, h40⟩
theorem DpAll.set' {K : PySem.W.Frag} {H : Hp} {v : V} {d : PyData} (hv : Dp K H v d) : ∀ {vs : List V} {ds : List PyData} (k : Nat), DpAll K H vs ds → DpAll K H (vs.set k v) (ds.set k d)
  | _, _, _, .nil => .nil
  | _, _, 0, .cons _ t => .cons hv t
  | _, _, k + 1, .cons h t => .cons h (DpAll.set' hv k t)
theorem sIx_m1 (n : Nat) : HT.sIx n n (some ((n : Int) - 1)) = n - 1 := by
  cases n with
  | zero => rfl
  | succ n =>
    rw [show (((n + 1 : Nat) : Int) - 1) = ((n : Nat) : Int) by omega, HT.sIx_nat]
    omega
theorem cut_m1 (bs : List Nat) : cutV (bs.map nI) none (some (((bs.map nI).length : Nat) - 1 : Int)) = (bs.take (bs.length - 1)).map nI := by
  unfold cutV
  rw [sIx_m1, show HT.sIx (bs.map nI).length 0 none = 0 from rfl, List.drop_zero, Nat.sub_zero, List.length_map, List.map_take]
theorem cut_k (bs : List Nat) (x : Nat) : cutV (bs.map nI) none (some (x : Int)) = (bs.take x).map nI := by
  unfold cutV
  rw [HT.sIx_nat, show HT.sIx (bs.map nI).length 0 none = 0 from rfl, List.drop_zero, Nat.sub_zero, List.map_take, List.length_map]
  rcases Nat.le_total x bs.length with h | h
  · rw [Nat.min_eq_left h]
  · rw [Nat.min_eq_right h, List.take_of_length_le (by simp), List.take_of_length_le (by simpa using h)]
end KB
namespace KB
open PySem PySem.Spec PyProof.Rows L2
/-- a, b = .., two names -/
theorem pg_two {X : Cx} (K : PySem.W.Frag) {i j : Nat} {x y : Str} {px py pos : Pos} {kk : Nat} (hN : X.N.Nodup) (hi : X.N[i]? = some x) (hj : X.N[j]? = some y)
    (hx : Loc X.env.scope x := by first | exact Or.inl rfl | exact Or.inr rfl) (hy : Loc X.env.scope y := by first | exact Or.inl rfl | exact Or.inr rfl)
    (hfx : X.fn x = true ∨ X.env.scope.names.lookup x = some .local := by first | exact .inl rfl | exact .inr rfl | assumption) (hfy : X.fn y = true ∨ X.env.scope.names.lookup y = some .local := by first | exact .inl rfl | exact .inr rfl | assumption)
    (hc : X.calm = true := by rfl) (hK : X.K = K := by rfl) : PG X (.Tuple [.Name x px, .Name y py] kk pos) (gTup K 2 (gCons (gName i) (gCons (gName j) gNil))) := by
  subst hK
  exact pg_tup hc (pgs_cons (pg_name hN hi hx hfx) (pgs_cons (pg_name hN hj hy hfy) pgs_nil))
end KB
namespace KB
open PySem PySem.Spec PyProof.Rows L2
/-- o.m(e) of a built-in, within a comprehension -/
theorem pe_bmC {X : Cx} (K : PySem.W.Frag) {o e : Expr} {es : List Expr} {to : TE} {t : TA} {name : Str} {apos cpos : Pos} {T id : String} {r : V → List V → Hp → VK → Prop} (pa : PlainAttrs T) (slot : Slot T name id) (hty : typeOf (.builtin id) = pure (.type "method_descriptor")) (hm : MtR X id r) (ho : PE X o to) (ha : PA X (e :: es) t)
    (hbase : attributeBase o name X.env (eval o X.env) = eval o X.env := by rfl)
    (hfew : ((backTo cpos (starEach (e :: es) X.env)).all (fun x => !x.1) && (backToKw cpos (keywordEach [] X.env)).all (fun x => x.1.isSome)
      && decide ((e :: es).length + ([] : List Keyword).length + (if ([] : List Keyword).isEmpty then 0 else 1) < 30)) = true := by rfl)
    (hline : (apos.endLine == cpos.line) = true := by rfl) (hs : starEach (e :: es) X.env = (false, eval e X.env) :: starEach es X.env := by rfl) (hplain : (backTo cpos (starEach es X.env)).any (·.1) = false := by rfl)
    (hK : X.K = K := by rfl) : PE X (.Call (.Attribute o name apos) (e :: es) [] cpos) (tBM K T r to t) := by
  subst hK
  exact pe_bm pa slot hty hm ho ha hbase hfew hline hs hplain
end KB
namespace KB
open PySem PySem.Spec PyProof.Rows L2
theorem ixN_m1 {n : Nat} (h : 0 < n) : ixN n (-1) = some (n - 1) := by
  unfold ixN
  rw [if_neg (by decide), if_pos (by omega)]
  congr 1
  omega
theorem at_m1 {ls : List Nat} {l : Nat} (h : ls[ls.length - 1]? = some l) : atI (ls.map nI) (-1) = some (nI l) := by
  have hp : 0 < ls.length := by
    have := (List.getElem?_eq_some_iff.mp h).1
    omega
  unfold atI
  rw [List.length_map, ixN_m1 hp]
  show (ls.map nI)[ls.length - 1]? = _
  rw [List.getElem?_map, h]
  rfl
end KB

/-! enumerate of a list or a tuple, told once; codes of lengths -/
namespace KB
open PySem PySem.Spec PyProof.Rows L2
/-- a walk over the numbered items of a list or a tuple that stands -/
structure LikeEn (J : It) (S : Hp → Prop) (xs : List V) : Prop where
  mono : ∀ H H', Same H H' → S H → S H'
  go : ∀ i H, S H → i < xs.length → J.go i H
  yld : ∀ i H v H', S H → J.yld i H v H' → ∃ T x, v = .ref T ∧ H T = none ∧ H' = upd H T (.tup [.int (i : Nat), x]) ∧ xs[i]? = some x
  stop : ∀ H, S H → J.stop xs.length H
theorem likeEnL (K : PySem.W.Frag) (a : Addr) (xs : List V) : LikeEn (Ite K a) (fun H => SqL K H a xs) xs :=
  ⟨fun _ _ s q => s.seq q, fun i _ q h => ⟨xs, xs[i], q, by simp [h]⟩, fun _ _ _ _ q y => by
    obtain ⟨T, x, e, h1, h2, h3⟩ := y
    exact ⟨T, x, e, h1, h2, h3 xs q⟩, fun _ q => ⟨xs, q, Nat.le_refl _⟩⟩
theorem likeEnT (K : PySem.W.Frag) (a : Addr) (xs : List V) : LikeEn (Itet K a) (fun H => SqT K H a xs) xs :=
  ⟨fun _ _ s q => sameT s q, fun i _ q h => ⟨xs, xs[i], q, by simp [h]⟩, fun _ _ _ _ q y => by
    obtain ⟨T, x, e, h1, h2, h3⟩ := y
    exact ⟨T, x, e, h1, h2, h3 xs q⟩, fun _ q => ⟨xs, q, rfl⟩⟩
def iEnumJ (K : PySem.W.Frag) (ta : TA) : TI := fun σ H R => ta σ H fun vs H1 => ∃ a xs, vs = [.ref a] ∧ (SqL K H1 a xs ∨ SqT K H1 a xs) ∧ ∀ J S, LikeEn J S xs → S H1 → R J H1
theorem pi_enumJ {X : Cx} {e : Expr} {ta : TA} {p pos tpos : Pos} {elts : List Expr} {kk : Nat} (hg : Gl X "enumerate") (hm : X.mg "enumerate" = none) (ha : PA X [e] ta) (hs : starEach [e] X.env = [(false, eval e X.env)] := by rfl) :
    PI X (.Tuple elts kk tpos) (.Call (.Name "enumerate" p) [e] [] pos) (iEnumJ X.K ta) := by
  refine ⟨fun pins s σ H R I h => ?_⟩
  refine Call_ (ld_blt I hg hm boot_enumerate (PyProof.Rows.callWith_type1 (thn (ha.run pos pins s σ H _ I h) fun us s1 ⟨vs, H1, I1, r1, q1⟩ => ?_) hs rfl))
  obtain ⟨a, xs, ex, hs', q⟩ := q1
  subst ex
  have fr : ∀ b, b ∈ [s1.heap.objs.size + 1, s1.heap.objs.size] → FpOk X pins H1 b := fun b hb => by
    have hle : s1.heap.objs.size ≤ b := by
      rcases (by simpa using hb : b = s1.heap.objs.size + 1 ∨ b = s1.heap.objs.size) with z | z
      · rw [z]; exact Nat.le_add_right _ _
      · rw [z]; exact Nat.le_refl _
    exact I1.fpOk hle (I1.hok.fresh hle)
  cases r1 with
  | cons r rr =>
    cases rr
    cases r
    rcases hs' with hq | hq
    · have q' := q _ _ (likeEnL X.K a xs) hq
      obtain ⟨its, rv, p', hz⟩ := I1.list hq
      refine call_enumerate_list p'.isList fun h' he hit hsz hk => wpAny_pyIter_enum he ?_
      have I2 : Inv X pins σ H1 { s1 with heap := h' } := I1.kept (t' := s1.toks) hk
      exact ⟨s1.heap.objs.size + 1, [s1.heap.objs.size + 1, s1.heap.objs.size], _, _, H1, rfl, I2, turn_enum a (s1.heap.objs.size + 1) s1.heap.objs.size, ⟨⟨.none, he⟩, hit, Nat.succ_ne_self _⟩, fr, q'⟩
    · have q' := q _ _ (likeEnT X.K a xs) hq
      obtain ⟨its, rv, p', hz⟩ := I1.tuple hq
      have al : a < s1.heap.objs.size := by obtain ⟨o, g, _⟩ := id p'; exact Heap.lt_size g
      refine call_enumT p' fun h' he hit hk => wpAny_pyIter_enum he ?_
      have I2 : Inv X pins σ H1 { s1 with heap := h' } := I1.kept (t' := s1.toks) hk
      exact ⟨s1.heap.objs.size + 1, [s1.heap.objs.size + 1, s1.heap.objs.size], _, _, H1, rfl, I2, turn_enumT a (s1.heap.objs.size + 1) s1.heap.objs.size, ⟨⟨.none, he⟩, hit, Nat.succ_ne_self _, al, Nat.lt_succ_of_lt al⟩, fr, q'⟩
theorem for_enumJ {J : It} {S : Hp → Prop} {xs : List V} (L : LikeEn J S xs) {g : TG} {tb : TS} {D : Ends} {σ : L2.St} {H : Hp} (Pv : Nat → L2.St → Hp → Prop) (h0 : Pv 0 σ H) (hl : ∀ i σ H, i ≤ xs.length → Pv i σ H → S H)
    (hs : ∀ i x σ H, xs[i]? = some x → Pv i σ H → ∀ T, H T = none → g (.ref T) σ (upd H T (.tup [.int (i : Nat), x])) fun σ2 H2 => tb { D with nx := Pv (i + 1), ct := Pv (i + 1), bk := D.nx } σ2 H2) (hd : ∀ σ H, Pv xs.length σ H → D.nx σ H) :
    ∃ W : Nat → Nat → L2.St → Hp → Prop, (∃ m, W 0 m σ H) ∧ ∀ i m σ H, W i m σ H →
      (J.stop i H ∧ D.nx σ H) ∨ (J.go i H ∧ ∃ N : L2.St → Hp → Prop, (∀ σ' H', N σ' H' → ∃ m', m' < m ∧ W (i + 1) m' σ' H') ∧ ∀ v H', J.yld i H v H' → g v σ H' fun σ2 H2 => tb { D with nx := N, ct := N, bk := D.nx } σ2 H2) := by
  refine ⟨fun i m σ H => m = xs.length - i ∧ i ≤ xs.length ∧ Pv i σ H, ⟨xs.length, by simp, Nat.zero_le _, h0⟩, ?_⟩
  rintro i m σ H ⟨rfl, hi, p⟩
  have q := hl i σ H hi p
  by_cases hlt : i < xs.length
  · refine .inr ⟨L.go i H q hlt, Pv (i + 1), fun σ' H' p' => ⟨xs.length - (i + 1), by omega, rfl, hlt, p'⟩, fun v H' y => ?_⟩
    obtain ⟨T, x, rfl, hT, rfl, hx⟩ := L.yld i H v H' q y
    exact hs i x σ H hx p T hT
  · have e : i = xs.length := by omega
    subst e
    exact .inl ⟨L.stop H q, hd σ H p⟩
theorem lc_enumJ {J : It} {S : Hp → Prop} {xs : List V} (L : LikeEn J S xs) {g : TG} {tt : TT} {te : TE} {vs : List Nat} {σ : L2.St} {H1 : Hp} {D : Addr} {Qd : Hp → Prop} (Pv : Nat → Hp → Prop) (h0 : Pv 0 (upd H1 D (.lst []))) (hl : ∀ i H, i ≤ xs.length → Pv i H → S H)
    (hs : ∀ i x H, xs[i]? = some x → Pv i H → ∀ T, H T = none → g (.ref T) (wipe σ vs) (upd H T (.tup [.int (i : Nat), x])) fun σ2 H2 => wipe σ2 vs = wipe σ vs ∧ tt σ2 H2 fun b H3 =>
      if b = true then te σ2 H3 fun y H4 => ∃ acc, H4 D = some (.lst acc) ∧ acc.length < sizeLine ∧ Pv (i + 1) (upd H4 D (.lst (acc ++ [y]))) else Pv (i + 1) H3) (hd : ∀ H, Pv xs.length H → Qd H) :
    ∃ W : Nat → Nat → Hp → Prop, (∃ m, W 0 m (upd H1 D (.lst []))) ∧ ∀ i m H, W i m H →
      (J.stop i H ∧ Qd H) ∨ (J.go i H ∧ ∃ Nx : Hp → Prop, (∀ H', Nx H' → ∃ m', m' < m ∧ W (i + 1) m' H') ∧ ∀ x H', J.yld i H x H' → g x (wipe σ vs) H' fun σ2 H2 => wipe σ2 vs = wipe σ vs ∧ tt σ2 H2 fun b H3 =>
        if b = true then te σ2 H3 fun y H4 => ∃ acc, H4 D = some (.lst acc) ∧ acc.length < sizeLine ∧ Nx (upd H4 D (.lst (acc ++ [y]))) else Nx H3) := by
  refine ⟨fun i m H => m = xs.length - i ∧ i ≤ xs.length ∧ Pv i H, ⟨xs.length, by simp, Nat.zero_le _, h0⟩, ?_⟩
  rintro i m H ⟨rfl, hi, p⟩
  have q := hl i H hi p
  by_cases hlt : i < xs.length
  · refine .inr ⟨L.go i H q hlt, Pv (i + 1), fun H' p' => ⟨xs.length - (i + 1), by omega, rfl, hlt, p'⟩, fun v H' y => ?_⟩
    obtain ⟨T, x, rfl, hT, rfl, hx⟩ := L.yld i H v H' q y
    exact hs i x H hx p T hT
  · have e : i = xs.length := by omega
    subst e
    exact .inl ⟨L.stop H q, hd H p⟩

/-! ### pairs in order -/
def kOf (H : Hp) : V → Int × Int
  | .ref t => match H t with
    | some (.tup [.int a, .int b]) => (a, b)
    | _ => (0, 0)
  | _ => (0, 0)
theorem kOf_at {H : Hp} {t : Addr} {a b : Int} (h : H t = some (.tup [.int a, .int b])) : kOf H (.ref t) = (a, b) := by
  show (match H t with | some (.tup [.int a, .int b]) => (a, b) | _ => (0, 0)) = _
  rw [h]
def prs (ls : List Nat) : List (Int × Int) := (List.range ls.length).map fun j => ((ls.getD j 0 : Nat), (j : Int))
theorem prs_len (ls : List Nat) : (prs ls).length = ls.length := by simp [prs]
theorem prs_get {ls : List Nat} {j l : Nat} (h : ls[j]? = some l) : (prs ls)[j]? = some ((l : Int), (j : Int)) := by
  have hj := (List.getElem?_eq_some_iff.mp h).1
  unfold prs
  rw [List.getElem?_map, List.getElem?_range hj]
  show some (((ls.getD j 0 : Nat) : Int), (j : Int)) = _
  rw [List.getD_eq_getElem?_getD, h]
  rfl
def IsOrd (ls : List Nat) (ks : List (Int × Int)) : Prop := ks.Perm (prs ls) ∧ ks.Pairwise (fun p q => SrtO.lexB q p = false)
theorem IsOrd.uniq {ls : List Nat} {ks ks' : List (Int × Int)} (h : IsOrd ls ks) (h' : IsOrd ls ks') : ks = ks' := pairs_one _ _ (h.1.trans h'.1.symm) h.2 h'.2
theorem IsOrd.mem {ls : List Nat} {ks : List (Int × Int)} (h : IsOrd ls ks) {p : Int × Int} (hp : p ∈ ks) : ∃ l k : Nat, p = ((l : Int), (k : Int)) ∧ ls[k]? = some l := by
  have := h.1.mem_iff.mp hp
  unfold prs at this
  obtain ⟨j, hj, rfl⟩ := List.mem_map.mp this
  have hj' := List.mem_range.mp hj
  refine ⟨_, j, rfl, ?_⟩
  rw [List.getD_eq_getElem?_getD, List.getElem?_eq_getElem hj']
  rfl
theorem IsOrd.len {ls : List Nat} {ks : List (Int × Int)} (h : IsOrd ls ks) : ks.length = ls.length := by rw [h.1.length_eq, prs_len]
theorem prs_fst (ls : List Nat) : (prs ls).map (fun p => p.1.toNat) = ls := by
  unfold prs
  rw [List.map_map]
  refine List.ext_getElem? fun j => ?_
  rw [List.getElem?_map]
  by_cases h : j < ls.length
  · rw [List.getElem?_range h, List.getElem?_eq_getElem h]
    show some ((((ls.getD j 0 : Nat) : Int)).toNat) = _
    rw [Int.toNat_natCast, List.getD_eq_getElem?_getD, List.getElem?_eq_getElem h]
    rfl
  · rw [List.getElem?_eq_none (by simpa using h), List.getElem?_eq_none (by omega)]
    rfl
theorem IsOrd.kr {ls : List Nat} {ks : List (Int × Int)} (h : IsOrd ls ks) : kr (ks.map fun p => p.1.toNat) = kr ls := by
  have := kr_perm (h.1.map fun p => p.1.toNat)
  rw [prs_fst] at this
  exact this
theorem IsOrd.fst {ls : List Nat} {ks : List (Int × Int)} (h : IsOrd ls ks) : (ks.map fun p => p.1.toNat).Pairwise (· ≤ ·) := by
  rw [List.pairwise_map]
  refine h.2.imp fun {p q} hpq => ?_
  have := SrtO.lexB_no.mp hpq
  omega
theorem ord_of {H : Hp} {xs ys : List V} {ls : List Nat} (hx : xs.map (kOf H) = prs ls) (h1 : SrtO.Srtd (ltP (kOf H)) ys) (h2 : ys.Perm xs) : IsOrd ls (ys.map (kOf H)) := by
  refine ⟨by rw [← hx]; exact h2.map _, ?_⟩
  rw [List.pairwise_map]
  exact h1

/-! ### the words of a code -/
def fillW : List (Int × Int) → Nat → List Str → List Str
  | [], _, ws => ws
  | p :: r, used, ws => fillW r (used + 2 ^ (40 - p.1.toNat)) (ws.set p.2.toNat (wordS p.1.toNat (used / 2 ^ (40 - p.1.toNat))))
def codeS (ks : List (Int × Int)) (n : Nat) : List Str := fillW ks 0 (List.replicate n "")
structure Cd (ks : List (Int × Int)) (n i used : Nat) (ws : List Str) : Prop where
  len : ws.length = n
  sum : used = kr ((ks.map fun p => p.1.toNat).take i)
  fil : fillW (ks.drop i) used ws = codeS ks n
theorem Cd.ini (ks : List (Int × Int)) (n : Nat) : Cd ks n 0 0 (List.replicate n "") := ⟨List.length_replicate, by simp [kr], rfl⟩
theorem Cd.nxt {ks : List (Int × Int)} {n i used : Nat} {ws : List Str} (C : Cd ks n i used ws) {l k : Nat} (h : ks[i]? = some ((l : Int), (k : Int))) : Cd ks n (i + 1) (used + 2 ^ (40 - l)) (ws.set k (wordS l (used / 2 ^ (40 - l)))) := by
  obtain ⟨hi, he⟩ := List.getElem?_eq_some_iff.mp h
  refine ⟨by rw [List.length_set]; exact C.len, ?_, ?_⟩
  · rw [kr_take (l := l) (by rw [List.getElem?_map, h]; rfl), C.sum]
  · have := C.fil
    rw [List.drop_eq_getElem_cons hi, he] at this
    exact this
theorem Cd.fin {ks : List (Int × Int)} {n used : Nat} {ws : List Str} (C : Cd ks n ks.length used ws) : ws = codeS ks n := by
  have := C.fil
  rw [List.drop_length] at this
  exact this
theorem Cd.room {ks : List (Int × Int)} {n i used : Nat} {ws : List Str} (C : Cd ks n i used ws) {l k : Nat} (h : ks[i]? = some ((l : Int), (k : Int))) (hk : kr (ks.map fun p => p.1.toNat) ≤ 2 ^ 40) : used + 2 ^ (40 - l) ≤ 2 ^ 40 := by
  have e := kr_take (ls := ks.map fun p => p.1.toNat) (i := i) (l := l) (by rw [List.getElem?_map, h]; rfl)
  have s := C.sum
  have : kr ((ks.map fun p => p.1.toNat).take (i + 1)) ≤ kr (ks.map fun p => p.1.toNat) := by
    have e2 := List.take_append_drop (i + 1) (ks.map fun p => p.1.toNat)
    have := kr_app ((ks.map fun p => p.1.toNat).take (i + 1)) ((ks.map fun p => p.1.toNat).drop (i + 1))
    rw [e2] at this
    omega
  omega
theorem val_step {used value before l : Nat} (e : used = value * 2 ^ (40 - before)) (hb : before ≤ l) (h40 : l ≤ 40) (hr : used + 2 ^ (40 - l) ≤ 2 ^ 40) :
    value * 2 ^ (l - before) = used / 2 ^ (40 - l) ∧ value * 2 ^ (l - before) < 2 ^ l ∧ used + 2 ^ (40 - l) = (value * 2 ^ (l - before) + 1) * 2 ^ (40 - l) := by
  have p : 0 < 2 ^ (40 - l) := Nat.pow_pos (by decide)
  have e2 : used = value * 2 ^ (l - before) * 2 ^ (40 - l) := by
    rw [e, Nat.mul_assoc, ← Nat.pow_add]
    congr 2
    omega
  have e3 : (2 : Nat) ^ 40 = 2 ^ l * 2 ^ (40 - l) := by
    rw [← Nat.pow_add]
    congr 1
    omega
  refine ⟨?_, ?_, ?_⟩
  · rw [e2, Nat.mul_div_cancel _ p]
  · rw [e3] at hr
    refine Nat.lt_of_mul_lt_mul_right (a := 2 ^ (40 - l)) ?_
    rw [← e2]
    omega
  · rw [Nat.add_mul, Nat.one_mul, ← e2]
end KB
namespace KB
open PySem PySem.Spec PyProof.Rows L2
theorem pairs_made {H : Hp} {ts : List V} {ls : List Nat} (hl : ts.length = ls.length) (h : ∀ (j : Nat) (y : V), ts[j]? = some y → ∃ (t : Addr) (l : Nat), y = .ref t ∧ ls[j]? = some l ∧ H t = some (.tup [.int (l : Int), .int (j : Int)])) :
    ts.map (kOf H) = prs ls ∧ ∀ x ∈ ts, ∃ t, x = .ref t ∧ H t = some (.tup [.int (kOf H x).1, .int (kOf H x).2]) := by
  constructor
  · refine List.ext_getElem? fun j => ?_
    rw [List.getElem?_map]
    by_cases hj : j < ts.length
    · have e := List.getElem?_eq_getElem hj
      obtain ⟨t, l, ey, hlj, ht⟩ := h j _ e
      rw [e, prs_get hlj, ey]
      exact congrArg some (kOf_at ht)
    · rw [List.getElem?_eq_none (by omega), List.getElem?_eq_none (by rw [prs_len]; omega)]
      rfl
  · intro x hx
    obtain ⟨j, hj, e⟩ := List.getElem_of_mem hx
    obtain ⟨t, l, ey, _, ht⟩ := h j x (by rw [List.getElem?_eq_getElem hj, e])
    exact ⟨t, ey, by rw [ey, kOf_at ht]; exact ht⟩
/-- a heap without one cell -/
def rem (H : Hp) (a : Addr) : Hp := fun b => if b = a then none else H b
theorem rem_self {H : Hp} {a : Addr} : rem H a a = none := by unfold rem; simp
theorem rem_at {H : Hp} {a b : Addr} {o : HO} (h : H b = some o) (ne : b ≠ a) : rem H a b = some o := by unfold rem; rw [if_neg ne]; exact h
theorem rem_same {H : Hp} {a : Addr} : Same (rem H a) H := fun b o e => by
  unfold rem at e
  split at e
  · cases e
  · exact e
theorem same_rem {B H : Hp} {a : Addr} (s : Same B H) (h : B a = none) : Same B (rem H a) := fun b o e => rem_at (s _ _ e) (ne_of_none e h)
theorem rep_flat (n : Nat) (v : V) : (List.replicate n [v]).flatten = List.replicate n v := by
  rw [show ([v] : List V) = List.replicate 1 v from rfl, List.flatten_replicate_replicate, Nat.mul_one]
end KB
namespace KB
open PySem PySem.Spec PyProof.Rows L2
theorem bitsL_take : ∀ (l v m : Nat), m ≤ l → (bitsL l v).take m = bitsL m (v / 2 ^ (l - m))
  | 0, v, m, h => by
    have : m = 0 := by omega
    subst this
    rfl
  | l + 1, v, m, h => by
    have hl := bitsL_len l (v / 2)
    by_cases e : m = l + 1
    · subst e
      rw [Nat.sub_self, Nat.pow_zero, Nat.div_one, List.take_of_length_le (by rw [bitsL_len]; omega)]
    · show (bitsL l (v / 2) ++ [48 + v % 2]).take m = _
      rw [List.take_append_of_le_length (by omega), bitsL_take l (v / 2) m (by omega), Nat.div_div_eq_div_mul, ← Nat.pow_succ', show (l - m).succ = l + 1 - m by omega]
theorem bitsL_inj : ∀ (l v w : Nat), v < 2 ^ l → w < 2 ^ l → bitsL l v = bitsL l w → v = w
  | 0, v, w, hv, hw, _ => by
    have a : v = 0 := by simpa using hv
    have b : w = 0 := by simpa using hw
    rw [a, b]
  | l + 1, v, w, hv, hw, h => by
    have h1 : bitsL l (v / 2) ++ [48 + v % 2] = bitsL l (w / 2) ++ [48 + w % 2] := h
    have h2 := List.append_inj h1 (by rw [bitsL_len, bitsL_len])
    have p : 2 ^ (l + 1) = 2 * 2 ^ l := Nat.pow_succ'
    have e1 := bitsL_inj l (v / 2) (w / 2) (by omega) (by omega) h2.1
    have e2 : 48 + v % 2 = 48 + w % 2 := by simpa using h2.2
    omega
theorem starts_word {l v m u : Nat} (hm : m ≤ l) (hv : v < 2 ^ l) (hu : u < 2 ^ m) : Txt.startswith (wordS l v) (wordS m u) = decide (v / 2 ^ (l - m) = u) := by
  have e : Txt.startswith (wordS l v) (wordS m u) = ((bitsL l v).take m == bitsL m u) := by
    unfold Txt.startswith
    rw [wordS_len, wordS_len, PySem.StrLaws.subAt_eq, wordS_len, List.drop_zero]
    rw [show decide (0 + m ≤ l) = true from decide_eq_true (by omega), Bool.true_and]
    rfl
  rw [e, bitsL_take l v m hm]
  by_cases h : v / 2 ^ (l - m) = u
  · rw [h]
    simp
  · rw [decide_eq_false h]
    have hlt : v / 2 ^ (l - m) < 2 ^ m := by
      rw [Nat.div_lt_iff_lt_mul (Nat.pow_pos (by decide)), ← Nat.pow_add, show m + (l - m) = l by omega]
      exact hv
    refine beq_eq_false_iff_ne.mpr fun z => h (bitsL_inj m _ _ hlt hu z)
/-- the words ahead -/
def tkS (ks : List (Int × Int)) (j : Nat) : Str := wordS ((ks.map fun p => p.1.toNat).getD j 0) (kr ((ks.map fun p => p.1.toNat).take j) / 2 ^ (40 - (ks.map fun p => p.1.toNat).getD j 0))
def ua (fs : List Nat) (j : Nat) : Nat := kr (fs.take j)
theorem ua_succ {fs : List Nat} {j l : Nat} (h : fs[j]? = some l) : ua fs (j + 1) = ua fs j + 2 ^ (40 - l) := kr_take h
theorem ua_dvd {fs : List Nat} (hs : fs.Pairwise (· ≤ ·)) {l i : Nat} (h : fs[i]? = some l) : ∀ j, j ≤ i → 2 ^ (40 - l) ∣ ua fs j
  | 0, _ => by simp [ua, kr]
  | j + 1, hj => by
    obtain ⟨hi, ei⟩ := List.getElem?_eq_some_iff.mp h
    have e := List.getElem?_eq_getElem (show j < fs.length by omega)
    rw [ua_succ e]
    refine Nat.dvd_add (ua_dvd hs h j (by omega)) (Nat.pow_dvd_pow 2 ?_)
    have : fs[j] ≤ l := by
      rw [← ei]
      exact List.pairwise_iff_getElem.mp hs j i (by omega) hi (by omega)
    omega
theorem ua_mono {fs : List Nat} : ∀ {i j : Nat}, i ≤ j → j ≤ fs.length → ua fs i ≤ ua fs j
  | i, 0, h, _ => by
    have : i = 0 := by omega
    subst this
    exact Nat.le_refl _
  | i, j + 1, h, hl => by
    by_cases e : i = j + 1
    · subst e; exact Nat.le_refl _
    · have := ua_mono (fs := fs) (i := i) (j := j) (by omega) (by omega)
      rw [ua_succ (List.getElem?_eq_getElem (show j < fs.length by omega))]
      exact Nat.le_trans this (Nat.le_add_right _ _)
/-- a value in l bits is begun by an earlier word exactly if it lies below what is used -/
theorem begun_iff {fs : List Nat} (hs : fs.Pairwise (· ≤ ·)) (h40 : ∀ n ∈ fs, n ≤ 40) (hk : kr fs ≤ 2 ^ 40) {i l v : Nat} (h : fs[i]? = some l) (hv : v < 2 ^ l) :
    ((List.range i).map fun j => Txt.startswith (wordS l v) (wordS (fs.getD j 0) (ua fs j / 2 ^ (40 - fs.getD j 0)))).any id = decide (v * 2 ^ (40 - l) < ua fs i) := by
  obtain ⟨hi, ei⟩ := List.getElem?_eq_some_iff.mp h
  have hl40 := h40 l (List.mem_of_getElem? h)
  have one : ∀ j, j < i → (Txt.startswith (wordS l v) (wordS (fs.getD j 0) (ua fs j / 2 ^ (40 - fs.getD j 0))) = decide (ua fs j ≤ v * 2 ^ (40 - l) ∧ v * 2 ^ (40 - l) < ua fs (j + 1))) := fun j hj => by
    have hjl : j < fs.length := by omega
    have e := List.getElem?_eq_getElem hjl
    obtain ⟨m, em⟩ : ∃ m, fs[j] = m := ⟨_, rfl⟩
    rw [em] at e
    have gd : fs.getD j 0 = m := by rw [List.getD_eq_getElem?_getD, e]; rfl
    rw [gd]
    have hml : m ≤ l := by
      rw [← em, ← ei]
      exact List.pairwise_iff_getElem.mp hs j i hjl hi hj
    obtain ⟨u, hu⟩ := ua_dvd hs e j (Nat.le_refl _)
    have p : 0 < 2 ^ (40 - m) := Nat.pow_pos (by decide)
    have hsu : ua fs (j + 1) = 2 ^ (40 - m) * (u + 1) := by rw [ua_succ e, hu, Nat.mul_add, Nat.mul_one]
    have hle : ua fs (j + 1) ≤ 2 ^ 40 := by
      have h1 := ua_mono (fs := fs) (i := j + 1) (j := fs.length) (by omega) (Nat.le_refl _)
      have : ua fs fs.length = kr fs := by unfold ua; rw [List.take_length]
      omega
    have e40 : (2 : Nat) ^ 40 = 2 ^ (40 - m) * 2 ^ m := by
      rw [← Nat.pow_add]
      congr 1
      omega
    have hu2 : u < 2 ^ m := by
      rw [hsu, e40] at hle
      have := Nat.le_of_mul_le_mul_left hle p
      omega
    have ep : 2 ^ (40 - m) = 2 ^ (40 - l) * 2 ^ (l - m) := by
      rw [← Nat.pow_add]
      congr 1
      omega
    have pl : 0 < 2 ^ (40 - l) := Nat.pow_pos (by decide)
    have plm : 0 < 2 ^ (l - m) := Nat.pow_pos (by decide)
    rw [hu, Nat.mul_div_cancel_left _ p, starts_word hml hv hu2, hsu]
    refine decide_eq_decide.mpr ?_
    rw [ep, Nat.mul_assoc, Nat.mul_assoc, Nat.mul_comm v]
    constructor
    · intro z
      have := (Nat.div_eq_iff plm).mp z
      refine ⟨Nat.mul_le_mul_left _ ?_, Nat.mul_lt_mul_of_pos_left ?_ pl⟩
      · rw [Nat.mul_comm]; omega
      · rw [Nat.mul_comm, Nat.add_mul]; omega
    · rintro ⟨z1, z2⟩
      have z1' := Nat.le_of_mul_le_mul_left z1 pl
      have z2' := Nat.lt_of_mul_lt_mul_left z2
      refine (Nat.div_eq_iff plm).mpr ?_
      rw [Nat.mul_comm] at z1'
      rw [Nat.mul_comm, Nat.add_mul] at z2'
      omega
  rw [List.any_map]
  by_cases hlt : v * 2 ^ (40 - l) < ua fs i
  · rw [decide_eq_true hlt]
    have ex : ∀ n, n ≤ i → v * 2 ^ (40 - l) < ua fs n → ∃ j, j < n ∧ ua fs j ≤ v * 2 ^ (40 - l) ∧ v * 2 ^ (40 - l) < ua fs (j + 1) := by
      intro n
      induction n with
      | zero => intro _ z; simp [ua, kr] at z
      | succ n ih =>
        intro hn z
        by_cases y : v * 2 ^ (40 - l) < ua fs n
        · obtain ⟨j, h1, h2⟩ := ih (by omega) y
          exact ⟨j, by omega, h2⟩
        · exact ⟨n, Nat.lt_succ_self _, by omega, z⟩
    obtain ⟨j, hj, h2⟩ := ex i (Nat.le_refl _) hlt
    refine List.any_eq_true.mpr ⟨j, List.mem_range.mpr hj, ?_⟩
    show Txt.startswith _ _ = true
    rw [one j hj]
    exact decide_eq_true h2
  · rw [decide_eq_false hlt]
    refine List.any_eq_false.mpr fun j hj => ?_
    have hj' := List.mem_range.mp hj
    show ¬ Txt.startswith _ _ = true
    rw [one j hj']
    intro z
    have := of_decide_eq_true z
    have := ua_mono (fs := fs) (i := j + 1) (j := i) (by omega) (by omega)
    omega
end KB
namespace KB
open PySem PySem.Spec PyProof.Rows L2
theorem fillW_len : ∀ (ks : List (Int × Int)) (u : Nat) (ws : List Str), (fillW ks u ws).length = ws.length
  | [], _, _ => rfl
  | p :: r, u, ws => by
    show (fillW r _ _).length = _
    rw [fillW_len r, List.length_set]
theorem codeS_len (ks : List (Int × Int)) (n : Nat) : (codeS ks n).length = n := by
  unfold codeS
  rw [fillW_len, List.length_replicate]
end KB

namespace K04
open PySem PySem.Spec PyProof.Rows L2 KB
local macro_rules | `(tactic| walk_at "hp") => `(tactic| (repeat' (first | exact upd_same | assumption | (refine same_upd (by assumption) _ _ ?_) | (rw [upd_ne (by assumption)]) | (rw [upd_ne (Ne.symm (by assumption))]))))

def topS (i : Nat) : Stmt := PySem.Challenge.pw_keptbudgets_k04_code_of_lengths.main.body.getD i (.Pass ⟨0, 0, 0, 0⟩)
abbrev s_TooFull___init__ : Stmt := inClass (topS 2) 0
theorem xb_TooFull : XBody s_TooFull___init__ ["lengths"] := ⟨⟨_, _, _, _, _, _, _, _, _, rfl, rfl, .inl ⟨_, _, _, _, _, rfl, rfl⟩⟩, ⟨_, rfl, rfl⟩, fun _ _ _ _ _ _ _ _ us hl => match us, hl with | [_], _ => rfl, ⟨rfl, rfl, rfl, by decide +kernel, rfl, by decide +kernel, rfl, rfl⟩, by decide +kernel, by decide +kernel⟩
abbrev s_is_integer : Stmt := topS 4
theorem sc_is_integer : FnScope ["value"] ["value"] (defScope s_is_integer) := ⟨rfl, rfl, rfl, by decide +kernel, rfl, by decide +kernel, by decide +kernel⟩
abbrev s_is_number : Stmt := topS 5
theorem sc_is_number : FnScope ["value"] ["value"] (defScope s_is_number) := ⟨rfl, rfl, rfl, by decide +kernel, rfl, by decide +kernel, by decide +kernel⟩
abbrev s_is_sequence : Stmt := topS 6
theorem sc_is_sequence : FnScope ["value"] ["value"] (defScope s_is_sequence) := ⟨rfl, rfl, rfl, by decide +kernel, rfl, by decide +kernel, by decide +kernel⟩
abbrev s_are_numbers : Stmt := topS 7
theorem sc_are_numbers : FnScope ["value", "part"] ["value"] (defScope s_are_numbers) := ⟨rfl, rfl, rfl, by decide +kernel, rfl, by decide +kernel, by decide +kernel⟩
abbrev s_code_of : Stmt := topS 9
theorem sc_code_of : FnScope ["lengths", "words", "value", "before", "length", "place"] ["lengths"] (defScope s_code_of) := ⟨rfl, rfl, rfl, by decide +kernel, rfl, by decide +kernel, by decide +kernel⟩
abbrev s_word_of : Stmt := topS 10
theorem sc_word_of : FnScope ["value", "length", "marked"] ["value", "length"] (defScope s_word_of) := ⟨rfl, rfl, rfl, by decide +kernel, rfl, by decide +kernel, by decide +kernel⟩
abbrev s_is_room_for : Stmt := topS 11
theorem sc_is_room_for : FnScope ["ascending", "free", "depth", "length"] ["ascending"] (defScope s_is_room_for) := ⟨rfl, rfl, rfl, by decide +kernel, rfl, by decide +kernel, by decide +kernel⟩
abbrev s_law_tape : Stmt := topS 13
theorem sc_law_tape : FnScope ["script", "great", "seed", "cell"] ["script"] (defScope s_law_tape) := ⟨rfl, rfl, rfl, by decide +kernel, rfl, by decide +kernel, by decide +kernel⟩
abbrev s_law_draw : Stmt := topS 14
theorem sc_law_draw : FnScope ["tape", "limit", "great", "number", "mixed"] ["tape", "limit"] (defScope s_law_draw) := ⟨rfl, rfl, rfl, by decide +kernel, rfl, by decide +kernel, by decide +kernel⟩
abbrev s_law_below : Stmt := topS 15
theorem sc_law_below : FnScope ["tape", "number", "k"] ["tape"] (defScope s_law_below) := ⟨rfl, rfl, rfl, by decide +kernel, rfl, by decide +kernel, by decide +kernel⟩
abbrev s_law_string : Stmt := topS 16
theorem sc_law_string : FnScope ["tape", "k"] ["tape"] (defScope s_law_string) := ⟨rfl, rfl, rfl, by decide +kernel, rfl, by decide +kernel, by decide +kernel⟩
abbrev s_law_stranger : Stmt := topS 17
theorem sc_law_stranger : FnScope ["tape", "deep", "kind", "parts", "k"] ["tape", "deep"] (defScope s_law_stranger) := ⟨rfl, rfl, rfl, by decide +kernel, rfl, by decide +kernel, by decide +kernel⟩
abbrev s_law_copy : Stmt := topS 18
theorem sc_law_copy : FnScope ["thing", "part"] ["thing"] (defScope s_law_copy) := ⟨rfl, rfl, rfl, by decide +kernel, rfl, by decide +kernel, by decide +kernel⟩
abbrev s_law_same : Stmt := topS 19
theorem sc_law_same : FnScope ["told", "due", "k"] ["told", "due"] (defScope s_law_same) := ⟨rfl, rfl, rfl, by decide +kernel, rfl, by decide +kernel, by decide +kernel⟩
abbrev s_law_are_lengths : Stmt := topS 20
theorem sc_law_are_lengths : FnScope ["value", "part"] ["value"] (defScope s_law_are_lengths) := ⟨rfl, rfl, rfl, by decide +kernel, rfl, by decide +kernel, by decide +kernel⟩
abbrev s_law_word : Stmt := topS 21
theorem sc_law_word : FnScope ["value", "length", "k"] ["value", "length"] (defScope s_law_word) := ⟨rfl, rfl, rfl, by decide +kernel, rfl, by decide +kernel, by decide +kernel⟩
abbrev s_law_code : Stmt := topS 22
theorem sc_law_code : FnScope ["lengths", "order", "k", "words", "used", "pair"] ["lengths"] (defScope s_law_code) := ⟨rfl, rfl, rfl, by decide +kernel, rfl, by decide +kernel, by decide +kernel⟩
abbrev s_law_listed : Stmt := topS 23
theorem sc_law_listed : FnScope ["lengths", "order", "k", "words", "taken", "pair", "value", "word", "one"] ["lengths"] (defScope s_law_listed) := ⟨rfl, rfl, rfl, by decide +kernel, rfl, by decide +kernel, by decide +kernel⟩
abbrev s_law_drawn_lengths : Stmt := topS 24
theorem sc_law_drawn_lengths : FnScope ["tape", "many", "shape", "k", "lengths", "at", "change"] ["tape"] (defScope s_law_drawn_lengths) := ⟨rfl, rfl, rfl, by decide +kernel, rfl, by decide +kernel, by decide +kernel⟩
abbrev s_law_told : Stmt := topS 25
theorem sc_law_told : FnScope ["lengths", "by_name", "e"] ["lengths", "by_name"] (defScope s_law_told) := ⟨rfl, rfl, rfl, by decide +kernel, rfl, by decide +kernel, by decide +kernel⟩
abbrev s_law_right : Stmt := topS 26
theorem sc_law_right : FnScope ["value", "by_name", "due", "told"] ["value", "by_name"] (defScope s_law_right) := ⟨rfl, rfl, rfl, by decide +kernel, rfl, by decide +kernel, by decide +kernel⟩
abbrev s_law_asks : Stmt := topS 27
theorem sc_law_asks : FnScope ["script", "tape", "lengths", "named", "spoilt", "at", "small", "k"] ["script"] (defScope s_law_asks) := ⟨rfl, rfl, rfl, by decide +kernel, rfl, by decide +kernel, by decide +kernel⟩
abbrev s_law : Stmt := topS 28
theorem sc_law : FnScope ["script"] ["script"] (defScope s_law) := ⟨rfl, rfl, rfl, by decide +kernel, rfl, by decide +kernel, by decide +kernel⟩
structure Txt (K : PySem.W.Frag) (mg : Str → Option Value) : Prop where
  b_super : mg "super" = none
  b_isinstance : mg "isinstance" = none
  b_int : mg "int" = none
  b_bool : mg "bool" = none
  b_tuple : mg "tuple" = none
  b_list : mg "list" = none
  b_all : mg "all" = none
  b_sorted : mg "sorted" = none
  b_len : mg "len" = none
  b_enumerate : mg "enumerate" = none
  b_abs : mg "abs" = none
  b_range : mg "range" = none
  b_str : mg "str" = none
  b_sum : mg "sum" = none
  b_any : mg "any" = none
  b_max : mg "max" = none
/-! ### the tape's two defs -/
def spTape (K : PySem.W.Frag) : Sp := fun vs H Q _ => ∃ (a : Addr) (ns : List Int), vs = [.ref a] ∧ SqL K H a (ns.map V.int) ∧ ns.length ≤ 63 ∧ ∀ H' t, Tp H H' t 0 → Q (.ref t) H'
def spDraw : Sp := fun vs H Q _ => ∃ (B : Hp) (t : Addr) (c : Nat) (lim : Int), vs = [.ref t, .int lim] ∧ Tp B H t c ∧ 0 < lim ∧ lim < 1073741824 ∧ c < 1000000000 ∧ ∀ H' n, Tp B H' t (c + 1) → 0 ≤ n → n < lim → Q (.int n) H'
section
variable {P : Program} {w : World} {K : PySem.W.Frag} {mg : Str → Option Value} {base : Heap}
theorem ok_law_tape {f : Addr} {fd : FuncData} (F : Fun K "_law_tape" "_law_tape" s_law_tape f fd) (T : Txt K mg) : FnOk P w K mg base CX0 1 f fd ["script"] (spTape K) := by
  refine F.ok sc_law_tape (fun vs H Q E h => ?_) (fun cdv A outer s H vs Q E hr h => ?_)
  · obtain ⟨a, ns, rfl, _⟩ := h
    rfl
  · obtain ⟨a, ns, rfl, hS, hlen, q⟩ := h
    refine ⟨_, (pss_cons (ps_set (i := 1) sc_law_tape.nd rfl (by first | exact Or.inl rfl | exact Or.inr rfl) (pe_lst pa_nil))
    (pss_cons (ps_set (i := 2) sc_law_tape.nd rfl (by first | exact Or.inl rfl | exact Or.inr rfl) pe_int)
    (pss_cons (ps_for PassesOwn.never rfl (pi_list (pe_slice sl_list (pv 0) po_none (po_some pe_int))) (pg_name (i := 3) sc_law_tape.nd rfl (by first | exact Or.inl rfl | exact Or.inr rfl))
      (pss_cons (ps_set (i := 2) sc_law_tape.nd rfl (by first | exact Or.inl rfl | exact Or.inr rfl) (pe_op op_mod (pe_callTy call_int1 (by rfl) T.b_int (by decide +kernel) (pa_cons (pe_op op_add (pe_op op_mul (pv 2) pe_int) (pe_callTy call_int1 (by rfl) T.b_int (by decide +kernel) (pa_cons (pv 3) pa_nil))) pa_nil)) pe_int))
        (pss_one (ps_if (pt_cmpR op_ge (pe_callB call_abs (by rfl) T.b_abs (by decide +kernel) (pa_cons (pe_callTy call_int1 (by rfl) T.b_int (by decide +kernel) (pa_cons (pv 3) pa_nil)) pa_nil)) (pe_op op_pow pe_int pe_int) (nomark _))
          (pss_one (ps_expr (pe_bm PySem.F.plainAttrs_list PySem.F.slot_list_append PySem.F.type_list_append mt_append (pv 1) (pa_cons (pe_callB call_abs (by rfl) T.b_abs (by decide +kernel) (pa_cons (pe_callTy call_int1 (by rfl) T.b_int (by decide +kernel) (pa_cons (pv 3) pa_nil)) pa_nil)) pa_nil))))
          pss_nil))))
    (pss_cons (ps_expr (pe_bm0 PySem.F.plainAttrs_list PySem.F.slot_list_reverse PySem.F.type_list_reverse mt_reverse (pv 1)))
    (pss_one (ps_ret (pe_lst (pa_cons (pv 1) (pa_cons (pv 2) (pa_cons pe_int pa_nil)))))))))), ?_⟩
    refine ⟨Nat.zero_le _, fun g hg => ?_⟩
    have s1 : Same H (upd H g (.lst [])) := same_upd hg
    refine ⟨_, rfl, 63, rfl, a, _, rfl, s1.seq hS, fun p hp => ?_⟩
    have hpg : g ≠ p := ne_of_none upd_same hp
    have hHp : H p = none := s1.free hp
    obtain ⟨ms, em, lm⟩ : ∃ ms : List Int, cutV (ns.map V.int) none (some 63) = ms.map V.int ∧ ms.length ≤ 63 := by
      refine ⟨(ns.drop (HT.sIx (ns.map V.int).length 0 none)).take (HT.sIx (ns.map V.int).length (ns.map V.int).length (some 63) - HT.sIx (ns.map V.int).length 0 none), ?_, ?_⟩
      · unfold cutV
        rw [List.map_take, List.map_drop]
      · rw [List.length_take, List.length_drop]
        omega
    rw [em]
    refine ⟨p, rfl, ⟨_, SqL.of upd_same⟩, for_list (K := K) (a := p) (xs := ms.map V.int) (fun i σ H' => ∃ (gs : List Int) (sd : Int) (v : Option V), σ = [some (.ref a), some (.ref g), some (.int sd), v] ∧ Same H H' ∧ H' g = some (.lst (gs.map V.int)) ∧ H' p = some (.lst (ms.map V.int)) ∧ gs.length ≤ i ∧ 0 ≤ sd ∧ sd < 2147483647)
      ⟨[], _, none, rfl, ?_, ?_, upd_same, Nat.le_refl _, by decide, by decide⟩ (fun i σ H' _ h => ?_) ?_ ?_⟩
    · exact s1.trans (same_upd hp)
    · rw [upd_ne hpg, upd_same]
      rfl
    · obtain ⟨_, _, _, _, _, _, h, _⟩ := h
      exact SqL.of h
    · rintro i x σ H' hi ⟨gs, sd, v, rfl, sm, eg, ep, hl, h0, h1⟩
      obtain ⟨u, rfl⟩ : ∃ u, x = V.int u := by
        rw [List.getElem?_map] at hi
        cases e : ms[i]? with
        | none => rw [e] at hi; cases hi
        | some u => rw [e] at hi; exact ⟨u, (Option.some.inj hi).symm⟩
      have hi63 : i < 63 := by
        have q := (List.getElem?_eq_some_iff.mp hi).1
        rw [List.length_map] at q
        omega
      refine ⟨_, rfl, _, _, rfl, rfl, .inl ⟨by omega, by omega⟩, _, rfl, .inl ⟨_, rfl, _, _, rfl, rfl, .inl ⟨_, rfl, _, _, rfl, rfl, (by show (0 : Int) < 2147483647; decide), ?_⟩⟩⟩
      have b0 := Int.emod_nonneg (sd * 48271 + u) (b := 2147483647) (by decide)
      have b1 := Int.emod_lt_of_pos (sd * 48271 + u) (b := 2147483647) (by decide)
      refine ⟨_, rfl, .inl ⟨_, rfl, _, rfl, _, _, rfl, rfl, ⟨by decide, by decide, by decide⟩, _, _, rfl, rfl, _, rfl, ite2 (fun _ => ?_) (fun _ => ?_)⟩⟩
      · refine ⟨_, rfl, .inl ⟨rfl, _, SqL.of eg⟩, _, rfl, .inl ⟨_, rfl, _, rfl, g, _, _, rfl, rfl, eg, ?_, ?_⟩⟩
        · rw [List.length_map]
          exact szl (by omega)
        · refine ⟨gs ++ [if u < 0 then -u else u], _, _, rfl, same_out sm hg, ?_, ?_, ?_, b0, b1⟩
          · rw [upd_same, List.map_append]
            rfl
          · rw [upd_ne hpg.symm]
            exact ep
          · rw [List.length_append]
            simp only [List.length_cons, List.length_nil]
            omega
      · exact ⟨gs, _, _, rfl, sm, eg, ep, by omega, b0, b1⟩
    · rintro σ H' ⟨gs, sd, v, rfl, sm, eg, ep, hl, h0, h1⟩
      refine ⟨_, rfl, .inl ⟨rfl, _, SqL.of eg⟩, g, _, rfl, rfl, eg, ?_⟩
      refine ⟨_, rfl, _, rfl, szle (by show 3 ≤ 16777216; decide), fun t ht => ?_⟩
      have ht' : H' t = none := by
        by_cases e : t = g
        · rw [e, upd_same] at ht
          cases ht
        · rw [upd_ne e] at ht
          exact ht
      have htg : t ≠ g := fun e => by rw [e, upd_same] at ht; cases ht
      refine q _ t ⟨same_out (same_out sm hg) (sm.free ht'), sm.free ht', g, gs.reverse, sd, 0, hg, htg, upd_same, ?_, ?_, h0, h1, by decide, by decide⟩
      · rw [upd_ne htg.symm, upd_same, List.map_reverse]
      · rw [List.length_reverse]
        rw [List.length_map] at hl
        omega
theorem ok_law_draw {f : Addr} {fd : FuncData} (F : Fun K "_law_draw" "_law_draw" s_law_draw f fd) (T : Txt K mg) : FnOk P w K mg base CX0 1 f fd ["tape", "limit"] spDraw := by
  refine F.ok sc_law_draw (fun vs H Q E h => ?_) (fun cdv A outer s H vs Q E hr h => ?_)
  · obtain ⟨B, t, c, lim, rfl, _⟩ := h
    rfl
  · obtain ⟨B, t, c, lim, rfl, ⟨sm, bt, g, gs, sd, ct, bg, htg, et, eg, hgl, s0, s1, c0, c1⟩, l0, l1, hc, q⟩ := h
    refine ⟨_, (pss_cons (ps_set (i := 2) sc_law_draw.nd rfl (by first | exact Or.inl rfl | exact Or.inr rfl) (pe_ix ix_list (pv 0) pe_int (fun _ _ => rfl)))
    (pss_cons (ps_if (pt_truth (pv 2) (by intro _; rfl))
      (pss_cons (ps_set (i := 3) sc_law_draw.nd rfl (by first | exact Or.inl rfl | exact Or.inr rfl) (pe_bm0 PySem.F.plainAttrs_list PySem.F.slot_list_pop PySem.F.type_list_pop mt_pop (pv 2)))
        (pss_cons (ps_if (pt_cmpR op_ge (pv 3) (pv 1) (nomark _))
          (pss_one (ps_expr (pe_bm PySem.F.plainAttrs_list PySem.F.slot_list_append PySem.F.type_list_append mt_append (pv 2) (pa_cons (pe_op op_fdivN (pv 3) (pv 1)) pa_nil))))
          pss_nil)
        (pss_one (ps_ret (pe_op op_mod (pe_callTy call_int1 (by rfl) T.b_int (by decide +kernel) (pa_cons (pv 3) pa_nil)) (pv 1))))))
      pss_nil)
    (pss_cons (ps_asg (pe_op op_add (pe_ix ix_list (pv 0) pe_int (fun _ _ => rfl)) pe_int) (pg_sub (pv 0) pe_int set_list))
    (pss_cons (ps_set (i := 4) sc_law_draw.nd rfl (by first | exact Or.inl rfl | exact Or.inr rfl) (pe_op op_mod (pe_callTy call_int1 (by rfl) T.b_int (by decide +kernel) (pa_cons (pe_op op_add (pe_op op_mul (pe_callTy call_int1 (by rfl) T.b_int (by decide +kernel) (pa_cons (pe_op op_add (pe_ix ix_list (pv 0) pe_int (fun _ _ => rfl)) (pe_ix ix_list (pv 0) pe_int (fun _ _ => rfl))) pa_nil)) pe_int) (pe_op op_mul (pe_op op_mul (pe_ix ix_list (pv 0) pe_int (fun _ _ => rfl)) (pe_ix ix_list (pv 0) pe_int (fun _ _ => rfl))) pe_int)) pa_nil)) pe_int))
    (pss_one (ps_ret (pe_op op_mod (pe_op op_fdiv (pe_op op_mod (pe_callTy call_int1 (by rfl) T.b_int (by decide +kernel) (pa_cons (pe_op op_add (pe_op op_mul (pv 4) (pv 4)) (pe_op op_mul (pe_ix ix_list (pv 0) pe_int (fun _ _ => rfl)) pe_int)) pa_nil)) pe_int) pe_int) (pv 1)))))))), ?_⟩
    refine ⟨_, rfl, t, _, _, _, rfl, rfl, SqL.of et, atI_nat (j := 0) rfl, ?_⟩
    refine ⟨_, rfl, _, .inl ⟨_, SqL.of eg, rfl⟩, ?_⟩
    cases hgs : gs.reverse with
    | nil =>
      have e0 : gs = [] := by
        have := congrArg List.reverse hgs
        rwa [List.reverse_reverse] at this
      subst e0
      refine iteF ?_
      refine ⟨_, rfl, t, _, _, _, rfl, rfl, SqL.of et, atI_nat (j := 2) rfl, _, _, rfl, rfl, ?_⟩
      refine ⟨_, rfl, t, _, _, _, rfl, rfl, et, rfl, ?_⟩
      have eg' : ∀ o, upd H t o g = some (.lst (([] : List Int).map V.int)) := fun o => by rw [upd_ne htg.symm]; exact eg
      have et2 : (upd H t (.lst [.ref g, .int sd, .int (ct + 1)])) t = some (.lst [.ref g, .int sd, .int (ct + 1)]) := upd_same
      have at1 : atI [V.ref g, V.int sd, V.int (ct + 1)] 1 = some (.int sd) := atI_nat (j := 1) rfl
      have at2 : atI [V.ref g, V.int sd, V.int (ct + 1)] 2 = some (.int (ct + 1)) := atI_nat (j := 2) rfl
      have hb : ct + 1 ≤ 1000000000 := by omega
      have hsq : 0 ≤ (ct + 1) * (ct + 1) ∧ (ct + 1) * (ct + 1) ≤ 1000000000 * 1000000000 := ⟨Int.mul_nonneg (by omega) (by omega), Int.mul_le_mul hb hb (by omega) (by decide)⟩
      refine ⟨_, rfl, t, _, _, _, rfl, rfl, SqL.of et2, at1, _, rfl, t, _, _, _, rfl, rfl, SqL.of et2, at2, _, _, rfl, rfl, .inl ⟨_, rfl, _, _, rfl, rfl, .inl ⟨by omega, by omega⟩, ?_⟩⟩
      refine ⟨_, rfl, t, _, _, _, rfl, rfl, SqL.of et2, at2, _, rfl, t, _, _, _, rfl, rfl, SqL.of et2, at2, _, _, rfl, rfl, .inl ⟨by omega, by omega⟩, ?_⟩
      refine ⟨_, _, rfl, rfl, .inl ⟨by omega, by omega⟩, _, _, rfl, rfl, .inl ⟨_, rfl, _, _, rfl, rfl, (by show (0 : Int) < 2147483629; decide), ?_⟩⟩
      have b0 := Int.emod_nonneg ((sd + (ct + 1)) * 69621 + (ct + 1) * (ct + 1) * 40692) (b := 2147483629) (by decide)
      have b1 := Int.emod_lt_of_pos ((sd + (ct + 1)) * 69621 + (ct + 1) * (ct + 1) * 40692) (b := 2147483629) (by decide)
      refine ⟨_, rfl, _, rfl, _, _, rfl, rfl, .inl ⟨by omega, by omega⟩, _, rfl, t, _, _, _, rfl, rfl, SqL.of et2, at2, _, _, rfl, rfl, .inl ⟨by omega, by omega⟩, _, _, rfl, rfl, .inl ⟨_, rfl, _, _, rfl, rfl, (by show (0 : Int) < 2147483647; decide), _, _, rfl, rfl, ⟨by decide, by decide⟩, _, rfl, _, _, rfl, rfl, l0, ?_⟩⟩
      refine q _ _ ⟨same_out sm bt, bt, g, [], sd, ct + 1, bg, htg, upd_same, eg' _, Nat.zero_le _, s0, s1, by omega, by omega⟩ (Int.emod_nonneg _ (by omega)) (Int.emod_lt_of_pos _ l0)
    | cons n r =>
      have e0 : gs = r.reverse ++ [n] := by
        have := congrArg List.reverse hgs
        rwa [List.reverse_reverse, List.reverse_cons] at this
      subst e0
      have eT : (!((r.reverse ++ [n]).map V.int).isEmpty) = true := by
        rw [List.map_append]
        cases List.map V.int r.reverse <;> rfl
      rw [eT]
      refine iteT ?_
      have lr : r.length ≤ 62 := by
        rw [List.length_append, List.length_reverse] at hgl
        simp only [List.length_cons, List.length_nil] at hgl
        omega
      have eg2 : H g = some (.lst (r.reverse.map V.int ++ [V.int n])) := by
        rw [eg, List.map_append]
        rfl
      have hpop : (r.reverse.map V.int ++ [V.int n])[(r.reverse.map V.int ++ [V.int n]).length - 1]? = some (V.int n) := by
        rw [List.length_append]
        simp
      refine ⟨_, rfl, .inl ⟨rfl, _, SqL.of eg2⟩, g, _, _, rfl, rfl, eg2, hpop, ?_⟩
      rw [List.dropLast_concat]
      have fin : ∀ H' gs', Same B H' → H' t = some (.lst [.ref g, .int sd, .int ct]) → H' g = some (.lst (List.map V.int gs')) → gs'.length ≤ 63 → Q (.int (n % lim)) H' := fun H' gs' a1 a2 a3 a4 =>
        q _ _ ⟨a1, bt, g, gs', sd, ct, bg, htg, a2, a3, a4, s0, s1, c0, by omega⟩ (Int.emod_nonneg _ (by omega)) (Int.emod_lt_of_pos _ l0)
      refine ⟨_, rfl, _, rfl, _, _, rfl, rfl, _, rfl, ite2 (fun _ => ?_) (fun _ => ?_)⟩
      · refine ⟨_, rfl, .inl ⟨rfl, _, SqL.of upd_same⟩, _, rfl, _, rfl, _, _, rfl, rfl, ⟨by omega, by omega⟩, g, _, _, rfl, rfl, upd_same, ?_, ?_⟩
        · rw [List.length_map, List.length_reverse]
          exact szl (by omega)
        · refine ⟨_, rfl, .inl ⟨_, rfl, _, rfl, _, _, rfl, rfl, l0, ?_⟩⟩
          refine fin _ (r.reverse ++ [n.fdiv lim]) (same_out (same_out sm bg) bg) ?_ ?_ ?_
          · rw [upd_ne htg, upd_ne htg]
            exact et
          · rw [upd_same, List.map_append]
            rfl
          · rw [List.length_append, List.length_reverse]
            simp only [List.length_cons, List.length_nil]
            omega
      · refine ⟨_, rfl, .inl ⟨_, rfl, _, rfl, _, _, rfl, rfl, l0, ?_⟩⟩
        refine fin _ r.reverse (same_out sm bg) ?_ upd_same ?_
        · rw [upd_ne htg]
          exact et
        · rw [List.length_reverse]
          omega
end

/-! ### copies of things, and whether two are the same -/
section
variable {P : Program} {w : World} {K : PySem.W.Frag} {mg : Str → Option Value} {base : Heap}
theorem ok_law_same1 {n : Nat} {f : Addr} {fd : FuncData} (F : Fun K "_law_same" "_law_same" s_law_same f fd) (T : Txt K mg) (c_law_same : Cal P w K mg base n "_law_same" (spSame K n)) : FnOk P w K mg base CX0 (n + 1) f fd ["told", "due"] (spSame K (n + 1)) := by
  refine F.ok sc_law_same (fun vs H Q E h => ?_) (fun cdv A outer s H vs Q E hr h => ?_)
  · obtain ⟨x, y, d, rfl, _⟩ := h
    rfl
  · obtain ⟨x, y, d, rfl, ok, hx, hy, q⟩ := h
    refine ⟨_, (pss_cons (ps_if (pt_cmpR op_isN (pv 1) pe_non (nomark _))
      (pss_one (ps_ret (pe_cmpR op_isN (pv 0) pe_non (nomark _))))
      pss_nil)
    (pss_cons (ps_if (pt_cmpR op_isB (pv 1) pe_bl (nomark _))
      (pss_one (ps_ret (pe_cmpR op_isB (pv 0) pe_bl (nomark _))))
      pss_nil)
    (pss_cons (ps_if (pt_cmpR op_isB (pv 1) pe_bl (nomark _))
      (pss_one (ps_ret (pe_cmpR op_isB (pv 0) pe_bl (nomark _))))
      pss_nil)
    (pss_cons (ps_if (pt_val (pe_callB call_isi (by rfl) T.b_isinstance (by decide +kernel) (pa_cons (pv 1) (pa_cons (pe_bltn (v := .ty "str") (by rfl) T.b_str (by decide +kernel) rfl) pa_nil))))
      (pss_one (ps_ret (pe_and (pe_callB call_isi (by rfl) T.b_isinstance (by decide +kernel) (pa_cons (pv 0) (pa_cons (pe_bltn (v := .ty "str") (by rfl) T.b_str (by decide +kernel) rfl) pa_nil))) (pe_one (pe_cmpR op_eq (pv 0) (pv 1) (nomark _))))))
      pss_nil)
    (pss_cons (ps_if (pt_val (pe_callB call_isi (by rfl) T.b_isinstance (by decide +kernel) (pa_cons (pv 1) (pa_cons (pe_bltn (v := .ty "int") (by rfl) T.b_int (by decide +kernel) rfl) pa_nil))))
      (pss_one (ps_ret (pe_and (pe_callB call_isi (by rfl) T.b_isinstance (by decide +kernel) (pa_cons (pv 0) (pa_cons (pe_bltn (v := .ty "int") (by rfl) T.b_int (by decide +kernel) rfl) pa_nil))) (pe_and (pe_not (pe_callB call_isi (by rfl) T.b_isinstance (by decide +kernel) (pa_cons (pv 0) (pa_cons (pe_bltn (v := .ty "bool") (by rfl) T.b_bool (by decide +kernel) rfl) pa_nil)))) (pe_one (pe_cmpR op_eq (pv 0) (pv 1) (nomark _)))))))
      pss_nil)
    (pss_cons (ps_if (PW.pt (pw_and (pt_val (pe_callB call_isi (by rfl) T.b_isinstance (by decide +kernel) (pa_cons (pv 1) (pa_cons (pe_bltn (v := .ty "tuple") (by rfl) T.b_tuple (by decide +kernel) rfl) pa_nil)))) (pw_and1 (pt_not (pt_val (pe_callB call_isi (by rfl) T.b_isinstance (by decide +kernel) (pa_cons (pv 0) (pa_cons (pe_bltn (v := .ty "tuple") (by rfl) T.b_tuple (by decide +kernel) rfl) pa_nil))))))))
      (pss_one (ps_ret pe_bl))
      pss_nil)
    (pss_cons (ps_if (PW.pt (pw_and (pt_val (pe_callB call_isi (by rfl) T.b_isinstance (by decide +kernel) (pa_cons (pv 1) (pa_cons (pe_bltn (v := .ty "list") (by rfl) T.b_list (by decide +kernel) rfl) pa_nil)))) (pw_and1 (pt_not (pt_val (pe_callB call_isi (by rfl) T.b_isinstance (by decide +kernel) (pa_cons (pv 0) (pa_cons (pe_bltn (v := .ty "list") (by rfl) T.b_list (by decide +kernel) rfl) pa_nil))))))))
      (pss_one (ps_ret pe_bl))
      pss_nil)
    (pss_cons (ps_if (pt_cmpR op_ne (pe_callB call_len_seq (by rfl) T.b_len PySem.boot_len (pa_cons (pv 0) pa_nil)) (pe_callB call_len_seq (by rfl) T.b_len PySem.boot_len (pa_cons (pv 1) pa_nil)) (nomark _))
      (pss_one (ps_ret pe_bl))
      pss_nil)
    (pss_cons (ps_for PassesOwn.never rfl (pi_range1 (by rfl) T.b_range (pa_cons (pe_callB call_len_seq (by rfl) T.b_len PySem.boot_len (pa_cons (pv 1) pa_nil)) pa_nil)) (pg_name (i := 2) sc_law_same.nd rfl (by first | exact Or.inl rfl | exact Or.inr rfl))
      (pss_one (ps_if (pt_not (pt_val (pe_c c_law_same hr (by omega) (by rfl) (pa_cons (pe_ix ix_seq (pv 0) (pv 2) (fun _ _ => rfl)) (pa_cons (pe_ix ix_seq (pv 1) (pv 2) (fun _ _ => rfl)) pa_nil)))))
          (pss_one (ps_ret pe_bl))
          pss_nil)))
    (pss_one (ps_ret pe_bl))))))))))), ?_⟩
    have nn : ∀ v e, Dp K H v e → e ≠ .none → decide (v = .non) = false := fun v e h he => by cases h <;> simp_all
    have nb : ∀ v e b, Dp K H v e → e ≠ .bool b → decide (v = .bl b) = false := fun v e b h he => by cases h <;> simp_all
    -- None
    by_cases h0 : d = .none
    · subst h0
      cases hx
      cases hy
      exact ⟨_, rfl, rfl, _, rfl, iteT ⟨_, rfl, rfl, q⟩⟩
    refine ⟨_, rfl, rfl, _, rfl, ?_⟩
    rw [nn y d hy h0]
    refine iteF ?_
    by_cases h1 : d = .bool true
    · subst h1
      cases hx
      cases hy
      exact ⟨_, rfl, _, rfl, _, rfl, iteT ⟨_, rfl, _, rfl, q⟩⟩
    refine ⟨_, rfl, _, rfl, _, rfl, ?_⟩
    rw [nb y d true hy h1]
    refine iteF ?_
    by_cases h2 : d = .bool false
    · subst h2
      cases hx
      cases hy
      exact ⟨_, rfl, _, rfl, _, rfl, iteT ⟨_, rfl, _, rfl, q⟩⟩
    refine ⟨_, rfl, _, rfl, _, rfl, ?_⟩
    rw [nb y d false hy h2]
    refine iteF ?_
    have tx := ty_dp hx
    have ty := ty_dp hy
    cases d with
    | none => exact absurd rfl h0
    | bool b => cases b <;> simp at h1 h2
    | dict kvs => cases hx
    | str z =>
      cases hx
      cases hy
      refine ⟨_, rfl, _, _, _, _, _, rfl, .ty _, .base (.str z), kit_ty (r := true) (by decide), _, rfl, iteT ?_⟩
      refine ⟨_, rfl, _, _, _, _, _, rfl, .ty _, .base (.str z), kit_ty (r := true) (by decide), _, rfl, iteT ?_⟩
      rw [← show decide (V.str z = V.str z) = true by simp] at q
      exact ⟨_, rfl, _, rfl, rfl, q⟩
    | int z =>
      cases hx
      cases hy
      refine ⟨_, rfl, _, _, _, _, _, rfl, .ty _, .base (.int z), kit_ty (r := false) (by decide), _, rfl, iteF ?_⟩
      refine ⟨_, rfl, _, _, _, _, _, rfl, .ty _, .base (.int z), kit_ty (r := true) (by decide), _, rfl, iteT ?_⟩
      refine ⟨_, rfl, _, _, _, _, _, rfl, .ty _, .base (.int z), kit_ty (r := true) (by decide), _, rfl, iteT ?_⟩
      refine ⟨_, rfl, _, _, _, _, _, rfl, .ty _, .base (.int z), kit_ty (r := false) (by decide), _, rfl, _, rfl, iteT ?_⟩
      rw [← show decide (V.int z = V.int z) = true by simp] at q
      exact ⟨_, rfl, _, rfl, rfl, q⟩
    | list ds =>
      cases hx with
      | lst sx ax =>
      cases hy with
      | lst sy ay =>
      rename_i px xs py ys
      obtain ⟨lz, hall⟩ := okD_seq ok
      have lx := DpAll.len ax
      have ly := DpAll.len ay
      have tx := ty_seq sx
      have ty := ty_seq sy
      refine ⟨_, rfl, _, _, _, _, _, rfl, .ty _, ty, kit_ty (r := false) (by decide), _, rfl, iteF ?_⟩
      refine ⟨_, rfl, _, _, _, _, _, rfl, .ty _, ty, kit_ty (r := false) (by decide), _, rfl, iteF ?_⟩
      refine ⟨_, rfl, _, _, _, _, _, rfl, .ty _, ty, kit_ty (r := false) (by decide), _, rfl, iteF (iteF ?_)⟩
      refine ⟨_, rfl, _, _, _, _, _, rfl, .ty _, ty, kit_ty (r := true) (by decide), _, rfl, iteT ⟨_, rfl, _, _, _, _, _, rfl, .ty _, tx, kit_ty (r := true) (by decide), _, rfl, iteF ?_⟩⟩
      refine ⟨_, rfl, px, xs, rfl, .inl sx, _, rfl, py, ys, rfl, .inl sy, rfl, _, rfl, ?_⟩
      rw [show (!decide (V.int (xs.length : Int) = V.int (ys.length : Int))) = false by rw [lx, ly]; simp]
      refine iteF ?_
      refine ⟨_, rfl, py, ys, rfl, .inl sy, ys.length, rfl, by omega, by omega, for_range (n := ys.length) (fun i σ H' => ∃ v, σ = [some (.ref px), some (.ref py), v] ∧ H' = H) ⟨_, rfl, rfl⟩ ?_ ?_⟩
      · rintro i σ H' hi ⟨v, rfl, rfl⟩
        have hd : ds[i]? = some ds[i] := List.getElem?_eq_getElem (by omega)
        obtain ⟨v1, e1, d1⟩ := DpAll.get ax hd
        obtain ⟨v2, e2, d2⟩ := DpAll.get ay hd
        refine ⟨_, rfl, _, rfl, .inl ⟨px, _, _, _, rfl, rfl, sx, at_of (j := i) (by omega) e1, _, rfl, _, rfl, .inl ⟨py, _, _, _, rfl, rfl, sy, at_of (j := i) (by omega) e2, ?_⟩⟩⟩
        exact ⟨_, _, ds[i], rfl, hall _ (List.mem_of_getElem? hd), d1, d2, _, rfl, iteF ⟨_, rfl, rfl⟩⟩
      · rintro σ H' ⟨v, rfl, rfl⟩
        exact q
    | tuple ds =>
      cases hx with
      | tup sx ax =>
      cases hy with
      | tup sy ay =>
      rename_i px xs py ys
      obtain ⟨lz, hall⟩ := okD_seq ok
      have lx := DpAll.len ax
      have ly := DpAll.len ay
      have tx := ty_tup sx
      have ty := ty_tup sy
      refine ⟨_, rfl, _, _, _, _, _, rfl, .ty _, ty, kit_ty (r := false) (by decide), _, rfl, iteF ?_⟩
      refine ⟨_, rfl, _, _, _, _, _, rfl, .ty _, ty, kit_ty (r := false) (by decide), _, rfl, iteF ?_⟩
      refine ⟨_, rfl, _, _, _, _, _, rfl, .ty _, ty, kit_ty (r := true) (by decide), _, rfl, iteT ⟨_, rfl, _, _, _, _, _, rfl, .ty _, tx, kit_ty (r := true) (by decide), _, rfl, iteF ?_⟩⟩
      refine ⟨_, rfl, _, _, _, _, _, rfl, .ty _, ty, kit_ty (r := false) (by decide), _, rfl, iteF (iteF ?_)⟩
      refine ⟨_, rfl, px, xs, rfl, .inr sx, _, rfl, py, ys, rfl, .inr sy, rfl, _, rfl, ?_⟩
      rw [show (!decide (V.int (xs.length : Int) = V.int (ys.length : Int))) = false by rw [lx, ly]; simp]
      refine iteF ?_
      refine ⟨_, rfl, py, ys, rfl, .inr sy, ys.length, rfl, by omega, by omega, for_range (n := ys.length) (fun i σ H' => ∃ v, σ = [some (.ref px), some (.ref py), v] ∧ H' = H) ⟨_, rfl, rfl⟩ ?_ ?_⟩
      · rintro i σ H' hi ⟨v, rfl, rfl⟩
        have hd : ds[i]? = some ds[i] := List.getElem?_eq_getElem (by omega)
        obtain ⟨v1, e1, d1⟩ := DpAll.get ax hd
        obtain ⟨v2, e2, d2⟩ := DpAll.get ay hd
        refine ⟨_, rfl, _, rfl, .inr (.inl ⟨px, _, _, _, rfl, rfl, sx, at_of (j := i) (by omega) e1, _, rfl, _, rfl, .inr (.inl ⟨py, _, _, _, rfl, rfl, sy, at_of (j := i) (by omega) e2, ?_⟩)⟩)⟩
        exact ⟨_, _, ds[i], rfl, hall _ (List.mem_of_getElem? hd), d1, d2, _, rfl, iteF ⟨_, rfl, rfl⟩⟩
      · rintro σ H' ⟨v, rfl, rfl⟩
        exact q
end
section
variable {P : Program} {w : World} {K : PySem.W.Frag} {mg : Str → Option Value} {base : Heap}
theorem ok_law_copy1 {n : Nat} {f : Addr} {fd : FuncData} (F : Fun K "_law_copy" "_law_copy" s_law_copy f fd) (T : Txt K mg) (c_law_copy : Cal P w K mg base n "_law_copy" (spCopy K n)) : FnOk P w K mg base CX0 (n + 1) f fd ["thing"] (spCopy K (n + 1)) := by
  refine F.ok sc_law_copy (fun vs H Q E h => ?_) (fun cdv A outer s H vs Q E hr h => ?_)
  · obtain ⟨x, d, rfl, _⟩ := h
    rfl
  · obtain ⟨x, d, rfl, ok, hx, q⟩ := h
    refine ⟨_, (pss_cons (ps_if (pt_val (pe_callB call_isi (by rfl) T.b_isinstance (by decide +kernel) (pa_cons (pv 0) (pa_cons (pe_bltn (v := .ty "tuple") (by rfl) T.b_tuple (by decide +kernel) rfl) pa_nil))))
      (pss_one (ps_ret (pe_callTy call_tuple_of (by rfl) T.b_tuple (by decide +kernel) (pa_cons (pe_lc (own := [("part", 1)]) rfl sc_law_copy.nd (pi_tup (pv 0)) (blkOk_by (own := [("part", 1)]) (N := ["thing", "part"]) (sc := defScope s_law_copy) (by decide +kernel)) (fun _ _ _ _ _ => (pg_name (i := 1) sc_law_copy.nd rfl (by first | exact Or.inl rfl | exact Or.inr rfl))) (fun _ _ _ _ _ => pts_nil) (fun _ _ _ _ _ => (pe_c c_law_copy hr (by omega) (by rfl) (pa_cons (pv 1) pa_nil)))) pa_nil))))
      pss_nil)
    (pss_cons (ps_if (pt_val (pe_callB call_isi (by rfl) T.b_isinstance (by decide +kernel) (pa_cons (pv 0) (pa_cons (pe_bltn (v := .ty "list") (by rfl) T.b_list (by decide +kernel) rfl) pa_nil))))
      (pss_one (ps_ret (pe_lc (own := [("part", 1)]) rfl sc_law_copy.nd (pi_list (pv 0)) (blkOk_by (own := [("part", 1)]) (N := ["thing", "part"]) (sc := defScope s_law_copy) (by decide +kernel)) (fun _ _ _ _ _ => (pg_name (i := 1) sc_law_copy.nd rfl (by first | exact Or.inl rfl | exact Or.inr rfl))) (fun _ _ _ _ _ => pts_nil) (fun _ _ _ _ _ => (pe_c c_law_copy hr (by omega) (by rfl) (pa_cons (pv 1) pa_nil))))))
      pss_nil)
    (pss_one (ps_ret (pv 0))))), ?_⟩
    have qs : ∀ N, Nw N H H → Dp K N x d → Q x H := fun N h1 h2 => q H x N (fun _ _ e => e) h1 h2
    cases d with
    | none =>
      cases hx
      exact ⟨_, rfl, _, _, _, _, _, rfl, .ty _, .base .non, kit_ty (r := false) (by decide), _, rfl, iteF ⟨_, rfl, _, _, _, _, _, rfl, .ty _, .base .non, kit_ty (r := false) (by decide), _, rfl, iteF ⟨_, rfl, qs _ Nw.nil .non⟩⟩⟩
    | bool b =>
      cases hx
      exact ⟨_, rfl, _, _, _, _, _, rfl, .ty _, .base (.bl b), kit_ty (r := false) (by decide), _, rfl, iteF ⟨_, rfl, _, _, _, _, _, rfl, .ty _, .base (.bl b), kit_ty (r := false) (by decide), _, rfl, iteF ⟨_, rfl, qs _ Nw.nil (.bl b)⟩⟩⟩
    | int b =>
      cases hx
      exact ⟨_, rfl, _, _, _, _, _, rfl, .ty _, .base (.int b), kit_ty (r := false) (by decide), _, rfl, iteF ⟨_, rfl, _, _, _, _, _, rfl, .ty _, .base (.int b), kit_ty (r := false) (by decide), _, rfl, iteF ⟨_, rfl, qs _ Nw.nil (.int b)⟩⟩⟩
    | str b =>
      cases hx
      exact ⟨_, rfl, _, _, _, _, _, rfl, .ty _, .base (.str b), kit_ty (r := false) (by decide), _, rfl, iteF ⟨_, rfl, _, _, _, _, _, rfl, .ty _, .base (.str b), kit_ty (r := false) (by decide), _, rfl, iteF ⟨_, rfl, qs _ Nw.nil (.str b)⟩⟩⟩
    | dict kvs => cases hx
    | tuple ds =>
      cases hx with
      | tup sx ax =>
      rename_i px xs
      obtain ⟨lz, hall⟩ := okD_seq ok
      have lx := DpAll.len ax
      refine ⟨_, rfl, _, _, _, _, _, rfl, .ty _, ty_tup sx, kit_ty (r := true) (by decide), _, rfl, iteT ?_⟩
      refine ⟨_, rfl, px, rfl, ⟨_, sx⟩, fun D hD => lc_tup (K := K) (a := px) (xs := xs) (fun i H' => ∃ zs N, Same H H' ∧ H' D = some (.lst zs) ∧ N D = none ∧ Nw N H H' ∧ DpAll K N zs (ds.take i)) ⟨[], fun _ => none, same_upd hD, upd_same, rfl, ⟨fun _ _ e => (by cases e), fun _ h => absurd rfl h⟩, .nil⟩ ?_ ?_ ?_⟩
      · rintro i H' _ ⟨zs, N, sm, _⟩
        exact sameT sm sx
      · rintro i v H' hi ⟨zs, N, sm, eD, nD, nw, az⟩
        obtain ⟨d, hd, dv⟩ := DpAll.get' ax hi
        have hi' := (List.getElem?_eq_some_iff.mp hd).1
        refine ⟨rfl, iteT (B := ∃ zs N, Same H H' ∧ H' D = some (.lst zs) ∧ N D = none ∧ Nw N H H' ∧ DpAll K N zs (ds.take (i + 1))) ?_⟩
        refine ⟨_, rfl, v, d, rfl, hall _ (List.mem_of_getElem? hd), Dp.mono sm d v dv, fun H2 v2 N2 s2 nw2 d2 => ?_⟩
        have lz' := DpAll.len az
        rw [List.length_take] at lz'
        have e2 := s2 _ _ eD
        have nD2 : N2 D = none := by
          cases e : N2 D with
          | none => rfl
          | some o =>
            have := nw2.new D (by rw [e]; exact fun z => by cases z)
            rw [eD] at this
            cases this
        have nD3 := mrg_none nD nD2
        have nw3 := nw.add nw2 sm s2
        have az3 := DpAll.snoc (Dp.mono (mrg_r (nw.disj nw2)) _ _ d2) (DpAll.mono (mrg_l (M := N2)) _ _ az)
        rw [show ds.take i ++ [d] = ds.take (i + 1) by rw [List.take_succ, hd]; rfl] at az3
        exact ⟨zs, e2, szl (by omega), zs ++ [v2], mrg N N2, same_out (sm.trans s2) hD, upd_same, nD3, nw3.out nD3, az3⟩
      · rintro H' ⟨zs, N, sm, eD, nD, nw, az⟩
        rw [List.take_of_length_le (by omega)] at az
        exact ⟨D, zs, rfl, .inl ⟨SqL.of eD, fun l hl => q _ _ _ (sm.trans (same_upd hl)) (nw.put sm hl) (.tup (SqT.of upd_same) (DpAll.mono (same_upd (nw.same.free hl)) _ _ az))⟩⟩
    | list ds =>
      cases hx with
      | lst sx ax =>
      rename_i px xs
      obtain ⟨lz, hall⟩ := okD_seq ok
      have lx := DpAll.len ax
      refine ⟨_, rfl, _, _, _, _, _, rfl, .ty _, ty_seq sx, kit_ty (r := false) (by decide), _, rfl, iteF ⟨_, rfl, _, _, _, _, _, rfl, .ty _, ty_seq sx, kit_ty (r := true) (by decide), _, rfl, iteT ?_⟩⟩
      refine ⟨_, rfl, px, rfl, ⟨_, sx⟩, fun D hD => lc_list (K := K) (a := px) (xs := xs) (fun i H' => ∃ zs N, Same H H' ∧ H' D = some (.lst zs) ∧ N D = none ∧ Nw N H H' ∧ DpAll K N zs (ds.take i)) ⟨[], fun _ => none, same_upd hD, upd_same, rfl, ⟨fun _ _ e => (by cases e), fun _ h => absurd rfl h⟩, .nil⟩ ?_ ?_ ?_⟩
      · rintro i H' _ ⟨zs, N, sm, _⟩
        exact sm.seq sx
      · rintro i v H' hi ⟨zs, N, sm, eD, nD, nw, az⟩
        obtain ⟨d, hd, dv⟩ := DpAll.get' ax hi
        have hi' := (List.getElem?_eq_some_iff.mp hd).1
        refine ⟨rfl, iteT (B := ∃ zs N, Same H H' ∧ H' D = some (.lst zs) ∧ N D = none ∧ Nw N H H' ∧ DpAll K N zs (ds.take (i + 1))) ?_⟩
        refine ⟨_, rfl, v, d, rfl, hall _ (List.mem_of_getElem? hd), Dp.mono sm d v dv, fun H2 v2 N2 s2 nw2 d2 => ?_⟩
        have lz' := DpAll.len az
        rw [List.length_take] at lz'
        have e2 := s2 _ _ eD
        have nD2 : N2 D = none := by
          cases e : N2 D with
          | none => rfl
          | some o =>
            have := nw2.new D (by rw [e]; exact fun z => by cases z)
            rw [eD] at this
            cases this
        have nD3 := mrg_none nD nD2
        have nw3 := nw.add nw2 sm s2
        have az3 := DpAll.snoc (Dp.mono (mrg_r (nw.disj nw2)) _ _ d2) (DpAll.mono (mrg_l (M := N2)) _ _ az)
        rw [show ds.take i ++ [d] = ds.take (i + 1) by rw [List.take_succ, hd]; rfl] at az3
        exact ⟨zs, e2, szl (by omega), zs ++ [v2], mrg N N2, same_out (sm.trans s2) hD, upd_same, nD3, nw3.out nD3, az3⟩
      · rintro H' ⟨zs, N, sm, eD, nD, nw, az⟩
        rw [List.take_of_length_le (by omega)] at az
        exact q _ _ _ sm (nw.own hD eD) (.lst (SqL.of upd_same) (DpAll.mono (same_upd nD) _ _ az))
end
section
variable {P : Program} {w : World} {K : PySem.W.Frag} {mg : Str → Option Value} {base : Heap}
theorem cal_law_same {f : Addr} {fd : FuncData} (F : Fun K "_law_same" "_law_same" s_law_same f fd) (T : Txt K mg) (hm : mg "_law_same" = some (.ref f)) (kp : PySem.W.keepIn K (.ref f) = true) (b : Binds K fd ["told", "due"] []) : ∀ n, Cal P w K mg base n "_law_same" (spSame K n)
  | 0 => ⟨_, _, _, ⟨fun _ _ _ _ ⟨_, _, _, _, z, _⟩ => (by cases z), fun _ _ _ _ _ _ _ _ _ _ _ _ _ ⟨_, _, _, _, z, _⟩ => (by cases z)⟩, hm, kp, b⟩
  | n + 1 => ⟨_, _, _, ok_law_same1 F T (cal_law_same F T hm kp b n), hm, kp, b⟩
theorem cal_law_copy {f : Addr} {fd : FuncData} (F : Fun K "_law_copy" "_law_copy" s_law_copy f fd) (T : Txt K mg) (hm : mg "_law_copy" = some (.ref f)) (kp : PySem.W.keepIn K (.ref f) = true) (b : Binds K fd ["thing"] []) : ∀ n, Cal P w K mg base n "_law_copy" (spCopy K n)
  | 0 => ⟨_, _, _, ⟨fun _ _ _ _ ⟨_, _, _, z, _⟩ => (by cases z), fun _ _ _ _ _ _ _ _ _ _ _ _ _ ⟨_, _, _, z, _⟩ => (by cases z)⟩, hm, kp, b⟩
  | n + 1 => ⟨_, _, _, ok_law_copy1 F T (cal_law_copy F T hm kp b n), hm, kp, b⟩
end

/-! ### strangers -/
def spBelow0 : Sp := fun vs H Q _ => ∃ (B : Hp) (t : Addr) (c : Nat), vs = [.ref t] ∧ Tp B H t c ∧ c < 100000000 ∧ ∀ H' n, Tp B H' t (c + 12) → n < 0 → Q (.int n) H'
def spString : Sp := fun vs H Q _ => ∃ (B : Hp) (t : Addr) (c : Nat), vs = [.ref t] ∧ Tp B H t c ∧ c < 100000000 ∧ ∀ H' z, Tp B H' t (c + 12) → Q (.str z) H'
/-- no int above 40, no such part -/
def I40 (d : PyData) : Prop := (∀ z, d = .int z → z ≤ 40) ∧ ∀ ds, (d = .list ds ∨ d = .tuple ds) → ∀ z, .int z ∈ ds → z ≤ 40
def spStranger (K : PySem.W.Frag) (m : Nat) : Sp := fun vs H Q _ => ∃ (B : Hp) (t : Addr) (c deep : Nat), vs = [.ref t, .int (deep : Int)] ∧ deep < m ∧ Tp B H t c ∧ c + 30 * 3 ^ deep < 100000000 ∧
  ∀ H' v d N, Tp (mrg B N) H' t (c + 30 * 3 ^ deep) → New N B → Dp K N v d → okD (deep + 2) d = true → I40 d → Q v H'

section
variable {P : Program} {w : World} {K : PySem.W.Frag} {mg : Str → Option Value} {base : Heap}
theorem ok_law_below {f : Addr} {fd : FuncData} (F : Fun K "_law_below" "_law_below" s_law_below f fd) (T : Txt K mg) (c_law_draw : Cal P w K mg base 1 "_law_draw" spDraw) : FnOk P w K mg base CX0 2 f fd ["tape"] spBelow0 := by
  refine F.ok sc_law_below (fun vs H Q E h => ?_) (fun cdv A outer s H vs Q E hr h => ?_)
  · obtain ⟨B, t, c, rfl, _⟩ := h
    rfl
  · obtain ⟨B, t, c, rfl, TT, hc, q⟩ := h
    refine ⟨_, (pss_cons (ps_set (i := 1) sc_law_below.nd rfl (by first | exact Or.inl rfl | exact Or.inr rfl) (pe_op op_sub (pe_un un_neg pe_int) (pe_c c_law_draw hr (by omega) (by rfl) (pa_cons (pv 0) (pa_cons pe_int pa_nil)))))
    (pss_cons (ps_if (pt_cmpR op_gt (pe_c c_law_draw hr (by omega) (by rfl) (pa_cons (pv 0) (pa_cons pe_int pa_nil))) pe_int (nomark _))
      (pss_one (ps_ret (pv 1)))
      pss_nil)
    (pss_cons (ps_for PassesOwn.never rfl (pi_range1 (by rfl) T.b_range (pa_cons (pe_c c_law_draw hr (by omega) (by rfl) (pa_cons (pv 0) (pa_cons pe_int pa_nil))) pa_nil)) (pg_name (i := 2) sc_law_below.nd rfl (by first | exact Or.inl rfl | exact Or.inr rfl))
      (pss_one (ps_set (i := 1) sc_law_below.nd rfl (by first | exact Or.inl rfl | exact Or.inr rfl) (pe_op op_mulW (pv 1) (pe_op op_sub (pe_op op_sub (pe_op op_pow pe_int pe_int) pe_int) (pe_c c_law_draw hr (by omega) (by rfl) (pa_cons (pv 0) (pa_cons pe_int pa_nil))))))))
    (pss_one (ps_ret (pv 1)))))), ?_⟩
    have pb : ∀ d : Int, 0 ≤ d → d < 1000 → ((10 : Int) ^ (64 : Int).toNat - 1 - d).natAbs < 2 ^ 213 ∧ 0 < (10 : Int) ^ (64 : Int).toNat - 1 - d := fun d h0 h1 => by
      rw [show (64 : Int).toNat = 64 from rfl]
      omega
    refine ⟨_, rfl, _, rfl, B, t, c, 4, rfl, TT, by decide, by decide, by omega, fun H1 k T1 k0 k1 => ⟨_, _, rfl, rfl, ?_⟩⟩
    refine ⟨_, rfl, B, t, c + 1, 3, rfl, T1, by decide, by decide, by omega, fun H2 m T2 m0 m1 => ⟨_, _, rfl, rfl, _, rfl, ?_⟩⟩
    refine ite2 (fun _ => ?_) (fun _ => ?_)
    · exact ⟨_, rfl, q _ _ (T2.le (by omega)) (by omega)⟩
    · refine ⟨_, rfl, B, t, c + 2, 7, rfl, T2, by decide, by decide, by omega, fun H4 z T4 z0 z1 => ?_⟩
      obtain ⟨n, rfl⟩ := nat_of z0
      refine ⟨n, rfl, by omega, by omega, for_range (n := n) (fun i σ H' => ∃ (v : Option V) (x : Int), σ = [some (.ref t), some (.int x), v] ∧ Tp B H' t (c + 3 + i) ∧ x < 0 ∧ x.natAbs < 2 ^ (214 * (i + 1)))
        ⟨_, _, rfl, T4, by omega, bits_le (a := 4) (by omega) (by omega)⟩ ?_ ?_⟩
      · rintro i σ H' hi ⟨v, x, rfl, T5, nx, bx⟩
        refine ⟨_, rfl, _, _, rfl, rfl, ⟨by decide, by decide, by decide⟩, _, _, rfl, rfl, _, rfl, B, t, c + 3 + i, 1000, rfl, T5, by decide, by decide, by omega, fun H6 d2 T6 e0 e1 => ⟨_, _, rfl, rfl, ?_⟩⟩
        refine ⟨_, _, rfl, rfl, wide_mul bx (pb d2 e0 e1).1 (by omega) (by decide) (by omega), ?_⟩
        exact ⟨_, _, rfl, T6, Int.mul_neg_of_neg_of_pos nx (pb d2 e0 e1).2, bits_le (bits_mul bx (pb d2 e0 e1).1) (by omega)⟩
      · rintro σ H' ⟨v, x, rfl, T5, nx, bx⟩
        exact ⟨_, rfl, q _ _ (T5.le (by omega)) nx⟩
end

section
variable {P : Program} {w : World} {K : PySem.W.Frag} {mg : Str → Option Value} {base : Heap}
theorem ok_law_string {f : Addr} {fd : FuncData} (F : Fun K "_law_string" "_law_string" s_law_string f fd) (T : Txt K mg) (c_law_draw : Cal P w K mg base 1 "_law_draw" spDraw) : FnOk P w K mg base CX0 2 f fd ["tape"] spString := by
  refine F.ok sc_law_string (fun vs H Q E h => ?_) (fun cdv A outer s H vs Q E hr h => ?_)
  · obtain ⟨B, t, c, rfl, _⟩ := h
    rfl
  · obtain ⟨B, t, c, rfl, TT, hc, q⟩ := h
    refine ⟨_, (pss_cons (ps_if (pt_cmpR op_eq (pe_c c_law_draw hr (by omega) (by rfl) (pa_cons (pv 0) (pa_cons pe_int pa_nil))) pe_int (nomark _))
      (pss_one (ps_ret (pe_op op_repS (pe_ix ix_str pe_str (pe_c c_law_draw hr (by omega) (by rfl) (pa_cons (pv 0) (pa_cons pe_int pa_nil))) (fun _ _ => rfl)) (pe_c c_law_draw hr (by omega) (by rfl) (pa_cons (pv 0) (pa_cons pe_int pa_nil))))))
      pss_nil)
    (pss_one (ps_ret (pe_join pe_str (pe_lc (own := [("k", 1)]) rfl sc_law_string.nd (pi_range1 (by rfl) T.b_range (pa_cons (pe_c c_law_draw hr (by omega) (by rfl) (pa_cons (pv 0) (pa_cons pe_int pa_nil))) pa_nil)) (blkOk_by (own := [("k", 1)]) (N := ["tape", "k"]) (sc := defScope s_law_string) (by decide +kernel)) (fun _ _ _ _ _ => (pg_name (i := 1) sc_law_string.nd rfl (by first | exact Or.inl rfl | exact Or.inr rfl))) (fun _ _ _ _ _ => pts_nil) (fun _ _ _ _ _ => (pe_ix ix_str pe_str (pe_c c_law_draw hr (by omega) (by rfl) (pa_cons (pv 0) (pa_cons pe_int pa_nil))) (fun _ _ => rfl)))))))), ?_⟩
    refine ⟨_, rfl, B, t, c, 12, rfl, TT, by decide, by decide, by omega, fun H1 k T1 k0 k1 => ⟨rfl, _, rfl, ?_⟩⟩
    refine ite2 (fun _ => ?_) (fun _ => ?_)
    · refine ⟨_, rfl, B, t, c + 1, 2, rfl, T1, by decide, by decide, by omega, fun H2 m T2 m0 m1 => ?_⟩
      obtain ⟨ch, hch⟩ := at_some (xs := (("01" : Str)).cps.toList) m0 (by rw [show ((("01" : Str)).cps.toList.length : Int) = 2 from rfl]; exact m1)
      refine ⟨_, _, ch, rfl, rfl, szle (by decide), hch, ?_⟩
      refine ⟨_, rfl, B, t, c + 2, 401, rfl, T2, by decide, by decide, by omega, fun H3 l T3 l0 l1 => ?_⟩
      refine ⟨_, l, rfl, rfl, by omega, by omega, ?_, q _ _ (T3.le (by omega))⟩
      show l.toNat * 1 ≤ 16777216
      omega
    · refine ⟨⟨_, rfl⟩, _, rfl, B, t, c + 1, 4, rfl, T1, by decide, by decide, by omega, fun H2 m T2 m0 m1 => ?_⟩
      obtain ⟨m, rfl⟩ := nat_of m0
      refine ⟨m, rfl, by omega, by omega, fun D hD => lc_range (lo := 0) (n := m) (fun i H' => ∃ ys : List Str, Tp (upd B D (.lst (ys.map V.str))) H' t (c + 2 + i) ∧ ys.length = i ∧ (ys.map (·.length)).sum = i) ⟨[], T2.new hD, rfl, rfl⟩ ?_ ?_⟩
      · rintro i H' hi ⟨ys, T3, ly, sy⟩
        refine ⟨rfl, iteT (B := ∃ ys : List Str, Tp (upd B D (.lst (ys.map V.str))) H' t (c + 2 + (i + 1)) ∧ ys.length = i + 1 ∧ (ys.map (·.length)).sum = i + 1) ?_⟩
        refine ⟨_, rfl, _, t, c + 2 + i, 6, rfl, T3, by decide, by decide, by omega, fun H4 n T4 n0 n1 => ?_⟩
        obtain ⟨ch, hch⟩ := at_some (xs := (("0123 -" : Str)).cps.toList) n0 (by rw [show (((("0123 -" : Str)).cps.toList.length : Int)) = 6 from rfl]; exact n1)
        refine ⟨_, _, ch, rfl, rfl, szle (by decide), hch, ys.map V.str, T4.at upd_same, szl (by rw [List.length_map]; omega), ys ++ [⟨#[ch]⟩], ?_, by simp [ly], by simp [sy]; rfl⟩
        have T5 := T4.set (o' := .lst (ys.map V.str ++ [V.str ⟨#[ch]⟩])) upd_same
        rw [upd_upd] at T5
        rw [List.map_append]
        exact T5
      · rintro H' ⟨ys, T3, ly, sy⟩
        have hB : B D = none := T2.isn hD
        exact ⟨_, D, ys, rfl, rfl, .inl (SqL.of (T3.at upd_same)), by show _ + ys.length * 0 ≤ _; omega, q _ _ ((T3.shrink (same_upd hB)).le (by omega))⟩
theorem i40_seq {ds : List PyData} (h : ∀ d ∈ ds, ∀ z, d = .int z → z ≤ 40) : I40 (.list ds) ∧ I40 (.tuple ds) := by
  refine ⟨⟨fun z h' => (by cases h'), fun ds' h' z hz => ?_⟩, fun z h' => (by cases h'), fun ds' h' z hz => ?_⟩
  · rcases h' with h' | h' <;> cases h'
    exact h _ hz z rfl
  · rcases h' with h' | h' <;> cases h'
    exact h _ hz z rfl
theorem ok_law_stranger1 {m : Nat} {f : Addr} {fd : FuncData} (F : Fun K "_law_stranger" "_law_stranger" s_law_stranger f fd) (T : Txt K mg) (c_law_draw : Cal P w K mg base 1 "_law_draw" spDraw) (c_law_below : Cal P w K mg base 2 "_law_below" spBelow0) (c_law_string : Cal P w K mg base 2 "_law_string" spString)
    (c_law_stranger : Cal P w K mg base (m + 2) "_law_stranger" (spStranger K m)) : FnOk P w K mg base CX0 (m + 1 + 2) f fd ["tape", "deep"] (spStranger K (m + 1)) := by
  refine F.ok sc_law_stranger (fun vs H Q E h => ?_) (fun cdv A outer s H vs Q E hr h => ?_)
  · obtain ⟨B, t, c, deep, rfl, _⟩ := h
    rfl
  · obtain ⟨B, t, c, deep, rfl, hm, TT, hc, q⟩ := h
    refine ⟨_, (pss_cons (ps_set (i := 2) sc_law_stranger.nd rfl (by first | exact Or.inl rfl | exact Or.inr rfl) (pe_c c_law_draw hr (by omega) (by rfl) (pa_cons (pv 0) (pa_cons pe_int pa_nil))))
    (pss_cons (ps_if (pt_cmpR op_eq (pv 2) pe_int (nomark _))
      (pss_one (ps_ret pe_non))
      pss_nil)
    (pss_cons (ps_if (pt_cmpR op_eq (pv 2) pe_int (nomark _))
      (pss_one (ps_ret (pe_cmpR op_eq (pe_c c_law_draw hr (by omega) (by rfl) (pa_cons (pv 0) (pa_cons pe_int pa_nil))) pe_int (nomark _))))
      pss_nil)
    (pss_cons (ps_if (pt_cmpR op_eq (pv 2) pe_int (nomark _))
      (pss_one (ps_ret (pe_c c_law_below hr (by omega) (by rfl) (pa_cons (pv 0) pa_nil))))
      pss_nil)
    (pss_cons (ps_if (PW.pt (pw_or (pt_cmpR op_eq (pv 2) pe_int (nomark _)) (pw_or1 (pt_cmpR op_lt (pv 1) pe_int (nomark _)))))
      (pss_one (ps_ret (pe_c c_law_string hr (by omega) (by rfl) (pa_cons (pv 0) pa_nil))))
      pss_nil)
    (pss_cons (ps_setLc (i := 3) (own := [("k", 4)]) rfl sc_law_stranger.nd rfl rfl (sw_true rfl rfl rfl (by decide +kernel)) (pi_range1 (by rfl) T.b_range (pa_cons (pe_c c_law_draw hr (by omega) (by rfl) (pa_cons (pv 0) (pa_cons pe_int pa_nil))) pa_nil)) (blkOk_by (own := [("k", 4)]) (N := ["tape", "deep", "kind", "parts", "k"]) (sc := defScope s_law_stranger) (by decide +kernel)) (fun _ _ _ _ _ => (pg_name (i := 4) sc_law_stranger.nd rfl (by first | exact Or.inl rfl | exact Or.inr rfl))) (fun _ _ _ _ _ => pts_nil) (fun _ _ _ _ _ => (pe_c c_law_stranger hr (by omega) (by rfl) (pa_cons (pv 0) (pa_cons (pe_op op_sub (pv 1) pe_int) pa_nil)))))
    (C8.pss_cut (ps_if (pt_cmpR op_eq (pv 2) pe_int (nomark _))
      (pss_one (ps_setLc (i := 3) (own := [("k", 4)]) rfl sc_law_stranger.nd rfl rfl (sw_true rfl rfl rfl (by decide +kernel)) (pi_range1 (by rfl) T.b_range (pa_cons (pe_c c_law_draw hr (by omega) (by rfl) (pa_cons (pv 0) (pa_cons pe_int pa_nil))) pa_nil)) (blkOk_by (own := [("k", 4)]) (N := ["tape", "deep", "kind", "parts", "k"]) (sc := defScope s_law_stranger) (by decide +kernel)) (fun _ _ _ _ _ => (pg_name (i := 4) sc_law_stranger.nd rfl (by first | exact Or.inl rfl | exact Or.inr rfl))) (fun _ _ _ _ _ => pts_nil) (fun _ _ _ _ _ => (pe_c c_law_draw hr (by omega) (by rfl) (pa_cons (pv 0) (pa_cons pe_int pa_nil))))))
      pss_nil)
    (pss_cons (ps_if (pt_cmpR op_lt (pv 2) pe_int (nomark _))
      (pss_one (ps_ret (pe_callTy call_tuple_of (by rfl) T.b_tuple (by decide +kernel) (pa_cons (pv 3) pa_nil))))
      pss_nil)
    (pss_one (ps_ret (pv 3))))))))))), ?_⟩
    have p1 : 1 ≤ 3 ^ deep := Nat.pow_pos (by decide)
    have sc : ∀ H' v d, Tp B H' t (c + 30 * 3 ^ deep) → (∀ N, Dp K N v d) → okD (deep + 2) d = true → I40 d → Q v H' := fun H' v d T1 h1 h2 h3 => q H' v d _ T1.e New.nil (h1 _) h2 h3
    refine ⟨_, rfl, B, t, c, 7, rfl, TT, by decide, by decide, by omega, fun H1 k T1 k0 k1 => ?_⟩
    refine ⟨_, rfl, rfl, _, rfl, ?_⟩
    rw [show decide (V.int k = V.int 0) = decide (k = 0) by simp]
    refine ite2 (fun _ => ?_) (fun _ => ?_)
    · exact sc _ _ .none (T1.le (by omega)) (fun _ => .non) rfl ⟨fun z h => (by cases h), fun ds h => by rcases h with h | h <;> cases h⟩
    refine ⟨_, rfl, rfl, _, rfl, ?_⟩
    rw [show decide (V.int k = V.int 1) = decide (k = 1) by simp]
    refine ite2 (fun _ => ?_) (fun _ => ?_)
    · exact ⟨_, rfl, B, t, c + 1, 2, rfl, T1, by decide, by decide, by omega, fun H2 b T2 b0 b1 => ⟨rfl, sc _ _ (.bool _) (T2.le (by omega)) (fun _ => .bl _) rfl ⟨fun z h => (by cases h), fun ds h => by rcases h with h | h <;> cases h⟩⟩⟩
    refine ⟨_, rfl, rfl, _, rfl, ?_⟩
    rw [show decide (V.int k = V.int 2) = decide (k = 2) by simp]
    refine ite2 (fun _ => ?_) (fun _ => ?_)
    · exact ⟨_, rfl, B, t, c + 1, rfl, T1, by omega, fun H2 n T2 n0 => sc _ _ (.int n) (T2.le (by omega)) (fun _ => .int _) rfl ⟨fun z h => (by cases h; omega), fun ds h => by rcases h with h | h <;> cases h⟩⟩
    refine ⟨_, rfl, rfl, _, rfl, ?_⟩
    rw [show decide (V.int k = V.int 3) = decide (k = 3) by simp]
    have str_ : ∀ H' z, Tp B H' t (c + 1 + 12) → Q (.str z) H' := fun H' z T2 => sc _ _ (.str z) (T2.le (by omega)) (fun _ => .str _) rfl ⟨fun z h => (by cases h), fun ds h => by rcases h with h | h <;> cases h⟩
    refine ite2 (fun _ => ?_) (fun hk3 => ?_)
    · exact iteT ⟨_, rfl, B, t, c + 1, rfl, T1, by omega, str_⟩
    refine ⟨_, rfl, _, _, rfl, rfl, _, rfl, ?_⟩
    refine ite2 (fun _ => ?_) (fun hd => ?_)
    · exact ⟨_, rfl, B, t, c + 1, rfl, T1, by omega, str_⟩
    obtain ⟨e, rfl⟩ : ∃ e, deep = e + 1 := ⟨deep - 1, by simp at hd; omega⟩
    have p3 : 3 ^ (e + 1) = 3 * 3 ^ e := Nat.pow_succ'
    have pe1 : 1 ≤ 3 ^ e := Nat.pow_pos (by decide)
    rw [p3] at hc q
    have qT : ∀ H' D zs ds N, Lst K B H' t (c + 30 * (3 * 3 ^ e)) D zs ds N → ds.length ≤ 10 → (∀ d ∈ ds, okD (e + 2) d = true ∧ ∀ z, d = .int z → z ≤ 40) → Q (.ref D) H' ∧ ∀ l, H' l = none → Q (.ref l) (upd H' l (.tup zs)) := fun H' D zs ds N L hl h => by
      have h40 := i40_seq (ds := ds) fun d hd => (h d hd).2
      have hok := okD_mk (n := e + 2) (ds := ds) (by omega) fun d hd => (h d hd).1
      constructor
      · obtain ⟨l1, l2, l3⟩ := L.asList
        exact q _ _ _ _ l1 l2 l3 hok h40.1
      · intro l hl0
        obtain ⟨M, l1, l2, l3⟩ := L.asTup hl0
        exact q _ _ _ _ l1 l2 l3 hok h40.2
    -- parts
    refine ⟨_, rfl, B, t, c + 1, 3, rfl, T1, by decide, by decide, by omega, fun H2 n T2 n0 n1 => ?_⟩
    obtain ⟨n, rfl⟩ := nat_of n0
    refine ⟨n, rfl, by omega, by omega, fun D hD => lc_range (lo := 0) (n := n) (fun i H' => ∃ zs ds N, Lst K B H' t (c + 2 + i * (30 * 3 ^ e)) D zs ds N ∧ ds.length = i ∧ ∀ d ∈ ds, okD (e + 2) d = true ∧ ∀ z, d = .int z → z ≤ 40) ⟨[], [], _, by simpa using Lst.ini T2 hD, rfl, fun d h => by cases h⟩ ?_ ?_⟩
    · rintro i H' hi ⟨zs, ds, N, L, ld, hd⟩
      have lz := DpAll.len L.all
      refine ⟨rfl, iteT (B := ∃ zs ds N, Lst K B H' t (c + 2 + (i + 1) * (30 * 3 ^ e)) D zs ds N ∧ ds.length = i + 1 ∧ ∀ d ∈ ds, okD (e + 2) d = true ∧ ∀ z, d = .int z → z ≤ 40) ?_⟩
      have hi2 : i = 0 ∨ i = 1 := by omega
      refine ⟨_, rfl, _, rfl, _, _, rfl, rfl, _, t, c + 2 + i * (30 * 3 ^ e), e, congrArg (fun z => [V.ref t, V.int z]) (by omega), by omega, L.tp, by rcases hi2 with rfl | rfl <;> omega, fun H4 v d M T4 nM dv okd i40 => ?_⟩
      obtain ⟨hD4, L4⟩ := L.add T4 nM dv
      refine ⟨zs, hD4, szl (by omega), zs ++ [v], ds ++ [d], mrg N M, ?_, by simp [ld], fun x hx => ?_⟩
      · rw [show c + 2 + (i + 1) * (30 * 3 ^ e) = c + 2 + i * (30 * 3 ^ e) + 30 * 3 ^ e by rw [Nat.add_mul]; omega]
        exact L4
      · rcases List.mem_append.mp hx with h | h
        · exact hd x h
        · rw [List.mem_singleton.mp h]
          exact ⟨okd, i40.1⟩
    rintro H3 ⟨zs, ds, N, L, ld, hd⟩
    refine ⟨fun σ H' => ∃ (v4 : Option V) (D : Addr) (zs : List V) (ds : List PyData) (N : Hp), σ = [some (.ref t), some (.int ((e + 1 : Nat) : Int)), some (.int k), some (.ref D), v4] ∧ Lst K B H' t (c + 30 * (3 * 3 ^ e)) D zs ds N ∧ ds.length ≤ 10 ∧ ∀ d ∈ ds, okD (e + 2) d = true ∧ ∀ z, d = .int z → z ≤ 40, ?_, ?_⟩
    · refine ⟨_, rfl, rfl, _, rfl, ?_⟩
      rw [show decide (V.int k = V.int 4) = decide (k = 4) by simp]
      refine ite2 (fun _ => ?_) (fun _ => ?_)
      · have TB : Tp B H3 t (c + 2 + n * (30 * 3 ^ e)) := L.tp.shrink ((same_upd L.bD).trans mrg_l)
        have hn : n = 0 ∨ n = 1 ∨ n = 2 := by omega
        have TB2 : Tp B H3 t (c + 2 + 2 * (30 * 3 ^ e)) := TB.le (by rcases hn with rfl | rfl | rfl <;> omega)
        refine ⟨_, rfl, B, t, _, 4, rfl, TB2, by decide, by decide, by omega, fun H4 l T4 l0 l1 => ?_⟩
        obtain ⟨l, rfl⟩ := nat_of l0
        refine ⟨l, rfl, by omega, by omega, fun D2 hD2 => lc_range (lo := 0) (n := l) (fun i H' => ∃ is : List Int, Tp (upd B D2 (.lst (is.map V.int))) H' t (c + 2 + 2 * (30 * 3 ^ e) + 1 + i) ∧ is.length = i ∧ ∀ z ∈ is, z ≤ 40) ⟨[], T4.new hD2, rfl, fun z h => by cases h⟩ ?_ ?_⟩
        · rintro i H' hi ⟨is, T5, li, h40⟩
          refine ⟨rfl, iteT (B := ∃ is : List Int, Tp (upd B D2 (.lst (is.map V.int))) H' t (c + 2 + 2 * (30 * 3 ^ e) + 1 + (i + 1)) ∧ is.length = i + 1 ∧ ∀ z ∈ is, z ≤ 40) ?_⟩
          refine ⟨_, rfl, _, t, _, 7, rfl, T5, by decide, by decide, by omega, fun H6 z T6 z0 z1 => ⟨is.map V.int, T6.at upd_same, szl (by rw [List.length_map]; omega), is ++ [z], ?_, by simp [li], fun x hx => ?_⟩⟩
          · have T7 := T6.set (o' := .lst (is.map V.int ++ [V.int z])) upd_same
            rw [upd_upd] at T7
            rw [List.map_append]
            exact T7
          · rcases List.mem_append.mp hx with h | h
            · exact h40 x h
            · rw [List.mem_singleton.mp h]
              omega
        · rintro H' ⟨is, T5, li, h40⟩
          refine ⟨_, D2, _, is.map PyData.int, fun _ => none, rfl, ⟨by rw [mrg_e]; exact T5.le (by omega), New.nil, T4.isn hD2, rfl, dp_ints is⟩, by rw [List.length_map]; omega, fun d hd => ?_⟩
          obtain ⟨z, hz, rfl⟩ := List.mem_map.mp hd
          exact ⟨rfl, fun z' h => by cases h; exact h40 z hz⟩
      · have hn : n = 0 ∨ n = 1 ∨ n = 2 := by omega
        exact ⟨_, D, zs, ds, N, rfl, ⟨L.tp.le (by rcases hn with rfl | rfl | rfl <;> omega), L.new, L.bD, L.nD, L.all⟩, by omega, hd⟩
    · rintro σ H4 ⟨v4, D, zs, ds, N, rfl, L, ld, hd⟩
      obtain ⟨q1, q2⟩ := qT H4 D zs ds N L ld hd
      refine ⟨_, rfl, _, _, rfl, rfl, _, rfl, ite2 (fun _ => ?_) (fun _ => ?_)⟩
      · exact ⟨_, rfl, D, zs, rfl, .inl ⟨SqL.of L.hD, q2⟩⟩
      · exact ⟨_, rfl, q1⟩
theorem cal_law_stranger {f : Addr} {fd : FuncData} (F : Fun K "_law_stranger" "_law_stranger" s_law_stranger f fd) (T : Txt K mg) (hm : mg "_law_stranger" = some (.ref f)) (kp : PySem.W.keepIn K (.ref f) = true) (b : Binds K fd ["tape", "deep"] []) (c_law_draw : Cal P w K mg base 1 "_law_draw" spDraw) (c_law_below : Cal P w K mg base 2 "_law_below" spBelow0) (c_law_string : Cal P w K mg base 2 "_law_string" spString) : ∀ n, Cal P w K mg base (n + 2) "_law_stranger" (spStranger K n)
  | 0 => ⟨_, _, _, ⟨fun _ _ _ _ ⟨_, _, _, _, _, z, _⟩ => absurd z (Nat.not_lt_zero _), fun _ _ _ _ _ _ _ _ _ _ _ _ _ ⟨_, _, _, _, _, z, _⟩ => absurd z (Nat.not_lt_zero _)⟩, hm, kp, b⟩
  | n + 1 => ⟨_, _, _, ok_law_stranger1 F T c_law_draw c_law_below c_law_string (cal_law_stranger F T hm kp b c_law_draw c_law_below c_law_string n), hm, kp, b⟩
end


/-! ### is_integer, is_number, is_sequence -/
section
variable {P : Program} {w : World} {K : PySem.W.Frag} {mg : Str → Option Value} {base : Heap}
theorem ok_is_integer {f : Addr} {fd : FuncData} (F : Fun K "is_integer" "is_integer" s_is_integer f fd) (T : Txt K mg) : FnOk P w K mg base CX0 1 f fd ["value"] (spKind K isIntD) := by
  refine F.ok sc_is_integer (fun vs H Q E h => ?_) (fun cdv A outer s H vs Q E hr h => ?_)
  · obtain ⟨v, d, rfl, _⟩ := h
    rfl
  · obtain ⟨v, d, rfl, hv, q⟩ := h
    refine ⟨_, (pss_one (ps_ret (pe_and (pe_callB call_isi (by rfl) T.b_isinstance (by decide +kernel) (pa_cons (pv 0) (pa_cons (pe_bltn (v := .ty "int") (by rfl) T.b_int (by decide +kernel) rfl) pa_nil))) (pe_one (pe_not (pe_callB call_isi (by rfl) T.b_isinstance (by decide +kernel) (pa_cons (pv 0) (pa_cons (pe_bltn (v := .ty "bool") (by rfl) T.b_bool (by decide +kernel) rfl) pa_nil)))))))), ?_⟩
    cases d with
    | int z =>
      cases hv
      exact ⟨_, rfl, _, _, _, _, _, rfl, .ty _, .base (.int z), kit_ty (r := true) (by decide), _, rfl, iteT ⟨_, rfl, _, _, _, _, _, rfl, .ty _, .base (.int z), kit_ty (r := false) (by decide), _, rfl, q⟩⟩
    | bool b =>
      cases hv
      exact ⟨_, rfl, _, _, _, _, _, rfl, .ty _, .base (.bl b), kit_ty (r := true) (by decide), _, rfl, iteT ⟨_, rfl, _, _, _, _, _, rfl, .ty _, .base (.bl b), kit_ty (r := true) (by decide), _, rfl, q⟩⟩
    | str z => cases hv; exact ⟨_, rfl, _, _, _, _, _, rfl, .ty _, .base (.str z), kit_ty (r := false) (by decide), _, rfl, iteF q⟩
    | none => cases hv; exact ⟨_, rfl, _, _, _, _, _, rfl, .ty _, .base .non, kit_ty (r := false) (by decide), _, rfl, iteF q⟩
    | list ds =>
      cases hv with
      | lst sx _ => exact ⟨_, rfl, _, _, _, _, _, rfl, .ty _, ty_seq sx, kit_ty (r := false) (by decide), _, rfl, iteF q⟩
    | tuple ds =>
      cases hv with
      | tup sx _ => exact ⟨_, rfl, _, _, _, _, _, rfl, .ty _, ty_tup sx, kit_ty (r := false) (by decide), _, rfl, iteF q⟩
    | dict ds => cases hv
theorem ok_is_number {f : Addr} {fd : FuncData} (F : Fun K "is_number" "is_number" s_is_number f fd) (T : Txt K mg) (c_is_integer : Cal P w K mg base 1 "is_integer" (spKind K isIntD)) : FnOk P w K mg base CX0 2 f fd ["value"] (spKind K isNumD) := by
  refine F.ok sc_is_number (fun vs H Q E h => ?_) (fun cdv A outer s H vs Q E hr h => ?_)
  · obtain ⟨v, d, rfl, _⟩ := h
    rfl
  · obtain ⟨v, d, rfl, hv, q⟩ := h
    refine ⟨_, (pss_one (ps_ret (pe_and (pe_c c_is_integer hr (by omega) (by rfl) (pa_cons (pv 0) pa_nil)) (pe_one (pe_cmpR op_ge (pv 0) pe_int (nomark _)))))), ?_⟩
    cases d with
    | int z =>
      cases hv
      exact ⟨_, rfl, _, .int z, rfl, .int z, _, rfl, iteT ⟨_, rfl, _, _, rfl, rfl, q⟩⟩
    | dict ds => cases hv
    | _ => exact ⟨_, rfl, _, _, rfl, hv, _, rfl, iteF q⟩
theorem ok_is_sequence {f : Addr} {fd : FuncData} (F : Fun K "is_sequence" "is_sequence" s_is_sequence f fd) (T : Txt K mg) : FnOk P w K mg base CX0 1 f fd ["value"] (spSeq K) := by
  refine F.ok sc_is_sequence (fun vs H Q E h => ?_) (fun cdv A outer s H vs Q E hr h => ?_)
  · obtain ⟨v, d, rfl, _⟩ := h
    rfl
  · obtain ⟨v, d, rfl, hv, q⟩ := h
    refine ⟨_, (pss_one (ps_ret (pe_callB call_isiT (by rfl) T.b_isinstance (by decide +kernel) (pa_cons (pv 0) (pa_cons (pe_tup (pa_cons (pe_bltn (v := .ty "tuple") (by rfl) T.b_tuple (by decide +kernel) rfl) (pa_cons (pe_bltn (v := .ty "list") (by rfl) T.b_list (by decide +kernel) rfl) pa_nil))) pa_nil))))), ?_⟩
    refine ⟨_, rfl, szle (by show 2 ≤ 16777216; decide), fun tp htp => ?_⟩
    have s1 := same_upd (o := .tup [.ty "tuple", .ty "list"]) htp
    have ty := ty_dp (Dp.mono s1 _ _ hv)
    have kk : ∀ b, PySem.W.kitAny K (.type (tn d)) [.type "tuple", .type "list"] = some b → b = isSeqD d → _ := fun b hb e => (⟨v, tp, [.ty "tuple", .ty "list"], _, [.type "tuple", .type "list"], b, rfl, upd_same, .cons (.ty _) (.cons (.ty _) .nil), ty, hb, by rw [e]; exact q _ s1⟩ : rIsiT K [v, .ref tp] (upd H tp (.tup [.ty "tuple", .ty "list"])) Q)
    have k2 : ∀ r1 r2, kitB (tn d) "tuple" = some r1 → kitB (tn d) "list" = some r2 → PySem.W.kitAny K (.type (tn d)) [.type "tuple", .type "list"] = some (r1 || r2) := fun r1 r2 h1 h2 =>
      kitAny_cons (kit_ty h1) (fun e => by subst e; exact kitAny_cons (kit_ty h2) (fun e => by subst e; rfl) (fun e => by subst e; rfl)) (fun e => by subst e; rfl)
    cases d with
    | none => exact kk _ (k2 false false (by decide) (by decide)) rfl
    | bool b => exact kk _ (k2 false false (by show kitB "bool" _ = _; decide) (by show kitB "bool" _ = _; decide)) rfl
    | int b => exact kk _ (k2 false false (by show kitB "int" _ = _; decide) (by show kitB "int" _ = _; decide)) rfl
    | str b => exact kk _ (k2 false false (by show kitB "str" _ = _; decide) (by show kitB "str" _ = _; decide)) rfl
    | list b => exact kk _ (k2 false true (by show kitB "list" _ = _; decide) (by show kitB "list" _ = _; decide)) rfl
    | tuple b => exact kk _ (k2 true false (by show kitB "tuple" _ = _; decide) (by show kitB "tuple" _ = _; decide)) rfl
    | dict b => cases hv
end

section
variable {P : Program} {w : World} {K : PySem.W.Frag} {mg : Str → Option Value} {base : Heap}
theorem ok_are_numbers {f : Addr} {fd : FuncData} (F : Fun K "are_numbers" "are_numbers" s_are_numbers f fd) (T : Txt K mg) (c_is_sequence : Cal P w K mg base 1 "is_sequence" (spSeq K)) (c_is_number : Cal P w K mg base 2 "is_number" (spKind K isNumD)) : FnOk P w K mg base CX0 3 f fd ["value"] (spRow K) := by
  refine F.ok sc_are_numbers (fun vs H Q E h => ?_) (fun cdv A outer s H vs Q E hr h => ?_)
  · obtain ⟨v, d, n, rfl, _⟩ := h
    rfl
  · obtain ⟨v, d, n, rfl, hv, hok, q⟩ := h
    refine ⟨_, (pss_one (ps_ret (pe_and (pe_c c_is_sequence hr (by omega) (by rfl) (pa_cons (pv 0) pa_nil)) (pe_one (pe_callB (cr_all rfl) (by rfl) T.b_all (by decide +kernel) (pa_cons (pe_lc (own := [("part", 1)]) rfl sc_are_numbers.nd (pi_seqA (pv 0)) (blkOk_by (own := [("part", 1)]) (N := ["value", "part"]) (sc := defScope s_are_numbers) (by decide +kernel)) (fun _ _ _ _ _ => (pg_name (i := 1) sc_are_numbers.nd rfl (by first | exact Or.inl rfl | exact Or.inr rfl))) (fun _ _ _ _ _ => pts_nil) (fun _ _ _ _ _ => (pe_c c_is_number hr (by omega) (by rfl) (pa_cons (pv 1) pa_nil)))) pa_nil)))))), ?_⟩
    refine ⟨_, rfl, v, d, rfl, hv, fun H1 s1 => ⟨_, rfl, ?_⟩⟩
    cases d with
    | none => exact iteF (q _ s1)
    | bool b => exact iteF (q _ s1)
    | int b => exact iteF (q _ s1)
    | str b => exact iteF (q _ s1)
    | dict b => cases hv
    | list ds =>
      cases hv with
      | lst sx ax =>
      rename_i a xs
      cases n with
      | zero => cases hok
      | succ n =>
      obtain ⟨lz, _⟩ := okD_seq hok
      have lx := DpAll.len ax
      refine iteT ?_
      refine ⟨_, rfl, a, xs, rfl, .inl ⟨s1.seq sx, fun D hD => lc_list (K := K) (a := a) (xs := xs) (fun i H' => Same H1 H' ∧ H' D = some (.lst (((ds.take i).map isNumD).map V.bl))) ⟨same_upd hD, upd_same⟩ ?_ ?_ ?_⟩⟩
      · rintro i H' _ ⟨sm, _⟩
        exact (s1.trans sm).seq sx
      · rintro i x H' hi ⟨sm, eD⟩
        obtain ⟨e, he, dx⟩ := DpAll.get' ax hi
        have hi' := (List.getElem?_eq_some_iff.mp he).1
        refine ⟨rfl, iteT (B := Same H1 H' ∧ H' D = some (.lst (((ds.take (i + 1)).map isNumD).map V.bl))) ?_⟩
        refine ⟨_, rfl, x, e, rfl, Dp.mono (s1.trans sm) _ _ dx, _, eD, szl (by rw [List.length_map, List.length_map, List.length_take]; omega), same_out sm hD, ?_⟩
        rw [upd_same, List.take_succ, he, List.map_append, List.map_append]
        rfl
      · rintro H' ⟨sm, eD⟩
        rw [List.take_of_length_le (by omega)] at eD
        refine ⟨D, ds.map isNumD, rfl, SqL.of eD, ?_⟩
        rw [List.all_map]
        exact q H' (s1.trans sm)
    | tuple ds =>
      cases hv with
      | tup sx ax =>
      rename_i a xs
      cases n with
      | zero => cases hok
      | succ n =>
      obtain ⟨lz, _⟩ := okD_seq hok
      have lx := DpAll.len ax
      refine iteT ?_
      refine ⟨_, rfl, a, xs, rfl, .inr ⟨sameT s1 sx, fun D hD => lc_tup (K := K) (a := a) (xs := xs) (fun i H' => Same H1 H' ∧ H' D = some (.lst (((ds.take i).map isNumD).map V.bl))) ⟨same_upd hD, upd_same⟩ ?_ ?_ ?_⟩⟩
      · rintro i H' _ ⟨sm, _⟩
        exact sameT (s1.trans sm) sx
      · rintro i x H' hi ⟨sm, eD⟩
        obtain ⟨e, he, dx⟩ := DpAll.get' ax hi
        have hi' := (List.getElem?_eq_some_iff.mp he).1
        refine ⟨rfl, iteT (B := Same H1 H' ∧ H' D = some (.lst (((ds.take (i + 1)).map isNumD).map V.bl))) ?_⟩
        refine ⟨_, rfl, x, e, rfl, Dp.mono (s1.trans sm) _ _ dx, _, eD, szl (by rw [List.length_map, List.length_map, List.length_take]; omega), same_out sm hD, ?_⟩
        rw [upd_same, List.take_succ, he, List.map_append, List.map_append]
        rfl
      · rintro H' ⟨sm, eD⟩
        rw [List.take_of_length_le (by omega)] at eD
        refine ⟨D, ds.map isNumD, rfl, SqL.of eD, ?_⟩
        rw [List.all_map]
        exact q H' (s1.trans sm)
end

section
variable {P : Program} {w : World} {K : PySem.W.Frag} {mg : Str → Option Value} {base : Heap}
theorem ok_is_room_for {f : Addr} {fd : FuncData} (F : Fun K "_is_room_for" "_is_room_for" s_is_room_for f fd) (T : Txt K mg) : FnOk P w K mg base CX0 1 f fd ["ascending"] (spRoom K) := by
  refine F.ok sc_is_room_for (fun vs H Q E h => ?_) (fun cdv A outer s H vs Q E hr h => ?_)
  · obtain ⟨a, ls, rfl, _⟩ := h
    rfl
  · obtain ⟨a, ls, rfl, hS, hs, h40, q⟩ := h
    refine ⟨_, (pss_cons (ps_set (i := 1) sc_is_room_for.nd rfl (by first | exact Or.inl rfl | exact Or.inr rfl) pe_int)
    (pss_cons (ps_set (i := 2) sc_is_room_for.nd rfl (by first | exact Or.inl rfl | exact Or.inr rfl) pe_int)
    (pss_cons (ps_for PassesOwn.never rfl (pi_list (pv 0)) (pg_name (i := 3) sc_is_room_for.nd rfl (by first | exact Or.inl rfl | exact Or.inr rfl))
      (pss_cons (ps_if (pt_cmpR op_eq (pv 1) pe_int (nomark _))
          (pss_one (ps_ret pe_bl))
          pss_nil)
        (pss_cons (ps_set (i := 1) sc_is_room_for.nd rfl (by first | exact Or.inl rfl | exact Or.inr rfl) (pe_op op_sub (pe_op op_shlW (pv 1) (pe_op op_sub (pv 3) (pv 2))) pe_int))
        (pss_one (ps_set (i := 2) sc_is_room_for.nd rfl (by first | exact Or.inl rfl | exact Or.inr rfl) (pv 3))))))
    (pss_one (ps_ret pe_bl))))), ?_⟩
    refine ⟨_, rfl, a, rfl, ⟨_, hS⟩, for_list (K := K) (a := a) (xs := ls.map nI) (fun i σ H' => ∃ (v : Option V) (free depth : Nat) (x y : Int), σ = [some (.ref a), some (.int x), some (.int y), v] ∧ H' = H ∧ x = (free : Int) ∧ y = (depth : Int) ∧ Rm ls i free depth)
      ⟨none, 1, 0, _, _, rfl, rfl, rfl, rfl, Rm.ini ls⟩ ?_ ?_ ?_⟩
    · rintro i σ H' _ ⟨_, _, _, _, _, _, rfl, _⟩
      exact hS
    · rintro i v σ H' hi ⟨w3, free, depth, x, y, rfl, rfl, rfl, rfl, R⟩
      obtain ⟨l, hl, rfl⟩ : ∃ l, ls[i]? = some l ∧ v = nI l := by
        rw [List.getElem?_map] at hi
        cases e : ls[i]? with
        | none => rw [e] at hi; cases hi
        | some l => rw [e] at hi; exact ⟨l, rfl, (Option.some.inj hi).symm⟩
      have hl40 := h40 l (List.mem_of_getElem? hl)
      refine ⟨_, rfl, rfl, _, rfl, ?_⟩
      rw [show decide (V.int (free : Int) = V.int 0) = decide (free = 0) by simp [Int.natCast_eq_zero]]
      by_cases hf : free = 0
      · rw [decide_eq_true hf]
        refine iteT ?_
        have hk : ¬ kr ls ≤ 2 ^ 40 := by
          have h1 := kr_more hl
          have h2 := R.eq
          rw [hf, Nat.zero_mul] at h2
          omega
        rw [decide_eq_false hk] at q
        exact q
      · rw [decide_eq_false hf]
        refine iteF ?_
        have hd := R.le hs hl
        obtain ⟨n1, R2⟩ := R.nxt hs hl hl40 hf
        have hsm := R.small
        have hb : Builtin.Int.intBits (free : Int) ≤ 41 := by
          unfold Builtin.Int.intBits
          split
          · omega
          · have := PySem.Flt.log2_lt_of (by decide : 0 < 41) (show ((free : Int)).natAbs < 2 ^ 41 by omega)
            omega
        have cs : CShl (free : Int) ((l : Int) - (depth : Int)) := ⟨by omega, by omega⟩
        refine ⟨_, rfl, _, rfl, _, rfl, _, _, rfl, rfl, _, _, rfl, rfl, cs, _, _, rfl, rfl, ?_⟩
        refine ⟨_, rfl, ?_⟩
        refine ⟨_, free * 2 ^ (l - depth) - 1, l, _, _, rfl, rfl, ?_, rfl, R2⟩
        rw [show ((l : Int) - (depth : Int)).toNat = l - depth by omega, Int.natCast_sub n1, Int.natCast_mul, Int.natCast_pow]
        rfl
    · rintro σ H' ⟨w3, free, depth, x, y, rfl, rfl, rfl, rfl, R⟩
      have hk : kr ls ≤ 2 ^ 40 := by
        have h2 := R.eq
        rw [List.length_map, List.take_length] at h2
        omega
      rw [decide_eq_true hk] at q
      exact q
end

section
variable {P : Program} {w : World} {K : PySem.W.Frag} {mg : Str → Option Value} {base : Heap}
theorem ok_word_of {f : Addr} {fd : FuncData} (F : Fun K "word_of" "word_of" s_word_of f fd) (T : Txt K mg) : FnOk P w K mg base CX0 1 f fd ["value", "length"] spWordOf := by
  refine F.ok sc_word_of (fun vs H Q E h => ?_) (fun cdv A outer s H vs Q E hr h => ?_)
  · obtain ⟨v, l, rfl, _⟩ := h
    rfl
  · obtain ⟨v, l, rfl, hv, hl, q⟩ := h
    refine ⟨_, (pss_cons (ps_set (i := 2) sc_word_of.nd rfl (by first | exact Or.inl rfl | exact Or.inr rfl) (pe_joined1 (pe_fmtB (pe_op op_add (pe_op op_shlW pe_int (pv 1)) (pv 0)) (pe_joined1 pe_str))))
    (pss_one (ps_ret (pe_slice sl_str (pv 2) (po_some pe_int) po_none)))), ?_⟩
    have cs : CShl 1 (l : Int) := ⟨by omega, by rw [show Builtin.Int.intBits 1 = 1 by decide]; omega⟩
    have e1 : (1 : Int) * 2 ^ ((l : Int)).toNat + (v : Int) = ((2 ^ l + v : Nat) : Int) := by
      rw [Int.one_mul, Int.toNat_natCast, Int.natCast_add, Int.natCast_pow]
      rfl
    have e2 : binS (2 ^ l + v) = SX.S (49 :: bitsL l v) := by
      unfold binS
      rw [dgB_bits l v hv]
    have ln : (binS (2 ^ l + v)).length ≤ 16777216 := by
      rw [e2]
      show (49 :: bitsL l v).toArray.size ≤ _
      rw [List.size_toArray, List.length_cons, bitsL_len]
      omega
    refine ⟨_, rfl, _, _, rfl, rfl, cs, _, rfl, _, _, rfl, rfl, 2 ^ l + v, congrArg V.int e1, szle ln, ?_⟩
    refine ⟨_, rfl, _, rfl, _, rfl, szle ln, ?_⟩
    rw [C8.cutS_slice, e2, SX.slice_from (by decide)]
    exact q
end

section
variable {P : Program} {w : World} {K : PySem.W.Frag} {mg : Str → Option Value} {base : Heap}
theorem ok_law_word {f : Addr} {fd : FuncData} (F : Fun K "_law_word" "_law_word" s_law_word f fd) (T : Txt K mg) : FnOk P w K mg base CX0 1 f fd ["value", "length"] spLawWord := by
  refine F.ok sc_law_word (fun vs H Q E h => ?_) (fun cdv A outer s H vs Q E hr h => ?_)
  · obtain ⟨v, l, rfl, _⟩ := h
    rfl
  · obtain ⟨v, l, rfl, hl, q⟩ := h
    refine ⟨_, (pss_one (ps_ret (pe_join pe_str (pe_lc (own := [("k", 2)]) rfl sc_law_word.nd (pi_range1 (by rfl) T.b_range (pa_cons (pv 1) pa_nil)) (blkOk_by (own := [("k", 2)]) (N := ["value", "length", "k"]) (sc := defScope s_law_word) (by decide +kernel)) (fun _ _ _ _ _ => (pg_name (i := 2) sc_law_word.nd rfl (by first | exact Or.inl rfl | exact Or.inr rfl))) (fun _ _ _ _ _ => pts_nil) (fun _ _ _ _ _ => (pe_ix ix_str pe_str (pe_op op_andM (pe_op op_shr (pv 0) (pe_op op_sub (pe_op op_sub (pv 1) pe_int) (pv 2))) pe_int) (fun _ _ => rfl))))))), ?_⟩
    have hb := bitsL_len l v
    refine ⟨⟨_, rfl⟩, _, rfl, l, rfl, by omega, by omega, fun D hD => lc_range (lo := 0) (n := l) (fun i H' => Same H H' ∧ H' D = some (.lst ((((bitsL l v).take i).map chS).map V.str))) ⟨same_upd hD, upd_same⟩ ?_ ?_⟩
    · rintro i H' hi ⟨sm, eD⟩
      refine ⟨rfl, iteT (B := Same H H' ∧ H' D = some (.lst ((((bitsL l v).take (i + 1)).map chS).map V.str))) ?_⟩
      have hg := bitsL_get l v i hi
      have ba := bit_sign l v i hi
      rw [show ((l : Int) - 1 - (i : Int)) = ((l : Int) - 1 - (0 + (i : Int))) by omega] at ba
      refine ⟨_, rfl, _, rfl, _, _, rfl, rfl, _, rfl, _, _, rfl, rfl, _, _, rfl, rfl, by show (0 : Int) ≤ (l : Int) - 1 - (0 + (i : Int)); omega, _, 1, rfl, rfl, ?_⟩
      refine ⟨_, _, _, rfl, rfl, szle (by decide), ba, _, eD, szl (by rw [List.length_map, List.length_map, List.length_take]; omega), same_out sm hD, ?_⟩
      rw [upd_same, List.take_succ, hg, List.map_append, List.map_append]
      rfl
    · rintro H' ⟨sm, eD⟩
      rw [List.take_of_length_le (by omega)] at eD
      have sl : ∀ cs : List Nat, ((cs.map chS).map (·.length)).sum = cs.length := fun cs => by
        induction cs with
        | nil => rfl
        | cons c r ih =>
          rw [List.map_cons, List.map_cons, List.sum_cons, ih, List.length_cons]
          show 1 + r.length = _
          omega
      refine ⟨_, D, (bitsL l v).map chS, rfl, rfl, .inl (SqL.of eD), ?_, ?_⟩
      · rw [sl, List.length_map, hb]
        show l + l * 0 ≤ 16777216
        omega
      · rw [join_signs]
        exact q H' sm
end

section
variable {P : Program} {w : World} {K : PySem.W.Frag} {mg : Str → Option Value} {base : Heap}
theorem ok_law_are_lengths {f : Addr} {fd : FuncData} (F : Fun K "_law_are_lengths" "_law_are_lengths" s_law_are_lengths f fd) (T : Txt K mg) : FnOk P w K mg base CX0 1 f fd ["value"] (spAre K) := by
  refine F.ok sc_law_are_lengths (fun vs H Q E h => ?_) (fun cdv A outer s H vs Q E hr h => ?_)
  · obtain ⟨v, d, n, rfl, _⟩ := h
    rfl
  · obtain ⟨v, d, n, rfl, hv, hok, h40, q⟩ := h
    refine ⟨_, (pss_cons (ps_if (pt_not (pt_val (pe_callB call_isiT (by rfl) T.b_isinstance (by decide +kernel) (pa_cons (pv 0) (pa_cons (pe_tup (pa_cons (pe_bltn (v := .ty "list") (by rfl) T.b_list (by decide +kernel) rfl) (pa_cons (pe_bltn (v := .ty "tuple") (by rfl) T.b_tuple (by decide +kernel) rfl) pa_nil))) pa_nil)))))
      (pss_one (ps_ret pe_bl))
      pss_nil)
    (pss_cons (ps_for PassesOwn.never rfl (pi_seqA (pv 0)) (pg_name (i := 1) sc_law_are_lengths.nd rfl (by first | exact Or.inl rfl | exact Or.inr rfl))
      (pss_one (ps_if (PW.pt (pw_or (pt_not (pt_val (pe_callB call_isi (by rfl) T.b_isinstance (by decide +kernel) (pa_cons (pv 1) (pa_cons (pe_bltn (v := .ty "int") (by rfl) T.b_int (by decide +kernel) rfl) pa_nil))))) (pw_or (pt_val (pe_callB call_isi (by rfl) T.b_isinstance (by decide +kernel) (pa_cons (pv 1) (pa_cons (pe_bltn (v := .ty "bool") (by rfl) T.b_bool (by decide +kernel) rfl) pa_nil)))) (pw_or1 (pt_cmpR op_lt (pv 1) pe_int (nomark _))))))
          (pss_one (ps_ret pe_bl))
          pss_nil)))
    (pss_one (ps_ret (pe_cmpR op_le (pe_callB (cr_sum rfl) (by rfl) T.b_sum (by decide +kernel) (pa_cons (pe_lc (own := [("part", 1)]) rfl sc_law_are_lengths.nd (pi_seqA (pv 0)) (blkOk_by (own := [("part", 1)]) (N := ["value", "part"]) (sc := defScope s_law_are_lengths) (by decide +kernel)) (fun _ _ _ _ _ => (pg_name (i := 1) sc_law_are_lengths.nd rfl (by first | exact Or.inl rfl | exact Or.inr rfl))) (fun _ _ _ _ _ => pts_nil) (fun _ _ _ _ _ => (pe_op op_shlW pe_int (pe_op op_sub pe_int (pv 1))))) pa_nil)) (pe_op op_shl pe_int pe_int) (nomark _)))))), ?_⟩
    have k2 : ∀ (t : String) (r1 r2 : Bool), kitB t "list" = some r1 → kitB t "tuple" = some r2 → PySem.W.kitAny K (.type t) [.type "list", .type "tuple"] = some (r1 || r2) := fun t r1 r2 h1 h2 =>
      kitAny_cons (kit_ty h1) (fun e => by subst e; exact kitAny_cons (kit_ty h2) (fun e => by subst e; rfl) (fun e => by subst e; rfl)) (fun e => by subst e; rfl)
    cases d with
    | none =>
      refine ⟨_, rfl, szle (by show 2 ≤ 16777216; decide), fun tp htp => ?_⟩
      have s1 := same_upd (o := .tup [.ty "list", .ty "tuple"]) htp
      cases hv
      exact ⟨_, tp, [.ty "list", .ty "tuple"], _, [.type "list", .type "tuple"], false, rfl, upd_same, .cons (.ty _) (.cons (.ty _) .nil), .base .non, k2 "NoneType" false false (by decide) (by decide), _, rfl, iteT (q _ s1)⟩
    | bool b =>
      refine ⟨_, rfl, szle (by show 2 ≤ 16777216; decide), fun tp htp => ?_⟩
      have s1 := same_upd (o := .tup [.ty "list", .ty "tuple"]) htp
      cases hv
      exact ⟨_, tp, [.ty "list", .ty "tuple"], _, [.type "list", .type "tuple"], false, rfl, upd_same, .cons (.ty _) (.cons (.ty _) .nil), .base (.bl b), k2 "bool" false false (by decide) (by decide), _, rfl, iteT (q _ s1)⟩
    | int b =>
      refine ⟨_, rfl, szle (by show 2 ≤ 16777216; decide), fun tp htp => ?_⟩
      have s1 := same_upd (o := .tup [.ty "list", .ty "tuple"]) htp
      cases hv
      exact ⟨_, tp, [.ty "list", .ty "tuple"], _, [.type "list", .type "tuple"], false, rfl, upd_same, .cons (.ty _) (.cons (.ty _) .nil), .base (.int b), k2 "int" false false (by decide) (by decide), _, rfl, iteT (q _ s1)⟩
    | str b =>
      refine ⟨_, rfl, szle (by show 2 ≤ 16777216; decide), fun tp htp => ?_⟩
      have s1 := same_upd (o := .tup [.ty "list", .ty "tuple"]) htp
      cases hv
      exact ⟨_, tp, [.ty "list", .ty "tuple"], _, [.type "list", .type "tuple"], false, rfl, upd_same, .cons (.ty _) (.cons (.ty _) .nil), .base (.str b), k2 "str" false false (by decide) (by decide), _, rfl, iteT (q _ s1)⟩
    | dict b => cases hv
    | list ds =>
      cases hv with
      | lst sx ax =>
      rename_i a xs
      cases n with
      | zero => cases hok
      | succ n =>
      obtain ⟨lz, _⟩ := okD_seq hok
      have lx := DpAll.len ax
      refine ⟨_, rfl, szle (by show 2 ≤ 16777216; decide), fun tp htp => ?_⟩
      have s1 := same_upd (o := .tup [.ty "list", .ty "tuple"]) htp
      refine ⟨_, tp, [.ty "list", .ty "tuple"], _, [.type "list", .type "tuple"], true, rfl, upd_same, .cons (.ty _) (.cons (.ty _) .nil), ty_seq (s1.seq sx), k2 "list" true false (by decide) (by decide), _, rfl, iteF ?_⟩
      obtain ⟨H1, eH⟩ : ∃ H1, upd H tp (.tup [.ty "list", .ty "tuple"]) = H1 := ⟨_, rfl⟩
      have s1' : Same H H1 := by rw [← eH]; exact s1
      have sx1 := s1'.seq sx
      refine ⟨_, rfl, a, xs, rfl, .inl ⟨by rw [eH]; exact sx1, for_list (K := K) (a := a) (xs := xs) (fun i σ H' => ∃ w : Option V, σ = [some (.ref a), w] ∧ H' = H1 ∧ (ds.take i).all isNumD = true) ⟨none, rfl, eH, rfl⟩ ?_ ?_ ?_⟩⟩
      · rintro i σ H' _ ⟨_, rfl, rfl, _⟩
        exact sx1
      · rintro i x σ H' hi ⟨w, rfl, rfl, hall⟩
        obtain ⟨e, he, dx⟩ := DpAll.get' ax hi
        have dx1 := Dp.mono s1' _ _ dx
        have bad : isNumD e = false → Q (.bl false) H' := fun hb => by
          have : areD (.list ds) = false := by
            show (ds.all isNumD && decide (kr (ds.map natD) ≤ 2 ^ 40)) = false
            rw [show ds.all isNumD = false from Bool.eq_false_iff.mpr fun z => by
              have := List.all_eq_true.mp z e (List.mem_of_getElem? he)
              rw [hb] at this
              cases this]
            rfl
          have := q H' s1'
          rwa [‹areD (.list ds) = false›] at this
        have good : isNumD e = true → (ds.take (i + 1)).all isNumD = true := fun hg => by
          rw [List.take_succ, he, List.all_append, hall]
          simpa using hg
        cases e with
        | int z =>
          cases dx1
          refine ⟨_, rfl, _, _, _, _, _, rfl, .ty _, .base (.int z), kit_ty (r := true) (by decide), _, rfl, iteF ?_⟩
          refine ⟨_, rfl, _, _, _, _, _, rfl, .ty _, .base (.int z), kit_ty (r := false) (by decide), _, rfl, iteF ?_⟩
          refine ⟨_, rfl, _, _, rfl, rfl, _, rfl, ?_⟩
          by_cases hz : z < 0
          · rw [decide_eq_true hz]
            exact iteT (bad (decide_eq_false (by omega)))
          · rw [decide_eq_false hz]
            exact iteF ⟨_, rfl, rfl, good (decide_eq_true (by omega))⟩
        | bool b =>
          cases dx1
          refine ⟨_, rfl, _, _, _, _, _, rfl, .ty _, .base (.bl b), kit_ty (r := true) (by decide), _, rfl, iteF ?_⟩
          exact ⟨_, rfl, _, _, _, _, _, rfl, .ty _, .base (.bl b), kit_ty (r := true) (by decide), _, rfl, iteT (iteT (bad rfl))⟩
        | none => cases dx1; exact ⟨_, rfl, _, _, _, _, _, rfl, .ty _, .base .non, kit_ty (r := false) (by decide), _, rfl, iteT (iteT (bad rfl))⟩
        | str b => cases dx1; exact ⟨_, rfl, _, _, _, _, _, rfl, .ty _, .base (.str b), kit_ty (r := false) (by decide), _, rfl, iteT (iteT (bad rfl))⟩
        | list b =>
          cases dx1 with
          | lst sy _ => exact ⟨_, rfl, _, _, _, _, _, rfl, .ty _, ty_seq sy, kit_ty (r := false) (by decide), _, rfl, iteT (iteT (bad rfl))⟩
        | tuple b =>
          cases dx1 with
          | tup sy _ => exact ⟨_, rfl, _, _, _, _, _, rfl, .ty _, ty_tup sy, kit_ty (r := false) (by decide), _, rfl, iteT (iteT (bad rfl))⟩
        | dict b => cases dx1
      · rintro σ H' ⟨w, rfl, rfl, hall⟩
        rw [List.take_of_length_le (by omega)] at hall
        have h40 := h40 ds (by simp)
        have n40 : ∀ m ∈ ds.map natD, m ≤ 40 := fun m hm => by
          obtain ⟨e, he, rfl⟩ := List.mem_map.mp hm
          have hn := List.all_eq_true.mp hall e he
          cases e with
          | int z =>
            have := h40 z he
            show z.toNat ≤ 40
            omega
          | _ => exact Nat.zero_le _
        refine ⟨_, rfl, a, xs, rfl, .inl ⟨sx1, fun D hD => lc_list (K := K) (a := a) (xs := xs) (fun i H2 => Same H' H2 ∧ H2 D = some (.lst ((((ds.take i).map natD).map fun n : Nat => (1 : Int) * 2 ^ ((40 : Int) - (n : Int)).toNat).map V.int))) ⟨same_upd hD, upd_same⟩ ?_ ?_ ?_⟩⟩
        · rintro i H2 _ ⟨sm, _⟩
          exact sm.seq sx1
        · rintro i x H2 hi ⟨sm, eD⟩
          obtain ⟨e, he, dx⟩ := DpAll.get' ax hi
          have hi' := (List.getElem?_eq_some_iff.mp he).1
          have hn := List.all_eq_true.mp hall e (List.mem_of_getElem? he)
          obtain ⟨z, rfl, hz⟩ : ∃ z, e = .int z ∧ 0 ≤ z := by
            cases e with
            | int z => exact ⟨z, rfl, of_decide_eq_true hn⟩
            | _ => cases hn
          have hz40 := h40 z (List.mem_of_getElem? he)
          cases dx
          refine ⟨rfl, iteT (B := Same H' H2 ∧ H2 D = some (.lst ((((ds.take (i + 1)).map natD).map fun n : Nat => (1 : Int) * 2 ^ ((40 : Int) - (n : Int)).toNat).map V.int))) ?_⟩
          have cs : CShl 1 ((40 : Int) - z) := ⟨by omega, by rw [show Builtin.Int.intBits 1 = 1 by decide]; omega⟩
          refine ⟨_, rfl, _, _, rfl, rfl, _, _, rfl, rfl, cs, _, eD, szl (by rw [List.length_map, List.length_map, List.length_map, List.length_take]; omega), same_out sm hD, ?_⟩
          rw [upd_same, List.take_succ, he, List.map_append, List.map_append, List.map_append]
          show _ = some (HO.lst (_ ++ [V.int ((1 : Int) * 2 ^ ((40 : Int) - ((z.toNat : Nat) : Int)).toNat)]))
          rw [Int.toNat_of_nonneg hz]
        · rintro H2 ⟨sm, eD⟩
          rw [List.take_of_length_le (by omega)] at eD
          refine ⟨D, _, rfl, SqL.of eD, _, _, rfl, rfl, ⟨by decide, by decide⟩, _, _, rfl, rfl, ?_⟩
          have := q H2 (s1'.trans sm)
          have e2 : areD (.list ds) = decide (((ds.map natD).map fun n : Nat => (1 : Int) * 2 ^ ((40 : Int) - (n : Int)).toNat).sum ≤ 1 * 2 ^ (40 : Int).toNat) := by
            rw [kr_sum _ n40]
            show (ds.all isNumD && decide (kr (ds.map natD) ≤ 2 ^ 40)) = _
            rw [hall, Bool.true_and]
            rw [show (1 : Int) * 2 ^ (40 : Int).toNat = ((2 ^ 40 : Nat) : Int) by decide]
            simp only [Int.ofNat_le]
          rw [e2] at this
          exact this
    | tuple ds =>
      cases hv with
      | tup sx ax =>
      rename_i a xs
      cases n with
      | zero => cases hok
      | succ n =>
      obtain ⟨lz, _⟩ := okD_seq hok
      have lx := DpAll.len ax
      refine ⟨_, rfl, szle (by show 2 ≤ 16777216; decide), fun tp htp => ?_⟩
      have s1 := same_upd (o := .tup [.ty "list", .ty "tuple"]) htp
      refine ⟨_, tp, [.ty "list", .ty "tuple"], _, [.type "list", .type "tuple"], true, rfl, upd_same, .cons (.ty _) (.cons (.ty _) .nil), ty_tup (sameT s1 sx), k2 "tuple" false true (by decide) (by decide), _, rfl, iteF ?_⟩
      obtain ⟨H1, eH⟩ : ∃ H1, upd H tp (.tup [.ty "list", .ty "tuple"]) = H1 := ⟨_, rfl⟩
      have s1' : Same H H1 := by rw [← eH]; exact s1
      have sx1 := sameT s1' sx
      refine ⟨_, rfl, a, xs, rfl, .inr ⟨by rw [eH]; exact sx1, for_tup (K := K) (a := a) (xs := xs) (fun i σ H' => ∃ w : Option V, σ = [some (.ref a), w] ∧ H' = H1 ∧ (ds.take i).all isNumD = true) ⟨none, rfl, eH, rfl⟩ ?_ ?_ ?_⟩⟩
      · rintro i σ H' _ ⟨_, rfl, rfl, _⟩
        exact sx1
      · rintro i x σ H' hi ⟨w, rfl, rfl, hall⟩
        obtain ⟨e, he, dx⟩ := DpAll.get' ax hi
        have dx1 := Dp.mono s1' _ _ dx
        have bad : isNumD e = false → Q (.bl false) H' := fun hb => by
          have : areD (.tuple ds) = false := by
            show (ds.all isNumD && decide (kr (ds.map natD) ≤ 2 ^ 40)) = false
            rw [show ds.all isNumD = false from Bool.eq_false_iff.mpr fun z => by
              have := List.all_eq_true.mp z e (List.mem_of_getElem? he)
              rw [hb] at this
              cases this]
            rfl
          have := q H' s1'
          rwa [‹areD (.tuple ds) = false›] at this
        have good : isNumD e = true → (ds.take (i + 1)).all isNumD = true := fun hg => by
          rw [List.take_succ, he, List.all_append, hall]
          simpa using hg
        cases e with
        | int z =>
          cases dx1
          refine ⟨_, rfl, _, _, _, _, _, rfl, .ty _, .base (.int z), kit_ty (r := true) (by decide), _, rfl, iteF ?_⟩
          refine ⟨_, rfl, _, _, _, _, _, rfl, .ty _, .base (.int z), kit_ty (r := false) (by decide), _, rfl, iteF ?_⟩
          refine ⟨_, rfl, _, _, rfl, rfl, _, rfl, ?_⟩
          by_cases hz : z < 0
          · rw [decide_eq_true hz]
            exact iteT (bad (decide_eq_false (by omega)))
          · rw [decide_eq_false hz]
            exact iteF ⟨_, rfl, rfl, good (decide_eq_true (by omega))⟩
        | bool b =>
          cases dx1
          refine ⟨_, rfl, _, _, _, _, _, rfl, .ty _, .base (.bl b), kit_ty (r := true) (by decide), _, rfl, iteF ?_⟩
          exact ⟨_, rfl, _, _, _, _, _, rfl, .ty _, .base (.bl b), kit_ty (r := true) (by decide), _, rfl, iteT (iteT (bad rfl))⟩
        | none => cases dx1; exact ⟨_, rfl, _, _, _, _, _, rfl, .ty _, .base .non, kit_ty (r := false) (by decide), _, rfl, iteT (iteT (bad rfl))⟩
        | str b => cases dx1; exact ⟨_, rfl, _, _, _, _, _, rfl, .ty _, .base (.str b), kit_ty (r := false) (by decide), _, rfl, iteT (iteT (bad rfl))⟩
        | list b =>
          cases dx1 with
          | lst sy _ => exact ⟨_, rfl, _, _, _, _, _, rfl, .ty _, ty_seq sy, kit_ty (r := false) (by decide), _, rfl, iteT (iteT (bad rfl))⟩
        | tuple b =>
          cases dx1 with
          | tup sy _ => exact ⟨_, rfl, _, _, _, _, _, rfl, .ty _, ty_tup sy, kit_ty (r := false) (by decide), _, rfl, iteT (iteT (bad rfl))⟩
        | dict b => cases dx1
      · rintro σ H' ⟨w, rfl, rfl, hall⟩
        rw [List.take_of_length_le (by omega)] at hall
        have h40 := h40 ds (by simp)
        have n40 : ∀ m ∈ ds.map natD, m ≤ 40 := fun m hm => by
          obtain ⟨e, he, rfl⟩ := List.mem_map.mp hm
          have hn := List.all_eq_true.mp hall e he
          cases e with
          | int z =>
            have := h40 z he
            show z.toNat ≤ 40
            omega
          | _ => exact Nat.zero_le _
        refine ⟨_, rfl, a, xs, rfl, .inr ⟨sx1, fun D hD => lc_tup (K := K) (a := a) (xs := xs) (fun i H2 => Same H' H2 ∧ H2 D = some (.lst ((((ds.take i).map natD).map fun n : Nat => (1 : Int) * 2 ^ ((40 : Int) - (n : Int)).toNat).map V.int))) ⟨same_upd hD, upd_same⟩ ?_ ?_ ?_⟩⟩
        · rintro i H2 _ ⟨sm, _⟩
          exact sameT sm sx1
        · rintro i x H2 hi ⟨sm, eD⟩
          obtain ⟨e, he, dx⟩ := DpAll.get' ax hi
          have hi' := (List.getElem?_eq_some_iff.mp he).1
          have hn := List.all_eq_true.mp hall e (List.mem_of_getElem? he)
          obtain ⟨z, rfl, hz⟩ : ∃ z, e = .int z ∧ 0 ≤ z := by
            cases e with
            | int z => exact ⟨z, rfl, of_decide_eq_true hn⟩
            | _ => cases hn
          have hz40 := h40 z (List.mem_of_getElem? he)
          cases dx
          refine ⟨rfl, iteT (B := Same H' H2 ∧ H2 D = some (.lst ((((ds.take (i + 1)).map natD).map fun n : Nat => (1 : Int) * 2 ^ ((40 : Int) - (n : Int)).toNat).map V.int))) ?_⟩
          have cs : CShl 1 ((40 : Int) - z) := ⟨by omega, by rw [show Builtin.Int.intBits 1 = 1 by decide]; omega⟩
          refine ⟨_, rfl, _, _, rfl, rfl, _, _, rfl, rfl, cs, _, eD, szl (by rw [List.length_map, List.length_map, List.length_map, List.length_take]; omega), same_out sm hD, ?_⟩
          rw [upd_same, List.take_succ, he, List.map_append, List.map_append, List.map_append]
          show _ = some (HO.lst (_ ++ [V.int ((1 : Int) * 2 ^ ((40 : Int) - ((z.toNat : Nat) : Int)).toNat)]))
          rw [Int.toNat_of_nonneg hz]
        · rintro H2 ⟨sm, eD⟩
          rw [List.take_of_length_le (by omega)] at eD
          refine ⟨D, _, rfl, SqL.of eD, _, _, rfl, rfl, ⟨by decide, by decide⟩, _, _, rfl, rfl, ?_⟩
          have := q H2 (s1'.trans sm)
          have e2 : areD (.tuple ds) = decide (((ds.map natD).map fun n : Nat => (1 : Int) * 2 ^ ((40 : Int) - (n : Int)).toNat).sum ≤ 1 * 2 ^ (40 : Int).toNat) := by
            rw [kr_sum _ n40]
            show (ds.all isNumD && decide (kr (ds.map natD) ≤ 2 ^ 40)) = _
            rw [hall, Bool.true_and]
            rw [show (1 : Int) * 2 ^ (40 : Int).toNat = ((2 ^ 40 : Nat) : Int) by decide]
            simp only [Int.ofNat_le]
          rw [e2] at this
          exact this
end

def spCodeOf (K : PySem.W.Frag) (CT : Addr) : Sp := fun vs H Q E => ∃ (v : V) (d : PyData) (n : Nat), vs = [v] ∧ Dp K H v d ∧ okD n d = true ∧ (rowD d = true → ∀ n ∈ lensD d, n ≤ 40) ∧
  ((areD d = true ∧ ∀ H' p ks, Same H H' → IsOrd (lensD d) ks → H' p = some (.tup ((codeS ks (lensD d).length).map V.str)) → Q (.ref p) H') ∨ (areD d = false ∧ ∀ H' dd, Same H H' → H' dd = some (.xd [("lengths", v)]) → E (.ref CT) (some dd) H'))
section
variable {P : Program} {w : World} {K : PySem.W.Frag} {mg : Str → Option Value} {base : Heap} {C_TooFull : Addr}
theorem ok_code_of {f : Addr} {fd : FuncData} (F : Fun K "code_of" "code_of" s_code_of f fd) (T : Txt K mg) (x_TooFull : XErr P K mg "TooFull" C_TooFull ["lengths"]) (c_are_numbers : Cal P w K mg base 3 "are_numbers" (spRow K)) (c_is_room_for : Cal P w K mg base 1 "_is_room_for" (spRoom K)) (c_word_of : Cal P w K mg base 1 "word_of" spWordOf) : FnOk P w K mg base (L2N.CX P w) 4 f fd ["lengths"] (spCodeOf K C_TooFull) := by
  refine Fun_okN F sc_code_of (fun vs H Q E h => ?_) (fun cdv A outer s H vs Q E hr h => ?_)
  · obtain ⟨v, d, n, rfl, _⟩ := h
    rfl
  · obtain ⟨v, d, n, rfl, hv, hok, hlen, q⟩ := h
    refine ⟨_, (pss_cons (ps_if (PW.pt (pw_or (pt_not (pt_val (pe_c c_are_numbers hr (by omega) (by rfl) (pa_cons (pv 0) pa_nil)))) (pw_or1 (pt_not (pt_val (pe_c c_is_room_for hr (by omega) (by rfl) (pa_cons (pe_callB cr_sortedLT (by rfl) T.b_sorted (by decide +kernel) (pa_cons (pv 0) pa_nil)) pa_nil)))))))
      (pss_one (ps_raiseX rfl x_TooFull hr (L2N.takes_of rfl rfl rfl rfl) (pa_cons (pv 0) pa_nil)))
      pss_nil)
    (pss_cons (ps_set (i := 1) sc_code_of.nd rfl (by first | exact Or.inl rfl | exact Or.inr rfl) (pe_op op_rep (pe_lst (pa_cons pe_str pa_nil)) (pe_callB call_len_seq (by rfl) T.b_len PySem.boot_len (pa_cons (pv 0) pa_nil))))
    (pss_cons (ps_set (i := 2) sc_code_of.nd rfl (by first | exact Or.inl rfl | exact Or.inr rfl) pe_int)
    (pss_cons (ps_set (i := 3) sc_code_of.nd rfl (by first | exact Or.inl rfl | exact Or.inr rfl) pe_int)
    (pss_cons (ps_for (passes_of rfl) rfl (pi_list (pe_callB cr_sortedPO (by rfl) T.b_sorted (by decide +kernel) (pa_cons (pe_lc (own := [("place", 5), ("length", 4)]) rfl sc_code_of.nd (pi_enumJ (by rfl) T.b_enumerate (pa_cons (pv 0) pa_nil)) (blkOk_by (own := [("place", 5), ("length", 4)]) (N := ["lengths", "words", "value", "before", "length", "place"]) (sc := defScope s_code_of) (by decide +kernel)) (fun _ _ _ _ _ => (pg_two K (i := 5) (j := 4) sc_code_of.nd rfl rfl)) (fun _ _ _ _ _ => pts_nil) (fun _ _ _ _ _ => (pe_tup (pa_cons (pv 4) (pa_cons (pv 5) pa_nil))))) pa_nil))) (pg_tup rfl (pgs_cons (pg_name (i := 4) sc_code_of.nd rfl (by first | exact Or.inl rfl | exact Or.inr rfl)) (pgs_cons (pg_name (i := 5) sc_code_of.nd rfl (by first | exact Or.inl rfl | exact Or.inr rfl)) pgs_nil)))
      (pss_cons (ps_set (i := 2) sc_code_of.nd rfl (by first | exact Or.inl rfl | exact Or.inr rfl) (pe_op op_shlW (pv 2) (pe_op op_sub (pv 4) (pv 3))))
        (pss_cons (ps_asg (pe_c c_word_of hr (by omega) (by rfl) (pa_cons (pv 2) (pa_cons (pv 4) pa_nil))) (pg_sub (pv 1) (pv 5) set_list))
        (pss_cons (ps_set (i := 2) sc_code_of.nd rfl (by first | exact Or.inl rfl | exact Or.inr rfl) (pe_op op_add (pv 2) pe_int))
        (pss_one (ps_set (i := 3) sc_code_of.nd rfl (by first | exact Or.inl rfl | exact Or.inr rfl) (pv 4)))))))
    (pss_one (ps_ret (pe_callTy call_tuple_of (by rfl) T.b_tuple (by decide +kernel) (pa_cons (pv 1) pa_nil))))))))), ?_⟩
    refine ⟨_, rfl, v, d, n, rfl, hv, hok, fun H1 s1 => ⟨_, rfl, ?_⟩⟩
    cases hrw : rowD d with
    | false =>
      refine iteT ?_
      have ha : areD d = false := by unfold areD; rw [hrw]; rfl
      rcases q with ⟨z, _⟩ | ⟨_, q⟩
      · rw [ha] at z; cases z
      · exact ⟨_, rfl, rfl, fun dd hd => q _ dd (s1.trans (same_upd hd)) upd_same⟩
    | true =>
      refine iteF ?_
      obtain ⟨a, rfl, hS, hl5⟩ := row_at hv hok hrw
      have h40 := hlen hrw
      obtain ⟨ls, el⟩ : ∃ ls, lensD d = ls := ⟨_, rfl⟩
      have ha : areD d = decide (kr ls ≤ 2 ^ 40) := by unfold areD; rw [hrw, el]; rfl
      rw [el, ha] at q
      rw [el] at hS h40 hl5
      have em : (ls.map fun n : Nat => (n : Int)).map V.int = ls.map nI := by rw [List.map_map]; rfl
      have hS1 : SqL K H1 a (ls.map nI) ∨ SqT K H1 a (ls.map nI) := hS.imp (fun z => s1.seq z) fun z => sameT s1 z
      refine ⟨_, rfl, a, ls.map fun n : Nat => (n : Int), rfl, by rw [em]; exact hS1, fun ns p hp hpw hn => ?_⟩
      obtain ⟨ss, rfl⟩ : ∃ ss : List Nat, ns = ss.map fun n : Nat => (n : Int) := by
        refine ⟨ns.map Int.toNat, ?_⟩
        rw [List.map_map]
        refine (List.map_id' ns).symm.trans (List.map_congr_left fun z hz => ?_)
        obtain ⟨k, _, rfl⟩ := List.mem_map.mp (hp.mem_iff.mp hz)
        simp
      have hperm : ss.Perm ls := by
        have := hp.map Int.toNat
        rw [List.map_map, List.map_map, show (Int.toNat ∘ fun n : Nat => (n : Int)) = id from funext fun n => Int.toNat_natCast n, List.map_id, List.map_id] at this
        exact this
      have hsort : ss.Pairwise (· ≤ ·) := by
        rw [List.pairwise_map] at hpw
        exact hpw.imp fun z => by omega
      have hkr : kr ls = kr ss := (kr_perm hperm).symm
      have eP : upd H1 p (.lst ((ss.map fun n : Nat => (n : Int)).map V.int)) p = some (.lst (ss.map nI)) := by
        rw [upd_same, List.map_map]
        rfl
      have s2 := s1.trans (same_upd (o := .lst ((ss.map fun n : Nat => (n : Int)).map V.int)) hn)
      obtain ⟨H2, e2⟩ : ∃ H2, upd H1 p (.lst ((ss.map fun n : Nat => (n : Int)).map V.int)) = H2 := ⟨_, rfl⟩
      rw [e2] at s2 eP ⊢
      refine ⟨p, ss, rfl, SqL.of eP, hsort, fun n hn => h40 n (hperm.mem_iff.mp hn), _, rfl, ?_⟩
      rw [← hkr]
      rcases q with ⟨hk, q⟩ | ⟨hk, q⟩
      · rw [hk]
        refine iteF ?_
        have hk' : kr ls ≤ 2 ^ 40 := of_decide_eq_true hk
        have hS2 : SqL K H2 a (ls.map nI) ∨ SqT K H2 a (ls.map nI) := hS.imp (fun z => s2.seq z) fun z => sameT s2 z
        -- words
        refine ⟨szle (by show 1 ≤ 16777216; decide), fun a1 h1 => ?_⟩
        have s3 := same_upd (o := .lst [V.str ""]) h1
        refine ⟨_, rfl, a, _, rfl, hS2.imp (fun z => s3.seq z) (fun z => sameT s3 z), a1, _, _, rfl, rfl, upd_same, by omega, by rw [List.length_map]; omega, szle (by rw [List.length_map]; show 1 * _ ≤ _; omega), fun a3 h3 => ?_⟩
        have n13 : a1 ≠ a3 := ne_of_none upd_same h3
        have s4 := s3.trans (same_upd (o := .lst (List.replicate (((ls.map nI).length : Nat) : Int).toNat [V.str ""]).flatten) h3)
        have e3 : upd (upd H2 a1 (.lst [V.str ""])) a3 (.lst (List.replicate (((ls.map nI).length : Nat) : Int).toNat [V.str ""]).flatten) a3 = some (.lst ((List.replicate ls.length ("" : Str)).map V.str)) := by
          rw [upd_same, rep_flat, List.map_replicate, Int.toNat_natCast, List.length_map]
        obtain ⟨H3, eH3⟩ : ∃ H3, upd (upd H2 a1 (.lst [V.str ""])) a3 (.lst (List.replicate (((ls.map nI).length : Nat) : Int).toNat [V.str ""]).flatten) = H3 := ⟨_, rfl⟩
        rw [eH3] at s4 e3 ⊢
        have a3n : H a3 = none := by
          have := (s2.trans s3).free h3
          exact this
        have s5 := s2.trans s4
        have hS3 := hS2.imp (fun z => s4.seq z) (fun z => sameT s4 z)
        refine ⟨_, rfl, a, _, rfl, hS3, fun J S LE sJ => fun D hD => lc_enumJ LE (fun i H' => ∃ ts : List V, Same H3 H' ∧ H' D = some (.lst ts) ∧ ts.length = i ∧ ∀ (j : Nat) (y : V), ts[j]? = some y → ∃ (t : Addr) (l : Nat), y = .ref t ∧ ls[j]? = some l ∧ H' t = some (.tup [.int (l : Int), .int (j : Int)])) ⟨[], same_upd hD, upd_same, rfl, fun j y h => by cases h⟩ (fun i H' _ h => by obtain ⟨_, sm, _⟩ := h; exact LE.mono _ _ sm sJ) ?_ ?_⟩
        · rintro i x H' hi ⟨ts, sm, eD, hl, hts⟩ T hT
          obtain ⟨l, hil, rfl⟩ := getN hi
          have hil' := (List.getElem?_eq_some_iff.mp hil).1
          refine ⟨T, _, rfl, SqT.of upd_same, rfl, _, _, rfl, _, _, rfl, rfl, ?_⟩
          refine ⟨rfl, iteT (B := ∃ ts : List V, Same H3 H' ∧ H' D = some (.lst ts) ∧ ts.length = i + 1 ∧ ∀ (j : Nat) (y : V), ts[j]? = some y → ∃ (t : Addr) (l : Nat), y = .ref t ∧ ls[j]? = some l ∧ H' t = some (.tup [.int (l : Int), .int (j : Int)])) ?_⟩
          have sT := sm.trans (same_upd (o := .tup [.int (i : Nat), nI l]) hT)
          refine ⟨_, rfl, _, rfl, szle (by show 2 ≤ 16777216; decide), fun t2 ht2 => ?_⟩
          have nD2 : D ≠ t2 := fun z => by
            have nDT : D ≠ T := ne_of_none eD hT
            rw [← z, upd_ne nDT, eD] at ht2
            cases ht2
          have nDT : D ≠ T := ne_of_none eD hT
          have sT2 := sT.trans (same_upd (o := .tup [nI l, .int (i : Nat)]) ht2)
          refine ⟨ts, by rw [upd_ne nD2, upd_ne nDT]; exact eD, szl (by omega), ts ++ [.ref t2], same_out sT2 hD, upd_same, by simp [hl], fun j y hj => ?_⟩
          by_cases hlt : j < ts.length
          · rw [List.getElem?_append_left hlt] at hj
            obtain ⟨t, l', ey, hlj, ht⟩ := hts j y hj
            refine ⟨t, l', ey, hlj, ?_⟩
            have ntD : t ≠ D := fun z => by rw [z, eD] at ht; cases ht
            rw [upd_ne ntD]
            exact same_upd ht2 _ _ (same_upd hT _ _ ht)
          · have hj2 := (List.getElem?_eq_some_iff.mp hj).1
            have e : j = i := by simp at hj2; omega
            subst e
            rw [List.getElem?_append_right (by omega), hl, Nat.sub_self] at hj
            cases Option.some.inj hj
            exact ⟨t2, l, rfl, hil, by rw [upd_ne nD2.symm]; exact upd_same⟩
        rintro H4 ⟨ts, sm, eD, hl, hts⟩
        have hln : (ls.map nI).length = ls.length := List.length_map ..
        rw [hln] at hl
        obtain ⟨pm1, pm2⟩ := pairs_made hl hts
        refine ⟨D, ts, kOf H4, rfl, SqL.of eD, pm2, fun ys po srt stb hpo => ?_⟩
        have ho := ord_of pm1 srt stb.perm
        have hperm2 := stb.perm
        obtain ⟨ks, eks⟩ : ∃ ks, ys.map (kOf H4) = ks := ⟨_, rfl⟩
        rw [eks] at ho
        have e34 := sm _ _ e3
        have s6 := same_upd (o := .lst ys) hpo
        have eO : upd H4 po (.lst ys) po = some (.lst ys) := upd_same
        have hy : ∀ (i : Nat) (y : V), ys[i]? = some y → ∃ (t : Addr) (l k : Nat), y = .ref t ∧ ks[i]? = some ((l : Int), (k : Int)) ∧ ls[k]? = some l ∧ H4 t = some (.tup [.int (l : Int), .int (k : Int)]) := fun i y hi => by
          obtain ⟨t, ey, ht⟩ := pm2 y (hperm2.mem_iff.mp (List.mem_of_getElem? hi))
          have hki : ks[i]? = some (kOf H4 y) := by rw [← eks, List.getElem?_map, hi]; rfl
          obtain ⟨l, k, ek, hlk⟩ := ho.mem (List.mem_of_getElem? hki)
          rw [ek] at ht hki
          exact ⟨t, l, k, ey, hki, hlk, ht⟩
        obtain ⟨H5, eH5⟩ : ∃ H5, upd H4 po (.lst ys) = H5 := ⟨_, rfl⟩
        rw [eH5] at s6 eO ⊢
        have nO3 : po ≠ a3 := fun z => by rw [z, e34] at hpo; cases hpo
        have e35 := s6 _ _ e34
        have hkr2 := ho.kr
        have hkk : kr (ks.map fun p => p.1.toNat) ≤ 2 ^ 40 := by rw [hkr2]; exact hk'
        refine ⟨po, rfl, ⟨_, SqL.of eO⟩, for_list (K := K) (a := po) (xs := ys) (fun i σ H' => ∃ (v4 v5 : Option V) (value before used : Nat) (x y : Int) (ws : List Str), σ = [some (.ref a), some (.ref a3), some (.int x), some (.int y), v4, v5] ∧ x = (value : Int) ∧ y = (before : Int) ∧ Same (rem H5 a3) H' ∧ H' a3 = some (.lst (ws.map V.str)) ∧ Cd ks ls.length i used ws ∧ used = value * 2 ^ (40 - before) ∧ (∀ p, ks[i]? = some p → (before : Int) ≤ p.1))
          ⟨_, _, 0, 0, 0, _, _, _, rfl, rfl, rfl, rem_same, e35, Cd.ini ks ls.length, by simp, fun p hp => by obtain ⟨l, k, rfl, _⟩ := ho.mem (List.mem_of_getElem? hp); show (0 : Int) ≤ (l : Int); omega⟩ (fun i σ H' _ h => ?_) ?_ ?_⟩
        · obtain ⟨_, _, _, _, _, _, _, _, _, _, _, sr, _⟩ := h
          exact SqL.of (sr _ _ (rem_at eO nO3))
        · rintro i x σ H' hi ⟨v4, v5, value, before, used, x1, y1, ws, rfl, rfl, rfl, sr, ew, C, hu, hb⟩
          obtain ⟨t, l, k, rfl, hki, hlk, ht⟩ := hy i x hi
          have hkn := (List.getElem?_eq_some_iff.mp hlk).1
          have hl40 := h40 l (List.mem_of_getElem? hlk)
          have nt3 : t ≠ a3 := fun z => by rw [z, e34] at ht; cases ht
          have ht' := sr _ _ (rem_at (s6 _ _ ht) nt3)
          have hbl : before ≤ l := by have : (before : Int) ≤ (l : Int) := hb _ hki; omega
          have hroom := C.room hki hkk
          obtain ⟨w1, w2, w3⟩ := val_step hu hbl hl40 hroom
          have cs : CShl (value : Int) ((l : Int) - (before : Int)) := by
            have hv41 : value < 2 ^ 41 := by
              have h1 : 1 ≤ 2 ^ (l - before) := Nat.pow_pos (by decide)
              have h2 : value * 1 ≤ value * 2 ^ (l - before) := Nat.mul_le_mul_left _ h1
              have h3 : 2 ^ l ≤ 2 ^ 40 := Nat.pow_le_pow_right (by decide) hl40
              omega
            have := bits_dn hv41
            exact ⟨by omega, by omega⟩
          have ev : (value : Int) * 2 ^ ((l : Int) - (before : Int)).toNat = ((value * 2 ^ (l - before) : Nat) : Int) := by
            rw [show ((l : Int) - (before : Int)).toNat = l - before by omega, Int.natCast_mul, Int.natCast_pow]
            rfl
          refine ⟨t, _, rfl, SqT.of ht', rfl, _, _, rfl, _, _, rfl, rfl, ?_⟩
          refine ⟨_, rfl, _, rfl, _, rfl, _, _, rfl, rfl, _, _, rfl, rfl, cs, ?_⟩
          refine ⟨_, rfl, _, rfl, value * 2 ^ (l - before), l, congrArg (fun z => [V.int z, V.int (l : Int)]) ev, w2, by omega, ?_⟩
          refine ⟨_, rfl, _, rfl, a3, _, _, k, rfl, rfl, ew, ixN_nat (by rw [List.length_map, C.len]; exact hkn), ?_⟩
          refine ⟨_, rfl, _, _, rfl, rfl, ?_⟩
          refine ⟨_, rfl, ?_⟩
          have C2 := C.nxt hki
          rw [← w1] at C2
          refine ⟨_, _, value * 2 ^ (l - before) + 1, l, _, _, _, ws.set k (wordS l (value * 2 ^ (l - before))), rfl, ?_, rfl, same_out sr rem_self, by rw [upd_same, List.map_set], C2, w3, fun p hp => ?_⟩
          · show (value : Int) * 2 ^ ((l : Int) - (before : Int)).toNat + 1 = _
            rw [ev]
            rfl
          · obtain ⟨h1, e1⟩ := List.getElem?_eq_some_iff.mp hki
            obtain ⟨h2, e2⟩ := List.getElem?_eq_some_iff.mp hp
            have := List.pairwise_iff_getElem.mp ho.2 i (i + 1) h1 h2 (Nat.lt_succ_self _)
            rw [e1, e2] at this
            have := SrtO.lexB_no.mp this
            show (l : Int) ≤ p.1
            simp only at this
            omega
        · rintro σ H' ⟨v4, v5, value, before, used, x1, y1, ws, rfl, rfl, rfl, sr, ew, C, hu, hb⟩
          have hlen2 : ys.length = ks.length := by rw [← eks, List.length_map]
          rw [hlen2] at C
          have eC := C.fin
          refine ⟨_, rfl, a3, _, rfl, .inl ⟨SqL.of ew, fun pt hpt => ?_⟩⟩
          have sF : Same H H' := (same_rem (s5.trans (sm.trans s6)) a3n).trans sr
          exact q _ pt ks (sF.trans (same_upd hpt)) ho (by rw [upd_same, eC])
      · rw [hk]
        exact iteT ⟨_, rfl, rfl, fun dd hd => q _ dd (s2.trans (same_upd hd)) upd_same⟩
end

def spLawCode (K : PySem.W.Frag) : Sp := fun vs H Q _ => ∃ (v : V) (d : PyData) (n : Nat), vs = [v] ∧ Dp K H v d ∧ okD n d = true ∧ rowD d = true ∧ (∀ n ∈ lensD d, n ≤ 40) ∧ kr (lensD d) ≤ 2 ^ 40 ∧
  ∀ H' p ks, Same H H' → IsOrd (lensD d) ks → H' p = some (.tup ((codeS ks (lensD d).length).map V.str)) → Q (.ref p) H'
theorem shr_nat {used l : Nat} (h : l ≤ 40) : (used : Int) / 2 ^ ((40 : Int) - (l : Int)).toNat = ((used / 2 ^ (40 - l) : Nat) : Int) := by
  rw [show ((40 : Int) - (l : Int)).toNat = 40 - l by omega, Int.natCast_ediv, Int.natCast_pow]
  rfl
section
variable {P : Program} {w : World} {K : PySem.W.Frag} {mg : Str → Option Value} {base : Heap}
theorem ok_law_code {f : Addr} {fd : FuncData} (F : Fun K "_law_code" "_law_code" s_law_code f fd) (T : Txt K mg) (c_law_word : Cal P w K mg base 1 "_law_word" spLawWord) : FnOk P w K mg base CX0 2 f fd ["lengths"] (spLawCode K) := by
  refine F.ok sc_law_code (fun vs H Q E h => ?_) (fun cdv A outer s H vs Q E hr h => ?_)
  · obtain ⟨v, d, n, rfl, _⟩ := h
    rfl
  · obtain ⟨v, d, n, rfl, hv, hok, hrw, h40, hk, q⟩ := h
    refine ⟨_, (pss_cons (ps_set (i := 1) sc_law_code.nd rfl (by first | exact Or.inl rfl | exact Or.inr rfl) (pe_callB cr_sortedPO (by rfl) T.b_sorted (by decide +kernel) (pa_cons (pe_lc (own := [("k", 2)]) rfl sc_law_code.nd (pi_range1 (by rfl) T.b_range (pa_cons (pe_callB call_len_seq (by rfl) T.b_len PySem.boot_len (pa_cons (pv 0) pa_nil)) pa_nil)) (blkOk_by (own := [("k", 2)]) (N := ["lengths", "order", "k", "words", "used", "pair"]) (sc := defScope s_law_code) (by decide +kernel)) (fun _ _ _ _ _ => (pg_name (i := 2) sc_law_code.nd rfl (by first | exact Or.inl rfl | exact Or.inr rfl))) (fun _ _ _ _ _ => pts_nil) (fun _ _ _ _ _ => (pe_tup (pa_cons (pe_ix (show IxR _ (rIx K) from ix_seq) (pv 0) (pv 2) (fun _ _ => rfl)) (pa_cons (pv 2) pa_nil))))) pa_nil)))
    (pss_cons (ps_setLc (i := 3) (own := [("k", 2)]) rfl sc_law_code.nd rfl rfl (sw_true rfl rfl rfl (by decide +kernel)) (pi_seqJ (pv 0)) (blkOk_by (own := [("k", 2)]) (N := ["lengths", "order", "k", "words", "used", "pair"]) (sc := defScope s_law_code) (by decide +kernel)) (fun _ _ _ _ _ => (pg_name (i := 2) sc_law_code.nd rfl (by first | exact Or.inl rfl | exact Or.inr rfl))) (fun _ _ _ _ _ => pts_nil) (fun _ _ _ _ _ => pe_str))
    (pss_cons (ps_set (i := 4) sc_law_code.nd rfl (by first | exact Or.inl rfl | exact Or.inr rfl) pe_int)
    (pss_cons (ps_for PassesOwn.never rfl (pi_list (pv 1)) (pg_name (i := 5) sc_law_code.nd rfl (by first | exact Or.inl rfl | exact Or.inr rfl))
      (pss_cons (ps_asg (pe_c c_law_word hr (by omega) (by rfl) (pa_cons (pe_op op_shr (pv 4) (pe_op op_sub pe_int (pe_ix ix_tup (pv 5) pe_int (fun _ _ => rfl)))) (pa_cons (pe_ix ix_tup (pv 5) pe_int (fun _ _ => rfl)) pa_nil))) (pg_sub (pv 3) (pe_ix ix_tup (pv 5) pe_int (fun _ _ => rfl)) set_list))
        (pss_one (ps_set (i := 4) sc_law_code.nd rfl (by first | exact Or.inl rfl | exact Or.inr rfl) (pe_op op_add (pv 4) (pe_op op_shlW pe_int (pe_op op_sub pe_int (pe_ix ix_tup (pv 5) pe_int (fun _ _ => rfl)))))))))
    (pss_one (ps_ret (pe_callTy call_tuple_of (by rfl) T.b_tuple (by decide +kernel) (pa_cons (pv 3) pa_nil)))))))), ?_⟩
    obtain ⟨a, rfl, hS, hl5⟩ := row_at hv hok hrw
    obtain ⟨ls, el⟩ : ∃ ls, lensD d = ls := ⟨_, rfl⟩
    rw [el] at hS h40 hl5 hk q
    have hln : (ls.map nI).length = ls.length := List.length_map ..
    refine ⟨_, rfl, a, _, rfl, hS, ls.length, by rw [hln], by omega, by omega, fun D hD => lc_range (lo := 0) (n := ls.length) (fun i H' => ∃ ts : List V, Same H H' ∧ H' D = some (.lst ts) ∧ ts.length = i ∧ ∀ (j : Nat) (y : V), ts[j]? = some y → ∃ (t : Addr) (l : Nat), y = .ref t ∧ ls[j]? = some l ∧ H' t = some (.tup [.int (l : Int), .int (j : Int)])) ⟨[], same_upd hD, upd_same, rfl, fun j y h => by cases h⟩ ?_ ?_⟩
    · rintro i H' hi ⟨ts, sm, eD, hl, hts⟩
      have hil : ls[i]? = some ls[i] := List.getElem?_eq_getElem hi
      refine ⟨rfl, iteT (B := ∃ ts : List V, Same H H' ∧ H' D = some (.lst ts) ∧ ts.length = i + 1 ∧ ∀ (j : Nat) (y : V), ts[j]? = some y → ∃ (t : Addr) (l : Nat), y = .ref t ∧ ls[j]? = some l ∧ H' t = some (.tup [.int (l : Int), .int (j : Int)])) ?_⟩
      have cont : ∀ t2 : Addr, H' t2 = none → ∃ acc, upd H' t2 (.tup [nI ls[i], .int (0 + (i : Int))]) D = some (.lst acc) ∧ acc.length < sizeLine ∧ ∃ ts : List V, Same H (upd (upd H' t2 (.tup [nI ls[i], .int (0 + (i : Int))])) D (.lst (acc ++ [V.ref t2]))) ∧ upd (upd H' t2 (.tup [nI ls[i], .int (0 + (i : Int))])) D (.lst (acc ++ [V.ref t2])) D = some (.lst ts) ∧ ts.length = i + 1 ∧ ∀ (j : Nat) (y : V), ts[j]? = some y → ∃ (t : Addr) (l : Nat), y = .ref t ∧ ls[j]? = some l ∧ upd (upd H' t2 (.tup [nI ls[i], .int (0 + (i : Int))])) D (.lst (acc ++ [V.ref t2])) t = some (.tup [.int (l : Int), .int (j : Int)]) := fun t2 ht2 => by
        have nD2 : D ≠ t2 := ne_of_none eD ht2
        refine ⟨ts, by rw [upd_ne nD2]; exact eD, szl (by omega), ts ++ [.ref t2], same_out (sm.trans (same_upd ht2)) hD, upd_same, by simp [hl], fun j y hj => ?_⟩
        by_cases hlt : j < ts.length
        · rw [List.getElem?_append_left hlt] at hj
          obtain ⟨t, l', ey, hlj, ht⟩ := hts j y hj
          refine ⟨t, l', ey, hlj, ?_⟩
          have ntD : t ≠ D := fun z => by rw [z, eD] at ht; cases ht
          rw [upd_ne ntD]
          exact same_upd ht2 _ _ ht
        · have hj2 := (List.getElem?_eq_some_iff.mp hj).1
          have e : j = i := by simp at hj2; omega
          subst e
          rw [List.getElem?_append_right (by omega), hl, Nat.sub_self] at hj
          cases Option.some.inj hj
          exact ⟨t2, ls[j], rfl, hil, by rw [upd_ne nD2.symm, upd_same, Int.zero_add]; rfl⟩
      rcases hS with hS | hS
      · exact ⟨_, rfl, _, rfl, .inl ⟨a, _, _, _, rfl, rfl, sm.seq hS, at_of (j := i) (by omega) (ix_get hil), _, rfl, szle (by show 2 ≤ 16777216; decide), cont⟩⟩
      · exact ⟨_, rfl, _, rfl, .inr (.inl ⟨a, _, _, _, rfl, rfl, sameT sm hS, at_of (j := i) (by omega) (ix_get hil), _, rfl, szle (by show 2 ≤ 16777216; decide), cont⟩)⟩
    rintro H4 ⟨ts, sm, eD, hl, hts⟩
    obtain ⟨pm1, pm2⟩ := pairs_made hl hts
    refine ⟨D, ts, kOf H4, rfl, SqL.of eD, pm2, fun ys po srt stb hpo => ?_⟩
    have ho := ord_of pm1 srt stb.perm
    have hperm2 := stb.perm
    obtain ⟨ks, eks⟩ : ∃ ks, ys.map (kOf H4) = ks := ⟨_, rfl⟩
    rw [eks] at ho
    have s6 := same_upd (o := .lst ys) hpo
    have eO : upd H4 po (.lst ys) po = some (.lst ys) := upd_same
    have hy : ∀ (i : Nat) (y : V), ys[i]? = some y → ∃ (t : Addr) (l k : Nat), y = .ref t ∧ ks[i]? = some ((l : Int), (k : Int)) ∧ ls[k]? = some l ∧ upd H4 po (.lst ys) t = some (.tup [.int (l : Int), .int (k : Int)]) := fun i y hi => by
      obtain ⟨t, ey, ht⟩ := pm2 y (hperm2.mem_iff.mp (List.mem_of_getElem? hi))
      have hki : ks[i]? = some (kOf H4 y) := by rw [← eks, List.getElem?_map, hi]; rfl
      obtain ⟨l, k, ek, hlk⟩ := ho.mem (List.mem_of_getElem? hki)
      rw [ek] at ht hki
      exact ⟨t, l, k, ey, hki, hlk, s6 _ _ ht⟩
    obtain ⟨H5, eH5⟩ : ∃ H5, upd H4 po (.lst ys) = H5 := ⟨_, rfl⟩
    rw [eH5] at s6 eO hy ⊢
    have S5 := sm.trans s6
    have hS5 : SqL K H5 a (ls.map nI) ∨ SqT K H5 a (ls.map nI) := hS.imp (fun z => S5.seq z) fun z => sameT S5 z
    -- words
    refine ⟨_, rfl, a, _, rfl, hS5, fun J S LS sJ => fun D2 hD2 => lc_J LS (fun i H' => Same H5 H' ∧ H' D2 = some (.lst ((List.replicate i ("" : Str)).map V.str))) ⟨same_upd hD2, upd_same⟩ (fun i H' _ h => LS.mono _ _ h.1 sJ) ?_ ?_⟩
    · rintro i x H' hi ⟨sm, e2⟩
      refine ⟨rfl, iteT (B := Same H5 H' ∧ H' D2 = some (.lst ((List.replicate (i + 1) ("" : Str)).map V.str))) ?_⟩
      have hi' := (List.getElem?_eq_some_iff.mp hi).1
      refine ⟨_, e2, szl (by rw [List.length_map, List.length_replicate]; omega), same_out sm hD2, ?_⟩
      rw [upd_same, List.replicate_succ', List.map_append]
      rfl
    rintro H6 ⟨s56, eW⟩
    rw [hln] at eW
    have eO6 := s56 _ _ eO
    have nO2 : po ≠ D2 := ne_of_none eO hD2
    have hkk : kr (ks.map fun p => p.1.toNat) ≤ 2 ^ 40 := by rw [ho.kr]; exact hk
    refine ⟨_, rfl, po, rfl, ⟨_, SqL.of eO6⟩, for_list (K := K) (a := po) (xs := ys) (fun i σ H' => ∃ (v5 : Option V) (used : Nat) (x : Int) (ws : List Str), σ = [some (.ref a), some (.ref po), none, some (.ref D2), some (.int x), v5] ∧ x = (used : Int) ∧ Same H5 H' ∧ H' D2 = some (.lst (ws.map V.str)) ∧ Cd ks ls.length i used ws)
      ⟨_, 0, _, _, rfl, rfl, s56, eW, Cd.ini ks ls.length⟩ (fun i σ H' _ h => ?_) ?_ ?_⟩
    · obtain ⟨_, _, _, _, _, _, sr, _⟩ := h
      exact SqL.of (sr _ _ eO)
    · rintro i x σ H' hi ⟨v5, used, x1, ws, rfl, rfl, sr, ew, C⟩
      obtain ⟨t, l, k, rfl, hki, hlk, ht⟩ := hy i x hi
      have hkn := (List.getElem?_eq_some_iff.mp hlk).1
      have hl40 := h40 l (List.mem_of_getElem? hlk)
      have ht' := sr _ _ ht
      have t0 : atI [V.int (l : Int), V.int (k : Int)] 0 = some (.int (l : Int)) := atI_nat (j := 0) rfl
      have t1 : atI [V.int (l : Int), V.int (k : Int)] 1 = some (.int (k : Int)) := atI_nat (j := 1) rfl
      refine ⟨_, rfl, _, rfl, t, _, _, _, rfl, rfl, SqT.of ht', t0, _, _, rfl, rfl, _, _, rfl, rfl, by show (0 : Int) ≤ 40 - (l : Int); omega, ?_⟩
      refine ⟨_, rfl, t, _, _, _, rfl, rfl, SqT.of ht', t0, used / 2 ^ (40 - l), l, congrArg (fun z => [V.int z, V.int (l : Int)]) (shr_nat hl40), by omega, fun H7 s7 => ?_⟩
      have ht7 := s7 _ _ ht'
      have ew7 := s7 _ _ ew
      refine ⟨_, rfl, _, rfl, t, _, _, _, rfl, rfl, SqT.of ht7, t1, D2, _, _, k, rfl, rfl, ew7, ixN_nat (by rw [List.length_map, C.len]; exact hkn), ?_⟩
      have nt2 : t ≠ D2 := fun z => by rw [z, ew7] at ht7; cases ht7
      have ht8 : upd H7 D2 (.lst ((ws.map V.str).set k (V.str (wordS l (used / 2 ^ (40 - l)))))) t = some (.tup [.int (l : Int), .int (k : Int)]) := by rw [upd_ne nt2]; exact ht7
      refine ⟨_, rfl, _, rfl, t, _, _, _, rfl, rfl, SqT.of ht8, t0, _, _, rfl, rfl, _, _, rfl, rfl, ⟨by omega, by rw [show Builtin.Int.intBits 1 = 1 by decide]; omega⟩, _, _, rfl, rfl, ?_⟩
      refine ⟨_, used + 2 ^ (40 - l), _, ws.set k (wordS l (used / 2 ^ (40 - l))), rfl, ?_, same_out (sr.trans s7) hD2, by rw [upd_same, List.map_set], C.nxt hki⟩
      show (used : Int) + 1 * 2 ^ ((40 : Int) - (l : Int)).toNat = _
      rw [show ((40 : Int) - (l : Int)).toNat = 40 - l by omega, Int.one_mul, Int.natCast_add, Int.natCast_pow]
      rfl
    · rintro σ H' ⟨v5, used, x1, ws, rfl, rfl, sr, ew, C⟩
      have hlen2 : ys.length = ks.length := by rw [← eks, List.length_map]
      rw [hlen2] at C
      have eC := C.fin
      refine ⟨_, rfl, D2, _, rfl, .inl ⟨SqL.of ew, fun pt hpt => ?_⟩⟩
      exact q _ pt ks ((S5.trans sr).trans (same_upd hpt)) ho (by rw [upd_same, eC])
end

def spLawListed (K : PySem.W.Frag) : Sp := fun vs H Q _ => ∃ (v : V) (d : PyData) (n : Nat), vs = [v] ∧ Dp K H v d ∧ okD n d = true ∧ rowD d = true ∧ (∀ n ∈ lensD d, n ≤ 6) ∧ (lensD d).length ≤ 60 ∧ kr (lensD d) ≤ 2 ^ 40 ∧
  ∀ H' p ks, Same H H' → IsOrd (lensD d) ks → H' p = some (.tup ((codeS ks (lensD d).length).map V.str)) → Q (.ref p) H'
section
variable {P : Program} {w : World} {K : PySem.W.Frag} {mg : Str → Option Value} {base : Heap}
theorem ok_law_listed {f : Addr} {fd : FuncData} (F : Fun K "_law_listed" "_law_listed" s_law_listed f fd) (T : Txt K mg) (c_law_word : Cal P w K mg base 1 "_law_word" spLawWord) : FnOk P w K mg base CX0 2 f fd ["lengths"] (spLawListed K) := by
  refine F.ok sc_law_listed (fun vs H Q E h => ?_) (fun cdv A outer s H vs Q E hr h => ?_)
  · obtain ⟨v, d, n, rfl, _⟩ := h
    rfl
  · obtain ⟨v, d, n, rfl, hv, hok, hrw, h6, hl60, hk, q⟩ := h
    refine ⟨_, (pss_cons (ps_set (i := 1) sc_law_listed.nd rfl (by first | exact Or.inl rfl | exact Or.inr rfl) (pe_callB cr_sortedPO (by rfl) T.b_sorted (by decide +kernel) (pa_cons (pe_lc (own := [("k", 2)]) rfl sc_law_listed.nd (pi_range1 (by rfl) T.b_range (pa_cons (pe_callB call_len_seq (by rfl) T.b_len PySem.boot_len (pa_cons (pv 0) pa_nil)) pa_nil)) (blkOk_by (own := [("k", 2)]) (N := ["lengths", "order", "k", "words", "taken", "pair", "value", "word", "one"]) (sc := defScope s_law_listed) (by decide +kernel)) (fun _ _ _ _ _ => (pg_name (i := 2) sc_law_listed.nd rfl (by first | exact Or.inl rfl | exact Or.inr rfl))) (fun _ _ _ _ _ => pts_nil) (fun _ _ _ _ _ => (pe_tup (pa_cons (pe_ix (show IxR _ (rIx K) from ix_seq) (pv 0) (pv 2) (fun _ _ => rfl)) (pa_cons (pv 2) pa_nil))))) pa_nil)))
    (pss_cons (ps_setLc (i := 3) (own := [("k", 2)]) rfl sc_law_listed.nd rfl rfl (sw_true rfl rfl rfl (by decide +kernel)) (pi_seqJ (pv 0)) (blkOk_by (own := [("k", 2)]) (N := ["lengths", "order", "k", "words", "taken", "pair", "value", "word", "one"]) (sc := defScope s_law_listed) (by decide +kernel)) (fun _ _ _ _ _ => (pg_name (i := 2) sc_law_listed.nd rfl (by first | exact Or.inl rfl | exact Or.inr rfl))) (fun _ _ _ _ _ => pts_nil) (fun _ _ _ _ _ => pe_str))
    (pss_cons (ps_set (i := 4) sc_law_listed.nd rfl (by first | exact Or.inl rfl | exact Or.inr rfl) (pe_lst pa_nil))
    (pss_cons (ps_for PassesOwn.never rfl (pi_list (pv 1)) (pg_name (i := 5) sc_law_listed.nd rfl (by first | exact Or.inl rfl | exact Or.inr rfl))
      (pss_cons (ps_for PassesOwn.never rfl (pi_range1 (by rfl) T.b_range (pa_cons (pe_op op_shlW pe_int (pe_ix ix_tup (pv 5) pe_int (fun _ _ => rfl))) pa_nil)) (pg_name (i := 6) sc_law_listed.nd rfl (by first | exact Or.inl rfl | exact Or.inr rfl))
          (pss_cons (ps_set (i := 7) sc_law_listed.nd rfl (by first | exact Or.inl rfl | exact Or.inr rfl) (pe_c c_law_word hr (by omega) (by rfl) (pa_cons (pv 6) (pa_cons (pe_ix ix_tup (pv 5) pe_int (fun _ _ => rfl)) pa_nil))))
            (pss_one (ps_if (pt_not (pt_val (pe_callB (cr_any rfl) (by rfl) T.b_any (by decide +kernel) (pa_cons (pe_lc (own := [("one", 8)]) rfl sc_law_listed.nd (pi_list (pv 4)) (blkOk_by (own := [("one", 8)]) (N := ["lengths", "order", "k", "words", "taken", "pair", "value", "word", "one"]) (sc := defScope s_law_listed) (by decide +kernel)) (fun _ _ _ _ _ => (pg_name (i := 8) sc_law_listed.nd rfl (by first | exact Or.inl rfl | exact Or.inr rfl))) (fun _ _ _ _ _ => pts_nil) (fun _ _ _ _ _ => (pe_bmC K PySem.F.plainAttrs_str PySem.F.slot_str_startswith PySem.F.type_str_startswith mt_startswith (pv 7) (pa_cons (pv 8) pa_nil)))) pa_nil))))
              (pss_cons (ps_asg (pv 7) (pg_sub (pv 3) (pe_ix ix_tup (pv 5) pe_int (fun _ _ => rfl)) set_list))
                (pss_one ps_break))
              pss_nil))))
        (pss_one (ps_expr (pe_bm PySem.F.plainAttrs_list PySem.F.slot_list_append PySem.F.type_list_append mt_append (pv 4) (pa_cons (pe_ix ix_list (pv 3) (pe_ix ix_tup (pv 5) pe_int (fun _ _ => rfl)) (fun _ _ => rfl)) pa_nil))))))
    (pss_one (ps_ret (pe_callTy call_tuple_of (by rfl) T.b_tuple (by decide +kernel) (pa_cons (pv 3) pa_nil)))))))), ?_⟩
    obtain ⟨a, rfl, hS, hl5⟩ := row_at hv hok hrw
    obtain ⟨ls, el⟩ : ∃ ls, lensD d = ls := ⟨_, rfl⟩
    rw [el] at hS h6 hl5 hl60 hk q
    have h40 : ∀ n ∈ ls, n ≤ 40 := fun n hn => Nat.le_trans (h6 n hn) (by decide)
    have hln : (ls.map nI).length = ls.length := List.length_map ..
    refine ⟨_, rfl, a, _, rfl, hS, ls.length, by rw [hln], by omega, by omega, fun D hD => lc_range (lo := 0) (n := ls.length) (fun i H' => ∃ ts : List V, Same H H' ∧ H' D = some (.lst ts) ∧ ts.length = i ∧ ∀ (j : Nat) (y : V), ts[j]? = some y → ∃ (t : Addr) (l : Nat), y = .ref t ∧ ls[j]? = some l ∧ H' t = some (.tup [.int (l : Int), .int (j : Int)])) ⟨[], same_upd hD, upd_same, rfl, fun j y h => by cases h⟩ ?_ ?_⟩
    · rintro i H' hi ⟨ts, sm, eD, hl, hts⟩
      have hil : ls[i]? = some ls[i] := List.getElem?_eq_getElem hi
      refine ⟨rfl, iteT (B := ∃ ts : List V, Same H H' ∧ H' D = some (.lst ts) ∧ ts.length = i + 1 ∧ ∀ (j : Nat) (y : V), ts[j]? = some y → ∃ (t : Addr) (l : Nat), y = .ref t ∧ ls[j]? = some l ∧ H' t = some (.tup [.int (l : Int), .int (j : Int)])) ?_⟩
      have cont : ∀ t2 : Addr, H' t2 = none → ∃ acc, upd H' t2 (.tup [nI ls[i], .int (0 + (i : Int))]) D = some (.lst acc) ∧ acc.length < sizeLine ∧ ∃ ts : List V, Same H (upd (upd H' t2 (.tup [nI ls[i], .int (0 + (i : Int))])) D (.lst (acc ++ [V.ref t2]))) ∧ upd (upd H' t2 (.tup [nI ls[i], .int (0 + (i : Int))])) D (.lst (acc ++ [V.ref t2])) D = some (.lst ts) ∧ ts.length = i + 1 ∧ ∀ (j : Nat) (y : V), ts[j]? = some y → ∃ (t : Addr) (l : Nat), y = .ref t ∧ ls[j]? = some l ∧ upd (upd H' t2 (.tup [nI ls[i], .int (0 + (i : Int))])) D (.lst (acc ++ [V.ref t2])) t = some (.tup [.int (l : Int), .int (j : Int)]) := fun t2 ht2 => by
        have nD2 : D ≠ t2 := ne_of_none eD ht2
        refine ⟨ts, by rw [upd_ne nD2]; exact eD, szl (by omega), ts ++ [.ref t2], same_out (sm.trans (same_upd ht2)) hD, upd_same, by simp [hl], fun j y hj => ?_⟩
        by_cases hlt : j < ts.length
        · rw [List.getElem?_append_left hlt] at hj
          obtain ⟨t, l', ey, hlj, ht⟩ := hts j y hj
          refine ⟨t, l', ey, hlj, ?_⟩
          have ntD : t ≠ D := fun z => by rw [z, eD] at ht; cases ht
          rw [upd_ne ntD]
          exact same_upd ht2 _ _ ht
        · have hj2 := (List.getElem?_eq_some_iff.mp hj).1
          have e : j = i := by simp at hj2; omega
          subst e
          rw [List.getElem?_append_right (by omega), hl, Nat.sub_self] at hj
          cases Option.some.inj hj
          exact ⟨t2, ls[j], rfl, hil, by rw [upd_ne nD2.symm, upd_same, Int.zero_add]; rfl⟩
      rcases hS with hS | hS
      · exact ⟨_, rfl, _, rfl, .inl ⟨a, _, _, _, rfl, rfl, sm.seq hS, at_of (j := i) (by omega) (ix_get hil), _, rfl, szle (by show 2 ≤ 16777216; decide), cont⟩⟩
      · exact ⟨_, rfl, _, rfl, .inr (.inl ⟨a, _, _, _, rfl, rfl, sameT sm hS, at_of (j := i) (by omega) (ix_get hil), _, rfl, szle (by show 2 ≤ 16777216; decide), cont⟩)⟩
    rintro H4 ⟨ts, sm, eD, hl, hts⟩
    obtain ⟨pm1, pm2⟩ := pairs_made hl hts
    refine ⟨D, ts, kOf H4, rfl, SqL.of eD, pm2, fun ys po srt stb hpo => ?_⟩
    have ho := ord_of pm1 srt stb.perm
    have hperm2 := stb.perm
    obtain ⟨ks, eks⟩ : ∃ ks, ys.map (kOf H4) = ks := ⟨_, rfl⟩
    rw [eks] at ho
    have s6 := same_upd (o := .lst ys) hpo
    have eO : upd H4 po (.lst ys) po = some (.lst ys) := upd_same
    have hy : ∀ (i : Nat) (y : V), ys[i]? = some y → ∃ (t : Addr) (l k : Nat), y = .ref t ∧ ks[i]? = some ((l : Int), (k : Int)) ∧ ls[k]? = some l ∧ upd H4 po (.lst ys) t = some (.tup [.int (l : Int), .int (k : Int)]) := fun i y hi => by
      obtain ⟨t, ey, ht⟩ := pm2 y (hperm2.mem_iff.mp (List.mem_of_getElem? hi))
      have hki : ks[i]? = some (kOf H4 y) := by rw [← eks, List.getElem?_map, hi]; rfl
      obtain ⟨l, k, ek, hlk⟩ := ho.mem (List.mem_of_getElem? hki)
      rw [ek] at ht hki
      exact ⟨t, l, k, ey, hki, hlk, s6 _ _ ht⟩
    obtain ⟨H5, eH5⟩ : ∃ H5, upd H4 po (.lst ys) = H5 := ⟨_, rfl⟩
    rw [eH5] at s6 eO hy ⊢
    have S5 := sm.trans s6
    have hS5 : SqL K H5 a (ls.map nI) ∨ SqT K H5 a (ls.map nI) := hS.imp (fun z => S5.seq z) fun z => sameT S5 z
    -- words
    refine ⟨_, rfl, a, _, rfl, hS5, fun J S LS sJ => fun D2 hD2 => lc_J LS (fun i H' => Same H5 H' ∧ H' D2 = some (.lst ((List.replicate i ("" : Str)).map V.str))) ⟨same_upd hD2, upd_same⟩ (fun i H' _ h => LS.mono _ _ h.1 sJ) ?_ ?_⟩
    · rintro i x H' hi ⟨sm, e2⟩
      refine ⟨rfl, iteT (B := Same H5 H' ∧ H' D2 = some (.lst ((List.replicate (i + 1) ("" : Str)).map V.str))) ?_⟩
      have hi' := (List.getElem?_eq_some_iff.mp hi).1
      refine ⟨_, e2, szl (by rw [List.length_map, List.length_replicate]; omega), same_out sm hD2, ?_⟩
      rw [upd_same, List.replicate_succ', List.map_append]
      rfl
    rintro H6 ⟨s56, eW⟩
    rw [hln] at eW
    have eO6 := s56 _ _ eO
    have nO2 : po ≠ D2 := ne_of_none eO hD2
    have hkk : kr (ks.map fun p => p.1.toNat) ≤ 2 ^ 40 := by rw [ho.kr]; exact hk
    -- taken
    refine ⟨Nat.zero_le _, fun tk htk => ?_⟩
    have nkO : po ≠ tk := ne_of_none eO6 htk
    have nk2 : D2 ≠ tk := ne_of_none eW htk
    have s6k := s56.trans (same_upd (o := .lst []) htk)
    have h5k : H5 tk = none := s56.free htk
    have hfs := ho.fst
    have h40f : ∀ n ∈ ks.map (fun p => p.1.toNat), n ≤ 40 := fun n hn => by
      obtain ⟨p, hp, rfl⟩ := List.mem_map.mp hn
      obtain ⟨l, k, rfl, hlk⟩ := ho.mem hp
      exact h40 l (List.mem_of_getElem? hlk)
    have eO7 : upd H6 tk (.lst []) po = some (.lst ys) := by rw [upd_ne nkO]; exact eO6
    refine ⟨_, rfl, po, rfl, ⟨_, SqL.of eO7⟩, for_list (K := K) (a := po) (xs := ys) (fun i σ H' => ∃ (v5 v6 v7 : Option V) (used : Nat) (ws : List Str), σ = [some (.ref a), some (.ref po), none, some (.ref D2), some (.ref tk), v5, v6, v7, none] ∧ Same H5 H' ∧ H' D2 = some (.lst (ws.map V.str)) ∧ H' tk = some (.lst (((List.range i).map fun j => wordS ((ks.map fun p => p.1.toNat).getD j 0) (ua (ks.map fun p => p.1.toNat) j / 2 ^ (40 - (ks.map fun p => p.1.toNat).getD j 0))).map V.str)) ∧ Cd ks ls.length i used ws)
      ⟨_, _, _, 0, _, rfl, s6k, by rw [upd_ne nk2]; exact eW, upd_same, Cd.ini ks ls.length⟩ (fun i σ H' _ h => ?_) ?_ ?_⟩
    · obtain ⟨_, _, _, _, _, _, sr, _⟩ := h
      exact SqL.of (sr _ _ eO)
    · rintro i x σ H' hi ⟨v5, v6, v7, used, ws, rfl, sr, ew, etk, C⟩
      obtain ⟨t, l, k, rfl, hki, hlk, ht⟩ := hy i x hi
      have hkn := (List.getElem?_eq_some_iff.mp hlk).1
      have hl6 := h6 l (List.mem_of_getElem? hlk)
      have ht' := sr _ _ ht
      have t0 : atI [V.int (l : Int), V.int (k : Int)] 0 = some (.int (l : Int)) := atI_nat (j := 0) rfl
      have t1 : atI [V.int (l : Int), V.int (k : Int)] 1 = some (.int (k : Int)) := atI_nat (j := 1) rfl
      have hroom := C.room hki hkk
      have hfi : (ks.map fun p => p.1.toNat)[i]? = some l := by rw [List.getElem?_map, hki]; rfl
      have hus : used = ua (ks.map fun p => p.1.toNat) i := C.sum
      obtain ⟨fs, efs⟩ : ∃ fs, (ks.map fun p => p.1.toNat) = fs := ⟨_, rfl⟩
      rw [efs] at hfs h40f hfi hus etk hkk
      have dv := ua_dvd hfs hfi i (Nat.le_refl _)
      rw [← hus] at dv
      have pl : 0 < 2 ^ (40 - l) := Nat.pow_pos (by decide)
      have e40 : (2 : Nat) ^ 40 = 2 ^ l * 2 ^ (40 - l) := by
        rw [← Nat.pow_add]
        congr 1
        omega
      have l64 : 2 ^ l ≤ 2 ^ 6 := Nat.pow_le_pow_right (by decide) hl6
      obtain ⟨N2, eN⟩ : ∃ N2 : Nat, 2 ^ l = N2 := ⟨_, rfl⟩
      rw [eN] at e40 l64
      have hi60 : i < 60 := by
        have := (List.getElem?_eq_some_iff.mp hki).1
        rw [ho.len] at this
        omega
      refine ⟨_, rfl, t, _, _, _, rfl, rfl, SqT.of ht', t0, _, _, rfl, rfl, ⟨by omega, by rw [show Builtin.Int.intBits 1 = 1 by decide]; omega⟩, N2, ?_, ?_, ?_, for_range (n := N2) (fun v σ H2 => ∃ v6 v7 : Option V, σ = [some (.ref a), some (.ref po), none, some (.ref D2), some (.ref tk), some (.ref t), v6, v7, none] ∧ Same H' H2 ∧ v * 2 ^ (40 - l) ≤ used)
        ⟨_, _, rfl, fun _ _ e => e, by omega⟩ ?_ ?_⟩
      · show [V.int (1 * 2 ^ ((l : Int)).toNat)] = _
        rw [Int.one_mul, Int.toNat_natCast, ← eN, Int.natCast_pow]
        rfl
      · omega
      · omega
      · rintro v σ H2 hv2 ⟨v6, v7, rfl, s2, hvu⟩
        rw [← eN] at hv2
        have ht2 := s2 _ _ ht'
        refine ⟨_, rfl, _, rfl, t, _, _, _, rfl, rfl, SqT.of ht2, t0, v, l, by rw [Int.zero_add]; rfl, by omega, fun H3 s3 => ?_⟩
        have s23 := s2.trans s3
        have etk3 := s23 _ _ etk
        have ew3 := s23 _ _ ew
        refine ⟨_, rfl, tk, rfl, ⟨_, SqL.of etk3⟩, fun D3 hD3 => lc_list (K := K) (a := tk) (xs := ((List.range i).map fun j => wordS (fs.getD j 0) (ua fs j / 2 ^ (40 - fs.getD j 0))).map V.str) (fun m H4 => Same H3 H4 ∧ H4 D3 = some (.lst ((((List.range i).map fun j => Txt.startswith (wordS l v) (wordS (fs.getD j 0) (ua fs j / 2 ^ (40 - fs.getD j 0)))).take m).map V.bl))) ⟨same_upd hD3, upd_same⟩ (fun m H4 _ h => SqL.of (h.1 _ _ etk3)) ?_ ?_⟩
        · rintro m x H4 hm ⟨s4, e4⟩
          have hmi : m < i := by
            have := (List.getElem?_eq_some_iff.mp hm).1
            simp at this
            exact this
          obtain rfl : x = V.str (wordS (fs.getD m 0) (ua fs m / 2 ^ (40 - fs.getD m 0))) := by
            rw [List.getElem?_map, List.getElem?_map, List.getElem?_range hmi] at hm
            exact (Option.some.inj hm).symm
          refine ⟨rfl, iteT (B := Same H3 H4 ∧ H4 D3 = some (.lst ((((List.range i).map fun j => Txt.startswith (wordS l v) (wordS (fs.getD j 0) (ua fs j / 2 ^ (40 - fs.getD j 0)))).take (m + 1)).map V.bl))) ?_⟩
          refine ⟨_, rfl, rfl, _, rfl, _, _, rfl, rfl, _, e4, szl (by rw [List.length_map, List.length_take, List.length_map, List.length_range]; omega), same_out s4 hD3, ?_⟩
          rw [upd_same, List.take_succ, List.getElem?_map, List.getElem?_range hmi, List.map_append]
          rfl
        rintro H4 ⟨s4, e4⟩
        rw [List.take_of_length_le (by simp)] at e4
        have hany := begun_iff hfs h40f hkk hfi hv2
        rw [← hus] at hany
        obtain ⟨bs, ebs⟩ : ∃ bs, ((List.range i).map fun j => Txt.startswith (wordS l v) (wordS (fs.getD j 0) (ua fs j / 2 ^ (40 - fs.getD j 0)))) = bs := ⟨_, rfl⟩
        rw [ebs] at hany e4
        refine ⟨D3, bs, rfl, SqL.of e4, _, rfl, ?_⟩
        rw [hany]
        have s24 := s23.trans s4
        by_cases hlt : v * 2 ^ (40 - l) < used
        · rw [decide_eq_true hlt]
          refine iteF ⟨_, _, rfl, s24, ?_⟩
          obtain ⟨u, hu⟩ := dv
          rw [hu, Nat.mul_comm] at hlt ⊢
          have := Nat.lt_of_mul_lt_mul_left hlt
          exact Nat.mul_le_mul_left _ (by omega)
        · rw [decide_eq_false hlt]
          refine iteT ?_
          have ev : v = used / 2 ^ (40 - l) := by
            have : used = v * 2 ^ (40 - l) := by omega
            rw [this, Nat.mul_div_cancel _ pl]
          have ht4 := s24 _ _ ht'
          have ew4 := s24 _ _ ew
          have etk4 := s24 _ _ etk
          have nt2 : t ≠ D2 := fun z => by rw [z, ew4] at ht4; cases ht4
          have nk2' : tk ≠ D2 := nk2.symm
          have C2 := C.nxt hki
          rw [← ev] at C2
          refine ⟨_, rfl, _, rfl, _, rfl, t, _, _, _, rfl, rfl, SqT.of ht4, t1, D2, _, _, k, rfl, rfl, ew4, ixN_nat (by rw [List.length_map, C.len]; exact hkn), ?_⟩
          have ew5 : upd H4 D2 (.lst ((ws.map V.str).set k (V.str (wordS l v)))) D2 = some (.lst ((ws.set k (wordS l v)).map V.str)) := by rw [upd_same, List.map_set]
          have ht5 : upd H4 D2 (.lst ((ws.map V.str).set k (V.str (wordS l v)))) t = some (.tup [.int (l : Int), .int (k : Int)]) := by rw [upd_ne nt2]; exact ht4
          have etk5 : upd H4 D2 (.lst ((ws.map V.str).set k (V.str (wordS l v)))) tk = H4 tk := upd_ne nk2'
          rw [etk4] at etk5
          have hwk : (ws.set k (wordS l v))[k]? = some (wordS l v) := by rw [List.getElem?_set]; simp [C.len, hkn]
          refine ⟨_, rfl, .inl ⟨rfl, _, SqL.of etk5⟩, _, rfl, _, rfl, t, _, _, _, rfl, rfl, SqT.of ht5, t1, D2, _, _, _, rfl, rfl, SqL.of ew5, atI_nat (j := k) (by rw [List.getElem?_map, hwk]; rfl), tk, _, _, rfl, rfl, etk5, szl (by simp; omega), ?_⟩
          refine ⟨_, _, _, used + 2 ^ (40 - l), ws.set k (wordS l v), rfl, same_out (same_out (sr.trans s24) hD2) h5k, by rw [upd_ne nk2]; exact ew5, ?_, C2⟩
          have gd : fs.getD i 0 = l := by rw [List.getD_eq_getElem?_getD, hfi]; rfl
          rw [upd_same, efs, List.range_succ, List.map_append, List.map_append]
          show some (HO.lst (_ ++ [V.str (wordS l v)])) = some (HO.lst (_ ++ [V.str (wordS (fs.getD i 0) (ua fs i / 2 ^ (40 - fs.getD i 0)))]))
          rw [gd, ← hus, ← ev]
      · rintro σ H2 ⟨v6, v7, rfl, s2, hvu⟩
        exfalso
        rw [← e40] at hvu
        omega
    · rintro σ H' ⟨v5, v6, v7, used, ws, rfl, sr, ew, etk, C⟩
      have hlen2 : ys.length = ks.length := by rw [← eks, List.length_map]
      rw [hlen2] at C
      have eC := C.fin
      refine ⟨_, rfl, D2, _, rfl, .inl ⟨SqL.of ew, fun pt hpt => ?_⟩⟩
      exact q _ pt ks ((S5.trans sr).trans (same_upd hpt)) ho (by rw [upd_same, eC])
end

/-! ### drawn lengths -/
def spDrawn : Sp := fun vs H Q _ => ∃ (B : Hp) (t : Addr) (c : Nat), vs = [.ref t] ∧ Tp B H t c ∧ c < 100000000 ∧ ∀ B' H' p bs, Nl B B' H' t p (c + 600) bs → bs.length ≤ 110 → (∀ n ∈ bs, n ≤ 40) → Q (.ref p) H'
section
variable {P : Program} {w : World} {K : PySem.W.Frag} {mg : Str → Option Value} {base : Heap}
theorem ok_law_drawn_lengths {f : Addr} {fd : FuncData} (F : Fun K "_law_drawn_lengths" "_law_drawn_lengths" s_law_drawn_lengths f fd) (T : Txt K mg) (c_law_draw : Cal P w K mg base 1 "_law_draw" spDraw) : FnOk P w K mg base CX0 2 f fd ["tape"] spDrawn := by
  refine F.ok sc_law_drawn_lengths (fun vs H Q E h => ?_) (fun cdv A outer s H vs Q E hr h => ?_)
  · obtain ⟨B, t, c, rfl, _⟩ := h
    rfl
  · obtain ⟨B, t, c, rfl, TT, hc, q⟩ := h
    refine ⟨_, (pss_cons (ps_set (i := 1) sc_law_drawn_lengths.nd rfl (by first | exact Or.inl rfl | exact Or.inr rfl) (pe_c c_law_draw hr (by omega) (by rfl) (pa_cons (pv 0) (pa_cons pe_int pa_nil))))
    (pss_cons (ps_set (i := 2) sc_law_drawn_lengths.nd rfl (by first | exact Or.inl rfl | exact Or.inr rfl) (pe_c c_law_draw hr (by omega) (by rfl) (pa_cons (pv 0) (pa_cons pe_int pa_nil))))
    (pss_cons (ps_if (pt_cmpR op_eq (pv 2) pe_int (nomark _))
      (pss_one (ps_ret (pe_lc (own := [("k", 3)]) rfl sc_law_drawn_lengths.nd (pi_range1 (by rfl) T.b_range (pa_cons (pv 1) pa_nil)) (blkOk_by (own := [("k", 3)]) (N := ["tape", "many", "shape", "k", "lengths", "at", "change"]) (sc := defScope s_law_drawn_lengths) (by decide +kernel)) (fun _ _ _ _ _ => (pg_name (i := 3) sc_law_drawn_lengths.nd rfl (by first | exact Or.inl rfl | exact Or.inr rfl))) (fun _ _ _ _ _ => pts_nil) (fun _ _ _ _ _ => (pe_c c_law_draw hr (by omega) (by rfl) (pa_cons (pv 0) (pa_cons pe_int pa_nil)))))))
      pss_nil)
    (C8.pss_cut (ps_if (pt_cmpR op_eq (pv 2) pe_int (nomark _))
      (pss_one (ps_set (i := 1) sc_law_drawn_lengths.nd rfl (by first | exact Or.inl rfl | exact Or.inr rfl) (pe_c c_law_draw hr (by omega) (by rfl) (pa_cons (pv 0) (pa_cons pe_int pa_nil)))))
      pss_nil)
    (pss_cons (ps_set (i := 4) sc_law_drawn_lengths.nd rfl (by first | exact Or.inl rfl | exact Or.inr rfl) (pe_lst (pa_cons pe_int pa_nil)))
    (pss_cons (ps_for PassesOwn.never rfl (pi_range1 (by rfl) T.b_range (pa_cons (pv 1) pa_nil)) (pg_name (i := 3) sc_law_drawn_lengths.nd rfl (by first | exact Or.inl rfl | exact Or.inr rfl))
      (pss_cons (ps_set (i := 5) sc_law_drawn_lengths.nd rfl (by first | exact Or.inl rfl | exact Or.inr rfl) (pe_c c_law_draw hr (by omega) (by rfl) (pa_cons (pv 0) (pa_cons (pe_callB call_len_seq (by rfl) T.b_len PySem.boot_len (pa_cons (pv 4) pa_nil)) pa_nil))))
        (C8.pss_cut (ps_if (PW.pt (pw_or (pt_cmpR op_eq (pv 2) pe_int (nomark _)) (pw_or1 (PW.pt (pw_and (pt_cmpR op_eq (pv 2) pe_int (nomark _)) (pw_and1 (pt_cmpR op_eq (pe_c c_law_draw hr (by omega) (by rfl) (pa_cons (pv 0) (pa_cons pe_int pa_nil))) pe_int (nomark _))))))))
          (pss_one (ps_set (i := 5) sc_law_drawn_lengths.nd rfl (by first | exact Or.inl rfl | exact Or.inr rfl) (pe_bm PySem.F.plainAttrs_list PySem.F.slot_list_index PySem.F.type_list_index mt_index (pv 4) (pa_cons (pe_callB (cr_max rfl) (by rfl) T.b_max (by decide +kernel) (pa_cons (pv 4) pa_nil)) pa_nil))))
          pss_nil)
        (pss_one (ps_if (pt_cmpR op_lt (pe_ix ix_list (pv 4) (pv 5) (fun _ _ => rfl)) pe_int (nomark _))
          (pss_cons (ps_asg (pe_op op_add (pe_ix ix_list (pv 4) (pv 5) (fun _ _ => rfl)) pe_int) (pg_sub (pv 4) (pv 5) set_list))
            (pss_one (ps_expr (pe_bm PySem.F.plainAttrs_list PySem.F.slot_list_insert PySem.F.type_list_insert mt_insert (pv 4) (pa_cons (pe_c c_law_draw hr (by omega) (by rfl) (pa_cons (pv 0) (pa_cons (pe_op op_add (pe_callB call_len_seq (by rfl) T.b_len PySem.boot_len (pa_cons (pv 4) pa_nil)) pe_int) pa_nil))) (pa_cons (pe_ix ix_list (pv 4) (pv 5) (fun _ _ => rfl)) pa_nil))))))
          pss_nil)))))
    (C8.pss_cut (ps_if (pt_cmpR op_eq (pv 2) pe_int (nomark _))
      (pss_one (ps_for PassesOwn.never rfl (pi_range1 (by rfl) T.b_range (pa_cons pe_int pa_nil)) (pg_name (i := 3) sc_law_drawn_lengths.nd rfl (by first | exact Or.inl rfl | exact Or.inr rfl))
          (pss_one (ps_if (PW.pt (pw_and (pt_cmpR op_lt (pe_callB call_len_seq (by rfl) T.b_len PySem.boot_len (pa_cons (pv 4) pa_nil)) pe_int (nomark _)) (pw_and1 (pt_cmpR op_lt (pe_ix ix_list (pv 4) (pe_un un_neg pe_int) (fun _ _ => rfl)) pe_int (nomark _)))))
              (pss_cons (ps_asg (pe_op op_add (pe_ix ix_list (pv 4) (pe_un un_neg pe_int) (fun _ _ => rfl)) pe_int) (pg_sub (pv 4) (pe_un un_neg pe_int) set_list))
                (pss_one (ps_expr (pe_bm PySem.F.plainAttrs_list PySem.F.slot_list_append PySem.F.type_list_append mt_append (pv 4) (pa_cons (pe_ix ix_list (pv 4) (pe_un un_neg pe_int) (fun _ _ => rfl)) pa_nil)))))
              pss_nil))))
      pss_nil)
    (pss_cons (ps_set (i := 6) sc_law_drawn_lengths.nd rfl (by first | exact Or.inl rfl | exact Or.inr rfl) (pe_c c_law_draw hr (by omega) (by rfl) (pa_cons (pv 0) (pa_cons pe_int pa_nil))))
    (pss_cons (ps_set (i := 5) sc_law_drawn_lengths.nd rfl (by first | exact Or.inl rfl | exact Or.inr rfl) (pe_c c_law_draw hr (by omega) (by rfl) (pa_cons (pv 0) (pa_cons (pe_callB call_len_seq (by rfl) T.b_len PySem.boot_len (pa_cons (pv 4) pa_nil)) pa_nil))))
    (C8.pss_cut (ps_if (pt_cmpR op_eq (pv 6) pe_int (nomark _))
      (pss_one (ps_expr (pe_bm PySem.F.plainAttrs_list PySem.F.slot_list_pop PySem.F.type_list_pop mt_popAt (pv 4) (pa_cons (pv 5) pa_nil))))
      pss_nil)
    (C8.pss_cut (ps_if (PW.pt (pw_and (pt_cmpR op_eq (pv 6) pe_int (nomark _)) (pw_and1 (pt_cmpR op_lt (pe_callB call_len_seq (by rfl) T.b_len PySem.boot_len (pa_cons (pv 4) pa_nil)) pe_int (nomark _)))))
      (pss_one (ps_expr (pe_bm PySem.F.plainAttrs_list PySem.F.slot_list_insert PySem.F.type_list_insert mt_insert (pv 4) (pa_cons (pv 5) (pa_cons (pe_c c_law_draw hr (by omega) (by rfl) (pa_cons (pv 0) (pa_cons pe_int pa_nil))) pa_nil)))))
      pss_nil)
    (C8.pss_cut (ps_if (PW.pt (pw_and (pt_cmpR op_eq (pv 6) pe_int (nomark _)) (pw_and1 (pt_cmpR op_gt (pe_ix ix_list (pv 4) (pv 5) (fun _ _ => rfl)) pe_int (nomark _)))))
      (pss_one (ps_asg (pe_op op_sub (pe_ix ix_list (pv 4) (pv 5) (fun _ _ => rfl)) pe_int) (pg_sub (pv 4) (pv 5) set_list)))
      pss_nil)
    (C8.pss_cut (ps_if (PW.pt (pw_and (pt_cmpR op_eq (pv 6) pe_int (nomark _)) (pw_and1 (pt_cmpR op_lt (pe_ix ix_list (pv 4) (pv 5) (fun _ _ => rfl)) pe_int (nomark _)))))
      (pss_one (ps_asg (pe_op op_add (pe_ix ix_list (pv 4) (pv 5) (fun _ _ => rfl)) pe_int) (pg_sub (pv 4) (pv 5) set_list)))
      pss_nil)
    (C8.pss_cut (ps_if (PW.pt (pw_and (pt_cmpR op_eq (pv 6) pe_int (nomark _)) (pw_and1 (pt_cmpR op_lt (pe_callB call_len_seq (by rfl) T.b_len PySem.boot_len (pa_cons (pv 4) pa_nil)) pe_int (nomark _)))))
      (pss_one (ps_expr (pe_bm PySem.F.plainAttrs_list PySem.F.slot_list_insert PySem.F.type_list_insert mt_insert (pv 4) (pa_cons (pv 5) (pa_cons pe_int pa_nil)))))
      pss_nil)
    (pss_one (ps_ret (pv 4))))))))))))))))), ?_⟩
    refine ⟨_, rfl, B, t, c, 9, rfl, TT, by decide, by decide, by omega, fun H1 m0 T1 m00 m01 => ?_⟩
    obtain ⟨m0, rfl⟩ := nat_of m00
    refine ⟨_, rfl, B, t, c + 1, 8, rfl, T1, by decide, by decide, by omega, fun H2 sh T2 sh0 sh1 => ?_⟩
    refine ⟨_, rfl, rfl, _, rfl, ?_⟩
    refine ite2 (fun _ => ?_) (fun hsh => ?_)
    · -- free ones
      refine ⟨_, rfl, m0, rfl, by omega, by omega, fun D hD => lc_range (lo := 0) (n := m0) (fun i H' => ∃ (B' : Hp) (bs : List Nat), Nl B B' H' t D (c + 2 + i) bs ∧ bs.length = i ∧ ∀ n ∈ bs, n ≤ 40) ⟨_, [], ⟨same_upd (T2.isn hD), T2.new hD, upd_same, T2.isn hD⟩, rfl, fun n hn => by cases hn⟩ ?_ ?_⟩
      · rintro i H' hi ⟨B', bs, N, hl, h40⟩
        refine ⟨rfl, iteT (B := ∃ (B' : Hp) (bs : List Nat), Nl B B' H' t D (c + 2 + (i + 1)) bs ∧ bs.length = i + 1 ∧ ∀ n ∈ bs, n ≤ 40) ?_⟩
        refine ⟨_, rfl, B', t, _, 7, rfl, N.tp, by decide, by decide, by omega, fun H7 n T7 n0 n1 => ?_⟩
        obtain ⟨n, rfl⟩ := nat_of n0
        have N7 := N.drw T7
        exact ⟨_, N7.hd, szl (by rw [List.length_map]; omega), _, bs ++ [n], (N7.app n).le (by omega), by simp [hl], mem_app_le h40 (by omega)⟩
      · rintro H' ⟨B', bs, N, hl, h40⟩
        exact q B' H' D bs (N.le (by omega)) (by omega) h40
    -- many
    refine ⟨fun σ H' => ∃ (m : Nat) (v3 v4 v5 v6 : Option V), σ = [some (.ref t), some (.int m), some (.int sh), v3, v4, v5, v6] ∧ Tp B H' t (c + 3) ∧ m ≤ 59, ?_, ?_⟩
    · refine ⟨_, rfl, rfl, _, rfl, ite2 (fun _ => ?_) (fun _ => ?_)⟩
      · refine ⟨_, rfl, B, t, c + 2, 60, rfl, T2, by decide, by decide, by omega, fun H4 m4 T4 m40 m41 => ?_⟩
        obtain ⟨m4, rfl⟩ := nat_of m40
        exact ⟨m4, _, _, _, _, rfl, T4, by omega⟩
      · exact ⟨m0, _, _, _, _, rfl, T2.le (by omega), by omega⟩
    rintro σ H3 ⟨m, v3, v4, v5, v6, rfl, T3, hm⟩
    refine ⟨szle (by show 1 ≤ 16777216; decide), fun D hD => ?_⟩
    have N3 : Nl B (upd B D (.lst (([0] : List Nat).map nI))) (upd H3 D (.lst (([0] : List Nat).map nI))) t D (c + 3) [0] := ⟨same_upd (T3.isn hD), T3.new hD, upd_same, T3.isn hD⟩
    -- the splits
    refine ⟨_, rfl, m, rfl, by omega, by omega, for_range (n := m) (fun i σ H' => ∃ (v3 v5 v6 : Option V) (B' : Hp) (bs : List Nat), σ = [some (.ref t), some (.int m), some (.int sh), v3, some (.ref D), v5, v6] ∧ Nl B B' H' t D (c + 3 + 3 * i) bs ∧ 1 ≤ bs.length ∧ bs.length ≤ i + 1 ∧ ∀ n ∈ bs, n ≤ 40)
      ⟨_, _, _, _, [0], rfl, N3, by decide, by decide, fun n hn => by rw [List.mem_singleton.mp hn]; decide⟩ ?_ ?_⟩
    · rintro i σ H' hi ⟨v3, v5, v6, B', bs, rfl, N, l1, l9, h40⟩
      refine ⟨_, rfl, _, rfl, D, _, rfl, .inl (SqL.of N.hd), ?_⟩
      refine ⟨B', t, _, _, rfl, N.tp, by rw [List.length_map]; omega, by rw [List.length_map]; omega, by omega, fun H2 at0 T2 a0 a1 => ?_⟩
      obtain ⟨at0, rfl⟩ := nat_of a0
      have N2 := N.drw T2
      rw [List.length_map] at a1
      refine ⟨fun σ H' => ∃ (x : Int) (j : Nat), σ = [some (.ref t), some (.int m), some (.int sh), some (.int (0 + i)), some (.ref D), some (.int x), v6] ∧ x = (j : Int) ∧ j < bs.length ∧ Nl B B' H' t D (c + 3 + 3 * i + 2) bs, ?_, ?_⟩
      · have skip : ∀ Hx, Nl B B' Hx t D (c + 3 + 3 * i + 2) bs → ∃ (x : Int) (j : Nat), [some (V.ref t), some (.int m), some (.int sh), some (.int (0 + i)), some (.ref D), some (.int at0), v6] = [some (.ref t), some (.int m), some (.int sh), some (.int (0 + i)), some (.ref D), some (.int x), v6] ∧ x = (j : Int) ∧ j < bs.length ∧ Nl B B' Hx t D (c + 3 + 3 * i + 2) bs := fun Hx Nx => ⟨_, at0, rfl, rfl, by omega, Nx⟩
        refine ⟨_, rfl, rfl, _, rfl, ite2 (fun _ => ?_) (fun _ => ?_)⟩
        · refine iteT ⟨_, rfl, .inl ⟨rfl, _, SqL.of N2.hd⟩, _, rfl, D, _, rfl, sqI (SqL.of N2.hd), by rw [List.length_map]; omega, fun mx hmx _ => ?_⟩
          obtain ⟨n, hn, rfl⟩ := List.mem_map.mp hmx
          obtain ⟨j, hj, hmin⟩ := idxN hn
          exact ⟨D, _, .int (n : Int), j, nI n, rfl, rfl, SqL.of N2.hd, rfl, flatN bs, ix_get hj, ix_eq n, ix_min hmin, _, j, rfl, rfl, (List.getElem?_eq_some_iff.mp hj).1, N2.le (by omega)⟩
        · refine ⟨_, rfl, rfl, _, rfl, ite2 (fun _ => ?_) (fun _ => iteF (skip _ (N2.le (by omega))))⟩
          refine ⟨_, rfl, B', t, _, 2, rfl, N2.tp, by decide, by decide, by omega, fun H4 z T4 z0 z1 => ⟨rfl, ?_⟩⟩
          have N4 := N2.drw T4
          refine ⟨_, rfl, ite2 (fun _ => ?_) (fun _ => ?_)⟩
          · refine ⟨_, rfl, .inl ⟨rfl, _, SqL.of N4.hd⟩, _, rfl, D, _, rfl, sqI (SqL.of N4.hd), by rw [List.length_map]; omega, fun mx hmx _ => ?_⟩
            obtain ⟨n, hn, rfl⟩ := List.mem_map.mp hmx
            obtain ⟨j, hj, hmin⟩ := idxN hn
            exact ⟨D, _, .int (n : Int), j, nI n, rfl, rfl, SqL.of N4.hd, rfl, flatN bs, ix_get hj, ix_eq n, ix_min hmin, _, j, rfl, rfl, (List.getElem?_eq_some_iff.mp hj).1, N4⟩
          · exact skip _ N4
      rintro σ H3 ⟨x1, j1, rfl, rfl, hj1, N5⟩
      have hb : bs[j1]? = some bs[j1] := List.getElem?_eq_getElem hj1
      have hb40 := h40 bs[j1] (List.getElem_mem hj1)
      refine ⟨_, rfl, _, rfl, D, _, _, _, rfl, rfl, SqL.of N5.hd, atN hb, _, _, rfl, rfl, _, rfl, ite2 (fun h1 => ?_) (fun _ => ⟨_, _, _, B', bs, rfl, N5.le (by omega), l1, by omega, h40⟩)⟩
      have h1' : bs[j1] < 40 := by have : ((bs[j1] : Nat) : Int) < 40 := of_decide_eq_true h1; omega
      have N6 := N5.put j1 (bs[j1] + 1)
      have hz : (bs.set j1 (bs[j1] + 1))[j1]? = some (bs[j1] + 1) := by rw [List.getElem?_set]; simp [hj1]
      refine ⟨_, rfl, _, rfl, D, _, _, _, rfl, rfl, SqL.of N5.hd, atN hb, _, _, rfl, rfl, ?_⟩
      refine ⟨_, rfl, _, rfl, D, _, _, j1, rfl, rfl, N5.hd, ixN_nat (by rw [List.length_map]; exact hj1), ?_⟩
      refine ⟨_, rfl, .inl ⟨rfl, _, SqL.of N6.hd⟩, _, rfl, _, rfl, D, _, rfl, .inl (SqL.of N6.hd), _, _, rfl, rfl, ?_⟩
      have lz : ((bs.map nI).set j1 (nI (bs[j1] + 1))).length = bs.length := by rw [List.length_set, List.length_map]
      refine ⟨_, t, _, _, rfl, N6.tp, by show (0 : Int) < (((bs.set j1 (bs[j1] + 1)).map nI).length : Nat) + 1; omega, by show (((bs.set j1 (bs[j1] + 1)).map nI).length : Nat) + 1 < (1073741824 : Int); rw [List.length_map, List.length_set]; omega, by omega, fun H7 x T7 x0 x1 => ?_⟩
      obtain ⟨x, rfl⟩ := nat_of x0
      have N7 := N6.drw T7
      refine ⟨_, rfl, _, rfl, D, _, _, _, rfl, rfl, SqL.of N7.hd, atN hz, D, _, _, _, rfl, rfl, N7.hd, szl (by rw [List.length_map, List.length_set]; omega), by omega, by rw [List.length_map, List.length_set] at x1; omega, ?_⟩
      have N8 := N7.ins x (bs[j1] + 1)
      exact ⟨_, _, _, _, _, rfl, N8.le (by omega), by simp; omega, by simp; omega, mem_ins_le (mem_set_le h40 (by omega)) (by omega)⟩
    rintro σ H8 ⟨v3, v5, v6, B8, bs8, rfl, N8, l18, l98, h408⟩
    -- a long tail
    refine ⟨fun σ H' => ∃ (v3 v5 v6 : Option V) (B' : Hp) (bs : List Nat), σ = [some (.ref t), some (.int m), some (.int sh), v3, some (.ref D), v5, v6] ∧ Nl B B' H' t D (c + 3 + 3 * m) bs ∧ 1 ≤ bs.length ∧ bs.length ≤ 100 ∧ ∀ n ∈ bs, n ≤ 40, ?_, ?_⟩
    · refine ⟨_, rfl, rfl, _, rfl, ite2 (fun _ => ?_) (fun _ => ⟨_, _, _, B8, bs8, rfl, N8, l18, by omega, h408⟩)⟩
      refine ⟨40, rfl, by decide, by decide, for_range (n := 40) (fun i σ H' => ∃ (v3 v5 v6 : Option V) (B' : Hp) (bs : List Nat), σ = [some (.ref t), some (.int m), some (.int sh), v3, some (.ref D), v5, v6] ∧ Nl B B' H' t D (c + 3 + 3 * m) bs ∧ 1 ≤ bs.length ∧ bs.length ≤ 60 + i ∧ ∀ n ∈ bs, n ≤ 40)
        ⟨_, _, _, B8, bs8, rfl, N8, l18, by omega, h408⟩ ?_ ?_⟩
      · rintro i σ H' hi ⟨v3, v5, v6, B', bs, rfl, N, l1, l9, h40⟩
        have hj : bs.length - 1 < bs.length := by omega
        have hb : bs[bs.length - 1]? = some bs[bs.length - 1] := List.getElem?_eq_getElem hj
        have hb40 := h40 bs[bs.length - 1] (List.getElem_mem hj)
        refine ⟨_, rfl, D, _, rfl, .inl (SqL.of N.hd), _, _, rfl, rfl, _, rfl, ite2 (fun h1 => ?_) (fun _ => iteF ⟨_, _, _, B', bs, rfl, N, l1, by omega, h40⟩)⟩
        refine ⟨_, rfl, _, rfl, D, _, _, _, rfl, rfl, SqL.of N.hd, at_m1 hb, _, _, rfl, rfl, _, rfl, ite2 (fun h2 => ?_) (fun _ => ⟨_, _, _, B', bs, rfl, N, l1, by omega, h40⟩)⟩
        have h2' : bs[bs.length - 1] < 40 := by have : ((bs[bs.length - 1] : Nat) : Int) < 40 := of_decide_eq_true h2; omega
        have N6 := N.put (bs.length - 1) (bs[bs.length - 1] + 1)
        have hz : (bs.set (bs.length - 1) (bs[bs.length - 1] + 1))[(bs.set (bs.length - 1) (bs[bs.length - 1] + 1)).length - 1]? = some (bs[bs.length - 1] + 1) := by rw [List.length_set, List.getElem?_set]; simp [hj]
        refine ⟨_, rfl, _, rfl, D, _, _, _, rfl, rfl, SqL.of N.hd, at_m1 hb, _, _, rfl, rfl, ?_⟩
        refine ⟨_, rfl, _, rfl, D, _, _, bs.length - 1, rfl, rfl, N.hd, by rw [List.length_map]; exact ixN_m1 (by omega), ?_⟩
        refine ⟨_, rfl, .inl ⟨rfl, _, SqL.of N6.hd⟩, _, rfl, _, rfl, D, _, _, _, rfl, rfl, SqL.of N6.hd, at_m1 hz, D, _, _, rfl, rfl, N6.hd, szl (by rw [List.length_map, List.length_set]; omega), ?_⟩
        have N7 := N6.app (bs[bs.length - 1] + 1)
        exact ⟨_, _, _, _, _, rfl, N7, by simp, by simp; omega, mem_app_le (mem_set_le h40 (by omega)) (by omega)⟩
      · rintro σ H' ⟨v3, v5, v6, B', bs, rfl, N, l1, l9, h40⟩
        exact ⟨_, _, _, B', bs, rfl, N, l1, by omega, h40⟩
    rintro σ H9 ⟨v3, v5, v6, B9, bs, rfl, N8, l1, l9, h40⟩
    refine ⟨_, rfl, B9, t, _, 6, rfl, N8.tp, by decide, by decide, by omega, fun H9 ch T9 ch0 ch1 => ?_⟩
    have N9 := N8.drw T9
    refine ⟨_, rfl, _, rfl, D, _, rfl, .inl (SqL.of N9.hd), ?_⟩
    refine ⟨B9, t, _, _, rfl, N9.tp, by rw [List.length_map]; omega, by rw [List.length_map]; omega, by omega, fun H10 at0 T10 a0 a1 => ?_⟩
    obtain ⟨at0, rfl⟩ := nat_of a0
    rw [List.length_map] at a1
    have N10 := N9.drw T10
    -- one taken away
    refine ⟨fun σ H' => ∃ (B' : Hp) (bs : List Nat), σ = [some (.ref t), some (.int m), some (.int sh), v3, some (.ref D), some (.int at0), some (.int ch)] ∧ Nl B B' H' t D (c + 300) bs ∧ (ch = 0 ∨ at0 < bs.length) ∧ bs.length ≤ 100 ∧ ∀ n ∈ bs, n ≤ 40, ?_, ?_⟩
    · refine ⟨_, rfl, rfl, _, rfl, ite2 (fun h => ?_) (fun _ => ⟨B9, bs, rfl, N10.le (by omega), .inr (by omega), l9, h40⟩)⟩
      have hc0 : ch = 0 := V.int.inj (of_decide_eq_true h)
      refine ⟨_, rfl, .inl ⟨rfl, _, SqL.of N10.hd⟩, _, rfl, D, _, _, at0, _, rfl, rfl, N10.hd, by omega, by omega, seqIx_nat (by rw [List.length_map]; omega), ix_get (List.getElem?_eq_getElem (show at0 < bs.length by omega)), ?_⟩
      exact ⟨_, _, rfl, (N10.era at0).le (by omega), .inl hc0, by rw [List.length_eraseIdx]; split <;> omega, mem_era_le h40⟩
    rintro σ H11 ⟨B11, bs1, rfl, N11, hat1, l91, h401⟩
    -- one put in
    refine ⟨fun σ H' => ∃ (B' : Hp) (bs : List Nat), σ = [some (.ref t), some (.int m), some (.int sh), v3, some (.ref D), some (.int at0), some (.int ch)] ∧ Nl B B' H' t D (c + 301) bs ∧ (ch = 0 ∨ at0 < bs.length) ∧ bs.length ≤ 101 ∧ ∀ n ∈ bs, n ≤ 40, ?_, ?_⟩
    · refine ⟨_, rfl, rfl, _, rfl, ite2 (fun h => ?_) (fun _ => iteF ⟨B11, bs1, rfl, N11.le (by omega), hat1, by omega, h401⟩)⟩
      have hc1 : ch = 1 := V.int.inj (of_decide_eq_true h)
      have hlt : at0 < bs1.length := by omega
      refine ⟨_, rfl, D, _, rfl, .inl (SqL.of N11.hd), _, _, rfl, rfl, _, rfl, ite2 (fun _ => ?_) (fun _ => ⟨B11, bs1, rfl, N11.le (by omega), hat1, by omega, h401⟩)⟩
      refine ⟨_, rfl, .inl ⟨rfl, _, SqL.of N11.hd⟩, _, rfl, _, rfl, B11, t, _, 41, rfl, N11.tp, by decide, by decide, by omega, fun H12 x T12 x0 x1 => ?_⟩
      obtain ⟨x, rfl⟩ := nat_of x0
      have N12 := N11.drw T12
      refine ⟨D, _, _, _, rfl, rfl, N12.hd, szl (by rw [List.length_map]; omega), by omega, by omega, ?_⟩
      have N13 := N12.ins at0 x
      exact ⟨_, _, rfl, N13.le (by omega), .inr (by simp; omega), by simp; omega, mem_ins_le h401 (by omega)⟩
    rintro σ H12 ⟨B12, bs2, rfl, N12, hat2, l92, h402⟩
    -- one lowered
    refine ⟨fun σ H' => ∃ (B' : Hp) (bs : List Nat), σ = [some (.ref t), some (.int m), some (.int sh), v3, some (.ref D), some (.int at0), some (.int ch)] ∧ Nl B B' H' t D (c + 301) bs ∧ (ch = 0 ∨ at0 < bs.length) ∧ bs.length ≤ 101 ∧ ∀ n ∈ bs, n ≤ 40, ?_, ?_⟩
    · refine ⟨_, rfl, rfl, _, rfl, ite2 (fun h => ?_) (fun _ => iteF ⟨B12, bs2, rfl, N12, hat2, l92, h402⟩)⟩
      have hc2 : ch = 2 := V.int.inj (of_decide_eq_true h)
      have hlt : at0 < bs2.length := by omega
      have hb : bs2[at0]? = some bs2[at0] := List.getElem?_eq_getElem hlt
      have hb40 := h402 bs2[at0] (List.getElem_mem hlt)
      refine ⟨_, rfl, _, rfl, D, _, _, _, rfl, rfl, SqL.of N12.hd, atN hb, _, _, rfl, rfl, _, rfl, ite2 (fun h1 => ?_) (fun _ => ⟨B12, bs2, rfl, N12, hat2, l92, h402⟩)⟩
      have h1' : 0 < bs2[at0] := by have : (0 : Int) < ((bs2[at0] : Nat) : Int) := of_decide_eq_true h1; omega
      have e1 : V.int (((bs2[at0] : Nat) : Int) - 1) = nI (bs2[at0] - 1) := congrArg V.int (by omega)
      refine ⟨_, rfl, _, rfl, D, _, _, _, rfl, rfl, SqL.of N12.hd, atN hb, _, _, rfl, rfl, ?_⟩
      refine ⟨_, rfl, _, rfl, D, _, _, at0, rfl, rfl, N12.hd, ixN_nat (by rw [List.length_map]; exact hlt), ?_⟩
      have N14 := N12.put at0 (bs2[at0] - 1)
      rw [← e1] at N14
      exact ⟨_, _, rfl, N14, .inr (by rw [List.length_set]; exact hlt), by rw [List.length_set]; exact l92, mem_set_le h402 (by omega)⟩
    rintro σ H13 ⟨B13, bs3, rfl, N13, hat3, l93, h403⟩
    -- one raised
    refine ⟨fun σ H' => ∃ (B' : Hp) (bs : List Nat), σ = [some (.ref t), some (.int m), some (.int sh), v3, some (.ref D), some (.int at0), some (.int ch)] ∧ Nl B B' H' t D (c + 301) bs ∧ (ch = 0 ∨ at0 < bs.length) ∧ bs.length ≤ 101 ∧ ∀ n ∈ bs, n ≤ 40, ?_, ?_⟩
    · refine ⟨_, rfl, rfl, _, rfl, ite2 (fun h => ?_) (fun _ => iteF ⟨B13, bs3, rfl, N13, hat3, l93, h403⟩)⟩
      have hc3 : ch = 3 := V.int.inj (of_decide_eq_true h)
      have hlt : at0 < bs3.length := by omega
      have hb : bs3[at0]? = some bs3[at0] := List.getElem?_eq_getElem hlt
      refine ⟨_, rfl, _, rfl, D, _, _, _, rfl, rfl, SqL.of N13.hd, atN hb, _, _, rfl, rfl, _, rfl, ite2 (fun h1 => ?_) (fun _ => ⟨B13, bs3, rfl, N13, hat3, l93, h403⟩)⟩
      have h1' : bs3[at0] < 40 := by have : ((bs3[at0] : Nat) : Int) < 40 := of_decide_eq_true h1; omega
      refine ⟨_, rfl, _, rfl, D, _, _, _, rfl, rfl, SqL.of N13.hd, atN hb, _, _, rfl, rfl, ?_⟩
      refine ⟨_, rfl, _, rfl, D, _, _, at0, rfl, rfl, N13.hd, ixN_nat (by rw [List.length_map]; exact hlt), ?_⟩
      exact ⟨_, _, rfl, N13.put at0 (bs3[at0] + 1), .inr (by rw [List.length_set]; exact hlt), by rw [List.length_set]; exact l93, mem_set_le h403 (by omega)⟩
    rintro σ H14 ⟨B14, bs4, rfl, N14, hat4, l94, h404⟩
    -- a 40 put in
    refine ⟨fun σ H' => ∃ (B' : Hp) (bs : List Nat), σ = [some (.ref t), some (.int m), some (.int sh), v3, some (.ref D), some (.int at0), some (.int ch)] ∧ Nl B B' H' t D (c + 301) bs ∧ bs.length ≤ 102 ∧ ∀ n ∈ bs, n ≤ 40, ?_, ?_⟩
    · refine ⟨_, rfl, rfl, _, rfl, ite2 (fun h => ?_) (fun _ => iteF ⟨B14, bs4, rfl, N14, by omega, h404⟩)⟩
      refine ⟨_, rfl, D, _, rfl, .inl (SqL.of N14.hd), _, _, rfl, rfl, _, rfl, ite2 (fun _ => ?_) (fun _ => ⟨B14, bs4, rfl, N14, by omega, h404⟩)⟩
      refine ⟨_, rfl, .inl ⟨rfl, _, SqL.of N14.hd⟩, _, rfl, D, _, _, _, rfl, rfl, N14.hd, szl (by rw [List.length_map]; omega), by omega, by omega, ?_⟩
      have N15 := N14.ins at0 40
      exact ⟨_, _, rfl, N15, by simp; omega, mem_ins_le h404 (by omega)⟩
    rintro σ H15 ⟨B15, bs5, rfl, N15, l95, h405⟩
    exact ⟨_, rfl, q B15 H15 D bs5 (N15.le (by omega)) (by omega) h405⟩
end

def L40 (d : PyData) : Prop := ∀ ds, (d = .list ds ∨ d = .tuple ds) → ∀ z, .int z ∈ ds → z ≤ 40
theorem nat_le40 {d : PyData} (h : ∀ z, d = .int z → z ≤ 40) : natD d ≤ 40 := by
  cases d with
  | int z =>
    have := h z rfl
    show z.toNat ≤ 40
    omega
  | _ => exact Nat.zero_le _
theorem L40.row {d : PyData} (h : L40 d) (hr : rowD d = true) : ∀ n ∈ lensD d, n ≤ 40 := fun k hk => by
  cases d with
  | list ds =>
    obtain ⟨e, he, rfl⟩ := List.mem_map.mp (show k ∈ ds.map natD from hk)
    exact nat_le40 fun z hz => h ds (.inl rfl) z (hz ▸ he)
  | tuple ds =>
    obtain ⟨e, he, rfl⟩ := List.mem_map.mp (show k ∈ ds.map natD from hk)
    exact nat_le40 fun z hz => h ds (.inr rfl) z (hz ▸ he)
  | _ => cases hr
theorem are_row {d : PyData} (h : areD d = true) : rowD d = true ∧ kr (lensD d) ≤ 2 ^ 40 := by
  unfold areD at h
  rw [Bool.and_eq_true] at h
  exact ⟨h.1, of_decide_eq_true h.2⟩
def ToldC (H : Hp) (d : PyData) (v : V) (p : Addr) : Prop :=
  (areD d = true ∧ ∃ c ks, H p = some (.lst [.bl true, .ref c]) ∧ IsOrd (lensD d) ks ∧ H c = some (.tup ((codeS ks (lensD d).length).map V.str))) ∨ (areD d = false ∧ H p = some (.lst [.bl false, v]))
theorem ToldC.mono {H H' : Hp} {d : PyData} {v : V} {p : Addr} (h : ToldC H d v p) (s : Same H H') : ToldC H' d v p := by
  rcases h with ⟨h1, c, ks, h2, h3, h4⟩ | ⟨h1, h2⟩
  · exact .inl ⟨h1, c, ks, s _ _ h2, h3, s _ _ h4⟩
  · exact .inr ⟨h1, s _ _ h2⟩
def spTold (K : PySem.W.Frag) : Sp := fun vs H Q _ => ∃ (v : V) (d : PyData) (n : Nat) (b : Bool), vs = [v, .bl b] ∧ Dp K H v d ∧ okD n d = true ∧ L40 d ∧ ∀ H' p, Same H H' → ToldC H' d v p → Q (.ref p) H'
theorem dp_strs {K : PySem.W.Frag} {H : Hp} : ∀ ws : List Str, DpAll K H (ws.map V.str) (ws.map PyData.str)
  | [] => .nil
  | w :: r => .cons (.str w) (dp_strs r)
def spRight (K : PySem.W.Frag) : Sp := fun vs H Q _ => ∃ (v : V) (d : PyData) (b : Bool), vs = [v, .bl b] ∧ Dp K H v d ∧ okD 4 d = true ∧ L40 d ∧ ∀ H', Same H H' → Q (.bl true) H'
section
variable {P : Program} {w : World} {K : PySem.W.Frag} {mg : Str → Option Value} {base : Heap} {C_TooFull : Addr}
theorem ok_law_told {f : Addr} {fd : FuncData} (F : Fun K "_law_told" "_law_told" s_law_told f fd) (T : Txt K mg) (x_TooFull : XErr P K mg "TooFull" C_TooFull ["lengths"]) (c_code_of : CalX P w K mg base 4 "code_of" (spCodeOf K C_TooFull)) (ck_code_of_lengths : CalXK P w K mg base 4 "code_of" 0 ["lengths"] (fun xs zs => xs ++ zs) (spCodeOf K C_TooFull)) : FnOk P w K mg base CX0 5 f fd ["lengths", "by_name"] (spTold K) := by
  refine F.ok sc_law_told (fun vs H Q E h => ?_) (fun cdv A outer s H vs Q E hr h => ?_)
  · obtain ⟨v, d, n, b, rfl, _⟩ := h
    rfl
  · obtain ⟨v, d, n, b, rfl, hv, hok, h40, q⟩ := h
    refine ⟨_, (pss_one (L2N.ps_try_as (i := 2) (tb := fun W => (tSeq (tIfS (tB (tVar 1)) (tRet (tLst (tCons (tC (.bl true)) (tCons (tCallSK0 1 (spCodeOf K C_TooFull) (fun xs zs => xs ++ zs) (WE W) (tCons (tVar 0) tNil)) tNil)))) tNext) (tRet (tLst (tCons (tC (.bl true)) (tCons (tCallS (spCodeOf K C_TooFull) (WE W) (tCons (tVar 0) tNil)) tNil))))))
      (ts := fun a cls d => (tRet (tLst (tCons (tC (.bl false)) (tCons (tXf a cls d C_TooFull "lengths" (tVar 2)) tNil))))) rfl rfl sc_law_told.nd rfl rfl ⟨rfl, by decide, .inl x_TooFull.gC⟩ takesN0
      (fun W pn xe tk pwn => (pss_cons (ps_if (pt_val (pv 1))
          (pss_one (ps_ret (pe_lst (pa_cons pe_bl (pa_cons (pe_xSK0 ck_code_of_lengths hr (by omega) (by rfl) tk (pk_cons (pv 0) pk_nil)) pa_nil)))))
          pss_nil)
        (pss_one (ps_ret (pe_lst (pa_cons pe_bl (pa_cons (pe_xS c_code_of hr (by omega) (by rfl) tk (pa_cons (pv 0) pa_nil)) pa_nil)))))))
      (fun a oe cls d pn hz hf => (pss_one (ps_ret (pe_lst (pa_cons pe_bl (pa_cons (pe_xf x_TooFull.xf (x_TooFull.no (by simp)) hz.zc hf (pv 2)) pa_nil)))))))), ?_⟩
    have s2 : 2 ≤ sizeLine := szle (by decide)
    refine ⟨_, rfl, _, rfl, ?_⟩
    cases ha : areD d with
    | true =>
      have g : ∀ H' p ks, Same H H' → IsOrd (lensD d) ks → H' p = some (.tup ((codeS ks (lensD d).length).map V.str)) → ∀ l, H' l = none → Q (.ref l) (upd H' l (.lst [.bl true, .ref p])) := fun H' p ks s1 h1 h2 l hl => q _ l (s1.trans (same_upd hl)) (.inl ⟨ha, p, ks, upd_same, h1, same_upd hl _ _ h2⟩)
      cases b
      · refine iteF ?_
        exact ⟨_, rfl, v, d, n, rfl, hv, hok, fun z => h40.row z, .inl ⟨ha, fun H' p ks s1 h1 h2 => ⟨s2, fun l hl => g H' p ks s1 h1 h2 l hl⟩⟩⟩
      · refine iteT ?_
        exact ⟨_, rfl, rfl, v, d, n, rfl, hv, hok, fun z => h40.row z, .inl ⟨ha, fun H' p ks s1 h1 h2 => ⟨s2, fun l hl => g H' p ks s1 h1 h2 l hl⟩⟩⟩
    | false =>
      have bad : ∀ H1, Same H H1 → ∀ l, H1 l = none → Q (.ref l) (upd H1 l (.lst [.bl false, v])) := fun H1 s1 l hl => q _ l (s1.trans (same_upd hl)) (.inr ⟨ha, upd_same⟩)
      cases b
      · refine iteF ?_
        exact ⟨_, rfl, v, d, n, rfl, hv, hok, fun z => h40.row z, .inr ⟨ha, fun H1 dd s1 hd => ⟨true, x_TooFull.te, fun _ z hz => ⟨_, rfl, rfl, rfl, dd, _, _, rfl, hd, rfl, s2, fun l hl => bad H1 s1 l hl⟩, fun z => by cases z⟩⟩⟩
      · refine iteT ?_
        exact ⟨_, rfl, rfl, v, d, n, rfl, hv, hok, fun z => h40.row z, .inr ⟨ha, fun H1 dd s1 hd => ⟨true, x_TooFull.te, fun _ z hz => ⟨_, rfl, rfl, rfl, dd, _, _, rfl, hd, rfl, s2, fun l hl => bad H1 s1 l hl⟩, fun z => by cases z⟩⟩⟩
theorem ok_law_right {f : Addr} {fd : FuncData} (F : Fun K "_law_right" "_law_right" s_law_right f fd) (T : Txt K mg) (c_law_copy : Cal P w K mg base 4 "_law_copy" (spCopy K 4)) (c_law_told : Cal P w K mg base 5 "_law_told" (spTold K)) (c_law_same : Cal P w K mg base 4 "_law_same" (spSame K 4)) (c_law_are_lengths : Cal P w K mg base 1 "_law_are_lengths" (spAre K)) (c_law_code : Cal P w K mg base 2 "_law_code" (spLawCode K)) (c_law_listed : Cal P w K mg base 2 "_law_listed" (spLawListed K)) : FnOk P w K mg base CX0 6 f fd ["value", "by_name"] (spRight K) := by
  refine F.ok sc_law_right (fun vs H Q E h => ?_) (fun cdv A outer s H vs Q E hr h => ?_)
  · obtain ⟨v, d, b, rfl, _⟩ := h
    rfl
  · obtain ⟨v, d, b, rfl, hv, hok, h40, q⟩ := h
    refine ⟨_, (pss_cons (ps_set (i := 2) sc_law_right.nd rfl (by first | exact Or.inl rfl | exact Or.inr rfl) (pe_c c_law_copy hr (by omega) (by rfl) (pa_cons (pv 0) pa_nil)))
    (pss_cons (ps_set (i := 3) sc_law_right.nd rfl (by first | exact Or.inl rfl | exact Or.inr rfl) (pe_c c_law_told hr (by omega) (by rfl) (pa_cons (pv 0) (pa_cons (pv 1) pa_nil))))
    (pss_cons (ps_if (pt_not (pt_val (pe_c c_law_same hr (by omega) (by rfl) (pa_cons (pv 0) (pa_cons (pv 2) pa_nil)))))
      (pss_one (ps_ret pe_bl))
      pss_nil)
    (pss_cons (ps_if (pt_not (pt_val (pe_c c_law_are_lengths hr (by omega) (by rfl) (pa_cons (pv 2) pa_nil))))
      (pss_one (ps_ret (pe_and (pe_not (pe_ix ix_list (pv 3) pe_int (fun _ _ => rfl))) (pe_one (pe_c c_law_same hr (by omega) (by rfl) (pa_cons (pe_ix ix_list (pv 3) pe_int (fun _ _ => rfl)) (pa_cons (pv 2) pa_nil)))))))
      pss_nil)
    (pss_cons (ps_if (PW.pt (pw_or (pt_not (pt_val (pe_ix ix_list (pv 3) pe_int (fun _ _ => rfl)))) (pw_or1 (pt_not (pt_val (pe_c c_law_same hr (by omega) (by rfl) (pa_cons (pe_ix ix_list (pv 3) pe_int (fun _ _ => rfl)) (pa_cons (pe_c c_law_code hr (by omega) (by rfl) (pa_cons (pv 2) pa_nil)) pa_nil))))))))
      (pss_one (ps_ret pe_bl))
      pss_nil)
    (pss_cons (ps_if (PW.pt (pw_and (pt_cmpR op_lt (pe_callB call_len_seq (by rfl) T.b_len PySem.boot_len (pa_cons (pv 2) pa_nil)) pe_int (nomark _)) (pw_and1 (pt_cmpR op_lt (pe_callBK (cr_maxDef rfl) (by rfl) T.b_max (by decide +kernel) (pa_cons (pv 2) pa_nil) (pk_cons pe_int pk_nil)) pe_int (nomark _)))))
      (pss_one (ps_ret (pe_c c_law_same hr (by omega) (by rfl) (pa_cons (pe_ix ix_list (pv 3) pe_int (fun _ _ => rfl)) (pa_cons (pe_c c_law_listed hr (by omega) (by rfl) (pa_cons (pv 2) pa_nil)) pa_nil)))))
      pss_nil)
    (pss_one (ps_ret pe_bl)))))))), ?_⟩
    refine ⟨_, rfl, v, d, rfl, hok, hv, fun H1 v2 N s1 nw dv2 => ?_⟩
    have d2 := Dp.mono nw.same _ _ dv2
    have hv1 := Dp.mono s1 _ _ hv
    refine ⟨_, rfl, _, rfl, v, d, 4, b, rfl, hv1, hok, h40, fun H2 p s2 tl => ?_⟩
    have S2 := s1.trans s2
    have hv2 := Dp.mono s2 _ _ hv1
    have d22 := Dp.mono s2 _ _ d2
    refine ⟨_, rfl, _, rfl, v, v2, d, rfl, hok, hv2, d22, _, rfl, iteF ?_⟩
    refine ⟨_, rfl, v2, d, 4, rfl, d22, hok, h40, fun H3 s3 => ⟨_, rfl, ?_⟩⟩
    have S3 := S2.trans s3
    have tl3 := tl.mono s3
    have d23 := Dp.mono s3 _ _ d22
    have hv3 := Dp.mono s3 _ _ hv2
    cases ha : areD d with
    | false =>
      refine iteT ?_
      have hp : H3 p = some (.lst [.bl false, v]) := by
        rcases tl3 with ⟨z, _⟩ | ⟨_, z⟩
        · rw [ha] at z; cases z
        · exact z
      refine ⟨_, rfl, p, _, _, _, rfl, rfl, SqL.of hp, atI_nat (j := 0) rfl, _, rfl, _, rfl, iteT ?_⟩
      exact ⟨_, rfl, p, _, _, _, rfl, rfl, SqL.of hp, atI_nat (j := 1) rfl, _, rfl, v, v2, d, rfl, hok, hv3, d23, q _ S3⟩
    | true =>
      refine iteF ?_
      obtain ⟨hrw, hk⟩ := are_row ha
      obtain ⟨c, ks, hp, ho, hc⟩ : ∃ c ks, H3 p = some (.lst [.bl true, .ref c]) ∧ IsOrd (lensD d) ks ∧ H3 c = some (.tup ((codeS ks (lensD d).length).map V.str)) := by
        rcases tl3 with ⟨_, z⟩ | ⟨z, _⟩
        · exact z
        · rw [ha] at z; cases z
      have hl := h40.row hrw
      refine ⟨_, rfl, p, _, _, _, rfl, rfl, SqL.of hp, atI_nat (j := 0) rfl, _, rfl, iteF ?_⟩
      refine ⟨_, rfl, p, _, _, _, rfl, rfl, SqL.of hp, atI_nat (j := 1) rfl, _, rfl, v2, d, 4, rfl, d23, hok, hrw, hl, hk, fun H4 pc ks2 s4 ho2 hc2 => ?_⟩
      obtain rfl := ho.uniq ho2
      have hc4 := s4 _ _ hc
      have hp4 := s4 _ _ hp
      have okS : ∀ n, (codeS ks n).length ≤ 100000 → okD 4 (.tuple ((codeS ks n).map PyData.str)) = true := fun n hn => okD_mk (by rw [List.length_map]; exact hn) fun x hx => by
        obtain ⟨z, _, rfl⟩ := List.mem_map.mp hx
        rfl
      have S4 := S3.trans s4
      have d24 := Dp.mono s4 _ _ d23
      obtain ⟨a2, rfl, hS, hl5⟩ := row_at d24 hok hrw
      have hn5 : (codeS ks (lensD d).length).length ≤ 100000 := by rw [codeS_len]; exact hl5
      refine ⟨_, _, .tuple ((codeS ks (lensD d).length).map PyData.str), rfl, okS _ hn5, .tup (SqT.of hc4) (dp_strs _), .tup (SqT.of hc2) (dp_strs _), _, rfl, iteF ?_⟩
      refine ⟨_, rfl, a2, _, rfl, hS, _, _, rfl, rfl, _, rfl, ite2 (fun h9 => ?_) (fun _ => iteF (q _ S4))⟩
      have h9' : (lensD d).length < 9 := by have : ((((lensD d).map nI).length : Nat) : Int) < 9 := of_decide_eq_true h9; rw [List.length_map] at this; omega
      refine ⟨_, rfl, a2, (lensD d).map fun n : Nat => (n : Int), V.int 0, rfl, rfl, ?_, fun e0 => ?_, fun m hm hmax => ?_⟩
      · have em : ((lensD d).map fun n : Nat => (n : Int)).map V.int = (lensD d).map nI := by rw [List.map_map]; rfl
        rw [em]
        exact hS
      · have e0' : lensD d = [] := by simpa using e0
        refine ⟨_, _, rfl, rfl, _, rfl, ite2 (fun h6 => ?_) (fun _ => q _ S4)⟩
        have hn6 : ∀ n ∈ lensD d, n ≤ 6 := fun n hn' => by rw [e0'] at hn'; cases hn'
        refine ⟨_, rfl, p, _, _, _, rfl, rfl, SqL.of hp4, atI_nat (j := 1) rfl, _, rfl, .ref a2, d, 4, rfl, d24, hok, hrw, hn6, by omega, hk, fun H5 pc2 ks3 s5 ho3 hc3 => ?_⟩
        obtain rfl := ho.uniq ho3
        exact ⟨_, _, .tuple ((codeS ks (lensD d).length).map PyData.str), rfl, okS _ hn5, .tup (SqT.of (s5 _ _ hc4)) (dp_strs _), .tup (SqT.of hc3) (dp_strs _), q _ (S4.trans s5)⟩
      · obtain ⟨n0, hn0, rfl⟩ := List.mem_map.mp hm
        refine ⟨_, _, rfl, rfl, _, rfl, ite2 (fun h6 => ?_) (fun _ => q _ S4)⟩
        have h6' : n0 < 6 := by have : ((n0 : Nat) : Int) < 6 := of_decide_eq_true h6; omega
        have hn6 : ∀ n ∈ lensD d, n ≤ 6 := fun n hn' => by
          have := hmax _ (List.mem_map.mpr ⟨n, hn', rfl⟩)
          omega
        refine ⟨_, rfl, p, _, _, _, rfl, rfl, SqL.of hp4, atI_nat (j := 1) rfl, _, rfl, .ref a2, d, 4, rfl, d24, hok, hrw, hn6, by omega, hk, fun H5 pc2 ks3 s5 ho3 hc3 => ?_⟩
        obtain rfl := ho.uniq ho3
        exact ⟨_, _, .tuple ((codeS ks (lensD d).length).map PyData.str), rfl, okS _ hn5, .tup (SqT.of (s5 _ _ hc4)) (dp_strs _), .tup (SqT.of hc3) (dp_strs _), q _ (S4.trans s5)⟩
end

theorem nums_L40 {K : PySem.W.Frag} {H : Hp} {a : Addr} {ls : List Nat} (h : H a = some (.lst (ls.map nI)) ∨ H a = some (.tup (ls.map nI))) (hl : ls.length ≤ 100000) (h40 : ∀ n ∈ ls, n ≤ 40) : ∃ d, Dp K H (.ref a) d ∧ okD 4 d = true ∧ L40 d := by
  have el : ∀ z, PyData.int z ∈ ndD ls → z ≤ 40 := fun z hz => by
    obtain ⟨n, hn, e⟩ := List.mem_map.mp hz
    cases e
    have := h40 n hn
    omega
  rcases h with h | h
  · exact ⟨.list (ndD ls), .lst (SqL.of h) (dp_nd ls), okD_mk (by rw [ndD_len]; exact hl) (ndD_ok ls 2), fun ds hd z hz => by rcases hd with hd | hd <;> cases hd; exact el z hz⟩
  · exact ⟨.tuple (ndD ls), .tup (SqT.of h) (dp_nd ls), okD_mk (by rw [ndD_len]; exact hl) (ndD_ok ls 2), fun ds hd z hz => by rcases hd with hd | hd <;> cases hd; exact el z hz⟩
theorem spoilt_L40 {K : PySem.W.Frag} {H : Hp} {a : Addr} {ls : List Nat} {k : Nat} {v : V} {d1 : PyData} (h : H a = some (.lst ((ls.map nI).set k v)) ∨ H a = some (.tup ((ls.map nI).set k v))) (hd : Dp K H v d1) (hok : okD 3 d1 = true) (hz : ∀ z, d1 = .int z → z ≤ 40) (hl : ls.length ≤ 100000) (h40 : ∀ n ∈ ls, n ≤ 40) :
    ∃ d, Dp K H (.ref a) d ∧ okD 4 d = true ∧ L40 d := by
  have len : ((ndD ls).set k d1).length ≤ 100000 := by rw [List.length_set, ndD_len]; exact hl
  have ok4 := okD_mk (n := 3) len fun d hd => by
    rcases List.mem_or_eq_of_mem_set hd with z | z
    · exact ndD_ok ls 2 d z
    · rw [z]; exact hok
  have el : ∀ z, PyData.int z ∈ (ndD ls).set k d1 → z ≤ 40 := fun z hm => by
    rcases List.mem_or_eq_of_mem_set hm with y | y
    · obtain ⟨n, hn, e⟩ := List.mem_map.mp y
      cases e
      have := h40 n hn
      omega
    · exact hz z y.symm
  rcases h with h | h
  · exact ⟨.list _, .lst (SqL.of h) (DpAll.set' hd k (dp_nd ls)), ok4, fun ds hd z hz => by rcases hd with hd | hd <;> cases hd; exact el z hz⟩
  · exact ⟨.tuple _, .tup (SqT.of h) (DpAll.set' hd k (dp_nd ls)), ok4, fun ds hd z hz => by rcases hd with hd | hd <;> cases hd; exact el z hz⟩
def spAsks (K : PySem.W.Frag) : Sp := fun vs H Q _ => ∃ (a : Addr) (ns : List Int), vs = [.ref a] ∧ SqL K H a (ns.map V.int) ∧ ns.length ≤ 63 ∧ ∀ H', Q (.bl true) H'
section
variable {P : Program} {w : World} {K : PySem.W.Frag} {mg : Str → Option Value} {base : Heap}
theorem ok_law_asks {f : Addr} {fd : FuncData} (F : Fun K "_law_asks" "_law_asks" s_law_asks f fd) (T : Txt K mg) (c_law_tape : Cal P w K mg base 1 "_law_tape" (spTape K)) (c_law_draw : Cal P w K mg base 1 "_law_draw" spDraw) (c_law_drawn_lengths : Cal P w K mg base 2 "_law_drawn_lengths" spDrawn) (c_law_right : Cal P w K mg base 6 "_law_right" (spRight K)) (c_law_stranger : Cal P w K mg base 5 "_law_stranger" (spStranger K 3)) : FnOk P w K mg base CX0 7 f fd ["script"] (spAsks K) := by
  refine F.ok sc_law_asks (fun vs H Q E h => ?_) (fun cdv A outer s H vs Q E hr h => ?_)
  · obtain ⟨a, ns, rfl, _⟩ := h
    rfl
  · obtain ⟨a, ns, rfl, hS, hlen, q⟩ := h
    refine ⟨_, (pss_cons (ps_set (i := 1) sc_law_asks.nd rfl (by first | exact Or.inl rfl | exact Or.inr rfl) (pe_c c_law_tape hr (by omega) (by rfl) (pa_cons (pv 0) pa_nil)))
    (pss_cons (ps_set (i := 2) sc_law_asks.nd rfl (by first | exact Or.inl rfl | exact Or.inr rfl) (pe_c c_law_drawn_lengths hr (by omega) (by rfl) (pa_cons (pv 1) pa_nil)))
    (pss_cons (ps_set (i := 3) sc_law_asks.nd rfl (by first | exact Or.inl rfl | exact Or.inr rfl) (pe_cmpR op_eq (pe_c c_law_draw hr (by omega) (by rfl) (pa_cons (pv 1) (pa_cons pe_int pa_nil))) pe_int (nomark _)))
    (pss_cons (ps_if (PW.pt (pw_or (pt_not (pt_val (pe_c c_law_right hr (by omega) (by rfl) (pa_cons (pe_callTy call_tuple_of (by rfl) T.b_tuple (by decide +kernel) (pa_cons (pv 2) pa_nil)) (pa_cons (pv 3) pa_nil))))) (pw_or1 (pt_not (pt_val (pe_c c_law_right hr (by omega) (by rfl) (pa_cons (pe_callTy call_list_of (by rfl) T.b_list (by decide +kernel) (pa_cons (pv 2) pa_nil)) (pa_cons (pe_not (pv 3)) pa_nil))))))))
      (pss_one (ps_ret pe_bl))
      pss_nil)
    (pss_cons (ps_if (pt_not (pt_val (pe_c c_law_right hr (by omega) (by rfl) (pa_cons (pe_callB cr_sortedI (by rfl) T.b_sorted (by decide +kernel) (pa_cons (pv 2) pa_nil)) (pa_cons (pv 3) pa_nil)))))
      (pss_one (ps_ret pe_bl))
      pss_nil)
    (pss_cons (ps_set (i := 4) sc_law_asks.nd rfl (by first | exact Or.inl rfl | exact Or.inr rfl) (pe_callTy call_list_of (by rfl) T.b_list (by decide +kernel) (pa_cons (pv 2) pa_nil)))
    (C8.pss_cut (ps_if (PW.pt (pw_or (pt_not (pt_truth (pv 4) (by intro _; rfl))) (pw_or1 (PW.pt (pw_and (pt_cmpR op_lt (pe_callB call_len_seq (by rfl) T.b_len PySem.boot_len (pa_cons (pv 4) pa_nil)) pe_int (nomark _)) (pw_and1 (pt_cmpR op_eq (pe_c c_law_draw hr (by omega) (by rfl) (pa_cons (pv 1) (pa_cons pe_int pa_nil))) pe_int (nomark _))))))))
      (pss_one (ps_expr (pe_bm PySem.F.plainAttrs_list PySem.F.slot_list_append PySem.F.type_list_append mt_append (pv 4) (pa_cons pe_int pa_nil))))
      pss_nil)
    (pss_cons (ps_set (i := 5) sc_law_asks.nd rfl (by first | exact Or.inl rfl | exact Or.inr rfl) (pe_c c_law_draw hr (by omega) (by rfl) (pa_cons (pv 1) (pa_cons (pe_callB call_len_seq (by rfl) T.b_len PySem.boot_len (pa_cons (pv 4) pa_nil)) pa_nil))))
    (pss_cons (ps_asg (pe_c c_law_stranger hr (by omega) (by rfl) (pa_cons (pv 1) (pa_cons pe_int pa_nil))) (pg_sub (pv 4) (pv 5) set_list))
    (C8.pss_cut (ps_if (pt_not (pt_val (pe_c c_law_right hr (by omega) (by rfl) (pa_cons (pe_ifExp (pt_val (pv 3)) (pv 4) (pe_callTy call_tuple_of (by rfl) T.b_tuple (by decide +kernel) (pa_cons (pv 4) pa_nil))) (pa_cons (pv 3) pa_nil)))))
      (pss_one (ps_ret pe_bl))
      pss_nil)
    (C8.pss_cut (ps_if (PW.pt (pw_or (pt_not (pt_val (pe_c c_law_right hr (by omega) (by rfl) (pa_cons (pe_c c_law_stranger hr (by omega) (by rfl) (pa_cons (pv 1) (pa_cons pe_int pa_nil))) (pa_cons (pv 3) pa_nil))))) (pw_or1 (pt_not (pt_val (pe_c c_law_right hr (by omega) (by rfl) (pa_cons (pe_c c_law_draw hr (by omega) (by rfl) (pa_cons (pv 1) (pa_cons pe_int pa_nil))) (pa_cons (pv 3) pa_nil))))))))
      (pss_one (ps_ret pe_bl))
      pss_nil)
    (pss_cons (ps_setLc (i := 6) (own := [("k", 7)]) rfl sc_law_asks.nd rfl rfl (sw_true rfl rfl rfl (by decide +kernel)) (pi_range1 (by rfl) T.b_range (pa_cons (pe_c c_law_draw hr (by omega) (by rfl) (pa_cons (pv 1) (pa_cons pe_int pa_nil))) pa_nil)) (blkOk_by (own := [("k", 7)]) (N := ["script", "tape", "lengths", "named", "spoilt", "at", "small", "k"]) (sc := defScope s_law_asks) (by decide +kernel)) (fun _ _ _ _ _ => (pg_name (i := 7) sc_law_asks.nd rfl (by first | exact Or.inl rfl | exact Or.inr rfl))) (fun _ _ _ _ _ => pts_nil) (fun _ _ _ _ _ => (pe_op op_add (pe_c c_law_draw hr (by omega) (by rfl) (pa_cons (pv 1) (pa_cons pe_int pa_nil))) pe_int)))
    (pss_one (ps_ret (pe_and (pe_c c_law_right hr (by omega) (by rfl) (pa_cons (pv 6) (pa_cons (pv 3) pa_nil))) (pe_and (pe_c c_law_right hr (by omega) (by rfl) (pa_cons (pe_lst pa_nil) (pa_cons (pv 3) pa_nil))) (pe_one (pe_c c_law_right hr (by omega) (by rfl) (pa_cons (pe_tup (pa_cons pe_int pa_nil)) (pa_cons (pv 3) pa_nil)))))))))))))))))))), ?_⟩
    refine ⟨_, rfl, a, ns, rfl, hS, hlen, fun H1 t T1 => ?_⟩
    refine ⟨_, rfl, H, t, 0, rfl, T1, by decide, fun B H2 p bs N2 hb1 hb40 => ?_⟩
    refine ⟨_, rfl, B, t, _, 2, rfl, N2.tp, by decide, by decide, by omega, fun H3 x T3 x0 x1 => ⟨rfl, ?_⟩⟩
    have N3 := N2.drw T3
    clear T1 N2 T3
    generalize decide (V.int x = V.int 1) = nb
    -- the first two
    refine ⟨_, rfl, p, _, rfl, .inl ⟨SqL.of N3.hd, fun l hl => ?_⟩⟩
    obtain ⟨d, d1, d2, d3⟩ := nums_L40 (K := K) (H := upd H3 l (.tup (bs.map nI))) (.inr upd_same) (by omega) hb40
    refine ⟨_, rfl, _, d, _, rfl, d1, d2, d3, fun H4 s4 => ⟨_, rfl, iteF ?_⟩⟩
    have N4 := N3.drw (N3.tp.ext ((same_upd hl).trans s4))
    refine ⟨_, rfl, p, _, rfl, .inl (SqL.of N4.hd), fun l2 hl2 => ?_⟩
    obtain ⟨d, d1, d2, d3⟩ := nums_L40 (K := K) (H := upd H4 l2 (.lst (bs.map nI))) (.inl upd_same) (by omega) hb40
    refine ⟨_, rfl, _, rfl, _, d, _, rfl, d1, d2, d3, fun H5 s5 => ⟨_, rfl, iteF ?_⟩⟩
    have N5 := N4.drw (N4.tp.ext ((same_upd hl2).trans s5))
    -- sorted
    refine ⟨_, rfl, p, _, rfl, sqI (SqL.of N5.hd), fun ns' p3 hperm hpw hp3 => ?_⟩
    obtain ⟨ss, rfl⟩ : ∃ ss : List Nat, ns' = ss.map fun n : Nat => (n : Int) := by
      refine ⟨ns'.map Int.toNat, ?_⟩
      rw [List.map_map]
      refine (List.map_id' ns').symm.trans (List.map_congr_left fun z hz => ?_)
      obtain ⟨k, _, rfl⟩ := List.mem_map.mp (hperm.mem_iff.mp hz)
      simp
    have hperm2 : ss.Perm bs := by
      have := hperm.map Int.toNat
      rw [List.map_map, List.map_map, show (Int.toNat ∘ fun n : Nat => (n : Int)) = id from funext fun n => Int.toNat_natCast n, List.map_id, List.map_id] at this
      exact this
    have e3 : upd H5 p3 (.lst ((ss.map fun n : Nat => (n : Int)).map V.int)) p3 = some (.lst (ss.map nI)) := by
      rw [upd_same, List.map_map]
      rfl
    obtain ⟨d, d1, d2, d3⟩ := nums_L40 (K := K) (.inl e3) (by rw [hperm2.length_eq]; omega) (fun n hn => hb40 n (hperm2.mem_iff.mp hn))
    refine ⟨_, rfl, _, d, _, rfl, d1, d2, d3, fun H6 s6 => ⟨_, rfl, iteF ?_⟩⟩
    have N6 := N5.drw (N5.tp.ext ((same_upd hp3).trans s6))
    -- spoilt
    refine ⟨_, rfl, p, _, rfl, .inl (SqL.of N6.hd), fun p8 hp8 => ?_⟩
    have N8 : Nl B (upd B p8 (.lst (bs.map nI))) (upd H6 p8 (.lst (bs.map nI))) t p8 601 bs := ⟨same_upd (N6.tp.isn hp8), (N6.tp.new hp8).le (by omega), upd_same, N6.tp.isn hp8⟩
    clear hp8 N6
    refine ⟨fun σ H' => ∃ (v5 v6 v7 : Option V) (B' : Hp) (ss : List Nat), σ = [some (.ref a), some (.ref t), some (.ref p), some (.bl nb), some (.ref p8), v5, v6, v7] ∧ Nl B B' H' t p8 602 ss ∧ 1 ≤ ss.length ∧ ss.length ≤ 111 ∧ ∀ n ∈ ss, n ≤ 40, ?_, ?_⟩
    · cases bs with
      | nil =>
        refine ⟨_, rfl, _, .inl ⟨_, SqL.of N8.hd, rfl⟩, iteT ?_⟩
        exact ⟨_, rfl, .inl ⟨rfl, _, SqL.of N8.hd⟩, p8, _, _, rfl, rfl, N8.hd, szl (by decide), _, _, _, _, _, rfl, (N8.app 40).le (by omega), by decide, by decide, fun n hn => by rw [List.mem_singleton.mp hn]; decide⟩
      | cons b0 br =>
        refine ⟨_, rfl, _, .inl ⟨_, SqL.of N8.hd, rfl⟩, iteF ?_⟩
        refine ⟨_, rfl, p8, _, rfl, .inl (SqL.of N8.hd), _, _, rfl, rfl, _, rfl, ite2 (fun _ => ?_) (fun _ => iteF ⟨_, _, _, _, _, rfl, N8.le (by omega), by simp, by omega, hb40⟩)⟩
        refine ⟨_, rfl, _, t, _, 2, rfl, N8.tp, by decide, by decide, by omega, fun H9 z T9 z0 z1 => ⟨rfl, ?_⟩⟩
        have N9 := N8.drw T9
        refine ⟨_, rfl, ite2 (fun _ => ?_) (fun _ => ⟨_, _, _, _, _, rfl, N9, by simp, by omega, hb40⟩)⟩
        exact ⟨_, rfl, .inl ⟨rfl, _, SqL.of N9.hd⟩, p8, _, _, rfl, rfl, N9.hd, szl (by rw [List.length_map]; omega), _, _, _, _, _, rfl, N9.app 40, by simp, by simp at hb1 ⊢; omega, mem_app_le hb40 (by decide)⟩
    rintro σ H8 ⟨v5, v6, v7, B8, ss, rfl, N9, hs1, hs61, hs40⟩
    have T8 := N9.tp
    have at8 := N9.at_
    refine ⟨_, rfl, _, rfl, p8, _, rfl, .inl (SqL.of (T8.at at8)), ?_⟩
    refine ⟨B8, t, _, _, rfl, T8, by rw [List.length_map]; omega, by rw [List.length_map]; omega, by omega, fun H9 at0 T9 a0 a1 => ?_⟩
    obtain ⟨at0, rfl⟩ := nat_of a0
    rw [List.length_map] at a1
    refine ⟨_, rfl, B8, t, _, 1, rfl, by decide, T9, by omega, fun H10 v d N T10 nN dv okd i40 => ?_⟩
    have at10 := (mrg_l (M := N)) _ _ at8
    refine ⟨_, rfl, _, rfl, p8, _, _, at0, rfl, rfl, T10.at at10, ixN_nat (by rw [List.length_map]; omega), ?_⟩
    have T11 := T10.set (o' := .lst ((ss.map nI).set at0 v)) at10
    have dv11 : Dp K (upd H10 p8 (.lst ((ss.map nI).set at0 v))) v d := Dp.mono (same_out ((nN.r (fun _ _ e => e)).trans T10.same) (nN.off at8)) _ _ dv
    have e11 : upd H10 p8 (.lst ((ss.map nI).set at0 v)) p8 = some (.lst ((ss.map nI).set at0 v)) := upd_same
    obtain ⟨X, eX⟩ : ∃ X, upd (mrg B8 N) p8 (.lst ((ss.map nI).set at0 v)) = X := ⟨_, rfl⟩
    obtain ⟨H11, eH⟩ : ∃ H11, upd H10 p8 (.lst ((ss.map nI).set at0 v)) = H11 := ⟨_, rfl⟩
    rw [eX, eH] at T11
    rw [eH] at dv11 e11 ⊢
    clear eX eH at10 T10 T9 T8
    have i40z := i40.1
    refine ⟨fun σ H' => ∃ v6 v7 : Option V, σ = [some (.ref a), some (.ref t), some (.ref p), some (.bl nb), some (.ref p8), some (.int at0), v6, v7] ∧ Tp X H' t 7000, ?_, ?_⟩
    · refine ⟨_, rfl, _, rfl, ?_⟩
      cases nb
      · refine iteF ⟨_, rfl, p8, _, rfl, .inl ⟨SqL.of e11, fun l hl => ?_⟩⟩
        obtain ⟨d, d1, d2, d3⟩ := spoilt_L40 (K := K) (H := upd H11 l (.tup ((ss.map nI).set at0 v))) (.inr upd_same) (Dp.mono (same_upd hl) _ _ dv11) okd i40z (by omega) hs40
        exact ⟨_, rfl, _, d, _, rfl, d1, d2, d3, fun H4 s4 => ⟨_, rfl, iteF ⟨_, _, rfl, (T11.ext ((same_upd hl).trans s4)).le (by omega)⟩⟩⟩
      · refine iteT ⟨_, rfl, ?_⟩
        obtain ⟨d, d1, d2, d3⟩ := spoilt_L40 (K := K) (H := H11) (.inl e11) dv11 okd i40z (by omega) hs40
        exact ⟨_, rfl, _, d, _, rfl, d1, d2, d3, fun H4 s4 => ⟨_, rfl, iteF ⟨_, _, rfl, (T11.ext s4).le (by omega)⟩⟩⟩
    rintro σ H12 ⟨v6, v7, rfl, T12⟩
    -- any values
    refine ⟨fun σ H' => ∃ (v6 v7 : Option V) (Y : Hp), σ = [some (.ref a), some (.ref t), some (.ref p), some (.bl nb), some (.ref p8), some (.int at0), v6, v7] ∧ Tp Y H' t 7301, ?_, ?_⟩
    · refine ⟨_, rfl, X, t, _, 2, rfl, by decide, T12, by decide, fun H13 v2 d2 N2 T13 nN2 dv2 okd2 i402 => ?_⟩
      refine ⟨_, rfl, v2, d2, _, rfl, Dp.mono ((nN2.r (fun _ _ e => e)).trans T13.same) _ _ dv2, okd2, i402.2, fun H14 s14 => ⟨_, rfl, iteF ?_⟩⟩
      refine ⟨_, rfl, _, t, _, 50, rfl, T13.ext s14, by decide, by decide, by decide, fun H15 z T15 z0 z1 => ?_⟩
      exact ⟨_, rfl, .int z, .int z, _, rfl, .int _, rfl, fun ds hd => (by rcases hd with hd | hd <;> cases hd), fun H16 s16 => ⟨_, rfl, iteF ⟨_, _, _, rfl, (T15.ext s16).le (by decide)⟩⟩⟩
    rintro σ H13 ⟨v6, v7, Y, rfl, T13⟩
    -- small ones
    refine ⟨_, rfl, Y, t, _, 6, rfl, T13, by decide, by decide, by decide, fun H14 m T14 m0 m1 => ?_⟩
    obtain ⟨m, rfl⟩ := nat_of m0
    refine ⟨m, rfl, by omega, by omega, fun D hD => lc_range (lo := 0) (n := m) (fun i H' => ∃ (B' : Hp) (bs : List Nat), Nl Y B' H' t D (7302 + i) bs ∧ bs.length = i ∧ ∀ n ∈ bs, n ≤ 40) ⟨_, [], ⟨same_upd (T14.isn hD), T14.new hD, upd_same, T14.isn hD⟩, rfl, fun n hn => by cases hn⟩ ?_ ?_⟩
    · rintro i H' hi ⟨B', bs, N, hl, h40⟩
      refine ⟨rfl, iteT (B := ∃ (B' : Hp) (bs : List Nat), Nl Y B' H' t D (7302 + (i + 1)) bs ∧ bs.length = i + 1 ∧ ∀ n ∈ bs, n ≤ 40) ?_⟩
      refine ⟨_, rfl, B', t, _, 4, rfl, N.tp, by decide, by decide, by omega, fun H5 z T5 z0 z1 => ⟨_, _, rfl, rfl, ?_⟩⟩
      obtain ⟨z, rfl⟩ := nat_of z0
      have N5 := N.drw T5
      exact ⟨_, N5.hd, szl (by rw [List.length_map]; omega), _, bs ++ [z + 1], (N5.app (z + 1)).le (by omega), by simp [hl], mem_app_le h40 (by omega)⟩
    rintro H15 ⟨B', bs, N, hl, h40⟩
    obtain ⟨d, d1, d2, d3⟩ := nums_L40 (K := K) (.inl N.hd) (by omega) h40
    refine ⟨_, rfl, _, rfl, _, d, _, rfl, d1, d2, d3, fun H16 s16 => ⟨_, rfl, iteT ?_⟩⟩
    refine ⟨Nat.zero_le _, fun l hl => ?_⟩
    obtain ⟨d, d1, d2, d3⟩ := nums_L40 (K := K) (H := upd H16 l (.lst [])) (ls := []) (.inl upd_same) (by decide) (fun n hn => by cases hn)
    refine ⟨_, rfl, _, d, _, rfl, d1, d2, d3, fun H17 s17 => ⟨_, rfl, iteT ?_⟩⟩
    refine ⟨szle (by show 1 ≤ 16777216; decide), fun l2 hl2 => ?_⟩
    obtain ⟨d, d1, d2, d3⟩ := nums_L40 (K := K) (H := upd H17 l2 (.tup [V.int 0])) (ls := [0]) (.inr upd_same) (by decide) (fun n hn => by rw [List.mem_singleton.mp hn]; decide)
    exact ⟨_, rfl, _, d, _, rfl, d1, d2, d3, fun H18 s18 => q H18⟩
end

abbrev spLaw := spAsks
section
variable {P : Program} {w : World} {K : PySem.W.Frag} {mg : Str → Option Value} {base : Heap}
theorem ok_law {f : Addr} {fd : FuncData} (F : Fun K "law" "law" s_law f fd) (T : Txt K mg) (c_law_asks : Cal P w K mg base 7 "_law_asks" (spAsks K)) : FnOk P w K mg base CX0 8 f fd ["script"] (spLaw K) := by
  refine F.ok sc_law (fun vs H Q E h => ?_) (fun cdv A outer s H vs Q E hr h => ?_)
  · obtain ⟨a, ns, rfl, _⟩ := h
    rfl
  · obtain ⟨a, ns, rfl, hS, hlen, q⟩ := h
    refine ⟨_, (pss_one (ps_try_thru0
      (pss_one (ps_ret (pe_c c_law_asks hr (by omega) (by rfl) (pa_cons (pv 0) pa_nil)))))), ?_⟩
    exact ⟨_, rfl, a, ns, rfl, hS, hlen, fun H' => q H'⟩
end

theorem all_mk {l : PySem.W.OpenLaw} {w : World} {K : PySem.W.Frag} {h : Heap} {mg : Str → Option Value} {fa f_is_integer f_is_number f_is_sequence f_are_numbers f_code_of f_word_of f_is_room_for f_law_tape f_law_draw f_law_below f_law_string f_law_stranger f_law_copy f_law_same f_law_are_lengths f_law_word f_law_code f_law_listed f_law_drawn_lengths f_law_told f_law_right f_law_asks f_law C_TooFull : Addr} (X : K.In h) (G : h.Ns mainGlobals mg) (hfa : mg "law" = some (.ref fa))
    {nm_TooFull qn_TooFull : Str} {N_TooFull B_TooFull : Addr} {bs_TooFull sub_TooFull : List Value} {sn_TooFull : List Str} {ab_TooFull : Bool} {col_TooFull : Option Bool} {dd_TooFull : Option Addr} {m0_TooFull m1_TooFull m2_TooFull m3_TooFull m5_TooFull : Option Value} {oc_TooFull dc_TooFull pm_TooFull ct_TooFull ccl_TooFull cl_TooFull : Value} {od_TooFull an_TooFull cdd_TooFull cld_TooFull : Option Addr} {sl_TooFull ccs_TooFull csl_TooFull : Array (Option Value)} {f_TooFull cda_TooFull cc_TooFull : Addr} {vs_TooFull : Array Value} {file_TooFull : Str} {tf_TooFull : Tok}
    {od_is_integer an_is_integer : Option Addr} {sl_is_integer : Array (Option Value)} {oc_is_integer kV_is_integer dc_is_integer pm_is_integer cd_is_integer ct_is_integer : Value}
    {od_is_number an_is_number : Option Addr} {sl_is_number : Array (Option Value)} {oc_is_number kV_is_number dc_is_number pm_is_number cd_is_number ct_is_number : Value}
    {od_is_sequence an_is_sequence : Option Addr} {sl_is_sequence : Array (Option Value)} {oc_is_sequence kV_is_sequence dc_is_sequence pm_is_sequence cd_is_sequence ct_is_sequence : Value}
    {od_are_numbers an_are_numbers : Option Addr} {sl_are_numbers : Array (Option Value)} {oc_are_numbers kV_are_numbers dc_are_numbers pm_are_numbers cd_are_numbers ct_are_numbers : Value}
    {od_code_of an_code_of : Option Addr} {sl_code_of : Array (Option Value)} {oc_code_of kV_code_of dc_code_of pm_code_of cd_code_of ct_code_of : Value}
    {od_word_of an_word_of : Option Addr} {sl_word_of : Array (Option Value)} {oc_word_of kV_word_of dc_word_of pm_word_of cd_word_of ct_word_of : Value}
    {od_is_room_for an_is_room_for : Option Addr} {sl_is_room_for : Array (Option Value)} {oc_is_room_for kV_is_room_for dc_is_room_for pm_is_room_for cd_is_room_for ct_is_room_for : Value}
    {od_law_tape an_law_tape : Option Addr} {sl_law_tape : Array (Option Value)} {oc_law_tape kV_law_tape dc_law_tape pm_law_tape cd_law_tape ct_law_tape : Value}
    {od_law_draw an_law_draw : Option Addr} {sl_law_draw : Array (Option Value)} {oc_law_draw kV_law_draw dc_law_draw pm_law_draw cd_law_draw ct_law_draw : Value}
    {od_law_below an_law_below : Option Addr} {sl_law_below : Array (Option Value)} {oc_law_below kV_law_below dc_law_below pm_law_below cd_law_below ct_law_below : Value}
    {od_law_string an_law_string : Option Addr} {sl_law_string : Array (Option Value)} {oc_law_string kV_law_string dc_law_string pm_law_string cd_law_string ct_law_string : Value}
    {od_law_stranger an_law_stranger : Option Addr} {sl_law_stranger : Array (Option Value)} {oc_law_stranger kV_law_stranger dc_law_stranger pm_law_stranger cd_law_stranger ct_law_stranger : Value}
    {od_law_copy an_law_copy : Option Addr} {sl_law_copy : Array (Option Value)} {oc_law_copy kV_law_copy dc_law_copy pm_law_copy cd_law_copy ct_law_copy : Value}
    {od_law_same an_law_same : Option Addr} {sl_law_same : Array (Option Value)} {oc_law_same kV_law_same dc_law_same pm_law_same cd_law_same ct_law_same : Value}
    {od_law_are_lengths an_law_are_lengths : Option Addr} {sl_law_are_lengths : Array (Option Value)} {oc_law_are_lengths kV_law_are_lengths dc_law_are_lengths pm_law_are_lengths cd_law_are_lengths ct_law_are_lengths : Value}
    {od_law_word an_law_word : Option Addr} {sl_law_word : Array (Option Value)} {oc_law_word kV_law_word dc_law_word pm_law_word cd_law_word ct_law_word : Value}
    {od_law_code an_law_code : Option Addr} {sl_law_code : Array (Option Value)} {oc_law_code kV_law_code dc_law_code pm_law_code cd_law_code ct_law_code : Value}
    {od_law_listed an_law_listed : Option Addr} {sl_law_listed : Array (Option Value)} {oc_law_listed kV_law_listed dc_law_listed pm_law_listed cd_law_listed ct_law_listed : Value}
    {od_law_drawn_lengths an_law_drawn_lengths : Option Addr} {sl_law_drawn_lengths : Array (Option Value)} {oc_law_drawn_lengths kV_law_drawn_lengths dc_law_drawn_lengths pm_law_drawn_lengths cd_law_drawn_lengths ct_law_drawn_lengths : Value}
    {od_law_told an_law_told : Option Addr} {sl_law_told : Array (Option Value)} {oc_law_told kV_law_told dc_law_told pm_law_told cd_law_told ct_law_told : Value}
    {od_law_right an_law_right : Option Addr} {sl_law_right : Array (Option Value)} {oc_law_right kV_law_right dc_law_right pm_law_right cd_law_right ct_law_right : Value}
    {od_law_asks an_law_asks : Option Addr} {sl_law_asks : Array (Option Value)} {oc_law_asks kV_law_asks dc_law_asks pm_law_asks cd_law_asks ct_law_asks : Value}
    {od_law an_law : Option Addr} {sl_law : Array (Option Value)} {oc_law kV_law dc_law pm_law cd_law ct_law : Value}
    (xgC_TooFull : PySem.W.nsIn K mainGlobals "TooFull" = some (some (.ref C_TooFull)))
    (xxL_TooFull : K.lookup C_TooFull = some (excClassObj nm_TooFull qn_TooFull C_TooFull N_TooFull bs_TooFull [.ref B_TooFull, .type "ValueError", .type "Exception", .type "BaseException", .type "object"] true sn_TooFull sub_TooFull ab_TooFull col_TooFull dd_TooFull m0_TooFull m1_TooFull m2_TooFull m3_TooFull m5_TooFull "ValueError.__new__"))
    (xsa_TooFull : PySem.W.findIn K (.ref C_TooFull) "__setattr__" = some (some (.builtin "object.__setattr__")))
    (xga_TooFull : PySem.W.findIn K (.ref C_TooFull) "__getattribute__" = some (some (.builtin "BaseException.__getattribute__")))
    (xgg_TooFull : PySem.W.findIn K (.ref C_TooFull) "__getattr__" = some none)
    (xiC_TooFull : PySem.W.findIn K (.ref C_TooFull) "__init__" = some (some (.ref f_TooFull)))
    (xtI_TooFull : PySem.W.typeIn K (.ref f_TooFull) = some (.type "function"))
    (xkC_TooFull : PySem.W.keepIn K (.ref C_TooFull) = true)
    (xeC_TooFull : PySem.W.subIn K (.ref C_TooFull) (.type "BaseException") = some true)
    (xvC_TooFull : PySem.W.subIn K (.ref C_TooFull) (.type "ValueError") = some true)
    (xse_TooFull : PySem.W.mroIn K C_TooFull (.ref C_TooFull) = some true)
    (xtC_TooFull : PySem.W.typeIn K (.ref C_TooFull) = some (.type "type"))
    (xhC_TooFull : PySem.W.hasDictIn K C_TooFull = true)
    (xcC_TooFull : PySem.W.isClsIn K C_TooFull = true)
    (xsC_TooFull : PySem.W.subIn K (.ref C_TooFull) (.ref C_TooFull) = some true)
    (xlI_TooFull : K.lookup f_TooFull = some ⟨oc_TooFull, od_TooFull, .func (PySem.W.ksFn "__init__" "TooFull.__init__" (defArgs s_TooFull___init__) (defBody s_TooFull___init__) (defScope s_TooFull___init__) .none .none dc_TooFull pm_TooFull an_TooFull (.ref cda_TooFull) ct_TooFull cc_TooFull), sl_TooFull⟩)
    (xcI_TooFull : PySem.W.codeIn K (.ref cda_TooFull) "TooFull.__init__" = true)
    (xcd_TooFull : K.lookup cda_TooFull = some ⟨ccl_TooFull, cdd_TooFull, .fields vs_TooFull, ccs_TooFull⟩)
    (xcc_TooFull : K.lookup cc_TooFull = some ⟨cl_TooFull, cld_TooFull, .cell (some (.ref C_TooFull)), csl_TooFull⟩)
    (xfi_TooFull : vs_TooFull[2]? = some (.str file_TooFull tf_TooFull))
    (xff_TooFull : ((l.prog.main.file : Str) == file_TooFull) = true)
    (xup_TooFull : PySem.W.ks_superIn K C_TooFull C_TooFull "__init__" = some (some (.builtin "ValueError.__init__")))
    (xn_TooFull_lengths : PySem.W.findIn K (.ref C_TooFull) "lengths" = some none)
    (xsu : PySem.W.nsIn K mainGlobals "super" = some none)
    (xop : PySem.W.nsIn K cStatics "thirdparty.any" = some none)
    (xtp : (l.prog.main.scope.names.lookup ("super" : Str)).isSome = false)
    (a_is_integer : PySem.W.nsIn K mainGlobals "is_integer" = some (some (.ref f_is_integer)))
    (l_is_integer : K.lookup f_is_integer = some ⟨oc_is_integer, od_is_integer, .func (PySem.W.fnOf "is_integer" "is_integer" (defArgs s_is_integer) (defBody s_is_integer) (defScope s_is_integer) .none kV_is_integer dc_is_integer pm_is_integer an_is_integer cd_is_integer ct_is_integer), sl_is_integer⟩)
    (c_is_integer : PySem.W.codeIn K cd_is_integer "is_integer" = true)
    (k_is_integer : PySem.W.keepIn K (.ref f_is_integer) = true)
    (a_is_number : PySem.W.nsIn K mainGlobals "is_number" = some (some (.ref f_is_number)))
    (l_is_number : K.lookup f_is_number = some ⟨oc_is_number, od_is_number, .func (PySem.W.fnOf "is_number" "is_number" (defArgs s_is_number) (defBody s_is_number) (defScope s_is_number) .none kV_is_number dc_is_number pm_is_number an_is_number cd_is_number ct_is_number), sl_is_number⟩)
    (c_is_number : PySem.W.codeIn K cd_is_number "is_number" = true)
    (k_is_number : PySem.W.keepIn K (.ref f_is_number) = true)
    (a_is_sequence : PySem.W.nsIn K mainGlobals "is_sequence" = some (some (.ref f_is_sequence)))
    (l_is_sequence : K.lookup f_is_sequence = some ⟨oc_is_sequence, od_is_sequence, .func (PySem.W.fnOf "is_sequence" "is_sequence" (defArgs s_is_sequence) (defBody s_is_sequence) (defScope s_is_sequence) .none kV_is_sequence dc_is_sequence pm_is_sequence an_is_sequence cd_is_sequence ct_is_sequence), sl_is_sequence⟩)
    (c_is_sequence : PySem.W.codeIn K cd_is_sequence "is_sequence" = true)
    (k_is_sequence : PySem.W.keepIn K (.ref f_is_sequence) = true)
    (a_are_numbers : PySem.W.nsIn K mainGlobals "are_numbers" = some (some (.ref f_are_numbers)))
    (l_are_numbers : K.lookup f_are_numbers = some ⟨oc_are_numbers, od_are_numbers, .func (PySem.W.fnOf "are_numbers" "are_numbers" (defArgs s_are_numbers) (defBody s_are_numbers) (defScope s_are_numbers) .none kV_are_numbers dc_are_numbers pm_are_numbers an_are_numbers cd_are_numbers ct_are_numbers), sl_are_numbers⟩)
    (c_are_numbers : PySem.W.codeIn K cd_are_numbers "are_numbers" = true)
    (k_are_numbers : PySem.W.keepIn K (.ref f_are_numbers) = true)
    (a_code_of : PySem.W.nsIn K mainGlobals "code_of" = some (some (.ref f_code_of)))
    (l_code_of : K.lookup f_code_of = some ⟨oc_code_of, od_code_of, .func (PySem.W.fnOf "code_of" "code_of" (defArgs s_code_of) (defBody s_code_of) (defScope s_code_of) .none kV_code_of dc_code_of pm_code_of an_code_of cd_code_of ct_code_of), sl_code_of⟩)
    (c_code_of : PySem.W.codeIn K cd_code_of "code_of" = true)
    (k_code_of : PySem.W.keepIn K (.ref f_code_of) = true)
    (a_word_of : PySem.W.nsIn K mainGlobals "word_of" = some (some (.ref f_word_of)))
    (l_word_of : K.lookup f_word_of = some ⟨oc_word_of, od_word_of, .func (PySem.W.fnOf "word_of" "word_of" (defArgs s_word_of) (defBody s_word_of) (defScope s_word_of) .none kV_word_of dc_word_of pm_word_of an_word_of cd_word_of ct_word_of), sl_word_of⟩)
    (c_word_of : PySem.W.codeIn K cd_word_of "word_of" = true)
    (k_word_of : PySem.W.keepIn K (.ref f_word_of) = true)
    (a_is_room_for : PySem.W.nsIn K mainGlobals "_is_room_for" = some (some (.ref f_is_room_for)))
    (l_is_room_for : K.lookup f_is_room_for = some ⟨oc_is_room_for, od_is_room_for, .func (PySem.W.fnOf "_is_room_for" "_is_room_for" (defArgs s_is_room_for) (defBody s_is_room_for) (defScope s_is_room_for) .none kV_is_room_for dc_is_room_for pm_is_room_for an_is_room_for cd_is_room_for ct_is_room_for), sl_is_room_for⟩)
    (c_is_room_for : PySem.W.codeIn K cd_is_room_for "_is_room_for" = true)
    (k_is_room_for : PySem.W.keepIn K (.ref f_is_room_for) = true)
    (a_law_tape : PySem.W.nsIn K mainGlobals "_law_tape" = some (some (.ref f_law_tape)))
    (l_law_tape : K.lookup f_law_tape = some ⟨oc_law_tape, od_law_tape, .func (PySem.W.fnOf "_law_tape" "_law_tape" (defArgs s_law_tape) (defBody s_law_tape) (defScope s_law_tape) .none kV_law_tape dc_law_tape pm_law_tape an_law_tape cd_law_tape ct_law_tape), sl_law_tape⟩)
    (c_law_tape : PySem.W.codeIn K cd_law_tape "_law_tape" = true)
    (k_law_tape : PySem.W.keepIn K (.ref f_law_tape) = true)
    (a_law_draw : PySem.W.nsIn K mainGlobals "_law_draw" = some (some (.ref f_law_draw)))
    (l_law_draw : K.lookup f_law_draw = some ⟨oc_law_draw, od_law_draw, .func (PySem.W.fnOf "_law_draw" "_law_draw" (defArgs s_law_draw) (defBody s_law_draw) (defScope s_law_draw) .none kV_law_draw dc_law_draw pm_law_draw an_law_draw cd_law_draw ct_law_draw), sl_law_draw⟩)
    (c_law_draw : PySem.W.codeIn K cd_law_draw "_law_draw" = true)
    (k_law_draw : PySem.W.keepIn K (.ref f_law_draw) = true)
    (a_law_below : PySem.W.nsIn K mainGlobals "_law_below" = some (some (.ref f_law_below)))
    (l_law_below : K.lookup f_law_below = some ⟨oc_law_below, od_law_below, .func (PySem.W.fnOf "_law_below" "_law_below" (defArgs s_law_below) (defBody s_law_below) (defScope s_law_below) .none kV_law_below dc_law_below pm_law_below an_law_below cd_law_below ct_law_below), sl_law_below⟩)
    (c_law_below : PySem.W.codeIn K cd_law_below "_law_below" = true)
    (k_law_below : PySem.W.keepIn K (.ref f_law_below) = true)
    (a_law_string : PySem.W.nsIn K mainGlobals "_law_string" = some (some (.ref f_law_string)))
    (l_law_string : K.lookup f_law_string = some ⟨oc_law_string, od_law_string, .func (PySem.W.fnOf "_law_string" "_law_string" (defArgs s_law_string) (defBody s_law_string) (defScope s_law_string) .none kV_law_string dc_law_string pm_law_string an_law_string cd_law_string ct_law_string), sl_law_string⟩)
    (c_law_string : PySem.W.codeIn K cd_law_string "_law_string" = true)
    (k_law_string : PySem.W.keepIn K (.ref f_law_string) = true)
    (a_law_stranger : PySem.W.nsIn K mainGlobals "_law_stranger" = some (some (.ref f_law_stranger)))
    (l_law_stranger : K.lookup f_law_stranger = some ⟨oc_law_stranger, od_law_stranger, .func (PySem.W.fnOf "_law_stranger" "_law_stranger" (defArgs s_law_stranger) (defBody s_law_stranger) (defScope s_law_stranger) .none kV_law_stranger dc_law_stranger pm_law_stranger an_law_stranger cd_law_stranger ct_law_stranger), sl_law_stranger⟩)
    (c_law_stranger : PySem.W.codeIn K cd_law_stranger "_law_stranger" = true)
    (k_law_stranger : PySem.W.keepIn K (.ref f_law_stranger) = true)
    (a_law_copy : PySem.W.nsIn K mainGlobals "_law_copy" = some (some (.ref f_law_copy)))
    (l_law_copy : K.lookup f_law_copy = some ⟨oc_law_copy, od_law_copy, .func (PySem.W.fnOf "_law_copy" "_law_copy" (defArgs s_law_copy) (defBody s_law_copy) (defScope s_law_copy) .none kV_law_copy dc_law_copy pm_law_copy an_law_copy cd_law_copy ct_law_copy), sl_law_copy⟩)
    (c_law_copy : PySem.W.codeIn K cd_law_copy "_law_copy" = true)
    (k_law_copy : PySem.W.keepIn K (.ref f_law_copy) = true)
    (a_law_same : PySem.W.nsIn K mainGlobals "_law_same" = some (some (.ref f_law_same)))
    (l_law_same : K.lookup f_law_same = some ⟨oc_law_same, od_law_same, .func (PySem.W.fnOf "_law_same" "_law_same" (defArgs s_law_same) (defBody s_law_same) (defScope s_law_same) .none kV_law_same dc_law_same pm_law_same an_law_same cd_law_same ct_law_same), sl_law_same⟩)
    (c_law_same : PySem.W.codeIn K cd_law_same "_law_same" = true)
    (k_law_same : PySem.W.keepIn K (.ref f_law_same) = true)
    (a_law_are_lengths : PySem.W.nsIn K mainGlobals "_law_are_lengths" = some (some (.ref f_law_are_lengths)))
    (l_law_are_lengths : K.lookup f_law_are_lengths = some ⟨oc_law_are_lengths, od_law_are_lengths, .func (PySem.W.fnOf "_law_are_lengths" "_law_are_lengths" (defArgs s_law_are_lengths) (defBody s_law_are_lengths) (defScope s_law_are_lengths) .none kV_law_are_lengths dc_law_are_lengths pm_law_are_lengths an_law_are_lengths cd_law_are_lengths ct_law_are_lengths), sl_law_are_lengths⟩)
    (c_law_are_lengths : PySem.W.codeIn K cd_law_are_lengths "_law_are_lengths" = true)
    (k_law_are_lengths : PySem.W.keepIn K (.ref f_law_are_lengths) = true)
    (a_law_word : PySem.W.nsIn K mainGlobals "_law_word" = some (some (.ref f_law_word)))
    (l_law_word : K.lookup f_law_word = some ⟨oc_law_word, od_law_word, .func (PySem.W.fnOf "_law_word" "_law_word" (defArgs s_law_word) (defBody s_law_word) (defScope s_law_word) .none kV_law_word dc_law_word pm_law_word an_law_word cd_law_word ct_law_word), sl_law_word⟩)
    (c_law_word : PySem.W.codeIn K cd_law_word "_law_word" = true)
    (k_law_word : PySem.W.keepIn K (.ref f_law_word) = true)
    (a_law_code : PySem.W.nsIn K mainGlobals "_law_code" = some (some (.ref f_law_code)))
    (l_law_code : K.lookup f_law_code = some ⟨oc_law_code, od_law_code, .func (PySem.W.fnOf "_law_code" "_law_code" (defArgs s_law_code) (defBody s_law_code) (defScope s_law_code) .none kV_law_code dc_law_code pm_law_code an_law_code cd_law_code ct_law_code), sl_law_code⟩)
    (c_law_code : PySem.W.codeIn K cd_law_code "_law_code" = true)
    (k_law_code : PySem.W.keepIn K (.ref f_law_code) = true)
    (a_law_listed : PySem.W.nsIn K mainGlobals "_law_listed" = some (some (.ref f_law_listed)))
    (l_law_listed : K.lookup f_law_listed = some ⟨oc_law_listed, od_law_listed, .func (PySem.W.fnOf "_law_listed" "_law_listed" (defArgs s_law_listed) (defBody s_law_listed) (defScope s_law_listed) .none kV_law_listed dc_law_listed pm_law_listed an_law_listed cd_law_listed ct_law_listed), sl_law_listed⟩)
    (c_law_listed : PySem.W.codeIn K cd_law_listed "_law_listed" = true)
    (k_law_listed : PySem.W.keepIn K (.ref f_law_listed) = true)
    (a_law_drawn_lengths : PySem.W.nsIn K mainGlobals "_law_drawn_lengths" = some (some (.ref f_law_drawn_lengths)))
    (l_law_drawn_lengths : K.lookup f_law_drawn_lengths = some ⟨oc_law_drawn_lengths, od_law_drawn_lengths, .func (PySem.W.fnOf "_law_drawn_lengths" "_law_drawn_lengths" (defArgs s_law_drawn_lengths) (defBody s_law_drawn_lengths) (defScope s_law_drawn_lengths) .none kV_law_drawn_lengths dc_law_drawn_lengths pm_law_drawn_lengths an_law_drawn_lengths cd_law_drawn_lengths ct_law_drawn_lengths), sl_law_drawn_lengths⟩)
    (c_law_drawn_lengths : PySem.W.codeIn K cd_law_drawn_lengths "_law_drawn_lengths" = true)
    (k_law_drawn_lengths : PySem.W.keepIn K (.ref f_law_drawn_lengths) = true)
    (a_law_told : PySem.W.nsIn K mainGlobals "_law_told" = some (some (.ref f_law_told)))
    (l_law_told : K.lookup f_law_told = some ⟨oc_law_told, od_law_told, .func (PySem.W.fnOf "_law_told" "_law_told" (defArgs s_law_told) (defBody s_law_told) (defScope s_law_told) .none kV_law_told dc_law_told pm_law_told an_law_told cd_law_told ct_law_told), sl_law_told⟩)
    (c_law_told : PySem.W.codeIn K cd_law_told "_law_told" = true)
    (k_law_told : PySem.W.keepIn K (.ref f_law_told) = true)
    (a_law_right : PySem.W.nsIn K mainGlobals "_law_right" = some (some (.ref f_law_right)))
    (l_law_right : K.lookup f_law_right = some ⟨oc_law_right, od_law_right, .func (PySem.W.fnOf "_law_right" "_law_right" (defArgs s_law_right) (defBody s_law_right) (defScope s_law_right) .none kV_law_right dc_law_right pm_law_right an_law_right cd_law_right ct_law_right), sl_law_right⟩)
    (c_law_right : PySem.W.codeIn K cd_law_right "_law_right" = true)
    (k_law_right : PySem.W.keepIn K (.ref f_law_right) = true)
    (a_law_asks : PySem.W.nsIn K mainGlobals "_law_asks" = some (some (.ref f_law_asks)))
    (l_law_asks : K.lookup f_law_asks = some ⟨oc_law_asks, od_law_asks, .func (PySem.W.fnOf "_law_asks" "_law_asks" (defArgs s_law_asks) (defBody s_law_asks) (defScope s_law_asks) .none kV_law_asks dc_law_asks pm_law_asks an_law_asks cd_law_asks ct_law_asks), sl_law_asks⟩)
    (c_law_asks : PySem.W.codeIn K cd_law_asks "_law_asks" = true)
    (k_law_asks : PySem.W.keepIn K (.ref f_law_asks) = true)
    (a_law : PySem.W.nsIn K mainGlobals "law" = some (some (.ref f_law)))
    (l_law : K.lookup f_law = some ⟨oc_law, od_law, .func (PySem.W.fnOf "law" "law" (defArgs s_law) (defBody s_law) (defScope s_law) .none kV_law dc_law pm_law an_law cd_law ct_law), sl_law⟩)
    (c_law : PySem.W.codeIn K cd_law "law" = true)
    (k_law : PySem.W.keepIn K (.ref f_law) = true)
    (z_super : PySem.W.nsIn K mainGlobals "super" = some none)
    (z_isinstance : PySem.W.nsIn K mainGlobals "isinstance" = some none)
    (z_int : PySem.W.nsIn K mainGlobals "int" = some none)
    (z_bool : PySem.W.nsIn K mainGlobals "bool" = some none)
    (z_tuple : PySem.W.nsIn K mainGlobals "tuple" = some none)
    (z_list : PySem.W.nsIn K mainGlobals "list" = some none)
    (z_all : PySem.W.nsIn K mainGlobals "all" = some none)
    (z_sorted : PySem.W.nsIn K mainGlobals "sorted" = some none)
    (z_len : PySem.W.nsIn K mainGlobals "len" = some none)
    (z_enumerate : PySem.W.nsIn K mainGlobals "enumerate" = some none)
    (z_abs : PySem.W.nsIn K mainGlobals "abs" = some none)
    (z_range : PySem.W.nsIn K mainGlobals "range" = some none)
    (z_str : PySem.W.nsIn K mainGlobals "str" = some none)
    (z_sum : PySem.W.nsIn K mainGlobals "sum" = some none)
    (z_any : PySem.W.nsIn K mainGlobals "any" = some none)
    (z_max : PySem.W.nsIn K mainGlobals "max" = some none)
    : ∃ fd : FuncData, (∀ (s : Shared) (v : Value), BindsTo s fd ⟨[v], []⟩ [("script", v)]) ∧ ∀ base : Heap, K.In base → base.Ns mainGlobals mg → FnOk l.prog w K mg base CX0 8 fa fd ["script"] (spLaw K) := by
  have e := hfa.symm.trans (PySem.W.mg_of X G a_law)
  cases e
  have T : Txt K mg := ⟨PySem.W.mg_none_of X G z_super, PySem.W.mg_none_of X G z_isinstance, PySem.W.mg_none_of X G z_int, PySem.W.mg_none_of X G z_bool, PySem.W.mg_none_of X G z_tuple, PySem.W.mg_none_of X G z_list, PySem.W.mg_none_of X G z_all, PySem.W.mg_none_of X G z_sorted, PySem.W.mg_none_of X G z_len, PySem.W.mg_none_of X G z_enumerate, PySem.W.mg_none_of X G z_abs, PySem.W.mg_none_of X G z_range, PySem.W.mg_none_of X G z_str, PySem.W.mg_none_of X G z_sum, PySem.W.mg_none_of X G z_any, PySem.W.mg_none_of X G z_max⟩
  have x_TooFull : XErr l.prog K mg "TooFull" C_TooFull ["lengths"] := ⟨"TooFull.__init__", f_TooFull, s_TooFull___init__, ⟨PySem.W.mg_of X G xgC_TooFull, ⟨_, _, _, _, _, _, _, _, _, _, _, _, _, _, _, xxL_TooFull, by rfl⟩, xsa_TooFull, xga_TooFull, xgg_TooFull, xiC_TooFull, xtI_TooFull, xkC_TooFull, xeC_TooFull, xvC_TooFull, xse_TooFull, xtC_TooFull, xhC_TooFull, exm_own xeC_TooFull xcC_TooFull xtC_TooFull xsC_TooFull, xup_TooFull, PySem.W.mg_none_of X G xsu, xop, xtp, _, _, _, _, _, _, _, _, _, _, _, _, _, _, _, _, _, _, xlI_TooFull, xcI_TooFull, xcd_TooFull, xfi_TooFull, xff_TooFull, xcc_TooFull⟩, xb_TooFull, by simpa using xn_TooFull_lengths⟩
  have F_is_integer := fun_mk (x := "is_integer") (qual := "is_integer") (st := s_is_integer) l_is_integer c_is_integer k_is_integer
  have b_is_integer := F_is_integer.binds (ps := ["value"]) fun _ _ _ _ _ _ us hl => match us, hl with | [_], _ => rfl
  have F_is_number := fun_mk (x := "is_number") (qual := "is_number") (st := s_is_number) l_is_number c_is_number k_is_number
  have b_is_number := F_is_number.binds (ps := ["value"]) fun _ _ _ _ _ _ us hl => match us, hl with | [_], _ => rfl
  have F_is_sequence := fun_mk (x := "is_sequence") (qual := "is_sequence") (st := s_is_sequence) l_is_sequence c_is_sequence k_is_sequence
  have b_is_sequence := F_is_sequence.binds (ps := ["value"]) fun _ _ _ _ _ _ us hl => match us, hl with | [_], _ => rfl
  have F_are_numbers := fun_mk (x := "are_numbers") (qual := "are_numbers") (st := s_are_numbers) l_are_numbers c_are_numbers k_are_numbers
  have b_are_numbers := F_are_numbers.binds (ps := ["value"]) fun _ _ _ _ _ _ us hl => match us, hl with | [_], _ => rfl
  have F_code_of := fun_mk (x := "code_of") (qual := "code_of") (st := s_code_of) l_code_of c_code_of k_code_of
  have b_code_of := F_code_of.binds (ps := ["lengths"]) fun _ _ _ _ _ _ us hl => match us, hl with | [_], _ => rfl
  have F_word_of := fun_mk (x := "word_of") (qual := "word_of") (st := s_word_of) l_word_of c_word_of k_word_of
  have b_word_of := F_word_of.binds (ps := ["value", "length"]) fun _ _ _ _ _ _ us hl => match us, hl with | [_, _], _ => rfl
  have F_is_room_for := fun_mk (x := "_is_room_for") (qual := "_is_room_for") (st := s_is_room_for) l_is_room_for c_is_room_for k_is_room_for
  have b_is_room_for := F_is_room_for.binds (ps := ["ascending"]) fun _ _ _ _ _ _ us hl => match us, hl with | [_], _ => rfl
  have F_law_tape := fun_mk (x := "_law_tape") (qual := "_law_tape") (st := s_law_tape) l_law_tape c_law_tape k_law_tape
  have b_law_tape := F_law_tape.binds (ps := ["script"]) fun _ _ _ _ _ _ us hl => match us, hl with | [_], _ => rfl
  have F_law_draw := fun_mk (x := "_law_draw") (qual := "_law_draw") (st := s_law_draw) l_law_draw c_law_draw k_law_draw
  have b_law_draw := F_law_draw.binds (ps := ["tape", "limit"]) fun _ _ _ _ _ _ us hl => match us, hl with | [_, _], _ => rfl
  have F_law_below := fun_mk (x := "_law_below") (qual := "_law_below") (st := s_law_below) l_law_below c_law_below k_law_below
  have b_law_below := F_law_below.binds (ps := ["tape"]) fun _ _ _ _ _ _ us hl => match us, hl with | [_], _ => rfl
  have F_law_string := fun_mk (x := "_law_string") (qual := "_law_string") (st := s_law_string) l_law_string c_law_string k_law_string
  have b_law_string := F_law_string.binds (ps := ["tape"]) fun _ _ _ _ _ _ us hl => match us, hl with | [_], _ => rfl
  have F_law_stranger := fun_mk (x := "_law_stranger") (qual := "_law_stranger") (st := s_law_stranger) l_law_stranger c_law_stranger k_law_stranger
  have b_law_stranger := F_law_stranger.binds (ps := ["tape", "deep"]) fun _ _ _ _ _ _ us hl => match us, hl with | [_, _], _ => rfl
  have F_law_copy := fun_mk (x := "_law_copy") (qual := "_law_copy") (st := s_law_copy) l_law_copy c_law_copy k_law_copy
  have b_law_copy := F_law_copy.binds (ps := ["thing"]) fun _ _ _ _ _ _ us hl => match us, hl with | [_], _ => rfl
  have F_law_same := fun_mk (x := "_law_same") (qual := "_law_same") (st := s_law_same) l_law_same c_law_same k_law_same
  have b_law_same := F_law_same.binds (ps := ["told", "due"]) fun _ _ _ _ _ _ us hl => match us, hl with | [_, _], _ => rfl
  have F_law_are_lengths := fun_mk (x := "_law_are_lengths") (qual := "_law_are_lengths") (st := s_law_are_lengths) l_law_are_lengths c_law_are_lengths k_law_are_lengths
  have b_law_are_lengths := F_law_are_lengths.binds (ps := ["value"]) fun _ _ _ _ _ _ us hl => match us, hl with | [_], _ => rfl
  have F_law_word := fun_mk (x := "_law_word") (qual := "_law_word") (st := s_law_word) l_law_word c_law_word k_law_word
  have b_law_word := F_law_word.binds (ps := ["value", "length"]) fun _ _ _ _ _ _ us hl => match us, hl with | [_, _], _ => rfl
  have F_law_code := fun_mk (x := "_law_code") (qual := "_law_code") (st := s_law_code) l_law_code c_law_code k_law_code
  have b_law_code := F_law_code.binds (ps := ["lengths"]) fun _ _ _ _ _ _ us hl => match us, hl with | [_], _ => rfl
  have F_law_listed := fun_mk (x := "_law_listed") (qual := "_law_listed") (st := s_law_listed) l_law_listed c_law_listed k_law_listed
  have b_law_listed := F_law_listed.binds (ps := ["lengths"]) fun _ _ _ _ _ _ us hl => match us, hl with | [_], _ => rfl
  have F_law_drawn_lengths := fun_mk (x := "_law_drawn_lengths") (qual := "_law_drawn_lengths") (st := s_law_drawn_lengths) l_law_drawn_lengths c_law_drawn_lengths k_law_drawn_lengths
  have b_law_drawn_lengths := F_law_drawn_lengths.binds (ps := ["tape"]) fun _ _ _ _ _ _ us hl => match us, hl with | [_], _ => rfl
  have F_law_told := fun_mk (x := "_law_told") (qual := "_law_told") (st := s_law_told) l_law_told c_law_told k_law_told
  have b_law_told := F_law_told.binds (ps := ["lengths", "by_name"]) fun _ _ _ _ _ _ us hl => match us, hl with | [_, _], _ => rfl
  have F_law_right := fun_mk (x := "_law_right") (qual := "_law_right") (st := s_law_right) l_law_right c_law_right k_law_right
  have b_law_right := F_law_right.binds (ps := ["value", "by_name"]) fun _ _ _ _ _ _ us hl => match us, hl with | [_, _], _ => rfl
  have F_law_asks := fun_mk (x := "_law_asks") (qual := "_law_asks") (st := s_law_asks) l_law_asks c_law_asks k_law_asks
  have b_law_asks := F_law_asks.binds (ps := ["script"]) fun _ _ _ _ _ _ us hl => match us, hl with | [_], _ => rfl
  have F_law := fun_mk (x := "law") (qual := "law") (st := s_law) l_law c_law k_law
  have b_law := F_law.binds (ps := ["script"]) fun _ _ _ _ _ _ us hl => match us, hl with | [_], _ => rfl
  refine ⟨PySem.W.fnOf "law" "law" (defArgs s_law) (defBody s_law) (defScope s_law) .none kV_law dc_law pm_law an_law cd_law ct_law, fun s v => .of_eq rfl, fun base KB GB => ?_⟩
  have G_is_integer := ok_is_integer (P := l.prog) (w := w) (base := base) F_is_integer T 
  have c_is_integer : Cal l.prog w K mg base 1 "is_integer" (spKind K isIntD) := ⟨_, _, _, G_is_integer, PySem.W.mg_of X G a_is_integer, k_is_integer, b_is_integer⟩
  have G_is_number := ok_is_number (P := l.prog) (w := w) (base := base) F_is_number T c_is_integer
  have c_is_number : Cal l.prog w K mg base 2 "is_number" (spKind K isNumD) := ⟨_, _, _, G_is_number, PySem.W.mg_of X G a_is_number, k_is_number, b_is_number⟩
  have G_is_sequence := ok_is_sequence (P := l.prog) (w := w) (base := base) F_is_sequence T 
  have c_is_sequence : Cal l.prog w K mg base 1 "is_sequence" (spSeq K) := ⟨_, _, _, G_is_sequence, PySem.W.mg_of X G a_is_sequence, k_is_sequence, b_is_sequence⟩
  have G_are_numbers := ok_are_numbers (P := l.prog) (w := w) (base := base) F_are_numbers T c_is_sequence c_is_number
  have c_are_numbers : Cal l.prog w K mg base 3 "are_numbers" (spRow K) := ⟨_, _, _, G_are_numbers, PySem.W.mg_of X G a_are_numbers, k_are_numbers, b_are_numbers⟩
  have G_word_of := ok_word_of (P := l.prog) (w := w) (base := base) F_word_of T 
  have c_word_of : Cal l.prog w K mg base 1 "word_of" (spWordOf) := ⟨_, _, _, G_word_of, PySem.W.mg_of X G a_word_of, k_word_of, b_word_of⟩
  have G_is_room_for := ok_is_room_for (P := l.prog) (w := w) (base := base) F_is_room_for T 
  have c_is_room_for : Cal l.prog w K mg base 1 "_is_room_for" (spRoom K) := ⟨_, _, _, G_is_room_for, PySem.W.mg_of X G a_is_room_for, k_is_room_for, b_is_room_for⟩
  have G_code_of := ok_code_of (P := l.prog) (w := w) (base := base) F_code_of T x_TooFull c_are_numbers c_is_room_for c_word_of
  have c_code_of : CalX l.prog w K mg base 4 "code_of" (spCodeOf K C_TooFull) := ⟨_, _, _, G_code_of, PySem.W.mg_of X G a_code_of, k_code_of, b_code_of⟩
  have ck_code_of_lengths : CalXK l.prog w K mg base 4 "code_of" 0 ["lengths"] (fun xs zs => xs ++ zs) (spCodeOf K C_TooFull) := ⟨_, _, _, fun us ws => us ++ ws, G_code_of, PySem.W.mg_of X G a_code_of, k_code_of, L2Fun_kbn F_code_of (fun _ _ _ _ _ _ us ws h1 h2 => match us, ws, h1, h2 with | [], [_], _, _ => rfl) (fun r1 r2 => r1.append r2)⟩
  have G_law_tape := ok_law_tape (P := l.prog) (w := w) (base := base) F_law_tape T 
  have c_law_tape : Cal l.prog w K mg base 1 "_law_tape" (spTape K) := ⟨_, _, _, G_law_tape, PySem.W.mg_of X G a_law_tape, k_law_tape, b_law_tape⟩
  have G_law_draw := ok_law_draw (P := l.prog) (w := w) (base := base) F_law_draw T 
  have c_law_draw : Cal l.prog w K mg base 1 "_law_draw" (spDraw) := ⟨_, _, _, G_law_draw, PySem.W.mg_of X G a_law_draw, k_law_draw, b_law_draw⟩
  have G_law_below := ok_law_below (P := l.prog) (w := w) (base := base) F_law_below T c_law_draw
  have c_law_below : Cal l.prog w K mg base 2 "_law_below" (spBelow0) := ⟨_, _, _, G_law_below, PySem.W.mg_of X G a_law_below, k_law_below, b_law_below⟩
  have G_law_string := ok_law_string (P := l.prog) (w := w) (base := base) F_law_string T c_law_draw
  have c_law_string : Cal l.prog w K mg base 2 "_law_string" (spString) := ⟨_, _, _, G_law_string, PySem.W.mg_of X G a_law_string, k_law_string, b_law_string⟩
  have c_law_stranger := cal_law_stranger (P := l.prog) (w := w) (base := base) F_law_stranger T (PySem.W.mg_of X G a_law_stranger) k_law_stranger b_law_stranger c_law_draw c_law_below c_law_string 3
  have c_law_copy := cal_law_copy (P := l.prog) (w := w) (base := base) F_law_copy T (PySem.W.mg_of X G a_law_copy) k_law_copy b_law_copy 4
  have c_law_same := cal_law_same (P := l.prog) (w := w) (base := base) F_law_same T (PySem.W.mg_of X G a_law_same) k_law_same b_law_same 4
  have G_law_are_lengths := ok_law_are_lengths (P := l.prog) (w := w) (base := base) F_law_are_lengths T 
  have c_law_are_lengths : Cal l.prog w K mg base 1 "_law_are_lengths" (spAre K) := ⟨_, _, _, G_law_are_lengths, PySem.W.mg_of X G a_law_are_lengths, k_law_are_lengths, b_law_are_lengths⟩
  have G_law_word := ok_law_word (P := l.prog) (w := w) (base := base) F_law_word T 
  have c_law_word : Cal l.prog w K mg base 1 "_law_word" (spLawWord) := ⟨_, _, _, G_law_word, PySem.W.mg_of X G a_law_word, k_law_word, b_law_word⟩
  have G_law_code := ok_law_code (P := l.prog) (w := w) (base := base) F_law_code T c_law_word
  have c_law_code : Cal l.prog w K mg base 2 "_law_code" (spLawCode K) := ⟨_, _, _, G_law_code, PySem.W.mg_of X G a_law_code, k_law_code, b_law_code⟩
  have G_law_listed := ok_law_listed (P := l.prog) (w := w) (base := base) F_law_listed T c_law_word
  have c_law_listed : Cal l.prog w K mg base 2 "_law_listed" (spLawListed K) := ⟨_, _, _, G_law_listed, PySem.W.mg_of X G a_law_listed, k_law_listed, b_law_listed⟩
  have G_law_drawn_lengths := ok_law_drawn_lengths (P := l.prog) (w := w) (base := base) F_law_drawn_lengths T c_law_draw
  have c_law_drawn_lengths : Cal l.prog w K mg base 2 "_law_drawn_lengths" (spDrawn) := ⟨_, _, _, G_law_drawn_lengths, PySem.W.mg_of X G a_law_drawn_lengths, k_law_drawn_lengths, b_law_drawn_lengths⟩
  have G_law_told := ok_law_told (P := l.prog) (w := w) (base := base) F_law_told T x_TooFull c_code_of ck_code_of_lengths
  have c_law_told : Cal l.prog w K mg base 5 "_law_told" (spTold K) := ⟨_, _, _, G_law_told, PySem.W.mg_of X G a_law_told, k_law_told, b_law_told⟩
  have G_law_right := ok_law_right (P := l.prog) (w := w) (base := base) F_law_right T c_law_copy c_law_told c_law_same c_law_are_lengths c_law_code c_law_listed
  have c_law_right : Cal l.prog w K mg base 6 "_law_right" (spRight K) := ⟨_, _, _, G_law_right, PySem.W.mg_of X G a_law_right, k_law_right, b_law_right⟩
  have G_law_asks := ok_law_asks (P := l.prog) (w := w) (base := base) F_law_asks T c_law_tape c_law_draw c_law_drawn_lengths c_law_right c_law_stranger
  have c_law_asks : Cal l.prog w K mg base 7 "_law_asks" (spAsks K) := ⟨_, _, _, G_law_asks, PySem.W.mg_of X G a_law_asks, k_law_asks, b_law_asks⟩
  have G_law := ok_law (P := l.prog) (w := w) (base := base) F_law T c_law_asks
  exact G_law
end K04
open PySem PySem.W PyProof.Rows
set_option maxRecDepth 100000 in
set_option maxHeartbeats 0 in
theorem PySem.Challenge.cw_keptbudgets_k04_code_of_lengths_holds : PySem.Challenge.rw_keptbudgets_k04_code_of_lengths.Holds := by
  w_on; o_law; k_head; (case hw => w_witness2)
  k_fill
  refine L2.walk_of (l := PySem.Challenge.rw_keptbudgets_k04_code_of_lengths) (n := 63) (k := 8) (x := "script") (CX := fun w => L2.CX0) (sp := fun w => K04.spLaw _) rfl (by decide) rfl ⟨rfl, by decide, by decide⟩ (fun w h Y => PySem.W.kIn_of Y) ?F (fun _ _ a ns hl _ hS => ⟨a, ns, rfl, hS, hl, fun _ => rfl⟩) (fun _ _ _ _ _ h => h)
  case F =>
    intro w mg fa h KX G hmg
    refine' K04.all_mk KX G hmg ?xgC_TooFull ?xxL_TooFull ?xsa_TooFull ?xga_TooFull ?xgg_TooFull ?xiC_TooFull ?xtI_TooFull ?xkC_TooFull ?xeC_TooFull ?xvC_TooFull ?xse_TooFull ?xtC_TooFull ?xhC_TooFull ?xcC_TooFull ?xsC_TooFull ?xlI_TooFull ?xcI_TooFull ?xcd_TooFull ?xcc_TooFull ?xfi_TooFull ?xff_TooFull ?xup_TooFull ?xn_TooFull_lengths ?xsu ?xop ?xtp ?a_is_integer ?l_is_integer ?c_is_integer ?k_is_integer ?a_is_number ?l_is_number ?c_is_number ?k_is_number ?a_is_sequence ?l_is_sequence ?c_is_sequence ?k_is_sequence ?a_are_numbers ?l_are_numbers ?c_are_numbers ?k_are_numbers ?a_code_of ?l_code_of ?c_code_of ?k_code_of ?a_word_of ?l_word_of ?c_word_of ?k_word_of ?a_is_room_for ?l_is_room_for ?c_is_room_for ?k_is_room_for ?a_law_tape ?l_law_tape ?c_law_tape ?k_law_tape ?a_law_draw ?l_law_draw ?c_law_draw ?k_law_draw ?a_law_below ?l_law_below ?c_law_below ?k_law_below ?a_law_string ?l_law_string ?c_law_string ?k_law_string ?a_law_stranger ?l_law_stranger ?c_law_stranger ?k_law_stranger ?a_law_copy ?l_law_copy ?c_law_copy ?k_law_copy ?a_law_same ?l_law_same ?c_law_same ?k_law_same ?a_law_are_lengths ?l_law_are_lengths ?c_law_are_lengths ?k_law_are_lengths ?a_law_word ?l_law_word ?c_law_word ?k_law_word ?a_law_code ?l_law_code ?c_law_code ?k_law_code ?a_law_listed ?l_law_listed ?c_law_listed ?k_law_listed ?a_law_drawn_lengths ?l_law_drawn_lengths ?c_law_drawn_lengths ?k_law_drawn_lengths ?a_law_told ?l_law_told ?c_law_told ?k_law_told ?a_law_right ?l_law_right ?c_law_right ?k_law_right ?a_law_asks ?l_law_asks ?c_law_asks ?k_law_asks ?a_law ?l_law ?c_law ?k_law ?z_super ?z_isinstance ?z_int ?z_bool ?z_tuple ?z_list ?z_all ?z_sorted ?z_len ?z_enumerate ?z_abs ?z_range ?z_str ?z_sum ?z_any ?z_max
    (case xgC_TooFull => k_is)
    (case xxL_TooFull => k_is)
    (case xsa_TooFull => k_is)
    (case xga_TooFull => k_is)
    (case xgg_TooFull => k_is)
    (case xiC_TooFull => k_is)
    (case xtI_TooFull => k_is)
    (case xkC_TooFull => k_is)
    (case xeC_TooFull => k_is)
    (case xvC_TooFull => k_is)
    (case xse_TooFull => k_is)
    (case xtC_TooFull => k_is)
    (case xhC_TooFull => k_is)
    (case xcC_TooFull => k_is)
    (case xsC_TooFull => k_is)
    (case xlI_TooFull => k_is)
    (case xcI_TooFull => k_is)
    (case xcd_TooFull => k_is)
    (case xcc_TooFull => k_is)
    (case xfi_TooFull => exact rfl)
    (case xff_TooFull => first | rfl | decide +kernel)
    (case xup_TooFull => first | k_is | ks_is)
    (case xn_TooFull_lengths => k_is)
    (case xsu => k_is)
    (case xop => k_is)
    (case xtp => first | rfl | decide +kernel)
    (case a_is_integer => k_is)
    (case l_is_integer => k_is)
    (case c_is_integer => k_is)
    (case k_is_integer => k_is)
    (case a_is_number => k_is)
    (case l_is_number => k_is)
    (case c_is_number => k_is)
    (case k_is_number => k_is)
    (case a_is_sequence => k_is)
    (case l_is_sequence => k_is)
    (case c_is_sequence => k_is)
    (case k_is_sequence => k_is)
    (case a_are_numbers => k_is)
    (case l_are_numbers => k_is)
    (case c_are_numbers => k_is)
    (case k_are_numbers => k_is)
    (case a_code_of => k_is)
    (case l_code_of => k_is)
    (case c_code_of => k_is)
    (case k_code_of => k_is)
    (case a_word_of => k_is)
    (case l_word_of => k_is)
    (case c_word_of => k_is)
    (case k_word_of => k_is)
    (case a_is_room_for => k_is)
    (case l_is_room_for => k_is)
    (case c_is_room_for => k_is)
    (case k_is_room_for => k_is)
    (case a_law_tape => k_is)
    (case l_law_tape => k_is)
    (case c_law_tape => k_is)
    (case k_law_tape => k_is)
    (case a_law_draw => k_is)
    (case l_law_draw => k_is)
    (case c_law_draw => k_is)
    (case k_law_draw => k_is)
    (case a_law_below => k_is)
    (case l_law_below => k_is)
    (case c_law_below => k_is)
    (case k_law_below => k_is)
    (case a_law_string => k_is)
    (case l_law_string => k_is)
    (case c_law_string => k_is)
    (case k_law_string => k_is)
    (case a_law_stranger => k_is)
    (case l_law_stranger => k_is)
    (case c_law_stranger => k_is)
    (case k_law_stranger => k_is)
    (case a_law_copy => k_is)
    (case l_law_copy => k_is)
    (case c_law_copy => k_is)
    (case k_law_copy => k_is)
    (case a_law_same => k_is)
    (case l_law_same => k_is)
    (case c_law_same => k_is)
    (case k_law_same => k_is)
    (case a_law_are_lengths => k_is)
    (case l_law_are_lengths => k_is)
    (case c_law_are_lengths => k_is)
    (case k_law_are_lengths => k_is)
    (case a_law_word => k_is)
    (case l_law_word => k_is)
    (case c_law_word => k_is)
    (case k_law_word => k_is)
    (case a_law_code => k_is)
    (case l_law_code => k_is)
    (case c_law_code => k_is)
    (case k_law_code => k_is)
    (case a_law_listed => k_is)
    (case l_law_listed => k_is)
    (case c_law_listed => k_is)
    (case k_law_listed => k_is)
    (case a_law_drawn_lengths => k_is)
    (case l_law_drawn_lengths => k_is)
    (case c_law_drawn_lengths => k_is)
    (case k_law_drawn_lengths => k_is)
    (case a_law_told => k_is)
    (case l_law_told => k_is)
    (case c_law_told => k_is)
    (case k_law_told => k_is)
    (case a_law_right => k_is)
    (case l_law_right => k_is)
    (case c_law_right => k_is)
    (case k_law_right => k_is)
    (case a_law_asks => k_is)
    (case l_law_asks => k_is)
    (case c_law_asks => k_is)
    (case k_law_asks => k_is)
    (case a_law => k_is)
    (case l_law => k_is)
    (case c_law => k_is)
    (case k_law => k_is)
    (case z_super => k_is)
    (case z_isinstance => k_is)
    (case z_int => k_is)
    (case z_bool => k_is)
    (case z_tuple => k_is)
    (case z_list => k_is)
    (case z_all => k_is)
    (case z_sorted => k_is)
    (case z_len => k_is)
    (case z_enumerate => k_is)
    (case z_abs => k_is)
    (case z_range => k_is)
    (case z_str => k_is)
    (case z_sum => k_is)
    (case z_any => k_is)
    (case z_max => k_is)
#print axioms PySem.Challenge.cw_keptbudgets_k04_code_of_lengths_holds
