import PyProof.Rows.All
import Wide.All
import OpenK.AllK
import Wide.FinOn
import HandS.ForMost
import HandS.ForExc
import HandS.Codes
import HandS.Wide
import HandS.WideBits
import HandS.IsInst
import HandS.Defaults
import PySem.Challenge.RW_keptbudgets_k13_counts_of_programs
set_option Elab.async false
set_option linter.all false
set_option maxRecDepth 100000
set_option maxHeartbeats 4000000
namespace KB
open PySem PySem.Spec PyProof.Rows L2

/-! ### heaps -/
theorem same_upd {H : Hp} {p : Addr} {o : HO} (h : H p = none) : Same H (upd H p o) := fun b x e => by
  rw [upd_ne (ne_of_none e h)]
  exact e
theorem same_set {B H : Hp} {p : Addr} {o : HO} (s : Same B H) : Same (upd B p o) (upd H p o) := fun b x e => by
  by_cases hb : b = p
  · subst hb
    rw [upd_same] at e ⊢
    exact e
  · rw [upd_ne hb] at e ⊢
    exact s b x e
theorem same_out {B H : Hp} {p : Addr} {o : HO} (s : Same B H) (h : B p = none) : Same B (upd H p o) := fun b x e => by
  rw [upd_ne (ne_of_none e h)]
  exact s b x e
theorem sz (n : Nat) (h : n ≤ 16777216 := by decide) : n ≤ sizeLine := by
  rw [sizeLine_eq]
  exact h
theorem szl {n : Nat} (h : n < 16777216) : n < sizeLine := by
  rw [sizeLine_eq]
  exact h
theorem szle {n : Nat} (h : n ≤ 16777216) : n ≤ sizeLine := by
  rw [sizeLine_eq]
  exact h

/-! ### the tape: B is all that stands beside it -/
structure Tp (B H : Hp) (t : Addr) (c : Nat) : Prop where
  same : Same B H
  bt : B t = none
  ex : ∃ (g : Addr) (gs : List Int) (sd ct : Int), B g = none ∧ t ≠ g ∧ H t = some (.lst [.ref g, .int sd, .int ct]) ∧ H g = some (.lst (gs.map V.int)) ∧
    gs.length ≤ 63 ∧ 0 ≤ sd ∧ sd < 2147483647 ∧ 0 ≤ ct ∧ ct ≤ (c : Int)
theorem Tp.le {B H : Hp} {t : Addr} {c d : Nat} (T : Tp B H t c) (h : c ≤ d) : Tp B H t d := by
  obtain ⟨s, b, g, gs, sd, ct, h1, h2, h3, h4, h5, h6, h7, h8, h9⟩ := T
  exact ⟨s, b, g, gs, sd, ct, h1, h2, h3, h4, h5, h6, h7, h8, by omega⟩
theorem Tp.new {B H : Hp} {t p : Addr} {c : Nat} {o : HO} (T : Tp B H t c) (h : H p = none) : Tp (upd B p o) (upd H p o) t c := by
  obtain ⟨s, b, g, gs, sd, ct, h1, h2, h3, h4, h5⟩ := T
  have e1 : t ≠ p := ne_of_none h3 h
  have e2 : g ≠ p := ne_of_none h4 h
  exact ⟨same_set s, by rw [upd_ne e1]; exact b, g, gs, sd, ct, by rw [upd_ne e2]; exact h1, h2, by rw [upd_ne e1]; exact h3, by rw [upd_ne e2]; exact h4, h5⟩
theorem Tp.set {B H : Hp} {t p : Addr} {c : Nat} {o o' : HO} (T : Tp B H t c) (h : B p = some o) : Tp (upd B p o') (upd H p o') t c := by
  obtain ⟨s, b, g, gs, sd, ct, h1, h2, h3, h4, h5⟩ := T
  have e1 : t ≠ p := fun z => by rw [z, h] at b; cases b
  have e2 : g ≠ p := fun z => by rw [z, h] at h1; cases h1
  exact ⟨same_set s, by rw [upd_ne e1]; exact b, g, gs, sd, ct, by rw [upd_ne e2]; exact h1, h2, by rw [upd_ne e1]; exact h3, by rw [upd_ne e2]; exact h4, h5⟩
theorem Tp.free {B H : Hp} {t p : Addr} {c : Nat} (T : Tp B H t c) (h : H p = none) : B p = none := T.same.free h
theorem Tp.at {B H : Hp} {t p : Addr} {c : Nat} {o : HO} (T : Tp B H t c) (h : B p = some o) : H p = some o := T.same _ _ h
theorem Tp.inst {B H : Hp} {t x dx C : Addr} {c : Nat} {fs : List (Str × V)} (T : Tp B H t c) (hx : H x = none) (hd : H dx = none) (ne : dx ≠ x) : Tp (upd (upd B dx (.own x)) x (.ins C dx fs)) (upd (upd H dx (.own x)) x (.ins C dx fs)) t c :=
  (T.new hd).new (by rw [upd_ne ne.symm]; exact hx)
theorem Tp.ext {B H H' : Hp} {t : Addr} {c : Nat} (T : Tp B H t c) (s : Same H H') : Tp B H' t c := by
  obtain ⟨sm, b, g, gs, sd, ct, h1, h2, h3, h4, h5⟩ := T
  exact ⟨sm.trans s, b, g, gs, sd, ct, h1, h2, s _ _ h3, s _ _ h4, h5⟩
theorem Tp.ext1 {B H H' : Hp} {t p : Addr} {c : Nat} {o : HO} (T : Tp B H t c) (s : Same H H') (hp : H p = none) (ho : H' p = some o) : Tp (upd B p o) H' t c := by
  obtain ⟨sm, b, g, gs, sd, ct, h1, h2, h3, h4, h5⟩ := T
  have e1 : t ≠ p := ne_of_none h3 hp
  have e2 : g ≠ p := ne_of_none h4 hp
  refine ⟨fun b x e => ?_, by rw [upd_ne e1]; exact b, g, gs, sd, ct, by rw [upd_ne e2]; exact h1, h2, s _ _ h3, s _ _ h4, h5⟩
  by_cases hb : b = p
  · subst hb
    rw [upd_same] at e
    rw [ho]
    exact e
  · rw [upd_ne hb] at e
    exact s _ _ (sm _ _ e)
theorem Tp.isn {B H : Hp} {t p : Addr} {c : Nat} (T : Tp B H t c) (h : H p = none) : B p = none := T.same.free h
theorem same_ins {B : Hp} {x dx C : Addr} {fs : List (Str × V)} (hx : B x = none) (hd : B dx = none) (ne : dx ≠ x) : Same B (upd (upd B dx (.own x)) x (.ins C dx fs)) :=
  (same_upd hd).trans (same_upd (by rw [upd_ne ne.symm]; exact hx))
/-- a draw's number is a natural one -/
theorem nat_of {n : Int} (h : 0 ≤ n) : ∃ k : Nat, n = (k : Int) := ⟨n.toNat, by omega⟩
end KB

namespace KB
open PySem PySem.Spec PyProof.Rows L2
section
variable {P : Program} {w : World} {K : PySem.W.Frag} {mg : Str → Option Value} {base : Heap}
/-- a def of the module that raises nothing, to be called by its name -/
structure Cal (P : Program) (w : World) (K : PySem.W.Frag) (mg : Str → Option Value) (base : Heap) (k : Nat) (x : Str) (sp : Sp) : Prop where
  ex : ∃ (f : Addr) (fd : FuncData) (ps : List Str), FnOk P w K mg base CX0 k f fd ps sp ∧ mg x = some (.ref f) ∧ PySem.W.keepIn K (.ref f) = true ∧ Binds K fd ps []
/-- .. called by keywords alone -/
structure CalK (P : Program) (w : World) (K : PySem.W.Frag) (mg : Str → Option Value) (base : Heap) (k : Nat) (x : Str) (n : Nat) (ks : List Str) (gV : List V → List V → List V) (sp : Sp) : Prop where
  ex : ∃ (f : Addr) (fd : FuncData) (ps : List Str) (g : List Value → List Value → List Value), FnOk P w K mg base CX0 k f fd ps sp ∧ mg x = some (.ref f) ∧ PySem.W.keepIn K (.ref f) = true ∧ KBn K fd ps n ks g gV
/-- a method of the class at C -/
structure Met (P : Program) (w : World) (K : PySem.W.Frag) (mg : Str → Option Value) (base : Heap) (k : Nat) (C : Addr) (m : Str) (sp : Sp) : Prop where
  ex : ∃ (f : Addr) (fd : FuncData) (ps : List Str), Cls K C ∧ Meth K C m f ∧ FnOk P w K mg base CX0 k f fd ps sp ∧ Binds K fd ps []
theorem L2Fun_kbn {x qual : Str} {st : Stmt} {f : Addr} {fd : FuncData} {ps ks : List Str} {n : Nat} {g : List Value → List Value → List Value} {gV : List V → List V → List V} (F : Fun K x qual st f fd)
    (h : ∀ (kV doc pm : Value) (an : Option Addr) (cdv ct : Value) (us ws : List Value), us.length = n → ws.length = ks.length → bindArgs (PySem.W.fnOf x qual (defArgs st) (defBody st) (defScope st) .none kV doc pm an cdv ct) ⟨us, ks.zip ws⟩ = pure (ps.zip (g us ws)))
    (hrel : ∀ {vs : List V} {us : List Value} {zs : List V} {ws : List Value}, Vals vs us → Vals zs ws → Vals (gV vs zs) (g us ws)) : KBn K fd ps n ks g gV := by
  obtain ⟨oc, od, kV, doc, pm, an, cdv, ct, osl, rfl, lk, hcd⟩ := F.ex
  exact ⟨fun s us ws _ l1 l2 => .of_eq (h kV doc pm an cdv ct us ws l1 l2), fun r1 r2 => hrel r1 r2⟩
end
theorem vals_rev : ∀ {vs : List V} {us : List Value}, Vals vs us → Vals vs.reverse us.reverse
  | _, _, .nil => .nil
  | _, _, .cons r t => by
    rw [List.reverse_cons, List.reverse_cons]
    exact (vals_rev t).append (.cons r .nil)
section
variable {X : Cx} {k j n : Nat} {C : Addr} {x m : Str} {sp : Sp} {p pos apos : Pos} {e o : Expr} {es : List Expr} {kws : List Keyword} {ta : TE} {t tk : TA} {ks : List Str} {gV : List V → List V → List V}
theorem pe_c (c : Cal X.prog X.w X.K X.mg X.base k x sp) (hr : Room j X.A) (hk : k ≤ j) (hg : Gl X x) (ha : PA X (e :: es) t)
    (hdb : (x == ("__debug__" : Str)) = false := by decide) (he : starEach (e :: es) X.env = (false, eval e X.env) :: starEach es X.env := by rfl) (hpl : (backTo pos (starEach es X.env)).any (·.1) = false := by rfl) :
    PE X (.Call (.Name x p) (e :: es) [] pos) (tCall sp [] E0 t) := by
  obtain ⟨f, fd, ps, F, hm, kp, b⟩ := c.ex
  exact pe_call F (hr.mono hk) hg hm kp b .nil pass0 ha hdb he hpl
theorem pe_c0 (c : Cal X.prog X.w X.K X.mg X.base k x sp) (hr : Room j X.A) (hk : k ≤ j) (hg : Gl X x)
    (hdb : (x == ("__debug__" : Str)) = false := by decide) :
    PE X (.Call (.Name x p) [] [] pos) (tCall sp [] E0 tNil) := by
  obtain ⟨f, fd, ps, F, hm, kp, b⟩ := c.ex
  exact pe_call0 F (hr.mono hk) hg hm kp b .nil pass0 hdb
theorem pe_mt {pl : Sem Bool} (c : Met X.prog X.w X.K X.mg X.base k C m sp) (hr : Room j X.A) (hk : k ≤ j) (he : PE X o ta) (ha : PA X (e :: es) t)
    (hst : starEach (e :: es) X.env = (false, eval e X.env) :: starEach es X.env := by rfl) (hpl : (backTo pos (starEach es X.env)).any (·.1) = false := by rfl)
    (ht : eval (.Call (.Attribute o m apos) (e :: es) [] pos) X.env = (do
      let ov ← eval o X.env
      standAt apos.atName
      let (f, first) ← holding [ov] (getMethod ov m pl)
      callWith pos f first (backTo pos (starEach (e :: es) X.env)) (backToKw pos (keywordEach [] X.env))) := by rfl) :
    PE X (.Call (.Attribute o m apos) (e :: es) [] pos) (tMeth C m sp [] E0 ta t) := by
  obtain ⟨f, fd, ps, hc, hm, F, b⟩ := c.ex
  exact pe_meth (pl := pl) he hc hm F (hr.mono hk) b .nil pass0 ha hst hpl ht
theorem pe_mt0 {pl : Sem Bool} (c : Met X.prog X.w X.K X.mg X.base k C m sp) (hr : Room j X.A) (hk : k ≤ j) (he : PE X o ta)
    (ht : eval (.Call (.Attribute o m apos) [] [] pos) X.env = (do
      let ov ← eval o X.env
      standAt apos.atName
      let (f, first) ← holding [ov] (getMethod ov m pl)
      callWith pos f first (backTo pos (starEach [] X.env)) (backToKw pos (keywordEach [] X.env))) := by rfl) :
    PE X (.Call (.Attribute o m apos) [] [] pos) (tMeth C m sp [] E0 ta tNil) := by
  obtain ⟨f, fd, ps, hc, hm, F, b⟩ := c.ex
  exact pe_meth0 (pl := pl) he hc hm F (hr.mono hk) b .nil pass0 ht
/-- f(k = v, ..) -/
def tCallK0 (m : Nat) (sp : Sp) (gV : List V → List V → List V) (E : XK) (tk : TA) : TE := fun σ H Q => tk σ H fun zs H2 => zs.length = m ∧ sp (gV [] zs) H2 Q E
theorem pe_cK0 (c : CalK X.prog X.w X.K X.mg X.base k x 0 ks gV sp) (hr : Room j X.A) (hk : k ≤ j) (hg : Gl X x) (hkw : PK X kws tk)
    (hall : (backToKw pos (keywordEach kws X.env)).all (·.1.isSome) = true := by rfl) (hks : (backToKw pos (keywordEach kws X.env)).filterMap (·.1) = ks := by rfl) (hdb : (x == ("__debug__" : Str)) = false := by decide)
    (hpl : ((backTo pos (starEach [] X.env)).any (·.1) || (backToKw pos (keywordEach kws X.env)).any (·.1.isNone)) = false := by rfl) :
    PE X (.Call (.Name x p) [] kws pos) (tCallK0 ks.length sp gV E0 tk) := by
  obtain ⟨f, fd, ps, g, F, hm, kp, hb⟩ := c.ex
  refine ⟨fun pins s σ H Q I h => ?_⟩
  refine wpAny_Call_Name_kw (ld_glob I hg hm ?_ hdb)
  refine PySem.W.callWith_KW0 (h₀ := X.base) I.ok.mod.kin kp hall ?_ hpl
  refine thn (hkw.run pos pins s σ H _ I h) fun ws s2 ⟨zs, H2, I2, rz, l2, q2⟩ => ⟨I2.kIn, ?_⟩
  rw [hks]
  have r2 : Vals (gV [] zs) (g [] ws) := hb.rel (vs := []) (us := []) .nil rz
  refine wpAny_call (codeAny_mono (F.run X.A X.stack s2 H2 ⟨[], ks.zip ws⟩ (g [] ws) (gV [] zs) Q E0 (hr.mono hk) I2.env0 (hb.to s2 [] ws I2.kIn rfl (rz.length.symm.trans l2)) r2 q2) fun r s' hq => ?_)
  cases r with
  | error e => exact pass0 pins σ H2 s2 e s' I2 hq
  | ok fl =>
    cases fl with
    | ret u => exact I2.after hq
    | next => exact False.elim hq
    | brk => exact False.elim hq
    | cont => exact False.elim hq
/-- C() of a class that has no __init__ of its own -/
structure Mk0 (K : PySem.W.Frag) (C : Addr) : Prop where
  makes : PySem.W.makesIn K C = true
  init : PySem.W.findIn K (.ref C) "__init__" = some (some (.builtin "object.__init__"))
  kp : PySem.W.keepIn K (.ref C) = true
  top : PySem.W.mroIn K C (.type "object") = some true
def tNew0 (C : Addr) : TE := fun _ H Q => ∀ x dx, H x = none → H dx = none → dx ≠ x → Q (.ref x) (upd (upd H dx (.own x)) x (.ins C dx []))
theorem pe_new0 (M : Mk0 X.K C) (hg : Gl X x) (hm : X.mg x = some (.ref C)) (hdb : (x == ("__debug__" : Str)) = false := by decide) : PE X (.Call (.Name x p) [] [] pos) (tNew0 C) := by
  refine ⟨fun pins s σ H Q I h => ?_⟩
  refine wpAny_Call_Name_kw (ld_glob I hg hm ?_ hdb)
  refine PySem.W.callWith_K0 I.kIn M.kp ?_
  have hq := h (s.heap.objs.size + 1) s.heap.objs.size (I.hok.fresh (Nat.le_succ _)) (I.hok.fresh (Nat.le_refl _)) (Nat.ne_of_lt (Nat.lt_succ_self _))
  have I2 := Inv.made (C := C) I
  have hx : ((s.heap.push PySem.W.emptyDict).push (PySem.W.instObj C s.heap.objs.size)).get? (s.heap.objs.size + 1) = some (PySem.W.instObj C s.heap.objs.size) := by
    have := Heap.get?_push_size (s.heap.push PySem.W.emptyDict) (o := PySem.W.instObj C s.heap.objs.size) rfl
    rwa [Heap.size_push] at this
  have t1 : PySem.W.Looks (model X.prog X.w) ((s.heap.push PySem.W.emptyDict).push (PySem.W.instObj C s.heap.objs.size)) (typeOf (.ref (s.heap.objs.size + 1))) (.ref C) := (PySem.W.Looks.ld hx).andThen .now
  have t2 : PySem.W.Looks (model X.prog X.w) ((s.heap.push PySem.W.emptyDict).push (PySem.W.instObj C s.heap.objs.size)) (isInstance (.ref (s.heap.objs.size + 1)) (.type "object")) true := t1.andThen (PySem.W.looks_mroIn I2.kIn M.top)
  refine wpAny_call (make_map0 I.kIn M.makes M.init (fun self => PySem.W.Looks.of_pure (PySem.W.oi_bind self)) ?_)
  refine codeAny_call_builtin PySem.W.oi_plain PySem.W.entry_oi (@PySem.W.check_slot (model X.prog X.w) _ _ _ "object.__init__" "object" "__init__" (.ref (s.heap.objs.size + 1)) [] [] _ PySem.W.oi_kind PySem.W.oi_split t2 (PySem.W.oi_args _) ?_)
  rw [PySem.W.oi_run]
  exact wpAny_pure (And.intro rfl ⟨V.ref (s.heap.objs.size + 1), _, I2, rfl, hq⟩)
end
end KB

namespace K13
open PySem PySem.Spec PyProof.Rows L2 KB
local macro_rules | `(tactic| walk_at "hp") => `(tactic| (repeat' (first | exact upd_same | assumption | (refine same_upd (by assumption) _ _ ?_) | (rw [upd_ne (by assumption)]) | (rw [upd_ne (Ne.symm (by assumption))]))))

def topS (i : Nat) : Stmt := PySem.Challenge.pw_keptbudgets_k13_counts_of_programs.main.body.getD i (.Pass ⟨0, 0, 0, 0⟩)
abbrev s_law_tape : Stmt := topS 17
theorem sc_law_tape : FnScope ["script", "great", "seed", "cell"] ["script"] (defScope s_law_tape) := ⟨rfl, rfl, rfl, by decide +kernel, rfl, by decide +kernel, by decide +kernel⟩
abbrev s_law_draw : Stmt := topS 18
theorem sc_law_draw : FnScope ["tape", "limit", "great", "number", "mixed"] ["tape", "limit"] (defScope s_law_draw) := ⟨rfl, rfl, rfl, by decide +kernel, rfl, by decide +kernel, by decide +kernel⟩
abbrev s_ways_to_close : Stmt := topS 11
theorem sc_ways_to_close : FnScope ["language", "tokens", "closers", "others", "ways", "left", "fewer", "row", "depth"] ["language", "tokens"] (defScope s_ways_to_close) := ⟨rfl, rfl, rfl, by decide +kernel, rfl, by decide +kernel, by decide +kernel⟩
abbrev s_count_programs : Stmt := topS 10
theorem sc_count_programs : FnScope ["language", "tokens"] ["language", "tokens"] (defScope s_count_programs) := ⟨rfl, rfl, rfl, by decide +kernel, rfl, by decide +kernel, by decide +kernel⟩
abbrev s_law_counts : Stmt := topS 19
theorem sc_law_counts : FnScope ["plain", "closers", "ways", "k", "counts", "grown", "j", "deep"] ["plain", "closers"] (defScope s_law_counts) := ⟨rfl, rfl, rfl, by decide +kernel, rfl, by decide +kernel, by decide +kernel⟩
abbrev s_law_listed : Stmt := topS 20
theorem sc_law_listed : FnScope ["tokens", "closers", "many", "value", "deep", "whole", "k", "code"] ["tokens", "closers"] (defScope s_law_listed) := ⟨rfl, rfl, rfl, by decide +kernel, rfl, by decide +kernel, by decide +kernel⟩
abbrev s_law_asks : Stmt := topS 21
theorem sc_law_asks : FnScope ["script", "tape", "languages", "counts", "kinds", "small", "seen", "totals", "k", "which", "tokens", "language", "told", "met"] ["script"] (defScope s_law_asks) := ⟨rfl, rfl, rfl, by decide +kernel, rfl, by decide +kernel, by decide +kernel⟩
abbrev s_law : Stmt := topS 22
theorem sc_law : FnScope ["script"] ["script"] (defScope s_law) := ⟨rfl, rfl, rfl, by decide +kernel, rfl, by decide +kernel, by decide +kernel⟩
structure Txt (K : PySem.W.Frag) (mg : Str → Option Value) (C_Reels : Addr) (C_Stacks : Addr) : Prop where
  b_int : mg "int" = none
  b_abs : mg "abs" = none
  b_len : mg "len" = none
  b_range : mg "range" = none
  b_isinstance : mg "isinstance" = none
  b_bool : mg "bool" = none
  g_Reels : mg "Reels" = some (.ref C_Reels)
  g_Stacks : mg "Stacks" = some (.ref C_Stacks)
/-! ### the tape's two defs -/
def spTape (K : PySem.W.Frag) : Sp := fun vs H Q _ => ∃ (a : Addr) (ns : List Int), vs = [.ref a] ∧ SqL K H a (ns.map V.int) ∧ ns.length ≤ 63 ∧ ∀ H' t, Tp H H' t 0 → Q (.ref t) H'
def spDraw : Sp := fun vs H Q _ => ∃ (B : Hp) (t : Addr) (c : Nat) (lim : Int), vs = [.ref t, .int lim] ∧ Tp B H t c ∧ 0 < lim ∧ lim < 1073741824 ∧ c < 1000000000 ∧ ∀ H' n, Tp B H' t (c + 1) → 0 ≤ n → n < lim → Q (.int n) H'
section
variable {P : Program} {w : World} {K : PySem.W.Frag} {mg : Str → Option Value} {base : Heap} {C_Reels C_Stacks : Addr}
theorem ok_law_tape {f : Addr} {fd : FuncData} (F : Fun K "_law_tape" "_law_tape" s_law_tape f fd) (T : Txt K mg C_Reels C_Stacks) : FnOk P w K mg base CX0 1 f fd ["script"] (spTape K) := by
  refine F.ok sc_law_tape (fun vs H Q E h => ?_) (fun cdv A outer s H vs Q E hr h => ?_)
  · obtain ⟨a, ns, rfl, _⟩ := h
    rfl
  · obtain ⟨a, ns, rfl, hS, hlen, q⟩ := h
    refine ⟨_, (pss_cons (ps_set (i := 1) sc_law_tape.nd rfl (by first | exact Or.inl rfl | exact Or.inr rfl) (pe_lst pa_nil))
    (pss_cons (ps_set (i := 2) sc_law_tape.nd rfl (by first | exact Or.inl rfl | exact Or.inr rfl) pe_int)
    (pss_cons (ps_for PassesOwn.never rfl (pi_list (pe_slice sl_list (pv 0) po_none (po_some pe_int))) (pg_name (i := 3) sc_law_tape.nd rfl (by first | exact Or.inl rfl | exact Or.inr rfl))
      (pss_cons (ps_set (i := 2) sc_law_tape.nd rfl (by first | exact Or.inl rfl | exact Or.inr rfl) (pe_op op_mod (pe_callTy call_int1 (by rfl) T.b_int (by decide +kernel) (pa_cons (pe_op op_add (pe_op op_mul (pv 2) pe_int) (pe_callTy call_int1 (by rfl) T.b_int (by decide +kernel) (pa_cons (pv 3) pa_nil))) pa_nil)) pe_int))
        (pss_one (ps_if (pt_cmpR op_ge (pe_callB call_abs (by rfl) T.b_abs (by decide +kernel) (pa_cons (pe_callTy call_int1 (by rfl) T.b_int (by decide +kernel) (pa_cons (pv 3) pa_nil)) pa_nil)) (pe_op op_pow pe_int pe_int) (nomark _))
          (pss_one (ps_expr (pe_bm PySem.F.plainAttrs_list PySem.F.slot_list_append PySem.F.type_list_append mt_append (pv 1) (pa_cons (pe_callB call_abs (by rfl) T.b_abs (by decide +kernel) (pa_cons (pe_callTy call_int1 (by rfl) T.b_int (by decide +kernel) (pa_cons (pv 3) pa_nil)) pa_nil)) pa_nil))))
          pss_nil))))
    (pss_cons (ps_expr (pe_bm0 PySem.F.plainAttrs_list PySem.F.slot_list_reverse PySem.F.type_list_reverse mt_reverse (pv 1)))
    (pss_one (ps_ret (pe_lst (pa_cons (pv 1) (pa_cons (pv 2) (pa_cons pe_int pa_nil)))))))))), ?_⟩
    refine ⟨Nat.zero_le _, fun g hg => ?_⟩
    have s1 : Same H (upd H g (.lst [])) := same_upd hg
    refine ⟨_, rfl, 63, rfl, a, _, rfl, s1.seq hS, fun p hp => ?_⟩
    have hpg : g ≠ p := ne_of_none upd_same hp
    have hHp : H p = none := s1.free hp
    obtain ⟨ms, em, lm⟩ : ∃ ms : List Int, cutV (ns.map V.int) none (some 63) = ms.map V.int ∧ ms.length ≤ 63 := by
      refine ⟨(ns.drop (HT.sIx (ns.map V.int).length 0 none)).take (HT.sIx (ns.map V.int).length (ns.map V.int).length (some 63) - HT.sIx (ns.map V.int).length 0 none), ?_, ?_⟩
      · unfold cutV
        rw [List.map_take, List.map_drop]
      · rw [List.length_take, List.length_drop]
        omega
    rw [em]
    refine ⟨p, rfl, ⟨_, SqL.of upd_same⟩, for_list (K := K) (a := p) (xs := ms.map V.int) (fun i σ H' => ∃ (gs : List Int) (sd : Int) (v : Option V), σ = [some (.ref a), some (.ref g), some (.int sd), v] ∧ Same H H' ∧ H' g = some (.lst (gs.map V.int)) ∧ H' p = some (.lst (ms.map V.int)) ∧ gs.length ≤ i ∧ 0 ≤ sd ∧ sd < 2147483647)
      ⟨[], _, none, rfl, ?_, ?_, upd_same, Nat.le_refl _, by decide, by decide⟩ (fun i σ H' _ h => ?_) ?_ ?_⟩
    · exact s1.trans (same_upd hp)
    · rw [upd_ne hpg, upd_same]
      rfl
    · obtain ⟨_, _, _, _, _, _, h, _⟩ := h
      exact SqL.of h
    · rintro i x σ H' hi ⟨gs, sd, v, rfl, sm, eg, ep, hl, h0, h1⟩
      obtain ⟨u, rfl⟩ : ∃ u, x = V.int u := by
        rw [List.getElem?_map] at hi
        cases e : ms[i]? with
        | none => rw [e] at hi; cases hi
        | some u => rw [e] at hi; exact ⟨u, (Option.some.inj hi).symm⟩
      have hi63 : i < 63 := by
        have q := (List.getElem?_eq_some_iff.mp hi).1
        rw [List.length_map] at q
        omega
      refine ⟨_, rfl, _, _, rfl, rfl, .inl ⟨by omega, by omega⟩, _, rfl, .inl ⟨_, rfl, _, _, rfl, rfl, .inl ⟨_, rfl, _, _, rfl, rfl, (by show (0 : Int) < 2147483647; decide), ?_⟩⟩⟩
      have b0 := Int.emod_nonneg (sd * 48271 + u) (b := 2147483647) (by decide)
      have b1 := Int.emod_lt_of_pos (sd * 48271 + u) (b := 2147483647) (by decide)
      refine ⟨_, rfl, .inl ⟨_, rfl, _, rfl, _, _, rfl, rfl, ⟨by decide, by decide, by decide⟩, _, _, rfl, rfl, _, rfl, ite2 (fun _ => ?_) (fun _ => ?_)⟩⟩
      · refine ⟨_, rfl, .inl ⟨rfl, _, SqL.of eg⟩, _, rfl, .inl ⟨_, rfl, _, rfl, g, _, _, rfl, rfl, eg, ?_, ?_⟩⟩
        · rw [List.length_map]
          exact szl (by omega)
        · refine ⟨gs ++ [if u < 0 then -u else u], _, _, rfl, same_out sm hg, ?_, ?_, ?_, b0, b1⟩
          · rw [upd_same, List.map_append]
            rfl
          · rw [upd_ne hpg.symm]
            exact ep
          · rw [List.length_append]
            simp only [List.length_cons, List.length_nil]
            omega
      · exact ⟨gs, _, _, rfl, sm, eg, ep, by omega, b0, b1⟩
    · rintro σ H' ⟨gs, sd, v, rfl, sm, eg, ep, hl, h0, h1⟩
      refine ⟨_, rfl, .inl ⟨rfl, _, SqL.of eg⟩, g, _, rfl, rfl, eg, ?_⟩
      refine ⟨_, rfl, _, rfl, szle (by show 3 ≤ 16777216; decide), fun t ht => ?_⟩
      have ht' : H' t = none := by
        by_cases e : t = g
        · rw [e, upd_same] at ht
          cases ht
        · rw [upd_ne e] at ht
          exact ht
      have htg : t ≠ g := fun e => by rw [e, upd_same] at ht; cases ht
      refine q _ t ⟨same_out (same_out sm hg) (sm.free ht'), sm.free ht', g, gs.reverse, sd, 0, hg, htg, upd_same, ?_, ?_, h0, h1, by decide, by decide⟩
      · rw [upd_ne htg.symm, upd_same, List.map_reverse]
      · rw [List.length_reverse]
        rw [List.length_map] at hl
        omega
theorem ok_law_draw {f : Addr} {fd : FuncData} (F : Fun K "_law_draw" "_law_draw" s_law_draw f fd) (T : Txt K mg C_Reels C_Stacks) : FnOk P w K mg base CX0 1 f fd ["tape", "limit"] spDraw := by
  refine F.ok sc_law_draw (fun vs H Q E h => ?_) (fun cdv A outer s H vs Q E hr h => ?_)
  · obtain ⟨B, t, c, lim, rfl, _⟩ := h
    rfl
  · obtain ⟨B, t, c, lim, rfl, ⟨sm, bt, g, gs, sd, ct, bg, htg, et, eg, hgl, s0, s1, c0, c1⟩, l0, l1, hc, q⟩ := h
    refine ⟨_, (pss_cons (ps_set (i := 2) sc_law_draw.nd rfl (by first | exact Or.inl rfl | exact Or.inr rfl) (pe_ix ix_list (pv 0) pe_int (fun _ _ => rfl)))
    (pss_cons (ps_if (pt_truth (pv 2) (by intro _; rfl))
      (pss_cons (ps_set (i := 3) sc_law_draw.nd rfl (by first | exact Or.inl rfl | exact Or.inr rfl) (pe_bm0 PySem.F.plainAttrs_list PySem.F.slot_list_pop PySem.F.type_list_pop mt_pop (pv 2)))
        (pss_cons (ps_if (pt_cmpR op_ge (pv 3) (pv 1) (nomark _))
          (pss_one (ps_expr (pe_bm PySem.F.plainAttrs_list PySem.F.slot_list_append PySem.F.type_list_append mt_append (pv 2) (pa_cons (pe_op op_fdivN (pv 3) (pv 1)) pa_nil))))
          pss_nil)
        (pss_one (ps_ret (pe_op op_mod (pe_callTy call_int1 (by rfl) T.b_int (by decide +kernel) (pa_cons (pv 3) pa_nil)) (pv 1))))))
      pss_nil)
    (pss_cons (ps_asg (pe_op op_add (pe_ix ix_list (pv 0) pe_int (fun _ _ => rfl)) pe_int) (pg_sub (pv 0) pe_int set_list))
    (pss_cons (ps_set (i := 4) sc_law_draw.nd rfl (by first | exact Or.inl rfl | exact Or.inr rfl) (pe_op op_mod (pe_callTy call_int1 (by rfl) T.b_int (by decide +kernel) (pa_cons (pe_op op_add (pe_op op_mul (pe_callTy call_int1 (by rfl) T.b_int (by decide +kernel) (pa_cons (pe_op op_add (pe_ix ix_list (pv 0) pe_int (fun _ _ => rfl)) (pe_ix ix_list (pv 0) pe_int (fun _ _ => rfl))) pa_nil)) pe_int) (pe_op op_mul (pe_op op_mul (pe_ix ix_list (pv 0) pe_int (fun _ _ => rfl)) (pe_ix ix_list (pv 0) pe_int (fun _ _ => rfl))) pe_int)) pa_nil)) pe_int))
    (pss_one (ps_ret (pe_op op_mod (pe_op op_fdiv (pe_op op_mod (pe_callTy call_int1 (by rfl) T.b_int (by decide +kernel) (pa_cons (pe_op op_add (pe_op op_mul (pv 4) (pv 4)) (pe_op op_mul (pe_ix ix_list (pv 0) pe_int (fun _ _ => rfl)) pe_int)) pa_nil)) pe_int) pe_int) (pv 1)))))))), ?_⟩
    refine ⟨_, rfl, t, _, _, _, rfl, rfl, SqL.of et, atI_nat (j := 0) rfl, ?_⟩
    refine ⟨_, rfl, _, .inl ⟨_, SqL.of eg, rfl⟩, ?_⟩
    cases hgs : gs.reverse with
    | nil =>
      have e0 : gs = [] := by
        have := congrArg List.reverse hgs
        rwa [List.reverse_reverse] at this
      subst e0
      refine iteF ?_
      refine ⟨_, rfl, t, _, _, _, rfl, rfl, SqL.of et, atI_nat (j := 2) rfl, _, _, rfl, rfl, ?_⟩
      refine ⟨_, rfl, t, _, _, _, rfl, rfl, et, rfl, ?_⟩
      have eg' : ∀ o, upd H t o g = some (.lst (([] : List Int).map V.int)) := fun o => by rw [upd_ne htg.symm]; exact eg
      have et2 : (upd H t (.lst [.ref g, .int sd, .int (ct + 1)])) t = some (.lst [.ref g, .int sd, .int (ct + 1)]) := upd_same
      have at1 : atI [V.ref g, V.int sd, V.int (ct + 1)] 1 = some (.int sd) := atI_nat (j := 1) rfl
      have at2 : atI [V.ref g, V.int sd, V.int (ct + 1)] 2 = some (.int (ct + 1)) := atI_nat (j := 2) rfl
      have hb : ct + 1 ≤ 1000000000 := by omega
      have hsq : 0 ≤ (ct + 1) * (ct + 1) ∧ (ct + 1) * (ct + 1) ≤ 1000000000 * 1000000000 := ⟨Int.mul_nonneg (by omega) (by omega), Int.mul_le_mul hb hb (by omega) (by decide)⟩
      refine ⟨_, rfl, t, _, _, _, rfl, rfl, SqL.of et2, at1, _, rfl, t, _, _, _, rfl, rfl, SqL.of et2, at2, _, _, rfl, rfl, .inl ⟨_, rfl, _, _, rfl, rfl, .inl ⟨by omega, by omega⟩, ?_⟩⟩
      refine ⟨_, rfl, t, _, _, _, rfl, rfl, SqL.of et2, at2, _, rfl, t, _, _, _, rfl, rfl, SqL.of et2, at2, _, _, rfl, rfl, .inl ⟨by omega, by omega⟩, ?_⟩
      refine ⟨_, _, rfl, rfl, .inl ⟨by omega, by omega⟩, _, _, rfl, rfl, .inl ⟨_, rfl, _, _, rfl, rfl, (by show (0 : Int) < 2147483629; decide), ?_⟩⟩
      have b0 := Int.emod_nonneg ((sd + (ct + 1)) * 69621 + (ct + 1) * (ct + 1) * 40692) (b := 2147483629) (by decide)
      have b1 := Int.emod_lt_of_pos ((sd + (ct + 1)) * 69621 + (ct + 1) * (ct + 1) * 40692) (b := 2147483629) (by decide)
      refine ⟨_, rfl, _, rfl, _, _, rfl, rfl, .inl ⟨by omega, by omega⟩, _, rfl, t, _, _, _, rfl, rfl, SqL.of et2, at2, _, _, rfl, rfl, .inl ⟨by omega, by omega⟩, _, _, rfl, rfl, .inl ⟨_, rfl, _, _, rfl, rfl, (by show (0 : Int) < 2147483647; decide), _, _, rfl, rfl, ⟨by decide, by decide⟩, _, rfl, _, _, rfl, rfl, l0, ?_⟩⟩
      refine q _ _ ⟨same_out sm bt, bt, g, [], sd, ct + 1, bg, htg, upd_same, eg' _, Nat.zero_le _, s0, s1, by omega, by omega⟩ (Int.emod_nonneg _ (by omega)) (Int.emod_lt_of_pos _ l0)
    | cons n r =>
      have e0 : gs = r.reverse ++ [n] := by
        have := congrArg List.reverse hgs
        rwa [List.reverse_reverse, List.reverse_cons] at this
      subst e0
      have eT : (!((r.reverse ++ [n]).map V.int).isEmpty) = true := by
        rw [List.map_append]
        cases List.map V.int r.reverse <;> rfl
      rw [eT]
      refine iteT ?_
      have lr : r.length ≤ 62 := by
        rw [List.length_append, List.length_reverse] at hgl
        simp only [List.length_cons, List.length_nil] at hgl
        omega
      have eg2 : H g = some (.lst (r.reverse.map V.int ++ [V.int n])) := by
        rw [eg, List.map_append]
        rfl
      have hpop : (r.reverse.map V.int ++ [V.int n])[(r.reverse.map V.int ++ [V.int n]).length - 1]? = some (V.int n) := by
        rw [List.length_append]
        simp
      refine ⟨_, rfl, .inl ⟨rfl, _, SqL.of eg2⟩, g, _, _, rfl, rfl, eg2, hpop, ?_⟩
      rw [List.dropLast_concat]
      have fin : ∀ H' gs', Same B H' → H' t = some (.lst [.ref g, .int sd, .int ct]) → H' g = some (.lst (List.map V.int gs')) → gs'.length ≤ 63 → Q (.int (n % lim)) H' := fun H' gs' a1 a2 a3 a4 =>
        q _ _ ⟨a1, bt, g, gs', sd, ct, bg, htg, a2, a3, a4, s0, s1, c0, by omega⟩ (Int.emod_nonneg _ (by omega)) (Int.emod_lt_of_pos _ l0)
      refine ⟨_, rfl, _, rfl, _, _, rfl, rfl, _, rfl, ite2 (fun _ => ?_) (fun _ => ?_)⟩
      · refine ⟨_, rfl, .inl ⟨rfl, _, SqL.of upd_same⟩, _, rfl, _, rfl, _, _, rfl, rfl, ⟨by omega, by omega⟩, g, _, _, rfl, rfl, upd_same, ?_, ?_⟩
        · rw [List.length_map, List.length_reverse]
          exact szl (by omega)
        · refine ⟨_, rfl, .inl ⟨_, rfl, _, rfl, _, _, rfl, rfl, l0, ?_⟩⟩
          refine fin _ (r.reverse ++ [n.fdiv lim]) (same_out (same_out sm bg) bg) ?_ ?_ ?_
          · rw [upd_ne htg, upd_ne htg]
            exact et
          · rw [upd_same, List.map_append]
            rfl
          · rw [List.length_append, List.length_reverse]
            simp only [List.length_cons, List.length_nil]
            omega
      · refine ⟨_, rfl, .inl ⟨_, rfl, _, rfl, _, _, rfl, rfl, l0, ?_⟩⟩
        refine fin _ r.reverse (same_out sm bg) ?_ upd_same ?_
        · rw [upd_ne htg]
          exact et
        · rw [List.length_reverse]
          omega
end


/-! ### the counts, as both sides reckon them -/
def row0 (n : Nat) : List Int := 1 :: List.replicate (n + 2) 0
def stp (o c : Int) (f : List Int) (d : Nat) : Int := o * f.getD (d + 1) 0 + f.getD (d + 2) 0 + c * f.getD d 0
def nxt (o c : Int) (n : Nat) (f : List Int) : List Int := 0 :: (List.range (n + 1)).map (stp o c f) ++ [0]
def rw (o c : Int) (n : Nat) : Nat → List Int
  | 0 => row0 n
  | l + 1 => nxt o c n (rw o c n l)
def cnt (o c : Int) (n : Nat) : Int := (rw o c n n).getD 1 0
theorem rw_len (o c : Int) (n : Nat) : ∀ l, (rw o c n l).length = n + 3
  | 0 => by simp [rw, row0]
  | l + 1 => by simp [rw, nxt]

/-- a language: its class, its two constants -/
structure Lang (K : PySem.W.Frag) (H : Hp) (r : Addr) (o c : Int) : Prop where
  ex : ∃ (C dx : Addr) (sg cl : Str) (u1 u2 : Value), H r = some (.ins C dx []) ∧ Cls K C ∧ Con K C "SIGNS" (.str sg) u1 ∧ Con K C "CLOSERS" (.str cl) u2 ∧ (sg.length : Int) = o + c + 1 ∧ (cl.length : Int) = c ∧ sg.length ≤ 100 ∧ cl.length ≤ 100
theorem Lang.mono {K : PySem.W.Frag} {H H' : Hp} {r : Addr} {o c : Int} (L : Lang K H r o c) (s : Same H H') : Lang K H' r o c := by
  obtain ⟨C, dx, sg, cl, u1, u2, h, x⟩ := L
  exact ⟨C, dx, sg, cl, u1, u2, s _ _ h, x⟩
theorem Lang.rng {K : PySem.W.Frag} {H : Hp} {r : Addr} {o c : Int} (L : Lang K H r o c) : 0 ≤ c ∧ c ≤ 100 ∧ o + c + 1 ≤ 100 ∧ -101 ≤ o := by
  obtain ⟨C, dx, sg, cl, u1, u2, h, x1, x2, x3, x4, x5, x6, x7⟩ := L
  omega
def spWays (K : PySem.W.Frag) : Sp := fun vs H Q _ => ∃ (r : Addr) (n : Nat) (o c : Int), vs = [.ref r, .int n] ∧ Lang K H r o c ∧ n ≤ 24 ∧ ∀ H' p q rows, Same H H' → H' p = some (.lst rows) → rows[n]? = some (.ref q) → H' q = some (.lst ((rw o c n n).map V.int)) → Q (.ref p) H'
def spCount (K : PySem.W.Frag) : Sp := fun vs H Q _ => ∃ (r : Addr) (n : Nat) (o c : Int), vs = [.ref r, .int n] ∧ Lang K H r o c ∧ n ≤ 24 ∧ ∀ H', Same H H' → Q (.int (cnt o c n)) H'
section
variable {P : Program} {w : World} {K : PySem.W.Frag} {mg : Str → Option Value} {base : Heap} {C_Reels C_Stacks : Addr}
theorem ok_ways_to_close {f : Addr} {fd : FuncData} (F : Fun K "_ways_to_close" "_ways_to_close" s_ways_to_close f fd) (T : Txt K mg C_Reels C_Stacks) : FnOk P w K mg base CX0 1 f fd ["language", "tokens"] (spWays K) := by
  refine F.ok sc_ways_to_close (fun vs H Q E h => ?_) (fun cdv A outer s H vs Q E hr h => ?_)
  · obtain ⟨r, n, o, c, rfl, _⟩ := h
    rfl
  · obtain ⟨r, n, o, c, rfl, L, hn, q⟩ := h
    have R := L.rng
    obtain ⟨C, dx, sg, cl, u1, u2, hr', hC, k1, k2, l1, l2, z1, z2⟩ := L
    have eo : o = (sg.length : Int) - cl.length - 1 := by omega
    subst l2 eo
    refine ⟨_, (pss_cons (ps_set (i := 2) sc_ways_to_close.nd rfl (by first | exact Or.inl rfl | exact Or.inr rfl) (pe_callB call_len_str (by rfl) T.b_len PySem.boot_len (pa_cons (pe_con (pv 0) rfl) pa_nil)))
    (pss_cons (ps_set (i := 3) sc_ways_to_close.nd rfl (by first | exact Or.inl rfl | exact Or.inr rfl) (pe_op op_sub (pe_op op_sub (pe_callB call_len_str (by rfl) T.b_len PySem.boot_len (pa_cons (pe_con (pv 0) rfl) pa_nil)) (pv 2)) pe_int))
    (pss_cons (ps_set (i := 4) sc_ways_to_close.nd rfl (by first | exact Or.inl rfl | exact Or.inr rfl) (pe_lst (pa_cons (pe_op op_cat (pe_lst (pa_cons pe_int pa_nil)) (pe_op op_rep (pe_lst (pa_cons pe_int pa_nil)) (pe_op op_add (pv 1) pe_int))) pa_nil)))
    (pss_cons (ps_for PassesOwn.never rfl (pi_range1 (by rfl) T.b_range (pa_cons (pv 1) pa_nil)) (pg_name (i := 5) sc_ways_to_close.nd rfl (by first | exact Or.inl rfl | exact Or.inr rfl))
      (pss_cons (ps_set (i := 6) sc_ways_to_close.nd rfl (by first | exact Or.inl rfl | exact Or.inr rfl) (pe_ix ix_list (pv 4) (pv 5) (fun _ _ => rfl)))
        (pss_cons (ps_set (i := 7) sc_ways_to_close.nd rfl (by first | exact Or.inl rfl | exact Or.inr rfl) (pe_lst (pa_cons pe_int pa_nil)))
        (pss_cons (ps_for PassesOwn.never rfl (pi_range2 (by rfl) T.b_range (pa_cons pe_int (pa_cons (pe_op op_add (pv 1) pe_int) pa_nil))) (pg_name (i := 8) sc_ways_to_close.nd rfl (by first | exact Or.inl rfl | exact Or.inr rfl))
          (pss_one (ps_expr (pe_bm PySem.F.plainAttrs_list PySem.F.slot_list_append PySem.F.type_list_append mt_append (pv 7) (pa_cons (pe_op op_add (pe_op op_add (pe_op op_mul (pv 3) (pe_ix ix_list (pv 6) (pv 8) (fun _ _ => rfl))) (pe_ix ix_list (pv 6) (pe_op op_add (pv 8) pe_int) (fun _ _ => rfl))) (pe_op op_mul (pv 2) (pe_ix ix_list (pv 6) (pe_op op_sub (pv 8) pe_int) (fun _ _ => rfl)))) pa_nil)))))
        (pss_one (ps_expr (pe_bm PySem.F.plainAttrs_list PySem.F.slot_list_append PySem.F.type_list_append mt_append (pv 4) (pa_cons (pe_op op_cat (pv 7) (pe_lst (pa_cons pe_int pa_nil))) pa_nil))))))))
    (pss_one (ps_ret (pv 4))))))), ?_⟩
    refine ⟨_, rfl, r, C, dx, [], _, _, rfl, hr', hC, k2, rfl, _, rfl, szle (by omega), ?_⟩
    refine ⟨_, rfl, r, C, dx, [], _, _, rfl, hr', hC, k1, rfl, _, rfl, szle (by omega), ?_⟩
    refine ⟨_, rfl, _, _, rfl, rfl, _, _, rfl, rfl, ?_⟩
    refine ⟨szle (by show 1 ≤ 16777216; decide), fun a1 h1 => ⟨szle (by show 1 ≤ 16777216; decide), fun a2 h2 => ?_⟩⟩
    have h21 : a1 ≠ a2 := ne_of_none upd_same h2
    refine ⟨_, rfl, _, _, rfl, rfl, a2, _, _, rfl, rfl, upd_same, by omega, by omega, szle (by show 1 * _ ≤ _; omega), fun a3 h3 => ?_⟩
    have h31 : a1 ≠ a3 := fun e => by rw [← e, upd_ne h21, upd_same] at h3; cases h3
    refine ⟨a1, a3, _, _, rfl, rfl, by rw [upd_ne h31, upd_ne h21, upd_same], upd_same, szle (by simp; omega), fun a4 h4 => ?_⟩
    refine ⟨szle (by show 1 ≤ 16777216; decide), fun a h => ?_⟩
    have hne : a4 ≠ a := ne_of_none upd_same h
    have s4 := ((((same_upd h1).trans (same_upd h2)).trans (same_upd h3)).trans (same_upd h4)).trans (same_upd (o := .lst [V.ref a4]) h)
    have ha : H a = none := (((((same_upd h1).trans (same_upd h2)).trans (same_upd h3)).trans (same_upd h4))).free h
    have e0 : ([V.int 1] ++ (List.replicate ((n : Int) + 2).toNat [V.int 0]).flatten) = (row0 n).map V.int := by
      rw [show ((n : Int) + 2).toNat = n + 2 by omega, row0, List.map_cons, List.map_replicate]
      rw [show ([V.int 0] : List V) = List.replicate 1 (V.int 0) from rfl, List.flatten_replicate_replicate, Nat.mul_one]
      rfl
    -- for left in range(tokens)
    refine ⟨_, rfl, n, rfl, by omega, by omega, for_range (n := n) (fun i σ H' => ∃ v5 v6 v7 v8, σ = [some (.ref r), some (.int n), some (.int cl.length), some (.int (sg.length - cl.length - 1)), some (.ref a), v5, v6, v7, v8] ∧ Same H H' ∧
      ∃ ps : List Addr, ps.length = i + 1 ∧ H' a = some (.lst (ps.map V.ref)) ∧ ∀ (j : Nat) (q : Addr), ps[j]? = some q → q ≠ a ∧ H' q = some (.lst ((rw (sg.length - cl.length - 1) cl.length n j).map V.int)))
      ⟨none, none, none, none, rfl, s4, [a4], rfl, upd_same, ?_⟩ ?_ ?_⟩
    · intro j q hq
      cases j with
      | zero =>
        cases Option.some.inj hq
        refine ⟨hne, ?_⟩
        rw [upd_ne hne, upd_same, e0]
        rfl
      | succ j => simp at hq
    · rintro i σ H' hi ⟨v5, v6, v7, v8, rfl, sm, ps, hl, ea, hps⟩
      obtain ⟨pi, hpi⟩ : ∃ pi, ps[i]? = some pi := ⟨_, List.getElem?_eq_getElem (by omega)⟩
      obtain ⟨hia, hi'⟩ := hps i pi hpi
      have ai : atI (ps.map V.ref) (0 + (i : Int)) = some (.ref pi) := by
        rw [show (0 : Int) + (i : Int) = (i : Int) by omega]
        exact atI_nat (by rw [List.getElem?_map, hpi]; rfl)
      generalize hF : rw (sg.length - cl.length - 1) cl.length n i = fw at hi'
      have fl : fw.length = n + 3 := by rw [← hF]; exact rw_len _ _ _ _
      refine ⟨_, rfl, _, rfl, a, _, _, _, rfl, rfl, SqL.of ea, ai, ?_⟩
      refine ⟨szle (by show 1 ≤ 16777216; decide), fun b hb => ?_⟩
      have hba : a ≠ b := ne_of_none ea hb
      have hbp : pi ≠ b := ne_of_none hi' hb
      have hbH : H b = none := sm.free hb
      refine ⟨_, rfl, _, _, rfl, rfl, 1, (n : Int) + 2, rfl, ⟨by omega, by omega, by omega, by omega⟩, for_range (lo := 1) (n := ((n : Int) + 2 - 1).toNat) (fun j σ H2 => ∃ v8, σ = [some (.ref r), some (.int n), some (.int cl.length), some (.int (sg.length - cl.length - 1)), some (.ref a), some (.int (0 + i)), some (.ref pi), some (.ref b), v8] ∧ Same H' H2 ∧
        H2 b = some (.lst ((0 :: (List.range j).map (stp (sg.length - cl.length - 1) cl.length fw)).map V.int))) ⟨_, rfl, same_upd hb, upd_same⟩ ?_ ?_⟩
      · rintro j σ H2 hj ⟨w8, rfl, sm2, eb⟩
        have e1 : H2 pi = some (.lst (fw.map V.int)) := sm2 _ _ hi'
        have g : ∀ k : Nat, k < n + 3 → (fw.map V.int)[k]? = some (.int (fw.getD k 0)) := fun k hk => by
          rw [List.getElem?_map, List.getElem?_eq_getElem (by omega), List.getD_eq_getElem?_getD, List.getElem?_eq_getElem (by omega)]
          rfl
        have g1 : atI (fw.map V.int) (1 + (j : Int)) = some (.int (fw.getD (j + 1) 0)) := at_of (j := j + 1) (by omega) (g _ (by omega))
        have g2 : atI (fw.map V.int) (1 + (j : Int) + 1) = some (.int (fw.getD (j + 2) 0)) := at_of (j := j + 2) (by omega) (g _ (by omega))
        have g0 : atI (fw.map V.int) (1 + (j : Int) - 1) = some (.int (fw.getD j 0)) := at_of (j := j) (by omega) (g _ (by omega))
        refine ⟨_, rfl, .inl ⟨rfl, _, SqL.of eb⟩, _, rfl, _, rfl, _, rfl, pi, _, _, _, rfl, rfl, SqL.of e1, g1, _, _, rfl, rfl, .inl ⟨by omega, by omega⟩, _, rfl, _, rfl, _, _, rfl, rfl, pi, _, _, _, rfl, rfl, SqL.of e1, g2, _, _, rfl, rfl, ?_⟩
        refine ⟨_, rfl, _, rfl, _, rfl, _, _, rfl, rfl, pi, _, _, _, rfl, rfl, SqL.of e1, g0, _, _, rfl, rfl, .inl ⟨by omega, by omega⟩, _, _, rfl, rfl, b, _, _, rfl, rfl, eb, szl (by simp; omega), ?_⟩
        refine ⟨_, rfl, same_out sm2 ?_, ?_⟩
        · by_cases e : H' b = none
          · exact e
          · exact absurd hb e
        · rw [upd_same, List.range_succ, List.map_append, List.map_cons, List.map_cons, List.map_append]
          rfl
      · rintro σ H2 ⟨w8, rfl, sm2, eb⟩
        have en : ((n : Int) + 2 - 1).toNat = n + 1 := by omega
        rw [en] at eb
        have ea2 := sm2 _ _ ea
        refine ⟨_, rfl, .inl ⟨rfl, _, SqL.of ea2⟩, _, rfl, szle (by show 1 ≤ 16777216; decide), fun z hz => ?_⟩
        have hzb : b ≠ z := ne_of_none eb hz
        refine ⟨b, z, _, _, rfl, rfl, by rw [upd_ne hzb]; exact eb, upd_same, szle (by simp; omega), fun y hy => ?_⟩
        have hya : a ≠ y := fun e => by
          have hz2 : a ≠ z := ne_of_none ea2 hz
          rw [← e, upd_ne hz2, ea2] at hy
          cases hy
        refine ⟨a, _, _, rfl, rfl, by walk_at "hp", szl (by simp; omega), ?_⟩
        refine ⟨_, _, _, _, rfl, same_out (((sm.trans sm2).trans (same_upd hz)).trans (same_upd hy)) ha, ps ++ [y], by rw [List.length_append, hl]; rfl, by rw [upd_same, List.map_append]; rfl, ?_⟩
        intro j q' hq
        by_cases hj : j < ps.length
        · rw [List.getElem?_append_left hj] at hq
          obtain ⟨x1, x2⟩ := hps j q' hq
          refine ⟨x1, ?_⟩
          rw [upd_ne x1]
          exact same_upd hy _ _ (same_upd hz _ _ (sm2 _ _ x2))
        · have ej : j = i + 1 := by
            have := (List.getElem?_eq_some_iff.mp hq).1
            rw [List.length_append] at this
            simp only [List.length_cons, List.length_nil] at this
            omega
          subst ej
          rw [List.getElem?_append_right (by omega), hl, Nat.sub_self] at hq
          cases Option.some.inj hq
          refine ⟨hya.symm, ?_⟩
          rw [upd_ne hya.symm, upd_same]
          show some (HO.lst _) = some (HO.lst ((nxt _ _ n (rw _ _ n i)).map V.int))
          rw [hF, nxt, List.map_append]
          rfl
    · rintro σ H' ⟨v5, v6, v7, v8, rfl, sm, ps, hl, ea, hps⟩
      obtain ⟨pi, hpi⟩ : ∃ pi, ps[n]? = some pi := ⟨_, List.getElem?_eq_getElem (by omega)⟩
      exact ⟨_, rfl, q H' a pi _ sm ea (by rw [List.getElem?_map, hpi]; rfl) (hps n pi hpi).2⟩
theorem ok_count_programs {f : Addr} {fd : FuncData} (F : Fun K "count_programs" "count_programs" s_count_programs f fd) (T : Txt K mg C_Reels C_Stacks) (c_ways_to_close : Cal P w K mg base 1 "_ways_to_close" (spWays K)) : FnOk P w K mg base CX0 2 f fd ["language", "tokens"] (spCount K) := by
  refine F.ok sc_count_programs (fun vs H Q E h => ?_) (fun cdv A outer s H vs Q E hr h => ?_)
  · obtain ⟨r, n, o, c, rfl, _⟩ := h
    rfl
  · obtain ⟨r, n, o, c, rfl, L, hn, q⟩ := h
    refine ⟨_, (pss_one (ps_ret (pe_ix ix_list (pe_ix ix_list (pe_c c_ways_to_close hr (by omega) (by rfl) (pa_cons (pv 0) (pa_cons (pv 1) pa_nil))) (pv 1) (fun _ _ => rfl)) pe_int (fun _ _ => rfl)))), ?_⟩
    refine ⟨_, rfl, _, rfl, r, n, o, c, rfl, L, hn, fun H' p q' rows sm ep er eq => ?_⟩
    have at1 : atI ((rw o c n n).map V.int) 1 = some (.int (cnt o c n)) := by
      have := rw_len o c n n
      refine atI_nat (j := 1) ?_
      rw [List.getElem?_map, List.getElem?_eq_getElem (by omega), cnt, List.getD_eq_getElem?_getD, List.getElem?_eq_getElem (by omega)]
      rfl
    exact ⟨_, rfl, p, _, _, _, rfl, rfl, SqL.of ep, atI_nat er, q', _, _, _, rfl, rfl, SqL.of eq, at1, q H' sm⟩

/-! ### the law's own counts -/
def lstp (p c : Int) (w : List Int) (d : Nat) : Int := p * w.getD (d + 1) 0 + w.getD d 0 + c * w.getD (d + 2) 0
def lv (p c : Int) : Nat → List Int
  | 0 => [0, 1] ++ List.replicate 26 0
  | k + 1 => 0 :: (List.range 26).map (lstp p c (lv p c k)) ++ [0]
theorem lv_len (p c : Int) : ∀ k, (lv p c k).length = 28
  | 0 => by simp [lv]
  | k + 1 => by simp [lv]
def lcs (p c : Int) (k : Nat) : List Int := 0 :: (List.range k).map fun j => c * (lv p c j).getD 1 0
def spCounts : Sp := fun vs H Q _ => ∃ p c : Int, vs = [.int p, .int c] ∧ 0 ≤ p ∧ p ≤ 10 ∧ 0 ≤ c ∧ c ≤ 10 ∧ ∀ H' q, Same H H' → H q = none → H' q = some (.lst ((lcs p c 24).map V.int)) → Q (.ref q) H'
theorem set_at {α : Type} (xs : List α) (n i : Nat) (z v : α) (h : xs.length = i) (hi : i < n) : (xs ++ List.replicate (n - i) z).set i v = xs ++ v :: List.replicate (n - (i + 1)) z := by
  subst h
  rw [List.set_append_right _ _ (Nat.le_refl _), Nat.sub_self, show n - xs.length = (n - (xs.length + 1)) + 1 by omega, List.replicate_succ]
  rfl
theorem ok_law_counts {f : Addr} {fd : FuncData} (F : Fun K "_law_counts" "_law_counts" s_law_counts f fd) (T : Txt K mg C_Reels C_Stacks) : FnOk P w K mg base CX0 1 f fd ["plain", "closers"] spCounts := by
  refine F.ok sc_law_counts (fun vs H Q E h => ?_) (fun cdv A outer s H vs Q E hr h => ?_)
  · obtain ⟨p, c, rfl, _⟩ := h
    rfl
  · obtain ⟨p, c, rfl, p0, p1, c0, c1, q⟩ := h
    refine ⟨_, (pss_cons (ps_set (i := 2) sc_law_counts.nd rfl (by first | exact Or.inl rfl | exact Or.inr rfl) (pe_op op_cat (pe_lst (pa_cons pe_int (pa_cons pe_int pa_nil))) (pe_lc (own := [("k", 3)]) rfl sc_law_counts.nd (pi_range1 (by rfl) T.b_range (pa_cons pe_int pa_nil)) (blkOk_by (own := [("k", 3)]) (N := ["plain", "closers", "ways", "k", "counts", "grown", "j", "deep"]) (sc := defScope s_law_counts) (by decide +kernel)) (fun _ _ _ _ _ => (pg_name (i := 3) sc_law_counts.nd rfl (by first | exact Or.inl rfl | exact Or.inr rfl))) (fun _ _ _ _ _ => pts_nil) (fun _ _ _ _ _ => pe_int))))
    (pss_cons (ps_set (i := 4) sc_law_counts.nd rfl (by first | exact Or.inl rfl | exact Or.inr rfl) (pe_lst (pa_cons pe_int pa_nil)))
    (pss_cons (ps_for PassesOwn.never rfl (pi_range1 (by rfl) T.b_range (pa_cons pe_int pa_nil)) (pg_name (i := 3) sc_law_counts.nd rfl (by first | exact Or.inl rfl | exact Or.inr rfl))
      (pss_cons (ps_expr (pe_bm PySem.F.plainAttrs_list PySem.F.slot_list_append PySem.F.type_list_append mt_append (pv 4) (pa_cons (pe_op op_mul (pv 1) (pe_ix ix_list (pv 2) pe_int (fun _ _ => rfl))) pa_nil)))
        (pss_cons (ps_setLc (i := 5) (own := [("j", 6)]) rfl sc_law_counts.nd rfl rfl (sw_true rfl rfl rfl (by decide +kernel)) (pi_range1 (by rfl) T.b_range (pa_cons pe_int pa_nil)) (blkOk_by (own := [("j", 6)]) (N := ["plain", "closers", "ways", "k", "counts", "grown", "j", "deep"]) (sc := defScope s_law_counts) (by decide +kernel)) (fun _ _ _ _ _ => (pg_name (i := 6) sc_law_counts.nd rfl (by first | exact Or.inl rfl | exact Or.inr rfl))) (fun _ _ _ _ _ => pts_nil) (fun _ _ _ _ _ => pe_int))
        (pss_cons (ps_for PassesOwn.never rfl (pi_range2 (by rfl) T.b_range (pa_cons pe_int (pa_cons pe_int pa_nil))) (pg_name (i := 7) sc_law_counts.nd rfl (by first | exact Or.inl rfl | exact Or.inr rfl))
          (pss_one (ps_asg (pe_op op_add (pe_op op_add (pe_op op_mul (pv 0) (pe_ix ix_list (pv 2) (pv 7) (fun _ _ => rfl))) (pe_ix ix_list (pv 2) (pe_op op_sub (pv 7) pe_int) (fun _ _ => rfl))) (pe_op op_mul (pv 1) (pe_ix ix_list (pv 2) (pe_op op_add (pv 7) pe_int) (fun _ _ => rfl)))) (pg_sub (pv 5) (pv 7) set_list))))
        (pss_one (ps_set (i := 2) sc_law_counts.nd rfl (by first | exact Or.inl rfl | exact Or.inr rfl) (pv 5)))))))
    (pss_one (ps_ret (pv 4)))))), ?_⟩
    refine ⟨szle (by show 2 ≤ 16777216; decide), fun a1 h1 => ?_⟩
    refine ⟨26, rfl, by decide, by decide, fun D hD => lc_range (lo := 0) (n := 26) (fun i H' => Same (upd H a1 (.lst [.int 0, .int 1])) H' ∧ H' D = some (.lst (List.replicate i (V.int 0)))) ⟨same_upd hD, upd_same⟩ ?_ ?_⟩
    · rintro i H' hi ⟨sm, eD⟩
      exact ⟨rfl, iteT (B := Same (upd H a1 (.lst [.int 0, .int 1])) H' ∧ H' D = some (.lst (List.replicate (i + 1) (V.int 0)))) ⟨_, eD, szl (by simp; omega), same_out sm hD, by rw [upd_same, List.replicate_succ']⟩⟩
    · rintro H1 ⟨sm1, eD⟩
      have e1 := sm1 _ _ (upd_same (H := H) (a := a1) (o := .lst [.int 0, .int 1]))
      refine ⟨a1, D, _, _, rfl, rfl, e1, eD, szle (by simp), fun a2 h2 => ?_⟩
      have e2 : [V.int 0, V.int 1] ++ List.replicate 26 (V.int 0) = (lv p c 0).map V.int := rfl
      refine ⟨szle (by show 1 ≤ 16777216; decide), fun b hb => ?_⟩
      have hab : a2 ≠ b := ne_of_none upd_same hb
      have hbH1 : H1 b = none := by rw [upd_ne hab.symm] at hb; exact hb
      have sH1 : Same H H1 := (same_upd h1).trans sm1
      refine ⟨24, rfl, by decide, by decide, for_range (n := 24) (fun i σ H' => ∃ a v3 v5 v6 v7, σ = [some (.int p), some (.int c), some (.ref a), v3, some (.ref b), v5, v6, v7] ∧ Same H H' ∧ a ≠ b ∧ H' a = some (.lst ((lv p c i).map V.int)) ∧ H' b = some (.lst ((lcs p c i).map V.int)))
        ⟨a2, none, none, none, none, rfl, ?_, hab, ?_, upd_same⟩ ?_ ?_⟩
      · exact (sH1.trans (same_upd h2)).trans (same_upd hb)
      · rw [upd_ne hab, upd_same, e2]
      · rintro i σ H' hi ⟨a, v3, v5, v6, v7, rfl, sm, hab', ea, eb⟩
        generalize hW : lv p c i = W at ea
        have hWl : W.length = 28 := by rw [← hW]; exact lv_len _ _ _
        have g : ∀ k : Nat, k < 28 → (W.map V.int)[k]? = some (.int (W.getD k 0)) := fun k hk => by
          rw [List.getElem?_map, List.getElem?_eq_getElem (by omega), List.getD_eq_getElem?_getD, List.getElem?_eq_getElem (by omega)]
          rfl
        have g1 : atI (W.map V.int) 1 = some (.int (W.getD 1 0)) := atI_nat (g 1 (by omega))
        refine ⟨_, rfl, .inl ⟨rfl, _, SqL.of eb⟩, _, rfl, _, rfl, a, _, _, _, rfl, rfl, SqL.of ea, g1, _, _, rfl, rfl, .inl ⟨by omega, by omega⟩, b, _, _, rfl, rfl, eb, szl (by simp [lcs]; omega), ?_⟩
        have ea' : upd H' b (.lst ((lcs p c i).map V.int ++ [.int (c * W.getD 1 0)])) a = some (.lst (W.map V.int)) := by rw [upd_ne hab']; exact ea
        have sb : Same H (upd H' b (.lst ((lcs p c i).map V.int ++ [.int (c * W.getD 1 0)]))) := same_out sm (sH1.free hbH1)
        have eb' : upd H' b (.lst ((lcs p c i).map V.int ++ [.int (c * W.getD 1 0)])) b = some (.lst ((lcs p c i).map V.int ++ [.int (c * W.getD 1 0)])) := upd_same
        obtain ⟨H2, hH2⟩ : ∃ H2, upd H' b (.lst ((lcs p c i).map V.int ++ [.int (c * W.getD 1 0)])) = H2 := ⟨_, rfl⟩
        rw [hH2] at ea' sb eb'
        refine ⟨28, rfl, by decide, by decide, fun D2 hD2 => lc_range (lo := 0) (n := 28) (fun j H' => Same H2 H' ∧ H' D2 = some (.lst (List.replicate j (V.int 0)))) ⟨by rw [← hH2]; exact same_upd hD2, upd_same⟩ ?_ ?_⟩
        · rintro j H5 hj ⟨sm5, eD5⟩
          exact ⟨rfl, iteT (B := Same H2 H5 ∧ H5 D2 = some (.lst (List.replicate (j + 1) (V.int 0)))) ⟨_, eD5, szl (by simp; omega), same_out sm5 (by rw [← hH2]; exact hD2), by rw [upd_same, List.replicate_succ']⟩⟩
        · rintro H5 ⟨sm5, eD5⟩
          have ea5 := sm5 _ _ ea'
          have hD2' : H2 D2 = none := by rw [← hH2]; exact hD2
          have hbD : b ≠ D2 := ne_of_none eb' hD2'
          refine ⟨1, 27, rfl, ⟨by decide, by decide, by decide, by decide⟩, for_range (lo := 1) (n := 26) (fun j σ H6 => ∃ w6 w7, σ = [some (.int p), some (.int c), some (.ref a), some (.int (0 + i)), some (.ref b), some (.ref D2), w6, w7] ∧ Same H2 H6 ∧
            H6 D2 = some (.lst (((0 :: (List.range j).map (lstp p c W)).map V.int) ++ List.replicate (28 - (j + 1)) (V.int 0)))) ⟨_, _, rfl, sm5, by rw [eD5]; rfl⟩ ?_ ?_⟩
          · rintro j σ H6 hj ⟨w6, w7, rfl, sm6, eD6⟩
            have ea6 := sm6 _ _ ea'
            have g1 : atI (W.map V.int) (1 + (j : Int)) = some (.int (W.getD (j + 1) 0)) := at_of (j := j + 1) (by omega) (g _ (by omega))
            have g2 : atI (W.map V.int) (1 + (j : Int) + 1) = some (.int (W.getD (j + 2) 0)) := at_of (j := j + 2) (by omega) (g _ (by omega))
            have g0 : atI (W.map V.int) (1 + (j : Int) - 1) = some (.int (W.getD j 0)) := at_of (j := j) (by omega) (g _ (by omega))
            refine ⟨_, rfl, _, rfl, _, rfl, a, _, _, _, rfl, rfl, SqL.of ea6, g1, _, _, rfl, rfl, .inl ⟨by omega, by omega⟩, _, rfl, _, rfl, _, _, rfl, rfl, a, _, _, _, rfl, rfl, SqL.of ea6, g0, _, _, rfl, rfl, ?_⟩
            refine ⟨_, rfl, _, rfl, _, rfl, _, _, rfl, rfl, a, _, _, _, rfl, rfl, SqL.of ea6, g2, _, _, rfl, rfl, .inl ⟨by omega, by omega⟩, _, _, rfl, rfl, ?_⟩
            refine ⟨_, rfl, _, rfl, D2, _, _, j + 1, rfl, rfl, eD6, ?_, ?_⟩
            · have hl28 : (((0 :: (List.range j).map (lstp p c W)).map V.int) ++ List.replicate (28 - (j + 1)) (V.int 0)).length = 28 := by simp; omega
              rw [hl28]
              unfold ixN
              rw [if_pos (by omega), if_pos (by omega)]
              congr 1
              omega
            · refine ⟨_, _, rfl, same_out sm6 hD2', ?_⟩
              rw [upd_same, set_at _ 28 (j + 1) _ _ (by simp) (by omega), List.range_succ, List.map_append, ← List.cons_append, List.map_append, List.append_assoc]
              rfl
          · rintro σ H6 ⟨w6, w7, rfl, sm6, eD6⟩
            refine ⟨_, rfl, D2, _, _, _, _, rfl, sb.trans sm6, hbD.symm, ?_, ?_⟩
            · rw [eD6, lv, hW, List.map_append]
              rfl
            · rw [sm6 _ _ eb', lcs, lcs, List.range_succ, List.map_append, ← List.cons_append, List.map_append, ← hW]
              rfl
      · rintro σ H' ⟨a, v3, v5, v6, v7, rfl, sm, hab', ea, eb⟩
        exact ⟨_, rfl, q H' b sm (sH1.free hbH1) eb⟩

/-! ### the law's listing of all rows -/
def lsc (a b : Int) (v : Nat) : Nat → Int → Bool
  | 0, _ => false
  | m + 1, deep =>
    let code := (v : Int) / 2 ^ (3 * m) % 2 ^ 3
    let d1 := if code = 3 then deep + 1 else deep
    let d2 := if code = a ∨ code = b then d1 - 1 else d1
    if d2 = 0 then decide (m = 0) else lsc a b v m d2
def lst (a b : Int) (n : Nat) (i : Nat) : Int := (((List.range i).filter fun v => lsc a b v n 1).length : Int)
theorem lst_succ (a b : Int) (n i : Nat) : lst a b n (i + 1) = lst a b n i + (if lsc a b i n 1 = true then 1 else 0) := by
  unfold lst
  rw [List.range_succ, List.filter_append, List.length_append]
  cases h : lsc a b i n 1
  · simp [h]
  · simp [h]
def spListed (K : PySem.W.Frag) : Sp := fun vs H Q _ => ∃ (n : Nat) (t : Addr) (a b : Int), vs = [.int n, .ref t] ∧ SqT K H t [.int a, .int b] ∧ n ≤ 3 ∧ Q (.int (lst a b n (8 ^ n))) H
theorem ok_law_listed {f : Addr} {fd : FuncData} (F : Fun K "_law_listed" "_law_listed" s_law_listed f fd) (T : Txt K mg C_Reels C_Stacks) : FnOk P w K mg base CX0 1 f fd ["tokens", "closers"] (spListed K) := by
  refine F.ok sc_law_listed (fun vs H Q E h => ?_) (fun cdv A outer s H vs Q E hr h => ?_)
  · obtain ⟨n, t, a, b, rfl, _⟩ := h
    rfl
  · obtain ⟨n, t, a, b, rfl, hT, hn, q⟩ := h
    refine ⟨_, (pss_cons (ps_set (i := 2) sc_law_listed.nd rfl (by first | exact Or.inl rfl | exact Or.inr rfl) pe_int)
    (pss_cons (ps_for PassesOwn.never rfl (pi_range1 (by rfl) T.b_range (pa_cons (pe_op op_shl pe_int (pe_op op_mul pe_int (pv 0))) pa_nil)) (pg_name (i := 3) sc_law_listed.nd rfl (by first | exact Or.inl rfl | exact Or.inr rfl))
      (pss_cons (ps_set (i := 4) sc_law_listed.nd rfl (by first | exact Or.inl rfl | exact Or.inr rfl) pe_int)
        (pss_cons (ps_set (i := 5) sc_law_listed.nd rfl (by first | exact Or.inl rfl | exact Or.inr rfl) pe_bl)
        (pss_cons (ps_for PassesOwn.never rfl (pi_range1 (by rfl) T.b_range (pa_cons (pv 0) pa_nil)) (pg_name (i := 6) sc_law_listed.nd rfl (by first | exact Or.inl rfl | exact Or.inr rfl))
          (pss_cons (ps_set (i := 7) sc_law_listed.nd rfl (by first | exact Or.inl rfl | exact Or.inr rfl) (pe_op op_andM (pe_op op_shr (pv 3) (pe_op op_mul pe_int (pe_op op_sub (pe_op op_sub (pv 0) pe_int) (pv 6)))) pe_int))
            (C8.pss_cut (ps_if (pt_cmpR op_eq (pv 7) pe_int (nomark _))
              (pss_one (ps_set (i := 4) sc_law_listed.nd rfl (by first | exact Or.inl rfl | exact Or.inr rfl) (pe_op op_add (pv 4) pe_int)))
              pss_nil)
            (C8.pss_cut (ps_if (pt_cmpR op_in_seq (pv 7) (pv 1) (by rfl))
              (pss_one (ps_set (i := 4) sc_law_listed.nd rfl (by first | exact Or.inl rfl | exact Or.inr rfl) (pe_op op_sub (pv 4) pe_int)))
              pss_nil)
            (pss_one (ps_if (pt_cmpR op_eq (pv 4) pe_int (nomark _))
              (pss_cons (ps_set (i := 5) sc_law_listed.nd rfl (by first | exact Or.inl rfl | exact Or.inr rfl) (pe_cmpR op_eq (pv 6) (pe_op op_sub (pv 0) pe_int) (nomark _)))
                (pss_one ps_break))
              pss_nil))))))
        (pss_one (ps_set (i := 2) sc_law_listed.nd rfl (by first | exact Or.inl rfl | exact Or.inr rfl) (pe_op op_add (pv 2) (pe_callTy call_int1 (by rfl) T.b_int (by decide +kernel) (pa_cons (pv 5) pa_nil)))))))))
    (pss_one (ps_ret (pv 2))))), ?_⟩
    have e8 : ((1 : Int) * 2 ^ (3 * (n : Int)).toNat).toNat = 8 ^ n := by
      rcases (by omega : n = 0 ∨ n = 1 ∨ n = 2 ∨ n = 3) with h | h | h | h <;> subst h <;> decide
    have e9 : (1 : Int) * 2 ^ (3 * (n : Int)).toNat ≤ 1000 ∧ 0 ≤ (1 : Int) * 2 ^ (3 * (n : Int)).toNat := by
      rcases (by omega : n = 0 ∨ n = 1 ∨ n = 2 ∨ n = 3) with h | h | h | h <;> subst h <;> decide
    refine ⟨_, rfl, _, _, rfl, rfl, .inl ⟨by decide, by decide⟩, _, _, rfl, rfl, ⟨by omega, by omega, by decide⟩, _, rfl, by omega, by omega, ?_⟩
    rw [e8]
    refine for_range (n := 8 ^ n) (fun i σ H' => ∃ z v3 v4 v5 v6 v7, σ = [some (.int n), some (.ref t), some (.int z), v3, v4, v5, v6, v7] ∧ z = lst a b n i ∧ H' = H) ⟨_, none, none, none, none, none, rfl, rfl, rfl⟩ ?_ ?_
    · rintro i σ H' hi ⟨_, v3, v4, v5, v6, v7, rfl, rfl, rfl⟩
      refine ⟨_, rfl, n, rfl, by omega, by omega, for_range (n := n) (fun k σ H'' => ∃ d v6 v7, σ = [some (.int n), some (.ref t), some (.int (lst a b n i)), some (.int (0 + i)), some (.int d), some (.bl false), v6, v7] ∧ H'' = H' ∧ lsc a b i n 1 = lsc a b i (n - k) d) ⟨1, _, _, rfl, rfl, rfl⟩ ?_ ?_⟩
      · rintro k σ H'' hk ⟨d, w6, w7, rfl, rfl, el⟩
        obtain ⟨m, hm⟩ : ∃ m, n - k = m + 1 := ⟨n - k - 1, by omega⟩
        rw [hm, lsc] at el
        have em : ((3 : Int) * ((n : Int) - 1 - (0 + k))).toNat = 3 * m := by omega
        refine ⟨_, rfl, _, rfl, _, _, rfl, rfl, _, rfl, _, _, rfl, rfl, _, _, rfl, rfl, .inl ⟨by decide, by decide⟩, _, _, rfl, rfl, by omega, _, 3, rfl, rfl, ?_⟩
        have ec : ((0 : Int) + (i : Int)) / 2 ^ ((3 : Int) * ((n : Int) - 1 - (0 + k))).toNat % 2 ^ 3 = (i : Int) / 2 ^ (3 * m) % 2 ^ 3 := by rw [em, Int.zero_add]
        generalize hcd : (i : Int) / 2 ^ (3 * m) % 2 ^ 3 = code at el ec
        generalize hcd2 : ((0 : Int) + (i : Int)) / 2 ^ ((3 : Int) * ((n : Int) - 1 - (0 + k))).toNat % 2 ^ 3 = code2 at ec
        refine ⟨fun σ H3 => σ = [some (.int n), some (.ref t), some (.int (lst a b n i)), some (.int (0 + i)), some (.int (if code = 3 then d + 1 else d)), some (.bl false), some (.int (0 + k)), some (.int code)] ∧ H3 = H'', ?_, ?_⟩
        · refine ⟨_, rfl, rfl, _, rfl, ite2 (fun h => ?_) (fun h => ?_)⟩
          · have h3 : code = 3 := by
              have z := of_decide_eq_true h
              have z2 := V.int.inj z
              omega
            refine ⟨_, rfl, _, _, rfl, rfl, ?_, rfl⟩
            rw [if_pos h3, ← ec, ← hcd2]
            rfl
          · have h3 : ¬ code = 3 := fun z => h (decide_eq_true (congrArg V.int (show code2 = 3 from ec.trans z)))
            refine ⟨?_, rfl⟩
            rw [if_neg h3, ← ec, ← hcd2]
            rfl
        · rintro σ H3 ⟨rfl, rfl⟩
          generalize (if code = 3 then d + 1 else d) = d1 at el
          refine ⟨fun σ H4 => σ = [some (.int n), some (.ref t), some (.int (lst a b n i)), some (.int (0 + i)), some (.int (if code = a ∨ code = b then d1 - 1 else d1)), some (.bl false), some (.int (0 + k)), some (.int code)] ∧ H4 = H3, ?_, ?_⟩
          · have ein : inV (V.int code) [V.int a, V.int b] = decide (code = a ∨ code = b) := by
              unfold inV
              show ((a == code) || ((b == code) || false)) = _
              by_cases ha : code = a
              · subst ha
                simp
              · by_cases hb : code = b
                · subst hb
                  simp
                · have h1 : (a == code) = false := by simpa using fun z => ha z.symm
                  have h2 : (b == code) = false := by simpa using fun z => hb z.symm
                  rw [h1, h2]
                  simp [ha, hb]
            refine ⟨_, rfl, _, rfl, t, _, rfl, .inr hT, rfl, rfl, _, rfl, ?_⟩
            show if inV (V.int code) [V.int a, V.int b] = true then _ else _
            rw [ein]
            refine ite2 (fun h => ?_) (fun h => ?_)
            · have h3 := of_decide_eq_true h
              refine ⟨_, rfl, _, _, rfl, rfl, ?_, rfl⟩
              rw [if_pos h3]
              rfl
            · have h3 : ¬ (code = a ∨ code = b) := fun z => h (decide_eq_true z)
              refine ⟨?_, rfl⟩
              rw [if_neg h3]
          · rintro σ H4 ⟨rfl, rfl⟩
            generalize (if code = a ∨ code = b then d1 - 1 else d1) = d2 at el
            refine ⟨_, rfl, rfl, _, rfl, ite2 (fun h => ?_) (fun h => ?_)⟩
            · have h0 : d2 = 0 := V.int.inj (of_decide_eq_true h)
              rw [if_pos h0] at el
              refine ⟨_, rfl, _, rfl, _, _, rfl, rfl, rfl, ?_⟩
              refine ⟨_, rfl, _, rfl, .inr ⟨_, rfl, _, _, rfl, rfl, ?_⟩⟩
              refine ⟨_, _, _, _, _, _, rfl, ?_, rfl⟩
              rw [lst_succ, el]
              by_cases hm0 : m = 0
              · rw [decide_eq_true hm0, if_pos rfl]
                exact congrArg (fun z => lst a b n i + z) (if_pos (decide_eq_true (congrArg V.int (by omega))))
              · rw [decide_eq_false hm0, if_neg Bool.false_ne_true]
                exact congrArg (fun z => lst a b n i + z) (if_neg fun z => hm0 (by have z2 : (0 : Int) + (k : Int) = (n : Int) - 1 := V.int.inj (of_decide_eq_true z); omega))
            · have h0 : ¬ d2 = 0 := fun z => h (decide_eq_true (congrArg V.int z))
              rw [if_neg h0] at el
              exact ⟨d2, _, _, rfl, rfl, by rw [el]; congr 1; omega⟩
      · rintro σ H'' ⟨d, w6, w7, rfl, rfl, el⟩
        rw [Nat.sub_self, lsc] at el
        refine ⟨_, rfl, _, rfl, .inr ⟨_, rfl, _, _, rfl, rfl, _, _, _, _, _, _, rfl, ?_, rfl⟩⟩
        rw [lst_succ, el]
    · rintro σ H' ⟨_, v3, v4, v5, v6, v7, rfl, rfl, rfl⟩
      exact ⟨_, rfl, q⟩

/-! ### the whole -/
def oA (j : Nat) : Int := if j = 0 then 5 else 6
def cA (j : Nat) : Int := if j = 0 then 2 else 1
def aA (j : Nat) : Int := if j = 0 then 7 else 0
theorem cnt_lcs : ∀ j, j < 2 → ∀ n, n < 25 → (lcs (oA j) (cA j) 24)[n]? = some (cnt (oA j) (cA j) n) := by decide +kernel -- heavy
theorem cnt_lst : ∀ j, j < 2 → ∀ n, n < 4 → lst 0 (aA j) n (8 ^ n) = cnt (oA j) (cA j) n := by decide +kernel -- heavy
def wt (j n : Nat) : Int := cnt (oA j) (cA j) n * 2 ^ (3 * (24 - n))
theorem cnt_rng : ∀ j, j < 2 → ∀ n, n < 25 → 0 ≤ cnt (oA j) (cA j) n ∧ cnt (oA j) (cA j) n < 2 ^ 72 := by decide +kernel -- heavy
def tot (j : Nat) : List Nat → Int
  | [] => 0
  | n :: r => wt j n + tot j r
theorem tot_all : ∀ j, j < 2 → tot j (List.range 25) ≤ 2 ^ 72 := by decide +kernel -- heavy
theorem tot_app (j : Nat) : ∀ l m, tot j (l ++ m) = tot j l + tot j m
  | [], m => by simp [tot]
  | n :: r, m => by
    show wt j n + tot j (r ++ m) = wt j n + tot j r + tot j m
    rw [tot_app j r m]
    omega
theorem tot_erase (j : Nat) {n : Nat} : ∀ {l : List Nat}, n ∈ l → tot j l = wt j n + tot j (l.erase n)
  | [], h => by simp at h
  | m :: r, h => by
    by_cases e : m = n
    · subst e
      rw [List.erase_cons_head]
      rfl
    · have h2 : n ∈ r := by
        rcases List.mem_cons.mp h with z | z
        · exact absurd z.symm e
        · exact z
      rw [List.erase_cons_tail (by simpa using e)]
      show wt j m + tot j r = wt j n + (wt j m + tot j (r.erase n))
      rw [tot_erase j h2]
      omega
theorem wt_nn (j : Nat) (hj : j < 2) (n : Nat) (hn : n < 25) : 0 ≤ wt j n := Int.mul_nonneg (cnt_rng j hj n hn).1 (Int.pow_nonneg (by decide))
theorem tot_nn (j : Nat) (hj : j < 2) : ∀ l : List Nat, (∀ n ∈ l, n < 25) → 0 ≤ tot j l
  | [], _ => by simp [tot]
  | n :: r, h => by
    have h1 := wt_nn j hj n (h n (by simp))
    have h2 := tot_nn j hj r fun m hm => h m (by simp [hm])
    show 0 ≤ wt j n + tot j r
    omega
theorem tot_le (j : Nat) (hj : j < 2) : ∀ (l m : List Nat), l.Nodup → (∀ n ∈ l, n ∈ m) → (∀ n ∈ m, n < 25) → tot j l ≤ tot j m
  | [], m, _, _, h3 => tot_nn j hj m h3
  | n :: r, m, h1, h2, h3 => by
    rw [List.nodup_cons] at h1
    have ih := tot_le j hj r (m.erase n) h1.2 (fun k hk => (List.mem_erase_of_ne (fun e => h1.1 (by rw [← e]; exact hk))).mpr (h2 k (by simp [hk]))) (fun k hk => h3 k (List.mem_of_mem_erase hk))
    rw [tot_erase j (h2 n (by simp))]
    show wt j n + tot j r ≤ _
    omega
theorem tot_bound (j : Nat) (hj : j < 2) (l : List Nat) (h1 : l.Nodup) (h2 : ∀ n ∈ l, n < 25) : tot j l ≤ 2 ^ 72 :=
  Int.le_trans (tot_le j hj l (List.range 25) h1 (fun n hn => List.mem_range.mpr (h2 n hn)) (fun n hn => List.mem_range.mp hn)) (tot_all j hj)
def nV (n : Nat) : V := .int (n : Int)
theorem inV_nat (n : Nat) : ∀ l : List Nat, inV (V.int (n : Int)) (l.map nV) = decide (n ∈ l)
  | [] => by simp [inV]
  | m :: r => by
    have ih := inV_nat n r
    unfold inV at ih ⊢
    rw [List.map_cons, List.any_cons, ih]
    show (((m : Int) == (n : Int)) || decide (n ∈ r)) = _
    by_cases e : n = m
    · subst e
      simp
    · have : ((m : Int) == (n : Int)) = false := by
        simp only [beq_eq_false_iff_ne, ne_eq]
        omega
      rw [this]
      simp [e]
theorem flat_nat : ∀ l : List Nat, (l.map nV).all flatV = true
  | [] => rfl
  | m :: r => by
    rw [List.map_cons, List.all_cons, flat_nat r]
    rfl
theorem get2 {α : Type} (f : Nat → α) {j : Nat} (h : j < 2) : [f 0, f 1][j]? = some (f j) := by
  rcases (by omega : j = 0 ∨ j = 1) with e | e <;> subst e <;> rfl
def spAsks (K : PySem.W.Frag) : Sp := fun vs H Q _ => ∃ (a : Addr) (ns : List Int), vs = [.ref a] ∧ SqL K H a (ns.map V.int) ∧ ns.length ≤ 63 ∧ ∀ H', Q (.bl true) H'
abbrev spLaw := spAsks
structure LangC (K : PySem.W.Frag) (C : Addr) (o c : Int) : Prop where
  mk0 : Mk0 K C
  cl : Cls K C
  ex : ∃ (sg cl : Str) (u1 u2 : Value), Con K C "SIGNS" (.str sg) u1 ∧ Con K C "CLOSERS" (.str cl) u2 ∧ (sg.length : Int) = o + c + 1 ∧ (cl.length : Int) = c ∧ sg.length ≤ 100 ∧ cl.length ≤ 100
theorem LangC.lang {K : PySem.W.Frag} {C : Addr} {o c : Int} (L : LangC K C o c) {H : Hp} {r dx : Addr} (h : H r = some (.ins C dx [])) : Lang K H r o c := by
  obtain ⟨sg, cl, u1, u2, x⟩ := L.ex
  exact ⟨C, dx, sg, cl, u1, u2, h, L.cl, x⟩
theorem ok_law_asks {f : Addr} {fd : FuncData} (F : Fun K "_law_asks" "_law_asks" s_law_asks f fd) (T : Txt K mg C_Reels C_Stacks) (LR : LangC K C_Reels 5 2) (LS : LangC K C_Stacks 6 1)
    (c_law_tape : Cal P w K mg base 1 "_law_tape" (spTape K)) (c_law_draw : Cal P w K mg base 1 "_law_draw" spDraw) (c_count_programs : Cal P w K mg base 2 "count_programs" (spCount K))
    (ck_count_programs_tokens_language : CalK P w K mg base 2 "count_programs" 0 ["tokens", "language"] (fun _ zs => zs.reverse) (spCount K)) (c_law_counts : Cal P w K mg base 1 "_law_counts" spCounts) (c_law_listed : Cal P w K mg base 1 "_law_listed" (spListed K)) :
    FnOk P w K mg base CX0 3 f fd ["script"] (spAsks K) := by
  refine F.ok sc_law_asks (fun vs H Q E h => ?_) (fun cdv A outer s H vs Q E hr h => ?_)
  · obtain ⟨a, ns, rfl, _⟩ := h
    rfl
  · obtain ⟨a, ns, rfl, hS, hlen, q⟩ := h
    have m_Reels := LR.mk0
    have m_Stacks := LS.mk0
    refine ⟨_, (pss_cons (ps_set (i := 1) sc_law_asks.nd rfl (by first | exact Or.inl rfl | exact Or.inr rfl) (pe_c c_law_tape hr (by omega) (by rfl) (pa_cons (pv 0) pa_nil)))
    (pss_cons (ps_set (i := 2) sc_law_asks.nd rfl (by first | exact Or.inl rfl | exact Or.inr rfl) (pe_lst (pa_cons (pe_new0 m_Reels (by rfl) T.g_Reels) (pa_cons (pe_new0 m_Stacks (by rfl) T.g_Stacks) pa_nil))))
    (pss_cons (ps_set (i := 3) sc_law_asks.nd rfl (by first | exact Or.inl rfl | exact Or.inr rfl) (pe_lst (pa_cons (pe_c c_law_counts hr (by omega) (by rfl) (pa_cons pe_int (pa_cons pe_int pa_nil))) (pa_cons (pe_c c_law_counts hr (by omega) (by rfl) (pa_cons pe_int (pa_cons pe_int pa_nil))) pa_nil))))
    (pss_cons (ps_set (i := 4) sc_law_asks.nd rfl (by first | exact Or.inl rfl | exact Or.inr rfl) (pe_lst (pa_cons (pe_tup (pa_cons pe_int (pa_cons pe_int pa_nil))) (pa_cons (pe_tup (pa_cons pe_int (pa_cons pe_int pa_nil))) pa_nil))))
    (pss_cons (ps_set (i := 5) sc_law_asks.nd rfl (by first | exact Or.inl rfl | exact Or.inr rfl) (pe_c c_law_draw hr (by omega) (by rfl) (pa_cons (pv 1) (pa_cons pe_int pa_nil))))
    (C8.pss_cut (ps_if (pt_cmpR op_eq (pe_c c_law_draw hr (by omega) (by rfl) (pa_cons (pv 1) (pa_cons pe_int pa_nil))) pe_int (nomark _))
      (pss_one (ps_set (i := 5) sc_law_asks.nd rfl (by first | exact Or.inl rfl | exact Or.inr rfl) pe_int))
      pss_nil)
    (pss_cons (ps_set (i := 6) sc_law_asks.nd rfl (by first | exact Or.inl rfl | exact Or.inr rfl) (pe_lst (pa_cons (pe_lst pa_nil) (pa_cons (pe_lst pa_nil) pa_nil))))
    (pss_cons (ps_set (i := 7) sc_law_asks.nd rfl (by first | exact Or.inl rfl | exact Or.inr rfl) (pe_lst (pa_cons pe_int (pa_cons pe_int pa_nil))))
    (pss_cons (ps_for PassesOwn.never rfl (pi_range1 (by rfl) T.b_range (pa_cons pe_int pa_nil)) (pg_name (i := 8) sc_law_asks.nd rfl (by first | exact Or.inl rfl | exact Or.inr rfl))
      (pss_cons (ps_set (i := 9) sc_law_asks.nd rfl (by first | exact Or.inl rfl | exact Or.inr rfl) (pe_c c_law_draw hr (by omega) (by rfl) (pa_cons (pv 1) (pa_cons pe_int pa_nil))))
        (pss_cons (ps_set (i := 10) sc_law_asks.nd rfl (by first | exact Or.inl rfl | exact Or.inr rfl) (pe_c c_law_draw hr (by omega) (by rfl) (pa_cons (pv 1) (pa_cons pe_int pa_nil))))
        (C8.pss_cut (ps_if (pt_cmpR op_eq (pv 8) pe_int (nomark _))
          (pss_one (ps_set (i := 10) sc_law_asks.nd rfl (by first | exact Or.inl rfl | exact Or.inr rfl) (pv 5)))
          pss_nil)
        (C8.pss_cut (ps_if (pt_cmpR op_eq (pv 8) pe_int (nomark _))
          (pss_one (ps_set (i := 10) sc_law_asks.nd rfl (by first | exact Or.inl rfl | exact Or.inr rfl) pe_int))
          pss_nil)
        (pss_cons (ps_set (i := 11) sc_law_asks.nd rfl (by first | exact Or.inl rfl | exact Or.inr rfl) (pe_ix ix_list (pv 2) (pv 9) (fun _ _ => rfl)))
        (C8.pss_cut (ps_if (pt_cmpR op_eq (pe_c c_law_draw hr (by omega) (by rfl) (pa_cons (pv 1) (pa_cons pe_int pa_nil))) pe_int (nomark _))
          (pss_one (ps_set (i := 11) sc_law_asks.nd rfl (by first | exact Or.inl rfl | exact Or.inr rfl) (pe_ix ix_list (pe_lst (pa_cons (pe_new0 m_Reels (by rfl) T.g_Reels) (pa_cons (pe_new0 m_Stacks (by rfl) T.g_Stacks) pa_nil))) (pv 9) (fun _ _ => rfl))))
          pss_nil)
        (C8.pss_cut (ps_if (pt_cmpR op_eq (pe_op op_mod (pv 8) pe_int) pe_int (nomark _))
          (pss_one (ps_set (i := 12) sc_law_asks.nd rfl (by first | exact Or.inl rfl | exact Or.inr rfl) (pe_cK0 ck_count_programs_tokens_language hr (by omega) (by rfl) (pk_cons (pv 10) (pk_cons (pv 11) pk_nil)))))
          (pss_one (ps_set (i := 12) sc_law_asks.nd rfl (by first | exact Or.inl rfl | exact Or.inr rfl) (pe_c c_count_programs hr (by omega) (by rfl) (pa_cons (pv 11) (pa_cons (pv 10) pa_nil))))))
        (pss_cons (ps_if (PW.pt (pw_or (pt_not (pt_val (pe_callB call_isi (by rfl) T.b_isinstance (by decide +kernel) (pa_cons (pv 12) (pa_cons (pe_bltn (v := .ty "int") (by rfl) T.b_int (by decide +kernel) rfl) pa_nil))))) (pw_or (pt_val (pe_callB call_isi (by rfl) T.b_isinstance (by decide +kernel) (pa_cons (pv 12) (pa_cons (pe_bltn (v := .ty "bool") (by rfl) T.b_bool (by decide +kernel) rfl) pa_nil)))) (pw_or1 (pt_cmpR op_ne (pv 12) (pe_ix ix_list (pe_ix ix_list (pv 3) (pv 9) (fun _ _ => rfl)) (pv 10) (fun _ _ => rfl)) (nomark _))))))
          (pss_one (ps_ret pe_bl))
          pss_nil)
        (C8.pss_cut (ps_if (PW.pt (pw_and (pt_cmpR op_eq (pv 8) pe_int (nomark _)) (pw_and1 (pt_cmpR op_ne (pv 12) (pe_c c_law_listed hr (by omega) (by rfl) (pa_cons (pv 10) (pa_cons (pe_ix ix_list (pv 4) (pv 9) (fun _ _ => rfl)) pa_nil))) (nomark _)))))
          (pss_one (ps_ret pe_bl))
          pss_nil)
        (pss_one (ps_if (pt_cmpR op_notIn_seq (pv 10) (pe_ix ix_list (pv 6) (pv 9) (fun _ _ => rfl)) (by rfl))
          (pss_cons (ps_set (i := 13) sc_law_asks.nd rfl (by first | exact Or.inl rfl | exact Or.inr rfl) (pe_ix ix_list (pv 6) (pv 9) (fun _ _ => rfl)))
            (pss_cons (ps_expr (pe_bm PySem.F.plainAttrs_list PySem.F.slot_list_append PySem.F.type_list_append mt_append (pv 13) (pa_cons (pv 10) pa_nil)))
            (pss_one (ps_asg (pe_op op_add (pe_ix ix_list (pv 7) (pv 9) (fun _ _ => rfl)) (pe_op op_shlW (pv 12) (pe_op op_mul pe_int (pe_op op_sub pe_int (pv 10))))) (pg_sub (pv 7) (pv 9) set_list)))))
          pss_nil))))))))))))
    (pss_one (ps_ret (pe_and (pe_cmpR op_le (pe_ix ix_list (pv 7) pe_int (fun _ _ => rfl)) (pe_op op_shl pe_int pe_int) (nomark _)) (pe_one (pe_cmpR op_le (pe_ix ix_list (pv 7) pe_int (fun _ _ => rfl)) (pe_op op_shl pe_int pe_int) (nomark _))))))))))))))), ?_⟩
    refine ⟨_, rfl, a, ns, rfl, hS, hlen, fun H1 t T1 => ?_⟩
    -- languages
    refine fun l1 d1 hl1 hd1 n1 => ?_
    have T2 := T1.inst (C := C_Reels) (fs := []) hl1 hd1 n1
    refine fun l2 d2 hl2 hd2 n2 => ?_
    have T3 := T2.inst (C := C_Stacks) (fs := []) hl2 hd2 n2
    have f1 : (upd (upd (upd (upd H d1 (.own l1)) l1 (.ins C_Reels d1 [])) d2 (.own l2)) l2 (.ins C_Stacks d2 [])) l1 = some (.ins C_Reels d1 []) := same_ins (T2.isn hl2) (T2.isn hd2) n2 _ _ upd_same
    have f2 : (upd (upd (upd (upd H d1 (.own l1)) l1 (.ins C_Reels d1 [])) d2 (.own l2)) l2 (.ins C_Stacks d2 [])) l2 = some (.ins C_Stacks d2 []) := upd_same
    generalize upd (upd (upd (upd H d1 (.own l1)) l1 (.ins C_Reels d1 [])) d2 (.own l2)) l2 (.ins C_Stacks d2 []) = B3 at T3 f1 f2
    refine ⟨szle (by show 2 ≤ 16777216; decide), fun ls hls => ?_⟩
    have T4 := T3.new (o := .lst [.ref l1, .ref l2]) hls
    have g1 := same_upd (o := .lst [.ref l1, .ref l2]) (T3.isn hls) _ _ f1
    have g2 := same_upd (o := .lst [.ref l1, .ref l2]) (T3.isn hls) _ _ f2
    have g3 : (upd B3 ls (.lst [.ref l1, .ref l2])) ls = some (.lst [.ref l1, .ref l2]) := upd_same
    generalize upd B3 ls (.lst [.ref l1, .ref l2]) = B4 at T4 g1 g2 g3
    clear f1 f2 T3 T2 T1
    -- counts
    refine ⟨5, 2, rfl, by decide, by decide, by decide, by decide, fun H5 c1 sm5 hc1 ec1 => ?_⟩
    have T5 := T4.ext1 sm5 hc1 ec1
    refine ⟨6, 1, rfl, by decide, by decide, by decide, by decide, fun H6 c2 sm6 hc2 ec2 => ?_⟩
    have T6 := T5.ext1 sm6 hc2 ec2
    have k1 := (same_upd (o := .lst ((lcs 6 1 24).map V.int)) (T5.isn hc2)).trans (fun _ _ e => e)
    have k0 := same_upd (o := .lst ((lcs 5 2 24).map V.int)) (T4.isn hc1)
    have q1 := k1 _ _ (k0 _ _ g1)
    have q2 := k1 _ _ (k0 _ _ g2)
    have q3 := k1 _ _ (k0 _ _ g3)
    have q4 := k1 _ _ (upd_same (H := B4) (a := c1) (o := .lst ((lcs 5 2 24).map V.int)))
    have q5 : (upd (upd B4 c1 (.lst ((lcs 5 2 24).map V.int))) c2 (.lst ((lcs 6 1 24).map V.int))) c2 = some (.lst ((lcs 6 1 24).map V.int)) := upd_same
    generalize upd (upd B4 c1 (.lst ((lcs 5 2 24).map V.int))) c2 (.lst ((lcs 6 1 24).map V.int)) = B6 at T6 q1 q2 q3 q4 q5
    clear k0 k1 g1 g2 g3 T4 T5
    refine ⟨szle (by show 2 ≤ 16777216; decide), fun cs hcs => ?_⟩
    have T7 := T6.new (o := .lst [.ref c1, .ref c2]) hcs
    have k2 := same_upd (o := .lst [.ref c1, .ref c2]) (T6.isn hcs)
    have q6 : (upd B6 cs (.lst [.ref c1, .ref c2])) cs = some (.lst [.ref c1, .ref c2]) := upd_same
    replace q1 := k2 _ _ q1; replace q2 := k2 _ _ q2; replace q3 := k2 _ _ q3; replace q4 := k2 _ _ q4; replace q5 := k2 _ _ q5
    generalize upd B6 cs (.lst [.ref c1, .ref c2]) = B7 at T7 q1 q2 q3 q4 q5 q6
    clear k2 T6
    -- kinds
    refine ⟨szle (by show 2 ≤ 16777216; decide), fun p1 hp1 => ?_⟩
    have T8 := T7.new (o := .tup [.int 0, .int 7]) hp1
    refine ⟨szle (by show 2 ≤ 16777216; decide), fun p2 hp2 => ?_⟩
    have T9 := T8.new (o := .tup [.int 0, .int 0]) hp2
    refine ⟨szle (by show 2 ≤ 16777216; decide), fun ks hks => ?_⟩
    have T10 := T9.new (o := .lst [.ref p1, .ref p2]) hks
    have k3 := ((same_upd (o := .tup [.int 0, .int 7]) (T7.isn hp1)).trans (same_upd (o := .tup [.int 0, .int 0]) (T8.isn hp2))).trans (same_upd (o := .lst [.ref p1, .ref p2]) (T9.isn hks))
    have q7 := same_upd (o := .lst [.ref p1, .ref p2]) (T9.isn hks) _ _ (same_upd (o := .tup [.int 0, .int 0]) (T8.isn hp2) _ _ (upd_same (H := B7) (a := p1) (o := .tup [.int 0, .int 7])))
    have q8 := same_upd (o := .lst [.ref p1, .ref p2]) (T9.isn hks) _ _ (upd_same (H := upd B7 p1 (.tup [.int 0, .int 7])) (a := p2) (o := .tup [.int 0, .int 0]))
    have q9 := upd_same (H := upd (upd B7 p1 (.tup [.int 0, .int 7])) p2 (.tup [.int 0, .int 0])) (a := ks) (o := .lst [.ref p1, .ref p2])
    replace q1 := k3 _ _ q1; replace q2 := k3 _ _ q2; replace q3 := k3 _ _ q3; replace q4 := k3 _ _ q4; replace q5 := k3 _ _ q5; replace q6 := k3 _ _ q6
    generalize upd (upd (upd B7 p1 (.tup [.int 0, .int 7])) p2 (.tup [.int 0, .int 0])) ks (.lst [.ref p1, .ref p2]) = FB at T10 q1 q2 q3 q4 q5 q6 q7 q8 q9
    clear k3 T7 T8 T9
    -- small
    refine ⟨_, rfl, FB, t, 0, 3, rfl, T10, by decide, by decide, by decide, fun H8 sn0 T11 s0 s1 => ?_⟩
    refine ⟨fun σ H' => ∃ sm : Nat, sm ≤ 3 ∧ σ = [some (.ref a), some (.ref t), some (.ref ls), some (.ref cs), some (.ref ks), some (.int sm), none, none, none, none, none, none, none, none] ∧ Tp FB H' t 2, ?_, ?_⟩
    · obtain ⟨sm, rfl⟩ := nat_of s0
      refine ⟨_, rfl, FB, t, 1, 6, rfl, T11, by decide, by decide, by decide, fun H9 d T12 _ _ => ?_⟩
      refine ⟨rfl, _, rfl, ite2 (fun _ => ?_) (fun _ => ?_)⟩
      · exact ⟨3, by decide, rfl, T12⟩
      · exact ⟨sm, by omega, rfl, T12⟩
    · rintro σ H8 ⟨sm, hsm, rfl, T12⟩
      -- seen, totals
      refine ⟨Nat.zero_le _, fun s1 hs1 => ?_⟩
      have T13 := T12.new (o := .lst []) hs1
      refine ⟨Nat.zero_le _, fun s2 hs2 => ?_⟩
      have T14 := T13.new (o := .lst []) hs2
      refine ⟨szle (by show 2 ≤ 16777216; decide), fun sn hsn => ?_⟩
      have T15 := T14.new (o := .lst [.ref s1, .ref s2]) hsn
      refine ⟨szle (by show 2 ≤ 16777216; decide), fun tt htt => ?_⟩
      have T16 := T15.new (o := .lst [.int 0, .int 0]) htt
      have z1 : FB s1 = none := T12.isn hs1
      have z2' := T13.isn hs2
      have n12 : s1 ≠ s2 := ne_of_none upd_same z2'
      have z2 : FB s2 = none := by rw [upd_ne n12.symm] at z2'; exact z2'
      have z3' := T14.isn hsn
      have n2n : s2 ≠ sn := ne_of_none upd_same z3'
      have n1n : s1 ≠ sn := fun e => by rw [← e, upd_ne n12, upd_same] at z3'; cases z3'
      have z3 : FB sn = none := by rw [upd_ne n2n.symm, upd_ne n1n.symm] at z3'; exact z3'
      have z4' := T15.isn htt
      have nnt : sn ≠ tt := ne_of_none upd_same z4'
      have n2t : s2 ≠ tt := fun e => by rw [← e, upd_ne n2n, upd_same] at z4'; cases z4'
      have n1t : s1 ≠ tt := fun e => by rw [← e, upd_ne n1n, upd_ne n12, upd_same] at z4'; cases z4'
      have z4 : FB tt = none := by rw [upd_ne nnt.symm, upd_ne n2t.symm, upd_ne n1t.symm] at z4'; exact z4'
      obtain ⟨lA, hlA⟩ : ∃ f : Nat → Addr, f = fun j => if j = 0 then l1 else l2 := ⟨_, rfl⟩
      obtain ⟨qA, hqA⟩ : ∃ f : Nat → Addr, f = fun j => if j = 0 then c1 else c2 := ⟨_, rfl⟩
      obtain ⟨pA, hpA⟩ : ∃ f : Nat → Addr, f = fun j => if j = 0 then p1 else p2 := ⟨_, rfl⟩
      obtain ⟨sA, hsA⟩ : ∃ f : Nat → Addr, f = fun j => if j = 0 then s1 else s2 := ⟨_, rfl⟩
      have LL : ∀ j, j < 2 → Lang K FB (lA j) (oA j) (cA j) := fun j hj => by
        rw [hlA]
        rcases (by omega : j = 0 ∨ j = 1) with e | e <;> subst e
        · exact LR.lang q1
        · exact LS.lang q2
      have e3 : FB ls = some (.lst [.ref (lA 0), .ref (lA 1)]) := by rw [hlA]; exact q3
      have e6 : FB cs = some (.lst [.ref (qA 0), .ref (qA 1)]) := by rw [hqA]; exact q6
      have e9 : FB ks = some (.lst [.ref (pA 0), .ref (pA 1)]) := by rw [hpA]; exact q9
      have eC : ∀ j, j < 2 → FB (qA j) = some (.lst ((lcs (oA j) (cA j) 24).map V.int)) := fun j hj => by
        rw [hqA]
        rcases (by omega : j = 0 ∨ j = 1) with e | e <;> subst e
        · exact q4
        · exact q5
      have eK : ∀ j, j < 2 → FB (pA j) = some (.tup [.int 0, .int (aA j)]) := fun j hj => by
        rw [hpA]
        rcases (by omega : j = 0 ∨ j = 1) with e | e <;> subst e
        · exact q7
        · exact q8
      refine ⟨12, rfl, by decide, by decide, for_range (n := 12) (fun i σ H' => ∃ (B : Hp) (xs : Nat → List Nat) (v8 v9 v10 v11 v12 v13 : Option V), σ = [some (.ref a), some (.ref t), some (.ref ls), some (.ref cs), some (.ref ks), some (.int sm), some (.ref sn), some (.ref tt), v8, v9, v10, v11, v12, v13] ∧
        Tp B H' t (2 + 10 * i) ∧ Same FB B ∧ B sn = some (.lst [.ref (sA 0), .ref (sA 1)]) ∧ (∀ j, j < 2 → B (sA j) = some (.lst ((xs j).map nV)) ∧ (xs j).Nodup ∧ (∀ n ∈ xs j, n < 25) ∧ (xs j).length ≤ i) ∧ B tt = some (.lst [.int (tot 0 (xs 0)), .int (tot 1 (xs 1))]))
        ⟨_, fun _ => [], none, none, none, none, none, none, rfl, T16, ?_, ?_, ?_, ?_⟩ ?_ ?_⟩
      · exact (((same_upd z1).trans (same_upd z2')).trans (same_upd z3')).trans (same_upd z4')
      · rw [hsA, upd_ne nnt, upd_same]
        rfl
      · intro j hj
        refine ⟨?_, List.nodup_nil, fun n hn => by simp at hn, Nat.zero_le _⟩
        rw [hsA]
        rcases (by omega : j = 0 ∨ j = 1) with e | e <;> subst e
        · show upd _ _ _ s1 = _
          rw [upd_ne n1t, upd_ne n1n, upd_ne n12, upd_same]
          rfl
        · show upd _ _ _ s2 = _
          rw [upd_ne n2t, upd_ne n2n, upd_same]
          rfl
      · rw [upd_same]
        rfl
      · rintro i σ H' hi ⟨B, xs, v8, v9, v10, v11, v12, v13, rfl, TT, sB, esn, hx, et⟩
        have S0 : List (Option V) := [some (.ref a), some (.ref t), some (.ref ls), some (.ref cs), some (.ref ks), some (.int sm), some (.ref sn), some (.ref tt)]
        refine ⟨_, rfl, B, t, _, 2, rfl, TT, by decide, by decide, by omega, fun H9 w' T17 w0 w1 => ?_⟩
        obtain ⟨w, rfl⟩ := nat_of w0
        have hw : w < 2 := by omega
        refine ⟨_, rfl, B, t, _, 25, rfl, T17, by decide, by decide, by omega, fun H10 n' T18 m0 m1 => ?_⟩
        obtain ⟨n0, rfl⟩ := nat_of m0
        refine ⟨fun σ H3 => ∃ n : Nat, n < 25 ∧ (i = 3 → n ≤ 3) ∧ σ = [some (.ref a), some (.ref t), some (.ref ls), some (.ref cs), some (.ref ks), some (.int sm), some (.ref sn), some (.ref tt), some (.int (0 + i)), some (.int w), some (.int n), v11, v12, v13] ∧ H3 = H10, ?_, ?_⟩
        · refine ⟨_, rfl, rfl, _, rfl, ite2 (fun h => ?_) (fun h => ?_)⟩
          · exact ⟨_, rfl, sm, by omega, fun _ => hsm, rfl, rfl⟩
          · refine ⟨n0, by omega, fun e => absurd (decide_eq_true (congrArg V.int (by omega))) h, rfl, rfl⟩
        rintro σ H3 ⟨n1, hn1, hn13, rfl, rfl⟩
        refine ⟨fun σ H4 => ∃ n : Nat, n < 25 ∧ (i = 3 → n ≤ 3) ∧ σ = [some (.ref a), some (.ref t), some (.ref ls), some (.ref cs), some (.ref ks), some (.int sm), some (.ref sn), some (.ref tt), some (.int (0 + i)), some (.int w), some (.int n), v11, v12, v13] ∧ H4 = H3, ?_, ?_⟩
        · refine ⟨_, rfl, rfl, _, rfl, ite2 (fun h => ?_) (fun h => ?_)⟩
          · have h4 : (0 : Int) + (i : Int) = 4 := V.int.inj (of_decide_eq_true h)
            exact ⟨24, by decide, fun e => by omega, rfl, rfl⟩
          · exact ⟨n1, hn1, hn13, rfl, rfl⟩
        rintro σ H4 ⟨n, hn, hn3, rfl, rfl⟩
        -- language = languages[which]
        refine ⟨_, rfl, _, rfl, ls, _, _, _, rfl, rfl, SqL.of (T18.at (sB _ _ e3)), atI_nat (j := w) (get2 (fun j => V.ref (lA j)) hw), ?_⟩
        refine ⟨fun σ H5 => ∃ (B5 : Hp) (lg : Addr), σ = [some (.ref a), some (.ref t), some (.ref ls), some (.ref cs), some (.ref ks), some (.int sm), some (.ref sn), some (.ref tt), some (.int (0 + i)), some (.int w), some (.int n), some (.ref lg), v12, v13] ∧
          Tp B5 H5 t (2 + 10 * i + 1 + 1 + 1) ∧ Same B B5 ∧ Lang K B5 lg (oA w) (cA w), ?_, ?_⟩
        · refine ⟨_, rfl, B, t, _, 4, rfl, T18, by decide, by decide, by omega, fun H5 d T19 _ _ => ⟨rfl, _, rfl, ite2 (fun h => ?_) (fun h => ?_)⟩⟩
          · refine fun y1 d1 hy1 hd1 ne1 => ?_
            have T20 := T19.inst (C := C_Reels) (fs := []) hy1 hd1 ne1
            refine fun y2 d2 hy2 hd2 ne2 => ?_
            have T21 := T20.inst (C := C_Stacks) (fs := []) hy2 hd2 ne2
            have k5 := (same_ins (C := C_Reels) (fs := []) (T19.isn hy1) (T19.isn hd1) ne1).trans (same_ins (C := C_Stacks) (fs := []) (T20.isn hy2) (T20.isn hd2) ne2)
            have f1 := same_ins (C := C_Stacks) (fs := []) (T20.isn hy2) (T20.isn hd2) ne2 _ _ (upd_same (H := upd B d1 (.own y1)) (a := y1) (o := .ins C_Reels d1 []))
            have f2 := upd_same (H := upd (upd (upd B d1 (.own y1)) y1 (.ins C_Reels d1 [])) d2 (.own y2)) (a := y2) (o := .ins C_Stacks d2 [])
            generalize upd (upd (upd (upd B d1 (.own y1)) y1 (.ins C_Reels d1 [])) d2 (.own y2)) y2 (.ins C_Stacks d2 []) = B5 at T21 k5 f1 f2
            obtain ⟨yA, hyA⟩ : ∃ f : Nat → Addr, f = fun j => if j = 0 then y1 else y2 := ⟨_, rfl⟩
            refine ⟨szle (by show 2 ≤ 16777216; decide), fun yl hyl => ?_⟩
            have k6 := same_upd (o := .lst [.ref y1, .ref y2]) (T21.isn hyl)
            have at' : atI [V.ref y1, V.ref y2] (w : Int) = some (.ref (yA w)) := by rw [hyA]; exact atI_nat (j := w) (get2 (fun j => V.ref (if j = 0 then y1 else y2)) hw)
            refine ⟨_, rfl, yl, _, _, _, rfl, rfl, SqL.of upd_same, at', ?_⟩
            refine ⟨_, yA w, rfl, T21.new (o := .lst [.ref y1, .ref y2]) hyl, k5.trans k6, ?_⟩
            rw [hyA]
            rcases (by omega : w = 0 ∨ w = 1) with e | e <;> subst e
            · exact LR.lang (k6 _ _ f1)
            · exact LS.lang (k6 _ _ f2)
          · exact ⟨B, lA w, rfl, T19, fun _ _ e => e, (LL w hw).mono sB⟩
        rintro σ H5 ⟨B5, lg, rfl, T19, s5, hL⟩
        -- told
        have hLH : Lang K H5 lg (oA w) (cA w) := hL.mono T19.same
        refine ⟨fun σ H6 => σ = [some (.ref a), some (.ref t), some (.ref ls), some (.ref cs), some (.ref ks), some (.int sm), some (.ref sn), some (.ref tt), some (.int (0 + i)), some (.int w), some (.int n), some (.ref lg), some (.int (cnt (oA w) (cA w) n)), v13] ∧
          Tp B5 H6 t (2 + 10 * i + 1 + 1 + 1), ?_, ?_⟩
        · refine ⟨_, rfl, _, _, rfl, rfl, (by show (0 : Int) < 5; decide), rfl, _, rfl, ite2 (fun h => ?_) (fun h => ?_)⟩
          · exact ⟨_, rfl, _, rfl, rfl, lg, n, _, _, rfl, hLH, by omega, fun H6 sm6 => ⟨rfl, T19.ext sm6⟩⟩
          · exact ⟨_, rfl, _, rfl, lg, n, _, _, rfl, hLH, by omega, fun H6 sm6 => ⟨rfl, T19.ext sm6⟩⟩
        rintro σ H6 ⟨rfl, T20⟩
        have atc : atI ((lcs (oA w) (cA w) 24).map V.int) (n : Int) = some (.int (cnt (oA w) (cA w) n)) := atI_nat (j := n) (by rw [List.getElem?_map, cnt_lcs w hw n hn]; rfl)
        have g6 : ∀ {b o}, FB b = some o → H6 b = some o := fun e => T20.at (s5 _ _ (sB _ _ e))
        refine ⟨_, rfl, _, _, _, _, true, rfl, .ty "int", .base (.int _), kit_ty (by decide +kernel), _, rfl, iteF ?_⟩
        refine ⟨_, rfl, _, _, _, _, false, rfl, .ty "bool", .base (.int _), kit_ty (by decide +kernel), _, rfl, iteF ?_⟩
        refine ⟨_, rfl, _, rfl, _, rfl, cs, _, _, _, rfl, rfl, SqL.of (g6 e6), atI_nat (j := w) (get2 (fun j => V.ref (qA j)) hw), _, rfl, qA w, _, _, _, rfl, rfl, SqL.of (g6 (eC w hw)), atc, rfl, _, rfl, iteNS rfl ?_⟩
        -- k == 3 and told != listed
        refine ⟨fun σ H7 => σ = [some (.ref a), some (.ref t), some (.ref ls), some (.ref cs), some (.ref ks), some (.int sm), some (.ref sn), some (.ref tt), some (.int (0 + i)), some (.int w), some (.int n), some (.ref lg), some (.int (cnt (oA w) (cA w) n)), v13] ∧ H7 = H6, ?_, ?_⟩
        · refine ⟨_, rfl, rfl, _, rfl, ite2 (fun h => ?_) (fun h => iteF ⟨rfl, rfl⟩)⟩
          have h3 : (0 : Int) + (i : Int) = 3 := V.int.inj (of_decide_eq_true h)
          have hn3' : n ≤ 3 := hn3 (by omega)
          refine ⟨_, rfl, _, rfl, _, rfl, _, rfl, ks, _, _, _, rfl, rfl, SqL.of (g6 e9), atI_nat (j := w) (get2 (fun j => V.ref (pA j)) hw), n, pA w, 0, aA w, rfl, .inl (.inl (g6 (eK w hw))), hn3', rfl, _, rfl, ?_⟩
          rw [show (!decide (V.int (cnt (oA w) (cA w) n) = V.int (lst 0 (aA w) n (8 ^ n)))) = false by rw [cnt_lst w hw n (by omega)]; simp]
          exact iteF ⟨rfl, rfl⟩
        rintro σ H7 ⟨rfl, rfl⟩
        have bsw := (hx w hw).1
        have hsw := s5 _ _ bsw
        refine ⟨_, rfl, _, rfl, _, rfl, sn, _, _, _, rfl, rfl, SqL.of (T20.at (s5 _ _ esn)), atI_nat (j := w) (get2 (fun j => V.ref (sA j)) hw), sA w, _, rfl, .inl (SqL.of (T20.at hsw)), rfl, flat_nat _, _, rfl, ?_⟩
        rw [inV_nat]
        by_cases hmem : n ∈ xs w
        · rw [decide_eq_true hmem]
          refine iteF ?_
          exact ⟨B5, xs, _, _, _, _, _, _, rfl, T20.le (by omega), sB.trans s5, s5 _ _ esn, fun j hj => ⟨s5 _ _ (hx j hj).1, (hx j hj).2.1, (hx j hj).2.2.1, by have := (hx j hj).2.2.2; omega⟩, s5 _ _ et⟩
        · rw [decide_eq_false hmem]
          refine iteT ?_
          have hne01 : sA 0 ≠ sA 1 := by rw [hsA]; exact n12
          have ntt : ∀ j, j < 2 → sA j ≠ tt := fun j hj => by
            rw [hsA]
            rcases (by omega : j = 0 ∨ j = 1) with e | e <;> subst e
            · exact n1t
            · exact n2t
          have nsn : ∀ j, j < 2 → sA j ≠ sn := fun j hj => by
            rw [hsA]
            rcases (by omega : j = 0 ∨ j = 1) with e | e <;> subst e
            · exact n1n
            · exact n2n
          have nF : ∀ j, j < 2 → FB (sA j) = none := fun j hj => by
            rw [hsA]
            rcases (by omega : j = 0 ∨ j = 1) with e | e <;> subst e
            · exact z1
            · exact z2
          have hlw := (hx w hw).2.2.2
          refine ⟨_, rfl, _, rfl, sn, _, _, _, rfl, rfl, SqL.of (T20.at (s5 _ _ esn)), atI_nat (j := w) (get2 (fun j => V.ref (sA j)) hw), ?_⟩
          refine ⟨_, rfl, .inl ⟨rfl, _, SqL.of (T20.at hsw)⟩, _, rfl, sA w, _, _, rfl, rfl, T20.at hsw, szl (by rw [List.length_map]; omega), ?_⟩
          have T21 := T20.set (o' := .lst ((xs w).map nV ++ [V.int n])) hsw
          have et5 := s5 _ _ et
          have et6 : (upd B5 (sA w) (.lst ((xs w).map nV ++ [V.int n]))) tt = some (.lst [.int (tot 0 (xs 0)), .int (tot 1 (xs 1))]) := by rw [upd_ne (ntt w hw).symm]; exact et5
          have atT : atI [V.int (tot 0 (xs 0)), V.int (tot 1 (xs 1))] (w : Int) = some (.int (tot w (xs w))) := atI_nat (j := w) (get2 (fun j => V.int (tot j (xs j))) hw)
          have r := cnt_rng w hw n hn
          have hbit : Builtin.Int.intBits (cnt (oA w) (cA w) n) ≤ 73 := by
            unfold Builtin.Int.intBits
            split
            · omega
            · have := PySem.Flt.log2_lt_of (by decide : 0 < 72) (show (cnt (oA w) (cA w) n).natAbs < 2 ^ 72 by omega)
              omega
          refine ⟨_, rfl, _, rfl, tt, _, _, _, rfl, rfl, SqL.of (T21.at et6), atT, _, rfl, _, rfl, _, _, rfl, rfl, _, _, rfl, rfl, .inl ⟨by decide, by decide⟩, _, _, rfl, rfl, ⟨by omega, by omega⟩, _, _, rfl, rfl, ?_⟩
          refine ⟨_, rfl, _, rfl, tt, _, _, w, rfl, rfl, T21.at et6, ?_, ?_⟩
          · unfold ixN
            rw [if_pos (by omega), if_pos (by simp; omega)]
            rfl
          · have T22 := T21.set (o' := .lst ([V.int (tot 0 (xs 0)), V.int (tot 1 (xs 1))].set w (V.int (tot w (xs w) + cnt (oA w) (cA w) n * 2 ^ ((3 : Int) * (24 - (n : Int))).toNat)))) et6
            refine ⟨_, fun j => if j = w then xs w ++ [n] else xs j, _, _, _, _, _, _, rfl, T22.le (by omega), ?_, ?_, ?_, ?_⟩
            · exact same_out (same_out (sB.trans s5) (nF w hw)) z4
            · rw [upd_ne nnt, upd_ne (nsn w hw).symm]
              exact s5 _ _ esn
            · intro j hj
              rw [upd_ne (ntt j hj)]
              by_cases e : j = w
              · subst e
                rw [upd_same]
                simp only [if_true]
                refine ⟨by rw [List.map_append]; rfl, ?_, ?_, ?_⟩
                · exact List.nodup_append.mpr ⟨(hx j hj).2.1, by simp, fun x hx1 y hy1 e2 => hmem (by rw [List.mem_singleton.mp hy1] at e2; rw [← e2]; exact hx1)⟩
                · intro m hm
                  rcases List.mem_append.mp hm with z | z
                  · exact (hx j hj).2.2.1 m z
                  · rw [List.mem_singleton.mp z]
                    exact hn
                · rw [List.length_append]
                  simp only [List.length_cons, List.length_nil]
                  omega
              · have hjw : sA j ≠ sA w := by
                  rcases (by omega : (j = 0 ∧ w = 1) ∨ (j = 1 ∧ w = 0)) with ⟨e1, e2⟩ | ⟨e1, e2⟩ <;> rw [e1, e2]
                  · exact hne01
                  · exact hne01.symm
                rw [upd_ne hjw]
                simp only [if_neg e]
                exact ⟨s5 _ _ (hx j hj).1, (hx j hj).2.1, (hx j hj).2.2.1, by have := (hx j hj).2.2.2; omega⟩
            · have eT : tot w (xs w ++ [n]) = tot w (xs w) + cnt (oA w) (cA w) n * 2 ^ ((3 : Int) * (24 - (n : Int))).toNat := by
                rw [tot_app, show ((3 : Int) * (24 - (n : Int))).toNat = 3 * (24 - n) by omega]
                show _ + (wt w n + 0) = _
                rw [Int.add_zero]
                rfl
              rw [upd_same, ← eT]
              rcases (by omega : w = 0 ∨ w = 1) with e | e <;> subst e <;> rfl
      · rintro σ H' ⟨B, xs, v8, v9, v10, v11, v12, v13, rfl, TT, sB, _, hx, et⟩
        have a0 : atI [V.int (tot 0 (xs 0)), V.int (tot 1 (xs 1))] 0 = some (.int (tot 0 (xs 0))) := atI_nat (j := 0) rfl
        have a1 : atI [V.int (tot 0 (xs 0)), V.int (tot 1 (xs 1))] 1 = some (.int (tot 1 (xs 1))) := atI_nat (j := 1) rfl
        have b0 := tot_bound 0 (by decide) (xs 0) (hx 0 (by decide)).2.1 (hx 0 (by decide)).2.2.1
        have b1 := tot_bound 1 (by decide) (xs 1) (hx 1 (by decide)).2.1 (hx 1 (by decide)).2.2.1
        refine ⟨_, rfl, tt, _, _, _, rfl, rfl, SqL.of (TT.at et), a0, _, _, rfl, rfl, ⟨by decide, by decide, by decide⟩, _, _, rfl, rfl, _, rfl, ?_⟩
        rw [show decide (tot 0 (xs 0) ≤ 1 * 2 ^ (72 : Int).toNat) = true from decide_eq_true b0]
        refine iteT ?_
        refine ⟨_, rfl, tt, _, _, _, rfl, rfl, SqL.of (TT.at et), a1, _, _, rfl, rfl, ⟨by decide, by decide, by decide⟩, _, _, rfl, rfl, ?_⟩
        have e := q H'
        rw [← show decide (tot 1 (xs 1) ≤ 1 * 2 ^ (72 : Int).toNat) = true from decide_eq_true b1] at e
        exact e
theorem ok_law {f : Addr} {fd : FuncData} (F : Fun K "law" "law" s_law f fd) (T : Txt K mg C_Reels C_Stacks) (c_law_asks : Cal P w K mg base 3 "_law_asks" (spAsks K)) : FnOk P w K mg base CX0 4 f fd ["script"] (spLaw K) := by
  refine F.ok sc_law (fun vs H Q E h => ?_) (fun cdv A outer s H vs Q E hr h => ?_)
  · obtain ⟨a, ns, rfl, _⟩ := h
    rfl
  · obtain ⟨a, ns, rfl, hS, hlen, q⟩ := h
    refine ⟨_, (pss_one (ps_try_thru0
      (pss_one (ps_ret (pe_c c_law_asks hr (by omega) (by rfl) (pa_cons (pv 0) pa_nil)))))), ?_⟩
    exact ⟨_, rfl, a, ns, rfl, hS, hlen, fun H' => q H'⟩
end
theorem all_mk {l : PySem.W.OpenLaw} {w : World} {K : PySem.W.Frag} {h : Heap} {mg : Str → Option Value} {fa f_law_tape f_law_draw f_ways_to_close f_count_programs f_law_counts f_law_listed f_law_asks f_law C_Reels C_Stacks : Addr} (X : K.In h) (G : h.Ns mainGlobals mg) (hfa : mg "law" = some (.ref fa))
    {od_law_tape an_law_tape : Option Addr} {sl_law_tape : Array (Option Value)} {oc_law_tape kV_law_tape dc_law_tape pm_law_tape cd_law_tape ct_law_tape : Value}
    {od_law_draw an_law_draw : Option Addr} {sl_law_draw : Array (Option Value)} {oc_law_draw kV_law_draw dc_law_draw pm_law_draw cd_law_draw ct_law_draw : Value}
    {od_ways_to_close an_ways_to_close : Option Addr} {sl_ways_to_close : Array (Option Value)} {oc_ways_to_close kV_ways_to_close dc_ways_to_close pm_ways_to_close cd_ways_to_close ct_ways_to_close : Value}
    {od_count_programs an_count_programs : Option Addr} {sl_count_programs : Array (Option Value)} {oc_count_programs kV_count_programs dc_count_programs pm_count_programs cd_count_programs ct_count_programs : Value}
    {od_law_counts an_law_counts : Option Addr} {sl_law_counts : Array (Option Value)} {oc_law_counts kV_law_counts dc_law_counts pm_law_counts cd_law_counts ct_law_counts : Value}
    {od_law_listed an_law_listed : Option Addr} {sl_law_listed : Array (Option Value)} {oc_law_listed kV_law_listed dc_law_listed pm_law_listed cd_law_listed ct_law_listed : Value}
    {od_law_asks an_law_asks : Option Addr} {sl_law_asks : Array (Option Value)} {oc_law_asks kV_law_asks dc_law_asks pm_law_asks cd_law_asks ct_law_asks : Value}
    {od_law an_law : Option Addr} {sl_law : Array (Option Value)} {oc_law kV_law dc_law pm_law cd_law ct_law : Value}
    {tk_C_ReelsSIGNS tk_C_ReelsCLOSERS tk_C_StacksSIGNS tk_C_StacksCLOSERS : Tok}
    (a_law_tape : PySem.W.nsIn K mainGlobals "_law_tape" = some (some (.ref f_law_tape)))
    (l_law_tape : K.lookup f_law_tape = some ⟨oc_law_tape, od_law_tape, .func (PySem.W.fnOf "_law_tape" "_law_tape" (defArgs s_law_tape) (defBody s_law_tape) (defScope s_law_tape) .none kV_law_tape dc_law_tape pm_law_tape an_law_tape cd_law_tape ct_law_tape), sl_law_tape⟩)
    (c_law_tape : PySem.W.codeIn K cd_law_tape "_law_tape" = true)
    (k_law_tape : PySem.W.keepIn K (.ref f_law_tape) = true)
    (a_law_draw : PySem.W.nsIn K mainGlobals "_law_draw" = some (some (.ref f_law_draw)))
    (l_law_draw : K.lookup f_law_draw = some ⟨oc_law_draw, od_law_draw, .func (PySem.W.fnOf "_law_draw" "_law_draw" (defArgs s_law_draw) (defBody s_law_draw) (defScope s_law_draw) .none kV_law_draw dc_law_draw pm_law_draw an_law_draw cd_law_draw ct_law_draw), sl_law_draw⟩)
    (c_law_draw : PySem.W.codeIn K cd_law_draw "_law_draw" = true)
    (k_law_draw : PySem.W.keepIn K (.ref f_law_draw) = true)
    (a_ways_to_close : PySem.W.nsIn K mainGlobals "_ways_to_close" = some (some (.ref f_ways_to_close)))
    (l_ways_to_close : K.lookup f_ways_to_close = some ⟨oc_ways_to_close, od_ways_to_close, .func (PySem.W.fnOf "_ways_to_close" "_ways_to_close" (defArgs s_ways_to_close) (defBody s_ways_to_close) (defScope s_ways_to_close) .none kV_ways_to_close dc_ways_to_close pm_ways_to_close an_ways_to_close cd_ways_to_close ct_ways_to_close), sl_ways_to_close⟩)
    (c_ways_to_close : PySem.W.codeIn K cd_ways_to_close "_ways_to_close" = true)
    (k_ways_to_close : PySem.W.keepIn K (.ref f_ways_to_close) = true)
    (a_count_programs : PySem.W.nsIn K mainGlobals "count_programs" = some (some (.ref f_count_programs)))
    (l_count_programs : K.lookup f_count_programs = some ⟨oc_count_programs, od_count_programs, .func (PySem.W.fnOf "count_programs" "count_programs" (defArgs s_count_programs) (defBody s_count_programs) (defScope s_count_programs) .none kV_count_programs dc_count_programs pm_count_programs an_count_programs cd_count_programs ct_count_programs), sl_count_programs⟩)
    (c_count_programs : PySem.W.codeIn K cd_count_programs "count_programs" = true)
    (k_count_programs : PySem.W.keepIn K (.ref f_count_programs) = true)
    (a_law_counts : PySem.W.nsIn K mainGlobals "_law_counts" = some (some (.ref f_law_counts)))
    (l_law_counts : K.lookup f_law_counts = some ⟨oc_law_counts, od_law_counts, .func (PySem.W.fnOf "_law_counts" "_law_counts" (defArgs s_law_counts) (defBody s_law_counts) (defScope s_law_counts) .none kV_law_counts dc_law_counts pm_law_counts an_law_counts cd_law_counts ct_law_counts), sl_law_counts⟩)
    (c_law_counts : PySem.W.codeIn K cd_law_counts "_law_counts" = true)
    (k_law_counts : PySem.W.keepIn K (.ref f_law_counts) = true)
    (a_law_listed : PySem.W.nsIn K mainGlobals "_law_listed" = some (some (.ref f_law_listed)))
    (l_law_listed : K.lookup f_law_listed = some ⟨oc_law_listed, od_law_listed, .func (PySem.W.fnOf "_law_listed" "_law_listed" (defArgs s_law_listed) (defBody s_law_listed) (defScope s_law_listed) .none kV_law_listed dc_law_listed pm_law_listed an_law_listed cd_law_listed ct_law_listed), sl_law_listed⟩)
    (c_law_listed : PySem.W.codeIn K cd_law_listed "_law_listed" = true)
    (k_law_listed : PySem.W.keepIn K (.ref f_law_listed) = true)
    (a_law_asks : PySem.W.nsIn K mainGlobals "_law_asks" = some (some (.ref f_law_asks)))
    (l_law_asks : K.lookup f_law_asks = some ⟨oc_law_asks, od_law_asks, .func (PySem.W.fnOf "_law_asks" "_law_asks" (defArgs s_law_asks) (defBody s_law_asks) (defScope s_law_asks) .none kV_law_asks dc_law_asks pm_law_asks an_law_asks cd_law_asks ct_law_asks), sl_law_asks⟩)
    (c_law_asks : PySem.W.codeIn K cd_law_asks "_law_asks" = true)
    (k_law_asks : PySem.W.keepIn K (.ref f_law_asks) = true)
    (a_law : PySem.W.nsIn K mainGlobals "law" = some (some (.ref f_law)))
    (l_law : K.lookup f_law = some ⟨oc_law, od_law, .func (PySem.W.fnOf "law" "law" (defArgs s_law) (defBody s_law) (defScope s_law) .none kV_law dc_law pm_law an_law cd_law ct_law), sl_law⟩)
    (c_law : PySem.W.codeIn K cd_law "law" = true)
    (k_law : PySem.W.keepIn K (.ref f_law) = true)
    (z_int : PySem.W.nsIn K mainGlobals "int" = some none)
    (z_abs : PySem.W.nsIn K mainGlobals "abs" = some none)
    (z_len : PySem.W.nsIn K mainGlobals "len" = some none)
    (z_range : PySem.W.nsIn K mainGlobals "range" = some none)
    (z_isinstance : PySem.W.nsIn K mainGlobals "isinstance" = some none)
    (z_bool : PySem.W.nsIn K mainGlobals "bool" = some none)
    (aR : PySem.W.nsIn K mainGlobals "Reels" = some (some (.ref C_Reels)))
    (aS : PySem.W.nsIn K mainGlobals "Stacks" = some (some (.ref C_Stacks)))
    (pgReels : PySem.W.plainGet K C_Reels Str.empty = true)
    (hdReels : PySem.W.hasDictIn K C_Reels = true)
    (poReels : PySem.W.plainOver K C_Reels = true)
    (saReels : PySem.W.findIn K (.ref C_Reels) "__setattr__" = some (some (.builtin "object.__setattr__")))
    (mkReels : PySem.W.makesIn K C_Reels = true)
    (kcReels : PySem.W.keepIn K (.ref C_Reels) = true)
    (inReels : PySem.W.findIn K (.ref C_Reels) "__init__" = some (some (.builtin "object.__init__")))
    (toReels : PySem.W.mroIn K C_Reels (.type "object") = some true)
    (pgStacks : PySem.W.plainGet K C_Stacks Str.empty = true)
    (hdStacks : PySem.W.hasDictIn K C_Stacks = true)
    (poStacks : PySem.W.plainOver K C_Stacks = true)
    (saStacks : PySem.W.findIn K (.ref C_Stacks) "__setattr__" = some (some (.builtin "object.__setattr__")))
    (mkStacks : PySem.W.makesIn K C_Stacks = true)
    (kcStacks : PySem.W.keepIn K (.ref C_Stacks) = true)
    (inStacks : PySem.W.findIn K (.ref C_Stacks) "__init__" = some (some (.builtin "object.__init__")))
    (toStacks : PySem.W.mroIn K C_Stacks (.type "object") = some true)
    (fSIGNSReels : PySem.W.findIn K (.ref C_Reels) "SIGNS" = some (some (.str ".01[+=~*" tk_C_ReelsSIGNS)))
    (gSIGNSReels : PySem.W.specialIn K (.str ".01[+=~*" tk_C_ReelsSIGNS) "__get__" = some none)
    (fCLOSERSReels : PySem.W.findIn K (.ref C_Reels) "CLOSERS" = some (some (.str ".*" tk_C_ReelsCLOSERS)))
    (gCLOSERSReels : PySem.W.specialIn K (.str ".*" tk_C_ReelsCLOSERS) "__get__" = some none)
    (fSIGNSStacks : PySem.W.findIn K (.ref C_Stacks) "SIGNS" = some (some (.str ".01[><!?" tk_C_StacksSIGNS)))
    (gSIGNSStacks : PySem.W.specialIn K (.str ".01[><!?" tk_C_StacksSIGNS) "__get__" = some none)
    (fCLOSERSStacks : PySem.W.findIn K (.ref C_Stacks) "CLOSERS" = some (some (.str "." tk_C_StacksCLOSERS)))
    (gCLOSERSStacks : PySem.W.specialIn K (.str "." tk_C_StacksCLOSERS) "__get__" = some none)
    : ∃ fd : FuncData, (∀ (s : Shared) (v : Value), BindsTo s fd ⟨[v], []⟩ [("script", v)]) ∧ ∀ base : Heap, K.In base → base.Ns mainGlobals mg → FnOk l.prog w K mg base CX0 4 fa fd ["script"] (spLaw K) := by
  have e := hfa.symm.trans (PySem.W.mg_of X G a_law)
  cases e
  have T : Txt K mg C_Reels C_Stacks := ⟨PySem.W.mg_none_of X G z_int, PySem.W.mg_none_of X G z_abs, PySem.W.mg_none_of X G z_len, PySem.W.mg_none_of X G z_range, PySem.W.mg_none_of X G z_isinstance, PySem.W.mg_none_of X G z_bool, PySem.W.mg_of X G aR, PySem.W.mg_of X G aS⟩
  have F_law_tape := fun_mk (x := "_law_tape") (qual := "_law_tape") (st := s_law_tape) l_law_tape c_law_tape k_law_tape
  have b_law_tape := F_law_tape.binds (ps := ["script"]) fun _ _ _ _ _ _ us hl => match us, hl with | [_], _ => rfl
  have F_law_draw := fun_mk (x := "_law_draw") (qual := "_law_draw") (st := s_law_draw) l_law_draw c_law_draw k_law_draw
  have b_law_draw := F_law_draw.binds (ps := ["tape", "limit"]) fun _ _ _ _ _ _ us hl => match us, hl with | [_, _], _ => rfl
  have F_ways_to_close := fun_mk (x := "_ways_to_close") (qual := "_ways_to_close") (st := s_ways_to_close) l_ways_to_close c_ways_to_close k_ways_to_close
  have b_ways_to_close := F_ways_to_close.binds (ps := ["language", "tokens"]) fun _ _ _ _ _ _ us hl => match us, hl with | [_, _], _ => rfl
  have F_count_programs := fun_mk (x := "count_programs") (qual := "count_programs") (st := s_count_programs) l_count_programs c_count_programs k_count_programs
  have b_count_programs := F_count_programs.binds (ps := ["language", "tokens"]) fun _ _ _ _ _ _ us hl => match us, hl with | [_, _], _ => rfl
  have F_law_counts := fun_mk (x := "_law_counts") (qual := "_law_counts") (st := s_law_counts) l_law_counts c_law_counts k_law_counts
  have b_law_counts := F_law_counts.binds (ps := ["plain", "closers"]) fun _ _ _ _ _ _ us hl => match us, hl with | [_, _], _ => rfl
  have F_law_listed := fun_mk (x := "_law_listed") (qual := "_law_listed") (st := s_law_listed) l_law_listed c_law_listed k_law_listed
  have b_law_listed := F_law_listed.binds (ps := ["tokens", "closers"]) fun _ _ _ _ _ _ us hl => match us, hl with | [_, _], _ => rfl
  have F_law_asks := fun_mk (x := "_law_asks") (qual := "_law_asks") (st := s_law_asks) l_law_asks c_law_asks k_law_asks
  have b_law_asks := F_law_asks.binds (ps := ["script"]) fun _ _ _ _ _ _ us hl => match us, hl with | [_], _ => rfl
  have F_law := fun_mk (x := "law") (qual := "law") (st := s_law) l_law c_law k_law
  have b_law := F_law.binds (ps := ["script"]) fun _ _ _ _ _ _ us hl => match us, hl with | [_], _ => rfl
  refine ⟨PySem.W.fnOf "law" "law" (defArgs s_law) (defBody s_law) (defScope s_law) .none kV_law dc_law pm_law an_law cd_law ct_law, fun s v => .of_eq rfl, fun base KB GB => ?_⟩
  have G_law_tape := ok_law_tape (P := l.prog) (w := w) (base := base) F_law_tape T 
  have c_law_tape : Cal l.prog w K mg base 1 "_law_tape" (spTape K) := ⟨_, _, _, G_law_tape, PySem.W.mg_of X G a_law_tape, k_law_tape, b_law_tape⟩
  have G_law_draw := ok_law_draw (P := l.prog) (w := w) (base := base) F_law_draw T 
  have c_law_draw : Cal l.prog w K mg base 1 "_law_draw" (spDraw) := ⟨_, _, _, G_law_draw, PySem.W.mg_of X G a_law_draw, k_law_draw, b_law_draw⟩
  have G_ways_to_close := ok_ways_to_close (P := l.prog) (w := w) (base := base) F_ways_to_close T 
  have c_ways_to_close : Cal l.prog w K mg base 1 "_ways_to_close" (spWays K) := ⟨_, _, _, G_ways_to_close, PySem.W.mg_of X G a_ways_to_close, k_ways_to_close, b_ways_to_close⟩
  have G_count_programs := ok_count_programs (P := l.prog) (w := w) (base := base) F_count_programs T c_ways_to_close
  have c_count_programs : Cal l.prog w K mg base 2 "count_programs" (spCount K) := ⟨_, _, _, G_count_programs, PySem.W.mg_of X G a_count_programs, k_count_programs, b_count_programs⟩
  have G_law_counts := ok_law_counts (P := l.prog) (w := w) (base := base) F_law_counts T 
  have c_law_counts : Cal l.prog w K mg base 1 "_law_counts" (spCounts) := ⟨_, _, _, G_law_counts, PySem.W.mg_of X G a_law_counts, k_law_counts, b_law_counts⟩
  have G_law_listed := ok_law_listed (P := l.prog) (w := w) (base := base) F_law_listed T 
  have c_law_listed : Cal l.prog w K mg base 1 "_law_listed" (spListed K) := ⟨_, _, _, G_law_listed, PySem.W.mg_of X G a_law_listed, k_law_listed, b_law_listed⟩
  have ck : CalK l.prog w K mg base 2 "count_programs" 0 ["tokens", "language"] (fun _ zs => zs.reverse) (spCount K) := ⟨_, _, _, fun _ ws => ws.reverse, G_count_programs, PySem.W.mg_of X G a_count_programs, k_count_programs, L2Fun_kbn F_count_programs (fun _ _ _ _ _ _ us ws h1 h2 => match us, ws, h1, h2 with | [], [_, _], _, _ => rfl) (fun _ r => vals_rev r)⟩
  have LR : LangC K C_Reels 5 2 := ⟨⟨mkReels, inReels, kcReels, toReels⟩, ⟨pgReels, hdReels, poReels, saReels⟩, _, _, _, _, ⟨fSIGNSReels, ⟨_, rfl⟩, gSIGNSReels, by decide +kernel⟩, ⟨fCLOSERSReels, ⟨_, rfl⟩, gCLOSERSReels, by decide +kernel⟩, by decide, by decide, by decide, by decide⟩
  have LS : LangC K C_Stacks 6 1 := ⟨⟨mkStacks, inStacks, kcStacks, toStacks⟩, ⟨pgStacks, hdStacks, poStacks, saStacks⟩, _, _, _, _, ⟨fSIGNSStacks, ⟨_, rfl⟩, gSIGNSStacks, by decide +kernel⟩, ⟨fCLOSERSStacks, ⟨_, rfl⟩, gCLOSERSStacks, by decide +kernel⟩, by decide, by decide, by decide, by decide⟩
  have G_law_asks := ok_law_asks (P := l.prog) (w := w) (base := base) F_law_asks T LR LS c_law_tape c_law_draw c_count_programs ck c_law_counts c_law_listed
  have c_law_asks : Cal l.prog w K mg base 3 "_law_asks" (spAsks K) := ⟨_, _, _, G_law_asks, PySem.W.mg_of X G a_law_asks, k_law_asks, b_law_asks⟩
  have G_law := ok_law (P := l.prog) (w := w) (base := base) F_law T c_law_asks
  exact G_law
end K13
open PySem PySem.W PyProof.Rows
set_option maxRecDepth 100000 in
set_option maxHeartbeats 0 in
theorem PySem.Challenge.cw_keptbudgets_k13_counts_of_programs_holds : PySem.Challenge.rw_keptbudgets_k13_counts_of_programs.Holds := by
  w_on; o_law; k_head; (case hw => w_witness2)
  k_fill
  refine L2.walk_of (l := PySem.Challenge.rw_keptbudgets_k13_counts_of_programs) (n := 63) (k := 4) (x := "script") (CX := fun w => L2.CX0) (sp := fun w => K13.spLaw _) rfl (by decide) rfl ⟨rfl, by decide, by decide⟩ (fun w h Y => PySem.W.kIn_of Y) ?F (fun _ _ a ns hl _ hS => ⟨a, ns, rfl, hS, hl, fun _ => rfl⟩) (fun _ _ _ _ _ h => h)
  case F =>
    intro w mg fa h KX G hmg
    refine' K13.all_mk KX G hmg ?a_law_tape ?l_law_tape ?c_law_tape ?k_law_tape ?a_law_draw ?l_law_draw ?c_law_draw ?k_law_draw ?a_ways_to_close ?l_ways_to_close ?c_ways_to_close ?k_ways_to_close ?a_count_programs ?l_count_programs ?c_count_programs ?k_count_programs ?a_law_counts ?l_law_counts ?c_law_counts ?k_law_counts ?a_law_listed ?l_law_listed ?c_law_listed ?k_law_listed ?a_law_asks ?l_law_asks ?c_law_asks ?k_law_asks ?a_law ?l_law ?c_law ?k_law ?z_int ?z_abs ?z_len ?z_range ?z_isinstance ?z_bool ?aR ?aS ?pgReels ?hdReels ?poReels ?saReels ?mkReels ?kcReels ?inReels ?toReels ?pgStacks ?hdStacks ?poStacks ?saStacks ?mkStacks ?kcStacks ?inStacks ?toStacks ?fSIGNSReels ?gSIGNSReels ?fCLOSERSReels ?gCLOSERSReels ?fSIGNSStacks ?gSIGNSStacks ?fCLOSERSStacks ?gCLOSERSStacks
    (case a_law_tape => k_is)
    (case l_law_tape => k_is)
    (case c_law_tape => k_is)
    (case k_law_tape => k_is)
    (case a_law_draw => k_is)
    (case l_law_draw => k_is)
    (case c_law_draw => k_is)
    (case k_law_draw => k_is)
    (case a_ways_to_close => k_is)
    (case l_ways_to_close => k_is)
    (case c_ways_to_close => k_is)
    (case k_ways_to_close => k_is)
    (case a_count_programs => k_is)
    (case l_count_programs => k_is)
    (case c_count_programs => k_is)
    (case k_count_programs => k_is)
    (case a_law_counts => k_is)
    (case l_law_counts => k_is)
    (case c_law_counts => k_is)
    (case k_law_counts => k_is)
    (case a_law_listed => k_is)
    (case l_law_listed => k_is)
    (case c_law_listed => k_is)
    (case k_law_listed => k_is)
    (case a_law_asks => k_is)
    (case l_law_asks => k_is)
    (case c_law_asks => k_is)
    (case k_law_asks => k_is)
    (case a_law => k_is)
    (case l_law => k_is)
    (case c_law => k_is)
    (case k_law => k_is)
    (case z_int => k_is)
    (case z_abs => k_is)
    (case z_len => k_is)
    (case z_range => k_is)
    (case z_isinstance => k_is)
    (case z_bool => k_is)
    (case aR => k_is)
    (case aS => k_is)
    (case pgReels => k_is)
    (case hdReels => k_is)
    (case poReels => k_is)
    (case saReels => k_is)
    (case mkReels => k_is)
    (case kcReels => k_is)
    (case inReels => k_is)
    (case toReels => k_is)
    (case pgStacks => k_is)
    (case hdStacks => k_is)
    (case poStacks => k_is)
    (case saStacks => k_is)
    (case mkStacks => k_is)
    (case kcStacks => k_is)
    (case inStacks => k_is)
    (case toStacks => k_is)
    (case fSIGNSReels => k_is)
    (case gSIGNSReels => k_is)
    (case fCLOSERSReels => k_is)
    (case gCLOSERSReels => k_is)
    (case fSIGNSStacks => k_is)
    (case gSIGNSStacks => k_is)
    (case fCLOSERSStacks => k_is)
    (case gCLOSERSStacks => k_is)
#print axioms PySem.Challenge.cw_keptbudgets_k13_counts_of_programs_holds
