import PyProof.Rows.All
import Wide.All
import OpenK.AllK
import Wide.FinOn
import HandS.ForMost
import HandS.Exc
import HandS.TryOnly
import HandS.ExcOwn
import HandS.WordsExc
import HandS.ExcIs
import HandS.IsInst
import HandS.More
import HandS.Evl
import HandS.Conv
import HandS.TupLe
import HandS.FStr
import HandS.Style
import HandS.HotCalls
import HandS.TupAny
import HandS.TupMul
import PySem.Challenge.RW_backrule_k01_rules_looked_at
set_option Elab.async false
set_option linter.all false
set_option maxRecDepth 100000
set_option maxHeartbeats 4000000
/-! ## Base: words over the hand layer, free of any row -/
namespace Br
open PySem PySem.Spec PyProof.Rows L2
/-- the classes of the program -/
structure Cl where
  RowError : Addr
  BadRule : Addr
  BadRow : Addr
  TooWide : Addr
  NoBack : Addr
  BadText : Addr
/-! ### readings of operators by names -/
abbrev oAdd : R2 := rI0 fun i j => .int (i + j)
abbrev oSub : R2 := rI0 fun i j => .int (i - j)
abbrev oMul : R2 := rI CMul fun i j => .int (i * j)
abbrev oMod : R2 := rI (fun _ j => 0 < j) fun i j => .int (i % j)
abbrev oDiv : R2 := rI CDiv fun i j => .int (i / j)
abbrev oPow : R2 := rI CPow fun i j => .int (i ^ j.toNat)
abbrev oLt : R2 := rI0 fun i j => .bl (decide (i < j))
abbrev oLe : R2 := rI0 fun i j => .bl (decide (i ≤ j))
abbrev oGt : R2 := rI0 fun i j => .bl (decide (j < i))
abbrev oGe : R2 := rI0 fun i j => .bl (decide (j ≤ i))
abbrev oNeg : V → Hp → VK → Prop := rU fun i => .int (-i)
abbrev oCat : R2 := rCat
abbrev oRep : R2 := rRep
abbrev oIsTy : R2 := fun x y H Q => ∃ a b, x = .ty a ∧ y = .ty b ∧ Q (.bl (decide (a = b))) H
abbrev oIsN : R2 := fun x y H Q => y = .non ∧ Q (.bl (decide (x = .non))) H
abbrev oNotN : R2 := fun x y H Q => y = .non ∧ Q (.bl (!decide (x = .non))) H
abbrev oTupS (K : PySem.W.Frag) : List V → Hp → VK → Prop := fun xs H Q => ∃ p ys, xs = [.ref p] ∧ ((SqL K H p ys ∧ ∀ l, H l = none → Q (.ref l) (upd H l (.tup ys))) ∨ (SqT K H p ys ∧ Q (.ref p) H))
abbrev oInt1 : List V → Hp → VK → Prop := fun xs H Q => (∃ i, xs = [.int i] ∧ Q (.int i) H) ∨ ∃ k, xs = [.bl k] ∧ Q (.int (if k then 1 else 0)) H
abbrev oStrI : List V → Hp → VK → Prop := fun xs H Q => ∃ i, xs = [.int i] ∧ i.natAbs.log2 < 1920 ∧ Q (.str (toString i)) H
abbrev oLenS : List V → Hp → VK → Prop := fun xs H Q => ∃ z, xs = [.str z] ∧ z.length ≤ sizeLine ∧ Q (.int z.length) H
abbrev oDivmod : List V → Hp → VK → Prop := fun xs H Q => ∃ i j, xs = [.int i, .int j] ∧ CDiv i j ∧ ∀ p, H p = none → Q (.ref p) (upd H p (.tup [.int (i / j), .int (i % j)]))
/-! ### a list or a tuple walked -/
def iOr (a b : TI) : TI := fun σ H R => a σ H R ∨ b σ H R
theorem pi_or {X : Cx} {tg e : Expr} {a b : TI} (h1 : PI X tg e a) (h2 : PI X tg e b) : PI X tg e (iOr a b) := by
  refine ⟨fun pins s σ H R I h => ?_⟩
  rcases h with h | h
  · exact h1.run pins s σ H R I h
  · exact h2.run pins s σ H R I h
/-! ### defs by name -/
/-- the def nm keeps the promise sp -/
def Has (P : Program) (w : World) (K : PySem.W.Frag) (mg : Str → Option Value) (base : Heap) (CX : CXT) (k : Nat) (nm : Str) (ps : List Str) (sp : Sp) : Prop :=
  ∃ f fd, FnOk P w K mg base CX k f fd ps sp ∧ mg nm = some (.ref f) ∧ PySem.W.keepIn K (.ref f) = true ∧ Binds K fd ps []
/-- the def nm stands as st -/
def Std (K : PySem.W.Frag) (mg : Str → Option Value) (nm : Str) (st : Stmt) (ps : List Str) : Prop := ∃ f fd, Fun K nm nm st f fd ∧ mg nm = some (.ref f) ∧ Binds K fd ps []
section
variable {P : Program} {w : World} {K : PySem.W.Frag} {mg : Str → Option Value} {base : Heap}
theorem Std.has {nm : Str} {st : Stmt} {ps : List Str} {CX : CXT} {k : Nat} {sp : Sp} (D : Std K mg nm st ps) (h : ∀ f fd, Fun K nm nm st f fd → FnOk P w K mg base CX k f fd ps sp) : Has P w K mg base CX k nm ps sp := by
  obtain ⟨f, fd, F, m, b⟩ := D
  exact ⟨f, fd, h f fd F, m, F.kp, b⟩
theorem Has.imp {nm : Str} {ps : List Str} {CX : CXT} {k : Nat} {sp sp' : Sp} (D : Has P w K mg base CX k nm ps sp) (h : ∀ vs H Q E, sp' vs H Q E → sp vs H Q E) : Has P w K mg base CX k nm ps sp' := by
  obtain ⟨f, fd, F, m, kp, b⟩ := D
  exact ⟨f, fd, F.imp h, m, kp, b⟩
end
section
variable {X : Cx} {CX : CXT} {k : Nat} {ps : List Str} {sp : Sp} {x : Str} {p pos : Pos} {e : Expr} {es : List Expr} {t : TA}
theorem pe_callH {E : XK} (F : Has X.prog X.w X.K X.mg X.base CX k x ps sp) (hr : Room k X.A) (hg : Gl X x) (hx : Passes CX X E)
    (ha : PA X (e :: es) t) (hdb : (x == ("__debug__" : Str)) = false := by decide) (he : starEach (e :: es) X.env = (false, eval e X.env) :: starEach es X.env := by rfl) (hpl : (backTo pos (starEach es X.env)).any (·.1) = false := by rfl) :
    PE X (.Call (.Name x p) (e :: es) [] pos) (tCall sp [] E t) := by
  obtain ⟨f, fd, F, m, kp, b⟩ := F
  exact pe_call F hr hg m kp b .nil hx ha hdb he hpl
theorem pe_callSH {E : L2.St → XK} (F : Has X.prog X.w X.K X.mg X.base CX k x ps sp) (hr : Room k X.A) (hg : Gl X x) (hx : ∀ σ, PassesAt CX X σ (E σ))
    (ha : PA X (e :: es) t) (hdb : (x == ("__debug__" : Str)) = false := by decide) (he : starEach (e :: es) X.env = (false, eval e X.env) :: starEach es X.env := by rfl) (hpl : (backTo pos (starEach es X.env)).any (·.1) = false := by rfl) :
    PE X (.Call (.Name x p) (e :: es) [] pos) (tCallS sp E t) := by
  obtain ⟨f, fd, F, m, kp, b⟩ := F
  exact pe_callS F hr hg m kp b hx ha hdb he hpl
end
/-! ### errors -/
/-- what the top has written of an own error class -/
structure Err (K : PySem.W.Frag) (C : Addr) : Prop where
  x : PySem.W.excIn K C [.type "ValueError", .type "Exception", .type "BaseException", .type "object"] "ValueError.__new__" = true
  k : PySem.W.keepIn K (.ref C) = true
  b : PySem.W.subIn K (.ref C) (.type "BaseException") = some true
  t : PySem.W.typeIn K (.ref C) = some (.type "type")
def tRaise (C : Addr) (E : XK) : TS := fun _ σ H => E (.ref C) none H
/-- a reading under a condition -/
def tWhen (p : Prop) (t : TS) : TS := fun D σ H => p ∧ t D σ H
theorem pss_when {X : Cx} {b : List Stmt} {p : Prop} {t : TS} (h : p → PSs X b t) : PSs X b (tWhen p t) :=
  ⟨fun pins s σ H D I z => (h z.1).run pins s σ H D I z.2⟩
def tTryAs (K : PySem.W.Frag) (c : Addr) (i : Nat) (tb : WX → TS) (ts : Addr → Value → Option Addr → TS) : TS := fun D σ H => tb (wAs K (.ref c) i ts (fun _ _ _ _ => False) D) D σ H
section
variable {X : Cx} {x n : Str} {c cd : Addr} {i : Nat} {body suite : List Stmt} {b₀ : Stmt} {np pos pos' : Pos} {tb : WX → TS} {ts : Addr → TS}
theorem ps_try_asW (hs : X.stack = X.env :: X.outer) (hf : X.env.frame = some X.env.locals) (hN : X.N.Nodup) (hi : X.N[i]? = some n) (hln : X.env.kindOf n = some .local) (hc : Names X x (.ref c)) (tk : Takes X (fun _ _ _ _ => False))
    (hb : ∀ (W : WX) (pn : List (Addr × Obj)) (xe : Value → Shared → Prop), Takes (X.tr pn xe) W → PassesOwn (model X.prog X.w) X.A X.env xe → PSs (X.tr pn xe) body (tb W))
    (hsu : ∀ (a : Addr) (oe : Obj) (pn : List (Addr × Obj)), Zc (.ref cd) none oe → (∃ vs, oe.data = .fields vs) → PSs (X.suite a ((a, oe) :: pn)) (b₀ :: suite) (ts a)) :
    PS X (.Try body [.ExceptHandler (some (.Name x np)) (some n) (b₀ :: suite) pos'] [] [] pos) (tTryAs X.K c i tb (fun a cls dd => tWhen (cls = .ref cd ∧ dd = none) (ts a))) :=
  ps_try_as hs hf hN hi hln hc tk hb (fun a oe cls d pn hz hfl => pss_when fun hp => by
    obtain ⟨rfl, rfl⟩ := hp
    exact hsu a oe pn hz hfl)
end
end Br
namespace Br
open PySem PySem.Spec PyProof.Rows L2
/-! ### from the head's facts -/
def StdK (K : PySem.W.Frag) (nm : Str) (st : Stmt) : Prop := ∃ (f : Addr) (oc : Value) (od : Option Addr) (kV doc pm : Value) (an : Option Addr) (cdv ct : Value) (osl : Array (Option Value)),
  PySem.W.nsIn K mainGlobals nm = some (some (.ref f)) ∧ K.lookup f = some ⟨oc, od, .func (PySem.W.fnOf nm nm (defArgs st) (defBody st) (defScope st) .none kV doc pm an cdv ct), osl⟩ ∧ PySem.W.codeIn K cdv nm = true ∧ PySem.W.keepIn K (.ref f) = true
theorem stdK_mk {K : PySem.W.Frag} {nm : Str} {st : Stmt} {f : Addr} {oc : Value} {od : Option Addr} {kV doc pm : Value} {an : Option Addr} {cdv ct : Value} {osl : Array (Option Value)}
    (a : PySem.W.nsIn K mainGlobals nm = some (some (.ref f))) (l : K.lookup f = some ⟨oc, od, .func (PySem.W.fnOf nm nm (defArgs st) (defBody st) (defScope st) .none kV doc pm an cdv ct), osl⟩) (c : PySem.W.codeIn K cdv nm = true) (k : PySem.W.keepIn K (.ref f) = true) : StdK K nm st :=
  ⟨f, oc, od, kV, doc, pm, an, cdv, ct, osl, a, l, c, k⟩
theorem StdK.std {K : PySem.W.Frag} {h : Heap} {mg : Str → Option Value} {nm : Str} {st : Stmt} {ps : List Str} (X : K.In h) (G : h.Ns mainGlobals mg) (d : StdK K nm st)
    (b : ∀ (kV doc pm : Value) (an : Option Addr) (cdv ct : Value) (us : List Value), us.length = ps.length → bindArgs (PySem.W.fnOf nm nm (defArgs st) (defBody st) (defScope st) .none kV doc pm an cdv ct) ⟨us, []⟩ = pure (ps.zip us)) : Std K mg nm st ps := by
  obtain ⟨f, oc, od, kV, doc, pm, an, cdv, ct, osl, a, l, c, k⟩ := d
  exact ⟨f, _, fun_mk l c k, PySem.W.mg_of X G a, (fun_mk l c k).binds b⟩
structure ErrK (K : PySem.W.Frag) (nm : Str) (C : Addr) : Prop where
  n : PySem.W.nsIn K mainGlobals nm = some (some (.ref C))
  x : PySem.W.excIn K C [.type "ValueError", .type "Exception", .type "BaseException", .type "object"] "ValueError.__new__" = true
  k : PySem.W.keepIn K (.ref C) = true
  b : PySem.W.subIn K (.ref C) (.type "BaseException") = some true
  t : PySem.W.typeIn K (.ref C) = some (.type "type")
  i : PySem.W.isClsIn K C = true
theorem ErrK.err {K : PySem.W.Frag} {nm : Str} {C : Addr} (e : ErrK K nm C) : Err K C := ⟨e.x, e.k, e.b, e.t⟩
theorem clsType {K : PySem.W.Frag} {nm : Str} {C : Addr} (e : ErrK K nm C) : ((PySem.W.clsIn K C).isSome && PySem.W.typeIn K (.ref C) == some (.type "type")) = true := by
  have h2 : (PySem.W.clsIn K C).isSome = true := e.i
  rw [h2, e.t] <;> rfl
theorem ErrK.exm {K : PySem.W.Frag} {nm : Str} {C D : Addr} {b : Bool} (e : ErrK K nm C) (s : PySem.W.subIn K (.ref D) (.ref C) = some b) : PySem.W.exmOne K (.ref D) (.ref C) = some b := by
  have e1 : (PySem.W.subIn K (.ref C) (.type "BaseException") == some true) = true := by rw [e.b] <;> rfl
  show (if (PySem.W.subIn K (.ref C) (.type "BaseException") == some true) = true then (if ((PySem.W.clsIn K C).isSome && PySem.W.typeIn K (.ref C) == some (.type "type")) = true then PySem.W.subIn K (.ref D) (.ref C) else none) else none) = some b
  rw [if_pos e1, if_pos (clsType e)]
  exact s
theorem ErrK.kit {K : PySem.W.Frag} {nm : Str} {C D : Addr} {b : Bool} (e : ErrK K nm C) (s : PySem.W.subIn K (.ref D) (.ref C) = some b) (ne : (Value.ref D == Value.ref C) = false) : PySem.W.kitOne K (.ref D) (.ref C) = some b := by
  unfold PySem.W.kitOne
  rw [if_neg (by rw [ne]; decide)]
  show (if ((PySem.W.clsIn K C).isSome && PySem.W.typeIn K (.ref C) == some (.type "type")) = true then PySem.W.subIn K (.ref D) (.ref C) else none) = some b
  rw [if_pos (clsType e)]
  exact s
theorem kitMeta_val : PySem.W.kitMeta "ValueError" = true := by decide +kernel
theorem kit_val {K : PySem.W.Frag} {D : Addr} {b : Bool} (s : PySem.W.subIn K (.ref D) (.type "ValueError") = some b) : PySem.W.kitOne K (.ref D) (.type "ValueError") = some b := by
  unfold PySem.W.kitOne
  rw [if_neg (by intro h; cases (beq_iff_eq.mp h))]
  show (if PySem.W.kitMeta "ValueError" = true then PySem.W.subIn K (.ref D) (.type "ValueError") else none) = some b
  rw [if_pos kitMeta_val]
  exact s
theorem excC_mk {K : PySem.W.Frag} {D : Addr} (hg : PySem.W.findIn K (.ref D) "__getattribute__" = some (some (.builtin "BaseException.__getattribute__"))) (hk : PySem.W.findIn K (.ref D) "__getattr__" = some none)
    (hs : PySem.W.subIn K (.ref D) (.type "BaseException") = some true) (hd : PySem.W.hasDictIn K D = true) (ha : PySem.W.findIn K (.ref D) "__class__" = some (some (.builtin "object.__class__")))
    (hn : PySem.W.specialIn K (.builtin "object.__class__") "__get__" = some (some (.builtin "getset_descriptor.__get__"))) (ht : PySem.W.takesIn K (.builtin "object.__class__") = some true) (hm : PySem.W.mroIn K D (.type "object") = some true) : ExcC K D := ⟨hg, hk, hs, hd, ha, hn, ht, hm⟩
end Br

namespace Br
open PySem PySem.Spec PyProof.Rows L2 Evl
section
variable {K : PySem.W.Frag} {σ : L2.St} {H H' : Hp} {ta tb te : TE} {x y z v : V}
theorem et_yes : EvT tYes σ H true := fun H1 _ _ q => q H1 (Ex.refl H1)
theorem rv_mod {i j : Int} (h : 0 < j) : RV oMod (.int i) (.int j) H (.int (i % j)) := rv_I h
theorem rv_div {i j : Int} (h : 0 < j) (h2 : j < 1073741824) : RV oDiv (.int i) (.int j) H (.int (i / j)) := rv_I ⟨h, h2⟩
theorem rv_mul {i j : Int} (h : CMul i j) : RV oMul (.int i) (.int j) H (.int (i * j)) := rv_I h
theorem rv_eqI {i j : Int} : RV rEq (.int i) (.int j) H (.bl (decide (i = j))) := fun H1 e Q q => rv_eq (H := H) rfl H1 e Q fun H2 e2 => by
  have e1 : decide (V.int i = V.int j) = decide (i = j) := decide_eq_decide.mpr ⟨fun h => V.int.inj h, fun h => by rw [h]⟩
  rw [e1]
  exact q H2 e2
theorem rv_neI {i j : Int} : RV rNe (.int i) (.int j) H (.bl (!decide (i = j))) := fun H1 e Q q => rv_ne (H := H) rfl H1 e Q fun H2 e2 => by
  have e1 : decide (V.int i = V.int j) = decide (i = j) := decide_eq_decide.mpr ⟨fun h => V.int.inj h, fun h => by rw [h]⟩
  rw [e1]
  exact q H2 e2
end
/-! mixed -/
abbrev start' (n : Nat) (vs : List V) : L2.St := vs.map some ++ List.replicate (n - vs.length) none
def lMixed (c k : Int) : Int := (c % 1000000007 + 1) * 48271 % 2147483647 * (16807 + 7919 * k * k + 31 * k) % 2147483629 / 7
def sp_l_mixed (K : PySem.W.Frag) (c : Cl) : Sp := fun vs H Q _ => ∃ a k : Int, vs = [.int a, .int k] ∧ -1000000 < k ∧ k < 1000000 ∧ RetV (.int (lMixed a k)) H Q
def t_l_mixed (K : PySem.W.Frag) (c : Cl) (E : XK) : TS :=
(tSeq (tAsg (tOp oMod (tOp oMul (tOp oAdd (tOp oMod (tVar 0) (tC (.int 1000000007))) (tC (.int 1))) (tC (.int 48271))) (tC (.int 2147483647))) (gName 2))
    (tRet (tOp oDiv (tOp oMod (tOp oMul (tVar 2) (tOp oAdd (tOp oAdd (tC (.int 16807)) (tOp oMul (tOp oMul (tC (.int 7919)) (tVar 1)) (tVar 1))) (tOp oMul (tC (.int 31)) (tVar 1)))) (tC (.int 2147483629))) (tC (.int 7)))))
theorem len_l_mixed {K : PySem.W.Frag} {c : Cl} (vs : List V) (H : Hp) (Q : VK) (E : XK) (h : sp_l_mixed K c vs H Q E) : vs.length = 2 := by
  obtain ⟨a, k, rfl, _⟩ := h
  rfl
theorem pure_l_mixed {K : PySem.W.Frag} {c : Cl} (vs : List V) (H : Hp) (Q : VK) (E : XK) (h : sp_l_mixed K c vs H Q E) : t_l_mixed K c E { nx := fun _ H' => Q .non H', rt := Q } (start' 3 vs) H := by
  obtain ⟨a, k, rfl, k1, k2, q⟩ := h
  refine q_asg (v := .int ((a % 1000000007 + 1) * 48271 % 2147483647)) ?_ fun H1 e1 => ?_
  · (repeat' first
        | exact ev_c
        | exact ev_var rfl
        | exact ea_nil
        | exact eo_none
        | apply ea_cons
        | apply ev_op
        | apply ev_un
        | apply eo_some
        | exact rv_I0
        | exact ru_neg
        | exact et_yes
        | apply et_test
        | apply et_B
        | apply et_not
        | apply rv_mod
        | apply rv_div
        | apply rv_mul
        | apply rv_eqI
        | apply rv_neI
        | exact rv_isTy
        | exact rv_notTy
        | (apply ev_lenS; rotate_left)
        | exact rv_ixT (by assumption) rfl)
    all_goals first | omega | exact Or.inr ⟨by omega, by omega⟩
  · refine s_ret (v := .int (lMixed a k)) ?_ fun H2 e2 => q H2 (e1.trans e2)
    (repeat' first
        | exact ev_c
        | exact ev_var rfl
        | exact ea_nil
        | exact eo_none
        | apply ea_cons
        | apply ev_op
        | apply ev_un
        | apply eo_some
        | exact rv_I0
        | exact ru_neg
        | exact et_yes
        | apply et_test
        | apply et_B
        | apply et_not
        | apply rv_mod
        | apply rv_div
        | apply rv_mul
        | apply rv_eqI
        | apply rv_neI
        | exact rv_isTy
        | exact rv_notTy
        | (apply ev_lenS; rotate_left)
        | exact rv_ixT (by assumption) rfl)
    all_goals first | omega | exact Or.inr ⟨by omega, by omega⟩ | exact Or.inl ⟨by omega, by omega⟩
end Br

namespace Br
open PySem PySem.Spec PyProof.Rows L2 Evl
abbrev IL (K : PySem.W.Frag) (H : Hp) (a : Addr) (ns : List Int) : Prop := SqL K H a (ns.map V.int)
abbrev IT (K : PySem.W.Frag) (H : Hp) (a : Addr) (ns : List Int) : Prop := SqT K H a (ns.map V.int)
def RetU (xs : List V) (H : Hp) (Q : VK) : Prop := ∀ p H2, H p = none → Ex H H2 → H2 p = some (.tup xs) → Q (.ref p) H2
def SpU (sp : Sp) (vs : List V) (H : Hp) (xs : List V) : Prop := ∀ H1, Ex H H1 → ∀ Q : VK, (∀ p H2, H1 p = none → Ex H1 H2 → H2 p = some (.tup xs) → Q (.ref p) H2) → ∀ E : XK, sp vs H1 Q E
section
variable {K : PySem.W.Frag} {σ : L2.St} {H H' : Hp} {ta tb te tl : TE} {x y z v : V} {D : Ends} {tu tz : TS} {g : TG} {w1 w2 : TI}
theorem for_l (h : tSeq (tFor w1 g tu) tz D σ H) : tSeq (tFor (iOr w1 w2) g tu) tz D σ H := Or.inl h
theorem for_r (h : tSeq (tFor w2 g tu) tz D σ H) : tSeq (tFor (iOr w1 w2) g tu) tz D σ H := Or.inr h
theorem el_l {tt : TT} {vs : List Nat} {xs : List V} (h : EvL (tLc w1 g tt te vs) σ H xs) : EvL (tLc (iOr w1 w2) g tt te vs) σ H xs := fun H1 e Q q => Or.inl (h H1 e Q q)
theorem el_r {tt : TT} {vs : List Nat} {xs : List V} (h : EvL (tLc w2 g tt te vs) σ H xs) : EvL (tLc (iOr w1 w2) g tt te vs) σ H xs := fun H1 e Q q => Or.inr (h H1 e Q q)
/-- over a tuple -/
theorem el_lcT {a : Addr} {xs : List V} {tt : TT} {j : Nat} {vs : List Nat} (f : Nat → Bool) (v : Nat → V) (h : Ev tl σ H (.ref a)) (hx : SqT K H a xs) (hz : xs.length ≤ 40000) (hw : ∀ x, wipe ((wipe σ vs).set j (some x)) vs = wipe σ vs)
    (ht : ∀ (i : Nat) (x : V) H1, Ex H H1 → xs[i]? = some x → EvT tt ((wipe σ vs).set j (some x)) H1 (f i)) (he : ∀ (i : Nat) (x : V) H1, Ex H H1 → xs[i]? = some x → f i = true → Ev te ((wipe σ vs).set j (some x)) H1 (v i)) :
    EvL (tLc (iTup K tl) (gName j) tt te vs) σ H (given xs.length f v) := fun H0 e Q q => h H0 e _ fun H1 e1 => ⟨a, rfl, ⟨xs, ex_t (e.trans e1) hx⟩, fun Dl hD =>
  lc_tup (xs := xs) (Cw H1 f v Dl) ⟨hD, Ex.new hD, upd_same⟩ (fun i H' _ p => ex_t ((e.trans e1).trans p.2.1) hx) (fun i x H' hi p => ⟨hw x, cw_turn p (by have := (List.getElem?_eq_some_iff.mp hi).1; omega) (ht i x H1 (e.trans e1) hi) (fun hf => he i x H1 (e.trans e1) hi hf)⟩)
    (fun H' p => q Dl H' (fresh_back e1 p.1) (e1.trans p.2.1) p.2.2)⟩
theorem given_all (n : Nat) (v : Nat → V) : given n (fun _ => true) v = (List.range n).map v := by
  unfold given
  rw [List.filter_eq_self.mpr fun _ _ => rfl]
/-- [e for k in range(n)] -/
theorem el_mapR {ta : TA} {j : Nat} {vs : List Nat} {n : Int} (v : Nat → V) (h : EvA ta σ H [.int n]) (hn : 0 ≤ n ∧ n ≤ 40000) (hw : ∀ x, wipe ((wipe σ vs).set j (some x)) vs = wipe σ vs)
    (he : ∀ (i : Nat) H1, Ex H H1 → (i : Int) < n → Ev te ((wipe σ vs).set j (some (.int (i : Int)))) H1 (v i)) :
    EvL (tLc (iRng1 ta) (gName j) tYes te vs) σ H ((List.range n.toNat).map v) := by
  have z := el_lcR1 (te := te) (t := tYes) (fun _ => true) v h hn hw (fun _ _ _ _ => et_yes) (fun i H1 e hi _ => he i H1 e hi)
  rw [given_all] at z
  exact z
theorem map_ix {α : Type} (xs : List α) (d : α) (f : α → V) : (List.range xs.length).map (fun i => f (xs.getD i d)) = xs.map f := by
  apply List.ext_getElem?
  intro i
  rw [List.getElem?_map, List.getElem?_map]
  by_cases h : i < xs.length
  · rw [List.getElem?_range h, List.getElem?_eq_getElem h]
    simp [List.getD, List.getElem?_eq_getElem h]
  · rw [List.getElem?_eq_none (by simpa using h), List.getElem?_eq_none (by omega)]
    rfl
/-- [e for x in xs], xs a list -/
theorem el_mapL {a : Addr} {xs : List V} {j : Nat} {vs : List Nat} (f : V → V) (h : Ev tl σ H (.ref a)) (hx : SqL K H a xs) (hz : xs.length ≤ 40000) (hw : ∀ x, wipe ((wipe σ vs).set j (some x)) vs = wipe σ vs)
    (he : ∀ (x : V) H1, Ex H H1 → x ∈ xs → Ev te ((wipe σ vs).set j (some x)) H1 (f x)) :
    EvL (tLc (iList K tl) (gName j) tYes te vs) σ H (xs.map f) := by
  have z := el_lcL (te := te) (t := tYes) (fun _ => true) (fun i => f (xs.getD i .non)) h hx hz hw (fun _ _ _ _ _ => et_yes) (fun i x H1 e hi _ => by
    have e1 : xs.getD i .non = x := by simp [List.getD, hi]
    rw [e1]
    exact he x H1 e (List.mem_of_getElem? hi))
  rw [given_all, map_ix] at z
  exact z
theorem el_mapT {a : Addr} {xs : List V} {j : Nat} {vs : List Nat} (f : V → V) (h : Ev tl σ H (.ref a)) (hx : SqT K H a xs) (hz : xs.length ≤ 40000) (hw : ∀ x, wipe ((wipe σ vs).set j (some x)) vs = wipe σ vs)
    (he : ∀ (x : V) H1, Ex H H1 → x ∈ xs → Ev te ((wipe σ vs).set j (some x)) H1 (f x)) :
    EvL (tLc (iTup K tl) (gName j) tYes te vs) σ H (xs.map f) := by
  have z := el_lcT (te := te) (tt := tYes) (fun _ => true) (fun i => f (xs.getD i .non)) h hx hz hw (fun _ _ _ _ _ => et_yes) (fun i x H1 e hi _ => by
    have e1 : xs.getD i .non = x := by simp [List.getD, hi]
    rw [e1]
    exact he x H1 e (List.mem_of_getElem? hi))
  rw [given_all, map_ix] at z
  exact z
theorem eu_tupS {xs : List V} (h : EvL te σ H xs) : EvU (tCB (oTupS K) (tCons te tNil)) σ H xs := fun H1 e Q q =>
  h H1 e _ fun p H2 hp e2 h2 => ⟨p, xs, rfl, Or.inl ⟨sq_of h2, fun l hl => q l _ (fresh_back e2 hl) (e2.trans (Ex.new hl)) upd_same⟩⟩
theorem eu_call {sp : Sp} {dvs vs xs : List V} {E : XK} {ta : TA} (h : EvA ta σ H vs) (hs : SpU sp (vs ++ dvs) H xs) : EvU (tCall sp dvs E ta) σ H xs := fun H1 e Q q =>
  h H1 e _ fun H2 e2 => hs H2 (e.trans e2) Q (fun p H3 hp e3 h3 => q p H3 (fresh_back e2 hp) (e2.trans e3) h3) E
theorem ev_lenS {p : Addr} {xs : List V} (ha : Ev ta σ H (.ref p)) (h : SqL K H p xs ∨ SqT K H p xs) : Ev (tCB (rLenS K) (tCons ta tNil)) σ H (.int (xs.length : Int)) := fun H1 e Q q =>
  ha H1 e _ fun H2 e2 => ⟨p, xs, rfl, h.imp (fun h => ex_l (e.trans e2) h) (fun h => ex_t (e.trans e2) h), q H2 e2⟩
theorem TyB.ex {T : String} (e : Ex H H') (h : TyB K H x T) : TyB K H' x T := by
  cases h with
  | non => exact .non
  | bl b => exact .bl b
  | int i => exact .int i
  | str x => exact .str x
  | byt b => exact .byt b
  | lst h => exact .lst (ex_l e h)
  | tup h => exact .tup (ex_t e h)
  | dK h => exact .dK (e _ _ h)
theorem ev_type {T : String} (ha : Ev ta σ H x) (h : TyB K H x T) : Ev (tCB (rTyp K) (tCons ta tNil)) σ H (.ty T) := fun H1 e Q q =>
  ha H1 e _ fun H2 e2 => ⟨x, T, rfl, TyB.ex (e.trans e2) h, q H2 e2⟩
theorem rv_isTy {a b : String} : RV oIsTy (.ty a) (.ty b) H (.bl (decide (a = b))) := fun H1 _ Q q => ⟨a, b, rfl, rfl, q H1 (Ex.refl H1)⟩
theorem rv_notTy {a b : String} : RV rNT (.ty a) (.ty b) H (.bl (!decide (a = b))) := fun H1 _ Q q => ⟨a, b, rfl, rfl, q H1 (Ex.refl H1)⟩
/-- a chain of two comparisons of ints -/
theorem ev_chainI {f g : Int → Int → Bool} {tc : TE} {i j k : Int} (ha : Ev ta σ H (.int i)) (hb : Ev tb σ H (.int j)) (hc : f i j = true → Ev tc σ H (.int k)) :
    Ev (tChain (rI0 fun i j => .bl (f i j)) (rI0 fun i j => .bl (g i j)) ta tb tc) σ H (.bl (f i j && g j k)) := fun H1 e Q q =>
  ha H1 e _ fun H2 e2 => hb H2 (e.trans e2) _ fun H3 e3 => ⟨i, j, rfl, rfl, f i j, rfl, by
    cases hf : f i j with
    | true =>
      refine iteT (hc hf H3 ((e.trans e2).trans e3) _ fun H4 e4 => ⟨j, k, rfl, rfl, ?_⟩)
      have := q H4 ((e2.trans e3).trans e4)
      rw [hf] at this
      exact this
    | false =>
      refine iteF ?_
      have := q H3 (e2.trans e3)
      rw [hf] at this
      exact this⟩
theorem ev_all {xs : List V} {bs : List Bool} (h : EvL te σ H xs) (hb : xs = bs.map V.bl) : Ev (tCB (rAll K) (tCons te tNil)) σ H (.bl (bs.all id)) := fun H1 e Q q =>
  h H1 e _ fun p H2 _ e2 h2 => ⟨p, bs, rfl, by rw [← hb]; exact sq_of h2, q H2 e2⟩
end
/-! ### the mathematics of rules and pieces -/
structure Good (s w : Int) (tab : List Int) : Prop where
  s2 : 2 ≤ s
  s4 : s ≤ 4
  w1 : 1 ≤ w
  w4 : w ≤ 4
  len : (tab.length : Int) = s ^ w.toNat
  l16 : tab.length ≤ 16
  rng : ∀ x ∈ tab, 0 ≤ x ∧ x < s
def InS (s : Int) (cells : List Int) : Prop := ∀ x ∈ cells, 0 ≤ x ∧ x < s
def numOf (s : Int) (cells : List Int) : Int := cells.foldl (fun n c => n * s + c) 0
def signsFrom (s w : Int) (tab cells : List Int) : List Int := (List.range (cells.length + 1 - w.toNat)).map fun i => tab.getD (numOf s ((cells.drop i).take w.toNat)).toNat 0
structure RuleAt (K : PySem.W.Frag) (H : Hp) (r t : Addr) (s w : Int) (tab : List Int) : Prop where
  top : SqT K H r [.int s, .int w, .ref t]
  tab : IT K H t tab
theorem RuleAt.ex {K : PySem.W.Frag} {H H' : Hp} {r t : Addr} {s w : Int} {tab : List Int} (e : Ex H H') (h : RuleAt K H r t s w tab) : RuleAt K H' r t s w tab := ⟨ex_t e h.top, ex_t e h.tab⟩
theorem InS.take {s : Int} {l : List Int} (h : InS s l) (n : Nat) : InS s (l.take n) := fun x hx => h x (List.mem_of_mem_take hx)
theorem InS.drop {s : Int} {l : List Int} (h : InS s l) (n : Nat) : InS s (l.drop n) := fun x hx => h x (List.mem_of_mem_drop hx)
theorem numOf_app (s : Int) (l : List Int) (x : Int) : numOf s (l ++ [x]) = numOf s l * s + x := by
  unfold numOf
  rw [List.foldl_append]
  rfl
theorem snocInd {α : Type} {P : List α → Prop} (h0 : P []) (h1 : ∀ l x, P l → P (l ++ [x])) : ∀ l, P l := fun l => by
  have z : ∀ r : List α, P r.reverse := fun r => by
    induction r with
    | nil => exact h0
    | cons x r ih =>
      rw [List.reverse_cons]
      exact h1 _ _ ih
  have y := z l.reverse
  rw [List.reverse_reverse] at y
  exact y
theorem numOf_bound {s : Int} (h2 : 2 ≤ s) : ∀ {l : List Int}, InS s l → 0 ≤ numOf s l ∧ numOf s l < s ^ l.length := by
  intro l
  refine snocInd (P := fun l => InS s l → 0 ≤ numOf s l ∧ numOf s l < s ^ l.length) ?_ ?_ l
  · intro _; exact ⟨Int.le_refl _, by show (0 : Int) < s ^ 0; simp⟩
  · intro l x ih h
    have hl : InS s l := fun y hy => h y (List.mem_append_left _ hy)
    have hx := h x (List.mem_append_right _ List.mem_cons_self)
    obtain ⟨a, b⟩ := ih hl
    rw [numOf_app]
    refine ⟨?_, ?_⟩
    · have := Int.mul_nonneg a (show 0 ≤ s by omega)
      omega
    · rw [List.length_append, List.length_singleton, Int.pow_succ]
      have h1 : numOf s l + 1 ≤ s ^ l.length := b
      have h2 := Int.mul_le_mul_of_nonneg_right h1 (show 0 ≤ s by omega)
      rw [Int.add_mul] at h2
      omega
def isFT (x : V) (a b : Int) : Bool := match x with
  | .int i => decide (a ≤ i) && decide (i ≤ b)
  | _ => false
end Br

namespace Br
open PySem PySem.Spec PyProof.Rows L2 Evl
section
variable {K : PySem.W.Frag} {c : Cl}
/-! ### _is_from_to -/
def sp_is_from_to (K : PySem.W.Frag) (c : Cl) : Sp := fun vs H Q _ => ∃ (x : V) (a b : Int) (T : String), vs = [x, .int a, .int b] ∧ TyB K H x T ∧ RetV (.bl (isFT x a b)) H Q
def t_is_from_to (K : PySem.W.Frag) (c : Cl) (E : XK) : TS :=
(tRet (tAndV (tOp oIsTy (tCB (rTyp K) (tCons (tVar 0) tNil)) (tC (.ty "int"))) (tChain oLe oLe (tVar 1) (tVar 0) (tVar 2))))
theorem len_is_from_to (vs : List V) (H : Hp) (Q : VK) (E : XK) (h : sp_is_from_to K c vs H Q E) : vs.length = 3 := by
  obtain ⟨x, a, b, T, rfl, _⟩ := h
  rfl
theorem pure_is_from_to (vs : List V) (H : Hp) (Q : VK) (E : XK) (h : sp_is_from_to K c vs H Q E) : t_is_from_to K c E { nx := fun _ H' => Q .non H', rt := Q } (start' 3 vs) H := by
  obtain ⟨x, a, b, T, rfl, ty, q⟩ := h
  refine s_ret (v := .bl (isFT x a b)) ?_ q
  have e1 : Ev (tOp oIsTy (tCB (rTyp K) (tCons (tVar 0) tNil)) (tC (.ty "int"))) (start' 3 [x, .int a, .int b]) H (.bl (decide (T = "int"))) := ev_op (ev_type (ev_var rfl) ty) ev_c rv_isTy
  cases ty with
  | int i =>
    have e2 : Ev (tChain oLe oLe (tVar 1) (tVar 0) (tVar 2)) (start' 3 [.int i, .int a, .int b]) H (.bl (decide (a ≤ i) && decide (i ≤ b))) :=
      ev_chainI (f := fun i j => decide (i ≤ j)) (g := fun i j => decide (i ≤ j)) (ev_var rfl) (ev_var rfl) (fun _ => ev_var rfl)
    exact ev_is (ev_andV e1 (fun _ => e2)) (by simp [isFT])
  | _ => exact ev_is (ev_andV (b := false) e1 (fun h => absurd (of_decide_eq_true h) (by decide))) (by simp [isFT])
theorem spv_is_from_to {H : Hp} {x : V} {a b : Int} {T : String} (ty : TyB K H x T) : SpV (sp_is_from_to K c) [x, .int a, .int b] H (.bl (isFT x a b)) := fun H1 e Q q E => ⟨x, a, b, T, rfl, TyB.ex e ty, q⟩
/-! ### rows_of -/
def sp_rows_of (K : PySem.W.Frag) (c : Cl) : Sp := fun vs H Q _ => ∃ (s w : Int), vs = [.int s, .int w] ∧ -1000 ≤ s ∧ s ≤ 1000 ∧ 0 ≤ w ∧ w ≤ 100 ∧ RetV (.int (s ^ w.toNat)) H Q
def t_rows_of (K : PySem.W.Frag) (c : Cl) (E : XK) : TS :=
(tSeq (tAsg (tC (.int 1)) (gName 2))
    (tSeq (tFor (iRng1 (tCons (tVar 1) tNil)) (gName 3) (tAsg (tOp oMul (tVar 2) (tVar 0)) (gName 2)))
    (tRet (tVar 2))))
theorem len_rows_of (vs : List V) (H : Hp) (Q : VK) (E : XK) (h : sp_rows_of K c vs H Q E) : vs.length = 2 := by
  obtain ⟨s, w, rfl, _⟩ := h
  rfl
theorem pure_rows_of (vs : List V) (H : Hp) (Q : VK) (E : XK) (h : sp_rows_of K c vs H Q E) : t_rows_of K c E { nx := fun _ H' => Q .non H', rt := Q } (start' 4 vs) H := by
  obtain ⟨s, w, rfl, s1, s2, w0, w1, q⟩ := h
  refine q_asg (v := .int 1) ev_c fun H1 e1 => ?_
  refine q_forR1 (n := w) (ea_cons (ev_var rfl) ea_nil) (by omega) (fun i σ' H' => ∃ y, σ' = [some (.int s), some (.int w), some (.int (s ^ i)), y] ∧ Ex H H') (fun H2 e2 => ⟨none, by simp [start'], e1.trans e2⟩) ?_ ?_
  · rintro i σ' H' hi ⟨y, rfl, e⟩
    refine s_asg (v := .int (s ^ (i + 1))) ?_ fun H2 e2 => ⟨some (.int i), rfl, e.trans e2⟩
    refine ev_is (v := .int (s ^ i * s)) ?_ (by rw [Int.pow_succ])
    (repeat' first
        | exact ev_c
        | exact ev_var rfl
        | exact ea_nil
        | exact eo_none
        | apply ea_cons
        | apply ev_op
        | apply ev_un
        | apply eo_some
        | exact rv_I0
        | exact ru_neg
        | exact et_yes
        | apply et_test
        | apply et_B
        | apply et_not
        | apply rv_mod
        | apply rv_div
        | apply rv_mul
        | apply rv_eqI
        | apply rv_neI
        | exact rv_isTy
        | exact rv_notTy
        | (apply ev_lenS; rotate_left)
        | exact rv_ixT (by assumption) rfl)
    exact Or.inr ⟨by omega, by omega⟩
  · rintro σ' H' ⟨y, rfl, e⟩
    exact s_ret (ev_var rfl) fun H2 e2 => q H2 (e.trans e2)
theorem spv_rows_of {H : Hp} {s w : Int} (s1 : -1000 ≤ s) (s2 : s ≤ 1000) (w0 : 0 ≤ w) (w1 : w ≤ 100) : SpV (sp_rows_of K c) [.int s, .int w] H (.int (s ^ w.toNat)) := fun H1 e Q q E => ⟨s, w, rfl, s1, s2, w0, w1, q⟩
/-! ### number_of -/
def sp_number_of (K : PySem.W.Frag) (c : Cl) : Sp := fun vs H Q _ => ∃ (s : Int) (a : Addr) (cells : List Int), vs = [.int s, .ref a] ∧ -1000 ≤ s ∧ s ≤ 1000 ∧ (IL K H a cells ∨ IT K H a cells) ∧ RetV (.int (numOf s cells)) H Q
def t_number_of (K : PySem.W.Frag) (c : Cl) (E : XK) : TS :=
(tSeq (tAsg (tC (.int 0)) (gName 2))
    (tSeq (tFor (iOr (iList K (tVar 1)) (iTup K (tVar 1))) (gName 3) (tAsg (tOp oAdd (tOp oMul (tVar 2) (tVar 0)) (tVar 3)) (gName 2)))
    (tRet (tVar 2))))
theorem len_number_of (vs : List V) (H : Hp) (Q : VK) (E : XK) (h : sp_number_of K c vs H Q E) : vs.length = 2 := by
  obtain ⟨s, a, cells, rfl, _⟩ := h
  rfl
theorem int_at {ns : List Int} {i : Nat} {y : V} (hi : (ns.map V.int)[i]? = some y) : ∃ z, ns[i]? = some z ∧ y = V.int z := by
  rw [List.getElem?_map] at hi
  cases e : ns[i]? with
  | none =>
    rw [e] at hi
    cases hi
  | some z =>
    rw [e] at hi
    exact ⟨z, rfl, (Option.some.inj hi).symm⟩
theorem take_more {α : Type} {l : List α} {i : Nat} {x : α} (h : l[i]? = some x) : l.take (i + 1) = l.take i ++ [x] := by
  rw [List.take_add_one, h]
  rfl
theorem pure_number_of (vs : List V) (H : Hp) (Q : VK) (E : XK) (h : sp_number_of K c vs H Q E) : t_number_of K c E { nx := fun _ H' => Q .non H', rt := Q } (start' 4 vs) H := by
  obtain ⟨s, a, cells, rfl, s1, s2, hc, q⟩ := h
  refine q_asg (v := .int 0) ev_c fun H1 e1 => ?_
  have turn : ∀ (i : Nat) (x : V) (σ' : L2.St) (H' : Hp) (D : Ends), (cells.map V.int)[i]? = some x → (∃ y, σ' = [some (.int s), some (.ref a), some (.int (numOf s (cells.take i))), y] ∧ Ex H H') →
      (∀ σ2 H2, (∃ y, σ2 = [some (.int s), some (.ref a), some (.int (numOf s (cells.take (i + 1)))), y] ∧ Ex H H2) → D.nx σ2 H2) →
      tAsg (tOp oAdd (tOp oMul (tVar 2) (tVar 0)) (tVar 3)) (gName 2) D (σ'.set 3 (some x)) H' := by
    rintro i x σ' H' D hi ⟨y, rfl, e⟩ k
    obtain ⟨z, hz, rfl⟩ := int_at hi
    refine s_asg (v := .int (numOf s (cells.take (i + 1)))) ?_ fun H2 e2 => k _ _ ⟨some (.int z), rfl, e.trans e2⟩
    refine ev_is (v := .int (numOf s (cells.take i) * s + z)) ?_ (by rw [take_more hz, numOf_app])
    (repeat' first
        | exact ev_c
        | exact ev_var rfl
        | exact ea_nil
        | exact eo_none
        | apply ea_cons
        | apply ev_op
        | apply ev_un
        | apply eo_some
        | exact rv_I0
        | exact ru_neg
        | exact et_yes
        | apply et_test
        | apply et_B
        | apply et_not
        | apply rv_mod
        | apply rv_div
        | apply rv_mul
        | apply rv_eqI
        | apply rv_neI
        | exact rv_isTy
        | exact rv_notTy
        | (apply ev_lenS; rotate_left)
        | exact rv_ixT (by assumption) rfl)
    exact Or.inr ⟨by omega, by omega⟩
  have fin : ∀ (D : Ends) σ' H', D.rt = Q → (∃ y, σ' = [some (.int s), some (.ref a), some (.int (numOf s (cells.take (cells.map V.int).length))), y] ∧ Ex H H') → tRet (tVar 2) D σ' H' := by
    rintro D σ' H' hD ⟨y, rfl, e⟩
    rw [List.length_map, List.take_length]
    refine s_ret (ev_var rfl) fun H2 e2 => ?_
    rw [hD]
    exact q H2 (e.trans e2)
  rcases hc with hc | hc
  · exact for_l (q_forLn (ev_var rfl) (ex_l e1 hc) (fun i σ' H' => ∃ y, σ' = [some (.int s), some (.ref a), some (.int (numOf s (cells.take i))), y] ∧ Ex H H') (fun H2 e2 => ⟨none, by simp [start', numOf], e1.trans e2⟩)
      (fun i σ' H' _ ⟨_, _, e⟩ => ex_l e hc) (fun i x σ' H' hi p => turn i x σ' H' _ hi p fun _ _ z => z) (fun σ' H' p => fin _ σ' H' rfl p))
  · exact for_r (q_forT (g := gName 3) (ev_var rfl) (ex_t e1 hc) (fun i σ' H' => ∃ y, σ' = [some (.int s), some (.ref a), some (.int (numOf s (cells.take i))), y] ∧ Ex H H') (fun H2 e2 => ⟨none, by simp [start', numOf], e1.trans e2⟩)
      (fun i σ' H' _ ⟨_, _, e⟩ => ex_t e hc) (fun i x σ' H' hi p => turn i x σ' H' _ hi p fun _ _ z => z) (fun σ' H' p => fin _ σ' H' rfl p))
theorem spv_number_of {H : Hp} {s : Int} {a : Addr} {cells : List Int} (s1 : -1000 ≤ s) (s2 : s ≤ 1000) (hc : IL K H a cells ∨ IT K H a cells) : SpV (sp_number_of K c) [.int s, .ref a] H (.int (numOf s cells)) := fun H1 e Q q E =>
  ⟨s, a, cells, rfl, s1, s2, hc.imp (ex_l e) (ex_t e), q⟩
/-! ### has_room -/
def sp_has_room (K : PySem.W.Frag) (c : Cl) : Sp := fun vs H Q _ => ∃ (s w : Int), vs = [.int s, .int w] ∧ -1000 ≤ s ∧ s ≤ 1000 ∧ 0 ≤ w ∧ w ≤ 100 ∧ RetV (.bl (decide (w ≤ 4) && decide (s ^ w.toNat ≤ 16))) H Q
def t_has_room (K : PySem.W.Frag) (c : Cl) (E : XK) : TS :=
(tRet (tAndV (tOp oLe (tVar 1) (tC (.int 4))) (tOp oLe (tCall (sp_rows_of K c) [] E0 (tCons (tVar 0) (tCons (tVar 1) tNil))) (tC (.int 16)))))
theorem len_has_room (vs : List V) (H : Hp) (Q : VK) (E : XK) (h : sp_has_room K c vs H Q E) : vs.length = 2 := by
  obtain ⟨s, w, rfl, _⟩ := h
  rfl
theorem pure_has_room (vs : List V) (H : Hp) (Q : VK) (E : XK) (h : sp_has_room K c vs H Q E) : t_has_room K c E { nx := fun _ H' => Q .non H', rt := Q } (start' 2 vs) H := by
  obtain ⟨s, w, rfl, s1, s2, w0, w1, q⟩ := h
  refine s_ret (ev_andV (a := decide (w ≤ 4)) (b := decide (s ^ w.toNat ≤ 16)) ?_ fun _ => ?_) q
  · (repeat' first
        | exact ev_c
        | exact ev_var rfl
        | exact ea_nil
        | exact eo_none
        | apply ea_cons
        | apply ev_op
        | apply ev_un
        | apply eo_some
        | exact rv_I0
        | exact ru_neg
        | exact et_yes
        | apply et_test
        | apply et_B
        | apply et_not
        | apply rv_mod
        | apply rv_div
        | apply rv_mul
        | apply rv_eqI
        | apply rv_neI
        | exact rv_isTy
        | exact rv_notTy
        | (apply ev_lenS; rotate_left)
        | exact rv_ixT (by assumption) rfl)
  · exact ev_op (ev_call (ea_cons (ev_var rfl) (ea_cons (ev_var rfl) ea_nil)) (spv_rows_of s1 s2 w0 w1)) ev_c rv_I0
theorem spv_has_room {H : Hp} {s w : Int} (s1 : -1000 ≤ s) (s2 : s ≤ 1000) (w0 : 0 ≤ w) (w1 : w ≤ 100) : SpV (sp_has_room K c) [.int s, .int w] H (.bl (decide (w ≤ 4) && decide (s ^ w.toNat ≤ 16))) := fun H1 e Q q E => ⟨s, w, rfl, s1, s2, w0, w1, q⟩
/-! ### are_signs -/
def sp_are_signs (K : PySem.W.Frag) (c : Cl) : Sp := fun vs H Q _ => ∃ (s : Int) (a : Addr) (xs : List V), vs = [.int s, .ref a] ∧ (SqL K H a xs ∨ SqT K H a xs) ∧ (∀ x ∈ xs, ∃ T, TyB K H x T) ∧ xs.length ≤ 40000 ∧ RetV (.bl (xs.all fun x => isFT x 0 (s - 1))) H Q
def t_are_signs (K : PySem.W.Frag) (c : Cl) (E : XK) : TS :=
(tRet (tCB (rAll K) (tCons (tLc (iOr (iList K (tVar 1)) (iTup K (tVar 1))) (gName 2) tYes (tCall (sp_is_from_to K c) [] E0 (tCons (tVar 2) (tCons (tC (.int 0)) (tCons (tOp oSub (tVar 0) (tC (.int 1))) tNil)))) [2]) tNil)))
theorem len_are_signs (vs : List V) (H : Hp) (Q : VK) (E : XK) (h : sp_are_signs K c vs H Q E) : vs.length = 2 := by
  obtain ⟨s, a, xs, rfl, _⟩ := h
  rfl
theorem pure_are_signs (vs : List V) (H : Hp) (Q : VK) (E : XK) (h : sp_are_signs K c vs H Q E) : t_are_signs K c E { nx := fun _ H' => Q .non H', rt := Q } (start' 3 vs) H := by
  obtain ⟨s, a, xs, rfl, hx, ty, hl, q⟩ := h
  have he : ∀ (x : V) H1, Ex H H1 → x ∈ xs → Ev (tCall (sp_is_from_to K c) [] E0 (tCons (tVar 2) (tCons (tC (.int 0)) (tCons (tOp oSub (tVar 0) (tC (.int 1))) tNil)))) ((wipe (start' 3 [.int s, .ref a]) [2]).set 2 (some x)) H1 (.bl (isFT x 0 (s - 1))) := by
    intro x H1 e hm
    obtain ⟨T, t⟩ := ty x hm
    refine ev_call (ea_cons (ev_var rfl) (ea_cons ev_c (ea_cons ?_ ea_nil))) (spv_is_from_to (T := T) (TyB.ex e t))
    (repeat' first
        | exact ev_c
        | exact ev_var rfl
        | exact ea_nil
        | exact eo_none
        | apply ea_cons
        | apply ev_op
        | apply ev_un
        | apply eo_some
        | exact rv_I0
        | exact ru_neg
        | exact et_yes
        | apply et_test
        | apply et_B
        | apply et_not
        | apply rv_mod
        | apply rv_div
        | apply rv_mul
        | apply rv_eqI
        | apply rv_neI
        | exact rv_isTy
        | exact rv_notTy
        | (apply ev_lenS; rotate_left)
        | exact rv_ixT (by assumption) rfl)
  refine s_ret (v := .bl (xs.all fun x => isFT x 0 (s - 1))) ?_ q
  have fin : ∀ {te : TE}, EvL te (start' 3 [.int s, .ref a]) H (xs.map fun x => V.bl (isFT x 0 (s - 1))) → Ev (tCB (rAll K) (tCons te tNil)) (start' 3 [.int s, .ref a]) H (.bl (xs.all fun x => isFT x 0 (s - 1))) := fun h =>
    ev_is (ev_all (bs := xs.map fun x => isFT x 0 (s - 1)) h (by rw [List.map_map]; rfl)) (by rw [List.all_map]; rfl)
  rcases hx with hx | hx
  · exact fin (el_l (el_mapL (fun x => V.bl (isFT x 0 (s - 1))) (ev_var rfl) hx hl (fun _ => rfl) he))
  · exact fin (el_r (el_mapT (fun x => V.bl (isFT x 0 (s - 1))) (ev_var rfl) hx hl (fun _ => rfl) he))
theorem spv_are_signs {H : Hp} {s : Int} {a : Addr} {xs : List V} (hx : SqL K H a xs ∨ SqT K H a xs) (ty : ∀ x ∈ xs, ∃ T, TyB K H x T) (hl : xs.length ≤ 40000) : SpV (sp_are_signs K c) [.int s, .ref a] H (.bl (xs.all fun x => isFT x 0 (s - 1))) := fun H1 e Q q E =>
  ⟨s, a, xs, rfl, hx.imp (ex_l e) (ex_t e), fun x hm => (ty x hm).imp fun T t => TyB.ex e t, hl, q⟩
theorem ints_ty {H : Hp} (ns : List Int) : ∀ x ∈ ns.map V.int, ∃ T, TyB K H x T := fun x hx => by
  obtain ⟨i, _, rfl⟩ := List.mem_map.mp hx
  exact ⟨_, .int i⟩
theorem ints_all {s : Int} {ns : List Int} (h : InS s ns) : ((ns.map V.int).all fun x => isFT x 0 (s - 1)) = true := by
  rw [List.all_map, List.all_eq_true]
  intro x hx
  have := h x hx
  show (decide (0 ≤ x) && decide (x ≤ s - 1)) = true
  rw [Bool.and_eq_true, decide_eq_true_iff, decide_eq_true_iff]
  omega
end
end Br

namespace Br
open PySem PySem.Spec PyProof.Rows L2 Evl
section
variable {K : PySem.W.Frag} {σ : L2.St} {H H' : Hp} {te : TE} {D : Ends} {tz : TS}
theorem q_unpack3 {i j k : Nat} {a : Addr} {x y z : V} (h : Ev te σ H (.ref a)) (hs : SqT K H a [x, y, z]) (q : ∀ H1, Ex H H1 → tz D (((σ.set i (some x)).set j (some y)).set k (some z)) H1) :
    tSeq (tAsg te (gTup K 3 (gCons (gName i) (gCons (gName j) (gCons (gName k) gNil))))) tz D σ H := h H (Ex.refl H) _ fun H1 e1 =>
  ⟨a, [x, y, z], rfl, ex_t e1 hs, rfl, x, [y, z], rfl, y, [z], rfl, z, [], rfl, rfl, q H1 e1⟩
theorem q_unpack2 {i j : Nat} {a : Addr} {x y : V} (h : Ev te σ H (.ref a)) (hs : SqT K H a [x, y]) (q : ∀ H1, Ex H H1 → tz D ((σ.set i (some x)).set j (some y)) H1) :
    tSeq (tAsg te (gTup K 2 (gCons (gName i) (gCons (gName j) gNil)))) tz D σ H := h H (Ex.refl H) _ fun H1 e1 =>
  ⟨a, [x, y], rfl, ex_t e1 hs, rfl, x, [y], rfl, y, [], rfl, rfl, q H1 e1⟩
/-- f(x, a new list) -/
theorem ev_call_vl {sp : Sp} {E : XK} {ta tb : TE} {x z : V} {xs : List V} (h1 : Ev ta σ H x) (h2 : EvL tb σ H xs) (hs : ∀ p H1, H1 p = some (.lst xs) → Ex H H1 → SpV sp [x, .ref p] H1 z) : Ev (tCall sp [] E (tCons ta (tCons tb tNil))) σ H z := fun H1 e Q q =>
  h1 H1 e _ fun H2 e2 => h2 H2 (e.trans e2) _ fun p H3 _ e3 h3 => hs p H3 h3 ((e.trans e2).trans e3) H3 (Ex.refl H3) Q (fun H4 e4 => q H4 ((e2.trans e3).trans e4)) E
theorem el_call_vl {sp : Sp} {E : XK} {ta tb : TE} {x : V} {xs zs : List V} (h1 : Ev ta σ H x) (h2 : EvL tb σ H xs) (hs : ∀ p H1, H1 p = some (.lst xs) → Ex H H1 → SpL sp [x, .ref p] H1 zs) : EvL (tCall sp [] E (tCons ta (tCons tb tNil))) σ H zs := fun H1 e Q q =>
  h1 H1 e _ fun H2 e2 => h2 H2 (e.trans e2) _ fun p H3 _ e3 h3 => hs p H3 h3 ((e.trans e2).trans e3) H3 (Ex.refl H3) Q (fun l H4 hl e4 h4 => q l H4 (fresh_back (e2.trans e3) hl) ((e2.trans e3).trans e4) h4) E
/-- an if without else whose test is false -/
theorem q_unless {t : TT} {tu : TS} (h : EvT t σ H false) (k : ∀ H1, Ex H H1 → tz D σ H1) : tSeq (tIfS t tu tNext) tz D σ H := q_when h (fun z => nomatch z) fun _ => k
theorem s_unless {t : TT} {tu : TS} (h : EvT t σ H false) (k : ∀ H1, Ex H H1 → D.nx σ H1) : tIfS t tu tNext D σ H := s_when h (fun z => nomatch z) fun _ => k
end
section
variable {K : PySem.W.Frag} {c : Cl}
theorem Good.inS {s w : Int} {tab : List Int} (G : Good s w tab) : InS s tab := G.rng
theorem isFT_int {i a b : Int} (h1 : a ≤ i) (h2 : i ≤ b) : isFT (.int i) a b = true := by
  show (decide (a ≤ i) && decide (i ≤ b)) = true
  rw [decide_eq_true h1, decide_eq_true h2]
  rfl
/-! ### is_rule: of any thing; need_rule: of a rule -/
def intOf : V → Int
  | .int i => i
  | _ => 0
theorem isFT_of {x : V} {a b : Int} (h : isFT x a b = true) : ∃ i, x = .int i ∧ a ≤ i ∧ i ≤ b := by
  cases x with
  | int i =>
    have z : (decide (a ≤ i) && decide (i ≤ b)) = true := h
    rw [Bool.and_eq_true, decide_eq_true_iff, decide_eq_true_iff] at z
    exact ⟨i, rfl, z.1, z.2⟩
  | _ => cases h
/-- a thing that is asked whether it is a table -/
inductive TThing (K : PySem.W.Frag) (H : Hp) : V → Option (List V) → Prop
  | other {z : V} {T : String} (h : TyB K H z T) (n : T ≠ "tuple") : TThing K H z none
  | tup {t : Addr} {zs : List V} (h : SqT K H t zs) (ty : ∀ z ∈ zs, ∃ T, TyB K H z T) (hl : zs.length ≤ 40000) : TThing K H (.ref t) (some zs)
def tabB (s w : Int) : Option (List V) → Bool
  | none => false
  | some zs => decide ((zs.length : Int) = s ^ w.toNat) && zs.all fun v => isFT v 0 (s - 1)
def ruleB (x y : V) (o : Option (List V)) : Bool := isFT x 2 4 && (isFT y 1 4 && (decide (intOf x ^ (intOf y).toNat ≤ 16) && tabB (intOf x) (intOf y) o))
/-- a thing that is asked whether it is a rule -/
inductive RThing (K : PySem.W.Frag) (H : Hp) : V → Bool → Prop
  | other {x : V} {T : String} (h : TyB K H x T) (n : T ≠ "tuple") : RThing K H x false
  | size {a : Addr} {xs : List V} (h : SqT K H a xs) (n : xs.length ≠ 3) : RThing K H (.ref a) false
  | tri {a : Addr} {x y z : V} {Tx Ty : String} {o : Option (List V)} (h : SqT K H a [x, y, z]) (hx : TyB K H x Tx) (hy : TyB K H y Ty) (hz : TThing K H z o) : RThing K H (.ref a) (ruleB x y o)
theorem TThing.ex {H H' : Hp} {z : V} {o : Option (List V)} (e : Ex H H') (h : TThing K H z o) : TThing K H' z o := by
  cases h with
  | other h n => exact .other (TyB.ex e h) n
  | tup h ty hl => exact .tup (ex_t e h) (fun x hm => (ty x hm).imp fun T t => TyB.ex e t) hl
theorem RThing.ex {H H' : Hp} {x : V} {b : Bool} (e : Ex H H') (h : RThing K H x b) : RThing K H' x b := by
  cases h with
  | other h n => exact .other (TyB.ex e h) n
  | size h n => exact .size (ex_t e h) n
  | tri h hx hy hz => exact .tri (ex_t e h) (TyB.ex e hx) (TyB.ex e hy) (hz.ex e)
theorem ruleB_ints (s w : Int) (tab : List Int) : ruleB (.int s) (.int w) (some (tab.map V.int)) = (decide (2 ≤ s) && decide (s ≤ 4) && (decide (1 ≤ w) && decide (w ≤ 4) && (decide (s ^ w.toNat ≤ 16) && (decide ((tab.length : Int) = s ^ w.toNat) && tab.all fun i => decide (0 ≤ i) && decide (i ≤ s - 1))))) := by
  show (_ && (_ && (_ && (decide (((tab.map V.int).length : Int) = _) && ((tab.map V.int).all _))))) = _
  rw [List.length_map, List.all_map]
  rfl
theorem Good.ruleB {s w : Int} {tab : List Int} (G : Good s w tab) : ruleB (.int s) (.int w) (some (tab.map V.int)) = true := by
  rw [ruleB_ints]
  have g := G.s2
  have g4 := G.s4
  have g1 := G.w1
  have g3 := G.w4
  have gl := G.len
  have g16 := G.l16
  have ga : (tab.all fun i => decide (0 ≤ i) && decide (i ≤ s - 1)) = true := by
    rw [List.all_eq_true]
    intro i hi
    have := G.rng i hi
    rw [decide_eq_true (show 0 ≤ i by omega), decide_eq_true (show i ≤ s - 1 by omega)]
    rfl
  rw [ga, decide_eq_true g, decide_eq_true g4, decide_eq_true g1, decide_eq_true g3, decide_eq_true gl, decide_eq_true (show s ^ w.toNat ≤ 16 by omega)]
  rfl
theorem good_of {s w : Int} {tab : List Int} (h : Br.ruleB (.int s) (.int w) (some (tab.map V.int)) = true) : Good s w tab := by
  rw [ruleB_ints] at h
  simp only [Bool.and_eq_true, decide_eq_true_iff, List.all_eq_true] at h
  obtain ⟨⟨a, b⟩, ⟨c, d⟩, e, f, g⟩ := h
  exact ⟨a, b, c, d, f, by omega, fun x hx => by have := g x hx; omega⟩
theorem RThing.good {H : Hp} {r t : Addr} {s w : Int} {tab : List Int} (R : RuleAt K H r t s w tab) (G : Good s w tab) : RThing K H (.ref r) true := by
  have z := RThing.tri R.top (.int s) (.int w) (TThing.tup R.tab (ints_ty tab) (by have := G.l16; rw [List.length_map]; omega))
  rw [G.ruleB] at z
  exact z
def sp_is_rule (K : PySem.W.Frag) (c : Cl) : Sp := fun vs H Q _ => ∃ (x : V) (b : Bool), vs = [x] ∧ RThing K H x b ∧ RetV (.bl b) H Q
def t_is_rule (K : PySem.W.Frag) (c : Cl) (E : XK) : TS :=
(tSeq (tIfS (tOr (tTest (tOp rNT (tCB (rTyp K) (tCons (tVar 0) tNil)) (tC (.ty "tuple")))) (tTest (tOp rNe (tCB (Evl.rLenS K) (tCons (tVar 0) tNil)) (tC (.int 3))))) (tRet (tC (.bl false))) tNext)
    (tSeq (tAsg (tVar 0) (gTup K 3 (gCons (gName 1) (gCons (gName 2) (gCons (gName 3) gNil)))))
    (tSeq (tIfS (tOr (tNot (tB (tCall (sp_is_from_to K c) [] E0 (tCons (tVar 1) (tCons (tC (.int 2)) (tCons (tC (.int 4)) tNil)))))) (tNot (tB (tCall (sp_is_from_to K c) [] E0 (tCons (tVar 2) (tCons (tC (.int 1)) (tCons (tC (.int 4)) tNil))))))) (tRet (tC (.bl false))) tNext)
    (tSeq (tIfS (tNot (tB (tCall (sp_has_room K c) [] E0 (tCons (tVar 1) (tCons (tVar 2) tNil))))) (tRet (tC (.bl false))) tNext)
    (tSeq (tIfS (tOr (tTest (tOp rNT (tCB (rTyp K) (tCons (tVar 3) tNil)) (tC (.ty "tuple")))) (tTest (tOp rNe (tCB (Evl.rLenS K) (tCons (tVar 3) tNil)) (tCall (sp_rows_of K c) [] E0 (tCons (tVar 1) (tCons (tVar 2) tNil)))))) (tRet (tC (.bl false))) tNext)
    (tRet (tCall (sp_are_signs K c) [] E0 (tCons (tVar 1) (tCons (tVar 3) tNil)))))))))
theorem len_is_rule (vs : List V) (H : Hp) (Q : VK) (E : XK) (h : sp_is_rule K c vs H Q E) : vs.length = 1 := by
  obtain ⟨x, b, rfl, _⟩ := h
  rfl
theorem pure_is_rule (vs : List V) (H : Hp) (Q : VK) (E : XK) (h : sp_is_rule K c vs H Q E) : t_is_rule K c E { nx := fun _ H' => Q .non H', rt := Q } (start' 4 vs) H := by
  obtain ⟨x, b, rfl, p, q⟩ := h
  cases p with
  | other ty n =>
    refine q_when (b := true) (et_or (a := true) (b := true) (et_test (ev_is (ev_op (ev_type (ev_var rfl) ty) ev_c rv_notTy) (by rw [decide_eq_false n]; rfl))) fun z => nomatch z) (fun _ H1 e1 => s_ret ev_c fun H2 e2 => q H2 (e1.trans e2)) fun z => nomatch z
  | size h n =>
    refine q_when (b := true) (et_or (a := false) (b := true) (et_test (ev_is (ev_op (ev_type (ev_var rfl) (.tup h)) ev_c rv_notTy) (by simp))) fun _ => et_test (ev_is (ev_op (ev_lenS (ev_var rfl) (Or.inr h)) ev_c rv_neI) ?_)) (fun _ H1 e1 => s_ret ev_c fun H2 e2 => q H2 (e1.trans e2)) fun z => nomatch z
    rw [decide_eq_false (by omega)]
    rfl
  | @tri a x y z Tx Ty o hr hx hy hz =>
    refine q_unless (et_is (et_or (a := false) (b := false) ?_ fun _ => ?_) rfl) fun H1 e1 => ?_
    · exact et_test (ev_is (ev_op (ev_type (ev_var rfl) (.tup hr)) ev_c rv_notTy) (by simp))
    · exact et_test (ev_is (ev_op (ev_lenS (ev_var rfl) (Or.inr hr)) ev_c rv_neI) (by simp))
    refine q_unpack3 (ev_var rfl) (ex_t e1 hr) fun H2 e2 => ?_
    have E2 := e1.trans e2
    refine q_when (et_or (a := !isFT x 2 4) (b := !isFT y 1 4) ?_ fun _ => ?_) (fun hb H3 e3 => ?_) fun hb H3 e3 => ?_
    · exact et_not (et_B (ev_call (ea_cons (ev_var rfl) (ea_cons ev_c (ea_cons ev_c ea_nil))) (spv_is_from_to (TyB.ex E2 hx))))
    · exact et_not (et_B (ev_call (ea_cons (ev_var rfl) (ea_cons ev_c (ea_cons ev_c ea_nil))) (spv_is_from_to (TyB.ex E2 hy))))
    · refine s_ret (ev_is ev_c ?_) fun H4 e4 => q H4 ((E2.trans e3).trans e4)
      show V.bl false = V.bl (isFT x 2 4 && (isFT y 1 4 && _))
      cases h1 : isFT x 2 4 with
      | false => rfl
      | true =>
        rw [h1] at hb
        cases h2 : isFT y 1 4 with
        | false => rfl
        | true =>
          rw [h2] at hb
          cases hb
    have h1 : isFT x 2 4 = true := by
      cases h : isFT x 2 4 with
      | true => rfl
      | false => rw [h] at hb; cases hb
    have h2 : isFT y 1 4 = true := by
      cases h : isFT y 1 4 with
      | true => rfl
      | false => rw [h1, h] at hb; cases hb
    obtain ⟨s, rfl, g, g4⟩ := isFT_of h1
    obtain ⟨w, rfl, g1, g3⟩ := isFT_of h2
    have eB : ruleB (.int s) (.int w) o = (decide (s ^ w.toNat ≤ 16) && tabB s w o) := by
      show (isFT (.int s) 2 4 && (isFT (.int w) 1 4 && _)) = _
      rw [h1, h2]
      rfl
    rw [eB] at q
    refine q_when (et_not (et_B (ev_call (ea_cons (ev_var rfl) (ea_cons (ev_var rfl) ea_nil)) (spv_has_room (by omega) (by omega) (by omega) (by omega))))) (fun hb H4 e4 => ?_) fun hb H4 e4 => ?_
    · refine s_ret (ev_is ev_c ?_) fun H5 e5 => q H5 (((E2.trans e3).trans e4).trans e5)
      rw [decide_eq_true g3] at hb
      cases h : decide (s ^ w.toNat ≤ 16) with
      | false => rfl
      | true => rw [h] at hb; cases hb
    have h16 : decide (s ^ w.toNat ≤ 16) = true := by
      cases h : decide (s ^ w.toNat ≤ 16) with
      | true => rfl
      | false => rw [h, decide_eq_true g3] at hb; cases hb
    rw [h16] at q
    have E4 := (E2.trans e3).trans e4
    cases hz with
    | other ty n =>
      refine q_when (b := true) (et_or (a := true) (b := true) (et_test (ev_is (ev_op (ev_type (ev_var rfl) (TyB.ex E4 ty)) ev_c rv_notTy) (by rw [decide_eq_false n]; rfl))) fun z => nomatch z) (fun _ H5 e5 => s_ret ev_c fun H6 e6 => q H6 ((E4.trans e5).trans e6)) fun z => nomatch z
    | @tup t zs ht hty hl =>
      refine q_when (et_or (a := false) (b := !decide ((zs.length : Int) = s ^ w.toNat)) ?_ fun _ => ?_) (fun hb H5 e5 => ?_) fun hb H5 e5 => ?_
      · exact et_test (ev_is (ev_op (ev_type (ev_var rfl) (.tup (ex_t E4 ht))) ev_c rv_notTy) (by simp))
      · exact et_test (ev_op (ev_lenS (ev_var rfl) (Or.inr (ex_t E4 ht))) (ev_call (ea_cons (ev_var rfl) (ea_cons (ev_var rfl) ea_nil)) (spv_rows_of (by omega) (by omega) (by omega) (by omega))) rv_neI)
      · refine s_ret (ev_is ev_c ?_) fun H6 e6 => q H6 ((E4.trans e5).trans e6)
        show V.bl false = V.bl (true && (decide ((zs.length : Int) = s ^ w.toNat) && _))
        cases h : decide ((zs.length : Int) = s ^ w.toNat) with
        | false => rfl
        | true => rw [h] at hb; cases hb
      refine s_ret (ev_is (ev_call (ea_cons (ev_var rfl) (ea_cons (ev_var rfl) ea_nil)) (spv_are_signs (Or.inr (ex_t (E4.trans e5) ht)) (fun v hv => (hty v hv).imp fun T tv => TyB.ex (E4.trans e5) tv) hl)) ?_) fun H6 e6 => q H6 ((E4.trans e5).trans e6)
      show V.bl _ = V.bl (true && (decide ((zs.length : Int) = s ^ w.toNat) && _))
      cases h : decide ((zs.length : Int) = s ^ w.toNat) with
      | true => rfl
      | false => rw [h] at hb; cases hb
theorem spv_is_ruleB {H : Hp} {x : V} {b : Bool} (p : RThing K H x b) : SpV (sp_is_rule K c) [x] H (.bl b) := fun H1 e Q q E => ⟨x, b, rfl, p.ex e, q⟩
theorem spv_is_rule {H : Hp} {r t : Addr} {s w : Int} {tab : List Int} (R : RuleAt K H r t s w tab) (G : Good s w tab) : SpV (sp_is_rule K c) [.ref r] H (.bl true) := spv_is_ruleB (.good R G)
def sp_need_rule (K : PySem.W.Frag) (c : Cl) : Sp := fun vs H Q _ => ∃ (r t : Addr) (s w : Int) (tab : List Int), vs = [.ref r] ∧ RuleAt K H r t s w tab ∧ Good s w tab ∧ RetV .non H Q
def t_need_rule (K : PySem.W.Frag) (c : Cl) (E : XK) : TS :=
(tIfS (tNot (tB (tCall (sp_is_rule K c) [] E0 (tCons (tVar 0) tNil)))) tNever tNext)
theorem len_need_rule (vs : List V) (H : Hp) (Q : VK) (E : XK) (h : sp_need_rule K c vs H Q E) : vs.length = 1 := by
  obtain ⟨r, t, s, w, tab, rfl, _⟩ := h
  rfl
theorem pure_need_rule (vs : List V) (H : Hp) (Q : VK) (E : XK) (h : sp_need_rule K c vs H Q E) : t_need_rule K c E { nx := fun _ H' => Q .non H', rt := Q } (start' 1 vs) H := by
  obtain ⟨r, t, s, w, tab, rfl, R, G, q⟩ := h
  exact s_unless (et_is (et_not (et_B (ev_call (ea_cons (ev_var rfl) ea_nil) (spv_is_rule R G)))) rfl) fun H1 e1 => q H1 e1
theorem spv_need_rule {H : Hp} {r t : Addr} {s w : Int} {tab : List Int} (R : RuleAt K H r t s w tab) (G : Good s w tab) : SpV (sp_need_rule K c) [.ref r] H .non := fun H1 e Q q E => ⟨r, t, s, w, tab, rfl, R.ex e, G, q⟩
/-! ### is_piece -/
/-- a thing that is asked whether it is a piece of s signs -/
inductive PThing (K : PySem.W.Frag) (H : Hp) (s : Int) : V → Bool → Prop
  | other {x : V} {T : String} (h : TyB K H x T) (n : T ≠ "list") : PThing K H s x false
  | lst {a : Addr} {xs : List V} (h : SqL K H a xs) (ty : ∀ x ∈ xs, ∃ T, TyB K H x T) (hl : xs.length ≤ 40000) : PThing K H s (.ref a) (xs.all fun x => isFT x 0 (s - 1))
theorem PThing.ex {H H' : Hp} {s : Int} {x : V} {b : Bool} (e : Ex H H') (h : PThing K H s x b) : PThing K H' s x b := by
  cases h with
  | other h n => exact .other (TyB.ex e h) n
  | lst h ty hl => exact .lst (ex_l e h) (fun x hm => (ty x hm).imp fun T t => TyB.ex e t) hl
theorem PThing.good {H : Hp} {s : Int} {a : Addr} {ns : List Int} (h : IL K H a ns) (hs : InS s ns) (hl : ns.length ≤ 40000) : PThing K H s (.ref a) true := by
  have z := PThing.lst (s := s) h (ints_ty ns) (by rw [List.length_map]; exact hl)
  rw [ints_all hs] at z
  exact z
def sp_is_piece (K : PySem.W.Frag) (c : Cl) : Sp := fun vs H Q _ => ∃ (r t : Addr) (s w : Int) (tab : List Int) (x : V) (b : Bool), vs = [.ref r, x] ∧ RuleAt K H r t s w tab ∧ Good s w tab ∧ PThing K H s x b ∧ RetV (.bl b) H Q
def t_is_piece (K : PySem.W.Frag) (c : Cl) (E : XK) : TS :=
(tSeq (tDrop (tCall (sp_need_rule K c) [] E0 (tCons (tVar 0) tNil)))
    (tRet (tAndV (tOp oIsTy (tCB (rTyp K) (tCons (tVar 1) tNil)) (tC (.ty "list"))) (tCall (sp_are_signs K c) [] E0 (tCons (tOp (rIxT K) (tVar 0) (tC (.int 0))) (tCons (tVar 1) tNil))))))
theorem len_is_piece (vs : List V) (H : Hp) (Q : VK) (E : XK) (h : sp_is_piece K c vs H Q E) : vs.length = 2 := by
  obtain ⟨r, t, s, w, tab, x, b, rfl, _⟩ := h
  rfl
theorem pure_is_piece (vs : List V) (H : Hp) (Q : VK) (E : XK) (h : sp_is_piece K c vs H Q E) : t_is_piece K c E { nx := fun _ H' => Q .non H', rt := Q } (start' 2 vs) H := by
  obtain ⟨r, t, s, w, tab, x, b, rfl, R, G, p, q⟩ := h
  refine q_drop (ev_call (ea_cons (ev_var rfl) ea_nil) (spv_need_rule R G)) fun H1 e1 => ?_
  have hr := (R.ex e1).top
  cases p with
  | other ty n =>
    refine s_ret (v := .bl false) (ev_is (ev_andV (a := false) (b := false) ?_ fun z => nomatch z) rfl) fun H2 e2 => q H2 (e1.trans e2)
    exact ev_is (ev_op (ev_type (ev_var rfl) (TyB.ex e1 ty)) ev_c rv_isTy) (by rw [decide_eq_false n])
  | @lst a xs h ty hl =>
    refine s_ret (ev_is (ev_andV (a := true) (b := xs.all fun x => isFT x 0 (s - 1)) ?_ fun _ => ?_) (by simp)) fun H2 e2 => q H2 (e1.trans e2)
    · exact ev_is (ev_op (ev_type (ev_var rfl) (.lst (ex_l e1 h))) ev_c rv_isTy) (by simp)
    · exact ev_call (ea_cons (ev_op (ev_var rfl) ev_c (rv_ixT hr (atI_nat (j := 0) rfl))) (ea_cons (ev_var rfl) ea_nil)) (spv_are_signs (Or.inl (ex_l e1 h)) (fun x hm => (ty x hm).imp fun T t => TyB.ex e1 t) hl)
theorem spv_is_piece {H : Hp} {r t : Addr} {s w : Int} {tab : List Int} {x : V} {b : Bool} (R : RuleAt K H r t s w tab) (G : Good s w tab) (p : PThing K H s x b) : SpV (sp_is_piece K c) [.ref r, x] H (.bl b) := fun H1 e Q q E =>
  ⟨r, t, s, w, tab, x, b, rfl, R.ex e, G, p.ex e, q⟩
/-! ### _signs_from -/
theorem cut_nat {xs : List V} {i j : Nat} (h : i ≤ j) : cutV xs (some (i : Int)) (some (j : Int)) = (xs.drop i).take (j - i) := by
  unfold cutV
  rw [HT.sIx_nat, HT.sIx_nat]
  by_cases h1 : i ≤ xs.length
  · rw [show min i xs.length = i by omega]
    by_cases h2 : j ≤ xs.length
    · rw [show min j xs.length = j by omega]
    · rw [show min j xs.length = xs.length by omega, List.take_of_length_le (by rw [List.length_drop]; omega), List.take_of_length_le (by rw [List.length_drop]; omega)]
  · rw [List.drop_of_length_le (by omega), List.drop_of_length_le (by omega), List.take_nil, List.take_nil]
theorem Good.at {s w : Int} {tab : List Int} (G : Good s w tab) {cells : List Int} (h : InS s cells) (hl : (cells.length : Int) = w) :
    atI (tab.map V.int) (numOf s cells) = some (.int (tab.getD (numOf s cells).toNat 0)) := by
  obtain ⟨a, b⟩ := numOf_bound G.s2 h
  have e : numOf s cells = ((numOf s cells).toNat : Int) := by omega
  have l : (numOf s cells).toNat < tab.length := by
    have := G.len
    have e2 : cells.length = w.toNat := by omega
    rw [e2] at b
    omega
  rw [e]
  refine atI_nat ?_
  rw [List.getElem?_map, show ((numOf s cells).toNat : Int).toNat = (numOf s cells).toNat by omega, List.getElem?_eq_getElem l]
  simp [List.getD, List.getElem?_eq_getElem l]
theorem sig_len {cells : List Int} {w : Int} {i : Nat} (w1 : 1 ≤ w) (hi : (i : Int) < (cells.length : Int) - w + 1) : (((cells.drop i).take w.toNat).length : Int) = w := by
  rw [List.length_take, List.length_drop]
  omega
def sp_signs_from (K : PySem.W.Frag) (c : Cl) : Sp := fun vs H Q _ => ∃ (r t a : Addr) (s w : Int) (tab cells : List Int), vs = [.ref r, .ref a] ∧ RuleAt K H r t s w tab ∧ Good s w tab ∧ IL K H a cells ∧ InS s cells ∧ w - 1 ≤ cells.length ∧ cells.length ≤ 30000 ∧
  RetL ((signsFrom s w tab cells).map V.int) H Q
def t_signs_from (K : PySem.W.Frag) (c : Cl) (E : XK) : TS :=
(tSeq (tAsg (tVar 0) (gTup K 3 (gCons (gName 2) (gCons (gName 3) (gCons (gName 4) gNil)))))
    (tRet (tLc (iRng1 (tCons (tOp oAdd (tOp oSub (tCB (Evl.rLenS K) (tCons (tVar 1) tNil)) (tVar 3)) (tC (.int 1))) tNil)) (gName 5) tYes (tOp (rIxT K) (tVar 4) (tCall (sp_number_of K c) [] E0 (tCons (tVar 2) (tCons (tSl (rSlL K) (tVar 1) (tPart (tVar 5)) (tPart (tOp oAdd (tVar 5) (tVar 3)))) tNil)))) [5])))
theorem len_signs_from (vs : List V) (H : Hp) (Q : VK) (E : XK) (h : sp_signs_from K c vs H Q E) : vs.length = 2 := by
  obtain ⟨r, t, a, s, w, tab, cells, rfl, _⟩ := h
  rfl
theorem pure_signs_from (vs : List V) (H : Hp) (Q : VK) (E : XK) (h : sp_signs_from K c vs H Q E) : t_signs_from K c E { nx := fun _ H' => Q .non H', rt := Q } (start' 6 vs) H := by
  obtain ⟨r, t, a, s, w, tab, cells, rfl, R, G, hc, hs, l1, l2, q⟩ := h
  have g2 := G.s2
  have g4 := G.s4
  have g1 := G.w1
  have g3 := G.w4
  refine q_unpack3 (ev_var rfl) R.top fun H1 e1 => ?_
  have hc1 := ex_l e1 hc
  refine s_retL (xs := (signsFrom s w tab cells).map V.int) ?_ fun p H2 hp e2 h2 => q p H2 (fresh_back e1 hp) (e1.trans e2) h2
  have e0 : (signsFrom s w tab cells).map V.int = (List.range ((cells.length : Int) - w + 1).toNat).map fun i => V.int (tab.getD (numOf s ((cells.drop i).take w.toNat)).toNat 0) := by
    unfold signsFrom
    rw [List.map_map, show cells.length + 1 - w.toNat = ((cells.length : Int) - w + 1).toNat by omega]
    rfl
  rw [e0]
  refine el_mapR _ (n := (cells.length : Int) - w + 1) ?_ (by omega) (fun _ => rfl) fun i H2 e2 hi => ?_
  · refine ea_cons ?_ ea_nil
    refine ev_is (ev_op (ev_op (ev_lenS (ev_var rfl) (Or.inl hc1)) (ev_var rfl) rv_I0) ev_c rv_I0) (by rw [List.length_map])
  · have hk : InS s ((cells.drop i).take w.toNat) := (hs.drop i).take _
    have hcut : EvL (tSl (rSlL K) (tVar 1) (tPart (tVar 5)) (tPart (tOp oAdd (tVar 5) (tVar 3)))) ((wipe ((((start' 6 [.ref r, .ref a]).set 2 (some (.int s))).set 3 (some (.int w))).set 4 (some (.ref t))) [5]).set 5 (some (.int (i : Int)))) H2 (((cells.drop i).take w.toNat).map V.int) := by
      have z := el_sl (K := K) (te := tVar 1) (tl := tPart (tVar 5)) (th := tPart (tOp oAdd (tVar 5) (tVar 3))) (σ := (wipe ((((start' 6 [.ref r, .ref a]).set 2 (some (.int s))).set 3 (some (.int w))).set 4 (some (.ref t))) [5]).set 5 (some (.int (i : Int)))) (ev_var rfl) (eo_some (ev_var rfl)) (eo_some (ev_op (ev_var rfl) (ev_var rfl) rv_I0)) (ex_l e2 hc1)
      rw [show (i : Int) + w = ((i + w.toNat : Nat) : Int) by omega, cut_nat (by omega), show i + w.toNat - i = w.toNat by omega, ← List.map_drop, ← List.map_take] at z
      exact z
    exact ev_op (ev_var rfl) (ev_call_vl (ev_var rfl) hcut fun p H3 h3 e3 => spv_number_of (by omega) (by omega) (Or.inl (sq_of h3))) (rv_ixT (ex_t e2 (ex_t e1 R.tab)) (G.at hk (sig_len g1 hi)))
theorem spl_signs_from {H : Hp} {r t a : Addr} {s w : Int} {tab cells : List Int} (R : RuleAt K H r t s w tab) (G : Good s w tab) (hc : IL K H a cells) (hs : InS s cells) (l1 : w - 1 ≤ cells.length) (l2 : cells.length ≤ 30000) :
    SpL (sp_signs_from K c) [.ref r, .ref a] H ((signsFrom s w tab cells).map V.int) := fun H1 e Q q E => ⟨r, t, a, s, w, tab, cells, rfl, R.ex e, G, ex_l e hc, hs, l1, l2, q⟩
end
end Br

namespace Br
open PySem PySem.Spec PyProof.Rows L2 Evl
section
variable {K : PySem.W.Frag} {c : Cl}
/-- an error of the class at C is let out -/
def RaiseX (C : Addr) (H : Hp) (E : XK) : Prop := ∀ H', Ex H H' → E (.ref C) none H'
theorem RaiseX.ex {C : Addr} {H H' : Hp} {E : XK} (e : Ex H H') (q : RaiseX C H E) : RaiseX C H' E := fun H2 e2 => q H2 (e.trans e2)
section
variable {σ : L2.St} {H : Hp} {tr : TA} {D : Ends} {tz : TS} {te : TE}
/-- f(..), which raises; which tells nothing -/
theorem q_dropX {sp : Sp} {E : XK} {vs : List V} (h : EvA tr σ H vs) (hs : ∀ H1, Ex H H1 → ∀ Q : VK, sp vs H1 Q E) : tSeq (tDrop (tCall sp [] E tr)) tz D σ H := h H (Ex.refl H) _ fun H1 e1 => by
  have z := hs H1 e1 (fun _ H2 => tz D σ H2)
  rw [← List.append_nil vs] at z
  exact z
end
/-! ### need_piece, need_ring -/
def sp_need_piece (K : PySem.W.Frag) (c : Cl) : Sp := fun vs H Q E => ∃ (r t : Addr) (s w : Int) (tab : List Int) (x : V) (b : Bool), vs = [.ref r, x] ∧ RuleAt K H r t s w tab ∧ Good s w tab ∧ PThing K H s x b ∧
  (b = false → RaiseX c.BadRow H E) ∧ (b = true → RetV .non H Q)
def t_need_piece (K : PySem.W.Frag) (c : Cl) (E : XK) : TS :=
(tIfS (tNot (tB (tCall (sp_is_piece K c) [] E0 (tCons (tVar 0) (tCons (tVar 1) tNil))))) (tRaise c.BadRow E) tNext)
theorem len_need_piece (vs : List V) (H : Hp) (Q : VK) (E : XK) (h : sp_need_piece K c vs H Q E) : vs.length = 2 := by
  obtain ⟨r, t, s, w, tab, x, b, rfl, _⟩ := h
  rfl
theorem pure_need_piece (vs : List V) (H : Hp) (Q : VK) (E : XK) (h : sp_need_piece K c vs H Q E) : t_need_piece K c E { nx := fun _ H' => Q .non H', rt := Q } (start' 2 vs) H := by
  obtain ⟨r, t, s, w, tab, x, b, rfl, R, G, p, qf, qt⟩ := h
  refine s_when (b := !b) (et_not (et_B (ev_call (ea_cons (ev_var rfl) (ea_cons (ev_var rfl) ea_nil)) (spv_is_piece R G p)))) (fun hb H1 e1 => qf (by simpa using hb) H1 e1) fun hb H1 e1 => qt (by simpa using hb) H1 e1
theorem spv_need_piece {H : Hp} {r t : Addr} {s w : Int} {tab : List Int} {x : V} (R : RuleAt K H r t s w tab) (G : Good s w tab) (p : PThing K H s x true) : SpV (sp_need_piece K c) [.ref r, x] H .non := fun H1 e Q q E =>
  ⟨r, t, s, w, tab, x, true, rfl, R.ex e, G, p.ex e, (fun z => nomatch z), fun _ => q⟩
theorem spx_need_piece {H : Hp} {r t : Addr} {s w : Int} {tab : List Int} {x : V} {E : XK} (R : RuleAt K H r t s w tab) (G : Good s w tab) (p : PThing K H s x false) (q : RaiseX c.BadRow H E) : ∀ H1, Ex H H1 → ∀ Q : VK, sp_need_piece K c [.ref r, x] H1 Q E := fun H1 e Q =>
  ⟨r, t, s, w, tab, x, false, rfl, R.ex e, G, p.ex e, (fun _ => q.ex e), fun z => nomatch z⟩
/-- a thing that is asked whether it is a ring of s signs -/
inductive RgThing (K : PySem.W.Frag) (H : Hp) (s : Int) : V → Bool → Prop
  | no {x : V} (h : PThing K H s x false) : RgThing K H s x false
  | yes {a : Addr} {ns : List Int} (h : IL K H a ns) (hs : InS s ns) (hl : ns.length ≤ 40000) : RgThing K H s (.ref a) (!ns.isEmpty)
theorem RgThing.ex {H H' : Hp} {s : Int} {x : V} {b : Bool} (e : Ex H H') (h : RgThing K H s x b) : RgThing K H' s x b := by
  cases h with
  | no h => exact .no (h.ex e)
  | yes h hs hl => exact .yes (ex_l e h) hs hl
def sp_need_ring (K : PySem.W.Frag) (c : Cl) : Sp := fun vs H Q E => ∃ (r t : Addr) (s w : Int) (tab : List Int) (x : V) (b : Bool), vs = [.ref r, x] ∧ RuleAt K H r t s w tab ∧ Good s w tab ∧ RgThing K H s x b ∧
  (b = false → RaiseX c.BadRow H E) ∧ (b = true → RetV .non H Q)
def t_need_ring (K : PySem.W.Frag) (c : Cl) (E : XK) : TS :=
(tSeq (tDrop (tCall (sp_need_piece K c) [] E (tCons (tVar 0) (tCons (tVar 1) tNil))))
    (tIfS (tTest (tOp rEq (tCB (Evl.rLenS K) (tCons (tVar 1) tNil)) (tC (.int 0)))) (tRaise c.BadRow E) tNext))
theorem len_need_ring (vs : List V) (H : Hp) (Q : VK) (E : XK) (h : sp_need_ring K c vs H Q E) : vs.length = 2 := by
  obtain ⟨r, t, s, w, tab, x, b, rfl, _⟩ := h
  rfl
theorem pure_need_ring (vs : List V) (H : Hp) (Q : VK) (E : XK) (h : sp_need_ring K c vs H Q E) : t_need_ring K c E { nx := fun _ H' => Q .non H', rt := Q } (start' 2 vs) H := by
  obtain ⟨r, t, s, w, tab, x, b, rfl, R, G, p, qf, qt⟩ := h
  cases p with
  | no p => exact q_dropX (ea_cons (ev_var rfl) (ea_cons (ev_var rfl) ea_nil)) (spx_need_piece R G p (qf rfl))
  | @yes a ns hc hs hl =>
    refine q_drop (ev_call (ea_cons (ev_var rfl) (ea_cons (ev_var rfl) ea_nil)) (spv_need_piece R G (PThing.good hc hs hl))) fun H1 e1 => ?_
    refine s_when (b := decide (((ns.map V.int).length : Int) = 0)) (et_test (ev_op (ev_lenS (ev_var rfl) (Or.inl (ex_l e1 hc))) ev_c rv_eqI)) (fun hb H2 e2 => qf ?_ H2 (e1.trans e2)) fun hb H2 e2 => qt ?_ H2 (e1.trans e2)
    · have z := of_decide_eq_true hb
      rw [List.length_map] at z
      rw [List.length_eq_zero_iff.mp (show ns.length = 0 by omega)]
      rfl
    · have z := of_decide_eq_false hb
      cases ns with
      | nil => exact absurd rfl z
      | cons _ _ => rfl
theorem spv_need_ring {H : Hp} {r t : Addr} {s w : Int} {tab : List Int} {x : V} (R : RuleAt K H r t s w tab) (G : Good s w tab) (p : RgThing K H s x true) : SpV (sp_need_ring K c) [.ref r, x] H .non := fun H1 e Q q E =>
  ⟨r, t, s, w, tab, x, true, rfl, R.ex e, G, p.ex e, (fun z => nomatch z), fun _ => q⟩
theorem spx_need_ring {H : Hp} {r t : Addr} {s w : Int} {tab : List Int} {x : V} {E : XK} (R : RuleAt K H r t s w tab) (G : Good s w tab) (p : RgThing K H s x false) (q : RaiseX c.BadRow H E) : ∀ H1, Ex H H1 → ∀ Q : VK, sp_need_ring K c [.ref r, x] H1 Q E := fun H1 e Q =>
  ⟨r, t, s, w, tab, x, false, rfl, R.ex e, G, p.ex e, (fun _ => q.ex e), fun z => nomatch z⟩
/-! ### piece_on -/
def sp_piece_on (K : PySem.W.Frag) (c : Cl) : Sp := fun vs H Q E => ∃ (r t : Addr) (s w : Int) (tab : List Int) (x : V), vs = [.ref r, x] ∧ RuleAt K H r t s w tab ∧ Good s w tab ∧
  ((PThing K H s x false ∧ RaiseX c.BadRow H E) ∨ ∃ (a : Addr) (cells : List Int), x = .ref a ∧ IL K H a cells ∧ InS s cells ∧ cells.length ≤ 20000 ∧
    ((cells.length : Int) < w - 1 → RaiseX c.BadRow H E) ∧ (w - 1 ≤ cells.length → RetL ((signsFrom s w tab cells).map V.int) H Q))
def t_piece_on (K : PySem.W.Frag) (c : Cl) (E : XK) : TS :=
(tSeq (tDrop (tCall (sp_need_piece K c) [] E (tCons (tVar 0) (tCons (tVar 1) tNil))))
    (tSeq (tIfS (tTest (tOp oLt (tCB (Evl.rLenS K) (tCons (tVar 1) tNil)) (tOp oSub (tOp (rIxT K) (tVar 0) (tC (.int 1))) (tC (.int 1))))) (tRaise c.BadRow E) tNext)
    (tRet (tCall (sp_signs_from K c) [] E0 (tCons (tVar 0) (tCons (tVar 1) tNil))))))
theorem len_piece_on (vs : List V) (H : Hp) (Q : VK) (E : XK) (h : sp_piece_on K c vs H Q E) : vs.length = 2 := by
  obtain ⟨r, t, s, w, tab, x, rfl, _⟩ := h
  rfl
theorem pure_piece_on (vs : List V) (H : Hp) (Q : VK) (E : XK) (h : sp_piece_on K c vs H Q E) : t_piece_on K c E { nx := fun _ H' => Q .non H', rt := Q } (start' 2 vs) H := by
  obtain ⟨r, t, s, w, tab, x, rfl, R, G, h⟩ := h
  rcases h with ⟨p, q⟩ | ⟨a, cells, rfl, hc, hs, hl, qE, qR⟩
  · exact q_dropX (ea_cons (ev_var rfl) (ea_cons (ev_var rfl) ea_nil)) (spx_need_piece R G p q)
  · refine q_drop (ev_call (ea_cons (ev_var rfl) (ea_cons (ev_var rfl) ea_nil)) (spv_need_piece R G (PThing.good hc hs (by omega)))) fun H0 e0 => ?_
    refine q_when (b := decide ((cells.length : Int) < w - 1)) (et_test (ev_is (ev_op (ev_lenS (ev_var rfl) (Or.inl (ex_l e0 hc))) (ev_op (ev_op (ev_var rfl) ev_c (rv_ixT (ex_t e0 R.top) (atI_nat (j := 1) rfl))) ev_c rv_I0) rv_I0) ?_)) (fun hb H1 e1 => qE (of_decide_eq_true hb) H1 (e0.trans e1)) fun hb H1 e1 => ?_
    · rw [List.length_map]
    · have l1 := of_decide_eq_false hb
      have e1 := e0.trans e1
      exact s_retL (el_call (ea_cons (ev_var rfl) (ea_cons (ev_var rfl) ea_nil)) (spl_signs_from (R.ex e1) G (ex_l e1 hc) hs (by omega) (by omega))) fun p H2 hp e2 h2 => qR (by omega) p H2 (fresh_back e1 hp) (e1.trans e2) h2
/-! ### ring_on -/
def ringRow (ring : List Int) (n : Nat) : List Int := (List.range n).map fun i => ring.getD (i % ring.length) 0
def ringOn (s w : Int) (tab ring : List Int) : List Int := signsFrom s w tab (ringRow ring (ring.length + (w.toNat - 1)))
def sp_ring_on (K : PySem.W.Frag) (c : Cl) : Sp := fun vs H Q E => ∃ (r t : Addr) (s w : Int) (tab : List Int) (x : V), vs = [.ref r, x] ∧ RuleAt K H r t s w tab ∧ Good s w tab ∧
  ((PThing K H s x false ∧ RaiseX c.BadRow H E) ∨ ∃ (a : Addr) (cells : List Int), x = .ref a ∧ IL K H a cells ∧ InS s cells ∧ cells.length ≤ 20000 ∧
    (cells = [] → RaiseX c.BadRow H E) ∧ (cells ≠ [] → RetL ((ringOn s w tab cells).map V.int) H Q))
def t_ring_on (K : PySem.W.Frag) (c : Cl) (E : XK) : TS :=
(tSeq (tDrop (tCall (sp_need_ring K c) [] E (tCons (tVar 0) (tCons (tVar 1) tNil))))
    (tSeq (tAsg (tCB (Evl.rLenS K) (tCons (tVar 1) tNil)) (gName 2))
    (tSeq (tAsg (tLc (iRng1 (tCons (tOp oSub (tOp oAdd (tVar 2) (tOp (rIxT K) (tVar 0) (tC (.int 1)))) (tC (.int 1))) tNil)) (gName 4) tYes (tOp (rIxL K) (tVar 1) (tOp oMod (tVar 4) (tVar 2))) [4]) (gName 3))
    (tRet (tCall (sp_signs_from K c) [] E0 (tCons (tVar 0) (tCons (tVar 3) tNil)))))))
theorem len_ring_on (vs : List V) (H : Hp) (Q : VK) (E : XK) (h : sp_ring_on K c vs H Q E) : vs.length = 2 := by
  obtain ⟨r, t, s, w, tab, x, rfl, _⟩ := h
  rfl
theorem getD_mem {ring : List Int} {i : Nat} (h : i < ring.length) : ring.getD i 0 ∈ ring := by
  rw [List.getD, List.getElem?_eq_getElem h]
  exact List.getElem_mem h
theorem InS.ringRow {s : Int} {ring : List Int} (h : InS s ring) (hn : ring ≠ []) (n : Nat) : InS s (ringRow ring n) := fun x hx => by
  obtain ⟨i, _, rfl⟩ := List.mem_map.mp hx
  exact h _ (getD_mem (Nat.mod_lt _ (List.length_pos_iff.mpr hn)))
theorem pure_ring_on (vs : List V) (H : Hp) (Q : VK) (E : XK) (h : sp_ring_on K c vs H Q E) : t_ring_on K c E { nx := fun _ H' => Q .non H', rt := Q } (start' 5 vs) H := by
  obtain ⟨r, t, s, w, tab, x, rfl, R, G, h⟩ := h
  have g1 := G.w1
  have g4 := G.w4
  rcases h with ⟨p, q⟩ | ⟨a, cells, rfl, hc, hs, hl, qE, qR⟩
  · exact q_dropX (ea_cons (ev_var rfl) (ea_cons (ev_var rfl) ea_nil)) (spx_need_ring R G (.no p) q)
  · by_cases hn : cells = []
    · subst hn
      exact q_dropX (ea_cons (ev_var rfl) (ea_cons (ev_var rfl) ea_nil)) (spx_need_ring R G (.yes hc hs (by omega)) (qE rfl))
    · have hp : 0 < cells.length := List.length_pos_iff.mpr hn
      have hne : (!cells.isEmpty) = true := by
        cases cells with
        | nil => exact absurd rfl hn
        | cons _ _ => rfl
      have RG : RgThing K H s (.ref a) true := hne ▸ RgThing.yes hc hs (by omega)
      refine q_drop (ev_call (ea_cons (ev_var rfl) (ea_cons (ev_var rfl) ea_nil)) (spv_need_ring R G RG)) fun H1 e1 => ?_
      refine q_asg (v := .int (cells.length : Int)) (ev_is (ev_lenS (ev_var rfl) (Or.inl (ex_l e1 hc))) (by rw [List.length_map])) fun H2 e2 => ?_
      have E2 := e1.trans e2
      refine q_asgL (xs := (ringRow cells (cells.length + (w.toNat - 1))).map V.int) ?_ fun p H3 hp3 e3 h3 => ?_
      · have e0 : (ringRow cells (cells.length + (w.toNat - 1))).map V.int = (List.range ((cells.length : Int) + w - 1).toNat).map fun i => V.int (cells.getD (i % cells.length) 0) := by
          unfold ringRow
          rw [List.map_map, show cells.length + (w.toNat - 1) = ((cells.length : Int) + w - 1).toNat by omega]
          rfl
        rw [e0]
        refine el_mapR _ (n := (cells.length : Int) + w - 1) ?_ (by omega) (fun _ => rfl) fun i H3 e3 hi => ?_
        · exact ea_cons (ev_op (ev_op (ev_var rfl) (ev_op (ev_var rfl) ev_c (rv_ixT (ex_t E2 R.top) (atI_nat (j := 1) rfl))) rv_I0) ev_c rv_I0) ea_nil
        · refine ev_op (ev_var rfl) (ev_op (ev_var rfl) (ev_var rfl) (rv_mod (by omega))) (rv_ixL (ex_l (E2.trans e3) hc) ?_)
          have hm : i % cells.length < cells.length := Nat.mod_lt _ hp
          rw [show (i : Int) % (cells.length : Int) = ((i % cells.length : Nat) : Int) by omega]
          refine atI_nat ?_
          rw [List.getElem?_map, List.getElem?_eq_getElem hm]
          simp [List.getD, List.getElem?_eq_getElem hm]
      · refine s_retL (el_call (ea_cons (ev_var rfl) (ea_cons (ev_var rfl) ea_nil)) (spl_signs_from (R.ex (E2.trans e3)) G (sq_of h3) (hs.ringRow hn _) ?_ ?_)) fun l H4 hl4 e4 h4 => qR hn l H4 (fresh_back (E2.trans e3) hl4) ((E2.trans e3).trans e4) h4
        · unfold ringRow
          rw [List.length_map, List.length_range]
          omega
        · unfold ringRow
          rw [List.length_map, List.length_range]
          omega
end
end Br

namespace Br
open PySem PySem.Spec PyProof.Rows L2 Evl
/-! ### values by what is true of them -/
abbrev VP := V → Hp → Prop
def EvP (te : TE) (σ : L2.St) (H : Hp) (P : VP) : Prop := ∀ H1, Ex H H1 → ∀ Q : VK, (∀ v H2, Ex H1 H2 → P v H2 → Q v H2) → te σ H1 Q
def Stab (P : VP) : Prop := ∀ v H H', Ex H H' → P v H → P v H'
def All2P : List VP → List V → Hp → Prop
  | [], [], _ => True
  | P :: Ps, v :: vs, H => P v H ∧ All2P Ps vs H
  | _, _, _ => False
def EaP (ta : TA) (σ : L2.St) (H : Hp) (Ps : List VP) : Prop := ∀ H1, Ex H H1 → ∀ Q : List V → Hp → Prop, (∀ vs H2, Ex H1 H2 → All2P Ps vs H2 → Q vs H2) → ta σ H1 Q
def Stabs (Ps : List VP) : Prop := ∀ P ∈ Ps, Stab P
theorem All2P.ex {H H' : Hp} (e : Ex H H') : ∀ {Ps : List VP} {vs : List V}, Stabs Ps → All2P Ps vs H → All2P Ps vs H'
  | [], [], _, h => h
  | P :: Ps, v :: vs, st, h => ⟨st P List.mem_cons_self _ _ _ e h.1, All2P.ex e (fun Q hQ => st Q (List.mem_cons_of_mem _ hQ)) h.2⟩
  | [], _ :: _, _, h => h.elim
  | _ :: _, [], _, h => h.elim
theorem All2P.len {H : Hp} : ∀ {Ps : List VP} {vs : List V}, All2P Ps vs H → Ps.length = vs.length
  | [], [], _ => rfl
  | _ :: _, _ :: _, h => congrArg (· + 1) (All2P.len h.2)
  | [], _ :: _, h => h.elim
  | _ :: _, [], h => h.elim
theorem All2P.get {H : Hp} : ∀ {Ps : List VP} {vs : List V} {i : Nat} {P : VP}, All2P Ps vs H → Ps[i]? = some P → ∃ v, vs[i]? = some v ∧ P v H
  | [], [], _, _, _, e => by simp at e
  | P :: Ps, v :: vs, 0, _, h, e => by
    simp at e
    subst e
    exact ⟨v, rfl, h.1⟩
  | P :: Ps, v :: vs, i + 1, _, h, e => by
    obtain ⟨u, a, b⟩ := All2P.get (i := i) h.2 (by simpa using e)
    exact ⟨u, by simpa using a, b⟩
  | [], _ :: _, _, _, h, _ => h.elim
  | _ :: _, [], _, _, h, _ => h.elim
def LstP (K : PySem.W.Frag) (Ps : List VP) : VP := fun v H => ∃ p vs, v = .ref p ∧ SqL K H p vs ∧ All2P Ps vs H
/-- a tuple, a list of given values -/
def TupV (K : PySem.W.Frag) (xs : List V) : VP := fun v H => ∃ p, v = .ref p ∧ SqT K H p xs
def LstV (K : PySem.W.Frag) (xs : List V) : VP := fun v H => ∃ p, v = .ref p ∧ SqL K H p xs
section
variable {K : PySem.W.Frag} {σ : L2.St} {H H' : Hp} {te ti ta tb : TE} {x y z v : V} {D : Ends} {tz : TS} {P : VP} {Ps : List VP}
theorem stab_tup {xs : List V} : Stab (TupV K xs) := fun v H H' e ⟨p, hp, h⟩ => ⟨p, hp, ex_t e h⟩
theorem stab_lst {xs : List V} : Stab (LstV K xs) := fun v H H' e ⟨p, hp, h⟩ => ⟨p, hp, ex_l e h⟩
theorem stab_eq {u : V} : Stab (fun v _ => v = u) := fun _ _ _ _ h => h
theorem EvP.of (h : Ev te σ H v) : EvP te σ H (fun u _ => u = v) := fun H1 e Q q => h H1 e Q fun H2 e2 => q v H2 e2 rfl
theorem EvP.tup {xs : List V} (h : EvU te σ H xs) : EvP te σ H (TupV K xs) := fun H1 e Q q => h H1 e Q fun p H2 _ e2 h2 => q _ H2 e2 ⟨p, rfl, st_of h2⟩
theorem EvP.lst {xs : List V} (h : EvL te σ H xs) : EvP te σ H (LstV K xs) := fun H1 e Q q => h H1 e Q fun p H2 _ e2 h2 => q _ H2 e2 ⟨p, rfl, sq_of h2⟩
theorem EvP.imp {P' : VP} (h : EvP te σ H P) (i : ∀ v H', Ex H H' → P v H' → P' v H') : EvP te σ H P' := fun H1 e Q q => h H1 e Q fun v H2 e2 p => q v H2 e2 (i v H2 (e.trans e2) p)
theorem EvP.mono (e : Ex H H') (h : EvP te σ H P) : EvP te σ H' P := fun H1 e1 Q q => h H1 (e.trans e1) Q q
theorem eap_nil : EaP tNil σ H [] := fun H1 _ Q q => q [] H1 (Ex.refl H1) trivial
theorem eap_cons {tr : TA} (h : EvP te σ H P) (st : Stab P) (hr : EaP tr σ H Ps) : EaP (tCons te tr) σ H (P :: Ps) := fun H1 e Q q =>
  h H1 e _ fun v H2 e2 p => hr H2 (e.trans e2) _ fun vs H3 e3 ps => q (v :: vs) H3 (e2.trans e3) ⟨st _ _ _ e3 p, ps⟩
theorem evp_lst {ta : TA} (h : EaP ta σ H Ps) (st : Stabs Ps) (hl : Ps.length ≤ 1000) : EvP (tLst ta) σ H (LstP K Ps) := fun H1 e Q q =>
  h H1 e _ fun vs H2 e2 ps => ⟨sz_of (by rw [← ps.len]; omega), fun p hp => q _ _ (e2.trans (Ex.new hp)) ⟨p, vs, rfl, sq_of upd_same, ps.ex (Ex.new hp) st⟩⟩
theorem evp_pick {i : Int} (h : EvP te σ H (LstP K Ps)) (st : Stabs Ps) (hi : Ev ti σ H (.int i)) (h0 : 0 ≤ i) (hP : Ps[i.toNat]? = some P) : EvP (tOp (rIxL K) te ti) σ H P := fun H1 e Q q =>
  h H1 e _ fun v H2 e2 ⟨p, vs, hv, hs, ps⟩ => hi H2 (e.trans e2) _ fun H3 e3 => by
    obtain ⟨u, hu, pu⟩ := All2P.get (ps.ex e3 st) hP
    refine ⟨p, vs, i, u, hv, rfl, ex_l e3 hs, ?_, q u H3 (e2.trans e3) pu⟩
    have := atI_nat hu
    rw [show ((i.toNat : Nat) : Int) = i by omega] at this
    exact this
theorem q_unpackP2 {i j : Nat} {x y : V} (h : EvP te σ H (TupV K [x, y])) (q : ∀ H1, Ex H H1 → tz D ((σ.set i (some x)).set j (some y)) H1) :
    tSeq (tAsg te (gTup K 2 (gCons (gName i) (gCons (gName j) gNil)))) tz D σ H := h H (Ex.refl H) _ fun v H1 e1 ⟨a, hv, hs⟩ =>
  ⟨a, [x, y], hv, hs, rfl, x, [y], rfl, y, [], rfl, rfl, q H1 e1⟩
theorem q_unpackP3 {i j k : Nat} {x y z : V} (h : EvP te σ H (TupV K [x, y, z])) (q : ∀ H1, Ex H H1 → tz D (((σ.set i (some x)).set j (some y)).set k (some z)) H1) :
    tSeq (tAsg te (gTup K 3 (gCons (gName i) (gCons (gName j) (gCons (gName k) gNil))))) tz D σ H := h H (Ex.refl H) _ fun v H1 e1 ⟨a, hv, hs⟩ =>
  ⟨a, [x, y, z], hv, hs, rfl, x, [y, z], rfl, y, [z], rfl, z, [], rfl, rfl, q H1 e1⟩
/-- x = e, told by what is true of it -/
theorem q_asgP {i : Nat} (h : EvP te σ H P) (k : ∀ v H1, Ex H H1 → P v H1 → tz D (σ.set i (some v)) H1) : tSeq (tAsg te (gName i)) tz D σ H := h H (Ex.refl H) _ fun v H1 e p => k v H1 e p
theorem s_retP (h : EvP te σ H P) (k : ∀ v H1, Ex H H1 → P v H1 → D.rt v H1) : tRet te D σ H := h H (Ex.refl H) _ k
theorem el_cat {xs ys : List V} (ha : EvL ta σ H xs) (hb : EvL tb σ H ys) (hl : xs.length + ys.length ≤ 100000) : EvL (tOp oCat ta tb) σ H (xs ++ ys) := fun H1 e Q q =>
  ha H1 e _ fun p H2 hp e2 h2 => hb H2 (e.trans e2) _ fun r H3 hr e3 h3 => ⟨p, r, xs, ys, rfl, rfl, e3 p _ h2, h3, sz_of hl, fun l hl' => q l _ (fresh_back (e2.trans e3) hl') ((e2.trans e3).trans (Ex.new hl')) upd_same⟩
theorem cut_take {xs : List V} {j : Nat} : cutV xs none (some (j : Int)) = xs.take j := by
  unfold cutV
  rw [HT.sIx_none, HT.sIx_nat, List.drop_zero, Nat.sub_zero]
  by_cases h : j ≤ xs.length
  · rw [show min j xs.length = j by omega]
  · rw [show min j xs.length = xs.length by omega, List.take_length, List.take_of_length_le (by omega)]
theorem cut_drop {xs : List V} {i : Nat} : cutV xs (some (i : Int)) none = xs.drop i := by
  unfold cutV
  rw [HT.sIx_none, HT.sIx_nat]
  by_cases h : i ≤ xs.length
  · rw [show min i xs.length = i by omega, List.take_of_length_le (by rw [List.length_drop]; omega)]
  · rw [List.drop_of_length_le (by omega), List.drop_of_length_le (by omega), List.take_nil]
/-! ### lists of ints compared -/
def dI (ns : List Int) : PyData := .list (ns.map PyData.int)
theorem dpAll_ints (ns : List Int) : DpAll K H (ns.map V.int) (ns.map PyData.int) := by
  induction ns with
  | nil => exact .nil
  | cons n r ih => exact .cons (.int n) ih
theorem dp_il {a : Addr} {ns : List Int} (h : IL K H a ns) : Dp K H (.ref a) (dI ns) := .lst h (dpAll_ints ns)
theorem canLay_ints : ∀ ns : List Int, PyData.canLayAll0 (ns.map PyData.int) = true
  | [] => rfl
  | n :: r => by
    show (PyData.canLay0 (.int n) && PyData.canLayAll0 (r.map PyData.int)) = true
    rw [canLay_ints r]
    rfl
theorem depth_ints : ∀ ns : List Int, PyData.depthAll (ns.map PyData.int) = 0
  | [] => rfl
  | n :: r => by
    show max (PyData.depth (.int n)) (PyData.depthAll (r.map PyData.int)) = 0
    rw [depth_ints r]
    rfl
theorem shaped_dI (ns : List Int) : SeqAt.shaped (dI ns) = true := by
  unfold SeqAt.shaped dI
  rw [show PyData.canLay0 (.list (ns.map PyData.int)) = true from canLay_ints ns, show PyData.depth (.list (ns.map PyData.int)) = 1 by show PyData.depthAll (ns.map PyData.int) + 1 = 1; rw [depth_ints]]
  rfl
theorem eqvAll_ints : ∀ ns ms : List Int, PyData.eqvAll (ns.map PyData.int) (ms.map PyData.int) = decide (ns = ms)
  | [], [] => rfl
  | [], _ :: _ => rfl
  | _ :: _, [] => rfl
  | n :: r, m :: q => by
    show (PyData.eqv (.int n) (.int m) && PyData.eqvAll (r.map PyData.int) (q.map PyData.int)) = decide (n :: r = m :: q)
    rw [eqvAll_ints r q, show PyData.eqv (.int n) (.int m) = (n == m) from rfl]
    by_cases h : n = m
    · subst h
      simp
    · simp [h]
theorem eqv_dI (ns ms : List Int) : PyData.eqv (dI ns) (dI ms) = decide (ns = ms) := eqvAll_ints ns ms
theorem rv_eqD {d e : PyData} (h1 : Dp K H x d) (h2 : Dp K H y e) (s1 : SeqAt.shaped d = true) (s2 : SeqAt.shaped e = true) (st : ∀ {v d H H'}, Ex H H' → Dp K H v d → Dp K H' v d) : RV (rEqD K) x y H (.bl (PyData.eqv d e)) := fun H1 ex Q q =>
  ⟨d, e, st ex h1, st ex h2, s1, s2, q H1 (Ex.refl H1)⟩
mutual
theorem Dp.ex {H H' : Hp} (e : Ex H H') : ∀ (d : PyData) (v : V), Dp K H v d → Dp K H' v d
  | .none, _, .non => .non
  | .bool _, _, .bl b => .bl b
  | .int _, _, .int i => .int i
  | .str _, _, .str x => .str x
  | .list ds, _, .lst h a => .lst (ex_l e h) (DpAll.ex e ds _ a)
  | .tuple ds, _, .tup h a => .tup (ex_t e h) (DpAll.ex e ds _ a)
theorem DpAll.ex {H H' : Hp} (e : Ex H H') : ∀ (ds : List PyData) (vs : List V), DpAll K H vs ds → DpAll K H' vs ds
  | [], _, .nil => .nil
  | d :: ds, _, .cons h t => .cons (Dp.ex e d _ h) (DpAll.ex e ds _ t)
end
theorem rv_eqData {d e : PyData} (h1 : Dp K H x d) (h2 : Dp K H y e) (s1 : SeqAt.shaped d = true) (s2 : SeqAt.shaped e = true) : RV (rEqD K) x y H (.bl (PyData.eqv d e)) := fun H1 ex Q q =>
  ⟨d, e, Dp.ex ex d _ h1, Dp.ex ex e _ h2, s1, s2, q H1 (Ex.refl H1)⟩
theorem rv_neData {d e : PyData} (h1 : Dp K H x d) (h2 : Dp K H y e) (s1 : SeqAt.shaped d = true) (s2 : SeqAt.shaped e = true) : RV (rNeD K) x y H (.bl (!PyData.eqv d e)) := fun H1 ex Q q =>
  ⟨d, e, Dp.ex ex d _ h1, Dp.ex ex e _ h2, s1, s2, q H1 (Ex.refl H1)⟩
/-- an operation whose second operand is told by what is true of it -/
theorem ev_opP {r : R2} {ta tb : TE} (ha : Ev ta σ H x) (hb : EvP tb σ H P) (hr : ∀ y H1, Ex H H1 → P y H1 → RV r x y H1 z) : Ev (tOp r ta tb) σ H z := fun H1 e Q q =>
  ha H1 e _ fun H2 e2 => hb H2 (e.trans e2) _ fun y H3 e3 p => hr y H3 ((e.trans e2).trans e3) p H3 (Ex.refl H3) Q fun H4 e4 => q H4 ((e2.trans e3).trans e4)
theorem ev_opPP {r : R2} {ta tb : TE} {P1 P2 : VP} (ha : EvP ta σ H P1) (s1 : Stab P1) (hb : EvP tb σ H P2) (hr : ∀ x y H1, Ex H H1 → P1 x H1 → P2 y H1 → RV r x y H1 z) : Ev (tOp r ta tb) σ H z := fun H1 e Q q =>
  ha H1 e _ fun x H2 e2 p1 => hb H2 (e.trans e2) _ fun y H3 e3 p2 => hr x y H3 ((e.trans e2).trans e3) (s1 _ _ _ e3 p1) p2 H3 (Ex.refl H3) Q fun H4 e4 => q H4 ((e2.trans e3).trans e4)
theorem ev_intB {b : Bool} (h : Ev te σ H (.bl b)) : Ev (tCB oInt1 (tCons te tNil)) σ H (.int (if b then 1 else 0)) := fun H1 e Q q => h H1 e _ fun H2 e2 => Or.inr ⟨b, rfl, q H2 e2⟩
/-- [a, b, ..][i], the items ints -/
theorem ev_pickL {xs : List V} {i : Int} {v : V} (h : EvL te σ H xs) (hi : ∀ H1, Ex H H1 → Ev ti σ H1 (.int i)) (ha : atI xs i = some v) : Ev (tOp (rIxL K) te ti) σ H v := ev_opL1 h hi fun p H1 h1 _ => rv_ixL (sq_of h1) ha
theorem at_mod {xs : List V} {i : Int} {v : V} (h0 : 0 ≤ i) (h : xs[i.toNat]? = some v) : atI xs i = some v := by
  have := atI_nat h
  rw [show ((i.toNat : Nat) : Int) = i by omega] at this
  exact this
end
section
variable {K : PySem.W.Frag} {c : Cl}
/-! ### the law's drawing of a rule -/
def cellAt (ns : List Int) (k : Int) : Int := if k < ns.length then ns.getD k.toNat 0 else 0
def sp_l_cell_at (K : PySem.W.Frag) (c : Cl) : Sp := fun vs H Q _ => ∃ (a : Addr) (ns : List Int) (k : Int), vs = [.ref a, .int k] ∧ IL K H a ns ∧ 0 ≤ k ∧ RetV (.int (cellAt ns k)) H Q
def t_l_cell_at (K : PySem.W.Frag) (c : Cl) (E : XK) : TS :=
(tSeq (tIfS (tTest (tOp oLt (tVar 1) (tCB (Evl.rLenS K) (tCons (tVar 0) tNil)))) (tRet (tOp (rIxL K) (tVar 0) (tVar 1))) tNext)
    (tRet (tC (.int 0))))
theorem len_l_cell_at (vs : List V) (H : Hp) (Q : VK) (E : XK) (h : sp_l_cell_at K c vs H Q E) : vs.length = 2 := by
  obtain ⟨a, ns, k, rfl, _⟩ := h
  rfl
theorem pure_l_cell_at (vs : List V) (H : Hp) (Q : VK) (E : XK) (h : sp_l_cell_at K c vs H Q E) : t_l_cell_at K c E { nx := fun _ H' => Q .non H', rt := Q } (start' 2 vs) H := by
  obtain ⟨a, ns, k, rfl, hs, k0, q⟩ := h
  refine q_when (b := decide (k < ((ns.map V.int).length : Int))) (et_test (ev_op (ev_var rfl) (ev_lenS (ev_var rfl) (Or.inl hs)) rv_I0)) (fun hb H1 e1 => ?_) fun hb H1 e1 => ?_
  · have z := of_decide_eq_true hb
    rw [List.length_map] at z
    refine s_ret (ev_op (ev_var rfl) (ev_var rfl) (rv_ixL (ex_l e1 hs) (v := .int (cellAt ns k)) ?_)) fun H2 e2 => q H2 (e1.trans e2)
    refine at_mod k0 ?_
    unfold cellAt
    rw [if_pos z, List.getElem?_map, List.getElem?_eq_getElem (by omega)]
    simp [List.getD, List.getElem?_eq_getElem (show k.toNat < ns.length by omega)]
  · have z := of_decide_eq_false hb
    rw [List.length_map] at z
    refine s_ret (v := .int (cellAt ns k)) (ev_is ev_c ?_) fun H2 e2 => q H2 (e1.trans e2)
    unfold cellAt
    rw [if_neg z]
theorem spv_l_cell_at {H : Hp} {a : Addr} {ns : List Int} {k : Int} (hs : IL K H a ns) (k0 : 0 ≤ k) : SpV (sp_l_cell_at K c) [.ref a, .int k] H (.int (cellAt ns k)) := fun H1 e Q q E => ⟨a, ns, k, rfl, ex_l e hs, k0, q⟩
theorem spv_l_mixed {H : Hp} {a k : Int} (h1 : -1000000 < k) (h2 : k < 1000000) : SpV (sp_l_mixed K c) [.int a, .int k] H (.int (lMixed a k)) := fun H1 e Q q E => ⟨a, k, rfl, h1, h2, q⟩
/-- a table is told: a tuple of rows signs -/
def RetTab (s rows : Int) (H : Hp) (Q : VK) : Prop := ∀ (p : Addr) (H2 : Hp) (xs : List Int), H p = none → Ex H H2 → H2 p = some (.tup (xs.map V.int)) → (xs.length : Int) = rows → InS s xs → Q (.ref p) H2
theorem RetTab.map {s rows : Int} {H : Hp} {Q : VK} (q : RetTab s rows H Q) (r0 : 0 ≤ rows) (f : Nat → Int) (hf : ∀ i : Nat, (i : Int) < rows → 0 ≤ f i ∧ f i < s) {p : Addr} {H2 : Hp} (hp : H p = none) (e : Ex H H2) (h : H2 p = some (.tup ((List.range rows.toNat).map fun i => V.int (f i)))) : Q (.ref p) H2 := by
  refine q p H2 ((List.range rows.toNat).map f) hp e ?_ ?_ ?_
  · rw [List.map_map]
    exact h
  · rw [List.length_map, List.length_range]
    omega
  · intro x hx
    obtain ⟨i, hi, rfl⟩ := List.mem_map.mp hx
    exact hf i (by have := List.mem_range.mp hi; omega)
def sp_l_random (K : PySem.W.Frag) (c : Cl) : Sp := fun vs H Q _ => ∃ (s rows more : Int), vs = [.int s, .int rows, .int more] ∧ 0 < s ∧ 0 ≤ rows ∧ rows ≤ 1000 ∧ RetTab s rows H Q
def t_l_random (K : PySem.W.Frag) (c : Cl) (E : XK) : TS :=
(tRet (tCB (oTupS K) (tCons (tLc (iRng1 (tCons (tVar 1) tNil)) (gName 3) tYes (tOp oMod (tCall (sp_l_mixed K c) [] E0 (tCons (tVar 2) (tCons (tVar 3) tNil))) (tVar 0)) [3]) tNil)))
theorem len_l_random (vs : List V) (H : Hp) (Q : VK) (E : XK) (h : sp_l_random K c vs H Q E) : vs.length = 3 := by
  obtain ⟨s, rows, more, rfl, _⟩ := h
  rfl
theorem mod_in {x s : Int} (h : 0 < s) : 0 ≤ x % s ∧ x % s < s := ⟨Int.emod_nonneg _ (by omega), Int.emod_lt_of_pos _ h⟩
theorem pure_l_random (vs : List V) (H : Hp) (Q : VK) (E : XK) (h : sp_l_random K c vs H Q E) : t_l_random K c E { nx := fun _ H' => Q .non H', rt := Q } (start' 4 vs) H := by
  obtain ⟨s, rows, more, rfl, s0, r0, r1, q⟩ := h
  refine s_retU (eu_tupS (el_mapR (fun i => V.int (lMixed more i % s)) (ea_cons (ev_var rfl) ea_nil) ⟨r0, by omega⟩ (fun _ => rfl) fun i H1 e1 hi => ?_)) fun p H2 hp e2 h2 => q.map r0 (fun i => lMixed more i % s) (fun i _ => mod_in s0) hp e2 h2
  exact ev_op (ev_call (ea_cons (ev_var rfl) (ea_cons (ev_var rfl) ea_nil)) (spv_l_mixed (by omega) (by omega))) (ev_var rfl) (rv_mod s0)
def sp_l_mending (K : PySem.W.Frag) (c : Cl) : Sp := fun vs H Q _ => ∃ (s rows more : Int), vs = [.int s, .int rows, .int more] ∧ 0 < s ∧ s ≤ 1000 ∧ s ≤ rows ∧ rows ≤ 1000 ∧ RetTab s rows H Q
def t_l_mending (K : PySem.W.Frag) (c : Cl) (E : XK) : TS :=
(tSeq (tAsg (tOp oDiv (tVar 1) (tVar 0)) (gName 3))
    (tSeq (tIfS (tTest (tOp rEq (tOp oMod (tVar 2) (tC (.int 2))) (tC (.int 0)))) (tRet (tCB (oTupS K) (tCons (tLc (iRng1 (tCons (tVar 1) tNil)) (gName 4) tYes (tOp oMod (tOp oAdd (tOp oMod (tVar 4) (tVar 0)) (tCall (sp_l_mixed K c) [] E0 (tCons (tVar 2) (tCons (tOp oDiv (tVar 4) (tVar 0)) tNil)))) (tVar 0)) [4]) tNil))) tNext)
    (tRet (tCB (oTupS K) (tCons (tLc (iRng1 (tCons (tVar 1) tNil)) (gName 4) tYes (tOp oMod (tOp oAdd (tOp oDiv (tVar 4) (tVar 3)) (tCall (sp_l_mixed K c) [] E0 (tCons (tVar 2) (tCons (tOp oMod (tVar 4) (tVar 3)) tNil)))) (tVar 0)) [4]) tNil)))))
theorem len_l_mending (vs : List V) (H : Hp) (Q : VK) (E : XK) (h : sp_l_mending K c vs H Q E) : vs.length = 3 := by
  obtain ⟨s, rows, more, rfl, _⟩ := h
  rfl
theorem div_in {x s : Int} (h : 0 < s) (x0 : 0 ≤ x) : 0 ≤ x / s ∧ x / s ≤ x := ⟨Int.ediv_nonneg x0 (by omega), Int.ediv_le_self _ x0⟩
theorem pure_l_mending (vs : List V) (H : Hp) (Q : VK) (E : XK) (h : sp_l_mending K c vs H Q E) : t_l_mending K c E { nx := fun _ H' => Q .non H', rt := Q } (start' 5 vs) H := by
  obtain ⟨s, rows, more, rfl, s0, s1, r0, r1, q⟩ := h
  refine q_asg (v := .int (rows / s)) (ev_op (ev_var rfl) (ev_var rfl) (rv_div s0 (by omega))) fun H1 e1 => ?_
  have few : 0 < rows / s := Int.le_ediv_of_mul_le (a := 1) s0 (by omega)
  have few1 : rows / s ≤ rows := (div_in s0 (by omega)).2
  refine q_when (et_test (ev_op (ev_op (ev_var rfl) ev_c (rv_mod (by omega))) ev_c rv_eqI)) (fun _ H2 e2 => ?_) fun _ H2 e2 => ?_
  · refine s_retU (eu_tupS (el_mapR (fun i => V.int (((i : Int) % s + lMixed more ((i : Int) / s)) % s)) (ea_cons (ev_var rfl) ea_nil) ⟨by omega, by omega⟩ (fun _ => rfl) fun i H3 e3 hi => ?_)) fun p H3 hp e3 h3 => q.map (by omega) (fun i => ((i : Int) % s + lMixed more ((i : Int) / s)) % s) (fun i _ => mod_in s0) (fresh_back (e1.trans e2) hp) ((e1.trans e2).trans e3) h3
    have d := div_in s0 (show (0 : Int) ≤ i by omega)
    exact ev_op (ev_op (ev_op (ev_var rfl) (ev_var rfl) (rv_mod s0)) (ev_call (ea_cons (ev_var rfl) (ea_cons (ev_op (ev_var rfl) (ev_var rfl) (rv_div s0 (by omega))) ea_nil)) (spv_l_mixed (by omega) (by omega))) rv_I0) (ev_var rfl) (rv_mod s0)
  · refine s_retU (eu_tupS (el_mapR (fun i => V.int (((i : Int) / (rows / s) + lMixed more ((i : Int) % (rows / s))) % s)) (ea_cons (ev_var rfl) ea_nil) ⟨by omega, by omega⟩ (fun _ => rfl) fun i H3 e3 hi => ?_)) fun p H3 hp e3 h3 => q.map (by omega) (fun i => ((i : Int) / (rows / s) + lMixed more ((i : Int) % (rows / s))) % s) (fun i _ => mod_in s0) (fresh_back (e1.trans e2) hp) ((e1.trans e2).trans e3) h3
    have d := mod_in (x := (i : Int)) few
    exact ev_op (ev_op (ev_op (ev_var rfl) (ev_var rfl) (rv_div few (by omega))) (ev_call (ea_cons (ev_var rfl) (ea_cons (ev_op (ev_var rfl) (ev_var rfl) (rv_mod few)) ea_nil)) (spv_l_mixed (by omega) (by omega))) rv_I0) (ev_var rfl) (rv_mod s0)
end
end Br

namespace Br
open PySem PySem.Spec PyProof.Rows L2 Evl
section
variable {K : PySem.W.Frag} {c : Cl}
def lBetween (k way : Int) : Int :=
  (([k / 8, k / 4 % 2, k / 2 % 2, k % 2] : List Int).getD (1 + way / 2 % 2).toNat 0 +
    (if ([k / 8, k / 4 % 2, k / 2 % 2, k % 2] : List Int).take (1 + way / 2 % 2).toNat ++ ([k / 8, k / 4 % 2, k / 2 % 2, k % 2] : List Int).drop ((1 + way / 2 % 2).toNat + 1) = (if way % 2 = 0 then [1, 0, 1] else [0, 1, 0]) then 1 else 0)) % 2
def sp_l_between (K : PySem.W.Frag) (c : Cl) : Sp := fun vs H Q _ => ∃ (k way : Int), vs = [.int k, .int way] ∧ RetV (.int (lBetween k way)) H Q
def t_l_between (K : PySem.W.Frag) (c : Cl) (E : XK) : TS :=
(tSeq (tAsg (tLst (tCons (tOp oDiv (tVar 0) (tC (.int 8))) (tCons (tOp oMod (tOp oDiv (tVar 0) (tC (.int 4))) (tC (.int 2))) (tCons (tOp oMod (tOp oDiv (tVar 0) (tC (.int 2))) (tC (.int 2))) (tCons (tOp oMod (tVar 0) (tC (.int 2))) tNil))))) (gName 2))
    (tSeq (tAsg (tOp oAdd (tC (.int 1)) (tOp oMod (tOp oDiv (tVar 1) (tC (.int 2))) (tC (.int 2)))) (gName 3))
    (tSeq (tAsg (tOp oCat (tSl (rSlL K) (tVar 2) tNoPart (tPart (tVar 3))) (tSl (rSlL K) (tVar 2) (tPart (tOp oAdd (tVar 3) (tC (.int 1)))) tNoPart)) (gName 4))
    (tRet (tOp oMod (tOp oAdd (tOp (rIxL K) (tVar 2) (tVar 3)) (tCB oInt1 (tCons (tOp (rEqD K) (tVar 4) (tOp (rIxL K) (tLst (tCons (tLst (tCons (tC (.int 1)) (tCons (tC (.int 0)) (tCons (tC (.int 1)) tNil)))) (tCons (tLst (tCons (tC (.int 0)) (tCons (tC (.int 1)) (tCons (tC (.int 0)) tNil)))) tNil))) (tOp oMod (tVar 1) (tC (.int 2))))) tNil))) (tC (.int 2)))))))
theorem len_l_between (vs : List V) (H : Hp) (Q : VK) (E : XK) (h : sp_l_between K c vs H Q E) : vs.length = 2 := by
  obtain ⟨k, way, rfl, _⟩ := h
  rfl
theorem pure_l_between (vs : List V) (H : Hp) (Q : VK) (E : XK) (h : sp_l_between K c vs H Q E) : t_l_between K c E { nx := fun _ H' => Q .non H', rt := Q } (start' 5 vs) H := by
  obtain ⟨k, way, rfl, q⟩ := h
  have hw := mod_in (x := way) (s := 2) (by omega)
  have ha := mod_in (x := way / 2) (s := 2) (by omega)
  generalize hcs : ([k / 8, k / 4 % 2, k / 2 % 2, k % 2] : List Int) = cs
  have hl : cs.length = 4 := by rw [← hcs]; rfl
  refine q_asgL (xs := cs.map V.int) ?_ fun p H1 hp e1 h1 => ?_
  · rw [← hcs]
    refine el_lst (vs := [.int (k / 8), .int (k / 4 % 2), .int (k / 2 % 2), .int (k % 2)]) ?_ (by show 4 ≤ 100000; omega)
    (repeat' first
        | exact ev_c
        | exact ev_var rfl
        | exact ea_nil
        | exact eo_none
        | apply ea_cons
        | apply ev_op
        | apply ev_un
        | apply eo_some
        | exact rv_I0
        | exact ru_neg
        | exact et_yes
        | apply et_test
        | apply et_B
        | apply et_not
        | apply rv_mod
        | apply rv_div
        | apply rv_mul
        | apply rv_eqI
        | apply rv_neI
        | exact rv_isTy
        | exact rv_notTy
        | (apply ev_lenS; rotate_left)
        | exact rv_ixT (by assumption) rfl)
    all_goals omega
  refine q_asg (v := .int (1 + way / 2 % 2)) ?_ fun H2 e2 => ?_
  · (repeat' first
        | exact ev_c
        | exact ev_var rfl
        | exact ea_nil
        | exact eo_none
        | apply ea_cons
        | apply ev_op
        | apply ev_un
        | apply eo_some
        | exact rv_I0
        | exact ru_neg
        | exact et_yes
        | apply et_test
        | apply et_B
        | apply et_not
        | apply rv_mod
        | apply rv_div
        | apply rv_mul
        | apply rv_eqI
        | apply rv_neI
        | exact rv_isTy
        | exact rv_notTy
        | (apply ev_lenS; rotate_left)
        | exact rv_ixT (by assumption) rfl)
    all_goals omega
  have h2 : IL K H2 p cs := sq_of (e2 _ _ h1)
  refine q_asgL (xs := (cs.take (1 + way / 2 % 2).toNat ++ cs.drop ((1 + way / 2 % 2).toNat + 1)).map V.int) ?_ fun r H3 hr e3 h3 => ?_
  · rw [List.map_append, List.map_take, List.map_drop]
    refine el_cat ?_ ?_ ?_
    · have z := el_sl (K := K) (σ := ((start' 5 [.int k, .int way]).set 2 (some (.ref p))).set 3 (some (.int (1 + way / 2 % 2)))) (te := tVar 2) (tl := tNoPart) (th := tPart (tVar 3)) (ev_var rfl) eo_none (eo_some (ev_var rfl)) h2
      rw [show (1 + way / 2 % 2) = (((1 + way / 2 % 2).toNat : Nat) : Int) by omega, cut_take] at z
      rw [show (1 + way / 2 % 2) = (((1 + way / 2 % 2).toNat : Nat) : Int) by omega]
      exact z
    · have z := el_sl (K := K) (σ := ((start' 5 [.int k, .int way]).set 2 (some (.ref p))).set 3 (some (.int (1 + way / 2 % 2)))) (te := tVar 2) (tl := tPart (tOp oAdd (tVar 3) (tC (.int 1)))) (th := tNoPart) (ev_var rfl) (eo_some (ev_op (ev_var rfl) ev_c rv_I0)) eo_none h2
      rw [show (1 + way / 2 % 2 + 1) = (((1 + way / 2 % 2).toNat + 1 : Nat) : Int) by omega, cut_drop] at z
      exact z
    · rw [List.length_take, List.length_drop, List.length_map, hl]
      omega
  have E3 := (e1.trans e2).trans e3
  refine s_ret (v := .int (lBetween k way)) ?_ fun H4 e4 => q H4 (E3.trans e4)
  have pk : EvP (tOp (rIxL K) (tLst (tCons (tLst (tCons (tC (.int 1)) (tCons (tC (.int 0)) (tCons (tC (.int 1)) tNil)))) (tCons (tLst (tCons (tC (.int 0)) (tCons (tC (.int 1)) (tCons (tC (.int 0)) tNil)))) tNil))) (tOp oMod (tVar 1) (tC (.int 2))))
      ((((start' 5 [.int k, .int way]).set 2 (some (.ref p))).set 3 (some (.int (1 + way / 2 % 2)))).set 4 (some (.ref r))) H3 (LstV K ((if way % 2 = 0 then [1, 0, 1] else [0, 1, 0] : List Int).map V.int)) := by
    refine evp_pick (Ps := [LstV K (([1, 0, 1] : List Int).map V.int), LstV K (([0, 1, 0] : List Int).map V.int)]) (evp_lst (eap_cons (EvP.lst (el_lst (ea_cons ev_c (ea_cons ev_c (ea_cons ev_c ea_nil))) (by show 3 ≤ 100000; omega))) stab_lst (eap_cons (EvP.lst (el_lst (ea_cons ev_c (ea_cons ev_c (ea_cons ev_c ea_nil))) (by show 3 ≤ 100000; omega))) stab_lst eap_nil)) ?_ (by show 2 ≤ 1000; omega)) ?_ (ev_op (ev_var rfl) ev_c (rv_mod (by omega))) hw.1 ?_
    · intro P hP
      simp only [List.mem_cons, List.mem_nil_iff, or_false] at hP
      rcases hP with rfl | rfl <;> exact stab_lst
    · intro P hP
      simp only [List.mem_cons, List.mem_nil_iff, or_false] at hP
      rcases hP with rfl | rfl <;> exact stab_lst
    · by_cases h0 : way % 2 = 0
      · rw [h0]
        rfl
      · rw [show way % 2 = 1 by omega]
        rfl
  refine ev_is (ev_op (ev_op (ev_op (ev_var rfl) (ev_var rfl) (rv_ixL (v := .int (cs.getD (1 + way / 2 % 2).toNat 0)) (ex_l e3 h2) ?_)) (ev_intB (b := decide (cs.take (1 + way / 2 % 2).toNat ++ cs.drop ((1 + way / 2 % 2).toNat + 1) = (if way % 2 = 0 then [1, 0, 1] else [0, 1, 0]))) (ev_opP (ev_var rfl) pk fun y H5 e5 hy => ?_)) rv_I0) ev_c (rv_mod (by omega))) ?_
  · refine at_mod (by omega) ?_
    rw [List.getElem?_map, List.getElem?_eq_getElem (by omega)]
    simp [List.getD, List.getElem?_eq_getElem (show (1 + way / 2 % 2).toNat < cs.length by omega)]
  · obtain ⟨a, rfl, ha'⟩ := hy
    have z := rv_eqData (H := H5) (dp_il (sq_of (e5 _ _ h3))) (dp_il ha') (shaped_dI _) (shaped_dI _)
    rw [eqv_dI] at z
    exact z
  · show V.int _ = V.int (lBetween k way)
    unfold lBetween
    rw [hcs]
    simp
theorem spv_l_between {H : Hp} {k way : Int} : SpV (sp_l_between K c) [.int k, .int way] H (.int (lBetween k way)) := fun H1 e Q q E => ⟨k, way, rfl, q⟩
theorem lBetween_in (k way : Int) : 0 ≤ lBetween k way ∧ lBetween k way < 2 := mod_in (by omega)
/-! ### beside -/
def lBeside (k way : Int) : Int :=
  let cell := if way % 2 = 0 then k / 3 else k % 3
  let near := if way % 2 = 0 then k % 3 else k / 3
  if near = way / 2 % 3 ∧ cell ≠ way / 2 % 3 then 3 - way / 2 % 3 - cell else cell
def sp_l_beside (K : PySem.W.Frag) (c : Cl) : Sp := fun vs H Q _ => ∃ (k way : Int), vs = [.int k, .int way] ∧ RetV (.int (lBeside k way)) H Q
def t_l_beside (K : PySem.W.Frag) (c : Cl) (E : XK) : TS :=
(tSeq (tAsg (tOp oMod (tOp oDiv (tVar 1) (tC (.int 2))) (tC (.int 3))) (gName 2))
    (tSeq (tAsg (tOp (rIxL K) (tLst (tCons (tTup (tCons (tOp oDiv (tVar 0) (tC (.int 3))) (tCons (tOp oMod (tVar 0) (tC (.int 3))) tNil))) (tCons (tTup (tCons (tOp oMod (tVar 0) (tC (.int 3))) (tCons (tOp oDiv (tVar 0) (tC (.int 3))) tNil))) tNil))) (tOp oMod (tVar 1) (tC (.int 2)))) (gTup K 2 (gCons (gName 3) (gCons (gName 4) gNil))))
    (tSeq (tIfS (tAnd (tTest (tOp rEq (tVar 4) (tVar 2))) (tTest (tOp rNe (tVar 3) (tVar 2)))) (tRet (tOp oSub (tOp oSub (tC (.int 3)) (tVar 2)) (tVar 3))) tNext)
    (tRet (tVar 3)))))
theorem len_l_beside (vs : List V) (H : Hp) (Q : VK) (E : XK) (h : sp_l_beside K c vs H Q E) : vs.length = 2 := by
  obtain ⟨k, way, rfl, _⟩ := h
  rfl
theorem pure_l_beside (vs : List V) (H : Hp) (Q : VK) (E : XK) (h : sp_l_beside K c vs H Q E) : t_l_beside K c E { nx := fun _ H' => Q .non H', rt := Q } (start' 5 vs) H := by
  obtain ⟨k, way, rfl, q⟩ := h
  have hw := mod_in (x := way) (s := 2) (by omega)
  refine q_asg (v := .int (way / 2 % 3)) ?_ fun H1 e1 => ?_
  · (repeat' first
        | exact ev_c
        | exact ev_var rfl
        | exact ea_nil
        | exact eo_none
        | apply ea_cons
        | apply ev_op
        | apply ev_un
        | apply eo_some
        | exact rv_I0
        | exact ru_neg
        | exact et_yes
        | apply et_test
        | apply et_B
        | apply et_not
        | apply rv_mod
        | apply rv_div
        | apply rv_mul
        | apply rv_eqI
        | apply rv_neI
        | exact rv_isTy
        | exact rv_notTy
        | (apply ev_lenS; rotate_left)
        | exact rv_ixT (by assumption) rfl)
    all_goals omega
  refine q_unpackP2 (x := .int (if way % 2 = 0 then k / 3 else k % 3)) (y := .int (if way % 2 = 0 then k % 3 else k / 3)) ?_ fun H2 e2 => ?_
  · refine evp_pick (Ps := [TupV K [.int (k / 3), .int (k % 3)], TupV K [.int (k % 3), .int (k / 3)]]) (evp_lst (eap_cons (EvP.tup (eu_tup ?_ (by show 2 ≤ 100000; omega))) stab_tup (eap_cons (EvP.tup (eu_tup ?_ (by show 2 ≤ 100000; omega))) stab_tup eap_nil)) ?_ (by show 2 ≤ 1000; omega)) ?_ (ev_op (ev_var rfl) ev_c (rv_mod (by omega))) hw.1 ?_
    · (repeat' first
          | exact ev_c
          | exact ev_var rfl
          | exact ea_nil
          | exact eo_none
          | apply ea_cons
          | apply ev_op
          | apply ev_un
          | apply eo_some
          | exact rv_I0
          | exact ru_neg
          | exact et_yes
          | apply et_test
          | apply et_B
          | apply et_not
          | apply rv_mod
          | apply rv_div
          | apply rv_mul
          | apply rv_eqI
          | apply rv_neI
          | exact rv_isTy
          | exact rv_notTy
          | (apply ev_lenS; rotate_left)
          | exact rv_ixT (by assumption) rfl)
      all_goals omega
    · (repeat' first
          | exact ev_c
          | exact ev_var rfl
          | exact ea_nil
          | exact eo_none
          | apply ea_cons
          | apply ev_op
          | apply ev_un
          | apply eo_some
          | exact rv_I0
          | exact ru_neg
          | exact et_yes
          | apply et_test
          | apply et_B
          | apply et_not
          | apply rv_mod
          | apply rv_div
          | apply rv_mul
          | apply rv_eqI
          | apply rv_neI
          | exact rv_isTy
          | exact rv_notTy
          | (apply ev_lenS; rotate_left)
          | exact rv_ixT (by assumption) rfl)
      all_goals omega
    · intro P hP
      simp only [List.mem_cons, List.mem_nil_iff, or_false] at hP
      rcases hP with rfl | rfl <;> exact stab_tup
    · intro P hP
      simp only [List.mem_cons, List.mem_nil_iff, or_false] at hP
      rcases hP with rfl | rfl <;> exact stab_tup
    · by_cases h0 : way % 2 = 0
      · rw [h0]
        rfl
      · rw [show way % 2 = 1 by omega]
        rfl
  have E2 := e1.trans e2
  refine q_when (et_and (a := decide ((if way % 2 = 0 then k % 3 else k / 3) = way / 2 % 3)) (b := !decide ((if way % 2 = 0 then k / 3 else k % 3) = way / 2 % 3)) (et_test (ev_op (ev_var rfl) (ev_var rfl) rv_eqI)) fun _ => et_test (ev_op (ev_var rfl) (ev_var rfl) rv_neI)) (fun hb H3 e3 => ?_) fun hb H3 e3 => ?_
  · refine s_ret (v := .int (lBeside k way)) (ev_is (ev_op (ev_op ev_c (ev_var rfl) rv_I0) (ev_var rfl) rv_I0) ?_) fun H4 e4 => q H4 ((E2.trans e3).trans e4)
    simp only [Bool.and_eq_true, decide_eq_true_eq, Bool.not_eq_true', decide_eq_false_iff_not] at hb
    unfold lBeside
    simp only
    rw [if_pos hb]
  · refine s_ret (v := .int (lBeside k way)) (ev_is (ev_var rfl) ?_) fun H4 e4 => q H4 ((E2.trans e3).trans e4)
    have hn : ¬ ((if way % 2 = 0 then k % 3 else k / 3) = way / 2 % 3 ∧ (if way % 2 = 0 then k / 3 else k % 3) ≠ way / 2 % 3) := by
      intro ⟨a, b⟩
      rw [decide_eq_true a, decide_eq_false b] at hb
      cases hb
    unfold lBeside
    simp only
    rw [if_neg hn]
theorem spv_l_beside {H : Hp} {k way : Int} : SpV (sp_l_beside K c) [.int k, .int way] H (.int (lBeside k way)) := fun H1 e Q q E => ⟨k, way, rfl, q⟩
theorem lBeside_in {k way : Int} (k0 : 0 ≤ k) (k9 : k < 9) : 0 ≤ lBeside k way ∧ lBeside k way < 3 := by
  unfold lBeside
  simp only
  split <;> split <;> omega
end
end Br

namespace Br
open PySem PySem.Spec PyProof.Rows L2 Evl
section
variable {K : PySem.W.Frag} {c : Cl}
theorem il_at {ns : List Int} {i : Int} (h0 : 0 ≤ i) (h1 : i < ns.length) : atI (ns.map V.int) i = some (.int (ns.getD i.toNat 0)) := by
  refine at_mod h0 ?_
  rw [List.getElem?_map, List.getElem?_eq_getElem (by omega)]
  simp [List.getD, List.getElem?_eq_getElem (show i.toNat < ns.length by omega)]
theorem InS.at {s : Int} {ns : List Int} (h : InS s ns) {i : Int} (h0 : 0 ≤ i) (h1 : i < ns.length) : 0 ≤ ns.getD i.toNat 0 ∧ ns.getD i.toNat 0 < s := h _ (getD_mem (by omega))
def sp_l_turned (K : PySem.W.Frag) (c : Cl) : Sp := fun vs H Q _ => ∃ (s w rows more : Int), vs = [.int s, .int w, .int rows, .int more] ∧ 0 < s ∧ s ≤ 4 ∧ 0 < w ∧ w ≤ 4 ∧ rows = s ^ w.toNat ∧ rows ≤ 1000 ∧ RetTab s rows H Q
def t_l_turned (K : PySem.W.Frag) (c : Cl) (E : XK) : TS :=
(tSeq (tAsg (tLc (iRng1 (tCons (tVar 0) tNil)) (gName 5) tYes (tOp oMod (tOp oAdd (tOp oDiv (tVar 3) (tC (.int 4))) (tOp oMul (tVar 5) (tOp (rIxL K) (tLst (tCons (tC (.int 1)) (tCons (tOp oSub (tVar 0) (tC (.int 1))) tNil))) (tOp oMod (tOp oDiv (tVar 3) (tC (.int 64))) (tC (.int 2)))))) (tVar 0)) [5]) (gName 4))
    (tSeq (tIfS (tAnd (tTest (tOp rEq (tVar 0) (tC (.int 4)))) (tAnd (tTest (tOp rEq (tVar 1) (tC (.int 2)))) (tTest (tOp oGt (tOp oMod (tVar 3) (tC (.int 4))) (tC (.int 0)))))) (tRet (tCB (oTupS K) (tCons (tLc (iRng1 (tCons (tC (.int 16)) tNil)) (gName 5) tYes (tOp (rIxL K) (tVar 4) (tOp oAdd (tOp oMul (tOp oDiv (tVar 5) (tC (.int 8))) (tC (.int 2))) (tOp oMod (tVar 5) (tC (.int 2))))) [5]) tNil))) tNext)
    (tSeq (tIfS (tAnd (tTest (tOp rEq (tVar 0) (tC (.int 3)))) (tAnd (tTest (tOp rEq (tVar 1) (tC (.int 2)))) (tTest (tOp oGt (tOp oMod (tVar 3) (tC (.int 4))) (tC (.int 0)))))) (tRet (tCB (oTupS K) (tCons (tLc (iRng1 (tCons (tC (.int 9)) tNil)) (gName 5) tYes (tOp (rIxL K) (tVar 4) (tCall (sp_l_beside K c) [] E0 (tCons (tVar 5) (tCons (tOp oDiv (tVar 3) (tC (.int 256))) tNil)))) [5]) tNil))) tNext)
    (tSeq (tIfS (tAnd (tTest (tOp rEq (tVar 0) (tC (.int 2)))) (tAnd (tTest (tOp rEq (tVar 1) (tC (.int 4)))) (tTest (tOp oGt (tOp oMod (tVar 3) (tC (.int 4))) (tC (.int 0)))))) (tRet (tCB (oTupS K) (tCons (tLc (iRng1 (tCons (tC (.int 16)) tNil)) (gName 5) tYes (tOp (rIxL K) (tVar 4) (tCall (sp_l_between K c) [] E0 (tCons (tVar 5) (tCons (tOp oDiv (tVar 3) (tC (.int 256))) tNil)))) [5]) tNil))) tNext)
    (tSeq (tAsg (tOp (rIxL K) (tLst (tCons (tC (.int 1)) (tCons (tVar 0) (tCons (tOp oMul (tVar 0) (tVar 0)) (tCons (tOp oMul (tOp oMul (tVar 0) (tVar 0)) (tVar 0)) tNil))))) (tOp oMod (tOp oDiv (tVar 3) (tC (.int 16))) (tVar 1))) (gName 6))
    (tRet (tCB (oTupS K) (tCons (tLc (iRng1 (tCons (tVar 2) tNil)) (gName 5) tYes (tOp (rIxL K) (tVar 4) (tOp oMod (tOp oDiv (tVar 5) (tVar 6)) (tVar 0))) [5]) tNil))))))))
theorem len_l_turned (vs : List V) (H : Hp) (Q : VK) (E : XK) (h : sp_l_turned K c vs H Q E) : vs.length = 4 := by
  obtain ⟨s, w, rows, more, rfl, _⟩ := h
  rfl
theorem and3 {a b d : Bool} (h : (a && (b && d)) = true) : a = true ∧ b = true := by
  cases a <;> cases b <;> simp_all
theorem pure_l_turned (vs : List V) (H : Hp) (Q : VK) (E : XK) (h : sp_l_turned K c vs H Q E) : t_l_turned K c E { nx := fun _ H' => Q .non H', rt := Q } (start' 7 vs) H := by
  obtain ⟨s, w, rows, more, rfl, s0, s4, w0, w4, hr, r1, q⟩ := h
  have h64 := mod_in (x := more / 64) (s := 2) (by omega)
  generalize hod : (List.range s.toNat).map (fun i : Nat => (more / 4 + (i : Int) * (if more / 64 % 2 = 0 then 1 else s - 1)) % s) = od
  have ol : (od.length : Int) = s := by rw [← hod, List.length_map, List.length_range]; omega
  have oS : InS s od := fun x hx => by
    rw [← hod] at hx
    obtain ⟨i, _, rfl⟩ := List.mem_map.mp hx
    exact mod_in s0
  refine q_asgL (xs := od.map V.int) ?_ fun p H1 hp e1 h1 => ?_
  · rw [← hod, List.map_map]
    refine el_mapR (fun i => V.int ((more / 4 + (i : Int) * (if more / 64 % 2 = 0 then 1 else s - 1)) % s)) (ea_cons (ev_var rfl) ea_nil) (by omega) (fun _ => rfl) fun i H2 e2 hi => ?_
    refine ev_op (ev_op (ev_op (ev_var rfl) ev_c (rv_div (by omega) (by omega))) (ev_op (ev_var rfl) (ev_pickL (xs := [.int 1, .int (s - 1)]) (i := more / 64 % 2) (v := .int (if more / 64 % 2 = 0 then 1 else s - 1)) (el_lst (ea_cons ev_c (ea_cons (ev_op (ev_var rfl) ev_c rv_I0) ea_nil)) (by show 2 ≤ 100000; omega)) (fun H3 _ => ?_) ?_) (rv_mul (Or.inl ⟨by omega, by omega⟩))) rv_I0) (ev_var rfl) (rv_mod s0)
    · (repeat' first
          | exact ev_c
          | exact ev_var rfl
          | exact ea_nil
          | exact eo_none
          | apply ea_cons
          | apply ev_op
          | apply ev_un
          | apply eo_some
          | exact rv_I0
          | exact ru_neg
          | exact et_yes
          | apply et_test
          | apply et_B
          | apply et_not
          | apply rv_mod
          | apply rv_div
          | apply rv_mul
          | apply rv_eqI
          | apply rv_neI
          | exact rv_isTy
          | exact rv_notTy
          | (apply ev_lenS; rotate_left)
          | exact rv_ixT (by assumption) rfl)
      all_goals omega
    · refine at_mod h64.1 ?_
      by_cases h0 : more / 64 % 2 = 0
      · rw [h0]
        rfl
      · rw [show more / 64 % 2 = 1 by omega]
        rfl
  have ho : ∀ {H2}, Ex H1 H2 → IL K H2 p od := fun e => sq_of (e _ _ h1)
  refine q_when (et_and (a := decide (s = 4)) (b := decide (w = 2) && decide (0 < more % 4)) (et_test (ev_op (ev_var rfl) ev_c rv_eqI)) fun _ => et_and (et_test (ev_op (ev_var rfl) ev_c rv_eqI)) fun _ => et_test (ev_op (ev_op (ev_var rfl) ev_c (rv_mod (by omega))) ev_c rv_I0)) (fun hb H2 e2 => ?_) fun _ H2 e2 => ?_
  · obtain ⟨a, b⟩ := and3 hb
    have a := of_decide_eq_true a
    have b := of_decide_eq_true b
    subst a b
    have hr16 : rows = 16 := hr
    refine s_retU (eu_tupS (el_mapR (fun i => V.int (od.getD ((i : Int) / 8 * 2 + (i : Int) % 2).toNat 0)) (ea_cons ev_c ea_nil) (by omega) (fun _ => rfl) fun i H3 e3 hi => ?_)) fun l H3 hl e3 h3 => q.map (by omega) (fun i => od.getD ((i : Int) / 8 * 2 + (i : Int) % 2).toNat 0) (fun i hi => oS.at (by omega) (by omega)) (fresh_back (e1.trans e2) hl) ((e1.trans e2).trans e3) (by rw [hr16]; exact h3)
    refine ev_op (ev_var rfl) ?_ (rv_ixL (ho (e2.trans e3)) (il_at (by omega) (by omega)))
    (repeat' first
        | exact ev_c
        | exact ev_var rfl
        | exact ea_nil
        | exact eo_none
        | apply ea_cons
        | apply ev_op
        | apply ev_un
        | apply eo_some
        | exact rv_I0
        | exact ru_neg
        | exact et_yes
        | apply et_test
        | apply et_B
        | apply et_not
        | apply rv_mod
        | apply rv_div
        | apply rv_mul
        | apply rv_eqI
        | apply rv_neI
        | exact rv_isTy
        | exact rv_notTy
        | (apply ev_lenS; rotate_left)
        | exact rv_ixT (by assumption) rfl)
    all_goals first | omega | exact Or.inr ⟨by omega, by omega⟩
  refine q_when (et_and (a := decide (s = 3)) (b := decide (w = 2) && decide (0 < more % 4)) (et_test (ev_op (ev_var rfl) ev_c rv_eqI)) fun _ => et_and (et_test (ev_op (ev_var rfl) ev_c rv_eqI)) fun _ => et_test (ev_op (ev_op (ev_var rfl) ev_c (rv_mod (by omega))) ev_c rv_I0)) (fun hb H3 e3 => ?_) fun _ H3 e3 => ?_
  · obtain ⟨a, b⟩ := and3 hb
    have a := of_decide_eq_true a
    have b := of_decide_eq_true b
    subst a b
    have hr9 : rows = 9 := hr
    refine s_retU (eu_tupS (el_mapR (fun i => V.int (od.getD (lBeside (i : Int) (more / 256)).toNat 0)) (ea_cons ev_c ea_nil) (by omega) (fun _ => rfl) fun i H4 e4 hi => ?_)) fun l H4 hl e4 h4 => q.map (by omega) (fun i => od.getD (lBeside (i : Int) (more / 256)).toNat 0) (fun i hi => ?_) (fresh_back ((e1.trans e2).trans e3) hl) (((e1.trans e2).trans e3).trans e4) (by rw [hr9]; exact h4)
    · have z := lBeside_in (k := (i : Int)) (way := more / 256) (by omega) (by omega)
      exact ev_op (ev_var rfl) (ev_call (ea_cons (ev_var rfl) (ea_cons (ev_op (ev_var rfl) ev_c (rv_div (by omega) (by omega))) ea_nil)) spv_l_beside) (rv_ixL (ho ((e2.trans e3).trans e4)) (il_at z.1 (by omega)))
    · have z := lBeside_in (k := (i : Int)) (way := more / 256) (by omega) (by omega)
      exact oS.at z.1 (by omega)
  refine q_when (et_and (a := decide (s = 2)) (b := decide (w = 4) && decide (0 < more % 4)) (et_test (ev_op (ev_var rfl) ev_c rv_eqI)) fun _ => et_and (et_test (ev_op (ev_var rfl) ev_c rv_eqI)) fun _ => et_test (ev_op (ev_op (ev_var rfl) ev_c (rv_mod (by omega))) ev_c rv_I0)) (fun hb H4 e4 => ?_) fun _ H4 e4 => ?_
  · obtain ⟨a, b⟩ := and3 hb
    have a := of_decide_eq_true a
    have b := of_decide_eq_true b
    subst a b
    have hr16 : rows = 16 := hr
    refine s_retU (eu_tupS (el_mapR (fun i => V.int (od.getD (lBetween (i : Int) (more / 256)).toNat 0)) (ea_cons ev_c ea_nil) (by omega) (fun _ => rfl) fun i H5 e5 hi => ?_)) fun l H5 hl e5 h5 => q.map (by omega) (fun i => od.getD (lBetween (i : Int) (more / 256)).toNat 0) (fun i hi => ?_) (fresh_back (((e1.trans e2).trans e3).trans e4) hl) ((((e1.trans e2).trans e3).trans e4).trans e5) (by rw [hr16]; exact h5)
    · have z := lBetween_in (i : Int) (more / 256)
      exact ev_op (ev_var rfl) (ev_call (ea_cons (ev_var rfl) (ea_cons (ev_op (ev_var rfl) ev_c (rv_div (by omega) (by omega))) ea_nil)) spv_l_between) (rv_ixL (ho (((e2.trans e3).trans e4).trans e5)) (il_at z.1 (by omega)))
    · have z := lBetween_in (i : Int) (more / 256)
      exact oS.at z.1 (by omega)
  have hm := mod_in (x := more / 16) w0
  have hp2 : ∀ a b : Int, 0 < a → a ≤ 4 → 0 < b → b ≤ 16 → 0 < b * a ∧ b * a ≤ 64 := fun a b a0 a4 b0 b16 => ⟨Int.mul_pos b0 a0, by
    have h1 := Int.mul_le_mul_of_nonneg_right b16 (show 0 ≤ a by omega)
    omega⟩
  have q2 := hp2 s s s0 s4 s0 (by omega)
  have q2' : s * s ≤ 16 := by
    have h1 := Int.mul_le_mul_of_nonneg_right s4 (show 0 ≤ s by omega)
    omega
  have q3 := hp2 s (s * s) s0 s4 q2.1 q2'
  obtain ⟨step, hs1, hs2, hs3⟩ : ∃ step : Int, ([V.int 1, .int s, .int (s * s), .int (s * s * s)])[(more / 16 % w).toNat]? = some (.int step) ∧ 0 < step ∧ step ≤ 64 := by
    have hc : more / 16 % w = 0 ∨ more / 16 % w = 1 ∨ more / 16 % w = 2 ∨ more / 16 % w = 3 := by omega
    rcases hc with z | z | z | z <;> rw [z]
    · exact ⟨1, rfl, by omega, by omega⟩
    · exact ⟨s, rfl, by omega, by omega⟩
    · exact ⟨s * s, rfl, q2.1, q2.2⟩
    · exact ⟨s * s * s, rfl, q3.1, q3.2⟩
  refine q_asg (v := .int step) ?_ fun H5 e5 => ?_
  · refine ev_pickL (xs := [.int 1, .int s, .int (s * s), .int (s * s * s)]) (i := more / 16 % w) (el_lst (ea_cons ev_c (ea_cons (ev_var rfl) (ea_cons (ev_op (ev_var rfl) (ev_var rfl) (rv_mul (Or.inl ⟨by omega, by omega⟩))) (ea_cons (ev_op (ev_op (ev_var rfl) (ev_var rfl) (rv_mul (Or.inl ⟨by omega, by omega⟩))) (ev_var rfl) (rv_mul (Or.inr ⟨by omega, by omega⟩))) ea_nil)))) (by show 4 ≤ 100000; omega)) (fun H6 _ => ?_) (at_mod hm.1 hs1)
    (repeat' first
        | exact ev_c
        | exact ev_var rfl
        | exact ea_nil
        | exact eo_none
        | apply ea_cons
        | apply ev_op
        | apply ev_un
        | apply eo_some
        | exact rv_I0
        | exact ru_neg
        | exact et_yes
        | apply et_test
        | apply et_B
        | apply et_not
        | apply rv_mod
        | apply rv_div
        | apply rv_mul
        | apply rv_eqI
        | apply rv_neI
        | exact rv_isTy
        | exact rv_notTy
        | (apply ev_lenS; rotate_left)
        | exact rv_ixT (by assumption) rfl)
    all_goals omega
  have E5 := (((e1.trans e2).trans e3).trans e4).trans e5
  have r0 : 0 ≤ rows := by
    rw [hr]
    exact Int.le_of_lt (Int.pow_pos s0)
  refine s_retU (eu_tupS (el_mapR (fun i => V.int (od.getD ((i : Int) / step % s).toNat 0)) (ea_cons (ev_var rfl) ea_nil) (by omega) (fun _ => rfl) fun i H6 e6 hi => ?_)) fun l H6 hl e6 h6 => q.map r0 (fun i => od.getD ((i : Int) / step % s).toNat 0) (fun i hi => ?_) (fresh_back E5 hl) (E5.trans e6) h6
  · have z := mod_in (x := (i : Int) / step) s0
    exact ev_op (ev_var rfl) (ev_op (ev_op (ev_var rfl) (ev_var rfl) (rv_div hs2 (by omega))) (ev_var rfl) (rv_mod s0)) (rv_ixL (ho ((((e2.trans e3).trans e4).trans e5).trans e6)) (il_at z.1 (by omega)))
  · have z := mod_in (x := (i : Int) / step) s0
    exact oS.at z.1 (by omega)
/-! ### the rule -/
/-- the rule at r and its table at t are new -/
structure RuleNew (H H2 : Hp) (r t : Addr) (s w : Int) (tab : List Int) : Prop where
  r0 : H r = none
  t0 : H t = none
  top : H2 r = some (.tup [.int s, .int w, .ref t])
  tab : H2 t = some (.tup (tab.map V.int))
theorem RuleNew.back {H0 H H2 : Hp} {r t : Addr} {s w : Int} {tab : List Int} (e : Ex H0 H) (h : RuleNew H H2 r t s w tab) : RuleNew H0 H2 r t s w tab := ⟨fresh_back e h.r0, fresh_back e h.t0, h.top, h.tab⟩
def RetRule (K : PySem.W.Frag) (H : Hp) (Q : VK) : Prop := ∀ (r t : Addr) (H2 : Hp) (s w : Int) (tab : List Int), Ex H H2 → RuleAt K H2 r t s w tab → Good s w tab → RuleNew H H2 r t s w tab → Q (.ref r) H2
theorem lt_size (n : Nat) (h : n ≤ 100 := by decide) : n ≤ 100000 := by omega
/-- return (s, w, f(..)): f tells a table -/
theorem ret_rule {D : Ends} {σ : L2.St} {H : Hp} {i j : Nat} {s w rows : Int} {sp : Sp} {E : XK} {ta : TA} {as : List V} (hi : σ[i]? = some (some (.int s))) (hj : σ[j]? = some (some (.int w))) (ha : EvA ta σ H as)
    (hs : ∀ H1, Ex H H1 → ∀ Q E, RetTab s rows H1 Q → sp (as ++ []) H1 Q E) (s2 : 2 ≤ s) (s4 : s ≤ 4) (w1 : 1 ≤ w) (w4 : w ≤ 4) (hr : rows = s ^ w.toNat) (h16 : rows ≤ 16) (q : RetRule K H D.rt) :
    tRet (tTup (tCons (tVar i) (tCons (tVar j) (tCons (tCall sp [] E ta) tNil)))) D σ H :=
  ⟨_, hi, _, hj, ha H (Ex.refl H) _ fun H1 e1 => hs H1 e1 _ E fun t H2 xs ht e2 h2 hl hS => ⟨sz_of (lt_size 3), fun p hp => q p t _ s w xs ((e1.trans e2).trans (Ex.new hp)) ⟨st_of upd_same, ex_t (Ex.new hp) (st_of h2)⟩ ⟨s2, s4, w1, w4, by rw [hl, hr], by omega, hS⟩ ⟨fresh_back (e1.trans e2) hp, fresh_back e1 ht, upd_same, Ex.new hp _ _ h2⟩⟩⟩
def sp_l_rule (K : PySem.W.Frag) (c : Cl) : Sp := fun vs H Q _ => ∃ (cell more : Int), vs = [.int cell, .int more] ∧ RetRule K H Q
def t_l_rule (K : PySem.W.Frag) (c : Cl) (E : XK) : TS :=
(tSeq (tAsg (tLst (tCons (tTup (tCons (tC (.int 2)) (tCons (tC (.int 3)) (tCons (tC (.int 8)) tNil)))) (tCons (tTup (tCons (tC (.int 2)) (tCons (tC (.int 2)) (tCons (tC (.int 4)) tNil)))) (tCons (tTup (tCons (tC (.int 3)) (tCons (tC (.int 2)) (tCons (tC (.int 9)) tNil)))) (tCons (tTup (tCons (tC (.int 4)) (tCons (tC (.int 2)) (tCons (tC (.int 16)) tNil)))) (tCons (tTup (tCons (tC (.int 2)) (tCons (tC (.int 1)) (tCons (tC (.int 2)) tNil)))) (tCons (tTup (tCons (tC (.int 2)) (tCons (tC (.int 4)) (tCons (tC (.int 16)) tNil)))) (tCons (tTup (tCons (tC (.int 3)) (tCons (tC (.int 1)) (tCons (tC (.int 3)) tNil)))) (tCons (tTup (tCons (tC (.int 4)) (tCons (tC (.int 1)) (tCons (tC (.int 4)) tNil)))) tNil))))))))) (gName 2))
    (tSeq (tAsg (tOp (rIxL K) (tVar 2) (tOp oMod (tVar 0) (tC (.int 8)))) (gTup K 3 (gCons (gName 3) (gCons (gName 4) (gCons (gName 5) gNil)))))
    (tSeq (tIfS (tTest (tOp rEq (tOp oMod (tOp oDiv (tVar 0) (tC (.int 8))) (tC (.int 4))) (tC (.int 1)))) (tRet (tTup (tCons (tVar 3) (tCons (tVar 4) (tCons (tCall (sp_l_mending K c) [] E0 (tCons (tVar 3) (tCons (tVar 5) (tCons (tVar 1) tNil)))) tNil))))) tNext)
    (tSeq (tIfS (tTest (tOp oGt (tOp oMod (tOp oDiv (tVar 0) (tC (.int 8))) (tC (.int 4))) (tC (.int 1)))) (tRet (tTup (tCons (tVar 3) (tCons (tVar 4) (tCons (tCall (sp_l_turned K c) [] E0 (tCons (tVar 3) (tCons (tVar 4) (tCons (tVar 5) (tCons (tVar 1) tNil))))) tNil))))) tNext)
    (tRet (tTup (tCons (tVar 3) (tCons (tVar 4) (tCons (tCall (sp_l_random K c) [] E0 (tCons (tVar 3) (tCons (tVar 5) (tCons (tVar 1) tNil)))) tNil)))))))))
theorem len_l_rule (vs : List V) (H : Hp) (Q : VK) (E : XK) (h : sp_l_rule K c vs H Q E) : vs.length = 2 := by
  obtain ⟨cell, more, rfl, _⟩ := h
  rfl
/-- three ints as a tuple's items -/
def tri (p : Int × Int × Int) : List V := [.int p.1, .int p.2.1, .int p.2.2]
theorem eap_tris {σ : L2.St} {H : Hp} : EaP tNil σ H (([] : List (Int × Int × Int)).map fun p => TupV K (tri p)) := eap_nil
theorem eap_tri {σ : L2.St} {H : Hp} {tr : TA} {a b d : Int} {l : List (Int × Int × Int)} (h : EaP tr σ H (l.map fun p => TupV K (tri p))) : EaP (tCons (tTup (tCons (tC (.int a)) (tCons (tC (.int b)) (tCons (tC (.int d)) tNil)))) tr) σ H (((a, b, d) :: l).map fun p => TupV K (tri p)) :=
  eap_cons (EvP.tup (eu_tup (ea_cons ev_c (ea_cons ev_c (ea_cons ev_c ea_nil))) (lt_size 3))) stab_tup h
theorem stabs_tris (l : List (Int × Int × Int)) : Stabs (l.map fun p => TupV K (tri p)) := fun P hP => by
  obtain ⟨p, _, rfl⟩ := List.mem_map.mp hP
  exact stab_tup
theorem stab_LstP {Ps : List VP} (st : Stabs Ps) : Stab (LstP K Ps) := fun v H H' e ⟨p, vs, hv, hs, ps⟩ => ⟨p, vs, hv, ex_l e hs, ps.ex e st⟩
def lSome : List (Int × Int × Int) := [(2, 3, 8), (2, 2, 4), (3, 2, 9), (4, 2, 16), (2, 1, 2), (2, 4, 16), (3, 1, 3), (4, 1, 4)]
def lNarrow : List (Int × Int × Int) := [(2, 1, 2), (2, 2, 4), (3, 1, 3), (4, 1, 4), (2, 3, 8), (3, 2, 9), (4, 2, 16), (2, 2, 4)]
def triOk (p : Int × Int × Int) : Bool := decide (2 ≤ p.1 ∧ p.1 ≤ 4 ∧ 1 ≤ p.2.1 ∧ p.2.1 ≤ 4 ∧ p.2.2 = p.1 ^ p.2.1.toNat ∧ p.2.2 ≤ 16 ∧ p.1 ≤ p.2.2)
theorem tri_at {l : List (Int × Int × Int)} (hl : l.length = 8) (ok : l.all triOk = true) (cell : Int) : ∃ s w rows : Int, l[(cell % 8).toNat]? = some (s, w, rows) ∧ 2 ≤ s ∧ s ≤ 4 ∧ 1 ≤ w ∧ w ≤ 4 ∧ rows = s ^ w.toNat ∧ rows ≤ 16 ∧ s ≤ rows := by
  have h := mod_in (x := cell) (s := 8) (by omega)
  have hi : (cell % 8).toNat < l.length := by omega
  obtain ⟨⟨s, w, rows⟩, hp⟩ : ∃ p, l[(cell % 8).toNat] = p := ⟨_, rfl⟩
  have m : (s, w, rows) ∈ l := by rw [← hp]; exact List.getElem_mem hi
  have z := of_decide_eq_true (List.all_eq_true.mp ok _ m)
  exact ⟨s, w, rows, by rw [List.getElem?_eq_getElem hi, hp], z⟩
theorem pick_tri {σ : L2.St} {H : Hp} {te ti : TE} {l : List (Int × Int × Int)} {cell s w rows : Int} (h : EvP te σ H (LstP K (l.map fun p => TupV K (tri p)))) (hi : Ev ti σ H (.int (cell % 8))) (hp : l[(cell % 8).toNat]? = some (s, w, rows)) :
    EvP (tOp (rIxL K) te ti) σ H (TupV K [.int s, .int w, .int rows]) :=
  evp_pick h (stabs_tris l) hi (mod_in (by omega)).1 (by rw [List.getElem?_map, hp]; rfl)
theorem evp_var {σ : L2.St} {H : Hp} {i : Nat} {v : V} {P : VP} (hi : σ[i]? = some (some v)) (h : P v H) (st : Stab P) : EvP (tVar i) σ H P := fun H1 e Q q => ⟨v, hi, q v H1 (Ex.refl H1) (st _ _ _ e h)⟩
theorem RetRule.ex {H H' : Hp} {Q : VK} (e : Ex H H') (q : RetRule K H Q) : RetRule K H' Q := fun r t H2 s w tab e2 R G N => q r t H2 s w tab (e.trans e2) R G (N.back e)
theorem pure_l_rule (vs : List V) (H : Hp) (Q : VK) (E : XK) (h : sp_l_rule K c vs H Q E) : t_l_rule K c E { nx := fun _ H' => Q .non H', rt := Q } (start' 6 vs) H := by
  obtain ⟨cell, more, rfl, q⟩ := h
  obtain ⟨s, w, rows, hp, s2, s4, w1, w4, hr, h16, hsr⟩ := tri_at (l := lSome) rfl (by decide) cell
  refine q_asgP (P := LstP K (lSome.map fun p => TupV K (tri p))) (evp_lst (eap_tri (eap_tri (eap_tri (eap_tri (eap_tri (eap_tri (eap_tri (eap_tri eap_tris)))))))) (stabs_tris _) (by show 8 ≤ 1000; omega)) fun v H1 e1 hv => ?_
  refine q_unpackP3 (x := .int s) (y := .int w) (z := .int rows) (pick_tri (l := lSome) (cell := cell) (evp_var rfl hv (stab_LstP (stabs_tris _))) (ev_op (ev_var rfl) ev_c (rv_mod (by omega))) hp) fun H2 e2 => ?_
  have E2 := e1.trans e2
  refine q_when (et_test (ev_op (ev_op (ev_op (ev_var rfl) ev_c (rv_div (by omega) (by omega))) ev_c (rv_mod (by omega))) ev_c rv_eqI)) (fun _ H3 e3 => ?_) fun _ H3 e3 => ?_
  · exact ret_rule rfl rfl (ea_cons (ev_var rfl) (ea_cons (ev_var rfl) (ea_cons (ev_var rfl) ea_nil))) (fun H4 e4 Q E z => ⟨s, rows, more, rfl, by omega, by omega, by omega, by omega, z⟩) s2 s4 w1 w4 hr h16 (RetRule.ex (E2.trans e3) q)
  refine q_when (et_test (ev_op (ev_op (ev_op (ev_var rfl) ev_c (rv_div (by omega) (by omega))) ev_c (rv_mod (by omega))) ev_c rv_I0)) (fun _ H4 e4 => ?_) fun _ H4 e4 => ?_
  · exact ret_rule rfl rfl (ea_cons (ev_var rfl) (ea_cons (ev_var rfl) (ea_cons (ev_var rfl) (ea_cons (ev_var rfl) ea_nil)))) (fun H4 e4 Q E z => ⟨s, w, rows, more, rfl, by omega, by omega, by omega, by omega, hr, by omega, z⟩) s2 s4 w1 w4 hr h16 (RetRule.ex ((E2.trans e3).trans e4) q)
  · exact ret_rule rfl rfl (ea_cons (ev_var rfl) (ea_cons (ev_var rfl) (ea_cons (ev_var rfl) ea_nil))) (fun H4 e4 Q E z => ⟨s, rows, more, rfl, by omega, by omega, by omega, z⟩) s2 s4 w1 w4 hr h16 (RetRule.ex ((E2.trans e3).trans e4) q)
end
end Br

namespace Br
open PySem PySem.Spec PyProof.Rows L2 Evl
section
variable {K : PySem.W.Frag} {σ : L2.St} {H H' : Hp} {te ti ta tb : TE} {x y z v : V} {D : Ends} {tz : TS} {P : VP} {Ps : List VP}
theorem tyx_l {a : Addr} {xs : List V} (h : SqL K H a xs) : TyX K H (.ref a) (.type "list") := by
  rcases h with (h | ⟨o, h⟩) | ⟨o, its, n, h, c, _⟩
  · exact .base (.lst h)
  · exact .base (.frz h)
  · exact .kList h c
theorem tyx_t {a : Addr} {xs : List V} (h : SqT K H a xs) : TyX K H (.ref a) (.type "tuple") := by
  rcases h with (h | ⟨o, h⟩) | ⟨o, its, n, h, c, _⟩
  · exact .base (.tup h)
  · exact .fTuple h
  · exact .kTuple h c
theorem tyx_of {T : String} (h : TyB K H x T) : TyX K H x (.type T) := by
  cases h with
  | non => exact .base .non
  | bl b => exact .base (.bl b)
  | int i => exact .base (.int i)
  | str x => exact .base (.str x)
  | byt b => exact .byt b
  | lst h => exact tyx_l h
  | tup h => exact tyx_t h
  | dK h => exact .base (.dK h)
/-- isinstance(x, T), both built-in -/
theorem ev_isi {T T' : String} {b : Bool} (ha : Ev ta σ H x) (h : TyB K H x T) (hb : kitB T T' = some b) : Ev (tCB (rIsi K) (tCons ta (tCons (tC (.ty T')) tNil))) σ H (.bl b) := fun H1 e Q q =>
  ha H1 e _ fun H2 e2 => ⟨x, .ty T', .type T, .type T', b, rfl, .ty T', tyx_of (TyB.ex (e.trans e2) h), kit_ty hb, q H2 e2⟩
theorem el_rep {l : Addr} {xs : List V} {k : Int} (hl : H l = some (.lst xs)) (ha : Ev ta σ H (.ref l)) (hk : Ev tb σ H (.int k)) (k0 : 0 ≤ k) (k1 : k ≤ 1000) (hz : xs.length * k.toNat ≤ 100000) : EvL (tOp oRep ta tb) σ H (List.replicate k.toNat xs).flatten := fun H1 e Q q =>
  ha H1 e _ fun H2 e2 => hk H2 (e.trans e2) _ fun H3 e3 => ⟨l, k, xs, rfl, rfl, ((e.trans e2).trans e3) l _ hl, by omega, by omega, sz_of hz, fun p hp => q p _ (fresh_back (e2.trans e3) hp) ((e2.trans e3).trans (Ex.new hp)) upd_same⟩
/-- a slice of a new list -/
theorem el_slN {tl th : TO} {xs : List V} {lo hi : Option Int} (h : EvL te σ H xs) (h1 : EvO tl σ H lo) (h2 : EvO th σ H hi) : EvL (tSl (rSlL K) te tl th) σ H (cutV xs lo hi) := fun H1 e Q q =>
  h H1 e _ fun p H2 hp e2 hx => h1 H2 (e.trans e2) _ fun H3 e3 => h2 H3 ((e.trans e2).trans e3) _ fun H4 e4 =>
    ⟨p, xs, rfl, sq_of (e4 _ _ (e3 _ _ hx)), fun l hl => q l _ (fresh_back ((e2.trans e3).trans e4) hl) (((e2.trans e3).trans e4).trans (Ex.new hl)) upd_same⟩
theorem eu_tupV {p : Addr} {xs : List V} (h : Ev te σ H (.ref p)) (hx : SqL K H p xs) : EvU (tCB (oTupS K) (tCons te tNil)) σ H xs := fun H1 e Q q =>
  h H1 e _ fun H2 e2 => ⟨p, xs, rfl, Or.inl ⟨ex_l (e.trans e2) hx, fun l hl => q l _ (fresh_back e2 hl) (e2.trans (Ex.new hl)) upd_same⟩⟩
theorem rv_pow {i j : Int} (h : CPow i j) : RV oPow (.int i) (.int j) H (.int (i ^ j.toNat)) := rv_I h
theorem given_none (n : Nat) (v : Nat → V) : given n (fun _ => false) v = [] := by
  unfold given
  rw [List.filter_eq_nil_iff.mpr (by simp)]
  rfl
end
section
variable {K : PySem.W.Frag} {c : Cl}
def sp_l_sign (K : PySem.W.Frag) (c : Cl) : Sp := fun vs H Q _ => ∃ (r t a : Addr) (s w : Int) (tab cells : List Int), vs = [.ref r, .ref a] ∧ RuleAt K H r t s w tab ∧ Good s w tab ∧ IL K H a cells ∧ InS s cells ∧ (cells.length : Int) = w ∧
  RetV (.int (tab.getD (numOf s cells).toNat 0)) H Q
def t_l_sign (K : PySem.W.Frag) (c : Cl) (E : XK) : TS :=
(tSeq (tAsg (tC (.int 0)) (gName 2))
    (tSeq (tFor (iList K (tVar 1)) (gName 3) (tAsg (tOp oAdd (tOp oMul (tVar 2) (tOp (rIxT K) (tVar 0) (tC (.int 0)))) (tVar 3)) (gName 2)))
    (tRet (tOp (rIxT K) (tOp (rIxT K) (tVar 0) (tC (.int 2))) (tVar 2)))))
theorem len_l_sign (vs : List V) (H : Hp) (Q : VK) (E : XK) (h : sp_l_sign K c vs H Q E) : vs.length = 2 := by
  obtain ⟨r, t, a, s, w, tab, cells, rfl, _⟩ := h
  rfl
theorem pure_l_sign (vs : List V) (H : Hp) (Q : VK) (E : XK) (h : sp_l_sign K c vs H Q E) : t_l_sign K c E { nx := fun _ H' => Q .non H', rt := Q } (start' 4 vs) H := by
  obtain ⟨r, t, a, s, w, tab, cells, rfl, R, G, hc, hs, hl, q⟩ := h
  have g2 := G.s2
  have g4 := G.s4
  refine q_asg (v := .int 0) ev_c fun H1 e1 => ?_
  refine q_forLn (ev_var rfl) (ex_l e1 hc) (fun i σ' H' => ∃ y, σ' = [some (.ref r), some (.ref a), some (.int (numOf s (cells.take i))), y] ∧ Ex H H') (fun H2 e2 => ⟨none, by simp [start', numOf], e1.trans e2⟩)
    (fun i σ' H' _ ⟨_, _, e⟩ => ex_l e hc) (fun i x σ' H' hi p => ?_) (fun σ' H' p => ?_)
  · obtain ⟨y, rfl, e⟩ := p
    obtain ⟨z, hz, rfl⟩ := int_at hi
    refine s_asg (v := .int (numOf s (cells.take (i + 1)))) ?_ fun H2 e2 => ⟨some (.int z), rfl, e.trans e2⟩
    refine ev_is (v := .int (numOf s (cells.take i) * s + z)) ?_ (by rw [take_more hz, numOf_app])
    exact ev_op (ev_op (ev_var rfl) (ev_op (ev_var rfl) ev_c (rv_ixT (ex_t e R.top) (atI_nat (j := 0) rfl))) (rv_mul (Or.inr ⟨by omega, by omega⟩))) (ev_var rfl) rv_I0
  · obtain ⟨y, rfl, e⟩ := p
    rw [List.length_map, List.take_length]
    exact s_ret (ev_op (ev_op (ev_var rfl) ev_c (rv_ixT (ex_t e R.top) (atI_nat (j := 2) rfl))) (ev_var rfl) (rv_ixT (ex_t e R.tab) (G.at hs hl))) fun H2 e2 => q H2 (e.trans e2)
theorem spv_l_sign {H : Hp} {r t a : Addr} {s w : Int} {tab cells : List Int} (R : RuleAt K H r t s w tab) (G : Good s w tab) (hc : IL K H a cells) (hs : InS s cells) (hl : (cells.length : Int) = w) :
    SpV (sp_l_sign K c) [.ref r, .ref a] H (.int (tab.getD (numOf s cells).toNat 0)) := fun H1 e Q q E => ⟨r, t, a, s, w, tab, cells, rfl, R.ex e, G, ex_l e hc, hs, hl, q⟩
/-! ### on -/
def sp_l_on (K : PySem.W.Frag) (c : Cl) : Sp := fun vs H Q _ => ∃ (r t a : Addr) (s w : Int) (tab cells : List Int), vs = [.ref r, .ref a] ∧ RuleAt K H r t s w tab ∧ Good s w tab ∧ IL K H a cells ∧ InS s cells ∧ w - 1 ≤ cells.length ∧ cells.length ≤ 30000 ∧
  RetL ((signsFrom s w tab cells).map V.int) H Q
def t_l_on (K : PySem.W.Frag) (c : Cl) (E : XK) : TS :=
(tRet (tLc (iRng1 (tCons (tOp oAdd (tOp oSub (tCB (Evl.rLenS K) (tCons (tVar 1) tNil)) (tOp (rIxT K) (tVar 0) (tC (.int 1)))) (tC (.int 1))) tNil)) (gName 2) tYes (tCall (sp_l_sign K c) [] E0 (tCons (tVar 0) (tCons (tSl (rSlL K) (tVar 1) (tPart (tVar 2)) (tPart (tOp oAdd (tVar 2) (tOp (rIxT K) (tVar 0) (tC (.int 1)))))) tNil))) [2]))
theorem len_l_on (vs : List V) (H : Hp) (Q : VK) (E : XK) (h : sp_l_on K c vs H Q E) : vs.length = 2 := by
  obtain ⟨r, t, a, s, w, tab, cells, rfl, _⟩ := h
  rfl
theorem pure_l_on (vs : List V) (H : Hp) (Q : VK) (E : XK) (h : sp_l_on K c vs H Q E) : t_l_on K c E { nx := fun _ H' => Q .non H', rt := Q } (start' 3 vs) H := by
  obtain ⟨r, t, a, s, w, tab, cells, rfl, R, G, hc, hs, l1, l2, q⟩ := h
  have g1 := G.w1
  have g4 := G.w4
  refine s_retL (xs := (signsFrom s w tab cells).map V.int) ?_ q
  have e0 : (signsFrom s w tab cells).map V.int = (List.range ((cells.length : Int) - w + 1).toNat).map fun i => V.int (tab.getD (numOf s ((cells.drop i).take w.toNat)).toNat 0) := by
    unfold signsFrom
    rw [List.map_map, show cells.length + 1 - w.toNat = ((cells.length : Int) - w + 1).toNat by omega]
    rfl
  rw [e0]
  have hw : ∀ {σ' : L2.St} {H2 : Hp}, Ex H H2 → σ'[0]? = some (some (.ref r)) → Ev (tOp (rIxT K) (tVar 0) (tC (.int 1))) σ' H2 (.int w) := fun e h0 => ev_op (ev_var h0) ev_c (rv_ixT (ex_t e R.top) (atI_nat (j := 1) rfl))
  refine el_mapR _ (n := (cells.length : Int) - w + 1) ?_ (by omega) (fun _ => rfl) fun i H2 e2 hi => ?_
  · exact ea_cons (ev_is (ev_op (ev_op (ev_lenS (ev_var rfl) (Or.inl hc)) (hw (Ex.refl H) rfl) rv_I0) ev_c rv_I0) (by rw [List.length_map])) ea_nil
  · have hk : InS s ((cells.drop i).take w.toNat) := (hs.drop i).take _
    have hcut : EvL (tSl (rSlL K) (tVar 1) (tPart (tVar 2)) (tPart (tOp oAdd (tVar 2) (tOp (rIxT K) (tVar 0) (tC (.int 1)))))) ((wipe (start' 3 [.ref r, .ref a]) [2]).set 2 (some (.int (i : Int)))) H2 (((cells.drop i).take w.toNat).map V.int) := by
      have z := el_sl (K := K) (te := tVar 1) (tl := tPart (tVar 2)) (th := tPart (tOp oAdd (tVar 2) (tOp (rIxT K) (tVar 0) (tC (.int 1))))) (σ := (wipe (start' 3 [.ref r, .ref a]) [2]).set 2 (some (.int (i : Int)))) (ev_var rfl) (eo_some (ev_var rfl)) (eo_some (ev_op (ev_var rfl) (hw e2 rfl) rv_I0)) (ex_l e2 hc)
      rw [show (i : Int) + w = ((i + w.toNat : Nat) : Int) by omega, cut_nat (by omega), show i + w.toNat - i = w.toNat by omega, ← List.map_drop, ← List.map_take] at z
      exact z
    exact ev_call_vl (ev_var rfl) hcut fun p H3 h3 e3 => spv_l_sign (R.ex (e2.trans e3)) G (sq_of h3) hk (sig_len g1 hi)
theorem spl_l_on {H : Hp} {r t a : Addr} {s w : Int} {tab cells : List Int} (R : RuleAt K H r t s w tab) (G : Good s w tab) (hc : IL K H a cells) (hs : InS s cells) (l1 : w - 1 ≤ cells.length) (l2 : cells.length ≤ 30000) :
    SpL (sp_l_on K c) [.ref r, .ref a] H ((signsFrom s w tab cells).map V.int) := fun H1 e Q q E => ⟨r, t, a, s, w, tab, cells, rfl, R.ex e, G, ex_l e hc, hs, l1, l2, q⟩
/-! ### ring_on -/
theorem rep_at {ring : List Int} : ∀ (m i : Nat), i < m * ring.length → (List.replicate m ring).flatten[i]? = ring[i % ring.length]?
  | 0, i, h => by omega
  | m + 1, i, h => by
    rw [List.replicate_succ, List.flatten_cons]
    by_cases hi : i < ring.length
    · rw [List.getElem?_append_left hi, Nat.mod_eq_of_lt hi]
    · rw [List.getElem?_append_right (by omega), rep_at m (i - ring.length) (by rw [Nat.add_mul, Nat.one_mul] at h; omega), Nat.mod_eq_sub_mod (a := i) (show ring.length ≤ i by omega)]
theorem rep_take {ring : List Int} (hn : ring ≠ []) {m n : Nat} (h : n ≤ m * ring.length) : ((List.replicate m ring).flatten).take n = ringRow ring n := by
  have hp : 0 < ring.length := List.length_pos_iff.mpr hn
  apply List.ext_getElem?
  intro i
  unfold ringRow
  rw [List.getElem?_take, List.getElem?_map]
  by_cases hi : i < n
  · rw [if_pos hi, rep_at m i (by omega), List.getElem?_range hi, List.getElem?_eq_getElem (Nat.mod_lt _ hp)]
    simp [List.getD, List.getElem?_eq_getElem (Nat.mod_lt _ hp)]
  · rw [if_neg hi, List.getElem?_eq_none (by simpa using hi)]
    rfl
def sp_l_ring_on (K : PySem.W.Frag) (c : Cl) : Sp := fun vs H Q _ => ∃ (r t a : Addr) (s w : Int) (tab cells : List Int), vs = [.ref r, .ref a] ∧ RuleAt K H r t s w tab ∧ Good s w tab ∧ H a = some (.lst (cells.map V.int)) ∧ InS s cells ∧ cells ≠ [] ∧ cells.length ≤ 5000 ∧
  RetL ((ringOn s w tab cells).map V.int) H Q
def t_l_ring_on (K : PySem.W.Frag) (c : Cl) (E : XK) : TS :=
(tRet (tCall (sp_l_on K c) [] E0 (tCons (tVar 0) (tCons (tSl (rSlL K) (tOp oRep (tVar 1) (tOp oAdd (tC (.int 1)) (tOp (rIxT K) (tVar 0) (tC (.int 1))))) tNoPart (tPart (tOp oSub (tOp oAdd (tCB (Evl.rLenS K) (tCons (tVar 1) tNil)) (tOp (rIxT K) (tVar 0) (tC (.int 1)))) (tC (.int 1))))) tNil))))
theorem len_l_ring_on (vs : List V) (H : Hp) (Q : VK) (E : XK) (h : sp_l_ring_on K c vs H Q E) : vs.length = 2 := by
  obtain ⟨r, t, a, s, w, tab, cells, rfl, _⟩ := h
  rfl
theorem pure_l_ring_on (vs : List V) (H : Hp) (Q : VK) (E : XK) (h : sp_l_ring_on K c vs H Q E) : t_l_ring_on K c E { nx := fun _ H' => Q .non H', rt := Q } (start' 2 vs) H := by
  obtain ⟨r, t, a, s, w, tab, cells, rfl, R, G, hc, hs, hn, l2, q⟩ := h
  have g1 := G.w1
  have g4 := G.w4
  have hp : 0 < cells.length := List.length_pos_iff.mpr hn
  have hw : ∀ {σ' : L2.St} {H2 : Hp}, Ex H H2 → σ'[0]? = some (some (.ref r)) → Ev (tOp (rIxT K) (tVar 0) (tC (.int 1))) σ' H2 (.int w) := fun e h0 => ev_op (ev_var h0) ev_c (rv_ixT (ex_t e R.top) (atI_nat (j := 1) rfl))
  have hwn : w.toNat = 1 ∨ w.toNat = 2 ∨ w.toNat = 3 ∨ w.toNat = 4 := by omega
  have hz : cells.length * (1 + w).toNat ≤ 100000 := by
    have h5 : (1 + w).toNat ≤ 5 := by omega
    have := Nat.mul_le_mul l2 h5
    omega
  have hcut : EvL (tSl (rSlL K) (tOp oRep (tVar 1) (tOp oAdd (tC (.int 1)) (tOp (rIxT K) (tVar 0) (tC (.int 1))))) tNoPart (tPart (tOp oSub (tOp oAdd (tCB (Evl.rLenS K) (tCons (tVar 1) tNil)) (tOp (rIxT K) (tVar 0) (tC (.int 1)))) (tC (.int 1))))) (start' 2 [.ref r, .ref a]) H
      ((ringRow cells (cells.length + (w.toNat - 1))).map V.int) := by
    have z := el_slN (K := K) (H := H) (σ := start' 2 [.ref r, .ref a]) (te := tOp oRep (tVar 1) (tOp oAdd (tC (.int 1)) (tOp (rIxT K) (tVar 0) (tC (.int 1))))) (tl := tNoPart) (th := tPart (tOp oSub (tOp oAdd (tCB (Evl.rLenS K) (tCons (tVar 1) tNil)) (tOp (rIxT K) (tVar 0) (tC (.int 1)))) (tC (.int 1))))
      (el_rep hc (ev_var rfl) (ev_op ev_c (hw (Ex.refl H) rfl) rv_I0) (by omega) (by omega) (by rw [List.length_map]; exact hz)) eo_none (eo_some (ev_op (ev_op (ev_lenS (ev_var rfl) (Or.inl (sq_of hc))) (hw (Ex.refl H) rfl) rv_I0) ev_c rv_I0))
    rw [List.length_map, show (cells.length : Int) + w - 1 = ((cells.length + (w.toNat - 1) : Nat) : Int) by omega, cut_take, ← List.map_replicate, ← List.map_flatten, ← List.map_take, rep_take hn (by
      rw [show (1 + w).toNat = w.toNat + 1 by omega, Nat.succ_mul]
      have := Nat.le_mul_of_pos_right w.toNat hp
      omega)] at z
    exact z
  refine s_retL (el_call_vl (ev_var rfl) hcut fun p H1 h1 e1 => spl_l_on (R.ex e1) G (sq_of h1) (hs.ringRow hn _) ?_ ?_) q
  · unfold ringRow
    rw [List.length_map, List.length_range]
    omega
  · unfold ringRow
    rw [List.length_map, List.length_range]
    omega
theorem spl_l_ring_on {H : Hp} {r t a : Addr} {s w : Int} {tab cells : List Int} (R : RuleAt K H r t s w tab) (G : Good s w tab) (hc : H a = some (.lst (cells.map V.int))) (hs : InS s cells) (hn : cells ≠ []) (l2 : cells.length ≤ 5000) :
    SpL (sp_l_ring_on K c) [.ref r, .ref a] H ((ringOn s w tab cells).map V.int) := fun H1 e Q q E => ⟨r, t, a, s, w, tab, cells, rfl, R.ex e, G, e _ _ hc, hs, hn, l2, q⟩
/-! ### piece -/
def lPiece (s cell : Int) (n : Nat) : List Int := (List.range n).map fun (i : Nat) => lMixed cell (i : Int) / 3 % s
theorem lPiece_len (s cell : Int) (n : Nat) : (lPiece s cell n).length = n := by
  unfold lPiece
  rw [List.length_map, List.length_range]
theorem lPiece_in {s : Int} (s0 : 0 < s) (cell : Int) (n : Nat) : InS s (lPiece s cell n) := fun x hx => by
  obtain ⟨i, _, rfl⟩ := List.mem_map.mp hx
  exact mod_in s0
def sp_l_piece (K : PySem.W.Frag) (c : Cl) : Sp := fun vs H Q _ => ∃ (r t : Addr) (s w cell size : Int) (tab : List Int), vs = [.ref r, .int cell, .int size] ∧ RuleAt K H r t s w tab ∧ Good s w tab ∧ 0 ≤ size ∧ size ≤ 10000 ∧ RetL ((lPiece s cell size.toNat).map V.int) H Q
def t_l_piece (K : PySem.W.Frag) (c : Cl) (E : XK) : TS :=
(tRet (tLc (iRng1 (tCons (tVar 2) tNil)) (gName 3) tYes (tOp oMod (tOp oDiv (tCall (sp_l_mixed K c) [] E0 (tCons (tVar 1) (tCons (tVar 3) tNil))) (tC (.int 3))) (tOp (rIxT K) (tVar 0) (tC (.int 0)))) [3]))
theorem len_l_piece (vs : List V) (H : Hp) (Q : VK) (E : XK) (h : sp_l_piece K c vs H Q E) : vs.length = 3 := by
  obtain ⟨r, t, s, w, cell, size, tab, rfl, _⟩ := h
  rfl
theorem pure_l_piece (vs : List V) (H : Hp) (Q : VK) (E : XK) (h : sp_l_piece K c vs H Q E) : t_l_piece K c E { nx := fun _ H' => Q .non H', rt := Q } (start' 4 vs) H := by
  obtain ⟨r, t, s, w, cell, size, tab, rfl, R, G, z0, z1, q⟩ := h
  have g2 := G.s2
  refine s_retL (xs := (lPiece s cell size.toNat).map V.int) ?_ q
  unfold lPiece
  rw [List.map_map]
  refine el_mapR (fun i => V.int (lMixed cell i / 3 % s)) (ea_cons (ev_var rfl) ea_nil) (by omega) (fun _ => rfl) fun i H1 e1 hi => ?_
  exact ev_op (ev_op (ev_call (ea_cons (ev_var rfl) (ea_cons (ev_var rfl) ea_nil)) (spv_l_mixed (by omega) (by omega))) ev_c (rv_div (by omega) (by omega))) (ev_op (ev_var rfl) ev_c (rv_ixT (ex_t e1 R.top) (atI_nat (j := 0) rfl))) (rv_mod (by omega))
theorem spl_l_piece {H : Hp} {r t : Addr} {s w cell size : Int} {tab : List Int} (R : RuleAt K H r t s w tab) (G : Good s w tab) (z0 : 0 ≤ size) (z1 : size ≤ 10000) :
    SpL (sp_l_piece K c) [.ref r, .int cell, .int size] H ((lPiece s cell size.toNat).map V.int) := fun H1 e Q q E => ⟨r, t, s, w, cell, size, tab, rfl, R.ex e, G, z0, z1, q⟩
/-! ### signs -/
def sp_l_signs (K : PySem.W.Frag) (c : Cl) : Sp := fun vs H Q _ => ∃ (a b : Addr) (xs ys : List Int), vs = [.ref a, .ref b] ∧ IL K H a xs ∧ IL K H b ys ∧ xs.length ≤ 40000 ∧ RetV (.bl (decide (xs = ys))) H Q
def t_l_signs (K : PySem.W.Frag) (c : Cl) (E : XK) : TS :=
(tSeq (tIfS (tOr (tNot (tB (tCB (rIsi K) (tCons (tVar 0) (tCons (tC (.ty "list")) tNil))))) (tTest (tOp (rNeD K) (tVar 0) (tVar 1)))) (tRet (tC (.bl false))) tNext)
    (tRet (tOp (rEqD K) (tLc (iList K (tVar 0)) (gName 2) (tB (tCB (rIsi K) (tCons (tVar 2) (tCons (tC (.ty "bool")) tNil)))) (tVar 2) [2]) (tLst tNil))))
theorem len_l_signs (vs : List V) (H : Hp) (Q : VK) (E : XK) (h : sp_l_signs K c vs H Q E) : vs.length = 2 := by
  obtain ⟨a, b, xs, ys, rfl, _⟩ := h
  rfl
theorem pure_l_signs (vs : List V) (H : Hp) (Q : VK) (E : XK) (h : sp_l_signs K c vs H Q E) : t_l_signs K c E { nx := fun _ H' => Q .non H', rt := Q } (start' 3 vs) H := by
  obtain ⟨a, b, xs, ys, rfl, ha, hb, hl, q⟩ := h
  refine q_when (b := !decide (xs = ys)) (et_is (et_or (a := false) (b := !decide (xs = ys)) ?_ fun _ => ?_) (by simp)) (fun hb H1 e1 => ?_) fun hb' H1 e1 => ?_
  · exact et_is (et_not (et_B (ev_isi (ev_var rfl) (.lst ha) (b := true) (by decide +kernel)))) rfl
  · have z := rv_neData (H := H) (dp_il ha) (dp_il hb) (shaped_dI _) (shaped_dI _)
    rw [eqv_dI] at z
    exact et_test (ev_op (ev_var rfl) (ev_var rfl) z)
  · refine s_ret (v := .bl (decide (xs = ys))) (ev_is ev_c ?_) fun H2 e2 => q H2 (e1.trans e2)
    have : decide (xs = ys) = false := by simpa using hb
    rw [this]
  · have he : decide (xs = ys) = true := by simpa using hb'
    refine s_ret (v := .bl (decide (xs = ys))) ?_ fun H2 e2 => q H2 (e1.trans e2)
    rw [he]
    have z1 : EvL (tLc (iList K (tVar 0)) (gName 2) (tB (tCB (rIsi K) (tCons (tVar 2) (tCons (tC (.ty "bool")) tNil)))) (tVar 2) [2]) (start' 3 [.ref a, .ref b]) H1 [] := by
      have z := el_lcL (K := K) (H := H1) (σ := start' 3 [.ref a, .ref b]) (a := a) (xs := xs.map V.int) (tl := tVar 0) (j := 2) (vs := [2]) (t := tB (tCB (rIsi K) (tCons (tVar 2) (tCons (tC (.ty "bool")) tNil)))) (te := tVar 2) (fun _ => false) (fun _ => .non) (ev_var rfl) (ex_l e1 ha) (by rw [List.length_map]; exact hl) (fun _ => rfl)
        (fun i x H2 e2 hx => by
          obtain ⟨y, _, rfl⟩ := int_at hx
          exact et_B (ev_isi (ev_var rfl) (.int y) (b := false) (by decide +kernel))) (fun _ _ _ _ _ h => nomatch h)
      rw [given_none] at z
      exact z
    refine ev_is (ev_opLL z1 (el_lst ea_nil (lt_size 0)) fun p r H2 hp hr e2 => rv_eqData (dp_il (ns := []) (sq_of hp)) (dp_il (ns := []) (sq_of hr)) (shaped_dI _) (shaped_dI _)) ?_
    rw [eqv_dI]
    rfl
theorem spv_l_signs {H : Hp} {a b : Addr} {xs ys : List Int} (ha : IL K H a xs) (hb : IL K H b ys) (hl : xs.length ≤ 40000) : SpV (sp_l_signs K c) [.ref a, .ref b] H (.bl (decide (xs = ys))) := fun H1 e Q q E => ⟨a, b, xs, ys, rfl, ex_l e ha, ex_l e hb, hl, q⟩
end
end Br

namespace Br
open PySem PySem.Spec PyProof.Rows L2 Evl
section
variable {K : PySem.W.Frag} {σ : L2.St} {H H' : Hp} {te ti ta tb : TE} {x y z v : V} {D : Ends} {tz : TS} {P : VP} {Ps : List VP}
/-- of a built-in kind -/
def Typed (K : PySem.W.Frag) : VP := fun v H => ∃ T, TyB K H v T
/-- no sign of s signs -/
def OddS (K : PySem.W.Frag) (s : Int) : VP := fun v H => (∃ T, TyB K H v T) ∧ isFT v 0 (s - 1) = false
/-- no list -/
def NoL (K : PySem.W.Frag) : VP := fun v H => ∃ T, TyB K H v T ∧ T ≠ "list"
theorem stab_odd {s : Int} : Stab (OddS K s) := fun v H H' e ⟨⟨T, t⟩, h⟩ => ⟨⟨T, TyB.ex e t⟩, h⟩
theorem stab_noL : Stab (NoL K) := fun v H H' e ⟨T, t, h⟩ => ⟨T, TyB.ex e t, h⟩
theorem stabs_rep {n : Nat} (h : Stab P) : Stabs (List.replicate n P) := fun Q hQ => by
  obtain ⟨_, rfl⟩ := List.mem_replicate.mp hQ
  exact h
theorem rep_get {n : Nat} {i : Int} (h0 : 0 ≤ i) (h1 : i < n) : (List.replicate n P)[i.toNat]? = some P := by
  rw [List.getElem?_replicate, if_pos (by omega)]
theorem ev_isE {D a : Addr} {i : Nat} {cv : V} {u0 : Value} {b : Bool} (hi : σ[i]? = some (some (.ref a))) (hc : ∀ u, RelV cv u → u = u0) (hk : PySem.W.kitOne K (.ref D) u0 = some b) : Ev (tCB (rIsE K D a) (tCons (tVar i) (tCons (tC cv) tNil))) σ H (.bl b) := fun H1 e Q q =>
  ⟨_, hi, cv, u0, b, rfl, hc, hk, q H1 (Ex.refl H1)⟩
theorem kit_self {D : Value} : PySem.W.kitOne K D D = some true := by
  unfold PySem.W.kitOne
  rw [if_pos (beq_self_eq_true D)]
theorem evp_dict : EvP tDNewK σ H (NoL K) := fun H1 e Q q p hp => q _ _ (Ex.new hp) ⟨"dict", .dK upd_same, by decide⟩
end
section
variable {K : PySem.W.Frag} {c : Cl}
/-! ### odd -/
def sp_l_odd (K : PySem.W.Frag) (c : Cl) : Sp := fun vs H Q _ => ∃ (r t a : Addr) (s w cell : Int) (tab cells : List Int), vs = [.ref r, .ref a, .int cell] ∧ RuleAt K H r t s w tab ∧ Good s w tab ∧ IL K H a cells ∧ InS s cells ∧ cells.length ≤ 20000 ∧
  ∀ v H2, Ex H H2 → PThing K H2 s v false → Q v H2
def t_l_odd (K : PySem.W.Frag) (c : Cl) (E : XK) : TS :=
(tSeq (tAsg (tOp oMod (tVar 2) (tOp oAdd (tCB (Evl.rLenS K) (tCons (tVar 1) tNil)) (tC (.int 1)))) (gName 3))
    (tSeq (tAsg (tOp oMod (tOp oDiv (tVar 2) (tC (.int 16))) (tOp oPow (tC (.int 10)) (tC (.int 9)))) (gName 4))
    (tSeq (tAsg (tOp (rIxL K) (tLst (tCons (tUn oNeg (tC (.int 1))) (tCons (tOp (rIxT K) (tVar 0) (tC (.int 0))) (tCons (tOp oAdd (tOp (rIxT K) (tVar 0) (tC (.int 0))) (tVar 4)) (tCons (tC (.bl true)) (tCons (tC .non) (tCons (tC (.str "0")) (tCons (tLst (tCons (tC (.int 0)) tNil)) (tCons (tOp oSub (tUn oNeg (tVar 4)) (tC (.int 1))) tNil))))))))) (tOp oMod (tOp oDiv (tVar 2) (tC (.int 2))) (tC (.int 8)))) (gName 5))
    (tSeq (tIfS (tTest (tOp oGt (tOp oMod (tVar 2) (tC (.int 3))) (tC (.int 0)))) (tRet (tOp oCat (tOp oCat (tSl (rSlL K) (tVar 1) tNoPart (tPart (tVar 3))) (tLst (tCons (tVar 5) tNil))) (tSl (rSlL K) (tVar 1) (tPart (tVar 3)) tNoPart))) tNext)
    (tRet (tOp (rIxL K) (tLst (tCons (tCB (oTupS K) (tCons (tVar 1) tNil)) (tCons (tC (.str "01")) (tCons (tC .non) (tCons tDNewK (tCons (tC (.int 5)) (tCons (tTup (tCons (tC (.int 0)) (tCons (tC (.int 1)) tNil))) (tCons (tC (.bl true)) tNil)))))))) (tOp oMod (tOp oDiv (tVar 2) (tC (.int 3))) (tC (.int 7)))))))))
theorem len_l_odd (vs : List V) (H : Hp) (Q : VK) (E : XK) (h : sp_l_odd K c vs H Q E) : vs.length = 3 := by
  obtain ⟨r, t, a, s, w, cell, tab, cells, rfl, _⟩ := h
  rfl
theorem oddI {H : Hp} {s i : Int} (h : i < 0 ∨ s ≤ i) : OddS K s (.int i) H := ⟨⟨_, .int i⟩, by
  show (decide (0 ≤ i) && decide (i ≤ s - 1)) = false
  rcases h with h | h
  · rw [decide_eq_false (show ¬ 0 ≤ i by omega)]
    rfl
  · rw [decide_eq_false (show ¬ i ≤ s - 1 by omega), Bool.and_false]⟩
theorem pure_l_odd (vs : List V) (H : Hp) (Q : VK) (E : XK) (h : sp_l_odd K c vs H Q E) : t_l_odd K c E { nx := fun _ H' => Q .non H', rt := Q } (start' 6 vs) H := by
  obtain ⟨r, t, a, s, w, cell, tab, cells, rfl, R, G, hc, hs, hl, q⟩ := h
  have ha := mod_in (x := cell) (s := (cells.length : Int) + 1) (by omega)
  have h8 := mod_in (x := cell / 2) (s := 8) (by omega)
  have h7 := mod_in (x := cell / 3) (s := 7) (by omega)
  refine q_asg (v := .int (cell % ((cells.length : Int) + 1))) ?_ fun H1 e1 => ?_
  · exact ev_op (ev_var rfl) (ev_op (ev_is (ev_lenS (ev_var rfl) (Or.inl hc)) (by rw [List.length_map])) ev_c rv_I0) (rv_mod (by omega))
  generalize hat : cell % ((cells.length : Int) + 1) = at_ at ha ⊢
  refine q_asg (v := .int (cell / 16 % 10 ^ 9)) ?_ fun H2 e2 => ?_
  · exact ev_op (ev_op (ev_var rfl) ev_c (rv_div (by omega) (by omega))) (ev_is (ev_op ev_c ev_c (rv_pow ⟨by omega, by omega, by decide⟩)) rfl) (rv_mod (by decide))
  have hf := mod_in (x := cell / 16) (s := 10 ^ 9) (by decide)
  generalize cell / 16 % 10 ^ 9 = far at hf ⊢
  have E2 := e1.trans e2
  have hr := ex_t E2 R.top
  refine q_asgP (P := OddS K s) (evp_pick (Ps := List.replicate 8 (OddS K s)) (i := cell / 2 % 8) (evp_lst ?_ (stabs_rep stab_odd) (by rw [List.length_replicate]; omega)) (stabs_rep stab_odd) ?_ h8.1 (rep_get h8.1 h8.2)) fun v H3 e3 hv => ?_
  · have hs0 : ∀ {σ' : L2.St}, σ'[0]? = some (some (.ref r)) → Ev (tOp (rIxT K) (tVar 0) (tC (.int 0))) σ' H2 (.int s) := fun h0 => ev_op (ev_var h0) ev_c (rv_ixT hr (atI_nat (j := 0) rfl))
    refine eap_cons ((EvP.of (ev_un ev_c ru_neg)).imp fun u H' _ h => by rw [h]; exact oddI (Or.inl (by omega))) stab_odd ?_
    refine eap_cons ((EvP.of (hs0 rfl)).imp fun u H' _ h => by rw [h]; exact oddI (Or.inr (by omega))) stab_odd ?_
    refine eap_cons ((EvP.of (ev_op (hs0 rfl) (ev_var rfl) rv_I0)).imp fun u H' _ h => by rw [h]; exact oddI (Or.inr (by omega))) stab_odd ?_
    refine eap_cons ((EvP.of (ev_c (v := .bl true))).imp fun u H' _ h => by rw [h]; exact ⟨⟨_, .bl true⟩, rfl⟩) stab_odd ?_
    refine eap_cons ((EvP.of (ev_c (v := .non))).imp fun u H' _ h => by rw [h]; exact ⟨⟨_, .non⟩, rfl⟩) stab_odd ?_
    refine eap_cons ((EvP.of ev_c).imp fun u H' _ h => by rw [h]; exact ⟨⟨_, .str _⟩, rfl⟩) stab_odd ?_
    refine eap_cons ((EvP.lst (K := K) (xs := [.int 0]) (el_lst (ea_cons ev_c ea_nil) (lt_size 1))).imp fun u H' _ ⟨p, h, hp⟩ => by rw [h]; exact ⟨⟨_, .lst hp⟩, rfl⟩) stab_odd ?_
    exact eap_cons ((EvP.of (ev_op (ev_un (ev_var rfl) ru_neg) ev_c rv_I0)).imp fun u H' _ h => by rw [h]; exact oddI (Or.inl (by omega))) stab_odd eap_nil
  · exact ev_op (ev_op (ev_var rfl) ev_c (rv_div (by omega) (by omega))) ev_c (rv_mod (by omega))
  have E3 := E2.trans e3
  have hc3 := ex_l E3 hc
  refine q_when (et_test (ev_op (ev_op (ev_var rfl) ev_c (rv_mod (by omega))) ev_c rv_I0)) (fun _ H4 e4 => ?_) fun _ H4 e4 => ?_
  · have hc4 := ex_l e4 hc3
    have z1 := el_sl (K := K) (H := H4) (te := tVar 1) (tl := tNoPart) (th := tPart (tVar 3)) (σ := (((start' 6 [.ref r, .ref a, .int cell]).set 3 (some (.int at_))).set 4 (some (.int far))).set 5 (some v)) (ev_var rfl) eo_none (eo_some (ev_var rfl)) hc4
    have z2 := el_sl (K := K) (H := H4) (te := tVar 1) (tl := tPart (tVar 3)) (th := tNoPart) (σ := (((start' 6 [.ref r, .ref a, .int cell]).set 3 (some (.int at_))).set 4 (some (.int far))).set 5 (some v)) (ev_var rfl) (eo_some (ev_var rfl)) eo_none hc4
    rw [show at_ = ((at_.toNat : Nat) : Int) by omega] at z1 z2
    rw [cut_take] at z1
    rw [cut_drop] at z2
    rw [show at_ = ((at_.toNat : Nat) : Int) by omega]
    refine s_retL (el_cat (el_cat z1 (el_lst (ea_cons (ev_var rfl) ea_nil) (lt_size 1)) ?_) z2 ?_) fun p H5 hp e5 h5 => q _ H5 ((E3.trans e4).trans e5) ?_
    · rw [List.length_take, List.length_map]
      show _ + 1 ≤ _
      omega
    · rw [List.length_append, List.length_take, List.length_drop, List.length_map]
      show (_ + 1) + _ ≤ _
      omega
    · have hv5 := stab_odd _ _ _ (e4.trans e5) hv
      have z := PThing.lst (s := s) (sq_of (K := K) h5) (fun x hx => by
        rcases List.mem_append.mp hx with hx | hx
        · rcases List.mem_append.mp hx with hx | hx
          · exact ints_ty cells x (List.mem_of_mem_take hx)
          · rw [List.mem_singleton.mp hx]
            exact hv5.1
        · exact ints_ty cells x (List.mem_of_mem_drop hx)) (by
          rw [List.length_append, List.length_append, List.length_take, List.length_drop, List.length_map]
          show (_ + 1) + _ ≤ _
          omega)
      rw [show (((cells.map V.int).take at_.toNat ++ [v]) ++ (cells.map V.int).drop at_.toNat).all (fun x => isFT x 0 (s - 1)) = false by
        rw [List.all_append, List.all_append]
        show ((_ && (isFT v 0 (s - 1) && true)) && _) = false
        rw [hv5.2]
        simp] at z
      exact z
  · refine s_retP (P := NoL K) (evp_pick (Ps := List.replicate 7 (NoL K)) (i := cell / 3 % 7) (evp_lst ?_ (stabs_rep stab_noL) (by rw [List.length_replicate]; omega)) (stabs_rep stab_noL) ?_ h7.1 (rep_get h7.1 h7.2)) fun v H5 e5 ⟨T, t, hn⟩ => q v H5 ((E3.trans e4).trans e5) (.other t hn)
    · refine eap_cons ((EvP.tup (K := K) (eu_tupV (ev_var rfl) (ex_l e4 hc3))).imp fun u H' _ ⟨p, h, hp⟩ => by rw [h]; exact ⟨_, .tup hp, by decide⟩) stab_noL ?_
      refine eap_cons ((EvP.of ev_c).imp fun u H' _ h => by rw [h]; exact ⟨_, .str _, by decide⟩) stab_noL ?_
      refine eap_cons ((EvP.of (ev_c (v := .non))).imp fun u H' _ h => by rw [h]; exact ⟨_, .non, by decide⟩) stab_noL ?_
      refine eap_cons evp_dict stab_noL ?_
      refine eap_cons ((EvP.of (ev_c (v := .int 5))).imp fun u H' _ h => by rw [h]; exact ⟨_, .int 5, by decide⟩) stab_noL ?_
      refine eap_cons ((EvP.tup (K := K) (xs := [.int 0, .int 1]) (eu_tup (ea_cons ev_c (ea_cons ev_c ea_nil)) (lt_size 2))).imp fun u H' _ ⟨p, h, hp⟩ => by rw [h]; exact ⟨_, .tup hp, by decide⟩) stab_noL ?_
      exact eap_cons ((EvP.of (ev_c (v := .bl true))).imp fun u H' _ h => by rw [h]; exact ⟨_, .bl true, by decide⟩) stab_noL eap_nil
    · exact ev_op (ev_op (ev_var rfl) ev_c (rv_div (by omega) (by omega))) ev_c (rv_mod (by omega))
/-! ### refused -/
/-- what the written part says of an error class D: the clause RowError takes it, it is a ValueError -/
structure KErr (K : PySem.W.Frag) (c : Cl) (D : Addr) : Prop where
  exm : PySem.W.exmOne K (.ref D) (.ref c.RowError) = some true
  val : PySem.W.kitOne K (.ref D) (.type "ValueError") = some true
structure KFacts (K : PySem.W.Frag) (c : Cl) : Prop where
  row : KErr K c c.BadRow
  n1 : PySem.W.kitOne K (.ref c.BadRow) (.ref c.BadRule) = some false
  n2 : PySem.W.kitOne K (.ref c.BadRow) (.ref c.TooWide) = some false
  n3 : PySem.W.kitOne K (.ref c.BadRow) (.ref c.NoBack) = some false
  n4 : PySem.W.kitOne K (.ref c.BadRow) (.ref c.BadText) = some false
def sp_l_refused (K : PySem.W.Frag) (c : Cl) : Sp := fun vs H Q _ => ∃ (r t : Addr) (s w way : Int) (tab : List Int) (x : V), vs = [.int way, .ref r, x] ∧ RuleAt K H r t s w tab ∧ Good s w tab ∧
  (PThing K H s x false ∨ ∃ (a : Addr) (cells : List Int), x = .ref a ∧ IL K H a cells ∧ InS s cells ∧ cells.length ≤ 20000 ∧ ((way = 0 ∧ (cells.length : Int) < w - 1) ∨ (way ≠ 0 ∧ cells = []))) ∧ RetV (.bl true) H Q
def t_l_refused (K : PySem.W.Frag) (c : Cl) (E : XK) : TS :=
(tSeq (tTryAs K c.RowError 3 (fun W => (tIfS (tTest (tOp rEq (tVar 0) (tC (.int 0)))) (tDrop (tCallS (sp_piece_on K c) (WE W) (tCons (tVar 1) (tCons (tVar 2) tNil)))) (tDrop (tCallS (sp_ring_on K c) (WE W) (tCons (tVar 1) (tCons (tVar 2) tNil)))))) (fun a cls dd => tWhen (cls = .ref c.BadRow ∧ dd = none) (tSeq (tAsg (tOrV (tCB (rIsE K c.BadRow a) (tCons (tVar 3) (tCons (tC (.ref c.BadRule)) tNil))) (tOrV (tCB (rIsE K c.BadRow a) (tCons (tVar 3) (tCons (tC (.ref c.TooWide)) tNil))) (tCB (rIsE K c.BadRow a) (tCons (tVar 3) (tCons (tC (.ref c.NoBack)) tNil))))) (gName 4))
    (tSeq (tAsg (tOrV (tVar 4) (tCB (rIsE K c.BadRow a) (tCons (tVar 3) (tCons (tC (.ref c.BadText)) tNil)))) (gName 4))
    (tRet (tAndV (tCB (rIsE K c.BadRow a) (tCons (tVar 3) (tCons (tC (.ref c.BadRow)) tNil))) (tAndV (tCB (rIsE K c.BadRow a) (tCons (tVar 3) (tCons (tC (.ty "ValueError")) tNil))) (tNotV (tVar 4)))))))))
    (tRet (tC (.bl false))))
theorem len_l_refused (vs : List V) (H : Hp) (Q : VK) (E : XK) (h : sp_l_refused K c vs H Q E) : vs.length = 3 := by
  obtain ⟨r, t, s, w, way, tab, x, rfl, _⟩ := h
  rfl
theorem pure_l_refused (C : KFacts K c) (vs : List V) (H : Hp) (Q : VK) (E : XK) (h : sp_l_refused K c vs H Q E) : t_l_refused K c E { nx := fun _ H' => Q .non H', rt := Q } (start' 5 vs) H := by
  obtain ⟨r, t, s, w, way, tab, x, rfl, R, G, hx, q⟩ := h
  unfold t_l_refused
  show tTryAs K c.RowError 3 _ _ _ _ H
  unfold tTryAs
  generalize hW : wAs K (.ref c.RowError) 3 _ _ _ = W
  have k : ∀ H', Ex H H' → W (.ref c.BadRow) none (start' 5 [.int way, .ref r, x]) H' := fun H' e => by
    rw [← hW]
    refine ⟨true, C.row.exm, fun _ a ha => ⟨⟨rfl, rfl⟩, ?_⟩, fun z => nomatch z⟩
    refine q_asg (ev_orV (ev_isE rfl (fun u h => h) C.n1) fun _ => ev_orV (ev_isE rfl (fun u h => h) C.n2) fun _ => ev_isE rfl (fun u h => h) C.n3) fun H1 e1 => ?_
    refine q_asg (ev_orV (ev_var rfl) fun _ => ev_isE rfl (fun u h => h) C.n4) fun H2 e2 => ?_
    exact s_ret (ev_andV (ev_isE rfl (fun u h => h) kit_self) fun _ => ev_andV (ev_isE rfl (fun u h => h) C.row.val) fun _ => ev_notV (ev_var rfl)) fun H3 e3 => q H3 (((e.trans e1).trans e2).trans e3)
  have raises : ∀ H', Ex H H' → RaiseX c.BadRow H' (WE W (start' 5 [.int way, .ref r, x])) := fun H' e H2 e2 => k H2 (e.trans e2)
  refine s_if (b := decide (way = 0)) (et_test (ev_op (ev_var rfl) ev_c rv_eqI)) (fun hb H1 e1 => ?_) fun hb H1 e1 => ?_
  · have w0 := of_decide_eq_true hb
    refine ⟨.ref r, rfl, x, rfl, r, t, s, w, tab, x, rfl, R.ex e1, G, ?_⟩
    rcases hx with p | ⟨a, cells, rfl, hc, hs, hl, h | h⟩
    · exact Or.inl ⟨p.ex e1, raises H1 e1⟩
    · exact Or.inr ⟨a, cells, rfl, ex_l e1 hc, hs, hl, fun _ => raises H1 e1, fun z => absurd z (by omega)⟩
    · exact absurd w0 h.1
  · have w0 := of_decide_eq_false hb
    refine ⟨.ref r, rfl, x, rfl, r, t, s, w, tab, x, rfl, R.ex e1, G, ?_⟩
    rcases hx with p | ⟨a, cells, rfl, hc, hs, hl, h | h⟩
    · exact Or.inl ⟨p.ex e1, raises H1 e1⟩
    · exact absurd h.1 w0
    · exact Or.inr ⟨a, cells, rfl, ex_l e1 hc, hs, hl, fun _ => raises H1 e1, fun z => absurd h.2 z⟩
theorem spv_l_refused {H : Hp} {r t : Addr} {s w way : Int} {tab : List Int} {x : V} (R : RuleAt K H r t s w tab) (G : Good s w tab)
    (hx : ∀ H', Ex H H' → PThing K H' s x false ∨ ∃ (a : Addr) (cells : List Int), x = .ref a ∧ IL K H' a cells ∧ InS s cells ∧ cells.length ≤ 20000 ∧ ((way = 0 ∧ (cells.length : Int) < w - 1) ∨ (way ≠ 0 ∧ cells = []))) :
    SpV (sp_l_refused K c) [.int way, .ref r, x] H (.bl true) := fun H1 e Q q E => ⟨r, t, s, w, way, tab, x, rfl, R.ex e, G, hx H1 e, q⟩
end
end Br

namespace Br
open PySem PySem.Spec PyProof.Rows L2 Evl
/-! ### pairs of lists held, each with the same ints -/
structure PR where
  t : Addr
  p : Addr
  q : Addr
  xs : List Int
def PR.add (v : Int) (x : PR) : PR := { x with xs := x.xs ++ [v] }
def PR.apart (x y : PR) : Prop := x.p ≠ y.p ∧ x.p ≠ y.q ∧ x.q ≠ y.p ∧ x.q ≠ y.q
def PR.at (H0 H : Hp) (x : PR) : Prop := H x.t = some (.tup [.ref x.p, .ref x.q]) ∧ H x.p = some (.lst (x.xs.map V.int)) ∧ H x.q = some (.lst (x.xs.map V.int)) ∧ H0 x.p = none ∧ H0 x.q = none ∧ x.p ≠ x.q
structure Held (H0 H : Hp) (av : List Addr) (ps : List PR) : Prop where
  at_ : ∀ x ∈ ps, PR.at H0 H x
  nd : ps.Pairwise PR.apart
  av_ : ∀ a ∈ av, ∀ x ∈ ps, a ≠ x.p ∧ a ≠ x.q
theorem Held.ex {H0 H H' : Hp} {av : List Addr} {ps : List PR} (e : Ex H H') (h : Held H0 H av ps) : Held H0 H' av ps :=
  ⟨fun x hx => by
    obtain ⟨a, b, d, f⟩ := h.at_ x hx
    exact ⟨e _ _ a, e _ _ b, e _ _ d, f⟩, h.nd, h.av_⟩
theorem Held.less {H0 H : Hp} {av av' : List Addr} {ps : List PR} (hs : ∀ a ∈ av', a ∈ av) (h : Held H0 H av ps) : Held H0 H av' ps := ⟨h.at_, h.nd, fun a ha => h.av_ a (hs a ha)⟩
/-- one more address that is new -/
theorem Held.more {H0 H H' : Hp} {av : List Addr} {ps : List PR} {a : Addr} (h : Held H0 H av ps) (e : Ex H H') (ha : H a = none) : Held H0 H' (a :: av) ps :=
  ⟨(h.ex e).at_, h.nd, fun b hb x hx => by
    rcases List.mem_cons.mp hb with rfl | hb
    · obtain ⟨_, i, j, _⟩ := h.at_ x hx
      exact ⟨(ne_of_none i ha).symm, (ne_of_none j ha).symm⟩
    · exact h.av_ b hb x hx⟩
theorem Held.upd {H0 H : Hp} {av : List Addr} {ps : List PR} {a : Addr} {zs ws : List V} (h : Held H0 H av ps) (ha : a ∈ av) (hl : H a = some (.lst zs)) : Held H0 (upd H a (.lst ws)) av ps :=
  ⟨fun x hx => by
    obtain ⟨i, j, k, l⟩ := h.at_ x hx
    obtain ⟨n1, n2⟩ := h.av_ a ha x hx
    have n3 : x.t ≠ a := ne_of i hl (by intro z; cases z)
    exact ⟨by rw [upd_ne n3]; exact i, by rw [upd_ne n1.symm]; exact j, by rw [upd_ne n2.symm]; exact k, l⟩, h.nd, h.av_⟩
theorem Held.new {H0 H H1 : Hp} {av : List Addr} {ps : List PR} {x : PR} (h : Held H0 H av ps) (e0 : Ex H0 H) (e : Ex H H1) (hp : H x.p = none) (hq : H x.q = none) (hx : H1 x.t = some (.tup [.ref x.p, .ref x.q])) (h1 : H1 x.p = some (.lst (x.xs.map V.int)))
    (h2 : H1 x.q = some (.lst (x.xs.map V.int))) (hn : x.p ≠ x.q) (hav : ∀ a ∈ av, ∃ o, H a = some o) : Held H0 H1 av (ps ++ [x]) :=
  ⟨fun y hy => by
    rcases List.mem_append.mp hy with hy | hy
    · exact (h.ex e).at_ y hy
    · rw [List.mem_singleton.mp hy]
      exact ⟨hx, h1, h2, fresh_back e0 hp, fresh_back e0 hq, hn⟩,
  List.pairwise_append.mpr ⟨h.nd, List.pairwise_singleton _ _, fun a ha b hb => by
    rw [List.mem_singleton.mp hb]
    obtain ⟨_, j, k, _⟩ := h.at_ a ha
    exact ⟨ne_of_none j hp, ne_of_none j hq, ne_of_none k hp, ne_of_none k hq⟩⟩,
  fun a ha y hy => by
    rcases List.mem_append.mp hy with hy | hy
    · exact h.av_ a ha y hy
    · rw [List.mem_singleton.mp hy]
      obtain ⟨o, ho⟩ := hav a ha
      exact ⟨ne_of_none ho hp, ne_of_none ho hq⟩⟩
/-- both lists of one pair get one more item -/
theorem Held.push {H0 H : Hp} {av : List Addr} {A B : List PR} {x : PR} {v : Int} (h : Held H0 H av (A ++ x :: B)) : Held H0 (L2.upd (L2.upd H x.p (.lst (x.xs.map V.int ++ [.int v]))) x.q (.lst (x.xs.map V.int ++ [.int v]))) av (A ++ x.add v :: B) := by
  obtain ⟨i, j, k, l, m, n⟩ := h.at_ x (List.mem_append_right _ List.mem_cons_self)
  obtain ⟨nA, nB, nAB⟩ := List.pairwise_append.mp h.nd
  obtain ⟨nx, nB'⟩ := List.pairwise_cons.mp nB
  have hm : (x.add v).xs.map V.int = x.xs.map V.int ++ [.int v] := by
    show (x.xs ++ [v]).map V.int = _
    rw [List.map_append]
    rfl
  have other : ∀ y, y ∈ A ∨ y ∈ B → PR.at H0 (L2.upd (L2.upd H x.p (.lst (x.xs.map V.int ++ [.int v]))) x.q (.lst (x.xs.map V.int ++ [.int v]))) y := fun y hy => by
    have hy' : y ∈ A ++ x :: B := by
      rcases hy with hy | hy
      · exact List.mem_append_left _ hy
      · exact List.mem_append_right _ (List.mem_cons_of_mem _ hy)
    obtain ⟨a, b, d, f⟩ := h.at_ y hy'
    have ap : y.p ≠ x.p ∧ y.p ≠ x.q ∧ y.q ≠ x.p ∧ y.q ≠ x.q := by
      rcases hy with hy | hy
      · exact nAB y hy x List.mem_cons_self
      · obtain ⟨z1, z2, z3, z4⟩ := nx y hy
        exact ⟨z1.symm, z3.symm, z2.symm, z4.symm⟩
    obtain ⟨z1, z2, z3, z4⟩ := ap
    have t1 : y.t ≠ x.p := ne_of a j (by intro z; cases z)
    have t2 : y.t ≠ x.q := ne_of a k (by intro z; cases z)
    exact ⟨by rw [upd_ne t2, upd_ne t1]; exact a, by rw [upd_ne z2, upd_ne z1]; exact b, by rw [upd_ne z4, upd_ne z3]; exact d, f⟩
  refine ⟨fun y hy => ?_, ?_, fun a ha y hy => ?_⟩
  · rcases List.mem_append.mp hy with hy | hy
    · exact other y (Or.inl hy)
    · rcases List.mem_cons.mp hy with rfl | hy
      · have t1 : x.t ≠ x.p := ne_of i j (by intro z; cases z)
        have t2 : x.t ≠ x.q := ne_of i k (by intro z; cases z)
        refine ⟨?_, ?_, ?_, l, m, n⟩
        · show (L2.upd _ x.q _) x.t = _
          rw [upd_ne t2, upd_ne t1]
          exact i
        · rw [hm]
          show (L2.upd _ x.q _) x.p = _
          rw [upd_ne n, upd_same]
        · rw [hm]
          exact upd_same
      · exact other y (Or.inr hy)
  · exact List.pairwise_append.mpr ⟨nA, List.pairwise_cons.mpr ⟨fun b hb => nx b hb, nB'⟩, fun a ha b hb => by
      rcases List.mem_cons.mp hb with rfl | hb
      · exact nAB a ha x List.mem_cons_self
      · exact nAB a ha b (List.mem_cons_of_mem _ hb)⟩
  · rcases List.mem_append.mp hy with hy | hy
    · exact h.av_ a ha y (List.mem_append_left _ hy)
    · rcases List.mem_cons.mp hy with rfl | hy
      · exact h.av_ a ha x (List.mem_append_right _ List.mem_cons_self)
      · exact h.av_ a ha y (List.mem_append_right _ (List.mem_cons_of_mem _ hy))
section
variable {K : PySem.W.Frag} {σ : L2.St} {H H' : Hp} {te ti ta tb : TE} {x y z v : V} {D : Ends} {tz : TS} {P : VP} {Ps : List VP}
/-- l.append((a new list, a new list)) -/
theorem s_appPair {l : Addr} {i : Nat} {zs xs ys : List V} (hl : H l = some (.lst zs)) (hv : σ[i]? = some (some (.ref l))) (ha : EvL ta σ H xs) (hb : EvL tb σ H ys) (hz : zs.length < 100000)
    (k : ∀ p q t H1, H p = none → H q = none → p ≠ q → H t = none → Ex H H1 → H1 p = some (.lst xs) → H1 q = some (.lst ys) → H1 t = some (.tup [.ref p, .ref q]) → D.nx σ (upd H1 l (.lst (zs ++ [.ref t])))) :
    tDrop (tBM K "list" rAppend (tVar i) (tCons (tTup (tCons ta (tCons tb tNil))) tNil)) D σ H :=
  ⟨.ref l, hv, Or.inl ⟨rfl, zs, sq_of hl⟩, ha H (Ex.refl H) _ fun p H1 hp e1 h1 => hb H1 e1 _ fun q H2 hq e2 h2 => ⟨sz_of (lt_size 2), fun t ht =>
    have e3 : Ex H2 (upd H2 t (.tup [.ref p, .ref q])) := Ex.new ht
    ⟨l, zs, .ref t, rfl, rfl, (e1.trans (e2.trans e3)) _ _ hl, sz_lt hz, k p q t _ hp (fresh_back e1 hq) (ne_of_none h1 hq) (fresh_back (e1.trans e2) ht) (e1.trans (e2.trans e3)) (e3 _ _ (e2 _ _ h1)) (e3 _ _ h2) upd_same⟩⟩⟩
/-- an argument list by steps -/
theorem ev_isNotB {a b : Bool} (h : Ev te σ H (.bl a)) : Ev (tOp rNotB te (tC (.bl b))) σ H (.bl (!decide (a = b))) := ev_op h ev_c fun H1 _ Q q => ⟨a, b, rfl, rfl, q H1 (Ex.refl H1)⟩
theorem el_listV {p : Addr} {xs : List V} (h : Ev te σ H (.ref p)) (hx : SqL K H p xs) : EvL (tCB (rListS K) (tCons te tNil)) σ H xs := el_list h hx
/-- [x for x in l if t] == [] where no item is kept; its != -/
theorem ev_noneEq {l : Addr} {xs : List V} {tl : TE} {j : Nat} {vs : List Nat} {tt : TT} (h : Ev tl σ H (.ref l)) (hx : SqL K H l xs) (hz : xs.length ≤ 40000) (hw : ∀ x, wipe ((wipe σ vs).set j (some x)) vs = wipe σ vs)
    (ht : ∀ (i : Nat) (x : V) H1, Ex H H1 → xs[i]? = some x → EvT tt ((wipe σ vs).set j (some x)) H1 false) : EvL (tLc (iList K tl) (gName j) tt te vs) σ H [] := by
  have z := el_lcL (K := K) (H := H) (σ := σ) (te := te) (t := tt) (fun _ => false) (fun _ => .non) h hx hz hw ht (fun _ _ _ _ _ h => nomatch h)
  rw [given_none] at z
  exact z
theorem ev_eqNil (h : EvL te σ H []) : Ev (tOp (rEqD K) te (tLst tNil)) σ H (.bl true) := by
  refine ev_is (ev_opLL h (el_lst ea_nil (lt_size 0)) fun p r H2 hp hr e2 => rv_eqData (dp_il (ns := []) (sq_of hp)) (dp_il (ns := []) (sq_of hr)) (shaped_dI _) (shaped_dI _)) ?_
  rw [eqv_dI]
  rfl
theorem ev_neNil (h : EvL te σ H []) : Ev (tOp (rNeD K) te (tLst tNil)) σ H (.bl false) := by
  refine ev_is (ev_opLL h (el_lst ea_nil (lt_size 0)) fun p r H2 hp hr e2 => rv_neData (dp_il (ns := []) (sq_of hp)) (dp_il (ns := []) (sq_of hr)) (shaped_dI _) (shaped_dI _)) ?_
  rw [eqv_dI]
  rfl
theorem rv_eqIL {a b : Addr} {ns ms : List Int} (h1 : IL K H a ns) (h2 : IL K H b ms) : RV (rEqD K) (.ref a) (.ref b) H (.bl (decide (ns = ms))) := by
  have z := rv_eqData (H := H) (dp_il h1) (dp_il h2) (shaped_dI _) (shaped_dI _)
  rw [eqv_dI] at z
  exact z
theorem rv_neIL {a b : Addr} {ns ms : List Int} (h1 : IL K H a ns) (h2 : IL K H b ms) : RV (rNeD K) (.ref a) (.ref b) H (.bl (!decide (ns = ms))) := by
  have z := rv_neData (H := H) (dp_il h1) (dp_il h2) (shaped_dI _) (shaped_dI _)
  rw [eqv_dI] at z
  exact z
end
section
variable {K : PySem.W.Frag} {c : Cl}
theorem ev_cell {σ : L2.St} {H : Hp} {a : Addr} {ns : List Int} {k : Int} {i : Nat} (hi : σ[i]? = some (some (.ref a))) (hs : IL K H a ns) (k0 : 0 ≤ k) : Ev (tCall (sp_l_cell_at K c) [] E0 (tCons (tVar i) (tCons (tC (.int k)) tNil))) σ H (.int (cellAt ns k)) :=
  ev_call (ea_cons (ev_var hi) (ea_cons ev_c ea_nil)) (spv_l_cell_at hs k0)
theorem q_asgRule {σ : L2.St} {H : Hp} {D : Ends} {tz : TS} {E : XK} {ta : TA} {x y : Int} {i : Nat} (ha : EvA ta σ H [.int x, .int y])
    (k : ∀ (r t : Addr) (H1 : Hp) (s w : Int) (tab : List Int), Ex H H1 → RuleAt K H1 r t s w tab → Good s w tab → tz D (σ.set i (some (.ref r))) H1) : tSeq (tAsg (tCall (sp_l_rule K c) [] E ta) (gName i)) tz D σ H :=
  ha H (Ex.refl H) _ fun H1 e1 => ⟨x, y, rfl, fun r t H2 s w tab e2 R G _ => k r t H2 s w tab (e1.trans e2) R G⟩
end
end Br

namespace Br
open PySem PySem.Spec PyProof.Rows L2 Evl
/-! ### one rule and then another: the mathematics -/
def lft (s : Int) : Nat → Int → Int
  | 0, n => n
  | i + 1, n => lft s i n / s
theorem lft_out (s : Int) : ∀ (i : Nat) (n : Int), lft s (i + 1) n = lft s i (n / s)
  | 0, _ => rfl
  | i + 1, n => by
    show lft s (i + 1) n / s = lft s i (n / s) / s
    rw [lft_out s i n]
def cellsOf (s : Int) (w : Nat) (n : Int) : List Int := ((List.range w).map fun i => lft s i n % s).reverse
theorem cellsOf_len (s : Int) (w : Nat) (n : Int) : (cellsOf s w n).length = w := by
  unfold cellsOf
  rw [List.length_reverse, List.length_map, List.length_range]
theorem cellsOf_in {s : Int} (h : 0 < s) (w : Nat) (n : Int) : InS s (cellsOf s w n) := fun x hx => by
  obtain ⟨i, _, rfl⟩ := List.mem_map.mp (List.mem_reverse.mp hx)
  exact mod_in h
theorem cellsOf_more (s : Int) (w : Nat) (n : Int) : cellsOf s (w + 1) n = cellsOf s w (n / s) ++ [n % s] := by
  unfold cellsOf
  rw [List.range_succ_eq_map, List.map_cons, List.reverse_cons, List.map_map]
  congr 2
  apply List.map_congr_left
  intro i _
  show lft s (i + 1) n % s = lft s i (n / s) % s
  rw [lft_out]
theorem cellsOf_num {s : Int} (h2 : 2 ≤ s) : ∀ l : List Int, InS s l → cellsOf s l.length (numOf s l) = l := by
  refine snocInd (fun _ => rfl) fun l x ih h => ?_
  have hl : InS s l := fun y hy => h y (List.mem_append_left _ hy)
  have hx := h x (List.mem_append_right _ List.mem_cons_self)
  rw [List.length_append, List.length_singleton, cellsOf_more, numOf_app]
  have e1 : (numOf s l * s + x) / s = numOf s l := by
    rw [Int.add_comm, Int.add_mul_ediv_right _ _ (by omega), Int.ediv_eq_zero_of_lt hx.1 hx.2, Int.zero_add]
  have e2 : (numOf s l * s + x) % s = x := by
    rw [Int.add_comm, Int.add_mul_emod_self_right, Int.emod_eq_of_lt hx.1 hx.2]
  rw [e1, e2, ih hl]
theorem sf_get (s w : Int) (t l : List Int) (i : Nat) : (signsFrom s w t l)[i]? = if i < l.length + 1 - w.toNat then some (t.getD (numOf s ((l.drop i).take w.toNat)).toNat 0) else none := by
  unfold signsFrom
  rw [List.getElem?_map]
  split
  · rename_i h
    rw [List.getElem?_range h]
    rfl
  · rename_i h
    rw [List.getElem?_eq_none (by simpa using h)]
    rfl
theorem sf_len (s w : Int) (t l : List Int) : (signsFrom s w t l).length = l.length + 1 - w.toNat := by
  unfold signsFrom
  rw [List.length_map, List.length_range]
theorem sf_window {s w : Int} {t l : List Int} {i m : Nat} (w1 : 1 ≤ w) (hm : 1 ≤ m) (h : i + (w.toNat + m - 1) ≤ l.length) : signsFrom s w t ((l.drop i).take (w.toNat + m - 1)) = ((signsFrom s w t l).drop i).take m := by
  apply List.ext_getElem?
  intro j
  rw [sf_get, List.getElem?_take, List.getElem?_drop, sf_get]
  rw [List.length_take, List.length_drop]
  by_cases hj : j < m
  · rw [if_pos (by omega), if_pos hj, if_pos (by omega)]
    rw [List.drop_take, List.drop_drop, List.take_take]
    rw [show min w.toNat (w.toNat + m - 1 - j) = w.toNat by omega]
  · rw [if_neg (by omega), if_neg hj]
theorem getD_in {s : Int} (s0 : 0 < s) {t : List Int} (h : InS s t) (k : Nat) : 0 ≤ t.getD k 0 ∧ t.getD k 0 < s := by
  by_cases hk : k < t.length
  · exact h _ (getD_mem hk)
  · rw [List.getD, List.getElem?_eq_none (by omega)]
    exact ⟨Int.le_refl _, s0⟩
theorem sf_in {s : Int} (s0 : 0 < s) (w : Int) {t : List Int} (h : InS s t) (l : List Int) : InS s (signsFrom s w t l) := fun x hx => by
  unfold signsFrom at hx
  obtain ⟨i, _, rfl⟩ := List.mem_map.mp hx
  exact getD_in s0 h _
def joinAt (s w1 : Int) (t1 : List Int) (w2 : Int) (t2 : List Int) (k : Int) : List Int := signsFrom s w2 t2 (signsFrom s w1 t1 (cellsOf s (w1 + w2 - 1).toNat k))
def joinTab (s w1 : Int) (t1 : List Int) (w2 : Int) (t2 : List Int) : List Int := (List.range (s ^ (w1 + w2 - 1).toNat).toNat).map fun (k : Nat) => (joinAt s w1 t1 w2 t2 (k : Int)).getD 0 0
theorem joinAt_len {s w1 w2 : Int} {t1 t2 : List Int} (a : 1 ≤ w1) (b : 1 ≤ w2) (k : Int) : (joinAt s w1 t1 w2 t2 k).length = 1 := by
  unfold joinAt
  rw [sf_len, sf_len, cellsOf_len]
  omega
theorem one_list {l : List Int} (h : l.length = 1) : l = [l.getD 0 0] := by
  match l, h with
  | [x], _ => rfl
theorem pow_pos' {s : Int} (h : 0 < s) (n : Nat) : 0 < s ^ n := Int.pow_pos h
theorem Good.join {s w1 w2 : Int} {t1 t2 : List Int} (G1 : Good s w1 t1) (G2 : Good s w2 t2) (h4 : w1 + w2 - 1 ≤ 4) (h16 : s ^ (w1 + w2 - 1).toNat ≤ 16) : Good s (w1 + w2 - 1) (joinTab s w1 t1 w2 t2) := by
  have a := G1.w1
  have b := G2.w1
  have c := G1.s2
  have p := pow_pos' (s := s) (by omega) (w1 + w2 - 1).toNat
  have hl : ((joinTab s w1 t1 w2 t2).length : Int) = s ^ (w1 + w2 - 1).toNat := by
    unfold joinTab
    rw [List.length_map, List.length_range]
    omega
  refine ⟨G1.s2, G1.s4, by omega, h4, hl, by omega, fun x hx => ?_⟩
  unfold joinTab at hx
  obtain ⟨k, _, rfl⟩ := List.mem_map.mp hx
  exact getD_in (by omega) (sf_in (by omega) _ G2.rng _) _
theorem joinTab_get {s w1 w2 : Int} {t1 t2 : List Int} {n : Int} (h0 : 0 ≤ n) (h1 : n < s ^ (w1 + w2 - 1).toNat) : (joinTab s w1 t1 w2 t2).getD n.toNat 0 = (joinAt s w1 t1 w2 t2 n).getD 0 0 := by
  have hk : n.toNat < (s ^ (w1 + w2 - 1).toNat).toNat := by omega
  rw [List.getD]
  unfold joinTab
  rw [List.getElem?_map, List.getElem?_range hk]
  show (joinAt s w1 t1 w2 t2 ((n.toNat : Nat) : Int)).getD 0 0 = _
  rw [show ((n.toNat : Nat) : Int) = n by omega]
theorem sf_join {s w1 w2 : Int} {t1 t2 l : List Int} (G1 : Good s w1 t1) (G2 : Good s w2 t2) (hl : InS s l) : signsFrom s (w1 + w2 - 1) (joinTab s w1 t1 w2 t2) l = signsFrom s w2 t2 (signsFrom s w1 t1 l) := by
  have a := G1.w1
  have b := G2.w1
  apply List.ext_getElem?
  intro i
  rw [sf_get, sf_get, sf_len]
  by_cases hi : i < l.length + 1 - (w1 + w2 - 1).toNat
  · rw [if_pos hi, if_pos (by omega)]
    have hw : (((l.drop i).take (w1 + w2 - 1).toNat).length : Int) = w1 + w2 - 1 := by
      rw [List.length_take, List.length_drop]
      omega
    have hin : InS s ((l.drop i).take (w1 + w2 - 1).toNat) := (hl.drop i).take _
    obtain ⟨n0, n1⟩ := numOf_bound G1.s2 hin
    rw [show ((l.drop i).take (w1 + w2 - 1).toNat).length = (w1 + w2 - 1).toNat by omega] at n1
    rw [joinTab_get n0 n1]
    unfold joinAt
    have hc := cellsOf_num G1.s2 _ hin
    rw [show ((l.drop i).take (w1 + w2 - 1).toNat).length = (w1 + w2 - 1).toNat by omega] at hc
    rw [hc, show (w1 + w2 - 1).toNat = w1.toNat + w2.toNat - 1 by omega, sf_window a (by omega) (by omega)]
    rw [List.getD, sf_get, if_pos (by rw [List.length_take, List.length_drop, sf_len]; omega), List.drop_zero, List.take_take, Nat.min_self]
    rfl
  · rw [if_neg hi, if_neg (by omega)]
theorem ringRow_get (ring : List Int) (n i : Nat) : (ringRow ring n)[i]? = if i < n then some (ring.getD (i % ring.length) 0) else none := by
  unfold ringRow
  rw [List.getElem?_map]
  split
  · rename_i h
    rw [List.getElem?_range h]
    rfl
  · rename_i h
    rw [List.getElem?_eq_none (by simpa using h)]
    rfl
theorem ringRow_len (ring : List Int) (n : Nat) : (ringRow ring n).length = n := by
  unfold ringRow
  rw [List.length_map, List.length_range]
theorem ringOn_size {s w : Int} {t ring : List Int} (w1 : 1 ≤ w) : (ringOn s w t ring).length = ring.length := by
  unfold ringOn
  rw [sf_len, ringRow_len]
  omega
/-- a row of a ring, each window of it, by the place within the ring -/
theorem ringRow_window {ring : List Int} {n i w : Nat} (h : i + w ≤ n) : ((ringRow ring n).drop i).take w = (List.range w).map fun j => ring.getD ((i + j) % ring.length) 0 := by
  apply List.ext_getElem?
  intro j
  rw [List.getElem?_take, List.getElem?_map]
  by_cases hj : j < w
  · rw [if_pos hj, List.getElem?_drop, ringRow_get, if_pos (by omega), List.getElem?_range hj]
    rfl
  · rw [if_neg hj, List.getElem?_eq_none (by simpa using hj)]
    rfl
theorem sf_ringRow {s w : Int} {t ring : List Int} (w1 : 1 ≤ w) (hn : ring ≠ []) (m : Nat) : signsFrom s w t (ringRow ring (m + (w.toNat - 1))) = ringRow (ringOn s w t ring) m := by
  have hp : 0 < ring.length := List.length_pos_iff.mpr hn
  apply List.ext_getElem?
  intro i
  rw [sf_get, ringRow_get, ringRow_len, ringOn_size w1]
  by_cases hi : i < m
  · rw [if_pos (by omega), if_pos hi]
    have hm : i % ring.length < ring.length := Nat.mod_lt _ hp
    rw [List.getD_eq_getElem?_getD (l := ringOn s w t ring)]
    unfold ringOn
    rw [sf_get, ringRow_len, if_pos (by omega), ringRow_window (by omega), ringRow_window (by omega)]
    show some (t.getD (numOf s ((List.range w.toNat).map fun j => ring.getD ((i + j) % ring.length) 0)).toNat 0) = some (t.getD (numOf s ((List.range w.toNat).map fun j => ring.getD ((i % ring.length + j) % ring.length) 0)).toNat 0)
    congr 5
    funext j
    rw [Nat.mod_add_mod]
  · rw [if_neg (by omega), if_neg hi]
theorem ring_join {s w1 w2 : Int} {t1 t2 ring : List Int} (G1 : Good s w1 t1) (G2 : Good s w2 t2) (hl : InS s ring) (hn : ring ≠ []) : ringOn s (w1 + w2 - 1) (joinTab s w1 t1 w2 t2) ring = ringOn s w2 t2 (ringOn s w1 t1 ring) := by
  have a := G1.w1
  have b := G2.w1
  have e : ringOn s (w1 + w2 - 1) (joinTab s w1 t1 w2 t2) ring = signsFrom s (w1 + w2 - 1) (joinTab s w1 t1 w2 t2) (ringRow ring (ring.length + ((w1 + w2 - 1).toNat - 1))) := rfl
  rw [e, sf_join G1 G2 (hl.ringRow hn _), show ring.length + ((w1 + w2 - 1).toNat - 1) = (ring.length + (w2.toNat - 1)) + (w1.toNat - 1) by omega, sf_ringRow a hn]
  unfold ringOn
  rw [sf_len, ringRow_len, show ring.length + (w1.toNat - 1) + 1 - w1.toNat = ring.length by omega]
end Br

/-! ### a def that is called with the error that a suite holds -/
namespace Br
open PySem PySem.Spec PyProof.Rows L2 Evl
/-- the object of an error of the class at D -/
def ErrObj (D : Addr) (p : Addr × Obj) : Prop := Zc (.ref D) none p.2 ∧ ∃ vs, p.2.data = .fields vs
/-- what such a def promises: a, D: the error, its class -/
structure FnE (P : Program) (w : World) (K : PySem.W.Frag) (mg : Str → Option Value) (base : Heap) (k : Nat) (f : Addr) (fd : FuncData) (ps : List Str) (sp : Addr → Addr → Sp) : Prop where
  len : ∀ a D vs H Q E, sp a D vs H Q E → vs.length = ps.length
  run : ∀ (A : Around) (outer : List Env) (s : Shared) (H : Hp) (args : Args) (us : List Value) (vs : List V) (Q : VK) (D : Addr) (p : Addr × Obj), L2H.RoomH k A → ErrObj D p → L2H.PinOk outer H s p →
    Env0 P w K mg base A outer s H → BindsTo s fd args (ps.zip us) → Vals vs us → sp p.1 D vs H Q E0 → codeAny (model P w) A (.call (.ref f) args) (CR CX0 outer P w H s Q E0) s
section
variable {P : Program} {w : World} {K : PySem.W.Frag} {mg : Str → Option Value} {base : Heap}
theorem fn_err {k : Nat} {f : Addr} {x qual : Str} {st : Stmt} {fd : FuncData} {N ps : List Str} {sp : Addr → Addr → Sp} (F : Fun K x qual st f fd) (S : FnScope N ps (defScope st)) (len : ∀ a D vs H Q E, sp a D vs H Q E → vs.length = ps.length)
    (hbody : ∀ (cdv : Value) (A : Around) (outer : List Env) (s : Shared) (H : Hp) (vs : List V) (Q : VK) (D : Addr) (p : Addr × Obj), ErrObj D p → L2H.RoomH k (A.deeper (envOfC qual (defScope st) s.heap.objs.size f cdv)) → sp p.1 D vs H Q E0 →
      ∃ t, PSs (L2H.cxH CX0 P w K mg base N qual (defScope st) f cdv A outer s H E0 p).nox (defBody st) t ∧ t { nx := fun _ H' => Q .non H', rt := Q } (start N vs) H) :
    FnE P w K mg base (k + 1) f fd ps sp := by
  obtain ⟨oc, od, kV, doc, pm, an, cdv, ct, osl, rfl, lk, hcd⟩ := F.ex
  constructor
  · exact len
  intro A outer s H args us vs Q D p room eo hpin e0 hb r hsp
  have hl := len _ _ _ _ _ _ hsp
  have inn : K.In s.heap := e0.mod.kin.keeps fun b o e => (e0.bs b o e).1
  have lim : s.heap.NoLimit := e0.mod.nolimit.keeps fun b o e => (e0.bs b o e).1
  apply codeAny_call_function room.depth (inn _ _ lk) rfl S.co S.gen rfl (PySem.W.codeRec_of inn hcd) (hb _ _ _ _ _)
  · apply wpAny_newFunctionEnv_cells S.kind
    · intro y hy
      obtain ⟨n, v⟩ := y
      rcases S.par n (List.of_mem_zip hy).1 with q | q
      · exact Or.inl q
      · exact Or.inr ⟨q, PySem.W.cellsFrom_some _ _ _ (Or.inl q)⟩
    · intro env he s1 x1
      subst he
      refine ⟨lim.keeps x1.toInCall.keep, codeAny_func ?_⟩
      obtain ⟨t, ht, hq⟩ := hbody cdv A outer s H vs Q D p eo (room.deeper _) hsp
      have I := L2H.inv_startH (CX := CX0) (E := E0) S hpin e0 hl r x1
      apply wpAny_mono (ht.nox.run [] s1 (start N vs) H _ I hq)
      · intro fl s' hs
        cases fl with
        | ret u =>
          obtain ⟨v, σ', H', J, rv, q⟩ := hs
          exact ⟨v, H', J.os, J.bare, J.base, J.hok, rv, q⟩
        | next =>
          obtain ⟨σ', H', J, q⟩ := hs
          exact ⟨V.non, H', J.os, J.bare, J.base, J.hok, rfl, q⟩
        | brk =>
          obtain ⟨_, _, _, q⟩ := hs
          exact q.elim
        | cont =>
          obtain ⟨_, _, _, q⟩ := hs
          exact q.elim
      · exact fun e s' hs => hs
def HasE (P : Program) (w : World) (K : PySem.W.Frag) (mg : Str → Option Value) (base : Heap) (k : Nat) (nm : Str) (ps : List Str) (sp : Addr → Addr → Sp) : Prop :=
  ∃ f fd, FnE P w K mg base k f fd ps sp ∧ mg nm = some (.ref f) ∧ PySem.W.keepIn K (.ref f) = true ∧ Binds K fd ps []
end
section
variable {X : Cx} {k : Nat} {ps : List Str} {sp : Addr → Addr → Sp} {x : Str} {p pos : Pos} {e : Expr} {es : List Expr} {t : TA}
def tCallE (sp : Addr → Addr → Sp) (a D : Addr) (t : TA) : TE := fun σ H Q => t σ H fun vs H1 => sp a D vs H1 Q E0
theorem pe_callE {a D : Addr} {oe : Obj} (F : HasE X.prog X.w X.K X.mg X.base k x ps sp) (hr : L2H.RoomH k X.A) (eo : ErrObj D (a, oe)) (hp : (a, oe) ∈ X.pn) (hg : Gl X x)
    (ha : PA X (e :: es) t) (hdb : (x == ("__debug__" : Str)) = false := by decide) (he : starEach (e :: es) X.env = (false, eval e X.env) :: starEach es X.env := by rfl) (hpl : (backTo pos (starEach es X.env)).any (·.1) = false := by rfl) :
    PE X (.Call (.Name x p) (e :: es) [] pos) (tCallE sp a D t) := by
  obtain ⟨f, fd, F, hm, hk, hb⟩ := F
  constructor
  intro pins s σ H Q I h
  apply wpAny_Call_Name_kw
  apply ld_glob I hg hm _ hdb
  apply PySem.W.callWith_K (h₀ := X.base) I.ok.mod.kin hk _ he hpl
  apply thn (ha.run pos pins s σ H _ I h)
  rintro us s1 ⟨vs, H1, I1, r, q⟩
  refine ⟨I1.kIn, ?_⟩
  have hl : us.length = ps.length := by rw [← r.length]; exact F.len _ _ _ _ _ _ q
  have b := hb s1 us I1.kIn (by rw [List.append_nil]; exact hl)
  rw [List.append_nil] at b
  have p1 := I1.pin (a, oe) (List.mem_append_left _ hp)
  have hpin : L2H.PinOk X.stack H1 s1 (a, oe) := ⟨p1.1, p1.2.1, fun hm => (List.mem_cons.mp (I1.stkSub a hm)).elim p1.2.2.1 p1.2.2.2.1, p1.2.2.2.2⟩
  apply wpAny_call
  apply codeAny_mono (F.run X.A X.stack s1 H1 ⟨us, []⟩ us vs Q D (a, oe) hr eo hpin I1.env0 b r q)
  intro rr s' hq
  cases rr with
  | error e => exact hq.elim
  | ok fl =>
    cases fl with
    | ret u => exact I1.after hq
    | next => exact hq.elim
    | brk => exact hq.elim
    | cont => exact hq.elim
/-- isinstance(e, c), e the error that is pinned -/
theorem call_isP {a D : Addr} {oe : Obj} (C : ExcC X.K D) (eo : ErrObj D (a, oe)) (hp : (a, oe) ∈ X.pn) : CallR X (.builtin "isinstance") (rIsE X.K D a) := by
  intro pins s σ H xs us Q I r h
  obtain ⟨cc, cv, b, rfl, hcv, hk, q⟩ := h
  cases r with
  | cons rx rr =>
    cases rr with
    | cons rt rr =>
      cases rr
      cases rx
      obtain rfl := hcv _ rt
      have hget := (I.pin (a, oe) (List.mem_append_left _ hp)).1
      obtain ⟨⟨h1, h2⟩, vs, hv⟩ := eo
      obtain ⟨oc, od, oda, osl⟩ := oe
      dsimp only at h1 h2 hv
      subst h1 h2 hv
      have J : PySem.W.InstAt s.heap a ⟨.ref D, none, .fields vs, osl⟩ D none := ⟨hget, rfl, rfl, trivial⟩
      exact PySem.W.kia_one (PySem.W.handS_kitx_exc C.hg C.hk C.hs C.hd C.ha C.hn C.ht C.hm) I.kIn J hk (fun z => nomatch z) fun tk => ⟨.bl b, H, I.kept (t' := tk) fun _ _ z => z, rfl, q⟩
/-! ### a text times 0 or 1 -/
abbrev oRepS : R2 := fun x y H Q => ∃ (z : Str) (i : Int), x = .str z ∧ y = .int i ∧ z.length ≤ 16 ∧ 0 ≤ i ∧ i ≤ 1 ∧ Q (.str (PySem.Txt.mul z i)) H
theorem op_repS : OpR X (binaryOp .Mult) oRepS := by
  intro pins s σ H x y v u Q I rx ry h
  obtain ⟨z, i, rfl, rfl, hz, h0, h1, q⟩ := h
  obtain ⟨t, rfl⟩ := rx
  obtain ⟨t', rfl⟩ := ry
  exact PySem.W.KXi.mul rfl hz (by omega) (by omega) fun t2 k _ _ => ⟨.str _, H, I.tok _, ⟨_, rfl⟩, q⟩
end
/-- a suite for two classes of errors -/
theorem pss_ex {X : Cx} {b : List Stmt} {p : Addr → Prop} {t : Addr → TS} (h : ∀ D, p D → PSs X b (t D)) : PSs X b (fun Dn σ H => ∃ D, p D ∧ t D Dn σ H) :=
  ⟨fun pins s σ H Dn I ⟨D, hp, z⟩ => (h D hp).run pins s σ H Dn I z⟩
end Br

namespace Br
open PySem PySem.Spec PyProof.Rows L2 Evl
abbrev oAddS : R2 := fun x y H Q => ∃ i j, x = .str i ∧ y = .str j ∧ i.length + j.length ≤ sizeLine ∧ Q (.str (i ++ j)) H
abbrev oInsert : V → List V → Hp → VK → Prop := fun x vs H Q => ∃ (l : Addr) (xs : List V) (i : Int) (y : V), x = .ref l ∧ vs = [.int i, y] ∧ H l = some (.lst xs) ∧ xs.length < sizeLine ∧ 0 ≤ i ∧ i < 2 ^ 63 ∧ Q .non (upd H l (.lst (xs.take i.toNat ++ [y] ++ xs.drop i.toNat)))
section
variable {K : PySem.W.Frag} {σ : L2.St} {H H' : Hp} {te ti ta tb : TE} {x y z v : V} {D : Ends} {tz : TS}
theorem eu_divmod {t : TA} {i j : Int} (h : EvA t σ H [.int i, .int j]) (h0 : 0 < j) (h1 : j < 1073741824) : EvU (tCB oDivmod t) σ H [.int (i / j), .int (i % j)] := fun H1 e Q q =>
  h H1 e _ fun H2 e2 => ⟨i, j, rfl, ⟨h0, h1⟩, fun p hp => q p _ (fresh_back e2 hp) (e2.trans (Ex.new hp)) upd_same⟩
theorem el_rev {p : Addr} {xs : List V} (h : Ev te σ H (.ref p)) (hx : SqL K H p xs) : EvL (tRevL K te) σ H xs.reverse := fun H1 e Q q =>
  h H1 e _ fun H2 e2 => ⟨p, xs, rfl, ex_l (e.trans e2) hx, fun l hl => q l _ (fresh_back e2 hl) (e2.trans (Ex.new hl)) upd_same⟩
theorem s_ext {l : Addr} {xs ys : List V} (hl : H l = some (.lst xs)) (ha : Ev ta σ H (.ref l)) (h : EvL te σ H ys) (hz : xs.length + ys.length ≤ 100000) (k : ∀ H1, Ex H H1 → D.nx σ (upd H1 l (.lst (xs ++ ys)))) :
    tDrop (tBM K "list" rExtend ta (tCons te tNil)) D σ H := ha H (Ex.refl H) _ fun H1 e1 =>
  ⟨Or.inl ⟨rfl, xs, sq_of (e1 l _ hl)⟩, h H1 e1 _ fun p H2 hp e2 h2 => ⟨l, p, xs, ys, rfl, rfl, e2 l _ (e1 l _ hl), h2, sz_of hz, k H2 (e1.trans e2)⟩⟩
theorem q_insert {l : Addr} {xs : List V} {i : Int} (hl : H l = some (.lst xs)) (ha : Ev ta σ H (.ref l)) (hi : Ev ti σ H (.int i)) (h : Ev te σ H v) (h0 : 0 ≤ i) (h1 : i < 1000000) (hz : xs.length < 100000) (k : ∀ H1, Ex H H1 → tz D σ (upd H1 l (.lst (xs.take i.toNat ++ [v] ++ xs.drop i.toNat)))) :
    tSeq (tDrop (tBM K "list" oInsert ta (tCons ti (tCons te tNil)))) tz D σ H := ha H (Ex.refl H) _ fun H1 e1 =>
  ⟨Or.inl ⟨rfl, xs, sq_of (e1 l _ hl)⟩, hi H1 e1 _ fun H2 e2 => h H2 (e1.trans e2) _ fun H3 e3 => ⟨l, xs, i, v, rfl, rfl, ((e1.trans e2).trans e3) l _ hl, sz_lt hz, h0, by omega, k H3 ((e1.trans e2).trans e3)⟩⟩
/-- return (s, w, tuple(l)) -/
theorem ret_tri {i j k : Nat} {s w : Int} {l : Addr} {tab : List Int} (hi : σ[i]? = some (some (.int s))) (hj : σ[j]? = some (some (.int w))) (hk : σ[k]? = some (some (.ref l))) (hl : IL K H l tab)
    (q : ∀ r t H1, Ex H H1 → RuleAt K H1 r t s w tab → D.rt (.ref r) H1) : tRet (tTup (tCons (tVar i) (tCons (tVar j) (tCons (tCB (oTupS K) (tCons (tVar k) tNil)) tNil)))) D σ H :=
  ⟨_, hi, _, hj, _, hk, l, _, rfl, Or.inl ⟨hl, fun t ht => ⟨sz_of (lt_size 3), fun p hp => q p t _ ((Ex.new ht).trans (Ex.new hp)) ⟨st_of upd_same, ex_t (Ex.new hp) (st_of upd_same)⟩⟩⟩⟩
theorem ret_triL {j : Nat} {s w : Int} {tab : List Int} (h1 : Ev ta σ H (.int s)) (hj : σ[j]? = some (some (.int w))) (h3 : EvL te σ H (tab.map V.int))
    (q : ∀ r t H1, Ex H H1 → RuleAt K H1 r t s w tab → D.rt (.ref r) H1) : tRet (tTup (tCons ta (tCons (tVar j) (tCons (tCB (oTupS K) (tCons te tNil)) tNil)))) D σ H :=
  h1 H (Ex.refl H) _ fun H1 e1 => ⟨_, hj, by
    show te σ H1 _
    exact h3 H1 e1 _ fun l H2 hl e2 h2 => ⟨l, _, rfl, Or.inl ⟨sq_of h2, fun t ht => ⟨sz_of (lt_size 3), fun p hp => q p t _ (((e1.trans e2).trans (Ex.new ht)).trans (Ex.new hp)) ⟨st_of upd_same, ex_t (Ex.new hp) (st_of upd_same)⟩⟩⟩⟩⟩
end
section
variable {K : PySem.W.Frag} {c : Cl}
def sp_cells_of (K : PySem.W.Frag) (c : Cl) : Sp := fun vs H Q _ => ∃ (s w n : Int), vs = [.int s, .int w, .int n] ∧ 0 < s ∧ s ≤ 1000 ∧ 0 ≤ w ∧ w ≤ 1000 ∧ RetL ((cellsOf s w.toNat n).map V.int) H Q
def t_cells_of (K : PySem.W.Frag) (c : Cl) (E : XK) : TS :=
(tSeq (tAsg (tLst tNil) (gName 3))
    (tSeq (tAsg (tVar 2) (gName 4))
    (tSeq (tFor (iRng1 (tCons (tVar 1) tNil)) (gName 5) (tSeq (tAsg (tCB oDivmod (tCons (tVar 4) (tCons (tVar 0) tNil))) (gTup K 2 (gCons (gName 4) (gCons (gName 6) gNil))))
    (tDrop (tBM K "list" rAppend (tVar 3) (tCons (tVar 6) tNil)))))
    (tRet (tRevL K (tVar 3))))))
theorem len_cells_of (vs : List V) (H : Hp) (Q : VK) (E : XK) (h : sp_cells_of K c vs H Q E) : vs.length = 3 := by
  obtain ⟨s, w, n, rfl, _⟩ := h
  rfl
def digs (s : Int) (n : Int) (i : Nat) : List Int := (List.range i).map fun j => lft s j n % s
theorem digs_more (s n : Int) (i : Nat) : digs s n (i + 1) = digs s n i ++ [lft s i n % s] := by
  unfold digs
  rw [List.range_succ, List.map_append]
  rfl
theorem digs_len (s n : Int) (i : Nat) : (digs s n i).length = i := by
  unfold digs
  rw [List.length_map, List.length_range]
theorem pure_cells_of (vs : List V) (H : Hp) (Q : VK) (E : XK) (h : sp_cells_of K c vs H Q E) : t_cells_of K c E { nx := fun _ H' => Q .non H', rt := Q } (start' 7 vs) H := by
  obtain ⟨s, w, n, rfl, s0, s1, w0, w1, q⟩ := h
  refine q_asgL (xs := []) (el_lst ea_nil (lt_size 0)) fun da H1 hda e1 h1 => ?_
  refine q_asg (ev_var (v := .int n) rfl) fun H2 e2 => ?_
  refine q_forR1 (n := w) (ea_cons (ev_var rfl) ea_nil) (by omega) (fun i σ' H' => ∃ y5 y6, σ' = [some (.int s), some (.int w), some (.int n), some (.ref da), some (.int (lft s i n)), y5, y6] ∧ Ex H H' ∧ H' da = some (.lst ((digs s n i).map V.int)))
    (fun H3 e3 => ⟨none, none, rfl, (e1.trans e2).trans e3, (e2.trans e3) _ _ h1⟩) ?_ ?_
  · rintro i σ' H' hi ⟨y5, y6, rfl, e, hd⟩
    refine q_unpackP2 (x := .int (lft s i n / s)) (y := .int (lft s i n % s)) (EvP.tup (eu_divmod (ea_cons (ev_var rfl) (ea_cons (ev_var rfl) ea_nil)) s0 (by omega))) fun H3 e3 => ?_
    refine s_app (e3 _ _ hd) (ev_var rfl) (ev_var rfl) (by rw [List.length_map, digs_len]; omega) fun H4 e4 => ⟨some (.int i), some (.int (lft s i n % s)), rfl, Ex.mut ((e.trans e3).trans e4) hda, ?_⟩
    rw [upd_same, digs_more, List.map_append]
    rfl
  · rintro σ' H' ⟨y5, y6, rfl, e, hd⟩
    refine s_retL (el_rev (ev_var rfl) (sq_of hd)) fun p H3 hp e3 h3 => q p H3 (fresh_back e hp) (e.trans e3) ?_
    rw [h3]
    unfold cellsOf digs
    rw [List.map_reverse]
theorem spl_cells_of {H : Hp} {s w n : Int} (s0 : 0 < s) (s1 : s ≤ 1000) (w0 : 0 ≤ w) (w1 : w ≤ 1000) : SpL (sp_cells_of K c) [.int s, .int w, .int n] H ((cellsOf s w.toNat n).map V.int) := fun H1 e Q q E => ⟨s, w, n, rfl, s0, s1, w0, w1, q⟩
/-! ### joined -/
/-- together they are a rule -/
def Joins (s w1 w2 : Int) : Prop := w1 + w2 - 1 ≤ 4 ∧ s ^ (w1 + w2 - 1).toNat ≤ 16
def RetJ (K : PySem.W.Frag) (s w1 : Int) (t1 : List Int) (w2 : Int) (t2 : List Int) (H : Hp) (Q : VK) : Prop := ∀ (r t : Addr) (H2 : Hp), Ex H H2 → RuleAt K H2 r t s (w1 + w2 - 1) (joinTab s w1 t1 w2 t2) → Q (.ref r) H2
def sp_joined (K : PySem.W.Frag) (c : Cl) : Sp := fun vs H Q E => ∃ (r1 u1 r2 u2 : Addr) (s1 w1 s2 w2 : Int) (t1 t2 : List Int), vs = [.ref r1, .ref r2] ∧ RuleAt K H r1 u1 s1 w1 t1 ∧ Good s1 w1 t1 ∧ RuleAt K H r2 u2 s2 w2 t2 ∧ Good s2 w2 t2 ∧
  (s1 ≠ s2 → RaiseX c.BadRule H E) ∧ (s1 = s2 → ¬ Joins s1 w1 w2 → RaiseX c.TooWide H E) ∧ (s1 = s2 → Joins s1 w1 w2 → RetJ K s1 w1 t1 w2 t2 H Q)
def t_joined (K : PySem.W.Frag) (c : Cl) (E : XK) : TS :=
(tSeq (tDrop (tCall (sp_need_rule K c) [] E0 (tCons (tVar 0) tNil)))
    (tSeq (tDrop (tCall (sp_need_rule K c) [] E0 (tCons (tVar 1) tNil)))
    (tSeq (tIfS (tTest (tOp rNe (tOp (rIxT K) (tVar 0) (tC (.int 0))) (tOp (rIxT K) (tVar 1) (tC (.int 0))))) (tRaise c.BadRule E) tNext)
    (tSeq (tAsg (tOp (rIxT K) (tVar 0) (tC (.int 0))) (gName 2))
    (tSeq (tAsg (tOp oSub (tOp oAdd (tOp (rIxT K) (tVar 0) (tC (.int 1))) (tOp (rIxT K) (tVar 1) (tC (.int 1)))) (tC (.int 1))) (gName 3))
    (tSeq (tIfS (tNot (tB (tCall (sp_has_room K c) [] E0 (tCons (tVar 2) (tCons (tVar 3) tNil))))) (tRaise c.TooWide E) tNext)
    (tSeq (tAsg (tLst tNil) (gName 4))
    (tSeq (tFor (iRng1 (tCons (tCall (sp_rows_of K c) [] E0 (tCons (tVar 2) (tCons (tVar 3) tNil))) tNil)) (gName 5) (tSeq (tAsg (tCall (sp_signs_from K c) [] E0 (tCons (tVar 0) (tCons (tCall (sp_cells_of K c) [] E0 (tCons (tVar 2) (tCons (tVar 3) (tCons (tVar 5) tNil)))) tNil))) (gName 6))
    (tDrop (tBM K "list" rExtend (tVar 4) (tCons (tCall (sp_signs_from K c) [] E0 (tCons (tVar 1) (tCons (tVar 6) tNil))) tNil)))))
    (tRet (tTup (tCons (tVar 2) (tCons (tVar 3) (tCons (tCB (oTupS K) (tCons (tVar 4) tNil)) tNil)))))))))))))
theorem len_joined (vs : List V) (H : Hp) (Q : VK) (E : XK) (h : sp_joined K c vs H Q E) : vs.length = 2 := by
  obtain ⟨r1, u1, r2, u2, s1, w1, s2, w2, t1, t2, rfl, _⟩ := h
  rfl
theorem ev_rule0 {σ : L2.St} {H : Hp} {r t : Addr} {s w : Int} {tab : List Int} {i : Nat} (R : RuleAt K H r t s w tab) (hi : σ[i]? = some (some (.ref r))) : Ev (tOp (rIxT K) (tVar i) (tC (.int 0))) σ H (.int s) := ev_op (ev_var hi) ev_c (rv_ixT R.top (atI_nat (j := 0) rfl))
theorem ev_rule1 {σ : L2.St} {H : Hp} {r t : Addr} {s w : Int} {tab : List Int} {i : Nat} (R : RuleAt K H r t s w tab) (hi : σ[i]? = some (some (.ref r))) : Ev (tOp (rIxT K) (tVar i) (tC (.int 1))) σ H (.int w) := ev_op (ev_var hi) ev_c (rv_ixT R.top (atI_nat (j := 1) rfl))
theorem ev_rule2 {σ : L2.St} {H : Hp} {r t : Addr} {s w : Int} {tab : List Int} {i : Nat} (R : RuleAt K H r t s w tab) (hi : σ[i]? = some (some (.ref r))) : Ev (tOp (rIxT K) (tVar i) (tC (.int 2))) σ H (.ref t) := ev_op (ev_var hi) ev_c (rv_ixT R.top (atI_nat (j := 2) rfl))
def jAt (s w1 : Int) (t1 : List Int) (w2 : Int) (t2 : List Int) (i : Nat) : List Int := (List.range i).map fun (k : Nat) => (joinAt s w1 t1 w2 t2 (k : Int)).getD 0 0
theorem jAt_more (s w1 : Int) (t1 : List Int) (w2 : Int) (t2 : List Int) (i : Nat) (a : 1 ≤ w1) (b : 1 ≤ w2) : jAt s w1 t1 w2 t2 (i + 1) = jAt s w1 t1 w2 t2 i ++ joinAt s w1 t1 w2 t2 (i : Int) := by
  unfold jAt
  rw [List.range_succ, List.map_append, one_list (joinAt_len a b (i : Int))]
  rfl
theorem jAt_len (s w1 : Int) (t1 : List Int) (w2 : Int) (t2 : List Int) (i : Nat) : (jAt s w1 t1 w2 t2 i).length = i := by
  unfold jAt
  rw [List.length_map, List.length_range]
theorem pure_joined (vs : List V) (H : Hp) (Q : VK) (E : XK) (h : sp_joined K c vs H Q E) : t_joined K c E { nx := fun _ H' => Q .non H', rt := Q } (start' 7 vs) H := by
  obtain ⟨r1, u1, r2, u2, s1, w1, s2, w2, t1, t2, rfl, R1, G1, R2, G2, q1, q2, q3⟩ := h
  have a1 := G1.w1
  have a2 := G2.w1
  have b1 := G1.w4
  have b2 := G2.w4
  have c2 := G1.s2
  have c4 := G1.s4
  refine q_drop (ev_call (ea_cons (ev_var rfl) ea_nil) (spv_need_rule R1 G1)) fun H1 e1 => ?_
  refine q_drop (ev_call (ea_cons (ev_var rfl) ea_nil) (spv_need_rule (R2.ex e1) G2)) fun H2 e2 => ?_
  have E2 := e1.trans e2
  refine q_when (b := !decide (s1 = s2)) (et_test (ev_op (ev_rule0 (R1.ex E2) rfl) (ev_rule0 (R2.ex E2) rfl) rv_neI)) (fun hb H3 e3 => ?_) fun hb H3 e3 => ?_
  · exact q1 (by simpa using hb) H3 (E2.trans e3)
  have hs : s1 = s2 := by simpa using hb
  have E3 := E2.trans e3
  refine q_asg (ev_rule0 (R1.ex E3) rfl) fun H4 e4 => ?_
  have E4 := E3.trans e4
  refine q_asg (v := .int (w1 + w2 - 1)) (ev_op (ev_op (ev_rule1 (R1.ex E4) rfl) (ev_rule1 (R2.ex E4) rfl) rv_I0) ev_c rv_I0) fun H5 e5 => ?_
  have E5 := E4.trans e5
  refine q_when (et_not (et_B (ev_call (ea_cons (ev_var rfl) (ea_cons (ev_var rfl) ea_nil)) (spv_has_room (by omega) (by omega) (by omega) (by omega))))) (fun hb H6 e6 => ?_) fun hb H6 e6 => ?_
  · refine q2 hs (fun hj => ?_) H6 (E5.trans e6)
    rw [decide_eq_true hj.1, decide_eq_true hj.2] at hb
    cases hb
  have hj : Joins s1 w1 w2 := by
    have z : (decide (w1 + w2 - 1 ≤ 4) && decide (s1 ^ (w1 + w2 - 1).toNat ≤ 16)) = true := by simpa using hb
    rw [Bool.and_eq_true, decide_eq_true_eq, decide_eq_true_eq] at z
    exact z
  have E6 := E5.trans e6
  have hp := pow_pos' (s := s1) (by omega) (w1 + w2 - 1).toNat
  have hp16 := hj.2
  refine q_asgL (xs := []) (el_lst ea_nil (lt_size 0)) fun ta H7 hta e7 h7 => ?_
  have hta0 : H ta = none := fresh_back E6 hta
  refine q_forR1 (n := s1 ^ (w1 + w2 - 1).toNat) (ea_cons (ev_call (ea_cons (ev_var rfl) (ea_cons (ev_var rfl) ea_nil)) (spv_rows_of (by omega) (by omega) (by omega) (by omega))) ea_nil) (by omega) (fun i σ' H' => ∃ y5 y6, σ' = [some (.ref r1), some (.ref r2), some (.int s1), some (.int (w1 + w2 - 1)), some (.ref ta), y5, y6] ∧ Ex H H' ∧ H' ta = some (.lst ((jAt s1 w1 t1 w2 t2 i).map V.int)))
    (fun H8 e8 => ⟨none, none, rfl, (E6.trans e7).trans e8, e8 _ _ h7⟩) ?_ ?_
  · rintro i σ' H' hi ⟨y5, y6, rfl, e, ht⟩
    have hc := cellsOf_in (s := s1) (by omega) (w1 + w2 - 1).toNat (i : Int)
    have hl := cellsOf_len s1 (w1 + w2 - 1).toNat (i : Int)
    refine q_asgL (el_call_vl (ev_var rfl) (el_call (ea_cons (ev_var rfl) (ea_cons (ev_var rfl) (ea_cons (ev_var rfl) ea_nil))) (spl_cells_of (by omega) (by omega) (by omega) (by omega))) fun p H8 h8 e8 => spl_signs_from (R1.ex (e.trans e8)) G1 (sq_of h8) hc (by omega) (by omega)) fun bt H9 hbt e9 h9 => ?_
    have hb : InS s2 (signsFrom s1 w1 t1 (cellsOf s1 (w1 + w2 - 1).toNat (i : Int))) := by
      rw [← hs]
      exact sf_in (by omega) _ G1.rng _
    refine s_ext (e9 _ _ ht) (ev_var rfl) (el_call (ea_cons (ev_var rfl) (ea_cons (ev_var rfl) ea_nil)) (spl_signs_from (R2.ex (e.trans e9)) G2 (sq_of h9) hb (by rw [sf_len]; omega) (by rw [sf_len]; omega))) ?_ fun H10 e10 => ⟨some (.int i), some (.ref bt), rfl, Ex.mut ((e.trans e9).trans e10) hta0, ?_⟩
    · rw [List.length_map, List.length_map, jAt_len, sf_len, sf_len]
      omega
    · rw [upd_same, jAt_more _ _ _ _ _ _ a1 a2, List.map_append]
      unfold joinAt
      rw [hs]
  · rintro σ' H' ⟨y5, y6, rfl, e, ht⟩
    refine ret_tri rfl rfl rfl (sq_of ht) fun r t H8 e8 R => q3 hs hj r t H8 (e.trans e8) R
/-! ### the law's own -/
def sp_l_narrow (K : PySem.W.Frag) (c : Cl) : Sp := fun vs H Q _ => ∃ (cell more : Int), vs = [.int cell, .int more] ∧ RetRule K H Q
def t_l_narrow (K : PySem.W.Frag) (c : Cl) (E : XK) : TS :=
(tSeq (tAsg (tLst (tCons (tTup (tCons (tC (.int 2)) (tCons (tC (.int 1)) (tCons (tC (.int 2)) tNil)))) (tCons (tTup (tCons (tC (.int 2)) (tCons (tC (.int 2)) (tCons (tC (.int 4)) tNil)))) (tCons (tTup (tCons (tC (.int 3)) (tCons (tC (.int 1)) (tCons (tC (.int 3)) tNil)))) (tCons (tTup (tCons (tC (.int 4)) (tCons (tC (.int 1)) (tCons (tC (.int 4)) tNil)))) (tCons (tTup (tCons (tC (.int 2)) (tCons (tC (.int 3)) (tCons (tC (.int 8)) tNil)))) (tCons (tTup (tCons (tC (.int 3)) (tCons (tC (.int 2)) (tCons (tC (.int 9)) tNil)))) (tCons (tTup (tCons (tC (.int 4)) (tCons (tC (.int 2)) (tCons (tC (.int 16)) tNil)))) (tCons (tTup (tCons (tC (.int 2)) (tCons (tC (.int 2)) (tCons (tC (.int 4)) tNil)))) tNil))))))))) (gName 2))
    (tSeq (tAsg (tOp (rIxL K) (tVar 2) (tOp oMod (tVar 0) (tC (.int 8)))) (gTup K 3 (gCons (gName 3) (gCons (gName 4) (gCons (gName 5) gNil)))))
    (tSeq (tIfS (tTest (tOp rEq (tOp oMod (tOp oDiv (tVar 0) (tC (.int 8))) (tC (.int 2))) (tC (.int 0)))) (tRet (tTup (tCons (tVar 3) (tCons (tVar 4) (tCons (tCall (sp_l_random K c) [] E0 (tCons (tVar 3) (tCons (tVar 5) (tCons (tVar 1) tNil)))) tNil))))) tNext)
    (tRet (tTup (tCons (tVar 3) (tCons (tVar 4) (tCons (tCall (sp_l_turned K c) [] E0 (tCons (tVar 3) (tCons (tVar 4) (tCons (tVar 5) (tCons (tVar 1) tNil))))) tNil))))))))
theorem len_l_narrow (vs : List V) (H : Hp) (Q : VK) (E : XK) (h : sp_l_narrow K c vs H Q E) : vs.length = 2 := by
  obtain ⟨cell, more, rfl, _⟩ := h
  rfl
theorem pure_l_narrow (vs : List V) (H : Hp) (Q : VK) (E : XK) (h : sp_l_narrow K c vs H Q E) : t_l_narrow K c E { nx := fun _ H' => Q .non H', rt := Q } (start' 6 vs) H := by
  obtain ⟨cell, more, rfl, q⟩ := h
  obtain ⟨s, w, rows, hp, s2, s4, w1, w4, hr, h16, hsr⟩ := tri_at (l := lNarrow) rfl (by decide) cell
  refine q_asgP (P := LstP K (lNarrow.map fun p => TupV K (tri p))) (evp_lst (eap_tri (eap_tri (eap_tri (eap_tri (eap_tri (eap_tri (eap_tri (eap_tri eap_tris)))))))) (stabs_tris _) (by show 8 ≤ 1000; omega)) fun v H1 e1 hv => ?_
  refine q_unpackP3 (x := .int s) (y := .int w) (z := .int rows) (pick_tri (l := lNarrow) (cell := cell) (evp_var rfl hv (stab_LstP (stabs_tris _))) (ev_op (ev_var rfl) ev_c (rv_mod (by omega))) hp) fun H2 e2 => ?_
  have E2 := e1.trans e2
  refine q_when (et_test (ev_op (ev_op (ev_op (ev_var rfl) ev_c (rv_div (by omega) (by omega))) ev_c (rv_mod (by omega))) ev_c rv_eqI)) (fun _ H3 e3 => ?_) fun _ H3 e3 => ?_
  · exact ret_rule rfl rfl (ea_cons (ev_var rfl) (ea_cons (ev_var rfl) (ea_cons (ev_var rfl) ea_nil))) (fun H4 e4 Q E z => ⟨s, rows, more, rfl, by omega, by omega, by omega, z⟩) s2 s4 w1 w4 hr h16 (RetRule.ex (E2.trans e3) q)
  · exact ret_rule rfl rfl (ea_cons (ev_var rfl) (ea_cons (ev_var rfl) (ea_cons (ev_var rfl) (ea_cons (ev_var rfl) ea_nil)))) (fun H4 e4 Q E z => ⟨s, w, rows, more, rfl, by omega, by omega, by omega, by omega, hr, by omega, z⟩) s2 s4 w1 w4 hr h16 (RetRule.ex (E2.trans e3) q)
def sp_l_cells (K : PySem.W.Frag) (c : Cl) : Sp := fun vs H Q _ => ∃ (s w n : Int), vs = [.int s, .int w, .int n] ∧ 0 < s ∧ s ≤ 1000 ∧ 0 ≤ w ∧ w ≤ 1000 ∧ RetL ((cellsOf s w.toNat n).map V.int) H Q
def t_l_cells (K : PySem.W.Frag) (c : Cl) (E : XK) : TS :=
(tSeq (tAsg (tLst tNil) (gName 3))
    (tSeq (tFor (iRng1 (tCons (tVar 1) tNil)) (gName 4) (tSeq (tDrop (tBM K "list" oInsert (tVar 3) (tCons (tC (.int 0)) (tCons (tOp oMod (tVar 2) (tVar 0)) tNil))))
    (tAsg (tOp oDiv (tVar 2) (tVar 0)) (gName 2))))
    (tRet (tVar 3))))
theorem len_l_cells (vs : List V) (H : Hp) (Q : VK) (E : XK) (h : sp_l_cells K c vs H Q E) : vs.length = 3 := by
  obtain ⟨s, w, n, rfl, _⟩ := h
  rfl
theorem pure_l_cells (vs : List V) (H : Hp) (Q : VK) (E : XK) (h : sp_l_cells K c vs H Q E) : t_l_cells K c E { nx := fun _ H' => Q .non H', rt := Q } (start' 5 vs) H := by
  obtain ⟨s, w, n, rfl, s0, s1, w0, w1, q⟩ := h
  refine q_asgL (xs := []) (el_lst ea_nil (lt_size 0)) fun da H1 hda e1 h1 => ?_
  refine q_forR1 (n := w) (ea_cons (ev_var rfl) ea_nil) (by omega) (fun i σ' H' => ∃ y4, σ' = [some (.int s), some (.int w), some (.int (lft s i n)), some (.ref da), y4] ∧ Ex H H' ∧ H' da = some (.lst ((digs s n i).map V.int).reverse))
    (fun H3 e3 => ⟨none, rfl, e1.trans e3, e3 _ _ h1⟩) ?_ ?_
  · rintro i σ' H' hi ⟨y4, rfl, e, hd⟩
    refine q_insert (i := 0) hd (ev_var rfl) ev_c (ev_op (ev_var rfl) (ev_var rfl) (rv_mod s0)) (by omega) (by omega) (by rw [List.length_reverse, List.length_map, digs_len]; omega) fun H4 e4 => ?_
    refine s_asg (ev_op (ev_var rfl) (ev_var rfl) (rv_div s0 (by omega))) fun H5 e5 => ⟨some (.int i), rfl, (Ex.mut (e.trans e4) hda).trans e5, e5 _ _ ?_⟩
    rw [upd_same, digs_more, List.map_append, List.reverse_append]
    rfl
  · rintro σ' H' ⟨y4, rfl, e, hd⟩
    refine ⟨.ref da, rfl, q da H' hda e ?_⟩
    rw [hd]
    unfold cellsOf digs
    rw [List.map_reverse]
theorem spl_l_cells {H : Hp} {s w n : Int} (s0 : 0 < s) (s1 : s ≤ 1000) (w0 : 0 ≤ w) (w1 : w ≤ 1000) : SpL (sp_l_cells K c) [.int s, .int w, .int n] H ((cellsOf s w.toNat n).map V.int) := fun H1 e Q q E => ⟨s, w, n, rfl, s0, s1, w0, w1, q⟩
/-- what both tell of two rules -/
def DuePost (K : PySem.W.Frag) (s1 w1 : Int) (t1 : List Int) (s2 w2 : Int) (t2 : List Int) (H : Hp) (Q : VK) : Prop :=
  (s1 ≠ s2 → RetV (.str "rule") H Q) ∧ (s1 = s2 → ¬ Joins s1 w1 w2 → RetV (.str "wide") H Q) ∧ (s1 = s2 → Joins s1 w1 w2 → RetJ K s1 w1 t1 w2 t2 H Q)
def sp_l_due (K : PySem.W.Frag) (c : Cl) : Sp := fun vs H Q _ => ∃ (r1 u1 r2 u2 : Addr) (s1 w1 s2 w2 : Int) (t1 t2 : List Int), vs = [.ref r1, .ref r2] ∧ RuleAt K H r1 u1 s1 w1 t1 ∧ Good s1 w1 t1 ∧ RuleAt K H r2 u2 s2 w2 t2 ∧ Good s2 w2 t2 ∧ DuePost K s1 w1 t1 s2 w2 t2 H Q
def t_l_due (K : PySem.W.Frag) (c : Cl) (E : XK) : TS :=
(tSeq (tIfS (tTest (tOp rNe (tOp (rIxT K) (tVar 0) (tC (.int 0))) (tOp (rIxT K) (tVar 1) (tC (.int 0))))) (tRet (tC (.str "rule"))) tNext)
    (tSeq (tAsg (tOp oSub (tOp oAdd (tOp (rIxT K) (tVar 0) (tC (.int 1))) (tOp (rIxT K) (tVar 1) (tC (.int 1)))) (tC (.int 1))) (gName 2))
    (tSeq (tAsg (tC (.int 1)) (gName 3))
    (tSeq (tFor (iRng1 (tCons (tVar 2) tNil)) (gName 4) (tAsg (tOp oMul (tVar 3) (tOp (rIxT K) (tVar 0) (tC (.int 0)))) (gName 3)))
    (tSeq (tIfS (tOr (tTest (tOp oGt (tVar 2) (tC (.int 4)))) (tTest (tOp oGt (tVar 3) (tC (.int 16))))) (tRet (tC (.str "wide"))) tNext)
    (tRet (tTup (tCons (tOp (rIxT K) (tVar 0) (tC (.int 0))) (tCons (tVar 2) (tCons (tCB (oTupS K) (tCons (tLc (iRng1 (tCons (tVar 3) tNil)) (gName 4) tYes (tOp (rIxL K) (tCall (sp_l_on K c) [] E0 (tCons (tVar 1) (tCons (tCall (sp_l_on K c) [] E0 (tCons (tVar 0) (tCons (tCall (sp_l_cells K c) [] E0 (tCons (tOp (rIxT K) (tVar 0) (tC (.int 0))) (tCons (tVar 2) (tCons (tVar 4) tNil)))) tNil))) tNil))) (tC (.int 0))) [4]) tNil)) tNil))))))))))
theorem len_l_due (vs : List V) (H : Hp) (Q : VK) (E : XK) (h : sp_l_due K c vs H Q E) : vs.length = 2 := by
  obtain ⟨r1, u1, r2, u2, s1, w1, s2, w2, t1, t2, rfl, _⟩ := h
  rfl
theorem pure_l_due (vs : List V) (H : Hp) (Q : VK) (E : XK) (h : sp_l_due K c vs H Q E) : t_l_due K c E { nx := fun _ H' => Q .non H', rt := Q } (start' 5 vs) H := by
  obtain ⟨r1, u1, r2, u2, s1, w1, s2, w2, t1, t2, rfl, R1, G1, R2, G2, q1, q2, q3⟩ := h
  have a1 := G1.w1
  have a2 := G2.w1
  have b1 := G1.w4
  have b2 := G2.w4
  have c2 := G1.s2
  have c4 := G1.s4
  refine q_when (b := !decide (s1 = s2)) (et_test (ev_op (ev_rule0 R1 rfl) (ev_rule0 R2 rfl) rv_neI)) (fun hb H3 e3 => ?_) fun hb H3 e3 => ?_
  · exact s_ret ev_c fun H4 e4 => q1 (by simpa using hb) H4 (e3.trans e4)
  have hs : s1 = s2 := by simpa using hb
  subst hs
  refine q_asg (v := .int (w1 + w2 - 1)) (ev_op (ev_op (ev_rule1 (R1.ex e3) rfl) (ev_rule1 (R2.ex e3) rfl) rv_I0) ev_c rv_I0) fun H5 e5 => ?_
  have E5 := e3.trans e5
  refine q_asg (v := .int 1) ev_c fun H6 e6 => ?_
  have E6 := E5.trans e6
  refine q_forR1 (n := w1 + w2 - 1) (ea_cons (ev_var rfl) ea_nil) (by omega) (fun i σ' H' => ∃ y4, σ' = [some (.ref r1), some (.ref r2), some (.int (w1 + w2 - 1)), some (.int (s1 ^ i)), y4] ∧ Ex H H')
    (fun H7 e7 => ⟨none, by simp [start'], E6.trans e7⟩) ?_ ?_
  · rintro i σ' H' hi ⟨y4, rfl, e⟩
    refine s_asg (v := .int (s1 ^ (i + 1))) (ev_is (ev_op (ev_var rfl) (ev_rule0 (R1.ex e) rfl) (rv_mul (Or.inr ⟨by omega, by omega⟩))) (by rw [Int.pow_succ])) fun H8 e8 => ⟨some (.int i), rfl, e.trans e8⟩
  rintro σ' H' ⟨y4, rfl, e⟩
  have hp := pow_pos' (s := s1) (by omega) (w1 + w2 - 1).toNat
  refine q_when (et_or (a := decide (4 < w1 + w2 - 1)) (b := decide (16 < s1 ^ (w1 + w2 - 1).toNat)) (et_test (ev_op (ev_var rfl) ev_c rv_I0)) fun _ => et_test (ev_op (ev_var rfl) ev_c rv_I0)) (fun hb H8 e8 => ?_) fun hb H8 e8 => ?_
  · refine s_ret ev_c fun H9 e9 => q2 rfl (fun hj => ?_) H9 ((e.trans e8).trans e9)
    obtain ⟨j1, j2⟩ := hj
    rw [decide_eq_false (show ¬ 4 < w1 + w2 - 1 by omega), decide_eq_false (show ¬ 16 < s1 ^ (w1 + w2 - 1).toNat by omega)] at hb
    cases hb
  have hj : Joins s1 w1 w2 := by
    rw [Bool.or_eq_false_iff, decide_eq_false_iff_not, decide_eq_false_iff_not] at hb
    exact ⟨by omega, by omega⟩
  have h16 := hj.2
  have E8 := e.trans e8
  have hlc : EvL (tLc (iRng1 (tCons (tVar 3) tNil)) (gName 4) tYes (tOp (rIxL K) (tCall (sp_l_on K c) [] E0 (tCons (tVar 1) (tCons (tCall (sp_l_on K c) [] E0 (tCons (tVar 0) (tCons (tCall (sp_l_cells K c) [] E0 (tCons (tOp (rIxT K) (tVar 0) (tC (.int 0))) (tCons (tVar 2) (tCons (tVar 4) tNil)))) tNil))) tNil))) (tC (.int 0))) [4])
      [some (.ref r1), some (.ref r2), some (.int (w1 + w2 - 1)), some (.int (s1 ^ (w1 + w2 - 1).toNat)), y4] H8 ((joinTab s1 w1 t1 w2 t2).map V.int) := by
    unfold joinTab
    rw [List.map_map]
    refine el_mapR (fun (k : Nat) => V.int ((joinAt s1 w1 t1 w2 t2 (k : Int)).getD 0 0)) (n := s1 ^ (w1 + w2 - 1).toNat) (ea_cons (ev_var rfl) ea_nil) (by omega) (fun _ => rfl) fun i H9 e9 hi => ?_
    have hc := cellsOf_in (s := s1) (by omega) (w1 + w2 - 1).toNat (i : Int)
    have hl := cellsOf_len s1 (w1 + w2 - 1).toNat (i : Int)
    have hb : InS s1 (signsFrom s1 w1 t1 (cellsOf s1 (w1 + w2 - 1).toNat (i : Int))) := sf_in (by omega) _ G1.rng _
    refine ev_pickL (xs := (joinAt s1 w1 t1 w2 t2 (i : Int)).map V.int) (i := 0) ?_ (fun _ _ => ev_c) ?_
    · show EvL _ _ _ ((signsFrom s1 w2 t2 (signsFrom s1 w1 t1 (cellsOf s1 (w1 + w2 - 1).toNat (i : Int)))).map V.int)
      exact el_call_vl (ev_var rfl) (el_call_vl (ev_var rfl) (el_call (ea_cons (ev_rule0 (R1.ex (E8.trans e9)) rfl) (ea_cons (ev_var rfl) (ea_cons (ev_var rfl) ea_nil))) (spl_l_cells (by omega) (by omega) (by omega) (by omega)))
        fun p H10 h10 e10 => spl_l_on (R1.ex ((E8.trans e9).trans e10)) G1 (sq_of h10) hc (by omega) (by omega))
        fun p H10 h10 e10 => spl_l_on (R2.ex ((E8.trans e9).trans e10)) G2 (sq_of h10) hb (by rw [sf_len]; omega) (by rw [sf_len]; omega)
    · rw [one_list (joinAt_len a1 a2 (i : Int))]
      exact atI_nat (j := 0) rfl
  exact ret_triL (ev_rule0 (R1.ex E8) rfl) rfl hlc fun r t H9 e9 R => q3 rfl hj r t H9 (E8.trans e9) R
end
end Br

/-! ## data that is old or new, beside what is being written -/
namespace Br
open PySem PySem.Spec PyProof.Rows L2 Evl
/-- H2 without what stood in H1 and not in H -/
def res (H H1 H2 : Hp) : Hp := fun a => if (H a).isNone = true ∧ (H1 a).isSome = true then none else H2 a
/-- without one address -/
def hid (D : Addr) (G : Hp) : Hp := fun a => if a = D then none else G a
section
variable {K : PySem.W.Frag} {σ : L2.St} {H H' H1 H2 H3 Hb : Hp} {te ti ta tb tl : TE} {tr : TA} {x y z v : V} {D : Ends} {tz : TS} {d : PyData}
theorem res_some {a : Addr} {o : HO} (h : res H H1 H2 a = some o) : H2 a = some o ∧ ((∃ u, H a = some u) ∨ H1 a = none) := by
  unfold res at h
  by_cases c : (H a).isNone = true ∧ (H1 a).isSome = true
  · rw [if_pos c] at h
    cases h
  · rw [if_neg c] at h
    refine ⟨h, ?_⟩
    cases e : H a with
    | some u => exact Or.inl ⟨u, rfl⟩
    | none =>
      cases e1 : H1 a with
      | none => exact Or.inr rfl
      | some u => exact absurd ⟨by rw [e]; rfl, by rw [e1]; rfl⟩ c
theorem res_of {a : Addr} {o : HO} (h : H2 a = some o) (c : (∃ u, H a = some u) ∨ H1 a = none) : res H H1 H2 a = some o := by
  unfold res
  rw [if_neg]
  · exact h
  · rintro ⟨c1, c2⟩
    rcases c with ⟨u, e⟩ | e
    · rw [e] at c1; cases c1
    · rw [e] at c2; cases c2
theorem res_le : Ex (res H H1 H2) H2 := fun _ _ h => (res_some h).1
theorem res_mono (e : Ex H2 H3) : Ex (res H H1 H2) (res H H1 H3) := fun a o h => res_of (e a o (res_some h).1) (res_some h).2
theorem res_back (e : Ex H1 H') : Ex (res H H' H2) (res H H1 H2) := fun a o h => res_of (res_some h).1 ((res_some h).2.imp id (fresh_back e))
theorem res_base (e : Ex H H') : Ex (res H H1 H2) (res H' H1 H2) := fun a o h => res_of (res_some h).1 ((res_some h).2.imp (fun ⟨u, z⟩ => ⟨u, e a u z⟩) id)
theorem res_old (e1 : Ex H H1) (e2 : Ex H1 H2) : Ex H (res H H1 H2) := fun a o h => res_of (e2 a o (e1 a o h)) (Or.inl ⟨o, h⟩)
theorem res_res (e : Ex H1 H2) : Ex (res (res H H1 H2) H2 H3) (res H H1 H3) := fun a o h => res_of (res_some h).1 (by
  rcases (res_some h).2 with ⟨u, z⟩ | z
  · exact (res_some z).2
  · exact Or.inr (fresh_back e z))
theorem hid_le {p : Addr} : Ex (hid p H) H := fun a o h => by
  unfold hid at h
  by_cases c : a = p
  · rw [if_pos c] at h; cases h
  · rw [if_neg c] at h; exact h
theorem hid_of {p a : Addr} {o : HO} (h : H a = some o) (c : a ≠ p) : hid p H a = some o := by
  unfold hid
  rw [if_neg c]
  exact h
theorem hid_some {p a : Addr} {o : HO} (h : hid p H a = some o) : a ≠ p ∧ H a = some o := by
  refine ⟨fun c => ?_, hid_le a o h⟩
  unfold hid at h
  rw [if_pos c] at h
  cases h
end
/-- v stands for the data d; lists are live ones -/
inductive Dq (K : PySem.W.Frag) (H : Hp) : PyData → V → Prop
  | non : Dq K H .none .non
  | bl (b : Bool) : Dq K H (.bool b) (.bl b)
  | int (i : Int) : Dq K H (.int i) (.int i)
  | str (x : Str) : Dq K H (.str x) (.str x)
  | lst {a : Addr} {xs : List V} {ds : List PyData} (h : H a = some (.lst xs)) (l : xs.length = ds.length) (t : ∀ (i : Nat) (v : V) (d : PyData), xs[i]? = some v → ds[i]? = some d → Dq K H d v) : Dq K H (.list ds) (.ref a)
  | tup {a : Addr} {xs : List V} {ds : List PyData} (h : SqT K H a xs) (l : xs.length = ds.length) (t : ∀ (i : Nat) (v : V) (d : PyData), xs[i]? = some v → ds[i]? = some d → Dq K H d v) : Dq K H (.tuple ds) (.ref a)
structure DqAll (K : PySem.W.Frag) (H : Hp) (ds : List PyData) (xs : List V) : Prop where
  len : xs.length = ds.length
  at_ : ∀ (i : Nat) (v : V) (d : PyData), xs[i]? = some v → ds[i]? = some d → Dq K H d v
theorem Dq.ex {K : PySem.W.Frag} {H H' : Hp} (e : Ex H H') {d : PyData} {v : V} (h : Dq K H d v) : Dq K H' d v := by
  induction h with
  | non => exact .non
  | bl b => exact .bl b
  | int i => exact .int i
  | str x => exact .str x
  | lst h l _ ih => exact .lst (e _ _ h) l ih
  | tup h l _ ih => exact .tup (ex_t e h) l ih
theorem DqAll.ex {K : PySem.W.Frag} {H H' : Hp} (e : Ex H H') {ds : List PyData} {xs : List V} (h : DqAll K H ds xs) : DqAll K H' ds xs := ⟨h.len, fun i v d a b => (h.at_ i v d a b).ex e⟩
theorem DqAll.nil {K : PySem.W.Frag} {H : Hp} : DqAll K H [] [] := ⟨rfl, fun i v d a _ => by simp at a⟩
theorem DqAll.cons {K : PySem.W.Frag} {H : Hp} {d : PyData} {v : V} {ds : List PyData} {xs : List V} (h : Dq K H d v) (t : DqAll K H ds xs) : DqAll K H (d :: ds) (v :: xs) := ⟨congrArg (· + 1) t.len, fun i u e a b => by
  cases i with
  | zero =>
    simp at a b
    subst a b
    exact h
  | succ i => exact t.at_ i u e (by simpa using a) (by simpa using b)⟩
theorem DqAll.app {K : PySem.W.Frag} {H : Hp} {ds es : List PyData} {xs ys : List V} (h : DqAll K H ds xs) (t : DqAll K H es ys) : DqAll K H (ds ++ es) (xs ++ ys) := ⟨by rw [List.length_append, List.length_append, h.len, t.len], fun i u e a b => by
  have l := h.len
  by_cases c : i < xs.length
  · rw [List.getElem?_append_left c] at a
    rw [List.getElem?_append_left (by omega)] at b
    exact h.at_ i u e a b
  · rw [List.getElem?_append_right (by omega)] at a
    rw [List.getElem?_append_right (by omega), ← l] at b
    exact t.at_ _ u e a b⟩
theorem DqAll.get {K : PySem.W.Frag} {H : Hp} {ds : List PyData} {xs : List V} (h : DqAll K H ds xs) {i : Nat} {d : PyData} (e : ds[i]? = some d) : ∃ v, xs[i]? = some v ∧ Dq K H d v := by
  have l := h.len
  have hi := (List.getElem?_eq_some_iff.mp e).1
  have hx : i < xs.length := by omega
  exact ⟨xs[i], List.getElem?_eq_getElem hx, h.at_ i _ d (List.getElem?_eq_getElem hx) e⟩
theorem dq_lst {K : PySem.W.Frag} {H : Hp} {a : Addr} {xs : List V} {ds : List PyData} (h : H a = some (.lst xs)) (t : DqAll K H ds xs) : Dq K H (.list ds) (.ref a) := .lst h t.len t.at_
theorem dq_tup {K : PySem.W.Frag} {H : Hp} {a : Addr} {xs : List V} {ds : List PyData} (h : SqT K H a xs) (t : DqAll K H ds xs) : Dq K H (.tuple ds) (.ref a) := .tup h t.len t.at_
theorem dq_list_inv {K : PySem.W.Frag} {G : Hp} {v : V} {ds : List PyData} (h : Dq K G (.list ds) v) : ∃ p xs, v = .ref p ∧ G p = some (.lst xs) ∧ DqAll K G ds xs := by
  cases h with
  | lst h l t => exact ⟨_, _, rfl, h, l, t⟩
theorem dq_tuple_inv {K : PySem.W.Frag} {G : Hp} {v : V} {ds : List PyData} (h : Dq K G (.tuple ds) v) : ∃ p xs, v = .ref p ∧ SqT K G p xs ∧ DqAll K G ds xs := by
  cases h with
  | tup h l t => exact ⟨_, _, rfl, h, l, t⟩
theorem dpAll_of {K : PySem.W.Frag} {G : Hp} : ∀ {ds : List PyData} {xs : List V}, xs.length = ds.length → (∀ (i : Nat) (v : V) (d : PyData), xs[i]? = some v → ds[i]? = some d → Dp K G v d) → DpAll K G xs ds
  | [], [], _, _ => .nil
  | d :: ds, x :: xs, l, h => .cons (h 0 x d rfl rfl) (dpAll_of (by simpa using l) fun i v e a b => h (i + 1) v e (by simpa using a) (by simpa using b))
  | [], _ :: _, l, _ => by simp at l
  | _ :: _, [], l, _ => by simp at l
theorem Dq.dp {K : PySem.W.Frag} {G : Hp} {d : PyData} {v : V} (h : Dq K G d v) : Dp K G v d := by
  induction h with
  | non => exact .non
  | bl b => exact .bl b
  | int i => exact .int i
  | str x => exact .str x
  | lst h l _ ih => exact .lst (sq_of h) (dpAll_of l ih)
  | tup h l _ ih => exact .tup h (dpAll_of l ih)
section
variable {K : PySem.W.Frag} {σ : L2.St} {H H' H1 H2 H3 Hb : Hp} {te ti ta tb tl : TE} {tr : TA} {x y z v : V} {D : Ends} {tz : TS} {d : PyData}
/-- te tells the data d: old things of H and new ones -/
def EvD (K : PySem.W.Frag) (te : TE) (σ : L2.St) (H : Hp) (d : PyData) : Prop := ∀ H1, Ex H H1 → ∀ Q : VK, (∀ v H2, Ex H1 H2 → Dq K (res H H1 H2) d v → Q v H2) → te σ H1 Q
def EaD (K : PySem.W.Frag) (ta : TA) (σ : L2.St) (H : Hp) (ds : List PyData) : Prop := ∀ H1, Ex H H1 → ∀ Q : List V → Hp → Prop, (∀ vs H2, Ex H1 H2 → DqAll K (res H H1 H2) ds vs → Q vs H2) → ta σ H1 Q
/-- a def that makes the data d of the data ds -/
def SpD (K : PySem.W.Frag) (sp : Sp) (ds : List PyData) (d : PyData) : Prop := ∀ Hb H1 vs, Ex Hb H1 → DqAll K Hb ds vs → ∀ (Q : VK) (E : XK), (∀ v H2, Ex H1 H2 → Dq K (res Hb H1 H2) d v → Q v H2) → sp vs H1 Q E
theorem EvD.mono (e : Ex H H') (h : EvD K te σ H d) : EvD K te σ H' d := fun H1 e1 Q q => h H1 (e.trans e1) Q fun v H2 e2 p => q v H2 e2 (p.ex (res_base e))
theorem evd_of (h : Ev te σ H v) (hv : Dq K H d v) : EvD K te σ H d := fun H1 e Q q => h H1 e Q fun H2 e2 => q v H2 e2 (hv.ex (res_old e e2))
theorem evd_var {i : Nat} (hi : σ[i]? = some (some v)) (hv : Dq K H d v) : EvD K (tVar i) σ H d := evd_of (ev_var hi) hv
theorem evd_int {i : Int} (h : Ev te σ H (.int i)) : EvD K te σ H (.int i) := evd_of h (.int i)
theorem evd_bl {b : Bool} (h : Ev te σ H (.bl b)) : EvD K te σ H (.bool b) := evd_of h (.bl b)
theorem evd_non (h : Ev te σ H .non) : EvD K te σ H .none := evd_of h .non
theorem ead_nil : EaD K tNil σ H [] := fun H1 e Q q => q [] H1 (Ex.refl H1) .nil
theorem ead_cons {ds : List PyData} (h : EvD K te σ H d) (hr : EaD K tr σ H ds) : EaD K (tCons te tr) σ H (d :: ds) := fun H1 e Q q =>
  h H1 e _ fun v H2 e2 p => hr H2 (e.trans e2) _ fun vs H3 e3 ps => q (v :: vs) H3 (e2.trans e3) (.cons (p.ex (res_mono e3)) (ps.ex (res_back e2)))
theorem evd_lst {ds : List PyData} (h : EaD K tr σ H ds) (hl : ds.length ≤ 100000) : EvD K (tLst tr) σ H (.list ds) := fun H1 e Q q =>
  h H1 e _ fun vs H2 e2 ps => ⟨sz_of (by rw [ps.len]; exact hl), fun p hp => q (.ref p) _ (e2.trans (Ex.new hp)) (dq_lst (res_of upd_same (Or.inr (fresh_back e2 hp))) (ps.ex (res_mono (Ex.new hp))))⟩
theorem evd_tup {ds : List PyData} (h : EaD K tr σ H ds) (hl : ds.length ≤ 100000) : EvD K (tTup tr) σ H (.tuple ds) := fun H1 e Q q =>
  h H1 e _ fun vs H2 e2 ps => ⟨sz_of (by rw [ps.len]; exact hl), fun p hp => q (.ref p) _ (e2.trans (Ex.new hp)) (dq_tup (st_of (res_of upd_same (Or.inr (fresh_back e2 hp)))) (ps.ex (res_mono (Ex.new hp))))⟩
theorem evd_call {sp : Sp} {ds : List PyData} {E : XK} (h : EaD K tr σ H ds) (hs : SpD K sp ds d) : EvD K (tCall sp [] E tr) σ H d := fun H1 e Q q =>
  h H1 e _ fun vs H2 e2 ps => by
    have z := hs (res H H1 H2) H2 vs res_le ps Q E fun v H3 e3 p => q v H3 (e2.trans e3) (p.ex (res_res e2))
    rw [← List.append_nil vs] at z
    exact z
theorem evd_ixL {ds : List PyData} {i : Int} (h : EvD K te σ H (.list ds)) (hi : ∀ H1, Ex H H1 → Ev ti σ H1 (.int i)) (h0 : 0 ≤ i) (hd : ds[i.toNat]? = some d) : EvD K (tOp (rIxL K) te ti) σ H d := fun H1 e Q q =>
  h H1 e _ fun v H2 e2 p => hi H2 (e.trans e2) H2 (Ex.refl H2) _ fun H3 e3 => by
    obtain ⟨a, xs, rfl, hs, ps⟩ := dq_list_inv p
    obtain ⟨u, hu, pu⟩ := ps.get hd
    exact ⟨a, xs, i, u, rfl, rfl, sq_of (e3 _ _ (res_le _ _ hs)), at_mod h0 hu, q u H3 (e2.trans e3) (pu.ex (res_mono e3))⟩
theorem evd_ixT {ds : List PyData} {i : Int} (h : EvD K te σ H (.tuple ds)) (hi : ∀ H1, Ex H H1 → Ev ti σ H1 (.int i)) (h0 : 0 ≤ i) (hd : ds[i.toNat]? = some d) : EvD K (tOp (rIxT K) te ti) σ H d := fun H1 e Q q =>
  h H1 e _ fun v H2 e2 p => hi H2 (e.trans e2) H2 (Ex.refl H2) _ fun H3 e3 => by
    obtain ⟨a, xs, rfl, hs, ps⟩ := dq_tuple_inv p
    obtain ⟨u, hu, pu⟩ := ps.get hd
    exact ⟨a, xs, i, u, rfl, rfl, ex_t (res_le.trans e3) hs, at_mod h0 hu, q u H3 (e2.trans e3) (pu.ex (res_mono e3))⟩
theorem evd_cat {ds es : List PyData} (h : EvD K ta σ H (.list ds)) (h2 : EvD K tb σ H (.list es)) (hl : ds.length + es.length ≤ 100000) : EvD K (tOp oCat ta tb) σ H (.list (ds ++ es)) := fun H1 e Q q =>
  h H1 e _ fun v H2 e2 p => h2 H2 (e.trans e2) _ fun w H3 e3 p3 => by
    obtain ⟨a, xs, rfl, hs, ps⟩ := dq_list_inv p
    obtain ⟨b, ys, rfl, hs3, ps3⟩ := dq_list_inv p3
    have l1 := ps.len
    have l2 := ps3.len
    refine ⟨a, b, xs, ys, rfl, rfl, e3 _ _ (res_le _ _ hs), res_le _ _ hs3, sz_of (by omega), fun t ht => q (.ref t) _ ((e2.trans e3).trans (Ex.new ht)) (dq_lst (res_of upd_same (Or.inr (fresh_back (e2.trans e3) ht))) ?_)⟩
    exact ((ps.ex (res_mono e3)).app (ps3.ex (res_back e2))).ex (res_mono (Ex.new ht))
/-- data compared -/
theorem ev_eqDD {d1 d2 : PyData} (h : EvD K ta σ H d1) (h2 : EvD K tb σ H d2) (s1 : SeqAt.shaped d1 = true) (s2 : SeqAt.shaped d2 = true) : Ev (tOp (rEqD K) ta tb) σ H (.bl (PyData.eqv d1 d2)) := fun H1 e Q q =>
  h H1 e _ fun v H2 e2 p => h2 H2 (e.trans e2) _ fun w H3 e3 p3 => ⟨d1, d2, (p.ex (res_le.trans e3)).dp, (p3.ex res_le).dp, s1, s2, q H3 (e2.trans e3)⟩
theorem ev_neDD {d1 d2 : PyData} (h : EvD K ta σ H d1) (h2 : EvD K tb σ H d2) (s1 : SeqAt.shaped d1 = true) (s2 : SeqAt.shaped d2 = true) : Ev (tOp (rNeD K) ta tb) σ H (.bl (!PyData.eqv d1 d2)) := fun H1 e Q q =>
  h H1 e _ fun v H2 e2 p => h2 H2 (e.trans e2) _ fun w H3 e3 p3 => ⟨d1, d2, (p.ex (res_le.trans e3)).dp, (p3.ex res_le).dp, s1, s2, q H3 (e2.trans e3)⟩
/-- a statement over a base Hb -/
theorem q_asgD {i : Nat} (e : Ex Hb H) (h : EvD K te σ Hb d) (k : ∀ v H1, Ex H H1 → Dq K (res Hb H H1) d v → tz D (σ.set i (some v)) H1) : tSeq (tAsg te (gName i)) tz D σ H := h H e _ k
theorem s_asgD {i : Nat} (e : Ex Hb H) (h : EvD K te σ Hb d) (k : ∀ v H1, Ex H H1 → Dq K (res Hb H H1) d v → D.nx (σ.set i (some v)) H1) : tAsg te (gName i) D σ H := h H e _ k
theorem s_retD (e : Ex Hb H) (h : EvD K te σ Hb d) (k : ∀ v H1, Ex H H1 → Dq K (res Hb H H1) d v → D.rt v H1) : tRet te D σ H := h H e _ k
/-- a comprehension over a list whose items make data -/
def given' (n : Nat) (f : Nat → Bool) (g : Nat → PyData) : List PyData := ((List.range n).filter f).map g
theorem given'_yes {n : Nat} {f : Nat → Bool} {g : Nat → PyData} (h : f n = true) : given' (n + 1) f g = given' n f g ++ [g n] := by
  unfold given'
  rw [List.range_succ, List.filter_append, List.map_append, List.filter_cons, if_pos h]
  rfl
theorem given'_no {n : Nat} {f : Nat → Bool} {g : Nat → PyData} (h : f n = false) : given' (n + 1) f g = given' n f g := by
  unfold given'
  rw [List.range_succ, List.filter_append, List.map_append, List.filter_cons, if_neg (by rw [h]; decide)]
  simp
theorem given'_len (n : Nat) (f : Nat → Bool) (g : Nat → PyData) : (given' n f g).length ≤ n := by
  unfold given'
  rw [List.length_map]
  have h := List.length_filter_le f (List.range n)
  rw [List.length_range] at h
  exact h
theorem evd_lcL {ds : List PyData} {tt : TT} {j : Nat} {vs : List Nat} (f : Nat → Bool) (g : Nat → PyData) (h : EvD K tl σ H (.list ds)) (hz : ds.length ≤ 40000) (hw : ∀ x, wipe ((wipe σ vs).set j (some x)) vs = wipe σ vs)
    (ht : ∀ (i : Nat) (x : V) (d : PyData) Hb, Ex H Hb → ds[i]? = some d → Dq K Hb d x → EvT tt ((wipe σ vs).set j (some x)) Hb (f i)) (he : ∀ (i : Nat) (x : V) (d : PyData) Hb, Ex H Hb → ds[i]? = some d → Dq K Hb d x → f i = true → EvD K te ((wipe σ vs).set j (some x)) Hb (g i)) :
    EvD K (tLc (iList K tl) (gName j) tt te vs) σ H (.list (given' ds.length f g)) := fun H1 e Q q => h H1 e _ fun v H2 e2 p => by
  obtain ⟨a, xs, rfl, hs, ps⟩ := dq_list_inv p
  have hlen := ps.len
  have hold : Ex H (res H H1 H2) := res_old e e2
  refine ⟨a, rfl, ⟨xs, sq_of (res_le _ _ hs)⟩, fun Dl hD => ?_⟩
  refine lc_list (K := K) (a := a) (xs := xs) (fun i H' => Ex H2 H' ∧ ∃ acc, H' Dl = some (.lst acc) ∧ DqAll K (hid Dl (res H H1 H')) (given' i f g) acc) ⟨Ex.new hD, [], upd_same, .nil⟩ (fun i H' _ p => sq_of (p.1 _ _ (res_le _ _ hs))) ?_ ?_
  · rintro i x H' hi ⟨eH, acc, hacc, pacc⟩
    have hi2 := (List.getElem?_eq_some_iff.mp hi).1
    have hd : ds[i]? = some ds[i] := List.getElem?_eq_getElem (by omega)
    have px : Dq K (res H H1 H2) ds[i] x := ps.at_ i x _ hi hd
    have eB : Ex (res H H1 H2) H' := res_le.trans eH
    refine ⟨hw x, ht i x _ _ hold hd px H' eB _ fun H3 e3 => ?_⟩
    have dNo : ∀ {G : Hp} {b : Addr} {o : HO}, res (res H H1 H2) H3 G b = some o → b ≠ Dl := fun {G b o} z c => by
      subst c
      rcases (res_some z).2 with ⟨u, w⟩ | w
      · rw [res_le _ _ w] at hD; cases hD
      · rw [e3 _ _ hacc] at w; cases w
    cases hf : f i with
    | false =>
      refine ⟨eH.trans e3, acc, e3 _ _ hacc, ?_⟩
      rw [given'_no hf]
      exact pacc.ex fun b o z => hid_of (res_mono e3 b o (hid_some z).2) (hid_some z).1
    | true =>
      refine he i x _ _ hold hd px hf H3 (eB.trans e3) _ fun y H4 e4 py => ⟨acc, e4 _ _ (e3 _ _ hacc), ?_, ?_, acc ++ [y], upd_same, ?_⟩
      · have := given'_len i f g
        have := pacc.len
        exact sz_lt (by omega)
      · exact Ex.mut ((eH.trans e3).trans e4) hD
      · rw [given'_yes hf]
        have up : ∀ {b : Addr} {o : HO}, b ≠ Dl → H4 b = some o → upd H4 Dl (.lst (acc ++ [y])) b = some o := fun c z => by rw [upd_ne c]; exact z
        refine (pacc.ex fun b o z => ?_).app (.cons (py.ex fun b o z => ?_) .nil)
        · have c := (hid_some z).1
          exact hid_of (res_of (up c ((e3.trans e4) _ _ (res_some (hid_some z).2).1)) (res_some (hid_some z).2).2) c
        · have c := dNo z
          refine hid_of (res_of (up c (res_some z).1) ?_) c
          rcases (res_some z).2 with ⟨u, w⟩ | w
          · exact (res_some w).2
          · exact Or.inr (fresh_back ((e2.trans eH).trans e3) w)
  · rintro H' ⟨eH, acc, hacc, pacc⟩
    rw [hlen] at pacc
    exact q (.ref Dl) H' (e2.trans eH) (dq_lst (res_of hacc (Or.inr (fresh_back e2 hD))) (pacc.ex hid_le))
end
end Br

/-! ## things told by what is true of them, beside what is being written -/
namespace Br
open PySem PySem.Spec PyProof.Rows L2 Evl
section
variable {K : PySem.W.Frag} {σ : L2.St} {H H' H1 H2 H3 Hb : Hp} {te ti ta tb tl : TE} {tr : TA} {x y z v : V} {D : Ends} {tz : TS} {P R : VP} {lo hi : Option Int} {to th : TO}
/-- te tells a thing of which P is true, among old things of H and new ones -/
def EvN (te : TE) (σ : L2.St) (H : Hp) (P : VP) : Prop := ∀ H1, Ex H H1 → ∀ Q : VK, (∀ v H2, Ex H1 H2 → P v (res H H1 H2) → Q v H2) → te σ H1 Q
/-- a tuple of xs -/
def EuN (K : PySem.W.Frag) (te : TE) (σ : L2.St) (H : Hp) (xs : List V) : Prop := ∀ H1, Ex H H1 → ∀ Q : VK, (∀ p H2, Ex H1 H2 → SqT K (res H H1 H2) p xs → Q (.ref p) H2) → te σ H1 Q
theorem EvN.evp (h : EvN te σ H P) (st : Stab P) : EvP te σ H P := fun H1 e Q q => h H1 e Q fun v H2 e2 p => q v H2 e2 (st _ _ _ res_le p)
theorem EvN.imp (h : EvN te σ H P) (i : ∀ v G, P v G → R v G) : EvN te σ H R := fun H1 e Q q => h H1 e Q fun v H2 e2 p => q v H2 e2 (i v _ p)
theorem evn_of (h : Ev te σ H v) (hv : P v H) (st : Stab P) : EvN te σ H P := fun H1 e Q q => h H1 e Q fun H2 e2 => q v H2 e2 (st _ _ _ (res_old e e2) hv)
theorem eun_var {a : Addr} {xs : List V} (h : Ev te σ H (.ref a)) (hs : SqT K H a xs) : EuN K te σ H xs := fun H1 e Q q => h H1 e Q fun H2 e2 => q a H2 e2 (ex_t (res_old e e2) hs)
theorem eun_tup {xs : List V} (h : EvA tr σ H xs) (hl : xs.length ≤ 100000) : EuN K (tTup tr) σ H xs := fun H1 e Q q => h H1 e _ fun H2 e2 =>
  ⟨sz_of hl, fun p hp => q p _ (e2.trans (Ex.new hp)) (st_of (res_of upd_same (Or.inr (fresh_back e2 hp))))⟩
theorem EuN.evp {xs : List V} (h : EuN K te σ H xs) : EvP te σ H (TupV K xs) := fun H1 e Q q => h H1 e Q fun p H2 e2 s => q _ H2 e2 ⟨p, rfl, ex_t res_le s⟩
theorem cutV_whole {xs : List V} (w : HT.sIx xs.length 0 lo = 0 ∧ HT.sIx xs.length xs.length hi = xs.length) : cutV xs lo hi = xs := by
  unfold cutV
  rw [w.1, w.2, List.drop_zero, Nat.sub_zero, List.take_length]
theorem eun_sl {xs : List V} (h : EuN K te σ H xs) (h1 : EvO to σ H lo) (h2 : EvO th σ H hi) : EuN K (tSl (rSlA K) te to th) σ H (cutV xs lo hi) := fun H1 e Q q =>
  h H1 e _ fun p H2 e2 s => h1 H2 (e.trans e2) _ fun H3 e3 => h2 H3 ((e.trans e2).trans e3) _ fun H4 e4 => by
    have E := (e2.trans e3).trans e4
    refine ⟨p, xs, rfl, ex_t (res_le.trans (e3.trans e4)) s, fun w => ?_, fun w t ht => ?_⟩
    · refine q p H4 E ?_
      rw [cutV_whole w]
      exact ex_t (res_mono (e3.trans e4)) s
    · exact q t _ (E.trans (Ex.new ht)) (st_of (res_of upd_same (Or.inr (fresh_back E ht))))
theorem eun_cat {xs ys : List V} (ha : EuN K ta σ H xs) (hb : EuN K tb σ H ys) (hl : xs.length + ys.length ≤ 100000) : EuN K (tOp (rCatA K) ta tb) σ H (xs ++ ys) := fun H1 e Q q =>
  ha H1 e _ fun p H2 e2 s => hb H2 (e.trans e2) _ fun r H3 e3 s3 => by
    refine ⟨p, r, xs, ys, rfl, rfl, ex_t (res_le.trans e3) s, ex_t res_le s3, sz_of hl, fun z => ?_, fun _ z => ?_, fun _ _ t ht => ?_⟩
    · refine q r H3 (e2.trans e3) ?_
      rw [z, List.nil_append]
      exact ex_t (res_back e2) s3
    · refine q p H3 (e2.trans e3) ?_
      rw [z, List.append_nil]
      exact ex_t (res_mono e3) s
    · exact q t _ ((e2.trans e3).trans (Ex.new ht)) (st_of (res_of upd_same (Or.inr (fresh_back (e2.trans e3) ht))))
theorem eun_rep {xs : List V} {k : Int} (h : EuN K te σ H xs) (hk : Ev ti σ H (.int k)) (hn : xs ≠ []) (h2 : 2 ≤ k) (h3 : k ≤ 1000) (hz : xs.length ≤ 1000) : EuN K (tOp (rRepT K) te ti) σ H (List.replicate k.toNat xs).flatten := fun H1 e Q q =>
  h H1 e _ fun p H2 e2 s => hk H2 (e.trans e2) _ fun H3 e3 => ⟨p, k, xs, rfl, rfl, ex_t (res_le.trans e3) s, hn, h2, h3, hz, fun t ht => q t _ ((e2.trans e3).trans (Ex.new ht)) (st_of (res_of upd_same (Or.inr (fresh_back (e2.trans e3) ht))))⟩
/-- a triple whose last is a tuple -/
def TriP (K : PySem.W.Frag) (x y : V) (zs : List V) : VP := fun v H => ∃ r u : Addr, v = .ref r ∧ SqT K H r [x, y, .ref u] ∧ SqT K H u zs
theorem stab_tri {x y : V} {zs : List V} : Stab (TriP K x y zs) := fun v H H' e ⟨r, u, hv, a, b⟩ => ⟨r, u, hv, ex_t e a, ex_t e b⟩
theorem evn_tri {t1 t2 t3 : TE} {zs : List V} (h1 : Ev t1 σ H x) (h2 : Ev t2 σ H y) (h3 : EuN K t3 σ H zs) : EvN (tTup (tCons t1 (tCons t2 (tCons t3 tNil)))) σ H (TriP K x y zs) := fun H1 e Q q =>
  h1 H1 e _ fun H2 e2 => h2 H2 (e.trans e2) _ fun H3 e3 => h3 H3 ((e.trans e2).trans e3) _ fun u H4 e4 s => ⟨sz_of (lt_size 3), fun p hp => by
    have E := (e2.trans e3).trans e4
    exact q _ _ (E.trans (Ex.new hp)) ⟨p, u, rfl, st_of (res_of upd_same (Or.inr (fresh_back E hp))), ex_t ((res_back (e2.trans e3)).trans (res_mono (Ex.new hp))) s⟩⟩
/-- a live list of n things of which P is true -/
def LAll (P : VP) (n : Nat) : VP := fun v H => ∃ (p : Addr) (acc : List V), v = .ref p ∧ H p = some (.lst acc) ∧ acc.length = n ∧ ∀ u ∈ acc, P u H
theorem stab_LAll {n : Nat} (st : Stab P) : Stab (LAll P n) := fun v H H' e ⟨p, acc, hv, h, l, a⟩ => ⟨p, acc, hv, e _ _ h, l, fun u hu => st _ _ _ e (a u hu)⟩
theorem All2P.all {H : Hp} : ∀ {Ps : List VP} {vs : List V}, All2P Ps vs H → (∀ Q ∈ Ps, ∀ u G, Q u G → P u G) → ∀ u ∈ vs, P u H
  | [], [], _, _ => fun u hu => by cases hu
  | Q :: Ps, v :: vs, h, hi => fun u hu => by
    rcases List.mem_cons.mp hu with rfl | hu
    · exact hi Q List.mem_cons_self _ _ h.1
    · exact All2P.all h.2 (fun Q hQ => hi Q (List.mem_cons_of_mem _ hQ)) u hu
  | [], _ :: _, h, _ => h.elim
  | _ :: _, [], h, _ => h.elim
theorem evp_lAll {n : Nat} (h : EaP tr σ H (List.replicate n P)) (st : Stab P) (hl : n ≤ 1000) : EvP (tLst tr) σ H (LAll P n) := fun H1 e Q q =>
  h H1 e _ fun vs H2 e2 ps => ⟨sz_of (by have := ps.len; rw [List.length_replicate] at this; omega), fun p hp => q _ _ (e2.trans (Ex.new hp)) ⟨p, vs, rfl, upd_same, by have := ps.len; rw [List.length_replicate] at this; omega,
    fun u hu => st _ _ _ (Ex.new hp) (All2P.all ps (fun Q hQ u G hu => by rw [(List.mem_replicate.mp hQ).2] at hu; exact hu) u hu)⟩⟩
theorem evp_catAll {m n : Nat} (ha : EvP ta σ H (LAll P m)) (hb : EvP tb σ H (LAll P n)) (st : Stab P) (hl : m + n ≤ 100000) : EvP (tOp oCat ta tb) σ H (LAll P (m + n)) := fun H1 e Q q =>
  ha H1 e _ fun v H2 e2 ⟨p, xs, hv, hp, lx, ax⟩ => hb H2 (e.trans e2) _ fun w H3 e3 ⟨r, ys, hw, hr, ly, ay⟩ => ⟨p, r, xs, ys, hv, hw, e3 _ _ hp, hr, sz_of (by omega), fun t ht =>
    q _ _ ((e2.trans e3).trans (Ex.new ht)) ⟨t, xs ++ ys, rfl, upd_same, by rw [List.length_append]; omega, fun u hu => (List.mem_append.mp hu).elim (fun hu => st _ _ _ (e3.trans (Ex.new ht)) (ax u hu)) fun hu => st _ _ _ (Ex.new ht) (ay u hu)⟩⟩
theorem evp_pickAll {n : Nat} {i : Int} (h : EvP te σ H (LAll P n)) (st : Stab P) (hi : Ev ti σ H (.int i)) (h0 : 0 ≤ i) (h1 : i < n) : EvP (tOp (rIxL K) te ti) σ H P := fun H1 e Q q =>
  h H1 e _ fun v H2 e2 ⟨p, xs, hv, hp, lx, ax⟩ => hi H2 (e.trans e2) _ fun H3 e3 => by
    have hx : i.toNat < xs.length := by omega
    exact ⟨p, xs, i, xs[i.toNat], hv, rfl, sq_of (e3 _ _ hp), at_mod h0 (List.getElem?_eq_getElem hx), q _ H3 (e2.trans e3) (st _ _ _ e3 (ax _ (List.getElem_mem hx)))⟩
/-- [e for x in l], l a list of n things of which P is true; of each made one R is true -/
theorem evp_lcAll {n j : Nat} {vs : List Nat} (h : EvP tl σ H (LAll P n)) (stP : Stab P) (stR : Stab R) (hz : n ≤ 40000) (hw : ∀ x, wipe ((wipe σ vs).set j (some x)) vs = wipe σ vs)
    (he : ∀ (x : V) Hb, Ex H Hb → P x Hb → EvN te ((wipe σ vs).set j (some x)) Hb R) : EvP (tLc (iList K tl) (gName j) tYes te vs) σ H (LAll R n) := fun H1 e Q q =>
  h H1 e _ fun v H2 e2 ⟨a, xs, hv, hs, lx, ax⟩ => by
    refine ⟨a, hv, ⟨xs, sq_of hs⟩, fun Dl hD => ?_⟩
    refine lc_list (K := K) (a := a) (xs := xs) (fun i H' => Ex H2 H' ∧ ∃ acc, H' Dl = some (.lst acc) ∧ acc.length = i ∧ ∀ u ∈ acc, R u (hid Dl H')) ⟨Ex.new hD, [], upd_same, rfl, fun u hu => by cases hu⟩ (fun i H' _ p => sq_of (p.1 _ _ hs)) ?_ ?_
    · rintro i x H' hi ⟨eH, acc, hacc, lacc, pacc⟩
      have hi2 := (List.getElem?_eq_some_iff.mp hi).1
      have px := ax x (List.mem_of_getElem? hi)
      refine ⟨hw x, ?_⟩
      refine et_yes H' (Ex.refl H') _ fun H3 e3 => ?_
      simp only [if_true]
      have hacc := e3 _ _ hacc
      have pacc : ∀ u ∈ acc, R u (hid Dl H3) := fun u hu => stR _ _ _ (fun b o z => hid_of (e3 _ _ (hid_some z).2) (hid_some z).1) (pacc u hu)
      have eH := eH.trans e3
      refine he x H2 (e.trans e2) px H3 eH _ fun y H4 e4 py => ⟨acc, e4 _ _ hacc, sz_lt (by omega), Ex.mut (eH.trans e4) hD, acc ++ [y], upd_same, by rw [List.length_append, lacc]; rfl, fun u hu => ?_⟩
      have up : ∀ {b : Addr} {o : HO}, b ≠ Dl → H4 b = some o → hid Dl (upd H4 Dl (.lst (acc ++ [y]))) b = some o := fun c z => hid_of (by rw [upd_ne c]; exact z) c
      rcases List.mem_append.mp hu with hu | hu
      · exact stR _ _ _ (fun b o z => up (hid_some z).1 (e4 _ _ (hid_some z).2)) (pacc u hu)
      · rw [List.mem_singleton.mp hu]
        refine stR _ _ _ (fun b o z => up (fun c => ?_) (res_some z).1) py
        subst c
        rcases (res_some z).2 with ⟨w, k⟩ | k
        · rw [hD] at k; cases k
        · rw [hacc] at k; cases k
    · rintro H' ⟨eH, acc, hacc, lacc, pacc⟩
      exact q _ H' (e2.trans eH) ⟨Dl, acc, rfl, hacc, by omega, fun u hu => stR _ _ _ hid_le (pacc u hu)⟩
end
end Br

namespace Br1
open PySem PySem.Spec PyProof.Rows L2 Evl Br
section
variable {K : PySem.W.Frag} {c : Cl}
/-! ### need_rule of any thing -/
def sp_need_rule (K : PySem.W.Frag) (c : Cl) : Sp := fun vs H Q E => ∃ (x : V) (b : Bool), vs = [x] ∧ RThing K H x b ∧ (b = true → RetV .non H Q) ∧ (b = false → RaiseX c.BadRule H E)
def t_need_rule (K : PySem.W.Frag) (c : Cl) (E : XK) : TS :=
(tIfS (tNot (tB (tCall (sp_is_rule K c) [] E0 (tCons (tVar 0) tNil)))) (tRaise c.BadRule E) tNext)
theorem len_need_rule (vs : List V) (H : Hp) (Q : VK) (E : XK) (h : sp_need_rule K c vs H Q E) : vs.length = 1 := by
  obtain ⟨x, b, rfl, _⟩ := h
  rfl
theorem pure_need_rule (vs : List V) (H : Hp) (Q : VK) (E : XK) (h : sp_need_rule K c vs H Q E) : t_need_rule K c E { nx := fun _ H' => Q .non H', rt := Q } (start' 1 vs) H := by
  obtain ⟨x, b, rfl, p, q, ra⟩ := h
  refine s_when (et_not (et_B (ev_call (ea_cons (ev_var rfl) ea_nil) (spv_is_ruleB p)))) (fun hb H1 e1 => ?_) fun hb H1 e1 => ?_
  · exact ra (by cases b with | true => cases hb | false => rfl) H1 e1
  · exact q (by cases b with | true => rfl | false => cases hb) H1 e1
theorem spv_need_rule {H : Hp} {x : V} (p : RThing K H x true) : SpV (sp_need_rule K c) [x] H .non := fun H1 e Q q E => ⟨x, true, rfl, p.ex e, fun _ => q, fun z => nomatch z⟩
/-! ### things that are no rule -/
def Bad (K : PySem.W.Frag) : VP := fun v H => RThing K H v false
theorem stab_bad : Stab (Bad K) := fun v H H' e h => RThing.ex e h
theorem rb1 {x y : V} {o : Option (List V)} (h : isFT x 2 4 = false) : ruleB x y o = false := by
  unfold ruleB
  rw [h, Bool.false_and]
theorem rb2 {x y : V} {o : Option (List V)} (h : isFT y 1 4 = false) : ruleB x y o = false := by
  unfold ruleB
  rw [h, Bool.false_and, Bool.and_false]
theorem rb3 {x y : V} {o : Option (List V)} (h : decide (intOf x ^ (intOf y).toNat ≤ 16) = false) : ruleB x y o = false := by
  unfold ruleB
  rw [h, Bool.false_and, Bool.and_false, Bool.and_false]
theorem rb4 {x y : V} {o : Option (List V)} (h : tabB (intOf x) (intOf y) o = false) : ruleB x y o = false := by
  unfold ruleB
  rw [h, Bool.and_false, Bool.and_false, Bool.and_false]
def Typd (K : PySem.W.Frag) (H : Hp) (xs : List V) : Prop := ∀ x ∈ xs, ∃ T, TyB K H x T
theorem bad_tri {x y v : V} {zs : List V} {G : Hp} {Tx Ty : String} (h : TriP K x y zs v G) (hx : TyB K G x Tx) (hy : TyB K G y Ty) (ty : Typd K G zs) (hl : zs.length ≤ 40000) (hb : ruleB x y (some zs) = false) : Bad K v G := by
  obtain ⟨r, u, rfl, a, b⟩ := h
  have z := RThing.tri a hx hy (.tup b ty hl)
  rw [hb] at z
  exact z
theorem typd_ints {G : Hp} (ns : List Int) : Typd K G (ns.map V.int) := ints_ty ns
theorem typd_cut {G : Hp} {xs : List V} (h : Typd K G xs) (lo hi : Option Int) : Typd K G (cutV xs lo hi) := fun x hx => h x (List.mem_of_mem_drop (List.mem_of_mem_take hx))
theorem typd_app {G : Hp} {xs ys : List V} (h : Typd K G xs) (h2 : Typd K G ys) : Typd K G (xs ++ ys) := fun x hx => (List.mem_append.mp hx).elim (h x) (h2 x)
theorem typd_flat {G : Hp} {ys : List V} (h : Typd K G ys) (k : Nat) : Typd K G (List.replicate k ys).flatten := fun x hx => by
  obtain ⟨l, hl, hx⟩ := List.mem_flatten.mp hx
  rw [(List.mem_replicate.mp hl).2] at hx
  exact h x hx
theorem evp_pair {σ : L2.St} {H : Hp} {ta : TA} {xs : List V} (h : EvA ta σ H xs) (hl : xs.length ≤ 100000) (hn : xs.length ≠ 3) : EvP (tTup ta) σ H (Bad K) := (EvP.tup (K := K) (eu_tup h hl)).imp fun v G _ ⟨p, hv, hp⟩ => by
  rw [hv]
  exact .size hp hn
/-- a triple whose last is a new list -/
theorem evp_triL {σ : L2.St} {H : Hp} {t1 t2 t3 : TE} {x y : V} {zs : List V} {Tx Ty : String} (h1 : Ev t1 σ H x) (h2 : Ev t2 σ H y) (h3 : EvL t3 σ H zs) (hx : ∀ G, TyB K G x Tx) (hy : ∀ G, TyB K G y Ty) : EvP (tTup (tCons t1 (tCons t2 (tCons t3 tNil)))) σ H (Bad K) := fun H1 e Q q =>
  h1 H1 e _ fun H2 e2 => h2 H2 (e.trans e2) _ fun H3 e3 => h3 H3 ((e.trans e2).trans e3) _ fun u H4 hu e4 s => ⟨sz_of (lt_size 3), fun p hp => by
    have z := RThing.tri (K := K) (H := upd H4 p (.tup [x, y, .ref u])) (st_of upd_same) (hx _) (hy _) (.other (.lst (sq_of (Ex.new hp _ _ s))) (by decide))
    rw [rb4 rfl] at z
    exact q _ _ (((e2.trans e3).trans e4).trans (Ex.new hp)) z⟩
/-- a triple whose second is a new list -/
theorem evp_triM {σ : L2.St} {H : Hp} {t1 t2 t3 : TE} {x : V} {ys zs : List V} {a : Addr} {Tx : String} (h1 : Ev t1 σ H x) (h2 : EvL t2 σ H ys) (h3 : Ev t3 σ H (.ref a)) (hx : ∀ G, TyB K G x Tx) (hs : SqT K H a zs) (ty : ∀ G, Typd K G zs) (hl : zs.length ≤ 40000) : EvP (tTup (tCons t1 (tCons t2 (tCons t3 tNil)))) σ H (Bad K) := fun H1 e Q q =>
  h1 H1 e _ fun H2 e2 => h2 H2 (e.trans e2) _ fun u H3 hu e3 s => h3 H3 ((e.trans e2).trans e3) _ fun H4 e4 => ⟨sz_of (lt_size 3), fun p hp => by
    have E := ((e.trans e2).trans e3).trans e4
    have z := RThing.tri (K := K) (H := upd H4 p (.tup [x, .ref u, .ref a])) (st_of upd_same) (hx _) (.lst (sq_of ((e4.trans (Ex.new hp)) _ _ s))) (.tup (ex_t (E.trans (Ex.new hp)) hs) (ty _) hl)
    rw [rb2 rfl] at z
    exact q _ _ (((e2.trans e3).trans e4).trans (Ex.new hp)) z⟩
def sp_l_odd (K : PySem.W.Frag) (c : Cl) : Sp := fun vs H Q _ => ∃ (r t : Addr) (s w cell : Int) (tab : List Int), vs = [.ref r, .int cell] ∧ RuleAt K H r t s w tab ∧ Good s w tab ∧ ∀ v H2, Ex H H2 → RThing K H2 v false → Q v H2
def t_l_odd (K : PySem.W.Frag) (c : Cl) (E : XK) : TS :=
(tSeq (tAsg (tVar 0) (gTup K 3 (gCons (gName 2) (gCons (gName 3) (gCons (gName 4) gNil)))))
    (tSeq (tAsg (tOp oMod (tOp oDiv (tVar 1) (tC (.int 24))) (tCB (Evl.rLenS K) (tCons (tVar 4) tNil))) (gName 5))
    (tSeq (tAsg (tOp oMod (tOp oDiv (tOp oDiv (tVar 1) (tC (.int 24))) (tCB (Evl.rLenS K) (tCons (tVar 4) tNil))) (tOp oPow (tC (.int 10)) (tC (.int 12)))) (gName 6))
    (tSeq (tAsg (tLst (tCons (tTup (tCons (tVar 2) (tCons (tVar 3) tNil))) (tCons (tTup (tCons (tVar 2) (tCons (tVar 3) (tCons (tVar 4) (tCons (tC (.int 1)) tNil))))) (tCons (tLst (tCons (tVar 2) (tCons (tVar 3) (tCons (tVar 4) tNil)))) (tCons (tTup (tCons (tVar 2) (tCons (tVar 3) (tCons (tCB (Evl.rListS K) (tCons (tVar 4) tNil)) tNil)))) tNil))))) (gName 7))
    (tSeq (tAsg (tOp oCat (tVar 7) (tLst (tCons (tTup (tCons (tC (.int 1)) (tCons (tVar 3) (tCons (tOp (rRepT K) (tTup (tCons (tC (.int 0)) tNil)) (tC (.int 4))) tNil)))) (tCons (tTup (tCons (tC (.bl true)) (tCons (tC (.int 1)) (tCons (tTup (tCons (tC (.int 0)) tNil)) tNil)))) (tCons (tTup (tCons (tVar 2) (tCons (tC (.bl true)) (tCons (tSl (rSlA K) (tVar 4) tNoPart (tPart (tVar 2))) tNil)))) (tCons (tTup (tCons (tVar 2) (tCons (tC (.int 0)) (tCons (tTup (tCons (tC (.int 0)) tNil)) tNil)))) tNil)))))) (gName 7))
    (tSeq (tAsg (tOp oCat (tVar 7) (tLst (tCons (tTup (tCons (tC (.int 5)) (tCons (tC (.int 1)) (tCons (tTup (tCons (tC (.int 0)) (tCons (tC (.int 1)) (tCons (tC (.int 2)) (tCons (tC (.int 3)) (tCons (tC (.int 4)) tNil)))))) tNil)))) tNil))) (gName 7))
    (tSeq (tAsg (tOp oCat (tVar 7) (tLst (tCons (tTup (tCons (tC (.int 2)) (tCons (tC (.int 5)) (tCons (tOp (rRepT K) (tTup (tCons (tC (.int 0)) (tCons (tC (.int 1)) tNil))) (tC (.int 16))) tNil)))) (tCons (tTup (tCons (tC (.int 3)) (tCons (tC (.int 3)) (tCons (tOp (rRepT K) (tTup (tCons (tC (.int 0)) (tCons (tC (.int 1)) (tCons (tC (.int 2)) tNil)))) (tC (.int 9))) tNil)))) (tCons (tTup (tCons (tC (.int 4)) (tCons (tC (.int 3)) (tCons (tOp (rRepT K) (tTup (tCons (tC (.int 0)) (tCons (tC (.int 1)) (tCons (tC (.int 2)) (tCons (tC (.int 3)) tNil))))) (tC (.int 16))) tNil)))) (tCons (tTup (tCons (tVar 2) (tCons (tVar 3) (tCons (tSl (rSlA K) (tVar 4) tNoPart (tPart (tUn oNeg (tC (.int 1))))) tNil)))) tNil)))))) (gName 7))
    (tSeq (tAsg (tOp oCat (tVar 7) (tLst (tCons (tTup (tCons (tVar 2) (tCons (tVar 3) (tCons (tOp (rCatA K) (tVar 4) (tTup (tCons (tC (.int 0)) tNil))) tNil)))) (tCons (tTup (tCons (tVar 2) (tCons (tVar 3) (tCons (tOp (rCatA K) (tOp (rCatA K) (tSl (rSlA K) (tVar 4) tNoPart (tPart (tVar 5))) (tTup (tCons (tVar 2) tNil))) (tSl (rSlA K) (tVar 4) (tPart (tOp oAdd (tVar 5) (tC (.int 1)))) tNoPart)) tNil)))) tNil)))) (gName 7))
    (tSeq (tAsg (tLst (tCons (tUn oNeg (tC (.int 1))) (tCons (tOp oAdd (tVar 2) (tVar 6)) (tCons (tC (.bl true)) (tCons (tC .non) (tCons (tC (.str "0")) (tCons (tLst (tCons (tC (.int 0)) tNil)) (tCons tDNewK tNil)))))))) (gName 8))
    (tSeq (tAsg (tOp oCat (tVar 7) (tLc (iList K (tVar 8)) (gName 9) tYes (tTup (tCons (tVar 2) (tCons (tVar 3) (tCons (tOp (rCatA K) (tOp (rCatA K) (tSl (rSlA K) (tVar 4) tNoPart (tPart (tVar 5))) (tTup (tCons (tVar 9) tNil))) (tSl (rSlA K) (tVar 4) (tPart (tOp oAdd (tVar 5) (tC (.int 1)))) tNoPart)) tNil)))) [9])) (gName 7))
    (tSeq (tAsg (tOp oCat (tVar 7) (tLst (tCons (tTup (tCons (tC .non) (tCons (tVar 3) (tCons (tVar 4) tNil)))) (tCons (tTup (tCons (tVar 2) (tCons (tLst (tCons (tC (.int 1)) tNil)) (tCons (tVar 4) tNil)))) tNil)))) (gName 7))
    (tRet (tOp (rIxL K) (tVar 7) (tOp oMod (tVar 1) (tC (.int 24))))))))))))))))
theorem len_l_odd (vs : List V) (H : Hp) (Q : VK) (E : XK) (h : sp_l_odd K c vs H Q E) : vs.length = 2 := by
  obtain ⟨r, t, s, w, cell, tab, rfl, _⟩ := h
  rfl
theorem cut_last (xs : List V) (h : 0 < xs.length) : (cutV xs none (some (-1))).length < xs.length := by
  unfold cutV
  rw [HT.sIx_none, List.drop_zero, Nat.sub_zero, List.length_take]
  have : HT.sIx xs.length xs.length (some (-1)) < xs.length := by
    unfold HT.sIx
    simp
    omega
  omega
theorem all_mid {xs ys : List V} {v : V} {f : V → Bool} (h : f v = false) : ((xs ++ [v]) ++ ys).all f = false := by
  rw [List.all_append, List.all_append]
  show ((_ && (f v && true)) && _) = false
  rw [h]
  simp
theorem pure_l_odd (vs : List V) (H : Hp) (Q : VK) (E : XK) (h : sp_l_odd K c vs H Q E) : t_l_odd K c E { nx := fun _ H' => Q .non H', rt := Q } (start' 10 vs) H := by
  obtain ⟨r, t, s, w, cell, tab, rfl, R, G, q⟩ := h
  have g2 := G.s2
  have g4 := G.s4
  have g1 := G.w1
  have g3 := G.w4
  have gl := G.len
  have g16 := G.l16
  have hpos : 0 < s ^ w.toNat := Int.pow_pos (by omega)
  have hlen : ((tab.map V.int).length : Int) = tab.length := by rw [List.length_map]
  have m24 := mod_in (x := cell) (s := 24) (by omega)
  refine q_unpack3 (ev_var rfl) R.top fun H1 e1 => ?_
  have ht1 := ex_t e1 R.tab
  refine q_asg (v := .int (cell / 24 % tab.length)) (ev_op (ev_op (ev_var rfl) ev_c (rv_div (by omega) (by omega))) (ev_is (ev_lenS (ev_var rfl) (Or.inr ht1)) (by rw [List.length_map])) (rv_mod (by omega))) fun H2 e2 => ?_
  generalize cell / 24 % (tab.length : Int) = at_
  refine q_asg (v := .int (cell / 24 / tab.length % 10 ^ 12)) (ev_op (ev_op (ev_op (ev_var rfl) ev_c (rv_div (by omega) (by omega))) (ev_is (ev_lenS (ev_var rfl) (Or.inr (ex_t e2 ht1))) (by rw [List.length_map])) (rv_div (by omega) (by omega))) (ev_is (ev_op ev_c ev_c (rv_pow ⟨by omega, by omega, by decide⟩)) rfl) (rv_mod (by decide))) fun H3 e3 => ?_
  have hfar := mod_in (x := cell / 24 / tab.length) (s := 10 ^ 12) (by decide)
  generalize cell / 24 / (tab.length : Int) % 10 ^ 12 = far at hfar
  have ht3 := ex_t (e2.trans e3) ht1
  have hT : ∀ {σ' : L2.St} {H' : Hp}, Ex H3 H' → σ'[4]? = some (some (.ref t)) → EuN K (tVar 4) σ' H' (tab.map V.int) := fun e h4 => eun_var (ev_var h4) (ex_t e ht3)
  have cutI : ∀ lo hi : Option Int, (cutV (tab.map V.int) lo hi).length ≤ 16 := fun lo hi => by
    have := cutV_length (tab.map V.int) lo hi
    rw [List.length_map] at this
    omega
  have triB : ∀ {x y : V} {zs : List V} {Tx Ty : String}, (∀ G, TyB K G x Tx) → (∀ G, TyB K G y Ty) → (∀ G, Typd K G zs) → zs.length ≤ 40000 → ruleB x y (some zs) = false → ∀ v G, TriP K x y zs v G → Bad K v G := fun hx hy ty hl hb v G h => bad_tri h (hx G) (hy G) (ty G) hl hb
  -- four
  refine q_asgP (P := LAll (Bad K) 4) (evp_lAll (eap_cons ?_ stab_bad (eap_cons ?_ stab_bad (eap_cons ?_ stab_bad (eap_cons ?_ stab_bad eap_nil)))) stab_bad (by omega)) fun v4 H4 e4 h4 => ?_
  · exact evp_pair (ea_cons (ev_var rfl) (ea_cons (ev_var rfl) ea_nil)) (lt_size 2) (by simp)
  · exact evp_pair (ea_cons (ev_var rfl) (ea_cons (ev_var rfl) (ea_cons (ev_var rfl) (ea_cons ev_c ea_nil)))) (lt_size 4) (by simp)
  · exact (EvP.lst (K := K) (el_lst (ea_cons (ev_var rfl) (ea_cons (ev_var rfl) (ea_cons (ev_var rfl) ea_nil))) (lt_size 3))).imp fun v G _ ⟨p, hv, hp⟩ => by
      rw [hv]
      exact .other (.lst hp) (by decide)
  · exact evp_triL (ev_var rfl) (ev_var rfl) (zs := tab.map V.int) (fun H1 e Q q => ⟨_, rfl, t, _, rfl, Or.inr (ex_t e ht3), fun l hl => q l _ hl (Ex.new hl) upd_same⟩) (fun _ => .int s) (fun _ => .int w)
  -- four more
  refine q_asgP (P := LAll (Bad K) (4 + 4)) (evp_catAll (evp_var rfl h4 (stab_LAll stab_bad)) (evp_lAll (eap_cons ?_ stab_bad (eap_cons ?_ stab_bad (eap_cons ?_ stab_bad (eap_cons ?_ stab_bad eap_nil)))) stab_bad (by omega)) stab_bad (by omega)) fun v5 H5 e5 h5 => ?_
  · exact ((evn_tri ev_c (ev_var rfl) (eun_rep (xs := [.int 0]) (eun_tup (ea_cons ev_c ea_nil) (lt_size 1)) ev_c (by simp) (by omega) (by omega) (by decide))).imp (triB (fun _ => .int 1) (fun _ => .int w) (fun G => typd_flat (typd_ints [0]) _) (by decide) (rb1 rfl))).evp stab_bad
  · exact ((evn_tri ev_c ev_c (eun_tup (xs := [.int 0]) (ea_cons ev_c ea_nil) (lt_size 1))).imp (triB (fun _ => .bl true) (fun _ => .int 1) (fun G => typd_ints [0]) (by decide) (rb1 rfl))).evp stab_bad
  · exact ((evn_tri (ev_var rfl) ev_c (eun_sl (hT e4 rfl) eo_none (eo_some (ev_var rfl)))).imp (triB (fun _ => .int s) (fun _ => .bl true) (fun G => typd_cut (typd_ints tab) _ _) (by have := cutI none (some s); omega) (rb2 rfl))).evp stab_bad
  · exact ((evn_tri (ev_var rfl) ev_c (eun_tup (xs := [.int 0]) (ea_cons ev_c ea_nil) (lt_size 1))).imp (triB (fun _ => .int s) (fun _ => .int 0) (fun G => typd_ints [0]) (by decide) (rb2 rfl))).evp stab_bad
  have E5 := e4.trans e5
  -- one more
  refine q_asgP (P := LAll (Bad K) (4 + 4 + 1)) (evp_catAll (evp_var rfl h5 (stab_LAll stab_bad)) (evp_lAll (eap_cons ?_ stab_bad eap_nil) stab_bad (by omega)) stab_bad (by omega)) fun v6 H6 e6 h6 => ?_
  · exact ((evn_tri ev_c ev_c (eun_tup (xs := [.int 0, .int 1, .int 2, .int 3, .int 4]) (ea_cons ev_c (ea_cons ev_c (ea_cons ev_c (ea_cons ev_c (ea_cons ev_c ea_nil))))) (lt_size 5))).imp (triB (fun _ => .int 5) (fun _ => .int 1) (fun G => typd_ints [0, 1, 2, 3, 4]) (by decide) (rb1 rfl))).evp stab_bad
  have E6 := E5.trans e6
  -- four more
  refine q_asgP (P := LAll (Bad K) (4 + 4 + 1 + 4)) (evp_catAll (evp_var rfl h6 (stab_LAll stab_bad)) (evp_lAll (eap_cons ?_ stab_bad (eap_cons ?_ stab_bad (eap_cons ?_ stab_bad (eap_cons ?_ stab_bad eap_nil)))) stab_bad (by omega)) stab_bad (by omega)) fun v7 H7 e7 h7 => ?_
  · exact ((evn_tri ev_c ev_c (eun_rep (xs := [.int 0, .int 1]) (eun_tup (ea_cons ev_c (ea_cons ev_c ea_nil)) (lt_size 2)) ev_c (by simp) (by omega) (by omega) (by decide))).imp (triB (fun _ => .int 2) (fun _ => .int 5) (fun G => typd_flat (typd_ints [0, 1]) _) (by decide) (rb2 rfl))).evp stab_bad
  · exact ((evn_tri ev_c ev_c (eun_rep (xs := [.int 0, .int 1, .int 2]) (eun_tup (ea_cons ev_c (ea_cons ev_c (ea_cons ev_c ea_nil))) (lt_size 3)) ev_c (by simp) (by omega) (by omega) (by decide))).imp (triB (fun _ => .int 3) (fun _ => .int 3) (fun G => typd_flat (typd_ints [0, 1, 2]) _) (by decide) (rb3 (by decide)))).evp stab_bad
  · exact ((evn_tri ev_c ev_c (eun_rep (xs := [.int 0, .int 1, .int 2, .int 3]) (eun_tup (ea_cons ev_c (ea_cons ev_c (ea_cons ev_c (ea_cons ev_c ea_nil)))) (lt_size 4)) ev_c (by simp) (by omega) (by omega) (by decide))).imp (triB (fun _ => .int 4) (fun _ => .int 3) (fun G => typd_flat (typd_ints [0, 1, 2, 3]) _) (by decide) (rb3 (by decide)))).evp stab_bad
  · refine ((evn_tri (ev_var rfl) (ev_var rfl) (eun_sl (hT E6 rfl) eo_none (eo_some (ev_un ev_c ru_neg)))).imp (triB (fun _ => .int s) (fun _ => .int w) (fun G => typd_cut (typd_ints tab) _ _) (by have := cutI none (some (-1)); omega) (rb4 ?_))).evp stab_bad
    have := cut_last (tab.map V.int) (by omega)
    show (decide (((cutV (tab.map V.int) none (some (-1))).length : Int) = s ^ w.toNat) && _) = false
    rw [decide_eq_false (by omega), Bool.false_and]
  have E7 := E6.trans e7
  have cutA : ∀ {σ' : L2.St} {H' : Hp}, Ex H3 H' → σ'[4]? = some (some (.ref t)) → σ'[5]? = some (some (.int at_)) → EuN K (tSl (rSlA K) (tVar 4) tNoPart (tPart (tVar 5))) σ' H' (cutV (tab.map V.int) none (some at_)) := fun e h4 h5 => eun_sl (hT e h4) eo_none (eo_some (ev_var h5))
  have cutB : ∀ {σ' : L2.St} {H' : Hp}, Ex H3 H' → σ'[4]? = some (some (.ref t)) → σ'[5]? = some (some (.int at_)) → EuN K (tSl (rSlA K) (tVar 4) (tPart (tOp oAdd (tVar 5) (tC (.int 1)))) tNoPart) σ' H' (cutV (tab.map V.int) (some (at_ + 1)) none) := fun e h4 h5 => eun_sl (hT e h4) (eo_some (ev_op (ev_var h5) ev_c rv_I0)) eo_none
  have ca := cutI none (some at_)
  have cb := cutI (some (at_ + 1)) none
  -- two more
  refine q_asgP (P := LAll (Bad K) (4 + 4 + 1 + 4 + 2)) (evp_catAll (evp_var rfl h7 (stab_LAll stab_bad)) (evp_lAll (eap_cons ?_ stab_bad (eap_cons ?_ stab_bad eap_nil)) stab_bad (by omega)) stab_bad (by omega)) fun v8 H8 e8 h8 => ?_
  · refine ((evn_tri (ev_var rfl) (ev_var rfl) (eun_cat (hT E7 rfl) (eun_tup (xs := [.int 0]) (ea_cons ev_c ea_nil) (lt_size 1)) (by rw [List.length_map]; show _ + 1 ≤ _; omega))).imp (triB (fun _ => .int s) (fun _ => .int w) (fun G => typd_app (typd_ints tab) (typd_ints [0])) (by rw [List.length_append, List.length_map]; show _ + 1 ≤ _; omega) (rb4 ?_))).evp stab_bad
    show (decide (((tab.map V.int ++ [V.int 0]).length : Int) = s ^ w.toNat) && _) = false
    rw [decide_eq_false (by rw [List.length_append, List.length_map]; show ¬ ((tab.length + 1 : Nat) : Int) = _; omega), Bool.false_and]
  · refine ((evn_tri (ev_var rfl) (ev_var rfl) (eun_cat (eun_cat (cutA E7 rfl rfl) (eun_tup (xs := [.int s]) (ea_cons (ev_var rfl) ea_nil) (lt_size 1)) (by show _ + 1 ≤ _; omega)) (cutB E7 rfl rfl) (by rw [List.length_append]; show (_ + 1) + _ ≤ _; omega))).imp (triB (fun _ => .int s) (fun _ => .int w) (fun G => typd_app (typd_app (typd_cut (typd_ints tab) _ _) (typd_ints [s])) (typd_cut (typd_ints tab) _ _)) (by rw [List.length_append, List.length_append]; show (_ + 1) + _ ≤ _; omega) (rb4 ?_))).evp stab_bad
    show (_ && _) = false
    rw [all_mid (show isFT (.int s) 0 (intOf (.int s) - 1) = false from by
      show (decide (0 ≤ s) && decide (s ≤ s - 1)) = false
      rw [decide_eq_false (show ¬ s ≤ s - 1 by omega), Bool.and_false]), Bool.and_false]
  have E8 := E7.trans e8
  -- seven odd signs
  refine q_asgP (P := LAll (OddS K s) 7) (evp_lAll ?_ stab_odd (by omega)) fun v9 H9 e9 h9 => ?_
  · refine eap_cons ((EvP.of (ev_un ev_c ru_neg)).imp fun u G _ h => by rw [h]; exact oddI (Or.inl (by omega))) stab_odd ?_
    refine eap_cons ((EvP.of (ev_op (ev_var rfl) (ev_var rfl) rv_I0)).imp fun u G _ h => by rw [h]; exact oddI (Or.inr (by omega))) stab_odd ?_
    refine eap_cons ((EvP.of (ev_c (v := .bl true))).imp fun u G _ h => by rw [h]; exact ⟨⟨_, .bl true⟩, rfl⟩) stab_odd ?_
    refine eap_cons ((EvP.of (ev_c (v := .non))).imp fun u G _ h => by rw [h]; exact ⟨⟨_, .non⟩, rfl⟩) stab_odd ?_
    refine eap_cons ((EvP.of ev_c).imp fun u G _ h => by rw [h]; exact ⟨⟨_, .str _⟩, rfl⟩) stab_odd ?_
    refine eap_cons ((EvP.lst (K := K) (xs := [.int 0]) (el_lst (ea_cons ev_c ea_nil) (lt_size 1))).imp fun u G _ ⟨p, h, hp⟩ => by rw [h]; exact ⟨⟨_, .lst hp⟩, rfl⟩) stab_odd ?_
    exact eap_cons (fun H1 e Q q p hp => q _ _ (Ex.new hp) ⟨⟨"dict", .dK upd_same⟩, rfl⟩) stab_odd eap_nil
  have E9 := E8.trans e9
  -- seven with such a sign
  refine q_asgP (P := LAll (Bad K) (4 + 4 + 1 + 4 + 2 + 7)) (evp_catAll (evp_var rfl (stab_LAll stab_bad _ _ _ e9 h8) (stab_LAll stab_bad)) (evp_lcAll (P := OddS K s) (R := Bad K) (evp_var rfl h9 (stab_LAll stab_odd)) stab_odd stab_bad (by omega) (fun _ => rfl) fun x Hb eb hx => ?_) stab_bad (by omega)) fun v10 H10 e10 h10 => ?_
  · have EB := E9.trans eb
    obtain ⟨⟨Tx, tx⟩, fx⟩ := hx
    intro Hc ec Q' q'
    refine evn_tri (K := K) (x := .int s) (y := .int w) (ev_var rfl) (ev_var rfl) (eun_cat (eun_cat (cutA EB rfl rfl) (eun_tup (xs := [x]) (ea_cons (ev_var rfl) ea_nil) (lt_size 1)) (by show _ + 1 ≤ _; omega)) (cutB EB rfl rfl) (by rw [List.length_append]; show (_ + 1) + _ ≤ _; omega)) Hc ec Q' fun v H2 e2 hv => q' v H2 e2 (bad_tri hv (.int s) (.int w) (typd_app (typd_app (typd_cut (typd_ints tab) _ _) (fun u hu => by
      rw [List.mem_singleton.mp hu]
      exact ⟨Tx, TyB.ex (res_old ec e2) tx⟩)) (typd_cut (typd_ints tab) _ _)) (by rw [List.length_append, List.length_append]; show (_ + 1) + _ ≤ _; omega) (rb4 ?_))
    show (_ && _) = false
    rw [all_mid (show isFT x 0 (intOf (.int s) - 1) = false from fx), Bool.and_false]
  have E10 := E9.trans e10
  -- the last two
  refine q_asgP (P := LAll (Bad K) (4 + 4 + 1 + 4 + 2 + 7 + 2)) (evp_catAll (evp_var rfl h10 (stab_LAll stab_bad)) (evp_lAll (eap_cons ?_ stab_bad (eap_cons ?_ stab_bad eap_nil)) stab_bad (by omega)) stab_bad (by omega)) fun v11 H11 e11 h11 => ?_
  · exact ((evn_tri ev_c (ev_var rfl) (hT E10 rfl)).imp (triB (fun _ => .non) (fun _ => .int w) (fun G => typd_ints tab) (by rw [List.length_map]; omega) (rb1 rfl))).evp stab_bad
  · exact evp_triM (ev_var rfl) (el_lst (ea_cons ev_c ea_nil) (lt_size 1)) (ev_var rfl) (fun _ => .int s) (ex_t E10 ht3) (fun G => typd_ints tab) (by rw [List.length_map]; omega)
  have E11 := ((e1.trans e2).trans e3).trans (E10.trans e11)
  exact s_retP (evp_pickAll (evp_var rfl h11 (stab_LAll stab_bad)) stab_bad (ev_op (ev_var rfl) ev_c (rv_mod (by omega))) m24.1 (by omega)) fun v H12 e12 hv => q v H12 (E11.trans e12) hv
end
end Br1

/-! ## law k01 -/
namespace Br1
open PySem PySem.Spec PyProof.Rows L2 Evl Br
section
variable {K : PySem.W.Frag} {c : Cl} {σ : L2.St} {H : Hp} {D : Ends} {E : XK} {x y v : V} {t1 t2 te : TE} {ta : TA} {vs : List V} {sp : Sp} {tu tz : TS}
/-! ### what refuses a thing that is no rule -/
def spR (n : Nat) (K : PySem.W.Frag) (c : Cl) : Sp := fun vs H _ E => ∃ (x : V) (rest : List V), vs = x :: rest ∧ rest.length = n ∧ RThing K H x false ∧ RaiseX c.BadRule H E
theorem lenR {n : Nat} {vs : List V} {Q : VK} (h : spR n K c vs H Q E) : vs.length = n + 1 := by
  obtain ⟨x, rest, rfl, rfl, _⟩ := h
  rfl
theorem spxR {n : Nat} {rest : List V} (p : RThing K H x false) (q : RaiseX c.BadRule H E) (hn : rest.length = n) : ∀ H1, Ex H H1 → ∀ Q : VK, spR n K c (x :: rest) H1 Q E := fun H1 e Q => ⟨x, rest, rfl, hn, p.ex e, q.ex e⟩
theorem spx_need_rule (p : RThing K H x false) (q : RaiseX c.BadRule H E) : ∀ H1, Ex H H1 → ∀ Q : VK, sp_need_rule K c [x] H1 Q E := fun H1 e Q => ⟨x, false, rfl, p.ex e, fun z => (nomatch z), fun _ => q.ex e⟩
theorem s_ifX (h : EvA ta σ H vs) (hs : ∀ H1, Ex H H1 → ∀ Q : VK, sp vs H1 Q E) {u w : TS} : tIfS (tNot (tB (tCall sp [] E ta))) u w D σ H := h H (Ex.refl H) _ fun H1 e1 => by
  have z := fun Q => hs H1 e1 Q
  rw [← List.append_nil vs] at z
  exact z _
theorem s_retX (h : EvA ta σ H vs) (hs : ∀ H1, Ex H H1 → ∀ Q : VK, sp vs H1 Q E) : tRet (tCall sp [] E ta) D σ H := h H (Ex.refl H) _ fun H1 e1 => by
  have z := fun Q => hs H1 e1 Q
  rw [← List.append_nil vs] at z
  exact z _
abbrev Any : VP := fun _ _ => True
theorem s_retX2 (h1 : Ev t1 σ H x) (h2 : EvP t2 σ H Any) (hs : ∀ y H1, Ex H H1 → ∀ Q : VK, sp [x, y] H1 Q E) : tRet (tCall sp [] E (tCons t1 (tCons t2 tNil))) D σ H :=
  h1 H (Ex.refl H) _ fun H1 e1 => h2 H1 e1 _ fun y H2 e2 _ => hs y H2 (e1.trans e2) _
theorem s_retX2b {P : VP} (h1 : EvP t1 σ H P) (h2 : ∀ H1, Ex H H1 → Ev t2 σ H1 y) (hs : ∀ x H1 H2, Ex H H1 → Ex H1 H2 → P x H1 → ∀ Q : VK, sp [x, y] H2 Q E) : tRet (tCall sp [] E (tCons t1 (tCons t2 tNil))) D σ H :=
  h1 H (Ex.refl H) _ fun x H1 e1 px => h2 H1 e1 H1 (Ex.refl _) _ fun H2 e2 => hs x H1 H2 e1 e2 px _
theorem any_lst (K : PySem.W.Frag) (h : EvA ta σ H vs) (hl : vs.length ≤ 100000) : EvP (tLst ta) σ H Any := (EvP.lst (K := K) (xs := vs) (el_lst h hl)).imp fun _ _ _ _ => trivial
def sp_missing (K : PySem.W.Frag) (c : Cl) : Sp := spR 0 K c
def sp_all_ends (K : PySem.W.Frag) (c : Cl) : Sp := spR 0 K c
def sp_twins (K : PySem.W.Frag) (c : Cl) : Sp := spR 0 K c
def sp_rings (K : PySem.W.Frag) (c : Cl) : Sp := spR 0 K c
def sp_bounds (K : PySem.W.Frag) (c : Cl) : Sp := spR 0 K c
def sp_shown (K : PySem.W.Frag) (c : Cl) : Sp := spR 0 K c
def sp_is_piece (K : PySem.W.Frag) (c : Cl) : Sp := spR 1 K c
def sp_need_piece (K : PySem.W.Frag) (c : Cl) : Sp := spR 1 K c
def sp_need_ring (K : PySem.W.Frag) (c : Cl) : Sp := spR 1 K c
def sp_piece_on (K : PySem.W.Frag) (c : Cl) : Sp := spR 1 K c
def sp_ring_on (K : PySem.W.Frag) (c : Cl) : Sp := spR 1 K c
def sp_count_of (K : PySem.W.Frag) (c : Cl) : Sp := spR 1 K c
def sp_origin_of (K : PySem.W.Frag) (c : Cl) : Sp := spR 1 K c
def sp_ends_of (K : PySem.W.Frag) (c : Cl) : Sp := spR 1 K c
def sp_ring_back (K : PySem.W.Frag) (c : Cl) : Sp := spR 1 K c
def sp_piece_back (K : PySem.W.Frag) (c : Cl) : Sp := spR 1 K c
def t_missing (K : PySem.W.Frag) (c : Cl) (E : XK) : TS :=
(tSeq (tDrop (tCall (sp_need_rule K c) [] E (tCons (tVar 0) tNil)))
    tNever)

def t_all_ends (K : PySem.W.Frag) (c : Cl) (E : XK) : TS :=
(tSeq (tDrop (tCall (sp_need_rule K c) [] E (tCons (tVar 0) tNil)))
    (tSeq tNever
    (tSeq tNever
    tNever)))

def t_twins (K : PySem.W.Frag) (c : Cl) (E : XK) : TS :=
(tSeq (tDrop (tCall (sp_need_rule K c) [] E (tCons (tVar 0) tNil)))
    (tSeq tNever
    (tSeq tNever
    (tSeq tNever
    (tSeq tNever
    (tSeq tNever
    tNever))))))

def t_rings (K : PySem.W.Frag) (c : Cl) (E : XK) : TS :=
(tSeq (tDrop (tCall (sp_need_rule K c) [] E (tCons (tVar 0) tNil)))
    (tSeq tNever
    (tSeq tNever
    (tSeq tNever
    (tSeq tNever
    (tSeq tNever
    tNever))))))

def t_bounds (K : PySem.W.Frag) (c : Cl) (E : XK) : TS :=
(tSeq (tDrop (tCall (sp_need_rule K c) [] E (tCons (tVar 0) tNil)))
    (tSeq tNever
    (tSeq tNever
    (tSeq tNever
    (tSeq tNever
    (tSeq tNever
    tNever))))))

def t_shown (K : PySem.W.Frag) (c : Cl) (E : XK) : TS :=
(tSeq (tDrop (tCall (sp_need_rule K c) [] E (tCons (tVar 0) tNil)))
    (tSeq tNever
    tNever))

def t_is_piece (K : PySem.W.Frag) (c : Cl) (E : XK) : TS :=
(tSeq (tDrop (tCall (sp_need_rule K c) [] E (tCons (tVar 0) tNil)))
    tNever)

def t_need_piece (K : PySem.W.Frag) (c : Cl) (E : XK) : TS :=
(tIfS (tNot (tB (tCall (sp_is_piece K c) [] E (tCons (tVar 0) (tCons (tVar 1) tNil))))) (tRaise c.BadRow E) tNext)

def t_need_ring (K : PySem.W.Frag) (c : Cl) (E : XK) : TS :=
(tSeq (tDrop (tCall (sp_need_piece K c) [] E (tCons (tVar 0) (tCons (tVar 1) tNil))))
    tNever)

def t_piece_on (K : PySem.W.Frag) (c : Cl) (E : XK) : TS :=
(tSeq (tDrop (tCall (sp_need_piece K c) [] E (tCons (tVar 0) (tCons (tVar 1) tNil))))
    (tSeq tNever
    tNever))

def t_ring_on (K : PySem.W.Frag) (c : Cl) (E : XK) : TS :=
(tSeq (tDrop (tCall (sp_need_ring K c) [] E (tCons (tVar 0) (tCons (tVar 1) tNil))))
    (tSeq tNever
    (tSeq tNever
    tNever)))

def t_count_of (K : PySem.W.Frag) (c : Cl) (E : XK) : TS :=
(tSeq (tDrop (tCall (sp_need_piece K c) [] E (tCons (tVar 0) (tCons (tVar 1) tNil))))
    (tSeq tNever
    (tSeq tNever
    (tSeq tNever
    tNever))))

def t_origin_of (K : PySem.W.Frag) (c : Cl) (E : XK) : TS :=
(tSeq (tDrop (tCall (sp_need_piece K c) [] E (tCons (tVar 0) (tCons (tVar 1) tNil))))
    (tSeq tNever
    (tSeq tNever
    (tSeq tNever
    (tSeq tNever
    (tSeq tNever
    (tSeq tNever
    (tSeq tNever
    tNever))))))))

def t_ends_of (K : PySem.W.Frag) (c : Cl) (E : XK) : TS :=
(tSeq (tDrop (tCall (sp_need_piece K c) [] E (tCons (tVar 0) (tCons (tVar 1) tNil))))
    (tSeq tNever
    (tSeq tNever
    (tSeq tNever
    tNever))))

def t_ring_back (K : PySem.W.Frag) (c : Cl) (E : XK) : TS :=
(tSeq (tDrop (tCall (sp_need_ring K c) [] E (tCons (tVar 0) (tCons (tVar 1) tNil))))
    (tSeq tNever
    (tSeq tNever
    (tSeq tNever
    (tSeq tNever
    tNever)))))

def t_piece_back (K : PySem.W.Frag) (c : Cl) (E : XK) : TS :=
(tSeq (tDrop (tCall (sp_need_piece K c) [] E (tCons (tVar 0) (tCons (tVar 1) tNil))))
    (tSeq tNever
    (tSeq tNever
    tNever)))
theorem len_missing (vs : List V) (H : Hp) (Q : VK) (E : XK) (h : sp_missing K c vs H Q E) : vs.length = 1 := lenR h
theorem pure_missing (vs : List V) (H : Hp) (Q : VK) (E : XK) (h : sp_missing K c vs H Q E) : t_missing K c E { nx := fun _ H' => Q .non H', rt := Q } (start' 1 vs) H := by
  obtain ⟨x, rest, rfl, hn, p, q⟩ := h
  cases List.length_eq_zero_iff.mp hn
  exact q_dropX (ea_cons (ev_var rfl) ea_nil) (spx_need_rule p q)
theorem len_all_ends (vs : List V) (H : Hp) (Q : VK) (E : XK) (h : sp_all_ends K c vs H Q E) : vs.length = 1 := lenR h
theorem pure_all_ends (vs : List V) (H : Hp) (Q : VK) (E : XK) (h : sp_all_ends K c vs H Q E) : t_all_ends K c E { nx := fun _ H' => Q .non H', rt := Q } (start' 2 vs) H := by
  obtain ⟨x, rest, rfl, hn, p, q⟩ := h
  cases List.length_eq_zero_iff.mp hn
  exact q_dropX (ea_cons (ev_var rfl) ea_nil) (spx_need_rule p q)
theorem len_twins (vs : List V) (H : Hp) (Q : VK) (E : XK) (h : sp_twins K c vs H Q E) : vs.length = 1 := lenR h
theorem pure_twins (vs : List V) (H : Hp) (Q : VK) (E : XK) (h : sp_twins K c vs H Q E) : t_twins K c E { nx := fun _ H' => Q .non H', rt := Q } (start' 8 vs) H := by
  obtain ⟨x, rest, rfl, hn, p, q⟩ := h
  cases List.length_eq_zero_iff.mp hn
  exact q_dropX (ea_cons (ev_var rfl) ea_nil) (spx_need_rule p q)
theorem len_rings (vs : List V) (H : Hp) (Q : VK) (E : XK) (h : sp_rings K c vs H Q E) : vs.length = 1 := lenR h
theorem pure_rings (vs : List V) (H : Hp) (Q : VK) (E : XK) (h : sp_rings K c vs H Q E) : t_rings K c E { nx := fun _ H' => Q .non H', rt := Q } (start' 9 vs) H := by
  obtain ⟨x, rest, rfl, hn, p, q⟩ := h
  cases List.length_eq_zero_iff.mp hn
  exact q_dropX (ea_cons (ev_var rfl) ea_nil) (spx_need_rule p q)
theorem len_bounds (vs : List V) (H : Hp) (Q : VK) (E : XK) (h : sp_bounds K c vs H Q E) : vs.length = 1 := lenR h
theorem pure_bounds (vs : List V) (H : Hp) (Q : VK) (E : XK) (h : sp_bounds K c vs H Q E) : t_bounds K c E { nx := fun _ H' => Q .non H', rt := Q } (start' 9 vs) H := by
  obtain ⟨x, rest, rfl, hn, p, q⟩ := h
  cases List.length_eq_zero_iff.mp hn
  exact q_dropX (ea_cons (ev_var rfl) ea_nil) (spx_need_rule p q)
theorem len_shown (vs : List V) (H : Hp) (Q : VK) (E : XK) (h : sp_shown K c vs H Q E) : vs.length = 1 := lenR h
theorem pure_shown (vs : List V) (H : Hp) (Q : VK) (E : XK) (h : sp_shown K c vs H Q E) : t_shown K c E { nx := fun _ H' => Q .non H', rt := Q } (start' 4 vs) H := by
  obtain ⟨x, rest, rfl, hn, p, q⟩ := h
  cases List.length_eq_zero_iff.mp hn
  exact q_dropX (ea_cons (ev_var rfl) ea_nil) (spx_need_rule p q)
theorem len_is_piece (vs : List V) (H : Hp) (Q : VK) (E : XK) (h : sp_is_piece K c vs H Q E) : vs.length = 2 := lenR h
theorem pure_is_piece (vs : List V) (H : Hp) (Q : VK) (E : XK) (h : sp_is_piece K c vs H Q E) : t_is_piece K c E { nx := fun _ H' => Q .non H', rt := Q } (start' 2 vs) H := by
  obtain ⟨x, rest, rfl, hn, p, q⟩ := h
  obtain ⟨y, rfl⟩ := List.length_eq_one_iff.mp hn
  exact q_dropX (ea_cons (ev_var rfl) ea_nil) (spx_need_rule p q)
theorem len_need_piece (vs : List V) (H : Hp) (Q : VK) (E : XK) (h : sp_need_piece K c vs H Q E) : vs.length = 2 := lenR h
theorem pure_need_piece (vs : List V) (H : Hp) (Q : VK) (E : XK) (h : sp_need_piece K c vs H Q E) : t_need_piece K c E { nx := fun _ H' => Q .non H', rt := Q } (start' 2 vs) H := by
  obtain ⟨x, rest, rfl, hn, p, q⟩ := h
  obtain ⟨y, rfl⟩ := List.length_eq_one_iff.mp hn
  exact s_ifX (ea_cons (ev_var rfl) (ea_cons (ev_var rfl) ea_nil)) (spxR p q rfl)
theorem len_need_ring (vs : List V) (H : Hp) (Q : VK) (E : XK) (h : sp_need_ring K c vs H Q E) : vs.length = 2 := lenR h
theorem pure_need_ring (vs : List V) (H : Hp) (Q : VK) (E : XK) (h : sp_need_ring K c vs H Q E) : t_need_ring K c E { nx := fun _ H' => Q .non H', rt := Q } (start' 2 vs) H := by
  obtain ⟨x, rest, rfl, hn, p, q⟩ := h
  obtain ⟨y, rfl⟩ := List.length_eq_one_iff.mp hn
  exact q_dropX (ea_cons (ev_var rfl) (ea_cons (ev_var rfl) ea_nil)) (spxR p q rfl)
theorem len_piece_on (vs : List V) (H : Hp) (Q : VK) (E : XK) (h : sp_piece_on K c vs H Q E) : vs.length = 2 := lenR h
theorem pure_piece_on (vs : List V) (H : Hp) (Q : VK) (E : XK) (h : sp_piece_on K c vs H Q E) : t_piece_on K c E { nx := fun _ H' => Q .non H', rt := Q } (start' 2 vs) H := by
  obtain ⟨x, rest, rfl, hn, p, q⟩ := h
  obtain ⟨y, rfl⟩ := List.length_eq_one_iff.mp hn
  exact q_dropX (ea_cons (ev_var rfl) (ea_cons (ev_var rfl) ea_nil)) (spxR p q rfl)
theorem len_ring_on (vs : List V) (H : Hp) (Q : VK) (E : XK) (h : sp_ring_on K c vs H Q E) : vs.length = 2 := lenR h
theorem pure_ring_on (vs : List V) (H : Hp) (Q : VK) (E : XK) (h : sp_ring_on K c vs H Q E) : t_ring_on K c E { nx := fun _ H' => Q .non H', rt := Q } (start' 5 vs) H := by
  obtain ⟨x, rest, rfl, hn, p, q⟩ := h
  obtain ⟨y, rfl⟩ := List.length_eq_one_iff.mp hn
  exact q_dropX (ea_cons (ev_var rfl) (ea_cons (ev_var rfl) ea_nil)) (spxR p q rfl)
theorem len_count_of (vs : List V) (H : Hp) (Q : VK) (E : XK) (h : sp_count_of K c vs H Q E) : vs.length = 2 := lenR h
theorem pure_count_of (vs : List V) (H : Hp) (Q : VK) (E : XK) (h : sp_count_of K c vs H Q E) : t_count_of K c E { nx := fun _ H' => Q .non H', rt := Q } (start' 5 vs) H := by
  obtain ⟨x, rest, rfl, hn, p, q⟩ := h
  obtain ⟨y, rfl⟩ := List.length_eq_one_iff.mp hn
  exact q_dropX (ea_cons (ev_var rfl) (ea_cons (ev_var rfl) ea_nil)) (spxR p q rfl)
theorem len_origin_of (vs : List V) (H : Hp) (Q : VK) (E : XK) (h : sp_origin_of K c vs H Q E) : vs.length = 2 := lenR h
theorem pure_origin_of (vs : List V) (H : Hp) (Q : VK) (E : XK) (h : sp_origin_of K c vs H Q E) : t_origin_of K c E { nx := fun _ H' => Q .non H', rt := Q } (start' 10 vs) H := by
  obtain ⟨x, rest, rfl, hn, p, q⟩ := h
  obtain ⟨y, rfl⟩ := List.length_eq_one_iff.mp hn
  exact q_dropX (ea_cons (ev_var rfl) (ea_cons (ev_var rfl) ea_nil)) (spxR p q rfl)
theorem len_ends_of (vs : List V) (H : Hp) (Q : VK) (E : XK) (h : sp_ends_of K c vs H Q E) : vs.length = 2 := lenR h
theorem pure_ends_of (vs : List V) (H : Hp) (Q : VK) (E : XK) (h : sp_ends_of K c vs H Q E) : t_ends_of K c E { nx := fun _ H' => Q .non H', rt := Q } (start' 5 vs) H := by
  obtain ⟨x, rest, rfl, hn, p, q⟩ := h
  obtain ⟨y, rfl⟩ := List.length_eq_one_iff.mp hn
  exact q_dropX (ea_cons (ev_var rfl) (ea_cons (ev_var rfl) ea_nil)) (spxR p q rfl)
theorem len_ring_back (vs : List V) (H : Hp) (Q : VK) (E : XK) (h : sp_ring_back K c vs H Q E) : vs.length = 2 := lenR h
theorem pure_ring_back (vs : List V) (H : Hp) (Q : VK) (E : XK) (h : sp_ring_back K c vs H Q E) : t_ring_back K c E { nx := fun _ H' => Q .non H', rt := Q } (start' 8 vs) H := by
  obtain ⟨x, rest, rfl, hn, p, q⟩ := h
  obtain ⟨y, rfl⟩ := List.length_eq_one_iff.mp hn
  exact q_dropX (ea_cons (ev_var rfl) (ea_cons (ev_var rfl) ea_nil)) (spxR p q rfl)
theorem len_piece_back (vs : List V) (H : Hp) (Q : VK) (E : XK) (h : sp_piece_back K c vs H Q E) : vs.length = 2 := lenR h
theorem pure_piece_back (vs : List V) (H : Hp) (Q : VK) (E : XK) (h : sp_piece_back K c vs H Q E) : t_piece_back K c E { nx := fun _ H' => Q .non H', rt := Q } (start' 4 vs) H := by
  obtain ⟨x, rest, rfl, hn, p, q⟩ := h
  obtain ⟨y, rfl⟩ := List.length_eq_one_iff.mp hn
  exact q_dropX (ea_cons (ev_var rfl) (ea_cons (ev_var rfl) ea_nil)) (spxR p q rfl)
/-! ### joined -/
def sp_joined (K : PySem.W.Frag) (c : Cl) : Sp := fun vs H _ E => ∃ x y : V, vs = [x, y] ∧ (RThing K H x false ∨ (RThing K H x true ∧ RThing K H y false)) ∧ RaiseX c.BadRule H E
def t_joined (K : PySem.W.Frag) (c : Cl) (E : XK) : TS :=
(tSeq (tDrop (tCall (sp_need_rule K c) [] E (tCons (tVar 0) tNil)))
    (tSeq (tDrop (tCall (sp_need_rule K c) [] E (tCons (tVar 1) tNil)))
    (tSeq tNever
    (tSeq tNever
    (tSeq tNever
    (tSeq tNever
    (tSeq tNever
    (tSeq tNever
    tNever))))))))
theorem len_joined (vs : List V) (H : Hp) (Q : VK) (E : XK) (h : sp_joined K c vs H Q E) : vs.length = 2 := by
  obtain ⟨x, y, rfl, _⟩ := h
  rfl
theorem pure_joined (vs : List V) (H : Hp) (Q : VK) (E : XK) (h : sp_joined K c vs H Q E) : t_joined K c E { nx := fun _ H' => Q .non H', rt := Q } (start' 7 vs) H := by
  obtain ⟨x, y, rfl, p | ⟨p, p2⟩, q⟩ := h
  · exact q_dropX (ea_cons (ev_var rfl) ea_nil) (spx_need_rule p q)
  · refine q_drop (ev_call (ea_cons (ev_var rfl) ea_nil) (spv_need_rule p)) fun H1 e1 => ?_
    exact q_dropX (ea_cons (ev_var rfl) ea_nil) (spx_need_rule (p2.ex e1) (q.ex e1))
/-! ### asked -/
def sp_l_asked_of_cells (K : PySem.W.Frag) (c : Cl) : Sp := fun vs H _ E => ∃ (way : Int) (x : V), vs = [.int way, x] ∧ RThing K H x false ∧ RaiseX c.BadRule H E
def t_l_asked_of_cells (K : PySem.W.Frag) (c : Cl) (E : XK) : TS :=
(tSeq (tIfS (tTest (tOp rEq (tVar 0) (tC (.int 9)))) (tRet (tCall (sp_is_piece K c) [] E (tCons (tVar 1) (tCons (tLst (tCons (tC (.int 5)) (tCons (tC .non) tNil))) tNil)))) tNext)
    (tSeq (tIfS (tTest (tOp rEq (tVar 0) (tC (.int 10)))) (tRet (tCall (sp_piece_on K c) [] E (tCons (tVar 1) (tCons (tLst (tCons (tC (.int 5)) (tCons (tC .non) tNil))) tNil)))) tNext)
    (tSeq (tIfS (tTest (tOp rEq (tVar 0) (tC (.int 11)))) (tRet (tCall (sp_ring_on K c) [] E (tCons (tVar 1) (tCons (tLst tNil) tNil)))) tNext)
    (tSeq (tIfS (tTest (tOp rEq (tVar 0) (tC (.int 12)))) (tRet (tCall (sp_count_of K c) [] E (tCons (tVar 1) (tCons (tLst (tCons (tC (.int 5)) (tCons (tC .non) tNil))) tNil)))) tNext)
    (tSeq (tIfS (tTest (tOp rEq (tVar 0) (tC (.int 13)))) (tRet (tCall (sp_origin_of K c) [] E (tCons (tVar 1) (tCons (tC .non) tNil)))) tNext)
    (tSeq (tIfS (tTest (tOp rEq (tVar 0) (tC (.int 14)))) (tRet (tCall (sp_ends_of K c) [] E (tCons (tVar 1) (tCons (tLst (tCons (tC (.int 5)) (tCons (tC .non) tNil))) tNil)))) tNext)
    (tSeq (tIfS (tTest (tOp rEq (tVar 0) (tC (.int 15)))) (tRet (tCall (sp_ring_back K c) [] E (tCons (tVar 1) (tCons (tC (.str "01")) tNil)))) tNext)
    (tRet (tCall (sp_piece_back K c) [] E (tCons (tVar 1) (tCons (tLst (tCons (tC (.int 5)) (tCons (tC .non) tNil))) tNil)))))))))))
theorem len_l_asked_of_cells (vs : List V) (H : Hp) (Q : VK) (E : XK) (h : sp_l_asked_of_cells K c vs H Q E) : vs.length = 2 := by
  obtain ⟨way, x, rfl, _⟩ := h
  rfl
theorem pure_l_asked_of_cells (vs : List V) (H : Hp) (Q : VK) (E : XK) (h : sp_l_asked_of_cells K c vs H Q E) : t_l_asked_of_cells K c E { nx := fun _ H' => Q .non H', rt := Q } (start' 2 vs) H := by
  obtain ⟨way, x, rfl, p, q⟩ := h
  have a5 : ∀ {H1 : Hp}, EvP (tLst (tCons (tC (.int 5)) (tCons (tC .non) tNil))) (start' 2 [.int way, x]) H1 Any := any_lst K (ea_cons ev_c (ea_cons ev_c ea_nil)) (lt_size 2)
  have yes : ∀ {H1 : Hp} {t2 : TE} {D : Ends}, Ex H H1 → EvP t2 (start' 2 [.int way, x]) H1 Any → tRet (tCall (spR 1 K c) [] E (tCons (tVar 1) (tCons t2 tNil))) D (start' 2 [.int way, x]) H1 := fun e h2 => s_retX2 (ev_var rfl) h2 fun y H2 e2 Q => ⟨x, [y], rfl, rfl, p.ex (e.trans e2), q.ex (e.trans e2)⟩
  refine q_when (b := decide (way = 9)) (et_test (ev_op (ev_var rfl) ev_c rv_eqI)) (fun _ H1 e1 => yes e1 a5) fun _ H1 e1 => ?_
  refine q_when (b := decide (way = 10)) (et_test (ev_op (ev_var rfl) ev_c rv_eqI)) (fun _ H2 e2 => yes (e1.trans e2) a5) fun _ H2 e2 => ?_
  have E2 := e1.trans e2
  refine q_when (b := decide (way = 11)) (et_test (ev_op (ev_var rfl) ev_c rv_eqI)) (fun _ H3 e3 => yes (E2.trans e3) (any_lst K ea_nil (lt_size 0))) fun _ H3 e3 => ?_
  have E3 := E2.trans e3
  refine q_when (b := decide (way = 12)) (et_test (ev_op (ev_var rfl) ev_c rv_eqI)) (fun _ H4 e4 => yes (E3.trans e4) a5) fun _ H4 e4 => ?_
  have E4 := E3.trans e4
  refine q_when (b := decide (way = 13)) (et_test (ev_op (ev_var rfl) ev_c rv_eqI)) (fun _ H5 e5 => yes (E4.trans e5) ((EvP.of ev_c).imp fun _ _ _ _ => trivial)) fun _ H5 e5 => ?_
  have E5 := E4.trans e5
  refine q_when (b := decide (way = 14)) (et_test (ev_op (ev_var rfl) ev_c rv_eqI)) (fun _ H6 e6 => yes (E5.trans e6) a5) fun _ H6 e6 => ?_
  have E6 := E5.trans e6
  refine q_when (b := decide (way = 15)) (et_test (ev_op (ev_var rfl) ev_c rv_eqI)) (fun _ H7 e7 => yes (E6.trans e7) ((EvP.of ev_c).imp fun _ _ _ _ => trivial)) fun _ H7 e7 => ?_
  exact yes (E6.trans e7) a5
def sp_l_asked (K : PySem.W.Frag) (c : Cl) : Sp := sp_l_asked_of_cells K c
def t_l_asked (K : PySem.W.Frag) (c : Cl) (E : XK) : TS :=
(tSeq (tIfS (tTest (tOp rEq (tVar 0) (tC (.int 0)))) (tRet (tCall (sp_need_rule K c) [] E (tCons (tVar 1) tNil))) tNext)
    (tSeq (tIfS (tTest (tOp rEq (tVar 0) (tC (.int 1)))) (tRet (tCall (sp_missing K c) [] E (tCons (tVar 1) tNil))) tNext)
    (tSeq (tIfS (tTest (tOp rEq (tVar 0) (tC (.int 2)))) (tRet (tCall (sp_all_ends K c) [] E (tCons (tVar 1) tNil))) tNext)
    (tSeq (tIfS (tTest (tOp rEq (tVar 0) (tC (.int 3)))) (tRet (tCall (sp_twins K c) [] E (tCons (tVar 1) tNil))) tNext)
    (tSeq (tIfS (tTest (tOp rEq (tVar 0) (tC (.int 4)))) (tRet (tCall (sp_rings K c) [] E (tCons (tVar 1) tNil))) tNext)
    (tSeq (tIfS (tTest (tOp rEq (tVar 0) (tC (.int 5)))) (tRet (tCall (sp_bounds K c) [] E (tCons (tVar 1) tNil))) tNext)
    (tSeq (tIfS (tTest (tOp rEq (tVar 0) (tC (.int 6)))) (tRet (tCall (sp_shown K c) [] E (tCons (tVar 1) tNil))) tNext)
    (tSeq (tIfS (tTest (tOp rEq (tVar 0) (tC (.int 7)))) (tRet (tCall (sp_joined K c) [] E (tCons (tVar 1) (tCons (tTup (tCons (tC (.int 2)) (tCons (tC (.int 1)) (tCons (tTup (tCons (tC (.int 0)) (tCons (tC (.int 1)) tNil))) tNil)))) tNil)))) tNext)
    (tSeq (tIfS (tTest (tOp rEq (tVar 0) (tC (.int 8)))) (tRet (tCall (sp_joined K c) [] E (tCons (tTup (tCons (tC (.int 2)) (tCons (tC (.int 1)) (tCons (tTup (tCons (tC (.int 0)) (tCons (tC (.int 1)) tNil))) tNil)))) (tCons (tVar 1) tNil)))) tNext)
    (tRet (tCall (sp_l_asked_of_cells K c) [] E (tCons (tVar 0) (tCons (tVar 1) tNil)))))))))))))
theorem len_l_asked (vs : List V) (H : Hp) (Q : VK) (E : XK) (h : sp_l_asked K c vs H Q E) : vs.length = 2 := len_l_asked_of_cells vs H Q E h
theorem pure_l_asked (vs : List V) (H : Hp) (Q : VK) (E : XK) (h : sp_l_asked K c vs H Q E) : t_l_asked K c E { nx := fun _ H' => Q .non H', rt := Q } (start' 2 vs) H := by
  obtain ⟨way, x, rfl, p, q⟩ := h
  have yes : ∀ {H1 : Hp} {D : Ends}, Ex H H1 → tRet (tCall (spR 0 K c) [] E (tCons (tVar 1) tNil)) D (start' 2 [.int way, x]) H1 := fun e => s_retX (ea_cons (ev_var rfl) ea_nil) fun H2 e2 Q => ⟨x, [], rfl, rfl, p.ex (e.trans e2), q.ex (e.trans e2)⟩
  refine q_when (b := decide (way = 0)) (et_test (ev_op (ev_var rfl) ev_c rv_eqI)) (fun _ H1 e1 => s_retX (ea_cons (ev_var rfl) ea_nil) (spx_need_rule (p.ex e1) (q.ex e1))) fun _ H1 e1 => ?_
  refine q_when (b := decide (way = 1)) (et_test (ev_op (ev_var rfl) ev_c rv_eqI)) (fun _ H2 e2 => yes (e1.trans e2)) fun _ H2 e2 => ?_
  have E2 := e1.trans e2
  refine q_when (b := decide (way = 2)) (et_test (ev_op (ev_var rfl) ev_c rv_eqI)) (fun _ H3 e3 => yes (E2.trans e3)) fun _ H3 e3 => ?_
  have E3 := E2.trans e3
  refine q_when (b := decide (way = 3)) (et_test (ev_op (ev_var rfl) ev_c rv_eqI)) (fun _ H4 e4 => yes (E3.trans e4)) fun _ H4 e4 => ?_
  have E4 := E3.trans e4
  refine q_when (b := decide (way = 4)) (et_test (ev_op (ev_var rfl) ev_c rv_eqI)) (fun _ H5 e5 => yes (E4.trans e5)) fun _ H5 e5 => ?_
  have E5 := E4.trans e5
  refine q_when (b := decide (way = 5)) (et_test (ev_op (ev_var rfl) ev_c rv_eqI)) (fun _ H6 e6 => yes (E5.trans e6)) fun _ H6 e6 => ?_
  have E6 := E5.trans e6
  refine q_when (b := decide (way = 6)) (et_test (ev_op (ev_var rfl) ev_c rv_eqI)) (fun _ H7 e7 => yes (E6.trans e7)) fun _ H7 e7 => ?_
  have E7 := E6.trans e7
  have good : ∀ {H1 : Hp}, EvP (tTup (tCons (tC (.int 2)) (tCons (tC (.int 1)) (tCons (tTup (tCons (tC (.int 0)) (tCons (tC (.int 1)) tNil))) tNil)))) (start' 2 [.int way, x]) H1 (fun v G => RThing K G v true) := fun {H1} =>
    (EvN.evp (evn_tri (K := K) (x := .int 2) (y := .int 1) (zs := [.int 0, .int 1]) ev_c ev_c (eun_tup (ea_cons ev_c (ea_cons ev_c ea_nil)) (lt_size 2))) stab_tri).imp fun v G _ ⟨r, u, hv, a, b⟩ => by
      rw [hv]
      have z := RThing.tri a (.int 2) (.int 1) (TThing.tup (zs := ([0, 1] : List Int).map V.int) b (ints_ty [0, 1]) (by show 2 ≤ 40000; omega))
      rwa [show ruleB (.int 2) (.int 1) (some (([0, 1] : List Int).map V.int)) = true from by decide] at z
  refine q_when (b := decide (way = 7)) (et_test (ev_op (ev_var rfl) ev_c rv_eqI)) (fun _ H8 e8 => ?_) fun _ H8 e8 => ?_
  · exact s_retX2 (ev_var rfl) (good.imp fun _ _ _ _ => trivial) fun y H2 e2 Q => ⟨x, y, rfl, .inl (p.ex ((E7.trans e8).trans e2)), q.ex ((E7.trans e8).trans e2)⟩
  have E8 := E7.trans e8
  refine q_when (b := decide (way = 8)) (et_test (ev_op (ev_var rfl) ev_c rv_eqI)) (fun _ H9 e9 => ?_) fun _ H9 e9 => ?_
  · exact s_retX2b good (fun _ _ => ev_var rfl) fun g H1 H2 e1 e2 hg Q => ⟨g, x, rfl, .inr ⟨hg.ex e2, p.ex ((E8.trans e9).trans (e1.trans e2))⟩, q.ex ((E8.trans e9).trans (e1.trans e2))⟩
  exact s_retX (ea_cons (ev_var rfl) (ea_cons (ev_var rfl) ea_nil)) fun H2 e2 Q => ⟨way, x, rfl, p.ex ((E8.trans e9).trans e2), q.ex ((E8.trans e9).trans e2)⟩
/-! ### refused -/
structure KF1 (K : PySem.W.Frag) (c : Cl) : Prop where
  row : KErr K c c.BadRule
  n1 : PySem.W.kitOne K (.ref c.BadRule) (.ref c.BadRow) = some false
  n2 : PySem.W.kitOne K (.ref c.BadRule) (.ref c.TooWide) = some false
  n3 : PySem.W.kitOne K (.ref c.BadRule) (.ref c.NoBack) = some false
  n4 : PySem.W.kitOne K (.ref c.BadRule) (.ref c.BadText) = some false
def sp_l_refused (K : PySem.W.Frag) (c : Cl) : Sp := fun vs H Q _ => ∃ (way : Int) (x : V), vs = [.int way, x] ∧ RThing K H x false ∧ RetV (.bl true) H Q
def t_l_refused (K : PySem.W.Frag) (c : Cl) (E : XK) : TS :=
(tSeq (tTryAs K c.RowError 2 (fun W => (tDrop (tCallS (sp_l_asked K c) (WE W) (tCons (tVar 0) (tCons (tVar 1) tNil))))) (fun a cls dd => tWhen (cls = .ref c.BadRule ∧ dd = none) (tSeq (tAsg (tOrV (tCB (rIsE K c.BadRule a) (tCons (tVar 2) (tCons (tC (.ref c.BadRow)) tNil))) (tOrV (tCB (rIsE K c.BadRule a) (tCons (tVar 2) (tCons (tC (.ref c.TooWide)) tNil))) (tCB (rIsE K c.BadRule a) (tCons (tVar 2) (tCons (tC (.ref c.NoBack)) tNil))))) (gName 3))
    (tSeq (tAsg (tOrV (tVar 3) (tCB (rIsE K c.BadRule a) (tCons (tVar 2) (tCons (tC (.ref c.BadText)) tNil)))) (gName 3))
    (tRet (tAndV (tCB (rIsE K c.BadRule a) (tCons (tVar 2) (tCons (tC (.ref c.BadRule)) tNil))) (tAndV (tCB (rIsE K c.BadRule a) (tCons (tVar 2) (tCons (tC (.ty "ValueError")) tNil))) (tNotV (tVar 3)))))))))
    (tRet (tC (.bl false))))
theorem len_l_refused (vs : List V) (H : Hp) (Q : VK) (E : XK) (h : sp_l_refused K c vs H Q E) : vs.length = 2 := by
  obtain ⟨way, x, rfl, _⟩ := h
  rfl
theorem pure_l_refused (C : KF1 K c) (vs : List V) (H : Hp) (Q : VK) (E : XK) (h : sp_l_refused K c vs H Q E) : t_l_refused K c E { nx := fun _ H' => Q .non H', rt := Q } (start' 4 vs) H := by
  obtain ⟨way, x, rfl, hx, q⟩ := h
  unfold t_l_refused
  show tTryAs K c.RowError 2 _ _ _ _ H
  unfold tTryAs
  generalize hW : wAs K (.ref c.RowError) 2 _ _ _ = W
  have k : ∀ H', Ex H H' → W (.ref c.BadRule) none (start' 4 [.int way, x]) H' := fun H' e => by
    rw [← hW]
    refine ⟨true, C.row.exm, fun _ a ha => ⟨⟨rfl, rfl⟩, ?_⟩, fun z => nomatch z⟩
    refine q_asg (ev_orV (ev_isE rfl (fun u h => h) C.n1) fun _ => ev_orV (ev_isE rfl (fun u h => h) C.n2) fun _ => ev_isE rfl (fun u h => h) C.n3) fun H1 e1 => ?_
    refine q_asg (ev_orV (ev_var rfl) fun _ => ev_isE rfl (fun u h => h) C.n4) fun H2 e2 => ?_
    exact s_ret (ev_andV (ev_isE rfl (fun u h => h) kit_self) fun _ => ev_andV (ev_isE rfl (fun u h => h) C.row.val) fun _ => ev_notV (ev_var rfl)) fun H3 e3 => q H3 (((e.trans e1).trans e2).trans e3)
  exact ⟨.int way, rfl, x, rfl, ⟨way, x, rfl, hx, fun H2 e2 => k H2 e2⟩⟩
theorem spv_l_refused {H : Hp} {way : Int} {x : V} (hx : RThing K H x false) : SpV (sp_l_refused K c) [.int way, x] H (.bl true) := fun H1 e Q q E => ⟨way, x, rfl, hx.ex e, q⟩
/-! ### numbers -/
theorem num_cellsOf {s : Int} (s0 : 0 < s) : ∀ (n : Nat) (e : Int), 0 ≤ e → e < s ^ n → numOf s (cellsOf s n e) = e
  | 0, e, h0, h1 => by
    rw [Int.pow_zero] at h1
    show (0 : Int) = e
    omega
  | n + 1, e, h0, h1 => by
    rw [cellsOf_more, numOf_app, num_cellsOf s0 n (e / s) (Int.ediv_nonneg h0 (by omega)) (Int.ediv_lt_of_lt_mul s0 (by rw [Int.pow_succ] at h1; exact h1))]
    rw [Int.mul_comm]
    exact Int.mul_ediv_add_emod e s
def sp_l_numbers (K : PySem.W.Frag) (c : Cl) : Sp := fun vs H Q _ => ∃ (s w n : Int), vs = [.int s, .int w, .int n] ∧ 2 ≤ s ∧ s ≤ 4 ∧ 0 ≤ w ∧ w ≤ 4 ∧ RetV (.bl true) H Q
def t_l_numbers (K : PySem.W.Frag) (c : Cl) (E : XK) : TS :=
(tSeq (tAsg (tC (.int 1)) (gName 3))
    (tSeq (tFor (iRng1 (tCons (tVar 1) tNil)) (gName 4) (tAsg (tOp oMul (tVar 3) (tVar 0)) (gName 3)))
    (tSeq (tAsg (tLst tNil) (gName 5))
    (tSeq (tAsg (tOp oMod (tVar 2) (tVar 3)) (gName 6))
    (tSeq (tFor (iRng1 (tCons (tVar 1) tNil)) (gName 4) (tSeq (tDrop (tBM K "list" oInsert (tVar 5) (tCons (tC (.int 0)) (tCons (tOp oMod (tVar 6) (tVar 0)) tNil))))
    (tAsg (tOp oDiv (tVar 6) (tVar 0)) (gName 6))))
    (tSeq (tAsg (tCall (sp_cells_of K c) [] E0 (tCons (tVar 0) (tCons (tVar 1) (tCons (tOp oMod (tVar 2) (tVar 3)) tNil)))) (gName 7))
    (tSeq (tIfS (tOr (tNot (tB (tCB (rIsi K) (tCons (tVar 7) (tCons (tC (.ty "list")) tNil))))) (tOr (tTest (tOp (rNeD K) (tVar 7) (tVar 5))) (tTest (tOp rNe (tCall (sp_rows_of K c) [] E0 (tCons (tVar 0) (tCons (tVar 1) tNil))) (tVar 3))))) (tRet (tC (.bl false))) tNext)
    (tRet (tAndV (tOp rEq (tCall (sp_number_of K c) [] E0 (tCons (tVar 0) (tCons (tCB (oTupS K) (tCons (tVar 5) tNil)) tNil))) (tOp oMod (tVar 2) (tVar 3))) (tOp rEq (tCall (sp_number_of K c) [] E0 (tCons (tVar 0) (tCons (tVar 5) tNil))) (tOp oMod (tVar 2) (tVar 3))))))))))))
theorem len_l_numbers (vs : List V) (H : Hp) (Q : VK) (E : XK) (h : sp_l_numbers K c vs H Q E) : vs.length = 3 := by
  obtain ⟨s, w, n, rfl, _⟩ := h
  rfl
theorem pure_l_numbers (vs : List V) (H : Hp) (Q : VK) (E : XK) (h : sp_l_numbers K c vs H Q E) : t_l_numbers K c E { nx := fun _ H' => Q .non H', rt := Q } (start' 8 vs) H := by
  obtain ⟨s, w, n, rfl, s2, s4, w0, w4, q⟩ := h
  refine q_asg (v := .int 1) ev_c fun H1 e1 => ?_
  refine q_forR1 (n := w) (ea_cons (ev_var rfl) ea_nil) (by omega) (fun i σ' H' => ∃ y4, σ' = [some (.int s), some (.int w), some (.int n), some (.int (s ^ i)), y4, none, none, none] ∧ Ex H H') (fun H2 e2 => ⟨none, by simp [start'], e1.trans e2⟩) ?_ ?_
  · rintro i σ' H' hi ⟨y4, rfl, e⟩
    exact s_asg (v := .int (s ^ (i + 1))) (ev_is (ev_op (ev_var rfl) (ev_var rfl) (rv_mul (Or.inr ⟨by omega, by omega⟩))) (by rw [Int.pow_succ])) fun H8 e8 => ⟨some (.int i), rfl, e.trans e8⟩
  rintro σ' H' ⟨y4, rfl, e⟩
  have hp := pow_pos' (s := s) (by omega) w.toNat
  have hn := mod_in (x := n) (s := s ^ w.toNat) (by omega)
  generalize hm : n % s ^ w.toNat = m at hn
  refine q_asgL (xs := []) (el_lst ea_nil (lt_size 0)) fun da H2 hda e2 h2 => ?_
  have E2 := e.trans e2
  refine q_asg (v := .int m) (ev_is (ev_op (ev_var rfl) (ev_var rfl) (rv_mod (by omega))) (by rw [hm])) fun H3 e3 => ?_
  have hda0 : H da = none := fresh_back e hda
  refine q_forR1 (n := w) (ea_cons (ev_var rfl) ea_nil) (by omega) (fun i σ' H' => ∃ y4, σ' = [some (.int s), some (.int w), some (.int n), some (.int (s ^ w.toNat)), y4, some (.ref da), some (.int (lft s i m)), none] ∧ Ex H H' ∧ H' da = some (.lst ((digs s m i).map V.int).reverse))
    (fun H4 e4 => ⟨y4, rfl, E2.trans (e3.trans e4), (e3.trans e4) _ _ h2⟩) ?_ ?_
  · rintro i σ' H' hi ⟨y4, rfl, e, hd⟩
    refine q_insert (i := 0) hd (ev_var rfl) ev_c (ev_op (ev_var rfl) (ev_var rfl) (rv_mod (by omega))) (by omega) (by omega) (by rw [List.length_reverse, List.length_map, digs_len]; omega) fun H4 e4 => ?_
    refine s_asg (ev_op (ev_var rfl) (ev_var rfl) (rv_div (by omega) (by omega))) fun H5 e5 => ⟨some (.int i), rfl, (Ex.mut (e.trans e4) hda0).trans e5, e5 _ _ ?_⟩
    rw [upd_same, digs_more, List.map_append, List.reverse_append]
    rfl
  rintro σ' H5 ⟨y4, rfl, E5, hd⟩
  have hd' : H5 da = some (.lst ((cellsOf s w.toNat m).map V.int)) := by
    rw [hd]
    unfold cellsOf digs
    rw [List.map_reverse]
  refine q_asgL (xs := (cellsOf s w.toNat m).map V.int) (el_call (ea_cons (ev_var rfl) (ea_cons (ev_var rfl) (ea_cons (ev_is (ev_op (ev_var rfl) (ev_var rfl) (rv_mod (by omega))) (by rw [hm])) ea_nil))) (spl_cells_of (by omega) (by omega) (by omega) (by omega))) fun fa H6 hfa e6 h6 => ?_
  have hd6 := e6 _ _ hd'
  refine q_when (b := false) (et_is (et_or (a := false) (b := false) (et_is (et_not (et_B (ev_isi (ev_var rfl) (.lst (sq_of h6)) (b := true) (by decide +kernel)))) rfl) fun _ => et_is (et_or (a := false) (b := false) (et_is (et_test (ev_op (ev_var rfl) (ev_var rfl) (rv_neData (dp_il (sq_of h6)) (dp_il (sq_of hd6)) (shaped_dI _) (shaped_dI _)))) (by rw [eqv_dI, decide_eq_true rfl]; rfl)) fun _ => et_is (et_test (ev_op (ev_call (ea_cons (ev_var rfl) (ea_cons (ev_var rfl) ea_nil)) (spv_rows_of (by omega) (by omega) (by omega) (by omega))) (ev_var rfl) rv_neI)) (by rw [decide_eq_true rfl]; rfl)) rfl) rfl) (fun z => nomatch z) fun _ H7 e7 => ?_
  have hnum := num_cellsOf (s := s) (by omega) w.toNat m hn.1 hn.2
  have hd7 := e7 _ _ hd6
  have mm : ∀ {H8 : Hp}, Ev (tOp oMod (tVar 2) (tVar 3)) [some (.int s), some (.int w), some (.int n), some (.int (s ^ w.toNat)), y4, some (.ref da), some (.int (lft s w.toNat m)), some (.ref fa)] H8 (.int m) := ev_is (ev_op (ev_var rfl) (ev_var rfl) (rv_mod (by omega))) (by rw [hm])
  refine s_ret (v := .bl true) (ev_is (ev_andV (a := true) (b := true) (ev_is (ev_op (show Ev _ _ _ (.int (numOf s (cellsOf s w.toNat m))) from ?_) mm rv_eqI) (by rw [hnum, decide_eq_true rfl])) fun _ => ev_is (ev_op (ev_call (ea_cons (ev_var rfl) (ea_cons (ev_var rfl) ea_nil)) (spv_number_of (s := s) (cells := cellsOf s w.toNat m) (by omega) (by omega) (.inl (sq_of hd7)))) mm rv_eqI) (by rw [hnum, decide_eq_true rfl])) rfl) fun H8 e8 => q H8 (((E5.trans e6).trans e7).trans e8)
  intro H9 e9 Q' q'
  exact ⟨.int s, rfl, (eu_tupV (ev_var rfl) (sq_of hd7)) H9 e9 _ fun p H10 hp10 e10 h10 => ⟨s, p, cellsOf s w.toNat m, rfl, by omega, by omega, .inr (st_of h10), fun H11 e11 => q' H11 (e10.trans e11)⟩⟩
end
end Br1

/-! ## law k01: the law -/
namespace Br1
open PySem PySem.Spec PyProof.Rows L2 Evl Br
section
variable {K : PySem.W.Frag} {c : Cl} {σ : L2.St} {H : Hp} {D : Ends} {E : XK} {x y v : V} {t1 t2 te : TE} {ta : TA}
theorem bad_ints {G : Hp} {a : Addr} {ns : List Int} (h : IT K G a ns) : Bad K (.ref a) G := by
  by_cases hl : ns.length = 3
  · match ns, hl with
    | [i, j, k], _ =>
      have z := RThing.tri (o := none) h (.int i) (.int j) (TThing.other (.int k) (by decide))
      have e : ruleB (.int i) (.int j) none = false := rb4 rfl
      rw [e] at z
      exact z
  · exact .size h (by rw [List.length_map]; exact hl)
theorem q_cut {M : L2.St → Hp → Prop} {t u : TS} (h : t { D with nx := M } σ H) (k : ∀ σ' H', M σ' H' → u D σ' H') : tCut t u D σ H := ⟨M, h, k⟩
theorem evp_l_odd {r t : Addr} {s w cell : Int} {tab : List Int} (ha : EvA ta σ H [.ref r, .int cell]) (R : RuleAt K H r t s w tab) (G : Good s w tab) : EvP (tCall (sp_l_odd K c) [] E ta) σ H (Bad K) := fun H1 e Q q =>
  ha H1 e _ fun H2 e2 => ⟨r, t, s, w, cell, tab, rfl, R.ex (e.trans e2), G, fun v H3 e3 p => q v H3 (e2.trans e3) p⟩
theorem ev_is_rule_no (h : Ev te σ H x) (p : RThing K H x false) : Ev (tCall (sp_is_rule K c) [] E (tCons te tNil)) σ H (.bl false) := ev_call (ea_cons h ea_nil) fun H1 e Q q E => ⟨x, false, rfl, p.ex e, q⟩
theorem rv_notN' : RV oNotN x .non H (.bl (!decide (x = .non))) := fun H1 _ Q q => ⟨rfl, q H1 (Ex.refl H1)⟩
theorem evp_dictB {σ : L2.St} {H : Hp} : EvP tDNewK σ H (Bad K) := fun H1 e Q q p hp => q _ _ (Ex.new hp) (.other (.dK upd_same) (by decide))
def sp_law (K : PySem.W.Frag) (c : Cl) : Sp := fun vs H Q _ => ∃ (a : Addr) (ns : List Int), vs = [.ref a] ∧ IL K H a ns ∧ ∀ H', Q (.bl true) H'
theorem sp_law_of {K : PySem.W.Frag} {c : Cl} {H : Hp} {a : Addr} {ns : List Int} (hl : ns.length ≤ 63) (hS : SqL K H a (ns.map V.int)) : sp_law K c [.ref a] H (fun v _ => v = .bl true) (fun _ _ _ => False) := ⟨a, ns, rfl, hS, fun _ => rfl⟩
def t_law (K : PySem.W.Frag) (c : Cl) (E : XK) : TS :=
(tSeq (tAsg (tCall (sp_l_rule K c) [] E0 (tCons (tCall (sp_l_cell_at K c) [] E0 (tCons (tVar 0) (tCons (tC (.int 0)) tNil))) (tCons (tCall (sp_l_cell_at K c) [] E0 (tCons (tVar 0) (tCons (tC (.int 1)) tNil))) tNil))) (gName 1))
    (tSeq (tIfS (tOr (tTest (tOp rNotB (tCall (sp_is_rule K c) [] E0 (tCons (tVar 1) tNil)) (tC (.bl true)))) (tTest (tOp oNotN (tCall (sp_need_rule K c) [] E0 (tCons (tVar 1) tNil)) (tC .non)))) (tRet (tC (.bl false))) tNext)
    (tSeq (tIfS (tNot (tB (tCall (sp_l_numbers K c) [] E0 (tCons (tOp oAdd (tC (.int 2)) (tOp oMod (tCall (sp_l_cell_at K c) [] E0 (tCons (tVar 0) (tCons (tC (.int 3)) tNil))) (tC (.int 3)))) (tCons (tOp oMod (tOp oDiv (tCall (sp_l_cell_at K c) [] E0 (tCons (tVar 0) (tCons (tC (.int 3)) tNil))) (tC (.int 3))) (tC (.int 5))) (tCons (tCall (sp_l_cell_at K c) [] E0 (tCons (tVar 0) (tCons (tC (.int 4)) tNil))) tNil)))))) (tRet (tC (.bl false))) tNext)
    (tSeq (tIfS (tTest (tOp (rNeD K) (tLst (tCons (tC (.int 4)) (tCons (tC (.int 4)) (tCons (tC (.int 16)) tNil)))) (tLst (tCons (tC (.int 4)) (tCons (tC (.int 4)) (tCons (tC (.int 16)) tNil)))))) (tRet (tC (.bl false))) tNext)
    (tSeq (tAsg (tCall (sp_l_cell_at K c) [] E0 (tCons (tVar 0) (tCons (tC (.int 2)) tNil))) (gName 2))
    (tSeq (tIfS (tTest (tOp rEq (tOp oMod (tVar 2) (tC (.int 4))) (tC (.int 0)))) (tRet (tC (.bl true))) tNext)
    (tSeq (tAsg (tCall (sp_l_odd K c) [] E0 (tCons (tVar 1) (tCons (tCall (sp_l_mixed K c) [] E0 (tCons (tVar 2) (tCons (tC (.int 1)) tNil))) tNil))) (gName 3))
    (tCut (tIfS (tAnd (tTest (tOp rEq (tOp oMod (tVar 2) (tC (.int 4))) (tC (.int 3)))) (tTest (tOp rEq (tOp oMod (tOp oDiv (tVar 2) (tC (.int 4))) (tC (.int 4))) (tC (.int 1))))) (tAsg (tOp (rIxL K) (tLst (tCons (tC .non) (tCons (tC (.int 5)) (tCons (tC (.str "2 1 01")) (tCons (tLst tNil) (tCons tDNewK (tCons (tTup tNil) (tCons (tC (.bl true)) (tCons (tOp (rIxT K) (tVar 1) (tC (.int 2))) tNil))))))))) (tOp oMod (tOp oDiv (tVar 2) (tC (.int 16))) (tC (.int 8)))) (gName 3)) tNext)
    (tSeq (tIfS (tOr (tTest (tOp rNotB (tCall (sp_is_rule K c) [] E0 (tCons (tVar 3) tNil)) (tC (.bl false)))) (tNot (tB (tCall (sp_l_refused K c) [] E0 (tCons (tC (.int 0)) (tCons (tVar 3) tNil)))))) (tRet (tC (.bl false))) tNext)
    (tRet (tCall (sp_l_refused K c) [] E0 (tCons (tOp oAdd (tC (.int 1)) (tOp oMod (tCall (sp_l_mixed K c) [] E0 (tCons (tVar 2) (tCons (tC (.int 2)) tNil))) (tC (.int 16)))) (tCons (tVar 3) tNil)))))))))))))
theorem len_law (vs : List V) (H : Hp) (Q : VK) (E : XK) (h : sp_law K c vs H Q E) : vs.length = 1 := by
  obtain ⟨a, ns, rfl, _⟩ := h
  rfl
theorem pure_law (vs : List V) (H : Hp) (Q : VK) (E : XK) (h : sp_law K c vs H Q E) : t_law K c E { nx := fun _ H' => Q .non H', rt := Q } (start' 4 vs) H := by
  obtain ⟨a, ns, rfl, hS, q⟩ := h
  refine q_asgRule (x := cellAt ns 0) (y := cellAt ns 1) (ea_cons (ev_cell rfl hS (by omega)) (ea_cons (ev_cell rfl hS (by omega)) ea_nil)) fun r t H1 s w tab e1 R G => ?_
  have hS1 := ex_l e1 hS
  refine q_when (b := false) (et_is (et_or (a := false) (b := false) (et_is (et_test (ev_isNotB (ev_call (ea_cons (ev_var rfl) ea_nil) (spv_is_rule R G)))) (by rfl)) fun _ => et_is (et_test (ev_op (ev_call (ea_cons (ev_var rfl) ea_nil) (spv_need_rule (RThing.good R G))) ev_c rv_notN')) rfl) rfl) (fun z => nomatch z) fun _ H2 e2 => ?_
  have hS2 := ex_l e2 hS1
  have R2 := R.ex e2
  have m3 := mod_in (x := cellAt ns 3) (s := 3) (by omega)
  have m5 := mod_in (x := cellAt ns 3 / 3) (s := 5) (by omega)
  refine q_when (b := false) (et_is (et_not (et_B (ev_call (ea_cons (ev_op ev_c (ev_op (ev_cell rfl hS2 (by omega)) ev_c (rv_mod (by omega))) rv_I0) (ea_cons (ev_op (ev_op (ev_cell rfl hS2 (by omega)) ev_c (rv_div (by omega) (by omega))) ev_c (rv_mod (by omega))) (ea_cons (ev_cell rfl hS2 (by omega)) ea_nil)))
    (fun H3 e3 Q' q' E' => (⟨2 + cellAt ns 3 % 3, cellAt ns 3 / 3 % 5, cellAt ns 4, rfl, by omega, by omega, by omega, by omega, q'⟩ : sp_l_numbers K c _ H3 Q' E'))))) rfl) (fun z => nomatch z) fun _ H3 e3 => ?_
  have hS3 := ex_l e3 hS2
  have R3 := R2.ex e3
  have l446 : ∀ {H : Hp} {σ : L2.St}, EvL (tLst (tCons (tC (.int 4)) (tCons (tC (.int 4)) (tCons (tC (.int 16)) tNil)))) σ H (([4, 4, 16] : List Int).map V.int) := el_lst (ea_cons ev_c (ea_cons ev_c (ea_cons ev_c ea_nil))) (lt_size 3)
  refine q_when (b := false) (et_is (et_test (ev_opLL l446 l446 fun p r H2 hp hr e2 => rv_neData (dp_il (ns := [4, 4, 16]) (sq_of hp)) (dp_il (ns := [4, 4, 16]) (sq_of hr)) (shaped_dI _) (shaped_dI _))) (by rw [eqv_dI]; rfl)) (fun z => nomatch z) fun _ H4 e4 => ?_
  have hS4 := ex_l e4 hS3
  have R4 := R3.ex e4
  refine q_asg (v := .int (cellAt ns 2)) (ev_cell rfl hS4 (by omega)) fun H5 e5 => ?_
  have R5 := R4.ex e5
  refine q_when (et_test (ev_op (ev_op (ev_var rfl) ev_c (rv_mod (by omega))) ev_c rv_eqI)) (fun _ H6 e6 => s_ret ev_c fun H7 _ => q H7) fun _ H6 e6 => ?_
  have R6 := R5.ex e6
  refine q_asgP (P := Bad K) (evp_l_odd (cell := lMixed (cellAt ns 2) 1) (ea_cons (ev_var rfl) (ea_cons (ev_call (ea_cons (ev_var rfl) (ea_cons ev_c ea_nil)) (spv_l_mixed (by omega) (by omega))) ea_nil)) R6 G) fun v H7 e7 hv => ?_
  have R7 := R6.ex e7
  refine q_cut (M := fun σ' H' => ∃ v, σ' = [some (.ref a), some (.ref r), some (.int (cellAt ns 2)), some v] ∧ Bad K v H') ?_ ?_
  · have m8 := mod_in (x := cellAt ns 2 / 16) (s := 8) (by omega)
    refine s_if (et_and (a := decide (cellAt ns 2 % 4 = 3)) (b := decide (cellAt ns 2 / 4 % 4 = 1)) (et_test (ev_op (ev_op (ev_var rfl) ev_c (rv_mod (by omega))) ev_c rv_eqI)) fun _ => et_test (ev_op (ev_op (ev_op (ev_var rfl) ev_c (rv_div (by omega) (by omega))) ev_c (rv_mod (by omega))) ev_c rv_eqI)) (fun _ H8 e8 => ?_) fun _ H8 e8 => ⟨v, rfl, stab_bad _ _ _ e8 hv⟩
    refine evp_pick (Ps := List.replicate 8 (Bad K)) (i := cellAt ns 2 / 16 % 8) (evp_lst ?_ (stabs_rep stab_bad) (by rw [List.length_replicate]; omega)) (stabs_rep stab_bad) ?_ m8.1 (rep_get m8.1 m8.2) H8 (Ex.refl H8) _ fun u H9 e9 hu => ⟨u, rfl, hu⟩
    · refine eap_cons ((EvP.of (ev_c (v := .non))).imp fun u H' _ h => by rw [h]; exact .other .non (by decide)) stab_bad ?_
      refine eap_cons ((EvP.of (ev_c (v := .int 5))).imp fun u H' _ h => by rw [h]; exact .other (.int 5) (by decide)) stab_bad ?_
      refine eap_cons ((EvP.of ev_c).imp fun u H' _ h => by rw [h]; exact .other (.str _) (by decide)) stab_bad ?_
      refine eap_cons ((EvP.lst (K := K) (xs := []) (el_lst ea_nil (lt_size 0))).imp fun u H' _ ⟨p, h, hp⟩ => by rw [h]; exact .other (.lst hp) (by decide)) stab_bad ?_
      refine eap_cons evp_dictB stab_bad ?_
      refine eap_cons ((EvP.tup (K := K) (xs := []) (eu_tup ea_nil (lt_size 0))).imp fun u H' _ ⟨p, h, hp⟩ => by rw [h]; exact .size hp (by decide)) stab_bad ?_
      refine eap_cons ((EvP.of (ev_c (v := .bl true))).imp fun u H' _ h => by rw [h]; exact .other (.bl true) (by decide)) stab_bad ?_
      refine eap_cons (fun H9 e9 Q' q' => ?_) stab_bad eap_nil
      have R9 := R7.ex (e8.trans e9)
      exact ev_op (ev_var rfl) ev_c (rv_ixT (ex_t (e8.trans e9) R7.top) (atI_nat (j := 2) rfl)) H9 (Ex.refl _) Q' fun H10 e10 => q' _ H10 e10 (bad_ints (ex_t e10 R9.tab))
    · exact ev_op (ev_op (ev_var rfl) ev_c (rv_div (by omega) (by omega))) ev_c (rv_mod (by omega))
  rintro σ' H8 ⟨v, rfl, hv⟩
  have m16 := mod_in (x := lMixed (cellAt ns 2) 2) (s := 16) (by omega)
  refine q_when (b := false) (et_is (et_or (a := false) (b := false) (et_is (et_test (ev_isNotB (ev_is_rule_no (ev_var rfl) hv))) (by rfl)) fun _ => et_is (et_not (et_B (ev_call (ea_cons ev_c (ea_cons (ev_var rfl) ea_nil)) (spv_l_refused hv)))) rfl) rfl) (fun z => nomatch z) fun _ H9 e9 => ?_
  exact s_ret (ev_call (ea_cons (ev_op ev_c (ev_op (ev_call (ea_cons (ev_var rfl) (ea_cons ev_c ea_nil)) (spv_l_mixed (by omega) (by omega))) ev_c (rv_mod (by omega))) rv_I0) (ea_cons (ev_var rfl) ea_nil)) (spv_l_refused (hv.ex e9))) fun H10 _ => q H10
end
end Br1

namespace Br1
open PySem PySem.Spec PyProof.Rows L2 Evl Br
def top (i : Nat) : Stmt := PySem.Challenge.pw_backrule_k01_rules_looked_at.main.body.getD i (.Pass ⟨0, 0, 0, 0⟩)
abbrev s_is_rule : Stmt := top 11
abbrev N_is_rule : List Str := ["thing", "signs", "wide", "table"]
abbrev s_need_rule : Stmt := top 12
abbrev N_need_rule : List Str := ["thing"]
abbrev s_rows_of : Stmt := top 13
abbrev N_rows_of : List Str := ["signs", "wide", "many", "_"]
abbrev s_number_of : Stmt := top 14
abbrev N_number_of : List Str := ["signs", "cells", "number", "cell"]
abbrev s_cells_of : Stmt := top 15
abbrev N_cells_of : List Str := ["signs", "wide", "number", "cells", "left", "_", "cell"]
abbrev s_has_room : Stmt := top 16
abbrev N_has_room : List Str := ["signs", "wide"]
abbrev s_are_signs : Stmt := top 17
abbrev N_are_signs : List Str := ["signs", "cells", "cell"]
abbrev s_is_from_to : Stmt := top 18
abbrev N_is_from_to : List Str := ["thing", "least", "most"]
abbrev s_is_piece : Stmt := top 20
abbrev N_is_piece : List Str := ["rule", "thing"]
abbrev s_need_piece : Stmt := top 21
abbrev N_need_piece : List Str := ["rule", "thing"]
abbrev s_need_ring : Stmt := top 22
abbrev N_need_ring : List Str := ["rule", "thing"]
abbrev s_piece_on : Stmt := top 23
abbrev N_piece_on : List Str := ["rule", "piece"]
abbrev s_ring_on : Stmt := top 24
abbrev N_ring_on : List Str := ["rule", "ring", "many", "row", "at"]
abbrev s_joined : Stmt := top 25
abbrev N_joined : List Str := ["one", "other", "signs", "wide", "table", "number", "between"]
abbrev s_signs_from : Stmt := top 26
abbrev N_signs_from : List Str := ["rule", "cells", "signs", "wide", "table", "at"]
abbrev s_steps_of : Stmt := top 28
abbrev N_steps_of : List Str := ["rule", "signs", "wide", "table", "many", "end", "cell"]
abbrev s_step : Stmt := top 29
abbrev N_step : List Str := ["signs", "table", "many", "number"]
abbrev s_count_of : Stmt := top 31
abbrev N_count_of : List Str := ["rule", "piece", "steps", "counts", "sign"]
abbrev s_origin_of : Stmt := top 32
abbrev N_origin_of : List Str := ["rule", "piece", "steps", "able", "starts", "end", "origin", "at", "sign", "cell"]
abbrev s_counts_on : Stmt := top 33
abbrev N_counts_on : List Str := ["steps", "counts", "sign", "after_sign", "end", "many", "_", "told", "after"]
abbrev s_able_from : Stmt := top 34
abbrev N_able_from : List Str := ["steps", "piece", "able", "sign"]
abbrev s_able_before : Stmt := top 35
abbrev N_able_before : List Str := ["steps", "able", "sign", "row", "_", "told", "after"]
abbrev s_least_step : Stmt := top 36
abbrev N_least_step : List Str := ["row", "sign", "able", "fitting", "cell", "told", "after"]
abbrev s_twins : Stmt := top 38
abbrev N_twins : List Str := ["rule", "web", "way", "pair", "start", "one", "other", "ahead"]
abbrev s_rings : Stmt := top 39
abbrev N_rings : List Str := ["rule", "web", "ways", "pair", "found", "way", "_", "one", "other"]
abbrev s_web_of : Stmt := top 40
abbrev N_web_of : List Str := ["rule", "steps", "ends", "one", "other"]
abbrev s_steps_at_once : Stmt := top 41
abbrev N_steps_at_once : List Str := ["row", "beside", "cell", "sign", "after", "mate", "mate_sign", "mate_after"]
abbrev s_way_round : Stmt := top 42
abbrev N_way_round : List Str := ["web", "pairs", "came", "unlike", "pair", "step", "fresh"]
abbrev s_further : Stmt := top 43
abbrev N_further : List Str := ["web", "pairs", "came", "fresh", "pair", "cell", "mate", "after"]
abbrev s_way_to : Stmt := top 44
abbrev N_way_to : List Str := ["came", "pairs", "last", "pair", "cell", "mate", "one", "other"]
abbrev s_bounds : Stmt := top 46
abbrev N_bounds : List Str := ["rule", "web", "endless", "unlike", "best", "before", "behind", "inward", "onward"]
abbrev s_ring_back : Stmt := top 47
abbrev N_ring_back : List Str := ["rule", "ring", "before", "behind", "many", "start", "row", "at"]
abbrev s_piece_back : Stmt := top 48
abbrev N_piece_back : List Str := ["rule", "piece", "before", "behind"]
abbrev s_need_bounds : Stmt := top 49
abbrev N_need_bounds : List Str := ["rule", "found"]
abbrev s_told_back : Stmt := top 50
abbrev N_told_back : List Str := ["rule", "piece", "before", "behind", "origin"]
abbrev s_unlike_steps : Stmt := top 51
abbrev N_unlike_steps : List Str := ["web", "arrows", "pair", "step", "inward", "onward"]
abbrev s_turned : Stmt := top 52
abbrev N_turned : List Str := ["arrows", "back", "pair", "afters", "after"]
abbrev s_longest : Stmt := top 53
abbrev N_longest : List Str := ["arrows", "endless", "longest", "pair", "reached", "length", "further", "after"]
abbrev s_ends_of : Stmt := top 55
abbrev N_ends_of : List Str := ["rule", "piece", "steps", "ends", "sign"]
abbrev s_missing : Stmt := top 56
abbrev N_missing : List Str := ["rule"]
abbrev s_all_ends : Stmt := top 57
abbrev N_all_ends : List Str := ["rule", "found"]
abbrev s_first_pieces : Stmt := top 58
abbrev N_first_pieces : List Str := ["rule", "steps", "start", "found", "fresh", "further", "ends", "sign", "after"]
abbrev s_all_rows : Stmt := top 59
abbrev N_all_rows : List Str := ["steps"]
abbrev s_ends_on : Stmt := top 60
abbrev N_ends_on : List Str := ["steps", "ends", "sign", "end", "_", "told", "after"]
abbrev s_shown : Stmt := top 63
abbrev N_shown : List Str := ["rule", "signs", "wide", "table"]
abbrev s_word_of : Stmt := top 64
abbrev N_word_of : List Str := ["table", "cell"]
abbrev s_l_cell_at : Stmt := top 66
abbrev N_l_cell_at : List Str := ["_law_script", "_law_k"]
abbrev s_l_mixed : Stmt := top 67
abbrev N_l_mixed : List Str := ["_law_cell", "_law_k", "_law_number"]
abbrev s_l_random : Stmt := top 68
abbrev N_l_random : List Str := ["_law_signs", "_law_rows", "_law_more", "_law_k"]
abbrev s_l_mending : Stmt := top 69
abbrev N_l_mending : List Str := ["_law_signs", "_law_rows", "_law_more", "_law_few", "_law_k"]
abbrev s_l_between : Stmt := top 70
abbrev N_l_between : List Str := ["_law_k", "_law_way", "_law_cells", "_law_at", "_law_rest"]
abbrev s_l_beside : Stmt := top 71
abbrev N_l_beside : List Str := ["_law_k", "_law_way", "_law_told", "_law_cell", "_law_near"]
abbrev s_l_turned : Stmt := top 72
abbrev N_l_turned : List Str := ["_law_signs", "_law_wide", "_law_rows", "_law_more", "_law_order", "_law_k", "_law_step"]
abbrev s_l_rule : Stmt := top 73
abbrev N_l_rule : List Str := ["_law_cell", "_law_more", "_law_some", "_law_signs", "_law_wide", "_law_rows"]
abbrev s_l_odd : Stmt := top 74
abbrev N_l_odd : List Str := ["_law_rule_here", "_law_cell", "_law_signs", "_law_wide", "_law_table", "_law_at", "_law_far", "_law_some", "_law_bad", "_law_one"]
abbrev s_l_asked : Stmt := top 75
abbrev N_l_asked : List Str := ["_law_way", "_law_thing"]
abbrev s_l_asked_of_cells : Stmt := top 76
abbrev N_l_asked_of_cells : List Str := ["_law_way", "_law_thing"]
abbrev s_l_refused : Stmt := top 77
abbrev N_l_refused : List Str := ["_law_way", "_law_thing", "error", "_law_other"]
abbrev s_l_numbers : Stmt := top 78
abbrev N_l_numbers : List Str := ["_law_signs", "_law_wide", "_law_number", "_law_rows", "_law_k", "_law_cells", "_law_rest", "_law_found"]
abbrev s_law : Stmt := top 79
abbrev N_law : List Str := ["_law_script", "_law_rule_here", "_law_cell", "_law_odd_here"]
structure Txt (K : PySem.W.Frag) (mg : Str → Option Value) (c : Cl) : Prop where
  n_ValueError : mg "ValueError" = none
  n_all : mg "all" = none
  n_divmod : mg "divmod" = none
  n_enumerate : mg "enumerate" = none
  n_int : mg "int" = none
  n_isinstance : mg "isinstance" = none
  n_len : mg "len" = none
  n_list : mg "list" = none
  n_range : mg "range" = none
  n_reversed : mg "reversed" = none
  n_tuple : mg "tuple" = none
  n_type : mg "type" = none
  k_MOST_SIGNS : ∃ t, mg "MOST_SIGNS" = some (.int 4 t)
  k_MOST_WIDE : ∃ t, mg "MOST_WIDE" = some (.int 4 t)
  k_MOST_ROWS : ∃ t, mg "MOST_ROWS" = some (.int 16 t)
  k_FIGURES : ∃ t, mg "FIGURES" = some (.str "0123456789" t)
  c_RowError : mg "RowError" = some (.ref c.RowError)
  e_RowError : Err K c.RowError
  c_BadRule : mg "BadRule" = some (.ref c.BadRule)
  e_BadRule : Err K c.BadRule
  c_BadRow : mg "BadRow" = some (.ref c.BadRow)
  e_BadRow : Err K c.BadRow
  c_TooWide : mg "TooWide" = some (.ref c.TooWide)
  e_TooWide : Err K c.TooWide
  c_NoBack : mg "NoBack" = some (.ref c.NoBack)
  e_NoBack : Err K c.NoBack
  c_BadText : mg "BadText" = some (.ref c.BadText)
  e_BadText : Err K c.BadText
  ec_BadRule : ExcC K c.BadRule
  kf : KF1 K c
end Br1

namespace Br1
open PySem PySem.Spec PyProof.Rows L2 Evl Br
section
variable {P : Program} {w : World} {K : PySem.W.Frag} {mg : Str → Option Value} {base : Heap} {c : Cl}
theorem sc_is_rule : FnScope N_is_rule ["thing"] (defScope s_is_rule) := ⟨rfl, rfl, rfl, by decide +kernel, rfl, by decide +kernel, by decide +kernel⟩
theorem fn_is_rule {f : Addr} {fd : FuncData} (F : Fun K "is_rule" "is_rule" s_is_rule f fd) (T : Txt K mg c) (H_are_signs : Has P w K mg base CX0 2 "are_signs" ["signs", "cells"] (sp_are_signs K c)) (H_has_room : Has P w K mg base CX0 2 "has_room" ["signs", "wide"] (sp_has_room K c)) (H_is_from_to : Has P w K mg base CX0 1 "_is_from_to" ["thing", "least", "most"] (sp_is_from_to K c)) (H_rows_of : Has P w K mg base CX0 1 "rows_of" ["signs", "wide"] (sp_rows_of K c)) : FnOk P w K mg base CX0 3 f fd ["thing"] (sp_is_rule K c) := by
  refine F.ok sc_is_rule (fun vs H Q E h => len_is_rule vs H Q E h) (fun cdv A outer s H vs Q E hr h => ⟨t_is_rule K c E, ?_, pure_is_rule vs H Q E h⟩)
  exact (pss_cons (ps_if (PW.pt (pw_or (pt_cmpR op_notTyB (pe_callTy call_type1 (by rfl) T.n_type PyProof.Rows.boot_type (pa_cons (pv 0) pa_nil)) (pe_bltn (v := .ty "tuple") rfl T.n_tuple PyProof.Rows.boot_tuple rfl) (nomark _)) (pw_or1 (pt_cmpR op_ne (pe_callB call_len_seq (by rfl) T.n_len PySem.boot_len (pa_cons (pv 0) pa_nil)) pe_int (nomark _))))) (pss_one (ps_ret pe_bl)) pss_nil)
    (pss_cons (ps_asg (pv 0) (pg_tup (n := 3) (by rfl) (pgs_cons (pg_name (i := 1) sc_is_rule.nd rfl (Or.inl rfl)) (pgs_cons (pg_name (i := 2) sc_is_rule.nd rfl (Or.inl rfl)) (pgs_cons (pg_name (i := 3) sc_is_rule.nd rfl (Or.inl rfl)) pgs_nil)))))
    (pss_cons (ps_if (PW.pt (pw_or (pt_not (pt_val (pe_callH H_is_from_to (hr.mono (by decide)) rfl pass0 (pa_cons (pv 1) (pa_cons pe_int (pa_cons (pe_glob rfl T.k_MOST_SIGNS.choose_spec ⟨_, rfl⟩) pa_nil)))))) (pw_or1 (pt_not (pt_val (pe_callH H_is_from_to (hr.mono (by decide)) rfl pass0 (pa_cons (pv 2) (pa_cons pe_int (pa_cons (pe_glob rfl T.k_MOST_WIDE.choose_spec ⟨_, rfl⟩) pa_nil))))))))) (pss_one (ps_ret pe_bl)) pss_nil)
    (pss_cons (ps_if (pt_not (pt_val (pe_callH H_has_room (hr.mono (by decide)) rfl pass0 (pa_cons (pv 1) (pa_cons (pv 2) pa_nil))))) (pss_one (ps_ret pe_bl)) pss_nil)
    (pss_cons (ps_if (PW.pt (pw_or (pt_cmpR op_notTyB (pe_callTy call_type1 (by rfl) T.n_type PyProof.Rows.boot_type (pa_cons (pv 3) pa_nil)) (pe_bltn (v := .ty "tuple") rfl T.n_tuple PyProof.Rows.boot_tuple rfl) (nomark _)) (pw_or1 (pt_cmpR op_ne (pe_callB call_len_seq (by rfl) T.n_len PySem.boot_len (pa_cons (pv 3) pa_nil)) (pe_callH H_rows_of (hr.mono (by decide)) rfl pass0 (pa_cons (pv 1) (pa_cons (pv 2) pa_nil))) (nomark _))))) (pss_one (ps_ret pe_bl)) pss_nil)
    (pss_one (ps_ret (pe_callH H_are_signs (hr.mono (by decide)) rfl pass0 (pa_cons (pv 1) (pa_cons (pv 3) pa_nil))))))))))
theorem ok_is_rule (D : Std K mg "is_rule" s_is_rule ["thing"]) (T : Txt K mg c) (H_are_signs : Has P w K mg base CX0 2 "are_signs" ["signs", "cells"] (sp_are_signs K c)) (H_has_room : Has P w K mg base CX0 2 "has_room" ["signs", "wide"] (sp_has_room K c)) (H_is_from_to : Has P w K mg base CX0 1 "_is_from_to" ["thing", "least", "most"] (sp_is_from_to K c)) (H_rows_of : Has P w K mg base CX0 1 "rows_of" ["signs", "wide"] (sp_rows_of K c)) : Has P w K mg base CX0 3 "is_rule" ["thing"] (sp_is_rule K c) := D.has fun f fd F => fn_is_rule F T H_are_signs H_has_room H_is_from_to H_rows_of

theorem sc_need_rule : FnScope N_need_rule ["thing"] (defScope s_need_rule) := ⟨rfl, rfl, rfl, by decide +kernel, rfl, by decide +kernel, by decide +kernel⟩
theorem fn_need_rule {f : Addr} {fd : FuncData} (F : Fun K "need_rule" "need_rule" s_need_rule f fd) (T : Txt K mg c) (H_is_rule : Has P w K mg base CX0 3 "is_rule" ["thing"] (sp_is_rule K c)) : FnOk P w K mg base (L2.CX P w) 4 f fd ["thing"] (sp_need_rule K c) := by
  refine F.okX sc_need_rule (fun vs H Q E h => len_need_rule vs H Q E h) (fun cdv A outer s H vs Q E hr h => ⟨t_need_rule K c E, ?_, pure_need_rule vs H Q E h⟩)
  exact (pss_one (ps_if (pt_not (pt_val (pe_callH H_is_rule (hr.mono (by decide)) rfl pass0 (pa_cons (pv 0) pa_nil)))) (pss_one (ps_raise rfl (takes_of rfl rfl rfl rfl) (pmk_own PySem.F.excBase_ValueError T.e_BadRule.x T.c_BadRule T.e_BadRule.k (raises_own T.e_BadRule.b T.e_BadRule.t) (by exact rfl)))) pss_nil))
theorem ok_need_rule (D : Std K mg "need_rule" s_need_rule ["thing"]) (T : Txt K mg c) (H_is_rule : Has P w K mg base CX0 3 "is_rule" ["thing"] (sp_is_rule K c)) : Has P w K mg base (L2.CX P w) 4 "need_rule" ["thing"] (sp_need_rule K c) := D.has fun f fd F => fn_need_rule F T H_is_rule

theorem sc_rows_of : FnScope N_rows_of ["signs", "wide"] (defScope s_rows_of) := ⟨rfl, rfl, rfl, by decide +kernel, rfl, by decide +kernel, by decide +kernel⟩
theorem fn_rows_of {f : Addr} {fd : FuncData} (F : Fun K "rows_of" "rows_of" s_rows_of f fd) (T : Txt K mg c)  : FnOk P w K mg base CX0 1 f fd ["signs", "wide"] (sp_rows_of K c) := by
  refine F.ok sc_rows_of (fun vs H Q E h => len_rows_of vs H Q E h) (fun cdv A outer s H vs Q E hr h => ⟨t_rows_of K c E, ?_, pure_rows_of vs H Q E h⟩)
  exact (pss_cons (ps_set (i := 2) sc_rows_of.nd rfl (Or.inl rfl) pe_int)
    (pss_cons (ps_for PassesOwn.never rfl (pi_range1 (by rfl) T.n_range (pa_cons (pv 1) pa_nil)) (pg_name (i := 3) sc_rows_of.nd rfl (Or.inl rfl)) (pss_one (ps_set (i := 2) sc_rows_of.nd rfl (Or.inl rfl) (pe_op op_mul (pv 2) (pv 0)))))
    (pss_one (ps_ret (pv 2)))))
theorem ok_rows_of (D : Std K mg "rows_of" s_rows_of ["signs", "wide"]) (T : Txt K mg c)  : Has P w K mg base CX0 1 "rows_of" ["signs", "wide"] (sp_rows_of K c) := D.has fun f fd F => fn_rows_of F T 

theorem sc_number_of : FnScope N_number_of ["signs", "cells"] (defScope s_number_of) := ⟨rfl, rfl, rfl, by decide +kernel, rfl, by decide +kernel, by decide +kernel⟩
theorem fn_number_of {f : Addr} {fd : FuncData} (F : Fun K "number_of" "number_of" s_number_of f fd) (T : Txt K mg c)  : FnOk P w K mg base CX0 1 f fd ["signs", "cells"] (sp_number_of K c) := by
  refine F.ok sc_number_of (fun vs H Q E h => len_number_of vs H Q E h) (fun cdv A outer s H vs Q E hr h => ⟨t_number_of K c E, ?_, pure_number_of vs H Q E h⟩)
  exact (pss_cons (ps_set (i := 2) sc_number_of.nd rfl (Or.inl rfl) pe_int)
    (pss_cons (ps_for PassesOwn.never rfl (pi_or (pi_list (pv 1)) (pi_tup (pv 1))) (pg_name (i := 3) sc_number_of.nd rfl (Or.inl rfl)) (pss_one (ps_set (i := 2) sc_number_of.nd rfl (Or.inl rfl) (pe_op op_add (pe_op op_mul (pv 2) (pv 0)) (pv 3)))))
    (pss_one (ps_ret (pv 2)))))
theorem ok_number_of (D : Std K mg "number_of" s_number_of ["signs", "cells"]) (T : Txt K mg c)  : Has P w K mg base CX0 1 "number_of" ["signs", "cells"] (sp_number_of K c) := D.has fun f fd F => fn_number_of F T 

theorem sc_cells_of : FnScope N_cells_of ["signs", "wide", "number"] (defScope s_cells_of) := ⟨rfl, rfl, rfl, by decide +kernel, rfl, by decide +kernel, by decide +kernel⟩
theorem fn_cells_of {f : Addr} {fd : FuncData} (F : Fun K "cells_of" "cells_of" s_cells_of f fd) (T : Txt K mg c)  : FnOk P w K mg base CX0 1 f fd ["signs", "wide", "number"] (sp_cells_of K c) := by
  refine F.ok sc_cells_of (fun vs H Q E h => len_cells_of vs H Q E h) (fun cdv A outer s H vs Q E hr h => ⟨t_cells_of K c E, ?_, pure_cells_of vs H Q E h⟩)
  exact (pss_cons (ps_set (i := 3) sc_cells_of.nd rfl (Or.inl rfl) (pe_lst pa_nil))
    (pss_cons (ps_set (i := 4) sc_cells_of.nd rfl (Or.inl rfl) (pv 2))
    (pss_cons (ps_for PassesOwn.never rfl (pi_range1 (by rfl) T.n_range (pa_cons (pv 1) pa_nil)) (pg_name (i := 5) sc_cells_of.nd rfl (Or.inl rfl)) (pss_cons (ps_asg (pe_callB call_divmod (by rfl) T.n_divmod PyProof.Rows.boot_divmod (pa_cons (pv 4) (pa_cons (pv 0) pa_nil))) (pg_tup (n := 2) (by rfl) (pgs_cons (pg_name (i := 4) sc_cells_of.nd rfl (Or.inl rfl)) (pgs_cons (pg_name (i := 6) sc_cells_of.nd rfl (Or.inl rfl)) pgs_nil))))
    (pss_one (ps_expr (pe_bm PySem.F.plainAttrs_list PySem.F.slot_list_append PySem.F.type_list_append mt_append (pv 3) (pa_cons (pv 6) pa_nil))))))
    (pss_one (ps_ret (pe_revL (pv 3)))))))
theorem ok_cells_of (D : Std K mg "cells_of" s_cells_of ["signs", "wide", "number"]) (T : Txt K mg c)  : Has P w K mg base CX0 1 "cells_of" ["signs", "wide", "number"] (sp_cells_of K c) := D.has fun f fd F => fn_cells_of F T 

theorem sc_has_room : FnScope N_has_room ["signs", "wide"] (defScope s_has_room) := ⟨rfl, rfl, rfl, by decide +kernel, rfl, by decide +kernel, by decide +kernel⟩
theorem fn_has_room {f : Addr} {fd : FuncData} (F : Fun K "has_room" "has_room" s_has_room f fd) (T : Txt K mg c) (H_rows_of : Has P w K mg base CX0 1 "rows_of" ["signs", "wide"] (sp_rows_of K c)) : FnOk P w K mg base CX0 2 f fd ["signs", "wide"] (sp_has_room K c) := by
  refine F.ok sc_has_room (fun vs H Q E h => len_has_room vs H Q E h) (fun cdv A outer s H vs Q E hr h => ⟨t_has_room K c E, ?_, pure_has_room vs H Q E h⟩)
  exact (pss_one (ps_ret (pe_and (pe_cmpR op_le (pv 1) (pe_glob rfl T.k_MOST_WIDE.choose_spec ⟨_, rfl⟩) (nomark _)) (pe_one (pe_cmpR op_le (pe_callH H_rows_of (hr.mono (by decide)) rfl pass0 (pa_cons (pv 0) (pa_cons (pv 1) pa_nil))) (pe_glob rfl T.k_MOST_ROWS.choose_spec ⟨_, rfl⟩) (nomark _))))))
theorem ok_has_room (D : Std K mg "has_room" s_has_room ["signs", "wide"]) (T : Txt K mg c) (H_rows_of : Has P w K mg base CX0 1 "rows_of" ["signs", "wide"] (sp_rows_of K c)) : Has P w K mg base CX0 2 "has_room" ["signs", "wide"] (sp_has_room K c) := D.has fun f fd F => fn_has_room F T H_rows_of

theorem sc_are_signs : FnScope N_are_signs ["signs", "cells"] (defScope s_are_signs) := ⟨rfl, rfl, rfl, by decide +kernel, rfl, by decide +kernel, by decide +kernel⟩
theorem fn_are_signs {f : Addr} {fd : FuncData} (F : Fun K "are_signs" "are_signs" s_are_signs f fd) (T : Txt K mg c) (H_is_from_to : Has P w K mg base CX0 1 "_is_from_to" ["thing", "least", "most"] (sp_is_from_to K c)) : FnOk P w K mg base CX0 2 f fd ["signs", "cells"] (sp_are_signs K c) := by
  refine F.ok sc_are_signs (fun vs H Q E h => len_are_signs vs H Q E h) (fun cdv A outer s H vs Q E hr h => ⟨t_are_signs K c E, ?_, pure_are_signs vs H Q E h⟩)
  exact (pss_one (ps_ret (pe_callB (cr_all rfl) (by rfl) T.n_all PyProof.Rows.boot_all (pa_cons (pe_lc (own := [("cell", 2)]) (g := (gName 2)) (tt := tYes) rfl sc_are_signs.nd (pi_or (pi_list (pv 1)) (pi_tup (pv 1))) (blkOk_by (own := [("cell", 2)]) (N := N_are_signs) (sc := defScope s_are_signs) (by decide +kernel)) (fun _ _ _ _ _ => (pg_name (i := 2) sc_are_signs.nd rfl (Or.inl rfl))) (fun _ _ _ _ _ => pts_nil) (fun _ _ _ _ _ => (pe_callH H_is_from_to (hr.mono (by decide)) rfl pass0 (pa_cons (pv 2) (pa_cons pe_int (pa_cons (pe_op op_sub (pv 0) pe_int) pa_nil)))))) pa_nil))))
theorem ok_are_signs (D : Std K mg "are_signs" s_are_signs ["signs", "cells"]) (T : Txt K mg c) (H_is_from_to : Has P w K mg base CX0 1 "_is_from_to" ["thing", "least", "most"] (sp_is_from_to K c)) : Has P w K mg base CX0 2 "are_signs" ["signs", "cells"] (sp_are_signs K c) := D.has fun f fd F => fn_are_signs F T H_is_from_to

theorem sc_is_from_to : FnScope N_is_from_to ["thing", "least", "most"] (defScope s_is_from_to) := ⟨rfl, rfl, rfl, by decide +kernel, rfl, by decide +kernel, by decide +kernel⟩
theorem fn_is_from_to {f : Addr} {fd : FuncData} (F : Fun K "_is_from_to" "_is_from_to" s_is_from_to f fd) (T : Txt K mg c)  : FnOk P w K mg base CX0 1 f fd ["thing", "least", "most"] (sp_is_from_to K c) := by
  refine F.ok sc_is_from_to (fun vs H Q E h => len_is_from_to vs H Q E h) (fun cdv A outer s H vs Q E hr h => ⟨t_is_from_to K c E, ?_, pure_is_from_to vs H Q E h⟩)
  exact (pss_one (ps_ret (pe_and (pe_cmpR op_isTyB (pe_callTy call_type1 (by rfl) T.n_type PyProof.Rows.boot_type (pa_cons (pv 0) pa_nil)) (pe_bltn (v := .ty "int") rfl T.n_int PyProof.Rows.boot_int rfl) (nomark _)) (pe_one (pe_chain op_le op_le (pv 1) (pv 0) (pv 2))))))
theorem ok_is_from_to (D : Std K mg "_is_from_to" s_is_from_to ["thing", "least", "most"]) (T : Txt K mg c)  : Has P w K mg base CX0 1 "_is_from_to" ["thing", "least", "most"] (sp_is_from_to K c) := D.has fun f fd F => fn_is_from_to F T 

theorem sc_is_piece : FnScope N_is_piece ["rule", "thing"] (defScope s_is_piece) := ⟨rfl, rfl, rfl, by decide +kernel, rfl, by decide +kernel, by decide +kernel⟩
theorem fn_is_piece {f : Addr} {fd : FuncData} (F : Fun K "is_piece" "is_piece" s_is_piece f fd) (T : Txt K mg c) (H_need_rule : Has P w K mg base (L2.CX P w) 4 "need_rule" ["thing"] (sp_need_rule K c)) : FnOk P w K mg base (L2.CX P w) 5 f fd ["rule", "thing"] (sp_is_piece K c) := by
  refine F.okX sc_is_piece (fun vs H Q E h => len_is_piece vs H Q E h) (fun cdv A outer s H vs Q E hr h => ⟨t_is_piece K c E, ?_, pure_is_piece vs H Q E h⟩)
  exact (pss_cons (ps_expr (pe_callH H_need_rule (hr.mono (by decide)) rfl (passes_call (takes_of rfl rfl rfl rfl) (fun _ _ _ _ h => h)) (pa_cons (pv 0) pa_nil)))
    (pss_one ps_never))
theorem ok_is_piece (D : Std K mg "is_piece" s_is_piece ["rule", "thing"]) (T : Txt K mg c) (H_need_rule : Has P w K mg base (L2.CX P w) 4 "need_rule" ["thing"] (sp_need_rule K c)) : Has P w K mg base (L2.CX P w) 5 "is_piece" ["rule", "thing"] (sp_is_piece K c) := D.has fun f fd F => fn_is_piece F T H_need_rule

theorem sc_need_piece : FnScope N_need_piece ["rule", "thing"] (defScope s_need_piece) := ⟨rfl, rfl, rfl, by decide +kernel, rfl, by decide +kernel, by decide +kernel⟩
theorem fn_need_piece {f : Addr} {fd : FuncData} (F : Fun K "need_piece" "need_piece" s_need_piece f fd) (T : Txt K mg c) (H_is_piece : Has P w K mg base (L2.CX P w) 5 "is_piece" ["rule", "thing"] (sp_is_piece K c)) : FnOk P w K mg base (L2.CX P w) 6 f fd ["rule", "thing"] (sp_need_piece K c) := by
  refine F.okX sc_need_piece (fun vs H Q E h => len_need_piece vs H Q E h) (fun cdv A outer s H vs Q E hr h => ⟨t_need_piece K c E, ?_, pure_need_piece vs H Q E h⟩)
  exact (pss_one (ps_if (pt_not (pt_val (pe_callH H_is_piece (hr.mono (by decide)) rfl (passes_call (takes_of rfl rfl rfl rfl) (fun _ _ _ _ h => h)) (pa_cons (pv 0) (pa_cons (pv 1) pa_nil))))) (pss_one (ps_raise rfl (takes_of rfl rfl rfl rfl) (pmk_own PySem.F.excBase_ValueError T.e_BadRow.x T.c_BadRow T.e_BadRow.k (raises_own T.e_BadRow.b T.e_BadRow.t) (by exact rfl)))) pss_nil))
theorem ok_need_piece (D : Std K mg "need_piece" s_need_piece ["rule", "thing"]) (T : Txt K mg c) (H_is_piece : Has P w K mg base (L2.CX P w) 5 "is_piece" ["rule", "thing"] (sp_is_piece K c)) : Has P w K mg base (L2.CX P w) 6 "need_piece" ["rule", "thing"] (sp_need_piece K c) := D.has fun f fd F => fn_need_piece F T H_is_piece

theorem sc_need_ring : FnScope N_need_ring ["rule", "thing"] (defScope s_need_ring) := ⟨rfl, rfl, rfl, by decide +kernel, rfl, by decide +kernel, by decide +kernel⟩
theorem fn_need_ring {f : Addr} {fd : FuncData} (F : Fun K "need_ring" "need_ring" s_need_ring f fd) (T : Txt K mg c) (H_need_piece : Has P w K mg base (L2.CX P w) 6 "need_piece" ["rule", "thing"] (sp_need_piece K c)) : FnOk P w K mg base (L2.CX P w) 7 f fd ["rule", "thing"] (sp_need_ring K c) := by
  refine F.okX sc_need_ring (fun vs H Q E h => len_need_ring vs H Q E h) (fun cdv A outer s H vs Q E hr h => ⟨t_need_ring K c E, ?_, pure_need_ring vs H Q E h⟩)
  exact (pss_cons (ps_expr (pe_callH H_need_piece (hr.mono (by decide)) rfl (passes_call (takes_of rfl rfl rfl rfl) (fun _ _ _ _ h => h)) (pa_cons (pv 0) (pa_cons (pv 1) pa_nil))))
    (pss_one ps_never))
theorem ok_need_ring (D : Std K mg "need_ring" s_need_ring ["rule", "thing"]) (T : Txt K mg c) (H_need_piece : Has P w K mg base (L2.CX P w) 6 "need_piece" ["rule", "thing"] (sp_need_piece K c)) : Has P w K mg base (L2.CX P w) 7 "need_ring" ["rule", "thing"] (sp_need_ring K c) := D.has fun f fd F => fn_need_ring F T H_need_piece

theorem sc_piece_on : FnScope N_piece_on ["rule", "piece"] (defScope s_piece_on) := ⟨rfl, rfl, rfl, by decide +kernel, rfl, by decide +kernel, by decide +kernel⟩
theorem fn_piece_on {f : Addr} {fd : FuncData} (F : Fun K "piece_on" "piece_on" s_piece_on f fd) (T : Txt K mg c) (H_need_piece : Has P w K mg base (L2.CX P w) 6 "need_piece" ["rule", "thing"] (sp_need_piece K c)) : FnOk P w K mg base (L2.CX P w) 7 f fd ["rule", "piece"] (sp_piece_on K c) := by
  refine F.okX sc_piece_on (fun vs H Q E h => len_piece_on vs H Q E h) (fun cdv A outer s H vs Q E hr h => ⟨t_piece_on K c E, ?_, pure_piece_on vs H Q E h⟩)
  exact (pss_cons (ps_expr (pe_callH H_need_piece (hr.mono (by decide)) rfl (passes_call (takes_of rfl rfl rfl rfl) (fun _ _ _ _ h => h)) (pa_cons (pv 0) (pa_cons (pv 1) pa_nil))))
    (pss_cons ps_never
    (pss_one ps_never)))
theorem ok_piece_on (D : Std K mg "piece_on" s_piece_on ["rule", "piece"]) (T : Txt K mg c) (H_need_piece : Has P w K mg base (L2.CX P w) 6 "need_piece" ["rule", "thing"] (sp_need_piece K c)) : Has P w K mg base (L2.CX P w) 7 "piece_on" ["rule", "piece"] (sp_piece_on K c) := D.has fun f fd F => fn_piece_on F T H_need_piece

theorem sc_ring_on : FnScope N_ring_on ["rule", "ring"] (defScope s_ring_on) := ⟨rfl, rfl, rfl, by decide +kernel, rfl, by decide +kernel, by decide +kernel⟩
theorem fn_ring_on {f : Addr} {fd : FuncData} (F : Fun K "ring_on" "ring_on" s_ring_on f fd) (T : Txt K mg c) (H_need_ring : Has P w K mg base (L2.CX P w) 7 "need_ring" ["rule", "thing"] (sp_need_ring K c)) : FnOk P w K mg base (L2.CX P w) 8 f fd ["rule", "ring"] (sp_ring_on K c) := by
  refine F.okX sc_ring_on (fun vs H Q E h => len_ring_on vs H Q E h) (fun cdv A outer s H vs Q E hr h => ⟨t_ring_on K c E, ?_, pure_ring_on vs H Q E h⟩)
  exact (pss_cons (ps_expr (pe_callH H_need_ring (hr.mono (by decide)) rfl (passes_call (takes_of rfl rfl rfl rfl) (fun _ _ _ _ h => h)) (pa_cons (pv 0) (pa_cons (pv 1) pa_nil))))
    (pss_cons ps_never
    (pss_cons ps_never
    (pss_one ps_never))))
theorem ok_ring_on (D : Std K mg "ring_on" s_ring_on ["rule", "ring"]) (T : Txt K mg c) (H_need_ring : Has P w K mg base (L2.CX P w) 7 "need_ring" ["rule", "thing"] (sp_need_ring K c)) : Has P w K mg base (L2.CX P w) 8 "ring_on" ["rule", "ring"] (sp_ring_on K c) := D.has fun f fd F => fn_ring_on F T H_need_ring

theorem sc_joined : FnScope N_joined ["one", "other"] (defScope s_joined) := ⟨rfl, rfl, rfl, by decide +kernel, rfl, by decide +kernel, by decide +kernel⟩
theorem fn_joined {f : Addr} {fd : FuncData} (F : Fun K "joined" "joined" s_joined f fd) (T : Txt K mg c) (H_need_rule : Has P w K mg base (L2.CX P w) 4 "need_rule" ["thing"] (sp_need_rule K c)) : FnOk P w K mg base (L2.CX P w) 5 f fd ["one", "other"] (sp_joined K c) := by
  refine F.okX sc_joined (fun vs H Q E h => len_joined vs H Q E h) (fun cdv A outer s H vs Q E hr h => ⟨t_joined K c E, ?_, pure_joined vs H Q E h⟩)
  exact (pss_cons (ps_expr (pe_callH H_need_rule (hr.mono (by decide)) rfl (passes_call (takes_of rfl rfl rfl rfl) (fun _ _ _ _ h => h)) (pa_cons (pv 0) pa_nil)))
    (pss_cons (ps_expr (pe_callH H_need_rule (hr.mono (by decide)) rfl (passes_call (takes_of rfl rfl rfl rfl) (fun _ _ _ _ h => h)) (pa_cons (pv 1) pa_nil)))
    (pss_cons ps_never
    (pss_cons ps_never
    (pss_cons ps_never
    (pss_cons ps_never
    (pss_cons ps_never
    (pss_cons ps_never
    (pss_one ps_never)))))))))
theorem ok_joined (D : Std K mg "joined" s_joined ["one", "other"]) (T : Txt K mg c) (H_need_rule : Has P w K mg base (L2.CX P w) 4 "need_rule" ["thing"] (sp_need_rule K c)) : Has P w K mg base (L2.CX P w) 5 "joined" ["one", "other"] (sp_joined K c) := D.has fun f fd F => fn_joined F T H_need_rule

theorem sc_count_of : FnScope N_count_of ["rule", "piece"] (defScope s_count_of) := ⟨rfl, rfl, rfl, by decide +kernel, rfl, by decide +kernel, by decide +kernel⟩
theorem fn_count_of {f : Addr} {fd : FuncData} (F : Fun K "count_of" "count_of" s_count_of f fd) (T : Txt K mg c) (H_need_piece : Has P w K mg base (L2.CX P w) 6 "need_piece" ["rule", "thing"] (sp_need_piece K c)) : FnOk P w K mg base (L2.CX P w) 7 f fd ["rule", "piece"] (sp_count_of K c) := by
  refine F.okX sc_count_of (fun vs H Q E h => len_count_of vs H Q E h) (fun cdv A outer s H vs Q E hr h => ⟨t_count_of K c E, ?_, pure_count_of vs H Q E h⟩)
  exact (pss_cons (ps_expr (pe_callH H_need_piece (hr.mono (by decide)) rfl (passes_call (takes_of rfl rfl rfl rfl) (fun _ _ _ _ h => h)) (pa_cons (pv 0) (pa_cons (pv 1) pa_nil))))
    (pss_cons ps_never
    (pss_cons ps_never
    (pss_cons ps_never
    (pss_one ps_never)))))
theorem ok_count_of (D : Std K mg "count_of" s_count_of ["rule", "piece"]) (T : Txt K mg c) (H_need_piece : Has P w K mg base (L2.CX P w) 6 "need_piece" ["rule", "thing"] (sp_need_piece K c)) : Has P w K mg base (L2.CX P w) 7 "count_of" ["rule", "piece"] (sp_count_of K c) := D.has fun f fd F => fn_count_of F T H_need_piece

theorem sc_origin_of : FnScope N_origin_of ["rule", "piece"] (defScope s_origin_of) := ⟨rfl, rfl, rfl, by decide +kernel, rfl, by decide +kernel, by decide +kernel⟩
theorem fn_origin_of {f : Addr} {fd : FuncData} (F : Fun K "origin_of" "origin_of" s_origin_of f fd) (T : Txt K mg c) (H_need_piece : Has P w K mg base (L2.CX P w) 6 "need_piece" ["rule", "thing"] (sp_need_piece K c)) : FnOk P w K mg base (L2.CX P w) 7 f fd ["rule", "piece"] (sp_origin_of K c) := by
  refine F.okX sc_origin_of (fun vs H Q E h => len_origin_of vs H Q E h) (fun cdv A outer s H vs Q E hr h => ⟨t_origin_of K c E, ?_, pure_origin_of vs H Q E h⟩)
  exact (pss_cons (ps_expr (pe_callH H_need_piece (hr.mono (by decide)) rfl (passes_call (takes_of rfl rfl rfl rfl) (fun _ _ _ _ h => h)) (pa_cons (pv 0) (pa_cons (pv 1) pa_nil))))
    (pss_cons ps_never
    (pss_cons ps_never
    (pss_cons ps_never
    (pss_cons ps_never
    (pss_cons ps_never
    (pss_cons ps_never
    (pss_cons ps_never
    (pss_one ps_never)))))))))
theorem ok_origin_of (D : Std K mg "origin_of" s_origin_of ["rule", "piece"]) (T : Txt K mg c) (H_need_piece : Has P w K mg base (L2.CX P w) 6 "need_piece" ["rule", "thing"] (sp_need_piece K c)) : Has P w K mg base (L2.CX P w) 7 "origin_of" ["rule", "piece"] (sp_origin_of K c) := D.has fun f fd F => fn_origin_of F T H_need_piece

theorem sc_twins : FnScope N_twins ["rule"] (defScope s_twins) := ⟨rfl, rfl, rfl, by decide +kernel, rfl, by decide +kernel, by decide +kernel⟩
theorem fn_twins {f : Addr} {fd : FuncData} (F : Fun K "twins" "twins" s_twins f fd) (T : Txt K mg c) (H_need_rule : Has P w K mg base (L2.CX P w) 4 "need_rule" ["thing"] (sp_need_rule K c)) : FnOk P w K mg base (L2.CX P w) 5 f fd ["rule"] (sp_twins K c) := by
  refine F.okX sc_twins (fun vs H Q E h => len_twins vs H Q E h) (fun cdv A outer s H vs Q E hr h => ⟨t_twins K c E, ?_, pure_twins vs H Q E h⟩)
  exact (pss_cons (ps_expr (pe_callH H_need_rule (hr.mono (by decide)) rfl (passes_call (takes_of rfl rfl rfl rfl) (fun _ _ _ _ h => h)) (pa_cons (pv 0) pa_nil)))
    (pss_cons ps_never
    (pss_cons ps_never
    (pss_cons ps_never
    (pss_cons ps_never
    (pss_cons ps_never
    (pss_one ps_never)))))))
theorem ok_twins (D : Std K mg "twins" s_twins ["rule"]) (T : Txt K mg c) (H_need_rule : Has P w K mg base (L2.CX P w) 4 "need_rule" ["thing"] (sp_need_rule K c)) : Has P w K mg base (L2.CX P w) 5 "twins" ["rule"] (sp_twins K c) := D.has fun f fd F => fn_twins F T H_need_rule

theorem sc_rings : FnScope N_rings ["rule"] (defScope s_rings) := ⟨rfl, rfl, rfl, by decide +kernel, rfl, by decide +kernel, by decide +kernel⟩
theorem fn_rings {f : Addr} {fd : FuncData} (F : Fun K "rings" "rings" s_rings f fd) (T : Txt K mg c) (H_need_rule : Has P w K mg base (L2.CX P w) 4 "need_rule" ["thing"] (sp_need_rule K c)) : FnOk P w K mg base (L2.CX P w) 5 f fd ["rule"] (sp_rings K c) := by
  refine F.okX sc_rings (fun vs H Q E h => len_rings vs H Q E h) (fun cdv A outer s H vs Q E hr h => ⟨t_rings K c E, ?_, pure_rings vs H Q E h⟩)
  exact (pss_cons (ps_expr (pe_callH H_need_rule (hr.mono (by decide)) rfl (passes_call (takes_of rfl rfl rfl rfl) (fun _ _ _ _ h => h)) (pa_cons (pv 0) pa_nil)))
    (pss_cons ps_never
    (pss_cons ps_never
    (pss_cons ps_never
    (pss_cons ps_never
    (pss_cons ps_never
    (pss_one ps_never)))))))
theorem ok_rings (D : Std K mg "rings" s_rings ["rule"]) (T : Txt K mg c) (H_need_rule : Has P w K mg base (L2.CX P w) 4 "need_rule" ["thing"] (sp_need_rule K c)) : Has P w K mg base (L2.CX P w) 5 "rings" ["rule"] (sp_rings K c) := D.has fun f fd F => fn_rings F T H_need_rule

theorem sc_bounds : FnScope N_bounds ["rule"] (defScope s_bounds) := ⟨rfl, rfl, rfl, by decide +kernel, rfl, by decide +kernel, by decide +kernel⟩
theorem fn_bounds {f : Addr} {fd : FuncData} (F : Fun K "bounds" "bounds" s_bounds f fd) (T : Txt K mg c) (H_need_rule : Has P w K mg base (L2.CX P w) 4 "need_rule" ["thing"] (sp_need_rule K c)) : FnOk P w K mg base (L2.CX P w) 5 f fd ["rule"] (sp_bounds K c) := by
  refine F.okX sc_bounds (fun vs H Q E h => len_bounds vs H Q E h) (fun cdv A outer s H vs Q E hr h => ⟨t_bounds K c E, ?_, pure_bounds vs H Q E h⟩)
  exact (pss_cons (ps_expr (pe_callH H_need_rule (hr.mono (by decide)) rfl (passes_call (takes_of rfl rfl rfl rfl) (fun _ _ _ _ h => h)) (pa_cons (pv 0) pa_nil)))
    (pss_cons ps_never
    (pss_cons ps_never
    (pss_cons ps_never
    (pss_cons ps_never
    (pss_cons ps_never
    (pss_one ps_never)))))))
theorem ok_bounds (D : Std K mg "bounds" s_bounds ["rule"]) (T : Txt K mg c) (H_need_rule : Has P w K mg base (L2.CX P w) 4 "need_rule" ["thing"] (sp_need_rule K c)) : Has P w K mg base (L2.CX P w) 5 "bounds" ["rule"] (sp_bounds K c) := D.has fun f fd F => fn_bounds F T H_need_rule

theorem sc_ring_back : FnScope N_ring_back ["rule", "ring"] (defScope s_ring_back) := ⟨rfl, rfl, rfl, by decide +kernel, rfl, by decide +kernel, by decide +kernel⟩
theorem fn_ring_back {f : Addr} {fd : FuncData} (F : Fun K "ring_back" "ring_back" s_ring_back f fd) (T : Txt K mg c) (H_need_ring : Has P w K mg base (L2.CX P w) 7 "need_ring" ["rule", "thing"] (sp_need_ring K c)) : FnOk P w K mg base (L2.CX P w) 8 f fd ["rule", "ring"] (sp_ring_back K c) := by
  refine F.okX sc_ring_back (fun vs H Q E h => len_ring_back vs H Q E h) (fun cdv A outer s H vs Q E hr h => ⟨t_ring_back K c E, ?_, pure_ring_back vs H Q E h⟩)
  exact (pss_cons (ps_expr (pe_callH H_need_ring (hr.mono (by decide)) rfl (passes_call (takes_of rfl rfl rfl rfl) (fun _ _ _ _ h => h)) (pa_cons (pv 0) (pa_cons (pv 1) pa_nil))))
    (pss_cons ps_never
    (pss_cons ps_never
    (pss_cons ps_never
    (pss_cons ps_never
    (pss_one ps_never))))))
theorem ok_ring_back (D : Std K mg "ring_back" s_ring_back ["rule", "ring"]) (T : Txt K mg c) (H_need_ring : Has P w K mg base (L2.CX P w) 7 "need_ring" ["rule", "thing"] (sp_need_ring K c)) : Has P w K mg base (L2.CX P w) 8 "ring_back" ["rule", "ring"] (sp_ring_back K c) := D.has fun f fd F => fn_ring_back F T H_need_ring
end
end Br1

namespace Br1
open PySem PySem.Spec PyProof.Rows L2 Evl Br
section
variable {P : Program} {w : World} {K : PySem.W.Frag} {mg : Str → Option Value} {base : Heap} {c : Cl}
theorem sc_piece_back : FnScope N_piece_back ["rule", "piece"] (defScope s_piece_back) := ⟨rfl, rfl, rfl, by decide +kernel, rfl, by decide +kernel, by decide +kernel⟩
theorem fn_piece_back {f : Addr} {fd : FuncData} (F : Fun K "piece_back" "piece_back" s_piece_back f fd) (T : Txt K mg c) (H_need_piece : Has P w K mg base (L2.CX P w) 6 "need_piece" ["rule", "thing"] (sp_need_piece K c)) : FnOk P w K mg base (L2.CX P w) 7 f fd ["rule", "piece"] (sp_piece_back K c) := by
  refine F.okX sc_piece_back (fun vs H Q E h => len_piece_back vs H Q E h) (fun cdv A outer s H vs Q E hr h => ⟨t_piece_back K c E, ?_, pure_piece_back vs H Q E h⟩)
  exact (pss_cons (ps_expr (pe_callH H_need_piece (hr.mono (by decide)) rfl (passes_call (takes_of rfl rfl rfl rfl) (fun _ _ _ _ h => h)) (pa_cons (pv 0) (pa_cons (pv 1) pa_nil))))
    (pss_cons ps_never
    (pss_cons ps_never
    (pss_one ps_never))))
theorem ok_piece_back (D : Std K mg "piece_back" s_piece_back ["rule", "piece"]) (T : Txt K mg c) (H_need_piece : Has P w K mg base (L2.CX P w) 6 "need_piece" ["rule", "thing"] (sp_need_piece K c)) : Has P w K mg base (L2.CX P w) 7 "piece_back" ["rule", "piece"] (sp_piece_back K c) := D.has fun f fd F => fn_piece_back F T H_need_piece

theorem sc_ends_of : FnScope N_ends_of ["rule", "piece"] (defScope s_ends_of) := ⟨rfl, rfl, rfl, by decide +kernel, rfl, by decide +kernel, by decide +kernel⟩
theorem fn_ends_of {f : Addr} {fd : FuncData} (F : Fun K "ends_of" "ends_of" s_ends_of f fd) (T : Txt K mg c) (H_need_piece : Has P w K mg base (L2.CX P w) 6 "need_piece" ["rule", "thing"] (sp_need_piece K c)) : FnOk P w K mg base (L2.CX P w) 7 f fd ["rule", "piece"] (sp_ends_of K c) := by
  refine F.okX sc_ends_of (fun vs H Q E h => len_ends_of vs H Q E h) (fun cdv A outer s H vs Q E hr h => ⟨t_ends_of K c E, ?_, pure_ends_of vs H Q E h⟩)
  exact (pss_cons (ps_expr (pe_callH H_need_piece (hr.mono (by decide)) rfl (passes_call (takes_of rfl rfl rfl rfl) (fun _ _ _ _ h => h)) (pa_cons (pv 0) (pa_cons (pv 1) pa_nil))))
    (pss_cons ps_never
    (pss_cons ps_never
    (pss_cons ps_never
    (pss_one ps_never)))))
theorem ok_ends_of (D : Std K mg "ends_of" s_ends_of ["rule", "piece"]) (T : Txt K mg c) (H_need_piece : Has P w K mg base (L2.CX P w) 6 "need_piece" ["rule", "thing"] (sp_need_piece K c)) : Has P w K mg base (L2.CX P w) 7 "ends_of" ["rule", "piece"] (sp_ends_of K c) := D.has fun f fd F => fn_ends_of F T H_need_piece

theorem sc_missing : FnScope N_missing ["rule"] (defScope s_missing) := ⟨rfl, rfl, rfl, by decide +kernel, rfl, by decide +kernel, by decide +kernel⟩
theorem fn_missing {f : Addr} {fd : FuncData} (F : Fun K "missing" "missing" s_missing f fd) (T : Txt K mg c) (H_need_rule : Has P w K mg base (L2.CX P w) 4 "need_rule" ["thing"] (sp_need_rule K c)) : FnOk P w K mg base (L2.CX P w) 5 f fd ["rule"] (sp_missing K c) := by
  refine F.okX sc_missing (fun vs H Q E h => len_missing vs H Q E h) (fun cdv A outer s H vs Q E hr h => ⟨t_missing K c E, ?_, pure_missing vs H Q E h⟩)
  exact (pss_cons (ps_expr (pe_callH H_need_rule (hr.mono (by decide)) rfl (passes_call (takes_of rfl rfl rfl rfl) (fun _ _ _ _ h => h)) (pa_cons (pv 0) pa_nil)))
    (pss_one ps_never))
theorem ok_missing (D : Std K mg "missing" s_missing ["rule"]) (T : Txt K mg c) (H_need_rule : Has P w K mg base (L2.CX P w) 4 "need_rule" ["thing"] (sp_need_rule K c)) : Has P w K mg base (L2.CX P w) 5 "missing" ["rule"] (sp_missing K c) := D.has fun f fd F => fn_missing F T H_need_rule

theorem sc_all_ends : FnScope N_all_ends ["rule"] (defScope s_all_ends) := ⟨rfl, rfl, rfl, by decide +kernel, rfl, by decide +kernel, by decide +kernel⟩
theorem fn_all_ends {f : Addr} {fd : FuncData} (F : Fun K "all_ends" "all_ends" s_all_ends f fd) (T : Txt K mg c) (H_need_rule : Has P w K mg base (L2.CX P w) 4 "need_rule" ["thing"] (sp_need_rule K c)) : FnOk P w K mg base (L2.CX P w) 5 f fd ["rule"] (sp_all_ends K c) := by
  refine F.okX sc_all_ends (fun vs H Q E h => len_all_ends vs H Q E h) (fun cdv A outer s H vs Q E hr h => ⟨t_all_ends K c E, ?_, pure_all_ends vs H Q E h⟩)
  exact (pss_cons (ps_expr (pe_callH H_need_rule (hr.mono (by decide)) rfl (passes_call (takes_of rfl rfl rfl rfl) (fun _ _ _ _ h => h)) (pa_cons (pv 0) pa_nil)))
    (pss_cons ps_never
    (pss_cons ps_never
    (pss_one ps_never))))
theorem ok_all_ends (D : Std K mg "all_ends" s_all_ends ["rule"]) (T : Txt K mg c) (H_need_rule : Has P w K mg base (L2.CX P w) 4 "need_rule" ["thing"] (sp_need_rule K c)) : Has P w K mg base (L2.CX P w) 5 "all_ends" ["rule"] (sp_all_ends K c) := D.has fun f fd F => fn_all_ends F T H_need_rule

theorem sc_shown : FnScope N_shown ["rule"] (defScope s_shown) := ⟨rfl, rfl, rfl, by decide +kernel, rfl, by decide +kernel, by decide +kernel⟩
theorem fn_shown {f : Addr} {fd : FuncData} (F : Fun K "shown" "shown" s_shown f fd) (T : Txt K mg c) (H_need_rule : Has P w K mg base (L2.CX P w) 4 "need_rule" ["thing"] (sp_need_rule K c)) : FnOk P w K mg base (L2.CX P w) 5 f fd ["rule"] (sp_shown K c) := by
  refine F.okX sc_shown (fun vs H Q E h => len_shown vs H Q E h) (fun cdv A outer s H vs Q E hr h => ⟨t_shown K c E, ?_, pure_shown vs H Q E h⟩)
  exact (pss_cons (ps_expr (pe_callH H_need_rule (hr.mono (by decide)) rfl (passes_call (takes_of rfl rfl rfl rfl) (fun _ _ _ _ h => h)) (pa_cons (pv 0) pa_nil)))
    (pss_cons ps_never
    (pss_one ps_never)))
theorem ok_shown (D : Std K mg "shown" s_shown ["rule"]) (T : Txt K mg c) (H_need_rule : Has P w K mg base (L2.CX P w) 4 "need_rule" ["thing"] (sp_need_rule K c)) : Has P w K mg base (L2.CX P w) 5 "shown" ["rule"] (sp_shown K c) := D.has fun f fd F => fn_shown F T H_need_rule

theorem sc_l_cell_at : FnScope N_l_cell_at ["_law_script", "_law_k"] (defScope s_l_cell_at) := ⟨rfl, rfl, rfl, by decide +kernel, rfl, by decide +kernel, by decide +kernel⟩
theorem fn_l_cell_at {f : Addr} {fd : FuncData} (F : Fun K "_law_cell_at" "_law_cell_at" s_l_cell_at f fd) (T : Txt K mg c)  : FnOk P w K mg base CX0 1 f fd ["_law_script", "_law_k"] (sp_l_cell_at K c) := by
  refine F.ok sc_l_cell_at (fun vs H Q E h => len_l_cell_at vs H Q E h) (fun cdv A outer s H vs Q E hr h => ⟨t_l_cell_at K c E, ?_, pure_l_cell_at vs H Q E h⟩)
  exact (pss_cons (ps_if (pt_cmpR op_lt (pv 1) (pe_callB call_len_seq (by rfl) T.n_len PySem.boot_len (pa_cons (pv 0) pa_nil)) (nomark _)) (pss_one (ps_ret (pe_ix ix_list (pv 0) (pv 1) (fun _ _ => rfl)))) pss_nil)
    (pss_one (ps_ret pe_int)))
theorem ok_l_cell_at (D : Std K mg "_law_cell_at" s_l_cell_at ["_law_script", "_law_k"]) (T : Txt K mg c)  : Has P w K mg base CX0 1 "_law_cell_at" ["_law_script", "_law_k"] (sp_l_cell_at K c) := D.has fun f fd F => fn_l_cell_at F T 

theorem sc_l_mixed : FnScope N_l_mixed ["_law_cell", "_law_k"] (defScope s_l_mixed) := ⟨rfl, rfl, rfl, by decide +kernel, rfl, by decide +kernel, by decide +kernel⟩
theorem fn_l_mixed {f : Addr} {fd : FuncData} (F : Fun K "_law_mixed" "_law_mixed" s_l_mixed f fd) (T : Txt K mg c)  : FnOk P w K mg base CX0 1 f fd ["_law_cell", "_law_k"] (sp_l_mixed K c) := by
  refine F.ok sc_l_mixed (fun vs H Q E h => len_l_mixed vs H Q E h) (fun cdv A outer s H vs Q E hr h => ⟨t_l_mixed K c E, ?_, pure_l_mixed vs H Q E h⟩)
  exact (pss_cons (ps_set (i := 2) sc_l_mixed.nd rfl (Or.inl rfl) (pe_op op_mod (pe_op op_mul (pe_op op_add (pe_op op_mod (pv 0) pe_int) pe_int) pe_int) pe_int))
    (pss_one (ps_ret (pe_op op_fdiv (pe_op op_mod (pe_op op_mul (pv 2) (pe_op op_add (pe_op op_add pe_int (pe_op op_mul (pe_op op_mul pe_int (pv 1)) (pv 1))) (pe_op op_mul pe_int (pv 1)))) pe_int) pe_int))))
theorem ok_l_mixed (D : Std K mg "_law_mixed" s_l_mixed ["_law_cell", "_law_k"]) (T : Txt K mg c)  : Has P w K mg base CX0 1 "_law_mixed" ["_law_cell", "_law_k"] (sp_l_mixed K c) := D.has fun f fd F => fn_l_mixed F T 

theorem sc_l_random : FnScope N_l_random ["_law_signs", "_law_rows", "_law_more"] (defScope s_l_random) := ⟨rfl, rfl, rfl, by decide +kernel, rfl, by decide +kernel, by decide +kernel⟩
theorem fn_l_random {f : Addr} {fd : FuncData} (F : Fun K "_law_random" "_law_random" s_l_random f fd) (T : Txt K mg c) (H_l_mixed : Has P w K mg base CX0 1 "_law_mixed" ["_law_cell", "_law_k"] (sp_l_mixed K c)) : FnOk P w K mg base CX0 2 f fd ["_law_signs", "_law_rows", "_law_more"] (sp_l_random K c) := by
  refine F.ok sc_l_random (fun vs H Q E h => len_l_random vs H Q E h) (fun cdv A outer s H vs Q E hr h => ⟨t_l_random K c E, ?_, pure_l_random vs H Q E h⟩)
  exact (pss_one (ps_ret (pe_callTy call_tuple_of (by rfl) T.n_tuple PyProof.Rows.boot_tuple (pa_cons (pe_lc (own := [("_law_k", 3)]) (g := (gName 3)) (tt := tYes) rfl sc_l_random.nd (pi_range1 (by rfl) T.n_range (pa_cons (pv 1) pa_nil)) (blkOk_by (own := [("_law_k", 3)]) (N := N_l_random) (sc := defScope s_l_random) (by decide +kernel)) (fun _ _ _ _ _ => (pg_name (i := 3) sc_l_random.nd rfl (Or.inl rfl))) (fun _ _ _ _ _ => pts_nil) (fun _ _ _ _ _ => (pe_op op_mod (pe_callH H_l_mixed (hr.mono (by decide)) rfl pass0 (pa_cons (pv 2) (pa_cons (pv 3) pa_nil))) (pv 0)))) pa_nil))))
theorem ok_l_random (D : Std K mg "_law_random" s_l_random ["_law_signs", "_law_rows", "_law_more"]) (T : Txt K mg c) (H_l_mixed : Has P w K mg base CX0 1 "_law_mixed" ["_law_cell", "_law_k"] (sp_l_mixed K c)) : Has P w K mg base CX0 2 "_law_random" ["_law_signs", "_law_rows", "_law_more"] (sp_l_random K c) := D.has fun f fd F => fn_l_random F T H_l_mixed

theorem sc_l_mending : FnScope N_l_mending ["_law_signs", "_law_rows", "_law_more"] (defScope s_l_mending) := ⟨rfl, rfl, rfl, by decide +kernel, rfl, by decide +kernel, by decide +kernel⟩
theorem fn_l_mending {f : Addr} {fd : FuncData} (F : Fun K "_law_mending" "_law_mending" s_l_mending f fd) (T : Txt K mg c) (H_l_mixed : Has P w K mg base CX0 1 "_law_mixed" ["_law_cell", "_law_k"] (sp_l_mixed K c)) : FnOk P w K mg base CX0 2 f fd ["_law_signs", "_law_rows", "_law_more"] (sp_l_mending K c) := by
  refine F.ok sc_l_mending (fun vs H Q E h => len_l_mending vs H Q E h) (fun cdv A outer s H vs Q E hr h => ⟨t_l_mending K c E, ?_, pure_l_mending vs H Q E h⟩)
  exact (pss_cons (ps_set (i := 3) sc_l_mending.nd rfl (Or.inr rfl) (pe_op op_fdiv (pv 1) (pv 0)))
    (pss_cons (ps_if (pt_cmpR op_eq (pe_op op_mod (pv 2) pe_int) pe_int (nomark _)) (pss_one (ps_ret (pe_callTy call_tuple_of (by rfl) T.n_tuple PyProof.Rows.boot_tuple (pa_cons (pe_lc (own := [("_law_k", 4)]) (g := (gName 4)) (tt := tYes) rfl sc_l_mending.nd (pi_range1 (by rfl) T.n_range (pa_cons (pv 1) pa_nil)) (blkOk_by (own := [("_law_k", 4)]) (N := N_l_mending) (sc := defScope s_l_mending) (by decide +kernel)) (fun _ _ _ _ _ => (pg_name (i := 4) sc_l_mending.nd rfl (Or.inl rfl))) (fun _ _ _ _ _ => pts_nil) (fun _ _ _ _ _ => (pe_op op_mod (pe_op op_add (pe_op op_mod (pv 4) (pv 0)) (pe_callH H_l_mixed (hr.mono (by decide)) rfl pass0 (pa_cons (pv 2) (pa_cons (pe_op op_fdiv (pv 4) (pv 0)) pa_nil)))) (pv 0)))) pa_nil)))) pss_nil)
    (pss_one (ps_ret (pe_callTy call_tuple_of (by rfl) T.n_tuple PyProof.Rows.boot_tuple (pa_cons (pe_lc (own := [("_law_k", 4)]) (g := (gName 4)) (tt := tYes) rfl sc_l_mending.nd (pi_range1 (by rfl) T.n_range (pa_cons (pv 1) pa_nil)) (blkOk_by (own := [("_law_k", 4)]) (N := N_l_mending) (sc := defScope s_l_mending) (by decide +kernel)) (fun _ _ _ _ _ => (pg_name (i := 4) sc_l_mending.nd rfl (Or.inl rfl))) (fun _ _ _ _ _ => pts_nil) (fun _ _ _ _ _ => (pe_op op_mod (pe_op op_add (pe_op op_fdiv (pv 4) (pv 3)) (pe_callH H_l_mixed (hr.mono (by decide)) rfl pass0 (pa_cons (pv 2) (pa_cons (pe_op op_mod (pv 4) (pv 3)) pa_nil)))) (pv 0)))) pa_nil))))))
theorem ok_l_mending (D : Std K mg "_law_mending" s_l_mending ["_law_signs", "_law_rows", "_law_more"]) (T : Txt K mg c) (H_l_mixed : Has P w K mg base CX0 1 "_law_mixed" ["_law_cell", "_law_k"] (sp_l_mixed K c)) : Has P w K mg base CX0 2 "_law_mending" ["_law_signs", "_law_rows", "_law_more"] (sp_l_mending K c) := D.has fun f fd F => fn_l_mending F T H_l_mixed

theorem sc_l_between : FnScope N_l_between ["_law_k", "_law_way"] (defScope s_l_between) := ⟨rfl, rfl, rfl, by decide +kernel, rfl, by decide +kernel, by decide +kernel⟩
theorem fn_l_between {f : Addr} {fd : FuncData} (F : Fun K "_law_between" "_law_between" s_l_between f fd) (T : Txt K mg c)  : FnOk P w K mg base CX0 1 f fd ["_law_k", "_law_way"] (sp_l_between K c) := by
  refine F.ok sc_l_between (fun vs H Q E h => len_l_between vs H Q E h) (fun cdv A outer s H vs Q E hr h => ⟨t_l_between K c E, ?_, pure_l_between vs H Q E h⟩)
  exact (pss_cons (ps_set (i := 2) sc_l_between.nd rfl (Or.inl rfl) (pe_lst (pa_cons (pe_op op_fdiv (pv 0) pe_int) (pa_cons (pe_op op_mod (pe_op op_fdiv (pv 0) pe_int) pe_int) (pa_cons (pe_op op_mod (pe_op op_fdiv (pv 0) pe_int) pe_int) (pa_cons (pe_op op_mod (pv 0) pe_int) pa_nil))))))
    (pss_cons (ps_set (i := 3) sc_l_between.nd rfl (Or.inl rfl) (pe_op op_add pe_int (pe_op op_mod (pe_op op_fdiv (pv 1) pe_int) pe_int)))
    (pss_cons (ps_set (i := 4) sc_l_between.nd rfl (Or.inl rfl) (pe_op op_cat (pe_slice sl_list (pv 2) po_none (po_some (pv 3))) (pe_slice sl_list (pv 2) (po_some (pe_op op_add (pv 3) pe_int)) po_none)))
    (pss_one (ps_ret (pe_op op_mod (pe_op op_add (pe_ix ix_list (pv 2) (pv 3) (fun _ _ => rfl)) (pe_callTy call_int1 (by rfl) T.n_int PyProof.Rows.boot_int (pa_cons (pe_cmpR (op_eqD hr.units) (pv 4) (pe_ix ix_list (pe_lst (pa_cons (pe_lst (pa_cons pe_int (pa_cons pe_int (pa_cons pe_int pa_nil)))) (pa_cons (pe_lst (pa_cons pe_int (pa_cons pe_int (pa_cons pe_int pa_nil)))) pa_nil))) (pe_op op_mod (pv 1) pe_int) (fun _ _ => rfl)) (nomark _)) pa_nil))) pe_int))))))
theorem ok_l_between (D : Std K mg "_law_between" s_l_between ["_law_k", "_law_way"]) (T : Txt K mg c)  : Has P w K mg base CX0 1 "_law_between" ["_law_k", "_law_way"] (sp_l_between K c) := D.has fun f fd F => fn_l_between F T 

theorem sc_l_beside : FnScope N_l_beside ["_law_k", "_law_way"] (defScope s_l_beside) := ⟨rfl, rfl, rfl, by decide +kernel, rfl, by decide +kernel, by decide +kernel⟩
theorem fn_l_beside {f : Addr} {fd : FuncData} (F : Fun K "_law_beside" "_law_beside" s_l_beside f fd) (T : Txt K mg c)  : FnOk P w K mg base CX0 1 f fd ["_law_k", "_law_way"] (sp_l_beside K c) := by
  refine F.ok sc_l_beside (fun vs H Q E h => len_l_beside vs H Q E h) (fun cdv A outer s H vs Q E hr h => ⟨t_l_beside K c E, ?_, pure_l_beside vs H Q E h⟩)
  exact (pss_cons (ps_set (i := 2) sc_l_beside.nd rfl (Or.inl rfl) (pe_op op_mod (pe_op op_fdiv (pv 1) pe_int) pe_int))
    (pss_cons (ps_asg (pe_ix ix_list (pe_lst (pa_cons (pe_tup (pa_cons (pe_op op_fdiv (pv 0) pe_int) (pa_cons (pe_op op_mod (pv 0) pe_int) pa_nil))) (pa_cons (pe_tup (pa_cons (pe_op op_mod (pv 0) pe_int) (pa_cons (pe_op op_fdiv (pv 0) pe_int) pa_nil))) pa_nil))) (pe_op op_mod (pv 1) pe_int) (fun _ _ => rfl)) (pg_tup (n := 2) (by rfl) (pgs_cons (pg_name (i := 3) sc_l_beside.nd rfl (Or.inl rfl)) (pgs_cons (pg_name (i := 4) sc_l_beside.nd rfl (Or.inl rfl)) pgs_nil))))
    (pss_cons (ps_if (PW.pt (pw_and (pt_cmpR op_eq (pv 4) (pv 2) (nomark _)) (pw_and1 (pt_cmpR op_ne (pv 3) (pv 2) (nomark _))))) (pss_one (ps_ret (pe_op op_sub (pe_op op_sub pe_int (pv 2)) (pv 3)))) pss_nil)
    (pss_one (ps_ret (pv 3))))))
theorem ok_l_beside (D : Std K mg "_law_beside" s_l_beside ["_law_k", "_law_way"]) (T : Txt K mg c)  : Has P w K mg base CX0 1 "_law_beside" ["_law_k", "_law_way"] (sp_l_beside K c) := D.has fun f fd F => fn_l_beside F T 

theorem sc_l_turned : FnScope N_l_turned ["_law_signs", "_law_wide", "_law_rows", "_law_more"] (defScope s_l_turned) := ⟨rfl, rfl, rfl, by decide +kernel, rfl, by decide +kernel, by decide +kernel⟩
theorem fn_l_turned {f : Addr} {fd : FuncData} (F : Fun K "_law_turned" "_law_turned" s_l_turned f fd) (T : Txt K mg c) (H_l_beside : Has P w K mg base CX0 1 "_law_beside" ["_law_k", "_law_way"] (sp_l_beside K c)) (H_l_between : Has P w K mg base CX0 1 "_law_between" ["_law_k", "_law_way"] (sp_l_between K c)) : FnOk P w K mg base CX0 2 f fd ["_law_signs", "_law_wide", "_law_rows", "_law_more"] (sp_l_turned K c) := by
  refine F.ok sc_l_turned (fun vs H Q E h => len_l_turned vs H Q E h) (fun cdv A outer s H vs Q E hr h => ⟨t_l_turned K c E, ?_, pure_l_turned vs H Q E h⟩)
  exact (pss_cons (ps_set (i := 4) sc_l_turned.nd rfl (Or.inr rfl) (pe_lc (own := [("_law_k", 5)]) (g := (gName 5)) (tt := tYes) rfl sc_l_turned.nd (pi_range1 (by rfl) T.n_range (pa_cons (pv 0) pa_nil)) (blkOk_by (own := [("_law_k", 5)]) (N := N_l_turned) (sc := defScope s_l_turned) (by decide +kernel)) (fun _ _ _ _ _ => (pg_name (i := 5) sc_l_turned.nd rfl (Or.inl rfl))) (fun _ _ _ _ _ => pts_nil) (fun _ _ _ _ _ => (pe_op op_mod (pe_op op_add (pe_op op_fdiv (pv 3) pe_int) (pe_op op_mul (pv 5) (pe_ix ix_list (pe_lst (pa_cons pe_int (pa_cons (pe_op op_sub (pv 0) pe_int) pa_nil))) (pe_op op_mod (pe_op op_fdiv (pv 3) pe_int) pe_int) (fun _ _ => rfl)))) (pv 0)))))
    (pss_cons (ps_if (PW.pt (pw_and (pt_cmpR op_eq (pv 0) pe_int (nomark _)) (pw_and (pt_cmpR op_eq (pv 1) pe_int (nomark _)) (pw_and1 (pt_cmpR op_gt (pe_op op_mod (pv 3) pe_int) pe_int (nomark _)))))) (pss_one (ps_ret (pe_callTy call_tuple_of (by rfl) T.n_tuple PyProof.Rows.boot_tuple (pa_cons (pe_lc (own := [("_law_k", 5)]) (g := (gName 5)) (tt := tYes) rfl sc_l_turned.nd (pi_range1 (by rfl) T.n_range (pa_cons pe_int pa_nil)) (blkOk_by (own := [("_law_k", 5)]) (N := N_l_turned) (sc := defScope s_l_turned) (by decide +kernel)) (fun _ _ _ _ _ => (pg_name (i := 5) sc_l_turned.nd rfl (Or.inl rfl))) (fun _ _ _ _ _ => pts_nil) (fun _ _ _ _ _ => (pe_ix ix_list (pv 4) (pe_op op_add (pe_op op_mul (pe_op op_fdiv (pv 5) pe_int) pe_int) (pe_op op_mod (pv 5) pe_int)) (fun _ _ => rfl)))) pa_nil)))) pss_nil)
    (pss_cons (ps_if (PW.pt (pw_and (pt_cmpR op_eq (pv 0) pe_int (nomark _)) (pw_and (pt_cmpR op_eq (pv 1) pe_int (nomark _)) (pw_and1 (pt_cmpR op_gt (pe_op op_mod (pv 3) pe_int) pe_int (nomark _)))))) (pss_one (ps_ret (pe_callTy call_tuple_of (by rfl) T.n_tuple PyProof.Rows.boot_tuple (pa_cons (pe_lc (own := [("_law_k", 5)]) (g := (gName 5)) (tt := tYes) rfl sc_l_turned.nd (pi_range1 (by rfl) T.n_range (pa_cons pe_int pa_nil)) (blkOk_by (own := [("_law_k", 5)]) (N := N_l_turned) (sc := defScope s_l_turned) (by decide +kernel)) (fun _ _ _ _ _ => (pg_name (i := 5) sc_l_turned.nd rfl (Or.inl rfl))) (fun _ _ _ _ _ => pts_nil) (fun _ _ _ _ _ => (pe_ix ix_list (pv 4) (pe_callH H_l_beside (hr.mono (by decide)) rfl pass0 (pa_cons (pv 5) (pa_cons (pe_op op_fdiv (pv 3) pe_int) pa_nil))) (fun _ _ => rfl)))) pa_nil)))) pss_nil)
    (pss_cons (ps_if (PW.pt (pw_and (pt_cmpR op_eq (pv 0) pe_int (nomark _)) (pw_and (pt_cmpR op_eq (pv 1) pe_int (nomark _)) (pw_and1 (pt_cmpR op_gt (pe_op op_mod (pv 3) pe_int) pe_int (nomark _)))))) (pss_one (ps_ret (pe_callTy call_tuple_of (by rfl) T.n_tuple PyProof.Rows.boot_tuple (pa_cons (pe_lc (own := [("_law_k", 5)]) (g := (gName 5)) (tt := tYes) rfl sc_l_turned.nd (pi_range1 (by rfl) T.n_range (pa_cons pe_int pa_nil)) (blkOk_by (own := [("_law_k", 5)]) (N := N_l_turned) (sc := defScope s_l_turned) (by decide +kernel)) (fun _ _ _ _ _ => (pg_name (i := 5) sc_l_turned.nd rfl (Or.inl rfl))) (fun _ _ _ _ _ => pts_nil) (fun _ _ _ _ _ => (pe_ix ix_list (pv 4) (pe_callH H_l_between (hr.mono (by decide)) rfl pass0 (pa_cons (pv 5) (pa_cons (pe_op op_fdiv (pv 3) pe_int) pa_nil))) (fun _ _ => rfl)))) pa_nil)))) pss_nil)
    (pss_cons (ps_set (i := 6) sc_l_turned.nd rfl (Or.inr rfl) (pe_ix ix_list (pe_lst (pa_cons pe_int (pa_cons (pv 0) (pa_cons (pe_op op_mul (pv 0) (pv 0)) (pa_cons (pe_op op_mul (pe_op op_mul (pv 0) (pv 0)) (pv 0)) pa_nil))))) (pe_op op_mod (pe_op op_fdiv (pv 3) pe_int) (pv 1)) (fun _ _ => rfl)))
    (pss_one (ps_ret (pe_callTy call_tuple_of (by rfl) T.n_tuple PyProof.Rows.boot_tuple (pa_cons (pe_lc (own := [("_law_k", 5)]) (g := (gName 5)) (tt := tYes) rfl sc_l_turned.nd (pi_range1 (by rfl) T.n_range (pa_cons (pv 2) pa_nil)) (blkOk_by (own := [("_law_k", 5)]) (N := N_l_turned) (sc := defScope s_l_turned) (by decide +kernel)) (fun _ _ _ _ _ => (pg_name (i := 5) sc_l_turned.nd rfl (Or.inl rfl))) (fun _ _ _ _ _ => pts_nil) (fun _ _ _ _ _ => (pe_ix ix_list (pv 4) (pe_op op_mod (pe_op op_fdiv (pv 5) (pv 6)) (pv 0)) (fun _ _ => rfl)))) pa_nil)))))))))
theorem ok_l_turned (D : Std K mg "_law_turned" s_l_turned ["_law_signs", "_law_wide", "_law_rows", "_law_more"]) (T : Txt K mg c) (H_l_beside : Has P w K mg base CX0 1 "_law_beside" ["_law_k", "_law_way"] (sp_l_beside K c)) (H_l_between : Has P w K mg base CX0 1 "_law_between" ["_law_k", "_law_way"] (sp_l_between K c)) : Has P w K mg base CX0 2 "_law_turned" ["_law_signs", "_law_wide", "_law_rows", "_law_more"] (sp_l_turned K c) := D.has fun f fd F => fn_l_turned F T H_l_beside H_l_between

theorem sc_l_rule : FnScope N_l_rule ["_law_cell", "_law_more"] (defScope s_l_rule) := ⟨rfl, rfl, rfl, by decide +kernel, rfl, by decide +kernel, by decide +kernel⟩
theorem fn_l_rule {f : Addr} {fd : FuncData} (F : Fun K "_law_rule" "_law_rule" s_l_rule f fd) (T : Txt K mg c) (H_l_random : Has P w K mg base CX0 2 "_law_random" ["_law_signs", "_law_rows", "_law_more"] (sp_l_random K c)) (H_l_mending : Has P w K mg base CX0 2 "_law_mending" ["_law_signs", "_law_rows", "_law_more"] (sp_l_mending K c)) (H_l_turned : Has P w K mg base CX0 2 "_law_turned" ["_law_signs", "_law_wide", "_law_rows", "_law_more"] (sp_l_turned K c)) : FnOk P w K mg base CX0 3 f fd ["_law_cell", "_law_more"] (sp_l_rule K c) := by
  refine F.ok sc_l_rule (fun vs H Q E h => len_l_rule vs H Q E h) (fun cdv A outer s H vs Q E hr h => ⟨t_l_rule K c E, ?_, pure_l_rule vs H Q E h⟩)
  exact (pss_cons (ps_set (i := 2) sc_l_rule.nd rfl (Or.inl rfl) (pe_lst (pa_cons (pe_tup (pa_cons pe_int (pa_cons pe_int (pa_cons pe_int pa_nil)))) (pa_cons (pe_tup (pa_cons pe_int (pa_cons pe_int (pa_cons pe_int pa_nil)))) (pa_cons (pe_tup (pa_cons pe_int (pa_cons pe_int (pa_cons pe_int pa_nil)))) (pa_cons (pe_tup (pa_cons pe_int (pa_cons pe_int (pa_cons pe_int pa_nil)))) (pa_cons (pe_tup (pa_cons pe_int (pa_cons pe_int (pa_cons pe_int pa_nil)))) (pa_cons (pe_tup (pa_cons pe_int (pa_cons pe_int (pa_cons pe_int pa_nil)))) (pa_cons (pe_tup (pa_cons pe_int (pa_cons pe_int (pa_cons pe_int pa_nil)))) (pa_cons (pe_tup (pa_cons pe_int (pa_cons pe_int (pa_cons pe_int pa_nil)))) pa_nil))))))))))
    (pss_cons (ps_asg (pe_ix ix_list (pv 2) (pe_op op_mod (pv 0) pe_int) (fun _ _ => rfl)) (pg_tup (n := 3) (by rfl) (pgs_cons (pg_name (i := 3) sc_l_rule.nd rfl (Or.inl rfl)) (pgs_cons (pg_name (i := 4) sc_l_rule.nd rfl (Or.inl rfl)) (pgs_cons (pg_name (i := 5) sc_l_rule.nd rfl (Or.inl rfl)) pgs_nil)))))
    (pss_cons (ps_if (pt_cmpR op_eq (pe_op op_mod (pe_op op_fdiv (pv 0) pe_int) pe_int) pe_int (nomark _)) (pss_one (ps_ret (pe_tup (pa_cons (pv 3) (pa_cons (pv 4) (pa_cons (pe_callH H_l_mending (hr.mono (by decide)) rfl pass0 (pa_cons (pv 3) (pa_cons (pv 5) (pa_cons (pv 1) pa_nil)))) pa_nil)))))) pss_nil)
    (pss_cons (ps_if (pt_cmpR op_gt (pe_op op_mod (pe_op op_fdiv (pv 0) pe_int) pe_int) pe_int (nomark _)) (pss_one (ps_ret (pe_tup (pa_cons (pv 3) (pa_cons (pv 4) (pa_cons (pe_callH H_l_turned (hr.mono (by decide)) rfl pass0 (pa_cons (pv 3) (pa_cons (pv 4) (pa_cons (pv 5) (pa_cons (pv 1) pa_nil))))) pa_nil)))))) pss_nil)
    (pss_one (ps_ret (pe_tup (pa_cons (pv 3) (pa_cons (pv 4) (pa_cons (pe_callH H_l_random (hr.mono (by decide)) rfl pass0 (pa_cons (pv 3) (pa_cons (pv 5) (pa_cons (pv 1) pa_nil)))) pa_nil))))))))))
theorem ok_l_rule (D : Std K mg "_law_rule" s_l_rule ["_law_cell", "_law_more"]) (T : Txt K mg c) (H_l_random : Has P w K mg base CX0 2 "_law_random" ["_law_signs", "_law_rows", "_law_more"] (sp_l_random K c)) (H_l_mending : Has P w K mg base CX0 2 "_law_mending" ["_law_signs", "_law_rows", "_law_more"] (sp_l_mending K c)) (H_l_turned : Has P w K mg base CX0 2 "_law_turned" ["_law_signs", "_law_wide", "_law_rows", "_law_more"] (sp_l_turned K c)) : Has P w K mg base CX0 3 "_law_rule" ["_law_cell", "_law_more"] (sp_l_rule K c) := D.has fun f fd F => fn_l_rule F T H_l_random H_l_mending H_l_turned

theorem sc_l_odd : FnScope N_l_odd ["_law_rule_here", "_law_cell"] (defScope s_l_odd) := ⟨rfl, rfl, rfl, by decide +kernel, rfl, by decide +kernel, by decide +kernel⟩
theorem fn_l_odd {f : Addr} {fd : FuncData} (F : Fun K "_law_odd" "_law_odd" s_l_odd f fd) (T : Txt K mg c)  : FnOk P w K mg base CX0 1 f fd ["_law_rule_here", "_law_cell"] (sp_l_odd K c) := by
  refine F.ok sc_l_odd (fun vs H Q E h => len_l_odd vs H Q E h) (fun cdv A outer s H vs Q E hr h => ⟨t_l_odd K c E, ?_, pure_l_odd vs H Q E h⟩)
  exact (pss_cons (ps_asg (pv 0) (pg_tup (n := 3) (by rfl) (pgs_cons (pg_name (i := 2) sc_l_odd.nd rfl (Or.inr rfl)) (pgs_cons (pg_name (i := 3) sc_l_odd.nd rfl (Or.inr rfl)) (pgs_cons (pg_name (i := 4) sc_l_odd.nd rfl (Or.inr rfl)) pgs_nil)))))
    (pss_cons (ps_set (i := 5) sc_l_odd.nd rfl (Or.inr rfl) (pe_op op_mod (pe_op op_fdiv (pv 1) pe_int) (pe_callB call_len_seq (by rfl) T.n_len PySem.boot_len (pa_cons (pv 4) pa_nil))))
    (pss_cons (ps_set (i := 6) sc_l_odd.nd rfl (Or.inl rfl) (pe_op op_mod (pe_op op_fdiv (pe_op op_fdiv (pv 1) pe_int) (pe_callB call_len_seq (by rfl) T.n_len PySem.boot_len (pa_cons (pv 4) pa_nil))) (pe_op op_pow pe_int pe_int)))
    (pss_cons (ps_set (i := 7) sc_l_odd.nd rfl (Or.inl rfl) (pe_lst (pa_cons (pe_tup (pa_cons (pv 2) (pa_cons (pv 3) pa_nil))) (pa_cons (pe_tup (pa_cons (pv 2) (pa_cons (pv 3) (pa_cons (pv 4) (pa_cons pe_int pa_nil))))) (pa_cons (pe_lst (pa_cons (pv 2) (pa_cons (pv 3) (pa_cons (pv 4) pa_nil)))) (pa_cons (pe_tup (pa_cons (pv 2) (pa_cons (pv 3) (pa_cons (pe_callTy call_list_of (by rfl) T.n_list PyProof.Rows.boot_list (pa_cons (pv 4) pa_nil)) pa_nil)))) pa_nil))))))
    (pss_cons (ps_set (i := 7) sc_l_odd.nd rfl (Or.inl rfl) (pe_op op_cat (pv 7) (pe_lst (pa_cons (pe_tup (pa_cons pe_int (pa_cons (pv 3) (pa_cons (pe_op op_repT (pe_tup (pa_cons pe_int pa_nil)) pe_int) pa_nil)))) (pa_cons (pe_tup (pa_cons pe_bl (pa_cons pe_int (pa_cons (pe_tup (pa_cons pe_int pa_nil)) pa_nil)))) (pa_cons (pe_tup (pa_cons (pv 2) (pa_cons pe_bl (pa_cons (pe_slice sl_tupA (pv 4) po_none (po_some (pv 2))) pa_nil)))) (pa_cons (pe_tup (pa_cons (pv 2) (pa_cons pe_int (pa_cons (pe_tup (pa_cons pe_int pa_nil)) pa_nil)))) pa_nil)))))))
    (pss_cons (ps_set (i := 7) sc_l_odd.nd rfl (Or.inl rfl) (pe_op op_cat (pv 7) (pe_lst (pa_cons (pe_tup (pa_cons pe_int (pa_cons pe_int (pa_cons (pe_tup (pa_cons pe_int (pa_cons pe_int (pa_cons pe_int (pa_cons pe_int (pa_cons pe_int pa_nil)))))) pa_nil)))) pa_nil))))
    (pss_cons (ps_set (i := 7) sc_l_odd.nd rfl (Or.inl rfl) (pe_op op_cat (pv 7) (pe_lst (pa_cons (pe_tup (pa_cons pe_int (pa_cons pe_int (pa_cons (pe_op op_repT (pe_tup (pa_cons pe_int (pa_cons pe_int pa_nil))) pe_int) pa_nil)))) (pa_cons (pe_tup (pa_cons pe_int (pa_cons pe_int (pa_cons (pe_op op_repT (pe_tup (pa_cons pe_int (pa_cons pe_int (pa_cons pe_int pa_nil)))) pe_int) pa_nil)))) (pa_cons (pe_tup (pa_cons pe_int (pa_cons pe_int (pa_cons (pe_op op_repT (pe_tup (pa_cons pe_int (pa_cons pe_int (pa_cons pe_int (pa_cons pe_int pa_nil))))) pe_int) pa_nil)))) (pa_cons (pe_tup (pa_cons (pv 2) (pa_cons (pv 3) (pa_cons (pe_slice sl_tupA (pv 4) po_none (po_some (pe_un un_neg pe_int))) pa_nil)))) pa_nil)))))))
    (pss_cons (ps_set (i := 7) sc_l_odd.nd rfl (Or.inl rfl) (pe_op op_cat (pv 7) (pe_lst (pa_cons (pe_tup (pa_cons (pv 2) (pa_cons (pv 3) (pa_cons (pe_op op_catA (pv 4) (pe_tup (pa_cons pe_int pa_nil))) pa_nil)))) (pa_cons (pe_tup (pa_cons (pv 2) (pa_cons (pv 3) (pa_cons (pe_op op_catA (pe_op op_catA (pe_slice sl_tupA (pv 4) po_none (po_some (pv 5))) (pe_tup (pa_cons (pv 2) pa_nil))) (pe_slice sl_tupA (pv 4) (po_some (pe_op op_add (pv 5) pe_int)) po_none)) pa_nil)))) pa_nil)))))
    (pss_cons (ps_set (i := 8) sc_l_odd.nd rfl (Or.inl rfl) (pe_lst (pa_cons (pe_un un_neg pe_int) (pa_cons (pe_op op_add (pv 2) (pv 6)) (pa_cons pe_bl (pa_cons pe_non (pa_cons pe_str (pa_cons (pe_lst (pa_cons pe_int pa_nil)) (pa_cons pe_dnewK pa_nil)))))))))
    (pss_cons (ps_set (i := 7) sc_l_odd.nd rfl (Or.inl rfl) (pe_op op_cat (pv 7) (pe_lc (own := [("_law_one", 9)]) (g := (gName 9)) (tt := tYes) rfl sc_l_odd.nd (pi_list (pv 8)) (blkOk_by (own := [("_law_one", 9)]) (N := N_l_odd) (sc := defScope s_l_odd) (by decide +kernel)) (fun _ _ _ _ _ => (pg_name (i := 9) sc_l_odd.nd rfl (Or.inl rfl))) (fun _ _ _ _ _ => pts_nil) (fun _ _ _ _ _ => (pe_tup (pa_cons (pv 2) (pa_cons (pv 3) (pa_cons (pe_op op_catA (pe_op op_catA (pe_slice sl_tupA (pv 4) po_none (po_some (pv 5))) (pe_tup (pa_cons (pv 9) pa_nil))) (pe_slice sl_tupA (pv 4) (po_some (pe_op op_add (pv 5) pe_int)) po_none)) pa_nil))))))))
    (pss_cons (ps_set (i := 7) sc_l_odd.nd rfl (Or.inl rfl) (pe_op op_cat (pv 7) (pe_lst (pa_cons (pe_tup (pa_cons pe_non (pa_cons (pv 3) (pa_cons (pv 4) pa_nil)))) (pa_cons (pe_tup (pa_cons (pv 2) (pa_cons (pe_lst (pa_cons pe_int pa_nil)) (pa_cons (pv 4) pa_nil)))) pa_nil)))))
    (pss_one (ps_ret (pe_ix ix_list (pv 7) (pe_op op_mod (pv 1) pe_int) (fun _ _ => rfl)))))))))))))))
theorem ok_l_odd (D : Std K mg "_law_odd" s_l_odd ["_law_rule_here", "_law_cell"]) (T : Txt K mg c)  : Has P w K mg base CX0 1 "_law_odd" ["_law_rule_here", "_law_cell"] (sp_l_odd K c) := D.has fun f fd F => fn_l_odd F T 

theorem sc_l_asked : FnScope N_l_asked ["_law_way", "_law_thing"] (defScope s_l_asked) := ⟨rfl, rfl, rfl, by decide +kernel, rfl, by decide +kernel, by decide +kernel⟩
theorem fn_l_asked {f : Addr} {fd : FuncData} (F : Fun K "_law_asked" "_law_asked" s_l_asked f fd) (T : Txt K mg c) (H_l_asked_of_cells : Has P w K mg base (L2.CX P w) 9 "_law_asked_of_cells" ["_law_way", "_law_thing"] (sp_l_asked_of_cells K c)) (H_need_rule : Has P w K mg base (L2.CX P w) 4 "need_rule" ["thing"] (sp_need_rule K c)) (H_missing : Has P w K mg base (L2.CX P w) 5 "missing" ["rule"] (sp_missing K c)) (H_all_ends : Has P w K mg base (L2.CX P w) 5 "all_ends" ["rule"] (sp_all_ends K c)) (H_twins : Has P w K mg base (L2.CX P w) 5 "twins" ["rule"] (sp_twins K c)) (H_rings : Has P w K mg base (L2.CX P w) 5 "rings" ["rule"] (sp_rings K c)) (H_bounds : Has P w K mg base (L2.CX P w) 5 "bounds" ["rule"] (sp_bounds K c)) (H_shown : Has P w K mg base (L2.CX P w) 5 "shown" ["rule"] (sp_shown K c)) (H_joined : Has P w K mg base (L2.CX P w) 5 "joined" ["one", "other"] (sp_joined K c)) : FnOk P w K mg base (L2.CX P w) 10 f fd ["_law_way", "_law_thing"] (sp_l_asked K c) := by
  refine F.okX sc_l_asked (fun vs H Q E h => len_l_asked vs H Q E h) (fun cdv A outer s H vs Q E hr h => ⟨t_l_asked K c E, ?_, pure_l_asked vs H Q E h⟩)
  exact (pss_cons (ps_if (pt_cmpR op_eq (pv 0) pe_int (nomark _)) (pss_one (ps_ret (pe_callH H_need_rule (hr.mono (by decide)) rfl (passes_call (takes_of rfl rfl rfl rfl) (fun _ _ _ _ h => h)) (pa_cons (pv 1) pa_nil)))) pss_nil)
    (pss_cons (ps_if (pt_cmpR op_eq (pv 0) pe_int (nomark _)) (pss_one (ps_ret (pe_callH H_missing (hr.mono (by decide)) rfl (passes_call (takes_of rfl rfl rfl rfl) (fun _ _ _ _ h => h)) (pa_cons (pv 1) pa_nil)))) pss_nil)
    (pss_cons (ps_if (pt_cmpR op_eq (pv 0) pe_int (nomark _)) (pss_one (ps_ret (pe_callH H_all_ends (hr.mono (by decide)) rfl (passes_call (takes_of rfl rfl rfl rfl) (fun _ _ _ _ h => h)) (pa_cons (pv 1) pa_nil)))) pss_nil)
    (pss_cons (ps_if (pt_cmpR op_eq (pv 0) pe_int (nomark _)) (pss_one (ps_ret (pe_callH H_twins (hr.mono (by decide)) rfl (passes_call (takes_of rfl rfl rfl rfl) (fun _ _ _ _ h => h)) (pa_cons (pv 1) pa_nil)))) pss_nil)
    (pss_cons (ps_if (pt_cmpR op_eq (pv 0) pe_int (nomark _)) (pss_one (ps_ret (pe_callH H_rings (hr.mono (by decide)) rfl (passes_call (takes_of rfl rfl rfl rfl) (fun _ _ _ _ h => h)) (pa_cons (pv 1) pa_nil)))) pss_nil)
    (pss_cons (ps_if (pt_cmpR op_eq (pv 0) pe_int (nomark _)) (pss_one (ps_ret (pe_callH H_bounds (hr.mono (by decide)) rfl (passes_call (takes_of rfl rfl rfl rfl) (fun _ _ _ _ h => h)) (pa_cons (pv 1) pa_nil)))) pss_nil)
    (pss_cons (ps_if (pt_cmpR op_eq (pv 0) pe_int (nomark _)) (pss_one (ps_ret (pe_callH H_shown (hr.mono (by decide)) rfl (passes_call (takes_of rfl rfl rfl rfl) (fun _ _ _ _ h => h)) (pa_cons (pv 1) pa_nil)))) pss_nil)
    (pss_cons (ps_if (pt_cmpR op_eq (pv 0) pe_int (nomark _)) (pss_one (ps_ret (pe_callH H_joined (hr.mono (by decide)) rfl (passes_call (takes_of rfl rfl rfl rfl) (fun _ _ _ _ h => h)) (pa_cons (pv 1) (pa_cons (pe_tup (pa_cons pe_int (pa_cons pe_int (pa_cons (pe_tup (pa_cons pe_int (pa_cons pe_int pa_nil))) pa_nil)))) pa_nil))))) pss_nil)
    (pss_cons (ps_if (pt_cmpR op_eq (pv 0) pe_int (nomark _)) (pss_one (ps_ret (pe_callH H_joined (hr.mono (by decide)) rfl (passes_call (takes_of rfl rfl rfl rfl) (fun _ _ _ _ h => h)) (pa_cons (pe_tup (pa_cons pe_int (pa_cons pe_int (pa_cons (pe_tup (pa_cons pe_int (pa_cons pe_int pa_nil))) pa_nil)))) (pa_cons (pv 1) pa_nil))))) pss_nil)
    (pss_one (ps_ret (pe_callH H_l_asked_of_cells (hr.mono (by decide)) rfl (passes_call (takes_of rfl rfl rfl rfl) (fun _ _ _ _ h => h)) (pa_cons (pv 0) (pa_cons (pv 1) pa_nil))))))))))))))
theorem ok_l_asked (D : Std K mg "_law_asked" s_l_asked ["_law_way", "_law_thing"]) (T : Txt K mg c) (H_l_asked_of_cells : Has P w K mg base (L2.CX P w) 9 "_law_asked_of_cells" ["_law_way", "_law_thing"] (sp_l_asked_of_cells K c)) (H_need_rule : Has P w K mg base (L2.CX P w) 4 "need_rule" ["thing"] (sp_need_rule K c)) (H_missing : Has P w K mg base (L2.CX P w) 5 "missing" ["rule"] (sp_missing K c)) (H_all_ends : Has P w K mg base (L2.CX P w) 5 "all_ends" ["rule"] (sp_all_ends K c)) (H_twins : Has P w K mg base (L2.CX P w) 5 "twins" ["rule"] (sp_twins K c)) (H_rings : Has P w K mg base (L2.CX P w) 5 "rings" ["rule"] (sp_rings K c)) (H_bounds : Has P w K mg base (L2.CX P w) 5 "bounds" ["rule"] (sp_bounds K c)) (H_shown : Has P w K mg base (L2.CX P w) 5 "shown" ["rule"] (sp_shown K c)) (H_joined : Has P w K mg base (L2.CX P w) 5 "joined" ["one", "other"] (sp_joined K c)) : Has P w K mg base (L2.CX P w) 10 "_law_asked" ["_law_way", "_law_thing"] (sp_l_asked K c) := D.has fun f fd F => fn_l_asked F T H_l_asked_of_cells H_need_rule H_missing H_all_ends H_twins H_rings H_bounds H_shown H_joined

theorem sc_l_asked_of_cells : FnScope N_l_asked_of_cells ["_law_way", "_law_thing"] (defScope s_l_asked_of_cells) := ⟨rfl, rfl, rfl, by decide +kernel, rfl, by decide +kernel, by decide +kernel⟩
theorem fn_l_asked_of_cells {f : Addr} {fd : FuncData} (F : Fun K "_law_asked_of_cells" "_law_asked_of_cells" s_l_asked_of_cells f fd) (T : Txt K mg c) (H_piece_back : Has P w K mg base (L2.CX P w) 7 "piece_back" ["rule", "piece"] (sp_piece_back K c)) (H_is_piece : Has P w K mg base (L2.CX P w) 5 "is_piece" ["rule", "thing"] (sp_is_piece K c)) (H_piece_on : Has P w K mg base (L2.CX P w) 7 "piece_on" ["rule", "piece"] (sp_piece_on K c)) (H_ring_on : Has P w K mg base (L2.CX P w) 8 "ring_on" ["rule", "ring"] (sp_ring_on K c)) (H_count_of : Has P w K mg base (L2.CX P w) 7 "count_of" ["rule", "piece"] (sp_count_of K c)) (H_origin_of : Has P w K mg base (L2.CX P w) 7 "origin_of" ["rule", "piece"] (sp_origin_of K c)) (H_ends_of : Has P w K mg base (L2.CX P w) 7 "ends_of" ["rule", "piece"] (sp_ends_of K c)) (H_ring_back : Has P w K mg base (L2.CX P w) 8 "ring_back" ["rule", "ring"] (sp_ring_back K c)) : FnOk P w K mg base (L2.CX P w) 9 f fd ["_law_way", "_law_thing"] (sp_l_asked_of_cells K c) := by
  refine F.okX sc_l_asked_of_cells (fun vs H Q E h => len_l_asked_of_cells vs H Q E h) (fun cdv A outer s H vs Q E hr h => ⟨t_l_asked_of_cells K c E, ?_, pure_l_asked_of_cells vs H Q E h⟩)
  exact (pss_cons (ps_if (pt_cmpR op_eq (pv 0) pe_int (nomark _)) (pss_one (ps_ret (pe_callH H_is_piece (hr.mono (by decide)) rfl (passes_call (takes_of rfl rfl rfl rfl) (fun _ _ _ _ h => h)) (pa_cons (pv 1) (pa_cons (pe_lst (pa_cons pe_int (pa_cons pe_non pa_nil))) pa_nil))))) pss_nil)
    (pss_cons (ps_if (pt_cmpR op_eq (pv 0) pe_int (nomark _)) (pss_one (ps_ret (pe_callH H_piece_on (hr.mono (by decide)) rfl (passes_call (takes_of rfl rfl rfl rfl) (fun _ _ _ _ h => h)) (pa_cons (pv 1) (pa_cons (pe_lst (pa_cons pe_int (pa_cons pe_non pa_nil))) pa_nil))))) pss_nil)
    (pss_cons (ps_if (pt_cmpR op_eq (pv 0) pe_int (nomark _)) (pss_one (ps_ret (pe_callH H_ring_on (hr.mono (by decide)) rfl (passes_call (takes_of rfl rfl rfl rfl) (fun _ _ _ _ h => h)) (pa_cons (pv 1) (pa_cons (pe_lst pa_nil) pa_nil))))) pss_nil)
    (pss_cons (ps_if (pt_cmpR op_eq (pv 0) pe_int (nomark _)) (pss_one (ps_ret (pe_callH H_count_of (hr.mono (by decide)) rfl (passes_call (takes_of rfl rfl rfl rfl) (fun _ _ _ _ h => h)) (pa_cons (pv 1) (pa_cons (pe_lst (pa_cons pe_int (pa_cons pe_non pa_nil))) pa_nil))))) pss_nil)
    (pss_cons (ps_if (pt_cmpR op_eq (pv 0) pe_int (nomark _)) (pss_one (ps_ret (pe_callH H_origin_of (hr.mono (by decide)) rfl (passes_call (takes_of rfl rfl rfl rfl) (fun _ _ _ _ h => h)) (pa_cons (pv 1) (pa_cons pe_non pa_nil))))) pss_nil)
    (pss_cons (ps_if (pt_cmpR op_eq (pv 0) pe_int (nomark _)) (pss_one (ps_ret (pe_callH H_ends_of (hr.mono (by decide)) rfl (passes_call (takes_of rfl rfl rfl rfl) (fun _ _ _ _ h => h)) (pa_cons (pv 1) (pa_cons (pe_lst (pa_cons pe_int (pa_cons pe_non pa_nil))) pa_nil))))) pss_nil)
    (pss_cons (ps_if (pt_cmpR op_eq (pv 0) pe_int (nomark _)) (pss_one (ps_ret (pe_callH H_ring_back (hr.mono (by decide)) rfl (passes_call (takes_of rfl rfl rfl rfl) (fun _ _ _ _ h => h)) (pa_cons (pv 1) (pa_cons pe_str pa_nil))))) pss_nil)
    (pss_one (ps_ret (pe_callH H_piece_back (hr.mono (by decide)) rfl (passes_call (takes_of rfl rfl rfl rfl) (fun _ _ _ _ h => h)) (pa_cons (pv 1) (pa_cons (pe_lst (pa_cons pe_int (pa_cons pe_non pa_nil))) pa_nil))))))))))))
theorem ok_l_asked_of_cells (D : Std K mg "_law_asked_of_cells" s_l_asked_of_cells ["_law_way", "_law_thing"]) (T : Txt K mg c) (H_piece_back : Has P w K mg base (L2.CX P w) 7 "piece_back" ["rule", "piece"] (sp_piece_back K c)) (H_is_piece : Has P w K mg base (L2.CX P w) 5 "is_piece" ["rule", "thing"] (sp_is_piece K c)) (H_piece_on : Has P w K mg base (L2.CX P w) 7 "piece_on" ["rule", "piece"] (sp_piece_on K c)) (H_ring_on : Has P w K mg base (L2.CX P w) 8 "ring_on" ["rule", "ring"] (sp_ring_on K c)) (H_count_of : Has P w K mg base (L2.CX P w) 7 "count_of" ["rule", "piece"] (sp_count_of K c)) (H_origin_of : Has P w K mg base (L2.CX P w) 7 "origin_of" ["rule", "piece"] (sp_origin_of K c)) (H_ends_of : Has P w K mg base (L2.CX P w) 7 "ends_of" ["rule", "piece"] (sp_ends_of K c)) (H_ring_back : Has P w K mg base (L2.CX P w) 8 "ring_back" ["rule", "ring"] (sp_ring_back K c)) : Has P w K mg base (L2.CX P w) 9 "_law_asked_of_cells" ["_law_way", "_law_thing"] (sp_l_asked_of_cells K c) := D.has fun f fd F => fn_l_asked_of_cells F T H_piece_back H_is_piece H_piece_on H_ring_on H_count_of H_origin_of H_ends_of H_ring_back

theorem sc_l_refused : FnScope N_l_refused ["_law_way", "_law_thing"] (defScope s_l_refused) := ⟨rfl, rfl, rfl, by decide +kernel, rfl, by decide +kernel, by decide +kernel⟩
theorem fn_l_refused {f : Addr} {fd : FuncData} (F : Fun K "_law_refused" "_law_refused" s_l_refused f fd) (T : Txt K mg c) (H_l_asked : Has P w K mg base (L2.CX P w) 10 "_law_asked" ["_law_way", "_law_thing"] (sp_l_asked K c)) : FnOk P w K mg base CX0 11 f fd ["_law_way", "_law_thing"] (sp_l_refused K c) := by
  refine F.ok sc_l_refused (fun vs H Q E h => len_l_refused vs H Q E h) (fun cdv A outer s H vs Q E hr h => ⟨t_l_refused K c E, ?_, pure_l_refused T.kf vs H Q E h⟩)
  exact (pss_cons (ps_try_asW (i := 2) (cd := c.BadRule) rfl rfl sc_l_refused.nd rfl rfl ⟨rfl, by decide, Or.inl T.c_RowError⟩ takes0 (fun W pn xe tk _ => (pss_one (ps_expr (pe_callSH H_l_asked (hr.mono (by decide)) rfl (fun σ => passAt tk σ) (by exact (pa_cons (pv 0) (pa_cons (pv 1) pa_nil))))))) (fun a oe pn hz hf => (pss_cons (ps_set (i := 3) sc_l_refused.nd rfl (Or.inl rfl) (pe_or (pe_callB (call_isE T.ec_BadRule hz hf) (by rfl) T.n_isinstance PyProof.Rows.boot_isinstance (pa_cons (pv 2) (pa_cons (pe_glob rfl T.c_BadRow rfl) pa_nil))) (pe_or (pe_callB (call_isE T.ec_BadRule hz hf) (by rfl) T.n_isinstance PyProof.Rows.boot_isinstance (pa_cons (pv 2) (pa_cons (pe_glob rfl T.c_TooWide rfl) pa_nil))) (pe_one (pe_callB (call_isE T.ec_BadRule hz hf) (by rfl) T.n_isinstance PyProof.Rows.boot_isinstance (pa_cons (pv 2) (pa_cons (pe_glob rfl T.c_NoBack rfl) pa_nil)))))))
    (pss_cons (ps_set (i := 3) sc_l_refused.nd rfl (Or.inl rfl) (pe_or (pv 3) (pe_one (pe_callB (call_isE T.ec_BadRule hz hf) (by rfl) T.n_isinstance PyProof.Rows.boot_isinstance (pa_cons (pv 2) (pa_cons (pe_glob rfl T.c_BadText rfl) pa_nil))))))
    (pss_one (ps_ret (pe_and (pe_callB (call_isE T.ec_BadRule hz hf) (by rfl) T.n_isinstance PyProof.Rows.boot_isinstance (pa_cons (pv 2) (pa_cons (pe_glob rfl T.c_BadRule rfl) pa_nil))) (pe_and (pe_callB (call_isE T.ec_BadRule hz hf) (by rfl) T.n_isinstance PyProof.Rows.boot_isinstance (pa_cons (pv 2) (pa_cons (pe_bltn (v := .ty "ValueError") rfl T.n_ValueError (by decide +kernel) rfl) pa_nil))) (pe_one (pe_not (pv 3)))))))))))
    (pss_one (ps_ret pe_bl)))
theorem ok_l_refused (D : Std K mg "_law_refused" s_l_refused ["_law_way", "_law_thing"]) (T : Txt K mg c) (H_l_asked : Has P w K mg base (L2.CX P w) 10 "_law_asked" ["_law_way", "_law_thing"] (sp_l_asked K c)) : Has P w K mg base CX0 11 "_law_refused" ["_law_way", "_law_thing"] (sp_l_refused K c) := D.has fun f fd F => fn_l_refused F T H_l_asked

theorem sc_l_numbers : FnScope N_l_numbers ["_law_signs", "_law_wide", "_law_number"] (defScope s_l_numbers) := ⟨rfl, rfl, rfl, by decide +kernel, rfl, by decide +kernel, by decide +kernel⟩
theorem fn_l_numbers {f : Addr} {fd : FuncData} (F : Fun K "_law_numbers" "_law_numbers" s_l_numbers f fd) (T : Txt K mg c) (H_cells_of : Has P w K mg base CX0 1 "cells_of" ["signs", "wide", "number"] (sp_cells_of K c)) (H_rows_of : Has P w K mg base CX0 1 "rows_of" ["signs", "wide"] (sp_rows_of K c)) (H_number_of : Has P w K mg base CX0 1 "number_of" ["signs", "cells"] (sp_number_of K c)) : FnOk P w K mg base CX0 2 f fd ["_law_signs", "_law_wide", "_law_number"] (sp_l_numbers K c) := by
  refine F.ok sc_l_numbers (fun vs H Q E h => len_l_numbers vs H Q E h) (fun cdv A outer s H vs Q E hr h => ⟨t_l_numbers K c E, ?_, pure_l_numbers vs H Q E h⟩)
  exact (pss_cons (ps_set (i := 3) sc_l_numbers.nd rfl (Or.inl rfl) pe_int)
    (pss_cons (ps_for PassesOwn.never rfl (pi_range1 (by rfl) T.n_range (pa_cons (pv 1) pa_nil)) (pg_name (i := 4) sc_l_numbers.nd rfl (Or.inl rfl)) (pss_one (ps_set (i := 3) sc_l_numbers.nd rfl (Or.inl rfl) (pe_op op_mul (pv 3) (pv 0)))))
    (pss_cons (ps_set (i := 5) sc_l_numbers.nd rfl (Or.inl rfl) (pe_lst pa_nil))
    (pss_cons (ps_set (i := 6) sc_l_numbers.nd rfl (Or.inl rfl) (pe_op op_mod (pv 2) (pv 3)))
    (pss_cons (ps_for PassesOwn.never rfl (pi_range1 (by rfl) T.n_range (pa_cons (pv 1) pa_nil)) (pg_name (i := 4) sc_l_numbers.nd rfl (Or.inl rfl)) (pss_cons (ps_expr (pe_bm PySem.F.plainAttrs_list PySem.F.slot_list_insert PySem.F.type_list_insert mt_insert (pv 5) (pa_cons pe_int (pa_cons (pe_op op_mod (pv 6) (pv 0)) pa_nil))))
    (pss_one (ps_set (i := 6) sc_l_numbers.nd rfl (Or.inl rfl) (pe_op op_fdiv (pv 6) (pv 0))))))
    (pss_cons (ps_set (i := 7) sc_l_numbers.nd rfl (Or.inl rfl) (pe_callH H_cells_of (hr.mono (by decide)) rfl pass0 (pa_cons (pv 0) (pa_cons (pv 1) (pa_cons (pe_op op_mod (pv 2) (pv 3)) pa_nil)))))
    (pss_cons (ps_if (PW.pt (pw_or (pt_not (pt_val (pe_callB call_isi (by rfl) T.n_isinstance PyProof.Rows.boot_isinstance (pa_cons (pv 7) (pa_cons (pe_bltn (v := .ty "list") rfl T.n_list PyProof.Rows.boot_list rfl) pa_nil))))) (pw_or (pt_cmpR (op_neD hr.units) (pv 7) (pv 5) (nomark _)) (pw_or1 (pt_cmpR op_ne (pe_callH H_rows_of (hr.mono (by decide)) rfl pass0 (pa_cons (pv 0) (pa_cons (pv 1) pa_nil))) (pv 3) (nomark _)))))) (pss_one (ps_ret pe_bl)) pss_nil)
    (pss_one (ps_ret (pe_and (pe_cmpR op_eq (pe_callH H_number_of (hr.mono (by decide)) rfl pass0 (pa_cons (pv 0) (pa_cons (pe_callTy call_tuple_of (by rfl) T.n_tuple PyProof.Rows.boot_tuple (pa_cons (pv 5) pa_nil)) pa_nil))) (pe_op op_mod (pv 2) (pv 3)) (nomark _)) (pe_one (pe_cmpR op_eq (pe_callH H_number_of (hr.mono (by decide)) rfl pass0 (pa_cons (pv 0) (pa_cons (pv 5) pa_nil))) (pe_op op_mod (pv 2) (pv 3)) (nomark _)))))))))))))
theorem ok_l_numbers (D : Std K mg "_law_numbers" s_l_numbers ["_law_signs", "_law_wide", "_law_number"]) (T : Txt K mg c) (H_cells_of : Has P w K mg base CX0 1 "cells_of" ["signs", "wide", "number"] (sp_cells_of K c)) (H_rows_of : Has P w K mg base CX0 1 "rows_of" ["signs", "wide"] (sp_rows_of K c)) (H_number_of : Has P w K mg base CX0 1 "number_of" ["signs", "cells"] (sp_number_of K c)) : Has P w K mg base CX0 2 "_law_numbers" ["_law_signs", "_law_wide", "_law_number"] (sp_l_numbers K c) := D.has fun f fd F => fn_l_numbers F T H_cells_of H_rows_of H_number_of

theorem sc_law : FnScope N_law ["_law_script"] (defScope s_law) := ⟨rfl, rfl, rfl, by decide +kernel, rfl, by decide +kernel, by decide +kernel⟩
theorem fn_law {f : Addr} {fd : FuncData} (F : Fun K "law" "law" s_law f fd) (T : Txt K mg c) (H_l_rule : Has P w K mg base CX0 3 "_law_rule" ["_law_cell", "_law_more"] (sp_l_rule K c)) (H_l_cell_at : Has P w K mg base CX0 1 "_law_cell_at" ["_law_script", "_law_k"] (sp_l_cell_at K c)) (H_l_odd : Has P w K mg base CX0 1 "_law_odd" ["_law_rule_here", "_law_cell"] (sp_l_odd K c)) (H_l_refused : Has P w K mg base CX0 11 "_law_refused" ["_law_way", "_law_thing"] (sp_l_refused K c)) (H_l_numbers : Has P w K mg base CX0 2 "_law_numbers" ["_law_signs", "_law_wide", "_law_number"] (sp_l_numbers K c)) (H_l_mixed : Has P w K mg base CX0 1 "_law_mixed" ["_law_cell", "_law_k"] (sp_l_mixed K c)) (H_is_rule : Has P w K mg base CX0 3 "is_rule" ["thing"] (sp_is_rule K c)) (H_need_rule : Has P w K mg base (L2.CX P w) 4 "need_rule" ["thing"] (sp_need_rule K c)) : FnOk P w K mg base CX0 12 f fd ["_law_script"] (sp_law K c) := by
  refine F.ok sc_law (fun vs H Q E h => len_law vs H Q E h) (fun cdv A outer s H vs Q E hr h => ⟨t_law K c E, ?_, pure_law vs H Q E h⟩)
  exact (pss_cons (ps_set (i := 1) sc_law.nd rfl (Or.inl rfl) (pe_callH H_l_rule (hr.mono (by decide)) rfl pass0 (pa_cons (pe_callH H_l_cell_at (hr.mono (by decide)) rfl pass0 (pa_cons (pv 0) (pa_cons pe_int pa_nil))) (pa_cons (pe_callH H_l_cell_at (hr.mono (by decide)) rfl pass0 (pa_cons (pv 0) (pa_cons pe_int pa_nil))) pa_nil))))
    (pss_cons (ps_if (PW.pt (pw_or (pt_cmpR op_notBl (pe_callH H_is_rule (hr.mono (by decide)) rfl pass0 (pa_cons (pv 1) pa_nil)) pe_bl (nomark _)) (pw_or1 (pt_cmpR op_notN (pe_callH H_need_rule (hr.mono (by decide)) rfl passL (pa_cons (pv 1) pa_nil)) pe_non (nomark _))))) (pss_one (ps_ret pe_bl)) pss_nil)
    (pss_cons (ps_if (pt_not (pt_val (pe_callH H_l_numbers (hr.mono (by decide)) rfl pass0 (pa_cons (pe_op op_add pe_int (pe_op op_mod (pe_callH H_l_cell_at (hr.mono (by decide)) rfl pass0 (pa_cons (pv 0) (pa_cons pe_int pa_nil))) pe_int)) (pa_cons (pe_op op_mod (pe_op op_fdiv (pe_callH H_l_cell_at (hr.mono (by decide)) rfl pass0 (pa_cons (pv 0) (pa_cons pe_int pa_nil))) pe_int) pe_int) (pa_cons (pe_callH H_l_cell_at (hr.mono (by decide)) rfl pass0 (pa_cons (pv 0) (pa_cons pe_int pa_nil))) pa_nil)))))) (pss_one (ps_ret pe_bl)) pss_nil)
    (pss_cons (ps_if (pt_cmpR (op_neD hr.units) (pe_lst (pa_cons (pe_glob rfl T.k_MOST_SIGNS.choose_spec ⟨_, rfl⟩) (pa_cons (pe_glob rfl T.k_MOST_WIDE.choose_spec ⟨_, rfl⟩) (pa_cons (pe_glob rfl T.k_MOST_ROWS.choose_spec ⟨_, rfl⟩) pa_nil)))) (pe_lst (pa_cons pe_int (pa_cons pe_int (pa_cons pe_int pa_nil)))) (nomark _)) (pss_one (ps_ret pe_bl)) pss_nil)
    (pss_cons (ps_set (i := 2) sc_law.nd rfl (Or.inl rfl) (pe_callH H_l_cell_at (hr.mono (by decide)) rfl pass0 (pa_cons (pv 0) (pa_cons pe_int pa_nil))))
    (pss_cons (ps_if (pt_cmpR op_eq (pe_op op_mod (pv 2) pe_int) pe_int (nomark _)) (pss_one (ps_ret pe_bl)) pss_nil)
    (pss_cons (ps_set (i := 3) sc_law.nd rfl (Or.inl rfl) (pe_callH H_l_odd (hr.mono (by decide)) rfl pass0 (pa_cons (pv 1) (pa_cons (pe_callH H_l_mixed (hr.mono (by decide)) rfl pass0 (pa_cons (pv 2) (pa_cons pe_int pa_nil))) pa_nil))))
    (pss_cut (ps_if (PW.pt (pw_and (pt_cmpR op_eq (pe_op op_mod (pv 2) pe_int) pe_int (nomark _)) (pw_and1 (pt_cmpR op_eq (pe_op op_mod (pe_op op_fdiv (pv 2) pe_int) pe_int) pe_int (nomark _))))) (pss_one (ps_set (i := 3) sc_law.nd rfl (Or.inl rfl) (pe_ix ix_list (pe_lst (pa_cons pe_non (pa_cons pe_int (pa_cons pe_str (pa_cons (pe_lst pa_nil) (pa_cons pe_dnewK (pa_cons (pe_tup pa_nil) (pa_cons pe_bl (pa_cons (pe_ix ix_tup (pv 1) pe_int (fun _ _ => rfl)) pa_nil))))))))) (pe_op op_mod (pe_op op_fdiv (pv 2) pe_int) pe_int) (fun _ _ => rfl)))) pss_nil)
    (pss_cons (ps_if (PW.pt (pw_or (pt_cmpR op_notBl (pe_callH H_is_rule (hr.mono (by decide)) rfl pass0 (pa_cons (pv 3) pa_nil)) pe_bl (nomark _)) (pw_or1 (pt_not (pt_val (pe_callH H_l_refused (hr.mono (by decide)) rfl pass0 (pa_cons pe_int (pa_cons (pv 3) pa_nil)))))))) (pss_one (ps_ret pe_bl)) pss_nil)
    (pss_one (ps_ret (pe_callH H_l_refused (hr.mono (by decide)) rfl pass0 (pa_cons (pe_op op_add pe_int (pe_op op_mod (pe_callH H_l_mixed (hr.mono (by decide)) rfl pass0 (pa_cons (pv 2) (pa_cons pe_int pa_nil))) pe_int)) (pa_cons (pv 3) pa_nil))))))))))))))
theorem ok_law (D : Std K mg "law" s_law ["_law_script"]) (T : Txt K mg c) (H_l_rule : Has P w K mg base CX0 3 "_law_rule" ["_law_cell", "_law_more"] (sp_l_rule K c)) (H_l_cell_at : Has P w K mg base CX0 1 "_law_cell_at" ["_law_script", "_law_k"] (sp_l_cell_at K c)) (H_l_odd : Has P w K mg base CX0 1 "_law_odd" ["_law_rule_here", "_law_cell"] (sp_l_odd K c)) (H_l_refused : Has P w K mg base CX0 11 "_law_refused" ["_law_way", "_law_thing"] (sp_l_refused K c)) (H_l_numbers : Has P w K mg base CX0 2 "_law_numbers" ["_law_signs", "_law_wide", "_law_number"] (sp_l_numbers K c)) (H_l_mixed : Has P w K mg base CX0 1 "_law_mixed" ["_law_cell", "_law_k"] (sp_l_mixed K c)) (H_is_rule : Has P w K mg base CX0 3 "is_rule" ["thing"] (sp_is_rule K c)) (H_need_rule : Has P w K mg base (L2.CX P w) 4 "need_rule" ["thing"] (sp_need_rule K c)) : Has P w K mg base CX0 12 "law" ["_law_script"] (sp_law K c) := D.has fun f fd F => fn_law F T H_l_rule H_l_cell_at H_l_odd H_l_refused H_l_numbers H_l_mixed H_is_rule H_need_rule
end
end Br1

namespace Br1
open PySem PySem.Spec PyProof.Rows L2 Evl Br
theorem law_end {P : Program} {w : World} {K : PySem.W.Frag} {h : Heap} {mg : Str → Option Value} {fa f1 CRowError CBadRule CBadRow CTooWide CNoBack CBadText : Addr} {oc : Value} {od : Option Addr} {kV doc pm : Value} {an : Option Addr} {cdv ct : Value} {osl : Array (Option Value)} {tk_MOST_SIGNS tk_MOST_WIDE tk_MOST_ROWS tk_FIGURES : Tok} (X : K.In h) (G : h.Ns mainGlobals mg) (hfa : mg "law" = some (.ref fa))
    (la : PySem.W.nsIn K mainGlobals "law" = some (some (.ref f1))) (ll : K.lookup f1 = some ⟨oc, od, .func (PySem.W.fnOf "law" "law" (defArgs s_law) (defBody s_law) (defScope s_law) .none kV doc pm an cdv ct), osl⟩) (lc : PySem.W.codeIn K cdv "law" = true) (lk : PySem.W.keepIn K (.ref f1) = true)
    (e_RowError : ErrK K "RowError" CRowError)
    (e_BadRule : ErrK K "BadRule" CBadRule)
    (e_BadRow : ErrK K "BadRow" CBadRow)
    (e_TooWide : ErrK K "TooWide" CTooWide)
    (e_NoBack : ErrK K "NoBack" CNoBack)
    (e_BadText : ErrK K "BadText" CBadText)
    (x_BadRule : ExcC K CBadRule)
    (m_BadRule : PySem.W.subIn K (.ref CBadRule) (.ref CRowError) = some true)
    (v_BadRule : PySem.W.subIn K (.ref CBadRule) (.type "ValueError") = some true)
    (n_BadRule_BadRow : PySem.W.subIn K (.ref CBadRule) (.ref CBadRow) = some false)
    (q_BadRule_BadRow : (Value.ref CBadRule == Value.ref CBadRow) = false)
    (n_BadRule_TooWide : PySem.W.subIn K (.ref CBadRule) (.ref CTooWide) = some false)
    (q_BadRule_TooWide : (Value.ref CBadRule == Value.ref CTooWide) = false)
    (n_BadRule_NoBack : PySem.W.subIn K (.ref CBadRule) (.ref CNoBack) = some false)
    (q_BadRule_NoBack : (Value.ref CBadRule == Value.ref CNoBack) = false)
    (n_BadRule_BadText : PySem.W.subIn K (.ref CBadRule) (.ref CBadText) = some false)
    (q_BadRule_BadText : (Value.ref CBadRule == Value.ref CBadText) = false)
    (z_ValueError : PySem.W.nsIn K mainGlobals "ValueError" = some none)
    (z_all : PySem.W.nsIn K mainGlobals "all" = some none)
    (z_divmod : PySem.W.nsIn K mainGlobals "divmod" = some none)
    (z_enumerate : PySem.W.nsIn K mainGlobals "enumerate" = some none)
    (z_int : PySem.W.nsIn K mainGlobals "int" = some none)
    (z_isinstance : PySem.W.nsIn K mainGlobals "isinstance" = some none)
    (z_len : PySem.W.nsIn K mainGlobals "len" = some none)
    (z_list : PySem.W.nsIn K mainGlobals "list" = some none)
    (z_range : PySem.W.nsIn K mainGlobals "range" = some none)
    (z_reversed : PySem.W.nsIn K mainGlobals "reversed" = some none)
    (z_tuple : PySem.W.nsIn K mainGlobals "tuple" = some none)
    (z_type : PySem.W.nsIn K mainGlobals "type" = some none)
    (y_MOST_SIGNS : PySem.W.nsIn K mainGlobals "MOST_SIGNS" = some (some (.int 4 tk_MOST_SIGNS)))
    (y_MOST_WIDE : PySem.W.nsIn K mainGlobals "MOST_WIDE" = some (some (.int 4 tk_MOST_WIDE)))
    (y_MOST_ROWS : PySem.W.nsIn K mainGlobals "MOST_ROWS" = some (some (.int 16 tk_MOST_ROWS)))
    (y_FIGURES : PySem.W.nsIn K mainGlobals "FIGURES" = some (some (.str "0123456789" tk_FIGURES)))
    (d_rows_of : StdK K "rows_of" s_rows_of)
    (d_number_of : StdK K "number_of" s_number_of)
    (d_cells_of : StdK K "cells_of" s_cells_of)
    (d_is_from_to : StdK K "_is_from_to" s_is_from_to)
    (d_l_cell_at : StdK K "_law_cell_at" s_l_cell_at)
    (d_l_mixed : StdK K "_law_mixed" s_l_mixed)
    (d_l_between : StdK K "_law_between" s_l_between)
    (d_l_beside : StdK K "_law_beside" s_l_beside)
    (d_l_odd : StdK K "_law_odd" s_l_odd)
    (d_has_room : StdK K "has_room" s_has_room)
    (d_are_signs : StdK K "are_signs" s_are_signs)
    (d_l_random : StdK K "_law_random" s_l_random)
    (d_l_mending : StdK K "_law_mending" s_l_mending)
    (d_l_turned : StdK K "_law_turned" s_l_turned)
    (d_l_numbers : StdK K "_law_numbers" s_l_numbers)
    (d_is_rule : StdK K "is_rule" s_is_rule)
    (d_l_rule : StdK K "_law_rule" s_l_rule)
    (d_need_rule : StdK K "need_rule" s_need_rule)
    (d_is_piece : StdK K "is_piece" s_is_piece)
    (d_joined : StdK K "joined" s_joined)
    (d_twins : StdK K "twins" s_twins)
    (d_rings : StdK K "rings" s_rings)
    (d_bounds : StdK K "bounds" s_bounds)
    (d_missing : StdK K "missing" s_missing)
    (d_all_ends : StdK K "all_ends" s_all_ends)
    (d_shown : StdK K "shown" s_shown)
    (d_need_piece : StdK K "need_piece" s_need_piece)
    (d_need_ring : StdK K "need_ring" s_need_ring)
    (d_piece_on : StdK K "piece_on" s_piece_on)
    (d_count_of : StdK K "count_of" s_count_of)
    (d_origin_of : StdK K "origin_of" s_origin_of)
    (d_piece_back : StdK K "piece_back" s_piece_back)
    (d_ends_of : StdK K "ends_of" s_ends_of)
    (d_ring_on : StdK K "ring_on" s_ring_on)
    (d_ring_back : StdK K "ring_back" s_ring_back)
    (d_l_asked_of_cells : StdK K "_law_asked_of_cells" s_l_asked_of_cells)
    (d_l_asked : StdK K "_law_asked" s_l_asked)
    (d_l_refused : StdK K "_law_refused" s_l_refused) :
    ∃ fd : FuncData, (∀ (s : Shared) (u : Value), BindsTo s fd ⟨[u], []⟩ [("_law_script", u)]) ∧ ∀ base : Heap, K.In base → base.Ns mainGlobals mg → FnOk P w K mg base CX0 12 fa fd ["_law_script"] (sp_law K ⟨0, 0, 0, 0, 0, 0⟩) := by
  have e := hfa.symm.trans (PySem.W.mg_of X G la)
  cases e
  have T : Txt K mg ⟨CRowError, CBadRule, CBadRow, CTooWide, CNoBack, CBadText⟩ := { n_ValueError := PySem.W.mg_none_of X G z_ValueError, n_all := PySem.W.mg_none_of X G z_all, n_divmod := PySem.W.mg_none_of X G z_divmod, n_enumerate := PySem.W.mg_none_of X G z_enumerate, n_int := PySem.W.mg_none_of X G z_int, n_isinstance := PySem.W.mg_none_of X G z_isinstance, n_len := PySem.W.mg_none_of X G z_len, n_list := PySem.W.mg_none_of X G z_list, n_range := PySem.W.mg_none_of X G z_range, n_reversed := PySem.W.mg_none_of X G z_reversed, n_tuple := PySem.W.mg_none_of X G z_tuple, n_type := PySem.W.mg_none_of X G z_type, k_MOST_SIGNS := ⟨_, PySem.W.mg_of X G y_MOST_SIGNS⟩, k_MOST_WIDE := ⟨_, PySem.W.mg_of X G y_MOST_WIDE⟩, k_MOST_ROWS := ⟨_, PySem.W.mg_of X G y_MOST_ROWS⟩, k_FIGURES := ⟨_, PySem.W.mg_of X G y_FIGURES⟩, c_RowError := PySem.W.mg_of X G e_RowError.n, e_RowError := e_RowError.err, c_BadRule := PySem.W.mg_of X G e_BadRule.n, e_BadRule := e_BadRule.err, c_BadRow := PySem.W.mg_of X G e_BadRow.n, e_BadRow := e_BadRow.err, c_TooWide := PySem.W.mg_of X G e_TooWide.n, e_TooWide := e_TooWide.err, c_NoBack := PySem.W.mg_of X G e_NoBack.n, e_NoBack := e_NoBack.err, c_BadText := PySem.W.mg_of X G e_BadText.n, e_BadText := e_BadText.err, ec_BadRule := x_BadRule, kf := ⟨⟨e_RowError.exm m_BadRule, kit_val v_BadRule⟩, e_BadRow.kit n_BadRule_BadRow q_BadRule_BadRow, e_TooWide.kit n_BadRule_TooWide q_BadRule_TooWide, e_NoBack.kit n_BadRule_NoBack q_BadRule_NoBack, e_BadText.kit n_BadRule_BadText q_BadRule_BadText⟩ }
  have D_rows_of : Std K mg "rows_of" s_rows_of ["signs", "wide"] := d_rows_of.std X G (fun _ _ _ _ _ _ us hl => match us, hl with | [_, _], _ => rfl)
  have D_number_of : Std K mg "number_of" s_number_of ["signs", "cells"] := d_number_of.std X G (fun _ _ _ _ _ _ us hl => match us, hl with | [_, _], _ => rfl)
  have D_cells_of : Std K mg "cells_of" s_cells_of ["signs", "wide", "number"] := d_cells_of.std X G (fun _ _ _ _ _ _ us hl => match us, hl with | [_, _, _], _ => rfl)
  have D_is_from_to : Std K mg "_is_from_to" s_is_from_to ["thing", "least", "most"] := d_is_from_to.std X G (fun _ _ _ _ _ _ us hl => match us, hl with | [_, _, _], _ => rfl)
  have D_l_cell_at : Std K mg "_law_cell_at" s_l_cell_at ["_law_script", "_law_k"] := d_l_cell_at.std X G (fun _ _ _ _ _ _ us hl => match us, hl with | [_, _], _ => rfl)
  have D_l_mixed : Std K mg "_law_mixed" s_l_mixed ["_law_cell", "_law_k"] := d_l_mixed.std X G (fun _ _ _ _ _ _ us hl => match us, hl with | [_, _], _ => rfl)
  have D_l_between : Std K mg "_law_between" s_l_between ["_law_k", "_law_way"] := d_l_between.std X G (fun _ _ _ _ _ _ us hl => match us, hl with | [_, _], _ => rfl)
  have D_l_beside : Std K mg "_law_beside" s_l_beside ["_law_k", "_law_way"] := d_l_beside.std X G (fun _ _ _ _ _ _ us hl => match us, hl with | [_, _], _ => rfl)
  have D_l_odd : Std K mg "_law_odd" s_l_odd ["_law_rule_here", "_law_cell"] := d_l_odd.std X G (fun _ _ _ _ _ _ us hl => match us, hl with | [_, _], _ => rfl)
  have D_has_room : Std K mg "has_room" s_has_room ["signs", "wide"] := d_has_room.std X G (fun _ _ _ _ _ _ us hl => match us, hl with | [_, _], _ => rfl)
  have D_are_signs : Std K mg "are_signs" s_are_signs ["signs", "cells"] := d_are_signs.std X G (fun _ _ _ _ _ _ us hl => match us, hl with | [_, _], _ => rfl)
  have D_l_random : Std K mg "_law_random" s_l_random ["_law_signs", "_law_rows", "_law_more"] := d_l_random.std X G (fun _ _ _ _ _ _ us hl => match us, hl with | [_, _, _], _ => rfl)
  have D_l_mending : Std K mg "_law_mending" s_l_mending ["_law_signs", "_law_rows", "_law_more"] := d_l_mending.std X G (fun _ _ _ _ _ _ us hl => match us, hl with | [_, _, _], _ => rfl)
  have D_l_turned : Std K mg "_law_turned" s_l_turned ["_law_signs", "_law_wide", "_law_rows", "_law_more"] := d_l_turned.std X G (fun _ _ _ _ _ _ us hl => match us, hl with | [_, _, _, _], _ => rfl)
  have D_l_numbers : Std K mg "_law_numbers" s_l_numbers ["_law_signs", "_law_wide", "_law_number"] := d_l_numbers.std X G (fun _ _ _ _ _ _ us hl => match us, hl with | [_, _, _], _ => rfl)
  have D_is_rule : Std K mg "is_rule" s_is_rule ["thing"] := d_is_rule.std X G (fun _ _ _ _ _ _ us hl => match us, hl with | [_], _ => rfl)
  have D_l_rule : Std K mg "_law_rule" s_l_rule ["_law_cell", "_law_more"] := d_l_rule.std X G (fun _ _ _ _ _ _ us hl => match us, hl with | [_, _], _ => rfl)
  have D_need_rule : Std K mg "need_rule" s_need_rule ["thing"] := d_need_rule.std X G (fun _ _ _ _ _ _ us hl => match us, hl with | [_], _ => rfl)
  have D_is_piece : Std K mg "is_piece" s_is_piece ["rule", "thing"] := d_is_piece.std X G (fun _ _ _ _ _ _ us hl => match us, hl with | [_, _], _ => rfl)
  have D_joined : Std K mg "joined" s_joined ["one", "other"] := d_joined.std X G (fun _ _ _ _ _ _ us hl => match us, hl with | [_, _], _ => rfl)
  have D_twins : Std K mg "twins" s_twins ["rule"] := d_twins.std X G (fun _ _ _ _ _ _ us hl => match us, hl with | [_], _ => rfl)
  have D_rings : Std K mg "rings" s_rings ["rule"] := d_rings.std X G (fun _ _ _ _ _ _ us hl => match us, hl with | [_], _ => rfl)
  have D_bounds : Std K mg "bounds" s_bounds ["rule"] := d_bounds.std X G (fun _ _ _ _ _ _ us hl => match us, hl with | [_], _ => rfl)
  have D_missing : Std K mg "missing" s_missing ["rule"] := d_missing.std X G (fun _ _ _ _ _ _ us hl => match us, hl with | [_], _ => rfl)
  have D_all_ends : Std K mg "all_ends" s_all_ends ["rule"] := d_all_ends.std X G (fun _ _ _ _ _ _ us hl => match us, hl with | [_], _ => rfl)
  have D_shown : Std K mg "shown" s_shown ["rule"] := d_shown.std X G (fun _ _ _ _ _ _ us hl => match us, hl with | [_], _ => rfl)
  have D_need_piece : Std K mg "need_piece" s_need_piece ["rule", "thing"] := d_need_piece.std X G (fun _ _ _ _ _ _ us hl => match us, hl with | [_, _], _ => rfl)
  have D_need_ring : Std K mg "need_ring" s_need_ring ["rule", "thing"] := d_need_ring.std X G (fun _ _ _ _ _ _ us hl => match us, hl with | [_, _], _ => rfl)
  have D_piece_on : Std K mg "piece_on" s_piece_on ["rule", "piece"] := d_piece_on.std X G (fun _ _ _ _ _ _ us hl => match us, hl with | [_, _], _ => rfl)
  have D_count_of : Std K mg "count_of" s_count_of ["rule", "piece"] := d_count_of.std X G (fun _ _ _ _ _ _ us hl => match us, hl with | [_, _], _ => rfl)
  have D_origin_of : Std K mg "origin_of" s_origin_of ["rule", "piece"] := d_origin_of.std X G (fun _ _ _ _ _ _ us hl => match us, hl with | [_, _], _ => rfl)
  have D_piece_back : Std K mg "piece_back" s_piece_back ["rule", "piece"] := d_piece_back.std X G (fun _ _ _ _ _ _ us hl => match us, hl with | [_, _], _ => rfl)
  have D_ends_of : Std K mg "ends_of" s_ends_of ["rule", "piece"] := d_ends_of.std X G (fun _ _ _ _ _ _ us hl => match us, hl with | [_, _], _ => rfl)
  have D_ring_on : Std K mg "ring_on" s_ring_on ["rule", "ring"] := d_ring_on.std X G (fun _ _ _ _ _ _ us hl => match us, hl with | [_, _], _ => rfl)
  have D_ring_back : Std K mg "ring_back" s_ring_back ["rule", "ring"] := d_ring_back.std X G (fun _ _ _ _ _ _ us hl => match us, hl with | [_, _], _ => rfl)
  have D_l_asked_of_cells : Std K mg "_law_asked_of_cells" s_l_asked_of_cells ["_law_way", "_law_thing"] := d_l_asked_of_cells.std X G (fun _ _ _ _ _ _ us hl => match us, hl with | [_, _], _ => rfl)
  have D_l_asked : Std K mg "_law_asked" s_l_asked ["_law_way", "_law_thing"] := d_l_asked.std X G (fun _ _ _ _ _ _ us hl => match us, hl with | [_, _], _ => rfl)
  have D_l_refused : Std K mg "_law_refused" s_l_refused ["_law_way", "_law_thing"] := d_l_refused.std X G (fun _ _ _ _ _ _ us hl => match us, hl with | [_, _], _ => rfl)
  refine ⟨PySem.W.fnOf "law" "law" (defArgs s_law) (defBody s_law) (defScope s_law) .none kV doc pm an cdv ct, fun s u => .of_eq rfl, fun base _ _ => ?_⟩
  have H_rows_of := ok_rows_of (P := P) (w := w) (base := base) D_rows_of T 
  have H_number_of := ok_number_of (P := P) (w := w) (base := base) D_number_of T 
  have H_cells_of := ok_cells_of (P := P) (w := w) (base := base) D_cells_of T 
  have H_is_from_to := ok_is_from_to (P := P) (w := w) (base := base) D_is_from_to T 
  have H_l_cell_at := ok_l_cell_at (P := P) (w := w) (base := base) D_l_cell_at T 
  have H_l_mixed := ok_l_mixed (P := P) (w := w) (base := base) D_l_mixed T 
  have H_l_between := ok_l_between (P := P) (w := w) (base := base) D_l_between T 
  have H_l_beside := ok_l_beside (P := P) (w := w) (base := base) D_l_beside T 
  have H_l_odd := ok_l_odd (P := P) (w := w) (base := base) D_l_odd T 
  have H_has_room := ok_has_room (P := P) (w := w) (base := base) D_has_room T H_rows_of
  have H_are_signs := ok_are_signs (P := P) (w := w) (base := base) D_are_signs T H_is_from_to
  have H_l_random := ok_l_random (P := P) (w := w) (base := base) D_l_random T H_l_mixed
  have H_l_mending := ok_l_mending (P := P) (w := w) (base := base) D_l_mending T H_l_mixed
  have H_l_turned := ok_l_turned (P := P) (w := w) (base := base) D_l_turned T H_l_beside H_l_between
  have H_l_numbers := ok_l_numbers (P := P) (w := w) (base := base) D_l_numbers T H_cells_of H_rows_of H_number_of
  have H_is_rule := ok_is_rule (P := P) (w := w) (base := base) D_is_rule T H_are_signs H_has_room H_is_from_to H_rows_of
  have H_l_rule := ok_l_rule (P := P) (w := w) (base := base) D_l_rule T H_l_random H_l_mending H_l_turned
  have H_need_rule := ok_need_rule (P := P) (w := w) (base := base) D_need_rule T H_is_rule
  have H_is_piece := ok_is_piece (P := P) (w := w) (base := base) D_is_piece T H_need_rule
  have H_joined := ok_joined (P := P) (w := w) (base := base) D_joined T H_need_rule
  have H_twins := ok_twins (P := P) (w := w) (base := base) D_twins T H_need_rule
  have H_rings := ok_rings (P := P) (w := w) (base := base) D_rings T H_need_rule
  have H_bounds := ok_bounds (P := P) (w := w) (base := base) D_bounds T H_need_rule
  have H_missing := ok_missing (P := P) (w := w) (base := base) D_missing T H_need_rule
  have H_all_ends := ok_all_ends (P := P) (w := w) (base := base) D_all_ends T H_need_rule
  have H_shown := ok_shown (P := P) (w := w) (base := base) D_shown T H_need_rule
  have H_need_piece := ok_need_piece (P := P) (w := w) (base := base) D_need_piece T H_is_piece
  have H_need_ring := ok_need_ring (P := P) (w := w) (base := base) D_need_ring T H_need_piece
  have H_piece_on := ok_piece_on (P := P) (w := w) (base := base) D_piece_on T H_need_piece
  have H_count_of := ok_count_of (P := P) (w := w) (base := base) D_count_of T H_need_piece
  have H_origin_of := ok_origin_of (P := P) (w := w) (base := base) D_origin_of T H_need_piece
  have H_piece_back := ok_piece_back (P := P) (w := w) (base := base) D_piece_back T H_need_piece
  have H_ends_of := ok_ends_of (P := P) (w := w) (base := base) D_ends_of T H_need_piece
  have H_ring_on := ok_ring_on (P := P) (w := w) (base := base) D_ring_on T H_need_ring
  have H_ring_back := ok_ring_back (P := P) (w := w) (base := base) D_ring_back T H_need_ring
  have H_l_asked_of_cells := ok_l_asked_of_cells (P := P) (w := w) (base := base) D_l_asked_of_cells T H_piece_back H_is_piece H_piece_on H_ring_on H_count_of H_origin_of H_ends_of H_ring_back
  have H_l_asked := ok_l_asked (P := P) (w := w) (base := base) D_l_asked T H_l_asked_of_cells H_need_rule H_missing H_all_ends H_twins H_rings H_bounds H_shown H_joined
  have H_l_refused := ok_l_refused (P := P) (w := w) (base := base) D_l_refused T H_l_asked
  have Z := fn_law (P := P) (w := w) (base := base) (fun_mk (st := s_law) ll lc lk) T H_l_rule H_l_cell_at H_l_odd H_l_refused H_l_numbers H_l_mixed H_is_rule H_need_rule
  exact Z
end Br1
open PySem PySem.W PyProof.Rows
set_option maxRecDepth 100000 in
set_option maxHeartbeats 0 in
theorem PySem.Challenge.cw_backrule_k01_rules_looked_at_holds : PySem.Challenge.rw_backrule_k01_rules_looked_at.Holds := by
  w_on; o_law; k_head; (case hw => w_witness2)
  k_fill
  refine L2.walk_of (l := PySem.Challenge.rw_backrule_k01_rules_looked_at) (n := 63) (k := 12) (x := "_law_script") (CX := fun _ => L2.CX0) (sp := fun w => Br1.sp_law _ ⟨0, 0, 0, 0, 0, 0⟩) rfl (by decide) rfl ⟨rfl, by decide, by decide⟩ (fun w h Y => by first | exact PySem.W.kIn_of Y | exact PySem.W.km_in_of Y) ?F (fun _ _ a ns hl _ hS => Br1.sp_law_of hl hS) (fun _ _ _ _ _ h => h)
  case F =>
    intro w mg fa h KX G hmg
    refine' Br1.law_end KX G hmg ?la ?ll ?lc ?lk ?e_RowError ?e_BadRule ?e_BadRow ?e_TooWide ?e_NoBack ?e_BadText ?x_BadRule ?m_BadRule ?v_BadRule ?n_BadRule_BadRow ?q_BadRule_BadRow ?n_BadRule_TooWide ?q_BadRule_TooWide ?n_BadRule_NoBack ?q_BadRule_NoBack ?n_BadRule_BadText ?q_BadRule_BadText ?z_ValueError ?z_all ?z_divmod ?z_enumerate ?z_int ?z_isinstance ?z_len ?z_list ?z_range ?z_reversed ?z_tuple ?z_type ?y_MOST_SIGNS ?y_MOST_WIDE ?y_MOST_ROWS ?y_FIGURES ?d_rows_of ?d_number_of ?d_cells_of ?d_is_from_to ?d_l_cell_at ?d_l_mixed ?d_l_between ?d_l_beside ?d_l_odd ?d_has_room ?d_are_signs ?d_l_random ?d_l_mending ?d_l_turned ?d_l_numbers ?d_is_rule ?d_l_rule ?d_need_rule ?d_is_piece ?d_joined ?d_twins ?d_rings ?d_bounds ?d_missing ?d_all_ends ?d_shown ?d_need_piece ?d_need_ring ?d_piece_on ?d_count_of ?d_origin_of ?d_piece_back ?d_ends_of ?d_ring_on ?d_ring_back ?d_l_asked_of_cells ?d_l_asked ?d_l_refused
    (case la => k_is)
    (case ll => k_is)
    (case lc => k_is)
    (case lk => k_is)
    (case e_RowError => (refine' ⟨?n, ?x, ?k, ?b, ?t, ?i⟩; (case n => k_is); (case x => k_exc); (case k => k_is); (case b => k_is); (case t => k_is); (case i => k_is)))
    (case e_BadRule => (refine' ⟨?n, ?x, ?k, ?b, ?t, ?i⟩; (case n => k_is); (case x => k_exc); (case k => k_is); (case b => k_is); (case t => k_is); (case i => k_is)))
    (case e_BadRow => (refine' ⟨?n, ?x, ?k, ?b, ?t, ?i⟩; (case n => k_is); (case x => k_exc); (case k => k_is); (case b => k_is); (case t => k_is); (case i => k_is)))
    (case e_TooWide => (refine' ⟨?n, ?x, ?k, ?b, ?t, ?i⟩; (case n => k_is); (case x => k_exc); (case k => k_is); (case b => k_is); (case t => k_is); (case i => k_is)))
    (case e_NoBack => (refine' ⟨?n, ?x, ?k, ?b, ?t, ?i⟩; (case n => k_is); (case x => k_exc); (case k => k_is); (case b => k_is); (case t => k_is); (case i => k_is)))
    (case e_BadText => (refine' ⟨?n, ?x, ?k, ?b, ?t, ?i⟩; (case n => k_is); (case x => k_exc); (case k => k_is); (case b => k_is); (case t => k_is); (case i => k_is)))
    (case x_BadRule => (refine' Br.excC_mk ?hg ?hk ?hs ?hd ?ha ?hn ?ht ?hm; (case hg => k_is); (case hk => k_is); (case hs => k_is); (case hd => k_is); (case ha => k_is); (case hn => k_is); (case ht => k_is); (case hm => k_is)))
    (case m_BadRule => k_is)
    (case v_BadRule => k_is)
    (case n_BadRule_BadRow => k_is)
    (case q_BadRule_BadRow => decide)
    (case n_BadRule_TooWide => k_is)
    (case q_BadRule_TooWide => decide)
    (case n_BadRule_NoBack => k_is)
    (case q_BadRule_NoBack => decide)
    (case n_BadRule_BadText => k_is)
    (case q_BadRule_BadText => decide)
    (case z_ValueError => k_is)
    (case z_all => k_is)
    (case z_divmod => k_is)
    (case z_enumerate => k_is)
    (case z_int => k_is)
    (case z_isinstance => k_is)
    (case z_len => k_is)
    (case z_list => k_is)
    (case z_range => k_is)
    (case z_reversed => k_is)
    (case z_tuple => k_is)
    (case z_type => k_is)
    (case y_MOST_SIGNS => k_is)
    (case y_MOST_WIDE => k_is)
    (case y_MOST_ROWS => k_is)
    (case y_FIGURES => k_is)
    (case d_rows_of => (refine' Br.stdK_mk ?a ?l ?c ?k; (case a => k_is); (case l => k_is); (case c => k_is); (case k => k_is)))
    (case d_number_of => (refine' Br.stdK_mk ?a ?l ?c ?k; (case a => k_is); (case l => k_is); (case c => k_is); (case k => k_is)))
    (case d_cells_of => (refine' Br.stdK_mk ?a ?l ?c ?k; (case a => k_is); (case l => k_is); (case c => k_is); (case k => k_is)))
    (case d_is_from_to => (refine' Br.stdK_mk ?a ?l ?c ?k; (case a => k_is); (case l => k_is); (case c => k_is); (case k => k_is)))
    (case d_l_cell_at => (refine' Br.stdK_mk ?a ?l ?c ?k; (case a => k_is); (case l => k_is); (case c => k_is); (case k => k_is)))
    (case d_l_mixed => (refine' Br.stdK_mk ?a ?l ?c ?k; (case a => k_is); (case l => k_is); (case c => k_is); (case k => k_is)))
    (case d_l_between => (refine' Br.stdK_mk ?a ?l ?c ?k; (case a => k_is); (case l => k_is); (case c => k_is); (case k => k_is)))
    (case d_l_beside => (refine' Br.stdK_mk ?a ?l ?c ?k; (case a => k_is); (case l => k_is); (case c => k_is); (case k => k_is)))
    (case d_l_odd => (refine' Br.stdK_mk ?a ?l ?c ?k; (case a => k_is); (case l => k_is); (case c => k_is); (case k => k_is)))
    (case d_has_room => (refine' Br.stdK_mk ?a ?l ?c ?k; (case a => k_is); (case l => k_is); (case c => k_is); (case k => k_is)))
    (case d_are_signs => (refine' Br.stdK_mk ?a ?l ?c ?k; (case a => k_is); (case l => k_is); (case c => k_is); (case k => k_is)))
    (case d_l_random => (refine' Br.stdK_mk ?a ?l ?c ?k; (case a => k_is); (case l => k_is); (case c => k_is); (case k => k_is)))
    (case d_l_mending => (refine' Br.stdK_mk ?a ?l ?c ?k; (case a => k_is); (case l => k_is); (case c => k_is); (case k => k_is)))
    (case d_l_turned => (refine' Br.stdK_mk ?a ?l ?c ?k; (case a => k_is); (case l => k_is); (case c => k_is); (case k => k_is)))
    (case d_l_numbers => (refine' Br.stdK_mk ?a ?l ?c ?k; (case a => k_is); (case l => k_is); (case c => k_is); (case k => k_is)))
    (case d_is_rule => (refine' Br.stdK_mk ?a ?l ?c ?k; (case a => k_is); (case l => k_is); (case c => k_is); (case k => k_is)))
    (case d_l_rule => (refine' Br.stdK_mk ?a ?l ?c ?k; (case a => k_is); (case l => k_is); (case c => k_is); (case k => k_is)))
    (case d_need_rule => (refine' Br.stdK_mk ?a ?l ?c ?k; (case a => k_is); (case l => k_is); (case c => k_is); (case k => k_is)))
    (case d_is_piece => (refine' Br.stdK_mk ?a ?l ?c ?k; (case a => k_is); (case l => k_is); (case c => k_is); (case k => k_is)))
    (case d_joined => (refine' Br.stdK_mk ?a ?l ?c ?k; (case a => k_is); (case l => k_is); (case c => k_is); (case k => k_is)))
    (case d_twins => (refine' Br.stdK_mk ?a ?l ?c ?k; (case a => k_is); (case l => k_is); (case c => k_is); (case k => k_is)))
    (case d_rings => (refine' Br.stdK_mk ?a ?l ?c ?k; (case a => k_is); (case l => k_is); (case c => k_is); (case k => k_is)))
    (case d_bounds => (refine' Br.stdK_mk ?a ?l ?c ?k; (case a => k_is); (case l => k_is); (case c => k_is); (case k => k_is)))
    (case d_missing => (refine' Br.stdK_mk ?a ?l ?c ?k; (case a => k_is); (case l => k_is); (case c => k_is); (case k => k_is)))
    (case d_all_ends => (refine' Br.stdK_mk ?a ?l ?c ?k; (case a => k_is); (case l => k_is); (case c => k_is); (case k => k_is)))
    (case d_shown => (refine' Br.stdK_mk ?a ?l ?c ?k; (case a => k_is); (case l => k_is); (case c => k_is); (case k => k_is)))
    (case d_need_piece => (refine' Br.stdK_mk ?a ?l ?c ?k; (case a => k_is); (case l => k_is); (case c => k_is); (case k => k_is)))
    (case d_need_ring => (refine' Br.stdK_mk ?a ?l ?c ?k; (case a => k_is); (case l => k_is); (case c => k_is); (case k => k_is)))
    (case d_piece_on => (refine' Br.stdK_mk ?a ?l ?c ?k; (case a => k_is); (case l => k_is); (case c => k_is); (case k => k_is)))
    (case d_count_of => (refine' Br.stdK_mk ?a ?l ?c ?k; (case a => k_is); (case l => k_is); (case c => k_is); (case k => k_is)))
    (case d_origin_of => (refine' Br.stdK_mk ?a ?l ?c ?k; (case a => k_is); (case l => k_is); (case c => k_is); (case k => k_is)))
    (case d_piece_back => (refine' Br.stdK_mk ?a ?l ?c ?k; (case a => k_is); (case l => k_is); (case c => k_is); (case k => k_is)))
    (case d_ends_of => (refine' Br.stdK_mk ?a ?l ?c ?k; (case a => k_is); (case l => k_is); (case c => k_is); (case k => k_is)))
    (case d_ring_on => (refine' Br.stdK_mk ?a ?l ?c ?k; (case a => k_is); (case l => k_is); (case c => k_is); (case k => k_is)))
    (case d_ring_back => (refine' Br.stdK_mk ?a ?l ?c ?k; (case a => k_is); (case l => k_is); (case c => k_is); (case k => k_is)))
    (case d_l_asked_of_cells => (refine' Br.stdK_mk ?a ?l ?c ?k; (case a => k_is); (case l => k_is); (case c => k_is); (case k => k_is)))
    (case d_l_asked => (refine' Br.stdK_mk ?a ?l ?c ?k; (case a => k_is); (case l => k_is); (case c => k_is); (case k => k_is)))
    (case d_l_refused => (refine' Br.stdK_mk ?a ?l ?c ?k; (case a => k_is); (case l => k_is); (case c => k_is); (case k => k_is)))
#print axioms PySem.Challenge.cw_backrule_k01_rules_looked_at_holds

