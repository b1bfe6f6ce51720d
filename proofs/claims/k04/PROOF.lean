import PyProof.Rows.All
import Wide.All
import OpenK.AllK
import Wide.FinOn
import HandS.ForMost
import HandS.Exc
import HandS.TryOnly
import HandS.ExcOwn
import HandS.WordsExc
import HandS.ExcIs
import HandS.IsInst
import HandS.More
import HandS.Evl
import HandS.Conv
import HandS.TupLe
import HandS.FStr
import HandS.Style
import PySem.Challenge.RW_backrule_k04_there_and_back
set_option Elab.async false
set_option linter.all false
set_option maxRecDepth 100000
set_option maxHeartbeats 4000000
/-! ## Base: words over the hand layer, free of any row -/
namespace Br
open PySem PySem.Spec PyProof.Rows L2
/-- the classes of the program -/
structure Cl where
  RowError : Addr
  BadRule : Addr
  BadRow : Addr
  TooWide : Addr
  NoBack : Addr
  BadText : Addr
/-! ### readings of operators by names -/
abbrev oAdd : R2 := rI0 fun i j => .int (i + j)
abbrev oSub : R2 := rI0 fun i j => .int (i - j)
abbrev oMul : R2 := rI CMul fun i j => .int (i * j)
abbrev oMod : R2 := rI (fun _ j => 0 < j) fun i j => .int (i % j)
abbrev oDiv : R2 := rI CDiv fun i j => .int (i / j)
abbrev oPow : R2 := rI CPow fun i j => .int (i ^ j.toNat)
abbrev oLt : R2 := rI0 fun i j => .bl (decide (i < j))
abbrev oLe : R2 := rI0 fun i j => .bl (decide (i ≤ j))
abbrev oGt : R2 := rI0 fun i j => .bl (decide (j < i))
abbrev oGe : R2 := rI0 fun i j => .bl (decide (j ≤ i))
abbrev oNeg : V → Hp → VK → Prop := rU fun i => .int (-i)
abbrev oCat : R2 := rCat
abbrev oRep : R2 := rRep
abbrev oIsTy : R2 := fun x y H Q => ∃ a b, x = .ty a ∧ y = .ty b ∧ Q (.bl (decide (a = b))) H
abbrev oIsN : R2 := fun x y H Q => y = .non ∧ Q (.bl (decide (x = .non))) H
abbrev oNotN : R2 := fun x y H Q => y = .non ∧ Q (.bl (!decide (x = .non))) H
abbrev oTupS (K : PySem.W.Frag) : List V → Hp → VK → Prop := fun xs H Q => ∃ p ys, xs = [.ref p] ∧ ((SqL K H p ys ∧ ∀ l, H l = none → Q (.ref l) (upd H l (.tup ys))) ∨ (SqT K H p ys ∧ Q (.ref p) H))
abbrev oInt1 : List V → Hp → VK → Prop := fun xs H Q => (∃ i, xs = [.int i] ∧ Q (.int i) H) ∨ ∃ k, xs = [.bl k] ∧ Q (.int (if k then 1 else 0)) H
abbrev oStrI : List V → Hp → VK → Prop := fun xs H Q => ∃ i, xs = [.int i] ∧ i.natAbs.log2 < 1920 ∧ Q (.str (toString i)) H
abbrev oLenS : List V → Hp → VK → Prop := fun xs H Q => ∃ z, xs = [.str z] ∧ z.length ≤ sizeLine ∧ Q (.int z.length) H
abbrev oDivmod : List V → Hp → VK → Prop := fun xs H Q => ∃ i j, xs = [.int i, .int j] ∧ CDiv i j ∧ ∀ p, H p = none → Q (.ref p) (upd H p (.tup [.int (i / j), .int (i % j)]))
/-! ### a list or a tuple walked -/
def iOr (a b : TI) : TI := fun σ H R => a σ H R ∨ b σ H R
theorem pi_or {X : Cx} {tg e : Expr} {a b : TI} (h1 : PI X tg e a) (h2 : PI X tg e b) : PI X tg e (iOr a b) := by
  refine ⟨fun pins s σ H R I h => ?_⟩
  rcases h with h | h
  · exact h1.run pins s σ H R I h
  · exact h2.run pins s σ H R I h
/-! ### defs by name -/
/-- the def nm keeps the promise sp -/
def Has (P : Program) (w : World) (K : PySem.W.Frag) (mg : Str → Option Value) (base : Heap) (CX : CXT) (k : Nat) (nm : Str) (ps : List Str) (sp : Sp) : Prop :=
  ∃ f fd, FnOk P w K mg base CX k f fd ps sp ∧ mg nm = some (.ref f) ∧ PySem.W.keepIn K (.ref f) = true ∧ Binds K fd ps []
/-- the def nm stands as st -/
def Std (K : PySem.W.Frag) (mg : Str → Option Value) (nm : Str) (st : Stmt) (ps : List Str) : Prop := ∃ f fd, Fun K nm nm st f fd ∧ mg nm = some (.ref f) ∧ Binds K fd ps []
section
variable {P : Program} {w : World} {K : PySem.W.Frag} {mg : Str → Option Value} {base : Heap}
theorem Std.has {nm : Str} {st : Stmt} {ps : List Str} {CX : CXT} {k : Nat} {sp : Sp} (D : Std K mg nm st ps) (h : ∀ f fd, Fun K nm nm st f fd → FnOk P w K mg base CX k f fd ps sp) : Has P w K mg base CX k nm ps sp := by
  obtain ⟨f, fd, F, m, b⟩ := D
  exact ⟨f, fd, h f fd F, m, F.kp, b⟩
theorem Has.imp {nm : Str} {ps : List Str} {CX : CXT} {k : Nat} {sp sp' : Sp} (D : Has P w K mg base CX k nm ps sp) (h : ∀ vs H Q E, sp' vs H Q E → sp vs H Q E) : Has P w K mg base CX k nm ps sp' := by
  obtain ⟨f, fd, F, m, kp, b⟩ := D
  exact ⟨f, fd, F.imp h, m, kp, b⟩
end
section
variable {X : Cx} {CX : CXT} {k : Nat} {ps : List Str} {sp : Sp} {x : Str} {p pos : Pos} {e : Expr} {es : List Expr} {t : TA}
theorem pe_callH {E : XK} (F : Has X.prog X.w X.K X.mg X.base CX k x ps sp) (hr : Room k X.A) (hg : Gl X x) (hx : Passes CX X E)
    (ha : PA X (e :: es) t) (hdb : (x == ("__debug__" : Str)) = false := by decide) (he : starEach (e :: es) X.env = (false, eval e X.env) :: starEach es X.env := by rfl) (hpl : (backTo pos (starEach es X.env)).any (·.1) = false := by rfl) :
    PE X (.Call (.Name x p) (e :: es) [] pos) (tCall sp [] E t) := by
  obtain ⟨f, fd, F, m, kp, b⟩ := F
  exact pe_call F hr hg m kp b .nil hx ha hdb he hpl
theorem pe_callSH {E : L2.St → XK} (F : Has X.prog X.w X.K X.mg X.base CX k x ps sp) (hr : Room k X.A) (hg : Gl X x) (hx : ∀ σ, PassesAt CX X σ (E σ))
    (ha : PA X (e :: es) t) (hdb : (x == ("__debug__" : Str)) = false := by decide) (he : starEach (e :: es) X.env = (false, eval e X.env) :: starEach es X.env := by rfl) (hpl : (backTo pos (starEach es X.env)).any (·.1) = false := by rfl) :
    PE X (.Call (.Name x p) (e :: es) [] pos) (tCallS sp E t) := by
  obtain ⟨f, fd, F, m, kp, b⟩ := F
  exact pe_callS F hr hg m kp b hx ha hdb he hpl
end
/-! ### errors -/
/-- what the top has written of an own error class -/
structure Err (K : PySem.W.Frag) (C : Addr) : Prop where
  x : PySem.W.excIn K C [.type "ValueError", .type "Exception", .type "BaseException", .type "object"] "ValueError.__new__" = true
  k : PySem.W.keepIn K (.ref C) = true
  b : PySem.W.subIn K (.ref C) (.type "BaseException") = some true
  t : PySem.W.typeIn K (.ref C) = some (.type "type")
def tRaise (C : Addr) (E : XK) : TS := fun _ σ H => E (.ref C) none H
/-- a reading under a condition -/
def tWhen (p : Prop) (t : TS) : TS := fun D σ H => p ∧ t D σ H
theorem pss_when {X : Cx} {b : List Stmt} {p : Prop} {t : TS} (h : p → PSs X b t) : PSs X b (tWhen p t) :=
  ⟨fun pins s σ H D I z => (h z.1).run pins s σ H D I z.2⟩
def tTryAs (K : PySem.W.Frag) (c : Addr) (i : Nat) (tb : WX → TS) (ts : Addr → Value → Option Addr → TS) : TS := fun D σ H => tb (wAs K (.ref c) i ts (fun _ _ _ _ => False) D) D σ H
section
variable {X : Cx} {x n : Str} {c cd : Addr} {i : Nat} {body suite : List Stmt} {b₀ : Stmt} {np pos pos' : Pos} {tb : WX → TS} {ts : Addr → TS}
theorem ps_try_asW (hs : X.stack = X.env :: X.outer) (hf : X.env.frame = some X.env.locals) (hN : X.N.Nodup) (hi : X.N[i]? = some n) (hln : X.env.kindOf n = some .local) (hc : Names X x (.ref c)) (tk : Takes X (fun _ _ _ _ => False))
    (hb : ∀ (W : WX) (pn : List (Addr × Obj)) (xe : Value → Shared → Prop), Takes (X.tr pn xe) W → PassesOwn (model X.prog X.w) X.A X.env xe → PSs (X.tr pn xe) body (tb W))
    (hsu : ∀ (a : Addr) (oe : Obj) (pn : List (Addr × Obj)), Zc (.ref cd) none oe → (∃ vs, oe.data = .fields vs) → PSs (X.suite a ((a, oe) :: pn)) (b₀ :: suite) (ts a)) :
    PS X (.Try body [.ExceptHandler (some (.Name x np)) (some n) (b₀ :: suite) pos'] [] [] pos) (tTryAs X.K c i tb (fun a cls dd => tWhen (cls = .ref cd ∧ dd = none) (ts a))) :=
  ps_try_as hs hf hN hi hln hc tk hb (fun a oe cls d pn hz hfl => pss_when fun hp => by
    obtain ⟨rfl, rfl⟩ := hp
    exact hsu a oe pn hz hfl)
end
end Br
namespace Br
open PySem PySem.Spec PyProof.Rows L2
/-! ### from the head's facts -/
def StdK (K : PySem.W.Frag) (nm : Str) (st : Stmt) : Prop := ∃ (f : Addr) (oc : Value) (od : Option Addr) (kV doc pm : Value) (an : Option Addr) (cdv ct : Value) (osl : Array (Option Value)),
  PySem.W.nsIn K mainGlobals nm = some (some (.ref f)) ∧ K.lookup f = some ⟨oc, od, .func (PySem.W.fnOf nm nm (defArgs st) (defBody st) (defScope st) .none kV doc pm an cdv ct), osl⟩ ∧ PySem.W.codeIn K cdv nm = true ∧ PySem.W.keepIn K (.ref f) = true
theorem stdK_mk {K : PySem.W.Frag} {nm : Str} {st : Stmt} {f : Addr} {oc : Value} {od : Option Addr} {kV doc pm : Value} {an : Option Addr} {cdv ct : Value} {osl : Array (Option Value)}
    (a : PySem.W.nsIn K mainGlobals nm = some (some (.ref f))) (l : K.lookup f = some ⟨oc, od, .func (PySem.W.fnOf nm nm (defArgs st) (defBody st) (defScope st) .none kV doc pm an cdv ct), osl⟩) (c : PySem.W.codeIn K cdv nm = true) (k : PySem.W.keepIn K (.ref f) = true) : StdK K nm st :=
  ⟨f, oc, od, kV, doc, pm, an, cdv, ct, osl, a, l, c, k⟩
theorem StdK.std {K : PySem.W.Frag} {h : Heap} {mg : Str → Option Value} {nm : Str} {st : Stmt} {ps : List Str} (X : K.In h) (G : h.Ns mainGlobals mg) (d : StdK K nm st)
    (b : ∀ (kV doc pm : Value) (an : Option Addr) (cdv ct : Value) (us : List Value), us.length = ps.length → bindArgs (PySem.W.fnOf nm nm (defArgs st) (defBody st) (defScope st) .none kV doc pm an cdv ct) ⟨us, []⟩ = pure (ps.zip us)) : Std K mg nm st ps := by
  obtain ⟨f, oc, od, kV, doc, pm, an, cdv, ct, osl, a, l, c, k⟩ := d
  exact ⟨f, _, fun_mk l c k, PySem.W.mg_of X G a, (fun_mk l c k).binds b⟩
structure ErrK (K : PySem.W.Frag) (nm : Str) (C : Addr) : Prop where
  n : PySem.W.nsIn K mainGlobals nm = some (some (.ref C))
  x : PySem.W.excIn K C [.type "ValueError", .type "Exception", .type "BaseException", .type "object"] "ValueError.__new__" = true
  k : PySem.W.keepIn K (.ref C) = true
  b : PySem.W.subIn K (.ref C) (.type "BaseException") = some true
  t : PySem.W.typeIn K (.ref C) = some (.type "type")
  i : PySem.W.isClsIn K C = true
theorem ErrK.err {K : PySem.W.Frag} {nm : Str} {C : Addr} (e : ErrK K nm C) : Err K C := ⟨e.x, e.k, e.b, e.t⟩
theorem clsType {K : PySem.W.Frag} {nm : Str} {C : Addr} (e : ErrK K nm C) : ((PySem.W.clsIn K C).isSome && PySem.W.typeIn K (.ref C) == some (.type "type")) = true := by
  have h2 : (PySem.W.clsIn K C).isSome = true := e.i
  rw [h2, e.t] <;> rfl
theorem ErrK.exm {K : PySem.W.Frag} {nm : Str} {C D : Addr} {b : Bool} (e : ErrK K nm C) (s : PySem.W.subIn K (.ref D) (.ref C) = some b) : PySem.W.exmOne K (.ref D) (.ref C) = some b := by
  have e1 : (PySem.W.subIn K (.ref C) (.type "BaseException") == some true) = true := by rw [e.b] <;> rfl
  show (if (PySem.W.subIn K (.ref C) (.type "BaseException") == some true) = true then (if ((PySem.W.clsIn K C).isSome && PySem.W.typeIn K (.ref C) == some (.type "type")) = true then PySem.W.subIn K (.ref D) (.ref C) else none) else none) = some b
  rw [if_pos e1, if_pos (clsType e)]
  exact s
theorem ErrK.kit {K : PySem.W.Frag} {nm : Str} {C D : Addr} {b : Bool} (e : ErrK K nm C) (s : PySem.W.subIn K (.ref D) (.ref C) = some b) (ne : (Value.ref D == Value.ref C) = false) : PySem.W.kitOne K (.ref D) (.ref C) = some b := by
  unfold PySem.W.kitOne
  rw [if_neg (by rw [ne]; decide)]
  show (if ((PySem.W.clsIn K C).isSome && PySem.W.typeIn K (.ref C) == some (.type "type")) = true then PySem.W.subIn K (.ref D) (.ref C) else none) = some b
  rw [if_pos (clsType e)]
  exact s
theorem kitMeta_val : PySem.W.kitMeta "ValueError" = true := by decide +kernel
theorem kit_val {K : PySem.W.Frag} {D : Addr} {b : Bool} (s : PySem.W.subIn K (.ref D) (.type "ValueError") = some b) : PySem.W.kitOne K (.ref D) (.type "ValueError") = some b := by
  unfold PySem.W.kitOne
  rw [if_neg (by intro h; cases (beq_iff_eq.mp h))]
  show (if PySem.W.kitMeta "ValueError" = true then PySem.W.subIn K (.ref D) (.type "ValueError") else none) = some b
  rw [if_pos kitMeta_val]
  exact s
theorem excC_mk {K : PySem.W.Frag} {D : Addr} (hg : PySem.W.findIn K (.ref D) "__getattribute__" = some (some (.builtin "BaseException.__getattribute__"))) (hk : PySem.W.findIn K (.ref D) "__getattr__" = some none)
    (hs : PySem.W.subIn K (.ref D) (.type "BaseException") = some true) (hd : PySem.W.hasDictIn K D = true) (ha : PySem.W.findIn K (.ref D) "__class__" = some (some (.builtin "object.__class__")))
    (hn : PySem.W.specialIn K (.builtin "object.__class__") "__get__" = some (some (.builtin "getset_descriptor.__get__"))) (ht : PySem.W.takesIn K (.builtin "object.__class__") = some true) (hm : PySem.W.mroIn K D (.type "object") = some true) : ExcC K D := ⟨hg, hk, hs, hd, ha, hn, ht, hm⟩
end Br

namespace Br
open PySem PySem.Spec PyProof.Rows L2 Evl
section
variable {K : PySem.W.Frag} {σ : L2.St} {H H' : Hp} {ta tb te : TE} {x y z v : V}
theorem et_yes : EvT tYes σ H true := fun H1 _ _ q => q H1 (Ex.refl H1)
theorem rv_mod {i j : Int} (h : 0 < j) : RV oMod (.int i) (.int j) H (.int (i % j)) := rv_I h
theorem rv_div {i j : Int} (h : 0 < j) (h2 : j < 1073741824) : RV oDiv (.int i) (.int j) H (.int (i / j)) := rv_I ⟨h, h2⟩
theorem rv_mul {i j : Int} (h : CMul i j) : RV oMul (.int i) (.int j) H (.int (i * j)) := rv_I h
theorem rv_eqI {i j : Int} : RV rEq (.int i) (.int j) H (.bl (decide (i = j))) := fun H1 e Q q => rv_eq (H := H) rfl H1 e Q fun H2 e2 => by
  have e1 : decide (V.int i = V.int j) = decide (i = j) := decide_eq_decide.mpr ⟨fun h => V.int.inj h, fun h => by rw [h]⟩
  rw [e1]
  exact q H2 e2
theorem rv_neI {i j : Int} : RV rNe (.int i) (.int j) H (.bl (!decide (i = j))) := fun H1 e Q q => rv_ne (H := H) rfl H1 e Q fun H2 e2 => by
  have e1 : decide (V.int i = V.int j) = decide (i = j) := decide_eq_decide.mpr ⟨fun h => V.int.inj h, fun h => by rw [h]⟩
  rw [e1]
  exact q H2 e2
end
/-! mixed -/
abbrev start' (n : Nat) (vs : List V) : L2.St := vs.map some ++ List.replicate (n - vs.length) none
def lMixed (c k : Int) : Int := (c % 1000000007 + 1) * 48271 % 2147483647 * (16807 + 7919 * k * k + 31 * k) % 2147483629 / 7
def sp_l_mixed (K : PySem.W.Frag) (c : Cl) : Sp := fun vs H Q _ => ∃ a k : Int, vs = [.int a, .int k] ∧ -1000000 < k ∧ k < 1000000 ∧ RetV (.int (lMixed a k)) H Q
def t_l_mixed (K : PySem.W.Frag) (c : Cl) (E : XK) : TS :=
(tSeq (tAsg (tOp oMod (tOp oMul (tOp oAdd (tOp oMod (tVar 0) (tC (.int 1000000007))) (tC (.int 1))) (tC (.int 48271))) (tC (.int 2147483647))) (gName 2))
    (tRet (tOp oDiv (tOp oMod (tOp oMul (tVar 2) (tOp oAdd (tOp oAdd (tC (.int 16807)) (tOp oMul (tOp oMul (tC (.int 7919)) (tVar 1)) (tVar 1))) (tOp oMul (tC (.int 31)) (tVar 1)))) (tC (.int 2147483629))) (tC (.int 7)))))
theorem len_l_mixed {K : PySem.W.Frag} {c : Cl} (vs : List V) (H : Hp) (Q : VK) (E : XK) (h : sp_l_mixed K c vs H Q E) : vs.length = 2 := by
  obtain ⟨a, k, rfl, _⟩ := h
  rfl
theorem pure_l_mixed {K : PySem.W.Frag} {c : Cl} (vs : List V) (H : Hp) (Q : VK) (E : XK) (h : sp_l_mixed K c vs H Q E) : t_l_mixed K c E { nx := fun _ H' => Q .non H', rt := Q } (start' 3 vs) H := by
  obtain ⟨a, k, rfl, k1, k2, q⟩ := h
  refine q_asg (v := .int ((a % 1000000007 + 1) * 48271 % 2147483647)) ?_ fun H1 e1 => ?_
  · (repeat' first
        | exact ev_c
        | exact ev_var rfl
        | exact ea_nil
        | exact eo_none
        | apply ea_cons
        | apply ev_op
        | apply ev_un
        | apply eo_some
        | exact rv_I0
        | exact ru_neg
        | exact et_yes
        | apply et_test
        | apply et_B
        | apply et_not
        | apply rv_mod
        | apply rv_div
        | apply rv_mul
        | apply rv_eqI
        | apply rv_neI
        | exact rv_isTy
        | exact rv_notTy
        | (apply ev_lenS; rotate_left)
        | exact rv_ixT (by assumption) rfl)
    all_goals first | omega | exact Or.inr ⟨by omega, by omega⟩
  · refine s_ret (v := .int (lMixed a k)) ?_ fun H2 e2 => q H2 (e1.trans e2)
    (repeat' first
        | exact ev_c
        | exact ev_var rfl
        | exact ea_nil
        | exact eo_none
        | apply ea_cons
        | apply ev_op
        | apply ev_un
        | apply eo_some
        | exact rv_I0
        | exact ru_neg
        | exact et_yes
        | apply et_test
        | apply et_B
        | apply et_not
        | apply rv_mod
        | apply rv_div
        | apply rv_mul
        | apply rv_eqI
        | apply rv_neI
        | exact rv_isTy
        | exact rv_notTy
        | (apply ev_lenS; rotate_left)
        | exact rv_ixT (by assumption) rfl)
    all_goals first | omega | exact Or.inr ⟨by omega, by omega⟩ | exact Or.inl ⟨by omega, by omega⟩
end Br

namespace Br
open PySem PySem.Spec PyProof.Rows L2 Evl
abbrev IL (K : PySem.W.Frag) (H : Hp) (a : Addr) (ns : List Int) : Prop := SqL K H a (ns.map V.int)
abbrev IT (K : PySem.W.Frag) (H : Hp) (a : Addr) (ns : List Int) : Prop := SqT K H a (ns.map V.int)
def RetU (xs : List V) (H : Hp) (Q : VK) : Prop := ∀ p H2, H p = none → Ex H H2 → H2 p = some (.tup xs) → Q (.ref p) H2
def SpU (sp : Sp) (vs : List V) (H : Hp) (xs : List V) : Prop := ∀ H1, Ex H H1 → ∀ Q : VK, (∀ p H2, H1 p = none → Ex H1 H2 → H2 p = some (.tup xs) → Q (.ref p) H2) → ∀ E : XK, sp vs H1 Q E
section
variable {K : PySem.W.Frag} {σ : L2.St} {H H' : Hp} {ta tb te tl : TE} {x y z v : V} {D : Ends} {tu tz : TS} {g : TG} {w1 w2 : TI}
theorem for_l (h : tSeq (tFor w1 g tu) tz D σ H) : tSeq (tFor (iOr w1 w2) g tu) tz D σ H := Or.inl h
theorem for_r (h : tSeq (tFor w2 g tu) tz D σ H) : tSeq (tFor (iOr w1 w2) g tu) tz D σ H := Or.inr h
theorem el_l {tt : TT} {vs : List Nat} {xs : List V} (h : EvL (tLc w1 g tt te vs) σ H xs) : EvL (tLc (iOr w1 w2) g tt te vs) σ H xs := fun H1 e Q q => Or.inl (h H1 e Q q)
theorem el_r {tt : TT} {vs : List Nat} {xs : List V} (h : EvL (tLc w2 g tt te vs) σ H xs) : EvL (tLc (iOr w1 w2) g tt te vs) σ H xs := fun H1 e Q q => Or.inr (h H1 e Q q)
/-- over a tuple -/
theorem el_lcT {a : Addr} {xs : List V} {tt : TT} {j : Nat} {vs : List Nat} (f : Nat → Bool) (v : Nat → V) (h : Ev tl σ H (.ref a)) (hx : SqT K H a xs) (hz : xs.length ≤ 40000) (hw : ∀ x, wipe ((wipe σ vs).set j (some x)) vs = wipe σ vs)
    (ht : ∀ (i : Nat) (x : V) H1, Ex H H1 → xs[i]? = some x → EvT tt ((wipe σ vs).set j (some x)) H1 (f i)) (he : ∀ (i : Nat) (x : V) H1, Ex H H1 → xs[i]? = some x → f i = true → Ev te ((wipe σ vs).set j (some x)) H1 (v i)) :
    EvL (tLc (iTup K tl) (gName j) tt te vs) σ H (given xs.length f v) := fun H0 e Q q => h H0 e _ fun H1 e1 => ⟨a, rfl, ⟨xs, ex_t (e.trans e1) hx⟩, fun Dl hD =>
  lc_tup (xs := xs) (Cw H1 f v Dl) ⟨hD, Ex.new hD, upd_same⟩ (fun i H' _ p => ex_t ((e.trans e1).trans p.2.1) hx) (fun i x H' hi p => ⟨hw x, cw_turn p (by have := (List.getElem?_eq_some_iff.mp hi).1; omega) (ht i x H1 (e.trans e1) hi) (fun hf => he i x H1 (e.trans e1) hi hf)⟩)
    (fun H' p => q Dl H' (fresh_back e1 p.1) (e1.trans p.2.1) p.2.2)⟩
theorem given_all (n : Nat) (v : Nat → V) : given n (fun _ => true) v = (List.range n).map v := by
  unfold given
  rw [List.filter_eq_self.mpr fun _ _ => rfl]
/-- [e for k in range(n)] -/
theorem el_mapR {ta : TA} {j : Nat} {vs : List Nat} {n : Int} (v : Nat → V) (h : EvA ta σ H [.int n]) (hn : 0 ≤ n ∧ n ≤ 40000) (hw : ∀ x, wipe ((wipe σ vs).set j (some x)) vs = wipe σ vs)
    (he : ∀ (i : Nat) H1, Ex H H1 → (i : Int) < n → Ev te ((wipe σ vs).set j (some (.int (i : Int)))) H1 (v i)) :
    EvL (tLc (iRng1 ta) (gName j) tYes te vs) σ H ((List.range n.toNat).map v) := by
  have z := el_lcR1 (te := te) (t := tYes) (fun _ => true) v h hn hw (fun _ _ _ _ => et_yes) (fun i H1 e hi _ => he i H1 e hi)
  rw [given_all] at z
  exact z
theorem map_ix {α : Type} (xs : List α) (d : α) (f : α → V) : (List.range xs.length).map (fun i => f (xs.getD i d)) = xs.map f := by
  apply List.ext_getElem?
  intro i
  rw [List.getElem?_map, List.getElem?_map]
  by_cases h : i < xs.length
  · rw [List.getElem?_range h, List.getElem?_eq_getElem h]
    simp [List.getD, List.getElem?_eq_getElem h]
  · rw [List.getElem?_eq_none (by simpa using h), List.getElem?_eq_none (by omega)]
    rfl
/-- [e for x in xs], xs a list -/
theorem el_mapL {a : Addr} {xs : List V} {j : Nat} {vs : List Nat} (f : V → V) (h : Ev tl σ H (.ref a)) (hx : SqL K H a xs) (hz : xs.length ≤ 40000) (hw : ∀ x, wipe ((wipe σ vs).set j (some x)) vs = wipe σ vs)
    (he : ∀ (x : V) H1, Ex H H1 → x ∈ xs → Ev te ((wipe σ vs).set j (some x)) H1 (f x)) :
    EvL (tLc (iList K tl) (gName j) tYes te vs) σ H (xs.map f) := by
  have z := el_lcL (te := te) (t := tYes) (fun _ => true) (fun i => f (xs.getD i .non)) h hx hz hw (fun _ _ _ _ _ => et_yes) (fun i x H1 e hi _ => by
    have e1 : xs.getD i .non = x := by simp [List.getD, hi]
    rw [e1]
    exact he x H1 e (List.mem_of_getElem? hi))
  rw [given_all, map_ix] at z
  exact z
theorem el_mapT {a : Addr} {xs : List V} {j : Nat} {vs : List Nat} (f : V → V) (h : Ev tl σ H (.ref a)) (hx : SqT K H a xs) (hz : xs.length ≤ 40000) (hw : ∀ x, wipe ((wipe σ vs).set j (some x)) vs = wipe σ vs)
    (he : ∀ (x : V) H1, Ex H H1 → x ∈ xs → Ev te ((wipe σ vs).set j (some x)) H1 (f x)) :
    EvL (tLc (iTup K tl) (gName j) tYes te vs) σ H (xs.map f) := by
  have z := el_lcT (te := te) (tt := tYes) (fun _ => true) (fun i => f (xs.getD i .non)) h hx hz hw (fun _ _ _ _ _ => et_yes) (fun i x H1 e hi _ => by
    have e1 : xs.getD i .non = x := by simp [List.getD, hi]
    rw [e1]
    exact he x H1 e (List.mem_of_getElem? hi))
  rw [given_all, map_ix] at z
  exact z
theorem eu_tupS {xs : List V} (h : EvL te σ H xs) : EvU (tCB (oTupS K) (tCons te tNil)) σ H xs := fun H1 e Q q =>
  h H1 e _ fun p H2 hp e2 h2 => ⟨p, xs, rfl, Or.inl ⟨sq_of h2, fun l hl => q l _ (fresh_back e2 hl) (e2.trans (Ex.new hl)) upd_same⟩⟩
theorem eu_call {sp : Sp} {dvs vs xs : List V} {E : XK} {ta : TA} (h : EvA ta σ H vs) (hs : SpU sp (vs ++ dvs) H xs) : EvU (tCall sp dvs E ta) σ H xs := fun H1 e Q q =>
  h H1 e _ fun H2 e2 => hs H2 (e.trans e2) Q (fun p H3 hp e3 h3 => q p H3 (fresh_back e2 hp) (e2.trans e3) h3) E
theorem ev_lenS {p : Addr} {xs : List V} (ha : Ev ta σ H (.ref p)) (h : SqL K H p xs ∨ SqT K H p xs) : Ev (tCB (rLenS K) (tCons ta tNil)) σ H (.int (xs.length : Int)) := fun H1 e Q q =>
  ha H1 e _ fun H2 e2 => ⟨p, xs, rfl, h.imp (fun h => ex_l (e.trans e2) h) (fun h => ex_t (e.trans e2) h), q H2 e2⟩
theorem TyB.ex {T : String} (e : Ex H H') (h : TyB K H x T) : TyB K H' x T := by
  cases h with
  | non => exact .non
  | bl b => exact .bl b
  | int i => exact .int i
  | str x => exact .str x
  | byt b => exact .byt b
  | lst h => exact .lst (ex_l e h)
  | tup h => exact .tup (ex_t e h)
  | dK h => exact .dK (e _ _ h)
theorem ev_type {T : String} (ha : Ev ta σ H x) (h : TyB K H x T) : Ev (tCB (rTyp K) (tCons ta tNil)) σ H (.ty T) := fun H1 e Q q =>
  ha H1 e _ fun H2 e2 => ⟨x, T, rfl, TyB.ex (e.trans e2) h, q H2 e2⟩
theorem rv_isTy {a b : String} : RV oIsTy (.ty a) (.ty b) H (.bl (decide (a = b))) := fun H1 _ Q q => ⟨a, b, rfl, rfl, q H1 (Ex.refl H1)⟩
theorem rv_notTy {a b : String} : RV rNT (.ty a) (.ty b) H (.bl (!decide (a = b))) := fun H1 _ Q q => ⟨a, b, rfl, rfl, q H1 (Ex.refl H1)⟩
/-- a chain of two comparisons of ints -/
theorem ev_chainI {f g : Int → Int → Bool} {tc : TE} {i j k : Int} (ha : Ev ta σ H (.int i)) (hb : Ev tb σ H (.int j)) (hc : f i j = true → Ev tc σ H (.int k)) :
    Ev (tChain (rI0 fun i j => .bl (f i j)) (rI0 fun i j => .bl (g i j)) ta tb tc) σ H (.bl (f i j && g j k)) := fun H1 e Q q =>
  ha H1 e _ fun H2 e2 => hb H2 (e.trans e2) _ fun H3 e3 => ⟨i, j, rfl, rfl, f i j, rfl, by
    cases hf : f i j with
    | true =>
      refine iteT (hc hf H3 ((e.trans e2).trans e3) _ fun H4 e4 => ⟨j, k, rfl, rfl, ?_⟩)
      have := q H4 ((e2.trans e3).trans e4)
      rw [hf] at this
      exact this
    | false =>
      refine iteF ?_
      have := q H3 (e2.trans e3)
      rw [hf] at this
      exact this⟩
theorem ev_all {xs : List V} {bs : List Bool} (h : EvL te σ H xs) (hb : xs = bs.map V.bl) : Ev (tCB (rAll K) (tCons te tNil)) σ H (.bl (bs.all id)) := fun H1 e Q q =>
  h H1 e _ fun p H2 _ e2 h2 => ⟨p, bs, rfl, by rw [← hb]; exact sq_of h2, q H2 e2⟩
end
/-! ### the mathematics of rules and pieces -/
structure Good (s w : Int) (tab : List Int) : Prop where
  s2 : 2 ≤ s
  s4 : s ≤ 4
  w1 : 1 ≤ w
  w4 : w ≤ 4
  len : (tab.length : Int) = s ^ w.toNat
  l16 : tab.length ≤ 16
  rng : ∀ x ∈ tab, 0 ≤ x ∧ x < s
def InS (s : Int) (cells : List Int) : Prop := ∀ x ∈ cells, 0 ≤ x ∧ x < s
def numOf (s : Int) (cells : List Int) : Int := cells.foldl (fun n c => n * s + c) 0
def signsFrom (s w : Int) (tab cells : List Int) : List Int := (List.range (cells.length + 1 - w.toNat)).map fun i => tab.getD (numOf s ((cells.drop i).take w.toNat)).toNat 0
structure RuleAt (K : PySem.W.Frag) (H : Hp) (r t : Addr) (s w : Int) (tab : List Int) : Prop where
  top : SqT K H r [.int s, .int w, .ref t]
  tab : IT K H t tab
theorem RuleAt.ex {K : PySem.W.Frag} {H H' : Hp} {r t : Addr} {s w : Int} {tab : List Int} (e : Ex H H') (h : RuleAt K H r t s w tab) : RuleAt K H' r t s w tab := ⟨ex_t e h.top, ex_t e h.tab⟩
theorem InS.take {s : Int} {l : List Int} (h : InS s l) (n : Nat) : InS s (l.take n) := fun x hx => h x (List.mem_of_mem_take hx)
theorem InS.drop {s : Int} {l : List Int} (h : InS s l) (n : Nat) : InS s (l.drop n) := fun x hx => h x (List.mem_of_mem_drop hx)
theorem numOf_app (s : Int) (l : List Int) (x : Int) : numOf s (l ++ [x]) = numOf s l * s + x := by
  unfold numOf
  rw [List.foldl_append]
  rfl
theorem snocInd {α : Type} {P : List α → Prop} (h0 : P []) (h1 : ∀ l x, P l → P (l ++ [x])) : ∀ l, P l := fun l => by
  have z : ∀ r : List α, P r.reverse := fun r => by
    induction r with
    | nil => exact h0
    | cons x r ih =>
      rw [List.reverse_cons]
      exact h1 _ _ ih
  have y := z l.reverse
  rw [List.reverse_reverse] at y
  exact y
theorem numOf_bound {s : Int} (h2 : 2 ≤ s) : ∀ {l : List Int}, InS s l → 0 ≤ numOf s l ∧ numOf s l < s ^ l.length := by
  intro l
  refine snocInd (P := fun l => InS s l → 0 ≤ numOf s l ∧ numOf s l < s ^ l.length) ?_ ?_ l
  · intro _; exact ⟨Int.le_refl _, by show (0 : Int) < s ^ 0; simp⟩
  · intro l x ih h
    have hl : InS s l := fun y hy => h y (List.mem_append_left _ hy)
    have hx := h x (List.mem_append_right _ List.mem_cons_self)
    obtain ⟨a, b⟩ := ih hl
    rw [numOf_app]
    refine ⟨?_, ?_⟩
    · have := Int.mul_nonneg a (show 0 ≤ s by omega)
      omega
    · rw [List.length_append, List.length_singleton, Int.pow_succ]
      have h1 : numOf s l + 1 ≤ s ^ l.length := b
      have h2 := Int.mul_le_mul_of_nonneg_right h1 (show 0 ≤ s by omega)
      rw [Int.add_mul] at h2
      omega
def isFT (x : V) (a b : Int) : Bool := match x with
  | .int i => decide (a ≤ i) && decide (i ≤ b)
  | _ => false
end Br

namespace Br
open PySem PySem.Spec PyProof.Rows L2 Evl
section
variable {K : PySem.W.Frag} {c : Cl}
/-! ### _is_from_to -/
def sp_is_from_to (K : PySem.W.Frag) (c : Cl) : Sp := fun vs H Q _ => ∃ (x : V) (a b : Int) (T : String), vs = [x, .int a, .int b] ∧ TyB K H x T ∧ RetV (.bl (isFT x a b)) H Q
def t_is_from_to (K : PySem.W.Frag) (c : Cl) (E : XK) : TS :=
(tRet (tAndV (tOp oIsTy (tCB (rTyp K) (tCons (tVar 0) tNil)) (tC (.ty "int"))) (tChain oLe oLe (tVar 1) (tVar 0) (tVar 2))))
theorem len_is_from_to (vs : List V) (H : Hp) (Q : VK) (E : XK) (h : sp_is_from_to K c vs H Q E) : vs.length = 3 := by
  obtain ⟨x, a, b, T, rfl, _⟩ := h
  rfl
theorem pure_is_from_to (vs : List V) (H : Hp) (Q : VK) (E : XK) (h : sp_is_from_to K c vs H Q E) : t_is_from_to K c E { nx := fun _ H' => Q .non H', rt := Q } (start' 3 vs) H := by
  obtain ⟨x, a, b, T, rfl, ty, q⟩ := h
  refine s_ret (v := .bl (isFT x a b)) ?_ q
  have e1 : Ev (tOp oIsTy (tCB (rTyp K) (tCons (tVar 0) tNil)) (tC (.ty "int"))) (start' 3 [x, .int a, .int b]) H (.bl (decide (T = "int"))) := ev_op (ev_type (ev_var rfl) ty) ev_c rv_isTy
  cases ty with
  | int i =>
    have e2 : Ev (tChain oLe oLe (tVar 1) (tVar 0) (tVar 2)) (start' 3 [.int i, .int a, .int b]) H (.bl (decide (a ≤ i) && decide (i ≤ b))) :=
      ev_chainI (f := fun i j => decide (i ≤ j)) (g := fun i j => decide (i ≤ j)) (ev_var rfl) (ev_var rfl) (fun _ => ev_var rfl)
    exact ev_is (ev_andV e1 (fun _ => e2)) (by simp [isFT])
  | _ => exact ev_is (ev_andV (b := false) e1 (fun h => absurd (of_decide_eq_true h) (by decide))) (by simp [isFT])
theorem spv_is_from_to {H : Hp} {x : V} {a b : Int} {T : String} (ty : TyB K H x T) : SpV (sp_is_from_to K c) [x, .int a, .int b] H (.bl (isFT x a b)) := fun H1 e Q q E => ⟨x, a, b, T, rfl, TyB.ex e ty, q⟩
/-! ### rows_of -/
def sp_rows_of (K : PySem.W.Frag) (c : Cl) : Sp := fun vs H Q _ => ∃ (s w : Int), vs = [.int s, .int w] ∧ -1000 ≤ s ∧ s ≤ 1000 ∧ 0 ≤ w ∧ w ≤ 100 ∧ RetV (.int (s ^ w.toNat)) H Q
def t_rows_of (K : PySem.W.Frag) (c : Cl) (E : XK) : TS :=
(tSeq (tAsg (tC (.int 1)) (gName 2))
    (tSeq (tFor (iRng1 (tCons (tVar 1) tNil)) (gName 3) (tAsg (tOp oMul (tVar 2) (tVar 0)) (gName 2)))
    (tRet (tVar 2))))
theorem len_rows_of (vs : List V) (H : Hp) (Q : VK) (E : XK) (h : sp_rows_of K c vs H Q E) : vs.length = 2 := by
  obtain ⟨s, w, rfl, _⟩ := h
  rfl
theorem pure_rows_of (vs : List V) (H : Hp) (Q : VK) (E : XK) (h : sp_rows_of K c vs H Q E) : t_rows_of K c E { nx := fun _ H' => Q .non H', rt := Q } (start' 4 vs) H := by
  obtain ⟨s, w, rfl, s1, s2, w0, w1, q⟩ := h
  refine q_asg (v := .int 1) ev_c fun H1 e1 => ?_
  refine q_forR1 (n := w) (ea_cons (ev_var rfl) ea_nil) (by omega) (fun i σ' H' => ∃ y, σ' = [some (.int s), some (.int w), some (.int (s ^ i)), y] ∧ Ex H H') (fun H2 e2 => ⟨none, by simp [start'], e1.trans e2⟩) ?_ ?_
  · rintro i σ' H' hi ⟨y, rfl, e⟩
    refine s_asg (v := .int (s ^ (i + 1))) ?_ fun H2 e2 => ⟨some (.int i), rfl, e.trans e2⟩
    refine ev_is (v := .int (s ^ i * s)) ?_ (by rw [Int.pow_succ])
    (repeat' first
        | exact ev_c
        | exact ev_var rfl
        | exact ea_nil
        | exact eo_none
        | apply ea_cons
        | apply ev_op
        | apply ev_un
        | apply eo_some
        | exact rv_I0
        | exact ru_neg
        | exact et_yes
        | apply et_test
        | apply et_B
        | apply et_not
        | apply rv_mod
        | apply rv_div
        | apply rv_mul
        | apply rv_eqI
        | apply rv_neI
        | exact rv_isTy
        | exact rv_notTy
        | (apply ev_lenS; rotate_left)
        | exact rv_ixT (by assumption) rfl)
    exact Or.inr ⟨by omega, by omega⟩
  · rintro σ' H' ⟨y, rfl, e⟩
    exact s_ret (ev_var rfl) fun H2 e2 => q H2 (e.trans e2)
theorem spv_rows_of {H : Hp} {s w : Int} (s1 : -1000 ≤ s) (s2 : s ≤ 1000) (w0 : 0 ≤ w) (w1 : w ≤ 100) : SpV (sp_rows_of K c) [.int s, .int w] H (.int (s ^ w.toNat)) := fun H1 e Q q E => ⟨s, w, rfl, s1, s2, w0, w1, q⟩
/-! ### number_of -/
def sp_number_of (K : PySem.W.Frag) (c : Cl) : Sp := fun vs H Q _ => ∃ (s : Int) (a : Addr) (cells : List Int), vs = [.int s, .ref a] ∧ -1000 ≤ s ∧ s ≤ 1000 ∧ (IL K H a cells ∨ IT K H a cells) ∧ RetV (.int (numOf s cells)) H Q
def t_number_of (K : PySem.W.Frag) (c : Cl) (E : XK) : TS :=
(tSeq (tAsg (tC (.int 0)) (gName 2))
    (tSeq (tFor (iOr (iList K (tVar 1)) (iTup K (tVar 1))) (gName 3) (tAsg (tOp oAdd (tOp oMul (tVar 2) (tVar 0)) (tVar 3)) (gName 2)))
    (tRet (tVar 2))))
theorem len_number_of (vs : List V) (H : Hp) (Q : VK) (E : XK) (h : sp_number_of K c vs H Q E) : vs.length = 2 := by
  obtain ⟨s, a, cells, rfl, _⟩ := h
  rfl
theorem int_at {ns : List Int} {i : Nat} {y : V} (hi : (ns.map V.int)[i]? = some y) : ∃ z, ns[i]? = some z ∧ y = V.int z := by
  rw [List.getElem?_map] at hi
  cases e : ns[i]? with
  | none =>
    rw [e] at hi
    cases hi
  | some z =>
    rw [e] at hi
    exact ⟨z, rfl, (Option.some.inj hi).symm⟩
theorem take_more {α : Type} {l : List α} {i : Nat} {x : α} (h : l[i]? = some x) : l.take (i + 1) = l.take i ++ [x] := by
  rw [List.take_add_one, h]
  rfl
theorem pure_number_of (vs : List V) (H : Hp) (Q : VK) (E : XK) (h : sp_number_of K c vs H Q E) : t_number_of K c E { nx := fun _ H' => Q .non H', rt := Q } (start' 4 vs) H := by
  obtain ⟨s, a, cells, rfl, s1, s2, hc, q⟩ := h
  refine q_asg (v := .int 0) ev_c fun H1 e1 => ?_
  have turn : ∀ (i : Nat) (x : V) (σ' : L2.St) (H' : Hp) (D : Ends), (cells.map V.int)[i]? = some x → (∃ y, σ' = [some (.int s), some (.ref a), some (.int (numOf s (cells.take i))), y] ∧ Ex H H') →
      (∀ σ2 H2, (∃ y, σ2 = [some (.int s), some (.ref a), some (.int (numOf s (cells.take (i + 1)))), y] ∧ Ex H H2) → D.nx σ2 H2) →
      tAsg (tOp oAdd (tOp oMul (tVar 2) (tVar 0)) (tVar 3)) (gName 2) D (σ'.set 3 (some x)) H' := by
    rintro i x σ' H' D hi ⟨y, rfl, e⟩ k
    obtain ⟨z, hz, rfl⟩ := int_at hi
    refine s_asg (v := .int (numOf s (cells.take (i + 1)))) ?_ fun H2 e2 => k _ _ ⟨some (.int z), rfl, e.trans e2⟩
    refine ev_is (v := .int (numOf s (cells.take i) * s + z)) ?_ (by rw [take_more hz, numOf_app])
    (repeat' first
        | exact ev_c
        | exact ev_var rfl
        | exact ea_nil
        | exact eo_none
        | apply ea_cons
        | apply ev_op
        | apply ev_un
        | apply eo_some
        | exact rv_I0
        | exact ru_neg
        | exact et_yes
        | apply et_test
        | apply et_B
        | apply et_not
        | apply rv_mod
        | apply rv_div
        | apply rv_mul
        | apply rv_eqI
        | apply rv_neI
        | exact rv_isTy
        | exact rv_notTy
        | (apply ev_lenS; rotate_left)
        | exact rv_ixT (by assumption) rfl)
    exact Or.inr ⟨by omega, by omega⟩
  have fin : ∀ (D : Ends) σ' H', D.rt = Q → (∃ y, σ' = [some (.int s), some (.ref a), some (.int (numOf s (cells.take (cells.map V.int).length))), y] ∧ Ex H H') → tRet (tVar 2) D σ' H' := by
    rintro D σ' H' hD ⟨y, rfl, e⟩
    rw [List.length_map, List.take_length]
    refine s_ret (ev_var rfl) fun H2 e2 => ?_
    rw [hD]
    exact q H2 (e.trans e2)
  rcases hc with hc | hc
  · exact for_l (q_forLn (ev_var rfl) (ex_l e1 hc) (fun i σ' H' => ∃ y, σ' = [some (.int s), some (.ref a), some (.int (numOf s (cells.take i))), y] ∧ Ex H H') (fun H2 e2 => ⟨none, by simp [start', numOf], e1.trans e2⟩)
      (fun i σ' H' _ ⟨_, _, e⟩ => ex_l e hc) (fun i x σ' H' hi p => turn i x σ' H' _ hi p fun _ _ z => z) (fun σ' H' p => fin _ σ' H' rfl p))
  · exact for_r (q_forT (g := gName 3) (ev_var rfl) (ex_t e1 hc) (fun i σ' H' => ∃ y, σ' = [some (.int s), some (.ref a), some (.int (numOf s (cells.take i))), y] ∧ Ex H H') (fun H2 e2 => ⟨none, by simp [start', numOf], e1.trans e2⟩)
      (fun i σ' H' _ ⟨_, _, e⟩ => ex_t e hc) (fun i x σ' H' hi p => turn i x σ' H' _ hi p fun _ _ z => z) (fun σ' H' p => fin _ σ' H' rfl p))
theorem spv_number_of {H : Hp} {s : Int} {a : Addr} {cells : List Int} (s1 : -1000 ≤ s) (s2 : s ≤ 1000) (hc : IL K H a cells ∨ IT K H a cells) : SpV (sp_number_of K c) [.int s, .ref a] H (.int (numOf s cells)) := fun H1 e Q q E =>
  ⟨s, a, cells, rfl, s1, s2, hc.imp (ex_l e) (ex_t e), q⟩
/-! ### has_room -/
def sp_has_room (K : PySem.W.Frag) (c : Cl) : Sp := fun vs H Q _ => ∃ (s w : Int), vs = [.int s, .int w] ∧ -1000 ≤ s ∧ s ≤ 1000 ∧ 0 ≤ w ∧ w ≤ 100 ∧ RetV (.bl (decide (w ≤ 4) && decide (s ^ w.toNat ≤ 16))) H Q
def t_has_room (K : PySem.W.Frag) (c : Cl) (E : XK) : TS :=
(tRet (tAndV (tOp oLe (tVar 1) (tC (.int 4))) (tOp oLe (tCall (sp_rows_of K c) [] E0 (tCons (tVar 0) (tCons (tVar 1) tNil))) (tC (.int 16)))))
theorem len_has_room (vs : List V) (H : Hp) (Q : VK) (E : XK) (h : sp_has_room K c vs H Q E) : vs.length = 2 := by
  obtain ⟨s, w, rfl, _⟩ := h
  rfl
theorem pure_has_room (vs : List V) (H : Hp) (Q : VK) (E : XK) (h : sp_has_room K c vs H Q E) : t_has_room K c E { nx := fun _ H' => Q .non H', rt := Q } (start' 2 vs) H := by
  obtain ⟨s, w, rfl, s1, s2, w0, w1, q⟩ := h
  refine s_ret (ev_andV (a := decide (w ≤ 4)) (b := decide (s ^ w.toNat ≤ 16)) ?_ fun _ => ?_) q
  · (repeat' first
        | exact ev_c
        | exact ev_var rfl
        | exact ea_nil
        | exact eo_none
        | apply ea_cons
        | apply ev_op
        | apply ev_un
        | apply eo_some
        | exact rv_I0
        | exact ru_neg
        | exact et_yes
        | apply et_test
        | apply et_B
        | apply et_not
        | apply rv_mod
        | apply rv_div
        | apply rv_mul
        | apply rv_eqI
        | apply rv_neI
        | exact rv_isTy
        | exact rv_notTy
        | (apply ev_lenS; rotate_left)
        | exact rv_ixT (by assumption) rfl)
  · exact ev_op (ev_call (ea_cons (ev_var rfl) (ea_cons (ev_var rfl) ea_nil)) (spv_rows_of s1 s2 w0 w1)) ev_c rv_I0
theorem spv_has_room {H : Hp} {s w : Int} (s1 : -1000 ≤ s) (s2 : s ≤ 1000) (w0 : 0 ≤ w) (w1 : w ≤ 100) : SpV (sp_has_room K c) [.int s, .int w] H (.bl (decide (w ≤ 4) && decide (s ^ w.toNat ≤ 16))) := fun H1 e Q q E => ⟨s, w, rfl, s1, s2, w0, w1, q⟩
/-! ### are_signs -/
def sp_are_signs (K : PySem.W.Frag) (c : Cl) : Sp := fun vs H Q _ => ∃ (s : Int) (a : Addr) (xs : List V), vs = [.int s, .ref a] ∧ (SqL K H a xs ∨ SqT K H a xs) ∧ (∀ x ∈ xs, ∃ T, TyB K H x T) ∧ xs.length ≤ 40000 ∧ RetV (.bl (xs.all fun x => isFT x 0 (s - 1))) H Q
def t_are_signs (K : PySem.W.Frag) (c : Cl) (E : XK) : TS :=
(tRet (tCB (rAll K) (tCons (tLc (iOr (iList K (tVar 1)) (iTup K (tVar 1))) (gName 2) tYes (tCall (sp_is_from_to K c) [] E0 (tCons (tVar 2) (tCons (tC (.int 0)) (tCons (tOp oSub (tVar 0) (tC (.int 1))) tNil)))) [2]) tNil)))
theorem len_are_signs (vs : List V) (H : Hp) (Q : VK) (E : XK) (h : sp_are_signs K c vs H Q E) : vs.length = 2 := by
  obtain ⟨s, a, xs, rfl, _⟩ := h
  rfl
theorem pure_are_signs (vs : List V) (H : Hp) (Q : VK) (E : XK) (h : sp_are_signs K c vs H Q E) : t_are_signs K c E { nx := fun _ H' => Q .non H', rt := Q } (start' 3 vs) H := by
  obtain ⟨s, a, xs, rfl, hx, ty, hl, q⟩ := h
  have he : ∀ (x : V) H1, Ex H H1 → x ∈ xs → Ev (tCall (sp_is_from_to K c) [] E0 (tCons (tVar 2) (tCons (tC (.int 0)) (tCons (tOp oSub (tVar 0) (tC (.int 1))) tNil)))) ((wipe (start' 3 [.int s, .ref a]) [2]).set 2 (some x)) H1 (.bl (isFT x 0 (s - 1))) := by
    intro x H1 e hm
    obtain ⟨T, t⟩ := ty x hm
    refine ev_call (ea_cons (ev_var rfl) (ea_cons ev_c (ea_cons ?_ ea_nil))) (spv_is_from_to (T := T) (TyB.ex e t))
    (repeat' first
        | exact ev_c
        | exact ev_var rfl
        | exact ea_nil
        | exact eo_none
        | apply ea_cons
        | apply ev_op
        | apply ev_un
        | apply eo_some
        | exact rv_I0
        | exact ru_neg
        | exact et_yes
        | apply et_test
        | apply et_B
        | apply et_not
        | apply rv_mod
        | apply rv_div
        | apply rv_mul
        | apply rv_eqI
        | apply rv_neI
        | exact rv_isTy
        | exact rv_notTy
        | (apply ev_lenS; rotate_left)
        | exact rv_ixT (by assumption) rfl)
  refine s_ret (v := .bl (xs.all fun x => isFT x 0 (s - 1))) ?_ q
  have fin : ∀ {te : TE}, EvL te (start' 3 [.int s, .ref a]) H (xs.map fun x => V.bl (isFT x 0 (s - 1))) → Ev (tCB (rAll K) (tCons te tNil)) (start' 3 [.int s, .ref a]) H (.bl (xs.all fun x => isFT x 0 (s - 1))) := fun h =>
    ev_is (ev_all (bs := xs.map fun x => isFT x 0 (s - 1)) h (by rw [List.map_map]; rfl)) (by rw [List.all_map]; rfl)
  rcases hx with hx | hx
  · exact fin (el_l (el_mapL (fun x => V.bl (isFT x 0 (s - 1))) (ev_var rfl) hx hl (fun _ => rfl) he))
  · exact fin (el_r (el_mapT (fun x => V.bl (isFT x 0 (s - 1))) (ev_var rfl) hx hl (fun _ => rfl) he))
theorem spv_are_signs {H : Hp} {s : Int} {a : Addr} {xs : List V} (hx : SqL K H a xs ∨ SqT K H a xs) (ty : ∀ x ∈ xs, ∃ T, TyB K H x T) (hl : xs.length ≤ 40000) : SpV (sp_are_signs K c) [.int s, .ref a] H (.bl (xs.all fun x => isFT x 0 (s - 1))) := fun H1 e Q q E =>
  ⟨s, a, xs, rfl, hx.imp (ex_l e) (ex_t e), fun x hm => (ty x hm).imp fun T t => TyB.ex e t, hl, q⟩
theorem ints_ty {H : Hp} (ns : List Int) : ∀ x ∈ ns.map V.int, ∃ T, TyB K H x T := fun x hx => by
  obtain ⟨i, _, rfl⟩ := List.mem_map.mp hx
  exact ⟨_, .int i⟩
theorem ints_all {s : Int} {ns : List Int} (h : InS s ns) : ((ns.map V.int).all fun x => isFT x 0 (s - 1)) = true := by
  rw [List.all_map, List.all_eq_true]
  intro x hx
  have := h x hx
  show (decide (0 ≤ x) && decide (x ≤ s - 1)) = true
  rw [Bool.and_eq_true, decide_eq_true_iff, decide_eq_true_iff]
  omega
end
end Br

namespace Br
open PySem PySem.Spec PyProof.Rows L2 Evl
section
variable {K : PySem.W.Frag} {σ : L2.St} {H H' : Hp} {te : TE} {D : Ends} {tz : TS}
theorem q_unpack3 {i j k : Nat} {a : Addr} {x y z : V} (h : Ev te σ H (.ref a)) (hs : SqT K H a [x, y, z]) (q : ∀ H1, Ex H H1 → tz D (((σ.set i (some x)).set j (some y)).set k (some z)) H1) :
    tSeq (tAsg te (gTup K 3 (gCons (gName i) (gCons (gName j) (gCons (gName k) gNil))))) tz D σ H := h H (Ex.refl H) _ fun H1 e1 =>
  ⟨a, [x, y, z], rfl, ex_t e1 hs, rfl, x, [y, z], rfl, y, [z], rfl, z, [], rfl, rfl, q H1 e1⟩
theorem q_unpack2 {i j : Nat} {a : Addr} {x y : V} (h : Ev te σ H (.ref a)) (hs : SqT K H a [x, y]) (q : ∀ H1, Ex H H1 → tz D ((σ.set i (some x)).set j (some y)) H1) :
    tSeq (tAsg te (gTup K 2 (gCons (gName i) (gCons (gName j) gNil)))) tz D σ H := h H (Ex.refl H) _ fun H1 e1 =>
  ⟨a, [x, y], rfl, ex_t e1 hs, rfl, x, [y], rfl, y, [], rfl, rfl, q H1 e1⟩
/-- f(x, a new list) -/
theorem ev_call_vl {sp : Sp} {E : XK} {ta tb : TE} {x z : V} {xs : List V} (h1 : Ev ta σ H x) (h2 : EvL tb σ H xs) (hs : ∀ p H1, H1 p = some (.lst xs) → Ex H H1 → SpV sp [x, .ref p] H1 z) : Ev (tCall sp [] E (tCons ta (tCons tb tNil))) σ H z := fun H1 e Q q =>
  h1 H1 e _ fun H2 e2 => h2 H2 (e.trans e2) _ fun p H3 _ e3 h3 => hs p H3 h3 ((e.trans e2).trans e3) H3 (Ex.refl H3) Q (fun H4 e4 => q H4 ((e2.trans e3).trans e4)) E
theorem el_call_vl {sp : Sp} {E : XK} {ta tb : TE} {x : V} {xs zs : List V} (h1 : Ev ta σ H x) (h2 : EvL tb σ H xs) (hs : ∀ p H1, H1 p = some (.lst xs) → Ex H H1 → SpL sp [x, .ref p] H1 zs) : EvL (tCall sp [] E (tCons ta (tCons tb tNil))) σ H zs := fun H1 e Q q =>
  h1 H1 e _ fun H2 e2 => h2 H2 (e.trans e2) _ fun p H3 _ e3 h3 => hs p H3 h3 ((e.trans e2).trans e3) H3 (Ex.refl H3) Q (fun l H4 hl e4 h4 => q l H4 (fresh_back (e2.trans e3) hl) ((e2.trans e3).trans e4) h4) E
/-- an if without else whose test is false -/
theorem q_unless {t : TT} {tu : TS} (h : EvT t σ H false) (k : ∀ H1, Ex H H1 → tz D σ H1) : tSeq (tIfS t tu tNext) tz D σ H := q_when h (fun z => nomatch z) fun _ => k
theorem s_unless {t : TT} {tu : TS} (h : EvT t σ H false) (k : ∀ H1, Ex H H1 → D.nx σ H1) : tIfS t tu tNext D σ H := s_when h (fun z => nomatch z) fun _ => k
end
section
variable {K : PySem.W.Frag} {c : Cl}
theorem Good.inS {s w : Int} {tab : List Int} (G : Good s w tab) : InS s tab := G.rng
theorem isFT_int {i a b : Int} (h1 : a ≤ i) (h2 : i ≤ b) : isFT (.int i) a b = true := by
  show (decide (a ≤ i) && decide (i ≤ b)) = true
  rw [decide_eq_true h1, decide_eq_true h2]
  rfl
/-! ### is_rule: of any thing; need_rule: of a rule -/
def intOf : V → Int
  | .int i => i
  | _ => 0
theorem isFT_of {x : V} {a b : Int} (h : isFT x a b = true) : ∃ i, x = .int i ∧ a ≤ i ∧ i ≤ b := by
  cases x with
  | int i =>
    have z : (decide (a ≤ i) && decide (i ≤ b)) = true := h
    rw [Bool.and_eq_true, decide_eq_true_iff, decide_eq_true_iff] at z
    exact ⟨i, rfl, z.1, z.2⟩
  | _ => cases h
/-- a thing that is asked whether it is a table -/
inductive TThing (K : PySem.W.Frag) (H : Hp) : V → Option (List V) → Prop
  | other {z : V} {T : String} (h : TyB K H z T) (n : T ≠ "tuple") : TThing K H z none
  | tup {t : Addr} {zs : List V} (h : SqT K H t zs) (ty : ∀ z ∈ zs, ∃ T, TyB K H z T) (hl : zs.length ≤ 40000) : TThing K H (.ref t) (some zs)
def tabB (s w : Int) : Option (List V) → Bool
  | none => false
  | some zs => decide ((zs.length : Int) = s ^ w.toNat) && zs.all fun v => isFT v 0 (s - 1)
def ruleB (x y : V) (o : Option (List V)) : Bool := isFT x 2 4 && (isFT y 1 4 && (decide (intOf x ^ (intOf y).toNat ≤ 16) && tabB (intOf x) (intOf y) o))
/-- a thing that is asked whether it is a rule -/
inductive RThing (K : PySem.W.Frag) (H : Hp) : V → Bool → Prop
  | other {x : V} {T : String} (h : TyB K H x T) (n : T ≠ "tuple") : RThing K H x false
  | size {a : Addr} {xs : List V} (h : SqT K H a xs) (n : xs.length ≠ 3) : RThing K H (.ref a) false
  | tri {a : Addr} {x y z : V} {Tx Ty : String} {o : Option (List V)} (h : SqT K H a [x, y, z]) (hx : TyB K H x Tx) (hy : TyB K H y Ty) (hz : TThing K H z o) : RThing K H (.ref a) (ruleB x y o)
theorem TThing.ex {H H' : Hp} {z : V} {o : Option (List V)} (e : Ex H H') (h : TThing K H z o) : TThing K H' z o := by
  cases h with
  | other h n => exact .other (TyB.ex e h) n
  | tup h ty hl => exact .tup (ex_t e h) (fun x hm => (ty x hm).imp fun T t => TyB.ex e t) hl
theorem RThing.ex {H H' : Hp} {x : V} {b : Bool} (e : Ex H H') (h : RThing K H x b) : RThing K H' x b := by
  cases h with
  | other h n => exact .other (TyB.ex e h) n
  | size h n => exact .size (ex_t e h) n
  | tri h hx hy hz => exact .tri (ex_t e h) (TyB.ex e hx) (TyB.ex e hy) (hz.ex e)
theorem ruleB_ints (s w : Int) (tab : List Int) : ruleB (.int s) (.int w) (some (tab.map V.int)) = (decide (2 ≤ s) && decide (s ≤ 4) && (decide (1 ≤ w) && decide (w ≤ 4) && (decide (s ^ w.toNat ≤ 16) && (decide ((tab.length : Int) = s ^ w.toNat) && tab.all fun i => decide (0 ≤ i) && decide (i ≤ s - 1))))) := by
  show (_ && (_ && (_ && (decide (((tab.map V.int).length : Int) = _) && ((tab.map V.int).all _))))) = _
  rw [List.length_map, List.all_map]
  rfl
theorem Good.ruleB {s w : Int} {tab : List Int} (G : Good s w tab) : ruleB (.int s) (.int w) (some (tab.map V.int)) = true := by
  rw [ruleB_ints]
  have g := G.s2
  have g4 := G.s4
  have g1 := G.w1
  have g3 := G.w4
  have gl := G.len
  have g16 := G.l16
  have ga : (tab.all fun i => decide (0 ≤ i) && decide (i ≤ s - 1)) = true := by
    rw [List.all_eq_true]
    intro i hi
    have := G.rng i hi
    rw [decide_eq_true (show 0 ≤ i by omega), decide_eq_true (show i ≤ s - 1 by omega)]
    rfl
  rw [ga, decide_eq_true g, decide_eq_true g4, decide_eq_true g1, decide_eq_true g3, decide_eq_true gl, decide_eq_true (show s ^ w.toNat ≤ 16 by omega)]
  rfl
theorem good_of {s w : Int} {tab : List Int} (h : Br.ruleB (.int s) (.int w) (some (tab.map V.int)) = true) : Good s w tab := by
  rw [ruleB_ints] at h
  simp only [Bool.and_eq_true, decide_eq_true_iff, List.all_eq_true] at h
  obtain ⟨⟨a, b⟩, ⟨c, d⟩, e, f, g⟩ := h
  exact ⟨a, b, c, d, f, by omega, fun x hx => by have := g x hx; omega⟩
theorem RThing.good {H : Hp} {r t : Addr} {s w : Int} {tab : List Int} (R : RuleAt K H r t s w tab) (G : Good s w tab) : RThing K H (.ref r) true := by
  have z := RThing.tri R.top (.int s) (.int w) (TThing.tup R.tab (ints_ty tab) (by have := G.l16; rw [List.length_map]; omega))
  rw [G.ruleB] at z
  exact z
def sp_is_rule (K : PySem.W.Frag) (c : Cl) : Sp := fun vs H Q _ => ∃ (x : V) (b : Bool), vs = [x] ∧ RThing K H x b ∧ RetV (.bl b) H Q
def t_is_rule (K : PySem.W.Frag) (c : Cl) (E : XK) : TS :=
(tSeq (tIfS (tOr (tTest (tOp rNT (tCB (rTyp K) (tCons (tVar 0) tNil)) (tC (.ty "tuple")))) (tTest (tOp rNe (tCB (Evl.rLenS K) (tCons (tVar 0) tNil)) (tC (.int 3))))) (tRet (tC (.bl false))) tNext)
    (tSeq (tAsg (tVar 0) (gTup K 3 (gCons (gName 1) (gCons (gName 2) (gCons (gName 3) gNil)))))
    (tSeq (tIfS (tOr (tNot (tB (tCall (sp_is_from_to K c) [] E0 (tCons (tVar 1) (tCons (tC (.int 2)) (tCons (tC (.int 4)) tNil)))))) (tNot (tB (tCall (sp_is_from_to K c) [] E0 (tCons (tVar 2) (tCons (tC (.int 1)) (tCons (tC (.int 4)) tNil))))))) (tRet (tC (.bl false))) tNext)
    (tSeq (tIfS (tNot (tB (tCall (sp_has_room K c) [] E0 (tCons (tVar 1) (tCons (tVar 2) tNil))))) (tRet (tC (.bl false))) tNext)
    (tSeq (tIfS (tOr (tTest (tOp rNT (tCB (rTyp K) (tCons (tVar 3) tNil)) (tC (.ty "tuple")))) (tTest (tOp rNe (tCB (Evl.rLenS K) (tCons (tVar 3) tNil)) (tCall (sp_rows_of K c) [] E0 (tCons (tVar 1) (tCons (tVar 2) tNil)))))) (tRet (tC (.bl false))) tNext)
    (tRet (tCall (sp_are_signs K c) [] E0 (tCons (tVar 1) (tCons (tVar 3) tNil)))))))))
theorem len_is_rule (vs : List V) (H : Hp) (Q : VK) (E : XK) (h : sp_is_rule K c vs H Q E) : vs.length = 1 := by
  obtain ⟨x, b, rfl, _⟩ := h
  rfl
theorem pure_is_rule (vs : List V) (H : Hp) (Q : VK) (E : XK) (h : sp_is_rule K c vs H Q E) : t_is_rule K c E { nx := fun _ H' => Q .non H', rt := Q } (start' 4 vs) H := by
  obtain ⟨x, b, rfl, p, q⟩ := h
  cases p with
  | other ty n =>
    refine q_when (b := true) (et_or (a := true) (b := true) (et_test (ev_is (ev_op (ev_type (ev_var rfl) ty) ev_c rv_notTy) (by rw [decide_eq_false n]; rfl))) fun z => nomatch z) (fun _ H1 e1 => s_ret ev_c fun H2 e2 => q H2 (e1.trans e2)) fun z => nomatch z
  | size h n =>
    refine q_when (b := true) (et_or (a := false) (b := true) (et_test (ev_is (ev_op (ev_type (ev_var rfl) (.tup h)) ev_c rv_notTy) (by simp))) fun _ => et_test (ev_is (ev_op (ev_lenS (ev_var rfl) (Or.inr h)) ev_c rv_neI) ?_)) (fun _ H1 e1 => s_ret ev_c fun H2 e2 => q H2 (e1.trans e2)) fun z => nomatch z
    rw [decide_eq_false (by omega)]
    rfl
  | @tri a x y z Tx Ty o hr hx hy hz =>
    refine q_unless (et_is (et_or (a := false) (b := false) ?_ fun _ => ?_) rfl) fun H1 e1 => ?_
    · exact et_test (ev_is (ev_op (ev_type (ev_var rfl) (.tup hr)) ev_c rv_notTy) (by simp))
    · exact et_test (ev_is (ev_op (ev_lenS (ev_var rfl) (Or.inr hr)) ev_c rv_neI) (by simp))
    refine q_unpack3 (ev_var rfl) (ex_t e1 hr) fun H2 e2 => ?_
    have E2 := e1.trans e2
    refine q_when (et_or (a := !isFT x 2 4) (b := !isFT y 1 4) ?_ fun _ => ?_) (fun hb H3 e3 => ?_) fun hb H3 e3 => ?_
    · exact et_not (et_B (ev_call (ea_cons (ev_var rfl) (ea_cons ev_c (ea_cons ev_c ea_nil))) (spv_is_from_to (TyB.ex E2 hx))))
    · exact et_not (et_B (ev_call (ea_cons (ev_var rfl) (ea_cons ev_c (ea_cons ev_c ea_nil))) (spv_is_from_to (TyB.ex E2 hy))))
    · refine s_ret (ev_is ev_c ?_) fun H4 e4 => q H4 ((E2.trans e3).trans e4)
      show V.bl false = V.bl (isFT x 2 4 && (isFT y 1 4 && _))
      cases h1 : isFT x 2 4 with
      | false => rfl
      | true =>
        rw [h1] at hb
        cases h2 : isFT y 1 4 with
        | false => rfl
        | true =>
          rw [h2] at hb
          cases hb
    have h1 : isFT x 2 4 = true := by
      cases h : isFT x 2 4 with
      | true => rfl
      | false => rw [h] at hb; cases hb
    have h2 : isFT y 1 4 = true := by
      cases h : isFT y 1 4 with
      | true => rfl
      | false => rw [h1, h] at hb; cases hb
    obtain ⟨s, rfl, g, g4⟩ := isFT_of h1
    obtain ⟨w, rfl, g1, g3⟩ := isFT_of h2
    have eB : ruleB (.int s) (.int w) o = (decide (s ^ w.toNat ≤ 16) && tabB s w o) := by
      show (isFT (.int s) 2 4 && (isFT (.int w) 1 4 && _)) = _
      rw [h1, h2]
      rfl
    rw [eB] at q
    refine q_when (et_not (et_B (ev_call (ea_cons (ev_var rfl) (ea_cons (ev_var rfl) ea_nil)) (spv_has_room (by omega) (by omega) (by omega) (by omega))))) (fun hb H4 e4 => ?_) fun hb H4 e4 => ?_
    · refine s_ret (ev_is ev_c ?_) fun H5 e5 => q H5 (((E2.trans e3).trans e4).trans e5)
      rw [decide_eq_true g3] at hb
      cases h : decide (s ^ w.toNat ≤ 16) with
      | false => rfl
      | true => rw [h] at hb; cases hb
    have h16 : decide (s ^ w.toNat ≤ 16) = true := by
      cases h : decide (s ^ w.toNat ≤ 16) with
      | true => rfl
      | false => rw [h, decide_eq_true g3] at hb; cases hb
    rw [h16] at q
    have E4 := (E2.trans e3).trans e4
    cases hz with
    | other ty n =>
      refine q_when (b := true) (et_or (a := true) (b := true) (et_test (ev_is (ev_op (ev_type (ev_var rfl) (TyB.ex E4 ty)) ev_c rv_notTy) (by rw [decide_eq_false n]; rfl))) fun z => nomatch z) (fun _ H5 e5 => s_ret ev_c fun H6 e6 => q H6 ((E4.trans e5).trans e6)) fun z => nomatch z
    | @tup t zs ht hty hl =>
      refine q_when (et_or (a := false) (b := !decide ((zs.length : Int) = s ^ w.toNat)) ?_ fun _ => ?_) (fun hb H5 e5 => ?_) fun hb H5 e5 => ?_
      · exact et_test (ev_is (ev_op (ev_type (ev_var rfl) (.tup (ex_t E4 ht))) ev_c rv_notTy) (by simp))
      · exact et_test (ev_op (ev_lenS (ev_var rfl) (Or.inr (ex_t E4 ht))) (ev_call (ea_cons (ev_var rfl) (ea_cons (ev_var rfl) ea_nil)) (spv_rows_of (by omega) (by omega) (by omega) (by omega))) rv_neI)
      · refine s_ret (ev_is ev_c ?_) fun H6 e6 => q H6 ((E4.trans e5).trans e6)
        show V.bl false = V.bl (true && (decide ((zs.length : Int) = s ^ w.toNat) && _))
        cases h : decide ((zs.length : Int) = s ^ w.toNat) with
        | false => rfl
        | true => rw [h] at hb; cases hb
      refine s_ret (ev_is (ev_call (ea_cons (ev_var rfl) (ea_cons (ev_var rfl) ea_nil)) (spv_are_signs (Or.inr (ex_t (E4.trans e5) ht)) (fun v hv => (hty v hv).imp fun T tv => TyB.ex (E4.trans e5) tv) hl)) ?_) fun H6 e6 => q H6 ((E4.trans e5).trans e6)
      show V.bl _ = V.bl (true && (decide ((zs.length : Int) = s ^ w.toNat) && _))
      cases h : decide ((zs.length : Int) = s ^ w.toNat) with
      | true => rfl
      | false => rw [h] at hb; cases hb
theorem spv_is_ruleB {H : Hp} {x : V} {b : Bool} (p : RThing K H x b) : SpV (sp_is_rule K c) [x] H (.bl b) := fun H1 e Q q E => ⟨x, b, rfl, p.ex e, q⟩
theorem spv_is_rule {H : Hp} {r t : Addr} {s w : Int} {tab : List Int} (R : RuleAt K H r t s w tab) (G : Good s w tab) : SpV (sp_is_rule K c) [.ref r] H (.bl true) := spv_is_ruleB (.good R G)
def sp_need_rule (K : PySem.W.Frag) (c : Cl) : Sp := fun vs H Q _ => ∃ (r t : Addr) (s w : Int) (tab : List Int), vs = [.ref r] ∧ RuleAt K H r t s w tab ∧ Good s w tab ∧ RetV .non H Q
def t_need_rule (K : PySem.W.Frag) (c : Cl) (E : XK) : TS :=
(tIfS (tNot (tB (tCall (sp_is_rule K c) [] E0 (tCons (tVar 0) tNil)))) tNever tNext)
theorem len_need_rule (vs : List V) (H : Hp) (Q : VK) (E : XK) (h : sp_need_rule K c vs H Q E) : vs.length = 1 := by
  obtain ⟨r, t, s, w, tab, rfl, _⟩ := h
  rfl
theorem pure_need_rule (vs : List V) (H : Hp) (Q : VK) (E : XK) (h : sp_need_rule K c vs H Q E) : t_need_rule K c E { nx := fun _ H' => Q .non H', rt := Q } (start' 1 vs) H := by
  obtain ⟨r, t, s, w, tab, rfl, R, G, q⟩ := h
  exact s_unless (et_is (et_not (et_B (ev_call (ea_cons (ev_var rfl) ea_nil) (spv_is_rule R G)))) rfl) fun H1 e1 => q H1 e1
theorem spv_need_rule {H : Hp} {r t : Addr} {s w : Int} {tab : List Int} (R : RuleAt K H r t s w tab) (G : Good s w tab) : SpV (sp_need_rule K c) [.ref r] H .non := fun H1 e Q q E => ⟨r, t, s, w, tab, rfl, R.ex e, G, q⟩
/-! ### is_piece -/
/-- a thing that is asked whether it is a piece of s signs -/
inductive PThing (K : PySem.W.Frag) (H : Hp) (s : Int) : V → Bool → Prop
  | other {x : V} {T : String} (h : TyB K H x T) (n : T ≠ "list") : PThing K H s x false
  | lst {a : Addr} {xs : List V} (h : SqL K H a xs) (ty : ∀ x ∈ xs, ∃ T, TyB K H x T) (hl : xs.length ≤ 40000) : PThing K H s (.ref a) (xs.all fun x => isFT x 0 (s - 1))
theorem PThing.ex {H H' : Hp} {s : Int} {x : V} {b : Bool} (e : Ex H H') (h : PThing K H s x b) : PThing K H' s x b := by
  cases h with
  | other h n => exact .other (TyB.ex e h) n
  | lst h ty hl => exact .lst (ex_l e h) (fun x hm => (ty x hm).imp fun T t => TyB.ex e t) hl
theorem PThing.good {H : Hp} {s : Int} {a : Addr} {ns : List Int} (h : IL K H a ns) (hs : InS s ns) (hl : ns.length ≤ 40000) : PThing K H s (.ref a) true := by
  have z := PThing.lst (s := s) h (ints_ty ns) (by rw [List.length_map]; exact hl)
  rw [ints_all hs] at z
  exact z
def sp_is_piece (K : PySem.W.Frag) (c : Cl) : Sp := fun vs H Q _ => ∃ (r t : Addr) (s w : Int) (tab : List Int) (x : V) (b : Bool), vs = [.ref r, x] ∧ RuleAt K H r t s w tab ∧ Good s w tab ∧ PThing K H s x b ∧ RetV (.bl b) H Q
def t_is_piece (K : PySem.W.Frag) (c : Cl) (E : XK) : TS :=
(tSeq (tDrop (tCall (sp_need_rule K c) [] E0 (tCons (tVar 0) tNil)))
    (tRet (tAndV (tOp oIsTy (tCB (rTyp K) (tCons (tVar 1) tNil)) (tC (.ty "list"))) (tCall (sp_are_signs K c) [] E0 (tCons (tOp (rIxT K) (tVar 0) (tC (.int 0))) (tCons (tVar 1) tNil))))))
theorem len_is_piece (vs : List V) (H : Hp) (Q : VK) (E : XK) (h : sp_is_piece K c vs H Q E) : vs.length = 2 := by
  obtain ⟨r, t, s, w, tab, x, b, rfl, _⟩ := h
  rfl
theorem pure_is_piece (vs : List V) (H : Hp) (Q : VK) (E : XK) (h : sp_is_piece K c vs H Q E) : t_is_piece K c E { nx := fun _ H' => Q .non H', rt := Q } (start' 2 vs) H := by
  obtain ⟨r, t, s, w, tab, x, b, rfl, R, G, p, q⟩ := h
  refine q_drop (ev_call (ea_cons (ev_var rfl) ea_nil) (spv_need_rule R G)) fun H1 e1 => ?_
  have hr := (R.ex e1).top
  cases p with
  | other ty n =>
    refine s_ret (v := .bl false) (ev_is (ev_andV (a := false) (b := false) ?_ fun z => nomatch z) rfl) fun H2 e2 => q H2 (e1.trans e2)
    exact ev_is (ev_op (ev_type (ev_var rfl) (TyB.ex e1 ty)) ev_c rv_isTy) (by rw [decide_eq_false n])
  | @lst a xs h ty hl =>
    refine s_ret (ev_is (ev_andV (a := true) (b := xs.all fun x => isFT x 0 (s - 1)) ?_ fun _ => ?_) (by simp)) fun H2 e2 => q H2 (e1.trans e2)
    · exact ev_is (ev_op (ev_type (ev_var rfl) (.lst (ex_l e1 h))) ev_c rv_isTy) (by simp)
    · exact ev_call (ea_cons (ev_op (ev_var rfl) ev_c (rv_ixT hr (atI_nat (j := 0) rfl))) (ea_cons (ev_var rfl) ea_nil)) (spv_are_signs (Or.inl (ex_l e1 h)) (fun x hm => (ty x hm).imp fun T t => TyB.ex e1 t) hl)
theorem spv_is_piece {H : Hp} {r t : Addr} {s w : Int} {tab : List Int} {x : V} {b : Bool} (R : RuleAt K H r t s w tab) (G : Good s w tab) (p : PThing K H s x b) : SpV (sp_is_piece K c) [.ref r, x] H (.bl b) := fun H1 e Q q E =>
  ⟨r, t, s, w, tab, x, b, rfl, R.ex e, G, p.ex e, q⟩
/-! ### _signs_from -/
theorem cut_nat {xs : List V} {i j : Nat} (h : i ≤ j) : cutV xs (some (i : Int)) (some (j : Int)) = (xs.drop i).take (j - i) := by
  unfold cutV
  rw [HT.sIx_nat, HT.sIx_nat]
  by_cases h1 : i ≤ xs.length
  · rw [show min i xs.length = i by omega]
    by_cases h2 : j ≤ xs.length
    · rw [show min j xs.length = j by omega]
    · rw [show min j xs.length = xs.length by omega, List.take_of_length_le (by rw [List.length_drop]; omega), List.take_of_length_le (by rw [List.length_drop]; omega)]
  · rw [List.drop_of_length_le (by omega), List.drop_of_length_le (by omega), List.take_nil, List.take_nil]
theorem Good.at {s w : Int} {tab : List Int} (G : Good s w tab) {cells : List Int} (h : InS s cells) (hl : (cells.length : Int) = w) :
    atI (tab.map V.int) (numOf s cells) = some (.int (tab.getD (numOf s cells).toNat 0)) := by
  obtain ⟨a, b⟩ := numOf_bound G.s2 h
  have e : numOf s cells = ((numOf s cells).toNat : Int) := by omega
  have l : (numOf s cells).toNat < tab.length := by
    have := G.len
    have e2 : cells.length = w.toNat := by omega
    rw [e2] at b
    omega
  rw [e]
  refine atI_nat ?_
  rw [List.getElem?_map, show ((numOf s cells).toNat : Int).toNat = (numOf s cells).toNat by omega, List.getElem?_eq_getElem l]
  simp [List.getD, List.getElem?_eq_getElem l]
theorem sig_len {cells : List Int} {w : Int} {i : Nat} (w1 : 1 ≤ w) (hi : (i : Int) < (cells.length : Int) - w + 1) : (((cells.drop i).take w.toNat).length : Int) = w := by
  rw [List.length_take, List.length_drop]
  omega
def sp_signs_from (K : PySem.W.Frag) (c : Cl) : Sp := fun vs H Q _ => ∃ (r t a : Addr) (s w : Int) (tab cells : List Int), vs = [.ref r, .ref a] ∧ RuleAt K H r t s w tab ∧ Good s w tab ∧ IL K H a cells ∧ InS s cells ∧ w - 1 ≤ cells.length ∧ cells.length ≤ 30000 ∧
  RetL ((signsFrom s w tab cells).map V.int) H Q
def t_signs_from (K : PySem.W.Frag) (c : Cl) (E : XK) : TS :=
(tSeq (tAsg (tVar 0) (gTup K 3 (gCons (gName 2) (gCons (gName 3) (gCons (gName 4) gNil)))))
    (tRet (tLc (iRng1 (tCons (tOp oAdd (tOp oSub (tCB (Evl.rLenS K) (tCons (tVar 1) tNil)) (tVar 3)) (tC (.int 1))) tNil)) (gName 5) tYes (tOp (rIxT K) (tVar 4) (tCall (sp_number_of K c) [] E0 (tCons (tVar 2) (tCons (tSl (rSlL K) (tVar 1) (tPart (tVar 5)) (tPart (tOp oAdd (tVar 5) (tVar 3)))) tNil)))) [5])))
theorem len_signs_from (vs : List V) (H : Hp) (Q : VK) (E : XK) (h : sp_signs_from K c vs H Q E) : vs.length = 2 := by
  obtain ⟨r, t, a, s, w, tab, cells, rfl, _⟩ := h
  rfl
theorem pure_signs_from (vs : List V) (H : Hp) (Q : VK) (E : XK) (h : sp_signs_from K c vs H Q E) : t_signs_from K c E { nx := fun _ H' => Q .non H', rt := Q } (start' 6 vs) H := by
  obtain ⟨r, t, a, s, w, tab, cells, rfl, R, G, hc, hs, l1, l2, q⟩ := h
  have g2 := G.s2
  have g4 := G.s4
  have g1 := G.w1
  have g3 := G.w4
  refine q_unpack3 (ev_var rfl) R.top fun H1 e1 => ?_
  have hc1 := ex_l e1 hc
  refine s_retL (xs := (signsFrom s w tab cells).map V.int) ?_ fun p H2 hp e2 h2 => q p H2 (fresh_back e1 hp) (e1.trans e2) h2
  have e0 : (signsFrom s w tab cells).map V.int = (List.range ((cells.length : Int) - w + 1).toNat).map fun i => V.int (tab.getD (numOf s ((cells.drop i).take w.toNat)).toNat 0) := by
    unfold signsFrom
    rw [List.map_map, show cells.length + 1 - w.toNat = ((cells.length : Int) - w + 1).toNat by omega]
    rfl
  rw [e0]
  refine el_mapR _ (n := (cells.length : Int) - w + 1) ?_ (by omega) (fun _ => rfl) fun i H2 e2 hi => ?_
  · refine ea_cons ?_ ea_nil
    refine ev_is (ev_op (ev_op (ev_lenS (ev_var rfl) (Or.inl hc1)) (ev_var rfl) rv_I0) ev_c rv_I0) (by rw [List.length_map])
  · have hk : InS s ((cells.drop i).take w.toNat) := (hs.drop i).take _
    have hcut : EvL (tSl (rSlL K) (tVar 1) (tPart (tVar 5)) (tPart (tOp oAdd (tVar 5) (tVar 3)))) ((wipe ((((start' 6 [.ref r, .ref a]).set 2 (some (.int s))).set 3 (some (.int w))).set 4 (some (.ref t))) [5]).set 5 (some (.int (i : Int)))) H2 (((cells.drop i).take w.toNat).map V.int) := by
      have z := el_sl (K := K) (te := tVar 1) (tl := tPart (tVar 5)) (th := tPart (tOp oAdd (tVar 5) (tVar 3))) (σ := (wipe ((((start' 6 [.ref r, .ref a]).set 2 (some (.int s))).set 3 (some (.int w))).set 4 (some (.ref t))) [5]).set 5 (some (.int (i : Int)))) (ev_var rfl) (eo_some (ev_var rfl)) (eo_some (ev_op (ev_var rfl) (ev_var rfl) rv_I0)) (ex_l e2 hc1)
      rw [show (i : Int) + w = ((i + w.toNat : Nat) : Int) by omega, cut_nat (by omega), show i + w.toNat - i = w.toNat by omega, ← List.map_drop, ← List.map_take] at z
      exact z
    exact ev_op (ev_var rfl) (ev_call_vl (ev_var rfl) hcut fun p H3 h3 e3 => spv_number_of (by omega) (by omega) (Or.inl (sq_of h3))) (rv_ixT (ex_t e2 (ex_t e1 R.tab)) (G.at hk (sig_len g1 hi)))
theorem spl_signs_from {H : Hp} {r t a : Addr} {s w : Int} {tab cells : List Int} (R : RuleAt K H r t s w tab) (G : Good s w tab) (hc : IL K H a cells) (hs : InS s cells) (l1 : w - 1 ≤ cells.length) (l2 : cells.length ≤ 30000) :
    SpL (sp_signs_from K c) [.ref r, .ref a] H ((signsFrom s w tab cells).map V.int) := fun H1 e Q q E => ⟨r, t, a, s, w, tab, cells, rfl, R.ex e, G, ex_l e hc, hs, l1, l2, q⟩
end
end Br

namespace Br
open PySem PySem.Spec PyProof.Rows L2 Evl
section
variable {K : PySem.W.Frag} {c : Cl}
/-- an error of the class at C is let out -/
def RaiseX (C : Addr) (H : Hp) (E : XK) : Prop := ∀ H', Ex H H' → E (.ref C) none H'
theorem RaiseX.ex {C : Addr} {H H' : Hp} {E : XK} (e : Ex H H') (q : RaiseX C H E) : RaiseX C H' E := fun H2 e2 => q H2 (e.trans e2)
section
variable {σ : L2.St} {H : Hp} {tr : TA} {D : Ends} {tz : TS} {te : TE}
/-- f(..), which raises; which tells nothing -/
theorem q_dropX {sp : Sp} {E : XK} {vs : List V} (h : EvA tr σ H vs) (hs : ∀ H1, Ex H H1 → ∀ Q : VK, sp vs H1 Q E) : tSeq (tDrop (tCall sp [] E tr)) tz D σ H := h H (Ex.refl H) _ fun H1 e1 => by
  have z := hs H1 e1 (fun _ H2 => tz D σ H2)
  rw [← List.append_nil vs] at z
  exact z
end
/-! ### need_piece, need_ring -/
def sp_need_piece (K : PySem.W.Frag) (c : Cl) : Sp := fun vs H Q E => ∃ (r t : Addr) (s w : Int) (tab : List Int) (x : V) (b : Bool), vs = [.ref r, x] ∧ RuleAt K H r t s w tab ∧ Good s w tab ∧ PThing K H s x b ∧
  (b = false → RaiseX c.BadRow H E) ∧ (b = true → RetV .non H Q)
def t_need_piece (K : PySem.W.Frag) (c : Cl) (E : XK) : TS :=
(tIfS (tNot (tB (tCall (sp_is_piece K c) [] E0 (tCons (tVar 0) (tCons (tVar 1) tNil))))) (tRaise c.BadRow E) tNext)
theorem len_need_piece (vs : List V) (H : Hp) (Q : VK) (E : XK) (h : sp_need_piece K c vs H Q E) : vs.length = 2 := by
  obtain ⟨r, t, s, w, tab, x, b, rfl, _⟩ := h
  rfl
theorem pure_need_piece (vs : List V) (H : Hp) (Q : VK) (E : XK) (h : sp_need_piece K c vs H Q E) : t_need_piece K c E { nx := fun _ H' => Q .non H', rt := Q } (start' 2 vs) H := by
  obtain ⟨r, t, s, w, tab, x, b, rfl, R, G, p, qf, qt⟩ := h
  refine s_when (b := !b) (et_not (et_B (ev_call (ea_cons (ev_var rfl) (ea_cons (ev_var rfl) ea_nil)) (spv_is_piece R G p)))) (fun hb H1 e1 => qf (by simpa using hb) H1 e1) fun hb H1 e1 => qt (by simpa using hb) H1 e1
theorem spv_need_piece {H : Hp} {r t : Addr} {s w : Int} {tab : List Int} {x : V} (R : RuleAt K H r t s w tab) (G : Good s w tab) (p : PThing K H s x true) : SpV (sp_need_piece K c) [.ref r, x] H .non := fun H1 e Q q E =>
  ⟨r, t, s, w, tab, x, true, rfl, R.ex e, G, p.ex e, (fun z => nomatch z), fun _ => q⟩
theorem spx_need_piece {H : Hp} {r t : Addr} {s w : Int} {tab : List Int} {x : V} {E : XK} (R : RuleAt K H r t s w tab) (G : Good s w tab) (p : PThing K H s x false) (q : RaiseX c.BadRow H E) : ∀ H1, Ex H H1 → ∀ Q : VK, sp_need_piece K c [.ref r, x] H1 Q E := fun H1 e Q =>
  ⟨r, t, s, w, tab, x, false, rfl, R.ex e, G, p.ex e, (fun _ => q.ex e), fun z => nomatch z⟩
/-- a thing that is asked whether it is a ring of s signs -/
inductive RgThing (K : PySem.W.Frag) (H : Hp) (s : Int) : V → Bool → Prop
  | no {x : V} (h : PThing K H s x false) : RgThing K H s x false
  | yes {a : Addr} {ns : List Int} (h : IL K H a ns) (hs : InS s ns) (hl : ns.length ≤ 40000) : RgThing K H s (.ref a) (!ns.isEmpty)
theorem RgThing.ex {H H' : Hp} {s : Int} {x : V} {b : Bool} (e : Ex H H') (h : RgThing K H s x b) : RgThing K H' s x b := by
  cases h with
  | no h => exact .no (h.ex e)
  | yes h hs hl => exact .yes (ex_l e h) hs hl
def sp_need_ring (K : PySem.W.Frag) (c : Cl) : Sp := fun vs H Q E => ∃ (r t : Addr) (s w : Int) (tab : List Int) (x : V) (b : Bool), vs = [.ref r, x] ∧ RuleAt K H r t s w tab ∧ Good s w tab ∧ RgThing K H s x b ∧
  (b = false → RaiseX c.BadRow H E) ∧ (b = true → RetV .non H Q)
def t_need_ring (K : PySem.W.Frag) (c : Cl) (E : XK) : TS :=
(tSeq (tDrop (tCall (sp_need_piece K c) [] E (tCons (tVar 0) (tCons (tVar 1) tNil))))
    (tIfS (tTest (tOp rEq (tCB (Evl.rLenS K) (tCons (tVar 1) tNil)) (tC (.int 0)))) (tRaise c.BadRow E) tNext))
theorem len_need_ring (vs : List V) (H : Hp) (Q : VK) (E : XK) (h : sp_need_ring K c vs H Q E) : vs.length = 2 := by
  obtain ⟨r, t, s, w, tab, x, b, rfl, _⟩ := h
  rfl
theorem pure_need_ring (vs : List V) (H : Hp) (Q : VK) (E : XK) (h : sp_need_ring K c vs H Q E) : t_need_ring K c E { nx := fun _ H' => Q .non H', rt := Q } (start' 2 vs) H := by
  obtain ⟨r, t, s, w, tab, x, b, rfl, R, G, p, qf, qt⟩ := h
  cases p with
  | no p => exact q_dropX (ea_cons (ev_var rfl) (ea_cons (ev_var rfl) ea_nil)) (spx_need_piece R G p (qf rfl))
  | @yes a ns hc hs hl =>
    refine q_drop (ev_call (ea_cons (ev_var rfl) (ea_cons (ev_var rfl) ea_nil)) (spv_need_piece R G (PThing.good hc hs hl))) fun H1 e1 => ?_
    refine s_when (b := decide (((ns.map V.int).length : Int) = 0)) (et_test (ev_op (ev_lenS (ev_var rfl) (Or.inl (ex_l e1 hc))) ev_c rv_eqI)) (fun hb H2 e2 => qf ?_ H2 (e1.trans e2)) fun hb H2 e2 => qt ?_ H2 (e1.trans e2)
    · have z := of_decide_eq_true hb
      rw [List.length_map] at z
      rw [List.length_eq_zero_iff.mp (show ns.length = 0 by omega)]
      rfl
    · have z := of_decide_eq_false hb
      cases ns with
      | nil => exact absurd rfl z
      | cons _ _ => rfl
theorem spv_need_ring {H : Hp} {r t : Addr} {s w : Int} {tab : List Int} {x : V} (R : RuleAt K H r t s w tab) (G : Good s w tab) (p : RgThing K H s x true) : SpV (sp_need_ring K c) [.ref r, x] H .non := fun H1 e Q q E =>
  ⟨r, t, s, w, tab, x, true, rfl, R.ex e, G, p.ex e, (fun z => nomatch z), fun _ => q⟩
theorem spx_need_ring {H : Hp} {r t : Addr} {s w : Int} {tab : List Int} {x : V} {E : XK} (R : RuleAt K H r t s w tab) (G : Good s w tab) (p : RgThing K H s x false) (q : RaiseX c.BadRow H E) : ∀ H1, Ex H H1 → ∀ Q : VK, sp_need_ring K c [.ref r, x] H1 Q E := fun H1 e Q =>
  ⟨r, t, s, w, tab, x, false, rfl, R.ex e, G, p.ex e, (fun _ => q.ex e), fun z => nomatch z⟩
/-! ### piece_on -/
def sp_piece_on (K : PySem.W.Frag) (c : Cl) : Sp := fun vs H Q E => ∃ (r t : Addr) (s w : Int) (tab : List Int) (x : V), vs = [.ref r, x] ∧ RuleAt K H r t s w tab ∧ Good s w tab ∧
  ((PThing K H s x false ∧ RaiseX c.BadRow H E) ∨ ∃ (a : Addr) (cells : List Int), x = .ref a ∧ IL K H a cells ∧ InS s cells ∧ cells.length ≤ 20000 ∧
    ((cells.length : Int) < w - 1 → RaiseX c.BadRow H E) ∧ (w - 1 ≤ cells.length → RetL ((signsFrom s w tab cells).map V.int) H Q))
def t_piece_on (K : PySem.W.Frag) (c : Cl) (E : XK) : TS :=
(tSeq (tDrop (tCall (sp_need_piece K c) [] E (tCons (tVar 0) (tCons (tVar 1) tNil))))
    (tSeq (tIfS (tTest (tOp oLt (tCB (Evl.rLenS K) (tCons (tVar 1) tNil)) (tOp oSub (tOp (rIxT K) (tVar 0) (tC (.int 1))) (tC (.int 1))))) (tRaise c.BadRow E) tNext)
    (tRet (tCall (sp_signs_from K c) [] E0 (tCons (tVar 0) (tCons (tVar 1) tNil))))))
theorem len_piece_on (vs : List V) (H : Hp) (Q : VK) (E : XK) (h : sp_piece_on K c vs H Q E) : vs.length = 2 := by
  obtain ⟨r, t, s, w, tab, x, rfl, _⟩ := h
  rfl
theorem pure_piece_on (vs : List V) (H : Hp) (Q : VK) (E : XK) (h : sp_piece_on K c vs H Q E) : t_piece_on K c E { nx := fun _ H' => Q .non H', rt := Q } (start' 2 vs) H := by
  obtain ⟨r, t, s, w, tab, x, rfl, R, G, h⟩ := h
  rcases h with ⟨p, q⟩ | ⟨a, cells, rfl, hc, hs, hl, qE, qR⟩
  · exact q_dropX (ea_cons (ev_var rfl) (ea_cons (ev_var rfl) ea_nil)) (spx_need_piece R G p q)
  · refine q_drop (ev_call (ea_cons (ev_var rfl) (ea_cons (ev_var rfl) ea_nil)) (spv_need_piece R G (PThing.good hc hs (by omega)))) fun H0 e0 => ?_
    refine q_when (b := decide ((cells.length : Int) < w - 1)) (et_test (ev_is (ev_op (ev_lenS (ev_var rfl) (Or.inl (ex_l e0 hc))) (ev_op (ev_op (ev_var rfl) ev_c (rv_ixT (ex_t e0 R.top) (atI_nat (j := 1) rfl))) ev_c rv_I0) rv_I0) ?_)) (fun hb H1 e1 => qE (of_decide_eq_true hb) H1 (e0.trans e1)) fun hb H1 e1 => ?_
    · rw [List.length_map]
    · have l1 := of_decide_eq_false hb
      have e1 := e0.trans e1
      exact s_retL (el_call (ea_cons (ev_var rfl) (ea_cons (ev_var rfl) ea_nil)) (spl_signs_from (R.ex e1) G (ex_l e1 hc) hs (by omega) (by omega))) fun p H2 hp e2 h2 => qR (by omega) p H2 (fresh_back e1 hp) (e1.trans e2) h2
/-! ### ring_on -/
def ringRow (ring : List Int) (n : Nat) : List Int := (List.range n).map fun i => ring.getD (i % ring.length) 0
def ringOn (s w : Int) (tab ring : List Int) : List Int := signsFrom s w tab (ringRow ring (ring.length + (w.toNat - 1)))
def sp_ring_on (K : PySem.W.Frag) (c : Cl) : Sp := fun vs H Q E => ∃ (r t : Addr) (s w : Int) (tab : List Int) (x : V), vs = [.ref r, x] ∧ RuleAt K H r t s w tab ∧ Good s w tab ∧
  ((PThing K H s x false ∧ RaiseX c.BadRow H E) ∨ ∃ (a : Addr) (cells : List Int), x = .ref a ∧ IL K H a cells ∧ InS s cells ∧ cells.length ≤ 20000 ∧
    (cells = [] → RaiseX c.BadRow H E) ∧ (cells ≠ [] → RetL ((ringOn s w tab cells).map V.int) H Q))
def t_ring_on (K : PySem.W.Frag) (c : Cl) (E : XK) : TS :=
(tSeq (tDrop (tCall (sp_need_ring K c) [] E (tCons (tVar 0) (tCons (tVar 1) tNil))))
    (tSeq (tAsg (tCB (Evl.rLenS K) (tCons (tVar 1) tNil)) (gName 2))
    (tSeq (tAsg (tLc (iRng1 (tCons (tOp oSub (tOp oAdd (tVar 2) (tOp (rIxT K) (tVar 0) (tC (.int 1)))) (tC (.int 1))) tNil)) (gName 4) tYes (tOp (rIxL K) (tVar 1) (tOp oMod (tVar 4) (tVar 2))) [4]) (gName 3))
    (tRet (tCall (sp_signs_from K c) [] E0 (tCons (tVar 0) (tCons (tVar 3) tNil)))))))
theorem len_ring_on (vs : List V) (H : Hp) (Q : VK) (E : XK) (h : sp_ring_on K c vs H Q E) : vs.length = 2 := by
  obtain ⟨r, t, s, w, tab, x, rfl, _⟩ := h
  rfl
theorem getD_mem {ring : List Int} {i : Nat} (h : i < ring.length) : ring.getD i 0 ∈ ring := by
  rw [List.getD, List.getElem?_eq_getElem h]
  exact List.getElem_mem h
theorem InS.ringRow {s : Int} {ring : List Int} (h : InS s ring) (hn : ring ≠ []) (n : Nat) : InS s (ringRow ring n) := fun x hx => by
  obtain ⟨i, _, rfl⟩ := List.mem_map.mp hx
  exact h _ (getD_mem (Nat.mod_lt _ (List.length_pos_iff.mpr hn)))
theorem pure_ring_on (vs : List V) (H : Hp) (Q : VK) (E : XK) (h : sp_ring_on K c vs H Q E) : t_ring_on K c E { nx := fun _ H' => Q .non H', rt := Q } (start' 5 vs) H := by
  obtain ⟨r, t, s, w, tab, x, rfl, R, G, h⟩ := h
  have g1 := G.w1
  have g4 := G.w4
  rcases h with ⟨p, q⟩ | ⟨a, cells, rfl, hc, hs, hl, qE, qR⟩
  · exact q_dropX (ea_cons (ev_var rfl) (ea_cons (ev_var rfl) ea_nil)) (spx_need_ring R G (.no p) q)
  · by_cases hn : cells = []
    · subst hn
      exact q_dropX (ea_cons (ev_var rfl) (ea_cons (ev_var rfl) ea_nil)) (spx_need_ring R G (.yes hc hs (by omega)) (qE rfl))
    · have hp : 0 < cells.length := List.length_pos_iff.mpr hn
      have hne : (!cells.isEmpty) = true := by
        cases cells with
        | nil => exact absurd rfl hn
        | cons _ _ => rfl
      have RG : RgThing K H s (.ref a) true := hne ▸ RgThing.yes hc hs (by omega)
      refine q_drop (ev_call (ea_cons (ev_var rfl) (ea_cons (ev_var rfl) ea_nil)) (spv_need_ring R G RG)) fun H1 e1 => ?_
      refine q_asg (v := .int (cells.length : Int)) (ev_is (ev_lenS (ev_var rfl) (Or.inl (ex_l e1 hc))) (by rw [List.length_map])) fun H2 e2 => ?_
      have E2 := e1.trans e2
      refine q_asgL (xs := (ringRow cells (cells.length + (w.toNat - 1))).map V.int) ?_ fun p H3 hp3 e3 h3 => ?_
      · have e0 : (ringRow cells (cells.length + (w.toNat - 1))).map V.int = (List.range ((cells.length : Int) + w - 1).toNat).map fun i => V.int (cells.getD (i % cells.length) 0) := by
          unfold ringRow
          rw [List.map_map, show cells.length + (w.toNat - 1) = ((cells.length : Int) + w - 1).toNat by omega]
          rfl
        rw [e0]
        refine el_mapR _ (n := (cells.length : Int) + w - 1) ?_ (by omega) (fun _ => rfl) fun i H3 e3 hi => ?_
        · exact ea_cons (ev_op (ev_op (ev_var rfl) (ev_op (ev_var rfl) ev_c (rv_ixT (ex_t E2 R.top) (atI_nat (j := 1) rfl))) rv_I0) ev_c rv_I0) ea_nil
        · refine ev_op (ev_var rfl) (ev_op (ev_var rfl) (ev_var rfl) (rv_mod (by omega))) (rv_ixL (ex_l (E2.trans e3) hc) ?_)
          have hm : i % cells.length < cells.length := Nat.mod_lt _ hp
          rw [show (i : Int) % (cells.length : Int) = ((i % cells.length : Nat) : Int) by omega]
          refine atI_nat ?_
          rw [List.getElem?_map, List.getElem?_eq_getElem hm]
          simp [List.getD, List.getElem?_eq_getElem hm]
      · refine s_retL (el_call (ea_cons (ev_var rfl) (ea_cons (ev_var rfl) ea_nil)) (spl_signs_from (R.ex (E2.trans e3)) G (sq_of h3) (hs.ringRow hn _) ?_ ?_)) fun l H4 hl4 e4 h4 => qR hn l H4 (fresh_back (E2.trans e3) hl4) ((E2.trans e3).trans e4) h4
        · unfold ringRow
          rw [List.length_map, List.length_range]
          omega
        · unfold ringRow
          rw [List.length_map, List.length_range]
          omega
end
end Br

namespace Br
open PySem PySem.Spec PyProof.Rows L2 Evl
/-! ### values by what is true of them -/
abbrev VP := V → Hp → Prop
def EvP (te : TE) (σ : L2.St) (H : Hp) (P : VP) : Prop := ∀ H1, Ex H H1 → ∀ Q : VK, (∀ v H2, Ex H1 H2 → P v H2 → Q v H2) → te σ H1 Q
def Stab (P : VP) : Prop := ∀ v H H', Ex H H' → P v H → P v H'
def All2P : List VP → List V → Hp → Prop
  | [], [], _ => True
  | P :: Ps, v :: vs, H => P v H ∧ All2P Ps vs H
  | _, _, _ => False
def EaP (ta : TA) (σ : L2.St) (H : Hp) (Ps : List VP) : Prop := ∀ H1, Ex H H1 → ∀ Q : List V → Hp → Prop, (∀ vs H2, Ex H1 H2 → All2P Ps vs H2 → Q vs H2) → ta σ H1 Q
def Stabs (Ps : List VP) : Prop := ∀ P ∈ Ps, Stab P
theorem All2P.ex {H H' : Hp} (e : Ex H H') : ∀ {Ps : List VP} {vs : List V}, Stabs Ps → All2P Ps vs H → All2P Ps vs H'
  | [], [], _, h => h
  | P :: Ps, v :: vs, st, h => ⟨st P List.mem_cons_self _ _ _ e h.1, All2P.ex e (fun Q hQ => st Q (List.mem_cons_of_mem _ hQ)) h.2⟩
  | [], _ :: _, _, h => h.elim
  | _ :: _, [], _, h => h.elim
theorem All2P.len {H : Hp} : ∀ {Ps : List VP} {vs : List V}, All2P Ps vs H → Ps.length = vs.length
  | [], [], _ => rfl
  | _ :: _, _ :: _, h => congrArg (· + 1) (All2P.len h.2)
  | [], _ :: _, h => h.elim
  | _ :: _, [], h => h.elim
theorem All2P.get {H : Hp} : ∀ {Ps : List VP} {vs : List V} {i : Nat} {P : VP}, All2P Ps vs H → Ps[i]? = some P → ∃ v, vs[i]? = some v ∧ P v H
  | [], [], _, _, _, e => by simp at e
  | P :: Ps, v :: vs, 0, _, h, e => by
    simp at e
    subst e
    exact ⟨v, rfl, h.1⟩
  | P :: Ps, v :: vs, i + 1, _, h, e => by
    obtain ⟨u, a, b⟩ := All2P.get (i := i) h.2 (by simpa using e)
    exact ⟨u, by simpa using a, b⟩
  | [], _ :: _, _, _, h, _ => h.elim
  | _ :: _, [], _, _, h, _ => h.elim
def LstP (K : PySem.W.Frag) (Ps : List VP) : VP := fun v H => ∃ p vs, v = .ref p ∧ SqL K H p vs ∧ All2P Ps vs H
/-- a tuple, a list of given values -/
def TupV (K : PySem.W.Frag) (xs : List V) : VP := fun v H => ∃ p, v = .ref p ∧ SqT K H p xs
def LstV (K : PySem.W.Frag) (xs : List V) : VP := fun v H => ∃ p, v = .ref p ∧ SqL K H p xs
section
variable {K : PySem.W.Frag} {σ : L2.St} {H H' : Hp} {te ti ta tb : TE} {x y z v : V} {D : Ends} {tz : TS} {P : VP} {Ps : List VP}
theorem stab_tup {xs : List V} : Stab (TupV K xs) := fun v H H' e ⟨p, hp, h⟩ => ⟨p, hp, ex_t e h⟩
theorem stab_lst {xs : List V} : Stab (LstV K xs) := fun v H H' e ⟨p, hp, h⟩ => ⟨p, hp, ex_l e h⟩
theorem stab_eq {u : V} : Stab (fun v _ => v = u) := fun _ _ _ _ h => h
theorem EvP.of (h : Ev te σ H v) : EvP te σ H (fun u _ => u = v) := fun H1 e Q q => h H1 e Q fun H2 e2 => q v H2 e2 rfl
theorem EvP.tup {xs : List V} (h : EvU te σ H xs) : EvP te σ H (TupV K xs) := fun H1 e Q q => h H1 e Q fun p H2 _ e2 h2 => q _ H2 e2 ⟨p, rfl, st_of h2⟩
theorem EvP.lst {xs : List V} (h : EvL te σ H xs) : EvP te σ H (LstV K xs) := fun H1 e Q q => h H1 e Q fun p H2 _ e2 h2 => q _ H2 e2 ⟨p, rfl, sq_of h2⟩
theorem EvP.imp {P' : VP} (h : EvP te σ H P) (i : ∀ v H', Ex H H' → P v H' → P' v H') : EvP te σ H P' := fun H1 e Q q => h H1 e Q fun v H2 e2 p => q v H2 e2 (i v H2 (e.trans e2) p)
theorem EvP.mono (e : Ex H H') (h : EvP te σ H P) : EvP te σ H' P := fun H1 e1 Q q => h H1 (e.trans e1) Q q
theorem eap_nil : EaP tNil σ H [] := fun H1 _ Q q => q [] H1 (Ex.refl H1) trivial
theorem eap_cons {tr : TA} (h : EvP te σ H P) (st : Stab P) (hr : EaP tr σ H Ps) : EaP (tCons te tr) σ H (P :: Ps) := fun H1 e Q q =>
  h H1 e _ fun v H2 e2 p => hr H2 (e.trans e2) _ fun vs H3 e3 ps => q (v :: vs) H3 (e2.trans e3) ⟨st _ _ _ e3 p, ps⟩
theorem evp_lst {ta : TA} (h : EaP ta σ H Ps) (st : Stabs Ps) (hl : Ps.length ≤ 1000) : EvP (tLst ta) σ H (LstP K Ps) := fun H1 e Q q =>
  h H1 e _ fun vs H2 e2 ps => ⟨sz_of (by rw [← ps.len]; omega), fun p hp => q _ _ (e2.trans (Ex.new hp)) ⟨p, vs, rfl, sq_of upd_same, ps.ex (Ex.new hp) st⟩⟩
theorem evp_pick {i : Int} (h : EvP te σ H (LstP K Ps)) (st : Stabs Ps) (hi : Ev ti σ H (.int i)) (h0 : 0 ≤ i) (hP : Ps[i.toNat]? = some P) : EvP (tOp (rIxL K) te ti) σ H P := fun H1 e Q q =>
  h H1 e _ fun v H2 e2 ⟨p, vs, hv, hs, ps⟩ => hi H2 (e.trans e2) _ fun H3 e3 => by
    obtain ⟨u, hu, pu⟩ := All2P.get (ps.ex e3 st) hP
    refine ⟨p, vs, i, u, hv, rfl, ex_l e3 hs, ?_, q u H3 (e2.trans e3) pu⟩
    have := atI_nat hu
    rw [show ((i.toNat : Nat) : Int) = i by omega] at this
    exact this
theorem q_unpackP2 {i j : Nat} {x y : V} (h : EvP te σ H (TupV K [x, y])) (q : ∀ H1, Ex H H1 → tz D ((σ.set i (some x)).set j (some y)) H1) :
    tSeq (tAsg te (gTup K 2 (gCons (gName i) (gCons (gName j) gNil)))) tz D σ H := h H (Ex.refl H) _ fun v H1 e1 ⟨a, hv, hs⟩ =>
  ⟨a, [x, y], hv, hs, rfl, x, [y], rfl, y, [], rfl, rfl, q H1 e1⟩
theorem q_unpackP3 {i j k : Nat} {x y z : V} (h : EvP te σ H (TupV K [x, y, z])) (q : ∀ H1, Ex H H1 → tz D (((σ.set i (some x)).set j (some y)).set k (some z)) H1) :
    tSeq (tAsg te (gTup K 3 (gCons (gName i) (gCons (gName j) (gCons (gName k) gNil))))) tz D σ H := h H (Ex.refl H) _ fun v H1 e1 ⟨a, hv, hs⟩ =>
  ⟨a, [x, y, z], hv, hs, rfl, x, [y, z], rfl, y, [z], rfl, z, [], rfl, rfl, q H1 e1⟩
/-- x = e, told by what is true of it -/
theorem q_asgP {i : Nat} (h : EvP te σ H P) (k : ∀ v H1, Ex H H1 → P v H1 → tz D (σ.set i (some v)) H1) : tSeq (tAsg te (gName i)) tz D σ H := h H (Ex.refl H) _ fun v H1 e p => k v H1 e p
theorem s_retP (h : EvP te σ H P) (k : ∀ v H1, Ex H H1 → P v H1 → D.rt v H1) : tRet te D σ H := h H (Ex.refl H) _ k
theorem el_cat {xs ys : List V} (ha : EvL ta σ H xs) (hb : EvL tb σ H ys) (hl : xs.length + ys.length ≤ 100000) : EvL (tOp oCat ta tb) σ H (xs ++ ys) := fun H1 e Q q =>
  ha H1 e _ fun p H2 hp e2 h2 => hb H2 (e.trans e2) _ fun r H3 hr e3 h3 => ⟨p, r, xs, ys, rfl, rfl, e3 p _ h2, h3, sz_of hl, fun l hl' => q l _ (fresh_back (e2.trans e3) hl') ((e2.trans e3).trans (Ex.new hl')) upd_same⟩
theorem cut_take {xs : List V} {j : Nat} : cutV xs none (some (j : Int)) = xs.take j := by
  unfold cutV
  rw [HT.sIx_none, HT.sIx_nat, List.drop_zero, Nat.sub_zero]
  by_cases h : j ≤ xs.length
  · rw [show min j xs.length = j by omega]
  · rw [show min j xs.length = xs.length by omega, List.take_length, List.take_of_length_le (by omega)]
theorem cut_drop {xs : List V} {i : Nat} : cutV xs (some (i : Int)) none = xs.drop i := by
  unfold cutV
  rw [HT.sIx_none, HT.sIx_nat]
  by_cases h : i ≤ xs.length
  · rw [show min i xs.length = i by omega, List.take_of_length_le (by rw [List.length_drop]; omega)]
  · rw [List.drop_of_length_le (by omega), List.drop_of_length_le (by omega), List.take_nil]
/-! ### lists of ints compared -/
def dI (ns : List Int) : PyData := .list (ns.map PyData.int)
theorem dpAll_ints (ns : List Int) : DpAll K H (ns.map V.int) (ns.map PyData.int) := by
  induction ns with
  | nil => exact .nil
  | cons n r ih => exact .cons (.int n) ih
theorem dp_il {a : Addr} {ns : List Int} (h : IL K H a ns) : Dp K H (.ref a) (dI ns) := .lst h (dpAll_ints ns)
theorem canLay_ints : ∀ ns : List Int, PyData.canLayAll0 (ns.map PyData.int) = true
  | [] => rfl
  | n :: r => by
    show (PyData.canLay0 (.int n) && PyData.canLayAll0 (r.map PyData.int)) = true
    rw [canLay_ints r]
    rfl
theorem depth_ints : ∀ ns : List Int, PyData.depthAll (ns.map PyData.int) = 0
  | [] => rfl
  | n :: r => by
    show max (PyData.depth (.int n)) (PyData.depthAll (r.map PyData.int)) = 0
    rw [depth_ints r]
    rfl
theorem shaped_dI (ns : List Int) : SeqAt.shaped (dI ns) = true := by
  unfold SeqAt.shaped dI
  rw [show PyData.canLay0 (.list (ns.map PyData.int)) = true from canLay_ints ns, show PyData.depth (.list (ns.map PyData.int)) = 1 by show PyData.depthAll (ns.map PyData.int) + 1 = 1; rw [depth_ints]]
  rfl
theorem eqvAll_ints : ∀ ns ms : List Int, PyData.eqvAll (ns.map PyData.int) (ms.map PyData.int) = decide (ns = ms)
  | [], [] => rfl
  | [], _ :: _ => rfl
  | _ :: _, [] => rfl
  | n :: r, m :: q => by
    show (PyData.eqv (.int n) (.int m) && PyData.eqvAll (r.map PyData.int) (q.map PyData.int)) = decide (n :: r = m :: q)
    rw [eqvAll_ints r q, show PyData.eqv (.int n) (.int m) = (n == m) from rfl]
    by_cases h : n = m
    · subst h
      simp
    · simp [h]
theorem eqv_dI (ns ms : List Int) : PyData.eqv (dI ns) (dI ms) = decide (ns = ms) := eqvAll_ints ns ms
theorem rv_eqD {d e : PyData} (h1 : Dp K H x d) (h2 : Dp K H y e) (s1 : SeqAt.shaped d = true) (s2 : SeqAt.shaped e = true) (st : ∀ {v d H H'}, Ex H H' → Dp K H v d → Dp K H' v d) : RV (rEqD K) x y H (.bl (PyData.eqv d e)) := fun H1 ex Q q =>
  ⟨d, e, st ex h1, st ex h2, s1, s2, q H1 (Ex.refl H1)⟩
mutual
theorem Dp.ex {H H' : Hp} (e : Ex H H') : ∀ (d : PyData) (v : V), Dp K H v d → Dp K H' v d
  | .none, _, .non => .non
  | .bool _, _, .bl b => .bl b
  | .int _, _, .int i => .int i
  | .str _, _, .str x => .str x
  | .list ds, _, .lst h a => .lst (ex_l e h) (DpAll.ex e ds _ a)
  | .tuple ds, _, .tup h a => .tup (ex_t e h) (DpAll.ex e ds _ a)
theorem DpAll.ex {H H' : Hp} (e : Ex H H') : ∀ (ds : List PyData) (vs : List V), DpAll K H vs ds → DpAll K H' vs ds
  | [], _, .nil => .nil
  | d :: ds, _, .cons h t => .cons (Dp.ex e d _ h) (DpAll.ex e ds _ t)
end
theorem rv_eqData {d e : PyData} (h1 : Dp K H x d) (h2 : Dp K H y e) (s1 : SeqAt.shaped d = true) (s2 : SeqAt.shaped e = true) : RV (rEqD K) x y H (.bl (PyData.eqv d e)) := fun H1 ex Q q =>
  ⟨d, e, Dp.ex ex d _ h1, Dp.ex ex e _ h2, s1, s2, q H1 (Ex.refl H1)⟩
theorem rv_neData {d e : PyData} (h1 : Dp K H x d) (h2 : Dp K H y e) (s1 : SeqAt.shaped d = true) (s2 : SeqAt.shaped e = true) : RV (rNeD K) x y H (.bl (!PyData.eqv d e)) := fun H1 ex Q q =>
  ⟨d, e, Dp.ex ex d _ h1, Dp.ex ex e _ h2, s1, s2, q H1 (Ex.refl H1)⟩
/-- an operation whose second operand is told by what is true of it -/
theorem ev_opP {r : R2} {ta tb : TE} (ha : Ev ta σ H x) (hb : EvP tb σ H P) (hr : ∀ y H1, Ex H H1 → P y H1 → RV r x y H1 z) : Ev (tOp r ta tb) σ H z := fun H1 e Q q =>
  ha H1 e _ fun H2 e2 => hb H2 (e.trans e2) _ fun y H3 e3 p => hr y H3 ((e.trans e2).trans e3) p H3 (Ex.refl H3) Q fun H4 e4 => q H4 ((e2.trans e3).trans e4)
theorem ev_opPP {r : R2} {ta tb : TE} {P1 P2 : VP} (ha : EvP ta σ H P1) (s1 : Stab P1) (hb : EvP tb σ H P2) (hr : ∀ x y H1, Ex H H1 → P1 x H1 → P2 y H1 → RV r x y H1 z) : Ev (tOp r ta tb) σ H z := fun H1 e Q q =>
  ha H1 e _ fun x H2 e2 p1 => hb H2 (e.trans e2) _ fun y H3 e3 p2 => hr x y H3 ((e.trans e2).trans e3) (s1 _ _ _ e3 p1) p2 H3 (Ex.refl H3) Q fun H4 e4 => q H4 ((e2.trans e3).trans e4)
theorem ev_intB {b : Bool} (h : Ev te σ H (.bl b)) : Ev (tCB oInt1 (tCons te tNil)) σ H (.int (if b then 1 else 0)) := fun H1 e Q q => h H1 e _ fun H2 e2 => Or.inr ⟨b, rfl, q H2 e2⟩
/-- [a, b, ..][i], the items ints -/
theorem ev_pickL {xs : List V} {i : Int} {v : V} (h : EvL te σ H xs) (hi : ∀ H1, Ex H H1 → Ev ti σ H1 (.int i)) (ha : atI xs i = some v) : Ev (tOp (rIxL K) te ti) σ H v := ev_opL1 h hi fun p H1 h1 _ => rv_ixL (sq_of h1) ha
theorem at_mod {xs : List V} {i : Int} {v : V} (h0 : 0 ≤ i) (h : xs[i.toNat]? = some v) : atI xs i = some v := by
  have := atI_nat h
  rw [show ((i.toNat : Nat) : Int) = i by omega] at this
  exact this
end
section
variable {K : PySem.W.Frag} {c : Cl}
/-! ### the law's drawing of a rule -/
def cellAt (ns : List Int) (k : Int) : Int := if k < ns.length then ns.getD k.toNat 0 else 0
def sp_l_cell_at (K : PySem.W.Frag) (c : Cl) : Sp := fun vs H Q _ => ∃ (a : Addr) (ns : List Int) (k : Int), vs = [.ref a, .int k] ∧ IL K H a ns ∧ 0 ≤ k ∧ RetV (.int (cellAt ns k)) H Q
def t_l_cell_at (K : PySem.W.Frag) (c : Cl) (E : XK) : TS :=
(tSeq (tIfS (tTest (tOp oLt (tVar 1) (tCB (Evl.rLenS K) (tCons (tVar 0) tNil)))) (tRet (tOp (rIxL K) (tVar 0) (tVar 1))) tNext)
    (tRet (tC (.int 0))))
theorem len_l_cell_at (vs : List V) (H : Hp) (Q : VK) (E : XK) (h : sp_l_cell_at K c vs H Q E) : vs.length = 2 := by
  obtain ⟨a, ns, k, rfl, _⟩ := h
  rfl
theorem pure_l_cell_at (vs : List V) (H : Hp) (Q : VK) (E : XK) (h : sp_l_cell_at K c vs H Q E) : t_l_cell_at K c E { nx := fun _ H' => Q .non H', rt := Q } (start' 2 vs) H := by
  obtain ⟨a, ns, k, rfl, hs, k0, q⟩ := h
  refine q_when (b := decide (k < ((ns.map V.int).length : Int))) (et_test (ev_op (ev_var rfl) (ev_lenS (ev_var rfl) (Or.inl hs)) rv_I0)) (fun hb H1 e1 => ?_) fun hb H1 e1 => ?_
  · have z := of_decide_eq_true hb
    rw [List.length_map] at z
    refine s_ret (ev_op (ev_var rfl) (ev_var rfl) (rv_ixL (ex_l e1 hs) (v := .int (cellAt ns k)) ?_)) fun H2 e2 => q H2 (e1.trans e2)
    refine at_mod k0 ?_
    unfold cellAt
    rw [if_pos z, List.getElem?_map, List.getElem?_eq_getElem (by omega)]
    simp [List.getD, List.getElem?_eq_getElem (show k.toNat < ns.length by omega)]
  · have z := of_decide_eq_false hb
    rw [List.length_map] at z
    refine s_ret (v := .int (cellAt ns k)) (ev_is ev_c ?_) fun H2 e2 => q H2 (e1.trans e2)
    unfold cellAt
    rw [if_neg z]
theorem spv_l_cell_at {H : Hp} {a : Addr} {ns : List Int} {k : Int} (hs : IL K H a ns) (k0 : 0 ≤ k) : SpV (sp_l_cell_at K c) [.ref a, .int k] H (.int (cellAt ns k)) := fun H1 e Q q E => ⟨a, ns, k, rfl, ex_l e hs, k0, q⟩
theorem spv_l_mixed {H : Hp} {a k : Int} (h1 : -1000000 < k) (h2 : k < 1000000) : SpV (sp_l_mixed K c) [.int a, .int k] H (.int (lMixed a k)) := fun H1 e Q q E => ⟨a, k, rfl, h1, h2, q⟩
/-- a table is told: a tuple of rows signs -/
def RetTab (s rows : Int) (H : Hp) (Q : VK) : Prop := ∀ (p : Addr) (H2 : Hp) (xs : List Int), H p = none → Ex H H2 → H2 p = some (.tup (xs.map V.int)) → (xs.length : Int) = rows → InS s xs → Q (.ref p) H2
theorem RetTab.map {s rows : Int} {H : Hp} {Q : VK} (q : RetTab s rows H Q) (r0 : 0 ≤ rows) (f : Nat → Int) (hf : ∀ i : Nat, (i : Int) < rows → 0 ≤ f i ∧ f i < s) {p : Addr} {H2 : Hp} (hp : H p = none) (e : Ex H H2) (h : H2 p = some (.tup ((List.range rows.toNat).map fun i => V.int (f i)))) : Q (.ref p) H2 := by
  refine q p H2 ((List.range rows.toNat).map f) hp e ?_ ?_ ?_
  · rw [List.map_map]
    exact h
  · rw [List.length_map, List.length_range]
    omega
  · intro x hx
    obtain ⟨i, hi, rfl⟩ := List.mem_map.mp hx
    exact hf i (by have := List.mem_range.mp hi; omega)
def sp_l_random (K : PySem.W.Frag) (c : Cl) : Sp := fun vs H Q _ => ∃ (s rows more : Int), vs = [.int s, .int rows, .int more] ∧ 0 < s ∧ 0 ≤ rows ∧ rows ≤ 1000 ∧ RetTab s rows H Q
def t_l_random (K : PySem.W.Frag) (c : Cl) (E : XK) : TS :=
(tRet (tCB (oTupS K) (tCons (tLc (iRng1 (tCons (tVar 1) tNil)) (gName 3) tYes (tOp oMod (tCall (sp_l_mixed K c) [] E0 (tCons (tVar 2) (tCons (tVar 3) tNil))) (tVar 0)) [3]) tNil)))
theorem len_l_random (vs : List V) (H : Hp) (Q : VK) (E : XK) (h : sp_l_random K c vs H Q E) : vs.length = 3 := by
  obtain ⟨s, rows, more, rfl, _⟩ := h
  rfl
theorem mod_in {x s : Int} (h : 0 < s) : 0 ≤ x % s ∧ x % s < s := ⟨Int.emod_nonneg _ (by omega), Int.emod_lt_of_pos _ h⟩
theorem pure_l_random (vs : List V) (H : Hp) (Q : VK) (E : XK) (h : sp_l_random K c vs H Q E) : t_l_random K c E { nx := fun _ H' => Q .non H', rt := Q } (start' 4 vs) H := by
  obtain ⟨s, rows, more, rfl, s0, r0, r1, q⟩ := h
  refine s_retU (eu_tupS (el_mapR (fun i => V.int (lMixed more i % s)) (ea_cons (ev_var rfl) ea_nil) ⟨r0, by omega⟩ (fun _ => rfl) fun i H1 e1 hi => ?_)) fun p H2 hp e2 h2 => q.map r0 (fun i => lMixed more i % s) (fun i _ => mod_in s0) hp e2 h2
  exact ev_op (ev_call (ea_cons (ev_var rfl) (ea_cons (ev_var rfl) ea_nil)) (spv_l_mixed (by omega) (by omega))) (ev_var rfl) (rv_mod s0)
def sp_l_mending (K : PySem.W.Frag) (c : Cl) : Sp := fun vs H Q _ => ∃ (s rows more : Int), vs = [.int s, .int rows, .int more] ∧ 0 < s ∧ s ≤ 1000 ∧ s ≤ rows ∧ rows ≤ 1000 ∧ RetTab s rows H Q
def t_l_mending (K : PySem.W.Frag) (c : Cl) (E : XK) : TS :=
(tSeq (tAsg (tOp oDiv (tVar 1) (tVar 0)) (gName 3))
    (tSeq (tIfS (tTest (tOp rEq (tOp oMod (tVar 2) (tC (.int 2))) (tC (.int 0)))) (tRet (tCB (oTupS K) (tCons (tLc (iRng1 (tCons (tVar 1) tNil)) (gName 4) tYes (tOp oMod (tOp oAdd (tOp oMod (tVar 4) (tVar 0)) (tCall (sp_l_mixed K c) [] E0 (tCons (tVar 2) (tCons (tOp oDiv (tVar 4) (tVar 0)) tNil)))) (tVar 0)) [4]) tNil))) tNext)
    (tRet (tCB (oTupS K) (tCons (tLc (iRng1 (tCons (tVar 1) tNil)) (gName 4) tYes (tOp oMod (tOp oAdd (tOp oDiv (tVar 4) (tVar 3)) (tCall (sp_l_mixed K c) [] E0 (tCons (tVar 2) (tCons (tOp oMod (tVar 4) (tVar 3)) tNil)))) (tVar 0)) [4]) tNil)))))
theorem len_l_mending (vs : List V) (H : Hp) (Q : VK) (E : XK) (h : sp_l_mending K c vs H Q E) : vs.length = 3 := by
  obtain ⟨s, rows, more, rfl, _⟩ := h
  rfl
theorem div_in {x s : Int} (h : 0 < s) (x0 : 0 ≤ x) : 0 ≤ x / s ∧ x / s ≤ x := ⟨Int.ediv_nonneg x0 (by omega), Int.ediv_le_self _ x0⟩
theorem pure_l_mending (vs : List V) (H : Hp) (Q : VK) (E : XK) (h : sp_l_mending K c vs H Q E) : t_l_mending K c E { nx := fun _ H' => Q .non H', rt := Q } (start' 5 vs) H := by
  obtain ⟨s, rows, more, rfl, s0, s1, r0, r1, q⟩ := h
  refine q_asg (v := .int (rows / s)) (ev_op (ev_var rfl) (ev_var rfl) (rv_div s0 (by omega))) fun H1 e1 => ?_
  have few : 0 < rows / s := Int.le_ediv_of_mul_le (a := 1) s0 (by omega)
  have few1 : rows / s ≤ rows := (div_in s0 (by omega)).2
  refine q_when (et_test (ev_op (ev_op (ev_var rfl) ev_c (rv_mod (by omega))) ev_c rv_eqI)) (fun _ H2 e2 => ?_) fun _ H2 e2 => ?_
  · refine s_retU (eu_tupS (el_mapR (fun i => V.int (((i : Int) % s + lMixed more ((i : Int) / s)) % s)) (ea_cons (ev_var rfl) ea_nil) ⟨by omega, by omega⟩ (fun _ => rfl) fun i H3 e3 hi => ?_)) fun p H3 hp e3 h3 => q.map (by omega) (fun i => ((i : Int) % s + lMixed more ((i : Int) / s)) % s) (fun i _ => mod_in s0) (fresh_back (e1.trans e2) hp) ((e1.trans e2).trans e3) h3
    have d := div_in s0 (show (0 : Int) ≤ i by omega)
    exact ev_op (ev_op (ev_op (ev_var rfl) (ev_var rfl) (rv_mod s0)) (ev_call (ea_cons (ev_var rfl) (ea_cons (ev_op (ev_var rfl) (ev_var rfl) (rv_div s0 (by omega))) ea_nil)) (spv_l_mixed (by omega) (by omega))) rv_I0) (ev_var rfl) (rv_mod s0)
  · refine s_retU (eu_tupS (el_mapR (fun i => V.int (((i : Int) / (rows / s) + lMixed more ((i : Int) % (rows / s))) % s)) (ea_cons (ev_var rfl) ea_nil) ⟨by omega, by omega⟩ (fun _ => rfl) fun i H3 e3 hi => ?_)) fun p H3 hp e3 h3 => q.map (by omega) (fun i => ((i : Int) / (rows / s) + lMixed more ((i : Int) % (rows / s))) % s) (fun i _ => mod_in s0) (fresh_back (e1.trans e2) hp) ((e1.trans e2).trans e3) h3
    have d := mod_in (x := (i : Int)) few
    exact ev_op (ev_op (ev_op (ev_var rfl) (ev_var rfl) (rv_div few (by omega))) (ev_call (ea_cons (ev_var rfl) (ea_cons (ev_op (ev_var rfl) (ev_var rfl) (rv_mod few)) ea_nil)) (spv_l_mixed (by omega) (by omega))) rv_I0) (ev_var rfl) (rv_mod s0)
end
end Br

namespace Br
open PySem PySem.Spec PyProof.Rows L2 Evl
section
variable {K : PySem.W.Frag} {c : Cl}
def lBetween (k way : Int) : Int :=
  (([k / 8, k / 4 % 2, k / 2 % 2, k % 2] : List Int).getD (1 + way / 2 % 2).toNat 0 +
    (if ([k / 8, k / 4 % 2, k / 2 % 2, k % 2] : List Int).take (1 + way / 2 % 2).toNat ++ ([k / 8, k / 4 % 2, k / 2 % 2, k % 2] : List Int).drop ((1 + way / 2 % 2).toNat + 1) = (if way % 2 = 0 then [1, 0, 1] else [0, 1, 0]) then 1 else 0)) % 2
def sp_l_between (K : PySem.W.Frag) (c : Cl) : Sp := fun vs H Q _ => ∃ (k way : Int), vs = [.int k, .int way] ∧ RetV (.int (lBetween k way)) H Q
def t_l_between (K : PySem.W.Frag) (c : Cl) (E : XK) : TS :=
(tSeq (tAsg (tLst (tCons (tOp oDiv (tVar 0) (tC (.int 8))) (tCons (tOp oMod (tOp oDiv (tVar 0) (tC (.int 4))) (tC (.int 2))) (tCons (tOp oMod (tOp oDiv (tVar 0) (tC (.int 2))) (tC (.int 2))) (tCons (tOp oMod (tVar 0) (tC (.int 2))) tNil))))) (gName 2))
    (tSeq (tAsg (tOp oAdd (tC (.int 1)) (tOp oMod (tOp oDiv (tVar 1) (tC (.int 2))) (tC (.int 2)))) (gName 3))
    (tSeq (tAsg (tOp oCat (tSl (rSlL K) (tVar 2) tNoPart (tPart (tVar 3))) (tSl (rSlL K) (tVar 2) (tPart (tOp oAdd (tVar 3) (tC (.int 1)))) tNoPart)) (gName 4))
    (tRet (tOp oMod (tOp oAdd (tOp (rIxL K) (tVar 2) (tVar 3)) (tCB oInt1 (tCons (tOp (rEqD K) (tVar 4) (tOp (rIxL K) (tLst (tCons (tLst (tCons (tC (.int 1)) (tCons (tC (.int 0)) (tCons (tC (.int 1)) tNil)))) (tCons (tLst (tCons (tC (.int 0)) (tCons (tC (.int 1)) (tCons (tC (.int 0)) tNil)))) tNil))) (tOp oMod (tVar 1) (tC (.int 2))))) tNil))) (tC (.int 2)))))))
theorem len_l_between (vs : List V) (H : Hp) (Q : VK) (E : XK) (h : sp_l_between K c vs H Q E) : vs.length = 2 := by
  obtain ⟨k, way, rfl, _⟩ := h
  rfl
theorem pure_l_between (vs : List V) (H : Hp) (Q : VK) (E : XK) (h : sp_l_between K c vs H Q E) : t_l_between K c E { nx := fun _ H' => Q .non H', rt := Q } (start' 5 vs) H := by
  obtain ⟨k, way, rfl, q⟩ := h
  have hw := mod_in (x := way) (s := 2) (by omega)
  have ha := mod_in (x := way / 2) (s := 2) (by omega)
  generalize hcs : ([k / 8, k / 4 % 2, k / 2 % 2, k % 2] : List Int) = cs
  have hl : cs.length = 4 := by rw [← hcs]; rfl
  refine q_asgL (xs := cs.map V.int) ?_ fun p H1 hp e1 h1 => ?_
  · rw [← hcs]
    refine el_lst (vs := [.int (k / 8), .int (k / 4 % 2), .int (k / 2 % 2), .int (k % 2)]) ?_ (by show 4 ≤ 100000; omega)
    (repeat' first
        | exact ev_c
        | exact ev_var rfl
        | exact ea_nil
        | exact eo_none
        | apply ea_cons
        | apply ev_op
        | apply ev_un
        | apply eo_some
        | exact rv_I0
        | exact ru_neg
        | exact et_yes
        | apply et_test
        | apply et_B
        | apply et_not
        | apply rv_mod
        | apply rv_div
        | apply rv_mul
        | apply rv_eqI
        | apply rv_neI
        | exact rv_isTy
        | exact rv_notTy
        | (apply ev_lenS; rotate_left)
        | exact rv_ixT (by assumption) rfl)
    all_goals omega
  refine q_asg (v := .int (1 + way / 2 % 2)) ?_ fun H2 e2 => ?_
  · (repeat' first
        | exact ev_c
        | exact ev_var rfl
        | exact ea_nil
        | exact eo_none
        | apply ea_cons
        | apply ev_op
        | apply ev_un
        | apply eo_some
        | exact rv_I0
        | exact ru_neg
        | exact et_yes
        | apply et_test
        | apply et_B
        | apply et_not
        | apply rv_mod
        | apply rv_div
        | apply rv_mul
        | apply rv_eqI
        | apply rv_neI
        | exact rv_isTy
        | exact rv_notTy
        | (apply ev_lenS; rotate_left)
        | exact rv_ixT (by assumption) rfl)
    all_goals omega
  have h2 : IL K H2 p cs := sq_of (e2 _ _ h1)
  refine q_asgL (xs := (cs.take (1 + way / 2 % 2).toNat ++ cs.drop ((1 + way / 2 % 2).toNat + 1)).map V.int) ?_ fun r H3 hr e3 h3 => ?_
  · rw [List.map_append, List.map_take, List.map_drop]
    refine el_cat ?_ ?_ ?_
    · have z := el_sl (K := K) (σ := ((start' 5 [.int k, .int way]).set 2 (some (.ref p))).set 3 (some (.int (1 + way / 2 % 2)))) (te := tVar 2) (tl := tNoPart) (th := tPart (tVar 3)) (ev_var rfl) eo_none (eo_some (ev_var rfl)) h2
      rw [show (1 + way / 2 % 2) = (((1 + way / 2 % 2).toNat : Nat) : Int) by omega, cut_take] at z
      rw [show (1 + way / 2 % 2) = (((1 + way / 2 % 2).toNat : Nat) : Int) by omega]
      exact z
    · have z := el_sl (K := K) (σ := ((start' 5 [.int k, .int way]).set 2 (some (.ref p))).set 3 (some (.int (1 + way / 2 % 2)))) (te := tVar 2) (tl := tPart (tOp oAdd (tVar 3) (tC (.int 1)))) (th := tNoPart) (ev_var rfl) (eo_some (ev_op (ev_var rfl) ev_c rv_I0)) eo_none h2
      rw [show (1 + way / 2 % 2 + 1) = (((1 + way / 2 % 2).toNat + 1 : Nat) : Int) by omega, cut_drop] at z
      exact z
    · rw [List.length_take, List.length_drop, List.length_map, hl]
      omega
  have E3 := (e1.trans e2).trans e3
  refine s_ret (v := .int (lBetween k way)) ?_ fun H4 e4 => q H4 (E3.trans e4)
  have pk : EvP (tOp (rIxL K) (tLst (tCons (tLst (tCons (tC (.int 1)) (tCons (tC (.int 0)) (tCons (tC (.int 1)) tNil)))) (tCons (tLst (tCons (tC (.int 0)) (tCons (tC (.int 1)) (tCons (tC (.int 0)) tNil)))) tNil))) (tOp oMod (tVar 1) (tC (.int 2))))
      ((((start' 5 [.int k, .int way]).set 2 (some (.ref p))).set 3 (some (.int (1 + way / 2 % 2)))).set 4 (some (.ref r))) H3 (LstV K ((if way % 2 = 0 then [1, 0, 1] else [0, 1, 0] : List Int).map V.int)) := by
    refine evp_pick (Ps := [LstV K (([1, 0, 1] : List Int).map V.int), LstV K (([0, 1, 0] : List Int).map V.int)]) (evp_lst (eap_cons (EvP.lst (el_lst (ea_cons ev_c (ea_cons ev_c (ea_cons ev_c ea_nil))) (by show 3 ≤ 100000; omega))) stab_lst (eap_cons (EvP.lst (el_lst (ea_cons ev_c (ea_cons ev_c (ea_cons ev_c ea_nil))) (by show 3 ≤ 100000; omega))) stab_lst eap_nil)) ?_ (by show 2 ≤ 1000; omega)) ?_ (ev_op (ev_var rfl) ev_c (rv_mod (by omega))) hw.1 ?_
    · intro P hP
      simp only [List.mem_cons, List.mem_nil_iff, or_false] at hP
      rcases hP with rfl | rfl <;> exact stab_lst
    · intro P hP
      simp only [List.mem_cons, List.mem_nil_iff, or_false] at hP
      rcases hP with rfl | rfl <;> exact stab_lst
    · by_cases h0 : way % 2 = 0
      · rw [h0]
        rfl
      · rw [show way % 2 = 1 by omega]
        rfl
  refine ev_is (ev_op (ev_op (ev_op (ev_var rfl) (ev_var rfl) (rv_ixL (v := .int (cs.getD (1 + way / 2 % 2).toNat 0)) (ex_l e3 h2) ?_)) (ev_intB (b := decide (cs.take (1 + way / 2 % 2).toNat ++ cs.drop ((1 + way / 2 % 2).toNat + 1) = (if way % 2 = 0 then [1, 0, 1] else [0, 1, 0]))) (ev_opP (ev_var rfl) pk fun y H5 e5 hy => ?_)) rv_I0) ev_c (rv_mod (by omega))) ?_
  · refine at_mod (by omega) ?_
    rw [List.getElem?_map, List.getElem?_eq_getElem (by omega)]
    simp [List.getD, List.getElem?_eq_getElem (show (1 + way / 2 % 2).toNat < cs.length by omega)]
  · obtain ⟨a, rfl, ha'⟩ := hy
    have z := rv_eqData (H := H5) (dp_il (sq_of (e5 _ _ h3))) (dp_il ha') (shaped_dI _) (shaped_dI _)
    rw [eqv_dI] at z
    exact z
  · show V.int _ = V.int (lBetween k way)
    unfold lBetween
    rw [hcs]
    simp
theorem spv_l_between {H : Hp} {k way : Int} : SpV (sp_l_between K c) [.int k, .int way] H (.int (lBetween k way)) := fun H1 e Q q E => ⟨k, way, rfl, q⟩
theorem lBetween_in (k way : Int) : 0 ≤ lBetween k way ∧ lBetween k way < 2 := mod_in (by omega)
/-! ### beside -/
def lBeside (k way : Int) : Int :=
  let cell := if way % 2 = 0 then k / 3 else k % 3
  let near := if way % 2 = 0 then k % 3 else k / 3
  if near = way / 2 % 3 ∧ cell ≠ way / 2 % 3 then 3 - way / 2 % 3 - cell else cell
def sp_l_beside (K : PySem.W.Frag) (c : Cl) : Sp := fun vs H Q _ => ∃ (k way : Int), vs = [.int k, .int way] ∧ RetV (.int (lBeside k way)) H Q
def t_l_beside (K : PySem.W.Frag) (c : Cl) (E : XK) : TS :=
(tSeq (tAsg (tOp oMod (tOp oDiv (tVar 1) (tC (.int 2))) (tC (.int 3))) (gName 2))
    (tSeq (tAsg (tOp (rIxL K) (tLst (tCons (tTup (tCons (tOp oDiv (tVar 0) (tC (.int 3))) (tCons (tOp oMod (tVar 0) (tC (.int 3))) tNil))) (tCons (tTup (tCons (tOp oMod (tVar 0) (tC (.int 3))) (tCons (tOp oDiv (tVar 0) (tC (.int 3))) tNil))) tNil))) (tOp oMod (tVar 1) (tC (.int 2)))) (gTup K 2 (gCons (gName 3) (gCons (gName 4) gNil))))
    (tSeq (tIfS (tAnd (tTest (tOp rEq (tVar 4) (tVar 2))) (tTest (tOp rNe (tVar 3) (tVar 2)))) (tRet (tOp oSub (tOp oSub (tC (.int 3)) (tVar 2)) (tVar 3))) tNext)
    (tRet (tVar 3)))))
theorem len_l_beside (vs : List V) (H : Hp) (Q : VK) (E : XK) (h : sp_l_beside K c vs H Q E) : vs.length = 2 := by
  obtain ⟨k, way, rfl, _⟩ := h
  rfl
theorem pure_l_beside (vs : List V) (H : Hp) (Q : VK) (E : XK) (h : sp_l_beside K c vs H Q E) : t_l_beside K c E { nx := fun _ H' => Q .non H', rt := Q } (start' 5 vs) H := by
  obtain ⟨k, way, rfl, q⟩ := h
  have hw := mod_in (x := way) (s := 2) (by omega)
  refine q_asg (v := .int (way / 2 % 3)) ?_ fun H1 e1 => ?_
  · (repeat' first
        | exact ev_c
        | exact ev_var rfl
        | exact ea_nil
        | exact eo_none
        | apply ea_cons
        | apply ev_op
        | apply ev_un
        | apply eo_some
        | exact rv_I0
        | exact ru_neg
        | exact et_yes
        | apply et_test
        | apply et_B
        | apply et_not
        | apply rv_mod
        | apply rv_div
        | apply rv_mul
        | apply rv_eqI
        | apply rv_neI
        | exact rv_isTy
        | exact rv_notTy
        | (apply ev_lenS; rotate_left)
        | exact rv_ixT (by assumption) rfl)
    all_goals omega
  refine q_unpackP2 (x := .int (if way % 2 = 0 then k / 3 else k % 3)) (y := .int (if way % 2 = 0 then k % 3 else k / 3)) ?_ fun H2 e2 => ?_
  · refine evp_pick (Ps := [TupV K [.int (k / 3), .int (k % 3)], TupV K [.int (k % 3), .int (k / 3)]]) (evp_lst (eap_cons (EvP.tup (eu_tup ?_ (by show 2 ≤ 100000; omega))) stab_tup (eap_cons (EvP.tup (eu_tup ?_ (by show 2 ≤ 100000; omega))) stab_tup eap_nil)) ?_ (by show 2 ≤ 1000; omega)) ?_ (ev_op (ev_var rfl) ev_c (rv_mod (by omega))) hw.1 ?_
    · (repeat' first
          | exact ev_c
          | exact ev_var rfl
          | exact ea_nil
          | exact eo_none
          | apply ea_cons
          | apply ev_op
          | apply ev_un
          | apply eo_some
          | exact rv_I0
          | exact ru_neg
          | exact et_yes
          | apply et_test
          | apply et_B
          | apply et_not
          | apply rv_mod
          | apply rv_div
          | apply rv_mul
          | apply rv_eqI
          | apply rv_neI
          | exact rv_isTy
          | exact rv_notTy
          | (apply ev_lenS; rotate_left)
          | exact rv_ixT (by assumption) rfl)
      all_goals omega
    · (repeat' first
          | exact ev_c
          | exact ev_var rfl
          | exact ea_nil
          | exact eo_none
          | apply ea_cons
          | apply ev_op
          | apply ev_un
          | apply eo_some
          | exact rv_I0
          | exact ru_neg
          | exact et_yes
          | apply et_test
          | apply et_B
          | apply et_not
          | apply rv_mod
          | apply rv_div
          | apply rv_mul
          | apply rv_eqI
          | apply rv_neI
          | exact rv_isTy
          | exact rv_notTy
          | (apply ev_lenS; rotate_left)
          | exact rv_ixT (by assumption) rfl)
      all_goals omega
    · intro P hP
      simp only [List.mem_cons, List.mem_nil_iff, or_false] at hP
      rcases hP with rfl | rfl <;> exact stab_tup
    · intro P hP
      simp only [List.mem_cons, List.mem_nil_iff, or_false] at hP
      rcases hP with rfl | rfl <;> exact stab_tup
    · by_cases h0 : way % 2 = 0
      · rw [h0]
        rfl
      · rw [show way % 2 = 1 by omega]
        rfl
  have E2 := e1.trans e2
  refine q_when (et_and (a := decide ((if way % 2 = 0 then k % 3 else k / 3) = way / 2 % 3)) (b := !decide ((if way % 2 = 0 then k / 3 else k % 3) = way / 2 % 3)) (et_test (ev_op (ev_var rfl) (ev_var rfl) rv_eqI)) fun _ => et_test (ev_op (ev_var rfl) (ev_var rfl) rv_neI)) (fun hb H3 e3 => ?_) fun hb H3 e3 => ?_
  · refine s_ret (v := .int (lBeside k way)) (ev_is (ev_op (ev_op ev_c (ev_var rfl) rv_I0) (ev_var rfl) rv_I0) ?_) fun H4 e4 => q H4 ((E2.trans e3).trans e4)
    simp only [Bool.and_eq_true, decide_eq_true_eq, Bool.not_eq_true', decide_eq_false_iff_not] at hb
    unfold lBeside
    simp only
    rw [if_pos hb]
  · refine s_ret (v := .int (lBeside k way)) (ev_is (ev_var rfl) ?_) fun H4 e4 => q H4 ((E2.trans e3).trans e4)
    have hn : ¬ ((if way % 2 = 0 then k % 3 else k / 3) = way / 2 % 3 ∧ (if way % 2 = 0 then k / 3 else k % 3) ≠ way / 2 % 3) := by
      intro ⟨a, b⟩
      rw [decide_eq_true a, decide_eq_false b] at hb
      cases hb
    unfold lBeside
    simp only
    rw [if_neg hn]
theorem spv_l_beside {H : Hp} {k way : Int} : SpV (sp_l_beside K c) [.int k, .int way] H (.int (lBeside k way)) := fun H1 e Q q E => ⟨k, way, rfl, q⟩
theorem lBeside_in {k way : Int} (k0 : 0 ≤ k) (k9 : k < 9) : 0 ≤ lBeside k way ∧ lBeside k way < 3 := by
  unfold lBeside
  simp only
  split <;> split <;> omega
end
end Br

namespace Br
open PySem PySem.Spec PyProof.Rows L2 Evl
section
variable {K : PySem.W.Frag} {c : Cl}
theorem il_at {ns : List Int} {i : Int} (h0 : 0 ≤ i) (h1 : i < ns.length) : atI (ns.map V.int) i = some (.int (ns.getD i.toNat 0)) := by
  refine at_mod h0 ?_
  rw [List.getElem?_map, List.getElem?_eq_getElem (by omega)]
  simp [List.getD, List.getElem?_eq_getElem (show i.toNat < ns.length by omega)]
theorem InS.at {s : Int} {ns : List Int} (h : InS s ns) {i : Int} (h0 : 0 ≤ i) (h1 : i < ns.length) : 0 ≤ ns.getD i.toNat 0 ∧ ns.getD i.toNat 0 < s := h _ (getD_mem (by omega))
def sp_l_turned (K : PySem.W.Frag) (c : Cl) : Sp := fun vs H Q _ => ∃ (s w rows more : Int), vs = [.int s, .int w, .int rows, .int more] ∧ 0 < s ∧ s ≤ 4 ∧ 0 < w ∧ w ≤ 4 ∧ rows = s ^ w.toNat ∧ rows ≤ 1000 ∧ RetTab s rows H Q
def t_l_turned (K : PySem.W.Frag) (c : Cl) (E : XK) : TS :=
(tSeq (tAsg (tLc (iRng1 (tCons (tVar 0) tNil)) (gName 5) tYes (tOp oMod (tOp oAdd (tOp oDiv (tVar 3) (tC (.int 4))) (tOp oMul (tVar 5) (tOp (rIxL K) (tLst (tCons (tC (.int 1)) (tCons (tOp oSub (tVar 0) (tC (.int 1))) tNil))) (tOp oMod (tOp oDiv (tVar 3) (tC (.int 64))) (tC (.int 2)))))) (tVar 0)) [5]) (gName 4))
    (tSeq (tIfS (tAnd (tTest (tOp rEq (tVar 0) (tC (.int 4)))) (tAnd (tTest (tOp rEq (tVar 1) (tC (.int 2)))) (tTest (tOp oGt (tOp oMod (tVar 3) (tC (.int 4))) (tC (.int 0)))))) (tRet (tCB (oTupS K) (tCons (tLc (iRng1 (tCons (tC (.int 16)) tNil)) (gName 5) tYes (tOp (rIxL K) (tVar 4) (tOp oAdd (tOp oMul (tOp oDiv (tVar 5) (tC (.int 8))) (tC (.int 2))) (tOp oMod (tVar 5) (tC (.int 2))))) [5]) tNil))) tNext)
    (tSeq (tIfS (tAnd (tTest (tOp rEq (tVar 0) (tC (.int 3)))) (tAnd (tTest (tOp rEq (tVar 1) (tC (.int 2)))) (tTest (tOp oGt (tOp oMod (tVar 3) (tC (.int 4))) (tC (.int 0)))))) (tRet (tCB (oTupS K) (tCons (tLc (iRng1 (tCons (tC (.int 9)) tNil)) (gName 5) tYes (tOp (rIxL K) (tVar 4) (tCall (sp_l_beside K c) [] E0 (tCons (tVar 5) (tCons (tOp oDiv (tVar 3) (tC (.int 256))) tNil)))) [5]) tNil))) tNext)
    (tSeq (tIfS (tAnd (tTest (tOp rEq (tVar 0) (tC (.int 2)))) (tAnd (tTest (tOp rEq (tVar 1) (tC (.int 4)))) (tTest (tOp oGt (tOp oMod (tVar 3) (tC (.int 4))) (tC (.int 0)))))) (tRet (tCB (oTupS K) (tCons (tLc (iRng1 (tCons (tC (.int 16)) tNil)) (gName 5) tYes (tOp (rIxL K) (tVar 4) (tCall (sp_l_between K c) [] E0 (tCons (tVar 5) (tCons (tOp oDiv (tVar 3) (tC (.int 256))) tNil)))) [5]) tNil))) tNext)
    (tSeq (tAsg (tOp (rIxL K) (tLst (tCons (tC (.int 1)) (tCons (tVar 0) (tCons (tOp oMul (tVar 0) (tVar 0)) (tCons (tOp oMul (tOp oMul (tVar 0) (tVar 0)) (tVar 0)) tNil))))) (tOp oMod (tOp oDiv (tVar 3) (tC (.int 16))) (tVar 1))) (gName 6))
    (tRet (tCB (oTupS K) (tCons (tLc (iRng1 (tCons (tVar 2) tNil)) (gName 5) tYes (tOp (rIxL K) (tVar 4) (tOp oMod (tOp oDiv (tVar 5) (tVar 6)) (tVar 0))) [5]) tNil))))))))
theorem len_l_turned (vs : List V) (H : Hp) (Q : VK) (E : XK) (h : sp_l_turned K c vs H Q E) : vs.length = 4 := by
  obtain ⟨s, w, rows, more, rfl, _⟩ := h
  rfl
theorem and3 {a b d : Bool} (h : (a && (b && d)) = true) : a = true ∧ b = true := by
  cases a <;> cases b <;> simp_all
theorem pure_l_turned (vs : List V) (H : Hp) (Q : VK) (E : XK) (h : sp_l_turned K c vs H Q E) : t_l_turned K c E { nx := fun _ H' => Q .non H', rt := Q } (start' 7 vs) H := by
  obtain ⟨s, w, rows, more, rfl, s0, s4, w0, w4, hr, r1, q⟩ := h
  have h64 := mod_in (x := more / 64) (s := 2) (by omega)
  generalize hod : (List.range s.toNat).map (fun i : Nat => (more / 4 + (i : Int) * (if more / 64 % 2 = 0 then 1 else s - 1)) % s) = od
  have ol : (od.length : Int) = s := by rw [← hod, List.length_map, List.length_range]; omega
  have oS : InS s od := fun x hx => by
    rw [← hod] at hx
    obtain ⟨i, _, rfl⟩ := List.mem_map.mp hx
    exact mod_in s0
  refine q_asgL (xs := od.map V.int) ?_ fun p H1 hp e1 h1 => ?_
  · rw [← hod, List.map_map]
    refine el_mapR (fun i => V.int ((more / 4 + (i : Int) * (if more / 64 % 2 = 0 then 1 else s - 1)) % s)) (ea_cons (ev_var rfl) ea_nil) (by omega) (fun _ => rfl) fun i H2 e2 hi => ?_
    refine ev_op (ev_op (ev_op (ev_var rfl) ev_c (rv_div (by omega) (by omega))) (ev_op (ev_var rfl) (ev_pickL (xs := [.int 1, .int (s - 1)]) (i := more / 64 % 2) (v := .int (if more / 64 % 2 = 0 then 1 else s - 1)) (el_lst (ea_cons ev_c (ea_cons (ev_op (ev_var rfl) ev_c rv_I0) ea_nil)) (by show 2 ≤ 100000; omega)) (fun H3 _ => ?_) ?_) (rv_mul (Or.inl ⟨by omega, by omega⟩))) rv_I0) (ev_var rfl) (rv_mod s0)
    · (repeat' first
          | exact ev_c
          | exact ev_var rfl
          | exact ea_nil
          | exact eo_none
          | apply ea_cons
          | apply ev_op
          | apply ev_un
          | apply eo_some
          | exact rv_I0
          | exact ru_neg
          | exact et_yes
          | apply et_test
          | apply et_B
          | apply et_not
          | apply rv_mod
          | apply rv_div
          | apply rv_mul
          | apply rv_eqI
          | apply rv_neI
          | exact rv_isTy
          | exact rv_notTy
          | (apply ev_lenS; rotate_left)
          | exact rv_ixT (by assumption) rfl)
      all_goals omega
    · refine at_mod h64.1 ?_
      by_cases h0 : more / 64 % 2 = 0
      · rw [h0]
        rfl
      · rw [show more / 64 % 2 = 1 by omega]
        rfl
  have ho : ∀ {H2}, Ex H1 H2 → IL K H2 p od := fun e => sq_of (e _ _ h1)
  refine q_when (et_and (a := decide (s = 4)) (b := decide (w = 2) && decide (0 < more % 4)) (et_test (ev_op (ev_var rfl) ev_c rv_eqI)) fun _ => et_and (et_test (ev_op (ev_var rfl) ev_c rv_eqI)) fun _ => et_test (ev_op (ev_op (ev_var rfl) ev_c (rv_mod (by omega))) ev_c rv_I0)) (fun hb H2 e2 => ?_) fun _ H2 e2 => ?_
  · obtain ⟨a, b⟩ := and3 hb
    have a := of_decide_eq_true a
    have b := of_decide_eq_true b
    subst a b
    have hr16 : rows = 16 := hr
    refine s_retU (eu_tupS (el_mapR (fun i => V.int (od.getD ((i : Int) / 8 * 2 + (i : Int) % 2).toNat 0)) (ea_cons ev_c ea_nil) (by omega) (fun _ => rfl) fun i H3 e3 hi => ?_)) fun l H3 hl e3 h3 => q.map (by omega) (fun i => od.getD ((i : Int) / 8 * 2 + (i : Int) % 2).toNat 0) (fun i hi => oS.at (by omega) (by omega)) (fresh_back (e1.trans e2) hl) ((e1.trans e2).trans e3) (by rw [hr16]; exact h3)
    refine ev_op (ev_var rfl) ?_ (rv_ixL (ho (e2.trans e3)) (il_at (by omega) (by omega)))
    (repeat' first
        | exact ev_c
        | exact ev_var rfl
        | exact ea_nil
        | exact eo_none
        | apply ea_cons
        | apply ev_op
        | apply ev_un
        | apply eo_some
        | exact rv_I0
        | exact ru_neg
        | exact et_yes
        | apply et_test
        | apply et_B
        | apply et_not
        | apply rv_mod
        | apply rv_div
        | apply rv_mul
        | apply rv_eqI
        | apply rv_neI
        | exact rv_isTy
        | exact rv_notTy
        | (apply ev_lenS; rotate_left)
        | exact rv_ixT (by assumption) rfl)
    all_goals first | omega | exact Or.inr ⟨by omega, by omega⟩
  refine q_when (et_and (a := decide (s = 3)) (b := decide (w = 2) && decide (0 < more % 4)) (et_test (ev_op (ev_var rfl) ev_c rv_eqI)) fun _ => et_and (et_test (ev_op (ev_var rfl) ev_c rv_eqI)) fun _ => et_test (ev_op (ev_op (ev_var rfl) ev_c (rv_mod (by omega))) ev_c rv_I0)) (fun hb H3 e3 => ?_) fun _ H3 e3 => ?_
  · obtain ⟨a, b⟩ := and3 hb
    have a := of_decide_eq_true a
    have b := of_decide_eq_true b
    subst a b
    have hr9 : rows = 9 := hr
    refine s_retU (eu_tupS (el_mapR (fun i => V.int (od.getD (lBeside (i : Int) (more / 256)).toNat 0)) (ea_cons ev_c ea_nil) (by omega) (fun _ => rfl) fun i H4 e4 hi => ?_)) fun l H4 hl e4 h4 => q.map (by omega) (fun i => od.getD (lBeside (i : Int) (more / 256)).toNat 0) (fun i hi => ?_) (fresh_back ((e1.trans e2).trans e3) hl) (((e1.trans e2).trans e3).trans e4) (by rw [hr9]; exact h4)
    · have z := lBeside_in (k := (i : Int)) (way := more / 256) (by omega) (by omega)
      exact ev_op (ev_var rfl) (ev_call (ea_cons (ev_var rfl) (ea_cons (ev_op (ev_var rfl) ev_c (rv_div (by omega) (by omega))) ea_nil)) spv_l_beside) (rv_ixL (ho ((e2.trans e3).trans e4)) (il_at z.1 (by omega)))
    · have z := lBeside_in (k := (i : Int)) (way := more / 256) (by omega) (by omega)
      exact oS.at z.1 (by omega)
  refine q_when (et_and (a := decide (s = 2)) (b := decide (w = 4) && decide (0 < more % 4)) (et_test (ev_op (ev_var rfl) ev_c rv_eqI)) fun _ => et_and (et_test (ev_op (ev_var rfl) ev_c rv_eqI)) fun _ => et_test (ev_op (ev_op (ev_var rfl) ev_c (rv_mod (by omega))) ev_c rv_I0)) (fun hb H4 e4 => ?_) fun _ H4 e4 => ?_
  · obtain ⟨a, b⟩ := and3 hb
    have a := of_decide_eq_true a
    have b := of_decide_eq_true b
    subst a b
    have hr16 : rows = 16 := hr
    refine s_retU (eu_tupS (el_mapR (fun i => V.int (od.getD (lBetween (i : Int) (more / 256)).toNat 0)) (ea_cons ev_c ea_nil) (by omega) (fun _ => rfl) fun i H5 e5 hi => ?_)) fun l H5 hl e5 h5 => q.map (by omega) (fun i => od.getD (lBetween (i : Int) (more / 256)).toNat 0) (fun i hi => ?_) (fresh_back (((e1.trans e2).trans e3).trans e4) hl) ((((e1.trans e2).trans e3).trans e4).trans e5) (by rw [hr16]; exact h5)
    · have z := lBetween_in (i : Int) (more / 256)
      exact ev_op (ev_var rfl) (ev_call (ea_cons (ev_var rfl) (ea_cons (ev_op (ev_var rfl) ev_c (rv_div (by omega) (by omega))) ea_nil)) spv_l_between) (rv_ixL (ho (((e2.trans e3).trans e4).trans e5)) (il_at z.1 (by omega)))
    · have z := lBetween_in (i : Int) (more / 256)
      exact oS.at z.1 (by omega)
  have hm := mod_in (x := more / 16) w0
  have hp2 : ∀ a b : Int, 0 < a → a ≤ 4 → 0 < b → b ≤ 16 → 0 < b * a ∧ b * a ≤ 64 := fun a b a0 a4 b0 b16 => ⟨Int.mul_pos b0 a0, by
    have h1 := Int.mul_le_mul_of_nonneg_right b16 (show 0 ≤ a by omega)
    omega⟩
  have q2 := hp2 s s s0 s4 s0 (by omega)
  have q2' : s * s ≤ 16 := by
    have h1 := Int.mul_le_mul_of_nonneg_right s4 (show 0 ≤ s by omega)
    omega
  have q3 := hp2 s (s * s) s0 s4 q2.1 q2'
  obtain ⟨step, hs1, hs2, hs3⟩ : ∃ step : Int, ([V.int 1, .int s, .int (s * s), .int (s * s * s)])[(more / 16 % w).toNat]? = some (.int step) ∧ 0 < step ∧ step ≤ 64 := by
    have hc : more / 16 % w = 0 ∨ more / 16 % w = 1 ∨ more / 16 % w = 2 ∨ more / 16 % w = 3 := by omega
    rcases hc with z | z | z | z <;> rw [z]
    · exact ⟨1, rfl, by omega, by omega⟩
    · exact ⟨s, rfl, by omega, by omega⟩
    · exact ⟨s * s, rfl, q2.1, q2.2⟩
    · exact ⟨s * s * s, rfl, q3.1, q3.2⟩
  refine q_asg (v := .int step) ?_ fun H5 e5 => ?_
  · refine ev_pickL (xs := [.int 1, .int s, .int (s * s), .int (s * s * s)]) (i := more / 16 % w) (el_lst (ea_cons ev_c (ea_cons (ev_var rfl) (ea_cons (ev_op (ev_var rfl) (ev_var rfl) (rv_mul (Or.inl ⟨by omega, by omega⟩))) (ea_cons (ev_op (ev_op (ev_var rfl) (ev_var rfl) (rv_mul (Or.inl ⟨by omega, by omega⟩))) (ev_var rfl) (rv_mul (Or.inr ⟨by omega, by omega⟩))) ea_nil)))) (by show 4 ≤ 100000; omega)) (fun H6 _ => ?_) (at_mod hm.1 hs1)
    (repeat' first
        | exact ev_c
        | exact ev_var rfl
        | exact ea_nil
        | exact eo_none
        | apply ea_cons
        | apply ev_op
        | apply ev_un
        | apply eo_some
        | exact rv_I0
        | exact ru_neg
        | exact et_yes
        | apply et_test
        | apply et_B
        | apply et_not
        | apply rv_mod
        | apply rv_div
        | apply rv_mul
        | apply rv_eqI
        | apply rv_neI
        | exact rv_isTy
        | exact rv_notTy
        | (apply ev_lenS; rotate_left)
        | exact rv_ixT (by assumption) rfl)
    all_goals omega
  have E5 := (((e1.trans e2).trans e3).trans e4).trans e5
  have r0 : 0 ≤ rows := by
    rw [hr]
    exact Int.le_of_lt (Int.pow_pos s0)
  refine s_retU (eu_tupS (el_mapR (fun i => V.int (od.getD ((i : Int) / step % s).toNat 0)) (ea_cons (ev_var rfl) ea_nil) (by omega) (fun _ => rfl) fun i H6 e6 hi => ?_)) fun l H6 hl e6 h6 => q.map r0 (fun i => od.getD ((i : Int) / step % s).toNat 0) (fun i hi => ?_) (fresh_back E5 hl) (E5.trans e6) h6
  · have z := mod_in (x := (i : Int) / step) s0
    exact ev_op (ev_var rfl) (ev_op (ev_op (ev_var rfl) (ev_var rfl) (rv_div hs2 (by omega))) (ev_var rfl) (rv_mod s0)) (rv_ixL (ho ((((e2.trans e3).trans e4).trans e5).trans e6)) (il_at z.1 (by omega)))
  · have z := mod_in (x := (i : Int) / step) s0
    exact oS.at z.1 (by omega)
/-! ### the rule -/
def RetRule (K : PySem.W.Frag) (H : Hp) (Q : VK) : Prop := ∀ (r t : Addr) (H2 : Hp) (s w : Int) (tab : List Int), Ex H H2 → RuleAt K H2 r t s w tab → Good s w tab → Q (.ref r) H2
theorem lt_size (n : Nat) (h : n ≤ 100 := by decide) : n ≤ 100000 := by omega
/-- return (s, w, f(..)): f tells a table -/
theorem ret_rule {D : Ends} {σ : L2.St} {H : Hp} {i j : Nat} {s w rows : Int} {sp : Sp} {E : XK} {ta : TA} {as : List V} (hi : σ[i]? = some (some (.int s))) (hj : σ[j]? = some (some (.int w))) (ha : EvA ta σ H as)
    (hs : ∀ H1, Ex H H1 → ∀ Q E, RetTab s rows H1 Q → sp (as ++ []) H1 Q E) (s2 : 2 ≤ s) (s4 : s ≤ 4) (w1 : 1 ≤ w) (w4 : w ≤ 4) (hr : rows = s ^ w.toNat) (h16 : rows ≤ 16) (q : RetRule K H D.rt) :
    tRet (tTup (tCons (tVar i) (tCons (tVar j) (tCons (tCall sp [] E ta) tNil)))) D σ H :=
  ⟨_, hi, _, hj, ha H (Ex.refl H) _ fun H1 e1 => hs H1 e1 _ E fun t H2 xs _ e2 h2 hl hS => ⟨sz_of (lt_size 3), fun p hp => q p t _ s w xs ((e1.trans e2).trans (Ex.new hp)) ⟨st_of upd_same, ex_t (Ex.new hp) (st_of h2)⟩ ⟨s2, s4, w1, w4, by rw [hl, hr], by omega, hS⟩⟩⟩
def sp_l_rule (K : PySem.W.Frag) (c : Cl) : Sp := fun vs H Q _ => ∃ (cell more : Int), vs = [.int cell, .int more] ∧ RetRule K H Q
def t_l_rule (K : PySem.W.Frag) (c : Cl) (E : XK) : TS :=
(tSeq (tAsg (tLst (tCons (tTup (tCons (tC (.int 2)) (tCons (tC (.int 3)) (tCons (tC (.int 8)) tNil)))) (tCons (tTup (tCons (tC (.int 2)) (tCons (tC (.int 2)) (tCons (tC (.int 4)) tNil)))) (tCons (tTup (tCons (tC (.int 3)) (tCons (tC (.int 2)) (tCons (tC (.int 9)) tNil)))) (tCons (tTup (tCons (tC (.int 4)) (tCons (tC (.int 2)) (tCons (tC (.int 16)) tNil)))) (tCons (tTup (tCons (tC (.int 2)) (tCons (tC (.int 1)) (tCons (tC (.int 2)) tNil)))) (tCons (tTup (tCons (tC (.int 2)) (tCons (tC (.int 4)) (tCons (tC (.int 16)) tNil)))) (tCons (tTup (tCons (tC (.int 3)) (tCons (tC (.int 1)) (tCons (tC (.int 3)) tNil)))) (tCons (tTup (tCons (tC (.int 4)) (tCons (tC (.int 1)) (tCons (tC (.int 4)) tNil)))) tNil))))))))) (gName 2))
    (tSeq (tAsg (tOp (rIxL K) (tVar 2) (tOp oMod (tVar 0) (tC (.int 8)))) (gTup K 3 (gCons (gName 3) (gCons (gName 4) (gCons (gName 5) gNil)))))
    (tSeq (tIfS (tTest (tOp rEq (tOp oMod (tOp oDiv (tVar 0) (tC (.int 8))) (tC (.int 4))) (tC (.int 1)))) (tRet (tTup (tCons (tVar 3) (tCons (tVar 4) (tCons (tCall (sp_l_mending K c) [] E0 (tCons (tVar 3) (tCons (tVar 5) (tCons (tVar 1) tNil)))) tNil))))) tNext)
    (tSeq (tIfS (tTest (tOp oGt (tOp oMod (tOp oDiv (tVar 0) (tC (.int 8))) (tC (.int 4))) (tC (.int 1)))) (tRet (tTup (tCons (tVar 3) (tCons (tVar 4) (tCons (tCall (sp_l_turned K c) [] E0 (tCons (tVar 3) (tCons (tVar 4) (tCons (tVar 5) (tCons (tVar 1) tNil))))) tNil))))) tNext)
    (tRet (tTup (tCons (tVar 3) (tCons (tVar 4) (tCons (tCall (sp_l_random K c) [] E0 (tCons (tVar 3) (tCons (tVar 5) (tCons (tVar 1) tNil)))) tNil)))))))))
theorem len_l_rule (vs : List V) (H : Hp) (Q : VK) (E : XK) (h : sp_l_rule K c vs H Q E) : vs.length = 2 := by
  obtain ⟨cell, more, rfl, _⟩ := h
  rfl
/-- three ints as a tuple's items -/
def tri (p : Int × Int × Int) : List V := [.int p.1, .int p.2.1, .int p.2.2]
theorem eap_tris {σ : L2.St} {H : Hp} : EaP tNil σ H (([] : List (Int × Int × Int)).map fun p => TupV K (tri p)) := eap_nil
theorem eap_tri {σ : L2.St} {H : Hp} {tr : TA} {a b d : Int} {l : List (Int × Int × Int)} (h : EaP tr σ H (l.map fun p => TupV K (tri p))) : EaP (tCons (tTup (tCons (tC (.int a)) (tCons (tC (.int b)) (tCons (tC (.int d)) tNil)))) tr) σ H (((a, b, d) :: l).map fun p => TupV K (tri p)) :=
  eap_cons (EvP.tup (eu_tup (ea_cons ev_c (ea_cons ev_c (ea_cons ev_c ea_nil))) (lt_size 3))) stab_tup h
theorem stabs_tris (l : List (Int × Int × Int)) : Stabs (l.map fun p => TupV K (tri p)) := fun P hP => by
  obtain ⟨p, _, rfl⟩ := List.mem_map.mp hP
  exact stab_tup
theorem stab_LstP {Ps : List VP} (st : Stabs Ps) : Stab (LstP K Ps) := fun v H H' e ⟨p, vs, hv, hs, ps⟩ => ⟨p, vs, hv, ex_l e hs, ps.ex e st⟩
def lSome : List (Int × Int × Int) := [(2, 3, 8), (2, 2, 4), (3, 2, 9), (4, 2, 16), (2, 1, 2), (2, 4, 16), (3, 1, 3), (4, 1, 4)]
def lNarrow : List (Int × Int × Int) := [(2, 1, 2), (2, 2, 4), (3, 1, 3), (4, 1, 4), (2, 3, 8), (3, 2, 9), (4, 2, 16), (2, 2, 4)]
def triOk (p : Int × Int × Int) : Bool := decide (2 ≤ p.1 ∧ p.1 ≤ 4 ∧ 1 ≤ p.2.1 ∧ p.2.1 ≤ 4 ∧ p.2.2 = p.1 ^ p.2.1.toNat ∧ p.2.2 ≤ 16 ∧ p.1 ≤ p.2.2)
theorem tri_at {l : List (Int × Int × Int)} (hl : l.length = 8) (ok : l.all triOk = true) (cell : Int) : ∃ s w rows : Int, l[(cell % 8).toNat]? = some (s, w, rows) ∧ 2 ≤ s ∧ s ≤ 4 ∧ 1 ≤ w ∧ w ≤ 4 ∧ rows = s ^ w.toNat ∧ rows ≤ 16 ∧ s ≤ rows := by
  have h := mod_in (x := cell) (s := 8) (by omega)
  have hi : (cell % 8).toNat < l.length := by omega
  obtain ⟨⟨s, w, rows⟩, hp⟩ : ∃ p, l[(cell % 8).toNat] = p := ⟨_, rfl⟩
  have m : (s, w, rows) ∈ l := by rw [← hp]; exact List.getElem_mem hi
  have z := of_decide_eq_true (List.all_eq_true.mp ok _ m)
  exact ⟨s, w, rows, by rw [List.getElem?_eq_getElem hi, hp], z⟩
theorem pick_tri {σ : L2.St} {H : Hp} {te ti : TE} {l : List (Int × Int × Int)} {cell s w rows : Int} (h : EvP te σ H (LstP K (l.map fun p => TupV K (tri p)))) (hi : Ev ti σ H (.int (cell % 8))) (hp : l[(cell % 8).toNat]? = some (s, w, rows)) :
    EvP (tOp (rIxL K) te ti) σ H (TupV K [.int s, .int w, .int rows]) :=
  evp_pick h (stabs_tris l) hi (mod_in (by omega)).1 (by rw [List.getElem?_map, hp]; rfl)
theorem evp_var {σ : L2.St} {H : Hp} {i : Nat} {v : V} {P : VP} (hi : σ[i]? = some (some v)) (h : P v H) (st : Stab P) : EvP (tVar i) σ H P := fun H1 e Q q => ⟨v, hi, q v H1 (Ex.refl H1) (st _ _ _ e h)⟩
theorem RetRule.ex {H H' : Hp} {Q : VK} (e : Ex H H') (q : RetRule K H Q) : RetRule K H' Q := fun r t H2 s w tab e2 => q r t H2 s w tab (e.trans e2)
theorem pure_l_rule (vs : List V) (H : Hp) (Q : VK) (E : XK) (h : sp_l_rule K c vs H Q E) : t_l_rule K c E { nx := fun _ H' => Q .non H', rt := Q } (start' 6 vs) H := by
  obtain ⟨cell, more, rfl, q⟩ := h
  obtain ⟨s, w, rows, hp, s2, s4, w1, w4, hr, h16, hsr⟩ := tri_at (l := lSome) rfl (by decide) cell
  refine q_asgP (P := LstP K (lSome.map fun p => TupV K (tri p))) (evp_lst (eap_tri (eap_tri (eap_tri (eap_tri (eap_tri (eap_tri (eap_tri (eap_tri eap_tris)))))))) (stabs_tris _) (by show 8 ≤ 1000; omega)) fun v H1 e1 hv => ?_
  refine q_unpackP3 (x := .int s) (y := .int w) (z := .int rows) (pick_tri (l := lSome) (cell := cell) (evp_var rfl hv (stab_LstP (stabs_tris _))) (ev_op (ev_var rfl) ev_c (rv_mod (by omega))) hp) fun H2 e2 => ?_
  have E2 := e1.trans e2
  refine q_when (et_test (ev_op (ev_op (ev_op (ev_var rfl) ev_c (rv_div (by omega) (by omega))) ev_c (rv_mod (by omega))) ev_c rv_eqI)) (fun _ H3 e3 => ?_) fun _ H3 e3 => ?_
  · exact ret_rule rfl rfl (ea_cons (ev_var rfl) (ea_cons (ev_var rfl) (ea_cons (ev_var rfl) ea_nil))) (fun H4 e4 Q E z => ⟨s, rows, more, rfl, by omega, by omega, by omega, by omega, z⟩) s2 s4 w1 w4 hr h16 (RetRule.ex (E2.trans e3) q)
  refine q_when (et_test (ev_op (ev_op (ev_op (ev_var rfl) ev_c (rv_div (by omega) (by omega))) ev_c (rv_mod (by omega))) ev_c rv_I0)) (fun _ H4 e4 => ?_) fun _ H4 e4 => ?_
  · exact ret_rule rfl rfl (ea_cons (ev_var rfl) (ea_cons (ev_var rfl) (ea_cons (ev_var rfl) (ea_cons (ev_var rfl) ea_nil)))) (fun H4 e4 Q E z => ⟨s, w, rows, more, rfl, by omega, by omega, by omega, by omega, hr, by omega, z⟩) s2 s4 w1 w4 hr h16 (RetRule.ex ((E2.trans e3).trans e4) q)
  · exact ret_rule rfl rfl (ea_cons (ev_var rfl) (ea_cons (ev_var rfl) (ea_cons (ev_var rfl) ea_nil))) (fun H4 e4 Q E z => ⟨s, rows, more, rfl, by omega, by omega, by omega, z⟩) s2 s4 w1 w4 hr h16 (RetRule.ex ((E2.trans e3).trans e4) q)
end
end Br

namespace Br
open PySem PySem.Spec PyProof.Rows L2 Evl
section
variable {K : PySem.W.Frag} {σ : L2.St} {H H' : Hp} {te ti ta tb : TE} {x y z v : V} {D : Ends} {tz : TS} {P : VP} {Ps : List VP}
theorem tyx_l {a : Addr} {xs : List V} (h : SqL K H a xs) : TyX K H (.ref a) (.type "list") := by
  rcases h with (h | ⟨o, h⟩) | ⟨o, its, n, h, c, _⟩
  · exact .base (.lst h)
  · exact .base (.frz h)
  · exact .kList h c
theorem tyx_t {a : Addr} {xs : List V} (h : SqT K H a xs) : TyX K H (.ref a) (.type "tuple") := by
  rcases h with (h | ⟨o, h⟩) | ⟨o, its, n, h, c, _⟩
  · exact .base (.tup h)
  · exact .fTuple h
  · exact .kTuple h c
theorem tyx_of {T : String} (h : TyB K H x T) : TyX K H x (.type T) := by
  cases h with
  | non => exact .base .non
  | bl b => exact .base (.bl b)
  | int i => exact .base (.int i)
  | str x => exact .base (.str x)
  | byt b => exact .byt b
  | lst h => exact tyx_l h
  | tup h => exact tyx_t h
  | dK h => exact .base (.dK h)
/-- isinstance(x, T), both built-in -/
theorem ev_isi {T T' : String} {b : Bool} (ha : Ev ta σ H x) (h : TyB K H x T) (hb : kitB T T' = some b) : Ev (tCB (rIsi K) (tCons ta (tCons (tC (.ty T')) tNil))) σ H (.bl b) := fun H1 e Q q =>
  ha H1 e _ fun H2 e2 => ⟨x, .ty T', .type T, .type T', b, rfl, .ty T', tyx_of (TyB.ex (e.trans e2) h), kit_ty hb, q H2 e2⟩
theorem el_rep {l : Addr} {xs : List V} {k : Int} (hl : H l = some (.lst xs)) (ha : Ev ta σ H (.ref l)) (hk : Ev tb σ H (.int k)) (k0 : 0 ≤ k) (k1 : k ≤ 1000) (hz : xs.length * k.toNat ≤ 100000) : EvL (tOp oRep ta tb) σ H (List.replicate k.toNat xs).flatten := fun H1 e Q q =>
  ha H1 e _ fun H2 e2 => hk H2 (e.trans e2) _ fun H3 e3 => ⟨l, k, xs, rfl, rfl, ((e.trans e2).trans e3) l _ hl, by omega, by omega, sz_of hz, fun p hp => q p _ (fresh_back (e2.trans e3) hp) ((e2.trans e3).trans (Ex.new hp)) upd_same⟩
/-- a slice of a new list -/
theorem el_slN {tl th : TO} {xs : List V} {lo hi : Option Int} (h : EvL te σ H xs) (h1 : EvO tl σ H lo) (h2 : EvO th σ H hi) : EvL (tSl (rSlL K) te tl th) σ H (cutV xs lo hi) := fun H1 e Q q =>
  h H1 e _ fun p H2 hp e2 hx => h1 H2 (e.trans e2) _ fun H3 e3 => h2 H3 ((e.trans e2).trans e3) _ fun H4 e4 =>
    ⟨p, xs, rfl, sq_of (e4 _ _ (e3 _ _ hx)), fun l hl => q l _ (fresh_back ((e2.trans e3).trans e4) hl) (((e2.trans e3).trans e4).trans (Ex.new hl)) upd_same⟩
theorem eu_tupV {p : Addr} {xs : List V} (h : Ev te σ H (.ref p)) (hx : SqL K H p xs) : EvU (tCB (oTupS K) (tCons te tNil)) σ H xs := fun H1 e Q q =>
  h H1 e _ fun H2 e2 => ⟨p, xs, rfl, Or.inl ⟨ex_l (e.trans e2) hx, fun l hl => q l _ (fresh_back e2 hl) (e2.trans (Ex.new hl)) upd_same⟩⟩
theorem rv_pow {i j : Int} (h : CPow i j) : RV oPow (.int i) (.int j) H (.int (i ^ j.toNat)) := rv_I h
theorem given_none (n : Nat) (v : Nat → V) : given n (fun _ => false) v = [] := by
  unfold given
  rw [List.filter_eq_nil_iff.mpr (by simp)]
  rfl
end
section
variable {K : PySem.W.Frag} {c : Cl}
def sp_l_sign (K : PySem.W.Frag) (c : Cl) : Sp := fun vs H Q _ => ∃ (r t a : Addr) (s w : Int) (tab cells : List Int), vs = [.ref r, .ref a] ∧ RuleAt K H r t s w tab ∧ Good s w tab ∧ IL K H a cells ∧ InS s cells ∧ (cells.length : Int) = w ∧
  RetV (.int (tab.getD (numOf s cells).toNat 0)) H Q
def t_l_sign (K : PySem.W.Frag) (c : Cl) (E : XK) : TS :=
(tSeq (tAsg (tC (.int 0)) (gName 2))
    (tSeq (tFor (iList K (tVar 1)) (gName 3) (tAsg (tOp oAdd (tOp oMul (tVar 2) (tOp (rIxT K) (tVar 0) (tC (.int 0)))) (tVar 3)) (gName 2)))
    (tRet (tOp (rIxT K) (tOp (rIxT K) (tVar 0) (tC (.int 2))) (tVar 2)))))
theorem len_l_sign (vs : List V) (H : Hp) (Q : VK) (E : XK) (h : sp_l_sign K c vs H Q E) : vs.length = 2 := by
  obtain ⟨r, t, a, s, w, tab, cells, rfl, _⟩ := h
  rfl
theorem pure_l_sign (vs : List V) (H : Hp) (Q : VK) (E : XK) (h : sp_l_sign K c vs H Q E) : t_l_sign K c E { nx := fun _ H' => Q .non H', rt := Q } (start' 4 vs) H := by
  obtain ⟨r, t, a, s, w, tab, cells, rfl, R, G, hc, hs, hl, q⟩ := h
  have g2 := G.s2
  have g4 := G.s4
  refine q_asg (v := .int 0) ev_c fun H1 e1 => ?_
  refine q_forLn (ev_var rfl) (ex_l e1 hc) (fun i σ' H' => ∃ y, σ' = [some (.ref r), some (.ref a), some (.int (numOf s (cells.take i))), y] ∧ Ex H H') (fun H2 e2 => ⟨none, by simp [start', numOf], e1.trans e2⟩)
    (fun i σ' H' _ ⟨_, _, e⟩ => ex_l e hc) (fun i x σ' H' hi p => ?_) (fun σ' H' p => ?_)
  · obtain ⟨y, rfl, e⟩ := p
    obtain ⟨z, hz, rfl⟩ := int_at hi
    refine s_asg (v := .int (numOf s (cells.take (i + 1)))) ?_ fun H2 e2 => ⟨some (.int z), rfl, e.trans e2⟩
    refine ev_is (v := .int (numOf s (cells.take i) * s + z)) ?_ (by rw [take_more hz, numOf_app])
    exact ev_op (ev_op (ev_var rfl) (ev_op (ev_var rfl) ev_c (rv_ixT (ex_t e R.top) (atI_nat (j := 0) rfl))) (rv_mul (Or.inr ⟨by omega, by omega⟩))) (ev_var rfl) rv_I0
  · obtain ⟨y, rfl, e⟩ := p
    rw [List.length_map, List.take_length]
    exact s_ret (ev_op (ev_op (ev_var rfl) ev_c (rv_ixT (ex_t e R.top) (atI_nat (j := 2) rfl))) (ev_var rfl) (rv_ixT (ex_t e R.tab) (G.at hs hl))) fun H2 e2 => q H2 (e.trans e2)
theorem spv_l_sign {H : Hp} {r t a : Addr} {s w : Int} {tab cells : List Int} (R : RuleAt K H r t s w tab) (G : Good s w tab) (hc : IL K H a cells) (hs : InS s cells) (hl : (cells.length : Int) = w) :
    SpV (sp_l_sign K c) [.ref r, .ref a] H (.int (tab.getD (numOf s cells).toNat 0)) := fun H1 e Q q E => ⟨r, t, a, s, w, tab, cells, rfl, R.ex e, G, ex_l e hc, hs, hl, q⟩
/-! ### on -/
def sp_l_on (K : PySem.W.Frag) (c : Cl) : Sp := fun vs H Q _ => ∃ (r t a : Addr) (s w : Int) (tab cells : List Int), vs = [.ref r, .ref a] ∧ RuleAt K H r t s w tab ∧ Good s w tab ∧ IL K H a cells ∧ InS s cells ∧ w - 1 ≤ cells.length ∧ cells.length ≤ 30000 ∧
  RetL ((signsFrom s w tab cells).map V.int) H Q
def t_l_on (K : PySem.W.Frag) (c : Cl) (E : XK) : TS :=
(tRet (tLc (iRng1 (tCons (tOp oAdd (tOp oSub (tCB (Evl.rLenS K) (tCons (tVar 1) tNil)) (tOp (rIxT K) (tVar 0) (tC (.int 1)))) (tC (.int 1))) tNil)) (gName 2) tYes (tCall (sp_l_sign K c) [] E0 (tCons (tVar 0) (tCons (tSl (rSlL K) (tVar 1) (tPart (tVar 2)) (tPart (tOp oAdd (tVar 2) (tOp (rIxT K) (tVar 0) (tC (.int 1)))))) tNil))) [2]))
theorem len_l_on (vs : List V) (H : Hp) (Q : VK) (E : XK) (h : sp_l_on K c vs H Q E) : vs.length = 2 := by
  obtain ⟨r, t, a, s, w, tab, cells, rfl, _⟩ := h
  rfl
theorem pure_l_on (vs : List V) (H : Hp) (Q : VK) (E : XK) (h : sp_l_on K c vs H Q E) : t_l_on K c E { nx := fun _ H' => Q .non H', rt := Q } (start' 3 vs) H := by
  obtain ⟨r, t, a, s, w, tab, cells, rfl, R, G, hc, hs, l1, l2, q⟩ := h
  have g1 := G.w1
  have g4 := G.w4
  refine s_retL (xs := (signsFrom s w tab cells).map V.int) ?_ q
  have e0 : (signsFrom s w tab cells).map V.int = (List.range ((cells.length : Int) - w + 1).toNat).map fun i => V.int (tab.getD (numOf s ((cells.drop i).take w.toNat)).toNat 0) := by
    unfold signsFrom
    rw [List.map_map, show cells.length + 1 - w.toNat = ((cells.length : Int) - w + 1).toNat by omega]
    rfl
  rw [e0]
  have hw : ∀ {σ' : L2.St} {H2 : Hp}, Ex H H2 → σ'[0]? = some (some (.ref r)) → Ev (tOp (rIxT K) (tVar 0) (tC (.int 1))) σ' H2 (.int w) := fun e h0 => ev_op (ev_var h0) ev_c (rv_ixT (ex_t e R.top) (atI_nat (j := 1) rfl))
  refine el_mapR _ (n := (cells.length : Int) - w + 1) ?_ (by omega) (fun _ => rfl) fun i H2 e2 hi => ?_
  · exact ea_cons (ev_is (ev_op (ev_op (ev_lenS (ev_var rfl) (Or.inl hc)) (hw (Ex.refl H) rfl) rv_I0) ev_c rv_I0) (by rw [List.length_map])) ea_nil
  · have hk : InS s ((cells.drop i).take w.toNat) := (hs.drop i).take _
    have hcut : EvL (tSl (rSlL K) (tVar 1) (tPart (tVar 2)) (tPart (tOp oAdd (tVar 2) (tOp (rIxT K) (tVar 0) (tC (.int 1)))))) ((wipe (start' 3 [.ref r, .ref a]) [2]).set 2 (some (.int (i : Int)))) H2 (((cells.drop i).take w.toNat).map V.int) := by
      have z := el_sl (K := K) (te := tVar 1) (tl := tPart (tVar 2)) (th := tPart (tOp oAdd (tVar 2) (tOp (rIxT K) (tVar 0) (tC (.int 1))))) (σ := (wipe (start' 3 [.ref r, .ref a]) [2]).set 2 (some (.int (i : Int)))) (ev_var rfl) (eo_some (ev_var rfl)) (eo_some (ev_op (ev_var rfl) (hw e2 rfl) rv_I0)) (ex_l e2 hc)
      rw [show (i : Int) + w = ((i + w.toNat : Nat) : Int) by omega, cut_nat (by omega), show i + w.toNat - i = w.toNat by omega, ← List.map_drop, ← List.map_take] at z
      exact z
    exact ev_call_vl (ev_var rfl) hcut fun p H3 h3 e3 => spv_l_sign (R.ex (e2.trans e3)) G (sq_of h3) hk (sig_len g1 hi)
theorem spl_l_on {H : Hp} {r t a : Addr} {s w : Int} {tab cells : List Int} (R : RuleAt K H r t s w tab) (G : Good s w tab) (hc : IL K H a cells) (hs : InS s cells) (l1 : w - 1 ≤ cells.length) (l2 : cells.length ≤ 30000) :
    SpL (sp_l_on K c) [.ref r, .ref a] H ((signsFrom s w tab cells).map V.int) := fun H1 e Q q E => ⟨r, t, a, s, w, tab, cells, rfl, R.ex e, G, ex_l e hc, hs, l1, l2, q⟩
/-! ### ring_on -/
theorem rep_at {ring : List Int} : ∀ (m i : Nat), i < m * ring.length → (List.replicate m ring).flatten[i]? = ring[i % ring.length]?
  | 0, i, h => by omega
  | m + 1, i, h => by
    rw [List.replicate_succ, List.flatten_cons]
    by_cases hi : i < ring.length
    · rw [List.getElem?_append_left hi, Nat.mod_eq_of_lt hi]
    · rw [List.getElem?_append_right (by omega), rep_at m (i - ring.length) (by rw [Nat.add_mul, Nat.one_mul] at h; omega), Nat.mod_eq_sub_mod (a := i) (show ring.length ≤ i by omega)]
theorem rep_take {ring : List Int} (hn : ring ≠ []) {m n : Nat} (h : n ≤ m * ring.length) : ((List.replicate m ring).flatten).take n = ringRow ring n := by
  have hp : 0 < ring.length := List.length_pos_iff.mpr hn
  apply List.ext_getElem?
  intro i
  unfold ringRow
  rw [List.getElem?_take, List.getElem?_map]
  by_cases hi : i < n
  · rw [if_pos hi, rep_at m i (by omega), List.getElem?_range hi, List.getElem?_eq_getElem (Nat.mod_lt _ hp)]
    simp [List.getD, List.getElem?_eq_getElem (Nat.mod_lt _ hp)]
  · rw [if_neg hi, List.getElem?_eq_none (by simpa using hi)]
    rfl
def sp_l_ring_on (K : PySem.W.Frag) (c : Cl) : Sp := fun vs H Q _ => ∃ (r t a : Addr) (s w : Int) (tab cells : List Int), vs = [.ref r, .ref a] ∧ RuleAt K H r t s w tab ∧ Good s w tab ∧ H a = some (.lst (cells.map V.int)) ∧ InS s cells ∧ cells ≠ [] ∧ cells.length ≤ 5000 ∧
  RetL ((ringOn s w tab cells).map V.int) H Q
def t_l_ring_on (K : PySem.W.Frag) (c : Cl) (E : XK) : TS :=
(tRet (tCall (sp_l_on K c) [] E0 (tCons (tVar 0) (tCons (tSl (rSlL K) (tOp oRep (tVar 1) (tOp oAdd (tC (.int 1)) (tOp (rIxT K) (tVar 0) (tC (.int 1))))) tNoPart (tPart (tOp oSub (tOp oAdd (tCB (Evl.rLenS K) (tCons (tVar 1) tNil)) (tOp (rIxT K) (tVar 0) (tC (.int 1)))) (tC (.int 1))))) tNil))))
theorem len_l_ring_on (vs : List V) (H : Hp) (Q : VK) (E : XK) (h : sp_l_ring_on K c vs H Q E) : vs.length = 2 := by
  obtain ⟨r, t, a, s, w, tab, cells, rfl, _⟩ := h
  rfl
theorem pure_l_ring_on (vs : List V) (H : Hp) (Q : VK) (E : XK) (h : sp_l_ring_on K c vs H Q E) : t_l_ring_on K c E { nx := fun _ H' => Q .non H', rt := Q } (start' 2 vs) H := by
  obtain ⟨r, t, a, s, w, tab, cells, rfl, R, G, hc, hs, hn, l2, q⟩ := h
  have g1 := G.w1
  have g4 := G.w4
  have hp : 0 < cells.length := List.length_pos_iff.mpr hn
  have hw : ∀ {σ' : L2.St} {H2 : Hp}, Ex H H2 → σ'[0]? = some (some (.ref r)) → Ev (tOp (rIxT K) (tVar 0) (tC (.int 1))) σ' H2 (.int w) := fun e h0 => ev_op (ev_var h0) ev_c (rv_ixT (ex_t e R.top) (atI_nat (j := 1) rfl))
  have hwn : w.toNat = 1 ∨ w.toNat = 2 ∨ w.toNat = 3 ∨ w.toNat = 4 := by omega
  have hz : cells.length * (1 + w).toNat ≤ 100000 := by
    have h5 : (1 + w).toNat ≤ 5 := by omega
    have := Nat.mul_le_mul l2 h5
    omega
  have hcut : EvL (tSl (rSlL K) (tOp oRep (tVar 1) (tOp oAdd (tC (.int 1)) (tOp (rIxT K) (tVar 0) (tC (.int 1))))) tNoPart (tPart (tOp oSub (tOp oAdd (tCB (Evl.rLenS K) (tCons (tVar 1) tNil)) (tOp (rIxT K) (tVar 0) (tC (.int 1)))) (tC (.int 1))))) (start' 2 [.ref r, .ref a]) H
      ((ringRow cells (cells.length + (w.toNat - 1))).map V.int) := by
    have z := el_slN (K := K) (H := H) (σ := start' 2 [.ref r, .ref a]) (te := tOp oRep (tVar 1) (tOp oAdd (tC (.int 1)) (tOp (rIxT K) (tVar 0) (tC (.int 1))))) (tl := tNoPart) (th := tPart (tOp oSub (tOp oAdd (tCB (Evl.rLenS K) (tCons (tVar 1) tNil)) (tOp (rIxT K) (tVar 0) (tC (.int 1)))) (tC (.int 1))))
      (el_rep hc (ev_var rfl) (ev_op ev_c (hw (Ex.refl H) rfl) rv_I0) (by omega) (by omega) (by rw [List.length_map]; exact hz)) eo_none (eo_some (ev_op (ev_op (ev_lenS (ev_var rfl) (Or.inl (sq_of hc))) (hw (Ex.refl H) rfl) rv_I0) ev_c rv_I0))
    rw [List.length_map, show (cells.length : Int) + w - 1 = ((cells.length + (w.toNat - 1) : Nat) : Int) by omega, cut_take, ← List.map_replicate, ← List.map_flatten, ← List.map_take, rep_take hn (by
      rw [show (1 + w).toNat = w.toNat + 1 by omega, Nat.succ_mul]
      have := Nat.le_mul_of_pos_right w.toNat hp
      omega)] at z
    exact z
  refine s_retL (el_call_vl (ev_var rfl) hcut fun p H1 h1 e1 => spl_l_on (R.ex e1) G (sq_of h1) (hs.ringRow hn _) ?_ ?_) q
  · unfold ringRow
    rw [List.length_map, List.length_range]
    omega
  · unfold ringRow
    rw [List.length_map, List.length_range]
    omega
theorem spl_l_ring_on {H : Hp} {r t a : Addr} {s w : Int} {tab cells : List Int} (R : RuleAt K H r t s w tab) (G : Good s w tab) (hc : H a = some (.lst (cells.map V.int))) (hs : InS s cells) (hn : cells ≠ []) (l2 : cells.length ≤ 5000) :
    SpL (sp_l_ring_on K c) [.ref r, .ref a] H ((ringOn s w tab cells).map V.int) := fun H1 e Q q E => ⟨r, t, a, s, w, tab, cells, rfl, R.ex e, G, e _ _ hc, hs, hn, l2, q⟩
/-! ### piece -/
def lPiece (s cell : Int) (n : Nat) : List Int := (List.range n).map fun (i : Nat) => lMixed cell (i : Int) / 3 % s
theorem lPiece_len (s cell : Int) (n : Nat) : (lPiece s cell n).length = n := by
  unfold lPiece
  rw [List.length_map, List.length_range]
theorem lPiece_in {s : Int} (s0 : 0 < s) (cell : Int) (n : Nat) : InS s (lPiece s cell n) := fun x hx => by
  obtain ⟨i, _, rfl⟩ := List.mem_map.mp hx
  exact mod_in s0
def sp_l_piece (K : PySem.W.Frag) (c : Cl) : Sp := fun vs H Q _ => ∃ (r t : Addr) (s w cell size : Int) (tab : List Int), vs = [.ref r, .int cell, .int size] ∧ RuleAt K H r t s w tab ∧ Good s w tab ∧ 0 ≤ size ∧ size ≤ 10000 ∧ RetL ((lPiece s cell size.toNat).map V.int) H Q
def t_l_piece (K : PySem.W.Frag) (c : Cl) (E : XK) : TS :=
(tRet (tLc (iRng1 (tCons (tVar 2) tNil)) (gName 3) tYes (tOp oMod (tOp oDiv (tCall (sp_l_mixed K c) [] E0 (tCons (tVar 1) (tCons (tVar 3) tNil))) (tC (.int 3))) (tOp (rIxT K) (tVar 0) (tC (.int 0)))) [3]))
theorem len_l_piece (vs : List V) (H : Hp) (Q : VK) (E : XK) (h : sp_l_piece K c vs H Q E) : vs.length = 3 := by
  obtain ⟨r, t, s, w, cell, size, tab, rfl, _⟩ := h
  rfl
theorem pure_l_piece (vs : List V) (H : Hp) (Q : VK) (E : XK) (h : sp_l_piece K c vs H Q E) : t_l_piece K c E { nx := fun _ H' => Q .non H', rt := Q } (start' 4 vs) H := by
  obtain ⟨r, t, s, w, cell, size, tab, rfl, R, G, z0, z1, q⟩ := h
  have g2 := G.s2
  refine s_retL (xs := (lPiece s cell size.toNat).map V.int) ?_ q
  unfold lPiece
  rw [List.map_map]
  refine el_mapR (fun i => V.int (lMixed cell i / 3 % s)) (ea_cons (ev_var rfl) ea_nil) (by omega) (fun _ => rfl) fun i H1 e1 hi => ?_
  exact ev_op (ev_op (ev_call (ea_cons (ev_var rfl) (ea_cons (ev_var rfl) ea_nil)) (spv_l_mixed (by omega) (by omega))) ev_c (rv_div (by omega) (by omega))) (ev_op (ev_var rfl) ev_c (rv_ixT (ex_t e1 R.top) (atI_nat (j := 0) rfl))) (rv_mod (by omega))
theorem spl_l_piece {H : Hp} {r t : Addr} {s w cell size : Int} {tab : List Int} (R : RuleAt K H r t s w tab) (G : Good s w tab) (z0 : 0 ≤ size) (z1 : size ≤ 10000) :
    SpL (sp_l_piece K c) [.ref r, .int cell, .int size] H ((lPiece s cell size.toNat).map V.int) := fun H1 e Q q E => ⟨r, t, s, w, cell, size, tab, rfl, R.ex e, G, z0, z1, q⟩
/-! ### signs -/
def sp_l_signs (K : PySem.W.Frag) (c : Cl) : Sp := fun vs H Q _ => ∃ (a b : Addr) (xs ys : List Int), vs = [.ref a, .ref b] ∧ IL K H a xs ∧ IL K H b ys ∧ xs.length ≤ 40000 ∧ RetV (.bl (decide (xs = ys))) H Q
def t_l_signs (K : PySem.W.Frag) (c : Cl) (E : XK) : TS :=
(tSeq (tIfS (tOr (tNot (tB (tCB (rIsi K) (tCons (tVar 0) (tCons (tC (.ty "list")) tNil))))) (tTest (tOp (rNeD K) (tVar 0) (tVar 1)))) (tRet (tC (.bl false))) tNext)
    (tRet (tOp (rEqD K) (tLc (iList K (tVar 0)) (gName 2) (tB (tCB (rIsi K) (tCons (tVar 2) (tCons (tC (.ty "bool")) tNil)))) (tVar 2) [2]) (tLst tNil))))
theorem len_l_signs (vs : List V) (H : Hp) (Q : VK) (E : XK) (h : sp_l_signs K c vs H Q E) : vs.length = 2 := by
  obtain ⟨a, b, xs, ys, rfl, _⟩ := h
  rfl
theorem pure_l_signs (vs : List V) (H : Hp) (Q : VK) (E : XK) (h : sp_l_signs K c vs H Q E) : t_l_signs K c E { nx := fun _ H' => Q .non H', rt := Q } (start' 3 vs) H := by
  obtain ⟨a, b, xs, ys, rfl, ha, hb, hl, q⟩ := h
  refine q_when (b := !decide (xs = ys)) (et_is (et_or (a := false) (b := !decide (xs = ys)) ?_ fun _ => ?_) (by simp)) (fun hb H1 e1 => ?_) fun hb' H1 e1 => ?_
  · exact et_is (et_not (et_B (ev_isi (ev_var rfl) (.lst ha) (b := true) (by decide +kernel)))) rfl
  · have z := rv_neData (H := H) (dp_il ha) (dp_il hb) (shaped_dI _) (shaped_dI _)
    rw [eqv_dI] at z
    exact et_test (ev_op (ev_var rfl) (ev_var rfl) z)
  · refine s_ret (v := .bl (decide (xs = ys))) (ev_is ev_c ?_) fun H2 e2 => q H2 (e1.trans e2)
    have : decide (xs = ys) = false := by simpa using hb
    rw [this]
  · have he : decide (xs = ys) = true := by simpa using hb'
    refine s_ret (v := .bl (decide (xs = ys))) ?_ fun H2 e2 => q H2 (e1.trans e2)
    rw [he]
    have z1 : EvL (tLc (iList K (tVar 0)) (gName 2) (tB (tCB (rIsi K) (tCons (tVar 2) (tCons (tC (.ty "bool")) tNil)))) (tVar 2) [2]) (start' 3 [.ref a, .ref b]) H1 [] := by
      have z := el_lcL (K := K) (H := H1) (σ := start' 3 [.ref a, .ref b]) (a := a) (xs := xs.map V.int) (tl := tVar 0) (j := 2) (vs := [2]) (t := tB (tCB (rIsi K) (tCons (tVar 2) (tCons (tC (.ty "bool")) tNil)))) (te := tVar 2) (fun _ => false) (fun _ => .non) (ev_var rfl) (ex_l e1 ha) (by rw [List.length_map]; exact hl) (fun _ => rfl)
        (fun i x H2 e2 hx => by
          obtain ⟨y, _, rfl⟩ := int_at hx
          exact et_B (ev_isi (ev_var rfl) (.int y) (b := false) (by decide +kernel))) (fun _ _ _ _ _ h => nomatch h)
      rw [given_none] at z
      exact z
    refine ev_is (ev_opLL z1 (el_lst ea_nil (lt_size 0)) fun p r H2 hp hr e2 => rv_eqData (dp_il (ns := []) (sq_of hp)) (dp_il (ns := []) (sq_of hr)) (shaped_dI _) (shaped_dI _)) ?_
    rw [eqv_dI]
    rfl
theorem spv_l_signs {H : Hp} {a b : Addr} {xs ys : List Int} (ha : IL K H a xs) (hb : IL K H b ys) (hl : xs.length ≤ 40000) : SpV (sp_l_signs K c) [.ref a, .ref b] H (.bl (decide (xs = ys))) := fun H1 e Q q E => ⟨a, b, xs, ys, rfl, ex_l e ha, ex_l e hb, hl, q⟩
end
end Br

namespace Br
open PySem PySem.Spec PyProof.Rows L2 Evl
section
variable {K : PySem.W.Frag} {σ : L2.St} {H H' : Hp} {te ti ta tb : TE} {x y z v : V} {D : Ends} {tz : TS} {P : VP} {Ps : List VP}
/-- of a built-in kind -/
def Typed (K : PySem.W.Frag) : VP := fun v H => ∃ T, TyB K H v T
/-- no sign of s signs -/
def OddS (K : PySem.W.Frag) (s : Int) : VP := fun v H => (∃ T, TyB K H v T) ∧ isFT v 0 (s - 1) = false
/-- no list -/
def NoL (K : PySem.W.Frag) : VP := fun v H => ∃ T, TyB K H v T ∧ T ≠ "list"
theorem stab_odd {s : Int} : Stab (OddS K s) := fun v H H' e ⟨⟨T, t⟩, h⟩ => ⟨⟨T, TyB.ex e t⟩, h⟩
theorem stab_noL : Stab (NoL K) := fun v H H' e ⟨T, t, h⟩ => ⟨T, TyB.ex e t, h⟩
theorem stabs_rep {n : Nat} (h : Stab P) : Stabs (List.replicate n P) := fun Q hQ => by
  obtain ⟨_, rfl⟩ := List.mem_replicate.mp hQ
  exact h
theorem rep_get {n : Nat} {i : Int} (h0 : 0 ≤ i) (h1 : i < n) : (List.replicate n P)[i.toNat]? = some P := by
  rw [List.getElem?_replicate, if_pos (by omega)]
theorem ev_isE {D a : Addr} {i : Nat} {cv : V} {u0 : Value} {b : Bool} (hi : σ[i]? = some (some (.ref a))) (hc : ∀ u, RelV cv u → u = u0) (hk : PySem.W.kitOne K (.ref D) u0 = some b) : Ev (tCB (rIsE K D a) (tCons (tVar i) (tCons (tC cv) tNil))) σ H (.bl b) := fun H1 e Q q =>
  ⟨_, hi, cv, u0, b, rfl, hc, hk, q H1 (Ex.refl H1)⟩
theorem kit_self {D : Value} : PySem.W.kitOne K D D = some true := by
  unfold PySem.W.kitOne
  rw [if_pos (beq_self_eq_true D)]
theorem evp_dict : EvP tDNewK σ H (NoL K) := fun H1 e Q q p hp => q _ _ (Ex.new hp) ⟨"dict", .dK upd_same, by decide⟩
end
section
variable {K : PySem.W.Frag} {c : Cl}
/-! ### odd -/
def sp_l_odd (K : PySem.W.Frag) (c : Cl) : Sp := fun vs H Q _ => ∃ (r t a : Addr) (s w cell : Int) (tab cells : List Int), vs = [.ref r, .ref a, .int cell] ∧ RuleAt K H r t s w tab ∧ Good s w tab ∧ IL K H a cells ∧ InS s cells ∧ cells.length ≤ 20000 ∧
  ∀ v H2, Ex H H2 → PThing K H2 s v false → Q v H2
def t_l_odd (K : PySem.W.Frag) (c : Cl) (E : XK) : TS :=
(tSeq (tAsg (tOp oMod (tVar 2) (tOp oAdd (tCB (Evl.rLenS K) (tCons (tVar 1) tNil)) (tC (.int 1)))) (gName 3))
    (tSeq (tAsg (tOp oMod (tOp oDiv (tVar 2) (tC (.int 16))) (tOp oPow (tC (.int 10)) (tC (.int 9)))) (gName 4))
    (tSeq (tAsg (tOp (rIxL K) (tLst (tCons (tUn oNeg (tC (.int 1))) (tCons (tOp (rIxT K) (tVar 0) (tC (.int 0))) (tCons (tOp oAdd (tOp (rIxT K) (tVar 0) (tC (.int 0))) (tVar 4)) (tCons (tC (.bl true)) (tCons (tC .non) (tCons (tC (.str "0")) (tCons (tLst (tCons (tC (.int 0)) tNil)) (tCons (tOp oSub (tUn oNeg (tVar 4)) (tC (.int 1))) tNil))))))))) (tOp oMod (tOp oDiv (tVar 2) (tC (.int 2))) (tC (.int 8)))) (gName 5))
    (tSeq (tIfS (tTest (tOp oGt (tOp oMod (tVar 2) (tC (.int 3))) (tC (.int 0)))) (tRet (tOp oCat (tOp oCat (tSl (rSlL K) (tVar 1) tNoPart (tPart (tVar 3))) (tLst (tCons (tVar 5) tNil))) (tSl (rSlL K) (tVar 1) (tPart (tVar 3)) tNoPart))) tNext)
    (tRet (tOp (rIxL K) (tLst (tCons (tCB (oTupS K) (tCons (tVar 1) tNil)) (tCons (tC (.str "01")) (tCons (tC .non) (tCons tDNewK (tCons (tC (.int 5)) (tCons (tTup (tCons (tC (.int 0)) (tCons (tC (.int 1)) tNil))) (tCons (tC (.bl true)) tNil)))))))) (tOp oMod (tOp oDiv (tVar 2) (tC (.int 3))) (tC (.int 7)))))))))
theorem len_l_odd (vs : List V) (H : Hp) (Q : VK) (E : XK) (h : sp_l_odd K c vs H Q E) : vs.length = 3 := by
  obtain ⟨r, t, a, s, w, cell, tab, cells, rfl, _⟩ := h
  rfl
theorem oddI {H : Hp} {s i : Int} (h : i < 0 ∨ s ≤ i) : OddS K s (.int i) H := ⟨⟨_, .int i⟩, by
  show (decide (0 ≤ i) && decide (i ≤ s - 1)) = false
  rcases h with h | h
  · rw [decide_eq_false (show ¬ 0 ≤ i by omega)]
    rfl
  · rw [decide_eq_false (show ¬ i ≤ s - 1 by omega), Bool.and_false]⟩
theorem pure_l_odd (vs : List V) (H : Hp) (Q : VK) (E : XK) (h : sp_l_odd K c vs H Q E) : t_l_odd K c E { nx := fun _ H' => Q .non H', rt := Q } (start' 6 vs) H := by
  obtain ⟨r, t, a, s, w, cell, tab, cells, rfl, R, G, hc, hs, hl, q⟩ := h
  have ha := mod_in (x := cell) (s := (cells.length : Int) + 1) (by omega)
  have h8 := mod_in (x := cell / 2) (s := 8) (by omega)
  have h7 := mod_in (x := cell / 3) (s := 7) (by omega)
  refine q_asg (v := .int (cell % ((cells.length : Int) + 1))) ?_ fun H1 e1 => ?_
  · exact ev_op (ev_var rfl) (ev_op (ev_is (ev_lenS (ev_var rfl) (Or.inl hc)) (by rw [List.length_map])) ev_c rv_I0) (rv_mod (by omega))
  generalize hat : cell % ((cells.length : Int) + 1) = at_ at ha ⊢
  refine q_asg (v := .int (cell / 16 % 10 ^ 9)) ?_ fun H2 e2 => ?_
  · exact ev_op (ev_op (ev_var rfl) ev_c (rv_div (by omega) (by omega))) (ev_is (ev_op ev_c ev_c (rv_pow ⟨by omega, by omega, by decide⟩)) rfl) (rv_mod (by decide))
  have hf := mod_in (x := cell / 16) (s := 10 ^ 9) (by decide)
  generalize cell / 16 % 10 ^ 9 = far at hf ⊢
  have E2 := e1.trans e2
  have hr := ex_t E2 R.top
  refine q_asgP (P := OddS K s) (evp_pick (Ps := List.replicate 8 (OddS K s)) (i := cell / 2 % 8) (evp_lst ?_ (stabs_rep stab_odd) (by rw [List.length_replicate]; omega)) (stabs_rep stab_odd) ?_ h8.1 (rep_get h8.1 h8.2)) fun v H3 e3 hv => ?_
  · have hs0 : ∀ {σ' : L2.St}, σ'[0]? = some (some (.ref r)) → Ev (tOp (rIxT K) (tVar 0) (tC (.int 0))) σ' H2 (.int s) := fun h0 => ev_op (ev_var h0) ev_c (rv_ixT hr (atI_nat (j := 0) rfl))
    refine eap_cons ((EvP.of (ev_un ev_c ru_neg)).imp fun u H' _ h => by rw [h]; exact oddI (Or.inl (by omega))) stab_odd ?_
    refine eap_cons ((EvP.of (hs0 rfl)).imp fun u H' _ h => by rw [h]; exact oddI (Or.inr (by omega))) stab_odd ?_
    refine eap_cons ((EvP.of (ev_op (hs0 rfl) (ev_var rfl) rv_I0)).imp fun u H' _ h => by rw [h]; exact oddI (Or.inr (by omega))) stab_odd ?_
    refine eap_cons ((EvP.of (ev_c (v := .bl true))).imp fun u H' _ h => by rw [h]; exact ⟨⟨_, .bl true⟩, rfl⟩) stab_odd ?_
    refine eap_cons ((EvP.of (ev_c (v := .non))).imp fun u H' _ h => by rw [h]; exact ⟨⟨_, .non⟩, rfl⟩) stab_odd ?_
    refine eap_cons ((EvP.of ev_c).imp fun u H' _ h => by rw [h]; exact ⟨⟨_, .str _⟩, rfl⟩) stab_odd ?_
    refine eap_cons ((EvP.lst (K := K) (xs := [.int 0]) (el_lst (ea_cons ev_c ea_nil) (lt_size 1))).imp fun u H' _ ⟨p, h, hp⟩ => by rw [h]; exact ⟨⟨_, .lst hp⟩, rfl⟩) stab_odd ?_
    exact eap_cons ((EvP.of (ev_op (ev_un (ev_var rfl) ru_neg) ev_c rv_I0)).imp fun u H' _ h => by rw [h]; exact oddI (Or.inl (by omega))) stab_odd eap_nil
  · exact ev_op (ev_op (ev_var rfl) ev_c (rv_div (by omega) (by omega))) ev_c (rv_mod (by omega))
  have E3 := E2.trans e3
  have hc3 := ex_l E3 hc
  refine q_when (et_test (ev_op (ev_op (ev_var rfl) ev_c (rv_mod (by omega))) ev_c rv_I0)) (fun _ H4 e4 => ?_) fun _ H4 e4 => ?_
  · have hc4 := ex_l e4 hc3
    have z1 := el_sl (K := K) (H := H4) (te := tVar 1) (tl := tNoPart) (th := tPart (tVar 3)) (σ := (((start' 6 [.ref r, .ref a, .int cell]).set 3 (some (.int at_))).set 4 (some (.int far))).set 5 (some v)) (ev_var rfl) eo_none (eo_some (ev_var rfl)) hc4
    have z2 := el_sl (K := K) (H := H4) (te := tVar 1) (tl := tPart (tVar 3)) (th := tNoPart) (σ := (((start' 6 [.ref r, .ref a, .int cell]).set 3 (some (.int at_))).set 4 (some (.int far))).set 5 (some v)) (ev_var rfl) (eo_some (ev_var rfl)) eo_none hc4
    rw [show at_ = ((at_.toNat : Nat) : Int) by omega] at z1 z2
    rw [cut_take] at z1
    rw [cut_drop] at z2
    rw [show at_ = ((at_.toNat : Nat) : Int) by omega]
    refine s_retL (el_cat (el_cat z1 (el_lst (ea_cons (ev_var rfl) ea_nil) (lt_size 1)) ?_) z2 ?_) fun p H5 hp e5 h5 => q _ H5 ((E3.trans e4).trans e5) ?_
    · rw [List.length_take, List.length_map]
      show _ + 1 ≤ _
      omega
    · rw [List.length_append, List.length_take, List.length_drop, List.length_map]
      show (_ + 1) + _ ≤ _
      omega
    · have hv5 := stab_odd _ _ _ (e4.trans e5) hv
      have z := PThing.lst (s := s) (sq_of (K := K) h5) (fun x hx => by
        rcases List.mem_append.mp hx with hx | hx
        · rcases List.mem_append.mp hx with hx | hx
          · exact ints_ty cells x (List.mem_of_mem_take hx)
          · rw [List.mem_singleton.mp hx]
            exact hv5.1
        · exact ints_ty cells x (List.mem_of_mem_drop hx)) (by
          rw [List.length_append, List.length_append, List.length_take, List.length_drop, List.length_map]
          show (_ + 1) + _ ≤ _
          omega)
      rw [show (((cells.map V.int).take at_.toNat ++ [v]) ++ (cells.map V.int).drop at_.toNat).all (fun x => isFT x 0 (s - 1)) = false by
        rw [List.all_append, List.all_append]
        show ((_ && (isFT v 0 (s - 1) && true)) && _) = false
        rw [hv5.2]
        simp] at z
      exact z
  · refine s_retP (P := NoL K) (evp_pick (Ps := List.replicate 7 (NoL K)) (i := cell / 3 % 7) (evp_lst ?_ (stabs_rep stab_noL) (by rw [List.length_replicate]; omega)) (stabs_rep stab_noL) ?_ h7.1 (rep_get h7.1 h7.2)) fun v H5 e5 ⟨T, t, hn⟩ => q v H5 ((E3.trans e4).trans e5) (.other t hn)
    · refine eap_cons ((EvP.tup (K := K) (eu_tupV (ev_var rfl) (ex_l e4 hc3))).imp fun u H' _ ⟨p, h, hp⟩ => by rw [h]; exact ⟨_, .tup hp, by decide⟩) stab_noL ?_
      refine eap_cons ((EvP.of ev_c).imp fun u H' _ h => by rw [h]; exact ⟨_, .str _, by decide⟩) stab_noL ?_
      refine eap_cons ((EvP.of (ev_c (v := .non))).imp fun u H' _ h => by rw [h]; exact ⟨_, .non, by decide⟩) stab_noL ?_
      refine eap_cons evp_dict stab_noL ?_
      refine eap_cons ((EvP.of (ev_c (v := .int 5))).imp fun u H' _ h => by rw [h]; exact ⟨_, .int 5, by decide⟩) stab_noL ?_
      refine eap_cons ((EvP.tup (K := K) (xs := [.int 0, .int 1]) (eu_tup (ea_cons ev_c (ea_cons ev_c ea_nil)) (lt_size 2))).imp fun u H' _ ⟨p, h, hp⟩ => by rw [h]; exact ⟨_, .tup hp, by decide⟩) stab_noL ?_
      exact eap_cons ((EvP.of (ev_c (v := .bl true))).imp fun u H' _ h => by rw [h]; exact ⟨_, .bl true, by decide⟩) stab_noL eap_nil
    · exact ev_op (ev_op (ev_var rfl) ev_c (rv_div (by omega) (by omega))) ev_c (rv_mod (by omega))
/-! ### refused -/
/-- what the written part says of an error class D: the clause RowError takes it, it is a ValueError -/
structure KErr (K : PySem.W.Frag) (c : Cl) (D : Addr) : Prop where
  exm : PySem.W.exmOne K (.ref D) (.ref c.RowError) = some true
  val : PySem.W.kitOne K (.ref D) (.type "ValueError") = some true
structure KFacts (K : PySem.W.Frag) (c : Cl) : Prop where
  row : KErr K c c.BadRow
  n1 : PySem.W.kitOne K (.ref c.BadRow) (.ref c.BadRule) = some false
  n2 : PySem.W.kitOne K (.ref c.BadRow) (.ref c.TooWide) = some false
  n3 : PySem.W.kitOne K (.ref c.BadRow) (.ref c.NoBack) = some false
  n4 : PySem.W.kitOne K (.ref c.BadRow) (.ref c.BadText) = some false
def sp_l_refused (K : PySem.W.Frag) (c : Cl) : Sp := fun vs H Q _ => ∃ (r t : Addr) (s w way : Int) (tab : List Int) (x : V), vs = [.int way, .ref r, x] ∧ RuleAt K H r t s w tab ∧ Good s w tab ∧
  (PThing K H s x false ∨ ∃ (a : Addr) (cells : List Int), x = .ref a ∧ IL K H a cells ∧ InS s cells ∧ cells.length ≤ 20000 ∧ ((way = 0 ∧ (cells.length : Int) < w - 1) ∨ (way ≠ 0 ∧ cells = []))) ∧ RetV (.bl true) H Q
def t_l_refused (K : PySem.W.Frag) (c : Cl) (E : XK) : TS :=
(tSeq (tTryAs K c.RowError 3 (fun W => (tIfS (tTest (tOp rEq (tVar 0) (tC (.int 0)))) (tDrop (tCallS (sp_piece_on K c) (WE W) (tCons (tVar 1) (tCons (tVar 2) tNil)))) (tDrop (tCallS (sp_ring_on K c) (WE W) (tCons (tVar 1) (tCons (tVar 2) tNil)))))) (fun a cls dd => tWhen (cls = .ref c.BadRow ∧ dd = none) (tSeq (tAsg (tOrV (tCB (rIsE K c.BadRow a) (tCons (tVar 3) (tCons (tC (.ref c.BadRule)) tNil))) (tOrV (tCB (rIsE K c.BadRow a) (tCons (tVar 3) (tCons (tC (.ref c.TooWide)) tNil))) (tCB (rIsE K c.BadRow a) (tCons (tVar 3) (tCons (tC (.ref c.NoBack)) tNil))))) (gName 4))
    (tSeq (tAsg (tOrV (tVar 4) (tCB (rIsE K c.BadRow a) (tCons (tVar 3) (tCons (tC (.ref c.BadText)) tNil)))) (gName 4))
    (tRet (tAndV (tCB (rIsE K c.BadRow a) (tCons (tVar 3) (tCons (tC (.ref c.BadRow)) tNil))) (tAndV (tCB (rIsE K c.BadRow a) (tCons (tVar 3) (tCons (tC (.ty "ValueError")) tNil))) (tNotV (tVar 4)))))))))
    (tRet (tC (.bl false))))
theorem len_l_refused (vs : List V) (H : Hp) (Q : VK) (E : XK) (h : sp_l_refused K c vs H Q E) : vs.length = 3 := by
  obtain ⟨r, t, s, w, way, tab, x, rfl, _⟩ := h
  rfl
theorem pure_l_refused (C : KFacts K c) (vs : List V) (H : Hp) (Q : VK) (E : XK) (h : sp_l_refused K c vs H Q E) : t_l_refused K c E { nx := fun _ H' => Q .non H', rt := Q } (start' 5 vs) H := by
  obtain ⟨r, t, s, w, way, tab, x, rfl, R, G, hx, q⟩ := h
  unfold t_l_refused
  show tTryAs K c.RowError 3 _ _ _ _ H
  unfold tTryAs
  generalize hW : wAs K (.ref c.RowError) 3 _ _ _ = W
  have k : ∀ H', Ex H H' → W (.ref c.BadRow) none (start' 5 [.int way, .ref r, x]) H' := fun H' e => by
    rw [← hW]
    refine ⟨true, C.row.exm, fun _ a ha => ⟨⟨rfl, rfl⟩, ?_⟩, fun z => nomatch z⟩
    refine q_asg (ev_orV (ev_isE rfl (fun u h => h) C.n1) fun _ => ev_orV (ev_isE rfl (fun u h => h) C.n2) fun _ => ev_isE rfl (fun u h => h) C.n3) fun H1 e1 => ?_
    refine q_asg (ev_orV (ev_var rfl) fun _ => ev_isE rfl (fun u h => h) C.n4) fun H2 e2 => ?_
    exact s_ret (ev_andV (ev_isE rfl (fun u h => h) kit_self) fun _ => ev_andV (ev_isE rfl (fun u h => h) C.row.val) fun _ => ev_notV (ev_var rfl)) fun H3 e3 => q H3 (((e.trans e1).trans e2).trans e3)
  have raises : ∀ H', Ex H H' → RaiseX c.BadRow H' (WE W (start' 5 [.int way, .ref r, x])) := fun H' e H2 e2 => k H2 (e.trans e2)
  refine s_if (b := decide (way = 0)) (et_test (ev_op (ev_var rfl) ev_c rv_eqI)) (fun hb H1 e1 => ?_) fun hb H1 e1 => ?_
  · have w0 := of_decide_eq_true hb
    refine ⟨.ref r, rfl, x, rfl, r, t, s, w, tab, x, rfl, R.ex e1, G, ?_⟩
    rcases hx with p | ⟨a, cells, rfl, hc, hs, hl, h | h⟩
    · exact Or.inl ⟨p.ex e1, raises H1 e1⟩
    · exact Or.inr ⟨a, cells, rfl, ex_l e1 hc, hs, hl, fun _ => raises H1 e1, fun z => absurd z (by omega)⟩
    · exact absurd w0 h.1
  · have w0 := of_decide_eq_false hb
    refine ⟨.ref r, rfl, x, rfl, r, t, s, w, tab, x, rfl, R.ex e1, G, ?_⟩
    rcases hx with p | ⟨a, cells, rfl, hc, hs, hl, h | h⟩
    · exact Or.inl ⟨p.ex e1, raises H1 e1⟩
    · exact absurd h.1 w0
    · exact Or.inr ⟨a, cells, rfl, ex_l e1 hc, hs, hl, fun _ => raises H1 e1, fun z => absurd h.2 z⟩
theorem spv_l_refused {H : Hp} {r t : Addr} {s w way : Int} {tab : List Int} {x : V} (R : RuleAt K H r t s w tab) (G : Good s w tab)
    (hx : ∀ H', Ex H H' → PThing K H' s x false ∨ ∃ (a : Addr) (cells : List Int), x = .ref a ∧ IL K H' a cells ∧ InS s cells ∧ cells.length ≤ 20000 ∧ ((way = 0 ∧ (cells.length : Int) < w - 1) ∨ (way ≠ 0 ∧ cells = []))) :
    SpV (sp_l_refused K c) [.int way, .ref r, x] H (.bl true) := fun H1 e Q q E => ⟨r, t, s, w, way, tab, x, rfl, R.ex e, G, hx H1 e, q⟩
end
end Br

namespace Br
open PySem PySem.Spec PyProof.Rows L2 Evl
/-! ### pairs of lists held, each with the same ints -/
structure PR where
  t : Addr
  p : Addr
  q : Addr
  xs : List Int
def PR.add (v : Int) (x : PR) : PR := { x with xs := x.xs ++ [v] }
def PR.apart (x y : PR) : Prop := x.p ≠ y.p ∧ x.p ≠ y.q ∧ x.q ≠ y.p ∧ x.q ≠ y.q
def PR.at (H0 H : Hp) (x : PR) : Prop := H x.t = some (.tup [.ref x.p, .ref x.q]) ∧ H x.p = some (.lst (x.xs.map V.int)) ∧ H x.q = some (.lst (x.xs.map V.int)) ∧ H0 x.p = none ∧ H0 x.q = none ∧ x.p ≠ x.q
structure Held (H0 H : Hp) (av : List Addr) (ps : List PR) : Prop where
  at_ : ∀ x ∈ ps, PR.at H0 H x
  nd : ps.Pairwise PR.apart
  av_ : ∀ a ∈ av, ∀ x ∈ ps, a ≠ x.p ∧ a ≠ x.q
theorem Held.ex {H0 H H' : Hp} {av : List Addr} {ps : List PR} (e : Ex H H') (h : Held H0 H av ps) : Held H0 H' av ps :=
  ⟨fun x hx => by
    obtain ⟨a, b, d, f⟩ := h.at_ x hx
    exact ⟨e _ _ a, e _ _ b, e _ _ d, f⟩, h.nd, h.av_⟩
theorem Held.less {H0 H : Hp} {av av' : List Addr} {ps : List PR} (hs : ∀ a ∈ av', a ∈ av) (h : Held H0 H av ps) : Held H0 H av' ps := ⟨h.at_, h.nd, fun a ha => h.av_ a (hs a ha)⟩
/-- one more address that is new -/
theorem Held.more {H0 H H' : Hp} {av : List Addr} {ps : List PR} {a : Addr} (h : Held H0 H av ps) (e : Ex H H') (ha : H a = none) : Held H0 H' (a :: av) ps :=
  ⟨(h.ex e).at_, h.nd, fun b hb x hx => by
    rcases List.mem_cons.mp hb with rfl | hb
    · obtain ⟨_, i, j, _⟩ := h.at_ x hx
      exact ⟨(ne_of_none i ha).symm, (ne_of_none j ha).symm⟩
    · exact h.av_ b hb x hx⟩
theorem Held.upd {H0 H : Hp} {av : List Addr} {ps : List PR} {a : Addr} {zs ws : List V} (h : Held H0 H av ps) (ha : a ∈ av) (hl : H a = some (.lst zs)) : Held H0 (upd H a (.lst ws)) av ps :=
  ⟨fun x hx => by
    obtain ⟨i, j, k, l⟩ := h.at_ x hx
    obtain ⟨n1, n2⟩ := h.av_ a ha x hx
    have n3 : x.t ≠ a := ne_of i hl (by intro z; cases z)
    exact ⟨by rw [upd_ne n3]; exact i, by rw [upd_ne n1.symm]; exact j, by rw [upd_ne n2.symm]; exact k, l⟩, h.nd, h.av_⟩
theorem Held.new {H0 H H1 : Hp} {av : List Addr} {ps : List PR} {x : PR} (h : Held H0 H av ps) (e0 : Ex H0 H) (e : Ex H H1) (hp : H x.p = none) (hq : H x.q = none) (hx : H1 x.t = some (.tup [.ref x.p, .ref x.q])) (h1 : H1 x.p = some (.lst (x.xs.map V.int)))
    (h2 : H1 x.q = some (.lst (x.xs.map V.int))) (hn : x.p ≠ x.q) (hav : ∀ a ∈ av, ∃ o, H a = some o) : Held H0 H1 av (ps ++ [x]) :=
  ⟨fun y hy => by
    rcases List.mem_append.mp hy with hy | hy
    · exact (h.ex e).at_ y hy
    · rw [List.mem_singleton.mp hy]
      exact ⟨hx, h1, h2, fresh_back e0 hp, fresh_back e0 hq, hn⟩,
  List.pairwise_append.mpr ⟨h.nd, List.pairwise_singleton _ _, fun a ha b hb => by
    rw [List.mem_singleton.mp hb]
    obtain ⟨_, j, k, _⟩ := h.at_ a ha
    exact ⟨ne_of_none j hp, ne_of_none j hq, ne_of_none k hp, ne_of_none k hq⟩⟩,
  fun a ha y hy => by
    rcases List.mem_append.mp hy with hy | hy
    · exact h.av_ a ha y hy
    · rw [List.mem_singleton.mp hy]
      obtain ⟨o, ho⟩ := hav a ha
      exact ⟨ne_of_none ho hp, ne_of_none ho hq⟩⟩
/-- both lists of one pair get one more item -/
theorem Held.push {H0 H : Hp} {av : List Addr} {A B : List PR} {x : PR} {v : Int} (h : Held H0 H av (A ++ x :: B)) : Held H0 (L2.upd (L2.upd H x.p (.lst (x.xs.map V.int ++ [.int v]))) x.q (.lst (x.xs.map V.int ++ [.int v]))) av (A ++ x.add v :: B) := by
  obtain ⟨i, j, k, l, m, n⟩ := h.at_ x (List.mem_append_right _ List.mem_cons_self)
  obtain ⟨nA, nB, nAB⟩ := List.pairwise_append.mp h.nd
  obtain ⟨nx, nB'⟩ := List.pairwise_cons.mp nB
  have hm : (x.add v).xs.map V.int = x.xs.map V.int ++ [.int v] := by
    show (x.xs ++ [v]).map V.int = _
    rw [List.map_append]
    rfl
  have other : ∀ y, y ∈ A ∨ y ∈ B → PR.at H0 (L2.upd (L2.upd H x.p (.lst (x.xs.map V.int ++ [.int v]))) x.q (.lst (x.xs.map V.int ++ [.int v]))) y := fun y hy => by
    have hy' : y ∈ A ++ x :: B := by
      rcases hy with hy | hy
      · exact List.mem_append_left _ hy
      · exact List.mem_append_right _ (List.mem_cons_of_mem _ hy)
    obtain ⟨a, b, d, f⟩ := h.at_ y hy'
    have ap : y.p ≠ x.p ∧ y.p ≠ x.q ∧ y.q ≠ x.p ∧ y.q ≠ x.q := by
      rcases hy with hy | hy
      · exact nAB y hy x List.mem_cons_self
      · obtain ⟨z1, z2, z3, z4⟩ := nx y hy
        exact ⟨z1.symm, z3.symm, z2.symm, z4.symm⟩
    obtain ⟨z1, z2, z3, z4⟩ := ap
    have t1 : y.t ≠ x.p := ne_of a j (by intro z; cases z)
    have t2 : y.t ≠ x.q := ne_of a k (by intro z; cases z)
    exact ⟨by rw [upd_ne t2, upd_ne t1]; exact a, by rw [upd_ne z2, upd_ne z1]; exact b, by rw [upd_ne z4, upd_ne z3]; exact d, f⟩
  refine ⟨fun y hy => ?_, ?_, fun a ha y hy => ?_⟩
  · rcases List.mem_append.mp hy with hy | hy
    · exact other y (Or.inl hy)
    · rcases List.mem_cons.mp hy with rfl | hy
      · have t1 : x.t ≠ x.p := ne_of i j (by intro z; cases z)
        have t2 : x.t ≠ x.q := ne_of i k (by intro z; cases z)
        refine ⟨?_, ?_, ?_, l, m, n⟩
        · show (L2.upd _ x.q _) x.t = _
          rw [upd_ne t2, upd_ne t1]
          exact i
        · rw [hm]
          show (L2.upd _ x.q _) x.p = _
          rw [upd_ne n, upd_same]
        · rw [hm]
          exact upd_same
      · exact other y (Or.inr hy)
  · exact List.pairwise_append.mpr ⟨nA, List.pairwise_cons.mpr ⟨fun b hb => nx b hb, nB'⟩, fun a ha b hb => by
      rcases List.mem_cons.mp hb with rfl | hb
      · exact nAB a ha x List.mem_cons_self
      · exact nAB a ha b (List.mem_cons_of_mem _ hb)⟩
  · rcases List.mem_append.mp hy with hy | hy
    · exact h.av_ a ha y (List.mem_append_left _ hy)
    · rcases List.mem_cons.mp hy with rfl | hy
      · exact h.av_ a ha x (List.mem_append_right _ List.mem_cons_self)
      · exact h.av_ a ha y (List.mem_append_right _ (List.mem_cons_of_mem _ hy))
section
variable {K : PySem.W.Frag} {σ : L2.St} {H H' : Hp} {te ti ta tb : TE} {x y z v : V} {D : Ends} {tz : TS} {P : VP} {Ps : List VP}
/-- l.append((a new list, a new list)) -/
theorem s_appPair {l : Addr} {i : Nat} {zs xs ys : List V} (hl : H l = some (.lst zs)) (hv : σ[i]? = some (some (.ref l))) (ha : EvL ta σ H xs) (hb : EvL tb σ H ys) (hz : zs.length < 100000)
    (k : ∀ p q t H1, H p = none → H q = none → p ≠ q → H t = none → Ex H H1 → H1 p = some (.lst xs) → H1 q = some (.lst ys) → H1 t = some (.tup [.ref p, .ref q]) → D.nx σ (upd H1 l (.lst (zs ++ [.ref t])))) :
    tDrop (tBM K "list" rAppend (tVar i) (tCons (tTup (tCons ta (tCons tb tNil))) tNil)) D σ H :=
  ⟨.ref l, hv, Or.inl ⟨rfl, zs, sq_of hl⟩, ha H (Ex.refl H) _ fun p H1 hp e1 h1 => hb H1 e1 _ fun q H2 hq e2 h2 => ⟨sz_of (lt_size 2), fun t ht =>
    have e3 : Ex H2 (upd H2 t (.tup [.ref p, .ref q])) := Ex.new ht
    ⟨l, zs, .ref t, rfl, rfl, (e1.trans (e2.trans e3)) _ _ hl, sz_lt hz, k p q t _ hp (fresh_back e1 hq) (ne_of_none h1 hq) (fresh_back (e1.trans e2) ht) (e1.trans (e2.trans e3)) (e3 _ _ (e2 _ _ h1)) (e3 _ _ h2) upd_same⟩⟩⟩
/-- an argument list by steps -/
theorem ev_isNotB {a b : Bool} (h : Ev te σ H (.bl a)) : Ev (tOp rNotB te (tC (.bl b))) σ H (.bl (!decide (a = b))) := ev_op h ev_c fun H1 _ Q q => ⟨a, b, rfl, rfl, q H1 (Ex.refl H1)⟩
theorem el_listV {p : Addr} {xs : List V} (h : Ev te σ H (.ref p)) (hx : SqL K H p xs) : EvL (tCB (rListS K) (tCons te tNil)) σ H xs := el_list h hx
/-- [x for x in l if t] == [] where no item is kept; its != -/
theorem ev_noneEq {l : Addr} {xs : List V} {tl : TE} {j : Nat} {vs : List Nat} {tt : TT} (h : Ev tl σ H (.ref l)) (hx : SqL K H l xs) (hz : xs.length ≤ 40000) (hw : ∀ x, wipe ((wipe σ vs).set j (some x)) vs = wipe σ vs)
    (ht : ∀ (i : Nat) (x : V) H1, Ex H H1 → xs[i]? = some x → EvT tt ((wipe σ vs).set j (some x)) H1 false) : EvL (tLc (iList K tl) (gName j) tt te vs) σ H [] := by
  have z := el_lcL (K := K) (H := H) (σ := σ) (te := te) (t := tt) (fun _ => false) (fun _ => .non) h hx hz hw ht (fun _ _ _ _ _ h => nomatch h)
  rw [given_none] at z
  exact z
theorem ev_eqNil (h : EvL te σ H []) : Ev (tOp (rEqD K) te (tLst tNil)) σ H (.bl true) := by
  refine ev_is (ev_opLL h (el_lst ea_nil (lt_size 0)) fun p r H2 hp hr e2 => rv_eqData (dp_il (ns := []) (sq_of hp)) (dp_il (ns := []) (sq_of hr)) (shaped_dI _) (shaped_dI _)) ?_
  rw [eqv_dI]
  rfl
theorem ev_neNil (h : EvL te σ H []) : Ev (tOp (rNeD K) te (tLst tNil)) σ H (.bl false) := by
  refine ev_is (ev_opLL h (el_lst ea_nil (lt_size 0)) fun p r H2 hp hr e2 => rv_neData (dp_il (ns := []) (sq_of hp)) (dp_il (ns := []) (sq_of hr)) (shaped_dI _) (shaped_dI _)) ?_
  rw [eqv_dI]
  rfl
theorem rv_eqIL {a b : Addr} {ns ms : List Int} (h1 : IL K H a ns) (h2 : IL K H b ms) : RV (rEqD K) (.ref a) (.ref b) H (.bl (decide (ns = ms))) := by
  have z := rv_eqData (H := H) (dp_il h1) (dp_il h2) (shaped_dI _) (shaped_dI _)
  rw [eqv_dI] at z
  exact z
theorem rv_neIL {a b : Addr} {ns ms : List Int} (h1 : IL K H a ns) (h2 : IL K H b ms) : RV (rNeD K) (.ref a) (.ref b) H (.bl (!decide (ns = ms))) := by
  have z := rv_neData (H := H) (dp_il h1) (dp_il h2) (shaped_dI _) (shaped_dI _)
  rw [eqv_dI] at z
  exact z
end
section
variable {K : PySem.W.Frag} {c : Cl}
theorem ev_cell {σ : L2.St} {H : Hp} {a : Addr} {ns : List Int} {k : Int} {i : Nat} (hi : σ[i]? = some (some (.ref a))) (hs : IL K H a ns) (k0 : 0 ≤ k) : Ev (tCall (sp_l_cell_at K c) [] E0 (tCons (tVar i) (tCons (tC (.int k)) tNil))) σ H (.int (cellAt ns k)) :=
  ev_call (ea_cons (ev_var hi) (ea_cons ev_c ea_nil)) (spv_l_cell_at hs k0)
theorem q_asgRule {σ : L2.St} {H : Hp} {D : Ends} {tz : TS} {E : XK} {ta : TA} {x y : Int} {i : Nat} (ha : EvA ta σ H [.int x, .int y])
    (k : ∀ (r t : Addr) (H1 : Hp) (s w : Int) (tab : List Int), Ex H H1 → RuleAt K H1 r t s w tab → Good s w tab → tz D (σ.set i (some (.ref r))) H1) : tSeq (tAsg (tCall (sp_l_rule K c) [] E ta) (gName i)) tz D σ H :=
  ha H (Ex.refl H) _ fun H1 e1 => ⟨x, y, rfl, fun r t H2 s w tab e2 R G => k r t H2 s w tab (e1.trans e2) R G⟩
end
end Br

/-! ## texts -/
namespace Br4
open PySem PySem.Spec PyProof.Rows L2 Evl Br TL
abbrev oAddS : R2 := fun x y H Q => ∃ i j, x = .str i ∧ y = .str j ∧ i.length + j.length ≤ sizeLine ∧ Q (.str (i ++ j)) H
abbrev oSplit : V → List V → Hp → VK → Prop := fun x xs H Q => ∃ a b, x = .str a ∧ xs = [.str b] ∧ (b.length == 0) = false ∧ a.length + 2 ≤ sizeLine ∧ rNewStrs (PySem.Txt.split a b) H Q
abbrev oJoin (K : PySem.W.Frag) : V → List V → Hp → VK → Prop := fun x xs H Q => ∃ a p, ∃ ys : List Str, x = .str a ∧ xs = [.ref p] ∧ (SqL K H p (ys.map V.str) ∨ SqT K H p (ys.map V.str)) ∧ (ys.map (·.length)).sum + ys.length * a.length ≤ 16777216 ∧ Q (.str (PySem.Txt.join a ys)) H
abbrev oFind : V → List V → Hp → VK → Prop := fun x xs H Q => ∃ a b, x = .str a ∧ xs = [.str b] ∧ Q (.int (PySem.Txt.find a b)) H
abbrev oIntS : List V → Hp → VK → Prop := fun xs H Q => ∃ a n, xs = [.str a] ∧ PySem.intText? a = some n ∧ a.length ≤ 640 ∧ Q (.int n) H
abbrev oNotIn1 : R2 := fun x y H Q => ∃ (c : Nat) (z : Str), x = .str ⟨#[c]⟩ ∧ y = .str z ∧ Q (.bl (!decide (c ∈ z.cps.toList))) H
/-- the parts of an f-string, one behind the other -/
def tJo (ts : List TE) : TE := fun σ H Q => tJs ts Str.empty σ H fun out H1 => Q (.str out) H1
section
variable {K : PySem.W.Frag} {σ : L2.St} {H H' : Hp} {te ti ta tb tl : TE} {x y z v : V} {D : Ends} {tz : TS} {P : VP}
theorem rv_addS {a b : Str} (h : a.length + b.length ≤ 100000) : RV oAddS (.str a) (.str b) H (.str (a ++ b)) := fun H1 _ Q q => ⟨a, b, rfl, rfl, sz_of h, q H1 (Ex.refl H1)⟩
theorem ev_lenStr {a : Str} (ha : Ev te σ H (.str a)) (h : a.length ≤ 100000) : Ev (tCB oLenS (tCons te tNil)) σ H (.int a.length) := fun H1 e Q q => ha H1 e _ fun H2 e2 => ⟨a, rfl, sz_of h, q H2 e2⟩
theorem ev_find {a b : Str} (ha : Ev ta σ H (.str a)) (hb : Ev tb σ H (.str b)) : Ev (tM1 oFind ta tb) σ H (.int (PySem.Txt.find a b)) := fun H1 e Q q =>
  ha H1 e _ fun H2 e2 => ⟨⟨a, rfl⟩, hb H2 (e.trans e2) _ fun H3 e3 => ⟨a, b, rfl, rfl, q H3 (e2.trans e3)⟩⟩
theorem el_split {a b : Str} (ha : Ev ta σ H (.str a)) (hb : Ev tb σ H (.str b)) (h : (b.length == 0) = false) (hl : a.length ≤ 90000) : EvL (tM1 oSplit ta tb) σ H ((PySem.Txt.split a b).map V.str) := fun H1 e Q q =>
  ha H1 e _ fun H2 e2 => ⟨⟨a, rfl⟩, hb H2 (e.trans e2) _ fun H3 e3 => ⟨a, b, rfl, rfl, h, sz_of (by omega), fun p hp => q p _ (fresh_back (e2.trans e3) hp) ((e2.trans e3).trans (Ex.new hp)) upd_same⟩⟩
theorem ev_join {a : Str} {ys : List Str} (ha : Ev ta σ H (.str a)) (hb : EvL tb σ H (ys.map V.str)) (h : (ys.map (·.length)).sum + ys.length * a.length ≤ 16777216) : Ev (tM1 (oJoin K) ta tb) σ H (.str (PySem.Txt.join a ys)) := fun H1 e Q q =>
  ha H1 e _ fun H2 e2 => ⟨⟨a, rfl⟩, hb H2 (e.trans e2) _ fun p H3 hp e3 h3 => ⟨a, p, ys, rfl, rfl, Or.inl (sq_of h3), h, q H3 (e2.trans e3)⟩⟩
theorem ev_intS {a : Str} {n : Int} (ha : Ev te σ H (.str a)) (h : PySem.intText? a = some n) (hl : a.length ≤ 640) : Ev (tCB oIntS (tCons te tNil)) σ H (.int n) := fun H1 e Q q => ha H1 e _ fun H2 e2 => ⟨a, n, rfl, h, hl, q H2 e2⟩
theorem ev_strI {i : Int} (ha : Ev te σ H (.int i)) (h : i.natAbs.log2 < 1920) : Ev (tCB oStrI (tCons te tNil)) σ H (.str (toString i)) := fun H1 e Q q => ha H1 e _ fun H2 e2 => ⟨i, rfl, h, q H2 e2⟩
theorem rv_notIn1 {c : Nat} {z : Str} : RV oNotIn1 (.str ⟨#[c]⟩) (.str z) H (.bl (!decide (c ∈ z.cps.toList))) := fun H1 _ Q q => ⟨c, z, rfl, rfl, q H1 (Ex.refl H1)⟩
theorem rv_ixS {z : Str} {i : Int} {c : Nat} (h : z.length ≤ 100000) (ha : atI z.cps.toList i = some c) : RV rIxS (.str z) (.int i) H (.str ⟨#[c]⟩) := fun H1 _ Q q => ⟨z, i, c, rfl, rfl, sz_of h, ha, q H1 (Ex.refl H1)⟩
theorem ev_slS {z : Str} {tl th : TO} {lo hi : Option Int} (h : Ev te σ H (.str z)) (h1 : EvO tl σ H lo) (h2 : EvO th σ H hi) (hz : z.length ≤ 100000) : Ev (tSl rSlS te tl th) σ H (.str (cutS z lo hi)) := fun H1 e Q q =>
  h H1 e _ fun H2 e2 => h1 H2 (e.trans e2) _ fun H3 e3 => h2 H3 ((e.trans e2).trans e3) _ fun H4 e4 => ⟨z, rfl, sz_of hz, q H4 ((e2.trans e3).trans e4)⟩
theorem ev_fmtI {i : Int} (ha : Ev te σ H (.int i)) (h : i.natAbs.log2 < 1920) : Ev (tFmt te) σ H (.str (toString i)) := fun H1 e Q q => ha H1 e _ fun H2 e2 => Or.inr ⟨i, rfl, h, q H2 e2⟩
theorem ev_fmtS {a : Str} (ha : Ev te σ H (.str a)) (h : a.length ≤ 100000) : Ev (tFmt te) σ H (.str a) := fun H1 e Q q => ha H1 e _ fun H2 e2 => Or.inl ⟨a, rfl, sz_of h, q H2 e2⟩
def AllS (σ : L2.St) (H : Hp) : List TE → List Str → Prop
  | [], [] => True
  | t :: ts, y :: ys => Ev t σ H (.str y) ∧ AllS σ H ts ys
  | _, _ => False
theorem AllS.mono (e : Ex H H') : ∀ {ts : List TE} {ys : List Str}, AllS σ H ts ys → AllS σ H' ts ys
  | [], [], _ => trivial
  | _ :: _, _ :: _, h => ⟨h.1.mono e, AllS.mono e h.2⟩
  | [], _ :: _, h => h.elim
  | _ :: _, [], h => h.elim
theorem len_app (a b : Str) : (a ++ b).length = a.length + b.length := by
  rw [len_tl, tl_append, List.length_append, ← len_tl, ← len_tl]
theorem js_run : ∀ (ts : List TE) (ys : List Str) (acc : Str) (H : Hp) (Q : Str → Hp → Prop), AllS σ H ts ys → acc.length + (ys.map (·.length)).sum ≤ 100000 → (∀ H2, Ex H H2 → Q (ys.foldl (· ++ ·) acc) H2) → tJs ts acc σ H Q
  | [], [], acc, H, Q, _, _, q => q H (Ex.refl H)
  | t :: ts, y :: ys, acc, H, Q, h, hl, q => by
    have e0 : ((y :: ys).map (·.length)).sum = y.length + (ys.map (·.length)).sum := by rw [List.map_cons, List.sum_cons]
    rw [e0] at hl
    exact h.1 H (Ex.refl H) _ fun H2 e2 => ⟨y, rfl, sz_of (by rw [len_app]; omega), js_run ts ys (acc ++ y) H2 Q (h.2.mono e2) (by rw [len_app]; omega) fun H3 e3 => q H3 (e2.trans e3)⟩
  | [], _ :: _, _, _, _, h, _, _ => h.elim
  | _ :: _, [], _, _, _, h, _, _ => h.elim
theorem ev_jo {ts : List TE} {ys : List Str} (h : AllS σ H ts ys) (hl : (ys.map (·.length)).sum ≤ 100000) : Ev (tJo ts) σ H (.str (ys.foldl (· ++ ·) Str.empty)) := fun H1 e Q q =>
  js_run ts ys Str.empty H1 _ (h.mono e) (by show 0 + _ ≤ _; omega) fun H2 e2 => q H2 e2
/-- a comprehension over a text -/
theorem lc_str {s : Str} {g : TG} {tt : TT} {te : TE} {vs : List Nat} {σ : L2.St} {H1 : Hp} {D : Addr} {Qd : Hp → Prop} (Pv : Nat → Hp → Prop) (h0 : Pv 0 (upd H1 D (.lst [])))
    (hs : ∀ i c H, s.cps.toList[i]? = some c → Pv i H → g (.str ⟨#[c]⟩) (wipe σ vs) H fun σ2 H2 => wipe σ2 vs = wipe σ vs ∧ tt σ2 H2 fun b H3 =>
      if b = true then te σ2 H3 fun y H4 => ∃ acc, H4 D = some (.lst acc) ∧ acc.length < sizeLine ∧ Pv (i + 1) (upd H4 D (.lst (acc ++ [y]))) else Pv (i + 1) H3) (hd : ∀ H, Pv s.length H → Qd H) :
    ∃ W : Nat → Nat → Hp → Prop, (∃ m, W 0 m (upd H1 D (.lst []))) ∧ ∀ i m H, W i m H →
      ((Its s).stop i H ∧ Qd H) ∨ ((Its s).go i H ∧ ∃ Nx : Hp → Prop, (∀ H', Nx H' → ∃ m', m' < m ∧ W (i + 1) m' H') ∧ ∀ x H', (Its s).yld i H x H' → g x (wipe σ vs) H' fun σ2 H2 => wipe σ2 vs = wipe σ vs ∧ tt σ2 H2 fun b H3 =>
        if b = true then te σ2 H3 fun y H4 => ∃ acc, H4 D = some (.lst acc) ∧ acc.length < sizeLine ∧ Nx (upd H4 D (.lst (acc ++ [y]))) else Nx H3) := by
  refine ⟨fun i m H => m = s.length - i ∧ i ≤ s.length ∧ Pv i H, ⟨s.length, by simp, Nat.zero_le _, h0⟩, ?_⟩
  rintro i m H ⟨rfl, hi, p⟩
  by_cases hlt : i < s.length
  · refine .inr ⟨hlt, Pv (i + 1), fun H' p' => ⟨s.length - (i + 1), by omega, rfl, hlt, p'⟩, fun x H' y => ?_⟩
    obtain ⟨e, c, hc, ex⟩ := y
    subst e
    subst ex
    exact hs i c _ (by rw [Array.getElem?_toList]; exact hc) p
  · have e : i = s.length := by omega
    subst e
    exact .inl ⟨Nat.le_refl _, hd H p⟩
theorem el_lcS {s : Str} {tt : TT} {j : Nat} {vs : List Nat} (f : Nat → Bool) (v : Nat → V) (h : Ev tl σ H (.str s)) (hz : s.length ≤ 40000) (hw : ∀ x, wipe ((wipe σ vs).set j (some x)) vs = wipe σ vs)
    (ht : ∀ (i : Nat) (c : Nat) H1, Ex H H1 → (TL.tl s)[i]? = some c → EvT tt ((wipe σ vs).set j (some (.str ⟨#[c]⟩))) H1 (f i)) (he : ∀ (i : Nat) (c : Nat) H1, Ex H H1 → (TL.tl s)[i]? = some c → f i = true → Ev te ((wipe σ vs).set j (some (.str ⟨#[c]⟩))) H1 (v i)) :
    EvL (tLc (iStr tl) (gName j) tt te vs) σ H (given s.length f v) := fun H0 e Q q => h H0 e _ fun H1 e1 => ⟨s, rfl, fun Dl hD =>
  lc_str (s := s) (Cw H1 f v Dl) ⟨hD, Ex.new hD, upd_same⟩ (fun i c H' hi p => ⟨hw _, cw_turn p (by have := (List.getElem?_eq_some_iff.mp hi).1; rw [Array.length_toList] at this; have hz2 : s.cps.size ≤ 40000 := hz; omega) (ht i c H1 (e.trans e1) hi) (fun hf => he i c H1 (e.trans e1) hi hf)⟩)
    (fun H' p => q Dl H' (fresh_back e1 p.1) (e1.trans p.2.1) p.2.2)⟩
theorem map_ixN (xs : List Nat) (f : Nat → V) : (List.range xs.length).map (fun i => f (xs.getD i 0)) = xs.map f := map_ix xs 0 f
/-- [e for c in text] -/
theorem el_mapS {s : Str} {j : Nat} {vs : List Nat} (f : Nat → V) (h : Ev tl σ H (.str s)) (hz : s.length ≤ 40000) (hw : ∀ x, wipe ((wipe σ vs).set j (some x)) vs = wipe σ vs)
    (he : ∀ (c : Nat) H1, Ex H H1 → c ∈ TL.tl s → Ev te ((wipe σ vs).set j (some (.str ⟨#[c]⟩))) H1 (f c)) :
    EvL (tLc (iStr tl) (gName j) tYes te vs) σ H ((TL.tl s).map f) := by
  have z := el_lcS (te := te) (tt := tYes) (fun _ => true) (fun i => f ((TL.tl s).getD i 0)) h hz hw (fun _ _ _ _ _ => et_yes) (fun i x H1 e hi _ => by
    have e1 : (TL.tl s).getD i 0 = x := by simp [List.getD, hi]
    rw [e1]
    exact he x H1 e (List.mem_of_getElem? hi))
  rw [given_all, TL.len_tl s, map_ixN] at z
  exact z
/-- texts compared to the list of none -/
theorem dpAll_strs (ys : List Str) : DpAll K H (ys.map V.str) (ys.map PyData.str) := by
  induction ys with
  | nil => exact .nil
  | cons y r ih => exact .cons (.str y) ih
theorem canLay_strs : ∀ ys : List Str, (∀ y ∈ ys, ∀ c ∈ TL.tl y, c < 256) → PyData.canLayAll0 (ys.map PyData.str) = true
  | [], _ => rfl
  | y :: r, h => by
    show (PyData.canLay0 (.str y) && PyData.canLayAll0 (r.map PyData.str)) = true
    rw [canLay_strs r fun z hz => h z (List.mem_cons_of_mem _ hz), Bool.and_true]
    show (y.cps.all (· < 0x110000)) = true
    rw [← Array.all_toList, List.all_eq_true]
    intro c hc
    have := h y List.mem_cons_self c hc
    exact decide_eq_true (by omega)
theorem depth_strs : ∀ ys : List Str, PyData.depthAll (ys.map PyData.str) = 0
  | [] => rfl
  | y :: r => by
    show max (PyData.depth (.str y)) (PyData.depthAll (r.map PyData.str)) = 0
    rw [depth_strs r]
    rfl
theorem ev_neStrs {ys : List Str} (h : EvL te σ H (ys.map V.str)) (hc : ∀ y ∈ ys, ∀ c ∈ TL.tl y, c < 256) : Ev (tOp (rNeD K) te (tLst tNil)) σ H (.bl (!ys.isEmpty)) := by
  have sh : SeqAt.shaped (.list (ys.map PyData.str)) = true := by
    unfold SeqAt.shaped
    rw [show PyData.canLay0 (.list (ys.map PyData.str)) = true from canLay_strs ys hc, show PyData.depth (.list (ys.map PyData.str)) = 1 by show PyData.depthAll (ys.map PyData.str) + 1 = 1; rw [depth_strs]]
    rfl
  refine ev_is (ev_opLL h (el_lst ea_nil (lt_size 0)) fun p r H2 hp hr e2 => rv_neData (.lst (sq_of hp) (dpAll_strs ys)) (dp_il (ns := []) (sq_of hr)) sh (shaped_dI _)) ?_
  cases ys with
  | nil => rfl
  | cons y r => rfl
end
end Br4

/-! ## the text of a rule -/
namespace Br4
open PySem PySem.Spec PyProof.Rows L2 Evl Br TL
def one (c : Nat) : Str := ⟨#[c]⟩
def dig (i : Int) : Str := ⟨#[(48 + i).toNat]⟩
def codes (l : List Int) : List Nat := l.map fun i => (48 + i).toNat
def word (tab : List Int) : Str := ⟨(codes tab).toArray⟩
def ruleText (s w : Int) (tab : List Int) : Str := ⟨([(48 + s).toNat, 32, (48 + w).toNat, 32] ++ codes tab).toArray⟩
def figC (c : Nat) : Int := if 48 ≤ c ∧ c ≤ 57 then (c : Int) - 48 else -1
def Figs (tab : List Int) : Prop := ∀ i ∈ tab, 0 ≤ i ∧ i ≤ 9
theorem figC_dig {i : Int} (h0 : 0 ≤ i) (h1 : i ≤ 9) : figC (48 + i).toNat = i := by
  unfold figC
  rw [if_pos (by omega)]
  omega
theorem figC_in {c : Nat} (h : 0 ≤ figC c) : c = (48 + figC c).toNat ∧ figC c ≤ 9 := by
  unfold figC at h ⊢
  by_cases hc : 48 ≤ c ∧ c ≤ 57
  · rw [if_pos hc]
    omega
  · rw [if_neg hc] at h
    omega
theorem figs_list : tl (Str.ofString "0123456789") = [48, 49, 50, 51, 52, 53, 54, 55, 56, 57] := by decide +kernel
theorem find_in : ∀ c ∈ [48, 49, 50, 51, 52, 53, 54, 55, 56, 57], PySem.Txt.find "0123456789" ⟨#[c]⟩ = figC c := by decide +kernel
theorem find_one (c : Nat) : PySem.Txt.find "0123456789" ⟨#[c]⟩ = figC c := by
  by_cases h : c ∈ tl (Str.ofString "0123456789")
  · exact find_in c (by rw [← figs_list]; exact h)
  · have z := PySem.StrLaws.found_one (Str.ofString "0123456789") c
    rw [decide_eq_false h] at z
    have e : PySem.Builtin.Str.occurrences (Str.ofString "0123456789") ⟨#[c]⟩ 0 (Str.ofString "0123456789").length 1 = [] := by
      cases e : PySem.Builtin.Str.occurrences (Str.ofString "0123456789") ⟨#[c]⟩ 0 (Str.ofString "0123456789").length 1 with
      | nil => rfl
      | cons a l => rw [e] at z; cases z
    unfold PySem.Txt.find
    rw [e]
    rw [figs_list] at h
    unfold figC
    rw [if_neg]
    intro hc
    apply h
    have : c = 48 ∨ c = 49 ∨ c = 50 ∨ c = 51 ∨ c = 52 ∨ c = 53 ∨ c = 54 ∨ c = 55 ∨ c = 56 ∨ c = 57 := by omega
    simp only [List.mem_cons, List.mem_nil_iff, or_false]
    exact this
theorem ten {P : Int → Prop} (h : ∀ n : Nat, n < 10 → P n) {i : Int} (h0 : 0 ≤ i) (h1 : i ≤ 9) : P i := by
  have := h i.toNat (by omega)
  rwa [show ((i.toNat : Nat) : Int) = i by omega] at this
theorem text_dig {i : Int} (h0 : 0 ≤ i) (h1 : i ≤ 9) : Str.ofString (toString i) = dig i := ten (P := fun i => Str.ofString (toString i) = dig i) (by decide +kernel) h0 h1
theorem int_dig {i : Int} (h0 : 0 ≤ i) (h1 : i ≤ 9) : PySem.intText? (dig i) = some i := ten (P := fun i => PySem.intText? (dig i) = some i) (by decide +kernel) h0 h1
theorem len_dig (i : Int) : (dig i).length = 1 := rfl
theorem tl_dig (i : Int) : tl (dig i) = [(48 + i).toNat] := rfl
theorem tl_word (tab : List Int) : tl (word tab) = codes tab := rfl
theorem tl_rule (s w : Int) (tab : List Int) : tl (ruleText s w tab) = [(48 + s).toNat, 32, (48 + w).toNat, 32] ++ codes tab := rfl
theorem len_word (tab : List Int) : (word tab).length = tab.length := by rw [len_tl, tl_word]; exact List.length_map _
theorem len_rule (s w : Int) (tab : List Int) : (ruleText s w tab).length = 4 + tab.length := by
  rw [len_tl, tl_rule, List.length_append]
  unfold codes
  rw [List.length_map]
  rfl
theorem rule_more (s w : Int) (l : List Int) (x : Int) : ruleText s w l ++ dig x = ruleText s w (l ++ [x]) := ext_tl (by
  rw [tl_append, tl_rule, tl_rule, tl_dig]
  unfold codes
  rw [List.map_append, List.append_assoc]
  rfl)
theorem rule_none {s w : Int} : dig s ++ (" " : Str) ++ dig w ++ (" " : Str) = ruleText s w [] := ext_tl (by
  rw [tl_append, tl_append, tl_append, tl_dig, tl_dig]
  rfl)
theorem rule_all {s w : Int} {tab : List Int} : [dig s, (" " : Str), dig w, (" " : Str), word tab].foldl (· ++ ·) Str.empty = ruleText s w tab := by
  show Str.empty ++ dig s ++ (" " : Str) ++ dig w ++ (" " : Str) ++ word tab = _
  refine ext_tl ?_
  rw [tl_append, tl_append, tl_append, tl_append, tl_append, tl_dig, tl_dig, tl_word, tl_rule]
  rfl
theorem joinL_ones : ∀ l : List Nat, joinL [] (l.map fun c => [c]) = l
  | [] => rfl
  | [_] => rfl
  | a :: b :: r => by
    show [a] ++ ([] ++ joinL [] ((b :: r).map fun c => [c])) = a :: b :: r
    rw [joinL_ones (b :: r)]
    rfl
theorem join_word (tab : List Int) : PySem.Txt.join "" (tab.map dig) = word tab := by
  refine ext_tl ?_
  rw [join_eq, tl_join, tl_word, List.map_map]
  have e : tab.map (tl ∘ dig) = (codes tab).map fun c => [c] := by
    unfold codes
    rw [List.map_map]
    rfl
  rw [e]
  exact joinL_ones _
/-! ### read -/
def parse3 (a b t : Str) : Option (Int × Int × List Int) :=
  match tl a, tl b with
  | [x], [y] => if ruleB (.int (figC x)) (.int (figC y)) (some (((tl t).map figC).map V.int)) = true then some (figC x, figC y, (tl t).map figC) else none
  | _, _ => none
def parseW : List Str → Option (Int × Int × List Int)
  | [a, b, t] => parse3 a b t
  | _ => none
def parse (z : Str) : Option (Int × Int × List Int) := parseW (PySem.Txt.split z " ")
theorem figs_codes {s : Int} (h4 : s ≤ 4) {l : List Nat} (h : ∀ x ∈ l.map figC, 0 ≤ x ∧ x < s) : l = codes (l.map figC) := by
  unfold codes
  rw [List.map_map]
  have : ∀ c ∈ l, ((fun i : Int => (48 + i).toNat) ∘ figC) c = id c := fun c hc => (figC_in (h _ (List.mem_map_of_mem hc)).1).1.symm
  rw [List.map_congr_left this, List.map_id]
theorem parse3_some {a b t : Str} {s w : Int} {tab : List Int} (h : parse3 a b t = some (s, w, tab)) : Good s w tab ∧ a = dig s ∧ b = dig w ∧ t = word tab := by
  unfold parse3 at h
  split at h
  · next x y ha hb =>
    by_cases hr : ruleB (.int (figC x)) (.int (figC y)) (some (((tl t).map figC).map V.int)) = true
    · rw [if_pos hr] at h
      injection h with h
      injection h with h1 h
      injection h with h2 h3
      subst h1 h2 h3
      have G := good_of hr
      have gs := G.s2
      have gw := G.w1
      refine ⟨G, ext_tl ?_, ext_tl ?_, ext_tl ?_⟩
      · rw [ha, tl_dig, ← (figC_in (c := x) (by omega)).1]
      · rw [hb, tl_dig, ← (figC_in (c := y) (by omega)).1]
      · rw [tl_word]
        exact figs_codes G.s4 G.rng
    · rw [if_neg hr] at h
      cases h
  · cases h
theorem Good.figs {s w : Int} {tab : List Int} (G : Good s w tab) : Figs tab := fun i hi => by
  have := G.rng i hi
  have := G.s4
  omega
theorem codes_figs {tab : List Int} (h : Figs tab) : (codes tab).map figC = tab := by
  unfold codes
  rw [List.map_map]
  have : ∀ i ∈ tab, (figC ∘ fun i : Int => (48 + i).toNat) i = id i := fun i hi => figC_dig (h i hi).1 (h i hi).2
  rw [List.map_congr_left this, List.map_id]
theorem parse3_good {s w : Int} {tab : List Int} (G : Good s w tab) : parse3 (dig s) (dig w) (word tab) = some (s, w, tab) := by
  have g := G.s2
  have g4 := G.s4
  have g1 := G.w1
  have g3 := G.w4
  show (if ruleB (.int (figC (48 + s).toNat)) (.int (figC (48 + w).toNat)) (some (((codes tab).map figC).map V.int)) = true then some (figC (48 + s).toNat, figC (48 + w).toNat, (codes tab).map figC) else none) = _
  rw [figC_dig (by omega) (by omega), figC_dig (by omega) (by omega), codes_figs (Good.figs G), if_pos G.ruleB]
theorem parseW_some {ws : List Str} {s w : Int} {tab : List Int} (h : parseW ws = some (s, w, tab)) : Good s w tab ∧ ws = [dig s, dig w, word tab] := by
  match ws, h with
  | [a, b, t], h =>
    obtain ⟨G, rfl, rfl, rfl⟩ := parse3_some h
    exact ⟨G, rfl⟩
theorem no_blank {tab : List Int} (h : Figs tab) : (32 : Nat) ∉ codes tab := fun hm => by
  obtain ⟨i, hi, e⟩ := List.mem_map.mp hm
  have := h i hi
  omega
theorem blank_tl : tl (Str.ofString " ") = 32 :: [] := by decide +kernel
theorem split_rule {s w : Int} {tab : List Int} (G : Good s w tab) : PySem.Txt.split (ruleText s w tab) " " = [dig s, dig w, word tab] := by
  have g := G.s2
  have g4 := G.s4
  have g1 := G.w1
  have g3 := G.w4
  have e : ruleText s w tab = PySem.Txt.join " " [dig s, dig w, word tab] := ext_tl (by
    rw [join_eq, tl_join]
    rfl)
  rw [e]
  refine TL.split_join blank_tl (by decide +kernel) (by simp) fun p hp => ?_
  simp only [List.mem_cons, List.mem_nil_iff, or_false] at hp
  rcases hp with rfl | rfl | rfl
  · rw [tl_dig, List.mem_singleton]
    omega
  · rw [tl_dig, List.mem_singleton]
    omega
  · exact no_blank (Good.figs G)
theorem parse_rule {s w : Int} {tab : List Int} (G : Good s w tab) : parse (ruleText s w tab) = some (s, w, tab) := by
  unfold parse
  rw [split_rule G]
  exact parse3_good G
/-! ### the parts of a text that is split -/
theorem spl_mem (S : List Nat) : ∀ (l : List Nat) (k : Nat) (acc p : List Nat), p ∈ spl S k acc l → p.length ≤ acc.length + l.length ∧ ∀ c ∈ p, c ∈ acc ∨ c ∈ l
  | [], k, acc, p, h => by
    rw [spl_nil] at h
    rw [List.mem_singleton.mp h]
    exact ⟨by simp, fun c hc => Or.inl hc⟩
  | c :: r, 0, acc, p, h => by
    by_cases hp : pre S (c :: r) = true
    · rw [spl_hit hp] at h
      rcases List.mem_cons.mp h with rfl | h
      · exact ⟨by simp, fun c hc => Or.inl hc⟩
      · obtain ⟨a, b⟩ := spl_mem S r _ _ p h
        refine ⟨by simp at a ⊢; omega, fun d hd => ?_⟩
        rcases b d hd with z | z
        · cases z
        · exact Or.inr (List.mem_cons_of_mem _ z)
    · rw [spl_miss (by simpa using hp)] at h
      obtain ⟨a, b⟩ := spl_mem S r _ _ p h
      refine ⟨by simp at a ⊢; omega, fun d hd => ?_⟩
      rcases b d hd with z | z
      · rcases List.mem_append.mp z with z | z
        · exact Or.inl z
        · rw [List.mem_singleton.mp z]
          exact Or.inr List.mem_cons_self
      · exact Or.inr (List.mem_cons_of_mem _ z)
  | c :: r, k + 1, acc, p, h => by
    obtain ⟨a, b⟩ := spl_mem S r k acc p h
    refine ⟨by simp; omega, fun d hd => ?_⟩
    rcases b d hd with z | z
    · exact Or.inl z
    · exact Or.inr (List.mem_cons_of_mem _ z)
theorem split_mem {z p : Str} (h : p ∈ PySem.Txt.split z " ") : p.length ≤ z.length ∧ ∀ c ∈ tl p, c ∈ tl z := by
  have e := split_spl z " " (by rw [blank_tl]; simp) (kind_ok (by decide +kernel))
  have m : tl p ∈ (PySem.Txt.split z " ").map tl := List.mem_map_of_mem h
  rw [e] at m
  obtain ⟨a, b⟩ := spl_mem _ _ _ _ _ m
  refine ⟨?_, fun c hc => ?_⟩
  · rw [len_tl, len_tl]
    simpa using a
  · rcases b c hc with z | z
    · cases z
    · exact z
theorem cut_figs {s : Int} (h2 : 2 ≤ s) (h4 : s ≤ 4) : tl (cutS "0123" none (some s)) = (List.range s.toNat).map (48 + ·) := by
  have : s = 2 ∨ s = 3 ∨ s = 4 := by omega
  rcases this with rfl | rfl | rfl <;> decide +kernel
theorem cut_mem {s : Int} (h2 : 2 ≤ s) (h4 : s ≤ 4) (c : Nat) : c ∈ (cutS "0123" none (some s)).cps.toList ↔ 0 ≤ figC c ∧ figC c < s := by
  rw [show (cutS "0123" none (some s)).cps.toList = _ from cut_figs h2 h4, List.mem_map]
  constructor
  · rintro ⟨i, hi, rfl⟩
    have := List.mem_range.mp hi
    rw [show 48 + i = (48 + (i : Int)).toNat by omega, figC_dig (by omega) (by omega)]
    omega
  · rintro ⟨h0, h1⟩
    obtain ⟨e, _⟩ := figC_in h0
    exact ⟨(figC c).toNat, List.mem_range.mpr (by omega), by omega⟩
theorem in_dig {l : List Int} {a : Str} : inV (.str a) (l.map fun i => V.str (dig i)) = true ↔ ∃ i ∈ l, a = dig i := by
  unfold inV
  rw [List.any_map, List.any_eq_true]
  constructor
  · rintro ⟨i, hi, e⟩
    have z : (dig i == a) = true := e
    exact ⟨i, hi, (eq_of_beq z).symm⟩
  · rintro ⟨i, hi, rfl⟩
    exact ⟨i, hi, show (dig i == dig i) = true from beq_self_eq_true _⟩
end Br4

namespace Br4
open PySem PySem.Spec PyProof.Rows L2 Evl Br TL
section
variable {K : PySem.W.Frag} {c : Cl}
def sp_figure_of (K : PySem.W.Frag) (c : Cl) : Sp := fun vs H Q _ => ∃ n : Nat, vs = [.str ⟨#[n]⟩] ∧ RetV (.int (figC n)) H Q
def t_figure_of (K : PySem.W.Frag) (c : Cl) (E : XK) : TS :=
(tRet (tM1 oFind (tC (.str "0123456789")) (tVar 0)))
theorem len_figure_of (vs : List V) (H : Hp) (Q : VK) (E : XK) (h : sp_figure_of K c vs H Q E) : vs.length = 1 := by
  obtain ⟨n, rfl, _⟩ := h
  rfl
theorem pure_figure_of (vs : List V) (H : Hp) (Q : VK) (E : XK) (h : sp_figure_of K c vs H Q E) : t_figure_of K c E { nx := fun _ H' => Q .non H', rt := Q } (start' 1 vs) H := by
  obtain ⟨n, rfl, q⟩ := h
  exact s_ret (ev_is (ev_find ev_c (ev_var rfl)) (by rw [find_one])) q
theorem spv_figure_of {H : Hp} {n : Nat} : SpV (sp_figure_of K c) [.str ⟨#[n]⟩] H (.int (figC n)) := fun H1 e Q q E => ⟨n, rfl, q⟩
def sp_table_of (K : PySem.W.Frag) (c : Cl) : Sp := fun vs H Q _ => ∃ z : Str, vs = [.str z] ∧ z.length ≤ 30000 ∧ RetU (((tl z).map figC).map V.int) H Q
def t_table_of (K : PySem.W.Frag) (c : Cl) (E : XK) : TS :=
(tRet (tCB (oTupS K) (tCons (tLc (iStr (tVar 0)) (gName 1) tYes (tCall (sp_figure_of K c) [] E0 (tCons (tVar 1) tNil)) [1]) tNil)))
theorem len_table_of (vs : List V) (H : Hp) (Q : VK) (E : XK) (h : sp_table_of K c vs H Q E) : vs.length = 1 := by
  obtain ⟨z, rfl, _⟩ := h
  rfl
theorem pure_table_of (vs : List V) (H : Hp) (Q : VK) (E : XK) (h : sp_table_of K c vs H Q E) : t_table_of K c E { nx := fun _ H' => Q .non H', rt := Q } (start' 2 vs) H := by
  obtain ⟨z, rfl, hl, q⟩ := h
  rw [List.map_map] at q
  exact s_retU (eu_tupS (el_mapS (V.int ∘ figC) (ev_var rfl) (by omega) (fun _ => rfl) fun n H1 e1 _ => ev_call (ea_cons (ev_var rfl) ea_nil) spv_figure_of)) q
theorem spu_table_of {H : Hp} {z : Str} (hl : z.length ≤ 30000) : SpU (sp_table_of K c) [.str z] H (((tl z).map figC).map V.int) := fun H1 e Q q E => ⟨z, rfl, hl, q⟩
def sp_word_of (K : PySem.W.Frag) (c : Cl) : Sp := fun vs H Q _ => ∃ (t : Addr) (tab : List Int), vs = [.ref t] ∧ IT K H t tab ∧ Figs tab ∧ tab.length ≤ 1000 ∧ RetV (.str (word tab)) H Q
def t_word_of (K : PySem.W.Frag) (c : Cl) (E : XK) : TS :=
(tRet (tM1 (oJoin K) (tC (.str "")) (tLc (iTup K (tVar 0)) (gName 1) tYes (tOp rIxS (tC (.str "0123456789")) (tVar 1)) [1])))
theorem len_word_of (vs : List V) (H : Hp) (Q : VK) (E : XK) (h : sp_word_of K c vs H Q E) : vs.length = 1 := by
  obtain ⟨t, tab, rfl, _⟩ := h
  rfl
theorem fig_at {i : Int} (h0 : 0 ≤ i) (h1 : i ≤ 9) : atI (Str.ofString "0123456789").cps.toList i = some (48 + i).toNat := by
  rw [show (Str.ofString "0123456789").cps.toList = _ from figs_list]
  exact ten (P := fun i => atI [48, 49, 50, 51, 52, 53, 54, 55, 56, 57] i = some (48 + i).toNat) (by decide +kernel) h0 h1
theorem sum_ones {l : List Int} : ((l.map dig).map (·.length)).sum = l.length := by
  induction l with
  | nil => rfl
  | cons a r ih =>
    rw [List.map_cons, List.map_cons, List.sum_cons, ih, len_dig, List.length_cons]
    omega
theorem pure_word_of (vs : List V) (H : Hp) (Q : VK) (E : XK) (h : sp_word_of K c vs H Q E) : t_word_of K c E { nx := fun _ H' => Q .non H', rt := Q } (start' 2 vs) H := by
  obtain ⟨t, tab, rfl, ht, hf, hl, q⟩ := h
  refine s_ret (ev_is (v := .str (PySem.Txt.join "" (tab.map dig))) (ev_join ev_c ?_ ?_) (by rw [join_word])) q
  · have z := el_mapT (K := K) (te := tOp rIxS (tC (.str "0123456789")) (tVar 1)) (tl := tVar 0) (σ := start' 2 [.ref t]) (j := 1) (vs := [1]) (fun x => V.str (dig (intOf x))) (ev_var rfl) ht (by rw [List.length_map]; omega) (fun _ => rfl) fun x H1 e1 hx => by
      obtain ⟨i, hi, rfl⟩ := List.mem_map.mp hx
      exact ev_op ev_c (ev_var rfl) (rv_ixS (by decide +kernel) (fig_at (hf i hi).1 (hf i hi).2))
    rw [List.map_map] at z
    rw [List.map_map]
    exact z
  · rw [sum_ones, List.length_map]
    show _ + tab.length * 0 ≤ _
    omega
theorem spv_word_of {H : Hp} {t : Addr} {tab : List Int} (ht : IT K H t tab) (hf : Figs tab) (hl : tab.length ≤ 1000) : SpV (sp_word_of K c) [.ref t] H (.str (word tab)) := fun H1 e Q q E => ⟨t, tab, rfl, ex_t e ht, hf, hl, q⟩
def sp_shown (K : PySem.W.Frag) (c : Cl) : Sp := fun vs H Q _ => ∃ (r t : Addr) (s w : Int) (tab : List Int), vs = [.ref r] ∧ RuleAt K H r t s w tab ∧ Good s w tab ∧ RetV (.str (ruleText s w tab)) H Q
def t_shown (K : PySem.W.Frag) (c : Cl) (E : XK) : TS :=
(tSeq (tDrop (tCall (sp_need_rule K c) [] E0 (tCons (tVar 0) tNil)))
    (tSeq (tAsg (tVar 0) (gTup K 3 (gCons (gName 1) (gCons (gName 2) (gCons (gName 3) gNil)))))
    (tRet (tJo [(tFmt (tVar 1)), (tC (.str " ")), (tFmt (tVar 2)), (tC (.str " ")), (tFmt (tCall (sp_word_of K c) [] E0 (tCons (tVar 3) tNil)))]))))
theorem len_shown (vs : List V) (H : Hp) (Q : VK) (E : XK) (h : sp_shown K c vs H Q E) : vs.length = 1 := by
  obtain ⟨r, t, s, w, tab, rfl, _⟩ := h
  rfl
theorem log_small {i : Int} (h0 : 0 ≤ i) (h1 : i ≤ 9) : i.natAbs.log2 < 1920 := ten (P := fun i => i.natAbs.log2 < 1920) (by decide +kernel) h0 h1
theorem pure_shown (vs : List V) (H : Hp) (Q : VK) (E : XK) (h : sp_shown K c vs H Q E) : t_shown K c E { nx := fun _ H' => Q .non H', rt := Q } (start' 4 vs) H := by
  obtain ⟨r, t, s, w, tab, rfl, R, G, q⟩ := h
  have g := G.s2
  have g4 := G.s4
  have g1 := G.w1
  have g3 := G.w4
  have g16 := G.l16
  refine q_drop (ev_call (ea_cons (ev_var rfl) ea_nil) (spv_need_rule R G)) fun H1 e1 => ?_
  refine q_unpack3 (ev_var rfl) (R.ex e1).top fun H2 e2 => ?_
  have E2 := e1.trans e2
  refine s_ret (ev_is (ev_jo (ys := [dig s, (" " : Str), dig w, (" " : Str), word tab]) ⟨?_, ev_c, ?_, ev_c, ?_, trivial⟩ ?_) (by rw [rule_all])) fun H3 e3 => q H3 (E2.trans e3)
  · exact ev_is (ev_fmtI (ev_var rfl) (log_small (by omega) (by omega))) (by rw [text_dig (by omega) (by omega)])
  · exact ev_is (ev_fmtI (ev_var rfl) (log_small (by omega) (by omega))) (by rw [text_dig (by omega) (by omega)])
  · exact ev_fmtS (ev_call (ea_cons (ev_var rfl) ea_nil) (spv_word_of (ex_t E2 R.tab) (Good.figs G) (by omega))) (by rw [len_word]; omega)
  · show (dig s).length + ((Str.ofString " ").length + ((dig w).length + ((Str.ofString " ").length + ((word tab).length + 0)))) ≤ 100000
    rw [len_word, show (Str.ofString " ").length = 1 by decide +kernel, len_dig, len_dig]
    omega
theorem spv_shown {H : Hp} {r t : Addr} {s w : Int} {tab : List Int} (R : RuleAt K H r t s w tab) (G : Good s w tab) : SpV (sp_shown K c) [.ref r] H (.str (ruleText s w tab)) := fun H1 e Q q E => ⟨r, t, s, w, tab, rfl, R.ex e, G, q⟩
/-- a thing, by what reading tells: nothing, or a rule -/
def ParP (K : PySem.W.Frag) (o : Option (Int × Int × List Int)) : VP := fun v H => (o = none ∧ v = .non) ∨ ∃ (s w : Int) (tab : List Int) (r t : Addr), o = some (s, w, tab) ∧ v = .ref r ∧ RuleAt K H r t s w tab ∧ Good s w tab
theorem stab_par {o : Option (Int × Int × List Int)} : Stab (ParP K o) := fun v H H' e h => h.imp id fun ⟨s, w, tab, r, t, ho, hv, R, G⟩ => ⟨s, w, tab, r, t, ho, hv, R.ex e, G⟩
theorem evp_tup3 {σ : L2.St} {H : Hp} {t1 t2 t3 : TE} {x y : V} {zs : List V} (h1 : Ev t1 σ H x) (h2 : Ev t2 σ H y) (h3 : EvU t3 σ H zs) :
    EvP (tTup (tCons t1 (tCons t2 (tCons t3 tNil)))) σ H (fun v H' => ∃ r u : Addr, v = .ref r ∧ SqT K H' r [x, y, .ref u] ∧ SqT K H' u zs) := fun H1 e Q q =>
  h1 H1 e _ fun H2 e2 => h2 H2 (e.trans e2) _ fun H3 e3 => h3 H3 ((e.trans e2).trans e3) _ fun u H4 hu e4 h4 => ⟨sz_of (lt_size 3), fun p hp => q _ _ (((e2.trans e3).trans e4).trans (Ex.new hp)) ⟨p, u, rfl, st_of upd_same, ex_t (Ex.new hp) (st_of h4)⟩⟩
theorem three_of {ws : List Str} (h : ws.length = 3) : ∃ a b t, ws = [a, b, t] := by
  match ws, h with
  | [a, b, t], _ => exact ⟨a, b, t, rfl⟩
theorem parseW_len {ws : List Str} (h : ws.length ≠ 3) : parseW ws = none := by
  match ws, h with
  | [], _ => rfl
  | [_], _ => rfl
  | [_, _], _ => rfl
  | [_, _, _], h => exact absurd rfl h
  | _ :: _ :: _ :: _ :: _, _ => rfl
/-! ### read -/
def sp_read (K : PySem.W.Frag) (c : Cl) : Sp := fun vs H Q E => ∃ x : V, vs = [x] ∧ ((∃ T, TyB K H x T ∧ T ≠ "str" ∧ RaiseX c.BadText H E) ∨ ∃ z : Str, x = .str z ∧ z.length ≤ 20000 ∧ (parse z = none → RaiseX c.BadText H E) ∧
  ∀ (s w : Int) (tab : List Int) (r t : Addr) (H2 : Hp), parse z = some (s, w, tab) → Ex H H2 → RuleAt K H2 r t s w tab → Good s w tab → Q (.ref r) H2)
def t_read (K : PySem.W.Frag) (c : Cl) (E : XK) : TS :=
(tSeq (tIfS (tTest (tOp rNT (tCB (rTyp K) (tCons (tVar 0) tNil)) (tC (.ty "str")))) (tRaise c.BadText E) tNext)
    (tSeq (tAsg (tM1 oSplit (tVar 0) (tC (.str " "))) (gName 1))
    (tSeq (tIfS (tOr (tTest (tOp rNe (tCB (Evl.rLenS K) (tCons (tVar 1) tNil)) (tC (.int 3)))) (tOr (tTest (tOp rNe (tCB oLenS (tCons (tOp (rIxL K) (tVar 1) (tC (.int 0))) tNil)) (tC (.int 1)))) (tTest (tOp rNe (tCB oLenS (tCons (tOp (rIxL K) (tVar 1) (tC (.int 1))) tNil)) (tC (.int 1)))))) (tRaise c.BadText E) tNext)
    (tSeq (tAsg (tTup (tCons (tCall (sp_figure_of K c) [] E0 (tCons (tOp (rIxL K) (tVar 1) (tC (.int 0))) tNil)) (tCons (tCall (sp_figure_of K c) [] E0 (tCons (tOp (rIxL K) (tVar 1) (tC (.int 1))) tNil)) (tCons (tCall (sp_table_of K c) [] E0 (tCons (tOp (rIxL K) (tVar 1) (tC (.int 2))) tNil)) tNil)))) (gName 2))
    (tSeq (tIfS (tNot (tB (tCall (sp_is_rule K c) [] E0 (tCons (tVar 2) tNil)))) (tRaise c.BadText E) tNext)
    (tRet (tVar 2)))))))
theorem len_read (vs : List V) (H : Hp) (Q : VK) (E : XK) (h : sp_read K c vs H Q E) : vs.length = 1 := by
  obtain ⟨x, rfl, _⟩ := h
  rfl
theorem one_of {a : Str} (h : a.length = 1) : ∃ n : Nat, a = ⟨#[n]⟩ := by
  have e : (tl a).length = 1 := by rw [← len_tl]; exact h
  match hl : tl a, e with
  | [n], _ => exact ⟨n, ext_tl hl⟩
theorem pure_read (vs : List V) (H : Hp) (Q : VK) (E : XK) (h : sp_read K c vs H Q E) : t_read K c E { nx := fun _ H' => Q .non H', rt := Q } (start' 3 vs) H := by
  obtain ⟨x, rfl, h⟩ := h
  rcases h with ⟨T, ty, hn, ra⟩ | ⟨z, rfl, hz, ra, q⟩
  · exact q_when (b := true) (et_test (ev_is (ev_op (ev_type (ev_var rfl) ty) ev_c rv_notTy) (by rw [decide_eq_false hn]; rfl))) (fun _ H1 e1 => ra H1 e1) fun z => nomatch z
  refine q_unless (et_test (ev_is (ev_op (ev_type (ev_var rfl) (.str z)) ev_c rv_notTy) (by simp))) fun H1 e1 => ?_
  refine q_asgL (el_split (ev_var rfl) ev_c (by decide +kernel) (by omega)) fun p H2 hp e2 h2 => ?_
  have E2 := e1.trans e2
  have hlen : ∀ a ∈ PySem.Txt.split z " ", a.length ≤ z.length := fun a ha => (split_mem ha).1
  unfold parse at ra q
  generalize PySem.Txt.split z " " = ws at ra q h2 hlen
  have item : ∀ {σ' : L2.St} {H' : Hp} {i : Nat} (a : Str), Ex H2 H' → σ'[1]? = some (some (.ref p)) → ws[i]? = some a → Ev (tOp (rIxL K) (tVar 1) (tC (.int (i : Int)))) σ' H' (.str a) := fun a e h1 ha =>
    ev_op (ev_var h1) ev_c (rv_ixL (sq_of (e _ _ h2)) (atI_nat (by rw [List.getElem?_map, ha]; rfl)))
  by_cases h3 : ws.length = 3
  · obtain ⟨a, b, t, rfl⟩ := three_of h3
    have la := hlen a (by simp)
    have lb := hlen b (by simp)
    have lt := hlen t (by simp)
    refine q_when (et_or (a := false) (b := !decide (a.length = 1) || !decide (b.length = 1)) ?_ fun _ => et_or (a := !decide (a.length = 1)) (b := !decide (b.length = 1)) ?_ fun _ => ?_) (fun hb H3 e3 => ?_) fun hb H3 e3 => ?_
    · exact et_test (ev_is (ev_op (ev_lenS (ev_var rfl) (Or.inl (sq_of h2))) ev_c rv_neI) (by simp))
    · exact et_test (ev_is (ev_op (ev_lenStr (item (i := 0) a (Ex.refl _) rfl rfl) (by omega)) ev_c rv_neI) (by rw [show decide ((a.length : Int) = 1) = decide (a.length = 1) from decide_eq_decide.mpr (by omega)]))
    · exact et_test (ev_is (ev_op (ev_lenStr (item (i := 1) b (Ex.refl _) rfl rfl) (by omega)) ev_c rv_neI) (by rw [show decide ((b.length : Int) = 1) = decide (b.length = 1) from decide_eq_decide.mpr (by omega)]))
    · refine ra ?_ H3 (E2.trans e3)
      cases hp3 : parse3 a b t with
      | none => exact hp3
      | some o =>
        obtain ⟨s, w, tab⟩ := o
        obtain ⟨_, rfl, rfl, _⟩ := parse3_some hp3
        cases hb
    have hab : a.length = 1 ∧ b.length = 1 := by
      simp only [Bool.false_or, Bool.or_eq_false_iff, Bool.not_eq_false', decide_eq_true_iff] at hb
      exact hb
    obtain ⟨m, rfl⟩ := one_of hab.1
    obtain ⟨n, rfl⟩ := one_of hab.2
    have E3 := E2.trans e3
    refine q_asgP (evp_tup3 (K := K) (x := .int (figC m)) (y := .int (figC n)) (zs := ((tl t).map figC).map V.int) (ev_call (ea_cons (item (i := 0) _ e3 rfl rfl) ea_nil) spv_figure_of) (ev_call (ea_cons (item (i := 1) _ e3 rfl rfl) ea_nil) spv_figure_of) (eu_call (ea_cons (item (i := 2) t e3 rfl rfl) ea_nil) (spu_table_of (by omega)))) fun v H4 e4 hv => ?_
    obtain ⟨r, u, rfl, hr, hu⟩ := hv
    have RT : RThing K H4 (.ref r) (ruleB (.int (figC m)) (.int (figC n)) (some (((tl t).map figC).map V.int))) := .tri hr (.int _) (.int _) (.tup hu (ints_ty _) (by rw [List.length_map, List.length_map, ← len_tl]; omega))
    refine q_when (et_not (et_B (ev_call (ea_cons (ev_var rfl) ea_nil) (spv_is_ruleB RT)))) (fun hb H5 e5 => ra ?_ H5 ((E3.trans e4).trans e5)) fun hb H5 e5 => ?_
    · show (if ruleB _ _ _ = true then _ else none) = none
      rw [if_neg]
      intro z
      rw [z] at hb
      cases hb
    · have hB : ruleB (.int (figC m)) (.int (figC n)) (some (((tl t).map figC).map V.int)) = true := by
        cases h : ruleB (.int (figC m)) (.int (figC n)) (some (((tl t).map figC).map V.int)) with
        | true => rfl
        | false => rw [h] at hb; cases hb
      refine s_ret (ev_var rfl) fun H6 e6 => q (figC m) (figC n) ((tl t).map figC) r u H6 ?_ (((E3.trans e4).trans e5).trans e6) ⟨ex_t (e5.trans e6) hr, ex_t (e5.trans e6) hu⟩ (good_of hB)
      show (if ruleB _ _ _ = true then _ else none) = _
      rw [if_pos hB]
  · refine q_when (b := true) (et_or (a := true) (b := true) (et_test (ev_is (ev_op (ev_lenS (ev_var rfl) (Or.inl (sq_of h2))) ev_c rv_neI) ?_)) fun z => nomatch z) (fun _ H3 e3 => ra (parseW_len h3) H3 (E2.trans e3)) fun z => nomatch z
    rw [List.length_map, decide_eq_false (by omega)]
    rfl
end
end Br4

namespace Br4
open PySem PySem.Spec PyProof.Rows L2 Evl Br TL
/-- of at most n signs, each below 256 -/
def TxtOk (n : Nat) (z : Str) : Prop := z.length ≤ n ∧ ∀ c ∈ tl z, c < 256
theorem ok_app {m n : Nat} {a b : Str} (ha : TxtOk m a) (hb : TxtOk n b) : TxtOk (m + n) (a ++ b) := ⟨by rw [len_app]; have := ha.1; have := hb.1; omega, fun c hc => by
  rw [tl_append] at hc
  rcases List.mem_append.mp hc with h | h
  · exact ha.2 c h
  · exact hb.2 c h⟩
theorem ok_cut {n : Nat} {a : Str} (ha : TxtOk n a) (lo hi : Option Int) : TxtOk n (cutS a lo hi) := ⟨Nat.le_trans (cutS_length a lo hi) ha.1, fun c hc => ha.2 c (List.mem_of_mem_drop (List.mem_of_mem_take hc))⟩
theorem TxtOk.mono {m n : Nat} {a : Str} (h : TxtOk m a) (hn : m ≤ n) : TxtOk n a := ⟨Nat.le_trans h.1 hn, h.2⟩
section
variable {K : PySem.W.Frag} {c : Cl}
/-- a text of at most n signs -/
def OkP (n : Nat) : VP := fun v _ => ∃ z : Str, v = .str z ∧ TxtOk n z
theorem stab_ok {n : Nat} : Stab (OkP n) := fun _ _ _ _ h => h
def sp_l_sign (K : PySem.W.Frag) (c : Cl) : Sp := fun vs H Q _ => ∃ cell : Int, vs = [.int cell] ∧ ∀ z H2, TxtOk 1 z → Ex H H2 → Q (.str z) H2
def t_l_sign (K : PySem.W.Frag) (c : Cl) (E : XK) : TS :=
(tSeq (tAsg (tC (.str " !\"#$&'()*+,-./0123456789:;<=>?@ABCDEFGHIJKLMNOPQRSTUVWXYZ[\\]^_`")) (gName 1))
    (tSeq (tAsg (tOp oAddS (tVar 1) (tC (.str "abcdefghijklmnopqrstuvwxyz{|}~\n\t"))) (gName 1))
    (tRet (tOp (rIxL K) (tLst (tCons (tOp rIxS (tVar 1) (tOp oMod (tOp oDiv (tVar 0) (tC (.int 3))) (tCB oLenS (tCons (tVar 1) tNil)))) (tCons (tOp rIxS (tC (.str "01234")) (tOp oMod (tOp oDiv (tVar 0) (tC (.int 3))) (tC (.int 5)))) (tCons (tOp rIxS (tC (.str " 0123")) (tOp oMod (tOp oDiv (tVar 0) (tC (.int 3))) (tC (.int 5)))) tNil)))) (tOp oMod (tVar 0) (tC (.int 3)))))))
theorem len_l_sign (vs : List V) (H : Hp) (Q : VK) (E : XK) (h : sp_l_sign K c vs H Q E) : vs.length = 1 := by
  obtain ⟨cell, rfl, _⟩ := h
  rfl
def some1 : Str := " !\"#$&'()*+,-./0123456789:;<=>?@ABCDEFGHIJKLMNOPQRSTUVWXYZ[\\]^_`"
def some2 : Str := "abcdefghijklmnopqrstuvwxyz{|}~\n\t"
theorem some_len : (some1 ++ some2).length = 96 := by decide +kernel
theorem some_len2 : some1.length + some2.length ≤ 100000 := by decide +kernel
theorem some_ok : ∀ c ∈ tl (some1 ++ some2), c < 256 := by decide +kernel
theorem pick_sign {z : Str} {i : Int} (h0 : 0 ≤ i) (h1 : i < z.length) (hc : ∀ c ∈ tl z, c < 256) : ∃ n : Nat, atI z.cps.toList i = some n ∧ n < 256 := by
  have hl : i.toNat < (tl z).length := by rw [← len_tl]; omega
  refine ⟨(tl z)[i.toNat], ?_, hc _ (List.getElem_mem hl)⟩
  have := atI_nat (xs := tl z) (j := i.toNat) (List.getElem?_eq_getElem hl)
  rw [show ((i.toNat : Nat) : Int) = i by omega] at this
  exact this
theorem ok_one {n : Nat} (h : n < 256) : TxtOk 1 ⟨#[n]⟩ := ⟨Nat.le_refl _, fun c hc => by
  rw [show tl (⟨#[n]⟩ : Str) = [n] from rfl, List.mem_singleton] at hc
  omega⟩
theorem pure_l_sign (vs : List V) (H : Hp) (Q : VK) (E : XK) (h : sp_l_sign K c vs H Q E) : t_l_sign K c E { nx := fun _ H' => Q .non H', rt := Q } (start' 2 vs) H := by
  obtain ⟨cell, rfl, q⟩ := h
  refine q_asg (v := .str some1) ev_c fun H1 e1 => ?_
  refine q_asg (v := .str (some1 ++ some2)) (ev_op (ev_var rfl) ev_c (rv_addS some_len2)) fun H2 e2 => ?_
  have m1 := mod_in (x := cell / 3) (s := 96) (by omega)
  have m2 := mod_in (x := cell / 3) (s := 5) (by omega)
  have m3 := mod_in (x := cell) (s := 3) (by omega)
  obtain ⟨n1, a1, b1⟩ := pick_sign (z := some1 ++ some2) m1.1 (by rw [some_len]; omega) some_ok
  obtain ⟨n2, a2, b2⟩ := pick_sign (z := "01234") m2.1 (by rw [show (Str.ofString "01234").length = 5 by decide +kernel]; omega) (by decide +kernel)
  obtain ⟨n3, a3, b3⟩ := pick_sign (z := " 0123") m2.1 (by rw [show (Str.ofString " 0123").length = 5 by decide +kernel]; omega) (by decide +kernel)
  refine s_retP (P := OkP 1) (evp_pick (Ps := List.replicate 3 (OkP 1)) (i := cell % 3) (evp_lst ?_ (stabs_rep stab_ok) (by rw [List.length_replicate]; omega)) (stabs_rep stab_ok) (ev_op (ev_var rfl) ev_c (rv_mod (by omega))) m3.1 (rep_get m3.1 m3.2)) fun v H3 e3 ⟨z, hv, hz⟩ => by
    rw [hv]
    exact q z H3 hz ((e1.trans e2).trans e3)
  have d3 : ∀ {σ' : L2.St} {H' : Hp}, σ'[0]? = some (some (.int cell)) → Ev (tOp oDiv (tVar 0) (tC (.int 3))) σ' H' (.int (cell / 3)) := fun h => ev_op (ev_var h) ev_c (rv_div (by omega) (by omega))
  refine eap_cons ((EvP.of (ev_op (ev_var rfl) (ev_op (d3 rfl) (ev_is (v := .int ((some1 ++ some2).length : Nat)) (ev_lenStr (ev_var rfl) (by rw [some_len]; omega)) (by rw [some_len]; rfl)) (rv_mod (by omega))) (rv_ixS (by rw [some_len]; omega) a1))).imp fun u H' _ h => ⟨_, h, ok_one b1⟩) stab_ok ?_
  refine eap_cons ((EvP.of (ev_op ev_c (ev_op (d3 rfl) ev_c (rv_mod (by omega))) (rv_ixS (by decide +kernel) a2))).imp fun u H' _ h => ⟨_, h, ok_one b2⟩) stab_ok ?_
  exact eap_cons ((EvP.of (ev_op ev_c (ev_op (d3 rfl) ev_c (rv_mod (by omega))) (rv_ixS (by decide +kernel) a3))).imp fun u H' _ h => ⟨_, h, ok_one b3⟩) stab_ok eap_nil
def sp_l_bent (K : PySem.W.Frag) (c : Cl) : Sp := fun vs H Q _ => ∃ (z : Str) (cell : Int), vs = [.str z, .int cell] ∧ TxtOk 1000 z ∧ ∀ z2 H2, TxtOk 3000 z2 → Ex H H2 → Q (.str z2) H2
def t_l_bent (K : PySem.W.Frag) (c : Cl) (E : XK) : TS :=
(tSeq (tAsg (tOp oMod (tOp oDiv (tVar 1) (tC (.int 4))) (tOp oAdd (tCB oLenS (tCons (tVar 0) tNil)) (tC (.int 1)))) (gName 2))
    (tSeq (tAsg (tCall (sp_l_sign K c) [] E0 (tCons (tOp oDiv (tOp oDiv (tVar 1) (tC (.int 4))) (tOp oAdd (tCB oLenS (tCons (tVar 0) tNil)) (tC (.int 1)))) tNil)) (gName 3))
    (tSeq (tIfS (tTest (tOp rEq (tOp oMod (tVar 1) (tC (.int 4))) (tC (.int 0)))) (tRet (tOp oAddS (tOp oAddS (tSl rSlS (tVar 0) tNoPart (tPart (tVar 2))) (tVar 3)) (tSl rSlS (tVar 0) (tPart (tVar 2)) tNoPart))) tNext)
    (tSeq (tIfS (tTest (tOp rEq (tOp oMod (tVar 1) (tC (.int 4))) (tC (.int 1)))) (tRet (tOp oAddS (tSl rSlS (tVar 0) tNoPart (tPart (tVar 2))) (tSl rSlS (tVar 0) (tPart (tOp oAdd (tVar 2) (tC (.int 1)))) tNoPart))) tNext)
    (tSeq (tIfS (tTest (tOp rEq (tOp oMod (tVar 1) (tC (.int 4))) (tC (.int 2)))) (tRet (tOp oAddS (tOp oAddS (tSl rSlS (tVar 0) tNoPart (tPart (tVar 2))) (tVar 3)) (tSl rSlS (tVar 0) (tPart (tOp oAdd (tVar 2) (tC (.int 1)))) tNoPart))) tNext)
    (tRet (tOp (rIxL K) (tLst (tCons (tC (.str "")) (tCons (tC (.str " ")) (tCons (tC (.str "2 1")) (tCons (tC (.str "2 1 ")) (tCons (tC (.str "2 1 0")) (tCons (tC (.str "02 1 01")) (tCons (tC (.str "2 01 01")) (tCons (tC (.str "2  1 01")) (tCons (tC (.str "2 1 01 ")) (tCons (tC (.str "2 1 0 1")) tNil))))))))))) (tOp oMod (tOp oDiv (tVar 1) (tC (.int 4))) (tC (.int 10))))))))))
theorem len_l_bent (vs : List V) (H : Hp) (Q : VK) (E : XK) (h : sp_l_bent K c vs H Q E) : vs.length = 2 := by
  obtain ⟨z, cell, rfl, _⟩ := h
  rfl
theorem q_asgTxt {σ : L2.St} {H : Hp} {D : Ends} {tz : TS} {E : XK} {ta : TA} {x : Int} {i : Nat} (ha : EvA ta σ H [.int x]) (k : ∀ z H1, TxtOk 1 z → Ex H H1 → tz D (σ.set i (some (.str z))) H1) : tSeq (tAsg (tCall (sp_l_sign K c) [] E ta) (gName i)) tz D σ H :=
  ha H (Ex.refl H) _ fun H1 e1 => ⟨x, rfl, fun z H2 hz e2 => k z H2 hz (e1.trans e2)⟩
theorem pure_l_bent (vs : List V) (H : Hp) (Q : VK) (E : XK) (h : sp_l_bent K c vs H Q E) : t_l_bent K c E { nx := fun _ H' => Q .non H', rt := Q } (start' 4 vs) H := by
  obtain ⟨z, cell, rfl, hz, q⟩ := h
  have hl := hz.1
  have m10 := mod_in (x := cell / 4) (s := 10) (by omega)
  have ln : ∀ {σ' : L2.St} {H' : Hp}, σ'[0]? = some (some (.str z)) → Ev (tOp oAdd (tCB oLenS (tCons (tVar 0) tNil)) (tC (.int 1))) σ' H' (.int ((z.length : Int) + 1)) := fun h => ev_op (ev_lenStr (ev_var h) (by omega)) ev_c rv_I0
  have d4 : ∀ {σ' : L2.St} {H' : Hp}, σ'[1]? = some (some (.int cell)) → Ev (tOp oDiv (tVar 1) (tC (.int 4))) σ' H' (.int (cell / 4)) := fun h => ev_op (ev_var h) ev_c (rv_div (by omega) (by omega))
  refine q_asg (v := .int (cell / 4 % ((z.length : Int) + 1))) (ev_op (d4 rfl) (ln rfl) (rv_mod (by omega))) fun H1 e1 => ?_
  refine q_asgTxt (x := cell / 4 / ((z.length : Int) + 1)) (ea_cons (ev_op (d4 rfl) (ln rfl) (rv_div (by omega) (by omega))) ea_nil) fun y H2 hy e2 => ?_
  have E2 := e1.trans e2
  generalize cell / 4 % ((z.length : Int) + 1) = at_
  have cutA : ∀ {σ' : L2.St} {H' : Hp}, σ'[0]? = some (some (.str z)) → σ'[2]? = some (some (.int at_)) → Ev (tSl rSlS (tVar 0) tNoPart (tPart (tVar 2))) σ' H' (.str (cutS z none (some at_))) := fun h0 h2 => ev_slS (ev_var h0) eo_none (eo_some (ev_var h2)) (by omega)
  have cutB : ∀ {σ' : L2.St} {H' : Hp}, σ'[0]? = some (some (.str z)) → σ'[2]? = some (some (.int at_)) → Ev (tSl rSlS (tVar 0) (tPart (tOp oAdd (tVar 2) (tC (.int 1)))) tNoPart) σ' H' (.str (cutS z (some (at_ + 1)) none)) := fun h0 h2 => ev_slS (ev_var h0) (eo_some (ev_op (ev_var h2) ev_c rv_I0)) eo_none (by omega)
  have cutC : ∀ {σ' : L2.St} {H' : Hp}, σ'[0]? = some (some (.str z)) → σ'[2]? = some (some (.int at_)) → Ev (tSl rSlS (tVar 0) (tPart (tVar 2)) tNoPart) σ' H' (.str (cutS z (some at_) none)) := fun h0 h2 => ev_slS (ev_var h0) (eo_some (ev_var h2)) eo_none (by omega)
  have okA := ok_cut hz none (some at_)
  have okB := ok_cut hz (some (at_ + 1)) none
  have okC := ok_cut hz (some at_) none
  have m4 : ∀ {σ' : L2.St} {H' : Hp}, σ'[1]? = some (some (.int cell)) → Ev (tOp oMod (tVar 1) (tC (.int 4))) σ' H' (.int (cell % 4)) := fun h => ev_op (ev_var h) ev_c (rv_mod (by omega))
  have ok1 := ok_app okA hy
  refine q_when (et_test (ev_op (m4 rfl) ev_c rv_eqI)) (fun _ H3 e3 => ?_) fun _ H3 e3 => ?_
  · refine s_ret (ev_op (ev_op (cutA rfl rfl) (ev_var rfl) (rv_addS ?_)) (cutC rfl rfl) (rv_addS ?_)) fun H4 e4 => q _ H4 ((ok_app ok1 okC).mono (by omega)) ((E2.trans e3).trans e4)
    · have := okA.1
      have := hy.1
      omega
    · have := ok1.1
      have := okC.1
      omega
  refine q_when (et_test (ev_op (m4 rfl) ev_c rv_eqI)) (fun _ H4 e4 => ?_) fun _ H4 e4 => ?_
  · refine s_ret (ev_op (cutA rfl rfl) (cutB rfl rfl) (rv_addS ?_)) fun H5 e5 => q _ H5 ((ok_app okA okB).mono (by omega)) (((E2.trans e3).trans e4).trans e5)
    have := okA.1
    have := okB.1
    omega
  refine q_when (et_test (ev_op (m4 rfl) ev_c rv_eqI)) (fun _ H5 e5 => ?_) fun _ H5 e5 => ?_
  · refine s_ret (ev_op (ev_op (cutA rfl rfl) (ev_var rfl) (rv_addS ?_)) (cutB rfl rfl) (rv_addS ?_)) fun H6 e6 => q _ H6 ((ok_app ok1 okB).mono (by omega)) ((((E2.trans e3).trans e4).trans e5).trans e6)
    · have := okA.1
      have := hy.1
      omega
    · have := ok1.1
      have := okB.1
      omega
  refine s_retP (P := OkP 20) (evp_pick (Ps := List.replicate 10 (OkP 20)) (i := cell / 4 % 10) (evp_lst ?_ (stabs_rep stab_ok) (by rw [List.length_replicate]; omega)) (stabs_rep stab_ok) (ev_op (d4 rfl) ev_c (rv_mod (by omega))) m10.1 (rep_get m10.1 m10.2)) fun v H6 e6 ⟨y2, hv, hy2⟩ => by
    rw [hv]
    exact q y2 H6 (hy2.mono (by omega)) ((((E2.trans e3).trans e4).trans e5).trans e6)
  have cc : ∀ {σ' : L2.St} {H' : Hp} (y : Str), y.length ≤ 20 ∧ (∀ c ∈ tl y, c < 256) → EvP (tC (.str y)) σ' H' (OkP 20) := fun y hy => (EvP.of ev_c).imp fun u H' _ h => ⟨y, h, hy⟩
  exact eap_cons (cc _ (by decide +kernel)) stab_ok (eap_cons (cc _ (by decide +kernel)) stab_ok (eap_cons (cc _ (by decide +kernel)) stab_ok (eap_cons (cc _ (by decide +kernel)) stab_ok (eap_cons (cc _ (by decide +kernel)) stab_ok
    (eap_cons (cc _ (by decide +kernel)) stab_ok (eap_cons (cc _ (by decide +kernel)) stab_ok (eap_cons (cc _ (by decide +kernel)) stab_ok (eap_cons (cc _ (by decide +kernel)) stab_ok (eap_cons (cc _ (by decide +kernel)) stab_ok eap_nil)))))))))
end
end Br4

namespace Br4
open PySem PySem.Spec PyProof.Rows L2 Evl Br TL
section
variable {K : PySem.W.Frag} {c : Cl}
theorem ev_notInT {σ : L2.St} {H : Hp} {te tu : TE} {a : Str} {xs : List V} (ha : Ev te σ H (.str a)) (hu : EvU tu σ H xs) (hf : xs.all flatV = true) : Ev (tOp (rIn K true) te tu) σ H (.bl (!inV (.str a) xs)) := fun H1 e Q q =>
  ha H1 e _ fun H2 e2 => hu H2 (e.trans e2) _ fun p H3 hp e3 h3 => ⟨p, xs, rfl, Or.inr (st_of h3), rfl, hf, q H3 (e2.trans e3)⟩
theorem dig_inj {i j : Int} (h : dig i = dig j) (hi : 0 ≤ i) (hj : 0 ≤ j) : i = j := by
  have z := congrArg tl h
  rw [tl_dig, tl_dig] at z
  injection z with z
  omega
def badOf (s : Int) (t : Str) : List Str := ((tl t).filter fun n => !decide (n ∈ (cutS "0123" none (some s)).cps.toList)).map one
theorem map_getD (l : List Nat) : (List.range l.length).map (fun i => l.getD i 0) = l := by
  apply List.ext_getElem?
  intro i
  rw [List.getElem?_map]
  by_cases h : i < l.length
  · rw [List.getElem?_range h, List.getElem?_eq_getElem h]
    simp [List.getD, List.getElem?_eq_getElem h]
  · rw [List.getElem?_eq_none (by simpa using h), List.getElem?_eq_none (by omega)]
    rfl
theorem bad_given (s : Int) (t : Str) : given t.length (fun i => !decide ((tl t).getD i 0 ∈ (cutS "0123" none (some s)).cps.toList)) (fun i => V.str (one ((tl t).getD i 0))) = (badOf s t).map V.str := by
  unfold given badOf
  have e := map_getD (tl t)
  have z := List.filter_map (p := fun n => !decide (n ∈ (cutS "0123" none (some s)).cps.toList)) (f := fun i => (tl t).getD i 0) (l := List.range (tl t).length)
  rw [e] at z
  rw [z, List.map_map, List.map_map, len_tl]
  rfl
theorem bad_none {s : Int} (h2 : 2 ≤ s) (h4 : s ≤ 4) {t : Str} : (badOf s t).isEmpty = true ↔ ∀ n ∈ tl t, 0 ≤ figC n ∧ figC n < s := by
  unfold badOf
  rw [List.isEmpty_iff, List.map_eq_nil_iff, List.filter_eq_nil_iff]
  constructor
  · intro h n hn
    have z := h n hn
    rw [Bool.not_eq_true', decide_eq_false_iff_not, Classical.not_not] at z
    exact (cut_mem h2 h4 n).mp z
  · intro h n hn
    rw [Bool.not_eq_true', decide_eq_false_iff_not, Classical.not_not]
    exact (cut_mem h2 h4 n).mpr (h n hn)
theorem lit3 : [V.str "2", V.str "3", V.str "4"] = ([2, 3, 4] : List Int).map fun i => V.str (dig i) := by
  rw [show ("2" : Str) = dig 2 by decide +kernel, show ("3" : Str) = dig 3 by decide +kernel, show ("4" : Str) = dig 4 by decide +kernel]
  rfl
theorem lit4 : [V.str "1", V.str "2", V.str "3", V.str "4"] = ([1, 2, 3, 4] : List Int).map fun i => V.str (dig i) := by
  rw [show ("1" : Str) = dig 1 by decide +kernel, show ("2" : Str) = dig 2 by decide +kernel, show ("3" : Str) = dig 3 by decide +kernel, show ("4" : Str) = dig 4 by decide +kernel]
  rfl
theorem flat_digs (l : List Int) : (l.map fun i => V.str (dig i)).all flatV = true := by
  rw [List.all_map, List.all_eq_true]
  intro i _
  rfl
theorem rows_pow {s : Int} {n : Nat} (h2 : 2 ≤ s) (h4 : s ≤ 4) (hn : n ≤ 4) : 0 ≤ s ^ n ∧ s ^ n ≤ 256 := by
  have h : s = 2 ∨ s = 3 ∨ s = 4 := by omega
  have k : n = 0 ∨ n = 1 ∨ n = 2 ∨ n = 3 ∨ n = 4 := by omega
  rcases h with rfl | rfl | rfl <;> rcases k with rfl | rfl | rfl | rfl | rfl <;> decide
def sp_l_due (K : PySem.W.Frag) (c : Cl) : Sp := fun vs H Q _ => ∃ z : Str, vs = [.str z] ∧ TxtOk 20000 z ∧ ∀ v H2, Ex H H2 → ParP K (parse z) v H2 → Q v H2
def t_l_due (K : PySem.W.Frag) (c : Cl) (E : XK) : TS :=
(tSeq (tAsg (tM1 oSplit (tVar 0) (tC (.str " "))) (gName 1))
    (tSeq (tIfS (tOr (tTest (tOp rNe (tCB (Evl.rLenS K) (tCons (tVar 1) tNil)) (tC (.int 3)))) (tOr (tTest (tOp (rIn K true) (tOp (rIxL K) (tVar 1) (tC (.int 0))) (tTup (tCons (tC (.str "2")) (tCons (tC (.str "3")) (tCons (tC (.str "4")) tNil)))))) (tTest (tOp (rIn K true) (tOp (rIxL K) (tVar 1) (tC (.int 1))) (tTup (tCons (tC (.str "1")) (tCons (tC (.str "2")) (tCons (tC (.str "3")) (tCons (tC (.str "4")) tNil))))))))) (tRet (tC .non)) tNext)
    (tSeq (tAsg (tCB oIntS (tCons (tOp (rIxL K) (tVar 1) (tC (.int 0))) tNil)) (gName 2))
    (tSeq (tAsg (tC (.int 1)) (gName 3))
    (tSeq (tFor (iRng1 (tCons (tCB oIntS (tCons (tOp (rIxL K) (tVar 1) (tC (.int 1))) tNil)) tNil)) (gName 4) (tAsg (tOp oMul (tVar 3) (tVar 2)) (gName 3)))
    (tSeq (tIfS (tOr (tTest (tOp oGt (tVar 3) (tC (.int 16)))) (tOr (tTest (tOp rNe (tCB oLenS (tCons (tOp (rIxL K) (tVar 1) (tC (.int 2))) tNil)) (tVar 3))) (tTest (tOp (rNeD K) (tLc (iStr (tOp (rIxL K) (tVar 1) (tC (.int 2)))) (gName 5) (tTest (tOp oNotIn1 (tVar 5) (tSl rSlS (tC (.str "0123")) tNoPart (tPart (tVar 2))))) (tVar 5) [5]) (tLst tNil))))) (tRet (tC .non)) tNext)
    (tRet (tTup (tCons (tVar 2) (tCons (tCB oIntS (tCons (tOp (rIxL K) (tVar 1) (tC (.int 1))) tNil)) (tCons (tCB (oTupS K) (tCons (tLc (iStr (tOp (rIxL K) (tVar 1) (tC (.int 2)))) (gName 5) tYes (tCB oIntS (tCons (tVar 5) tNil)) [5]) tNil)) tNil)))))))))))
theorem len_l_due (vs : List V) (H : Hp) (Q : VK) (E : XK) (h : sp_l_due K c vs H Q E) : vs.length = 1 := by
  obtain ⟨z, rfl, _⟩ := h
  rfl
theorem pure_l_due (vs : List V) (H : Hp) (Q : VK) (E : XK) (h : sp_l_due K c vs H Q E) : t_l_due K c E { nx := fun _ H' => Q .non H', rt := Q } (start' 6 vs) H := by
  obtain ⟨z, rfl, hz, q⟩ := h
  have hz1 := hz.1
  refine q_asgL (el_split (ev_var rfl) ev_c (by decide +kernel) (by omega)) fun p H1 hp e1 h1 => ?_
  have hmem : ∀ a ∈ PySem.Txt.split z " ", a.length ≤ z.length ∧ ∀ n ∈ tl a, n < 256 := fun a ha => ⟨(split_mem ha).1, fun n hn => hz.2 n ((split_mem ha).2 n hn)⟩
  unfold parse at q
  generalize PySem.Txt.split z " " = ws at q h1 hmem
  have item : ∀ {σ' : L2.St} {H' : Hp} {i : Nat} (a : Str), Ex H1 H' → σ'[1]? = some (some (.ref p)) → ws[i]? = some a → Ev (tOp (rIxL K) (tVar 1) (tC (.int (i : Int)))) σ' H' (.str a) := fun a e h2 ha =>
    ev_op (ev_var h2) ev_c (rv_ixL (sq_of (e _ _ h1)) (atI_nat (by rw [List.getElem?_map, ha]; rfl)))
  have no : ∀ H', Ex H H' → parseW ws = none → Q .non H' := fun H' e h => q _ H' e (Or.inl ⟨h, rfl⟩)
  by_cases h3 : ws.length = 3
  · obtain ⟨a, b, t, rfl⟩ := three_of h3
    have la := hmem a (by simp)
    have lb := hmem b (by simp)
    have lt := hmem t (by simp)
    have lt1 := lt.1
    refine q_when (et_or (a := false) (b := !inV (.str a) (([2, 3, 4] : List Int).map fun i => V.str (dig i)) || !inV (.str b) (([1, 2, 3, 4] : List Int).map fun i => V.str (dig i))) ?_ fun _ => et_or (a := !inV (.str a) (([2, 3, 4] : List Int).map fun i => V.str (dig i))) (b := !inV (.str b) (([1, 2, 3, 4] : List Int).map fun i => V.str (dig i))) ?_ fun _ => ?_) (fun hb H2 e2 => ?_) fun hb H2 e2 => ?_
    · exact et_test (ev_is (ev_op (ev_lenS (ev_var rfl) (Or.inl (sq_of h1))) ev_c rv_neI) (by simp))
    · refine et_test (ev_notInT (item (i := 0) a (Ex.refl _) rfl rfl) ?_ (flat_digs _))
      rw [← lit3]
      exact eu_tup (ea_cons ev_c (ea_cons ev_c (ea_cons ev_c ea_nil))) (lt_size 3)
    · refine et_test (ev_notInT (item (i := 1) b (Ex.refl _) rfl rfl) ?_ (flat_digs _))
      rw [← lit4]
      exact eu_tup (ea_cons ev_c (ea_cons ev_c (ea_cons ev_c (ea_cons ev_c ea_nil)))) (lt_size 4)
    · refine s_ret ev_c fun H3 e3 => no H3 ((e1.trans e2).trans e3) ?_
      cases hp3 : parse3 a b t with
      | none => exact hp3
      | some o =>
        obtain ⟨s, w, tab⟩ := o
        obtain ⟨G, rfl, rfl, _⟩ := parse3_some hp3
        have g := G.s2
        have g4 := G.s4
        have g1 := G.w1
        have g3 := G.w4
        rw [in_dig.mpr ⟨s, by simp; omega, rfl⟩, in_dig.mpr ⟨w, by simp; omega, rfl⟩] at hb
        cases hb
    have hab : inV (.str a) (([2, 3, 4] : List Int).map fun i => V.str (dig i)) = true ∧ inV (.str b) (([1, 2, 3, 4] : List Int).map fun i => V.str (dig i)) = true := by
      simp only [Bool.false_or, Bool.or_eq_false_iff, Bool.not_eq_false'] at hb
      exact hb
    obtain ⟨s, hs, rfl⟩ := in_dig.mp hab.1
    obtain ⟨w, hw, rfl⟩ := in_dig.mp hab.2
    have s24 : 2 ≤ s ∧ s ≤ 4 := by simp at hs; omega
    have w14 : 1 ≤ w ∧ w ≤ 4 := by simp at hw; omega
    obtain ⟨s2, s4⟩ := s24
    obtain ⟨w1, w4⟩ := w14
    clear hab hs hw hb
    refine q_asg (v := .int s) (ev_intS (item (i := 0) _ e2 rfl rfl) (int_dig (by omega) (by omega)) (by rw [len_dig]; omega)) fun H3 e3 => ?_
    refine q_asg (v := .int 1) ev_c fun H4 e4 => ?_
    have E4 := (e2.trans e3).trans e4
    refine q_forR1 (n := w) (ea_cons (ev_intS (item (i := 1) _ E4 rfl rfl) (int_dig (by omega) (by omega)) (by rw [len_dig]; omega)) ea_nil) (by omega) (fun i σ' H' => ∃ y, σ' = [some (.str z), some (.ref p), some (.int s), some (.int (s ^ i)), y, none] ∧ Ex H4 H') (fun H5 e5 => ⟨none, by simp [start'], e5⟩) ?_ ?_
    · rintro i σ' H' hi ⟨y, rfl, e⟩
      refine s_asg (v := .int (s ^ (i + 1))) ?_ fun H5 e5 => ⟨some (.int i), rfl, e.trans e5⟩
      refine ev_is (v := .int (s ^ i * s)) ?_ (by rw [Int.pow_succ])
      (repeat' first
          | exact ev_c
          | exact ev_var rfl
          | exact ea_nil
          | exact eo_none
          | apply ea_cons
          | apply ev_op
          | apply ev_un
          | apply eo_some
          | exact rv_I0
          | exact ru_neg
          | exact et_yes
          | apply et_test
          | apply et_B
          | apply et_not
          | apply rv_mod
          | apply rv_div
          | apply rv_mul
          | apply rv_eqI
          | apply rv_neI
          | exact rv_isTy
          | exact rv_notTy
          | (apply ev_lenS; rotate_left)
          | exact rv_ixT (by assumption) rfl)
      exact Or.inr ⟨by omega, by omega⟩
    rintro σ' H5 ⟨y, rfl, e5⟩
    have E5 := E4.trans e5
    have rp := rows_pow (n := w.toNat) s2 s4 (by omega)
    have hbad : EvL (tLc (iStr (tOp (rIxL K) (tVar 1) (tC (.int 2)))) (gName 5) (tTest (tOp oNotIn1 (tVar 5) (tSl rSlS (tC (.str "0123")) tNoPart (tPart (tVar 2))))) (tVar 5) [5]) [some (.str z), some (.ref p), some (.int s), some (.int (s ^ w.toNat)), y, none] H5 ((badOf s t).map V.str) := by
      rw [← bad_given]
      refine el_lcS _ _ (item (i := 2) t E5 rfl rfl) (by omega) (fun _ => rfl) (fun i n H6 e6 hi => ?_) fun i n H6 e6 hi _ => ?_
      · have e : (tl t).getD i 0 = n := by simp [List.getD, hi]
        rw [e]
        exact et_test (ev_op (ev_var rfl) (ev_slS ev_c eo_none (eo_some (ev_var rfl)) (by decide +kernel)) rv_notIn1)
      · have e : (tl t).getD i 0 = n := by simp [List.getD, hi]
        rw [e]
        exact ev_var rfl
    refine q_when (et_or (a := decide (16 < s ^ w.toNat)) (b := !decide ((t.length : Int) = s ^ w.toNat) || !(badOf s t).isEmpty) ?_ fun _ => et_or (a := !decide ((t.length : Int) = s ^ w.toNat)) (b := !(badOf s t).isEmpty) ?_ fun _ => ?_) (fun hb H6 e6 => ?_) fun hb H6 e6 => ?_
    · exact et_test (ev_op (ev_var rfl) ev_c rv_I0)
    · exact et_test (ev_op (ev_lenStr (item (i := 2) t E5 rfl rfl) (by omega)) (ev_var rfl) rv_neI)
    · refine et_test (ev_neStrs hbad fun y hy n hn => ?_)
      obtain ⟨m, hm, rfl⟩ := List.mem_map.mp hy
      rw [show tl (one m) = [m] from rfl, List.mem_singleton] at hn
      rw [hn]
      exact lt.2 m (List.mem_filter.mp hm).1
    · refine s_ret ev_c fun H7 e7 => no H7 (((e1.trans E5).trans e6).trans e7) ?_
      cases hp3 : parse3 (dig s) (dig w) t with
      | none => exact hp3
      | some o =>
        obtain ⟨s', w', tab⟩ := o
        obtain ⟨G, h4, h5, rfl⟩ := parse3_some hp3
        have g := G.s2
        have g1 := G.w1
        obtain rfl := dig_inj h4 (by omega) (by omega)
        obtain rfl := dig_inj h5 (by omega) (by omega)
        have gl := G.len
        have g16 := G.l16
        have z1 : decide (16 < s ^ w.toNat) = false := decide_eq_false (by omega)
        have z2 : decide (((word tab).length : Int) = s ^ w.toNat) = true := decide_eq_true (by rw [len_word]; exact gl)
        have z3 : (badOf s (word tab)).isEmpty = true := (bad_none s2 s4).mpr fun n hn => by
          rw [tl_word] at hn
          obtain ⟨i, hi, rfl⟩ := List.mem_map.mp hn
          have := Good.figs G i hi
          rw [figC_dig this.1 this.2]
          exact G.rng i hi
        rw [z1, z2, z3] at hb
        cases hb
    have hc : ¬ 16 < s ^ w.toNat ∧ (t.length : Int) = s ^ w.toNat ∧ (badOf s t).isEmpty = true := by
      simp only [Bool.or_eq_false_iff, Bool.not_eq_false', decide_eq_true_iff, decide_eq_false_iff_not] at hb
      exact hb
    obtain ⟨c1, c2, c3⟩ := hc
    have c4 := (bad_none s2 s4).mp c3
    have hlen : ((tl t).map figC).length = t.length := by rw [List.length_map, ← len_tl]
    have G : Good s w ((tl t).map figC) := ⟨s2, s4, w1, w4, by rw [hlen]; exact c2, by rw [hlen]; omega, fun x hx => by
      obtain ⟨n, hn, rfl⟩ := List.mem_map.mp hx
      exact c4 n hn⟩
    have ht : t = word ((tl t).map figC) := ext_tl (by rw [tl_word]; exact figs_codes s4 G.rng)
    refine s_retP (evp_tup3 (K := K) (x := .int s) (y := .int w) (zs := ((tl t).map figC).map V.int) (ev_var rfl) (ev_intS (item (i := 1) _ (E5.trans e6) rfl rfl) (int_dig (by omega) (by omega)) (by rw [len_dig]; omega)) (eu_tupS ?_)) fun v H7 e7 ⟨r, u, hv, hr, hu⟩ => ?_
    · rw [List.map_map]
      refine el_mapS (V.int ∘ figC) (item (i := 2) t (E5.trans e6) rfl rfl) (by omega) (fun _ => rfl) fun n H7 e7 hn => ?_
      have hn2 := c4 n hn
      obtain ⟨e9, _⟩ := figC_in hn2.1
      refine ev_intS (ev_var rfl) ?_ (Nat.le_trans (Nat.le_refl 1) (by omega))
      show PySem.intText? ⟨#[n]⟩ = some (figC n)
      rw [show (⟨#[n]⟩ : Str) = dig (figC n) by unfold dig; rw [← e9]]
      exact int_dig (by omega) (by omega)
    · refine q v H7 (((e1.trans E5).trans e6).trans e7) (Or.inr ⟨s, w, (tl t).map figC, r, u, ?_, hv, ⟨hr, hu⟩, G⟩)
      show parse3 (dig s) (dig w) t = _
      have z9 := parse3_good G
      rw [← ht] at z9
      exact z9
  · refine q_when (b := true) (et_or (a := true) (b := true) (et_test (ev_is (ev_op (ev_lenS (ev_var rfl) (Or.inl (sq_of h1))) ev_c rv_neI) ?_)) fun z => nomatch z) (fun _ H3 e3 => s_ret ev_c fun H4 e4 => no H4 ((e1.trans e3).trans e4) (parseW_len h3)) fun z => nomatch z
    rw [List.length_map, decide_eq_false (by omega)]
    rfl
end
end Br4

namespace Br4
open PySem PySem.Spec PyProof.Rows L2 Evl Br TL
section
variable {K : PySem.W.Frag} {σ : L2.St} {H H' : Hp} {te ti ta tb tl : TE} {x y z v : V} {D : Ends} {tz : TS} {P : VP}
/-- over a new tuple -/
theorem el_lcNT {xs : List V} {tt : TT} {j : Nat} {vs : List Nat} (f : Nat → Bool) (v : Nat → V) (h : EvU tl σ H xs) (hz : xs.length ≤ 40000) (hw : ∀ x, wipe ((wipe σ vs).set j (some x)) vs = wipe σ vs)
    (ht : ∀ (i : Nat) (x : V) H1, Ex H H1 → xs[i]? = some x → EvT tt ((wipe σ vs).set j (some x)) H1 (f i)) (he : ∀ (i : Nat) (x : V) H1, Ex H H1 → xs[i]? = some x → f i = true → Ev te ((wipe σ vs).set j (some x)) H1 (v i)) :
    EvL (tLc (iTup K tl) (gName j) tt te vs) σ H (given xs.length f v) := fun H0 e Q q => h H0 e _ fun a H1 ha e1 hx => ⟨a, rfl, ⟨xs, st_of hx⟩, fun Dl hD =>
  lc_tup (xs := xs) (Cw H1 f v Dl) ⟨hD, Ex.new hD, upd_same⟩ (fun i H' _ p => st_of (p.2.1 a _ hx)) (fun i x H' hi p => ⟨hw x, cw_turn p (by have := (List.getElem?_eq_some_iff.mp hi).1; omega) (ht i x H1 (e.trans e1) hi) (fun hf => he i x H1 (e.trans e1) hi hf)⟩)
    (fun H' p => q Dl H' (fresh_back e1 p.1) (e1.trans p.2.1) p.2.2)⟩
/-- t[:j] of a longer tuple -/
theorem eu_slT {a : Addr} {xs : List V} {th : TO} {j : Nat} (h : Ev te σ H (.ref a)) (h2 : EvO th σ H (some (j : Int))) (hs : SqT K H a xs) (hj : j < xs.length) : EvU (tSl (rSlT K) te tNoPart th) σ H (xs.take j) := fun H1 e Q q =>
  h H1 e _ fun H2 e2 => h2 H2 (e.trans e2) _ fun H4 e4 => ⟨a, xs, rfl, ex_t ((e.trans e2).trans e4) hs, fun z => by
    have z2 := z.2
    rw [HT.sIx_nat] at z2
    omega, fun p hp => q p _ (fresh_back (e2.trans e4) hp) ((e2.trans e4).trans (Ex.new hp)) (by rw [upd_same, cut_take])⟩
theorem eu_catT {xs ys : List V} {b : Addr} (ha : EvU ta σ H xs) (hb : ∀ H1, Ex H H1 → Ev tb σ H1 (.ref b)) (hy : SqT K H b ys) (hx : xs ≠ []) (hn : ys ≠ []) (hl : xs.length + ys.length ≤ 100000) : EvU (tOp (rCatT K) ta tb) σ H (xs ++ ys) := fun H1 e Q q =>
  ha H1 e _ fun p H2 hp e2 h2 => hb H2 (e.trans e2) H2 (Ex.refl H2) _ fun H3 e3 => ⟨p, b, xs, ys, rfl, rfl, st_of (e3 _ _ h2), ex_t ((e.trans e2).trans e3) hy, hx, sz_of hl, fun z => absurd z hn, fun _ t ht =>
    q t _ (fresh_back (e2.trans e3) ht) ((e2.trans e3).trans (Ex.new ht)) upd_same⟩
theorem ev_noneNT {xs : List V} {j : Nat} {vs : List Nat} {tt : TT} (h : EvU tl σ H xs) (hz : xs.length ≤ 40000) (hw : ∀ x, wipe ((wipe σ vs).set j (some x)) vs = wipe σ vs)
    (ht : ∀ (i : Nat) (x : V) H1, Ex H H1 → xs[i]? = some x → EvT tt ((wipe σ vs).set j (some x)) H1 false) : EvL (tLc (iTup K tl) (gName j) tt te vs) σ H [] := by
  have z := el_lcNT (K := K) (H := H) (σ := σ) (te := te) (tt := tt) (fun _ => false) (fun _ => .non) h hz hw ht (fun _ _ _ _ _ h => nomatch h)
  rw [given_none] at z
  exact z
theorem rv_isN : RV oIsN x .non H (.bl (decide (x = .non))) := fun H1 _ Q q => ⟨rfl, q H1 (Ex.refl H1)⟩
theorem rv_notN : RV oNotN x .non H (.bl (!decide (x = .non))) := fun H1 _ Q q => ⟨rfl, q H1 (Ex.refl H1)⟩
end
section
variable {K : PySem.W.Frag} {c : Cl}
def ruleD (s w : Int) (tab : List Int) : PyData := .tuple [.int s, .int w, .tuple (tab.map PyData.int)]
theorem canLay_ruleD (s w : Int) (tab : List Int) : PyData.canLay0 (ruleD s w tab) = true := by
  show (PyData.canLay0 (.int s) && (PyData.canLay0 (.int w) && (PyData.canLayAll0 (tab.map PyData.int) && true))) = true
  rw [canLay_ints]
  rfl
theorem dp_rule {H : Hp} {r t : Addr} {s w : Int} {tab : List Int} (R : RuleAt K H r t s w tab) : Dp K H (.ref r) (ruleD s w tab) := .tup R.top (.cons (.int s) (.cons (.int w) (.cons (.tup R.tab (dpAll_ints tab)) .nil)))
theorem shaped_ruleD (s w : Int) (tab : List Int) : SeqAt.shaped (ruleD s w tab) = true := by
  unfold SeqAt.shaped
  rw [canLay_ruleD]
  have : PyData.depth (ruleD s w tab) = 2 := by
    show max (PyData.depth (.int s)) (max (PyData.depth (.int w)) (max (PyData.depthAll (tab.map PyData.int) + 1) 0)) + 1 = 2
    rw [depth_ints]
    rfl
  rw [this]
  rfl
theorem ev_rule0 {σ : L2.St} {H : Hp} {r t : Addr} {s w : Int} {tab : List Int} {i : Nat} (R : RuleAt K H r t s w tab) (hi : σ[i]? = some (some (.ref r))) : Ev (tOp (rIxT K) (tVar i) (tC (.int 0))) σ H (.int s) := ev_op (ev_var hi) ev_c (rv_ixT R.top (atI_nat (j := 0) rfl))
theorem ev_rule1 {σ : L2.St} {H : Hp} {r t : Addr} {s w : Int} {tab : List Int} {i : Nat} (R : RuleAt K H r t s w tab) (hi : σ[i]? = some (some (.ref r))) : Ev (tOp (rIxT K) (tVar i) (tC (.int 1))) σ H (.int w) := ev_op (ev_var hi) ev_c (rv_ixT R.top (atI_nat (j := 1) rfl))
theorem ev_rule2 {σ : L2.St} {H : Hp} {r t : Addr} {s w : Int} {tab : List Int} {i : Nat} (R : RuleAt K H r t s w tab) (hi : σ[i]? = some (some (.ref r))) : Ev (tOp (rIxT K) (tVar i) (tC (.int 2))) σ H (.ref t) := ev_op (ev_var hi) ev_c (rv_ixT R.top (atI_nat (j := 2) rfl))
/-- what the written part says of BadText -/
structure KF4 (K : PySem.W.Frag) (c : Cl) : Prop where
  text : KErr K c c.BadText
  n1 : PySem.W.kitOne K (.ref c.BadText) (.ref c.BadRule) = some false
  n2 : PySem.W.kitOne K (.ref c.BadText) (.ref c.BadRow) = some false
  n3 : PySem.W.kitOne K (.ref c.BadText) (.ref c.TooWide) = some false
  n4 : PySem.W.kitOne K (.ref c.BadText) (.ref c.NoBack) = some false
/-! ### read, asked by the law -/
def NoStr (K : PySem.W.Frag) : VP := fun v H => ∃ T, TyB K H v T ∧ T ≠ "str"
theorem stab_noStr : Stab (NoStr K) := fun v H H' e ⟨T, t, h⟩ => ⟨T, TyB.ex e t, h⟩
def sp_l_read (K : PySem.W.Frag) (c : Cl) : Sp := fun vs H Q _ => ∃ x : V, vs = [x] ∧ ((NoStr K x H ∧ RetV .non H Q) ∨ ∃ z : Str, x = .str z ∧ z.length ≤ 20000 ∧ ∀ v H2, Ex H H2 → ParP K (parse z) v H2 → Q v H2)
def t_l_read (K : PySem.W.Frag) (c : Cl) (E : XK) : TS :=
(tTryAs K c.RowError 1 (fun W => (tRet (tCallS (sp_read K c) (WE W) (tCons (tVar 0) tNil)))) (fun a cls dd => tWhen (cls = .ref c.BadText ∧ dd = none) (tSeq (tAsg (tOrV (tCB (rIsE K c.BadText a) (tCons (tVar 1) (tCons (tC (.ref c.BadRule)) tNil))) (tOrV (tCB (rIsE K c.BadText a) (tCons (tVar 1) (tCons (tC (.ref c.BadRow)) tNil))) (tCB (rIsE K c.BadText a) (tCons (tVar 1) (tCons (tC (.ref c.TooWide)) tNil))))) (gName 2))
    (tSeq (tAsg (tOrV (tVar 2) (tCB (rIsE K c.BadText a) (tCons (tVar 1) (tCons (tC (.ref c.NoBack)) tNil)))) (gName 2))
    (tRet (tIf (tAnd (tB (tCB (rIsE K c.BadText a) (tCons (tVar 1) (tCons (tC (.ref c.BadText)) tNil)))) (tAnd (tB (tCB (rIsE K c.BadText a) (tCons (tVar 1) (tCons (tC (.ty "ValueError")) tNil)))) (tNot (tB (tVar 2))))) (tC .non) (tLst (tCons (tC (.int 0)) tNil))))))))
theorem len_l_read (vs : List V) (H : Hp) (Q : VK) (E : XK) (h : sp_l_read K c vs H Q E) : vs.length = 1 := by
  obtain ⟨x, rfl, _⟩ := h
  rfl
theorem pure_l_read (C : KF4 K c) (vs : List V) (H : Hp) (Q : VK) (E : XK) (h : sp_l_read K c vs H Q E) : t_l_read K c E { nx := fun _ H' => Q .non H', rt := Q } (start' 3 vs) H := by
  obtain ⟨x, rfl, h⟩ := h
  unfold t_l_read
  show tTryAs K c.RowError 1 _ _ _ _ H
  unfold tTryAs
  generalize hW : wAs K (.ref c.RowError) 1 _ _ _ = W
  have k : RetV .non H Q → ∀ H', Ex H H' → W (.ref c.BadText) none (start' 3 [x]) H' := fun q H' e => by
    rw [← hW]
    refine ⟨true, C.text.exm, fun _ a ha => ⟨⟨rfl, rfl⟩, ?_⟩, fun z => nomatch z⟩
    refine q_asg (ev_orV (ev_isE rfl (fun u h => h) C.n1) fun _ => ev_orV (ev_isE rfl (fun u h => h) C.n2) fun _ => ev_isE rfl (fun u h => h) C.n3) fun H1 e1 => ?_
    refine q_asg (ev_orV (ev_var rfl) fun _ => ev_isE rfl (fun u h => h) C.n4) fun H2 e2 => ?_
    exact s_ret (ev_if (b := true) (et_and (a := true) (b := true) (et_B (ev_isE rfl (fun u h => h) kit_self)) fun _ => et_and (a := true) (b := true) (et_B (ev_isE rfl (fun u h => h) C.text.val)) fun _ => et_is (et_not (et_B (ev_var rfl))) rfl) (fun _ => ev_c) fun z => nomatch z) fun H3 e3 => q H3 (((e.trans e1).trans e2).trans e3)
  rcases h with ⟨⟨T, ty, hn⟩, q⟩ | ⟨z, rfl, hz, q⟩
  · exact ⟨x, rfl, x, rfl, Or.inl ⟨T, ty, hn, fun H' e => k q H' e⟩⟩
  · exact ⟨.str z, rfl, .str z, rfl, Or.inr ⟨z, rfl, hz, fun hp H' e => k (fun H2 e2 => q .non H2 e2 (Or.inl ⟨hp, rfl⟩)) H' e, fun s w tab r t H2 hp e R G => q (.ref r) H2 e (Or.inr ⟨s, w, tab, r, t, hp, rfl, R, G⟩)⟩⟩
theorem evp_read {σ : L2.St} {H : Hp} {te : TE} {z : Str} (h : Ev te σ H (.str z)) (hz : z.length ≤ 20000) : EvP (tCall (sp_l_read K c) [] E0 (tCons te tNil)) σ H (ParP K (parse z)) := fun H1 e Q q =>
  h H1 e _ fun H2 e2 => ⟨_, rfl, Or.inr ⟨z, rfl, hz, fun v H3 e3 p => q v H3 (e2.trans e3) p⟩⟩
theorem ev_readOdd {σ : L2.St} {H : Hp} {te : TE} {x : V} (h : Ev te σ H x) (hx : NoStr K x H) : Ev (tCall (sp_l_read K c) [] E0 (tCons te tNil)) σ H .non := fun H1 e Q q =>
  h H1 e _ fun H2 e2 => ⟨_, rfl, Or.inl ⟨stab_noStr _ _ _ (e.trans e2) hx, fun H3 e3 => q H3 (e2.trans e3)⟩⟩
theorem evp_due {σ : L2.St} {H : Hp} {te : TE} {z : Str} (h : Ev te σ H (.str z)) (hz : TxtOk 20000 z) : EvP (tCall (sp_l_due K c) [] E0 (tCons te tNil)) σ H (ParP K (parse z)) := fun H1 e Q q =>
  h H1 e _ fun H2 e2 => ⟨z, rfl, hz, fun v H3 e3 p => q v H3 (e2.trans e3) p⟩
/-! ### alike -/
def sp_l_alike (K : PySem.W.Frag) (c : Cl) : Sp := fun vs H Q _ => ∃ (o : Option (Int × Int × List Int)) (f d : V), vs = [f, d] ∧ ParP K o f H ∧ ParP K o d H ∧ RetV (.bl true) H Q
def t_l_alike (K : PySem.W.Frag) (c : Cl) (E : XK) : TS :=
(tSeq (tIfS (tOr (tTest (tOp oIsN (tVar 1) (tC .non))) (tTest (tOp oIsN (tVar 0) (tC .non)))) (tRet (tAndV (tOp oIsN (tVar 0) (tC .non)) (tOp oIsN (tVar 1) (tC .non)))) tNext)
    (tSeq (tIfS (tOr (tNot (tB (tCB (rIsi K) (tCons (tVar 0) (tCons (tC (.ty "tuple")) tNil))))) (tOr (tTest (tOp (rNeD K) (tVar 0) (tVar 1))) (tNot (tB (tCB (rIsi K) (tCons (tOp (rIxT K) (tVar 0) (tC (.int 2))) (tCons (tC (.ty "tuple")) tNil))))))) (tRet (tC (.bl false))) tNext)
    (tRet (tOp (rEqD K) (tLc (iTup K (tOp (rCatT K) (tSl (rSlT K) (tVar 0) tNoPart (tPart (tC (.int 2)))) (tOp (rIxT K) (tVar 0) (tC (.int 2))))) (gName 2) (tB (tCB (rIsi K) (tCons (tVar 2) (tCons (tC (.ty "bool")) tNil)))) (tVar 2) [2]) (tLst tNil)))))
theorem len_l_alike (vs : List V) (H : Hp) (Q : VK) (E : XK) (h : sp_l_alike K c vs H Q E) : vs.length = 2 := by
  obtain ⟨o, f, d, rfl, _⟩ := h
  rfl
theorem pure_l_alike (vs : List V) (H : Hp) (Q : VK) (E : XK) (h : sp_l_alike K c vs H Q E) : t_l_alike K c E { nx := fun _ H' => Q .non H', rt := Q } (start' 3 vs) H := by
  obtain ⟨o, f, d, rfl, hf, hd, q⟩ := h
  rcases hf with ⟨rfl, rfl⟩ | ⟨s, w, tab, r, t, rfl, rfl, R, G⟩
  · rcases hd with ⟨_, rfl⟩ | ⟨_, _, _, _, _, e, _⟩
    · refine q_when (b := true) (et_or (a := true) (b := true) (et_test (ev_op (ev_var rfl) ev_c rv_isN)) fun z => nomatch z) (fun _ H1 e1 => ?_) fun z => nomatch z
      exact s_ret (ev_andV (a := true) (b := true) (ev_op (ev_var rfl) ev_c rv_isN) fun _ => ev_op (ev_var rfl) ev_c rv_isN) fun H2 e2 => q H2 (e1.trans e2)
    · cases e
  · rcases hd with ⟨e, _⟩ | ⟨s', w', tab', r', t', e, rfl, R', G'⟩
    · cases e
    injection e with e
    injection e with e1 e
    injection e with e2 e3
    subst e1 e2 e3
    have g2 := G.s2
    have g1 := G.w1
    have gl := G.len
    have g16 := G.l16
    have KE : PyData.eqv (ruleD s w tab) (ruleD s w tab) = true := PySem.SeqAt.eqv_refl _ (canLay_ruleD _ _ _)
    refine q_unless (et_is (et_or (a := false) (b := false) (et_test (ev_is (ev_op (ev_var rfl) ev_c rv_isN) (by simp))) fun _ => et_test (ev_is (ev_op (ev_var rfl) ev_c rv_isN) (by simp))) rfl) fun H1 e1 => ?_
    refine q_unless (et_is (et_or (a := false) (b := false) (et_is (et_not (et_B (ev_isi (b := true) (ev_var rfl) (.tup (R.ex e1).top) (by decide +kernel)))) rfl) fun _ => et_or (a := false) (b := false) (et_test (ev_is (ev_op (ev_var rfl) (ev_var rfl) (rv_neData (dp_rule (R.ex e1)) (dp_rule (R'.ex e1)) (shaped_ruleD _ _ _) (shaped_ruleD _ _ _))) (by rw [KE]; rfl))) fun _ => et_is (et_not (et_B (ev_isi (b := true) (ev_rule2 (R.ex e1) rfl) (.tup (R.ex e1).tab) (by decide +kernel)))) rfl) rfl) fun H2 e2 => ?_
    have R2 := (R.ex e1).ex e2
    have jn : tab.map V.int ≠ [] := fun z => by
      have z2 := congrArg List.length z
      rw [List.length_map] at z2
      have z3 : tab.length = 0 := z2
      have := rows_pow (n := w.toNat) G.s2 G.s4 (by have := G.w4; omega)
      have hp : 0 < s ^ w.toNat := Int.pow_pos (by omega)
      omega
    refine s_ret (ev_eqNil (ev_noneNT (eu_catT (eu_slT (j := 2) (ev_var rfl) (eo_some ev_c) R2.top (by show 2 < 3; omega)) (fun H9 e9 => ev_rule2 (R2.ex e9) rfl) R2.tab (by simp) jn (by simp; omega)) (by simp; omega) (fun _ => rfl) fun i x H9 e9 hx => ?_)) fun H3 e3 => q H3 ((e1.trans e2).trans e3)
    have hm : x ∈ ([.int s, .int w] : List V) ++ tab.map V.int := List.mem_of_getElem? hx
    have hi : ∃ n, x = .int n := by
      rcases List.mem_append.mp hm with hm | hm
      · simp only [List.mem_cons, List.mem_nil_iff, or_false] at hm
        rcases hm with rfl | rfl
        · exact ⟨_, rfl⟩
        · exact ⟨_, rfl⟩
      · obtain ⟨n, _, rfl⟩ := List.mem_map.mp hm
        exact ⟨n, rfl⟩
    obtain ⟨n, rfl⟩ := hi
    exact et_B (ev_isi (ev_var rfl) (.int n) (b := false) (by decide +kernel))
theorem ev_alike {σ : L2.St} {H : Hp} {te tu : TE} {o : Option (Int × Int × List Int)} (h1 : EvP te σ H (ParP K o)) (h2 : EvP tu σ H (ParP K o)) : Ev (tCall (sp_l_alike K c) [] E0 (tCons te (tCons tu tNil))) σ H (.bl true) := fun H1 e Q q =>
  h1 H1 e _ fun f H2 e2 p1 => h2 H2 (e.trans e2) _ fun d H3 e3 p2 => ⟨o, f, d, rfl, stab_par _ _ _ e3 p1, p2, fun H4 e4 => q H4 ((e2.trans e3).trans e4)⟩
end
end Br4

namespace Br4
open PySem PySem.Spec PyProof.Rows L2 Evl Br TL
section
variable {K : PySem.W.Frag} {c : Cl}
def sp_law (K : PySem.W.Frag) (c : Cl) : Sp := fun vs H Q _ => ∃ (a : Addr) (ns : List Int), vs = [.ref a] ∧ IL K H a ns ∧ ∀ H', Q (.bl true) H'
theorem sp_law_of {K : PySem.W.Frag} {c : Cl} {H : Hp} {a : Addr} {ns : List Int} (hl : ns.length ≤ 63) (hS : SqL K H a (ns.map V.int)) : sp_law K c [.ref a] H (fun v _ => v = .bl true) (fun _ _ _ => False) := ⟨a, ns, rfl, hS, fun _ => rfl⟩
def t_law (K : PySem.W.Frag) (c : Cl) (E : XK) : TS :=
(tSeq (tAsg (tCall (sp_l_rule K c) [] E0 (tCons (tCall (sp_l_cell_at K c) [] E0 (tCons (tVar 0) (tCons (tC (.int 0)) tNil))) (tCons (tCall (sp_l_cell_at K c) [] E0 (tCons (tVar 0) (tCons (tC (.int 1)) tNil))) tNil))) (gName 1))
    (tSeq (tAsg (tOp oAddS (tOp oAddS (tOp oAddS (tCB oStrI (tCons (tOp (rIxT K) (tVar 1) (tC (.int 0))) tNil)) (tC (.str " "))) (tCB oStrI (tCons (tOp (rIxT K) (tVar 1) (tC (.int 1))) tNil))) (tC (.str " "))) (gName 2))
    (tSeq (tFor (iTup K (tOp (rIxT K) (tVar 1) (tC (.int 2)))) (gName 3) (tAsg (tOp oAddS (tVar 2) (tCB oStrI (tCons (tVar 3) tNil))) (gName 2)))
    (tSeq (tFor (iRng1 (tCons (tC (.int 2)) tNil)) (gName 4) (tSeq (tAsg (tCall (sp_shown K c) [] E0 (tCons (tVar 1) tNil)) (gName 5))
    (tIfS (tOr (tNot (tB (tCB (rIsi K) (tCons (tVar 5) (tCons (tC (.ty "str")) tNil))))) (tOr (tTest (tOp rNe (tVar 5) (tVar 2))) (tNot (tB (tCall (sp_l_alike K c) [] E0 (tCons (tCall (sp_l_read K c) [] E0 (tCons (tVar 2) tNil)) (tCons (tVar 1) tNil))))))) (tRet (tC (.bl false))) tNext)))
    (tSeq (tAsg (tOp (rIxL K) (tLst (tCons (tC .non) (tCons (tC (.int 5)) (tCons (tC (.bl true)) (tCons (tLst (tCons (tC (.str "2 1 01")) tNil)) (tCons (tTup (tCons (tC (.str "2")) (tCons (tC (.str "1")) (tCons (tC (.str "01")) tNil)))) (tCons tDNewK (tCons (tVar 1) (tCons (tC (.int 0)) tNil))))))))) (tOp oMod (tCall (sp_l_cell_at K c) [] E0 (tCons (tVar 0) (tCons (tC (.int 3)) tNil))) (tC (.int 8)))) (gName 6))
    (tSeq (tIfS (tTest (tOp oNotN (tCall (sp_l_read K c) [] E0 (tCons (tVar 6) tNil)) (tC .non))) (tRet (tC (.bl false))) tNext)
    (tCut (tIfS (tTest (tOp oGt (tOp oMod (tCall (sp_l_cell_at K c) [] E0 (tCons (tVar 0) (tCons (tC (.int 2)) tNil))) (tC (.int 3))) (tC (.int 0)))) (tAsg (tCall (sp_l_bent K c) [] E0 (tCons (tVar 2) (tCons (tOp oDiv (tCall (sp_l_cell_at K c) [] E0 (tCons (tVar 0) (tCons (tC (.int 2)) tNil))) (tC (.int 3))) tNil))) (gName 2)) tNext)
    (tRet (tCall (sp_l_alike K c) [] E0 (tCons (tCall (sp_l_read K c) [] E0 (tCons (tVar 2) tNil)) (tCons (tCall (sp_l_due K c) [] E0 (tCons (tVar 2) tNil)) tNil)))))))))))
theorem len_law (vs : List V) (H : Hp) (Q : VK) (E : XK) (h : sp_law K c vs H Q E) : vs.length = 1 := by
  obtain ⟨a, ns, rfl, _⟩ := h
  rfl
theorem blank_len : (Str.ofString " ").length = 1 := by decide +kernel
theorem ok_rule {s w : Int} {tab : List Int} (G : Good s w tab) : TxtOk 1000 (ruleText s w tab) := by
  have g := G.s2
  have g4 := G.s4
  have g1 := G.w1
  have g3 := G.w4
  have g16 := G.l16
  refine ⟨by rw [len_rule]; omega, fun n hn => ?_⟩
  rw [tl_rule] at hn
  rcases List.mem_append.mp hn with hn | hn
  · simp only [List.mem_cons, List.mem_nil_iff, or_false] at hn
    omega
  · obtain ⟨i, hi, rfl⟩ := List.mem_map.mp hn
    have := Good.figs G i hi
    omega
theorem s_asgBent {σ : L2.St} {H : Hp} {D : Ends} {E : XK} {ta : TA} {z : Str} {x : Int} {i : Nat} (ha : EvA ta σ H [.str z, .int x]) (hz : TxtOk 1000 z) (k : ∀ z2 H1, TxtOk 3000 z2 → Ex H H1 → D.nx (σ.set i (some (.str z2))) H1) :
    tAsg (tCall (sp_l_bent K c) [] E ta) (gName i) D σ H := ha H (Ex.refl H) _ fun H1 e1 => ⟨z, x, rfl, hz, fun z2 H2 h2 e2 => k z2 H2 h2 (e1.trans e2)⟩
theorem pure_law (vs : List V) (H : Hp) (Q : VK) (E : XK) (h : sp_law K c vs H Q E) : t_law K c E { nx := fun _ H' => Q .non H', rt := Q } (start' 7 vs) H := by
  obtain ⟨a, ns, rfl, hS, q⟩ := h
  have cell : ∀ {σ' : L2.St} {H2 : Hp} {k : Int}, Ex H H2 → 0 ≤ k → σ'[0]? = some (some (.ref a)) → Ev (tCall (sp_l_cell_at K c) [] E0 (tCons (tVar 0) (tCons (tC (.int k)) tNil))) σ' H2 (.int (cellAt ns k)) := fun e k0 h0 => ev_cell h0 (ex_l e hS) k0
  refine q_asgRule (x := cellAt ns 0) (y := cellAt ns 1) (ea_cons (cell (Ex.refl H) (by omega) rfl) (ea_cons (cell (Ex.refl H) (by omega) rfl) ea_nil)) fun r u H1 s w tab e1 R G => ?_
  have g := G.s2
  have g4 := G.s4
  have g1 := G.w1
  have g3 := G.w4
  have g16 := G.l16
  have okT := ok_rule G
  have okl := okT.1
  -- its text
  refine q_asg (v := .str (ruleText s w [])) ?_ fun H2 e2 => ?_
  · refine ev_is (v := .str (dig s ++ (" " : Str) ++ dig w ++ (" " : Str))) (ev_op (ev_op (ev_op (ev_is (v := .str (Str.ofString (toString s))) (ev_strI (ev_rule0 R rfl) (log_small (by omega) (by omega))) (by rw [text_dig (by omega) (by omega)])) ev_c (rv_addS ?_)) (ev_is (v := .str (Str.ofString (toString w))) (ev_strI (ev_rule1 R rfl) (log_small (by omega) (by omega))) (by rw [text_dig (by omega) (by omega)])) (rv_addS ?_)) ev_c (rv_addS ?_)) (by rw [rule_none])
    · rw [len_dig, blank_len]
      omega
    · rw [len_app, len_dig, len_dig, blank_len]
      omega
    · rw [len_app, len_app, len_dig, len_dig, blank_len]
      omega
  have R2 := R.ex e2
  have E2 := e1.trans e2
  refine q_forT (g := gName 3) (ev_rule2 R2 rfl) R2.tab (fun i σ' H' => ∃ y, σ' = [some (.ref a), some (.ref r), some (.str (ruleText s w (tab.take i))), y, none, none, none] ∧ Ex H2 H') (fun H3 e3 => ⟨none, by simp [start'], e3⟩) (fun i σ' H' _ ⟨_, _, e⟩ => ex_t e R2.tab) ?_ ?_
  · rintro i x σ' H' hi ⟨y, rfl, e⟩
    obtain ⟨n, hn, rfl⟩ := int_at hi
    have hf := Good.figs G n (List.mem_of_getElem? hn)
    refine s_asg (v := .str (ruleText s w (tab.take (i + 1)))) ?_ fun H3 e3 => ⟨some (.int n), rfl, e.trans e3⟩
    refine ev_is (v := .str (ruleText s w (tab.take i) ++ dig n)) (ev_op (ev_var rfl) (ev_is (v := .str (Str.ofString (toString n))) (ev_strI (ev_var rfl) (log_small hf.1 hf.2)) (by rw [text_dig hf.1 hf.2])) (rv_addS ?_)) (by rw [rule_more, take_more hn])
    rw [len_rule, len_dig, List.length_take]
    omega
  rintro σ' H3 ⟨y3, rfl, e3⟩
  rw [List.length_map, List.take_length]
  have E3 := E2.trans e3
  have R3 := R2.ex e3
  -- shown and read, twice
  refine q_forR1 (n := 2) (ea_cons ev_c ea_nil) (by omega) (fun i σ' H' => ∃ y4 y5, σ' = [some (.ref a), some (.ref r), some (.str (ruleText s w tab)), y3, y4, y5, none] ∧ Ex H3 H') (fun H4 e4 => ⟨none, none, rfl, e4⟩) ?_ ?_
  · rintro i σ' H' hi ⟨y4, y5, rfl, e⟩
    refine q_asg (v := .str (ruleText s w tab)) (ev_call (ea_cons (ev_var rfl) ea_nil) (spv_shown (R3.ex e) G)) fun H4 e4 => ?_
    have R4 := (R3.ex e).ex e4
    refine s_unless (et_is (et_or (a := false) (b := false) (et_is (et_not (et_B (ev_isi (b := true) (ev_var rfl) (.str _) (by decide +kernel)))) rfl) fun _ => et_or (a := false) (b := false) (et_test (ev_is (ev_op (ev_var rfl) (ev_var rfl) (rv_ne rfl)) (by simp))) fun _ => et_is (et_not (et_B (ev_alike (o := some (s, w, tab)) ?_ ?_))) rfl) rfl) fun H5 e5 => ⟨some (.int i), some (.str (ruleText s w tab)), rfl, (e.trans e4).trans e5⟩
    · rw [← parse_rule G]
      exact evp_read (ev_var rfl) (by omega)
    · exact evp_var rfl (Or.inr ⟨s, w, tab, r, u, rfl, rfl, R4, G⟩) stab_par
  rintro σ' H4 ⟨y4, y5, rfl, e4⟩
  have E4 := E3.trans e4
  have R4 := R3.ex e4
  have m8 := mod_in (x := cellAt ns 3) (s := 8) (by omega)
  -- no text
  refine q_asgP (P := NoStr K) (evp_pick (Ps := List.replicate 8 (NoStr K)) (i := cellAt ns 3 % 8) (evp_lst ?_ (stabs_rep stab_noStr) (by rw [List.length_replicate]; omega)) (stabs_rep stab_noStr) (ev_op (cell E4 (by omega) rfl) ev_c (rv_mod (by omega))) m8.1 (rep_get m8.1 m8.2)) fun ov H5 e5 hov => ?_
  · refine eap_cons ((EvP.of (ev_c (v := .non))).imp fun x H' _ h => by rw [h]; exact ⟨_, .non, by decide⟩) stab_noStr ?_
    refine eap_cons ((EvP.of (ev_c (v := .int 5))).imp fun x H' _ h => by rw [h]; exact ⟨_, .int 5, by decide⟩) stab_noStr ?_
    refine eap_cons ((EvP.of (ev_c (v := .bl true))).imp fun x H' _ h => by rw [h]; exact ⟨_, .bl true, by decide⟩) stab_noStr ?_
    refine eap_cons ((EvP.lst (K := K) (el_lst (ea_cons ev_c ea_nil) (lt_size 1))).imp fun x H' _ ⟨p, h, hp⟩ => by rw [h]; exact ⟨_, .lst hp, by decide⟩) stab_noStr ?_
    refine eap_cons ((EvP.tup (K := K) (eu_tup (ea_cons ev_c (ea_cons ev_c (ea_cons ev_c ea_nil))) (lt_size 3))).imp fun x H' _ ⟨p, h, hp⟩ => by rw [h]; exact ⟨_, .tup hp, by decide⟩) stab_noStr ?_
    refine eap_cons (fun H1 e Q q p hp => q _ _ (Ex.new hp) ⟨"dict", .dK upd_same, by decide⟩) stab_noStr ?_
    refine eap_cons ((EvP.of (ev_var rfl)).imp fun x H' e h => by rw [h]; exact ⟨_, .tup (R4.ex e).top, by decide⟩) stab_noStr ?_
    exact eap_cons ((EvP.of (ev_c (v := .int 0))).imp fun x H' _ h => by rw [h]; exact ⟨_, .int 0, by decide⟩) stab_noStr eap_nil
  have E5 := E4.trans e5
  refine q_unless (et_test (ev_is (ev_op (ev_readOdd (ev_var rfl) hov) ev_c rv_notN) (by simp))) fun H6 e6 => ?_
  have E6 := E5.trans e6
  -- a text, bent or not
  refine q_cut (M := fun σ' H' => ∃ z, σ' = [some (.ref a), some (.ref r), some (.str z), y3, y4, y5, some ov] ∧ TxtOk 3000 z) ?_ ?_
  · refine s_when (et_test (ev_op (ev_op (cell E6 (by omega) rfl) ev_c (rv_mod (by omega))) ev_c rv_I0)) (fun _ H7 e7 => ?_) fun _ H7 e7 => ⟨_, rfl, okT.mono (by omega)⟩
    exact s_asgBent (z := ruleText s w tab) (x := cellAt ns 2 / 3) (ea_cons (ev_var rfl) (ea_cons (ev_op (cell (E6.trans e7) (by omega) rfl) ev_c (rv_div (by omega) (by omega))) ea_nil)) okT fun z2 H9 h2 _ => ⟨z2, rfl, h2⟩
  rintro _ H7 ⟨z, rfl, hz⟩
  have hz1 := hz.1
  exact s_ret (ev_alike (o := parse z) (evp_read (ev_var rfl) (by omega)) (evp_due (ev_var rfl) (hz.mono (by omega)))) fun H8 _ => q H8
end
end Br4

namespace Br4
open PySem PySem.Spec PyProof.Rows L2 Evl Br TL
def top (i : Nat) : Stmt := PySem.Challenge.pw_backrule_k04_there_and_back.main.body.getD i (.Pass ⟨0, 0, 0, 0⟩)
abbrev s_is_rule : Stmt := top 11
abbrev N_is_rule : List Str := ["thing", "signs", "wide", "table"]
abbrev s_need_rule : Stmt := top 12
abbrev N_need_rule : List Str := ["thing"]
abbrev s_rows_of : Stmt := top 13
abbrev N_rows_of : List Str := ["signs", "wide", "many", "_"]
abbrev s_has_room : Stmt := top 14
abbrev N_has_room : List Str := ["signs", "wide"]
abbrev s_are_signs : Stmt := top 15
abbrev N_are_signs : List Str := ["signs", "cells", "cell"]
abbrev s_is_from_to : Stmt := top 16
abbrev N_is_from_to : List Str := ["thing", "least", "most"]
abbrev s_shown : Stmt := top 19
abbrev N_shown : List Str := ["rule", "signs", "wide", "table"]
abbrev s_read : Stmt := top 20
abbrev N_read : List Str := ["text", "words", "rule"]
abbrev s_word_of : Stmt := top 21
abbrev N_word_of : List Str := ["table", "cell"]
abbrev s_table_of : Stmt := top 22
abbrev N_table_of : List Str := ["word", "mark"]
abbrev s_figure_of : Stmt := top 23
abbrev N_figure_of : List Str := ["mark"]
abbrev s_l_cell_at : Stmt := top 25
abbrev N_l_cell_at : List Str := ["_law_script", "_law_k"]
abbrev s_l_mixed : Stmt := top 26
abbrev N_l_mixed : List Str := ["_law_cell", "_law_k", "_law_number"]
abbrev s_l_random : Stmt := top 27
abbrev N_l_random : List Str := ["_law_signs", "_law_rows", "_law_more", "_law_k"]
abbrev s_l_mending : Stmt := top 28
abbrev N_l_mending : List Str := ["_law_signs", "_law_rows", "_law_more", "_law_few", "_law_k"]
abbrev s_l_between : Stmt := top 29
abbrev N_l_between : List Str := ["_law_k", "_law_way", "_law_cells", "_law_at", "_law_rest"]
abbrev s_l_beside : Stmt := top 30
abbrev N_l_beside : List Str := ["_law_k", "_law_way", "_law_told", "_law_cell", "_law_near"]
abbrev s_l_turned : Stmt := top 31
abbrev N_l_turned : List Str := ["_law_signs", "_law_wide", "_law_rows", "_law_more", "_law_order", "_law_k", "_law_step"]
abbrev s_l_rule : Stmt := top 32
abbrev N_l_rule : List Str := ["_law_cell", "_law_more", "_law_some", "_law_signs", "_law_wide", "_law_rows"]
abbrev s_l_sign : Stmt := top 33
abbrev N_l_sign : List Str := ["_law_cell", "_law_some"]
abbrev s_l_bent : Stmt := top 34
abbrev N_l_bent : List Str := ["_law_text", "_law_cell", "_law_at", "_law_sign_here"]
abbrev s_l_due : Stmt := top 35
abbrev N_l_due : List Str := ["_law_text", "_law_words", "_law_signs", "_law_rows", "_law_k", "_law_sign_here"]
abbrev s_l_read : Stmt := top 36
abbrev N_l_read : List Str := ["_law_text", "error", "_law_other"]
abbrev s_l_alike : Stmt := top 37
abbrev N_l_alike : List Str := ["_law_found", "_law_due_here", "_law_one"]
abbrev s_law : Stmt := top 38
abbrev N_law : List Str := ["_law_script", "_law_rule_here", "_law_text", "_law_sign_here", "_law_turn", "_law_found", "_law_odd"]
structure Txt (K : PySem.W.Frag) (mg : Str → Option Value) (c : Cl) : Prop where
  n_ValueError : mg "ValueError" = none
  n_all : mg "all" = none
  n_bool : mg "bool" = none
  n_int : mg "int" = none
  n_isinstance : mg "isinstance" = none
  n_len : mg "len" = none
  n_range : mg "range" = none
  n_str : mg "str" = none
  n_tuple : mg "tuple" = none
  n_type : mg "type" = none
  k_MOST_SIGNS : ∃ t, mg "MOST_SIGNS" = some (.int 4 t)
  k_MOST_WIDE : ∃ t, mg "MOST_WIDE" = some (.int 4 t)
  k_MOST_ROWS : ∃ t, mg "MOST_ROWS" = some (.int 16 t)
  k_FIGURES : ∃ t, mg "FIGURES" = some (.str "0123456789" t)
  c_RowError : mg "RowError" = some (.ref c.RowError)
  e_RowError : Err K c.RowError
  c_BadRule : mg "BadRule" = some (.ref c.BadRule)
  e_BadRule : Err K c.BadRule
  c_BadRow : mg "BadRow" = some (.ref c.BadRow)
  e_BadRow : Err K c.BadRow
  c_TooWide : mg "TooWide" = some (.ref c.TooWide)
  e_TooWide : Err K c.TooWide
  c_NoBack : mg "NoBack" = some (.ref c.NoBack)
  e_NoBack : Err K c.NoBack
  c_BadText : mg "BadText" = some (.ref c.BadText)
  e_BadText : Err K c.BadText
  ec_BadText : ExcC K c.BadText
  kf : KF4 K c
end Br4

namespace Br4
open PySem PySem.Spec PyProof.Rows L2 Evl Br TL
section
variable {P : Program} {w : World} {K : PySem.W.Frag} {mg : Str → Option Value} {base : Heap} {c : Cl}
theorem sc_is_from_to : FnScope N_is_from_to ["thing", "least", "most"] (defScope s_is_from_to) := ⟨rfl, rfl, rfl, by decide +kernel, rfl, by decide +kernel, by decide +kernel⟩
theorem fn_is_from_to {f : Addr} {fd : FuncData} (F : Fun K "_is_from_to" "_is_from_to" s_is_from_to f fd) (T : Txt K mg c)  : FnOk P w K mg base CX0 1 f fd ["thing", "least", "most"] (sp_is_from_to K c) := by
  refine F.ok sc_is_from_to (fun vs H Q E h => len_is_from_to vs H Q E h) (fun cdv A outer s H vs Q E hr h => ⟨t_is_from_to K c E, ?_, pure_is_from_to vs H Q E h⟩)
  exact (pss_one (ps_ret (pe_and (pe_cmpR op_isTyB (pe_callTy call_type1 (by rfl) T.n_type PyProof.Rows.boot_type (pa_cons (pv 0) pa_nil)) (pe_bltn (v := .ty "int") rfl T.n_int PyProof.Rows.boot_int rfl) (nomark _)) (pe_one (pe_chain op_le op_le (pv 1) (pv 0) (pv 2))))))
theorem ok_is_from_to (D : Std K mg "_is_from_to" s_is_from_to ["thing", "least", "most"]) (T : Txt K mg c)  : Has P w K mg base CX0 1 "_is_from_to" ["thing", "least", "most"] (sp_is_from_to K c) := D.has fun f fd F => fn_is_from_to F T 

theorem sc_rows_of : FnScope N_rows_of ["signs", "wide"] (defScope s_rows_of) := ⟨rfl, rfl, rfl, by decide +kernel, rfl, by decide +kernel, by decide +kernel⟩
theorem fn_rows_of {f : Addr} {fd : FuncData} (F : Fun K "rows_of" "rows_of" s_rows_of f fd) (T : Txt K mg c)  : FnOk P w K mg base CX0 1 f fd ["signs", "wide"] (sp_rows_of K c) := by
  refine F.ok sc_rows_of (fun vs H Q E h => len_rows_of vs H Q E h) (fun cdv A outer s H vs Q E hr h => ⟨t_rows_of K c E, ?_, pure_rows_of vs H Q E h⟩)
  exact (pss_cons (ps_set (i := 2) sc_rows_of.nd rfl (Or.inl rfl) pe_int)
    (pss_cons (ps_for PassesOwn.never rfl (pi_range1 (by rfl) T.n_range (pa_cons (pv 1) pa_nil)) (pg_name (i := 3) sc_rows_of.nd rfl (Or.inl rfl)) (pss_one (ps_set (i := 2) sc_rows_of.nd rfl (Or.inl rfl) (pe_op op_mul (pv 2) (pv 0)))))
    (pss_one (ps_ret (pv 2)))))
theorem ok_rows_of (D : Std K mg "rows_of" s_rows_of ["signs", "wide"]) (T : Txt K mg c)  : Has P w K mg base CX0 1 "rows_of" ["signs", "wide"] (sp_rows_of K c) := D.has fun f fd F => fn_rows_of F T 

theorem sc_has_room : FnScope N_has_room ["signs", "wide"] (defScope s_has_room) := ⟨rfl, rfl, rfl, by decide +kernel, rfl, by decide +kernel, by decide +kernel⟩
theorem fn_has_room {f : Addr} {fd : FuncData} (F : Fun K "has_room" "has_room" s_has_room f fd) (T : Txt K mg c) (H_rows_of : Has P w K mg base CX0 1 "rows_of" ["signs", "wide"] (sp_rows_of K c)) : FnOk P w K mg base CX0 2 f fd ["signs", "wide"] (sp_has_room K c) := by
  refine F.ok sc_has_room (fun vs H Q E h => len_has_room vs H Q E h) (fun cdv A outer s H vs Q E hr h => ⟨t_has_room K c E, ?_, pure_has_room vs H Q E h⟩)
  exact (pss_one (ps_ret (pe_and (pe_cmpR op_le (pv 1) (pe_glob rfl T.k_MOST_WIDE.choose_spec ⟨_, rfl⟩) (nomark _)) (pe_one (pe_cmpR op_le (pe_callH H_rows_of (hr.mono (by decide)) rfl pass0 (pa_cons (pv 0) (pa_cons (pv 1) pa_nil))) (pe_glob rfl T.k_MOST_ROWS.choose_spec ⟨_, rfl⟩) (nomark _))))))
theorem ok_has_room (D : Std K mg "has_room" s_has_room ["signs", "wide"]) (T : Txt K mg c) (H_rows_of : Has P w K mg base CX0 1 "rows_of" ["signs", "wide"] (sp_rows_of K c)) : Has P w K mg base CX0 2 "has_room" ["signs", "wide"] (sp_has_room K c) := D.has fun f fd F => fn_has_room F T H_rows_of

theorem sc_are_signs : FnScope N_are_signs ["signs", "cells"] (defScope s_are_signs) := ⟨rfl, rfl, rfl, by decide +kernel, rfl, by decide +kernel, by decide +kernel⟩
theorem fn_are_signs {f : Addr} {fd : FuncData} (F : Fun K "are_signs" "are_signs" s_are_signs f fd) (T : Txt K mg c) (H_is_from_to : Has P w K mg base CX0 1 "_is_from_to" ["thing", "least", "most"] (sp_is_from_to K c)) : FnOk P w K mg base CX0 2 f fd ["signs", "cells"] (sp_are_signs K c) := by
  refine F.ok sc_are_signs (fun vs H Q E h => len_are_signs vs H Q E h) (fun cdv A outer s H vs Q E hr h => ⟨t_are_signs K c E, ?_, pure_are_signs vs H Q E h⟩)
  exact (pss_one (ps_ret (pe_callB (cr_all rfl) (by rfl) T.n_all PyProof.Rows.boot_all (pa_cons (pe_lc (own := [("cell", 2)]) (g := gName 2) (tt := tYes) rfl sc_are_signs.nd (pi_or (pi_list (pv 1)) (pi_tup (pv 1))) (blkOk_by (own := [("cell", 2)]) (N := N_are_signs) (sc := defScope s_are_signs) (by decide +kernel)) (fun _ _ _ _ _ => pg_name (i := 2) sc_are_signs.nd rfl (Or.inl rfl)) (fun _ _ _ _ _ => pts_nil) (fun _ _ _ _ _ => (pe_callH H_is_from_to (hr.mono (by decide)) rfl pass0 (pa_cons (pv 2) (pa_cons pe_int (pa_cons (pe_op op_sub (pv 0) pe_int) pa_nil)))))) pa_nil))))
theorem ok_are_signs (D : Std K mg "are_signs" s_are_signs ["signs", "cells"]) (T : Txt K mg c) (H_is_from_to : Has P w K mg base CX0 1 "_is_from_to" ["thing", "least", "most"] (sp_is_from_to K c)) : Has P w K mg base CX0 2 "are_signs" ["signs", "cells"] (sp_are_signs K c) := D.has fun f fd F => fn_are_signs F T H_is_from_to

theorem sc_is_rule : FnScope N_is_rule ["thing"] (defScope s_is_rule) := ⟨rfl, rfl, rfl, by decide +kernel, rfl, by decide +kernel, by decide +kernel⟩
theorem fn_is_rule {f : Addr} {fd : FuncData} (F : Fun K "is_rule" "is_rule" s_is_rule f fd) (T : Txt K mg c) (H_are_signs : Has P w K mg base CX0 2 "are_signs" ["signs", "cells"] (sp_are_signs K c)) (H_has_room : Has P w K mg base CX0 2 "has_room" ["signs", "wide"] (sp_has_room K c)) (H_is_from_to : Has P w K mg base CX0 1 "_is_from_to" ["thing", "least", "most"] (sp_is_from_to K c)) (H_rows_of : Has P w K mg base CX0 1 "rows_of" ["signs", "wide"] (sp_rows_of K c)) : FnOk P w K mg base CX0 3 f fd ["thing"] (sp_is_rule K c) := by
  refine F.ok sc_is_rule (fun vs H Q E h => len_is_rule vs H Q E h) (fun cdv A outer s H vs Q E hr h => ⟨t_is_rule K c E, ?_, pure_is_rule vs H Q E h⟩)
  exact (pss_cons (ps_if (PW.pt (pw_or (pt_cmpR op_notTyB (pe_callTy call_type1 (by rfl) T.n_type PyProof.Rows.boot_type (pa_cons (pv 0) pa_nil)) (pe_bltn (v := .ty "tuple") rfl T.n_tuple PyProof.Rows.boot_tuple rfl) (nomark _)) (pw_or1 (pt_cmpR op_ne (pe_callB call_len_seq (by rfl) T.n_len PySem.boot_len (pa_cons (pv 0) pa_nil)) pe_int (nomark _))))) (pss_one (ps_ret pe_bl)) pss_nil)
    (pss_cons (ps_asg (pv 0) (pg_tup (n := 3) (by rfl) (pgs_cons (pg_name (i := 1) sc_is_rule.nd rfl (Or.inl rfl)) (pgs_cons (pg_name (i := 2) sc_is_rule.nd rfl (Or.inl rfl)) (pgs_cons (pg_name (i := 3) sc_is_rule.nd rfl (Or.inl rfl)) pgs_nil)))))
    (pss_cons (ps_if (PW.pt (pw_or (pt_not (pt_val (pe_callH H_is_from_to (hr.mono (by decide)) rfl pass0 (pa_cons (pv 1) (pa_cons pe_int (pa_cons (pe_glob rfl T.k_MOST_SIGNS.choose_spec ⟨_, rfl⟩) pa_nil)))))) (pw_or1 (pt_not (pt_val (pe_callH H_is_from_to (hr.mono (by decide)) rfl pass0 (pa_cons (pv 2) (pa_cons pe_int (pa_cons (pe_glob rfl T.k_MOST_WIDE.choose_spec ⟨_, rfl⟩) pa_nil))))))))) (pss_one (ps_ret pe_bl)) pss_nil)
    (pss_cons (ps_if (pt_not (pt_val (pe_callH H_has_room (hr.mono (by decide)) rfl pass0 (pa_cons (pv 1) (pa_cons (pv 2) pa_nil))))) (pss_one (ps_ret pe_bl)) pss_nil)
    (pss_cons (ps_if (PW.pt (pw_or (pt_cmpR op_notTyB (pe_callTy call_type1 (by rfl) T.n_type PyProof.Rows.boot_type (pa_cons (pv 3) pa_nil)) (pe_bltn (v := .ty "tuple") rfl T.n_tuple PyProof.Rows.boot_tuple rfl) (nomark _)) (pw_or1 (pt_cmpR op_ne (pe_callB call_len_seq (by rfl) T.n_len PySem.boot_len (pa_cons (pv 3) pa_nil)) (pe_callH H_rows_of (hr.mono (by decide)) rfl pass0 (pa_cons (pv 1) (pa_cons (pv 2) pa_nil))) (nomark _))))) (pss_one (ps_ret pe_bl)) pss_nil)
    (pss_one (ps_ret (pe_callH H_are_signs (hr.mono (by decide)) rfl pass0 (pa_cons (pv 1) (pa_cons (pv 3) pa_nil))))))))))
theorem ok_is_rule (D : Std K mg "is_rule" s_is_rule ["thing"]) (T : Txt K mg c) (H_are_signs : Has P w K mg base CX0 2 "are_signs" ["signs", "cells"] (sp_are_signs K c)) (H_has_room : Has P w K mg base CX0 2 "has_room" ["signs", "wide"] (sp_has_room K c)) (H_is_from_to : Has P w K mg base CX0 1 "_is_from_to" ["thing", "least", "most"] (sp_is_from_to K c)) (H_rows_of : Has P w K mg base CX0 1 "rows_of" ["signs", "wide"] (sp_rows_of K c)) : Has P w K mg base CX0 3 "is_rule" ["thing"] (sp_is_rule K c) := D.has fun f fd F => fn_is_rule F T H_are_signs H_has_room H_is_from_to H_rows_of

theorem sc_need_rule : FnScope N_need_rule ["thing"] (defScope s_need_rule) := ⟨rfl, rfl, rfl, by decide +kernel, rfl, by decide +kernel, by decide +kernel⟩
theorem fn_need_rule {f : Addr} {fd : FuncData} (F : Fun K "need_rule" "need_rule" s_need_rule f fd) (T : Txt K mg c) (H_is_rule : Has P w K mg base CX0 3 "is_rule" ["thing"] (sp_is_rule K c)) : FnOk P w K mg base CX0 4 f fd ["thing"] (sp_need_rule K c) := by
  refine F.ok sc_need_rule (fun vs H Q E h => len_need_rule vs H Q E h) (fun cdv A outer s H vs Q E hr h => ⟨t_need_rule K c E, ?_, pure_need_rule vs H Q E h⟩)
  exact (pss_one (ps_if (pt_not (pt_val (pe_callH H_is_rule (hr.mono (by decide)) rfl pass0 (pa_cons (pv 0) pa_nil)))) (pss_one ps_never) pss_nil))
theorem ok_need_rule (D : Std K mg "need_rule" s_need_rule ["thing"]) (T : Txt K mg c) (H_is_rule : Has P w K mg base CX0 3 "is_rule" ["thing"] (sp_is_rule K c)) : Has P w K mg base CX0 4 "need_rule" ["thing"] (sp_need_rule K c) := D.has fun f fd F => fn_need_rule F T H_is_rule

theorem sc_word_of : FnScope N_word_of ["table"] (defScope s_word_of) := ⟨rfl, rfl, rfl, by decide +kernel, rfl, by decide +kernel, by decide +kernel⟩
theorem fn_word_of {f : Addr} {fd : FuncData} (F : Fun K "_word_of" "_word_of" s_word_of f fd) (T : Txt K mg c)  : FnOk P w K mg base CX0 1 f fd ["table"] (sp_word_of K c) := by
  refine F.ok sc_word_of (fun vs H Q E h => len_word_of vs H Q E h) (fun cdv A outer s H vs Q E hr h => ⟨t_word_of K c E, ?_, pure_word_of vs H Q E h⟩)
  exact (pss_one (ps_ret (pe_join pe_str (pe_lc (own := [("cell", 1)]) (g := gName 1) (tt := tYes) rfl sc_word_of.nd (pi_tup (pv 0)) (blkOk_by (own := [("cell", 1)]) (N := N_word_of) (sc := defScope s_word_of) (by decide +kernel)) (fun _ _ _ _ _ => pg_name (i := 1) sc_word_of.nd rfl (Or.inl rfl)) (fun _ _ _ _ _ => pts_nil) (fun _ _ _ _ _ => (pe_ix ix_str (pe_glob rfl T.k_FIGURES.choose_spec ⟨_, rfl⟩) (pv 1) (fun _ _ => rfl)))))))
theorem ok_word_of (D : Std K mg "_word_of" s_word_of ["table"]) (T : Txt K mg c)  : Has P w K mg base CX0 1 "_word_of" ["table"] (sp_word_of K c) := D.has fun f fd F => fn_word_of F T 

theorem sc_figure_of : FnScope N_figure_of ["mark"] (defScope s_figure_of) := ⟨rfl, rfl, rfl, by decide +kernel, rfl, by decide +kernel, by decide +kernel⟩
theorem fn_figure_of {f : Addr} {fd : FuncData} (F : Fun K "_figure_of" "_figure_of" s_figure_of f fd) (T : Txt K mg c)  : FnOk P w K mg base CX0 1 f fd ["mark"] (sp_figure_of K c) := by
  refine F.ok sc_figure_of (fun vs H Q E h => len_figure_of vs H Q E h) (fun cdv A outer s H vs Q E hr h => ⟨t_figure_of K c E, ?_, pure_figure_of vs H Q E h⟩)
  exact (pss_one (ps_ret (pe_m1 PySem.F.slot_str_find PySem.F.type_str_find mt_find (pe_glob rfl T.k_FIGURES.choose_spec ⟨_, rfl⟩) (pv 0))))
theorem ok_figure_of (D : Std K mg "_figure_of" s_figure_of ["mark"]) (T : Txt K mg c)  : Has P w K mg base CX0 1 "_figure_of" ["mark"] (sp_figure_of K c) := D.has fun f fd F => fn_figure_of F T 

theorem sc_table_of : FnScope N_table_of ["word"] (defScope s_table_of) := ⟨rfl, rfl, rfl, by decide +kernel, rfl, by decide +kernel, by decide +kernel⟩
theorem fn_table_of {f : Addr} {fd : FuncData} (F : Fun K "_table_of" "_table_of" s_table_of f fd) (T : Txt K mg c) (H_figure_of : Has P w K mg base CX0 1 "_figure_of" ["mark"] (sp_figure_of K c)) : FnOk P w K mg base CX0 2 f fd ["word"] (sp_table_of K c) := by
  refine F.ok sc_table_of (fun vs H Q E h => len_table_of vs H Q E h) (fun cdv A outer s H vs Q E hr h => ⟨t_table_of K c E, ?_, pure_table_of vs H Q E h⟩)
  exact (pss_one (ps_ret (pe_callTy call_tuple_of (by rfl) T.n_tuple PyProof.Rows.boot_tuple (pa_cons (pe_lc (own := [("mark", 1)]) (g := gName 1) (tt := tYes) rfl sc_table_of.nd (pi_str (pv 0)) (blkOk_by (own := [("mark", 1)]) (N := N_table_of) (sc := defScope s_table_of) (by decide +kernel)) (fun _ _ _ _ _ => pg_name (i := 1) sc_table_of.nd rfl (Or.inl rfl)) (fun _ _ _ _ _ => pts_nil) (fun _ _ _ _ _ => (pe_callH H_figure_of (hr.mono (by decide)) rfl pass0 (pa_cons (pv 1) pa_nil)))) pa_nil))))
theorem ok_table_of (D : Std K mg "_table_of" s_table_of ["word"]) (T : Txt K mg c) (H_figure_of : Has P w K mg base CX0 1 "_figure_of" ["mark"] (sp_figure_of K c)) : Has P w K mg base CX0 2 "_table_of" ["word"] (sp_table_of K c) := D.has fun f fd F => fn_table_of F T H_figure_of

theorem sc_shown : FnScope N_shown ["rule"] (defScope s_shown) := ⟨rfl, rfl, rfl, by decide +kernel, rfl, by decide +kernel, by decide +kernel⟩
theorem fn_shown {f : Addr} {fd : FuncData} (F : Fun K "shown" "shown" s_shown f fd) (T : Txt K mg c) (H_need_rule : Has P w K mg base CX0 4 "need_rule" ["thing"] (sp_need_rule K c)) (H_word_of : Has P w K mg base CX0 1 "_word_of" ["table"] (sp_word_of K c)) : FnOk P w K mg base CX0 5 f fd ["rule"] (sp_shown K c) := by
  refine F.ok sc_shown (fun vs H Q E h => len_shown vs H Q E h) (fun cdv A outer s H vs Q E hr h => ⟨t_shown K c E, ?_, pure_shown vs H Q E h⟩)
  exact (pss_cons (ps_expr (pe_callH H_need_rule (hr.mono (by decide)) rfl pass0 (pa_cons (pv 0) pa_nil)))
    (pss_cons (ps_asg (pv 0) (pg_tup (n := 3) (by rfl) (pgs_cons (pg_name (i := 1) sc_shown.nd rfl (Or.inl rfl)) (pgs_cons (pg_name (i := 2) sc_shown.nd rfl (Or.inl rfl)) (pgs_cons (pg_name (i := 3) sc_shown.nd rfl (Or.inl rfl)) pgs_nil)))))
    (pss_one (ps_ret (pe_joined (PJ.cons (pe_fmt (pv 1)) (PJ.cons pe_str (PJ.cons (pe_fmt (pv 2)) (PJ.cons pe_str (PJ.cons (pe_fmt (pe_callH H_word_of (hr.mono (by decide)) rfl pass0 (pa_cons (pv 3) pa_nil))) PJ.nil))))))))))
theorem ok_shown (D : Std K mg "shown" s_shown ["rule"]) (T : Txt K mg c) (H_need_rule : Has P w K mg base CX0 4 "need_rule" ["thing"] (sp_need_rule K c)) (H_word_of : Has P w K mg base CX0 1 "_word_of" ["table"] (sp_word_of K c)) : Has P w K mg base CX0 5 "shown" ["rule"] (sp_shown K c) := D.has fun f fd F => fn_shown F T H_need_rule H_word_of

theorem sc_read : FnScope N_read ["text"] (defScope s_read) := ⟨rfl, rfl, rfl, by decide +kernel, rfl, by decide +kernel, by decide +kernel⟩
theorem fn_read {f : Addr} {fd : FuncData} (F : Fun K "read" "read" s_read f fd) (T : Txt K mg c) (H_figure_of : Has P w K mg base CX0 1 "_figure_of" ["mark"] (sp_figure_of K c)) (H_table_of : Has P w K mg base CX0 2 "_table_of" ["word"] (sp_table_of K c)) (H_is_rule : Has P w K mg base CX0 3 "is_rule" ["thing"] (sp_is_rule K c)) : FnOk P w K mg base (L2.CX P w) 4 f fd ["text"] (sp_read K c) := by
  refine F.okX sc_read (fun vs H Q E h => len_read vs H Q E h) (fun cdv A outer s H vs Q E hr h => ⟨t_read K c E, ?_, pure_read vs H Q E h⟩)
  exact (pss_cons (ps_if (pt_cmpR op_notTyB (pe_callTy call_type1 (by rfl) T.n_type PyProof.Rows.boot_type (pa_cons (pv 0) pa_nil)) (pe_bltn (v := .ty "str") rfl T.n_str PyProof.Rows.boot_str rfl) (nomark _)) (pss_one (ps_raise rfl (takes_of rfl rfl rfl rfl) (pmk_own PySem.F.excBase_ValueError T.e_BadText.x T.c_BadText T.e_BadText.k (raises_own T.e_BadText.b T.e_BadText.t) (by exact rfl)))) pss_nil)
    (pss_cons (ps_set (i := 1) sc_read.nd rfl (Or.inl rfl) (pe_split (pv 0) pe_str))
    (pss_cons (ps_if (PW.pt (pw_or (pt_cmpR op_ne (pe_callB call_len_seq (by rfl) T.n_len PySem.boot_len (pa_cons (pv 1) pa_nil)) pe_int (nomark _)) (pw_or (pt_cmpR op_ne (pe_callB call_len_str (by rfl) T.n_len PySem.boot_len (pa_cons (pe_ix ix_list (pv 1) pe_int (fun _ _ => rfl)) pa_nil)) pe_int (nomark _)) (pw_or1 (pt_cmpR op_ne (pe_callB call_len_str (by rfl) T.n_len PySem.boot_len (pa_cons (pe_ix ix_list (pv 1) pe_int (fun _ _ => rfl)) pa_nil)) pe_int (nomark _)))))) (pss_one (ps_raise rfl (takes_of rfl rfl rfl rfl) (pmk_own PySem.F.excBase_ValueError T.e_BadText.x T.c_BadText T.e_BadText.k (raises_own T.e_BadText.b T.e_BadText.t) (by exact rfl)))) pss_nil)
    (pss_cons (ps_set (i := 2) sc_read.nd rfl (Or.inl rfl) (pe_tup (pa_cons (pe_callH H_figure_of (hr.mono (by decide)) rfl pass0 (pa_cons (pe_ix ix_list (pv 1) pe_int (fun _ _ => rfl)) pa_nil)) (pa_cons (pe_callH H_figure_of (hr.mono (by decide)) rfl pass0 (pa_cons (pe_ix ix_list (pv 1) pe_int (fun _ _ => rfl)) pa_nil)) (pa_cons (pe_callH H_table_of (hr.mono (by decide)) rfl pass0 (pa_cons (pe_ix ix_list (pv 1) pe_int (fun _ _ => rfl)) pa_nil)) pa_nil)))))
    (pss_cons (ps_if (pt_not (pt_val (pe_callH H_is_rule (hr.mono (by decide)) rfl pass0 (pa_cons (pv 2) pa_nil)))) (pss_one (ps_raise rfl (takes_of rfl rfl rfl rfl) (pmk_own PySem.F.excBase_ValueError T.e_BadText.x T.c_BadText T.e_BadText.k (raises_own T.e_BadText.b T.e_BadText.t) (by exact rfl)))) pss_nil)
    (pss_one (ps_ret (pv 2))))))))
theorem ok_read (D : Std K mg "read" s_read ["text"]) (T : Txt K mg c) (H_figure_of : Has P w K mg base CX0 1 "_figure_of" ["mark"] (sp_figure_of K c)) (H_table_of : Has P w K mg base CX0 2 "_table_of" ["word"] (sp_table_of K c)) (H_is_rule : Has P w K mg base CX0 3 "is_rule" ["thing"] (sp_is_rule K c)) : Has P w K mg base (L2.CX P w) 4 "read" ["text"] (sp_read K c) := D.has fun f fd F => fn_read F T H_figure_of H_table_of H_is_rule
end
end Br4

namespace Br4
open PySem PySem.Spec PyProof.Rows L2 Evl Br TL
section
variable {P : Program} {w : World} {K : PySem.W.Frag} {mg : Str → Option Value} {base : Heap} {c : Cl}
theorem sc_l_cell_at : FnScope N_l_cell_at ["_law_script", "_law_k"] (defScope s_l_cell_at) := ⟨rfl, rfl, rfl, by decide +kernel, rfl, by decide +kernel, by decide +kernel⟩
theorem fn_l_cell_at {f : Addr} {fd : FuncData} (F : Fun K "_law_cell_at" "_law_cell_at" s_l_cell_at f fd) (T : Txt K mg c)  : FnOk P w K mg base CX0 1 f fd ["_law_script", "_law_k"] (sp_l_cell_at K c) := by
  refine F.ok sc_l_cell_at (fun vs H Q E h => len_l_cell_at vs H Q E h) (fun cdv A outer s H vs Q E hr h => ⟨t_l_cell_at K c E, ?_, pure_l_cell_at vs H Q E h⟩)
  exact (pss_cons (ps_if (pt_cmpR op_lt (pv 1) (pe_callB call_len_seq (by rfl) T.n_len PySem.boot_len (pa_cons (pv 0) pa_nil)) (nomark _)) (pss_one (ps_ret (pe_ix ix_list (pv 0) (pv 1) (fun _ _ => rfl)))) pss_nil)
    (pss_one (ps_ret pe_int)))
theorem ok_l_cell_at (D : Std K mg "_law_cell_at" s_l_cell_at ["_law_script", "_law_k"]) (T : Txt K mg c)  : Has P w K mg base CX0 1 "_law_cell_at" ["_law_script", "_law_k"] (sp_l_cell_at K c) := D.has fun f fd F => fn_l_cell_at F T 

theorem sc_l_mixed : FnScope N_l_mixed ["_law_cell", "_law_k"] (defScope s_l_mixed) := ⟨rfl, rfl, rfl, by decide +kernel, rfl, by decide +kernel, by decide +kernel⟩
theorem fn_l_mixed {f : Addr} {fd : FuncData} (F : Fun K "_law_mixed" "_law_mixed" s_l_mixed f fd) (T : Txt K mg c)  : FnOk P w K mg base CX0 1 f fd ["_law_cell", "_law_k"] (sp_l_mixed K c) := by
  refine F.ok sc_l_mixed (fun vs H Q E h => len_l_mixed vs H Q E h) (fun cdv A outer s H vs Q E hr h => ⟨t_l_mixed K c E, ?_, pure_l_mixed vs H Q E h⟩)
  exact (pss_cons (ps_set (i := 2) sc_l_mixed.nd rfl (Or.inl rfl) (pe_op op_mod (pe_op op_mul (pe_op op_add (pe_op op_mod (pv 0) pe_int) pe_int) pe_int) pe_int))
    (pss_one (ps_ret (pe_op op_fdiv (pe_op op_mod (pe_op op_mul (pv 2) (pe_op op_add (pe_op op_add pe_int (pe_op op_mul (pe_op op_mul pe_int (pv 1)) (pv 1))) (pe_op op_mul pe_int (pv 1)))) pe_int) pe_int))))
theorem ok_l_mixed (D : Std K mg "_law_mixed" s_l_mixed ["_law_cell", "_law_k"]) (T : Txt K mg c)  : Has P w K mg base CX0 1 "_law_mixed" ["_law_cell", "_law_k"] (sp_l_mixed K c) := D.has fun f fd F => fn_l_mixed F T 

theorem sc_l_random : FnScope N_l_random ["_law_signs", "_law_rows", "_law_more"] (defScope s_l_random) := ⟨rfl, rfl, rfl, by decide +kernel, rfl, by decide +kernel, by decide +kernel⟩
theorem fn_l_random {f : Addr} {fd : FuncData} (F : Fun K "_law_random" "_law_random" s_l_random f fd) (T : Txt K mg c) (H_l_mixed : Has P w K mg base CX0 1 "_law_mixed" ["_law_cell", "_law_k"] (sp_l_mixed K c)) : FnOk P w K mg base CX0 2 f fd ["_law_signs", "_law_rows", "_law_more"] (sp_l_random K c) := by
  refine F.ok sc_l_random (fun vs H Q E h => len_l_random vs H Q E h) (fun cdv A outer s H vs Q E hr h => ⟨t_l_random K c E, ?_, pure_l_random vs H Q E h⟩)
  exact (pss_one (ps_ret (pe_callTy call_tuple_of (by rfl) T.n_tuple PyProof.Rows.boot_tuple (pa_cons (pe_lc (own := [("_law_k", 3)]) (g := gName 3) (tt := tYes) rfl sc_l_random.nd (pi_range1 (by rfl) T.n_range (pa_cons (pv 1) pa_nil)) (blkOk_by (own := [("_law_k", 3)]) (N := N_l_random) (sc := defScope s_l_random) (by decide +kernel)) (fun _ _ _ _ _ => pg_name (i := 3) sc_l_random.nd rfl (Or.inl rfl)) (fun _ _ _ _ _ => pts_nil) (fun _ _ _ _ _ => (pe_op op_mod (pe_callH H_l_mixed (hr.mono (by decide)) rfl pass0 (pa_cons (pv 2) (pa_cons (pv 3) pa_nil))) (pv 0)))) pa_nil))))
theorem ok_l_random (D : Std K mg "_law_random" s_l_random ["_law_signs", "_law_rows", "_law_more"]) (T : Txt K mg c) (H_l_mixed : Has P w K mg base CX0 1 "_law_mixed" ["_law_cell", "_law_k"] (sp_l_mixed K c)) : Has P w K mg base CX0 2 "_law_random" ["_law_signs", "_law_rows", "_law_more"] (sp_l_random K c) := D.has fun f fd F => fn_l_random F T H_l_mixed

theorem sc_l_mending : FnScope N_l_mending ["_law_signs", "_law_rows", "_law_more"] (defScope s_l_mending) := ⟨rfl, rfl, rfl, by decide +kernel, rfl, by decide +kernel, by decide +kernel⟩
theorem fn_l_mending {f : Addr} {fd : FuncData} (F : Fun K "_law_mending" "_law_mending" s_l_mending f fd) (T : Txt K mg c) (H_l_mixed : Has P w K mg base CX0 1 "_law_mixed" ["_law_cell", "_law_k"] (sp_l_mixed K c)) : FnOk P w K mg base CX0 2 f fd ["_law_signs", "_law_rows", "_law_more"] (sp_l_mending K c) := by
  refine F.ok sc_l_mending (fun vs H Q E h => len_l_mending vs H Q E h) (fun cdv A outer s H vs Q E hr h => ⟨t_l_mending K c E, ?_, pure_l_mending vs H Q E h⟩)
  exact (pss_cons (ps_set (i := 3) sc_l_mending.nd rfl (Or.inr rfl) (pe_op op_fdiv (pv 1) (pv 0)))
    (pss_cons (ps_if (pt_cmpR op_eq (pe_op op_mod (pv 2) pe_int) pe_int (nomark _)) (pss_one (ps_ret (pe_callTy call_tuple_of (by rfl) T.n_tuple PyProof.Rows.boot_tuple (pa_cons (pe_lc (own := [("_law_k", 4)]) (g := gName 4) (tt := tYes) rfl sc_l_mending.nd (pi_range1 (by rfl) T.n_range (pa_cons (pv 1) pa_nil)) (blkOk_by (own := [("_law_k", 4)]) (N := N_l_mending) (sc := defScope s_l_mending) (by decide +kernel)) (fun _ _ _ _ _ => pg_name (i := 4) sc_l_mending.nd rfl (Or.inl rfl)) (fun _ _ _ _ _ => pts_nil) (fun _ _ _ _ _ => (pe_op op_mod (pe_op op_add (pe_op op_mod (pv 4) (pv 0)) (pe_callH H_l_mixed (hr.mono (by decide)) rfl pass0 (pa_cons (pv 2) (pa_cons (pe_op op_fdiv (pv 4) (pv 0)) pa_nil)))) (pv 0)))) pa_nil)))) pss_nil)
    (pss_one (ps_ret (pe_callTy call_tuple_of (by rfl) T.n_tuple PyProof.Rows.boot_tuple (pa_cons (pe_lc (own := [("_law_k", 4)]) (g := gName 4) (tt := tYes) rfl sc_l_mending.nd (pi_range1 (by rfl) T.n_range (pa_cons (pv 1) pa_nil)) (blkOk_by (own := [("_law_k", 4)]) (N := N_l_mending) (sc := defScope s_l_mending) (by decide +kernel)) (fun _ _ _ _ _ => pg_name (i := 4) sc_l_mending.nd rfl (Or.inl rfl)) (fun _ _ _ _ _ => pts_nil) (fun _ _ _ _ _ => (pe_op op_mod (pe_op op_add (pe_op op_fdiv (pv 4) (pv 3)) (pe_callH H_l_mixed (hr.mono (by decide)) rfl pass0 (pa_cons (pv 2) (pa_cons (pe_op op_mod (pv 4) (pv 3)) pa_nil)))) (pv 0)))) pa_nil))))))
theorem ok_l_mending (D : Std K mg "_law_mending" s_l_mending ["_law_signs", "_law_rows", "_law_more"]) (T : Txt K mg c) (H_l_mixed : Has P w K mg base CX0 1 "_law_mixed" ["_law_cell", "_law_k"] (sp_l_mixed K c)) : Has P w K mg base CX0 2 "_law_mending" ["_law_signs", "_law_rows", "_law_more"] (sp_l_mending K c) := D.has fun f fd F => fn_l_mending F T H_l_mixed

theorem sc_l_between : FnScope N_l_between ["_law_k", "_law_way"] (defScope s_l_between) := ⟨rfl, rfl, rfl, by decide +kernel, rfl, by decide +kernel, by decide +kernel⟩
theorem fn_l_between {f : Addr} {fd : FuncData} (F : Fun K "_law_between" "_law_between" s_l_between f fd) (T : Txt K mg c)  : FnOk P w K mg base CX0 1 f fd ["_law_k", "_law_way"] (sp_l_between K c) := by
  refine F.ok sc_l_between (fun vs H Q E h => len_l_between vs H Q E h) (fun cdv A outer s H vs Q E hr h => ⟨t_l_between K c E, ?_, pure_l_between vs H Q E h⟩)
  exact (pss_cons (ps_set (i := 2) sc_l_between.nd rfl (Or.inl rfl) (pe_lst (pa_cons (pe_op op_fdiv (pv 0) pe_int) (pa_cons (pe_op op_mod (pe_op op_fdiv (pv 0) pe_int) pe_int) (pa_cons (pe_op op_mod (pe_op op_fdiv (pv 0) pe_int) pe_int) (pa_cons (pe_op op_mod (pv 0) pe_int) pa_nil))))))
    (pss_cons (ps_set (i := 3) sc_l_between.nd rfl (Or.inl rfl) (pe_op op_add pe_int (pe_op op_mod (pe_op op_fdiv (pv 1) pe_int) pe_int)))
    (pss_cons (ps_set (i := 4) sc_l_between.nd rfl (Or.inl rfl) (pe_op op_cat (pe_slice sl_list (pv 2) po_none (po_some (pv 3))) (pe_slice sl_list (pv 2) (po_some (pe_op op_add (pv 3) pe_int)) po_none)))
    (pss_one (ps_ret (pe_op op_mod (pe_op op_add (pe_ix ix_list (pv 2) (pv 3) (fun _ _ => rfl)) (pe_callTy call_int1 (by rfl) T.n_int PyProof.Rows.boot_int (pa_cons (pe_cmpR (op_eqD hr.units) (pv 4) (pe_ix ix_list (pe_lst (pa_cons (pe_lst (pa_cons pe_int (pa_cons pe_int (pa_cons pe_int pa_nil)))) (pa_cons (pe_lst (pa_cons pe_int (pa_cons pe_int (pa_cons pe_int pa_nil)))) pa_nil))) (pe_op op_mod (pv 1) pe_int) (fun _ _ => rfl)) (nomark _)) pa_nil))) pe_int))))))
theorem ok_l_between (D : Std K mg "_law_between" s_l_between ["_law_k", "_law_way"]) (T : Txt K mg c)  : Has P w K mg base CX0 1 "_law_between" ["_law_k", "_law_way"] (sp_l_between K c) := D.has fun f fd F => fn_l_between F T 

theorem sc_l_beside : FnScope N_l_beside ["_law_k", "_law_way"] (defScope s_l_beside) := ⟨rfl, rfl, rfl, by decide +kernel, rfl, by decide +kernel, by decide +kernel⟩
theorem fn_l_beside {f : Addr} {fd : FuncData} (F : Fun K "_law_beside" "_law_beside" s_l_beside f fd) (T : Txt K mg c)  : FnOk P w K mg base CX0 1 f fd ["_law_k", "_law_way"] (sp_l_beside K c) := by
  refine F.ok sc_l_beside (fun vs H Q E h => len_l_beside vs H Q E h) (fun cdv A outer s H vs Q E hr h => ⟨t_l_beside K c E, ?_, pure_l_beside vs H Q E h⟩)
  exact (pss_cons (ps_set (i := 2) sc_l_beside.nd rfl (Or.inl rfl) (pe_op op_mod (pe_op op_fdiv (pv 1) pe_int) pe_int))
    (pss_cons (ps_asg (pe_ix ix_list (pe_lst (pa_cons (pe_tup (pa_cons (pe_op op_fdiv (pv 0) pe_int) (pa_cons (pe_op op_mod (pv 0) pe_int) pa_nil))) (pa_cons (pe_tup (pa_cons (pe_op op_mod (pv 0) pe_int) (pa_cons (pe_op op_fdiv (pv 0) pe_int) pa_nil))) pa_nil))) (pe_op op_mod (pv 1) pe_int) (fun _ _ => rfl)) (pg_tup (n := 2) (by rfl) (pgs_cons (pg_name (i := 3) sc_l_beside.nd rfl (Or.inl rfl)) (pgs_cons (pg_name (i := 4) sc_l_beside.nd rfl (Or.inl rfl)) pgs_nil))))
    (pss_cons (ps_if (PW.pt (pw_and (pt_cmpR op_eq (pv 4) (pv 2) (nomark _)) (pw_and1 (pt_cmpR op_ne (pv 3) (pv 2) (nomark _))))) (pss_one (ps_ret (pe_op op_sub (pe_op op_sub pe_int (pv 2)) (pv 3)))) pss_nil)
    (pss_one (ps_ret (pv 3))))))
theorem ok_l_beside (D : Std K mg "_law_beside" s_l_beside ["_law_k", "_law_way"]) (T : Txt K mg c)  : Has P w K mg base CX0 1 "_law_beside" ["_law_k", "_law_way"] (sp_l_beside K c) := D.has fun f fd F => fn_l_beside F T 

theorem sc_l_turned : FnScope N_l_turned ["_law_signs", "_law_wide", "_law_rows", "_law_more"] (defScope s_l_turned) := ⟨rfl, rfl, rfl, by decide +kernel, rfl, by decide +kernel, by decide +kernel⟩
theorem fn_l_turned {f : Addr} {fd : FuncData} (F : Fun K "_law_turned" "_law_turned" s_l_turned f fd) (T : Txt K mg c) (H_l_beside : Has P w K mg base CX0 1 "_law_beside" ["_law_k", "_law_way"] (sp_l_beside K c)) (H_l_between : Has P w K mg base CX0 1 "_law_between" ["_law_k", "_law_way"] (sp_l_between K c)) : FnOk P w K mg base CX0 2 f fd ["_law_signs", "_law_wide", "_law_rows", "_law_more"] (sp_l_turned K c) := by
  refine F.ok sc_l_turned (fun vs H Q E h => len_l_turned vs H Q E h) (fun cdv A outer s H vs Q E hr h => ⟨t_l_turned K c E, ?_, pure_l_turned vs H Q E h⟩)
  exact (pss_cons (ps_set (i := 4) sc_l_turned.nd rfl (Or.inr rfl) (pe_lc (own := [("_law_k", 5)]) (g := gName 5) (tt := tYes) rfl sc_l_turned.nd (pi_range1 (by rfl) T.n_range (pa_cons (pv 0) pa_nil)) (blkOk_by (own := [("_law_k", 5)]) (N := N_l_turned) (sc := defScope s_l_turned) (by decide +kernel)) (fun _ _ _ _ _ => pg_name (i := 5) sc_l_turned.nd rfl (Or.inl rfl)) (fun _ _ _ _ _ => pts_nil) (fun _ _ _ _ _ => (pe_op op_mod (pe_op op_add (pe_op op_fdiv (pv 3) pe_int) (pe_op op_mul (pv 5) (pe_ix ix_list (pe_lst (pa_cons pe_int (pa_cons (pe_op op_sub (pv 0) pe_int) pa_nil))) (pe_op op_mod (pe_op op_fdiv (pv 3) pe_int) pe_int) (fun _ _ => rfl)))) (pv 0)))))
    (pss_cons (ps_if (PW.pt (pw_and (pt_cmpR op_eq (pv 0) pe_int (nomark _)) (pw_and (pt_cmpR op_eq (pv 1) pe_int (nomark _)) (pw_and1 (pt_cmpR op_gt (pe_op op_mod (pv 3) pe_int) pe_int (nomark _)))))) (pss_one (ps_ret (pe_callTy call_tuple_of (by rfl) T.n_tuple PyProof.Rows.boot_tuple (pa_cons (pe_lc (own := [("_law_k", 5)]) (g := gName 5) (tt := tYes) rfl sc_l_turned.nd (pi_range1 (by rfl) T.n_range (pa_cons pe_int pa_nil)) (blkOk_by (own := [("_law_k", 5)]) (N := N_l_turned) (sc := defScope s_l_turned) (by decide +kernel)) (fun _ _ _ _ _ => pg_name (i := 5) sc_l_turned.nd rfl (Or.inl rfl)) (fun _ _ _ _ _ => pts_nil) (fun _ _ _ _ _ => (pe_ix ix_list (pv 4) (pe_op op_add (pe_op op_mul (pe_op op_fdiv (pv 5) pe_int) pe_int) (pe_op op_mod (pv 5) pe_int)) (fun _ _ => rfl)))) pa_nil)))) pss_nil)
    (pss_cons (ps_if (PW.pt (pw_and (pt_cmpR op_eq (pv 0) pe_int (nomark _)) (pw_and (pt_cmpR op_eq (pv 1) pe_int (nomark _)) (pw_and1 (pt_cmpR op_gt (pe_op op_mod (pv 3) pe_int) pe_int (nomark _)))))) (pss_one (ps_ret (pe_callTy call_tuple_of (by rfl) T.n_tuple PyProof.Rows.boot_tuple (pa_cons (pe_lc (own := [("_law_k", 5)]) (g := gName 5) (tt := tYes) rfl sc_l_turned.nd (pi_range1 (by rfl) T.n_range (pa_cons pe_int pa_nil)) (blkOk_by (own := [("_law_k", 5)]) (N := N_l_turned) (sc := defScope s_l_turned) (by decide +kernel)) (fun _ _ _ _ _ => pg_name (i := 5) sc_l_turned.nd rfl (Or.inl rfl)) (fun _ _ _ _ _ => pts_nil) (fun _ _ _ _ _ => (pe_ix ix_list (pv 4) (pe_callH H_l_beside (hr.mono (by decide)) rfl pass0 (pa_cons (pv 5) (pa_cons (pe_op op_fdiv (pv 3) pe_int) pa_nil))) (fun _ _ => rfl)))) pa_nil)))) pss_nil)
    (pss_cons (ps_if (PW.pt (pw_and (pt_cmpR op_eq (pv 0) pe_int (nomark _)) (pw_and (pt_cmpR op_eq (pv 1) pe_int (nomark _)) (pw_and1 (pt_cmpR op_gt (pe_op op_mod (pv 3) pe_int) pe_int (nomark _)))))) (pss_one (ps_ret (pe_callTy call_tuple_of (by rfl) T.n_tuple PyProof.Rows.boot_tuple (pa_cons (pe_lc (own := [("_law_k", 5)]) (g := gName 5) (tt := tYes) rfl sc_l_turned.nd (pi_range1 (by rfl) T.n_range (pa_cons pe_int pa_nil)) (blkOk_by (own := [("_law_k", 5)]) (N := N_l_turned) (sc := defScope s_l_turned) (by decide +kernel)) (fun _ _ _ _ _ => pg_name (i := 5) sc_l_turned.nd rfl (Or.inl rfl)) (fun _ _ _ _ _ => pts_nil) (fun _ _ _ _ _ => (pe_ix ix_list (pv 4) (pe_callH H_l_between (hr.mono (by decide)) rfl pass0 (pa_cons (pv 5) (pa_cons (pe_op op_fdiv (pv 3) pe_int) pa_nil))) (fun _ _ => rfl)))) pa_nil)))) pss_nil)
    (pss_cons (ps_set (i := 6) sc_l_turned.nd rfl (Or.inr rfl) (pe_ix ix_list (pe_lst (pa_cons pe_int (pa_cons (pv 0) (pa_cons (pe_op op_mul (pv 0) (pv 0)) (pa_cons (pe_op op_mul (pe_op op_mul (pv 0) (pv 0)) (pv 0)) pa_nil))))) (pe_op op_mod (pe_op op_fdiv (pv 3) pe_int) (pv 1)) (fun _ _ => rfl)))
    (pss_one (ps_ret (pe_callTy call_tuple_of (by rfl) T.n_tuple PyProof.Rows.boot_tuple (pa_cons (pe_lc (own := [("_law_k", 5)]) (g := gName 5) (tt := tYes) rfl sc_l_turned.nd (pi_range1 (by rfl) T.n_range (pa_cons (pv 2) pa_nil)) (blkOk_by (own := [("_law_k", 5)]) (N := N_l_turned) (sc := defScope s_l_turned) (by decide +kernel)) (fun _ _ _ _ _ => pg_name (i := 5) sc_l_turned.nd rfl (Or.inl rfl)) (fun _ _ _ _ _ => pts_nil) (fun _ _ _ _ _ => (pe_ix ix_list (pv 4) (pe_op op_mod (pe_op op_fdiv (pv 5) (pv 6)) (pv 0)) (fun _ _ => rfl)))) pa_nil)))))))))
theorem ok_l_turned (D : Std K mg "_law_turned" s_l_turned ["_law_signs", "_law_wide", "_law_rows", "_law_more"]) (T : Txt K mg c) (H_l_beside : Has P w K mg base CX0 1 "_law_beside" ["_law_k", "_law_way"] (sp_l_beside K c)) (H_l_between : Has P w K mg base CX0 1 "_law_between" ["_law_k", "_law_way"] (sp_l_between K c)) : Has P w K mg base CX0 2 "_law_turned" ["_law_signs", "_law_wide", "_law_rows", "_law_more"] (sp_l_turned K c) := D.has fun f fd F => fn_l_turned F T H_l_beside H_l_between

theorem sc_l_rule : FnScope N_l_rule ["_law_cell", "_law_more"] (defScope s_l_rule) := ⟨rfl, rfl, rfl, by decide +kernel, rfl, by decide +kernel, by decide +kernel⟩
theorem fn_l_rule {f : Addr} {fd : FuncData} (F : Fun K "_law_rule" "_law_rule" s_l_rule f fd) (T : Txt K mg c) (H_l_random : Has P w K mg base CX0 2 "_law_random" ["_law_signs", "_law_rows", "_law_more"] (sp_l_random K c)) (H_l_mending : Has P w K mg base CX0 2 "_law_mending" ["_law_signs", "_law_rows", "_law_more"] (sp_l_mending K c)) (H_l_turned : Has P w K mg base CX0 2 "_law_turned" ["_law_signs", "_law_wide", "_law_rows", "_law_more"] (sp_l_turned K c)) : FnOk P w K mg base CX0 3 f fd ["_law_cell", "_law_more"] (sp_l_rule K c) := by
  refine F.ok sc_l_rule (fun vs H Q E h => len_l_rule vs H Q E h) (fun cdv A outer s H vs Q E hr h => ⟨t_l_rule K c E, ?_, pure_l_rule vs H Q E h⟩)
  exact (pss_cons (ps_set (i := 2) sc_l_rule.nd rfl (Or.inl rfl) (pe_lst (pa_cons (pe_tup (pa_cons pe_int (pa_cons pe_int (pa_cons pe_int pa_nil)))) (pa_cons (pe_tup (pa_cons pe_int (pa_cons pe_int (pa_cons pe_int pa_nil)))) (pa_cons (pe_tup (pa_cons pe_int (pa_cons pe_int (pa_cons pe_int pa_nil)))) (pa_cons (pe_tup (pa_cons pe_int (pa_cons pe_int (pa_cons pe_int pa_nil)))) (pa_cons (pe_tup (pa_cons pe_int (pa_cons pe_int (pa_cons pe_int pa_nil)))) (pa_cons (pe_tup (pa_cons pe_int (pa_cons pe_int (pa_cons pe_int pa_nil)))) (pa_cons (pe_tup (pa_cons pe_int (pa_cons pe_int (pa_cons pe_int pa_nil)))) (pa_cons (pe_tup (pa_cons pe_int (pa_cons pe_int (pa_cons pe_int pa_nil)))) pa_nil))))))))))
    (pss_cons (ps_asg (pe_ix ix_list (pv 2) (pe_op op_mod (pv 0) pe_int) (fun _ _ => rfl)) (pg_tup (n := 3) (by rfl) (pgs_cons (pg_name (i := 3) sc_l_rule.nd rfl (Or.inl rfl)) (pgs_cons (pg_name (i := 4) sc_l_rule.nd rfl (Or.inl rfl)) (pgs_cons (pg_name (i := 5) sc_l_rule.nd rfl (Or.inl rfl)) pgs_nil)))))
    (pss_cons (ps_if (pt_cmpR op_eq (pe_op op_mod (pe_op op_fdiv (pv 0) pe_int) pe_int) pe_int (nomark _)) (pss_one (ps_ret (pe_tup (pa_cons (pv 3) (pa_cons (pv 4) (pa_cons (pe_callH H_l_mending (hr.mono (by decide)) rfl pass0 (pa_cons (pv 3) (pa_cons (pv 5) (pa_cons (pv 1) pa_nil)))) pa_nil)))))) pss_nil)
    (pss_cons (ps_if (pt_cmpR op_gt (pe_op op_mod (pe_op op_fdiv (pv 0) pe_int) pe_int) pe_int (nomark _)) (pss_one (ps_ret (pe_tup (pa_cons (pv 3) (pa_cons (pv 4) (pa_cons (pe_callH H_l_turned (hr.mono (by decide)) rfl pass0 (pa_cons (pv 3) (pa_cons (pv 4) (pa_cons (pv 5) (pa_cons (pv 1) pa_nil))))) pa_nil)))))) pss_nil)
    (pss_one (ps_ret (pe_tup (pa_cons (pv 3) (pa_cons (pv 4) (pa_cons (pe_callH H_l_random (hr.mono (by decide)) rfl pass0 (pa_cons (pv 3) (pa_cons (pv 5) (pa_cons (pv 1) pa_nil)))) pa_nil))))))))))
theorem ok_l_rule (D : Std K mg "_law_rule" s_l_rule ["_law_cell", "_law_more"]) (T : Txt K mg c) (H_l_random : Has P w K mg base CX0 2 "_law_random" ["_law_signs", "_law_rows", "_law_more"] (sp_l_random K c)) (H_l_mending : Has P w K mg base CX0 2 "_law_mending" ["_law_signs", "_law_rows", "_law_more"] (sp_l_mending K c)) (H_l_turned : Has P w K mg base CX0 2 "_law_turned" ["_law_signs", "_law_wide", "_law_rows", "_law_more"] (sp_l_turned K c)) : Has P w K mg base CX0 3 "_law_rule" ["_law_cell", "_law_more"] (sp_l_rule K c) := D.has fun f fd F => fn_l_rule F T H_l_random H_l_mending H_l_turned

theorem sc_l_sign : FnScope N_l_sign ["_law_cell"] (defScope s_l_sign) := ⟨rfl, rfl, rfl, by decide +kernel, rfl, by decide +kernel, by decide +kernel⟩
theorem fn_l_sign {f : Addr} {fd : FuncData} (F : Fun K "_law_sign" "_law_sign" s_l_sign f fd) (T : Txt K mg c)  : FnOk P w K mg base CX0 1 f fd ["_law_cell"] (sp_l_sign K c) := by
  refine F.ok sc_l_sign (fun vs H Q E h => len_l_sign vs H Q E h) (fun cdv A outer s H vs Q E hr h => ⟨t_l_sign K c E, ?_, pure_l_sign vs H Q E h⟩)
  exact (pss_cons (ps_set (i := 1) sc_l_sign.nd rfl (Or.inl rfl) pe_str)
    (pss_cons (ps_set (i := 1) sc_l_sign.nd rfl (Or.inl rfl) (pe_op op_add_str (pv 1) pe_str))
    (pss_one (ps_ret (pe_ix ix_list (pe_lst (pa_cons (pe_ix ix_str (pv 1) (pe_op op_mod (pe_op op_fdiv (pv 0) pe_int) (pe_callB call_len_str (by rfl) T.n_len PySem.boot_len (pa_cons (pv 1) pa_nil))) (fun _ _ => rfl)) (pa_cons (pe_ix ix_str pe_str (pe_op op_mod (pe_op op_fdiv (pv 0) pe_int) pe_int) (fun _ _ => rfl)) (pa_cons (pe_ix ix_str pe_str (pe_op op_mod (pe_op op_fdiv (pv 0) pe_int) pe_int) (fun _ _ => rfl)) pa_nil)))) (pe_op op_mod (pv 0) pe_int) (fun _ _ => rfl))))))
theorem ok_l_sign (D : Std K mg "_law_sign" s_l_sign ["_law_cell"]) (T : Txt K mg c)  : Has P w K mg base CX0 1 "_law_sign" ["_law_cell"] (sp_l_sign K c) := D.has fun f fd F => fn_l_sign F T 

theorem sc_l_bent : FnScope N_l_bent ["_law_text", "_law_cell"] (defScope s_l_bent) := ⟨rfl, rfl, rfl, by decide +kernel, rfl, by decide +kernel, by decide +kernel⟩
theorem fn_l_bent {f : Addr} {fd : FuncData} (F : Fun K "_law_bent" "_law_bent" s_l_bent f fd) (T : Txt K mg c) (H_l_sign : Has P w K mg base CX0 1 "_law_sign" ["_law_cell"] (sp_l_sign K c)) : FnOk P w K mg base CX0 2 f fd ["_law_text", "_law_cell"] (sp_l_bent K c) := by
  refine F.ok sc_l_bent (fun vs H Q E h => len_l_bent vs H Q E h) (fun cdv A outer s H vs Q E hr h => ⟨t_l_bent K c E, ?_, pure_l_bent vs H Q E h⟩)
  exact (pss_cons (ps_set (i := 2) sc_l_bent.nd rfl (Or.inl rfl) (pe_op op_mod (pe_op op_fdiv (pv 1) pe_int) (pe_op op_add (pe_callB call_len_str (by rfl) T.n_len PySem.boot_len (pa_cons (pv 0) pa_nil)) pe_int)))
    (pss_cons (ps_set (i := 3) sc_l_bent.nd rfl (Or.inl rfl) (pe_callH H_l_sign (hr.mono (by decide)) rfl pass0 (pa_cons (pe_op op_fdiv (pe_op op_fdiv (pv 1) pe_int) (pe_op op_add (pe_callB call_len_str (by rfl) T.n_len PySem.boot_len (pa_cons (pv 0) pa_nil)) pe_int)) pa_nil)))
    (pss_cons (ps_if (pt_cmpR op_eq (pe_op op_mod (pv 1) pe_int) pe_int (nomark _)) (pss_one (ps_ret (pe_op op_add_str (pe_op op_add_str (pe_slice sl_str (pv 0) po_none (po_some (pv 2))) (pv 3)) (pe_slice sl_str (pv 0) (po_some (pv 2)) po_none)))) pss_nil)
    (pss_cons (ps_if (pt_cmpR op_eq (pe_op op_mod (pv 1) pe_int) pe_int (nomark _)) (pss_one (ps_ret (pe_op op_add_str (pe_slice sl_str (pv 0) po_none (po_some (pv 2))) (pe_slice sl_str (pv 0) (po_some (pe_op op_add (pv 2) pe_int)) po_none)))) pss_nil)
    (pss_cons (ps_if (pt_cmpR op_eq (pe_op op_mod (pv 1) pe_int) pe_int (nomark _)) (pss_one (ps_ret (pe_op op_add_str (pe_op op_add_str (pe_slice sl_str (pv 0) po_none (po_some (pv 2))) (pv 3)) (pe_slice sl_str (pv 0) (po_some (pe_op op_add (pv 2) pe_int)) po_none)))) pss_nil)
    (pss_one (ps_ret (pe_ix ix_list (pe_lst (pa_cons pe_str (pa_cons pe_str (pa_cons pe_str (pa_cons pe_str (pa_cons pe_str (pa_cons pe_str (pa_cons pe_str (pa_cons pe_str (pa_cons pe_str (pa_cons pe_str pa_nil))))))))))) (pe_op op_mod (pe_op op_fdiv (pv 1) pe_int) pe_int) (fun _ _ => rfl)))))))))
theorem ok_l_bent (D : Std K mg "_law_bent" s_l_bent ["_law_text", "_law_cell"]) (T : Txt K mg c) (H_l_sign : Has P w K mg base CX0 1 "_law_sign" ["_law_cell"] (sp_l_sign K c)) : Has P w K mg base CX0 2 "_law_bent" ["_law_text", "_law_cell"] (sp_l_bent K c) := D.has fun f fd F => fn_l_bent F T H_l_sign

theorem sc_l_due : FnScope N_l_due ["_law_text"] (defScope s_l_due) := ⟨rfl, rfl, rfl, by decide +kernel, rfl, by decide +kernel, by decide +kernel⟩
theorem fn_l_due {f : Addr} {fd : FuncData} (F : Fun K "_law_due" "_law_due" s_l_due f fd) (T : Txt K mg c)  : FnOk P w K mg base CX0 1 f fd ["_law_text"] (sp_l_due K c) := by
  refine F.ok sc_l_due (fun vs H Q E h => len_l_due vs H Q E h) (fun cdv A outer s H vs Q E hr h => ⟨t_l_due K c E, ?_, pure_l_due vs H Q E h⟩)
  exact (pss_cons (ps_set (i := 1) sc_l_due.nd rfl (Or.inl rfl) (pe_split (pv 0) pe_str))
    (pss_cons (ps_if (PW.pt (pw_or (pt_cmpR op_ne (pe_callB call_len_seq (by rfl) T.n_len PySem.boot_len (pa_cons (pv 1) pa_nil)) pe_int (nomark _)) (pw_or (pt_cmpR op_notIn_seq (pe_ix ix_list (pv 1) pe_int (fun _ _ => rfl)) (pe_tup (pa_cons pe_str (pa_cons pe_str (pa_cons pe_str pa_nil)))) (by with_unfolding_all rfl)) (pw_or1 (pt_cmpR op_notIn_seq (pe_ix ix_list (pv 1) pe_int (fun _ _ => rfl)) (pe_tup (pa_cons pe_str (pa_cons pe_str (pa_cons pe_str (pa_cons pe_str pa_nil))))) (by with_unfolding_all rfl)))))) (pss_one (ps_ret pe_non)) pss_nil)
    (pss_cons (ps_set (i := 2) sc_l_due.nd rfl (Or.inr rfl) (pe_callTy call_int_str (by rfl) T.n_int PyProof.Rows.boot_int (pa_cons (pe_ix ix_list (pv 1) pe_int (fun _ _ => rfl)) pa_nil)))
    (pss_cons (ps_set (i := 3) sc_l_due.nd rfl (Or.inl rfl) pe_int)
    (pss_cons (ps_for PassesOwn.never rfl (pi_range1 (by rfl) T.n_range (pa_cons (pe_callTy call_int_str (by rfl) T.n_int PyProof.Rows.boot_int (pa_cons (pe_ix ix_list (pv 1) pe_int (fun _ _ => rfl)) pa_nil)) pa_nil)) (pg_name (i := 4) sc_l_due.nd rfl (Or.inl rfl)) (pss_one (ps_set (i := 3) sc_l_due.nd rfl (Or.inl rfl) (pe_op op_mul (pv 3) (pv 2)))))
    (pss_cons (ps_if (PW.pt (pw_or (pt_cmpR op_gt (pv 3) pe_int (nomark _)) (pw_or (pt_cmpR op_ne (pe_callB call_len_str (by rfl) T.n_len PySem.boot_len (pa_cons (pe_ix ix_list (pv 1) pe_int (fun _ _ => rfl)) pa_nil)) (pv 3) (nomark _)) (pw_or1 (pt_cmpR (op_neD hr.units) (pe_lc (own := [("_law_sign_here", 5)]) (g := gName 5) (tt := (tTest (tOp oNotIn1 (tVar 5) (tSl rSlS (tC (.str "0123")) tNoPart (tPart (tVar 2)))))) rfl sc_l_due.nd (pi_str (pe_ix ix_list (pv 1) pe_int (fun _ _ => rfl))) (blkOk_by (own := [("_law_sign_here", 5)]) (N := N_l_due) (sc := defScope s_l_due) (by decide +kernel)) (fun _ _ _ _ _ => pg_name (i := 5) sc_l_due.nd rfl (Or.inl rfl)) (fun _ _ _ _ _ => pts_one (pt_cmpR op_notIn_sign (pv 5) (pe_slice sl_str pe_str po_none (po_some (pv 2))) (by with_unfolding_all rfl))) (fun _ _ _ _ _ => (pv 5))) (pe_lst pa_nil) (nomark _)))))) (pss_one (ps_ret pe_non)) pss_nil)
    (pss_one (ps_ret (pe_tup (pa_cons (pv 2) (pa_cons (pe_callTy call_int_str (by rfl) T.n_int PyProof.Rows.boot_int (pa_cons (pe_ix ix_list (pv 1) pe_int (fun _ _ => rfl)) pa_nil)) (pa_cons (pe_callTy call_tuple_of (by rfl) T.n_tuple PyProof.Rows.boot_tuple (pa_cons (pe_lc (own := [("_law_sign_here", 5)]) (g := gName 5) (tt := tYes) rfl sc_l_due.nd (pi_str (pe_ix ix_list (pv 1) pe_int (fun _ _ => rfl))) (blkOk_by (own := [("_law_sign_here", 5)]) (N := N_l_due) (sc := defScope s_l_due) (by decide +kernel)) (fun _ _ _ _ _ => pg_name (i := 5) sc_l_due.nd rfl (Or.inl rfl)) (fun _ _ _ _ _ => pts_nil) (fun _ _ _ _ _ => (pe_callTy call_int_str (by rfl) T.n_int PyProof.Rows.boot_int (pa_cons (pv 5) pa_nil)))) pa_nil)) pa_nil))))))))))))
theorem ok_l_due (D : Std K mg "_law_due" s_l_due ["_law_text"]) (T : Txt K mg c)  : Has P w K mg base CX0 1 "_law_due" ["_law_text"] (sp_l_due K c) := D.has fun f fd F => fn_l_due F T 

theorem sc_l_read : FnScope N_l_read ["_law_text"] (defScope s_l_read) := ⟨rfl, rfl, rfl, by decide +kernel, rfl, by decide +kernel, by decide +kernel⟩
theorem fn_l_read {f : Addr} {fd : FuncData} (F : Fun K "_law_read" "_law_read" s_l_read f fd) (T : Txt K mg c) (H_read : Has P w K mg base (L2.CX P w) 4 "read" ["text"] (sp_read K c)) : FnOk P w K mg base CX0 5 f fd ["_law_text"] (sp_l_read K c) := by
  refine F.ok sc_l_read (fun vs H Q E h => len_l_read vs H Q E h) (fun cdv A outer s H vs Q E hr h => ⟨t_l_read K c E, ?_, pure_l_read T.kf vs H Q E h⟩)
  exact (pss_one (ps_try_asW (i := 1) (cd := c.BadText) rfl rfl sc_l_read.nd rfl rfl ⟨rfl, by decide, Or.inl T.c_RowError⟩ takes0 (fun W pn xe tk _ => (pss_one (ps_ret (pe_callSH H_read (hr.mono (by decide)) rfl (fun σ => passAt tk σ) (by exact (pa_cons (pv 0) pa_nil)))))) (fun a oe pn hz hf => (pss_cons (ps_set (i := 2) sc_l_read.nd rfl (Or.inl rfl) (pe_or (pe_callB (call_isE T.ec_BadText hz hf) (by rfl) T.n_isinstance PyProof.Rows.boot_isinstance (pa_cons (pv 1) (pa_cons (pe_glob rfl T.c_BadRule rfl) pa_nil))) (pe_or (pe_callB (call_isE T.ec_BadText hz hf) (by rfl) T.n_isinstance PyProof.Rows.boot_isinstance (pa_cons (pv 1) (pa_cons (pe_glob rfl T.c_BadRow rfl) pa_nil))) (pe_one (pe_callB (call_isE T.ec_BadText hz hf) (by rfl) T.n_isinstance PyProof.Rows.boot_isinstance (pa_cons (pv 1) (pa_cons (pe_glob rfl T.c_TooWide rfl) pa_nil)))))))
    (pss_cons (ps_set (i := 2) sc_l_read.nd rfl (Or.inl rfl) (pe_or (pv 2) (pe_one (pe_callB (call_isE T.ec_BadText hz hf) (by rfl) T.n_isinstance PyProof.Rows.boot_isinstance (pa_cons (pv 1) (pa_cons (pe_glob rfl T.c_NoBack rfl) pa_nil))))))
    (pss_one (ps_ret (pe_ifExp (PW.pt (pw_and (pt_val (pe_callB (call_isE T.ec_BadText hz hf) (by rfl) T.n_isinstance PyProof.Rows.boot_isinstance (pa_cons (pv 1) (pa_cons (pe_glob rfl T.c_BadText rfl) pa_nil)))) (pw_and (pt_val (pe_callB (call_isE T.ec_BadText hz hf) (by rfl) T.n_isinstance PyProof.Rows.boot_isinstance (pa_cons (pv 1) (pa_cons (pe_bltn (v := .ty "ValueError") rfl T.n_ValueError (by decide +kernel) rfl) pa_nil)))) (pw_and1 (pt_not (pt_val (pv 2))))))) pe_non (pe_lst (pa_cons pe_int pa_nil))))))))))
theorem ok_l_read (D : Std K mg "_law_read" s_l_read ["_law_text"]) (T : Txt K mg c) (H_read : Has P w K mg base (L2.CX P w) 4 "read" ["text"] (sp_read K c)) : Has P w K mg base CX0 5 "_law_read" ["_law_text"] (sp_l_read K c) := D.has fun f fd F => fn_l_read F T H_read

theorem sc_l_alike : FnScope N_l_alike ["_law_found", "_law_due_here"] (defScope s_l_alike) := ⟨rfl, rfl, rfl, by decide +kernel, rfl, by decide +kernel, by decide +kernel⟩
theorem fn_l_alike {f : Addr} {fd : FuncData} (F : Fun K "_law_alike" "_law_alike" s_l_alike f fd) (T : Txt K mg c)  : FnOk P w K mg base CX0 1 f fd ["_law_found", "_law_due_here"] (sp_l_alike K c) := by
  refine F.ok sc_l_alike (fun vs H Q E h => len_l_alike vs H Q E h) (fun cdv A outer s H vs Q E hr h => ⟨t_l_alike K c E, ?_, pure_l_alike vs H Q E h⟩)
  exact (pss_cons (ps_if (PW.pt (pw_or (pt_cmpR op_isN (pv 1) pe_non (nomark _)) (pw_or1 (pt_cmpR op_isN (pv 0) pe_non (nomark _))))) (pss_one (ps_ret (pe_and (pe_cmpR op_isN (pv 0) pe_non (nomark _)) (pe_one (pe_cmpR op_isN (pv 1) pe_non (nomark _)))))) pss_nil)
    (pss_cons (ps_if (PW.pt (pw_or (pt_not (pt_val (pe_callB call_isi (by rfl) T.n_isinstance PyProof.Rows.boot_isinstance (pa_cons (pv 0) (pa_cons (pe_bltn (v := .ty "tuple") rfl T.n_tuple PyProof.Rows.boot_tuple rfl) pa_nil))))) (pw_or (pt_cmpR (op_neD hr.units) (pv 0) (pv 1) (nomark _)) (pw_or1 (pt_not (pt_val (pe_callB call_isi (by rfl) T.n_isinstance PyProof.Rows.boot_isinstance (pa_cons (pe_ix ix_tup (pv 0) pe_int (fun _ _ => rfl)) (pa_cons (pe_bltn (v := .ty "tuple") rfl T.n_tuple PyProof.Rows.boot_tuple rfl) pa_nil))))))))) (pss_one (ps_ret pe_bl)) pss_nil)
    (pss_one (ps_ret (pe_cmpR (op_eqD hr.units) (pe_lc (own := [("_law_one", 2)]) (g := gName 2) (tt := (tB (tCB (rIsi K) (tCons (tVar 2) (tCons (tC (.ty "bool")) tNil))))) rfl sc_l_alike.nd (pi_tup (pe_op op_catT (pe_slice sl_tup (pv 0) po_none (po_some pe_int)) (pe_ix ix_tup (pv 0) pe_int (fun _ _ => rfl)))) (blkOk_by (own := [("_law_one", 2)]) (N := N_l_alike) (sc := defScope s_l_alike) (by decide +kernel)) (fun _ _ _ _ _ => pg_name (i := 2) sc_l_alike.nd rfl (Or.inl rfl)) (fun _ _ _ _ _ => pts_one (pt_val (pe_callB call_isi (by rfl) T.n_isinstance PyProof.Rows.boot_isinstance (pa_cons (pv 2) (pa_cons (pe_bltn (v := .ty "bool") rfl T.n_bool PyProof.Rows.boot_bool rfl) pa_nil))))) (fun _ _ _ _ _ => (pv 2))) (pe_lst pa_nil) (nomark _))))))
theorem ok_l_alike (D : Std K mg "_law_alike" s_l_alike ["_law_found", "_law_due_here"]) (T : Txt K mg c)  : Has P w K mg base CX0 1 "_law_alike" ["_law_found", "_law_due_here"] (sp_l_alike K c) := D.has fun f fd F => fn_l_alike F T 

theorem sc_law : FnScope N_law ["_law_script"] (defScope s_law) := ⟨rfl, rfl, rfl, by decide +kernel, rfl, by decide +kernel, by decide +kernel⟩
theorem fn_law {f : Addr} {fd : FuncData} (F : Fun K "law" "law" s_law f fd) (T : Txt K mg c) (H_l_rule : Has P w K mg base CX0 3 "_law_rule" ["_law_cell", "_law_more"] (sp_l_rule K c)) (H_l_alike : Has P w K mg base CX0 1 "_law_alike" ["_law_found", "_law_due_here"] (sp_l_alike K c)) (H_l_cell_at : Has P w K mg base CX0 1 "_law_cell_at" ["_law_script", "_law_k"] (sp_l_cell_at K c)) (H_shown : Has P w K mg base CX0 5 "shown" ["rule"] (sp_shown K c)) (H_l_read : Has P w K mg base CX0 5 "_law_read" ["_law_text"] (sp_l_read K c)) (H_l_bent : Has P w K mg base CX0 2 "_law_bent" ["_law_text", "_law_cell"] (sp_l_bent K c)) (H_l_due : Has P w K mg base CX0 1 "_law_due" ["_law_text"] (sp_l_due K c)) : FnOk P w K mg base CX0 6 f fd ["_law_script"] (sp_law K c) := by
  refine F.ok sc_law (fun vs H Q E h => len_law vs H Q E h) (fun cdv A outer s H vs Q E hr h => ⟨t_law K c E, ?_, pure_law vs H Q E h⟩)
  exact (pss_cons (ps_set (i := 1) sc_law.nd rfl (Or.inl rfl) (pe_callH H_l_rule (hr.mono (by decide)) rfl pass0 (pa_cons (pe_callH H_l_cell_at (hr.mono (by decide)) rfl pass0 (pa_cons (pv 0) (pa_cons pe_int pa_nil))) (pa_cons (pe_callH H_l_cell_at (hr.mono (by decide)) rfl pass0 (pa_cons (pv 0) (pa_cons pe_int pa_nil))) pa_nil))))
    (pss_cons (ps_set (i := 2) sc_law.nd rfl (Or.inl rfl) (pe_op op_add_str (pe_op op_add_str (pe_op op_add_str (pe_callTy call_str_int (by rfl) T.n_str PyProof.Rows.boot_str (pa_cons (pe_ix ix_tup (pv 1) pe_int (fun _ _ => rfl)) pa_nil)) pe_str) (pe_callTy call_str_int (by rfl) T.n_str PyProof.Rows.boot_str (pa_cons (pe_ix ix_tup (pv 1) pe_int (fun _ _ => rfl)) pa_nil))) pe_str))
    (pss_cons (ps_for PassesOwn.never rfl (pi_tup (pe_ix ix_tup (pv 1) pe_int (fun _ _ => rfl))) (pg_name (i := 3) sc_law.nd rfl (Or.inl rfl)) (pss_one (ps_set (i := 2) sc_law.nd rfl (Or.inl rfl) (pe_op op_add_str (pv 2) (pe_callTy call_str_int (by rfl) T.n_str PyProof.Rows.boot_str (pa_cons (pv 3) pa_nil))))))
    (pss_cons (ps_for PassesOwn.never rfl (pi_range1 (by rfl) T.n_range (pa_cons pe_int pa_nil)) (pg_name (i := 4) sc_law.nd rfl (Or.inl rfl)) (pss_cons (ps_set (i := 5) sc_law.nd rfl (Or.inl rfl) (pe_callH H_shown (hr.mono (by decide)) rfl pass0 (pa_cons (pv 1) pa_nil)))
    (pss_one (ps_if (PW.pt (pw_or (pt_not (pt_val (pe_callB call_isi (by rfl) T.n_isinstance PyProof.Rows.boot_isinstance (pa_cons (pv 5) (pa_cons (pe_bltn (v := .ty "str") rfl T.n_str PyProof.Rows.boot_str rfl) pa_nil))))) (pw_or (pt_cmpR op_ne (pv 5) (pv 2) (nomark _)) (pw_or1 (pt_not (pt_val (pe_callH H_l_alike (hr.mono (by decide)) rfl pass0 (pa_cons (pe_callH H_l_read (hr.mono (by decide)) rfl pass0 (pa_cons (pv 2) pa_nil)) (pa_cons (pv 1) pa_nil))))))))) (pss_one (ps_ret pe_bl)) pss_nil))))
    (pss_cons (ps_set (i := 6) sc_law.nd rfl (Or.inl rfl) (pe_ix ix_list (pe_lst (pa_cons pe_non (pa_cons pe_int (pa_cons pe_bl (pa_cons (pe_lst (pa_cons pe_str pa_nil)) (pa_cons (pe_tup (pa_cons pe_str (pa_cons pe_str (pa_cons pe_str pa_nil)))) (pa_cons pe_dnewK (pa_cons (pv 1) (pa_cons pe_int pa_nil))))))))) (pe_op op_mod (pe_callH H_l_cell_at (hr.mono (by decide)) rfl pass0 (pa_cons (pv 0) (pa_cons pe_int pa_nil))) pe_int) (fun _ _ => rfl)))
    (pss_cons (ps_if (pt_cmpR op_notN (pe_callH H_l_read (hr.mono (by decide)) rfl pass0 (pa_cons (pv 6) pa_nil)) pe_non (nomark _)) (pss_one (ps_ret pe_bl)) pss_nil)
    (pss_cut (ps_if (pt_cmpR op_gt (pe_op op_mod (pe_callH H_l_cell_at (hr.mono (by decide)) rfl pass0 (pa_cons (pv 0) (pa_cons pe_int pa_nil))) pe_int) pe_int (nomark _)) (pss_one (ps_set (i := 2) sc_law.nd rfl (Or.inl rfl) (pe_callH H_l_bent (hr.mono (by decide)) rfl pass0 (pa_cons (pv 2) (pa_cons (pe_op op_fdiv (pe_callH H_l_cell_at (hr.mono (by decide)) rfl pass0 (pa_cons (pv 0) (pa_cons pe_int pa_nil))) pe_int) pa_nil))))) pss_nil)
    (pss_one (ps_ret (pe_callH H_l_alike (hr.mono (by decide)) rfl pass0 (pa_cons (pe_callH H_l_read (hr.mono (by decide)) rfl pass0 (pa_cons (pv 2) pa_nil)) (pa_cons (pe_callH H_l_due (hr.mono (by decide)) rfl pass0 (pa_cons (pv 2) pa_nil)) pa_nil))))))))))))
theorem ok_law (D : Std K mg "law" s_law ["_law_script"]) (T : Txt K mg c) (H_l_rule : Has P w K mg base CX0 3 "_law_rule" ["_law_cell", "_law_more"] (sp_l_rule K c)) (H_l_alike : Has P w K mg base CX0 1 "_law_alike" ["_law_found", "_law_due_here"] (sp_l_alike K c)) (H_l_cell_at : Has P w K mg base CX0 1 "_law_cell_at" ["_law_script", "_law_k"] (sp_l_cell_at K c)) (H_shown : Has P w K mg base CX0 5 "shown" ["rule"] (sp_shown K c)) (H_l_read : Has P w K mg base CX0 5 "_law_read" ["_law_text"] (sp_l_read K c)) (H_l_bent : Has P w K mg base CX0 2 "_law_bent" ["_law_text", "_law_cell"] (sp_l_bent K c)) (H_l_due : Has P w K mg base CX0 1 "_law_due" ["_law_text"] (sp_l_due K c)) : Has P w K mg base CX0 6 "law" ["_law_script"] (sp_law K c) := D.has fun f fd F => fn_law F T H_l_rule H_l_alike H_l_cell_at H_shown H_l_read H_l_bent H_l_due
end
end Br4

namespace Br4
open PySem PySem.Spec PyProof.Rows L2 Evl Br TL
theorem law_end {P : Program} {w : World} {K : PySem.W.Frag} {h : Heap} {mg : Str → Option Value} {fa f1 CRowError CBadRule CBadRow CTooWide CNoBack CBadText : Addr} {oc : Value} {od : Option Addr} {kV doc pm : Value} {an : Option Addr} {cdv ct : Value} {osl : Array (Option Value)} {tk_MOST_SIGNS tk_MOST_WIDE tk_MOST_ROWS tk_FIGURES : Tok} (X : K.In h) (G : h.Ns mainGlobals mg) (hfa : mg "law" = some (.ref fa))
    (la : PySem.W.nsIn K mainGlobals "law" = some (some (.ref f1))) (ll : K.lookup f1 = some ⟨oc, od, .func (PySem.W.fnOf "law" "law" (defArgs s_law) (defBody s_law) (defScope s_law) .none kV doc pm an cdv ct), osl⟩) (lc : PySem.W.codeIn K cdv "law" = true) (lk : PySem.W.keepIn K (.ref f1) = true)
    (e_RowError : ErrK K "RowError" CRowError)
    (e_BadRule : ErrK K "BadRule" CBadRule)
    (e_BadRow : ErrK K "BadRow" CBadRow)
    (e_TooWide : ErrK K "TooWide" CTooWide)
    (e_NoBack : ErrK K "NoBack" CNoBack)
    (e_BadText : ErrK K "BadText" CBadText)
    (x_BadText : ExcC K CBadText)
    (m_BadText : PySem.W.subIn K (.ref CBadText) (.ref CRowError) = some true)
    (v_BadText : PySem.W.subIn K (.ref CBadText) (.type "ValueError") = some true)
    (n_BadText_BadRule : PySem.W.subIn K (.ref CBadText) (.ref CBadRule) = some false)
    (q_BadText_BadRule : (Value.ref CBadText == Value.ref CBadRule) = false)
    (n_BadText_BadRow : PySem.W.subIn K (.ref CBadText) (.ref CBadRow) = some false)
    (q_BadText_BadRow : (Value.ref CBadText == Value.ref CBadRow) = false)
    (n_BadText_TooWide : PySem.W.subIn K (.ref CBadText) (.ref CTooWide) = some false)
    (q_BadText_TooWide : (Value.ref CBadText == Value.ref CTooWide) = false)
    (n_BadText_NoBack : PySem.W.subIn K (.ref CBadText) (.ref CNoBack) = some false)
    (q_BadText_NoBack : (Value.ref CBadText == Value.ref CNoBack) = false)
    (z_ValueError : PySem.W.nsIn K mainGlobals "ValueError" = some none)
    (z_all : PySem.W.nsIn K mainGlobals "all" = some none)
    (z_bool : PySem.W.nsIn K mainGlobals "bool" = some none)
    (z_int : PySem.W.nsIn K mainGlobals "int" = some none)
    (z_isinstance : PySem.W.nsIn K mainGlobals "isinstance" = some none)
    (z_len : PySem.W.nsIn K mainGlobals "len" = some none)
    (z_range : PySem.W.nsIn K mainGlobals "range" = some none)
    (z_str : PySem.W.nsIn K mainGlobals "str" = some none)
    (z_tuple : PySem.W.nsIn K mainGlobals "tuple" = some none)
    (z_type : PySem.W.nsIn K mainGlobals "type" = some none)
    (y_MOST_SIGNS : PySem.W.nsIn K mainGlobals "MOST_SIGNS" = some (some (.int 4 tk_MOST_SIGNS)))
    (y_MOST_WIDE : PySem.W.nsIn K mainGlobals "MOST_WIDE" = some (some (.int 4 tk_MOST_WIDE)))
    (y_MOST_ROWS : PySem.W.nsIn K mainGlobals "MOST_ROWS" = some (some (.int 16 tk_MOST_ROWS)))
    (y_FIGURES : PySem.W.nsIn K mainGlobals "FIGURES" = some (some (.str "0123456789" tk_FIGURES)))
    (d_rows_of : StdK K "rows_of" s_rows_of)
    (d_is_from_to : StdK K "_is_from_to" s_is_from_to)
    (d_word_of : StdK K "_word_of" s_word_of)
    (d_figure_of : StdK K "_figure_of" s_figure_of)
    (d_l_cell_at : StdK K "_law_cell_at" s_l_cell_at)
    (d_l_mixed : StdK K "_law_mixed" s_l_mixed)
    (d_l_between : StdK K "_law_between" s_l_between)
    (d_l_beside : StdK K "_law_beside" s_l_beside)
    (d_l_sign : StdK K "_law_sign" s_l_sign)
    (d_l_due : StdK K "_law_due" s_l_due)
    (d_l_alike : StdK K "_law_alike" s_l_alike)
    (d_has_room : StdK K "has_room" s_has_room)
    (d_are_signs : StdK K "are_signs" s_are_signs)
    (d_table_of : StdK K "_table_of" s_table_of)
    (d_l_random : StdK K "_law_random" s_l_random)
    (d_l_mending : StdK K "_law_mending" s_l_mending)
    (d_l_turned : StdK K "_law_turned" s_l_turned)
    (d_l_bent : StdK K "_law_bent" s_l_bent)
    (d_is_rule : StdK K "is_rule" s_is_rule)
    (d_l_rule : StdK K "_law_rule" s_l_rule)
    (d_need_rule : StdK K "need_rule" s_need_rule)
    (d_read : StdK K "read" s_read)
    (d_shown : StdK K "shown" s_shown)
    (d_l_read : StdK K "_law_read" s_l_read) :
    ∃ fd : FuncData, (∀ (s : Shared) (u : Value), BindsTo s fd ⟨[u], []⟩ [("_law_script", u)]) ∧ ∀ base : Heap, K.In base → base.Ns mainGlobals mg → FnOk P w K mg base CX0 6 fa fd ["_law_script"] (sp_law K ⟨0, 0, 0, 0, 0, 0⟩) := by
  have e := hfa.symm.trans (PySem.W.mg_of X G la)
  cases e
  have T : Txt K mg ⟨CRowError, CBadRule, CBadRow, CTooWide, CNoBack, CBadText⟩ := { n_ValueError := PySem.W.mg_none_of X G z_ValueError, n_all := PySem.W.mg_none_of X G z_all, n_bool := PySem.W.mg_none_of X G z_bool, n_int := PySem.W.mg_none_of X G z_int, n_isinstance := PySem.W.mg_none_of X G z_isinstance, n_len := PySem.W.mg_none_of X G z_len, n_range := PySem.W.mg_none_of X G z_range, n_str := PySem.W.mg_none_of X G z_str, n_tuple := PySem.W.mg_none_of X G z_tuple, n_type := PySem.W.mg_none_of X G z_type, k_MOST_SIGNS := ⟨_, PySem.W.mg_of X G y_MOST_SIGNS⟩, k_MOST_WIDE := ⟨_, PySem.W.mg_of X G y_MOST_WIDE⟩, k_MOST_ROWS := ⟨_, PySem.W.mg_of X G y_MOST_ROWS⟩, k_FIGURES := ⟨_, PySem.W.mg_of X G y_FIGURES⟩, c_RowError := PySem.W.mg_of X G e_RowError.n, e_RowError := e_RowError.err, c_BadRule := PySem.W.mg_of X G e_BadRule.n, e_BadRule := e_BadRule.err, c_BadRow := PySem.W.mg_of X G e_BadRow.n, e_BadRow := e_BadRow.err, c_TooWide := PySem.W.mg_of X G e_TooWide.n, e_TooWide := e_TooWide.err, c_NoBack := PySem.W.mg_of X G e_NoBack.n, e_NoBack := e_NoBack.err, c_BadText := PySem.W.mg_of X G e_BadText.n, e_BadText := e_BadText.err, ec_BadText := x_BadText, kf := ⟨⟨e_RowError.exm m_BadText, kit_val v_BadText⟩, e_BadRule.kit n_BadText_BadRule q_BadText_BadRule, e_BadRow.kit n_BadText_BadRow q_BadText_BadRow, e_TooWide.kit n_BadText_TooWide q_BadText_TooWide, e_NoBack.kit n_BadText_NoBack q_BadText_NoBack⟩ }
  have D_rows_of : Std K mg "rows_of" s_rows_of ["signs", "wide"] := d_rows_of.std X G (fun _ _ _ _ _ _ us hl => match us, hl with | [_, _], _ => rfl)
  have D_is_from_to : Std K mg "_is_from_to" s_is_from_to ["thing", "least", "most"] := d_is_from_to.std X G (fun _ _ _ _ _ _ us hl => match us, hl with | [_, _, _], _ => rfl)
  have D_word_of : Std K mg "_word_of" s_word_of ["table"] := d_word_of.std X G (fun _ _ _ _ _ _ us hl => match us, hl with | [_], _ => rfl)
  have D_figure_of : Std K mg "_figure_of" s_figure_of ["mark"] := d_figure_of.std X G (fun _ _ _ _ _ _ us hl => match us, hl with | [_], _ => rfl)
  have D_l_cell_at : Std K mg "_law_cell_at" s_l_cell_at ["_law_script", "_law_k"] := d_l_cell_at.std X G (fun _ _ _ _ _ _ us hl => match us, hl with | [_, _], _ => rfl)
  have D_l_mixed : Std K mg "_law_mixed" s_l_mixed ["_law_cell", "_law_k"] := d_l_mixed.std X G (fun _ _ _ _ _ _ us hl => match us, hl with | [_, _], _ => rfl)
  have D_l_between : Std K mg "_law_between" s_l_between ["_law_k", "_law_way"] := d_l_between.std X G (fun _ _ _ _ _ _ us hl => match us, hl with | [_, _], _ => rfl)
  have D_l_beside : Std K mg "_law_beside" s_l_beside ["_law_k", "_law_way"] := d_l_beside.std X G (fun _ _ _ _ _ _ us hl => match us, hl with | [_, _], _ => rfl)
  have D_l_sign : Std K mg "_law_sign" s_l_sign ["_law_cell"] := d_l_sign.std X G (fun _ _ _ _ _ _ us hl => match us, hl with | [_], _ => rfl)
  have D_l_due : Std K mg "_law_due" s_l_due ["_law_text"] := d_l_due.std X G (fun _ _ _ _ _ _ us hl => match us, hl with | [_], _ => rfl)
  have D_l_alike : Std K mg "_law_alike" s_l_alike ["_law_found", "_law_due_here"] := d_l_alike.std X G (fun _ _ _ _ _ _ us hl => match us, hl with | [_, _], _ => rfl)
  have D_has_room : Std K mg "has_room" s_has_room ["signs", "wide"] := d_has_room.std X G (fun _ _ _ _ _ _ us hl => match us, hl with | [_, _], _ => rfl)
  have D_are_signs : Std K mg "are_signs" s_are_signs ["signs", "cells"] := d_are_signs.std X G (fun _ _ _ _ _ _ us hl => match us, hl with | [_, _], _ => rfl)
  have D_table_of : Std K mg "_table_of" s_table_of ["word"] := d_table_of.std X G (fun _ _ _ _ _ _ us hl => match us, hl with | [_], _ => rfl)
  have D_l_random : Std K mg "_law_random" s_l_random ["_law_signs", "_law_rows", "_law_more"] := d_l_random.std X G (fun _ _ _ _ _ _ us hl => match us, hl with | [_, _, _], _ => rfl)
  have D_l_mending : Std K mg "_law_mending" s_l_mending ["_law_signs", "_law_rows", "_law_more"] := d_l_mending.std X G (fun _ _ _ _ _ _ us hl => match us, hl with | [_, _, _], _ => rfl)
  have D_l_turned : Std K mg "_law_turned" s_l_turned ["_law_signs", "_law_wide", "_law_rows", "_law_more"] := d_l_turned.std X G (fun _ _ _ _ _ _ us hl => match us, hl with | [_, _, _, _], _ => rfl)
  have D_l_bent : Std K mg "_law_bent" s_l_bent ["_law_text", "_law_cell"] := d_l_bent.std X G (fun _ _ _ _ _ _ us hl => match us, hl with | [_, _], _ => rfl)
  have D_is_rule : Std K mg "is_rule" s_is_rule ["thing"] := d_is_rule.std X G (fun _ _ _ _ _ _ us hl => match us, hl with | [_], _ => rfl)
  have D_l_rule : Std K mg "_law_rule" s_l_rule ["_law_cell", "_law_more"] := d_l_rule.std X G (fun _ _ _ _ _ _ us hl => match us, hl with | [_, _], _ => rfl)
  have D_need_rule : Std K mg "need_rule" s_need_rule ["thing"] := d_need_rule.std X G (fun _ _ _ _ _ _ us hl => match us, hl with | [_], _ => rfl)
  have D_read : Std K mg "read" s_read ["text"] := d_read.std X G (fun _ _ _ _ _ _ us hl => match us, hl with | [_], _ => rfl)
  have D_shown : Std K mg "shown" s_shown ["rule"] := d_shown.std X G (fun _ _ _ _ _ _ us hl => match us, hl with | [_], _ => rfl)
  have D_l_read : Std K mg "_law_read" s_l_read ["_law_text"] := d_l_read.std X G (fun _ _ _ _ _ _ us hl => match us, hl with | [_], _ => rfl)
  refine ⟨PySem.W.fnOf "law" "law" (defArgs s_law) (defBody s_law) (defScope s_law) .none kV doc pm an cdv ct, fun s u => .of_eq rfl, fun base _ _ => ?_⟩
  have H_rows_of := ok_rows_of (P := P) (w := w) (base := base) D_rows_of T 
  have H_is_from_to := ok_is_from_to (P := P) (w := w) (base := base) D_is_from_to T 
  have H_word_of := ok_word_of (P := P) (w := w) (base := base) D_word_of T 
  have H_figure_of := ok_figure_of (P := P) (w := w) (base := base) D_figure_of T 
  have H_l_cell_at := ok_l_cell_at (P := P) (w := w) (base := base) D_l_cell_at T 
  have H_l_mixed := ok_l_mixed (P := P) (w := w) (base := base) D_l_mixed T 
  have H_l_between := ok_l_between (P := P) (w := w) (base := base) D_l_between T 
  have H_l_beside := ok_l_beside (P := P) (w := w) (base := base) D_l_beside T 
  have H_l_sign := ok_l_sign (P := P) (w := w) (base := base) D_l_sign T 
  have H_l_due := ok_l_due (P := P) (w := w) (base := base) D_l_due T 
  have H_l_alike := ok_l_alike (P := P) (w := w) (base := base) D_l_alike T 
  have H_has_room := ok_has_room (P := P) (w := w) (base := base) D_has_room T H_rows_of
  have H_are_signs := ok_are_signs (P := P) (w := w) (base := base) D_are_signs T H_is_from_to
  have H_table_of := ok_table_of (P := P) (w := w) (base := base) D_table_of T H_figure_of
  have H_l_random := ok_l_random (P := P) (w := w) (base := base) D_l_random T H_l_mixed
  have H_l_mending := ok_l_mending (P := P) (w := w) (base := base) D_l_mending T H_l_mixed
  have H_l_turned := ok_l_turned (P := P) (w := w) (base := base) D_l_turned T H_l_beside H_l_between
  have H_l_bent := ok_l_bent (P := P) (w := w) (base := base) D_l_bent T H_l_sign
  have H_is_rule := ok_is_rule (P := P) (w := w) (base := base) D_is_rule T H_are_signs H_has_room H_is_from_to H_rows_of
  have H_l_rule := ok_l_rule (P := P) (w := w) (base := base) D_l_rule T H_l_random H_l_mending H_l_turned
  have H_need_rule := ok_need_rule (P := P) (w := w) (base := base) D_need_rule T H_is_rule
  have H_read := ok_read (P := P) (w := w) (base := base) D_read T H_figure_of H_table_of H_is_rule
  have H_shown := ok_shown (P := P) (w := w) (base := base) D_shown T H_need_rule H_word_of
  have H_l_read := ok_l_read (P := P) (w := w) (base := base) D_l_read T H_read
  have Z := fn_law (P := P) (w := w) (base := base) (fun_mk (st := s_law) ll lc lk) T H_l_rule H_l_alike H_l_cell_at H_shown H_l_read H_l_bent H_l_due
  exact Z
end Br4
open PySem PySem.W PyProof.Rows
set_option maxRecDepth 100000 in
set_option maxHeartbeats 0 in
theorem PySem.Challenge.cw_backrule_k04_there_and_back_holds : PySem.Challenge.rw_backrule_k04_there_and_back.Holds := by
  w_on; o_law; k_head; (case hw => w_witness2)
  k_fill
  refine L2.walk_of (l := PySem.Challenge.rw_backrule_k04_there_and_back) (n := 63) (k := 6) (x := "_law_script") (CX := fun _ => L2.CX0) (sp := fun w => Br4.sp_law _ ⟨0, 0, 0, 0, 0, 0⟩) rfl (by decide) rfl ⟨rfl, by decide, by decide⟩ (fun w h Y => PySem.W.kIn_of Y) ?F (fun _ _ a ns hl _ hS => Br4.sp_law_of hl hS) (fun _ _ _ _ _ h => h)
  case F =>
    intro w mg fa h KX G hmg
    refine' Br4.law_end KX G hmg ?la ?ll ?lc ?lk ?e_RowError ?e_BadRule ?e_BadRow ?e_TooWide ?e_NoBack ?e_BadText ?x_BadText ?m_BadText ?v_BadText ?n_BadText_BadRule ?q_BadText_BadRule ?n_BadText_BadRow ?q_BadText_BadRow ?n_BadText_TooWide ?q_BadText_TooWide ?n_BadText_NoBack ?q_BadText_NoBack ?z_ValueError ?z_all ?z_bool ?z_int ?z_isinstance ?z_len ?z_range ?z_str ?z_tuple ?z_type ?y_MOST_SIGNS ?y_MOST_WIDE ?y_MOST_ROWS ?y_FIGURES ?d_rows_of ?d_is_from_to ?d_word_of ?d_figure_of ?d_l_cell_at ?d_l_mixed ?d_l_between ?d_l_beside ?d_l_sign ?d_l_due ?d_l_alike ?d_has_room ?d_are_signs ?d_table_of ?d_l_random ?d_l_mending ?d_l_turned ?d_l_bent ?d_is_rule ?d_l_rule ?d_need_rule ?d_read ?d_shown ?d_l_read
    (case la => k_is)
    (case ll => k_is)
    (case lc => k_is)
    (case lk => k_is)
    (case e_RowError => (refine' ⟨?n, ?x, ?k, ?b, ?t, ?i⟩; (case n => k_is); (case x => k_exc); (case k => k_is); (case b => k_is); (case t => k_is); (case i => k_is)))
    (case e_BadRule => (refine' ⟨?n, ?x, ?k, ?b, ?t, ?i⟩; (case n => k_is); (case x => k_exc); (case k => k_is); (case b => k_is); (case t => k_is); (case i => k_is)))
    (case e_BadRow => (refine' ⟨?n, ?x, ?k, ?b, ?t, ?i⟩; (case n => k_is); (case x => k_exc); (case k => k_is); (case b => k_is); (case t => k_is); (case i => k_is)))
    (case e_TooWide => (refine' ⟨?n, ?x, ?k, ?b, ?t, ?i⟩; (case n => k_is); (case x => k_exc); (case k => k_is); (case b => k_is); (case t => k_is); (case i => k_is)))
    (case e_NoBack => (refine' ⟨?n, ?x, ?k, ?b, ?t, ?i⟩; (case n => k_is); (case x => k_exc); (case k => k_is); (case b => k_is); (case t => k_is); (case i => k_is)))
    (case e_BadText => (refine' ⟨?n, ?x, ?k, ?b, ?t, ?i⟩; (case n => k_is); (case x => k_exc); (case k => k_is); (case b => k_is); (case t => k_is); (case i => k_is)))
    (case x_BadText => (refine' Br.excC_mk ?hg ?hk ?hs ?hd ?ha ?hn ?ht ?hm; (case hg => k_is); (case hk => k_is); (case hs => k_is); (case hd => k_is); (case ha => k_is); (case hn => k_is); (case ht => k_is); (case hm => k_is)))
    (case m_BadText => k_is)
    (case v_BadText => k_is)
    (case n_BadText_BadRule => k_is)
    (case q_BadText_BadRule => decide)
    (case n_BadText_BadRow => k_is)
    (case q_BadText_BadRow => decide)
    (case n_BadText_TooWide => k_is)
    (case q_BadText_TooWide => decide)
    (case n_BadText_NoBack => k_is)
    (case q_BadText_NoBack => decide)
    (case z_ValueError => k_is)
    (case z_all => k_is)
    (case z_bool => k_is)
    (case z_int => k_is)
    (case z_isinstance => k_is)
    (case z_len => k_is)
    (case z_range => k_is)
    (case z_str => k_is)
    (case z_tuple => k_is)
    (case z_type => k_is)
    (case y_MOST_SIGNS => k_is)
    (case y_MOST_WIDE => k_is)
    (case y_MOST_ROWS => k_is)
    (case y_FIGURES => k_is)
    (case d_rows_of => (refine' Br.stdK_mk ?a ?l ?c ?k; (case a => k_is); (case l => k_is); (case c => k_is); (case k => k_is)))
    (case d_is_from_to => (refine' Br.stdK_mk ?a ?l ?c ?k; (case a => k_is); (case l => k_is); (case c => k_is); (case k => k_is)))
    (case d_word_of => (refine' Br.stdK_mk ?a ?l ?c ?k; (case a => k_is); (case l => k_is); (case c => k_is); (case k => k_is)))
    (case d_figure_of => (refine' Br.stdK_mk ?a ?l ?c ?k; (case a => k_is); (case l => k_is); (case c => k_is); (case k => k_is)))
    (case d_l_cell_at => (refine' Br.stdK_mk ?a ?l ?c ?k; (case a => k_is); (case l => k_is); (case c => k_is); (case k => k_is)))
    (case d_l_mixed => (refine' Br.stdK_mk ?a ?l ?c ?k; (case a => k_is); (case l => k_is); (case c => k_is); (case k => k_is)))
    (case d_l_between => (refine' Br.stdK_mk ?a ?l ?c ?k; (case a => k_is); (case l => k_is); (case c => k_is); (case k => k_is)))
    (case d_l_beside => (refine' Br.stdK_mk ?a ?l ?c ?k; (case a => k_is); (case l => k_is); (case c => k_is); (case k => k_is)))
    (case d_l_sign => (refine' Br.stdK_mk ?a ?l ?c ?k; (case a => k_is); (case l => k_is); (case c => k_is); (case k => k_is)))
    (case d_l_due => (refine' Br.stdK_mk ?a ?l ?c ?k; (case a => k_is); (case l => k_is); (case c => k_is); (case k => k_is)))
    (case d_l_alike => (refine' Br.stdK_mk ?a ?l ?c ?k; (case a => k_is); (case l => k_is); (case c => k_is); (case k => k_is)))
    (case d_has_room => (refine' Br.stdK_mk ?a ?l ?c ?k; (case a => k_is); (case l => k_is); (case c => k_is); (case k => k_is)))
    (case d_are_signs => (refine' Br.stdK_mk ?a ?l ?c ?k; (case a => k_is); (case l => k_is); (case c => k_is); (case k => k_is)))
    (case d_table_of => (refine' Br.stdK_mk ?a ?l ?c ?k; (case a => k_is); (case l => k_is); (case c => k_is); (case k => k_is)))
    (case d_l_random => (refine' Br.stdK_mk ?a ?l ?c ?k; (case a => k_is); (case l => k_is); (case c => k_is); (case k => k_is)))
    (case d_l_mending => (refine' Br.stdK_mk ?a ?l ?c ?k; (case a => k_is); (case l => k_is); (case c => k_is); (case k => k_is)))
    (case d_l_turned => (refine' Br.stdK_mk ?a ?l ?c ?k; (case a => k_is); (case l => k_is); (case c => k_is); (case k => k_is)))
    (case d_l_bent => (refine' Br.stdK_mk ?a ?l ?c ?k; (case a => k_is); (case l => k_is); (case c => k_is); (case k => k_is)))
    (case d_is_rule => (refine' Br.stdK_mk ?a ?l ?c ?k; (case a => k_is); (case l => k_is); (case c => k_is); (case k => k_is)))
    (case d_l_rule => (refine' Br.stdK_mk ?a ?l ?c ?k; (case a => k_is); (case l => k_is); (case c => k_is); (case k => k_is)))
    (case d_need_rule => (refine' Br.stdK_mk ?a ?l ?c ?k; (case a => k_is); (case l => k_is); (case c => k_is); (case k => k_is)))
    (case d_read => (refine' Br.stdK_mk ?a ?l ?c ?k; (case a => k_is); (case l => k_is); (case c => k_is); (case k => k_is)))
    (case d_shown => (refine' Br.stdK_mk ?a ?l ?c ?k; (case a => k_is); (case l => k_is); (case c => k_is); (case k => k_is)))
    (case d_l_read => (refine' Br.stdK_mk ?a ?l ?c ?k; (case a => k_is); (case l => k_is); (case c => k_is); (case k => k_is)))
#print axioms PySem.Challenge.cw_backrule_k04_there_and_back_holds

