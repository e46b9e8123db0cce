import PyProof.Rows.All
import Wide.All
import OpenK.AllK
import Wide.FinOn
import HandS.ForMost
import HandS.Exc
import HandS.ExcInit
import HandS.ExcIs
import HandS.IsInst
import HandS.Wide
import HandS.Defaults
import HandS.ExcValue
import HandS.ExcOwn
import HandS.Ends
import PySem.Challenge.RW_askfurther_k45_errors_made_by_hand
set_option Elab.async false
set_option linter.all false
set_option maxRecDepth 100000
set_option maxHeartbeats 4000000
/-! Own error classes over ValueError, made as values: with keywords, without an own __init__; what isinstance says of them; their fields. -/
namespace PySem
namespace ExoX
open PySem.HandSPX
open Builtin Builtin.ObjectAttr
section
variable {prog : Program} {w : World} {A : Around} {R : Result → Shared → Prop} {Er : Value → Shared → Prop}
variable {hp : Heap} {gs : Array GenState} {dr : Drawn} {tk : Nat} {os : OsState} {kw : List (Str × Value)} {rs : List Value}
variable {nm qn : Str} {Cl Nm : Addr} {bss bm bB sb : List Value} {hd ab : Bool} {sl : List Str} {cl : Option Bool} {dd : Option Addr} {y0 y1 y2 y3 y5 : Option Value} {Bs nI iI : String}
abbrev cobj (nm qn : Str) (Cl Nm : Addr) (bss bm : List Value) (hd : Bool) (sl : List Str) (sb : List Value) (ab : Bool) (cl : Option Bool) (dd : Option Addr) (y0 y1 y2 y3 y5 : Option Value) (nI : String) : Obj :=
  excClassObj nm qn Cl Nm bss bm hd sl sb ab cl dd y0 y1 y2 y3 y5 nI
/-- the check ahead of __new__, with keywords -/
theorem checkNewKw (F : ExcBaseFacts Bs nI iI bB) (hc : ∀ T : String, bm.contains (.type T) = bB.contains (.type T)) {Q : Unit → Shared → Prop}
    (ho : hp.get? Cl = some (cobj nm qn Cl Nm bss bm hd sl sb ab cl dd y0 y1 y2 y3 y5 nI)) (q : Q () ⟨hp, gs, dr, tk, os⟩) :
    wpAny (model prog w) A (checkBuiltinCall nI ⟨.ref Cl :: rs, kw⟩) Q Er ⟨hp, gs, dr, tk, os⟩ := by
  have c1 : (Value.ref Cl :: bm).contains (.type Bs) = true := by
    rw [List.contains_cons, hc, F.hasB, Bool.or_true]
  have c2 := F.noStar
  simp only [checkBuiltinCall, F.newKind, F.newSplit, F.newRow]
  repeat (first
    | refine wpAny_loadPart_at ho ?_
    | (refine wpAny_isSubtype_exc ho ?_; rw [c1])
    | refine wpAny_staticBase_exc ho ?_
    | refine wpAny_madeBy_exc ho ?_
    | simp only [bne_self_eq_false, Bool.false_eq_true, if_false]
    | wp_step)
  exact q
end
section
variable {prog : Program} {w : World} {A : Around} {R : Result → Shared → Prop} {Er : Value → Shared → Prop}
variable {hp : Heap} {gs : Array GenState} {dr : Drawn} {tk : Nat} {os : OsState} {kw : List (Str × Value)} {rs : List Value}
variable {nm qn : Str} {Cl Nm fI : Addr} {bss bm bB sb : List Value} {hd ab : Bool} {sl : List Str} {cl : Option Bool} {dd : Option Addr} {y0 y1 y2 y3 y5 : Option Value} {Bs nI iI : String}
/-- the two objects that __new__ lays -/
abbrev laid (hp : Heap) (rs : List Value) (Cl : Addr) : Heap := (hp.push (PySem.W.kdv_tup rs)).push (excO Cl hp.objs.size)
theorem newKw (F : ExcBaseFacts Bs nI iI bB) (hc : ∀ T : String, bm.contains (.type T) = bB.contains (.type T))
    (ho : hp.get? Cl = some (cobj nm qn Cl Nm bss bm hd sl sb ab cl dd y0 y1 y2 y3 y5 nI)) (hl : rs.length ≤ sizeLine)
    (q : R (.ok (.ret (.ref (hp.objs.size + 1)))) ⟨laid hp rs Cl, gs, dr, tk, os⟩) :
    codeAny (model prog w) A (.builtin nI ⟨.ref Cl :: rs, kw⟩) R ⟨hp, gs, dr, tk, os⟩ := by
  have c0 := F.ends
  have c1 : (Value.ref Cl :: bm).contains (.type Bs) = true := by
    rw [List.contains_cons, hc, F.hasB, Bool.or_true]
  have c2 : (Value.ref Cl :: bm).contains (.type "AttributeError") = false := by
    rw [List.contains_cons, hc, F.noAttr]
    rfl
  have c3 : (Value.ref Cl :: bm).contains (.type "NameError") = false := by
    rw [List.contains_cons, hc, F.noName]
    rfl
  refine codeAny_builtinAt F.entry ?_
  unfold Builtin.«BaseException.__new__»
  refine wpAt_bind ?_
  show wpAt _ _ _ (stack >>= _) _ _ _
  refine wpAt_bind (wpAt_stack fun p below => wpAt_of_wpAny ?_)
  wp_walk
  refine wpAt_of_wpAny ?_
  rw [F.owner]
  repeat (first
    | with_reducible refine wpAny_madeHere_exc F.canon ho ?_
    | with_reducible refine wpAny_loadPart_at ho ?_
    | (with_reducible refine wpAny_isSubtype_exc ho ?_; first | rw [c1] | rw [c2] | rw [c3])
    | wp_step)
  show R _ _
  rw [Heap.size_push]
  exact q
theorem typeCallKw (F : ExcBaseFacts Bs nI iI bB) (hc : ∀ T : String, bm.contains (.type T) = bB.contains (.type T)) {Q : Fin → Shared → Prop}
    (ho : hp.get? Cl = some (cobj nm qn Cl Nm bss bm hd sl sb ab cl dd y0 y1 y2 y3 y5 nI))
    (li : PySem.W.Looks (model prog w) hp (typeLookup (.ref Cl) "__init__") (some (.ref fI)))
    (lb : ∀ self, PySem.W.Looks (model prog w) hp (bindSpecial (.ref fI) self) (.ref fI, [self])) (hl : rs.length ≤ sizeLine)
    (q : codeAny (model prog w) A (.call (.ref fI) ⟨.ref (hp.objs.size + 1) :: rs, kw⟩)
      (fun r s' => match r with | .ok (.ret v) => v = .none ∧ Q (.done (.ret (.ref (hp.objs.size + 1)))) s' | .ok _ => False | .error e => Er e s')
      ⟨laid hp rs Cl, gs, dr, tk, os⟩) :
    wpAny (model prog w) A (Builtin.«type.__call__» ⟨.ref Cl :: rs, kw⟩) Q Er ⟨hp, gs, dr, tk, os⟩ := by
  repeat (first
    | with_reducible refine wpAny_loadPart_at ho ?_
    | with_reducible refine wpAny_madeBy_exc ho ?_
    | wp_step)
  refine codeAny_call_builtin_code (Code.quiet_builtin _ F.quiet) (checkNewKw F hc ho ?_)
  refine newKw F hc ho hl ?_
  show wpAny _ _ _ _ _ _
  have kp : ∀ b o, hp.get? b = some o → (laid hp rs Cl).get? b = some o := fun b o e =>
    Heap.get?_push_of_some _ (Heap.get?_push_of_some _ e)
  have ho1 := kp _ _ ho
  have hx : (laid hp rs Cl).get? (hp.objs.size + 1) = some (excO Cl hp.objs.size) := by heap_get
  have cc : (Value.ref Cl :: bm).contains (.ref Cl) = true := by simp
  have li1 := li.keeps kp
  have lb1 := (lb (.ref (hp.objs.size + 1))).keeps kp
  unfold isInstance
  repeat (first
    | with_reducible refine wpAny_loadPart_at hx ?_
    | (with_reducible refine wpAny_isSubtype_exc ho1 ?_; rw [cc])
    | wp_step)
  show wpAny _ _ (typeLookup (.ref Cl) _) _ _ _
  refine li1.at ?_
  refine wpAny_holding (wpAny_bind (lb1.at ?_))
  refine wpAny_bind (wpAny_call (codeAny_mono q fun r s' z => ?_))
  rcases r with e | (v | _ | _ | _) <;> first | exact z | exact z.elim | skip
  obtain ⟨rfl, z⟩ := z
  first
    | exact wpAny_pure (wpAny_pure z)
    | (wp_walk; exact z)
/-- C(.., k = v ..): the object is laid, then C's own __init__ runs -/
theorem callKw (F : ExcBaseFacts Bs nI iI bB) (hc : ∀ T : String, bm.contains (.type T) = bB.contains (.type T))
    (ho : hp.get? Cl = some (cobj nm qn Cl Nm bss bm hd sl sb ab cl dd y0 y1 y2 y3 y5 nI))
    (li : PySem.W.Looks (model prog w) hp (typeLookup (.ref Cl) "__init__") (some (.ref fI)))
    (lb : ∀ self, PySem.W.Looks (model prog w) hp (bindSpecial (.ref fI) self) (.ref fI, [self])) (hl : rs.length ≤ sizeLine)
    (q : codeAny (model prog w) (A.under (.builtin "type.__call__" ⟨.ref Cl :: rs, kw⟩)) (.call (.ref fI) ⟨.ref (hp.objs.size + 1) :: rs, kw⟩)
      (PySem.W.InitBack (hp.objs.size + 1) R) ⟨laid hp rs Cl, gs, dr, tk, os⟩) :
    codeAny (model prog w) A (.call (.ref Cl) ⟨rs, kw⟩) R ⟨hp, gs, dr, tk, os⟩ := by
  have f1 := tc_lookup
  have f2 := tc_bind (.ref Cl)
  have hty : (⟨hp, gs, dr, tk, os⟩ : Shared).TypeIs (.ref Cl) "type" := ⟨_, ho, rfl⟩
  refine codeAny_of_tree ?_
  show wpAny _ _ (callAny (.ref Cl) _) _ _ _
  repeat (any_goals (first
    | assumption
    | with_reducible refine wpAny_loadPart_at ho ?_
    | wp_step))
  refine ⟨rfl, ?_⟩
  refine codeAny_call_builtin_at (Code.quiet_builtin _ (by decide +kernel)) entry_typeCall (wpAny_check_type_call_sub ho (typeCallKw F hc ho li lb hl ?_))
  refine codeAny_mono q fun r s' z => ?_
  rcases r with e | (v | _ | _ | _) <;> exact z
end
end ExoX
end PySem

set_option maxRecDepth 100000
set_option maxHeartbeats 4000000
namespace L2
open PySem PySem.Spec PyProof.Rows
section
variable {X : Cx} {CX : CXT} {k n : Nat} {fI C : Addr} {fd : FuncData} {ps ks : List Str} {sp : Sp} {E : XK} {g : List Value → List Value → List Value} {gV : List V → List V → List V}
variable {pins : List (Addr × Obj)} {σ : St} {H : Hp} {s : Shared} {x : Str} {p pos : Pos} {e : Expr} {es : List Expr} {kws : List Keyword} {t tk : TA}
/-- the object is laid, C's own __init__ keeps sp -/
theorem run_exo {Q : VK} {us ws : List Value} {vs zs : List V} (T : OexC X.K C) (iC : PySem.W.findIn X.K (.ref C) "__init__" = some (some (.ref fI)))
    (tI : PySem.W.typeIn X.K (.ref fI) = some (.type "function")) (F : FnOk X.prog X.w X.K X.mg X.base CX k fI fd ps sp) (hr : Room (k + 1) X.A)
    (hb : KBn X.K fd ps (n + 1) ks g gV) (hx : Passes CX X E) (I : Inv X pins σ H s) (r : Vals vs us) (rz : Vals zs ws) (l1 : vs.length = n) (l2 : zs.length = ks.length) (l3 : n ≤ 1000)
    (h : ∀ a, H a = none → sp (gV (.ref a :: vs) zs) (upd H a (exo a C none)) (fun v H2 => v = .non ∧ Q (.ref a) H2) E) :
    wpAny (model X.prog X.w) X.A (call (.ref C) us (ks.zip ws)) (EP X pins σ Q) X.xe s := by
  obtain ⟨nm, q, N, bs, bm, sn, sub, ab, col, dd, k0, k1, k2, k3, k5, hC, hbm⟩ := T.cls
  obtain ⟨hp, gs, dr, t0, os⟩ := s
  have up : hp.objs.size ≤ hp.objs.size + 1 := Nat.le_succ _
  have hq := h (hp.objs.size + 1) (I.hok.fresh up)
  have kk : ∀ b o, hp.get? b = some o → (PySem.ExoX.laid hp us C).get? b = some o := fun b o z =>
    Heap.get?_push_of_some _ (Heap.get?_push_of_some _ z)
  have hg : (PySem.ExoX.laid hp us C).get? (hp.objs.size + 1) = some (PySem.HandSPX.excO C hp.objs.size) := by heap_get
  have I2 : Inv X pins σ (upd H (hp.objs.size + 1) (exo (hp.objs.size + 1) C none)) ⟨PySem.ExoX.laid hp us C, gs, dr, t0, os⟩ :=
    I.laid (t' := t0) (a := hp.objs.size + 1) (o := exo (hp.objs.size + 1) C none) (h' := PySem.ExoX.laid hp us C) kk up (exo_ok hg)
  have r1 : Vals (V.ref (hp.objs.size + 1) :: vs) (Value.ref (hp.objs.size + 1) :: us) := .cons rfl r
  have r2 := hb.rel r1 rz
  have e1 : (Value.ref (hp.objs.size + 1) :: us).length = n + 1 := r1.length.symm.trans (congrArg Nat.succ l1)
  have e2 : ws.length = ks.length := rz.length.symm.trans l2
  have hus : us.length ≤ sizeLine := by
    rw [← r.length, l1, sizeLine_eq]
    omega
  refine wpAny_call (PySem.ExoX.callKw PySem.F.excBase_ValueError (fun Y => PySem.HandSPX.refsVE_contains Y bm hbm) (I.kIn _ _ hC) (PySem.W.looks_findIn I.kIn iC) (fun self => PySem.W.bind_fn I.kIn self tI) hus ?_)
  refine codeAny_mono (F.run _ X.stack _ _ ⟨Value.ref (hp.objs.size + 1) :: us, ks.zip ws⟩ (g (Value.ref (hp.objs.size + 1) :: us) ws) _ _ E (hr.make C us (ks.zip ws)) (I2.env0.make C us (ks.zip ws)) (hb.to _ (Value.ref (hp.objs.size + 1) :: us) ws I2.kIn e1 e2) r2 hq) fun r s' hq' => ?_
  cases r with
  | error er => exact hx pins σ _ _ er s' I2 hq'
  | ok fl =>
    cases fl with
    | ret u =>
      obtain ⟨v, H', I3, rv, ev, q3⟩ := I2.after hq'
      subst ev
      exact ⟨rv, ⟨V.ref (hp.objs.size + 1), H', I3, rfl, q3⟩⟩
    | next => exact False.elim hq'
    | brk => exact False.elim hq'
    | cont => exact False.elim hq'
/-- C(e, .., k = v, ..) as a value -/
def tExoN (C : Addr) (n m : Nat) (sp : Sp) (gV : List V → List V → List V) (E : XK) (t tk : TA) : TE := fun σ H Q => t σ H fun vs H1 => tk σ H1 fun zs H2 => vs.length = n ∧ zs.length = m ∧
  ∀ a, H2 a = none → sp (gV (.ref a :: vs) zs) (upd H2 a (exo a C none)) (fun v H3 => v = .non ∧ Q (.ref a) H3) E
theorem pe_exo1 (T : OexC X.K C) (iC : PySem.W.findIn X.K (.ref C) "__init__" = some (some (.ref fI))) (tI : PySem.W.typeIn X.K (.ref fI) = some (.type "function"))
    (F : FnOk X.prog X.w X.K X.mg X.base CX k fI fd ps sp) (hr : Room (k + 1) X.A) (hg : Gl X x) (hm : X.mg x = some (.ref C)) (hb : KBn X.K fd ps (n + 1) [] g gV) (hx : Passes CX X E) (l3 : n ≤ 1000)
    (ha : PA X (e :: es) t) (hdb : (x == ("__debug__" : Str)) = false := by decide) (he : starEach (e :: es) X.env = (false, eval e X.env) :: starEach es X.env := by rfl)
    (hpl : (backTo pos (starEach es X.env)).any (·.1) = false := by rfl) :
    PE X (.Call (.Name x p) (e :: es) [] pos) (tExoN C n 0 sp gV E t tNil) := by
  refine ⟨fun pins s σ H Q I h => ?_⟩
  refine wpAny_Call_Name_kw (ld_glob I hg hm ?_ hdb)
  refine PySem.W.callWith_K (h₀ := X.base) I.ok.mod.kin T.kC (thn (ha.run pos pins s σ H _ I h) fun us s1 ⟨vs, H1, I1, r, l1, l2, q⟩ => ⟨I1.kIn, ?_⟩) he hpl
  exact run_exo (ks := []) (ws := []) (zs := []) T iC tI F hr hb hx I1 r .nil l1 rfl l3 q
/-- keywords alone -/
theorem pe_exoK (T : OexC X.K C) (iC : PySem.W.findIn X.K (.ref C) "__init__" = some (some (.ref fI))) (tI : PySem.W.typeIn X.K (.ref fI) = some (.type "function"))
    (F : FnOk X.prog X.w X.K X.mg X.base CX k fI fd ps sp) (hr : Room (k + 1) X.A) (hg : Gl X x) (hm : X.mg x = some (.ref C)) (hb : KBn X.K fd ps (0 + 1) ks g gV) (hx : Passes CX X E)
    (hkw : PK X kws tk) (hall : (backToKw pos (keywordEach kws X.env)).all (·.1.isSome) = true := by rfl) (hks : (backToKw pos (keywordEach kws X.env)).filterMap (·.1) = ks := by rfl)
    (hdb : (x == ("__debug__" : Str)) = false := by decide)
    (hpl : ((backTo pos (starEach [] X.env)).any (·.1) || (backToKw pos (keywordEach kws X.env)).any (·.1.isNone)) = false := by rfl) :
    PE X (.Call (.Name x p) [] kws pos) (tExoN C 0 ks.length sp gV E tNil tk) := by
  refine ⟨fun pins s σ H Q I h => ?_⟩
  refine wpAny_Call_Name_kw (ld_glob I hg hm ?_ hdb)
  refine PySem.W.callWith_KW0 (h₀ := X.base) I.ok.mod.kin T.kC hall (thn (hkw.run pos pins s σ H _ I h) fun ws s2 ⟨zs, H2, I2, rz, l1, l2, q2⟩ => ⟨I2.kIn, ?_⟩) hpl
  rw [hks]
  exact run_exo (us := []) (vs := []) T iC tI F hr hb hx I2 .nil rz l1 l2 (Nat.zero_le _) q2
/-- C(), a class without an own __init__ -/
def tExo0 (C : Addr) : TE := fun _ H Q => ∀ a, H a = none → Q (.ref a) (upd H a (exo a C none))
theorem pe_exo0 (q : PySem.W.excIn X.K C [.type "ValueError", .type "Exception", .type "BaseException", .type "object"] "ValueError.__new__" = true) (kC : PySem.W.keepIn X.K (.ref C) = true) (hg : Gl X x) (hm : X.mg x = some (.ref C))
    (hdb : (x == ("__debug__" : Str)) = false := by decide) : PE X (.Call (.Name x p) [] [] pos) (tExo0 C) := by
  refine ⟨fun pins s σ H Q I h => ?_⟩
  refine wpAny_Call_Name_kw (ld_glob I hg hm ?_ hdb)
  refine PySem.W.callWith_K0 I.kIn kC ?_
  show wpAny _ _ (call (.ref C) []) _ _ _
  obtain ⟨bm, N, nm, qn, bs, hdct, sn, sub, ab, col, dd, k0, k1, k2, k3, k5, mN, hC, hN, hni, T⟩ := exc_obj I.kIn q
  refine wpAny_call_exc_subT PySem.F.excBase_ValueError T hC hN hni (fun h' a hm => ?_) (by show 0 ≤ sizeLine; rw [sizeLine_eq]; omega)
  have hn : H a = none := I.hok.gone hm.new
  obtain ⟨t, ht, _, _⟩ := hm.there
  exact ⟨.ref a, upd H a (exo a C none), I.laidN hm.keeps hm.new hn (exo_ok ht), rfl, h a hn⟩
end
end L2

set_option maxRecDepth 100000
set_option maxHeartbeats 4000000
namespace PySem.ExoX
open PySem PySem.W PySem.Calls PyProof.Rows PySem.Spec
section
variable {prog : Program} {w : World} {A : Around} {Er : Value → Shared → Prop} {s : Shared} {K : Frag} {x D : Addr} {ob : Obj} {own : Option Obj}
/-- a class's own attribute that takes what is read off an instance, whatever the instance's dict holds -/
theorem find_data {nm : Str} {a g : Value} (c0 : (clsIn K D).isSome = true) (c1 : findIn K (.ref D) nm = some (some a)) (c2 : specialIn K a "__get__" = some (some g)) (c3 : takesIn K a = some true) :
    findObj K D own nm = some (.bind g a) := by
  obtain ⟨cd, c0⟩ := Option.isSome_iff_exists.mp c0
  unfold findObj
  rw [c0, Option.bind_some, c1, Option.bind_some]
  simp [c2, c3]
/-- e.__class__ of such an error, with or without a dict -/
theorem class_of {Q : Option Value → Shared → Prop} (T : L2.ExcC K D) (X : K.In s.heap) (I : InstAt s.heap x ob D own) (q : Q (some (.ref D)) { s with toks := s.toks + 1 }) :
    wpAny (model prog w) A (getAttr? (.ref x) "__class__") Q Er s := by
  have fd : findObj K D own "__class__" = some (.bind (.builtin "getset_descriptor.__get__") (.builtin "object.__class__")) :=
    find_data (by
      obtain ⟨cd, z, _⟩ := any_some T.hd
      rw [z]
      rfl) T.ha T.hn T.ht
  obtain ⟨hh, gg, dd, tt, oo⟩ := s
  have l0 := I.type (M := model prog w)
  have l1 := looks_findIn (M := model prog w) X T.hg
  have l2 := looks_findIn (M := model prog w) X T.hk
  have l3 := looks_find (M := model prog w) X I fd
  have l4 : Looks (model prog w) hh (isInstance (.ref x) (.type "BaseException")) true := l0.andThen (looks_subIn X T.hs)
  have n0 : (false && onTheHeap (Value.builtin "BaseException.__getattribute__")) = false := rfl
  have n2 : (Value.builtin "BaseException.__getattribute__" == Value.builtin "object.__getattribute__") = false := by
    decide +kernel
  have n1 : (onTheHeap (Value.ref D) && Value.builtin "BaseException.__getattribute__" == Value.builtin "object.__getattribute__") = false := by
    rw [n2]
    rfl
  unfold getAttr? getAttrBy? getAttrBy
  refine wpAny_bind (wpAny_mkText (wpAny_bind (wpAny_attempt (wpAny_holding (wpAny_bind (l0.at (wpAny_bind (l1.at ?_))))))))
  show wpAny _ _ (if (onTheHeap (Value.ref D) && Value.builtin "BaseException.__getattribute__" == Value.builtin "object.__getattribute__") = true then _ else _) _ _ _
  rw [n1, if_neg Bool.false_ne_true]
  unfold getAttrByItsOwn hookBefore
  refine wpAny_bind ?_
  rw [if_pos (show onTheHeap (Value.ref D) = true from rfl)]
  refine l2.at ?_
  refine wpAny_bind (wpAny_attempt (wpAny_holding ?_))
  unfold callGetattribute
  rw [n0, if_neg Bool.false_ne_true]
  unfold boundAndCalled
  rw [PySem.F.excAttr_ValueError.ga.bind (.ref x)]
  refine wpAny_bind (wpAny_pure ?_)
  show wpAny _ _ (call (.builtin "BaseException.__getattribute__") [.ref x, .str "__class__" tt]) _ _ _
  refine wpAny_call (codeAny_call_builtin PySem.F.excAttr_ValueError.ga.plain PySem.F.entry_bexc_ga ?_)
  refine @check_slot (model prog w) _ _ ⟨hh, gg, dd, tt + 1, oo⟩ "BaseException.__getattribute__" "BaseException" "__getattribute__" (.ref x) [.str "__class__" tt] [] _
    (by decide +kernel) (by decide +kernel) l4 (PySem.F.args_bexc_ga (.ref x) (.str "__class__" tt)) ?_
  unfold Builtin.«object.__getattribute__»
  refine wpAny_bind (wpAny_of_eq (a := ((Value.ref x : Value), [Value.str "__class__" tt])) (by first | rfl | (simp only [slotArgs]; rfl)) ?_)
  refine wpAny_bind (wpAny_pure (wpAny_bind (l0.at (wpAny_bind (l3.at ?_)))))
  show wpAny _ _ (holding [Value.builtin "object.__class__"] (call (.builtin "getset_descriptor.__get__") [.builtin "object.__class__", .ref x, .ref D]) >>= ret) _ _ _
  refine wpAny_bind (wpAny_holding (wpAny_call (class_get (s := ⟨hh, gg, dd, tt + 1, oo⟩) (ox := ob) (od := own) X I T.hm ?_)))
  refine wpAny_pure ?_
  show wpAny _ _ (handedOut (.ref D)) _ _ _
  rw [handedOut_of (v := .ref D) rfl]
  first
    | exact wpAny_pure (wpAny_pure q)
    | exact wpAny_pure q
    | exact wpAny_pure (wpAny_bind (wpAny_pure (wpAny_pure q)))
theorem kitExo (T : L2.ExcC K D) : KitX K (.ref x) (.ref D) (fun h => ∃ ob own, InstAt h x ob D own) where
  ty := fun _ _ _ ⟨_, _, I⟩ => I.type
  it := fun _ _ X _ => by
    obtain ⟨cd, z, _⟩ := any_some T.hd
    unfold clsIn at z
    split at z
    · rename_i c1 c2 c3 c4 lk
      intro A' Q' E' s' kp q
      unfold isType loadHead
      exact wpAny_bind (wpAny_loadPart (kp _ _ (X _ _ lk)) (wpAny_pure q))
    · cases z
  ne := fun h tp dd its n sl X lk2 => by
    obtain ⟨cd, z, _⟩ := any_some T.hd
    refine Bool.eq_false_iff.mpr fun q => ?_
    have e : D = tp := Value.ref.inj (beq_iff_eq.mp q)
    subst e
    unfold clsIn at z
    split at z
    · rename_i c1 c2 c3 c4 lk
      have y := (X _ _ lk).symm.trans lk2
      cases y
    · cases z
  ca := fun X ⟨_, _, I⟩ q => class_of T X I q
end
end PySem.ExoX
namespace L2
open PySem PySem.Spec PyProof.Rows
/-- an error of the class at C stands at a, with no dict or with its own -/
def ErrAt (H : Hp) (a C : Addr) : Prop := H a = some (exo a C none) ∨ ∃ dx fs, H a = some (exo a C (some dx)) ∧ H dx = some (exd dx fs)
theorem inst_exo {X : Cx} {pins : List (Addr × Obj)} {σ : St} {H : Hp} {s : Shared} {a C : Addr} (I : Inv X pins σ H s) (e : ErrAt H a C) : ∃ ob own, PySem.W.InstAt s.heap a ob C own := by
  rcases e with e | ⟨dx, fs, e, ed⟩
  · obtain ⟨t, ho⟩ := exo_at I.hok e
    exact ⟨_, none, ho, rfl, rfl, trivial⟩
  · obtain ⟨t, ho⟩ := exo_at I.hok e
    obtain ⟨mA, hns, _⟩ := exd_at I.hok ed
    obtain ⟨o, _, _, ho2, _⟩ := hns
    exact ⟨_, some o, ho, rfl, rfl, ho2⟩
def rIsExo (K : PySem.W.Frag) : List V → Hp → VK → Prop := fun xs H Q => ∃ (a C : Addr) (c : V) (u : Value) (b : Bool), xs = [.ref a, c] ∧ ErrAt H a C ∧ ClsV c u ∧ ExcC K C ∧ PySem.W.kitOne K (.ref C) u = some b ∧ Q (.bl b) H
theorem call_isExo {X : Cx} : CallR X (.builtin "isinstance") (rIsExo X.K) := by
  intro pins s σ H xs us Q I r h
  obtain ⟨a, C, c, u, b, rfl, ea, k, T, e, q⟩ := h
  obtain ⟨u1, u2, rfl, r1, r2⟩ := vals2 r
  cases (show u1 = Value.ref a from r1)
  have e2 := k.eq r2
  subst e2
  exact PySem.W.kia_one (PySem.ExoX.kitExo T) I.kIn (inst_exo I ea) e (fun z => nomatch z) fun tk => ⟨.bl b, H, I.tok tk, rfl, q⟩
/-- e.f of such an error -/
def tExoF (K : PySem.W.Frag) (te : TE) (f : Str) : TE := fun σ H Q => te σ H fun x H1 => ∃ (a C dx : Addr) (fs : List (Str × V)) (v : V), x = .ref a ∧ H1 a = some (exo a C (some dx)) ∧ H1 dx = some (exd dx fs) ∧
  ExcC K C ∧ PySem.W.findIn K (.ref C) f = some none ∧ fs.lookup f = some v ∧ Q v H1
theorem pe_exoF {X : Cx} {e : Expr} {te : TE} {f : Str} {pos : Pos} (he : PE X e te) (hb : attributeBase e f X.env (eval e X.env) = eval e X.env := by rfl) : PE X (.Attribute e f pos) (tExoF X.K te f) := by
  refine ⟨fun pins s σ H Q I h => ?_⟩
  refine attr_of hb (thn (he.run pins s σ H _ I h) fun u s1 ⟨x, H1, I1, rx, a, C, dx, fs, v, ex, ea, ed, T, hno, lf, q⟩ => ?_)
  subst ex
  obtain rfl : u = Value.ref a := rx
  obtain ⟨t, ho⟩ := exo_at I1.hok ea
  obtain ⟨mA, hns, hr⟩ := exd_at I1.hok ed
  obtain ⟨od, ho2, hl⟩ := lookIn_ns hns
  obtain ⟨u, hu, ru⟩ := RelO.some_of (v := v) (o := mA f) (by rw [← lf]; exact hr f)
  have J : PySem.W.InstAt s1.heap a _ C (some od) := ⟨ho, rfl, rfl, ho2⟩
  exact HandSPX.exc_get I1.kIn J T.hg T.hk T.hs (PySem.W.findObj_own T.hd hno rfl (by rw [hl, hu])) (handed_of ru) ⟨v, H1, I1.tok _, ru, q⟩
end L2

set_option maxRecDepth 100000
set_option maxHeartbeats 4000000
/-! Rules whose reading hands on a heap by what is true of it: all that was tracked stands, the new thing is there. -/
namespace L2
open PySem PySem.Spec PyProof.Rows
theorem sameNew {H : Hp} {p : Addr} (n : H p = none) (o : HO) : Same H (upd H p o) := fun b u e => by
  rw [upd_ne (ne_of_none e n)]
  exact e
section
variable {X : Cx} {es : List Expr} {t : TA} {pos : Pos}
/-- a new thing at p -/
def New (H : Hp) (o : HO) (Q : VK) : Prop := ∀ (p : Addr) (H' : Hp), H p = none → Same H H' → H' p = some o → Q (.ref p) H'
theorem New.at {H : Hp} {o : HO} {Q : VK} (h : New H o Q) {p : Addr} (n : H p = none) : Q (.ref p) (upd H p o) := h p _ n (sameNew n o) upd_same
def gLst (t : TA) : TE := fun σ H Q => t σ H fun xs H1 => xs.length ≤ sizeLine ∧ New H1 (.lst xs) Q
def gTup' (t : TA) : TE := fun σ H Q => t σ H fun xs H1 => xs.length ≤ sizeLine ∧ New H1 (.tup xs) Q
theorem PA.imp {t' : TA} (h : PA X es t) (m : ∀ σ H Q, t' σ H Q → t σ H Q) : PA X es t' := ⟨fun pos pins s σ H Q I q => h.run pos pins s σ H Q I (m σ H Q q)⟩
/-- what is asked behind a list of arguments may be read in a weaker way -/
theorem pe_lstG (h : PA X es t) : PE X (.List es pos) (gLst t) := by
  have z : PE X (.List es pos) (tLst fun σ H R => ∃ R', t σ H R' ∧ ∀ xs H1, R' xs H1 → R xs H1) := by
    refine pe_lst ⟨fun pos pins s σ H R I ⟨R', h1, h2⟩ => ?_⟩
    refine thn (h.run pos pins s σ H R' I h1) fun us s1 ⟨vs, H1, I1, r, q⟩ => ⟨vs, H1, I1, r, h2 _ _ q⟩
  exact ⟨fun pins s σ H Q I q => z.run pins s σ H Q I ⟨_, q, fun xs H1 ⟨l, k⟩ => ⟨l, fun p n => k.at n⟩⟩⟩
theorem pe_tupG {x1} (h : PA X es t) : PE X (.Tuple es x1 pos) (gTup' t) := by
  have z : PE X (.Tuple es x1 pos) (tTup fun σ H R => ∃ R', t σ H R' ∧ ∀ xs H1, R' xs H1 → R xs H1) := by
    refine pe_tup ⟨fun pos pins s σ H R I ⟨R', h1, h2⟩ => ?_⟩
    refine thn (h.run pos pins s σ H R' I h1) fun us s1 ⟨vs, H1, I1, r, q⟩ => ⟨vs, H1, I1, r, h2 _ _ q⟩
  exact ⟨fun pins s σ H Q I q => z.run pins s σ H Q I ⟨_, q, fun xs H1 ⟨l, k⟩ => ⟨l, fun p n => k.at n⟩⟩⟩
def rCatG : R2 := fun x y H Q => ∃ l b xs zs, x = .ref l ∧ y = .ref b ∧ H l = some (.lst xs) ∧ H b = some (.lst zs) ∧ xs.length + zs.length ≤ sizeLine ∧ New H (.lst (xs ++ zs)) Q
theorem op_catG : OpR X (binaryOp .Add) rCatG := fun pins s σ H x y v u Q I rx ry ⟨l, b, xs, zs, e1, e2, e3, e4, e5, k⟩ => op_cat pins s σ H x y v u Q I rx ry ⟨l, b, xs, zs, e1, e2, e3, e4, e5, fun p n => k.at n⟩
def rSlLG (K : PySem.W.Frag) : V → Option Int → Option Int → Hp → VK → Prop := fun x lo hi H Q => ∃ a xs, x = .ref a ∧ SqL K H a xs ∧ New H (.lst (cutV xs lo hi)) Q
theorem sl_listG : SlR X (rSlLG X.K) := fun pins s σ H x v vl vu lo hi sl Q I rx hs pl pu ⟨a, xs, e, hx, k⟩ => sl_list pins s σ H x v vl vu lo hi sl Q I rx hs pl pu ⟨a, xs, e, hx, fun p n => k.at n⟩
end
theorem pe_imp {X : Cx} {e : Expr} {t t' : TE} (h : PE X e t) (m : ∀ σ H Q, t' σ H Q → t σ H Q) : PE X e t' := ⟨fun pins s σ H Q I q => h.run pins s σ H Q I (m σ H Q q)⟩
theorem Same.err {H H' : Hp} {a C : Addr} (s : Same H H') (e : ErrAt H a C) : ErrAt H' a C := by
  rcases e with e | ⟨dx, fs, e, ed⟩
  · exact .inl (s _ _ e)
  · exact .inr ⟨dx, fs, s _ _ e, s _ _ ed⟩
/-- the field is kept: __init__(self, f) -/
def spInit (C : Addr) (fld : Str) : Sp := fun vs H Q _ => ∃ (a : Addr) (v : V), vs = [.ref a, v] ∧ H a = some (exo a C none) ∧
  ∀ (dx : Addr) (H' : Hp), (∀ b o, b ≠ a → H b = some o → H' b = some o) → H' a = some (exo a C (some dx)) → H' dx = some (exd dx [(fld, v)]) → Q .non H'
/-- a new error with a field -/
def NewE (C : Addr) (fld : Str) (v : V) (H : Hp) (Q : VK) : Prop := ∀ (a dx : Addr) (H' : Hp), H a = none → Same H H' → H' a = some (exo a C (some dx)) → H' dx = some (exd dx [(fld, v)]) → Q (.ref a) H'
section
variable {X : Cx} {CX : CXT} {k : Nat} {fI C : Addr} {fd : FuncData} {fld : Str} {E : XK} {x : Str} {p pos : Pos} {e : Expr} {te : TE} {nm : Option Str} {kpos : Pos}
theorem bind1 {K : PySem.W.Frag} {n : Str} (h : ∀ (a b : Value), bindArgs fd ⟨[a], [(n, b)]⟩ = pure ([(("self" : Str), a), (n, b)] : List (Str × Value))) : KBn K fd ["self", n] (0 + 1) [n] (fun us ws => us ++ ws) (fun vs zs => vs ++ zs) where
  to := fun s us ws _ l1 l2 => match us, ws, l1, l2 with
    | [a], [b], _, _ => .of_eq (h a b)
  rel := fun r rz => r.append rz
theorem bind2 {K : PySem.W.Frag} {n : Str} (h : ∀ (a b : Value), bindArgs fd ⟨[a, b], []⟩ = pure ([(("self" : Str), a), (n, b)] : List (Str × Value))) : KBn K fd ["self", n] (1 + 1) [] (fun us ws => us ++ ws) (fun vs zs => vs ++ zs) where
  to := fun s us ws _ l1 l2 => match us, ws, l1, l2 with
    | [a, b], [], _, _ => .of_eq (h a b)
  rel := fun r rz => r.append rz
/-- C(f = e) -/
def gExoK (C : Addr) (fld : Str) (te : TE) : TE := fun σ H Q => te σ H fun v H1 => NewE C fld v H1 Q
theorem exo_end {v : V} {H1 : Hp} {Q : VK} {E : XK} (q : NewE C fld v H1 Q) (a : Addr) (n : H1 a = none) : spInit C fld [.ref a, v] (upd H1 a (exo a C none)) (fun u H3 => u = .non ∧ Q (.ref a) H3) E :=
  ⟨a, v, rfl, upd_same, fun dx H' s e1 e2 => ⟨rfl, q a dx H' n (fun b o hb => s b o (ne_of_none hb n) (by rw [upd_ne (ne_of_none hb n)]; exact hb)) e1 e2⟩⟩
theorem pe_exoKG (T : OexC X.K C) (iC : PySem.W.findIn X.K (.ref C) "__init__" = some (some (.ref fI))) (tI : PySem.W.typeIn X.K (.ref fI) = some (.type "function"))
    (F : FnOk X.prog X.w X.K X.mg X.base CX k fI fd ["self", fld] (spInit C fld)) (hr : Room (k + 1) X.A) (hg : Gl X x) (hm : X.mg x = some (.ref C)) (hb : ∀ (a b : Value), bindArgs fd ⟨[a], [(fld, b)]⟩ = pure ([(("self" : Str), a), (fld, b)] : List (Str × Value))) (hx : Passes CX X E)
    (he : PE X e te) (hall : (backToKw pos (keywordEach [⟨nm, e, kpos⟩] X.env)).all (·.1.isSome) = true := by rfl) (hks : (backToKw pos (keywordEach [⟨nm, e, kpos⟩] X.env)).filterMap (·.1) = [fld] := by rfl)
    (hdb : (x == ("__debug__" : Str)) = false := by decide)
    (hpl : ((backTo pos (starEach [] X.env)).any (·.1) || (backToKw pos (keywordEach [⟨nm, e, kpos⟩] X.env)).any (·.1.isNone)) = false := by rfl) :
    PE X (.Call (.Name x p) [] [⟨nm, e, kpos⟩] pos) (gExoK C fld te) := by
  have z : PE X e (fun σ H R => ∃ R', te σ H R' ∧ ∀ v H1, R' v H1 → R v H1) := ⟨fun pins s σ H R I ⟨R', h1, h2⟩ => thn (he.run pins s σ H R' I h1) fun us s1 ⟨v, H1, I1, r, q⟩ => ⟨v, H1, I1, r, h2 _ _ q⟩⟩
  refine pe_imp (pe_exoK (E := E) T iC tI F hr hg hm (bind1 (K := X.K) hb) hx (pk_cons z pk_nil) hall hks hdb hpl) fun σ H Q q => ?_
  exact ⟨_, q, fun v H1 q1 => ⟨rfl, rfl, fun a n => exo_end q1 a n⟩⟩
theorem pe_exoPG (T : OexC X.K C) (iC : PySem.W.findIn X.K (.ref C) "__init__" = some (some (.ref fI))) (tI : PySem.W.typeIn X.K (.ref fI) = some (.type "function"))
    (F : FnOk X.prog X.w X.K X.mg X.base CX k fI fd ["self", fld] (spInit C fld)) (hr : Room (k + 1) X.A) (hg : Gl X x) (hm : X.mg x = some (.ref C)) (hb : ∀ (a b : Value), bindArgs fd ⟨[a, b], []⟩ = pure ([(("self" : Str), a), (fld, b)] : List (Str × Value))) (hx : Passes CX X E)
    (he : PE X e te) (hdb : (x == ("__debug__" : Str)) = false := by decide) (hs : starEach [e] X.env = (false, eval e X.env) :: starEach [] X.env := by rfl)
    (hpl : (backTo pos (starEach [] X.env)).any (·.1) = false := by rfl) :
    PE X (.Call (.Name x p) [e] [] pos) (gExoK C fld te) := by
  have z : PE X e (fun σ H R => ∃ R', te σ H R' ∧ ∀ v H1, R' v H1 → R v H1) := ⟨fun pins s σ H R I ⟨R', h1, h2⟩ => thn (he.run pins s σ H R' I h1) fun us s1 ⟨v, H1, I1, r, q⟩ => ⟨v, H1, I1, r, h2 _ _ q⟩⟩
  refine pe_imp (pe_exo1 (E := E) T iC tI F hr hg hm (bind2 (K := X.K) hb) hx (by decide) (pa_cons z pa_nil hs) hdb hs hpl) fun σ H Q q => ?_
  exact ⟨_, q, fun v H1 q1 => ⟨rfl, rfl, fun a n => exo_end q1 a n⟩⟩
/-- C(), no __init__ of its own -/
def gExo0 (C : Addr) : TE := fun _ H Q => New0 H C Q where New0 (H : Hp) (C : Addr) (Q : VK) : Prop := ∀ (a : Addr) (H' : Hp), H a = none → Same H H' → H' a = some (exo a C none) → Q (.ref a) H'
theorem pe_exo0G (q : PySem.W.excIn X.K C [.type "ValueError", .type "Exception", .type "BaseException", .type "object"] "ValueError.__new__" = true) (kC : PySem.W.keepIn X.K (.ref C) = true) (hg : Gl X x) (hm : X.mg x = some (.ref C))
    (hdb : (x == ("__debug__" : Str)) = false := by decide) : PE X (.Call (.Name x p) [] [] pos) (gExo0 C) :=
  pe_imp (pe_exo0 q kC hg hm hdb) fun σ H Q k a n => k a _ n (sameNew n _) upd_same
end
end L2

set_option maxRecDepth 100000
set_option maxHeartbeats 4000000
namespace L2
open PySem PySem.Spec PyProof.Rows
/-- over enumerate(a list that stands) -/
theorem for_enumL {K : PySem.W.Frag} {a : Addr} {xs : List V} {g : TG} {tb : TS} {D : Ends} {σ : St} {H : Hp} (Pv : Nat → St → Hp → Prop) (h0 : Pv 0 σ H) (hl : ∀ i σ H, i ≤ xs.length → Pv i σ H → SqL K H a xs)
    (hs : ∀ i x σ H T H', xs[i]? = some x → Pv i σ H → H T = none → Same H H' → H' T = some (.tup [.int (i : Nat), x]) → g (.ref T) σ H' fun σ2 H2 => tb { D with nx := Pv (i + 1), ct := Pv (i + 1), bk := D.nx } σ2 H2)
    (hd : ∀ σ H, Pv xs.length σ H → D.nx σ H) :
    ∃ W : Nat → Nat → St → Hp → Prop, (∃ m, W 0 m σ H) ∧ ∀ i m σ H, W i m σ H →
      ((Ite K a).stop i H ∧ D.nx σ H) ∨ ((Ite K a).go i H ∧ ∃ N : St → Hp → Prop, (∀ σ' H', N σ' H' → ∃ m', m' < m ∧ W (i + 1) m' σ' H') ∧ ∀ x H', (Ite K a).yld i H x H' → g x σ H' fun σ2 H2 => tb { D with nx := N, ct := N, bk := D.nx } σ2 H2) := by
  refine ⟨fun i m σ H => m = xs.length - i ∧ i ≤ xs.length ∧ Pv i σ H, ⟨xs.length, by simp, Nat.zero_le _, h0⟩, ?_⟩
  rintro i m σ H ⟨rfl, hi, p⟩
  have q := hl i σ H hi p
  by_cases hlt : i < xs.length
  · refine .inr ⟨⟨xs, xs[i], q, by simp [hlt]⟩, Pv (i + 1), fun σ' H' p' => ⟨xs.length - (i + 1), by omega, rfl, hlt, p'⟩, fun v H' y => ?_⟩
    obtain ⟨T, x, e, n, e2, y⟩ := y
    subst e e2
    exact hs i x σ H T _ (y xs q) p n (sameNew n _) upd_same
  · have e : i = xs.length := by omega
    subst e
    exact .inl ⟨⟨xs, q, Nat.le_refl _⟩, hd σ H p⟩
/-! lists of truth values as data -/
theorem bools_lay : ∀ bs : List Bool, PyData.canLayAll0 (bs.map PyData.bool) = true
  | [] => rfl
  | b :: bs => by
    show (PyData.canLay0 (.bool b) && PyData.canLayAll0 (bs.map PyData.bool)) = true
    rw [bools_lay bs]
    rfl
theorem bools_flat : ∀ bs : List Bool, PyData.depthAll (bs.map PyData.bool) = 0
  | [] => rfl
  | b :: bs => by
    show max (PyData.depth (.bool b)) (PyData.depthAll (bs.map PyData.bool)) = 0
    rw [bools_flat bs]
    rfl
theorem bools_shaped (bs : List Bool) : SeqAt.shaped (.list (bs.map PyData.bool)) = true := by
  have h1 : PyData.canLay0 (.list (bs.map PyData.bool)) = true := bools_lay bs
  have h2 : PyData.depth (.list (bs.map PyData.bool)) = 1 := by
    show PyData.depthAll (bs.map PyData.bool) + 1 = 1
    rw [bools_flat bs]
  unfold SeqAt.shaped
  rw [h1, h2]
  rfl
theorem bools_all {K : PySem.W.Frag} {H : Hp} : ∀ bs : List Bool, DpAll K H (bs.map V.bl) (bs.map PyData.bool)
  | [] => .nil
  | b :: bs => .cons (.bl b) (bools_all bs)
theorem bools_dp {K : PySem.W.Frag} {H : Hp} {p : Addr} {bs : List Bool} (h : H p = some (.lst (bs.map V.bl))) : Dp K H (.ref p) (.list (bs.map PyData.bool)) := .lst (SqL.of h) (bools_all bs)
theorem bools_same (bs : List Bool) : PyData.eqv (.list (bs.map PyData.bool)) (.list (bs.map PyData.bool)) = true := SeqAt.eqv_refl _ (bools_lay bs)
/-- a display of one entry, text to value -/
def gDict1 (k : Str) (te : TE) : TE := fun σ H Q => ∀ p : Addr, H p = none → te σ (upd H p (.dK [])) fun v H2 => H2 p = some (.dK []) ∧ Q (.ref p) (upd H2 p (.dK [(.inr k, v)]))
theorem pe_disp1 {X : Cx} {pos p1 : Pos} {v : Expr} {k : Str} {j : Nat} {te : TE} (hv : PE X v te) : PE X (.Dict [some (.Constant (.str k) j p1)] [v] pos) (gDict1 k te) := by
  have z : PE X v (fun σ H R => ∃ R', te σ H R' ∧ ∀ v H1, R' v H1 → R v H1) := ⟨fun pins s σ H R I ⟨R', h1, h2⟩ => thn (hv.run pins s σ H R' I h1) fun us s1 ⟨v, H1, I1, r, q⟩ => ⟨v, H1, I1, r, h2 _ _ q⟩⟩
  refine pe_imp (pe_disp (pps_cons pe_str z pps_nil) rfl rfl (fun z => by cases z) (by show 1 ≤ 15; decide)) fun σ H Q q p n => ?_
  exact ⟨_, q p n, fun u H2 ⟨e, k2⟩ => ⟨e, [(.inr k, u)], rfl, by show 1 ≤ 15; decide, k2⟩⟩
/-- the cut and what is put behind it -/
theorem ints_cut {ns : List Int} {lo hi : Option Int} {i : Nat} {y : V} (h : (cutV (ns.map V.int) lo hi ++ [.int 0])[i]? = some y) : ∃ c : Int, y = .int c := by
  have m := List.mem_of_getElem? h
  rcases List.mem_append.mp m with m | m
  · unfold cutV at m
    have m2 := List.mem_of_mem_drop (List.mem_of_mem_take m)
    obtain ⟨c, _, e⟩ := List.mem_map.mp m2
    exact ⟨c, e.symm⟩
  · exact ⟨0, by simpa using m⟩
theorem ints_cut_len {ns : List Int} {lo hi : Option Int} (h : ns.length ≤ 63) : (cutV (ns.map V.int) lo hi).length ≤ 63 := by
  have := cutV_length (ns.map V.int) lo hi
  rw [List.length_map] at this
  omega
end L2

set_option maxRecDepth 100000
set_option maxHeartbeats 4000000
/-! Defs that are run where nothing is being shown (repr of containers asks for it): the same promise, at such places alone. -/
namespace L2
open PySem PySem.Spec PyProof.Rows
def Bare (A : Around) : Prop := A.guards = some []
theorem Bare.deeper {A : Around} (h : Bare A) (env : Env) : Bare (A.deeper env) := h
structure FnG (P : Program) (w : World) (K : PySem.W.Frag) (mg : Str → Option Value) (base : Heap) (CX : CXT) (k : Nat) (f : Addr) (fd : FuncData) (ps : List Str) (sp : Sp) : Prop where
  len : ∀ vs H Q E, sp vs H Q E → vs.length = ps.length
  run : ∀ (A : Around) (outer : List Env) (s : Shared) (H : Hp) (args : Args) (us : List Value) (vs : List V) (Q : VK) (E : XK), Bare A → Room k A → Env0 P w K mg base A outer s H → BindsTo s fd args (ps.zip us) → Vals vs us → sp vs H Q E →
    codeAny (model P w) A (.call (.ref f) args) (CR CX outer P w H s Q E) s
theorem FnOk.toG {P : Program} {w : World} {K : PySem.W.Frag} {mg : Str → Option Value} {base : Heap} {CX : CXT} {k : Nat} {f : Addr} {fd : FuncData} {ps : List Str} {sp : Sp} (F : FnOk P w K mg base CX k f fd ps sp) : FnG P w K mg base CX k f fd ps sp :=
  ⟨F.len, fun A outer s H args us vs Q E _ => F.run A outer s H args us vs Q E⟩
section
variable {P : Program} {w : World} {K : PySem.W.Frag} {mg : Str → Option Value} {base : Heap} {CX : CXT} {k : Nat} {f : Addr} {x qual : Str} {st : Stmt} {fd : FuncData} {N ps : List Str} {sp : Sp}
/-- a def by its body, at places where nothing is being shown -/
theorem Fun.okGX (F : Fun K x qual st f fd) (S : FnScope N ps (defScope st)) (len : ∀ vs H Q E, sp vs H Q E → vs.length = ps.length)
    (hbody : ∀ (cdv : Value) (A : Around) (outer : List Env) (s : Shared) (H : Hp) (vs : List V) (Q : VK) (E : XK), Bare A → Room k (A.deeper (envOfC qual (defScope st) s.heap.objs.size f cdv)) → sp vs H Q E →
      ∃ t, PSs (cxOf CX P w K mg base N qual (defScope st) f cdv A outer s H E) (defBody st) t ∧ t { nx := fun _ H' => Q .non H', rt := Q } (start N vs) H) : FnG P w K mg base CX (k + 1) f fd ps sp := by
  obtain ⟨oc, od, kV, doc, pm, an, cdv, ct, osl, rfl, lk, hcd⟩ := F.ex
  refine ⟨len, fun A outer s H args us vs Q E bare hr e0 hb r hsp => ?_⟩
  have same : ∀ b o, base.get? b = some o → s.heap.get? b = some o := fun b o e => (e0.bs b o e).1
  have KX : K.In s.heap := e0.mod.kin.keeps same
  have hkind : ∀ y ∈ ps.zip us, (defScope st).names.lookup y.1 = some .local ∨ ((defScope st).names.lookup y.1 = some .cell ∧ ((cellsFrom (s.heap.objs.size + 1) (defScope st).names []).lookup y.1).isSome = true) := by
    rintro ⟨n, v⟩ hy
    rcases S.par n (List.of_mem_zip hy).1 with q | q
    · exact .inl q
    · exact .inr ⟨q, PySem.W.cellsFrom_some _ _ _ (.inl q)⟩
  refine codeAny_call_function hr.depth (KX _ _ lk) rfl S.co S.gen rfl (PySem.W.codeRec_of KX hcd) (hb _ _ _ _ ?_)
  refine wpAny_newFunctionEnv_cells S.kind hkind fun env he s1 ic => ?_
  subst he
  refine ⟨(e0.mod.nolimit.keeps same).keeps ic.toInCall.keep, codeAny_func ?_⟩
  obtain ⟨t, ht, hq⟩ := hbody cdv A outer s H vs Q E bare (hr.deeper _) hsp
  have I := inv_start (CX := CX) (E := E) S hr.hd e0 (len _ _ _ _ hsp) r ic
  refine wpAny_mono (ht.run [] s1 (start N vs) H _ I hq) (fun fl s' hs => ?_) fun e s' hs => hs
  cases fl with
  | ret u =>
    obtain ⟨v, σ', H', J, rv, q⟩ := hs
    exact ⟨v, H', J.os, J.bare, J.base, J.hok, rv, q⟩
  | next =>
    obtain ⟨σ', H', J, q⟩ := hs
    exact ⟨V.non, H', J.os, J.bare, J.base, J.hok, rfl, q⟩
  | brk =>
    obtain ⟨_, _, _, q⟩ := hs
    exact False.elim q
  | cont =>
    obtain ⟨_, _, _, q⟩ := hs
    exact False.elim q
/-- the same for a def that lets nothing out -/
theorem Fun.okG (F : Fun K x qual st f fd) (S : FnScope N ps (defScope st)) (len : ∀ vs H Q E, sp vs H Q E → vs.length = ps.length)
    (hbody : ∀ (cdv : Value) (A : Around) (outer : List Env) (s : Shared) (H : Hp) (vs : List V) (Q : VK) (E : XK), Bare A → Room k (A.deeper (envOfC qual (defScope st) s.heap.objs.size f cdv)) → sp vs H Q E →
      ∃ t, PSs (cxOf CX0 P w K mg base N qual (defScope st) f cdv A outer s H E).nox (defBody st) t ∧ t { nx := fun _ H' => Q .non H', rt := Q } (start N vs) H) : FnG P w K mg base CX0 (k + 1) f fd ps sp :=
  F.okGX S len fun cdv A outer s H vs Q E hA hr h => by
    obtain ⟨t, h1, h2⟩ := hbody cdv A outer s H vs Q E hA hr h
    exact ⟨t, h1.nox, h2⟩
end
section
variable {X : Cx} {CX : CXT} {k : Nat} {f : Addr} {fd : FuncData} {ps : List Str} {sp : Sp} {dvs : List V} {ds : List Value} {E : XK} {x : Str} {p pos : Pos} {e : Expr} {es : List Expr} {t : TA}
theorem run_fnG {pins : List (Addr × Obj)} {σ : St} {H : Hp} {s : Shared} {Q : VK} {us : List Value} {vs : List V} (F : FnG X.prog X.w X.K X.mg X.base CX k f fd ps sp) (hA : Bare X.A) (hr : Room k X.A) (hb : Binds X.K fd ps ds) (hd : Vals dvs ds) (hx : Passes CX X E)
    (I : Inv X pins σ H s) (r : Vals vs us) (h : sp (vs ++ dvs) H Q E) : wpAny (model X.prog X.w) X.A (call (.ref f) us) (EP X pins σ Q) X.xe s := by
  have r2 : Vals (vs ++ dvs) (us ++ ds) := r.append hd
  have hl : (us ++ ds).length = ps.length := by
    rw [← r2.length]
    exact F.len _ _ _ _ h
  refine wpAny_call (codeAny_mono (F.run X.A X.stack s H ⟨us, []⟩ (us ++ ds) (vs ++ dvs) Q E hA hr I.env0 (hb s us I.kIn hl) r2 h) fun r s' hq => ?_)
  cases r with
  | error er => exact hx pins σ H s er s' I hq
  | ok fl =>
    cases fl with
    | ret u => exact I.after hq
    | next => exact False.elim hq
    | brk => exact False.elim hq
    | cont => exact False.elim hq
theorem pe_callG (F : FnG X.prog X.w X.K X.mg X.base CX k f fd ps sp) (hA : Bare X.A) (hr : Room k X.A) (hg : Gl X x) (hm : X.mg x = some (.ref f)) (hk : PySem.W.keepIn X.K (.ref f) = true) (hb : Binds X.K fd ps ds) (hd : Vals dvs ds) (hx : Passes CX X E)
    (ha : PA X (e :: es) t) (hdb : (x == ("__debug__" : Str)) = false := by decide) (he : starEach (e :: es) X.env = (false, eval e X.env) :: starEach es X.env := by rfl) (hpl : (backTo pos (starEach es X.env)).any (·.1) = false := by rfl) :
    PE X (.Call (.Name x p) (e :: es) [] pos) (tCall sp dvs E t) := by
  refine ⟨fun pins s σ H Q I h => ?_⟩
  refine wpAny_Call_Name_kw (ld_glob I hg hm ?_ hdb)
  exact PySem.W.callWith_K (h₀ := X.base) I.ok.mod.kin hk (thn (ha.run pos pins s σ H _ I h) fun us s1 ⟨vs, H1, I1, r, q⟩ => ⟨I1.kIn, run_fnG F hA hr hb hd hx I1 r q⟩) he hpl
end
/-! ### what repr says -/
def keyD : Key → PyData
  | .inl i => .int i
  | .inr x => .str x
/-- x, shown as d: data without dicts, or a dict of ints -/
def Shw (K : PySem.W.Frag) (H : Hp) (x : V) (d : PyData) : Prop :=
  (Dp K H x d ∧ d.hasDict = false) ∨ ∃ (a : Addr) (kvs : List (Key × Int)), x = .ref a ∧ H a = some (.dK (kvs.map fun kv => (kv.1, V.int kv.2))) ∧ d = .dict (kvs.map fun kv => (keyD kv.1, .int kv.2))
theorem reads_dict {P : Program} {w : World} {h : Heap} : ∀ {es : List DictEntry} {vs : List (Key × Value)} {kvs : List (Key × Int)}, Pairs (mixKind P w) es vs → KV (kvs.map fun kv => (kv.1, V.int kv.2)) vs →
    ReadsAll h (es.map (·.key)) ((kvs.map fun kv => (keyD kv.1, PyData.int kv.2)).map (·.1)) [] ∧ ReadsAll h (es.map (·.val)) ((kvs.map fun kv => (keyD kv.1, PyData.int kv.2)).map (·.2)) []
  | [], vs, [], _, _ => ⟨.nil, .nil⟩
  | [], vs, k :: kvs, p, r => by
    cases p
    cases r
  | e :: es, vs, [], p, r => by
    cases r
    cases p
  | e :: es, vs, k :: kvs, p, r => by
    cases r with
    | cons r1 rr =>
      cases p with
      | cons q1 q2 pr =>
        obtain ⟨h1, h2⟩ := reads_dict (h := h) pr rr
        obtain ⟨e1, t, e2⟩ := r1
        refine ⟨ReadsAll.cons (as := []) (bs := []) ?_ h1, ReadsAll.cons (as := []) (bs := []) ?_ h2⟩
        · have z : keyIs k.1 e.key = true := by
            have e1' : k.1 = _ := e1
            rw [e1']
            exact q1
          rcases keyIs_shape z with ⟨i, t', e3, e4⟩ | ⟨y, t', e3, e4⟩
          · show Reads h e.key (keyD k.1) []
            rw [e3, e4]
            exact Reads.int i t'
          · show Reads h e.key (keyD k.1) []
            rw [e3, e4]
            exact Reads.str y t'
        · show Reads h e.val (.int k.2) []
          rw [q2, e2]
          exact Reads.int _ t
theorem shw_reads {X : Cx} {pins : List (Addr × Obj)} {σ : St} {H : Hp} {s : Shared} {x : V} {u : Value} {d : PyData} (I : Inv X pins σ H s) (h : Shw X.K H x d) (r : RelV x u) : ∃ as, Reads s.heap u d as ∧ (d.hasDict = true → sysModules ∉ as) := by
  rcases h with ⟨h, nd⟩ | ⟨a, kvs, rfl, e, rfl⟩
  · obtain ⟨as, q⟩ := Dp.reads I d x u h r
    exact ⟨as, q, fun z => by rw [nd] at z; cases z⟩
  · cases (show u = Value.ref a from r)
    obtain ⟨_, ns, vs, rk, o, es, ep, ho, hx, hd, _, hp, _⟩ := (show ObjOk X.prog X.w H s.heap a (.dK _) from I.hok a _ e)
    obtain ⟨h1, h2⟩ := reads_dict (h := s.heap) hp rk
    refine ⟨_, Reads.dict ho hx.1 hd h1 h2, fun _ m => ?_⟩
    have : sysModules = a := by simpa using m
    rw [this] at ns
    simp at ns
def rRepr (K : PySem.W.Frag) : List V → Hp → VK → Prop := fun xs H Q => ∃ (x : V) (d : PyData), xs = [x] ∧ Shw K H x d ∧ d.showable = true ∧ d.depth ≤ 60 ∧ d.shown.length ≤ sizeLine ∧ Q (.str d.shown) H
theorem call_repr {X : Cx} (hA : Bare X.A) (hu : X.A.units + 64 < cLine) : CallR X (.builtin "repr") (rRepr X.K) := by
  intro pins s σ H xs us Q I r h
  obtain ⟨x, d, rfl, hs, sh, dp, sz, q⟩ := h
  obtain ⟨u, rfl, rx⟩ := vals1 r
  obtain ⟨as, rd, nsys⟩ := shw_reads I hs rx
  cases rd with
  | none => exact PySem.P.repr_of_none ⟨.str "None", H, I.tok _, ⟨_, rfl⟩, q⟩
  | bool b => exact PySem.P.repr_of_bool ⟨.str (if b then "True" else "False"), H, I.tok _, ⟨_, rfl⟩, q⟩
  | int i t => exact PySem.P.repr_of_int (of_decide_eq_true sh) ⟨.str (toString i), H, I.tok _, ⟨_, rfl⟩, q⟩
  | str y t => exact PySem.P.repr_of_str ⟨.str (reprText y), H, I.tok _, ⟨_, rfl⟩, q⟩ sz
  | list h1 h2 h3 h4 =>
    exact repr_of_reads' (Reads.list h1 h2 h3 h4) sh nsys hA (by omega) (fun b o e => e) (fun h' u tk k => ⟨.str _, H, I.kept (t' := tk) k, ⟨_, rfl⟩, q⟩) sz
  | tuple h1 h2 h3 h4 =>
    exact repr_of_reads' (Reads.tuple h1 h2 h3 h4) sh nsys hA (by omega) (fun b o e => e) (fun h' u tk k => ⟨.str _, H, I.kept (t' := tk) k, ⟨_, rfl⟩, q⟩) sz
  | dict h1 h2 h3 h4 h5 =>
    exact repr_of_reads' (Reads.dict h1 h2 h3 h4 h5) sh nsys hA (by omega) (fun b o e => e) (fun h' u tk k => ⟨.str _, H, I.kept (t' := tk) k, ⟨_, rfl⟩, q⟩) sz
end L2

set_option maxRecDepth 100000
set_option maxHeartbeats 4000000
/-! The end of a law row for a promise that holds where nothing is being shown: the claim's caller shows nothing. -/
namespace L2
open PySem PySem.Spec PyProof.Rows
section
variable {P : Program} {w : World} {K : PySem.W.Frag} {mg mb : Str → Option Value} {CX : CXT} {k : Nat} {fa sc : Addr} {fd : FuncData} {x : Str} {sp : Sp} {st : Shared} {its : List Value} {ns : List Int}
/-- from an abstract heap in which at most the script is tracked -/
theorem callG_at (KX : K.In st.heap) (gN : st.heap.Ns mainGlobals mg) (bN : st.heap.Ns builtinsNs mb) (bb : ∀ x : Str, x ≠ "__name__" → mb x = bootBuiltins x) (nl : st.heap.NoLimit) (gz : st.gens = #[])
    (hs : st.heap.get? sc = some { cls := .type "list", data := .seq its.toArray }) (hr : Room k callerA)
    (F : ∀ base : Heap, K.In base → base.Ns mainGlobals mg → FnG P w K mg base CX k fa fd [x] sp) (hb : ∀ (s : Shared) (u : Value), BindsTo s fd ⟨[u], []⟩ [(x, u)])
    (noX : ∀ H e s', CX [] H st (fun _ _ _ => False) e s' → False) (H : Hp) (hO : Only H) (hsp : sp [.ref sc] H (fun v _ => v = .bl true) fun _ _ _ => False)
    (ok : HOk P w H st.heap) (one : ∀ b, H b ≠ none → b = sc) (hK : H sc ≠ none → K.lookup sc = none) :
    codeAny (model P w) callerA (.call (.ref fa) ⟨[.ref sc], []⟩) (fun r s' => r = .ok (.ret (.bool true)) ∧ OldK st.heap s'.heap ∧ s'.os = st.os ∧ AllBare s'.gens) st := by
  have low : ∀ {b : Addr} {o : Obj}, st.heap.get? b = some o → H b = none → (hidT st.heap H).get? b = some o := fun e n => hidT_get e n
  have isSc : ∀ {b : Addr}, (∃ u, H b = some u) → b = sc := fun {b} ⟨u, q⟩ => one b (by rw [q]; simp)
  have free : ∀ {b : Addr}, b ≠ sc → H b = none := fun {b} ne => by
    cases q : H b with
    | none => rfl
    | some u => exact absurd (isSc ⟨u, q⟩) ne
  have notDict : ∀ {b : Addr} {o : Obj} {es : Array DictEntry} {ep : Nat}, st.heap.get? b = some o → o.data = .dict es ep → H b = none := fun {b o es ep} e d => by
    refine free fun z => ?_
    rw [z, hs] at e
    have e2 := Option.some.inj e
    subst e2
    have d2 : Data.seq its.toArray _ = Data.dict es ep := d
    cases d2
  have nsLow : ∀ {b : Addr} {m : Str → Option Value}, st.heap.Ns b m → (hidT st.heap H).Ns b m := fun {b m} z => by
    obtain ⟨o, es, ep, e, d, r⟩ := z
    exact ⟨o, es, ep, low e (notDict e d), d, r⟩
  have KL : K.In (hidT st.heap H) := fun b o e => low (KX b o e) (by
    cases q : H b with
    | none => rfl
    | some u =>
      have z := isSc ⟨u, q⟩
      subst z
      rw [hK (by rw [q]; simp)] at e
      cases e)
  obtain ⟨mc, l1, l2⟩ := nl
  have M : Mod K mg (hidT st.heap H) := ⟨KL, nsLow gN, ⟨mb, nsLow bN, bb⟩, ⟨mc, nsLow l1, l2⟩⟩
  have e0 : Env0 P w K mg (hidT st.heap H) callerA [] st H := ⟨rfl, M, fun b o e => of_hidT e, Nat.le_of_eq (hidT_size _ _), trivial, fun b hb => absurd (show b ∈ ([] : List Addr) from hb) (by simp), ok, .of_eq gz⟩
  refine codeAny_mono ((F _ KL (nsLow gN)).run callerA [] st H ⟨[.ref sc], []⟩ [.ref sc] [.ref sc] _ _ rfl hr e0 (hb st (.ref sc)) (.cons rfl .nil) hsp) fun r s' h => ?_
  cases r with
  | error e => exact (noX H e s' h).elim
  | ok fl =>
    cases fl with
    | next => exact False.elim h
    | brk => exact False.elim h
    | cont => exact False.elim h
    | ret u =>
      obtain ⟨v, H', os, bare, un, ok', r', q⟩ := h
      have q' : v = .bl true := q
      subst q'
      obtain rfl : u = Value.bool true := r'
      refine ⟨rfl, OldK.of_keep fun b o e => ?_, os, bare⟩
      rcases hO b with z | ⟨ob, xs, z⟩
      · exact un.keep b o e z (fun z => absurd (show b ∈ ([] : List Addr) from z) (by simp)) (by simp)
      · obtain ⟨e1, _⟩ := ok b _ z
        obtain ⟨e2, _⟩ := ok' b _ (un.frzs b ob _ z)
        rw [e] at e1
        cases e1
        exact e2
theorem law_callG (KX : K.In st.heap) (gN : st.heap.Ns mainGlobals mg) (bN : st.heap.Ns builtinsNs mb) (bb : ∀ x : Str, x ≠ "__name__" → mb x = bootBuiltins x) (nl : st.heap.NoLimit) (gz : st.gens = #[])
    (hs : st.heap.get? sc = some { cls := .type "list", data := .seq its.toArray }) (hi : IntsAre its ns) (hl : ns.length ≤ sizeLine) (hr : Room k callerA)
    (F : ∀ base : Heap, K.In base → base.Ns mainGlobals mg → FnG P w K mg base CX k fa fd [x] sp) (hb : ∀ (s : Shared) (u : Value), BindsTo s fd ⟨[u], []⟩ [(x, u)])
    (hsp : ∀ H : Hp, Only H → SqL K H sc (ns.map V.int) → sp [.ref sc] H (fun v _ => v = .bl true) fun _ _ _ => False) (noX : ∀ H e s', CX [] H st (fun _ _ _ => False) e s' → False) :
    codeAny (model P w) callerA (.call (.ref fa) ⟨[.ref sc], []⟩) (fun r s' => r = .ok (.ret (.bool true)) ∧ OldK st.heap s'.heap ∧ s'.os = st.os ∧ AllBare s'.gens) st := by
  have rv := vals_ints hi
  cases hk : K.lookup sc with
  | some o =>
    have e := KX sc o hk
    rw [hs] at e
    cases e
    have only : Only (fun _ => none) := fun _ => .inl rfl
    refine callG_at KX gN bN bb nl gz hs hr F hb noX (fun _ => none) only (hsp _ only (.inr ⟨_, its.toArray, _, hk, rfl, rfl, rfl, by rw [List.size_toArray, hi.length]; exact hl, by simpa using rv⟩)) (fun b u z => nomatch z) (fun b z => absurd rfl z) fun z => absurd rfl z
  | none =>
    let H : Hp := fun b => if b = sc then some (.frz { cls := .type "list", data := .seq its.toArray } (.lst (ns.map V.int))) else none
    have at' : H sc = some (.frz { cls := .type "list", data := .seq its.toArray } (.lst (ns.map V.int))) := if_pos rfl
    have off : ∀ {b : Addr}, b ≠ sc → H b = none := fun ne => if_neg ne
    have only : Only H := fun b => by
      by_cases z : b = sc
      · rw [z]
        exact .inr ⟨_, _, at'⟩
      · exact .inl (off z)
    refine callG_at KX gN bN bb nl gz hs hr F hb noX H only (hsp H only (.inl (.inr ⟨_, at'⟩))) (fun b u z => ?_) (fun b z => ?_) fun _ => hk
    · by_cases q : b = sc
      · subst q
        rw [at'] at z
        cases z
        exact ⟨hs, by rw [List.length_map]; exact hl, its, _, rv, hs⟩
      · rw [off q] at z
        cases z
    · by_cases q : b = sc
      · exact q
      · exact absurd (off q) z
end
theorem walk_ofG {l : PySem.W.OpenLaw} {n k : Nat} {q : Program} {loose : List Str} {XP : (Str → Option Value) → Heap → Prop} {YP : World → Heap → Prop} {d : DefRec} {K : Params → PySem.W.Frag} {CX : World → CXT} {sp : World → Sp} {x : Str}
    (hn : l.most = some n) (hn2 : n ≤ sizeLine) (hdf : d.params.defaults = []) (hr : Room k callerA) (hY : ∀ (w : World) (h : Heap), YP w h → (K w.params).In h)
    (F : ∀ (w : World) (mg : Str → Option Value) (fa : Addr) (h : Heap), (K w.params).In h → h.Ns mainGlobals mg → mg d.name = some (.ref fa) →
      ∃ fd : FuncData, (∀ (s : Shared) (u : Value), BindsTo s fd ⟨[u], []⟩ [(x, u)]) ∧ ∀ base : Heap, (K w.params).In base → base.Ns mainGlobals mg → FnG l.prog w (K w.params) mg base (CX w) k fa fd [x] (sp w))
    (hsp : ∀ (w : World) (H : Hp) (a : Addr) (ns : List Int), ns.length ≤ n → Only H → SqL (K w.params) H a (ns.map V.int) → sp w [.ref a] H (fun v _ => v = .bl true) fun _ _ _ => False)
    (hCX : ∀ (w : World) (H : Hp) (s : Shared) (e : Value) (s' : Shared), CX w [] H s (fun _ _ _ => False) e s' → False) :
    PySem.W.WalkO q loose XP YP l.row.toRowW d [] (fun f vs => PySem.call f vs) := by
  refine Att.attach_call hn hdf fun w s₀ s₁ mg mb fa o pm cd doc a vs ns G Y ho hd hcd hmg hobj hints hlen hg => ?_
  have KX := hY w _ Y
  obtain ⟨fd, hb, hF⟩ := F w mg fa _ KX G.T.g hmg
  exact law_callG KX G.T.g G.T.b G.T.builtins G.T.nolimit hg hobj hints (Nat.le_trans hlen hn2) hr hF hb (fun H hO hS => hsp w H a ns hlen hO hS) fun H e s' => hCX w H s₁ e s'
end L2

set_option maxRecDepth 100000
set_option maxHeartbeats 4000000
/-! Things that are shown by repr: what is kept of them in later heaps. -/
namespace L2
open PySem PySem.Spec PyProof.Rows
theorem Same.seqT {K : PySem.W.Frag} {H H' : Hp} {a : Addr} {xs : List V} (s : Same H H') (h : SqT K H a xs) : SqT K H' a xs := by
  rcases h with (h | ⟨o, h⟩) | h
  · exact .inl (.inl (s _ _ h))
  · exact .inl (.inr ⟨o, s _ _ h⟩)
  · exact .inr h
mutual
theorem Dp.same {K : PySem.W.Frag} {H H' : Hp} (s : Same H H') : ∀ (d : PyData) (v : V), Dp K H v d → Dp K H' v d
  | .none, _, h => by
    cases h
    exact .non
  | .bool b, _, h => by
    cases h
    exact .bl b
  | .int i, _, h => by
    cases h
    exact .int i
  | .str x, _, h => by
    cases h
    exact .str x
  | .list ds, _, h => by
    cases h with
    | lst q ha => exact .lst (s.seq q) (DpAll.same s ds _ ha)
  | .tuple ds, _, h => by
    cases h with
    | tup q ha => exact .tup (s.seqT q) (DpAll.same s ds _ ha)
  | .dict _, _, h => by cases h
theorem DpAll.same {K : PySem.W.Frag} {H H' : Hp} (s : Same H H') : ∀ (ds : List PyData) (vs : List V), DpAll K H vs ds → DpAll K H' vs ds
  | [], _, h => by
    cases h
    exact .nil
  | d :: ds, _, h => by
    cases h with
    | cons h1 h2 => exact .cons (Dp.same s d _ h1) (DpAll.same s ds _ h2)
end
theorem Shw.same {K : PySem.W.Frag} {H H' : Hp} {x : V} {d : PyData} (s : Same H H') (h : Shw K H x d) : Shw K H' x d := by
  rcases h with ⟨h, n⟩ | ⟨a, kvs, e1, e2, e3⟩
  · exact .inl ⟨h.same s d x, n⟩
  · exact .inr ⟨a, kvs, e1, s _ _ e2, e3⟩
/-- what is asked of a thing that is shown -/
structure Fine (d : PyData) : Prop where
  sh : d.showable = true
  dp : d.depth ≤ 60
  sz : d.shown.length ≤ sizeLine
  ok : PyData.strOk d.shown = true
def Good (K : PySem.W.Frag) (H : Hp) (v : V) : Prop := ∃ d, Shw K H v d ∧ Fine d
theorem Good.same {K : PySem.W.Frag} {H H' : Hp} {v : V} (s : Same H H') (h : Good K H v) : Good K H' v := by
  obtain ⟨d, a, b⟩ := h
  exact ⟨d, a.same s, b⟩
theorem strOk_of (s : String) : PyData.strOk (Str.ofString s) = true := by
  unfold PyData.strOk
  rw [Str.ofString_eq_toList]
  simp only [List.all_toArray, List.all_map, List.all_eq_true, Function.comp, decide_eq_true_eq]
  intro c _
  have := c.valid
  show c.toNat < 0x110000
  have z : c.val.toNat < 0x110000 := by
    rcases this with h | ⟨_, h⟩
    · have h' : c.val.toNat < 0xd800 := h
      omega
    · exact h
  exact z
theorem fine_int {n : Int} (h0 : 0 ≤ n) (h : n < 10 ^ 30) : Fine (.int n) := by
  have l : n.natAbs < 2 ^ 100 := by
    have : (n.natAbs : Int) = n := by omega
    have h2 : (n.natAbs : Int) < 10 ^ 30 := by omega
    have h3 : n.natAbs < 10 ^ 30 := by exact_mod_cast h2
    exact Nat.lt_trans h3 (by decide)
  have l2 : n.natAbs.log2 < 1920 := Nat.lt_trans (PySem.Flt.log2_lt_of (by decide) l) (by decide)
  exact ⟨decide_eq_true l2, Nat.zero_le _, int_text_fits l2, strOk_of _⟩
/-! lists of texts as data -/
theorem strs_lay : ∀ ts : List Str, (∀ t ∈ ts, PyData.strOk t = true) → PyData.canLayAll0 (ts.map PyData.str) = true
  | [], _ => rfl
  | t :: ts, h => by
    show (PyData.strOk t && PyData.canLayAll0 (ts.map PyData.str)) = true
    rw [strs_lay ts fun u m => h u (List.mem_cons_of_mem _ m), h t List.mem_cons_self]
    rfl
theorem strs_flat : ∀ ts : List Str, PyData.depthAll (ts.map PyData.str) = 0
  | [] => rfl
  | t :: ts => by
    show max (PyData.depth (.str t)) (PyData.depthAll (ts.map PyData.str)) = 0
    rw [strs_flat ts]
    rfl
theorem strs_shaped (ts : List Str) (h : ∀ t ∈ ts, PyData.strOk t = true) : SeqAt.shaped (.list (ts.map PyData.str)) = true := by
  have h1 : PyData.canLay0 (.list (ts.map PyData.str)) = true := strs_lay ts h
  have h2 : PyData.depth (.list (ts.map PyData.str)) = 1 := by
    show PyData.depthAll (ts.map PyData.str) + 1 = 1
    rw [strs_flat ts]
  unfold SeqAt.shaped
  rw [h1, h2]
  rfl
theorem strs_all {K : PySem.W.Frag} {H : Hp} : ∀ ts : List Str, DpAll K H (ts.map V.str) (ts.map PyData.str)
  | [] => .nil
  | t :: ts => .cons (.str t) (strs_all ts)
theorem strs_dp {K : PySem.W.Frag} {H : Hp} {p : Addr} {ts : List Str} (h : H p = some (.lst (ts.map V.str))) : Dp K H (.ref p) (.list (ts.map PyData.str)) := .lst (SqL.of h) (strs_all ts)
theorem strs_same (ts : List Str) (h : ∀ t ∈ ts, PyData.strOk t = true) : PyData.eqv (.list (ts.map PyData.str)) (.list (ts.map PyData.str)) = true := SeqAt.eqv_refl _ (strs_lay ts h)
def rRepG : R2 := fun x y H Q => ∃ l k xs, x = .ref l ∧ y = .int k ∧ H l = some (.lst xs) ∧ -(2 ^ 63) ≤ k ∧ k < 2 ^ 63 ∧ xs.length * k.toNat ≤ sizeLine ∧ New H (.lst (List.replicate k.toNat xs).flatten) Q
theorem op_repG {X : Cx} : OpR X (binaryOp .Mult) rRepG := fun pins s σ H x y v u Q I rx ry ⟨l, k, xs, e1, e2, e3, e4, e5, e6, q⟩ => op_rep pins s σ H x y v u Q I rx ry ⟨l, k, xs, e1, e2, e3, e4, e5, e6, fun p n => q.at n⟩
end L2

set_option maxRecDepth 100000
set_option maxHeartbeats 4000000
namespace Mine
open PySem L2
def top (i : Nat) : Stmt := PySem.Challenge.pw_askfurther_k45_errors_made_by_hand.main.body.getD i (.Pass ⟨0, 0, 0, 0⟩)
abbrev sSrc : Stmt := top 29
abbrev sNext : Stmt := top 30
abbrev sOne : Stmt := top 31
/-- the source of the draws: three ints -/
def SrcAt (H : Hp) (a : Addr) : Prop := ∃ x y z : Int, H a = some (.lst [.int x, .int y, .int z])
/-- all but what stands at a is as it was -/
def But (H H' : Hp) (a : Addr) : Prop := ∀ b o, b ≠ a → H b = some o → H' b = some o
theorem but_upd {H : Hp} {a : Addr} (o : HO) : But H (upd H a o) a := fun b u ne e => by
  rw [upd_ne ne]
  exact e
theorem But.trans {H H1 H2 : Hp} {a : Addr} (s : But H H1 a) (t : But H1 H2 a) : But H H2 a := fun b o ne e => t b o ne (s b o ne e)
theorem But.same {H H1 H2 : Hp} {a : Addr} (s : Same H H1) (t : But H1 H2 a) (n : H a = none) : Same H H2 := fun b o e => t b o (ne_of_none e n) (s b o e)
def spSrc : Sp := fun vs H Q _ => ∃ c : Int, vs = [.int c] ∧ ∀ (x y z : Int), New H (.lst [.int x, .int y, .int z]) Q
def spNext : Sp := fun vs H Q _ => ∃ (a : Addr) (m x y z : Int), vs = [.ref a, .int m] ∧ 0 < m ∧ m.natAbs < 2 ^ 200 ∧ H a = some (.lst [.int x, .int y, .int z]) ∧
  ∀ (n x' y' z' : Int) (H' : Hp), 0 ≤ n → n < m → But H H' a → H' a = some (.lst [.int x', .int y', .int z']) → Q (.int n) H'
/-- one of the things in a list -/
def spOne : Sp := fun vs H Q _ => ∃ (a b : Addr) (xs : List V) (x y z : Int), vs = [.ref a, .ref b] ∧ H a = some (.lst [.int x, .int y, .int z]) ∧ H b = some (.lst xs) ∧ 0 < xs.length ∧ xs.length ≤ 1000 ∧ a ≠ b ∧
  ∀ (v : V) (x' y' z' : Int) (H' : Hp), v ∈ xs → But H H' a → H' a = some (.lst [.int x', .int y', .int z']) → Q v H'
structure TxtD (K : PySem.W.Frag) (mg : Str → Option Value) (fN : Addr) : Prop where
  int : mg "int" = none
  len : mg "len" = none
  gN : mg "_law_next" = some (.ref fN)
  kN : PySem.W.keepIn K (.ref fN) = true
theorem at0 {α : Type} {a : α} {l : List α} : atI (a :: l) 0 = some a := atI_nat (j := 0) rfl
theorem at1 {α : Type} {a b : α} {l : List α} : atI (a :: b :: l) 1 = some b := atI_nat (j := 1) rfl
theorem at2 {α : Type} {a b c : α} {l : List α} : atI (a :: b :: c :: l) 2 = some c := atI_nat (j := 2) rfl
theorem ix0 {n : Nat} : ixN (n + 1) 0 = some 0 := by
  unfold ixN
  rw [if_pos (Int.le_refl _), if_pos (by omega)]
  rfl
theorem ix2 {n : Nat} : ixN (n + 3) 2 = some 2 := by
  unfold ixN
  rw [if_pos (by decide), if_pos (by omega)]
  rfl
theorem modM {m : Int} (h : 0 < m) (u : Int) : 0 ≤ u % m ∧ u % m < m := ⟨Int.emod_nonneg _ (by omega), Int.emod_lt_of_pos _ h⟩
section
variable {P : Program} {w : World} {K : PySem.W.Frag} {mg : Str → Option Value} {base : Heap}
variable {fN : Addr}
theorem scSrc : FnScope ["_law_cell"] ["_law_cell"] (defScope sSrc) := ⟨rfl, rfl, rfl, by decide +kernel, rfl, by decide +kernel, by decide +kernel⟩
theorem ok_src {f : Addr} {fd : FuncData} (F : Fun K "_law_source_of" "_law_source_of" sSrc f fd) (T : TxtD K mg fN) : FnOk P w K mg base CX0 1 f fd ["_law_cell"] spSrc := by
  refine F.ok scSrc (fun vs H Q E h => ?_) (fun cdv A outer s H vs Q E hr h => ?_)
  · obtain ⟨c, rfl, _⟩ := h
    rfl
  · obtain ⟨c, rfl, k⟩ := h
    refine ⟨_, (pss_cons (ps_set (i := 0) scSrc.nd rfl (Or.inl rfl) (pe_ifExp (pt_cmpR op_ge (pv 0) pe_int (nomark _)) (pv 0) (pe_op op_sub (pe_op op_sub pe_int (pe_op op_mul pe_int (pv 0))) pe_int)))
      (pss_one (ps_ret (pe_lstG (pa_cons (pe_op op_mul (pv 0) (pe_callTy call_int1 (by rfl) T.int (by decide +kernel) (pa_cons (pe_cmpR op_ge (pv 0) (pe_op op_pow pe_int pe_int) (nomark _)) pa_nil))) (pa_cons (pe_op op_mod (pe_callTy call_int1 (by rfl) T.int (by decide +kernel) (pa_cons (pv 0) pa_nil)) pe_int) (pa_cons pe_int pa_nil))))))), ?_⟩
    refine ⟨_, rfl, _, _, rfl, rfl, _, rfl, ?_⟩
    refine ite2 (fun _ => ?_) (fun _ => ?_)
    · refine ⟨_, rfl, _, rfl, _, rfl, _, _, rfl, rfl, ⟨by decide, by decide, by decide⟩, _, _, rfl, rfl, .inr ⟨_, rfl, _, _, rfl, rfl, .inr (by split <;> decide), ?_⟩⟩
      refine ⟨_, rfl, .inl ⟨_, rfl, _, _, rfl, rfl, (by show (0 : Int) < 2147483647; decide), ?_⟩⟩
      exact ⟨by show 3 ≤ sizeLine; decide, fun p H' n s e => k _ _ _ p H' n s e⟩
    · refine ⟨_, rfl, _, _, rfl, rfl, .inl (by decide), _, _, rfl, rfl, _, _, rfl, rfl, ?_⟩
      refine ⟨_, rfl, _, rfl, _, _, rfl, rfl, ⟨by decide, by decide, by decide⟩, _, _, rfl, rfl, .inr ⟨_, rfl, _, _, rfl, rfl, .inr (by split <;> decide), ?_⟩⟩
      refine ⟨_, rfl, .inl ⟨_, rfl, _, _, rfl, rfl, (by show (0 : Int) < 2147483647; decide), ?_⟩⟩
      exact ⟨by show 3 ≤ sizeLine; decide, fun p H' n s e => k _ _ _ p H' n s e⟩
theorem scNext : FnScope ["_law_source", "_law_many", "_law_found", "_law_number"] ["_law_source", "_law_many"] (defScope sNext) := ⟨rfl, rfl, rfl, by decide +kernel, rfl, by decide +kernel, by decide +kernel⟩
theorem divOk {i m : Int} (h0 : 0 < m) (h : m.natAbs < 2 ^ 200) : CDivW i m := wide_div (i := i) h0 h (by decide) (by decide)
theorem ok_next {f : Addr} {fd : FuncData} (F : Fun K "_law_next" "_law_next" sNext f fd) (T : TxtD K mg fN) : FnOk P w K mg base CX0 1 f fd ["_law_source", "_law_many"] spNext := by
  refine F.ok scNext (fun vs H Q E h => ?_) (fun cdv A outer s H vs Q E hr h => ?_)
  · obtain ⟨a, m, x, y, z, rfl, _⟩ := h
    rfl
  · obtain ⟨a, m, x, y, z, rfl, m0, m1, ha, k⟩ := h
    refine ⟨_, (pss_cons (ps_if (pt_cmpR op_gt (pe_ix ix_list (pv 0) pe_int (fun _ _ => rfl)) pe_int (nomark _)) (pss_cons (ps_set (i := 2) scNext.nd rfl (Or.inl rfl) (pe_op op_mod (pe_callTy call_int1 (by rfl) T.int (by decide +kernel) (pa_cons (pe_ix ix_list (pv 0) pe_int (fun _ _ => rfl)) pa_nil)) (pv 1)))
      (pss_cons (ps_asg (pe_op op_fdivW (pe_ix ix_list (pv 0) pe_int (fun _ _ => rfl)) (pv 1)) (pg_sub (pv 0) pe_int set_list))
      (pss_one (ps_ret (pv 2))))) pss_nil)
      (pss_cons (ps_asg (pe_op op_add (pe_ix ix_list (pv 0) pe_int (fun _ _ => rfl)) pe_int) (pg_sub (pv 0) pe_int set_list))
      (pss_cons (ps_set (i := 3) scNext.nd rfl (Or.inl rfl) (pe_op op_mod (pe_callTy call_int1 (by rfl) T.int (by decide +kernel) (pa_cons (pe_op op_add (pe_op op_add (pe_ix ix_list (pv 0) pe_int (fun _ _ => rfl)) (pe_op op_mul pe_int (pe_ix ix_list (pv 0) pe_int (fun _ _ => rfl)))) pe_int) pa_nil)) pe_int))
      (pss_cons (ps_set (i := 3) scNext.nd rfl (Or.inl rfl) (pe_op op_mod (pe_callTy call_int1 (by rfl) T.int (by decide +kernel) (pa_cons (pe_op op_mul (pv 3) pe_int) pa_nil)) pe_int))
      (pss_cons (ps_set (i := 3) scNext.nd rfl (Or.inl rfl) (pe_op op_mod (pe_callTy call_int1 (by rfl) T.int (by decide +kernel) (pa_cons (pe_op op_mul (pv 3) (pe_op op_add (pe_op op_fdiv (pv 3) pe_int) pe_int)) pa_nil)) pe_int))
      (pss_cons (ps_set (i := 3) scNext.nd rfl (Or.inl rfl) (pe_op op_mod (pe_callTy call_int1 (by rfl) T.int (by decide +kernel) (pa_cons (pe_op op_mul (pv 3) (pe_op op_add (pe_op op_fdiv (pv 3) pe_int) pe_int)) pa_nil)) pe_int))
      (pss_one (ps_ret (pe_op op_mod (pe_callTy call_int1 (by rfl) T.int (by decide +kernel) (pa_cons (pe_op op_fdiv (pv 3) pe_int) pa_nil)) (pv 1)))))))))), ?_⟩
    refine ⟨_, rfl, _, _, _, _, rfl, rfl, SqL.of ha, at0, _, _, rfl, rfl, _, rfl, ?_⟩
    refine ite2 (fun _ => ?_) (fun _ => ?_)
    · refine ⟨_, rfl, _, _, _, _, rfl, rfl, SqL.of ha, at0, .inl ⟨_, rfl, _, rfl, _, _, rfl, rfl, m0, ?_⟩⟩
      refine ⟨_, rfl, _, _, _, _, rfl, rfl, SqL.of ha, at0, _, rfl, _, _, rfl, rfl, divOk m0 m1, _, rfl, _, _, _, 0, rfl, rfl, ha, ix0, ?_⟩
      exact ⟨_, rfl, k _ _ y z _ (modM m0 _).1 (modM m0 _).2 (but_upd _) upd_same⟩
    · refine ⟨_, rfl, _, _, _, _, rfl, rfl, SqL.of ha, at2, _, _, rfl, rfl, _, rfl, _, _, _, 2, rfl, rfl, ha, ix2, ?_⟩
      have bd : ∀ u : Int, (-(2 ^ 64) < u % 2147483647 ∧ u % 2147483647 < 2 ^ 64) := fun u => by
        have := modM (show (0 : Int) < 2147483647 by decide) u
        omega
      refine ⟨_, rfl, _, _, _, _, rfl, rfl, SqL.of upd_same, at1, _, rfl, _, _, _, _, rfl, rfl, SqL.of upd_same, at2, _, _, rfl, rfl, .inl (by decide), _, _, rfl, rfl, _, _, rfl, rfl, .inl ⟨_, rfl, _, _, rfl, rfl, (by show (0 : Int) < 2147483647; decide), ?_⟩⟩
      refine ⟨_, rfl, _, _, rfl, rfl, .inr (by decide), .inl ⟨_, rfl, _, _, rfl, rfl, (by show (0 : Int) < 2147483647; decide), ?_⟩⟩
      refine ⟨_, rfl, _, rfl, _, _, rfl, rfl, ⟨by decide, by decide⟩, _, _, rfl, rfl, _, _, rfl, rfl, .inl (bd _), .inl ⟨_, rfl, _, _, rfl, rfl, (by show (0 : Int) < 2147483647; decide), ?_⟩⟩
      refine ⟨_, rfl, _, rfl, _, _, rfl, rfl, ⟨by decide, by decide⟩, _, _, rfl, rfl, _, _, rfl, rfl, .inl (bd _), .inl ⟨_, rfl, _, _, rfl, rfl, (by show (0 : Int) < 2147483399; decide), ?_⟩⟩
      refine ⟨_, rfl, _, _, rfl, rfl, ⟨by decide, by decide⟩, .inl ⟨_, rfl, _, rfl, _, _, rfl, rfl, m0, ?_⟩⟩
      exact k _ x y _ _ (modM m0 _).1 (modM m0 _).2 (but_upd _) upd_same
theorem scOne : FnScope ["_law_source", "_law_some"] ["_law_source", "_law_some"] (defScope sOne) := ⟨rfl, rfl, rfl, by decide +kernel, rfl, by decide +kernel, by decide +kernel⟩
theorem ok_one {f : Addr} {fd fdN : FuncData} (F : Fun K "_law_one" "_law_one" sOne f fd) (T : TxtD K mg fN) (FN : Fun K "_law_next" "_law_next" sNext fN fdN) (bN : Binds K fdN ["_law_source", "_law_many"] []) : FnOk P w K mg base CX0 2 f fd ["_law_source", "_law_some"] spOne := by
  have GN : FnOk P w K mg base CX0 1 fN fdN ["_law_source", "_law_many"] spNext := ok_next FN T
  refine F.ok scOne (fun vs H Q E h => ?_) (fun cdv A outer s H vs Q E hr h => ?_)
  · obtain ⟨a, b, xs, x, y, z, rfl, _⟩ := h
    rfl
  · obtain ⟨a, b, xs, x, y, z, rfl, ha, hb, l0, l1, ne, k⟩ := h
    have hr1 : Room 1 _ := hr.mono (by decide)
    refine ⟨_, (pss_one (ps_ret (pe_ix ix_list (pv 1) (pe_call GN hr1 (by rfl) T.gN T.kN bN .nil pass0 (pa_cons (pv 0) (pa_cons (pe_callB call_len_seq (by rfl) T.len PySem.boot_len (pa_cons (pv 1) pa_nil)) pa_nil))) (fun _ _ => rfl)))), ?_⟩
    refine ⟨_, rfl, _, rfl, _, rfl, _, _, rfl, .inl (SqL.of hb), a, _, x, y, z, rfl, by omega, ?_, ha, fun n x' y' z' H' n0 n1 bt he => ?_⟩
    · have : (((xs.length : Nat) : Int)).natAbs = xs.length := rfl
      rw [this]
      exact Nat.lt_of_le_of_lt l1 (by decide)
    · have hn : n.toNat < xs.length := by omega
      have ei : xs[n.toNat]? = some xs[n.toNat] := List.getElem?_eq_getElem hn
      have e2 : ((n.toNat : Nat) : Int) = n := Int.toNat_of_nonneg n0
      have ea : atI xs ((n.toNat : Nat) : Int) = some xs[n.toNat] := atI_nat ei
      rw [e2] at ea
      exact ⟨_, _, _, _, rfl, rfl, SqL.of (bt _ _ ne.symm hb), ea, k _ _ _ _ _ (List.getElem_mem hn) bt he⟩
end
end Mine

set_option maxRecDepth 100000
set_option maxHeartbeats 4000000
namespace Mine
open PySem L2
abbrev sKinds : Stmt := top 32
abbrev sMade : Stmt := top 33
abbrev sFields : Stmt := top 34
abbrev sIBadBody : Stmt := inClass (top 3) 0
abbrev sIBadStart : Stmt := inClass (top 4) 0
abbrev sINoRow : Stmt := inClass (top 5) 0
abbrev sIBadHistory : Stmt := inClass (top 7) 0
abbrev sIBadProgram : Stmt := inClass (top 9) 0
abbrev sIBadHandler : Stmt := inClass (top 10) 0
abbrev sIMismatch : Stmt := inClass (top 11) 0
abbrev sITooMany : Stmt := inClass (top 12) 0
abbrev sIParted : Stmt := inClass (top 13) 0
abbrev sINoState : Stmt := inClass (top 14) 0
abbrev sINoOperation : Stmt := inClass (top 15) 0
abbrev sIApart : Stmt := inClass (top 16) 0
abbrev sIBadAnswer : Stmt := inClass (top 17) 0
abbrev sIBadChoices : Stmt := inClass (top 18) 0
abbrev sIBadCount : Stmt := inClass (top 19) 0
abbrev sINoIndex : Stmt := inClass (top 20) 0
abbrev sIBadWork : Stmt := inClass (top 23) 0
abbrev sIRecursive : Stmt := inClass (top 25) 0
abbrev sITooLong : Stmt := inClass (top 26) 0
abbrev sINoText : Stmt := inClass (top 27) 0
/-- what the written part says of an error class: its own, under AskError at cA, under ValueError -/
structure Ec (K : PySem.W.Frag) (mg : Str → Option Value) (cA : Addr) (nm : Str) (C : Addr) : Prop where
  ex : ExcC K C
  ty : PySem.W.typeIn K (.ref C) = some (.type "type")
  g : mg nm = some (.ref C)
  kC : PySem.W.keepIn K (.ref C) = true
  ne : C ≠ cA
  mro : ∃ cd : ClassData, PySem.W.clsIn K C = some cd ∧ cd.mro = [.ref C, .ref cA, .type "ValueError", .type "Exception", .type "BaseException", .type "object"]
theorem Ec.sub {K : PySem.W.Frag} {mg : Str → Option Value} {cA C : Addr} {nm : Str} (e : Ec K mg cA nm C) (b : Value) :
    PySem.W.subIn K (.ref C) b = some (([.ref C, .ref cA, .type "ValueError", .type "Exception", .type "BaseException", .type "object"] : List Value).contains b) := by
  obtain ⟨cd, h1, h2⟩ := e.mro
  show (PySem.W.clsIn K C).bind _ = _
  rw [h1, Option.bind_some, h2]
  rfl
theorem beq_ref (a b : Addr) : ((Value.ref a) == (Value.ref b)) = decide (a = b) := by
  by_cases h : a = b
  · subst h
    rw [decide_eq_true rfl]
    exact beq_self_eq_true _
  · rw [decide_eq_false h]
    exact beq_eq_false_iff_ne.mpr fun z => h (Value.ref.inj z)
/-- isinstance(e, D), e of the class at C, D another of these -/
theorem Ec.kit {K : PySem.W.Frag} {mg : Str → Option Value} {cA C D : Addr} {nm nm' : Str} (e : Ec K mg cA nm C) (d : Ec K mg cA nm' D) : PySem.W.kitOne K (.ref C) (.ref D) = some (decide (C = D)) := by
  unfold PySem.W.kitOne
  rw [beq_ref]
  by_cases h : C = D
  · rw [if_pos (decide_eq_true h), decide_eq_true h]
  · rw [if_neg (by rw [decide_eq_false h]; exact Bool.false_ne_true), decide_eq_false h]
    obtain ⟨cd, h1, _⟩ := d.mro
    show (if ((PySem.W.clsIn K D).isSome && PySem.W.typeIn K (.ref D) == some (.type "type")) = true then _ else _) = _
    rw [h1, d.ty, if_pos (by rfl), e.sub]
    have t1 : ((Value.ref D) == (Value.ref C)) = false := by
      rw [beq_ref]
      exact decide_eq_false fun z => h z.symm
    have t2 : ((Value.ref D) == (Value.ref cA)) = false := by
      rw [beq_ref]
      exact decide_eq_false d.ne
    have t3 : ∀ n : String, ((Value.ref D) == (Value.type n)) = false := fun n => beq_eq_false_iff_ne.mpr fun z => nomatch z
    simp only [List.contains_cons, t1, t2, t3, Bool.or_false, List.contains_nil]
theorem Ec.kitAsk {K : PySem.W.Frag} {mg : Str → Option Value} {cA C : Addr} {nm : Str} (e : Ec K mg cA nm C) (hc : (PySem.W.clsIn K cA).isSome = true) (ht : PySem.W.typeIn K (.ref cA) = some (.type "type")) : PySem.W.kitOne K (.ref C) (.ref cA) = some true := by
  unfold PySem.W.kitOne
  by_cases h : ((Value.ref C) == (Value.ref cA)) = true
  · rw [if_pos h]
  · rw [if_neg h]
    show (if ((PySem.W.clsIn K cA).isSome && PySem.W.typeIn K (.ref cA) == some (.type "type")) = true then _ else _) = _
    rw [hc, ht, if_pos (by rfl), e.sub]
    have t2 : ((Value.ref cA) == (Value.ref cA)) = true := beq_self_eq_true _
    simp only [List.contains_cons, t2, Bool.true_or, Bool.or_true]
theorem Ec.kitVal {K : PySem.W.Frag} {mg : Str → Option Value} {cA C : Addr} {nm : Str} (e : Ec K mg cA nm C) : PySem.W.kitOne K (.ref C) (.type "ValueError") = some true := by
  unfold PySem.W.kitOne
  have t3 : ∀ n : String, ((Value.ref C) == (Value.type n)) = false := fun n => beq_eq_false_iff_ne.mpr fun z => nomatch z
  rw [t3, if_neg Bool.false_ne_true]
  show (if PySem.W.kitMeta "ValueError" = true then PySem.W.subIn K (.ref C) (.type "ValueError") else none) = _
  rw [if_pos (by decide +kernel), e.sub]
  have t2 : ((Value.type "ValueError") == (Value.type "ValueError")) = true := beq_self_eq_true _
  simp only [List.contains_cons, t2, Bool.true_or, Bool.or_true]
/-- an error class with a field fld: its own __init__ at fI -/
structure Ei (K : PySem.W.Frag) (C fI : Addr) (fld : Str) : Prop where
  ox : OexC K C
  iC : PySem.W.findIn K (.ref C) "__init__" = some (some (.ref fI))
  tI : PySem.W.typeIn K (.ref fI) = some (.type "function")
  nf : PySem.W.findIn K (.ref C) fld = some none
abbrev veRow : List Value := [.type "ValueError", .type "Exception", .type "BaseException", .type "object"]
section
variable {P : Program} {w : World} {K : PySem.W.Frag} {mg : Str → Option Value} {base : Heap}
theorem scBadBody : FnScope ["self", "index"] ["self", "index"] (defScope sIBadBody) := ⟨rfl, rfl, rfl, by decide +kernel, rfl, by decide +kernel, by decide +kernel⟩
theorem ok_BadBody {f C : Addr} {fd : FuncData} (F : Fun K "__init__" "BadBody.__init__" sIBadBody f fd) (e : Ei K C f "index") : FnOk P w K mg base CX0 1 f fd ["self", "index"] (spInit C "index") := by
  refine F.ok scBadBody (fun vs H Q E h => ?_) (fun cdv A outer s H vs Q E hr h => ?_)
  · obtain ⟨a, v, rfl, _⟩ := h
    rfl
  · obtain ⟨a, v, rfl, ha, k⟩ := h
    refine ⟨_, pss_one (ps_ost (pv 0) (pv 1)), ?_⟩
    refine ⟨_, rfl, _, rfl, a, C, rfl, e.ox, e.nf, .inl ⟨ha, fun dx nd ne => ?_⟩⟩
    refine k dx _ (fun b o nb hb => ?_) upd_same ?_
    · rw [upd_ne nb, upd_ne (ne_of_none hb nd)]
      exact hb
    · rw [upd_ne ne, upd_same]
theorem scBadStart : FnScope ["self", "index"] ["self", "index"] (defScope sIBadStart) := ⟨rfl, rfl, rfl, by decide +kernel, rfl, by decide +kernel, by decide +kernel⟩
theorem ok_BadStart {f C : Addr} {fd : FuncData} (F : Fun K "__init__" "BadStart.__init__" sIBadStart f fd) (e : Ei K C f "index") : FnOk P w K mg base CX0 1 f fd ["self", "index"] (spInit C "index") := by
  refine F.ok scBadStart (fun vs H Q E h => ?_) (fun cdv A outer s H vs Q E hr h => ?_)
  · obtain ⟨a, v, rfl, _⟩ := h
    rfl
  · obtain ⟨a, v, rfl, ha, k⟩ := h
    refine ⟨_, pss_one (ps_ost (pv 0) (pv 1)), ?_⟩
    refine ⟨_, rfl, _, rfl, a, C, rfl, e.ox, e.nf, .inl ⟨ha, fun dx nd ne => ?_⟩⟩
    refine k dx _ (fun b o nb hb => ?_) upd_same ?_
    · rw [upd_ne nb, upd_ne (ne_of_none hb nd)]
      exact hb
    · rw [upd_ne ne, upd_same]
theorem scNoRow : FnScope ["self", "index"] ["self", "index"] (defScope sINoRow) := ⟨rfl, rfl, rfl, by decide +kernel, rfl, by decide +kernel, by decide +kernel⟩
theorem ok_NoRow {f C : Addr} {fd : FuncData} (F : Fun K "__init__" "NoRow.__init__" sINoRow f fd) (e : Ei K C f "index") : FnOk P w K mg base CX0 1 f fd ["self", "index"] (spInit C "index") := by
  refine F.ok scNoRow (fun vs H Q E h => ?_) (fun cdv A outer s H vs Q E hr h => ?_)
  · obtain ⟨a, v, rfl, _⟩ := h
    rfl
  · obtain ⟨a, v, rfl, ha, k⟩ := h
    refine ⟨_, pss_one (ps_ost (pv 0) (pv 1)), ?_⟩
    refine ⟨_, rfl, _, rfl, a, C, rfl, e.ox, e.nf, .inl ⟨ha, fun dx nd ne => ?_⟩⟩
    refine k dx _ (fun b o nb hb => ?_) upd_same ?_
    · rw [upd_ne nb, upd_ne (ne_of_none hb nd)]
      exact hb
    · rw [upd_ne ne, upd_same]
theorem scBadHistory : FnScope ["self", "index"] ["self", "index"] (defScope sIBadHistory) := ⟨rfl, rfl, rfl, by decide +kernel, rfl, by decide +kernel, by decide +kernel⟩
theorem ok_BadHistory {f C : Addr} {fd : FuncData} (F : Fun K "__init__" "BadHistory.__init__" sIBadHistory f fd) (e : Ei K C f "index") : FnOk P w K mg base CX0 1 f fd ["self", "index"] (spInit C "index") := by
  refine F.ok scBadHistory (fun vs H Q E h => ?_) (fun cdv A outer s H vs Q E hr h => ?_)
  · obtain ⟨a, v, rfl, _⟩ := h
    rfl
  · obtain ⟨a, v, rfl, ha, k⟩ := h
    refine ⟨_, pss_one (ps_ost (pv 0) (pv 1)), ?_⟩
    refine ⟨_, rfl, _, rfl, a, C, rfl, e.ox, e.nf, .inl ⟨ha, fun dx nd ne => ?_⟩⟩
    refine k dx _ (fun b o nb hb => ?_) upd_same ?_
    · rw [upd_ne nb, upd_ne (ne_of_none hb nd)]
      exact hb
    · rw [upd_ne ne, upd_same]
theorem scBadProgram : FnScope ["self", "place"] ["self", "place"] (defScope sIBadProgram) := ⟨rfl, rfl, rfl, by decide +kernel, rfl, by decide +kernel, by decide +kernel⟩
theorem ok_BadProgram {f C : Addr} {fd : FuncData} (F : Fun K "__init__" "BadProgram.__init__" sIBadProgram f fd) (e : Ei K C f "place") : FnOk P w K mg base CX0 1 f fd ["self", "place"] (spInit C "place") := by
  refine F.ok scBadProgram (fun vs H Q E h => ?_) (fun cdv A outer s H vs Q E hr h => ?_)
  · obtain ⟨a, v, rfl, _⟩ := h
    rfl
  · obtain ⟨a, v, rfl, ha, k⟩ := h
    refine ⟨_, pss_one (ps_ost (pv 0) (pv 1)), ?_⟩
    refine ⟨_, rfl, _, rfl, a, C, rfl, e.ox, e.nf, .inl ⟨ha, fun dx nd ne => ?_⟩⟩
    refine k dx _ (fun b o nb hb => ?_) upd_same ?_
    · rw [upd_ne nb, upd_ne (ne_of_none hb nd)]
      exact hb
    · rw [upd_ne ne, upd_same]
theorem scBadHandler : FnScope ["self", "part"] ["self", "part"] (defScope sIBadHandler) := ⟨rfl, rfl, rfl, by decide +kernel, rfl, by decide +kernel, by decide +kernel⟩
theorem ok_BadHandler {f C : Addr} {fd : FuncData} (F : Fun K "__init__" "BadHandler.__init__" sIBadHandler f fd) (e : Ei K C f "part") : FnOk P w K mg base CX0 1 f fd ["self", "part"] (spInit C "part") := by
  refine F.ok scBadHandler (fun vs H Q E h => ?_) (fun cdv A outer s H vs Q E hr h => ?_)
  · obtain ⟨a, v, rfl, _⟩ := h
    rfl
  · obtain ⟨a, v, rfl, ha, k⟩ := h
    refine ⟨_, pss_one (ps_ost (pv 0) (pv 1)), ?_⟩
    refine ⟨_, rfl, _, rfl, a, C, rfl, e.ox, e.nf, .inl ⟨ha, fun dx nd ne => ?_⟩⟩
    refine k dx _ (fun b o nb hb => ?_) upd_same ?_
    · rw [upd_ne nb, upd_ne (ne_of_none hb nd)]
      exact hb
    · rw [upd_ne ne, upd_same]
theorem scMismatch : FnScope ["self", "operation"] ["self", "operation"] (defScope sIMismatch) := ⟨rfl, rfl, rfl, by decide +kernel, rfl, by decide +kernel, by decide +kernel⟩
theorem ok_Mismatch {f C : Addr} {fd : FuncData} (F : Fun K "__init__" "Mismatch.__init__" sIMismatch f fd) (e : Ei K C f "operation") : FnOk P w K mg base CX0 1 f fd ["self", "operation"] (spInit C "operation") := by
  refine F.ok scMismatch (fun vs H Q E h => ?_) (fun cdv A outer s H vs Q E hr h => ?_)
  · obtain ⟨a, v, rfl, _⟩ := h
    rfl
  · obtain ⟨a, v, rfl, ha, k⟩ := h
    refine ⟨_, pss_one (ps_ost (pv 0) (pv 1)), ?_⟩
    refine ⟨_, rfl, _, rfl, a, C, rfl, e.ox, e.nf, .inl ⟨ha, fun dx nd ne => ?_⟩⟩
    refine k dx _ (fun b o nb hb => ?_) upd_same ?_
    · rw [upd_ne nb, upd_ne (ne_of_none hb nd)]
      exact hb
    · rw [upd_ne ne, upd_same]
theorem scTooMany : FnScope ["self", "many"] ["self", "many"] (defScope sITooMany) := ⟨rfl, rfl, rfl, by decide +kernel, rfl, by decide +kernel, by decide +kernel⟩
theorem ok_TooMany {f C : Addr} {fd : FuncData} (F : Fun K "__init__" "TooMany.__init__" sITooMany f fd) (e : Ei K C f "many") : FnOk P w K mg base CX0 1 f fd ["self", "many"] (spInit C "many") := by
  refine F.ok scTooMany (fun vs H Q E h => ?_) (fun cdv A outer s H vs Q E hr h => ?_)
  · obtain ⟨a, v, rfl, _⟩ := h
    rfl
  · obtain ⟨a, v, rfl, ha, k⟩ := h
    refine ⟨_, pss_one (ps_ost (pv 0) (pv 1)), ?_⟩
    refine ⟨_, rfl, _, rfl, a, C, rfl, e.ox, e.nf, .inl ⟨ha, fun dx nd ne => ?_⟩⟩
    refine k dx _ (fun b o nb hb => ?_) upd_same ?_
    · rw [upd_ne nb, upd_ne (ne_of_none hb nd)]
      exact hb
    · rw [upd_ne ne, upd_same]
theorem scParted : FnScope ["self", "history"] ["self", "history"] (defScope sIParted) := ⟨rfl, rfl, rfl, by decide +kernel, rfl, by decide +kernel, by decide +kernel⟩
theorem ok_Parted {f C : Addr} {fd : FuncData} (F : Fun K "__init__" "Parted.__init__" sIParted f fd) (e : Ei K C f "history") : FnOk P w K mg base CX0 1 f fd ["self", "history"] (spInit C "history") := by
  refine F.ok scParted (fun vs H Q E h => ?_) (fun cdv A outer s H vs Q E hr h => ?_)
  · obtain ⟨a, v, rfl, _⟩ := h
    rfl
  · obtain ⟨a, v, rfl, ha, k⟩ := h
    refine ⟨_, pss_one (ps_ost (pv 0) (pv 1)), ?_⟩
    refine ⟨_, rfl, _, rfl, a, C, rfl, e.ox, e.nf, .inl ⟨ha, fun dx nd ne => ?_⟩⟩
    refine k dx _ (fun b o nb hb => ?_) upd_same ?_
    · rw [upd_ne nb, upd_ne (ne_of_none hb nd)]
      exact hb
    · rw [upd_ne ne, upd_same]
theorem scNoState : FnScope ["self", "state"] ["self", "state"] (defScope sINoState) := ⟨rfl, rfl, rfl, by decide +kernel, rfl, by decide +kernel, by decide +kernel⟩
theorem ok_NoState {f C : Addr} {fd : FuncData} (F : Fun K "__init__" "NoState.__init__" sINoState f fd) (e : Ei K C f "state") : FnOk P w K mg base CX0 1 f fd ["self", "state"] (spInit C "state") := by
  refine F.ok scNoState (fun vs H Q E h => ?_) (fun cdv A outer s H vs Q E hr h => ?_)
  · obtain ⟨a, v, rfl, _⟩ := h
    rfl
  · obtain ⟨a, v, rfl, ha, k⟩ := h
    refine ⟨_, pss_one (ps_ost (pv 0) (pv 1)), ?_⟩
    refine ⟨_, rfl, _, rfl, a, C, rfl, e.ox, e.nf, .inl ⟨ha, fun dx nd ne => ?_⟩⟩
    refine k dx _ (fun b o nb hb => ?_) upd_same ?_
    · rw [upd_ne nb, upd_ne (ne_of_none hb nd)]
      exact hb
    · rw [upd_ne ne, upd_same]
theorem scNoOperation : FnScope ["self", "operation"] ["self", "operation"] (defScope sINoOperation) := ⟨rfl, rfl, rfl, by decide +kernel, rfl, by decide +kernel, by decide +kernel⟩
theorem ok_NoOperation {f C : Addr} {fd : FuncData} (F : Fun K "__init__" "NoOperation.__init__" sINoOperation f fd) (e : Ei K C f "operation") : FnOk P w K mg base CX0 1 f fd ["self", "operation"] (spInit C "operation") := by
  refine F.ok scNoOperation (fun vs H Q E h => ?_) (fun cdv A outer s H vs Q E hr h => ?_)
  · obtain ⟨a, v, rfl, _⟩ := h
    rfl
  · obtain ⟨a, v, rfl, ha, k⟩ := h
    refine ⟨_, pss_one (ps_ost (pv 0) (pv 1)), ?_⟩
    refine ⟨_, rfl, _, rfl, a, C, rfl, e.ox, e.nf, .inl ⟨ha, fun dx nd ne => ?_⟩⟩
    refine k dx _ (fun b o nb hb => ?_) upd_same ?_
    · rw [upd_ne nb, upd_ne (ne_of_none hb nd)]
      exact hb
    · rw [upd_ne ne, upd_same]
theorem scApart : FnScope ["self", "asks"] ["self", "asks"] (defScope sIApart) := ⟨rfl, rfl, rfl, by decide +kernel, rfl, by decide +kernel, by decide +kernel⟩
theorem ok_Apart {f C : Addr} {fd : FuncData} (F : Fun K "__init__" "Apart.__init__" sIApart f fd) (e : Ei K C f "asks") : FnOk P w K mg base CX0 1 f fd ["self", "asks"] (spInit C "asks") := by
  refine F.ok scApart (fun vs H Q E h => ?_) (fun cdv A outer s H vs Q E hr h => ?_)
  · obtain ⟨a, v, rfl, _⟩ := h
    rfl
  · obtain ⟨a, v, rfl, ha, k⟩ := h
    refine ⟨_, pss_one (ps_ost (pv 0) (pv 1)), ?_⟩
    refine ⟨_, rfl, _, rfl, a, C, rfl, e.ox, e.nf, .inl ⟨ha, fun dx nd ne => ?_⟩⟩
    refine k dx _ (fun b o nb hb => ?_) upd_same ?_
    · rw [upd_ne nb, upd_ne (ne_of_none hb nd)]
      exact hb
    · rw [upd_ne ne, upd_same]
theorem scBadAnswer : FnScope ["self", "answer"] ["self", "answer"] (defScope sIBadAnswer) := ⟨rfl, rfl, rfl, by decide +kernel, rfl, by decide +kernel, by decide +kernel⟩
theorem ok_BadAnswer {f C : Addr} {fd : FuncData} (F : Fun K "__init__" "BadAnswer.__init__" sIBadAnswer f fd) (e : Ei K C f "answer") : FnOk P w K mg base CX0 1 f fd ["self", "answer"] (spInit C "answer") := by
  refine F.ok scBadAnswer (fun vs H Q E h => ?_) (fun cdv A outer s H vs Q E hr h => ?_)
  · obtain ⟨a, v, rfl, _⟩ := h
    rfl
  · obtain ⟨a, v, rfl, ha, k⟩ := h
    refine ⟨_, pss_one (ps_ost (pv 0) (pv 1)), ?_⟩
    refine ⟨_, rfl, _, rfl, a, C, rfl, e.ox, e.nf, .inl ⟨ha, fun dx nd ne => ?_⟩⟩
    refine k dx _ (fun b o nb hb => ?_) upd_same ?_
    · rw [upd_ne nb, upd_ne (ne_of_none hb nd)]
      exact hb
    · rw [upd_ne ne, upd_same]
theorem scBadChoices : FnScope ["self", "index"] ["self", "index"] (defScope sIBadChoices) := ⟨rfl, rfl, rfl, by decide +kernel, rfl, by decide +kernel, by decide +kernel⟩
theorem ok_BadChoices {f C : Addr} {fd : FuncData} (F : Fun K "__init__" "BadChoices.__init__" sIBadChoices f fd) (e : Ei K C f "index") : FnOk P w K mg base CX0 1 f fd ["self", "index"] (spInit C "index") := by
  refine F.ok scBadChoices (fun vs H Q E h => ?_) (fun cdv A outer s H vs Q E hr h => ?_)
  · obtain ⟨a, v, rfl, _⟩ := h
    rfl
  · obtain ⟨a, v, rfl, ha, k⟩ := h
    refine ⟨_, pss_one (ps_ost (pv 0) (pv 1)), ?_⟩
    refine ⟨_, rfl, _, rfl, a, C, rfl, e.ox, e.nf, .inl ⟨ha, fun dx nd ne => ?_⟩⟩
    refine k dx _ (fun b o nb hb => ?_) upd_same ?_
    · rw [upd_ne nb, upd_ne (ne_of_none hb nd)]
      exact hb
    · rw [upd_ne ne, upd_same]
theorem scBadCount : FnScope ["self", "many"] ["self", "many"] (defScope sIBadCount) := ⟨rfl, rfl, rfl, by decide +kernel, rfl, by decide +kernel, by decide +kernel⟩
theorem ok_BadCount {f C : Addr} {fd : FuncData} (F : Fun K "__init__" "BadCount.__init__" sIBadCount f fd) (e : Ei K C f "many") : FnOk P w K mg base CX0 1 f fd ["self", "many"] (spInit C "many") := by
  refine F.ok scBadCount (fun vs H Q E h => ?_) (fun cdv A outer s H vs Q E hr h => ?_)
  · obtain ⟨a, v, rfl, _⟩ := h
    rfl
  · obtain ⟨a, v, rfl, ha, k⟩ := h
    refine ⟨_, pss_one (ps_ost (pv 0) (pv 1)), ?_⟩
    refine ⟨_, rfl, _, rfl, a, C, rfl, e.ox, e.nf, .inl ⟨ha, fun dx nd ne => ?_⟩⟩
    refine k dx _ (fun b o nb hb => ?_) upd_same ?_
    · rw [upd_ne nb, upd_ne (ne_of_none hb nd)]
      exact hb
    · rw [upd_ne ne, upd_same]
theorem scNoIndex : FnScope ["self", "index"] ["self", "index"] (defScope sINoIndex) := ⟨rfl, rfl, rfl, by decide +kernel, rfl, by decide +kernel, by decide +kernel⟩
theorem ok_NoIndex {f C : Addr} {fd : FuncData} (F : Fun K "__init__" "NoIndex.__init__" sINoIndex f fd) (e : Ei K C f "index") : FnOk P w K mg base CX0 1 f fd ["self", "index"] (spInit C "index") := by
  refine F.ok scNoIndex (fun vs H Q E h => ?_) (fun cdv A outer s H vs Q E hr h => ?_)
  · obtain ⟨a, v, rfl, _⟩ := h
    rfl
  · obtain ⟨a, v, rfl, ha, k⟩ := h
    refine ⟨_, pss_one (ps_ost (pv 0) (pv 1)), ?_⟩
    refine ⟨_, rfl, _, rfl, a, C, rfl, e.ox, e.nf, .inl ⟨ha, fun dx nd ne => ?_⟩⟩
    refine k dx _ (fun b o nb hb => ?_) upd_same ?_
    · rw [upd_ne nb, upd_ne (ne_of_none hb nd)]
      exact hb
    · rw [upd_ne ne, upd_same]
theorem scBadWork : FnScope ["self", "place"] ["self", "place"] (defScope sIBadWork) := ⟨rfl, rfl, rfl, by decide +kernel, rfl, by decide +kernel, by decide +kernel⟩
theorem ok_BadWork {f C : Addr} {fd : FuncData} (F : Fun K "__init__" "BadWork.__init__" sIBadWork f fd) (e : Ei K C f "place") : FnOk P w K mg base CX0 1 f fd ["self", "place"] (spInit C "place") := by
  refine F.ok scBadWork (fun vs H Q E h => ?_) (fun cdv A outer s H vs Q E hr h => ?_)
  · obtain ⟨a, v, rfl, _⟩ := h
    rfl
  · obtain ⟨a, v, rfl, ha, k⟩ := h
    refine ⟨_, pss_one (ps_ost (pv 0) (pv 1)), ?_⟩
    refine ⟨_, rfl, _, rfl, a, C, rfl, e.ox, e.nf, .inl ⟨ha, fun dx nd ne => ?_⟩⟩
    refine k dx _ (fun b o nb hb => ?_) upd_same ?_
    · rw [upd_ne nb, upd_ne (ne_of_none hb nd)]
      exact hb
    · rw [upd_ne ne, upd_same]
theorem scRecursive : FnScope ["self", "function"] ["self", "function"] (defScope sIRecursive) := ⟨rfl, rfl, rfl, by decide +kernel, rfl, by decide +kernel, by decide +kernel⟩
theorem ok_Recursive {f C : Addr} {fd : FuncData} (F : Fun K "__init__" "Recursive.__init__" sIRecursive f fd) (e : Ei K C f "function") : FnOk P w K mg base CX0 1 f fd ["self", "function"] (spInit C "function") := by
  refine F.ok scRecursive (fun vs H Q E h => ?_) (fun cdv A outer s H vs Q E hr h => ?_)
  · obtain ⟨a, v, rfl, _⟩ := h
    rfl
  · obtain ⟨a, v, rfl, ha, k⟩ := h
    refine ⟨_, pss_one (ps_ost (pv 0) (pv 1)), ?_⟩
    refine ⟨_, rfl, _, rfl, a, C, rfl, e.ox, e.nf, .inl ⟨ha, fun dx nd ne => ?_⟩⟩
    refine k dx _ (fun b o nb hb => ?_) upd_same ?_
    · rw [upd_ne nb, upd_ne (ne_of_none hb nd)]
      exact hb
    · rw [upd_ne ne, upd_same]
theorem scTooLong : FnScope ["self", "many"] ["self", "many"] (defScope sITooLong) := ⟨rfl, rfl, rfl, by decide +kernel, rfl, by decide +kernel, by decide +kernel⟩
theorem ok_TooLong {f C : Addr} {fd : FuncData} (F : Fun K "__init__" "TooLong.__init__" sITooLong f fd) (e : Ei K C f "many") : FnOk P w K mg base CX0 1 f fd ["self", "many"] (spInit C "many") := by
  refine F.ok scTooLong (fun vs H Q E h => ?_) (fun cdv A outer s H vs Q E hr h => ?_)
  · obtain ⟨a, v, rfl, _⟩ := h
    rfl
  · obtain ⟨a, v, rfl, ha, k⟩ := h
    refine ⟨_, pss_one (ps_ost (pv 0) (pv 1)), ?_⟩
    refine ⟨_, rfl, _, rfl, a, C, rfl, e.ox, e.nf, .inl ⟨ha, fun dx nd ne => ?_⟩⟩
    refine k dx _ (fun b o nb hb => ?_) upd_same ?_
    · rw [upd_ne nb, upd_ne (ne_of_none hb nd)]
      exact hb
    · rw [upd_ne ne, upd_same]
theorem scNoText : FnScope ["self", "line"] ["self", "line"] (defScope sINoText) := ⟨rfl, rfl, rfl, by decide +kernel, rfl, by decide +kernel, by decide +kernel⟩
theorem ok_NoText {f C : Addr} {fd : FuncData} (F : Fun K "__init__" "NoText.__init__" sINoText f fd) (e : Ei K C f "line") : FnOk P w K mg base CX0 1 f fd ["self", "line"] (spInit C "line") := by
  refine F.ok scNoText (fun vs H Q E h => ?_) (fun cdv A outer s H vs Q E hr h => ?_)
  · obtain ⟨a, v, rfl, _⟩ := h
    rfl
  · obtain ⟨a, v, rfl, ha, k⟩ := h
    refine ⟨_, pss_one (ps_ost (pv 0) (pv 1)), ?_⟩
    refine ⟨_, rfl, _, rfl, a, C, rfl, e.ox, e.nf, .inl ⟨ha, fun dx nd ne => ?_⟩⟩
    refine k dx _ (fun b o nb hb => ?_) upd_same ?_
    · rw [upd_ne nb, upd_ne (ne_of_none hb nd)]
      exact hb
    · rw [upd_ne ne, upd_same]
end
end Mine

set_option maxRecDepth 100000
set_option maxHeartbeats 4000000
namespace Mine
open PySem L2
/-- the error classes -/
structure TxtE (K : PySem.W.Frag) (mg : Str → Option Value) (cA c0 c1 c2 c3 c4 c5 c6 c7 c8 c9 c10 c11 c12 c13 c14 c15 c16 c17 c18 c19 c20 c21 c22 c23 c24 c25 : Addr) : Prop where
  isi : mg "isinstance" = none
  e0 : Ec K mg cA "BadOperations" c0
  e1 : Ec K mg cA "BadBody" c1
  e2 : Ec K mg cA "BadStart" c2
  e3 : Ec K mg cA "NoRow" c3
  e4 : Ec K mg cA "BadOthers" c4
  e5 : Ec K mg cA "BadHistory" c5
  e6 : Ec K mg cA "BadSizes" c6
  e7 : Ec K mg cA "BadProgram" c7
  e8 : Ec K mg cA "BadHandler" c8
  e9 : Ec K mg cA "Mismatch" c9
  e10 : Ec K mg cA "TooMany" c10
  e11 : Ec K mg cA "Parted" c11
  e12 : Ec K mg cA "NoState" c12
  e13 : Ec K mg cA "NoOperation" c13
  e14 : Ec K mg cA "Apart" c14
  e15 : Ec K mg cA "BadAnswer" c15
  e16 : Ec K mg cA "BadChoices" c16
  e17 : Ec K mg cA "BadCount" c17
  e18 : Ec K mg cA "NoIndex" c18
  e19 : Ec K mg cA "Endless" c19
  e20 : Ec K mg cA "BadHandlers" c20
  e21 : Ec K mg cA "BadWork" c21
  e22 : Ec K mg cA "NoEntry" c22
  e23 : Ec K mg cA "Recursive" c23
  e24 : Ec K mg cA "TooLong" c24
  e25 : Ec K mg cA "NoText" c25
/-- the classes with a field: their __init__; the others -/
structure TxtI (K : PySem.W.Frag) (c0 c1 c2 c3 c4 c5 c6 c7 c8 c9 c10 c11 c12 c13 c14 c15 c16 c17 c18 c19 c20 c21 c22 c23 c24 c25 f1 f2 f3 f5 f7 f8 f9 f10 f11 f12 f13 f14 f15 f16 f17 f18 f21 f23 f24 f25 : Addr) (fd1 fd2 fd3 fd5 fd7 fd8 fd9 fd10 fd11 fd12 fd13 fd14 fd15 fd16 fd17 fd18 fd21 fd23 fd24 fd25 : FuncData) : Prop where
  q0 : PySem.W.excIn K c0 [.type "ValueError", .type "Exception", .type "BaseException", .type "object"] "ValueError.__new__" = true
  i1 : Ei K c1 f1 "index"
  F1 : Fun K "__init__" "BadBody.__init__" sIBadBody f1 fd1
  b1 : ∀ (a b : Value), bindArgs fd1 ⟨[a, b], []⟩ = pure ([(("self" : Str), a), ("index", b)] : List (Str × Value))
  i2 : Ei K c2 f2 "index"
  F2 : Fun K "__init__" "BadStart.__init__" sIBadStart f2 fd2
  b2 : ∀ (a b : Value), bindArgs fd2 ⟨[a, b], []⟩ = pure ([(("self" : Str), a), ("index", b)] : List (Str × Value))
  i3 : Ei K c3 f3 "index"
  F3 : Fun K "__init__" "NoRow.__init__" sINoRow f3 fd3
  b3 : ∀ (a b : Value), bindArgs fd3 ⟨[a, b], []⟩ = pure ([(("self" : Str), a), ("index", b)] : List (Str × Value))
  q4 : PySem.W.excIn K c4 [.type "ValueError", .type "Exception", .type "BaseException", .type "object"] "ValueError.__new__" = true
  i5 : Ei K c5 f5 "index"
  F5 : Fun K "__init__" "BadHistory.__init__" sIBadHistory f5 fd5
  b5 : ∀ (a b : Value), bindArgs fd5 ⟨[a, b], []⟩ = pure ([(("self" : Str), a), ("index", b)] : List (Str × Value))
  q6 : PySem.W.excIn K c6 [.type "ValueError", .type "Exception", .type "BaseException", .type "object"] "ValueError.__new__" = true
  i7 : Ei K c7 f7 "place"
  F7 : Fun K "__init__" "BadProgram.__init__" sIBadProgram f7 fd7
  b7 : ∀ (a b : Value), bindArgs fd7 ⟨[a, b], []⟩ = pure ([(("self" : Str), a), ("place", b)] : List (Str × Value))
  i8 : Ei K c8 f8 "part"
  F8 : Fun K "__init__" "BadHandler.__init__" sIBadHandler f8 fd8
  b8 : ∀ (a b : Value), bindArgs fd8 ⟨[a, b], []⟩ = pure ([(("self" : Str), a), ("part", b)] : List (Str × Value))
  i9 : Ei K c9 f9 "operation"
  F9 : Fun K "__init__" "Mismatch.__init__" sIMismatch f9 fd9
  b9 : ∀ (a b : Value), bindArgs fd9 ⟨[a, b], []⟩ = pure ([(("self" : Str), a), ("operation", b)] : List (Str × Value))
  i10 : Ei K c10 f10 "many"
  F10 : Fun K "__init__" "TooMany.__init__" sITooMany f10 fd10
  b10 : ∀ (a b : Value), bindArgs fd10 ⟨[a, b], []⟩ = pure ([(("self" : Str), a), ("many", b)] : List (Str × Value))
  i11 : Ei K c11 f11 "history"
  F11 : Fun K "__init__" "Parted.__init__" sIParted f11 fd11
  b11 : ∀ (a b : Value), bindArgs fd11 ⟨[a, b], []⟩ = pure ([(("self" : Str), a), ("history", b)] : List (Str × Value))
  i12 : Ei K c12 f12 "state"
  F12 : Fun K "__init__" "NoState.__init__" sINoState f12 fd12
  b12 : ∀ (a b : Value), bindArgs fd12 ⟨[a, b], []⟩ = pure ([(("self" : Str), a), ("state", b)] : List (Str × Value))
  i13 : Ei K c13 f13 "operation"
  F13 : Fun K "__init__" "NoOperation.__init__" sINoOperation f13 fd13
  b13 : ∀ (a b : Value), bindArgs fd13 ⟨[a, b], []⟩ = pure ([(("self" : Str), a), ("operation", b)] : List (Str × Value))
  i14 : Ei K c14 f14 "asks"
  F14 : Fun K "__init__" "Apart.__init__" sIApart f14 fd14
  b14 : ∀ (a b : Value), bindArgs fd14 ⟨[a, b], []⟩ = pure ([(("self" : Str), a), ("asks", b)] : List (Str × Value))
  i15 : Ei K c15 f15 "answer"
  F15 : Fun K "__init__" "BadAnswer.__init__" sIBadAnswer f15 fd15
  b15 : ∀ (a b : Value), bindArgs fd15 ⟨[a, b], []⟩ = pure ([(("self" : Str), a), ("answer", b)] : List (Str × Value))
  i16 : Ei K c16 f16 "index"
  F16 : Fun K "__init__" "BadChoices.__init__" sIBadChoices f16 fd16
  b16 : ∀ (a b : Value), bindArgs fd16 ⟨[a, b], []⟩ = pure ([(("self" : Str), a), ("index", b)] : List (Str × Value))
  i17 : Ei K c17 f17 "many"
  F17 : Fun K "__init__" "BadCount.__init__" sIBadCount f17 fd17
  b17 : ∀ (a b : Value), bindArgs fd17 ⟨[a, b], []⟩ = pure ([(("self" : Str), a), ("many", b)] : List (Str × Value))
  i18 : Ei K c18 f18 "index"
  F18 : Fun K "__init__" "NoIndex.__init__" sINoIndex f18 fd18
  b18 : ∀ (a b : Value), bindArgs fd18 ⟨[a, b], []⟩ = pure ([(("self" : Str), a), ("index", b)] : List (Str × Value))
  q19 : PySem.W.excIn K c19 [.type "ValueError", .type "Exception", .type "BaseException", .type "object"] "ValueError.__new__" = true
  q20 : PySem.W.excIn K c20 [.type "ValueError", .type "Exception", .type "BaseException", .type "object"] "ValueError.__new__" = true
  i21 : Ei K c21 f21 "place"
  F21 : Fun K "__init__" "BadWork.__init__" sIBadWork f21 fd21
  b21 : ∀ (a b : Value), bindArgs fd21 ⟨[a, b], []⟩ = pure ([(("self" : Str), a), ("place", b)] : List (Str × Value))
  q22 : PySem.W.excIn K c22 [.type "ValueError", .type "Exception", .type "BaseException", .type "object"] "ValueError.__new__" = true
  i23 : Ei K c23 f23 "function"
  F23 : Fun K "__init__" "Recursive.__init__" sIRecursive f23 fd23
  b23 : ∀ (a b : Value), bindArgs fd23 ⟨[a, b], []⟩ = pure ([(("self" : Str), a), ("function", b)] : List (Str × Value))
  i24 : Ei K c24 f24 "many"
  F24 : Fun K "__init__" "TooLong.__init__" sITooLong f24 fd24
  b24 : ∀ (a b : Value), bindArgs fd24 ⟨[a, b], []⟩ = pure ([(("self" : Str), a), ("many", b)] : List (Str × Value))
  i25 : Ei K c25 f25 "line"
  F25 : Fun K "__init__" "NoText.__init__" sINoText f25 fd25
  b25 : ∀ (a b : Value), bindArgs fd25 ⟨[a, b], []⟩ = pure ([(("self" : Str), a), ("line", b)] : List (Str × Value))
/-- isinstance of an error against all classes -/
def kindsOf (C : Addr) (Cs : List Addr) : List V := Cs.map fun D => V.bl (decide (C = D))
def spKinds (Cs : List Addr) : Sp := fun vs H Q _ => ∃ a C : Addr, vs = [.ref a] ∧ ErrAt H a C ∧ C ∈ Cs ∧ New H (.lst (kindsOf C Cs)) Q
/-- an error of the class at C that keeps v in the field, or has none -/
def ErrF (H : Hp) (a C : Addr) (fld : Option Str) (v : V) : Prop := match fld with
  | none => H a = some (exo a C none)
  | some f => ∃ dx, H a = some (exo a C (some dx)) ∧ H dx = some (exd dx [(f, v)])
theorem ErrF.same {H H' : Hp} {a C : Addr} {fld : Option Str} {v : V} (s : Same H H') (h : ErrF H a C fld v) : ErrF H' a C fld v := by
  cases fld with
  | none => exact s _ _ h
  | some f =>
    obtain ⟨dx, h1, h2⟩ := h
    exact ⟨dx, s _ _ h1, s _ _ h2⟩
theorem ErrF.at {H : Hp} {a C : Addr} {fld : Option Str} {v : V} (h : ErrF H a C fld v) : ErrAt H a C := by
  cases fld with
  | none => exact .inl h
  | some f =>
    obtain ⟨dx, h1, h2⟩ := h
    exact .inr ⟨dx, _, h1, h2⟩
/-- errors of the classes, one each, in order; all keep v -/
def Errs (H : Hp) (v : V) : List V → List (Addr × Option Str) → Prop
  | [], [] => True
  | x :: xs, c :: cs => (∃ a, x = .ref a ∧ ErrF H a c.1 c.2 v) ∧ Errs H v xs cs
  | _, _ => False
theorem Errs.same {H H' : Hp} {v : V} (s : Same H H') : ∀ {vs : List V} {cs : List (Addr × Option Str)}, Errs H v vs cs → Errs H' v vs cs
  | [], [], _ => trivial
  | x :: vs, c :: cs, h => by
    obtain ⟨⟨a, e, r⟩, t⟩ := h
    exact ⟨⟨a, e, r.same s⟩, Errs.same s t⟩
theorem Errs.append {H : Hp} {v : V} : ∀ {vs ws : List V} {cs ds : List (Addr × Option Str)}, Errs H v vs cs → Errs H v ws ds → Errs H v (vs ++ ws) (cs ++ ds)
  | [], ws, [], ds, _, h => h
  | x :: vs, ws, c :: cs, ds, h, h2 => ⟨h.1, Errs.append h.2 h2⟩
theorem Errs.length {H : Hp} {v : V} : ∀ {vs : List V} {cs : List (Addr × Option Str)}, Errs H v vs cs → vs.length = cs.length
  | [], [], _ => rfl
  | x :: vs, c :: cs, h => congrArg Nat.succ (Errs.length h.2)
theorem Errs.get {H : Hp} {v : V} : ∀ {vs : List V} {cs : List (Addr × Option Str)} {i : Nat} {x : V}, Errs H v vs cs → vs[i]? = some x → ∃ a c, x = .ref a ∧ cs[i]? = some c ∧ ErrAt H a c.1
  | [], [], i, x, _, e => by simp at e
  | y :: vs, c :: cs, 0, x, h, e => by
    obtain ⟨⟨a, e1, r⟩, _⟩ := h
    simp at e
    subst e
    exact ⟨a, c, e1, rfl, r.at⟩
  | y :: vs, c :: cs, i + 1, x, h, e => by
    obtain ⟨a, c', h1, h2, h3⟩ := Errs.get (i := i) (x := x) h.2 (by simpa using e)
    exact ⟨a, c', h1, by simpa using h2, h3⟩
theorem Errs.sel {H : Hp} {v : V} : ∀ {vs : List V} {cs : List (Addr × Option Str)} (i : Nat) {C : Addr} {f : Str}, Errs H v vs cs → cs[i]? = some (C, some f) → ∃ a dx, vs[i]? = some (.ref a) ∧ H a = some (exo a C (some dx)) ∧ H dx = some (exd dx [(f, v)])
  | [], [], i, C, f, _, e => by simp at e
  | y :: vs, c :: cs, 0, C, f, h, e => by
    obtain ⟨⟨a, e1, r⟩, _⟩ := h
    simp at e
    subst e
    obtain ⟨dx, r1, r2⟩ := r
    exact ⟨a, dx, by rw [e1]; rfl, r1, r2⟩
  | y :: vs, c :: cs, i + 1, C, f, h, e => by
    obtain ⟨a, dx, h1, h2, h3⟩ := Errs.sel (i := i) (C := C) (f := f) h.2 (by simpa using e)
    exact ⟨a, dx, by simpa using h1, h2, h3⟩
def spMade (Cs : List (Addr × Option Str)) : Sp := fun vs H Q _ => ∃ v : V, vs = [v] ∧ ∀ (p : Addr) (H' : Hp) (xs : List V), Same H H' → H p = none → H' p = some (.lst xs) → Errs H' v xs Cs → Q (.ref p) H'
def spFields (Cs : List (Addr × Option Str)) : Sp := fun vs H Q _ => ∃ (p : Addr) (xs : List V) (v : V), vs = [.ref p] ∧ H p = some (.lst xs) ∧ Errs H v xs Cs ∧ New H (.lst (List.replicate 20 v)) Q
section
variable {P : Program} {w : World} {K : PySem.W.Frag} {mg : Str → Option Value} {base : Heap}
variable {cA c0 c1 c2 c3 c4 c5 c6 c7 c8 c9 c10 c11 c12 c13 c14 c15 c16 c17 c18 c19 c20 c21 c22 c23 c24 c25 f1 f2 f3 f5 f7 f8 f9 f10 f11 f12 f13 f14 f15 f16 f17 f18 f21 f23 f24 f25 : Addr} {fd1 fd2 fd3 fd5 fd7 fd8 fd9 fd10 fd11 fd12 fd13 fd14 fd15 fd16 fd17 fd18 fd21 fd23 fd24 fd25 : FuncData}
theorem TxtE.all (T : TxtE K mg cA c0 c1 c2 c3 c4 c5 c6 c7 c8 c9 c10 c11 c12 c13 c14 c15 c16 c17 c18 c19 c20 c21 c22 c23 c24 c25) : ∀ C ∈ ([c0, c1, c2, c3, c4, c5, c6, c7, c8, c9, c10, c11, c12, c13, c14, c15, c16, c17, c18, c19, c20, c21, c22, c23, c24, c25] : List Addr), ∃ nm, Ec K mg cA nm C := by
  intro C h
  simp only [List.mem_cons, List.not_mem_nil, or_false] at h
  rcases h with rfl | rfl | rfl | rfl | rfl | rfl | rfl | rfl | rfl | rfl | rfl | rfl | rfl | rfl | rfl | rfl | rfl | rfl | rfl | rfl | rfl | rfl | rfl | rfl | rfl | rfl
  · exact ⟨_, T.e0⟩
  · exact ⟨_, T.e1⟩
  · exact ⟨_, T.e2⟩
  · exact ⟨_, T.e3⟩
  · exact ⟨_, T.e4⟩
  · exact ⟨_, T.e5⟩
  · exact ⟨_, T.e6⟩
  · exact ⟨_, T.e7⟩
  · exact ⟨_, T.e8⟩
  · exact ⟨_, T.e9⟩
  · exact ⟨_, T.e10⟩
  · exact ⟨_, T.e11⟩
  · exact ⟨_, T.e12⟩
  · exact ⟨_, T.e13⟩
  · exact ⟨_, T.e14⟩
  · exact ⟨_, T.e15⟩
  · exact ⟨_, T.e16⟩
  · exact ⟨_, T.e17⟩
  · exact ⟨_, T.e18⟩
  · exact ⟨_, T.e19⟩
  · exact ⟨_, T.e20⟩
  · exact ⟨_, T.e21⟩
  · exact ⟨_, T.e22⟩
  · exact ⟨_, T.e23⟩
  · exact ⟨_, T.e24⟩
  · exact ⟨_, T.e25⟩
theorem scKinds : FnScope ["_law_e", "_law_found"] ["_law_e"] (defScope sKinds) := ⟨rfl, rfl, rfl, by decide +kernel, rfl, by decide +kernel, by decide +kernel⟩
theorem ok_kinds {f : Addr} {fd : FuncData} (F : Fun K "_law_kinds" "_law_kinds" sKinds f fd) (T : TxtE K mg cA c0 c1 c2 c3 c4 c5 c6 c7 c8 c9 c10 c11 c12 c13 c14 c15 c16 c17 c18 c19 c20 c21 c22 c23 c24 c25) : FnOk P w K mg base CX0 1 f fd ["_law_e"] (spKinds [c0, c1, c2, c3, c4, c5, c6, c7, c8, c9, c10, c11, c12, c13, c14, c15, c16, c17, c18, c19, c20, c21, c22, c23, c24, c25]) := by
  refine F.ok scKinds (fun vs H Q E h => ?_) (fun cdv A outer s H vs Q E hr h => ?_)
  · obtain ⟨a, C, rfl, _⟩ := h
    rfl
  · obtain ⟨a, C, rfl, hE, hC, k⟩ := h
    obtain ⟨nm, eC⟩ := T.all C hC
    refine ⟨_, (pss_cons (ps_set (i := 1) scKinds.nd rfl (Or.inl rfl) (pe_lstG (pa_cons (pe_callB call_isExo (by rfl) T.isi (by decide +kernel) (pa_cons (pv 0) (pa_cons (pe_glob (v := .ref c0) rfl T.e0.g rfl) pa_nil))) (pa_cons (pe_callB call_isExo (by rfl) T.isi (by decide +kernel) (pa_cons (pv 0) (pa_cons (pe_glob (v := .ref c1) rfl T.e1.g rfl) pa_nil))) (pa_cons (pe_callB call_isExo (by rfl) T.isi (by decide +kernel) (pa_cons (pv 0) (pa_cons (pe_glob (v := .ref c2) rfl T.e2.g rfl) pa_nil))) (pa_cons (pe_callB call_isExo (by rfl) T.isi (by decide +kernel) (pa_cons (pv 0) (pa_cons (pe_glob (v := .ref c3) rfl T.e3.g rfl) pa_nil))) pa_nil))))))
      (pss_cons (ps_set (i := 1) scKinds.nd rfl (Or.inl rfl) (pe_op op_catG (pv 1) (pe_lstG (pa_cons (pe_callB call_isExo (by rfl) T.isi (by decide +kernel) (pa_cons (pv 0) (pa_cons (pe_glob (v := .ref c4) rfl T.e4.g rfl) pa_nil))) (pa_cons (pe_callB call_isExo (by rfl) T.isi (by decide +kernel) (pa_cons (pv 0) (pa_cons (pe_glob (v := .ref c5) rfl T.e5.g rfl) pa_nil))) (pa_cons (pe_callB call_isExo (by rfl) T.isi (by decide +kernel) (pa_cons (pv 0) (pa_cons (pe_glob (v := .ref c6) rfl T.e6.g rfl) pa_nil))) pa_nil))))))
      (pss_cons (ps_set (i := 1) scKinds.nd rfl (Or.inl rfl) (pe_op op_catG (pv 1) (pe_lstG (pa_cons (pe_callB call_isExo (by rfl) T.isi (by decide +kernel) (pa_cons (pv 0) (pa_cons (pe_glob (v := .ref c7) rfl T.e7.g rfl) pa_nil))) (pa_cons (pe_callB call_isExo (by rfl) T.isi (by decide +kernel) (pa_cons (pv 0) (pa_cons (pe_glob (v := .ref c8) rfl T.e8.g rfl) pa_nil))) (pa_cons (pe_callB call_isExo (by rfl) T.isi (by decide +kernel) (pa_cons (pv 0) (pa_cons (pe_glob (v := .ref c9) rfl T.e9.g rfl) pa_nil))) pa_nil))))))
      (pss_cons (ps_set (i := 1) scKinds.nd rfl (Or.inl rfl) (pe_op op_catG (pv 1) (pe_lstG (pa_cons (pe_callB call_isExo (by rfl) T.isi (by decide +kernel) (pa_cons (pv 0) (pa_cons (pe_glob (v := .ref c10) rfl T.e10.g rfl) pa_nil))) (pa_cons (pe_callB call_isExo (by rfl) T.isi (by decide +kernel) (pa_cons (pv 0) (pa_cons (pe_glob (v := .ref c11) rfl T.e11.g rfl) pa_nil))) (pa_cons (pe_callB call_isExo (by rfl) T.isi (by decide +kernel) (pa_cons (pv 0) (pa_cons (pe_glob (v := .ref c12) rfl T.e12.g rfl) pa_nil))) pa_nil))))))
      (pss_cons (ps_set (i := 1) scKinds.nd rfl (Or.inl rfl) (pe_op op_catG (pv 1) (pe_lstG (pa_cons (pe_callB call_isExo (by rfl) T.isi (by decide +kernel) (pa_cons (pv 0) (pa_cons (pe_glob (v := .ref c13) rfl T.e13.g rfl) pa_nil))) (pa_cons (pe_callB call_isExo (by rfl) T.isi (by decide +kernel) (pa_cons (pv 0) (pa_cons (pe_glob (v := .ref c14) rfl T.e14.g rfl) pa_nil))) (pa_cons (pe_callB call_isExo (by rfl) T.isi (by decide +kernel) (pa_cons (pv 0) (pa_cons (pe_glob (v := .ref c15) rfl T.e15.g rfl) pa_nil))) pa_nil))))))
      (pss_cons (ps_set (i := 1) scKinds.nd rfl (Or.inl rfl) (pe_op op_catG (pv 1) (pe_lstG (pa_cons (pe_callB call_isExo (by rfl) T.isi (by decide +kernel) (pa_cons (pv 0) (pa_cons (pe_glob (v := .ref c16) rfl T.e16.g rfl) pa_nil))) (pa_cons (pe_callB call_isExo (by rfl) T.isi (by decide +kernel) (pa_cons (pv 0) (pa_cons (pe_glob (v := .ref c17) rfl T.e17.g rfl) pa_nil))) (pa_cons (pe_callB call_isExo (by rfl) T.isi (by decide +kernel) (pa_cons (pv 0) (pa_cons (pe_glob (v := .ref c18) rfl T.e18.g rfl) pa_nil))) pa_nil))))))
      (pss_cons (ps_set (i := 1) scKinds.nd rfl (Or.inl rfl) (pe_op op_catG (pv 1) (pe_lstG (pa_cons (pe_callB call_isExo (by rfl) T.isi (by decide +kernel) (pa_cons (pv 0) (pa_cons (pe_glob (v := .ref c19) rfl T.e19.g rfl) pa_nil))) (pa_cons (pe_callB call_isExo (by rfl) T.isi (by decide +kernel) (pa_cons (pv 0) (pa_cons (pe_glob (v := .ref c20) rfl T.e20.g rfl) pa_nil))) (pa_cons (pe_callB call_isExo (by rfl) T.isi (by decide +kernel) (pa_cons (pv 0) (pa_cons (pe_glob (v := .ref c21) rfl T.e21.g rfl) pa_nil))) pa_nil))))))
      (pss_one (ps_ret (pe_op op_catG (pv 1) (pe_lstG (pa_cons (pe_callB call_isExo (by rfl) T.isi (by decide +kernel) (pa_cons (pv 0) (pa_cons (pe_glob (v := .ref c22) rfl T.e22.g rfl) pa_nil))) (pa_cons (pe_callB call_isExo (by rfl) T.isi (by decide +kernel) (pa_cons (pv 0) (pa_cons (pe_glob (v := .ref c23) rfl T.e23.g rfl) pa_nil))) (pa_cons (pe_callB call_isExo (by rfl) T.isi (by decide +kernel) (pa_cons (pv 0) (pa_cons (pe_glob (v := .ref c24) rfl T.e24.g rfl) pa_nil))) (pa_cons (pe_callB call_isExo (by rfl) T.isi (by decide +kernel) (pa_cons (pv 0) (pa_cons (pe_glob (v := .ref c25) rfl T.e25.g rfl) pa_nil))) pa_nil))))))))))))))), ?_⟩
    have s0 : Same H H := Same.refl H
    refine ⟨_, rfl, a, C, _, _, _, rfl, hE, .own _, eC.ex, eC.kit T.e0, ?_⟩
    refine ⟨_, rfl, a, C, _, _, _, rfl, hE, .own _, eC.ex, eC.kit T.e1, ?_⟩
    refine ⟨_, rfl, a, C, _, _, _, rfl, hE, .own _, eC.ex, eC.kit T.e2, ?_⟩
    refine ⟨_, rfl, a, C, _, _, _, rfl, hE, .own _, eC.ex, eC.kit T.e3, ?_⟩
    refine ⟨by show 4 ≤ sizeLine; decide, fun p H1 n s e => ?_⟩
    have hL := e
    replace hE := s.err hE
    replace s0 := s0.trans s
    clear n s
    clear e
    refine ⟨_, rfl, ?_⟩
    refine ⟨_, rfl, a, C, _, _, _, rfl, hE, .own _, eC.ex, eC.kit T.e4, ?_⟩
    refine ⟨_, rfl, a, C, _, _, _, rfl, hE, .own _, eC.ex, eC.kit T.e5, ?_⟩
    refine ⟨_, rfl, a, C, _, _, _, rfl, hE, .own _, eC.ex, eC.kit T.e6, ?_⟩
    refine ⟨by show 3 ≤ sizeLine; decide, fun p H1 n s e => ?_⟩
    replace hE := s.err hE
    replace s0 := s0.trans s
    replace hL := s _ _ hL
    clear n s
    refine ⟨_, _, _, _, rfl, rfl, hL, e, (by show 7 ≤ sizeLine; decide), fun p2 H2 n s e2 => ?_⟩
    clear hL e
    have hL := e2
    replace hE := s.err hE
    have n' := s0.free n
    replace s0 := s0.trans s
    clear e2 s n
    refine ⟨_, rfl, ?_⟩
    refine ⟨_, rfl, a, C, _, _, _, rfl, hE, .own _, eC.ex, eC.kit T.e7, ?_⟩
    refine ⟨_, rfl, a, C, _, _, _, rfl, hE, .own _, eC.ex, eC.kit T.e8, ?_⟩
    refine ⟨_, rfl, a, C, _, _, _, rfl, hE, .own _, eC.ex, eC.kit T.e9, ?_⟩
    refine ⟨by show 3 ≤ sizeLine; decide, fun p H1 n s e => ?_⟩
    replace hE := s.err hE
    replace s0 := s0.trans s
    replace hL := s _ _ hL
    clear n s
    refine ⟨_, _, _, _, rfl, rfl, hL, e, (by show 10 ≤ sizeLine; decide), fun p2 H2 n s e2 => ?_⟩
    clear hL e
    have hL := e2
    replace hE := s.err hE
    have n' := s0.free n
    replace s0 := s0.trans s
    clear e2 s n
    refine ⟨_, rfl, ?_⟩
    refine ⟨_, rfl, a, C, _, _, _, rfl, hE, .own _, eC.ex, eC.kit T.e10, ?_⟩
    refine ⟨_, rfl, a, C, _, _, _, rfl, hE, .own _, eC.ex, eC.kit T.e11, ?_⟩
    refine ⟨_, rfl, a, C, _, _, _, rfl, hE, .own _, eC.ex, eC.kit T.e12, ?_⟩
    refine ⟨by show 3 ≤ sizeLine; decide, fun p H1 n s e => ?_⟩
    replace hE := s.err hE
    replace s0 := s0.trans s
    replace hL := s _ _ hL
    clear n s
    refine ⟨_, _, _, _, rfl, rfl, hL, e, (by show 13 ≤ sizeLine; decide), fun p2 H2 n s e2 => ?_⟩
    clear hL e
    have hL := e2
    replace hE := s.err hE
    have n' := s0.free n
    replace s0 := s0.trans s
    clear e2 s n
    refine ⟨_, rfl, ?_⟩
    refine ⟨_, rfl, a, C, _, _, _, rfl, hE, .own _, eC.ex, eC.kit T.e13, ?_⟩
    refine ⟨_, rfl, a, C, _, _, _, rfl, hE, .own _, eC.ex, eC.kit T.e14, ?_⟩
    refine ⟨_, rfl, a, C, _, _, _, rfl, hE, .own _, eC.ex, eC.kit T.e15, ?_⟩
    refine ⟨by show 3 ≤ sizeLine; decide, fun p H1 n s e => ?_⟩
    replace hE := s.err hE
    replace s0 := s0.trans s
    replace hL := s _ _ hL
    clear n s
    refine ⟨_, _, _, _, rfl, rfl, hL, e, (by show 16 ≤ sizeLine; decide), fun p2 H2 n s e2 => ?_⟩
    clear hL e
    have hL := e2
    replace hE := s.err hE
    have n' := s0.free n
    replace s0 := s0.trans s
    clear e2 s n
    refine ⟨_, rfl, ?_⟩
    refine ⟨_, rfl, a, C, _, _, _, rfl, hE, .own _, eC.ex, eC.kit T.e16, ?_⟩
    refine ⟨_, rfl, a, C, _, _, _, rfl, hE, .own _, eC.ex, eC.kit T.e17, ?_⟩
    refine ⟨_, rfl, a, C, _, _, _, rfl, hE, .own _, eC.ex, eC.kit T.e18, ?_⟩
    refine ⟨by show 3 ≤ sizeLine; decide, fun p H1 n s e => ?_⟩
    replace hE := s.err hE
    replace s0 := s0.trans s
    replace hL := s _ _ hL
    clear n s
    refine ⟨_, _, _, _, rfl, rfl, hL, e, (by show 19 ≤ sizeLine; decide), fun p2 H2 n s e2 => ?_⟩
    clear hL e
    have hL := e2
    replace hE := s.err hE
    have n' := s0.free n
    replace s0 := s0.trans s
    clear e2 s n
    refine ⟨_, rfl, ?_⟩
    refine ⟨_, rfl, a, C, _, _, _, rfl, hE, .own _, eC.ex, eC.kit T.e19, ?_⟩
    refine ⟨_, rfl, a, C, _, _, _, rfl, hE, .own _, eC.ex, eC.kit T.e20, ?_⟩
    refine ⟨_, rfl, a, C, _, _, _, rfl, hE, .own _, eC.ex, eC.kit T.e21, ?_⟩
    refine ⟨by show 3 ≤ sizeLine; decide, fun p H1 n s e => ?_⟩
    replace hE := s.err hE
    replace s0 := s0.trans s
    replace hL := s _ _ hL
    clear n s
    refine ⟨_, _, _, _, rfl, rfl, hL, e, (by show 22 ≤ sizeLine; decide), fun p2 H2 n s e2 => ?_⟩
    clear hL e
    have hL := e2
    replace hE := s.err hE
    have n' := s0.free n
    replace s0 := s0.trans s
    clear e2 s n
    refine ⟨_, rfl, ?_⟩
    refine ⟨_, rfl, a, C, _, _, _, rfl, hE, .own _, eC.ex, eC.kit T.e22, ?_⟩
    refine ⟨_, rfl, a, C, _, _, _, rfl, hE, .own _, eC.ex, eC.kit T.e23, ?_⟩
    refine ⟨_, rfl, a, C, _, _, _, rfl, hE, .own _, eC.ex, eC.kit T.e24, ?_⟩
    refine ⟨_, rfl, a, C, _, _, _, rfl, hE, .own _, eC.ex, eC.kit T.e25, ?_⟩
    refine ⟨by show 4 ≤ sizeLine; decide, fun p H1 n s e => ?_⟩
    replace hE := s.err hE
    replace s0 := s0.trans s
    replace hL := s _ _ hL
    clear n s
    refine ⟨_, _, _, _, rfl, rfl, hL, e, (by show 26 ≤ sizeLine; decide), fun p2 H2 n s e2 => ?_⟩
    clear hL e
    have hL := e2
    replace hE := s.err hE
    have n' := s0.free n
    replace s0 := s0.trans s
    clear e2 s n
    exact k _ _ n' s0 hL
theorem scMade : FnScope ["_law_it", "_law_found"] ["_law_it"] (defScope sMade) := ⟨rfl, rfl, rfl, by decide +kernel, rfl, by decide +kernel, by decide +kernel⟩
theorem ok_made {f : Addr} {fd : FuncData} (F : Fun K "_law_by_place" "_law_by_place" sMade f fd) (T : TxtE K mg cA c0 c1 c2 c3 c4 c5 c6 c7 c8 c9 c10 c11 c12 c13 c14 c15 c16 c17 c18 c19 c20 c21 c22 c23 c24 c25) (T2 : TxtI K c0 c1 c2 c3 c4 c5 c6 c7 c8 c9 c10 c11 c12 c13 c14 c15 c16 c17 c18 c19 c20 c21 c22 c23 c24 c25 f1 f2 f3 f5 f7 f8 f9 f10 f11 f12 f13 f14 f15 f16 f17 f18 f21 f23 f24 f25 fd1 fd2 fd3 fd5 fd7 fd8 fd9 fd10 fd11 fd12 fd13 fd14 fd15 fd16 fd17 fd18 fd21 fd23 fd24 fd25) : FnOk P w K mg base CX0 3 f fd ["_law_it"] (spMade [(c0, none), (c1, some "index"), (c2, some "index"), (c3, some "index"), (c4, none), (c5, some "index"), (c6, none), (c7, some "place"), (c8, some "part"), (c9, some "operation"), (c10, some "many"), (c11, some "history"), (c12, some "state"), (c13, some "operation"), (c14, some "asks"), (c15, some "answer"), (c16, some "index"), (c17, some "many"), (c18, some "index"), (c19, none), (c20, none), (c21, some "place"), (c22, none), (c23, some "function"), (c24, some "many"), (c25, some "line")]) := by
  refine F.ok scMade (fun vs H Q E h => ?_) (fun cdv A outer s H vs Q E hr h => ?_)
  · obtain ⟨v, rfl, _⟩ := h
    rfl
  · obtain ⟨v, rfl, k⟩ := h
    refine ⟨_, (pss_cons (ps_set (i := 1) scMade.nd rfl (Or.inl rfl) (pe_lstG (pa_cons (pe_exo0G T2.q0 T.e0.kC rfl T.e0.g) (pa_cons (pe_exoPG T2.i1.ox T2.i1.iC T2.i1.tI (ok_BadBody T2.F1 T2.i1) hr rfl T.e1.g T2.b1 pass0 (pv 0)) (pa_cons (pe_exoPG T2.i2.ox T2.i2.iC T2.i2.tI (ok_BadStart T2.F2 T2.i2) hr rfl T.e2.g T2.b2 pass0 (pv 0)) (pa_cons (pe_exoPG T2.i3.ox T2.i3.iC T2.i3.tI (ok_NoRow T2.F3 T2.i3) hr rfl T.e3.g T2.b3 pass0 (pv 0)) (pa_cons (pe_exo0G T2.q4 T.e4.kC rfl T.e4.g) (pa_cons (pe_exoPG T2.i5.ox T2.i5.iC T2.i5.tI (ok_BadHistory T2.F5 T2.i5) hr rfl T.e5.g T2.b5 pass0 (pv 0)) (pa_cons (pe_exo0G T2.q6 T.e6.kC rfl T.e6.g) pa_nil)))))))))
      (pss_cons (ps_set (i := 1) scMade.nd rfl (Or.inl rfl) (pe_op op_catG (pv 1) (pe_lstG (pa_cons (pe_exoPG T2.i7.ox T2.i7.iC T2.i7.tI (ok_BadProgram T2.F7 T2.i7) hr rfl T.e7.g T2.b7 pass0 (pv 0)) (pa_cons (pe_exoPG T2.i8.ox T2.i8.iC T2.i8.tI (ok_BadHandler T2.F8 T2.i8) hr rfl T.e8.g T2.b8 pass0 (pv 0)) (pa_cons (pe_exoPG T2.i9.ox T2.i9.iC T2.i9.tI (ok_Mismatch T2.F9 T2.i9) hr rfl T.e9.g T2.b9 pass0 (pv 0)) (pa_cons (pe_exoPG T2.i10.ox T2.i10.iC T2.i10.tI (ok_TooMany T2.F10 T2.i10) hr rfl T.e10.g T2.b10 pass0 (pv 0)) (pa_cons (pe_exoPG T2.i11.ox T2.i11.iC T2.i11.tI (ok_Parted T2.F11 T2.i11) hr rfl T.e11.g T2.b11 pass0 (pv 0)) (pa_cons (pe_exoPG T2.i12.ox T2.i12.iC T2.i12.tI (ok_NoState T2.F12 T2.i12) hr rfl T.e12.g T2.b12 pass0 (pv 0)) pa_nil)))))))))
      (pss_cons (ps_set (i := 1) scMade.nd rfl (Or.inl rfl) (pe_op op_catG (pv 1) (pe_lstG (pa_cons (pe_exoPG T2.i13.ox T2.i13.iC T2.i13.tI (ok_NoOperation T2.F13 T2.i13) hr rfl T.e13.g T2.b13 pass0 (pv 0)) (pa_cons (pe_exoPG T2.i14.ox T2.i14.iC T2.i14.tI (ok_Apart T2.F14 T2.i14) hr rfl T.e14.g T2.b14 pass0 (pv 0)) (pa_cons (pe_exoPG T2.i15.ox T2.i15.iC T2.i15.tI (ok_BadAnswer T2.F15 T2.i15) hr rfl T.e15.g T2.b15 pass0 (pv 0)) (pa_cons (pe_exoPG T2.i16.ox T2.i16.iC T2.i16.tI (ok_BadChoices T2.F16 T2.i16) hr rfl T.e16.g T2.b16 pass0 (pv 0)) (pa_cons (pe_exoPG T2.i17.ox T2.i17.iC T2.i17.tI (ok_BadCount T2.F17 T2.i17) hr rfl T.e17.g T2.b17 pass0 (pv 0)) (pa_cons (pe_exoPG T2.i18.ox T2.i18.iC T2.i18.tI (ok_NoIndex T2.F18 T2.i18) hr rfl T.e18.g T2.b18 pass0 (pv 0)) (pa_cons (pe_exo0G T2.q19 T.e19.kC rfl T.e19.g) pa_nil))))))))))
      (pss_one (ps_ret (pe_op op_catG (pv 1) (pe_lstG (pa_cons (pe_exo0G T2.q20 T.e20.kC rfl T.e20.g) (pa_cons (pe_exoPG T2.i21.ox T2.i21.iC T2.i21.tI (ok_BadWork T2.F21 T2.i21) hr rfl T.e21.g T2.b21 pass0 (pv 0)) (pa_cons (pe_exo0G T2.q22 T.e22.kC rfl T.e22.g) (pa_cons (pe_exoPG T2.i23.ox T2.i23.iC T2.i23.tI (ok_Recursive T2.F23 T2.i23) hr rfl T.e23.g T2.b23 pass0 (pv 0)) (pa_cons (pe_exoPG T2.i24.ox T2.i24.iC T2.i24.tI (ok_TooLong T2.F24 T2.i24) hr rfl T.e24.g T2.b24 pass0 (pv 0)) (pa_cons (pe_exoPG T2.i25.ox T2.i25.iC T2.i25.tI (ok_NoText T2.F25 T2.i25) hr rfl T.e25.g T2.b25 pass0 (pv 0)) pa_nil))))))))))))), ?_⟩
    have s0 : Same H H := Same.refl H
    refine fun a0 Hh n s e => ?_
    have r0 : ErrF Hh a0 c0 none v := e
    clear e
    replace s0 := s0.trans s
    clear n s
    refine ⟨_, rfl, fun a1 dx Hh n s e e2 => ?_⟩
    have r1 : ErrF Hh a1 c1 (some "index") v := ⟨dx, e, e2⟩
    clear e e2
    replace r0 := r0.same s
    replace s0 := s0.trans s
    clear n s
    refine ⟨_, rfl, fun a2 dx Hh n s e e2 => ?_⟩
    have r2 : ErrF Hh a2 c2 (some "index") v := ⟨dx, e, e2⟩
    clear e e2
    replace r0 := r0.same s
    replace r1 := r1.same s
    replace s0 := s0.trans s
    clear n s
    refine ⟨_, rfl, fun a3 dx Hh n s e e2 => ?_⟩
    have r3 : ErrF Hh a3 c3 (some "index") v := ⟨dx, e, e2⟩
    clear e e2
    replace r0 := r0.same s
    replace r1 := r1.same s
    replace r2 := r2.same s
    replace s0 := s0.trans s
    clear n s
    refine fun a4 Hh n s e => ?_
    have r4 : ErrF Hh a4 c4 none v := e
    clear e
    replace r0 := r0.same s
    replace r1 := r1.same s
    replace r2 := r2.same s
    replace r3 := r3.same s
    replace s0 := s0.trans s
    clear n s
    refine ⟨_, rfl, fun a5 dx Hh n s e e2 => ?_⟩
    have r5 : ErrF Hh a5 c5 (some "index") v := ⟨dx, e, e2⟩
    clear e e2
    replace r0 := r0.same s
    replace r1 := r1.same s
    replace r2 := r2.same s
    replace r3 := r3.same s
    replace r4 := r4.same s
    replace s0 := s0.trans s
    clear n s
    refine fun a6 Hh n s e => ?_
    have r6 : ErrF Hh a6 c6 none v := e
    clear e
    replace r0 := r0.same s
    replace r1 := r1.same s
    replace r2 := r2.same s
    replace r3 := r3.same s
    replace r4 := r4.same s
    replace r5 := r5.same s
    replace s0 := s0.trans s
    clear n s
    refine ⟨by show 7 ≤ sizeLine; decide, fun p Hh n s e => ?_⟩
    replace r0 := r0.same s
    replace r1 := r1.same s
    replace r2 := r2.same s
    replace r3 := r3.same s
    replace r4 := r4.same s
    replace r5 := r5.same s
    replace r6 := r6.same s
    have L1 : Errs Hh v [.ref a0, .ref a1, .ref a2, .ref a3, .ref a4, .ref a5, .ref a6] [(c0, none), (c1, some "index"), (c2, some "index"), (c3, some "index"), (c4, none), (c5, some "index"), (c6, none)] := ⟨⟨a0, rfl, r0⟩, ⟨a1, rfl, r1⟩, ⟨a2, rfl, r2⟩, ⟨a3, rfl, r3⟩, ⟨a4, rfl, r4⟩, ⟨a5, rfl, r5⟩, ⟨a6, rfl, r6⟩, trivial⟩
    clear r0 r1 r2 r3 r4 r5 r6
    have hL := e
    have L := L1
    replace s0 := s0.trans s
    clear n s e L1
    refine ⟨_, rfl, ?_⟩
    refine ⟨_, rfl, fun a7 dx Hh n s e e2 => ?_⟩
    have r7 : ErrF Hh a7 c7 (some "place") v := ⟨dx, e, e2⟩
    clear e e2
    replace L := L.same s
    replace hL := s _ _ hL
    replace s0 := s0.trans s
    clear n s
    refine ⟨_, rfl, fun a8 dx Hh n s e e2 => ?_⟩
    have r8 : ErrF Hh a8 c8 (some "part") v := ⟨dx, e, e2⟩
    clear e e2
    replace r7 := r7.same s
    replace L := L.same s
    replace hL := s _ _ hL
    replace s0 := s0.trans s
    clear n s
    refine ⟨_, rfl, fun a9 dx Hh n s e e2 => ?_⟩
    have r9 : ErrF Hh a9 c9 (some "operation") v := ⟨dx, e, e2⟩
    clear e e2
    replace r7 := r7.same s
    replace r8 := r8.same s
    replace L := L.same s
    replace hL := s _ _ hL
    replace s0 := s0.trans s
    clear n s
    refine ⟨_, rfl, fun a10 dx Hh n s e e2 => ?_⟩
    have r10 : ErrF Hh a10 c10 (some "many") v := ⟨dx, e, e2⟩
    clear e e2
    replace r7 := r7.same s
    replace r8 := r8.same s
    replace r9 := r9.same s
    replace L := L.same s
    replace hL := s _ _ hL
    replace s0 := s0.trans s
    clear n s
    refine ⟨_, rfl, fun a11 dx Hh n s e e2 => ?_⟩
    have r11 : ErrF Hh a11 c11 (some "history") v := ⟨dx, e, e2⟩
    clear e e2
    replace r7 := r7.same s
    replace r8 := r8.same s
    replace r9 := r9.same s
    replace r10 := r10.same s
    replace L := L.same s
    replace hL := s _ _ hL
    replace s0 := s0.trans s
    clear n s
    refine ⟨_, rfl, fun a12 dx Hh n s e e2 => ?_⟩
    have r12 : ErrF Hh a12 c12 (some "state") v := ⟨dx, e, e2⟩
    clear e e2
    replace r7 := r7.same s
    replace r8 := r8.same s
    replace r9 := r9.same s
    replace r10 := r10.same s
    replace r11 := r11.same s
    replace L := L.same s
    replace hL := s _ _ hL
    replace s0 := s0.trans s
    clear n s
    refine ⟨by show 6 ≤ sizeLine; decide, fun p Hh n s e => ?_⟩
    replace r7 := r7.same s
    replace r8 := r8.same s
    replace r9 := r9.same s
    replace r10 := r10.same s
    replace r11 := r11.same s
    replace r12 := r12.same s
    have L1 : Errs Hh v [.ref a7, .ref a8, .ref a9, .ref a10, .ref a11, .ref a12] [(c7, some "place"), (c8, some "part"), (c9, some "operation"), (c10, some "many"), (c11, some "history"), (c12, some "state")] := ⟨⟨a7, rfl, r7⟩, ⟨a8, rfl, r8⟩, ⟨a9, rfl, r9⟩, ⟨a10, rfl, r10⟩, ⟨a11, rfl, r11⟩, ⟨a12, rfl, r12⟩, trivial⟩
    clear r7 r8 r9 r10 r11 r12
    replace L := (L.same s).append L1
    replace s0 := s0.trans s
    replace hL := s _ _ hL
    clear n s L1
    refine ⟨_, _, _, _, rfl, rfl, hL, e, (by have z := L.length; rw [List.length_append] at z; rw [z]; show 13 ≤ sizeLine; decide), fun p2 Hh n s e2 => ?_⟩
    clear hL e
    have hL := e2
    replace L := L.same s
    have n' := s0.free n
    replace s0 := s0.trans s
    clear e2 s n
    refine ⟨_, rfl, ?_⟩
    refine ⟨_, rfl, fun a13 dx Hh n s e e2 => ?_⟩
    have r13 : ErrF Hh a13 c13 (some "operation") v := ⟨dx, e, e2⟩
    clear e e2
    replace L := L.same s
    replace hL := s _ _ hL
    replace s0 := s0.trans s
    clear n s
    refine ⟨_, rfl, fun a14 dx Hh n s e e2 => ?_⟩
    have r14 : ErrF Hh a14 c14 (some "asks") v := ⟨dx, e, e2⟩
    clear e e2
    replace r13 := r13.same s
    replace L := L.same s
    replace hL := s _ _ hL
    replace s0 := s0.trans s
    clear n s
    refine ⟨_, rfl, fun a15 dx Hh n s e e2 => ?_⟩
    have r15 : ErrF Hh a15 c15 (some "answer") v := ⟨dx, e, e2⟩
    clear e e2
    replace r13 := r13.same s
    replace r14 := r14.same s
    replace L := L.same s
    replace hL := s _ _ hL
    replace s0 := s0.trans s
    clear n s
    refine ⟨_, rfl, fun a16 dx Hh n s e e2 => ?_⟩
    have r16 : ErrF Hh a16 c16 (some "index") v := ⟨dx, e, e2⟩
    clear e e2
    replace r13 := r13.same s
    replace r14 := r14.same s
    replace r15 := r15.same s
    replace L := L.same s
    replace hL := s _ _ hL
    replace s0 := s0.trans s
    clear n s
    refine ⟨_, rfl, fun a17 dx Hh n s e e2 => ?_⟩
    have r17 : ErrF Hh a17 c17 (some "many") v := ⟨dx, e, e2⟩
    clear e e2
    replace r13 := r13.same s
    replace r14 := r14.same s
    replace r15 := r15.same s
    replace r16 := r16.same s
    replace L := L.same s
    replace hL := s _ _ hL
    replace s0 := s0.trans s
    clear n s
    refine ⟨_, rfl, fun a18 dx Hh n s e e2 => ?_⟩
    have r18 : ErrF Hh a18 c18 (some "index") v := ⟨dx, e, e2⟩
    clear e e2
    replace r13 := r13.same s
    replace r14 := r14.same s
    replace r15 := r15.same s
    replace r16 := r16.same s
    replace r17 := r17.same s
    replace L := L.same s
    replace hL := s _ _ hL
    replace s0 := s0.trans s
    clear n s
    refine fun a19 Hh n s e => ?_
    have r19 : ErrF Hh a19 c19 none v := e
    clear e
    replace r13 := r13.same s
    replace r14 := r14.same s
    replace r15 := r15.same s
    replace r16 := r16.same s
    replace r17 := r17.same s
    replace r18 := r18.same s
    replace L := L.same s
    replace hL := s _ _ hL
    replace s0 := s0.trans s
    clear n s
    refine ⟨by show 7 ≤ sizeLine; decide, fun p Hh n s e => ?_⟩
    replace r13 := r13.same s
    replace r14 := r14.same s
    replace r15 := r15.same s
    replace r16 := r16.same s
    replace r17 := r17.same s
    replace r18 := r18.same s
    replace r19 := r19.same s
    have L1 : Errs Hh v [.ref a13, .ref a14, .ref a15, .ref a16, .ref a17, .ref a18, .ref a19] [(c13, some "operation"), (c14, some "asks"), (c15, some "answer"), (c16, some "index"), (c17, some "many"), (c18, some "index"), (c19, none)] := ⟨⟨a13, rfl, r13⟩, ⟨a14, rfl, r14⟩, ⟨a15, rfl, r15⟩, ⟨a16, rfl, r16⟩, ⟨a17, rfl, r17⟩, ⟨a18, rfl, r18⟩, ⟨a19, rfl, r19⟩, trivial⟩
    clear r13 r14 r15 r16 r17 r18 r19
    replace L := (L.same s).append L1
    replace s0 := s0.trans s
    replace hL := s _ _ hL
    clear n s L1
    refine ⟨_, _, _, _, rfl, rfl, hL, e, (by have z := L.length; rw [List.length_append] at z; rw [z]; show 20 ≤ sizeLine; decide), fun p2 Hh n s e2 => ?_⟩
    clear hL e
    have hL := e2
    replace L := L.same s
    have n' := s0.free n
    replace s0 := s0.trans s
    clear e2 s n
    refine ⟨_, rfl, ?_⟩
    refine fun a20 Hh n s e => ?_
    have r20 : ErrF Hh a20 c20 none v := e
    clear e
    replace L := L.same s
    replace hL := s _ _ hL
    replace s0 := s0.trans s
    clear n s
    refine ⟨_, rfl, fun a21 dx Hh n s e e2 => ?_⟩
    have r21 : ErrF Hh a21 c21 (some "place") v := ⟨dx, e, e2⟩
    clear e e2
    replace r20 := r20.same s
    replace L := L.same s
    replace hL := s _ _ hL
    replace s0 := s0.trans s
    clear n s
    refine fun a22 Hh n s e => ?_
    have r22 : ErrF Hh a22 c22 none v := e
    clear e
    replace r20 := r20.same s
    replace r21 := r21.same s
    replace L := L.same s
    replace hL := s _ _ hL
    replace s0 := s0.trans s
    clear n s
    refine ⟨_, rfl, fun a23 dx Hh n s e e2 => ?_⟩
    have r23 : ErrF Hh a23 c23 (some "function") v := ⟨dx, e, e2⟩
    clear e e2
    replace r20 := r20.same s
    replace r21 := r21.same s
    replace r22 := r22.same s
    replace L := L.same s
    replace hL := s _ _ hL
    replace s0 := s0.trans s
    clear n s
    refine ⟨_, rfl, fun a24 dx Hh n s e e2 => ?_⟩
    have r24 : ErrF Hh a24 c24 (some "many") v := ⟨dx, e, e2⟩
    clear e e2
    replace r20 := r20.same s
    replace r21 := r21.same s
    replace r22 := r22.same s
    replace r23 := r23.same s
    replace L := L.same s
    replace hL := s _ _ hL
    replace s0 := s0.trans s
    clear n s
    refine ⟨_, rfl, fun a25 dx Hh n s e e2 => ?_⟩
    have r25 : ErrF Hh a25 c25 (some "line") v := ⟨dx, e, e2⟩
    clear e e2
    replace r20 := r20.same s
    replace r21 := r21.same s
    replace r22 := r22.same s
    replace r23 := r23.same s
    replace r24 := r24.same s
    replace L := L.same s
    replace hL := s _ _ hL
    replace s0 := s0.trans s
    clear n s
    refine ⟨by show 6 ≤ sizeLine; decide, fun p Hh n s e => ?_⟩
    replace r20 := r20.same s
    replace r21 := r21.same s
    replace r22 := r22.same s
    replace r23 := r23.same s
    replace r24 := r24.same s
    replace r25 := r25.same s
    have L1 : Errs Hh v [.ref a20, .ref a21, .ref a22, .ref a23, .ref a24, .ref a25] [(c20, none), (c21, some "place"), (c22, none), (c23, some "function"), (c24, some "many"), (c25, some "line")] := ⟨⟨a20, rfl, r20⟩, ⟨a21, rfl, r21⟩, ⟨a22, rfl, r22⟩, ⟨a23, rfl, r23⟩, ⟨a24, rfl, r24⟩, ⟨a25, rfl, r25⟩, trivial⟩
    clear r20 r21 r22 r23 r24 r25
    replace L := (L.same s).append L1
    replace s0 := s0.trans s
    replace hL := s _ _ hL
    clear n s L1
    refine ⟨_, _, _, _, rfl, rfl, hL, e, (by have z := L.length; rw [List.length_append] at z; rw [z]; show 26 ≤ sizeLine; decide), fun p2 Hh n s e2 => ?_⟩
    clear hL e
    have hL := e2
    replace L := L.same s
    have n' := s0.free n
    replace s0 := s0.trans s
    clear e2 s n
    exact k _ _ _ s0 n' hL L
theorem scFields : FnScope ["_law_some", "_law_found"] ["_law_some"] (defScope sFields) := ⟨rfl, rfl, rfl, by decide +kernel, rfl, by decide +kernel, by decide +kernel⟩
theorem ok_fields {f : Addr} {fd : FuncData} (F : Fun K "_law_fields" "_law_fields" sFields f fd) (T : TxtE K mg cA c0 c1 c2 c3 c4 c5 c6 c7 c8 c9 c10 c11 c12 c13 c14 c15 c16 c17 c18 c19 c20 c21 c22 c23 c24 c25) (T2 : TxtI K c0 c1 c2 c3 c4 c5 c6 c7 c8 c9 c10 c11 c12 c13 c14 c15 c16 c17 c18 c19 c20 c21 c22 c23 c24 c25 f1 f2 f3 f5 f7 f8 f9 f10 f11 f12 f13 f14 f15 f16 f17 f18 f21 f23 f24 f25 fd1 fd2 fd3 fd5 fd7 fd8 fd9 fd10 fd11 fd12 fd13 fd14 fd15 fd16 fd17 fd18 fd21 fd23 fd24 fd25) : FnOk P w K mg base CX0 1 f fd ["_law_some"] (spFields [(c0, none), (c1, some "index"), (c2, some "index"), (c3, some "index"), (c4, none), (c5, some "index"), (c6, none), (c7, some "place"), (c8, some "part"), (c9, some "operation"), (c10, some "many"), (c11, some "history"), (c12, some "state"), (c13, some "operation"), (c14, some "asks"), (c15, some "answer"), (c16, some "index"), (c17, some "many"), (c18, some "index"), (c19, none), (c20, none), (c21, some "place"), (c22, none), (c23, some "function"), (c24, some "many"), (c25, some "line")]) := by
  refine F.ok scFields (fun vs H Q E h => ?_) (fun cdv A outer s H vs Q E hr h => ?_)
  · obtain ⟨p, xs, v, rfl, _⟩ := h
    rfl
  · obtain ⟨p, xs, v, rfl, hp, hE, k⟩ := h
    have s0 : Same H H := Same.refl H
    refine ⟨_, (pss_cons (ps_set (i := 1) scFields.nd rfl (Or.inl rfl) (pe_lstG (pa_cons (pe_exoF (pe_ix ix_list (pv 0) pe_int (fun _ _ => rfl))) (pa_cons (pe_exoF (pe_ix ix_list (pv 0) pe_int (fun _ _ => rfl))) (pa_cons (pe_exoF (pe_ix ix_list (pv 0) pe_int (fun _ _ => rfl))) (pa_cons (pe_exoF (pe_ix ix_list (pv 0) pe_int (fun _ _ => rfl))) (pa_cons (pe_exoF (pe_ix ix_list (pv 0) pe_int (fun _ _ => rfl))) (pa_cons (pe_exoF (pe_ix ix_list (pv 0) pe_int (fun _ _ => rfl))) pa_nil))))))))
      (pss_cons (ps_set (i := 1) scFields.nd rfl (Or.inl rfl) (pe_op op_catG (pv 1) (pe_lstG (pa_cons (pe_exoF (pe_ix ix_list (pv 0) pe_int (fun _ _ => rfl))) (pa_cons (pe_exoF (pe_ix ix_list (pv 0) pe_int (fun _ _ => rfl))) (pa_cons (pe_exoF (pe_ix ix_list (pv 0) pe_int (fun _ _ => rfl))) (pa_cons (pe_exoF (pe_ix ix_list (pv 0) pe_int (fun _ _ => rfl))) (pa_cons (pe_exoF (pe_ix ix_list (pv 0) pe_int (fun _ _ => rfl))) pa_nil))))))))
      (pss_cons (ps_set (i := 1) scFields.nd rfl (Or.inl rfl) (pe_op op_catG (pv 1) (pe_lstG (pa_cons (pe_exoF (pe_ix ix_list (pv 0) pe_int (fun _ _ => rfl))) (pa_cons (pe_exoF (pe_ix ix_list (pv 0) pe_int (fun _ _ => rfl))) (pa_cons (pe_exoF (pe_ix ix_list (pv 0) pe_int (fun _ _ => rfl))) (pa_cons (pe_exoF (pe_ix ix_list (pv 0) pe_int (fun _ _ => rfl))) (pa_cons (pe_exoF (pe_ix ix_list (pv 0) pe_int (fun _ _ => rfl))) (pa_cons (pe_exoF (pe_ix ix_list (pv 0) pe_int (fun _ _ => rfl))) pa_nil)))))))))
      (pss_one (ps_ret (pe_op op_catG (pv 1) (pe_lstG (pa_cons (pe_exoF (pe_ix ix_list (pv 0) pe_int (fun _ _ => rfl))) (pa_cons (pe_exoF (pe_ix ix_list (pv 0) pe_int (fun _ _ => rfl))) (pa_cons (pe_exoF (pe_ix ix_list (pv 0) pe_int (fun _ _ => rfl))) pa_nil)))))))))), ?_⟩
    obtain ⟨a1, d1, g1, h1, j1⟩ := hE.sel (i := 1) (C := c1) (f := "index") rfl
    refine ⟨_, rfl, _, _, _, _, rfl, rfl, SqL.of hp, atI_nat (j := 1) g1, a1, c1, d1, _, v, rfl, h1, j1, T.e1.ex, T2.i1.nf, by simp [List.lookup], ?_⟩
    clear g1 h1 j1
    obtain ⟨a2, d2, g2, h2, j2⟩ := hE.sel (i := 2) (C := c2) (f := "index") rfl
    refine ⟨_, rfl, _, _, _, _, rfl, rfl, SqL.of hp, atI_nat (j := 2) g2, a2, c2, d2, _, v, rfl, h2, j2, T.e2.ex, T2.i2.nf, by simp [List.lookup], ?_⟩
    clear g2 h2 j2
    obtain ⟨a3, d3, g3, h3, j3⟩ := hE.sel (i := 3) (C := c3) (f := "index") rfl
    refine ⟨_, rfl, _, _, _, _, rfl, rfl, SqL.of hp, atI_nat (j := 3) g3, a3, c3, d3, _, v, rfl, h3, j3, T.e3.ex, T2.i3.nf, by simp [List.lookup], ?_⟩
    clear g3 h3 j3
    obtain ⟨a5, d5, g5, h5, j5⟩ := hE.sel (i := 5) (C := c5) (f := "index") rfl
    refine ⟨_, rfl, _, _, _, _, rfl, rfl, SqL.of hp, atI_nat (j := 5) g5, a5, c5, d5, _, v, rfl, h5, j5, T.e5.ex, T2.i5.nf, by simp [List.lookup], ?_⟩
    clear g5 h5 j5
    obtain ⟨a7, d7, g7, h7, j7⟩ := hE.sel (i := 7) (C := c7) (f := "place") rfl
    refine ⟨_, rfl, _, _, _, _, rfl, rfl, SqL.of hp, atI_nat (j := 7) g7, a7, c7, d7, _, v, rfl, h7, j7, T.e7.ex, T2.i7.nf, by simp [List.lookup], ?_⟩
    clear g7 h7 j7
    obtain ⟨a8, d8, g8, h8, j8⟩ := hE.sel (i := 8) (C := c8) (f := "part") rfl
    refine ⟨_, rfl, _, _, _, _, rfl, rfl, SqL.of hp, atI_nat (j := 8) g8, a8, c8, d8, _, v, rfl, h8, j8, T.e8.ex, T2.i8.nf, by simp [List.lookup], ?_⟩
    clear g8 h8 j8
    refine ⟨by show 6 ≤ sizeLine; decide, fun q1 Hh n s e => ?_⟩
    replace hE := hE.same s
    replace hp := s _ _ hp
    replace s0 := s0.trans s
    have hL := e
    clear n s e
    refine ⟨_, rfl, ?_⟩
    obtain ⟨a9, d9, g9, h9, j9⟩ := hE.sel (i := 9) (C := c9) (f := "operation") rfl
    refine ⟨_, rfl, _, _, _, _, rfl, rfl, SqL.of hp, atI_nat (j := 9) g9, a9, c9, d9, _, v, rfl, h9, j9, T.e9.ex, T2.i9.nf, by simp [List.lookup], ?_⟩
    clear g9 h9 j9
    obtain ⟨a10, d10, g10, h10, j10⟩ := hE.sel (i := 10) (C := c10) (f := "many") rfl
    refine ⟨_, rfl, _, _, _, _, rfl, rfl, SqL.of hp, atI_nat (j := 10) g10, a10, c10, d10, _, v, rfl, h10, j10, T.e10.ex, T2.i10.nf, by simp [List.lookup], ?_⟩
    clear g10 h10 j10
    obtain ⟨a11, d11, g11, h11, j11⟩ := hE.sel (i := 11) (C := c11) (f := "history") rfl
    refine ⟨_, rfl, _, _, _, _, rfl, rfl, SqL.of hp, atI_nat (j := 11) g11, a11, c11, d11, _, v, rfl, h11, j11, T.e11.ex, T2.i11.nf, by simp [List.lookup], ?_⟩
    clear g11 h11 j11
    obtain ⟨a12, d12, g12, h12, j12⟩ := hE.sel (i := 12) (C := c12) (f := "state") rfl
    refine ⟨_, rfl, _, _, _, _, rfl, rfl, SqL.of hp, atI_nat (j := 12) g12, a12, c12, d12, _, v, rfl, h12, j12, T.e12.ex, T2.i12.nf, by simp [List.lookup], ?_⟩
    clear g12 h12 j12
    obtain ⟨a13, d13, g13, h13, j13⟩ := hE.sel (i := 13) (C := c13) (f := "operation") rfl
    refine ⟨_, rfl, _, _, _, _, rfl, rfl, SqL.of hp, atI_nat (j := 13) g13, a13, c13, d13, _, v, rfl, h13, j13, T.e13.ex, T2.i13.nf, by simp [List.lookup], ?_⟩
    clear g13 h13 j13
    refine ⟨by show 5 ≤ sizeLine; decide, fun q1 Hh n s e => ?_⟩
    replace hE := hE.same s
    replace hp := s _ _ hp
    replace s0 := s0.trans s
    replace hL := s _ _ hL
    clear n s
    refine ⟨_, _, _, _, rfl, rfl, hL, e, (by show 11 ≤ sizeLine; decide), fun p2 Hh n s e2 => ?_⟩
    clear hL e
    have hL := e2
    replace hE := hE.same s
    replace hp := s _ _ hp
    have n' := s0.free n
    replace s0 := s0.trans s
    clear e2 s n
    refine ⟨_, rfl, ?_⟩
    obtain ⟨a14, d14, g14, h14, j14⟩ := hE.sel (i := 14) (C := c14) (f := "asks") rfl
    refine ⟨_, rfl, _, _, _, _, rfl, rfl, SqL.of hp, atI_nat (j := 14) g14, a14, c14, d14, _, v, rfl, h14, j14, T.e14.ex, T2.i14.nf, by simp [List.lookup], ?_⟩
    clear g14 h14 j14
    obtain ⟨a15, d15, g15, h15, j15⟩ := hE.sel (i := 15) (C := c15) (f := "answer") rfl
    refine ⟨_, rfl, _, _, _, _, rfl, rfl, SqL.of hp, atI_nat (j := 15) g15, a15, c15, d15, _, v, rfl, h15, j15, T.e15.ex, T2.i15.nf, by simp [List.lookup], ?_⟩
    clear g15 h15 j15
    obtain ⟨a16, d16, g16, h16, j16⟩ := hE.sel (i := 16) (C := c16) (f := "index") rfl
    refine ⟨_, rfl, _, _, _, _, rfl, rfl, SqL.of hp, atI_nat (j := 16) g16, a16, c16, d16, _, v, rfl, h16, j16, T.e16.ex, T2.i16.nf, by simp [List.lookup], ?_⟩
    clear g16 h16 j16
    obtain ⟨a17, d17, g17, h17, j17⟩ := hE.sel (i := 17) (C := c17) (f := "many") rfl
    refine ⟨_, rfl, _, _, _, _, rfl, rfl, SqL.of hp, atI_nat (j := 17) g17, a17, c17, d17, _, v, rfl, h17, j17, T.e17.ex, T2.i17.nf, by simp [List.lookup], ?_⟩
    clear g17 h17 j17
    obtain ⟨a18, d18, g18, h18, j18⟩ := hE.sel (i := 18) (C := c18) (f := "index") rfl
    refine ⟨_, rfl, _, _, _, _, rfl, rfl, SqL.of hp, atI_nat (j := 18) g18, a18, c18, d18, _, v, rfl, h18, j18, T.e18.ex, T2.i18.nf, by simp [List.lookup], ?_⟩
    clear g18 h18 j18
    obtain ⟨a21, d21, g21, h21, j21⟩ := hE.sel (i := 21) (C := c21) (f := "place") rfl
    refine ⟨_, rfl, _, _, _, _, rfl, rfl, SqL.of hp, atI_nat (j := 21) g21, a21, c21, d21, _, v, rfl, h21, j21, T.e21.ex, T2.i21.nf, by simp [List.lookup], ?_⟩
    clear g21 h21 j21
    refine ⟨by show 6 ≤ sizeLine; decide, fun q1 Hh n s e => ?_⟩
    replace hE := hE.same s
    replace hp := s _ _ hp
    replace s0 := s0.trans s
    replace hL := s _ _ hL
    clear n s
    refine ⟨_, _, _, _, rfl, rfl, hL, e, (by show 17 ≤ sizeLine; decide), fun p2 Hh n s e2 => ?_⟩
    clear hL e
    have hL := e2
    replace hE := hE.same s
    replace hp := s _ _ hp
    have n' := s0.free n
    replace s0 := s0.trans s
    clear e2 s n
    refine ⟨_, rfl, ?_⟩
    obtain ⟨a23, d23, g23, h23, j23⟩ := hE.sel (i := 23) (C := c23) (f := "function") rfl
    refine ⟨_, rfl, _, _, _, _, rfl, rfl, SqL.of hp, atI_nat (j := 23) g23, a23, c23, d23, _, v, rfl, h23, j23, T.e23.ex, T2.i23.nf, by simp [List.lookup], ?_⟩
    clear g23 h23 j23
    obtain ⟨a24, d24, g24, h24, j24⟩ := hE.sel (i := 24) (C := c24) (f := "many") rfl
    refine ⟨_, rfl, _, _, _, _, rfl, rfl, SqL.of hp, atI_nat (j := 24) g24, a24, c24, d24, _, v, rfl, h24, j24, T.e24.ex, T2.i24.nf, by simp [List.lookup], ?_⟩
    clear g24 h24 j24
    obtain ⟨a25, d25, g25, h25, j25⟩ := hE.sel (i := 25) (C := c25) (f := "line") rfl
    refine ⟨_, rfl, _, _, _, _, rfl, rfl, SqL.of hp, atI_nat (j := 25) g25, a25, c25, d25, _, v, rfl, h25, j25, T.e25.ex, T2.i25.nf, by simp [List.lookup], ?_⟩
    clear g25 h25 j25
    refine ⟨by show 3 ≤ sizeLine; decide, fun q1 Hh n s e => ?_⟩
    replace hE := hE.same s
    replace hp := s _ _ hp
    replace s0 := s0.trans s
    replace hL := s _ _ hL
    clear n s
    refine ⟨_, _, _, _, rfl, rfl, hL, e, (by show 20 ≤ sizeLine; decide), fun p2 Hh n s e2 => ?_⟩
    clear hL e
    have hL := e2
    replace hE := hE.same s
    replace hp := s _ _ hp
    have n' := s0.free n
    replace s0 := s0.trans s
    clear e2 s n
    exact k _ _ n' s0 hL
end
end Mine

set_option maxRecDepth 100000
set_option maxHeartbeats 4000000
namespace Mine
open PySem L2
abbrev sLaw : Stmt := top 35
structure TxtL (mg : Str → Option Value) (K : PySem.W.Frag) (cA fS fO fK fM fF : Addr) : Prop where
  range : mg "range" = none
  enumerate : mg "enumerate" = none
  repr : mg "repr" = none
  ask : mg "AskError" = some (.ref cA)
  val : mg "ValueError" = none
  aC : (PySem.W.clsIn K cA).isSome = true
  aT : PySem.W.typeIn K (.ref cA) = some (.type "type")
  qA : PySem.W.excIn K cA [.type "ValueError", .type "Exception", .type "BaseException", .type "object"] "ValueError.__new__" = true
  akA : PySem.W.keepIn K (.ref cA) = true
  exA : ExcC K cA
  kitA : PySem.W.kitOne K (.ref cA) (.type "ValueError") = some true
  gS : mg "_law_source_of" = some (.ref fS)
  kS : PySem.W.keepIn K (.ref fS) = true
  gO : mg "_law_one" = some (.ref fO)
  kO : PySem.W.keepIn K (.ref fO) = true
  gK : mg "_law_kinds" = some (.ref fK)
  kK : PySem.W.keepIn K (.ref fK) = true
  gM : mg "_law_by_place" = some (.ref fM)
  kM : PySem.W.keepIn K (.ref fM) = true
  gF : mg "_law_fields" = some (.ref fF)
  kF : PySem.W.keepIn K (.ref fF) = true
def spLaw (K : PySem.W.Frag) : Sp := fun vs H Q _ => ∃ (a : Addr) (ns : List Int), vs = [.ref a] ∧ SqL K H a (ns.map V.int) ∧ ns.length ≤ 63 ∧ ∀ H', Q (.bl true) H'
/-- the truth values of «k == at» -/
def ats (at' n : Nat) : List Bool := (List.range n).map fun (j : Nat) => decide ((V.int (0 + (j : Int))) = V.int (at' : Int))
theorem ats_succ (i n : Nat) : ats i (n + 1) = ats i n ++ [decide ((V.int (0 + (n : Int))) = V.int (i : Int))] := by
  unfold ats
  rw [List.range_succ, List.map_append]
  rfl
theorem kinds_bools (C : Addr) (Cs : List Addr) : kindsOf C Cs = (Cs.map fun D => decide (C = D)).map V.bl := by
  unfold kindsOf
  rw [List.map_map]
  rfl
/-- what isinstance tells is what the place tells -/
theorem kinds_ats {Cs : List Addr} {i : Nat} {C : Addr} (nd : Cs.Nodup) (h : Cs[i]? = some C) : (Cs.map fun D => decide (C = D)) = ats i Cs.length := by
  apply List.ext_getElem?
  intro j
  unfold ats
  rw [List.getElem?_map, List.getElem?_map]
  by_cases hj : j < Cs.length
  · rw [List.getElem?_eq_getElem hj, List.getElem?_range hj]
    show some _ = some _
    obtain ⟨hi, hC⟩ := List.getElem?_eq_some_iff.mp h
    congr 1
    apply decide_eq_decide.mpr
    constructor
    · intro e
      have e2 : Cs[i] = Cs[j] := hC.trans e
      have e3 : i = j := (List.getElem_inj nd).mp e2
      rw [e3]
      simp
    · intro e
      have e2 := V.int.inj e
      have e3 : j = i := by omega
      subst e3
      exact hC.symm
  · rw [List.getElem?_eq_none (by omega), List.getElem?_eq_none (by simp; omega)]
    rfl
section
variable {P : Program} {w : World} {K : PySem.W.Frag} {mg : Str → Option Value} {base : Heap}
variable {cA fS fN fO fK fM fF c0 c1 c2 c3 c4 c5 c6 c7 c8 c9 c10 c11 c12 c13 c14 c15 c16 c17 c18 c19 c20 c21 c22 c23 c24 c25 f1 f2 f3 f5 f7 f8 f9 f10 f11 f12 f13 f14 f15 f16 f17 f18 f21 f23 f24 f25 : Addr} {fdS fdN fdO fdK fdM fdF fd1 fd2 fd3 fd5 fd7 fd8 fd9 fd10 fd11 fd12 fd13 fd14 fd15 fd16 fd17 fd18 fd21 fd23 fd24 fd25 : FuncData}
theorem scLaw : FnScope ["_law_script", "_law_cell", "_law_source", "_law_turn", "_law_some", "_law_it", "_law_made", "_law_at", "_law_e", "_law_k", "_law_one_here"] ["_law_script"] (defScope sLaw) := ⟨rfl, rfl, rfl, by decide +kernel, rfl, by decide +kernel, by decide +kernel⟩
theorem ok_law {f : Addr} {fd : FuncData} (F : Fun K "law" "law" sLaw f fd) (T : TxtE K mg cA c0 c1 c2 c3 c4 c5 c6 c7 c8 c9 c10 c11 c12 c13 c14 c15 c16 c17 c18 c19 c20 c21 c22 c23 c24 c25) (T2 : TxtI K c0 c1 c2 c3 c4 c5 c6 c7 c8 c9 c10 c11 c12 c13 c14 c15 c16 c17 c18 c19 c20 c21 c22 c23 c24 c25 f1 f2 f3 f5 f7 f8 f9 f10 f11 f12 f13 f14 f15 f16 f17 f18 f21 f23 f24 f25 fd1 fd2 fd3 fd5 fd7 fd8 fd9 fd10 fd11 fd12 fd13 fd14 fd15 fd16 fd17 fd18 fd21 fd23 fd24 fd25) (TD : TxtD K mg fN) (TL : TxtL mg K cA fS fO fK fM fF) (nd : ([c0, c1, c2, c3, c4, c5, c6, c7, c8, c9, c10, c11, c12, c13, c14, c15, c16, c17, c18, c19, c20, c21, c22, c23, c24, c25] : List Addr).Nodup)
    (FS : Fun K "_law_source_of" "_law_source_of" sSrc fS fdS) (bS : Binds K fdS ["_law_cell"] []) (FN : Fun K "_law_next" "_law_next" sNext fN fdN) (bN : Binds K fdN ["_law_source", "_law_many"] [])
    (FO : Fun K "_law_one" "_law_one" sOne fO fdO) (bO : Binds K fdO ["_law_source", "_law_some"] []) (FK : Fun K "_law_kinds" "_law_kinds" sKinds fK fdK) (bK : Binds K fdK ["_law_e"] [])
    (FM : Fun K "_law_by_place" "_law_by_place" sMade fM fdM) (bM : Binds K fdM ["_law_it"] []) (FF : Fun K "_law_fields" "_law_fields" sFields fF fdF) (bF : Binds K fdF ["_law_some"] []) : FnG P w K mg base CX0 4 f fd ["_law_script"] (spLaw K) := by
  have GS : FnOk P w K mg base CX0 1 fS fdS ["_law_cell"] spSrc := ok_src FS TD
  have GN : FnOk P w K mg base CX0 1 fN fdN ["_law_source", "_law_many"] spNext := ok_next FN TD
  have GO : FnOk P w K mg base CX0 2 fO fdO ["_law_source", "_law_some"] spOne := ok_one FO TD FN bN
  have GK : FnOk P w K mg base CX0 1 fK fdK ["_law_e"] (spKinds [c0, c1, c2, c3, c4, c5, c6, c7, c8, c9, c10, c11, c12, c13, c14, c15, c16, c17, c18, c19, c20, c21, c22, c23, c24, c25]) := ok_kinds FK T
  have GM : FnOk P w K mg base CX0 3 fM fdM ["_law_it"] (spMade [(c0, none), (c1, some "index"), (c2, some "index"), (c3, some "index"), (c4, none), (c5, some "index"), (c6, none), (c7, some "place"), (c8, some "part"), (c9, some "operation"), (c10, some "many"), (c11, some "history"), (c12, some "state"), (c13, some "operation"), (c14, some "asks"), (c15, some "answer"), (c16, some "index"), (c17, some "many"), (c18, some "index"), (c19, none), (c20, none), (c21, some "place"), (c22, none), (c23, some "function"), (c24, some "many"), (c25, some "line")]) := ok_made FM T T2
  have GF : FnOk P w K mg base CX0 1 fF fdF ["_law_some"] (spFields [(c0, none), (c1, some "index"), (c2, some "index"), (c3, some "index"), (c4, none), (c5, some "index"), (c6, none), (c7, some "place"), (c8, some "part"), (c9, some "operation"), (c10, some "many"), (c11, some "history"), (c12, some "state"), (c13, some "operation"), (c14, some "asks"), (c15, some "answer"), (c16, some "index"), (c17, some "many"), (c18, some "index"), (c19, none), (c20, none), (c21, some "place"), (c22, none), (c23, some "function"), (c24, some "many"), (c25, some "line")]) := ok_fields FF T T2
  refine F.okG scLaw (fun vs H Q E h => ?_) (fun cdv A outer s H vs Q E bare hr h => ?_)
  · obtain ⟨a, ns, rfl, _⟩ := h
    rfl
  · obtain ⟨a, ns, rfl, hS, hlen, k⟩ := h
    have hr1 : Room 1 _ := hr.mono (by decide)
    have hr2 : Room 2 _ := hr.mono (by decide)
    refine ⟨_, (pss_cons (ps_for PassesOwn.never rfl (pi_list (pe_op op_catG (pe_slice sl_listG (pv 0) po_none (po_some pe_int)) (pe_lstG (pa_cons pe_int pa_nil)))) (pg_name (i := 1) scLaw.nd rfl (Or.inl rfl)) (pss_cons (ps_set (i := 2) scLaw.nd rfl (Or.inl rfl) (pe_call GS hr1 (by rfl) TL.gS TL.kS bS .nil pass0 (pa_cons (pv 1) pa_nil)))
      (pss_one (ps_for PassesOwn.never rfl (pi_range1 (by rfl) TL.range (pa_cons pe_int pa_nil)) (pg_name (i := 3) scLaw.nd rfl (Or.inl rfl)) (pss_cons (ps_set (i := 4) scLaw.nd rfl (Or.inl rfl) (pe_lstG (pa_cons pe_non (pa_cons pe_int (pa_cons pe_str (pa_cons pe_str (pa_cons (pe_tupG pa_nil) (pa_cons (pe_tupG (pa_cons pe_int (pa_cons pe_int pa_nil))) (pa_cons (pe_lstG (pa_cons pe_int pa_nil)) (pa_cons (pe_disp1 pe_int) (pa_cons pe_bl (pa_cons (pe_call GN hr1 (by rfl) TD.gN TD.kN bN .nil pass0 (pa_cons (pv 2) (pa_cons (pe_op op_pow pe_int pe_int) pa_nil))) (pa_cons (pe_tupG (pa_cons (pe_tupG (pa_cons pe_str (pa_cons pe_int pa_nil))) pa_nil)) pa_nil)))))))))))))
      (pss_cons (ps_set (i := 5) scLaw.nd rfl (Or.inl rfl) (pe_call GO hr2 (by rfl) TL.gO TL.kO bO .nil pass0 (pa_cons (pv 2) (pa_cons (pv 4) pa_nil))))
      (pss_cons (ps_set (i := 6) scLaw.nd rfl (Or.inl rfl) (pe_call GM hr (by rfl) TL.gM TL.kM bM .nil pass0 (pa_cons (pv 5) pa_nil)))
      (pss_cons (ps_for PassesOwn.never rfl (pi_enum (by rfl) TL.enumerate (pa_cons (pv 6) pa_nil)) (pg_tup rfl (pgs_cons (pg_name (i := 7) scLaw.nd rfl (Or.inr rfl)) (pgs_cons (pg_name (i := 8) scLaw.nd rfl (Or.inl rfl)) pgs_nil))) (pss_cons (ps_if (pt_cmpR (op_neD hr.units) (pe_call GK hr1 (by rfl) TL.gK TL.kK bK .nil pass0 (pa_cons (pv 8) pa_nil)) (pe_lc (own := [("_law_k", 9)]) (g := gName 9) (tt := tYes) rfl scLaw.nd (pi_range1 (by rfl) TL.range (pa_cons pe_int pa_nil)) (blkOk_by (own := [("_law_k", 9)]) (N := ["_law_script", "_law_cell", "_law_source", "_law_turn", "_law_some", "_law_it", "_law_made", "_law_at", "_law_e", "_law_k", "_law_one_here"]) (sc := defScope sLaw) (by decide +kernel)) (fun _ _ _ _ _ => pg_name (i := 9) scLaw.nd rfl (Or.inl rfl)) (fun _ _ _ _ _ => pts_nil) (fun _ _ _ _ _ => (pe_cmpR op_eq (pv 9) (pv 7) (nomark _)))) (nomark _)) (pss_one (ps_ret pe_bl)) pss_nil)
      (pss_one (ps_if (PW.pt (pw_or (pt_not (pt_val (pe_callB call_isExo (by rfl) T.isi (by decide +kernel) (pa_cons (pv 8) (pa_cons (pe_glob (v := .ref cA) rfl TL.ask rfl) pa_nil))))) (pw_or1 (pt_not (pt_val (pe_callB call_isExo (by rfl) T.isi (by decide +kernel) (pa_cons (pv 8) (pa_cons (pe_bltn (v := .ty "ValueError") rfl TL.val (by decide +kernel) rfl) pa_nil)))))))) (pss_one (ps_ret pe_bl)) pss_nil))))
      (pss_one (ps_if (pt_cmpR (op_neD hr.units) (pe_lc (own := [("_law_one_here", 10)]) (g := gName 10) (tt := tYes) rfl scLaw.nd (pi_list (pe_call GF hr1 (by rfl) TL.gF TL.kF bF .nil pass0 (pa_cons (pv 6) pa_nil))) (blkOk_by (own := [("_law_one_here", 10)]) (N := ["_law_script", "_law_cell", "_law_source", "_law_turn", "_law_some", "_law_it", "_law_made", "_law_at", "_law_e", "_law_k", "_law_one_here"]) (sc := defScope sLaw) (by decide +kernel)) (fun _ _ _ _ _ => pg_name (i := 10) scLaw.nd rfl (Or.inl rfl)) (fun _ _ _ _ _ => pts_nil) (fun _ _ _ _ _ => (pe_callB (show CallR _ (.builtin "repr") (rRepr K) from call_repr (bare.deeper _) hr.units) (by rfl) TL.repr (by decide +kernel) (pa_cons (pv 10) pa_nil)))) (pe_op op_repG (pe_lstG (pa_cons (pe_callB (show CallR _ (.builtin "repr") (rRepr K) from call_repr (bare.deeper _) hr.units) (by rfl) TL.repr (by decide +kernel) (pa_cons (pv 5) pa_nil)) pa_nil)) pe_int) (nomark _)) (pss_one (ps_ret pe_bl)) pss_nil))))))))))
      (pss_one (ps_ret (pe_callB call_isExo (by rfl) T.isi (by decide +kernel) (pa_cons (pe_exo0G TL.qA TL.akA rfl TL.ask) (pa_cons (pe_bltn (v := .ty "ValueError") rfl TL.val (by decide +kernel) rfl) pa_nil)))))), ?_⟩
    refine ⟨_, rfl, 4, rfl, a, _, rfl, hS, fun p1 H1 n1 s1 e1 => ?_⟩
    refine ⟨by show 1 ≤ sizeLine; decide, fun p2 H2 n2 s2 e2 => ?_⟩
    refine ⟨p1, p2, _, _, rfl, rfl, s2 _ _ e1, e2, ?_, fun p3 H3 n3 s3 e3 => ?_⟩
    · have := ints_cut_len (lo := none) (hi := some 4) hlen
      show _ + 1 ≤ sizeLine
      rw [sizeLine_eq]
      omega
    refine ⟨p3, rfl, ⟨_, SqL.of e3⟩, for_list (K := K) (a := p3) (xs := cutV (ns.map V.int) none (some 4) ++ [.int 0]) (fun i σ H' => ∃ v1 v2 v3 v4 v5 v6 v7 v8 v9 v10 : Option V,  σ = [some (.ref a), v1, v2, v3, v4, v5, v6, v7, v8, v9, v10] ∧ Same H3 H') ⟨_, _, _, _, _, _, _, _, _, _, rfl, Same.refl _⟩ (fun i σ H' _ z => by obtain ⟨_, _, _, _, _, _, _, _, _, _, _, s⟩ := z; exact s.seq (SqL.of e3)) ?_ ?_⟩
    · rintro i y σ Hc hi ⟨v1, v2, v3, v4, v5, v6, v7, v8, v9, v10, rfl, sc⟩
      obtain ⟨c, rfl⟩ := ints_cut hi
      refine ⟨_, rfl, c, rfl, fun x y z p4 H4 n4 s4 e4 => ?_⟩
      refine ⟨4, rfl, by decide, by decide, for_range (n := 4) (fun j σ H' => ∃ v3 v4 v5 v6 v7 v8 v9 v10 : Option V,  σ = [some (.ref a), some (.int c), some (.ref p4), v3, v4, v5, v6, v7, v8, v9, v10] ∧ Same Hc H' ∧ SrcAt H' p4) ⟨_, _, _, _, _, _, _, _, rfl, s4, x, y, z, e4⟩ ?_ ?_⟩
      · rintro j σ Hd hj ⟨v3, v4, v5, v6, v7, v8, v9, v10, rfl, sd, x1, y1, z1, ed⟩
        -- the eleven things
        refine ⟨by show 0 ≤ sizeLine; decide, fun q1 H5 n5 s5 e5 => ?_⟩
        have d1 := ne_of_none ed n5
        replace ed := s5 _ _ ed
        replace sd := sd.trans s5
        refine ⟨by show 2 ≤ sizeLine; decide, fun q2 H6 n6 s6 e6 => ?_⟩
        have d2 := ne_of_none ed n6
        replace ed := s6 _ _ ed
        replace sd := sd.trans s6
        replace e5 := s6 _ _ e5
        refine ⟨by show 1 ≤ sizeLine; decide, fun q3 H7 n7 s7 e7 => ?_⟩
        have d3 := ne_of_none ed n7
        replace ed := s7 _ _ ed
        replace sd := sd.trans s7
        replace e5 := s7 _ _ e5
        replace e6 := s7 _ _ e6
        refine fun q4 n8 => ⟨upd_same, ?_⟩
        have d4 := ne_of_none ed n8
        have s8 : Same H7 (upd (upd H7 q4 (.dK [])) q4 (.dK [(.inr "x", .int 1)])) := by
          rw [upd_upd]
          exact sameNew n8 _
        have e8 : upd (upd H7 q4 (.dK [])) q4 (.dK [(.inr "x", .int 1)]) q4 = some (.dK [(.inr "x", .int 1)]) := upd_same
        revert s8 e8
        generalize upd (upd H7 q4 (.dK [])) q4 (.dK [(.inr "x", .int 1)]) = H8
        intro s8 e8
        replace ed := s8 _ _ ed
        replace sd := sd.trans s8
        replace e5 := s8 _ _ e5
        replace e6 := s8 _ _ e6
        replace e7 := s8 _ _ e7
        refine ⟨_, rfl, _, _, rfl, rfl, ⟨by decide, by decide, by decide⟩, p4, _, x1, y1, z1, rfl, by decide, by decide, ed, fun n x2 y2 z2 H9 n0 nm bt e9 => ?_⟩
        replace sd : Same Hc H9 := But.same sd bt n4
        replace e5 := bt _ _ d1.symm e5
        replace e6 := bt _ _ d2.symm e6
        replace e7 := bt _ _ d3.symm e7
        replace e8 := bt _ _ d4.symm e8
        refine ⟨by show 2 ≤ sizeLine; decide, fun q6 Hu nu su eu => ?_⟩
        have d6 := ne_of_none e9 nu
        replace e9 := su _ _ e9
        replace sd := sd.trans su
        refine ⟨by show 1 ≤ sizeLine; decide, fun q7 Hv nv sv ev => ?_⟩
        have d7 := ne_of_none e9 nv
        replace e9 := sv _ _ e9
        replace sd := sd.trans sv
        replace eu := sv _ _ eu
        replace su := su.trans sv
        refine ⟨by show 11 ≤ sizeLine; decide, fun q5 Ha na sa ea => ?_⟩
        have ne5 : p4 ≠ q5 := ne_of_none e9 na
        replace su := su.trans sa
        refine ⟨_, rfl, _, rfl, p4, q5, _, x2, y2, z2, rfl, sa _ _ e9, ea, by show 0 < 11; decide, by show 11 ≤ 1000; decide, ne5, fun v x3 y3 z3 Hb hv bt2 eb => ?_⟩
        have sb : Same Hc Hb := But.same (sd.trans sa) bt2 n4
        replace e5 := bt2 _ _ d1.symm (su _ _ e5)
        replace e6 := bt2 _ _ d2.symm (su _ _ e6)
        replace e7 := bt2 _ _ d3.symm (su _ _ e7)
        replace e8 := bt2 _ _ d4.symm (su _ _ e8)
        replace eu := bt2 _ _ d6.symm (sa _ _ eu)
        replace ev := bt2 _ _ d7.symm (sa _ _ ev)
        have good : Good K Hb v := by
          simp only [List.mem_cons, List.not_mem_nil, or_false] at hv
          rcases hv with rfl | rfl | rfl | rfl | rfl | rfl | rfl | rfl | rfl | rfl | rfl
          · exact ⟨.none, .inl ⟨.non, rfl⟩, by decide +kernel, by decide +kernel, by decide +kernel, by decide +kernel⟩
          · exact ⟨.int 5, .inl ⟨.int 5, rfl⟩, by decide +kernel, by decide +kernel, by decide +kernel, by decide +kernel⟩
          · exact ⟨.str "", .inl ⟨.str "", rfl⟩, by decide +kernel, by decide +kernel, by decide +kernel, by decide +kernel⟩
          · exact ⟨.str "coin", .inl ⟨.str "coin", rfl⟩, by decide +kernel, by decide +kernel, by decide +kernel, by decide +kernel⟩
          · exact ⟨.tuple [], .inl ⟨.tup (.inl (.inl e5)) .nil, rfl⟩, by decide +kernel, by decide +kernel, by decide +kernel, by decide +kernel⟩
          · exact ⟨.tuple [.int 1, .int 2], .inl ⟨.tup (.inl (.inl e6)) (.cons (.int 1) (.cons (.int 2) .nil)), rfl⟩, by decide +kernel, by decide +kernel, by decide +kernel, by decide +kernel⟩
          · exact ⟨.list [.int 3], .inl ⟨.lst (SqL.of e7) (.cons (.int 3) .nil), rfl⟩, by decide +kernel, by decide +kernel, by decide +kernel, by decide +kernel⟩
          · exact ⟨.dict [(.str "x", .int 1)], .inr ⟨q4, [(.inr "x", 1)], rfl, e8, rfl⟩, by decide +kernel, by decide +kernel, by decide +kernel, by decide +kernel⟩
          · exact ⟨.bool true, .inl ⟨.bl true, rfl⟩, by decide +kernel, by decide +kernel, by decide +kernel, by decide +kernel⟩
          · exact ⟨.int n, .inl ⟨.int n, rfl⟩, fine_int n0 nm⟩
          · exact ⟨.tuple [.tuple [.str "coin", .int 0]], .inl ⟨.tup (.inl (.inl ev)) (.cons (.tup (.inl (.inl eu)) (.cons (.str "coin") (.cons (.int 0) .nil))) .nil), rfl⟩, by decide +kernel, by decide +kernel, by decide +kernel, by decide +kernel⟩
        refine ⟨_, rfl, v, rfl, fun p6 He xs6 se n6' e6' r6 => ?_⟩
        have sf : Same Hc He := sb.trans se
        have ef := se _ _ eb
        obtain ⟨d, hw, fd⟩ := good.same se
        have len6 : xs6.length = 26 := Errs.length r6
        refine ⟨_, rfl, p6, xs6, rfl, SqL.of e6', for_enumL (K := K) (a := p6) (xs := xs6) (fun i σ H' => ∃ v7 v8 v9 v10 : Option V,  σ = [some (.ref a), some (.int c), some (.ref p4), some (.int (0 + (j : Int))), some (.ref q5), some v, some (.ref p6), v7, v8, v9, v10] ∧ Same He H') ⟨_, _, _, _, rfl, Same.refl _⟩ (fun i σ H' _ z => by obtain ⟨_, _, _, _, _, s⟩ := z; exact s.seq (SqL.of e6')) ?_ ?_⟩
        · rintro i x σ Hg T' Hh hx ⟨v7, v8, v9, v10, rfl, sg⟩ nT sT eT
          obtain ⟨ae, C, rfl, hC, hE⟩ := Errs.get r6 hx
          have hE2 := (sg.trans sT).err hE
          have hC2 : ([c0, c1, c2, c3, c4, c5, c6, c7, c8, c9, c10, c11, c12, c13, c14, c15, c16, c17, c18, c19, c20, c21, c22, c23, c24, c25] : List Addr)[i]? = some C.1 := by
            have z : (([(c0, none), (c1, some "index"), (c2, some "index"), (c3, some "index"), (c4, none), (c5, some "index"), (c6, none), (c7, some "place"), (c8, some "part"), (c9, some "operation"), (c10, some "many"), (c11, some "history"), (c12, some "state"), (c13, some "operation"), (c14, some "asks"), (c15, some "answer"), (c16, some "index"), (c17, some "many"), (c18, some "index"), (c19, none), (c20, none), (c21, some "place"), (c22, none), (c23, some "function"), (c24, some "many"), (c25, some "line")] : List (Addr × Option Str)).map (·.1))[i]? = some C.1 := by
              rw [List.getElem?_map, hC]
              rfl
            exact z
          have memC := List.mem_of_getElem? hC2
          refine ⟨T', _, rfl, .inl (.inl eT), rfl, _, _, rfl, _, _, rfl, rfl, ?_⟩
          refine ⟨_, rfl, ae, C.1, rfl, hE2, memC, fun p7 Hi n7' s7' e7' => ?_⟩
          refine ⟨26, rfl, by decide, by decide, fun D nD => lc_range (lo := 0) (n := 26) (fun j Hx => Same Hi Hx ∧ Hx D = some (.lst ((ats i j).map V.bl))) ⟨sameNew nD _, upd_same⟩ (fun j Hx hj ⟨sx, ex⟩ => ?_) fun Hx ⟨sx, ex⟩ => ?_⟩
          · refine ⟨rfl, _, rfl, _, rfl, rfl, _, ex, ?_, fun b o e => ?_, ?_⟩
            · rw [List.length_map]
              show ((List.range j).map _).length < _
              rw [List.length_map, List.length_range, sizeLine_eq]
              have : j < 26 := hj
              omega
            · rw [upd_ne (ne_of_none e nD)]
              exact sx _ _ e
            · rw [ats_succ, List.map_append]
              exact upd_same
          · rw [kinds_bools, kinds_ats nd hC2] at e7'
            refine ⟨_, _, bools_dp (sx _ _ e7'), bools_dp ex, bools_shaped _, bools_shaped _, _, rfl, ?_⟩
            rw [show ([c0, c1, c2, c3, c4, c5, c6, c7, c8, c9, c10, c11, c12, c13, c14, c15, c16, c17, c18, c19, c20, c21, c22, c23, c24, c25] : List Addr).length = 26 from rfl, bools_same]
            refine iteF ?_
            obtain ⟨nm', eC⟩ := T.all C.1 memC
            have hE3 := ((s7'.trans sx)).err hE2
            refine ⟨_, rfl, ae, C.1, _, _, _, rfl, hE3, .own _, eC.ex, eC.kitAsk TL.aC TL.aT, _, rfl, ?_⟩
            refine iteF ?_
            refine ⟨_, rfl, ae, C.1, _, _, _, rfl, hE3, .ty _, eC.ex, eC.kitVal, _, rfl, ?_⟩
            refine iteF ?_
            exact ⟨_, _, _, _, rfl, ((sg.trans sT).trans s7').trans sx⟩
        · rintro σ Hg ⟨v7, v8, v9, v10, rfl, sg⟩
          -- what is kept is shown alike
          refine ⟨_, rfl, p6, xs6, v, rfl, sg _ _ e6', r6.same sg, fun p8 H8' n8' s8' e8' => ?_⟩
          refine ⟨p8, rfl, ⟨_, SqL.of e8'⟩, fun D nD => lc_list (K := K) (a := p8) (xs := List.replicate 20 v) (fun i Hx => Same H8' Hx ∧ Hx D = some (.lst ((List.replicate i d.shown).map V.str))) ⟨sameNew nD _, upd_same⟩ (fun i Hx _ z => z.1.seq (SqL.of e8')) (fun i y Hx hy z => ?_) fun Hx z => ?_⟩
          · obtain ⟨sx, ex⟩ := z
            have hi20 : i < 20 := by
              have := (List.getElem?_eq_some_iff.mp hy).1
              simpa using this
            have ey : y = v := by
              rw [List.getElem?_replicate, if_pos hi20] at hy
              exact (Option.some.inj hy).symm
            subst ey
            refine ⟨rfl, _, rfl, y, d, rfl, (hw.same ((sg.trans s8').trans sx)), fd.sh, fd.dp, fd.sz, _, ex, ?_, fun b o e => ?_, ?_⟩
            · rw [List.length_map, List.length_replicate, sizeLine_eq]
              omega
            · rw [upd_ne (ne_of_none e nD)]
              exact sx _ _ e
            · rw [List.replicate_succ', List.map_append]
              exact upd_same
          · obtain ⟨sx, ex⟩ := z
            rw [List.length_replicate] at ex
            refine ⟨_, rfl, v, d, rfl, (hw.same ((sg.trans s8').trans sx)), fd.sh, fd.dp, fd.sz, ?_⟩
            refine ⟨by show 1 ≤ sizeLine; decide, fun p9 H9' n9' s9' e9' => ?_⟩
            refine ⟨p9, 20, _, rfl, rfl, e9', by decide, by decide, by show 1 * 20 ≤ sizeLine; decide, fun p10 H10 n10 s10 e10 => ?_⟩
            have okT : ∀ t ∈ List.replicate 20 d.shown, PyData.strOk t = true := fun t m => by
              rw [(List.mem_replicate.mp m).2]
              exact fd.ok
            have e10' : H10 p10 = some (.lst ((List.replicate 20 d.shown).map V.str)) := e10
            refine ⟨_, _, strs_dp ((s9'.trans s10) _ _ ex), strs_dp e10', strs_shaped _ okT, strs_shaped _ okT, _, rfl, ?_⟩
            rw [strs_same _ okT]
            refine iteF ?_
            exact ⟨_, _, _, _, _, _, _, _, rfl, (((((sf.trans sg).trans s8').trans sx).trans s9').trans s10), _, _, _, ((((sg.trans s8').trans sx).trans s9').trans s10) _ _ ef⟩
      · rintro σ Hd ⟨v3, v4, v5, v6, v7, v8, v9, v10, rfl, sd, _⟩
        exact ⟨_, _, _, _, _, _, _, _, _, _, rfl, sc.trans sd⟩
    · rintro σ H' ⟨v1, v2, v3, v4, v5, v6, v7, v8, v9, v10, rfl, _⟩
      refine fun a9 H9 n9 s9 e9 => ?_
      exact ⟨a9, cA, _, _, _, rfl, .inl e9, .ty _, TL.exA, TL.kitA, k _⟩
end
end Mine

set_option maxRecDepth 100000
set_option maxHeartbeats 4000000
namespace Mine
open PySem L2
/-- what the written part holds of an error class -/
structure Raw (K : PySem.W.Frag) (cA C : Addr) : Prop where
  xL : ∃ nm q N bs sn sub ab col dd m0 m1 m2 m3 m5, K.lookup C = some (excClassObj nm q C N bs [.ref cA, .type "ValueError", .type "Exception", .type "BaseException", .type "object"] true sn sub ab col dd m0 m1 m2 m3 m5 "ValueError.__new__")
  ga : PySem.W.findIn K (.ref C) "__getattribute__" = some (some (.builtin "BaseException.__getattribute__"))
  gg : PySem.W.findIn K (.ref C) "__getattr__" = some none
  ca : PySem.W.findIn K (.ref C) "__class__" = some (some (.builtin "object.__class__"))
  sa : PySem.W.findIn K (.ref C) "__setattr__" = some (some (.builtin "object.__setattr__"))
  ty : PySem.W.typeIn K (.ref C) = some (.type "type")
  hd : PySem.W.hasDictIn K C = true
  kC : PySem.W.keepIn K (.ref C) = true
theorem Raw.mro {K : PySem.W.Frag} {cA C : Addr} (r : Raw K cA C) : ∃ cd : ClassData, PySem.W.clsIn K C = some cd ∧ cd.mro = [.ref C, .ref cA, .type "ValueError", .type "Exception", .type "BaseException", .type "object"] := by
  obtain ⟨nm, q, N, bs, sn, sub, ab, col, dd, m0, m1, m2, m3, m5, hC⟩ := r.xL
  refine ⟨{ name := nm, bases := bs, mro := [.ref C, .ref cA, .type "ValueError", .type "Exception", .type "BaseException", .type "object"], ns := N, qualname := q, hasDict := true, slotNames := sn, subclasses := sub, abstract := ab, collection := col, hasDel := false }, ?_, rfl⟩
  unfold PySem.W.clsIn
  rw [hC] <;> rfl
theorem Raw.sub {K : PySem.W.Frag} {cA C : Addr} (r : Raw K cA C) (b : Value) (hb : ([.ref C, .ref cA, .type "ValueError", .type "Exception", .type "BaseException", .type "object"] : List Value).contains b = true) :
    PySem.W.mroIn K C b = some true := by
  obtain ⟨cd, h1, h2⟩ := r.mro
  show (PySem.W.clsIn K C).bind _ = _
  rw [h1, Option.bind_some, h2]
  show some _ = some true
  rw [hb]
theorem Raw.exc {K : PySem.W.Frag} {cA C : Addr} (r : Raw K cA C) (hn : PySem.W.specialIn K (.builtin "object.__class__") "__get__" = some (some (.builtin "getset_descriptor.__get__"))) (ht : PySem.W.takesIn K (.builtin "object.__class__") = some true) : ExcC K C :=
  ⟨r.ga, r.gg, r.sub _ (by simp [List.contains_cons]), r.hd, r.ca, hn, ht, r.sub _ (by simp [List.contains_cons])⟩
theorem Raw.oex {K : PySem.W.Frag} {cA C : Addr} (r : Raw K cA C) : OexC K C := by
  obtain ⟨nm, q, N, bs, sn, sub, ab, col, dd, m0, m1, m2, m3, m5, hC⟩ := r.xL
  exact ⟨⟨nm, q, N, bs, _, sn, sub, ab, col, dd, m0, m1, m2, m3, m5, hC, by show PySem.HandSPX.refsVE veRow = true; decide +kernel⟩, r.sa, r.sub _ (by simp [List.contains_cons]), r.ty, r.kC⟩
theorem bind_BadBody {K : PySem.W.Frag} {f : Addr} {fd : FuncData} (F : Fun K "__init__" "BadBody.__init__" sIBadBody f fd) (a b : Value) : bindArgs fd ⟨[a, b], []⟩ = pure ([(("self" : Str), a), ("index", b)] : List (Str × Value)) := by
  obtain ⟨_, _, _, _, _, _, _, _, _, rfl, _, _⟩ := F.ex
  rfl
theorem bind_BadStart {K : PySem.W.Frag} {f : Addr} {fd : FuncData} (F : Fun K "__init__" "BadStart.__init__" sIBadStart f fd) (a b : Value) : bindArgs fd ⟨[a, b], []⟩ = pure ([(("self" : Str), a), ("index", b)] : List (Str × Value)) := by
  obtain ⟨_, _, _, _, _, _, _, _, _, rfl, _, _⟩ := F.ex
  rfl
theorem bind_NoRow {K : PySem.W.Frag} {f : Addr} {fd : FuncData} (F : Fun K "__init__" "NoRow.__init__" sINoRow f fd) (a b : Value) : bindArgs fd ⟨[a, b], []⟩ = pure ([(("self" : Str), a), ("index", b)] : List (Str × Value)) := by
  obtain ⟨_, _, _, _, _, _, _, _, _, rfl, _, _⟩ := F.ex
  rfl
theorem bind_BadHistory {K : PySem.W.Frag} {f : Addr} {fd : FuncData} (F : Fun K "__init__" "BadHistory.__init__" sIBadHistory f fd) (a b : Value) : bindArgs fd ⟨[a, b], []⟩ = pure ([(("self" : Str), a), ("index", b)] : List (Str × Value)) := by
  obtain ⟨_, _, _, _, _, _, _, _, _, rfl, _, _⟩ := F.ex
  rfl
theorem bind_BadProgram {K : PySem.W.Frag} {f : Addr} {fd : FuncData} (F : Fun K "__init__" "BadProgram.__init__" sIBadProgram f fd) (a b : Value) : bindArgs fd ⟨[a, b], []⟩ = pure ([(("self" : Str), a), ("place", b)] : List (Str × Value)) := by
  obtain ⟨_, _, _, _, _, _, _, _, _, rfl, _, _⟩ := F.ex
  rfl
theorem bind_BadHandler {K : PySem.W.Frag} {f : Addr} {fd : FuncData} (F : Fun K "__init__" "BadHandler.__init__" sIBadHandler f fd) (a b : Value) : bindArgs fd ⟨[a, b], []⟩ = pure ([(("self" : Str), a), ("part", b)] : List (Str × Value)) := by
  obtain ⟨_, _, _, _, _, _, _, _, _, rfl, _, _⟩ := F.ex
  rfl
theorem bind_Mismatch {K : PySem.W.Frag} {f : Addr} {fd : FuncData} (F : Fun K "__init__" "Mismatch.__init__" sIMismatch f fd) (a b : Value) : bindArgs fd ⟨[a, b], []⟩ = pure ([(("self" : Str), a), ("operation", b)] : List (Str × Value)) := by
  obtain ⟨_, _, _, _, _, _, _, _, _, rfl, _, _⟩ := F.ex
  rfl
theorem bind_TooMany {K : PySem.W.Frag} {f : Addr} {fd : FuncData} (F : Fun K "__init__" "TooMany.__init__" sITooMany f fd) (a b : Value) : bindArgs fd ⟨[a, b], []⟩ = pure ([(("self" : Str), a), ("many", b)] : List (Str × Value)) := by
  obtain ⟨_, _, _, _, _, _, _, _, _, rfl, _, _⟩ := F.ex
  rfl
theorem bind_Parted {K : PySem.W.Frag} {f : Addr} {fd : FuncData} (F : Fun K "__init__" "Parted.__init__" sIParted f fd) (a b : Value) : bindArgs fd ⟨[a, b], []⟩ = pure ([(("self" : Str), a), ("history", b)] : List (Str × Value)) := by
  obtain ⟨_, _, _, _, _, _, _, _, _, rfl, _, _⟩ := F.ex
  rfl
theorem bind_NoState {K : PySem.W.Frag} {f : Addr} {fd : FuncData} (F : Fun K "__init__" "NoState.__init__" sINoState f fd) (a b : Value) : bindArgs fd ⟨[a, b], []⟩ = pure ([(("self" : Str), a), ("state", b)] : List (Str × Value)) := by
  obtain ⟨_, _, _, _, _, _, _, _, _, rfl, _, _⟩ := F.ex
  rfl
theorem bind_NoOperation {K : PySem.W.Frag} {f : Addr} {fd : FuncData} (F : Fun K "__init__" "NoOperation.__init__" sINoOperation f fd) (a b : Value) : bindArgs fd ⟨[a, b], []⟩ = pure ([(("self" : Str), a), ("operation", b)] : List (Str × Value)) := by
  obtain ⟨_, _, _, _, _, _, _, _, _, rfl, _, _⟩ := F.ex
  rfl
theorem bind_Apart {K : PySem.W.Frag} {f : Addr} {fd : FuncData} (F : Fun K "__init__" "Apart.__init__" sIApart f fd) (a b : Value) : bindArgs fd ⟨[a, b], []⟩ = pure ([(("self" : Str), a), ("asks", b)] : List (Str × Value)) := by
  obtain ⟨_, _, _, _, _, _, _, _, _, rfl, _, _⟩ := F.ex
  rfl
theorem bind_BadAnswer {K : PySem.W.Frag} {f : Addr} {fd : FuncData} (F : Fun K "__init__" "BadAnswer.__init__" sIBadAnswer f fd) (a b : Value) : bindArgs fd ⟨[a, b], []⟩ = pure ([(("self" : Str), a), ("answer", b)] : List (Str × Value)) := by
  obtain ⟨_, _, _, _, _, _, _, _, _, rfl, _, _⟩ := F.ex
  rfl
theorem bind_BadChoices {K : PySem.W.Frag} {f : Addr} {fd : FuncData} (F : Fun K "__init__" "BadChoices.__init__" sIBadChoices f fd) (a b : Value) : bindArgs fd ⟨[a, b], []⟩ = pure ([(("self" : Str), a), ("index", b)] : List (Str × Value)) := by
  obtain ⟨_, _, _, _, _, _, _, _, _, rfl, _, _⟩ := F.ex
  rfl
theorem bind_BadCount {K : PySem.W.Frag} {f : Addr} {fd : FuncData} (F : Fun K "__init__" "BadCount.__init__" sIBadCount f fd) (a b : Value) : bindArgs fd ⟨[a, b], []⟩ = pure ([(("self" : Str), a), ("many", b)] : List (Str × Value)) := by
  obtain ⟨_, _, _, _, _, _, _, _, _, rfl, _, _⟩ := F.ex
  rfl
theorem bind_NoIndex {K : PySem.W.Frag} {f : Addr} {fd : FuncData} (F : Fun K "__init__" "NoIndex.__init__" sINoIndex f fd) (a b : Value) : bindArgs fd ⟨[a, b], []⟩ = pure ([(("self" : Str), a), ("index", b)] : List (Str × Value)) := by
  obtain ⟨_, _, _, _, _, _, _, _, _, rfl, _, _⟩ := F.ex
  rfl
theorem bind_BadWork {K : PySem.W.Frag} {f : Addr} {fd : FuncData} (F : Fun K "__init__" "BadWork.__init__" sIBadWork f fd) (a b : Value) : bindArgs fd ⟨[a, b], []⟩ = pure ([(("self" : Str), a), ("place", b)] : List (Str × Value)) := by
  obtain ⟨_, _, _, _, _, _, _, _, _, rfl, _, _⟩ := F.ex
  rfl
theorem bind_Recursive {K : PySem.W.Frag} {f : Addr} {fd : FuncData} (F : Fun K "__init__" "Recursive.__init__" sIRecursive f fd) (a b : Value) : bindArgs fd ⟨[a, b], []⟩ = pure ([(("self" : Str), a), ("function", b)] : List (Str × Value)) := by
  obtain ⟨_, _, _, _, _, _, _, _, _, rfl, _, _⟩ := F.ex
  rfl
theorem bind_TooLong {K : PySem.W.Frag} {f : Addr} {fd : FuncData} (F : Fun K "__init__" "TooLong.__init__" sITooLong f fd) (a b : Value) : bindArgs fd ⟨[a, b], []⟩ = pure ([(("self" : Str), a), ("many", b)] : List (Str × Value)) := by
  obtain ⟨_, _, _, _, _, _, _, _, _, rfl, _, _⟩ := F.ex
  rfl
theorem bind_NoText {K : PySem.W.Frag} {f : Addr} {fd : FuncData} (F : Fun K "__init__" "NoText.__init__" sINoText f fd) (a b : Value) : bindArgs fd ⟨[a, b], []⟩ = pure ([(("self" : Str), a), ("line", b)] : List (Str × Value)) := by
  obtain ⟨_, _, _, _, _, _, _, _, _, rfl, _, _⟩ := F.ex
  rfl
theorem all_mk {l : PySem.W.OpenLaw} {w : World} {K : PySem.W.Frag} {h : Heap} {mg : Str → Option Value} {fa cA fS fN fO fK fM fF fL c0 c1 c2 c3 c4 c5 c6 c7 c8 c9 c10 c11 c12 c13 c14 c15 c16 c17 c18 c19 c20 c21 c22 c23 c24 c25 f1 f2 f3 f5 f7 f8 f9 f10 f11 f12 f13 f14 f15 f16 f17 f18 f21 f23 f24 f25 : Addr} {fdS fdN fdO fdK fdM fdF fdL fd1 fd2 fd3 fd5 fd7 fd8 fd9 fd10 fd11 fd12 fd13 fd14 fd15 fd16 fd17 fd18 fd21 fd23 fd24 fd25 : FuncData} (X : K.In h) (G : h.Ns mainGlobals mg) (hfa : mg "law" = some (.ref fa))
    (a0 : PySem.W.nsIn K mainGlobals "BadOperations" = some (some (.ref c0)))
    (a1 : PySem.W.nsIn K mainGlobals "BadBody" = some (some (.ref c1)))
    (a2 : PySem.W.nsIn K mainGlobals "BadStart" = some (some (.ref c2)))
    (a3 : PySem.W.nsIn K mainGlobals "NoRow" = some (some (.ref c3)))
    (a4 : PySem.W.nsIn K mainGlobals "BadOthers" = some (some (.ref c4)))
    (a5 : PySem.W.nsIn K mainGlobals "BadHistory" = some (some (.ref c5)))
    (a6 : PySem.W.nsIn K mainGlobals "BadSizes" = some (some (.ref c6)))
    (a7 : PySem.W.nsIn K mainGlobals "BadProgram" = some (some (.ref c7)))
    (a8 : PySem.W.nsIn K mainGlobals "BadHandler" = some (some (.ref c8)))
    (a9 : PySem.W.nsIn K mainGlobals "Mismatch" = some (some (.ref c9)))
    (a10 : PySem.W.nsIn K mainGlobals "TooMany" = some (some (.ref c10)))
    (a11 : PySem.W.nsIn K mainGlobals "Parted" = some (some (.ref c11)))
    (a12 : PySem.W.nsIn K mainGlobals "NoState" = some (some (.ref c12)))
    (a13 : PySem.W.nsIn K mainGlobals "NoOperation" = some (some (.ref c13)))
    (a14 : PySem.W.nsIn K mainGlobals "Apart" = some (some (.ref c14)))
    (a15 : PySem.W.nsIn K mainGlobals "BadAnswer" = some (some (.ref c15)))
    (a16 : PySem.W.nsIn K mainGlobals "BadChoices" = some (some (.ref c16)))
    (a17 : PySem.W.nsIn K mainGlobals "BadCount" = some (some (.ref c17)))
    (a18 : PySem.W.nsIn K mainGlobals "NoIndex" = some (some (.ref c18)))
    (a19 : PySem.W.nsIn K mainGlobals "Endless" = some (some (.ref c19)))
    (a20 : PySem.W.nsIn K mainGlobals "BadHandlers" = some (some (.ref c20)))
    (a21 : PySem.W.nsIn K mainGlobals "BadWork" = some (some (.ref c21)))
    (a22 : PySem.W.nsIn K mainGlobals "NoEntry" = some (some (.ref c22)))
    (a23 : PySem.W.nsIn K mainGlobals "Recursive" = some (some (.ref c23)))
    (a24 : PySem.W.nsIn K mainGlobals "TooLong" = some (some (.ref c24)))
    (a25 : PySem.W.nsIn K mainGlobals "NoText" = some (some (.ref c25)))
    (aA : PySem.W.nsIn K mainGlobals "AskError" = some (some (.ref cA)))
    (r0 : Raw K cA c0)
    (r1 : Raw K cA c1)
    (r2 : Raw K cA c2)
    (r3 : Raw K cA c3)
    (r4 : Raw K cA c4)
    (r5 : Raw K cA c5)
    (r6 : Raw K cA c6)
    (r7 : Raw K cA c7)
    (r8 : Raw K cA c8)
    (r9 : Raw K cA c9)
    (r10 : Raw K cA c10)
    (r11 : Raw K cA c11)
    (r12 : Raw K cA c12)
    (r13 : Raw K cA c13)
    (r14 : Raw K cA c14)
    (r15 : Raw K cA c15)
    (r16 : Raw K cA c16)
    (r17 : Raw K cA c17)
    (r18 : Raw K cA c18)
    (r19 : Raw K cA c19)
    (r20 : Raw K cA c20)
    (r21 : Raw K cA c21)
    (r22 : Raw K cA c22)
    (r23 : Raw K cA c23)
    (r24 : Raw K cA c24)
    (r25 : Raw K cA c25)
    (q0 : PySem.W.excIn K c0 [.type "ValueError", .type "Exception", .type "BaseException", .type "object"] "ValueError.__new__" = true)
    (iC1 : PySem.W.findIn K (.ref c1) "__init__" = some (some (.ref f1)))
    (tI1 : PySem.W.typeIn K (.ref f1) = some (.type "function"))
    (nf1 : PySem.W.findIn K (.ref c1) "index" = some none)
    (F1 : Fun K "__init__" "BadBody.__init__" sIBadBody f1 fd1)
    (iC2 : PySem.W.findIn K (.ref c2) "__init__" = some (some (.ref f2)))
    (tI2 : PySem.W.typeIn K (.ref f2) = some (.type "function"))
    (nf2 : PySem.W.findIn K (.ref c2) "index" = some none)
    (F2 : Fun K "__init__" "BadStart.__init__" sIBadStart f2 fd2)
    (iC3 : PySem.W.findIn K (.ref c3) "__init__" = some (some (.ref f3)))
    (tI3 : PySem.W.typeIn K (.ref f3) = some (.type "function"))
    (nf3 : PySem.W.findIn K (.ref c3) "index" = some none)
    (F3 : Fun K "__init__" "NoRow.__init__" sINoRow f3 fd3)
    (q4 : PySem.W.excIn K c4 [.type "ValueError", .type "Exception", .type "BaseException", .type "object"] "ValueError.__new__" = true)
    (iC5 : PySem.W.findIn K (.ref c5) "__init__" = some (some (.ref f5)))
    (tI5 : PySem.W.typeIn K (.ref f5) = some (.type "function"))
    (nf5 : PySem.W.findIn K (.ref c5) "index" = some none)
    (F5 : Fun K "__init__" "BadHistory.__init__" sIBadHistory f5 fd5)
    (q6 : PySem.W.excIn K c6 [.type "ValueError", .type "Exception", .type "BaseException", .type "object"] "ValueError.__new__" = true)
    (iC7 : PySem.W.findIn K (.ref c7) "__init__" = some (some (.ref f7)))
    (tI7 : PySem.W.typeIn K (.ref f7) = some (.type "function"))
    (nf7 : PySem.W.findIn K (.ref c7) "place" = some none)
    (F7 : Fun K "__init__" "BadProgram.__init__" sIBadProgram f7 fd7)
    (iC8 : PySem.W.findIn K (.ref c8) "__init__" = some (some (.ref f8)))
    (tI8 : PySem.W.typeIn K (.ref f8) = some (.type "function"))
    (nf8 : PySem.W.findIn K (.ref c8) "part" = some none)
    (F8 : Fun K "__init__" "BadHandler.__init__" sIBadHandler f8 fd8)
    (iC9 : PySem.W.findIn K (.ref c9) "__init__" = some (some (.ref f9)))
    (tI9 : PySem.W.typeIn K (.ref f9) = some (.type "function"))
    (nf9 : PySem.W.findIn K (.ref c9) "operation" = some none)
    (F9 : Fun K "__init__" "Mismatch.__init__" sIMismatch f9 fd9)
    (iC10 : PySem.W.findIn K (.ref c10) "__init__" = some (some (.ref f10)))
    (tI10 : PySem.W.typeIn K (.ref f10) = some (.type "function"))
    (nf10 : PySem.W.findIn K (.ref c10) "many" = some none)
    (F10 : Fun K "__init__" "TooMany.__init__" sITooMany f10 fd10)
    (iC11 : PySem.W.findIn K (.ref c11) "__init__" = some (some (.ref f11)))
    (tI11 : PySem.W.typeIn K (.ref f11) = some (.type "function"))
    (nf11 : PySem.W.findIn K (.ref c11) "history" = some none)
    (F11 : Fun K "__init__" "Parted.__init__" sIParted f11 fd11)
    (iC12 : PySem.W.findIn K (.ref c12) "__init__" = some (some (.ref f12)))
    (tI12 : PySem.W.typeIn K (.ref f12) = some (.type "function"))
    (nf12 : PySem.W.findIn K (.ref c12) "state" = some none)
    (F12 : Fun K "__init__" "NoState.__init__" sINoState f12 fd12)
    (iC13 : PySem.W.findIn K (.ref c13) "__init__" = some (some (.ref f13)))
    (tI13 : PySem.W.typeIn K (.ref f13) = some (.type "function"))
    (nf13 : PySem.W.findIn K (.ref c13) "operation" = some none)
    (F13 : Fun K "__init__" "NoOperation.__init__" sINoOperation f13 fd13)
    (iC14 : PySem.W.findIn K (.ref c14) "__init__" = some (some (.ref f14)))
    (tI14 : PySem.W.typeIn K (.ref f14) = some (.type "function"))
    (nf14 : PySem.W.findIn K (.ref c14) "asks" = some none)
    (F14 : Fun K "__init__" "Apart.__init__" sIApart f14 fd14)
    (iC15 : PySem.W.findIn K (.ref c15) "__init__" = some (some (.ref f15)))
    (tI15 : PySem.W.typeIn K (.ref f15) = some (.type "function"))
    (nf15 : PySem.W.findIn K (.ref c15) "answer" = some none)
    (F15 : Fun K "__init__" "BadAnswer.__init__" sIBadAnswer f15 fd15)
    (iC16 : PySem.W.findIn K (.ref c16) "__init__" = some (some (.ref f16)))
    (tI16 : PySem.W.typeIn K (.ref f16) = some (.type "function"))
    (nf16 : PySem.W.findIn K (.ref c16) "index" = some none)
    (F16 : Fun K "__init__" "BadChoices.__init__" sIBadChoices f16 fd16)
    (iC17 : PySem.W.findIn K (.ref c17) "__init__" = some (some (.ref f17)))
    (tI17 : PySem.W.typeIn K (.ref f17) = some (.type "function"))
    (nf17 : PySem.W.findIn K (.ref c17) "many" = some none)
    (F17 : Fun K "__init__" "BadCount.__init__" sIBadCount f17 fd17)
    (iC18 : PySem.W.findIn K (.ref c18) "__init__" = some (some (.ref f18)))
    (tI18 : PySem.W.typeIn K (.ref f18) = some (.type "function"))
    (nf18 : PySem.W.findIn K (.ref c18) "index" = some none)
    (F18 : Fun K "__init__" "NoIndex.__init__" sINoIndex f18 fd18)
    (q19 : PySem.W.excIn K c19 [.type "ValueError", .type "Exception", .type "BaseException", .type "object"] "ValueError.__new__" = true)
    (q20 : PySem.W.excIn K c20 [.type "ValueError", .type "Exception", .type "BaseException", .type "object"] "ValueError.__new__" = true)
    (iC21 : PySem.W.findIn K (.ref c21) "__init__" = some (some (.ref f21)))
    (tI21 : PySem.W.typeIn K (.ref f21) = some (.type "function"))
    (nf21 : PySem.W.findIn K (.ref c21) "place" = some none)
    (F21 : Fun K "__init__" "BadWork.__init__" sIBadWork f21 fd21)
    (q22 : PySem.W.excIn K c22 [.type "ValueError", .type "Exception", .type "BaseException", .type "object"] "ValueError.__new__" = true)
    (iC23 : PySem.W.findIn K (.ref c23) "__init__" = some (some (.ref f23)))
    (tI23 : PySem.W.typeIn K (.ref f23) = some (.type "function"))
    (nf23 : PySem.W.findIn K (.ref c23) "function" = some none)
    (F23 : Fun K "__init__" "Recursive.__init__" sIRecursive f23 fd23)
    (iC24 : PySem.W.findIn K (.ref c24) "__init__" = some (some (.ref f24)))
    (tI24 : PySem.W.typeIn K (.ref f24) = some (.type "function"))
    (nf24 : PySem.W.findIn K (.ref c24) "many" = some none)
    (F24 : Fun K "__init__" "TooLong.__init__" sITooLong f24 fd24)
    (iC25 : PySem.W.findIn K (.ref c25) "__init__" = some (some (.ref f25)))
    (tI25 : PySem.W.typeIn K (.ref f25) = some (.type "function"))
    (nf25 : PySem.W.findIn K (.ref c25) "line" = some none)
    (F25 : Fun K "__init__" "NoText.__init__" sINoText f25 fd25)
    (hn : PySem.W.specialIn K (.builtin "object.__class__") "__get__" = some (some (.builtin "getset_descriptor.__get__")))
    (ht : PySem.W.takesIn K (.builtin "object.__class__") = some true)
    (acA : PySem.W.isClsIn K cA = true)
    (atA : PySem.W.typeIn K (.ref cA) = some (.type "type"))
    (qA : PySem.W.excIn K cA [.type "ValueError", .type "Exception", .type "BaseException", .type "object"] "ValueError.__new__" = true)
    (kA : PySem.W.keepIn K (.ref cA) = true)
    (gaA : PySem.W.findIn K (.ref cA) "__getattribute__" = some (some (.builtin "BaseException.__getattribute__")))
    (ggA : PySem.W.findIn K (.ref cA) "__getattr__" = some none)
    (caA : PySem.W.findIn K (.ref cA) "__class__" = some (some (.builtin "object.__class__")))
    (sbA : PySem.W.subIn K (.ref cA) (.type "BaseException") = some true)
    (svA : PySem.W.subIn K (.ref cA) (.type "ValueError") = some true)
    (hdA : PySem.W.hasDictIn K cA = true)
    (moA : PySem.W.mroIn K cA (.type "object") = some true)
    (gF : PySem.W.nsIn K mainGlobals "_law_fields" = some (some (.ref fF)))
    (GF : Fun K "_law_fields" "_law_fields" sFields fF fdF)
    (gS : PySem.W.nsIn K mainGlobals "_law_source_of" = some (some (.ref fS)))
    (GS : Fun K "_law_source_of" "_law_source_of" sSrc fS fdS)
    (gN : PySem.W.nsIn K mainGlobals "_law_next" = some (some (.ref fN)))
    (GN : Fun K "_law_next" "_law_next" sNext fN fdN)
    (gO : PySem.W.nsIn K mainGlobals "_law_one" = some (some (.ref fO)))
    (GO : Fun K "_law_one" "_law_one" sOne fO fdO)
    (gK : PySem.W.nsIn K mainGlobals "_law_kinds" = some (some (.ref fK)))
    (GK : Fun K "_law_kinds" "_law_kinds" sKinds fK fdK)
    (gM : PySem.W.nsIn K mainGlobals "_law_by_place" = some (some (.ref fM)))
    (GM : Fun K "_law_by_place" "_law_by_place" sMade fM fdM)
    (gL : PySem.W.nsIn K mainGlobals "law" = some (some (.ref fL)))
    (GL : Fun K "law" "law" sLaw fL fdL)
    (zint : PySem.W.nsIn K mainGlobals "int" = some none)
    (zlen : PySem.W.nsIn K mainGlobals "len" = some none)
    (zrepr : PySem.W.nsIn K mainGlobals "repr" = some none)
    (zisinstance : PySem.W.nsIn K mainGlobals "isinstance" = some none)
    (zrange : PySem.W.nsIn K mainGlobals "range" = some none)
    (zenumerate : PySem.W.nsIn K mainGlobals "enumerate" = some none)
    (zValueError : PySem.W.nsIn K mainGlobals "ValueError" = some none)
    (nd : (cA :: [c0, c1, c2, c3, c4, c5, c6, c7, c8, c9, c10, c11, c12, c13, c14, c15, c16, c17, c18, c19, c20, c21, c22, c23, c24, c25]).Nodup)
    : ∃ fd : FuncData, (∀ (s : Shared) (v : Value), BindsTo s fd ⟨[v], []⟩ [("_law_script", v)]) ∧ ∀ base : Heap, K.In base → base.Ns mainGlobals mg → FnG l.prog w K mg base CX0 4 fa fd ["_law_script"] (spLaw K) := by
  have e := hfa.symm.trans (PySem.W.mg_of X G gL)
  cases e
  have nd2 := List.nodup_cons.mp nd
  have ne : ∀ C ∈ ([c0, c1, c2, c3, c4, c5, c6, c7, c8, c9, c10, c11, c12, c13, c14, c15, c16, c17, c18, c19, c20, c21, c22, c23, c24, c25] : List Addr), C ≠ cA := fun C m z => nd2.1 (z ▸ m)
  have T : TxtE K mg cA c0 c1 c2 c3 c4 c5 c6 c7 c8 c9 c10 c11 c12 c13 c14 c15 c16 c17 c18 c19 c20 c21 c22 c23 c24 c25 := { isi := PySem.W.mg_none_of X G zisinstance, e0 := ⟨r0.exc hn ht, r0.ty, PySem.W.mg_of X G a0, r0.kC, ne _ (by simp), r0.mro⟩, e1 := ⟨r1.exc hn ht, r1.ty, PySem.W.mg_of X G a1, r1.kC, ne _ (by simp), r1.mro⟩, e2 := ⟨r2.exc hn ht, r2.ty, PySem.W.mg_of X G a2, r2.kC, ne _ (by simp), r2.mro⟩, e3 := ⟨r3.exc hn ht, r3.ty, PySem.W.mg_of X G a3, r3.kC, ne _ (by simp), r3.mro⟩, e4 := ⟨r4.exc hn ht, r4.ty, PySem.W.mg_of X G a4, r4.kC, ne _ (by simp), r4.mro⟩, e5 := ⟨r5.exc hn ht, r5.ty, PySem.W.mg_of X G a5, r5.kC, ne _ (by simp), r5.mro⟩, e6 := ⟨r6.exc hn ht, r6.ty, PySem.W.mg_of X G a6, r6.kC, ne _ (by simp), r6.mro⟩, e7 := ⟨r7.exc hn ht, r7.ty, PySem.W.mg_of X G a7, r7.kC, ne _ (by simp), r7.mro⟩, e8 := ⟨r8.exc hn ht, r8.ty, PySem.W.mg_of X G a8, r8.kC, ne _ (by simp), r8.mro⟩, e9 := ⟨r9.exc hn ht, r9.ty, PySem.W.mg_of X G a9, r9.kC, ne _ (by simp), r9.mro⟩, e10 := ⟨r10.exc hn ht, r10.ty, PySem.W.mg_of X G a10, r10.kC, ne _ (by simp), r10.mro⟩, e11 := ⟨r11.exc hn ht, r11.ty, PySem.W.mg_of X G a11, r11.kC, ne _ (by simp), r11.mro⟩, e12 := ⟨r12.exc hn ht, r12.ty, PySem.W.mg_of X G a12, r12.kC, ne _ (by simp), r12.mro⟩, e13 := ⟨r13.exc hn ht, r13.ty, PySem.W.mg_of X G a13, r13.kC, ne _ (by simp), r13.mro⟩, e14 := ⟨r14.exc hn ht, r14.ty, PySem.W.mg_of X G a14, r14.kC, ne _ (by simp), r14.mro⟩, e15 := ⟨r15.exc hn ht, r15.ty, PySem.W.mg_of X G a15, r15.kC, ne _ (by simp), r15.mro⟩, e16 := ⟨r16.exc hn ht, r16.ty, PySem.W.mg_of X G a16, r16.kC, ne _ (by simp), r16.mro⟩, e17 := ⟨r17.exc hn ht, r17.ty, PySem.W.mg_of X G a17, r17.kC, ne _ (by simp), r17.mro⟩, e18 := ⟨r18.exc hn ht, r18.ty, PySem.W.mg_of X G a18, r18.kC, ne _ (by simp), r18.mro⟩, e19 := ⟨r19.exc hn ht, r19.ty, PySem.W.mg_of X G a19, r19.kC, ne _ (by simp), r19.mro⟩, e20 := ⟨r20.exc hn ht, r20.ty, PySem.W.mg_of X G a20, r20.kC, ne _ (by simp), r20.mro⟩, e21 := ⟨r21.exc hn ht, r21.ty, PySem.W.mg_of X G a21, r21.kC, ne _ (by simp), r21.mro⟩, e22 := ⟨r22.exc hn ht, r22.ty, PySem.W.mg_of X G a22, r22.kC, ne _ (by simp), r22.mro⟩, e23 := ⟨r23.exc hn ht, r23.ty, PySem.W.mg_of X G a23, r23.kC, ne _ (by simp), r23.mro⟩, e24 := ⟨r24.exc hn ht, r24.ty, PySem.W.mg_of X G a24, r24.kC, ne _ (by simp), r24.mro⟩, e25 := ⟨r25.exc hn ht, r25.ty, PySem.W.mg_of X G a25, r25.kC, ne _ (by simp), r25.mro⟩ }
  have T2 : TxtI K c0 c1 c2 c3 c4 c5 c6 c7 c8 c9 c10 c11 c12 c13 c14 c15 c16 c17 c18 c19 c20 c21 c22 c23 c24 c25 f1 f2 f3 f5 f7 f8 f9 f10 f11 f12 f13 f14 f15 f16 f17 f18 f21 f23 f24 f25 fd1 fd2 fd3 fd5 fd7 fd8 fd9 fd10 fd11 fd12 fd13 fd14 fd15 fd16 fd17 fd18 fd21 fd23 fd24 fd25 := { q0 := q0, i1 := ⟨r1.oex, iC1, tI1, nf1⟩, F1 := F1, b1 := bind_BadBody F1, i2 := ⟨r2.oex, iC2, tI2, nf2⟩, F2 := F2, b2 := bind_BadStart F2, i3 := ⟨r3.oex, iC3, tI3, nf3⟩, F3 := F3, b3 := bind_NoRow F3, q4 := q4, i5 := ⟨r5.oex, iC5, tI5, nf5⟩, F5 := F5, b5 := bind_BadHistory F5, q6 := q6, i7 := ⟨r7.oex, iC7, tI7, nf7⟩, F7 := F7, b7 := bind_BadProgram F7, i8 := ⟨r8.oex, iC8, tI8, nf8⟩, F8 := F8, b8 := bind_BadHandler F8, i9 := ⟨r9.oex, iC9, tI9, nf9⟩, F9 := F9, b9 := bind_Mismatch F9, i10 := ⟨r10.oex, iC10, tI10, nf10⟩, F10 := F10, b10 := bind_TooMany F10, i11 := ⟨r11.oex, iC11, tI11, nf11⟩, F11 := F11, b11 := bind_Parted F11, i12 := ⟨r12.oex, iC12, tI12, nf12⟩, F12 := F12, b12 := bind_NoState F12, i13 := ⟨r13.oex, iC13, tI13, nf13⟩, F13 := F13, b13 := bind_NoOperation F13, i14 := ⟨r14.oex, iC14, tI14, nf14⟩, F14 := F14, b14 := bind_Apart F14, i15 := ⟨r15.oex, iC15, tI15, nf15⟩, F15 := F15, b15 := bind_BadAnswer F15, i16 := ⟨r16.oex, iC16, tI16, nf16⟩, F16 := F16, b16 := bind_BadChoices F16, i17 := ⟨r17.oex, iC17, tI17, nf17⟩, F17 := F17, b17 := bind_BadCount F17, i18 := ⟨r18.oex, iC18, tI18, nf18⟩, F18 := F18, b18 := bind_NoIndex F18, q19 := q19, q20 := q20, i21 := ⟨r21.oex, iC21, tI21, nf21⟩, F21 := F21, b21 := bind_BadWork F21, q22 := q22, i23 := ⟨r23.oex, iC23, tI23, nf23⟩, F23 := F23, b23 := bind_Recursive F23, i24 := ⟨r24.oex, iC24, tI24, nf24⟩, F24 := F24, b24 := bind_TooLong F24, i25 := ⟨r25.oex, iC25, tI25, nf25⟩, F25 := F25, b25 := bind_NoText F25 }
  have TD : TxtD K mg fN := ⟨PySem.W.mg_none_of X G zint, PySem.W.mg_none_of X G zlen, PySem.W.mg_of X G gN, GN.kp⟩
  have kitA : PySem.W.kitOne K (.ref cA) (.type "ValueError") = some true := by
    unfold PySem.W.kitOne
    have t3 : ∀ n : String, ((Value.ref cA) == (Value.type n)) = false := fun n => beq_eq_false_iff_ne.mpr fun z => nomatch z
    rw [t3, if_neg Bool.false_ne_true]
    show (if PySem.W.kitMeta "ValueError" = true then PySem.W.subIn K (.ref cA) (.type "ValueError") else none) = _
    rw [if_pos (by decide +kernel), svA]
  have TL : TxtL mg K cA fS fO fK fM fF := ⟨PySem.W.mg_none_of X G zrange, PySem.W.mg_none_of X G zenumerate, PySem.W.mg_none_of X G zrepr, PySem.W.mg_of X G aA, PySem.W.mg_none_of X G zValueError, acA, atA, qA, kA, ⟨gaA, ggA, sbA, hdA, caA, hn, ht, moA⟩, kitA, PySem.W.mg_of X G gS, GS.kp, PySem.W.mg_of X G gO, GO.kp, PySem.W.mg_of X G gK, GK.kp, PySem.W.mg_of X G gM, GM.kp, PySem.W.mg_of X G gF, GF.kp⟩
  have bL := GL.binds (ps := ["_law_script"]) fun _ _ _ _ _ _ us hl => match us, hl with | [_], _ => rfl
  refine ⟨fdL, fun s v => ?_, fun base _ _ => ok_law GL T T2 TD TL nd2.2 GS (GS.binds (ps := ["_law_cell"]) fun _ _ _ _ _ _ us hl => match us, hl with | [_], _ => rfl) GN (GN.binds (ps := ["_law_source", "_law_many"]) fun _ _ _ _ _ _ us hl => match us, hl with | [_, _], _ => rfl) GO (GO.binds (ps := ["_law_source", "_law_some"]) fun _ _ _ _ _ _ us hl => match us, hl with | [_, _], _ => rfl) GK (GK.binds (ps := ["_law_e"]) fun _ _ _ _ _ _ us hl => match us, hl with | [_], _ => rfl) GM (GM.binds (ps := ["_law_it"]) fun _ _ _ _ _ _ us hl => match us, hl with | [_], _ => rfl) GF (GF.binds (ps := ["_law_some"]) fun _ _ _ _ _ _ us hl => match us, hl with | [_], _ => rfl)⟩
  obtain ⟨_, _, _, _, _, _, _, _, _, rfl, _, _⟩ := GL.ex
  exact .of_eq rfl
theorem walk {l : PySem.W.OpenLaw} {q : Program} {loose : List Str} {XP : (Str → Option Value) → Heap → Prop} {YP : World → Heap → Prop} {d : DefRec} {K : Params → PySem.W.Frag} (hn : l.most = some 63) (hdf : d.params.defaults = [])
    (hY : ∀ (w : World) (h : Heap), YP w h → (K w.params).In h)
    (F : ∀ (w : World) (mg : Str → Option Value) (fa : Addr) (h : Heap), (K w.params).In h → h.Ns mainGlobals mg → mg d.name = some (.ref fa) →
      ∃ fd : FuncData, (∀ (s : Shared) (u : Value), BindsTo s fd ⟨[u], []⟩ [("_law_script", u)]) ∧ ∀ base : Heap, (K w.params).In base → base.Ns mainGlobals mg → FnG l.prog w (K w.params) mg base CX0 4 fa fd ["_law_script"] (spLaw (K w.params))) :
    PySem.W.WalkO q loose XP YP l.row.toRowW d [] (fun f vs => PySem.call f vs) :=
  L2.walk_ofG (n := 63) (k := 4) (x := "_law_script") (CX := fun _ => CX0) (sp := fun w => spLaw (K w.params)) hn (by decide) hdf ⟨rfl, by decide, by decide⟩ hY F (fun _ _ a ns hl _ hS => ⟨a, ns, rfl, hS, hl, fun _ => rfl⟩) fun _ _ _ _ _ z => z
end Mine
open PySem PySem.W PyProof.Rows
set_option maxRecDepth 100000 in
set_option maxHeartbeats 0 in
theorem PySem.Challenge.cw_askfurther_k45_errors_made_by_hand_holds : PySem.Challenge.rw_askfurther_k45_errors_made_by_hand.Holds := by
  w_on; o_law; k_head; (case hw => w_witness2)
  k_fill
  refine Mine.walk (l := PySem.Challenge.rw_askfurther_k45_errors_made_by_hand) rfl rfl (fun w h Y => PySem.W.kIn_of Y) ?F
  case F =>
    intro w mg fa h KX G hmg
    refine' Mine.all_mk KX G hmg ?a0 ?a1 ?a2 ?a3 ?a4 ?a5 ?a6 ?a7 ?a8 ?a9 ?a10 ?a11 ?a12 ?a13 ?a14 ?a15 ?a16 ?a17 ?a18 ?a19 ?a20 ?a21 ?a22 ?a23 ?a24 ?a25 ?aA ?r0 ?r1 ?r2 ?r3 ?r4 ?r5 ?r6 ?r7 ?r8 ?r9 ?r10 ?r11 ?r12 ?r13 ?r14 ?r15 ?r16 ?r17 ?r18 ?r19 ?r20 ?r21 ?r22 ?r23 ?r24 ?r25 ?q0 ?iC1 ?tI1 ?nf1 ?F1 ?iC2 ?tI2 ?nf2 ?F2 ?iC3 ?tI3 ?nf3 ?F3 ?q4 ?iC5 ?tI5 ?nf5 ?F5 ?q6 ?iC7 ?tI7 ?nf7 ?F7 ?iC8 ?tI8 ?nf8 ?F8 ?iC9 ?tI9 ?nf9 ?F9 ?iC10 ?tI10 ?nf10 ?F10 ?iC11 ?tI11 ?nf11 ?F11 ?iC12 ?tI12 ?nf12 ?F12 ?iC13 ?tI13 ?nf13 ?F13 ?iC14 ?tI14 ?nf14 ?F14 ?iC15 ?tI15 ?nf15 ?F15 ?iC16 ?tI16 ?nf16 ?F16 ?iC17 ?tI17 ?nf17 ?F17 ?iC18 ?tI18 ?nf18 ?F18 ?q19 ?q20 ?iC21 ?tI21 ?nf21 ?F21 ?q22 ?iC23 ?tI23 ?nf23 ?F23 ?iC24 ?tI24 ?nf24 ?F24 ?iC25 ?tI25 ?nf25 ?F25 ?hn ?ht ?acA ?atA ?qA ?kA ?gaA ?ggA ?caA ?sbA ?svA ?hdA ?moA ?gF ?GF ?gS ?GS ?gN ?GN ?gO ?GO ?gK ?GK ?gM ?GM ?gL ?GL ?zint ?zlen ?zrepr ?zisinstance ?zrange ?zenumerate ?zValueError ?nd
    (case a0 => k_is)
    (case a1 => k_is)
    (case a2 => k_is)
    (case a3 => k_is)
    (case a4 => k_is)
    (case a5 => k_is)
    (case a6 => k_is)
    (case a7 => k_is)
    (case a8 => k_is)
    (case a9 => k_is)
    (case a10 => k_is)
    (case a11 => k_is)
    (case a12 => k_is)
    (case a13 => k_is)
    (case a14 => k_is)
    (case a15 => k_is)
    (case a16 => k_is)
    (case a17 => k_is)
    (case a18 => k_is)
    (case a19 => k_is)
    (case a20 => k_is)
    (case a21 => k_is)
    (case a22 => k_is)
    (case a23 => k_is)
    (case a24 => k_is)
    (case a25 => k_is)
    (case aA => k_is)
    (case r0 => exact ⟨⟨_, _, _, _, _, _, _, _, _, _, _, _, _, _, by k_is⟩, by k_is, by k_is, by k_is, by k_is, by k_is, by k_is, by k_is⟩)
    (case r1 => exact ⟨⟨_, _, _, _, _, _, _, _, _, _, _, _, _, _, by k_is⟩, by k_is, by k_is, by k_is, by k_is, by k_is, by k_is, by k_is⟩)
    (case r2 => exact ⟨⟨_, _, _, _, _, _, _, _, _, _, _, _, _, _, by k_is⟩, by k_is, by k_is, by k_is, by k_is, by k_is, by k_is, by k_is⟩)
    (case r3 => exact ⟨⟨_, _, _, _, _, _, _, _, _, _, _, _, _, _, by k_is⟩, by k_is, by k_is, by k_is, by k_is, by k_is, by k_is, by k_is⟩)
    (case r4 => exact ⟨⟨_, _, _, _, _, _, _, _, _, _, _, _, _, _, by k_is⟩, by k_is, by k_is, by k_is, by k_is, by k_is, by k_is, by k_is⟩)
    (case r5 => exact ⟨⟨_, _, _, _, _, _, _, _, _, _, _, _, _, _, by k_is⟩, by k_is, by k_is, by k_is, by k_is, by k_is, by k_is, by k_is⟩)
    (case r6 => exact ⟨⟨_, _, _, _, _, _, _, _, _, _, _, _, _, _, by k_is⟩, by k_is, by k_is, by k_is, by k_is, by k_is, by k_is, by k_is⟩)
    (case r7 => exact ⟨⟨_, _, _, _, _, _, _, _, _, _, _, _, _, _, by k_is⟩, by k_is, by k_is, by k_is, by k_is, by k_is, by k_is, by k_is⟩)
    (case r8 => exact ⟨⟨_, _, _, _, _, _, _, _, _, _, _, _, _, _, by k_is⟩, by k_is, by k_is, by k_is, by k_is, by k_is, by k_is, by k_is⟩)
    (case r9 => exact ⟨⟨_, _, _, _, _, _, _, _, _, _, _, _, _, _, by k_is⟩, by k_is, by k_is, by k_is, by k_is, by k_is, by k_is, by k_is⟩)
    (case r10 => exact ⟨⟨_, _, _, _, _, _, _, _, _, _, _, _, _, _, by k_is⟩, by k_is, by k_is, by k_is, by k_is, by k_is, by k_is, by k_is⟩)
    (case r11 => exact ⟨⟨_, _, _, _, _, _, _, _, _, _, _, _, _, _, by k_is⟩, by k_is, by k_is, by k_is, by k_is, by k_is, by k_is, by k_is⟩)
    (case r12 => exact ⟨⟨_, _, _, _, _, _, _, _, _, _, _, _, _, _, by k_is⟩, by k_is, by k_is, by k_is, by k_is, by k_is, by k_is, by k_is⟩)
    (case r13 => exact ⟨⟨_, _, _, _, _, _, _, _, _, _, _, _, _, _, by k_is⟩, by k_is, by k_is, by k_is, by k_is, by k_is, by k_is, by k_is⟩)
    (case r14 => exact ⟨⟨_, _, _, _, _, _, _, _, _, _, _, _, _, _, by k_is⟩, by k_is, by k_is, by k_is, by k_is, by k_is, by k_is, by k_is⟩)
    (case r15 => exact ⟨⟨_, _, _, _, _, _, _, _, _, _, _, _, _, _, by k_is⟩, by k_is, by k_is, by k_is, by k_is, by k_is, by k_is, by k_is⟩)
    (case r16 => exact ⟨⟨_, _, _, _, _, _, _, _, _, _, _, _, _, _, by k_is⟩, by k_is, by k_is, by k_is, by k_is, by k_is, by k_is, by k_is⟩)
    (case r17 => exact ⟨⟨_, _, _, _, _, _, _, _, _, _, _, _, _, _, by k_is⟩, by k_is, by k_is, by k_is, by k_is, by k_is, by k_is, by k_is⟩)
    (case r18 => exact ⟨⟨_, _, _, _, _, _, _, _, _, _, _, _, _, _, by k_is⟩, by k_is, by k_is, by k_is, by k_is, by k_is, by k_is, by k_is⟩)
    (case r19 => exact ⟨⟨_, _, _, _, _, _, _, _, _, _, _, _, _, _, by k_is⟩, by k_is, by k_is, by k_is, by k_is, by k_is, by k_is, by k_is⟩)
    (case r20 => exact ⟨⟨_, _, _, _, _, _, _, _, _, _, _, _, _, _, by k_is⟩, by k_is, by k_is, by k_is, by k_is, by k_is, by k_is, by k_is⟩)
    (case r21 => exact ⟨⟨_, _, _, _, _, _, _, _, _, _, _, _, _, _, by k_is⟩, by k_is, by k_is, by k_is, by k_is, by k_is, by k_is, by k_is⟩)
    (case r22 => exact ⟨⟨_, _, _, _, _, _, _, _, _, _, _, _, _, _, by k_is⟩, by k_is, by k_is, by k_is, by k_is, by k_is, by k_is, by k_is⟩)
    (case r23 => exact ⟨⟨_, _, _, _, _, _, _, _, _, _, _, _, _, _, by k_is⟩, by k_is, by k_is, by k_is, by k_is, by k_is, by k_is, by k_is⟩)
    (case r24 => exact ⟨⟨_, _, _, _, _, _, _, _, _, _, _, _, _, _, by k_is⟩, by k_is, by k_is, by k_is, by k_is, by k_is, by k_is, by k_is⟩)
    (case r25 => exact ⟨⟨_, _, _, _, _, _, _, _, _, _, _, _, _, _, by k_is⟩, by k_is, by k_is, by k_is, by k_is, by k_is, by k_is, by k_is⟩)
    (case q0 => k_exc)
    (case iC1 => k_is)
    (case tI1 => k_is)
    (case nf1 => k_is)
    (case F1 => exact ⟨⟨_, _, _, _, _, _, _, _, _, rfl, by k_is, by k_is⟩, by k_is⟩)
    (case iC2 => k_is)
    (case tI2 => k_is)
    (case nf2 => k_is)
    (case F2 => exact ⟨⟨_, _, _, _, _, _, _, _, _, rfl, by k_is, by k_is⟩, by k_is⟩)
    (case iC3 => k_is)
    (case tI3 => k_is)
    (case nf3 => k_is)
    (case F3 => exact ⟨⟨_, _, _, _, _, _, _, _, _, rfl, by k_is, by k_is⟩, by k_is⟩)
    (case q4 => k_exc)
    (case iC5 => k_is)
    (case tI5 => k_is)
    (case nf5 => k_is)
    (case F5 => exact ⟨⟨_, _, _, _, _, _, _, _, _, rfl, by k_is, by k_is⟩, by k_is⟩)
    (case q6 => k_exc)
    (case iC7 => k_is)
    (case tI7 => k_is)
    (case nf7 => k_is)
    (case F7 => exact ⟨⟨_, _, _, _, _, _, _, _, _, rfl, by k_is, by k_is⟩, by k_is⟩)
    (case iC8 => k_is)
    (case tI8 => k_is)
    (case nf8 => k_is)
    (case F8 => exact ⟨⟨_, _, _, _, _, _, _, _, _, rfl, by k_is, by k_is⟩, by k_is⟩)
    (case iC9 => k_is)
    (case tI9 => k_is)
    (case nf9 => k_is)
    (case F9 => exact ⟨⟨_, _, _, _, _, _, _, _, _, rfl, by k_is, by k_is⟩, by k_is⟩)
    (case iC10 => k_is)
    (case tI10 => k_is)
    (case nf10 => k_is)
    (case F10 => exact ⟨⟨_, _, _, _, _, _, _, _, _, rfl, by k_is, by k_is⟩, by k_is⟩)
    (case iC11 => k_is)
    (case tI11 => k_is)
    (case nf11 => k_is)
    (case F11 => exact ⟨⟨_, _, _, _, _, _, _, _, _, rfl, by k_is, by k_is⟩, by k_is⟩)
    (case iC12 => k_is)
    (case tI12 => k_is)
    (case nf12 => k_is)
    (case F12 => exact ⟨⟨_, _, _, _, _, _, _, _, _, rfl, by k_is, by k_is⟩, by k_is⟩)
    (case iC13 => k_is)
    (case tI13 => k_is)
    (case nf13 => k_is)
    (case F13 => exact ⟨⟨_, _, _, _, _, _, _, _, _, rfl, by k_is, by k_is⟩, by k_is⟩)
    (case iC14 => k_is)
    (case tI14 => k_is)
    (case nf14 => k_is)
    (case F14 => exact ⟨⟨_, _, _, _, _, _, _, _, _, rfl, by k_is, by k_is⟩, by k_is⟩)
    (case iC15 => k_is)
    (case tI15 => k_is)
    (case nf15 => k_is)
    (case F15 => exact ⟨⟨_, _, _, _, _, _, _, _, _, rfl, by k_is, by k_is⟩, by k_is⟩)
    (case iC16 => k_is)
    (case tI16 => k_is)
    (case nf16 => k_is)
    (case F16 => exact ⟨⟨_, _, _, _, _, _, _, _, _, rfl, by k_is, by k_is⟩, by k_is⟩)
    (case iC17 => k_is)
    (case tI17 => k_is)
    (case nf17 => k_is)
    (case F17 => exact ⟨⟨_, _, _, _, _, _, _, _, _, rfl, by k_is, by k_is⟩, by k_is⟩)
    (case iC18 => k_is)
    (case tI18 => k_is)
    (case nf18 => k_is)
    (case F18 => exact ⟨⟨_, _, _, _, _, _, _, _, _, rfl, by k_is, by k_is⟩, by k_is⟩)
    (case q19 => k_exc)
    (case q20 => k_exc)
    (case iC21 => k_is)
    (case tI21 => k_is)
    (case nf21 => k_is)
    (case F21 => exact ⟨⟨_, _, _, _, _, _, _, _, _, rfl, by k_is, by k_is⟩, by k_is⟩)
    (case q22 => k_exc)
    (case iC23 => k_is)
    (case tI23 => k_is)
    (case nf23 => k_is)
    (case F23 => exact ⟨⟨_, _, _, _, _, _, _, _, _, rfl, by k_is, by k_is⟩, by k_is⟩)
    (case iC24 => k_is)
    (case tI24 => k_is)
    (case nf24 => k_is)
    (case F24 => exact ⟨⟨_, _, _, _, _, _, _, _, _, rfl, by k_is, by k_is⟩, by k_is⟩)
    (case iC25 => k_is)
    (case tI25 => k_is)
    (case nf25 => k_is)
    (case F25 => exact ⟨⟨_, _, _, _, _, _, _, _, _, rfl, by k_is, by k_is⟩, by k_is⟩)
    (case hn => k_is)
    (case ht => k_is)
    (case acA => k_is)
    (case atA => k_is)
    (case qA => k_exc)
    (case kA => k_is)
    (case gaA => k_is)
    (case ggA => k_is)
    (case caA => k_is)
    (case sbA => k_is)
    (case svA => k_is)
    (case hdA => k_is)
    (case moA => k_is)
    (case gF => k_is)
    (case GF => exact ⟨⟨_, _, _, _, _, _, _, _, _, rfl, by k_is, by k_is⟩, by k_is⟩)
    (case gS => k_is)
    (case GS => exact ⟨⟨_, _, _, _, _, _, _, _, _, rfl, by k_is, by k_is⟩, by k_is⟩)
    (case gN => k_is)
    (case GN => exact ⟨⟨_, _, _, _, _, _, _, _, _, rfl, by k_is, by k_is⟩, by k_is⟩)
    (case gO => k_is)
    (case GO => exact ⟨⟨_, _, _, _, _, _, _, _, _, rfl, by k_is, by k_is⟩, by k_is⟩)
    (case gK => k_is)
    (case GK => exact ⟨⟨_, _, _, _, _, _, _, _, _, rfl, by k_is, by k_is⟩, by k_is⟩)
    (case gM => k_is)
    (case GM => exact ⟨⟨_, _, _, _, _, _, _, _, _, rfl, by k_is, by k_is⟩, by k_is⟩)
    (case gL => k_is)
    (case GL => exact ⟨⟨_, _, _, _, _, _, _, _, _, rfl, by k_is, by k_is⟩, by k_is⟩)
    (case zint => k_is)
    (case zlen => k_is)
    (case zrepr => k_is)
    (case zisinstance => k_is)
    (case zrange => k_is)
    (case zenumerate => k_is)
    (case zValueError => k_is)
    (case nd => decide +kernel)
