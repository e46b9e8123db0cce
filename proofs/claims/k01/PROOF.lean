import PyProof.Rows.All
import Wide.All
import OpenK.AllK
import Wide.FinOn
import HandS.ForMost
import HandS.Exc
import HandS.ExcInit
import HandS.ExcIs
import HandS.IsInst
import HandS.Wide
import HandS.Defaults
import HandS.ExcValue
import HandS.ExcOwn
import HandS.Ends
import PyProof.EnumMake
import KE.GoesMore
import KE.GoesEnum
import HandS.OwnEq
import HandS.Property
import PyProof.InstNe
import HandS.DictComp
import HandS.More
import HandS.Walk
import HandS.Small
import HandS.WordsExc
import HandS.ExcField
import HandS.MakeKwOnly
import HandS.ListItems
import HandS.Finally
import PySem.Challenge.RW_askfurther_k01_bodies_told
set_option Elab.async false
set_option linter.all false
set_option maxRecDepth 100000
set_option maxHeartbeats 4000000
/-! Own error classes over ValueError, made as values: with keywords, without an own __init__; what isinstance says of them; their fields. -/
namespace PySem
namespace ExoX
open PySem.HandSPX
open Builtin Builtin.ObjectAttr
section
variable {prog : Program} {w : World} {A : Around} {R : Result → Shared → Prop} {Er : Value → Shared → Prop}
variable {hp : Heap} {gs : Array GenState} {dr : Drawn} {tk : Nat} {os : OsState} {kw : List (Str × Value)} {rs : List Value}
variable {nm qn : Str} {Cl Nm : Addr} {bss bm bB sb : List Value} {hd ab : Bool} {sl : List Str} {cl : Option Bool} {dd : Option Addr} {y0 y1 y2 y3 y5 : Option Value} {Bs nI iI : String}
abbrev cobj (nm qn : Str) (Cl Nm : Addr) (bss bm : List Value) (hd : Bool) (sl : List Str) (sb : List Value) (ab : Bool) (cl : Option Bool) (dd : Option Addr) (y0 y1 y2 y3 y5 : Option Value) (nI : String) : Obj :=
  excClassObj nm qn Cl Nm bss bm hd sl sb ab cl dd y0 y1 y2 y3 y5 nI
/-- the check ahead of __new__, with keywords -/
theorem checkNewKw (F : ExcBaseFacts Bs nI iI bB) (hc : ∀ T : String, bm.contains (.type T) = bB.contains (.type T)) {Q : Unit → Shared → Prop}
    (ho : hp.get? Cl = some (cobj nm qn Cl Nm bss bm hd sl sb ab cl dd y0 y1 y2 y3 y5 nI)) (q : Q () ⟨hp, gs, dr, tk, os⟩) :
    wpAny (model prog w) A (checkBuiltinCall nI ⟨.ref Cl :: rs, kw⟩) Q Er ⟨hp, gs, dr, tk, os⟩ := by
  have c1 : (Value.ref Cl :: bm).contains (.type Bs) = true := by
    rw [List.contains_cons, hc, F.hasB, Bool.or_true]
  have c2 := F.noStar
  simp only [checkBuiltinCall, F.newKind, F.newSplit, F.newRow]
  repeat (first
    | refine wpAny_loadPart_at ho ?_
    | (refine wpAny_isSubtype_exc ho ?_; rw [c1])
    | refine wpAny_staticBase_exc ho ?_
    | refine wpAny_madeBy_exc ho ?_
    | simp only [bne_self_eq_false, Bool.false_eq_true, if_false]
    | wp_step)
  exact q
end
section
variable {prog : Program} {w : World} {A : Around} {R : Result → Shared → Prop} {Er : Value → Shared → Prop}
variable {hp : Heap} {gs : Array GenState} {dr : Drawn} {tk : Nat} {os : OsState} {kw : List (Str × Value)} {rs : List Value}
variable {nm qn : Str} {Cl Nm fI : Addr} {bss bm bB sb : List Value} {hd ab : Bool} {sl : List Str} {cl : Option Bool} {dd : Option Addr} {y0 y1 y2 y3 y5 : Option Value} {Bs nI iI : String}
/-- the two objects that __new__ lays -/
abbrev laid (hp : Heap) (rs : List Value) (Cl : Addr) : Heap := (hp.push (PySem.W.kdv_tup rs)).push (excO Cl hp.objs.size)
theorem newKw (F : ExcBaseFacts Bs nI iI bB) (hc : ∀ T : String, bm.contains (.type T) = bB.contains (.type T))
    (ho : hp.get? Cl = some (cobj nm qn Cl Nm bss bm hd sl sb ab cl dd y0 y1 y2 y3 y5 nI)) (hl : rs.length ≤ sizeLine)
    (q : R (.ok (.ret (.ref (hp.objs.size + 1)))) ⟨laid hp rs Cl, gs, dr, tk, os⟩) :
    codeAny (model prog w) A (.builtin nI ⟨.ref Cl :: rs, kw⟩) R ⟨hp, gs, dr, tk, os⟩ := by
  have c0 := F.ends
  have c1 : (Value.ref Cl :: bm).contains (.type Bs) = true := by
    rw [List.contains_cons, hc, F.hasB, Bool.or_true]
  have c2 : (Value.ref Cl :: bm).contains (.type "AttributeError") = false := by
    rw [List.contains_cons, hc, F.noAttr]
    rfl
  have c3 : (Value.ref Cl :: bm).contains (.type "NameError") = false := by
    rw [List.contains_cons, hc, F.noName]
    rfl
  refine codeAny_builtinAt F.entry ?_
  unfold Builtin.«BaseException.__new__»
  refine wpAt_bind ?_
  show wpAt _ _ _ (stack >>= _) _ _ _
  refine wpAt_bind (wpAt_stack fun p below => wpAt_of_wpAny ?_)
  wp_walk
  refine wpAt_of_wpAny ?_
  rw [F.owner]
  repeat (first
    | with_reducible refine wpAny_madeHere_exc F.canon ho ?_
    | with_reducible refine wpAny_loadPart_at ho ?_
    | (with_reducible refine wpAny_isSubtype_exc ho ?_; first | rw [c1] | rw [c2] | rw [c3])
    | wp_step)
  show R _ _
  rw [Heap.size_push]
  exact q
theorem typeCallKw (F : ExcBaseFacts Bs nI iI bB) (hc : ∀ T : String, bm.contains (.type T) = bB.contains (.type T)) {Q : Fin → Shared → Prop}
    (ho : hp.get? Cl = some (cobj nm qn Cl Nm bss bm hd sl sb ab cl dd y0 y1 y2 y3 y5 nI))
    (li : PySem.W.Looks (model prog w) hp (typeLookup (.ref Cl) "__init__") (some (.ref fI)))
    (lb : ∀ self, PySem.W.Looks (model prog w) hp (bindSpecial (.ref fI) self) (.ref fI, [self])) (hl : rs.length ≤ sizeLine)
    (q : codeAny (model prog w) A (.call (.ref fI) ⟨.ref (hp.objs.size + 1) :: rs, kw⟩)
      (fun r s' => match r with | .ok (.ret v) => v = .none ∧ Q (.done (.ret (.ref (hp.objs.size + 1)))) s' | .ok _ => False | .error e => Er e s')
      ⟨laid hp rs Cl, gs, dr, tk, os⟩) :
    wpAny (model prog w) A (Builtin.«type.__call__» ⟨.ref Cl :: rs, kw⟩) Q Er ⟨hp, gs, dr, tk, os⟩ := by
  repeat (first
    | with_reducible refine wpAny_loadPart_at ho ?_
    | with_reducible refine wpAny_madeBy_exc ho ?_
    | wp_step)
  refine codeAny_call_builtin_code (Code.quiet_builtin _ F.quiet) (checkNewKw F hc ho ?_)
  refine newKw F hc ho hl ?_
  show wpAny _ _ _ _ _ _
  have kp : ∀ b o, hp.get? b = some o → (laid hp rs Cl).get? b = some o := fun b o e =>
    Heap.get?_push_of_some _ (Heap.get?_push_of_some _ e)
  have ho1 := kp _ _ ho
  have hx : (laid hp rs Cl).get? (hp.objs.size + 1) = some (excO Cl hp.objs.size) := by heap_get
  have cc : (Value.ref Cl :: bm).contains (.ref Cl) = true := by simp
  have li1 := li.keeps kp
  have lb1 := (lb (.ref (hp.objs.size + 1))).keeps kp
  unfold isInstance
  repeat (first
    | with_reducible refine wpAny_loadPart_at hx ?_
    | (with_reducible refine wpAny_isSubtype_exc ho1 ?_; rw [cc])
    | wp_step)
  show wpAny _ _ (typeLookup (.ref Cl) _) _ _ _
  refine li1.at ?_
  refine wpAny_holding (wpAny_bind (lb1.at ?_))
  refine wpAny_bind (wpAny_call (codeAny_mono q fun r s' z => ?_))
  rcases r with e | (v | _ | _ | _) <;> first | exact z | exact z.elim | skip
  obtain ⟨rfl, z⟩ := z
  first
    | exact wpAny_pure (wpAny_pure z)
    | (wp_walk; exact z)
/-- C(.., k = v ..): the object is laid, then C's own __init__ runs -/
theorem callKw (F : ExcBaseFacts Bs nI iI bB) (hc : ∀ T : String, bm.contains (.type T) = bB.contains (.type T))
    (ho : hp.get? Cl = some (cobj nm qn Cl Nm bss bm hd sl sb ab cl dd y0 y1 y2 y3 y5 nI))
    (li : PySem.W.Looks (model prog w) hp (typeLookup (.ref Cl) "__init__") (some (.ref fI)))
    (lb : ∀ self, PySem.W.Looks (model prog w) hp (bindSpecial (.ref fI) self) (.ref fI, [self])) (hl : rs.length ≤ sizeLine)
    (q : codeAny (model prog w) (A.under (.builtin "type.__call__" ⟨.ref Cl :: rs, kw⟩)) (.call (.ref fI) ⟨.ref (hp.objs.size + 1) :: rs, kw⟩)
      (PySem.W.InitBack (hp.objs.size + 1) R) ⟨laid hp rs Cl, gs, dr, tk, os⟩) :
    codeAny (model prog w) A (.call (.ref Cl) ⟨rs, kw⟩) R ⟨hp, gs, dr, tk, os⟩ := by
  have f1 := tc_lookup
  have f2 := tc_bind (.ref Cl)
  have hty : (⟨hp, gs, dr, tk, os⟩ : Shared).TypeIs (.ref Cl) "type" := ⟨_, ho, rfl⟩
  refine codeAny_of_tree ?_
  show wpAny _ _ (callAny (.ref Cl) _) _ _ _
  repeat (any_goals (first
    | assumption
    | with_reducible refine wpAny_loadPart_at ho ?_
    | wp_step))
  refine ⟨rfl, ?_⟩
  refine codeAny_call_builtin_at (Code.quiet_builtin _ (by decide +kernel)) entry_typeCall (wpAny_check_type_call_sub ho (typeCallKw F hc ho li lb hl ?_))
  refine codeAny_mono q fun r s' z => ?_
  rcases r with e | (v | _ | _ | _) <;> exact z
end
end ExoX
end PySem

set_option maxRecDepth 100000
set_option maxHeartbeats 4000000
namespace L2
open PySem PySem.Spec PyProof.Rows
section
variable {X : Cx} {CX : CXT} {k n : Nat} {fI C : Addr} {fd : FuncData} {ps ks : List Str} {sp : Sp} {E : XK} {g : List Value → List Value → List Value} {gV : List V → List V → List V}
variable {pins : List (Addr × Obj)} {σ : St} {H : Hp} {s : Shared} {x : Str} {p pos : Pos} {e : Expr} {es : List Expr} {kws : List Keyword} {t tk : TA}
/-- the object is laid, C's own __init__ keeps sp -/
theorem run_exo {Q : VK} {us ws : List Value} {vs zs : List V} (T : OexC X.K C) (iC : PySem.W.findIn X.K (.ref C) "__init__" = some (some (.ref fI)))
    (tI : PySem.W.typeIn X.K (.ref fI) = some (.type "function")) (F : FnOk X.prog X.w X.K X.mg X.base CX k fI fd ps sp) (hr : Room (k + 1) X.A)
    (hb : KBn X.K fd ps (n + 1) ks g gV) (hx : Passes CX X E) (I : Inv X pins σ H s) (r : Vals vs us) (rz : Vals zs ws) (l1 : vs.length = n) (l2 : zs.length = ks.length) (l3 : n ≤ 1000)
    (h : ∀ a, H a = none → sp (gV (.ref a :: vs) zs) (upd H a (exo a C none)) (fun v H2 => v = .non ∧ Q (.ref a) H2) E) :
    wpAny (model X.prog X.w) X.A (call (.ref C) us (ks.zip ws)) (EP X pins σ Q) X.xe s := by
  obtain ⟨nm, q, N, bs, bm, sn, sub, ab, col, dd, k0, k1, k2, k3, k5, hC, hbm⟩ := T.cls
  obtain ⟨hp, gs, dr, t0, os⟩ := s
  have up : hp.objs.size ≤ hp.objs.size + 1 := Nat.le_succ _
  have hq := h (hp.objs.size + 1) (I.hok.fresh up)
  have kk : ∀ b o, hp.get? b = some o → (PySem.ExoX.laid hp us C).get? b = some o := fun b o z =>
    Heap.get?_push_of_some _ (Heap.get?_push_of_some _ z)
  have hg : (PySem.ExoX.laid hp us C).get? (hp.objs.size + 1) = some (PySem.HandSPX.excO C hp.objs.size) := by heap_get
  have I2 : Inv X pins σ (upd H (hp.objs.size + 1) (exo (hp.objs.size + 1) C none)) ⟨PySem.ExoX.laid hp us C, gs, dr, t0, os⟩ :=
    I.laid (t' := t0) (a := hp.objs.size + 1) (o := exo (hp.objs.size + 1) C none) (h' := PySem.ExoX.laid hp us C) kk up (exo_ok hg)
  have r1 : Vals (V.ref (hp.objs.size + 1) :: vs) (Value.ref (hp.objs.size + 1) :: us) := .cons rfl r
  have r2 := hb.rel r1 rz
  have e1 : (Value.ref (hp.objs.size + 1) :: us).length = n + 1 := r1.length.symm.trans (congrArg Nat.succ l1)
  have e2 : ws.length = ks.length := rz.length.symm.trans l2
  have hus : us.length ≤ sizeLine := by
    rw [← r.length, l1, sizeLine_eq]
    omega
  refine wpAny_call (PySem.ExoX.callKw PySem.F.excBase_ValueError (fun Y => PySem.HandSPX.refsVE_contains Y bm hbm) (I.kIn _ _ hC) (PySem.W.looks_findIn I.kIn iC) (fun self => PySem.W.bind_fn I.kIn self tI) hus ?_)
  refine codeAny_mono (F.run _ X.stack _ _ ⟨Value.ref (hp.objs.size + 1) :: us, ks.zip ws⟩ (g (Value.ref (hp.objs.size + 1) :: us) ws) _ _ E (hr.make C us (ks.zip ws)) (I2.env0.make C us (ks.zip ws)) (hb.to _ (Value.ref (hp.objs.size + 1) :: us) ws I2.kIn e1 e2) r2 hq) fun r s' hq' => ?_
  cases r with
  | error er => exact hx pins σ _ _ er s' I2 hq'
  | ok fl =>
    cases fl with
    | ret u =>
      obtain ⟨v, H', I3, rv, ev, q3⟩ := I2.after hq'
      subst ev
      exact ⟨rv, ⟨V.ref (hp.objs.size + 1), H', I3, rfl, q3⟩⟩
    | next => exact False.elim hq'
    | brk => exact False.elim hq'
    | cont => exact False.elim hq'
/-- C(e, .., k = v, ..) as a value -/
def tExoN (C : Addr) (n m : Nat) (sp : Sp) (gV : List V → List V → List V) (E : XK) (t tk : TA) : TE := fun σ H Q => t σ H fun vs H1 => tk σ H1 fun zs H2 => vs.length = n ∧ zs.length = m ∧
  ∀ a, H2 a = none → sp (gV (.ref a :: vs) zs) (upd H2 a (exo a C none)) (fun v H3 => v = .non ∧ Q (.ref a) H3) E
theorem pe_exo1 (T : OexC X.K C) (iC : PySem.W.findIn X.K (.ref C) "__init__" = some (some (.ref fI))) (tI : PySem.W.typeIn X.K (.ref fI) = some (.type "function"))
    (F : FnOk X.prog X.w X.K X.mg X.base CX k fI fd ps sp) (hr : Room (k + 1) X.A) (hg : Gl X x) (hm : X.mg x = some (.ref C)) (hb : KBn X.K fd ps (n + 1) [] g gV) (hx : Passes CX X E) (l3 : n ≤ 1000)
    (ha : PA X (e :: es) t) (hdb : (x == ("__debug__" : Str)) = false := by decide) (he : starEach (e :: es) X.env = (false, eval e X.env) :: starEach es X.env := by rfl)
    (hpl : (backTo pos (starEach es X.env)).any (·.1) = false := by rfl) :
    PE X (.Call (.Name x p) (e :: es) [] pos) (tExoN C n 0 sp gV E t tNil) := by
  refine ⟨fun pins s σ H Q I h => ?_⟩
  refine wpAny_Call_Name_kw (ld_glob I hg hm ?_ hdb)
  refine PySem.W.callWith_K (h₀ := X.base) I.ok.mod.kin T.kC (thn (ha.run pos pins s σ H _ I h) fun us s1 ⟨vs, H1, I1, r, l1, l2, q⟩ => ⟨I1.kIn, ?_⟩) he hpl
  exact run_exo (ks := []) (ws := []) (zs := []) T iC tI F hr hb hx I1 r .nil l1 rfl l3 q
/-- keywords alone -/
theorem pe_exoK (T : OexC X.K C) (iC : PySem.W.findIn X.K (.ref C) "__init__" = some (some (.ref fI))) (tI : PySem.W.typeIn X.K (.ref fI) = some (.type "function"))
    (F : FnOk X.prog X.w X.K X.mg X.base CX k fI fd ps sp) (hr : Room (k + 1) X.A) (hg : Gl X x) (hm : X.mg x = some (.ref C)) (hb : KBn X.K fd ps (0 + 1) ks g gV) (hx : Passes CX X E)
    (hkw : PK X kws tk) (hall : (backToKw pos (keywordEach kws X.env)).all (·.1.isSome) = true := by rfl) (hks : (backToKw pos (keywordEach kws X.env)).filterMap (·.1) = ks := by rfl)
    (hdb : (x == ("__debug__" : Str)) = false := by decide)
    (hpl : ((backTo pos (starEach [] X.env)).any (·.1) || (backToKw pos (keywordEach kws X.env)).any (·.1.isNone)) = false := by rfl) :
    PE X (.Call (.Name x p) [] kws pos) (tExoN C 0 ks.length sp gV E tNil tk) := by
  refine ⟨fun pins s σ H Q I h => ?_⟩
  refine wpAny_Call_Name_kw (ld_glob I hg hm ?_ hdb)
  refine PySem.W.callWith_KW0 (h₀ := X.base) I.ok.mod.kin T.kC hall (thn (hkw.run pos pins s σ H _ I h) fun ws s2 ⟨zs, H2, I2, rz, l1, l2, q2⟩ => ⟨I2.kIn, ?_⟩) hpl
  rw [hks]
  exact run_exo (us := []) (vs := []) T iC tI F hr hb hx I2 .nil rz l1 l2 (Nat.zero_le _) q2
/-- C(), a class without an own __init__ -/
def tExo0 (C : Addr) : TE := fun _ H Q => ∀ a, H a = none → Q (.ref a) (upd H a (exo a C none))
theorem pe_exo0 (q : PySem.W.excIn X.K C [.type "ValueError", .type "Exception", .type "BaseException", .type "object"] "ValueError.__new__" = true) (kC : PySem.W.keepIn X.K (.ref C) = true) (hg : Gl X x) (hm : X.mg x = some (.ref C))
    (hdb : (x == ("__debug__" : Str)) = false := by decide) : PE X (.Call (.Name x p) [] [] pos) (tExo0 C) := by
  refine ⟨fun pins s σ H Q I h => ?_⟩
  refine wpAny_Call_Name_kw (ld_glob I hg hm ?_ hdb)
  refine PySem.W.callWith_K0 I.kIn kC ?_
  show wpAny _ _ (call (.ref C) []) _ _ _
  obtain ⟨bm, N, nm, qn, bs, hdct, sn, sub, ab, col, dd, k0, k1, k2, k3, k5, mN, hC, hN, hni, T⟩ := exc_obj I.kIn q
  refine wpAny_call_exc_subT PySem.F.excBase_ValueError T hC hN hni (fun h' a hm => ?_) (by show 0 ≤ sizeLine; rw [sizeLine_eq]; omega)
  have hn : H a = none := I.hok.gone hm.new
  obtain ⟨t, ht, _, _⟩ := hm.there
  exact ⟨.ref a, upd H a (exo a C none), I.laidN hm.keeps hm.new hn (exo_ok ht), rfl, h a hn⟩
end
end L2

set_option maxRecDepth 100000
set_option maxHeartbeats 4000000
namespace PySem.ExoX
open PySem PySem.W PySem.Calls PyProof.Rows PySem.Spec
section
variable {prog : Program} {w : World} {A : Around} {Er : Value → Shared → Prop} {s : Shared} {K : Frag} {x D : Addr} {ob : Obj} {own : Option Obj}
/-- a class's own attribute that takes what is read off an instance, whatever the instance's dict holds -/
theorem find_data {nm : Str} {a g : Value} (c0 : (clsIn K D).isSome = true) (c1 : findIn K (.ref D) nm = some (some a)) (c2 : specialIn K a "__get__" = some (some g)) (c3 : takesIn K a = some true) :
    findObj K D own nm = some (.bind g a) := by
  obtain ⟨cd, c0⟩ := Option.isSome_iff_exists.mp c0
  unfold findObj
  rw [c0, Option.bind_some, c1, Option.bind_some]
  simp [c2, c3]
/-- e.__class__ of such an error, with or without a dict -/
theorem class_of {Q : Option Value → Shared → Prop} (T : L2.ExcC K D) (X : K.In s.heap) (I : InstAt s.heap x ob D own) (q : Q (some (.ref D)) { s with toks := s.toks + 1 }) :
    wpAny (model prog w) A (getAttr? (.ref x) "__class__") Q Er s := by
  have fd : findObj K D own "__class__" = some (.bind (.builtin "getset_descriptor.__get__") (.builtin "object.__class__")) :=
    find_data (by
      obtain ⟨cd, z, _⟩ := any_some T.hd
      rw [z]
      rfl) T.ha T.hn T.ht
  obtain ⟨hh, gg, dd, tt, oo⟩ := s
  have l0 := I.type (M := model prog w)
  have l1 := looks_findIn (M := model prog w) X T.hg
  have l2 := looks_findIn (M := model prog w) X T.hk
  have l3 := looks_find (M := model prog w) X I fd
  have l4 : Looks (model prog w) hh (isInstance (.ref x) (.type "BaseException")) true := l0.andThen (looks_subIn X T.hs)
  have n0 : (false && onTheHeap (Value.builtin "BaseException.__getattribute__")) = false := rfl
  have n2 : (Value.builtin "BaseException.__getattribute__" == Value.builtin "object.__getattribute__") = false := by
    decide +kernel
  have n1 : (onTheHeap (Value.ref D) && Value.builtin "BaseException.__getattribute__" == Value.builtin "object.__getattribute__") = false := by
    rw [n2]
    rfl
  unfold getAttr? getAttrBy? getAttrBy
  refine wpAny_bind (wpAny_mkText (wpAny_bind (wpAny_attempt (wpAny_holding (wpAny_bind (l0.at (wpAny_bind (l1.at ?_))))))))
  show wpAny _ _ (if (onTheHeap (Value.ref D) && Value.builtin "BaseException.__getattribute__" == Value.builtin "object.__getattribute__") = true then _ else _) _ _ _
  rw [n1, if_neg Bool.false_ne_true]
  unfold getAttrByItsOwn hookBefore
  refine wpAny_bind ?_
  rw [if_pos (show onTheHeap (Value.ref D) = true from rfl)]
  refine l2.at ?_
  refine wpAny_bind (wpAny_attempt (wpAny_holding ?_))
  unfold callGetattribute
  rw [n0, if_neg Bool.false_ne_true]
  unfold boundAndCalled
  rw [PySem.F.excAttr_ValueError.ga.bind (.ref x)]
  refine wpAny_bind (wpAny_pure ?_)
  show wpAny _ _ (call (.builtin "BaseException.__getattribute__") [.ref x, .str "__class__" tt]) _ _ _
  refine wpAny_call (codeAny_call_builtin PySem.F.excAttr_ValueError.ga.plain PySem.F.entry_bexc_ga ?_)
  refine @check_slot (model prog w) _ _ ⟨hh, gg, dd, tt + 1, oo⟩ "BaseException.__getattribute__" "BaseException" "__getattribute__" (.ref x) [.str "__class__" tt] [] _
    (by decide +kernel) (by decide +kernel) l4 (PySem.F.args_bexc_ga (.ref x) (.str "__class__" tt)) ?_
  unfold Builtin.«object.__getattribute__»
  refine wpAny_bind (wpAny_of_eq (a := ((Value.ref x : Value), [Value.str "__class__" tt])) (by first | rfl | (simp only [slotArgs]; rfl)) ?_)
  refine wpAny_bind (wpAny_pure (wpAny_bind (l0.at (wpAny_bind (l3.at ?_)))))
  show wpAny _ _ (holding [Value.builtin "object.__class__"] (call (.builtin "getset_descriptor.__get__") [.builtin "object.__class__", .ref x, .ref D]) >>= ret) _ _ _
  refine wpAny_bind (wpAny_holding (wpAny_call (class_get (s := ⟨hh, gg, dd, tt + 1, oo⟩) (ox := ob) (od := own) X I T.hm ?_)))
  refine wpAny_pure ?_
  show wpAny _ _ (handedOut (.ref D)) _ _ _
  rw [handedOut_of (v := .ref D) rfl]
  first
    | exact wpAny_pure (wpAny_pure q)
    | exact wpAny_pure q
    | exact wpAny_pure (wpAny_bind (wpAny_pure (wpAny_pure q)))
theorem kitExo (T : L2.ExcC K D) : KitX K (.ref x) (.ref D) (fun h => ∃ ob own, InstAt h x ob D own) where
  ty := fun _ _ _ ⟨_, _, I⟩ => I.type
  it := fun _ _ X _ => by
    obtain ⟨cd, z, _⟩ := any_some T.hd
    unfold clsIn at z
    split at z
    · rename_i c1 c2 c3 c4 lk
      intro A' Q' E' s' kp q
      unfold isType loadHead
      exact wpAny_bind (wpAny_loadPart (kp _ _ (X _ _ lk)) (wpAny_pure q))
    · cases z
  ne := fun h tp dd its n sl X lk2 => by
    obtain ⟨cd, z, _⟩ := any_some T.hd
    refine Bool.eq_false_iff.mpr fun q => ?_
    have e : D = tp := Value.ref.inj (beq_iff_eq.mp q)
    subst e
    unfold clsIn at z
    split at z
    · rename_i c1 c2 c3 c4 lk
      have y := (X _ _ lk).symm.trans lk2
      cases y
    · cases z
  ca := fun X ⟨_, _, I⟩ q => class_of T X I q
end
end PySem.ExoX
namespace L2
open PySem PySem.Spec PyProof.Rows
/-- an error of the class at C stands at a, with no dict or with its own -/
def ErrAt (H : Hp) (a C : Addr) : Prop := H a = some (exo a C none) ∨ ∃ dx fs, H a = some (exo a C (some dx)) ∧ H dx = some (exd dx fs)
theorem inst_exo {X : Cx} {pins : List (Addr × Obj)} {σ : St} {H : Hp} {s : Shared} {a C : Addr} (I : Inv X pins σ H s) (e : ErrAt H a C) : ∃ ob own, PySem.W.InstAt s.heap a ob C own := by
  rcases e with e | ⟨dx, fs, e, ed⟩
  · obtain ⟨t, ho⟩ := exo_at I.hok e
    exact ⟨_, none, ho, rfl, rfl, trivial⟩
  · obtain ⟨t, ho⟩ := exo_at I.hok e
    obtain ⟨mA, hns, _⟩ := exd_at I.hok ed
    obtain ⟨o, _, _, ho2, _⟩ := hns
    exact ⟨_, some o, ho, rfl, rfl, ho2⟩
def rIsExo (K : PySem.W.Frag) : List V → Hp → VK → Prop := fun xs H Q => ∃ (a C : Addr) (c : V) (u : Value) (b : Bool), xs = [.ref a, c] ∧ ErrAt H a C ∧ ClsV c u ∧ ExcC K C ∧ PySem.W.kitOne K (.ref C) u = some b ∧ Q (.bl b) H
theorem call_isExo {X : Cx} : CallR X (.builtin "isinstance") (rIsExo X.K) := by
  intro pins s σ H xs us Q I r h
  obtain ⟨a, C, c, u, b, rfl, ea, k, T, e, q⟩ := h
  obtain ⟨u1, u2, rfl, r1, r2⟩ := vals2 r
  cases (show u1 = Value.ref a from r1)
  have e2 := k.eq r2
  subst e2
  exact PySem.W.kia_one (PySem.ExoX.kitExo T) I.kIn (inst_exo I ea) e (fun z => nomatch z) fun tk => ⟨.bl b, H, I.tok tk, rfl, q⟩
/-- e.f of such an error -/
def tExoF (K : PySem.W.Frag) (te : TE) (f : Str) : TE := fun σ H Q => te σ H fun x H1 => ∃ (a C dx : Addr) (fs : List (Str × V)) (v : V), x = .ref a ∧ H1 a = some (exo a C (some dx)) ∧ H1 dx = some (exd dx fs) ∧
  ExcC K C ∧ PySem.W.findIn K (.ref C) f = some none ∧ fs.lookup f = some v ∧ Q v H1
theorem pe_exoF {X : Cx} {e : Expr} {te : TE} {f : Str} {pos : Pos} (he : PE X e te) (hb : attributeBase e f X.env (eval e X.env) = eval e X.env := by rfl) : PE X (.Attribute e f pos) (tExoF X.K te f) := by
  refine ⟨fun pins s σ H Q I h => ?_⟩
  refine attr_of hb (thn (he.run pins s σ H _ I h) fun u s1 ⟨x, H1, I1, rx, a, C, dx, fs, v, ex, ea, ed, T, hno, lf, q⟩ => ?_)
  subst ex
  obtain rfl : u = Value.ref a := rx
  obtain ⟨t, ho⟩ := exo_at I1.hok ea
  obtain ⟨mA, hns, hr⟩ := exd_at I1.hok ed
  obtain ⟨od, ho2, hl⟩ := lookIn_ns hns
  obtain ⟨u, hu, ru⟩ := RelO.some_of (v := v) (o := mA f) (by rw [← lf]; exact hr f)
  have J : PySem.W.InstAt s1.heap a _ C (some od) := ⟨ho, rfl, rfl, ho2⟩
  exact HandSPX.exc_get I1.kIn J T.hg T.hk T.hs (PySem.W.findObj_own T.hd hno rfl (by rw [hl, hu])) (handed_of ru) ⟨v, H1, I1.tok _, ru, q⟩
end L2

set_option maxRecDepth 100000
set_option maxHeartbeats 4000000
/-! Rules whose reading hands on a heap by what is true of it: all that was tracked stands, the new thing is there. -/
namespace L2
open PySem PySem.Spec PyProof.Rows
theorem sameNew {H : Hp} {p : Addr} (n : H p = none) (o : HO) : Same H (upd H p o) := fun b u e => by
  rw [upd_ne (ne_of_none e n)]
  exact e
section
variable {X : Cx} {es : List Expr} {t : TA} {pos : Pos}
/-- a new thing at p -/
def New (H : Hp) (o : HO) (Q : VK) : Prop := ∀ (p : Addr) (H' : Hp), H p = none → Same H H' → H' p = some o → Q (.ref p) H'
theorem New.at {H : Hp} {o : HO} {Q : VK} (h : New H o Q) {p : Addr} (n : H p = none) : Q (.ref p) (upd H p o) := h p _ n (sameNew n o) upd_same
def gLst (t : TA) : TE := fun σ H Q => t σ H fun xs H1 => xs.length ≤ sizeLine ∧ New H1 (.lst xs) Q
def gTup' (t : TA) : TE := fun σ H Q => t σ H fun xs H1 => xs.length ≤ sizeLine ∧ New H1 (.tup xs) Q
theorem PA.imp {t' : TA} (h : PA X es t) (m : ∀ σ H Q, t' σ H Q → t σ H Q) : PA X es t' := ⟨fun pos pins s σ H Q I q => h.run pos pins s σ H Q I (m σ H Q q)⟩
/-- what is asked behind a list of arguments may be read in a weaker way -/
theorem pe_lstG (h : PA X es t) : PE X (.List es pos) (gLst t) := by
  have z : PE X (.List es pos) (tLst fun σ H R => ∃ R', t σ H R' ∧ ∀ xs H1, R' xs H1 → R xs H1) := by
    refine pe_lst ⟨fun pos pins s σ H R I ⟨R', h1, h2⟩ => ?_⟩
    refine thn (h.run pos pins s σ H R' I h1) fun us s1 ⟨vs, H1, I1, r, q⟩ => ⟨vs, H1, I1, r, h2 _ _ q⟩
  exact ⟨fun pins s σ H Q I q => z.run pins s σ H Q I ⟨_, q, fun xs H1 ⟨l, k⟩ => ⟨l, fun p n => k.at n⟩⟩⟩
theorem pe_tupG {x1} (h : PA X es t) : PE X (.Tuple es x1 pos) (gTup' t) := by
  have z : PE X (.Tuple es x1 pos) (tTup fun σ H R => ∃ R', t σ H R' ∧ ∀ xs H1, R' xs H1 → R xs H1) := by
    refine pe_tup ⟨fun pos pins s σ H R I ⟨R', h1, h2⟩ => ?_⟩
    refine thn (h.run pos pins s σ H R' I h1) fun us s1 ⟨vs, H1, I1, r, q⟩ => ⟨vs, H1, I1, r, h2 _ _ q⟩
  exact ⟨fun pins s σ H Q I q => z.run pins s σ H Q I ⟨_, q, fun xs H1 ⟨l, k⟩ => ⟨l, fun p n => k.at n⟩⟩⟩
def rCatG : R2 := fun x y H Q => ∃ l b xs zs, x = .ref l ∧ y = .ref b ∧ H l = some (.lst xs) ∧ H b = some (.lst zs) ∧ xs.length + zs.length ≤ sizeLine ∧ New H (.lst (xs ++ zs)) Q
theorem op_catG : OpR X (binaryOp .Add) rCatG := fun pins s σ H x y v u Q I rx ry ⟨l, b, xs, zs, e1, e2, e3, e4, e5, k⟩ => op_cat pins s σ H x y v u Q I rx ry ⟨l, b, xs, zs, e1, e2, e3, e4, e5, fun p n => k.at n⟩
def rSlLG (K : PySem.W.Frag) : V → Option Int → Option Int → Hp → VK → Prop := fun x lo hi H Q => ∃ a xs, x = .ref a ∧ SqL K H a xs ∧ New H (.lst (cutV xs lo hi)) Q
theorem sl_listG : SlR X (rSlLG X.K) := fun pins s σ H x v vl vu lo hi sl Q I rx hs pl pu ⟨a, xs, e, hx, k⟩ => sl_list pins s σ H x v vl vu lo hi sl Q I rx hs pl pu ⟨a, xs, e, hx, fun p n => k.at n⟩
end
theorem pe_imp {X : Cx} {e : Expr} {t t' : TE} (h : PE X e t) (m : ∀ σ H Q, t' σ H Q → t σ H Q) : PE X e t' := ⟨fun pins s σ H Q I q => h.run pins s σ H Q I (m σ H Q q)⟩
theorem Same.err {H H' : Hp} {a C : Addr} (s : Same H H') (e : ErrAt H a C) : ErrAt H' a C := by
  rcases e with e | ⟨dx, fs, e, ed⟩
  · exact .inl (s _ _ e)
  · exact .inr ⟨dx, fs, s _ _ e, s _ _ ed⟩
/-- the field is kept: __init__(self, f) -/
def spInit (C : Addr) (fld : Str) : Sp := fun vs H Q _ => ∃ (a : Addr) (v : V), vs = [.ref a, v] ∧ H a = some (exo a C none) ∧
  ∀ (dx : Addr) (H' : Hp), (∀ b o, b ≠ a → H b = some o → H' b = some o) → H' a = some (exo a C (some dx)) → H' dx = some (exd dx [(fld, v)]) → Q .non H'
/-- a new error with a field -/
def NewE (C : Addr) (fld : Str) (v : V) (H : Hp) (Q : VK) : Prop := ∀ (a dx : Addr) (H' : Hp), H a = none → Same H H' → H' a = some (exo a C (some dx)) → H' dx = some (exd dx [(fld, v)]) → Q (.ref a) H'
section
variable {X : Cx} {CX : CXT} {k : Nat} {fI C : Addr} {fd : FuncData} {fld : Str} {E : XK} {x : Str} {p pos : Pos} {e : Expr} {te : TE} {nm : Option Str} {kpos : Pos}
theorem bind1 {K : PySem.W.Frag} {n : Str} (h : ∀ (a b : Value), bindArgs fd ⟨[a], [(n, b)]⟩ = pure ([(("self" : Str), a), (n, b)] : List (Str × Value))) : KBn K fd ["self", n] (0 + 1) [n] (fun us ws => us ++ ws) (fun vs zs => vs ++ zs) where
  to := fun s us ws _ l1 l2 => match us, ws, l1, l2 with
    | [a], [b], _, _ => .of_eq (h a b)
  rel := fun r rz => r.append rz
theorem bind2 {K : PySem.W.Frag} {n : Str} (h : ∀ (a b : Value), bindArgs fd ⟨[a, b], []⟩ = pure ([(("self" : Str), a), (n, b)] : List (Str × Value))) : KBn K fd ["self", n] (1 + 1) [] (fun us ws => us ++ ws) (fun vs zs => vs ++ zs) where
  to := fun s us ws _ l1 l2 => match us, ws, l1, l2 with
    | [a, b], [], _, _ => .of_eq (h a b)
  rel := fun r rz => r.append rz
/-- C(f = e) -/
def gExoK (C : Addr) (fld : Str) (te : TE) : TE := fun σ H Q => te σ H fun v H1 => NewE C fld v H1 Q
theorem exo_end {v : V} {H1 : Hp} {Q : VK} {E : XK} (q : NewE C fld v H1 Q) (a : Addr) (n : H1 a = none) : spInit C fld [.ref a, v] (upd H1 a (exo a C none)) (fun u H3 => u = .non ∧ Q (.ref a) H3) E :=
  ⟨a, v, rfl, upd_same, fun dx H' s e1 e2 => ⟨rfl, q a dx H' n (fun b o hb => s b o (ne_of_none hb n) (by rw [upd_ne (ne_of_none hb n)]; exact hb)) e1 e2⟩⟩
theorem pe_exoKG (T : OexC X.K C) (iC : PySem.W.findIn X.K (.ref C) "__init__" = some (some (.ref fI))) (tI : PySem.W.typeIn X.K (.ref fI) = some (.type "function"))
    (F : FnOk X.prog X.w X.K X.mg X.base CX k fI fd ["self", fld] (spInit C fld)) (hr : Room (k + 1) X.A) (hg : Gl X x) (hm : X.mg x = some (.ref C)) (hb : ∀ (a b : Value), bindArgs fd ⟨[a], [(fld, b)]⟩ = pure ([(("self" : Str), a), (fld, b)] : List (Str × Value))) (hx : Passes CX X E)
    (he : PE X e te) (hall : (backToKw pos (keywordEach [⟨nm, e, kpos⟩] X.env)).all (·.1.isSome) = true := by rfl) (hks : (backToKw pos (keywordEach [⟨nm, e, kpos⟩] X.env)).filterMap (·.1) = [fld] := by rfl)
    (hdb : (x == ("__debug__" : Str)) = false := by decide)
    (hpl : ((backTo pos (starEach [] X.env)).any (·.1) || (backToKw pos (keywordEach [⟨nm, e, kpos⟩] X.env)).any (·.1.isNone)) = false := by rfl) :
    PE X (.Call (.Name x p) [] [⟨nm, e, kpos⟩] pos) (gExoK C fld te) := by
  have z : PE X e (fun σ H R => ∃ R', te σ H R' ∧ ∀ v H1, R' v H1 → R v H1) := ⟨fun pins s σ H R I ⟨R', h1, h2⟩ => thn (he.run pins s σ H R' I h1) fun us s1 ⟨v, H1, I1, r, q⟩ => ⟨v, H1, I1, r, h2 _ _ q⟩⟩
  refine pe_imp (pe_exoK (E := E) T iC tI F hr hg hm (bind1 (K := X.K) hb) hx (pk_cons z pk_nil) hall hks hdb hpl) fun σ H Q q => ?_
  exact ⟨_, q, fun v H1 q1 => ⟨rfl, rfl, fun a n => exo_end q1 a n⟩⟩
theorem pe_exoPG (T : OexC X.K C) (iC : PySem.W.findIn X.K (.ref C) "__init__" = some (some (.ref fI))) (tI : PySem.W.typeIn X.K (.ref fI) = some (.type "function"))
    (F : FnOk X.prog X.w X.K X.mg X.base CX k fI fd ["self", fld] (spInit C fld)) (hr : Room (k + 1) X.A) (hg : Gl X x) (hm : X.mg x = some (.ref C)) (hb : ∀ (a b : Value), bindArgs fd ⟨[a, b], []⟩ = pure ([(("self" : Str), a), (fld, b)] : List (Str × Value))) (hx : Passes CX X E)
    (he : PE X e te) (hdb : (x == ("__debug__" : Str)) = false := by decide) (hs : starEach [e] X.env = (false, eval e X.env) :: starEach [] X.env := by rfl)
    (hpl : (backTo pos (starEach [] X.env)).any (·.1) = false := by rfl) :
    PE X (.Call (.Name x p) [e] [] pos) (gExoK C fld te) := by
  have z : PE X e (fun σ H R => ∃ R', te σ H R' ∧ ∀ v H1, R' v H1 → R v H1) := ⟨fun pins s σ H R I ⟨R', h1, h2⟩ => thn (he.run pins s σ H R' I h1) fun us s1 ⟨v, H1, I1, r, q⟩ => ⟨v, H1, I1, r, h2 _ _ q⟩⟩
  refine pe_imp (pe_exo1 (E := E) T iC tI F hr hg hm (bind2 (K := X.K) hb) hx (by decide) (pa_cons z pa_nil hs) hdb hs hpl) fun σ H Q q => ?_
  exact ⟨_, q, fun v H1 q1 => ⟨rfl, rfl, fun a n => exo_end q1 a n⟩⟩
/-- C(), no __init__ of its own -/
def gExo0 (C : Addr) : TE := fun _ H Q => New0 H C Q where New0 (H : Hp) (C : Addr) (Q : VK) : Prop := ∀ (a : Addr) (H' : Hp), H a = none → Same H H' → H' a = some (exo a C none) → Q (.ref a) H'
theorem pe_exo0G (q : PySem.W.excIn X.K C [.type "ValueError", .type "Exception", .type "BaseException", .type "object"] "ValueError.__new__" = true) (kC : PySem.W.keepIn X.K (.ref C) = true) (hg : Gl X x) (hm : X.mg x = some (.ref C))
    (hdb : (x == ("__debug__" : Str)) = false := by decide) : PE X (.Call (.Name x p) [] [] pos) (gExo0 C) :=
  pe_imp (pe_exo0 q kC hg hm hdb) fun σ H Q k a n => k a _ n (sameNew n _) upd_same
end
end L2

set_option maxRecDepth 100000
set_option maxHeartbeats 4000000
namespace L2
open PySem PySem.Spec PyProof.Rows
/-- over enumerate(a list that stands) -/
theorem for_enumL {K : PySem.W.Frag} {a : Addr} {xs : List V} {g : TG} {tb : TS} {D : Ends} {σ : St} {H : Hp} (Pv : Nat → St → Hp → Prop) (h0 : Pv 0 σ H) (hl : ∀ i σ H, i ≤ xs.length → Pv i σ H → SqL K H a xs)
    (hs : ∀ i x σ H T H', xs[i]? = some x → Pv i σ H → H T = none → Same H H' → H' T = some (.tup [.int (i : Nat), x]) → g (.ref T) σ H' fun σ2 H2 => tb { D with nx := Pv (i + 1), ct := Pv (i + 1), bk := D.nx } σ2 H2)
    (hd : ∀ σ H, Pv xs.length σ H → D.nx σ H) :
    ∃ W : Nat → Nat → St → Hp → Prop, (∃ m, W 0 m σ H) ∧ ∀ i m σ H, W i m σ H →
      ((Ite K a).stop i H ∧ D.nx σ H) ∨ ((Ite K a).go i H ∧ ∃ N : St → Hp → Prop, (∀ σ' H', N σ' H' → ∃ m', m' < m ∧ W (i + 1) m' σ' H') ∧ ∀ x H', (Ite K a).yld i H x H' → g x σ H' fun σ2 H2 => tb { D with nx := N, ct := N, bk := D.nx } σ2 H2) := by
  refine ⟨fun i m σ H => m = xs.length - i ∧ i ≤ xs.length ∧ Pv i σ H, ⟨xs.length, by simp, Nat.zero_le _, h0⟩, ?_⟩
  rintro i m σ H ⟨rfl, hi, p⟩
  have q := hl i σ H hi p
  by_cases hlt : i < xs.length
  · refine .inr ⟨⟨xs, xs[i], q, by simp [hlt]⟩, Pv (i + 1), fun σ' H' p' => ⟨xs.length - (i + 1), by omega, rfl, hlt, p'⟩, fun v H' y => ?_⟩
    obtain ⟨T, x, e, n, e2, y⟩ := y
    subst e e2
    exact hs i x σ H T _ (y xs q) p n (sameNew n _) upd_same
  · have e : i = xs.length := by omega
    subst e
    exact .inl ⟨⟨xs, q, Nat.le_refl _⟩, hd σ H p⟩
/-! lists of truth values as data -/
theorem bools_lay : ∀ bs : List Bool, PyData.canLayAll0 (bs.map PyData.bool) = true
  | [] => rfl
  | b :: bs => by
    show (PyData.canLay0 (.bool b) && PyData.canLayAll0 (bs.map PyData.bool)) = true
    rw [bools_lay bs]
    rfl
theorem bools_flat : ∀ bs : List Bool, PyData.depthAll (bs.map PyData.bool) = 0
  | [] => rfl
  | b :: bs => by
    show max (PyData.depth (.bool b)) (PyData.depthAll (bs.map PyData.bool)) = 0
    rw [bools_flat bs]
    rfl
theorem bools_shaped (bs : List Bool) : SeqAt.shaped (.list (bs.map PyData.bool)) = true := by
  have h1 : PyData.canLay0 (.list (bs.map PyData.bool)) = true := bools_lay bs
  have h2 : PyData.depth (.list (bs.map PyData.bool)) = 1 := by
    show PyData.depthAll (bs.map PyData.bool) + 1 = 1
    rw [bools_flat bs]
  unfold SeqAt.shaped
  rw [h1, h2]
  rfl
theorem bools_all {K : PySem.W.Frag} {H : Hp} : ∀ bs : List Bool, DpAll K H (bs.map V.bl) (bs.map PyData.bool)
  | [] => .nil
  | b :: bs => .cons (.bl b) (bools_all bs)
theorem bools_dp {K : PySem.W.Frag} {H : Hp} {p : Addr} {bs : List Bool} (h : H p = some (.lst (bs.map V.bl))) : Dp K H (.ref p) (.list (bs.map PyData.bool)) := .lst (SqL.of h) (bools_all bs)
theorem bools_same (bs : List Bool) : PyData.eqv (.list (bs.map PyData.bool)) (.list (bs.map PyData.bool)) = true := SeqAt.eqv_refl _ (bools_lay bs)
/-- a display of one entry, text to value -/
def gDict1 (k : Str) (te : TE) : TE := fun σ H Q => ∀ p : Addr, H p = none → te σ (upd H p (.dK [])) fun v H2 => H2 p = some (.dK []) ∧ Q (.ref p) (upd H2 p (.dK [(.inr k, v)]))
theorem pe_disp1 {X : Cx} {pos p1 : Pos} {v : Expr} {k : Str} {j : Nat} {te : TE} (hv : PE X v te) : PE X (.Dict [some (.Constant (.str k) j p1)] [v] pos) (gDict1 k te) := by
  have z : PE X v (fun σ H R => ∃ R', te σ H R' ∧ ∀ v H1, R' v H1 → R v H1) := ⟨fun pins s σ H R I ⟨R', h1, h2⟩ => thn (hv.run pins s σ H R' I h1) fun us s1 ⟨v, H1, I1, r, q⟩ => ⟨v, H1, I1, r, h2 _ _ q⟩⟩
  refine pe_imp (pe_disp (pps_cons pe_str z pps_nil) rfl rfl (fun z => by cases z) (by show 1 ≤ 15; decide)) fun σ H Q q p n => ?_
  exact ⟨_, q p n, fun u H2 ⟨e, k2⟩ => ⟨e, [(.inr k, u)], rfl, by show 1 ≤ 15; decide, k2⟩⟩
/-- the cut and what is put behind it -/
theorem ints_cut {ns : List Int} {lo hi : Option Int} {i : Nat} {y : V} (h : (cutV (ns.map V.int) lo hi ++ [.int 0])[i]? = some y) : ∃ c : Int, y = .int c := by
  have m := List.mem_of_getElem? h
  rcases List.mem_append.mp m with m | m
  · unfold cutV at m
    have m2 := List.mem_of_mem_drop (List.mem_of_mem_take m)
    obtain ⟨c, _, e⟩ := List.mem_map.mp m2
    exact ⟨c, e.symm⟩
  · exact ⟨0, by simpa using m⟩
theorem ints_cut_len {ns : List Int} {lo hi : Option Int} (h : ns.length ≤ 63) : (cutV (ns.map V.int) lo hi).length ≤ 63 := by
  have := cutV_length (ns.map V.int) lo hi
  rw [List.length_map] at this
  omega
end L2

set_option maxRecDepth 100000
set_option maxHeartbeats 4000000
/-! Defs that are run where nothing is being shown (repr of containers asks for it): the same promise, at such places alone. -/
namespace L2
open PySem PySem.Spec PyProof.Rows
def Bare (A : Around) : Prop := A.guards = some []
theorem Bare.deeper {A : Around} (h : Bare A) (env : Env) : Bare (A.deeper env) := h
structure FnG (P : Program) (w : World) (K : PySem.W.Frag) (mg : Str → Option Value) (base : Heap) (CX : CXT) (k : Nat) (f : Addr) (fd : FuncData) (ps : List Str) (sp : Sp) : Prop where
  len : ∀ vs H Q E, sp vs H Q E → vs.length = ps.length
  run : ∀ (A : Around) (outer : List Env) (s : Shared) (H : Hp) (args : Args) (us : List Value) (vs : List V) (Q : VK) (E : XK), Bare A → Room k A → Env0 P w K mg base A outer s H → BindsTo s fd args (ps.zip us) → Vals vs us → sp vs H Q E →
    codeAny (model P w) A (.call (.ref f) args) (CR CX outer P w H s Q E) s
theorem FnOk.toG {P : Program} {w : World} {K : PySem.W.Frag} {mg : Str → Option Value} {base : Heap} {CX : CXT} {k : Nat} {f : Addr} {fd : FuncData} {ps : List Str} {sp : Sp} (F : FnOk P w K mg base CX k f fd ps sp) : FnG P w K mg base CX k f fd ps sp :=
  ⟨F.len, fun A outer s H args us vs Q E _ => F.run A outer s H args us vs Q E⟩
section
variable {P : Program} {w : World} {K : PySem.W.Frag} {mg : Str → Option Value} {base : Heap} {CX : CXT} {k : Nat} {f : Addr} {x qual : Str} {st : Stmt} {fd : FuncData} {N ps : List Str} {sp : Sp}
/-- a def by its body, at places where nothing is being shown -/
theorem Fun.okGX (F : Fun K x qual st f fd) (S : FnScope N ps (defScope st)) (len : ∀ vs H Q E, sp vs H Q E → vs.length = ps.length)
    (hbody : ∀ (cdv : Value) (A : Around) (outer : List Env) (s : Shared) (H : Hp) (vs : List V) (Q : VK) (E : XK), Bare A → Room k (A.deeper (envOfC qual (defScope st) s.heap.objs.size f cdv)) → sp vs H Q E →
      ∃ t, PSs (cxOf CX P w K mg base N qual (defScope st) f cdv A outer s H E) (defBody st) t ∧ t { nx := fun _ H' => Q .non H', rt := Q } (start N vs) H) : FnG P w K mg base CX (k + 1) f fd ps sp := by
  obtain ⟨oc, od, kV, doc, pm, an, cdv, ct, osl, rfl, lk, hcd⟩ := F.ex
  refine ⟨len, fun A outer s H args us vs Q E bare hr e0 hb r hsp => ?_⟩
  have same : ∀ b o, base.get? b = some o → s.heap.get? b = some o := fun b o e => (e0.bs b o e).1
  have KX : K.In s.heap := e0.mod.kin.keeps same
  have hkind : ∀ y ∈ ps.zip us, (defScope st).names.lookup y.1 = some .local ∨ ((defScope st).names.lookup y.1 = some .cell ∧ ((cellsFrom (s.heap.objs.size + 1) (defScope st).names []).lookup y.1).isSome = true) := by
    rintro ⟨n, v⟩ hy
    rcases S.par n (List.of_mem_zip hy).1 with q | q
    · exact .inl q
    · exact .inr ⟨q, PySem.W.cellsFrom_some _ _ _ (.inl q)⟩
  refine codeAny_call_function hr.depth (KX _ _ lk) rfl S.co S.gen rfl (PySem.W.codeRec_of KX hcd) (hb _ _ _ _ ?_)
  refine wpAny_newFunctionEnv_cells S.kind hkind fun env he s1 ic => ?_
  subst he
  refine ⟨(e0.mod.nolimit.keeps same).keeps ic.toInCall.keep, codeAny_func ?_⟩
  obtain ⟨t, ht, hq⟩ := hbody cdv A outer s H vs Q E bare (hr.deeper _) hsp
  have I := inv_start (CX := CX) (E := E) S hr.hd e0 (len _ _ _ _ hsp) r ic
  refine wpAny_mono (ht.run [] s1 (start N vs) H _ I hq) (fun fl s' hs => ?_) fun e s' hs => hs
  cases fl with
  | ret u =>
    obtain ⟨v, σ', H', J, rv, q⟩ := hs
    exact ⟨v, H', J.os, J.bare, J.base, J.hok, rv, q⟩
  | next =>
    obtain ⟨σ', H', J, q⟩ := hs
    exact ⟨V.non, H', J.os, J.bare, J.base, J.hok, rfl, q⟩
  | brk =>
    obtain ⟨_, _, _, q⟩ := hs
    exact False.elim q
  | cont =>
    obtain ⟨_, _, _, q⟩ := hs
    exact False.elim q
/-- the same for a def that lets nothing out -/
theorem Fun.okG (F : Fun K x qual st f fd) (S : FnScope N ps (defScope st)) (len : ∀ vs H Q E, sp vs H Q E → vs.length = ps.length)
    (hbody : ∀ (cdv : Value) (A : Around) (outer : List Env) (s : Shared) (H : Hp) (vs : List V) (Q : VK) (E : XK), Bare A → Room k (A.deeper (envOfC qual (defScope st) s.heap.objs.size f cdv)) → sp vs H Q E →
      ∃ t, PSs (cxOf CX0 P w K mg base N qual (defScope st) f cdv A outer s H E).nox (defBody st) t ∧ t { nx := fun _ H' => Q .non H', rt := Q } (start N vs) H) : FnG P w K mg base CX0 (k + 1) f fd ps sp :=
  F.okGX S len fun cdv A outer s H vs Q E hA hr h => by
    obtain ⟨t, h1, h2⟩ := hbody cdv A outer s H vs Q E hA hr h
    exact ⟨t, h1.nox, h2⟩
end
section
variable {X : Cx} {CX : CXT} {k : Nat} {f : Addr} {fd : FuncData} {ps : List Str} {sp : Sp} {dvs : List V} {ds : List Value} {E : XK} {x : Str} {p pos : Pos} {e : Expr} {es : List Expr} {t : TA}
theorem run_fnG {pins : List (Addr × Obj)} {σ : St} {H : Hp} {s : Shared} {Q : VK} {us : List Value} {vs : List V} (F : FnG X.prog X.w X.K X.mg X.base CX k f fd ps sp) (hA : Bare X.A) (hr : Room k X.A) (hb : Binds X.K fd ps ds) (hd : Vals dvs ds) (hx : Passes CX X E)
    (I : Inv X pins σ H s) (r : Vals vs us) (h : sp (vs ++ dvs) H Q E) : wpAny (model X.prog X.w) X.A (call (.ref f) us) (EP X pins σ Q) X.xe s := by
  have r2 : Vals (vs ++ dvs) (us ++ ds) := r.append hd
  have hl : (us ++ ds).length = ps.length := by
    rw [← r2.length]
    exact F.len _ _ _ _ h
  refine wpAny_call (codeAny_mono (F.run X.A X.stack s H ⟨us, []⟩ (us ++ ds) (vs ++ dvs) Q E hA hr I.env0 (hb s us I.kIn hl) r2 h) fun r s' hq => ?_)
  cases r with
  | error er => exact hx pins σ H s er s' I hq
  | ok fl =>
    cases fl with
    | ret u => exact I.after hq
    | next => exact False.elim hq
    | brk => exact False.elim hq
    | cont => exact False.elim hq
theorem pe_callG (F : FnG X.prog X.w X.K X.mg X.base CX k f fd ps sp) (hA : Bare X.A) (hr : Room k X.A) (hg : Gl X x) (hm : X.mg x = some (.ref f)) (hk : PySem.W.keepIn X.K (.ref f) = true) (hb : Binds X.K fd ps ds) (hd : Vals dvs ds) (hx : Passes CX X E)
    (ha : PA X (e :: es) t) (hdb : (x == ("__debug__" : Str)) = false := by decide) (he : starEach (e :: es) X.env = (false, eval e X.env) :: starEach es X.env := by rfl) (hpl : (backTo pos (starEach es X.env)).any (·.1) = false := by rfl) :
    PE X (.Call (.Name x p) (e :: es) [] pos) (tCall sp dvs E t) := by
  refine ⟨fun pins s σ H Q I h => ?_⟩
  refine wpAny_Call_Name_kw (ld_glob I hg hm ?_ hdb)
  exact PySem.W.callWith_K (h₀ := X.base) I.ok.mod.kin hk (thn (ha.run pos pins s σ H _ I h) fun us s1 ⟨vs, H1, I1, r, q⟩ => ⟨I1.kIn, run_fnG F hA hr hb hd hx I1 r q⟩) he hpl
end
/-! ### what repr says -/
def keyD : Key → PyData
  | .inl i => .int i
  | .inr x => .str x
/-- x, shown as d: data without dicts, or a dict of ints -/
def Shw (K : PySem.W.Frag) (H : Hp) (x : V) (d : PyData) : Prop :=
  (Dp K H x d ∧ d.hasDict = false) ∨ ∃ (a : Addr) (kvs : List (Key × Int)), x = .ref a ∧ H a = some (.dK (kvs.map fun kv => (kv.1, V.int kv.2))) ∧ d = .dict (kvs.map fun kv => (keyD kv.1, .int kv.2))
theorem reads_dict {P : Program} {w : World} {h : Heap} : ∀ {es : List DictEntry} {vs : List (Key × Value)} {kvs : List (Key × Int)}, Pairs (mixKind P w) es vs → KV (kvs.map fun kv => (kv.1, V.int kv.2)) vs →
    ReadsAll h (es.map (·.key)) ((kvs.map fun kv => (keyD kv.1, PyData.int kv.2)).map (·.1)) [] ∧ ReadsAll h (es.map (·.val)) ((kvs.map fun kv => (keyD kv.1, PyData.int kv.2)).map (·.2)) []
  | [], vs, [], _, _ => ⟨.nil, .nil⟩
  | [], vs, k :: kvs, p, r => by
    cases p
    cases r
  | e :: es, vs, [], p, r => by
    cases r
    cases p
  | e :: es, vs, k :: kvs, p, r => by
    cases r with
    | cons r1 rr =>
      cases p with
      | cons q1 q2 pr =>
        obtain ⟨h1, h2⟩ := reads_dict (h := h) pr rr
        obtain ⟨e1, t, e2⟩ := r1
        refine ⟨ReadsAll.cons (as := []) (bs := []) ?_ h1, ReadsAll.cons (as := []) (bs := []) ?_ h2⟩
        · have z : keyIs k.1 e.key = true := by
            have e1' : k.1 = _ := e1
            rw [e1']
            exact q1
          rcases keyIs_shape z with ⟨i, t', e3, e4⟩ | ⟨y, t', e3, e4⟩
          · show Reads h e.key (keyD k.1) []
            rw [e3, e4]
            exact Reads.int i t'
          · show Reads h e.key (keyD k.1) []
            rw [e3, e4]
            exact Reads.str y t'
        · show Reads h e.val (.int k.2) []
          rw [q2, e2]
          exact Reads.int _ t
theorem shw_reads {X : Cx} {pins : List (Addr × Obj)} {σ : St} {H : Hp} {s : Shared} {x : V} {u : Value} {d : PyData} (I : Inv X pins σ H s) (h : Shw X.K H x d) (r : RelV x u) : ∃ as, Reads s.heap u d as ∧ (d.hasDict = true → sysModules ∉ as) := by
  rcases h with ⟨h, nd⟩ | ⟨a, kvs, rfl, e, rfl⟩
  · obtain ⟨as, q⟩ := Dp.reads I d x u h r
    exact ⟨as, q, fun z => by rw [nd] at z; cases z⟩
  · cases (show u = Value.ref a from r)
    obtain ⟨_, ns, vs, rk, o, es, ep, ho, hx, hd, _, hp, _⟩ := (show ObjOk X.prog X.w H s.heap a (.dK _) from I.hok a _ e)
    obtain ⟨h1, h2⟩ := reads_dict (h := s.heap) hp rk
    refine ⟨_, Reads.dict ho hx.1 hd h1 h2, fun _ m => ?_⟩
    have : sysModules = a := by simpa using m
    rw [this] at ns
    simp at ns
def rRepr (K : PySem.W.Frag) : List V → Hp → VK → Prop := fun xs H Q => ∃ (x : V) (d : PyData), xs = [x] ∧ Shw K H x d ∧ d.showable = true ∧ d.depth ≤ 60 ∧ d.shown.length ≤ sizeLine ∧ Q (.str d.shown) H
theorem call_repr {X : Cx} (hA : Bare X.A) (hu : X.A.units + 64 < cLine) : CallR X (.builtin "repr") (rRepr X.K) := by
  intro pins s σ H xs us Q I r h
  obtain ⟨x, d, rfl, hs, sh, dp, sz, q⟩ := h
  obtain ⟨u, rfl, rx⟩ := vals1 r
  obtain ⟨as, rd, nsys⟩ := shw_reads I hs rx
  cases rd with
  | none => exact PySem.P.repr_of_none ⟨.str "None", H, I.tok _, ⟨_, rfl⟩, q⟩
  | bool b => exact PySem.P.repr_of_bool ⟨.str (if b then "True" else "False"), H, I.tok _, ⟨_, rfl⟩, q⟩
  | int i t => exact PySem.P.repr_of_int (of_decide_eq_true sh) ⟨.str (toString i), H, I.tok _, ⟨_, rfl⟩, q⟩
  | str y t => exact PySem.P.repr_of_str ⟨.str (reprText y), H, I.tok _, ⟨_, rfl⟩, q⟩ sz
  | list h1 h2 h3 h4 =>
    exact repr_of_reads' (Reads.list h1 h2 h3 h4) sh nsys hA (by omega) (fun b o e => e) (fun h' u tk k => ⟨.str _, H, I.kept (t' := tk) k, ⟨_, rfl⟩, q⟩) sz
  | tuple h1 h2 h3 h4 =>
    exact repr_of_reads' (Reads.tuple h1 h2 h3 h4) sh nsys hA (by omega) (fun b o e => e) (fun h' u tk k => ⟨.str _, H, I.kept (t' := tk) k, ⟨_, rfl⟩, q⟩) sz
  | dict h1 h2 h3 h4 h5 =>
    exact repr_of_reads' (Reads.dict h1 h2 h3 h4 h5) sh nsys hA (by omega) (fun b o e => e) (fun h' u tk k => ⟨.str _, H, I.kept (t' := tk) k, ⟨_, rfl⟩, q⟩) sz
end L2

set_option maxRecDepth 100000
set_option maxHeartbeats 4000000
/-! The end of a law row for a promise that holds where nothing is being shown: the claim's caller shows nothing. -/
namespace L2
open PySem PySem.Spec PyProof.Rows
section
variable {P : Program} {w : World} {K : PySem.W.Frag} {mg mb : Str → Option Value} {CX : CXT} {k : Nat} {fa sc : Addr} {fd : FuncData} {x : Str} {sp : Sp} {st : Shared} {its : List Value} {ns : List Int}
/-- from an abstract heap in which at most the script is tracked -/
theorem callG_at (KX : K.In st.heap) (gN : st.heap.Ns mainGlobals mg) (bN : st.heap.Ns builtinsNs mb) (bb : ∀ x : Str, x ≠ "__name__" → mb x = bootBuiltins x) (nl : st.heap.NoLimit) (gz : st.gens = #[])
    (hs : st.heap.get? sc = some { cls := .type "list", data := .seq its.toArray }) (hr : Room k callerA)
    (F : ∀ base : Heap, K.In base → base.Ns mainGlobals mg → FnG P w K mg base CX k fa fd [x] sp) (hb : ∀ (s : Shared) (u : Value), BindsTo s fd ⟨[u], []⟩ [(x, u)])
    (noX : ∀ H e s', CX [] H st (fun _ _ _ => False) e s' → False) (H : Hp) (hO : Only H) (hsp : sp [.ref sc] H (fun v _ => v = .bl true) fun _ _ _ => False)
    (ok : HOk P w H st.heap) (one : ∀ b, H b ≠ none → b = sc) (hK : H sc ≠ none → K.lookup sc = none) :
    codeAny (model P w) callerA (.call (.ref fa) ⟨[.ref sc], []⟩) (fun r s' => r = .ok (.ret (.bool true)) ∧ OldK st.heap s'.heap ∧ s'.os = st.os ∧ AllBare s'.gens) st := by
  have low : ∀ {b : Addr} {o : Obj}, st.heap.get? b = some o → H b = none → (hidT st.heap H).get? b = some o := fun e n => hidT_get e n
  have isSc : ∀ {b : Addr}, (∃ u, H b = some u) → b = sc := fun {b} ⟨u, q⟩ => one b (by rw [q]; simp)
  have free : ∀ {b : Addr}, b ≠ sc → H b = none := fun {b} ne => by
    cases q : H b with
    | none => rfl
    | some u => exact absurd (isSc ⟨u, q⟩) ne
  have notDict : ∀ {b : Addr} {o : Obj} {es : Array DictEntry} {ep : Nat}, st.heap.get? b = some o → o.data = .dict es ep → H b = none := fun {b o es ep} e d => by
    refine free fun z => ?_
    rw [z, hs] at e
    have e2 := Option.some.inj e
    subst e2
    have d2 : Data.seq its.toArray _ = Data.dict es ep := d
    cases d2
  have nsLow : ∀ {b : Addr} {m : Str → Option Value}, st.heap.Ns b m → (hidT st.heap H).Ns b m := fun {b m} z => by
    obtain ⟨o, es, ep, e, d, r⟩ := z
    exact ⟨o, es, ep, low e (notDict e d), d, r⟩
  have KL : K.In (hidT st.heap H) := fun b o e => low (KX b o e) (by
    cases q : H b with
    | none => rfl
    | some u =>
      have z := isSc ⟨u, q⟩
      subst z
      rw [hK (by rw [q]; simp)] at e
      cases e)
  obtain ⟨mc, l1, l2⟩ := nl
  have M : Mod K mg (hidT st.heap H) := ⟨KL, nsLow gN, ⟨mb, nsLow bN, bb⟩, ⟨mc, nsLow l1, l2⟩⟩
  have e0 : Env0 P w K mg (hidT st.heap H) callerA [] st H := ⟨rfl, M, fun b o e => of_hidT e, Nat.le_of_eq (hidT_size _ _), trivial, fun b hb => absurd (show b ∈ ([] : List Addr) from hb) (by simp), ok, .of_eq gz⟩
  refine codeAny_mono ((F _ KL (nsLow gN)).run callerA [] st H ⟨[.ref sc], []⟩ [.ref sc] [.ref sc] _ _ rfl hr e0 (hb st (.ref sc)) (.cons rfl .nil) hsp) fun r s' h => ?_
  cases r with
  | error e => exact (noX H e s' h).elim
  | ok fl =>
    cases fl with
    | next => exact False.elim h
    | brk => exact False.elim h
    | cont => exact False.elim h
    | ret u =>
      obtain ⟨v, H', os, bare, un, ok', r', q⟩ := h
      have q' : v = .bl true := q
      subst q'
      obtain rfl : u = Value.bool true := r'
      refine ⟨rfl, OldK.of_keep fun b o e => ?_, os, bare⟩
      rcases hO b with z | ⟨ob, xs, z⟩
      · exact un.keep b o e z (fun z => absurd (show b ∈ ([] : List Addr) from z) (by simp)) (by simp)
      · obtain ⟨e1, _⟩ := ok b _ z
        obtain ⟨e2, _⟩ := ok' b _ (un.frzs b ob _ z)
        rw [e] at e1
        cases e1
        exact e2
theorem law_callG (KX : K.In st.heap) (gN : st.heap.Ns mainGlobals mg) (bN : st.heap.Ns builtinsNs mb) (bb : ∀ x : Str, x ≠ "__name__" → mb x = bootBuiltins x) (nl : st.heap.NoLimit) (gz : st.gens = #[])
    (hs : st.heap.get? sc = some { cls := .type "list", data := .seq its.toArray }) (hi : IntsAre its ns) (hl : ns.length ≤ sizeLine) (hr : Room k callerA)
    (F : ∀ base : Heap, K.In base → base.Ns mainGlobals mg → FnG P w K mg base CX k fa fd [x] sp) (hb : ∀ (s : Shared) (u : Value), BindsTo s fd ⟨[u], []⟩ [(x, u)])
    (hsp : ∀ H : Hp, Only H → SqL K H sc (ns.map V.int) → sp [.ref sc] H (fun v _ => v = .bl true) fun _ _ _ => False) (noX : ∀ H e s', CX [] H st (fun _ _ _ => False) e s' → False) :
    codeAny (model P w) callerA (.call (.ref fa) ⟨[.ref sc], []⟩) (fun r s' => r = .ok (.ret (.bool true)) ∧ OldK st.heap s'.heap ∧ s'.os = st.os ∧ AllBare s'.gens) st := by
  have rv := vals_ints hi
  cases hk : K.lookup sc with
  | some o =>
    have e := KX sc o hk
    rw [hs] at e
    cases e
    have only : Only (fun _ => none) := fun _ => .inl rfl
    refine callG_at KX gN bN bb nl gz hs hr F hb noX (fun _ => none) only (hsp _ only (.inr ⟨_, its.toArray, _, hk, rfl, rfl, rfl, by rw [List.size_toArray, hi.length]; exact hl, by simpa using rv⟩)) (fun b u z => nomatch z) (fun b z => absurd rfl z) fun z => absurd rfl z
  | none =>
    let H : Hp := fun b => if b = sc then some (.frz { cls := .type "list", data := .seq its.toArray } (.lst (ns.map V.int))) else none
    have at' : H sc = some (.frz { cls := .type "list", data := .seq its.toArray } (.lst (ns.map V.int))) := if_pos rfl
    have off : ∀ {b : Addr}, b ≠ sc → H b = none := fun ne => if_neg ne
    have only : Only H := fun b => by
      by_cases z : b = sc
      · rw [z]
        exact .inr ⟨_, _, at'⟩
      · exact .inl (off z)
    refine callG_at KX gN bN bb nl gz hs hr F hb noX H only (hsp H only (.inl (.inr ⟨_, at'⟩))) (fun b u z => ?_) (fun b z => ?_) fun _ => hk
    · by_cases q : b = sc
      · subst q
        rw [at'] at z
        cases z
        exact ⟨hs, by rw [List.length_map]; exact hl, its, _, rv, hs⟩
      · rw [off q] at z
        cases z
    · by_cases q : b = sc
      · exact q
      · exact absurd (off q) z
end
theorem walk_ofG {l : PySem.W.OpenLaw} {n k : Nat} {q : Program} {loose : List Str} {XP : (Str → Option Value) → Heap → Prop} {YP : World → Heap → Prop} {d : DefRec} {K : Params → PySem.W.Frag} {CX : World → CXT} {sp : World → Sp} {x : Str}
    (hn : l.most = some n) (hn2 : n ≤ sizeLine) (hdf : d.params.defaults = []) (hr : Room k callerA) (hY : ∀ (w : World) (h : Heap), YP w h → (K w.params).In h)
    (F : ∀ (w : World) (mg : Str → Option Value) (fa : Addr) (h : Heap), (K w.params).In h → h.Ns mainGlobals mg → mg d.name = some (.ref fa) →
      ∃ fd : FuncData, (∀ (s : Shared) (u : Value), BindsTo s fd ⟨[u], []⟩ [(x, u)]) ∧ ∀ base : Heap, (K w.params).In base → base.Ns mainGlobals mg → FnG l.prog w (K w.params) mg base (CX w) k fa fd [x] (sp w))
    (hsp : ∀ (w : World) (H : Hp) (a : Addr) (ns : List Int), ns.length ≤ n → Only H → SqL (K w.params) H a (ns.map V.int) → sp w [.ref a] H (fun v _ => v = .bl true) fun _ _ _ => False)
    (hCX : ∀ (w : World) (H : Hp) (s : Shared) (e : Value) (s' : Shared), CX w [] H s (fun _ _ _ => False) e s' → False) :
    PySem.W.WalkO q loose XP YP l.row.toRowW d [] (fun f vs => PySem.call f vs) := by
  refine Att.attach_call hn hdf fun w s₀ s₁ mg mb fa o pm cd doc a vs ns G Y ho hd hcd hmg hobj hints hlen hg => ?_
  have KX := hY w _ Y
  obtain ⟨fd, hb, hF⟩ := F w mg fa _ KX G.T.g hmg
  exact law_callG KX G.T.g G.T.b G.T.builtins G.T.nolimit hg hobj hints (Nat.le_trans hlen hn2) hr hF hb (fun H hO hS => hsp w H a ns hlen hO hS) fun H e s' => hCX w H s₁ e s'
end L2

set_option maxRecDepth 100000
set_option maxHeartbeats 4000000
/-! Things that are shown by repr: what is kept of them in later heaps. -/
namespace L2
open PySem PySem.Spec PyProof.Rows
theorem Same.seqT {K : PySem.W.Frag} {H H' : Hp} {a : Addr} {xs : List V} (s : Same H H') (h : SqT K H a xs) : SqT K H' a xs := by
  rcases h with (h | ⟨o, h⟩) | h
  · exact .inl (.inl (s _ _ h))
  · exact .inl (.inr ⟨o, s _ _ h⟩)
  · exact .inr h
mutual
theorem Dp.same {K : PySem.W.Frag} {H H' : Hp} (s : Same H H') : ∀ (d : PyData) (v : V), Dp K H v d → Dp K H' v d
  | .none, _, h => by
    cases h
    exact .non
  | .bool b, _, h => by
    cases h
    exact .bl b
  | .int i, _, h => by
    cases h
    exact .int i
  | .str x, _, h => by
    cases h
    exact .str x
  | .list ds, _, h => by
    cases h with
    | lst q ha => exact .lst (s.seq q) (DpAll.same s ds _ ha)
  | .tuple ds, _, h => by
    cases h with
    | tup q ha => exact .tup (s.seqT q) (DpAll.same s ds _ ha)
  | .dict _, _, h => by cases h
theorem DpAll.same {K : PySem.W.Frag} {H H' : Hp} (s : Same H H') : ∀ (ds : List PyData) (vs : List V), DpAll K H vs ds → DpAll K H' vs ds
  | [], _, h => by
    cases h
    exact .nil
  | d :: ds, _, h => by
    cases h with
    | cons h1 h2 => exact .cons (Dp.same s d _ h1) (DpAll.same s ds _ h2)
end
theorem Shw.same {K : PySem.W.Frag} {H H' : Hp} {x : V} {d : PyData} (s : Same H H') (h : Shw K H x d) : Shw K H' x d := by
  rcases h with ⟨h, n⟩ | ⟨a, kvs, e1, e2, e3⟩
  · exact .inl ⟨h.same s d x, n⟩
  · exact .inr ⟨a, kvs, e1, s _ _ e2, e3⟩
/-- what is asked of a thing that is shown -/
structure Fine (d : PyData) : Prop where
  sh : d.showable = true
  dp : d.depth ≤ 60
  sz : d.shown.length ≤ sizeLine
  ok : PyData.strOk d.shown = true
def Good (K : PySem.W.Frag) (H : Hp) (v : V) : Prop := ∃ d, Shw K H v d ∧ Fine d
theorem Good.same {K : PySem.W.Frag} {H H' : Hp} {v : V} (s : Same H H') (h : Good K H v) : Good K H' v := by
  obtain ⟨d, a, b⟩ := h
  exact ⟨d, a.same s, b⟩
theorem strOk_of (s : String) : PyData.strOk (Str.ofString s) = true := by
  unfold PyData.strOk
  rw [Str.ofString_eq_toList]
  simp only [List.all_toArray, List.all_map, List.all_eq_true, Function.comp, decide_eq_true_eq]
  intro c _
  have := c.valid
  show c.toNat < 0x110000
  have z : c.val.toNat < 0x110000 := by
    rcases this with h | ⟨_, h⟩
    · have h' : c.val.toNat < 0xd800 := h
      omega
    · exact h
  exact z
theorem fine_int {n : Int} (h0 : 0 ≤ n) (h : n < 10 ^ 30) : Fine (.int n) := by
  have l : n.natAbs < 2 ^ 100 := by
    have : (n.natAbs : Int) = n := by omega
    have h2 : (n.natAbs : Int) < 10 ^ 30 := by omega
    have h3 : n.natAbs < 10 ^ 30 := by exact_mod_cast h2
    exact Nat.lt_trans h3 (by decide)
  have l2 : n.natAbs.log2 < 1920 := Nat.lt_trans (PySem.Flt.log2_lt_of (by decide) l) (by decide)
  exact ⟨decide_eq_true l2, Nat.zero_le _, int_text_fits l2, strOk_of _⟩
/-! lists of texts as data -/
theorem strs_lay : ∀ ts : List Str, (∀ t ∈ ts, PyData.strOk t = true) → PyData.canLayAll0 (ts.map PyData.str) = true
  | [], _ => rfl
  | t :: ts, h => by
    show (PyData.strOk t && PyData.canLayAll0 (ts.map PyData.str)) = true
    rw [strs_lay ts fun u m => h u (List.mem_cons_of_mem _ m), h t List.mem_cons_self]
    rfl
theorem strs_flat : ∀ ts : List Str, PyData.depthAll (ts.map PyData.str) = 0
  | [] => rfl
  | t :: ts => by
    show max (PyData.depth (.str t)) (PyData.depthAll (ts.map PyData.str)) = 0
    rw [strs_flat ts]
    rfl
theorem strs_shaped (ts : List Str) (h : ∀ t ∈ ts, PyData.strOk t = true) : SeqAt.shaped (.list (ts.map PyData.str)) = true := by
  have h1 : PyData.canLay0 (.list (ts.map PyData.str)) = true := strs_lay ts h
  have h2 : PyData.depth (.list (ts.map PyData.str)) = 1 := by
    show PyData.depthAll (ts.map PyData.str) + 1 = 1
    rw [strs_flat ts]
  unfold SeqAt.shaped
  rw [h1, h2]
  rfl
theorem strs_all {K : PySem.W.Frag} {H : Hp} : ∀ ts : List Str, DpAll K H (ts.map V.str) (ts.map PyData.str)
  | [] => .nil
  | t :: ts => .cons (.str t) (strs_all ts)
theorem strs_dp {K : PySem.W.Frag} {H : Hp} {p : Addr} {ts : List Str} (h : H p = some (.lst (ts.map V.str))) : Dp K H (.ref p) (.list (ts.map PyData.str)) := .lst (SqL.of h) (strs_all ts)
theorem strs_same (ts : List Str) (h : ∀ t ∈ ts, PyData.strOk t = true) : PyData.eqv (.list (ts.map PyData.str)) (.list (ts.map PyData.str)) = true := SeqAt.eqv_refl _ (strs_lay ts h)
def rRepG : R2 := fun x y H Q => ∃ l k xs, x = .ref l ∧ y = .int k ∧ H l = some (.lst xs) ∧ -(2 ^ 63) ≤ k ∧ k < 2 ^ 63 ∧ xs.length * k.toNat ≤ sizeLine ∧ New H (.lst (List.replicate k.toNat xs).flatten) Q
theorem op_repG {X : Cx} : OpR X (binaryOp .Mult) rRepG := fun pins s σ H x y v u Q I rx ry ⟨l, k, xs, e1, e2, e3, e4, e5, e6, q⟩ => op_rep pins s σ H x y v u Q I rx ry ⟨l, k, xs, e1, e2, e3, e4, e5, e6, fun p n => q.at n⟩
end L2

/-! Where a walk along a function of the numbers below n comes to rest: plain mathematics. -/
namespace Mach
def itr (f : Nat → Nat) : Nat → Nat → Nat
  | 0, i => i
  | k + 1, i => itr f k (f i)
theorem itr_add (f : Nat → Nat) : ∀ a b i, itr f (a + b) i = itr f b (itr f a i)
  | 0, b, i => by rw [Nat.zero_add]; rfl
  | a + 1, b, i => by
    rw [Nat.succ_add]
    exact itr_add f a b (f i)
theorem itr_succ (f : Nat → Nat) (k i : Nat) : itr f (k + 1) i = f (itr f k i) := by
  rw [itr_add f k 1 i]
  rfl
theorem itr_lt {f : Nat → Nat} {n : Nat} (hf : ∀ i, i < n → f i < n) : ∀ k i, i < n → itr f k i < n
  | 0, _, h => h
  | k + 1, i, h => itr_lt hf k (f i) (hf i h)
theorem pigeon : ∀ (n : Nat) (l : List Nat), l.Nodup → (∀ x ∈ l, x < n) → l.length ≤ n
  | 0, [], _, _ => Nat.le_refl _
  | 0, x :: _, _, h => absurd (h x List.mem_cons_self) (Nat.not_lt_zero _)
  | n + 1, l, nd, h => by
    by_cases m : n ∈ l
    · have e := List.length_erase_of_mem m
      have ih := pigeon n (l.erase n) (nd.erase n) (fun x hx => by
        have h1 := (nd.mem_erase_iff).mp hx
        have h2 := h x h1.2
        have h3 := h1.1
        omega)
      omega
    · have ih := pigeon n l nd (fun x hx => by
        have h2 := h x hx
        have h3 : x ≠ n := fun z => m (z ▸ hx)
        omega)
      omega
/-- two places of the way are the same -/
theorem again {f : Nat → Nat} {n i : Nat} (hf : ∀ i, i < n → f i < n) (hi : i < n) : ∃ a b, a < b ∧ b ≤ n ∧ itr f a i = itr f b i := by
  by_cases h : ∃ a b, a < b ∧ b ≤ n ∧ itr f a i = itr f b i
  · exact h
  · have nd : ((List.range (n + 1)).map fun k => itr f k i).Nodup := by
      rw [List.Nodup, List.pairwise_map]
      refine List.Pairwise.imp_of_mem (fun {a b} ha hb lt e => h ⟨a, b, lt, ?_, e⟩) List.pairwise_lt_range
      have := List.mem_range.mp hb
      omega
    have := pigeon n _ nd (fun x hx => by
      obtain ⟨k, _, e⟩ := List.mem_map.mp hx
      rw [← e]
      exact itr_lt hf k i hi)
    rw [List.length_map, List.length_range] at this
    omega
/-- behind n steps a walk is on its ring -/
theorem ring_of {f : Nat → Nat} {n i : Nat} (hf : ∀ i, i < n → f i < n) (hi : i < n) : ∃ p, 0 < p ∧ itr f p (itr f n i) = itr f n i := by
  obtain ⟨a, b, lt, le, e⟩ := again hf hi
  refine ⟨b - a, by omega, ?_⟩
  have e1 : itr f n i = itr f (n - a) (itr f a i) := by
    rw [← itr_add]
    congr 1
    omega
  have e2 : itr f (b - a) (itr f a i) = itr f b i := by
    rw [← itr_add]
    congr 1
    omega
  rw [e1, ← itr_add, Nat.add_comm, itr_add, e2, ← e]
theorem ring_many {f : Nat → Nat} {p j : Nat} (h : itr f p j = j) : ∀ t, itr f (p * t) j = j
  | 0 => rfl
  | t + 1 => by
    rw [Nat.mul_succ, itr_add, ring_many h t, h]
theorem foldl_min : ∀ (l : List Nat) (a : Nat), (l.foldl Nat.min a = a ∨ l.foldl Nat.min a ∈ l) ∧ l.foldl Nat.min a ≤ a ∧ ∀ x ∈ l, l.foldl Nat.min a ≤ x
  | [], a => ⟨.inl rfl, Nat.le_refl _, fun _ h => nomatch h⟩
  | y :: l, a => by
    obtain ⟨h1, h2, h3⟩ := foldl_min l (Nat.min a y)
    refine ⟨?_, ?_, ?_⟩
    · rcases h1 with h1 | h1
      · by_cases q : a ≤ y
        · left
          show l.foldl Nat.min (Nat.min a y) = a
          rw [h1]
          exact Nat.min_eq_left q
        · right
          show l.foldl Nat.min (Nat.min a y) ∈ y :: l
          rw [h1, show Nat.min a y = y from Nat.min_eq_right (by omega)]
          exact List.mem_cons_self
      · exact .inr (List.mem_cons_of_mem _ h1)
    · exact Nat.le_trans h2 (Nat.min_le_left _ _)
    · intro x hx
      rcases List.mem_cons.mp hx with e | hx
      · rw [e]
        exact Nat.le_trans h2 (Nat.min_le_right _ _)
      · exact h3 x hx
/-- where a walk rests: the least number on the ring to which it comes (a fixed one is a ring by itself) -/
def stopAt (f : Nat → Nat) (n i : Nat) : Nat := ((List.range n).map fun k => itr f k (itr f n i)).foldl Nat.min (itr f n i)
theorem stop_mem (f : Nat → Nat) (n i : Nat) : ∃ k, stopAt f n i = itr f k (itr f n i) := by
  obtain ⟨h, _⟩ := foldl_min ((List.range n).map fun k => itr f k (itr f n i)) (itr f n i)
  rcases h with h | h
  · exact ⟨0, h⟩
  · obtain ⟨k, _, e⟩ := List.mem_map.mp h
    exact ⟨k, e.symm⟩
theorem stop_lt {f : Nat → Nat} {n i : Nat} (hf : ∀ i, i < n → f i < n) (hi : i < n) : stopAt f n i < n := by
  obtain ⟨k, e⟩ := stop_mem f n i
  rw [e]
  exact itr_lt hf k _ (itr_lt hf n i hi)
/-- from a place on the ring each place of the ring is met within n steps -/
theorem ring_short {f : Nat → Nat} {n j : Nat} (hf : ∀ i, i < n → f i < n) (hj : j < n) (k : Nat) : ∃ k', k' < n ∧ itr f k' j = itr f k j := by
  induction k using Nat.strongRecOn with
  | ind k ih =>
    by_cases h : k < n
    · exact ⟨k, h, rfl⟩
    · obtain ⟨a, b, lt, le, e⟩ := again hf hj
      have e2 : itr f k j = itr f (k - (b - a)) j := by
        have h1 : k = b + (k - b) := by omega
        have h2 : k - (b - a) = a + (k - b) := by omega
        rw [h2, itr_add, e, ← itr_add, ← h1]
      obtain ⟨k', h1, h2⟩ := ih (k - (b - a)) (by omega)
      exact ⟨k', h1, h2.trans e2.symm⟩
theorem stop_le {f : Nat → Nat} {n i : Nat} (hf : ∀ i, i < n → f i < n) (hi : i < n) (k : Nat) : stopAt f n i ≤ itr f k (itr f n i) := by
  obtain ⟨_, _, h⟩ := foldl_min ((List.range n).map fun k => itr f k (itr f n i)) (itr f n i)
  obtain ⟨k', lt, e⟩ := ring_short hf (itr_lt hf n i hi) k
  rw [← e]
  exact h _ (List.mem_map.mpr ⟨k', List.mem_range.mpr lt, rfl⟩)
theorem stop_unique {f : Nat → Nat} {n i s : Nat} (hf : ∀ i, i < n → f i < n) (hi : i < n) (h1 : ∃ k, s = itr f k (itr f n i)) (h2 : ∀ k, s ≤ itr f k (itr f n i)) : stopAt f n i = s := by
  obtain ⟨k, e⟩ := h1
  obtain ⟨k', e'⟩ := stop_mem f n i
  have a1 := stop_le hf hi k
  have a2 := h2 k'
  omega
theorem stop_step {f : Nat → Nat} {n i : Nat} (hf : ∀ i, i < n → f i < n) (hi : i < n) : stopAt f n (f i) = stopAt f n i := by
  have e : itr f n (f i) = f (itr f n i) := itr_succ f n i
  obtain ⟨p, p0, hp⟩ := ring_of hf hi
  refine stop_unique hf (hf i hi) ?_ fun k => ?_
  · obtain ⟨k, ek⟩ := stop_mem f n i
    refine ⟨k + p - 1, ?_⟩
    rw [ek, e]
    show _ = itr f (k + p - 1 + 1) (itr f n i)
    rw [show k + p - 1 + 1 = p + k by omega, itr_add, hp]
  · rw [e]
    exact stop_le hf hi (k + 1)
/-- on a ring that is written out: the least of it -/
theorem stop_ring {f : Nat → Nat} {n j m s : Nat} (hf : ∀ i, i < n → f i < n) (hj : j < n) (m0 : 0 < m) (h : itr f m j = j) (h1 : ∃ k, k < m ∧ s = itr f k j) (h2 : ∀ k, k < m → s ≤ itr f k j) : stopAt f n j = s := by
  have all : ∀ k, ∃ k', k' < m ∧ itr f k j = itr f k' j := fun k => by
    refine ⟨k % m, Nat.mod_lt _ m0, ?_⟩
    have e : k = m * (k / m) + k % m := (Nat.div_add_mod k m).symm
    conv => lhs; rw [e]
    rw [itr_add, ring_many h]
  refine stop_unique hf hj ?_ fun k => ?_
  · obtain ⟨k, _, e⟩ := h1
    refine ⟨k + (m * n - n), ?_⟩
    rw [e, ← itr_add]
    have hn : n ≤ m * n := Nat.le_mul_of_pos_left n m0
    rw [show n + (k + (m * n - n)) = m * n + k by omega, itr_add, ring_many h]
  · rw [← itr_add]
    obtain ⟨k', lt, e⟩ := all (n + k)
    rw [e]
    exact h2 k' lt
theorem stop_fix {f : Nat → Nat} {n j : Nat} (hf : ∀ i, i < n → f i < n) (hj : j < n) (h : f j = j) : stopAt f n j = j :=
  stop_ring hf hj (m := 1) (by decide) h ⟨0, by decide, rfl⟩ fun k hk => by
    have : k = 0 := by omega
    subst this
    exact Nat.le_refl _
end Mach

set_option maxRecDepth 100000
set_option maxHeartbeats 4000000
/-! for .. in enumerate(a tuple), as the hand layer has it for a list -/
namespace PySem
open Sem (wp)
open AutoSeq1 (wpAny_loadPart')
theorem my_enumerate_newT (l : Addr) (items : Array Value) (n : Nat) (dct : Option Addr) (sl : Array (Option Value)) :
    Meets (Builtin.«enumerate.__new__» ⟨[.type "enumerate", .ref l], []⟩) (fun _ R s => s.heap.get? l = some { cls := .type "tuple", dict := dct, data := .seq items n, slots := sl } ∧
      R (.ok (.ret (.ref (s.heap.push { cls := .type "tuple_iterator", data := .fields #[.ref l, .int 0 0] }).objs.size)))
        { s with heap := (s.heap.push { cls := .type "tuple_iterator", data := .fields #[.ref l, .int 0 0] }).push { cls := .type "enumerate", data := .fields #[.none, .bool false, .ref s.heap.objs.size, rawInt 0, .none, .none] } }) :=
  .of_wp fun prog w A R s h => by
    obtain ⟨hp, g, d, tk, os⟩ := s; obtain ⟨hl, h⟩ := h
    have hsub := sub_enumerate
    have hL : Heap.IsTuple (Shared.heap ⟨hp, g, d, tk, os⟩) l items := ⟨_, hl, rfl, n, rfl⟩
    wp_walk using wpAny_loadPart' hl
    refine wpAny_stack_any fun st => wpAny_pure ?_
    split
    · rename_i c _ _ _ _ _
      cases (c == Value.type "enumerate")
      · wp_walk using wpAny_loadPart' hl, wpAny_pyIter_tuple hL
        exact ⟨_, rfl, h⟩
      · wp_walk using wpAny_loadPart' hl, wpAny_pyIter_tuple hL
        exact ⟨_, rfl, h⟩
    · wp_walk using wpAny_loadPart' hl, wpAny_pyIter_tuple hL
      exact ⟨_, rfl, h⟩
section
variable {prog : Program} {w : World} {A : Around} {E : Value → Shared → Prop} {s : Shared}
theorem my_enumerate_tuple {l : Addr} {items : Array Value} {Q : Value → Shared → Prop} (hL : s.heap.IsTuple l items)
    (h : ∀ h', IsEnum h' (s.heap.objs.size + 1) s.heap.objs.size 0 .none → h'.IsTupleIter s.heap.objs.size l 0 → h'.objs.size = s.heap.objs.size + 2 →
      (∀ b o, s.heap.get? b = some o → h'.get? b = some o) → Q (.ref (s.heap.objs.size + 1)) { s with heap := h' }) :
    wpAny (model prog w) A (call (.type "enumerate") [.ref l]) Q E s := by
  obtain ⟨⟨c, dct, dt, sl⟩, hl, hc, n, hd⟩ := hL
  replace hc : c = .type "tuple" := hc
  replace hd : dt = .seq items n := hd
  subst hc hd
  refine callType_new F.called_enumerate (by decide) (F.typeCall_enumerate_1 _) (F.newCall_enumerate_1 _) (fun obj => F.args_object_init_2 obj _) F.entry_enumerate_new
    (my_enumerate_newT l items n dct sl) ⟨hl, ?_⟩
  have hz : (s.heap.push { cls := .type "tuple_iterator", data := .fields #[.ref l, .int 0 0] }).objs.size = s.heap.objs.size + 1 := Heap.size_push ..
  show _ ∧ _
  rw [hz]
  have he : IsEnum ((s.heap.push { cls := .type "tuple_iterator", data := .fields #[.ref l, .int 0 0] }).push
      { cls := .type "enumerate", data := .fields #[.none, .bool false, .ref s.heap.objs.size, rawInt 0, .none, .none] }) (s.heap.objs.size + 1) s.heap.objs.size 0 .none := by
    have := Heap.get?_push_size (s.heap.push { cls := .type "tuple_iterator", data := .fields #[.ref l, .int 0 0] })
      (o := { cls := .type "enumerate", data := .fields #[.none, .bool false, .ref s.heap.objs.size, rawInt 0, .none, .none] }) rfl
    rw [hz] at this; exact this
  refine ⟨⟨_, he, rfl⟩, h _ he ⟨_, Heap.get?_push_of_some _ (Heap.get?_push_size _ rfl), rfl, rfl⟩ (by rw [Heap.size_push, hz]) fun b o x => Heap.get?_push_of_some _ (Heap.get?_push_of_some _ x)⟩
end
end PySem
namespace L2
open PySem PySem.Spec PyProof.Rows
/-- the tuple at a, each item in a new pair -/
def IteT (K : PySem.W.Frag) (a : Addr) : It :=
  ⟨fun i H => ∃ (xs : List V) (x : V), SqT K H a xs ∧ xs[i]? = some x, fun i H v H' => ∃ T x, v = .ref T ∧ H T = none ∧ H' = upd H T (.tup [.int (i : Nat), x]) ∧ ∀ xs, SqT K H a xs → xs[i]? = some x, fun i H => ∃ xs : List V, SqT K H a xs ∧ xs.length = i⟩
theorem turn_enumT {P : Program} {w : World} {K : PySem.W.Frag} {elts : List Expr} {kk : Nat} {tpos : Pos} (a e it : Addr) (nae : a ≠ e) (nai : a ≠ it) :
    Turn P w K (.Tuple elts kk tpos) (IteT K a) [e, it] e (fun i h => (∃ old, IsEnum h e it ((i : Nat) : Int) old) ∧ h.IsTupleIter it a i ∧ e ≠ it) where
  mem := by simp
  obj := fun i h st b hb => by
    obtain ⟨⟨old, he⟩, ⟨o, ho, hc, hd⟩, _⟩ := st
    have e' : b = e ∨ b = it := by simpa using hb
    rcases e' with z | z
    · rw [z]; exact ⟨_, he, fun v q => nomatch q⟩
    · rw [z]; exact ⟨o, ho, fun v q => by rw [hd] at q; cases q⟩
  keep := fun i h h' st k => by
    obtain ⟨⟨old, he⟩, ⟨o, ho, r⟩, hne⟩ := st
    exact ⟨⟨old, k e (by simp) _ he⟩, ⟨o, k it (by simp) o ho, r⟩, hne⟩
  item := by
    intro X hP hw hK hc i pins s σ H E I hf st hg
    subst hP hw hK
    obtain ⟨⟨old, he⟩, hit, hne⟩ := st
    obtain ⟨xs, x, hq, hx⟩ := hg
    obtain ⟨its, rv, p, hz⟩ := I.tuple hq
    obtain ⟨u, hu, ru⟩ := rv.get hx
    have hel : e < s.heap.objs.size := Heap.lt_size he
    have hil : it < s.heap.objs.size := by obtain ⟨_, q, _⟩ := hit; exact Heap.lt_size q
    have hi : i < its.toArray.size := by
      have := (List.getElem?_eq_some_iff.mp hu).1
      simpa using this
    refine wpAny_pyNext_enum_itemD (Draws.tuple (prog := X.prog) (w := X.w) (A := X.A.in1) (I.ok.hd hc) it a nai its.toArray) he ⟨hit, show s.heap.IsTuple a its.toArray from p⟩ hi hne (by simp [Ne.symm nae, hne]) fun x2 h' tk hx2 ho hit' hT hsz hk => ?_
    have ex : x2 = u := by
      have e1 : its.toArray[i]? = some u := by simpa using hu
      rw [e1] at hx2
      exact (Option.some.inj hx2).symm
    subst ex
    refine ⟨_, rfl, wpAny_letOwnedTupleGo_enum (s := { s with heap := h', toks := tk + 1 }) ho fun h'' he' sb => ?_⟩
    have hT2 : h''.get? s.heap.objs.size = some { cls := .type "tuple", data := .seq #[.int i tk, x2] } := (sb.2 _ (Nat.ne_of_gt hel)).trans hT
    have new : ObjOk X.prog X.w (upd H s.heap.objs.size (.tup [.int (i : Nat), x])) h'' s.heap.objs.size (.tup [.int (i : Nat), x]) :=
      ⟨by show 2 ≤ sizeLine; decide, [.int i tk, x2], .cons ⟨_, rfl⟩ (.cons ru .nil), ⟨_, hT2, rfl, _, rfl⟩⟩
    have I1 : Inv X pins σ (upd H s.heap.objs.size (.tup [.int (i : Nat), x])) { s with heap := h'', toks := tk + 1 } :=
      I.turnedNew (ch := [e, it]) (fun b ob hb q => (sb.2 b (fun z => hb (by simp [z]))).trans (hk b ob (fun z => hb (by simp [z])) (fun z => hb (by simp [z])) q)) hf (Nat.le_refl _) new
    refine ⟨.ref s.heap.objs.size, _, I1, rfl, ⟨_, x, rfl, I.hok.fresh (Nat.le_refl _), rfl, fun ys hy => by rw [I.tuple_inj hy hq]; exact hx⟩, ⟨⟨x2, ?_⟩, ?_, hne⟩, fun b hb => ?_⟩
    · have e1 : ((i + 1 : Nat) : Int) = (i : Int) + 1 := by omega
      rw [e1]; exact he'
    · obtain ⟨o, ho2, r⟩ := hit'.1
      exact ⟨o, (sb.2 it (Ne.symm hne)).trans ho2, r⟩
    · have hb' : b < s.heap.objs.size := by
        have e' : b = e ∨ b = it := by simpa using hb
        rcases e' with z | z
        · rw [z]; exact hel
        · rw [z]; exact hil
      rw [upd_ne (Nat.ne_of_lt hb')]
      exact (hf b hb).1
  done := by
    intro X hP hw hK hc i pins s σ H E I hf st hg
    subst hP hw hK
    obtain ⟨⟨old, he⟩, hit, hne⟩ := st
    obtain ⟨xs, hq, hx⟩ := hg
    obtain ⟨its, rv, p, hz⟩ := I.tuple hq
    obtain ⟨f0, f1, f2, f3, f4, f5⟩ := hf it (by simp)
    have hl := rv.length
    have ei : i = its.toArray.size := by simp; omega
    subst ei
    exact wpAny_pyNext_enum_endD (Draws.tuple (prog := X.prog) (w := X.w) (A := X.A.in1) (I.ok.hd hc) it a nai its.toArray) he ⟨hit, show s.heap.IsTuple a its.toArray from p⟩ fun h' eb => ⟨rfl, I.turned (t' := s.toks) (fun b o hb q => eb b o hb q) f0 f1 f3 f4 f5⟩
  self := fun A i s Q E st h => let ⟨⟨_, he⟩, _⟩ := st; wpAny_pyIter_enum he h
def iEnumT (K : PySem.W.Frag) (ta : TA) : TI := fun σ H R => ta σ H fun vs H1 => ∃ a xs, vs = [.ref a] ∧ SqT K H1 a xs ∧ R (IteT K a) H1
theorem pi_enumT {X : Cx} {e : Expr} {ta : TA} {p pos tpos : Pos} {elts : List Expr} {kk : Nat} (hg : Gl X "enumerate") (hm : X.mg "enumerate" = none) (ha : PA X [e] ta) (hs : starEach [e] X.env = [(false, eval e X.env)] := by rfl) :
    PI X (.Tuple elts kk tpos) (.Call (.Name "enumerate" p) [e] [] pos) (iEnumT X.K ta) := by
  refine ⟨fun pins s σ H R I h => ?_⟩
  refine Call_ (ld_blt I hg hm boot_enumerate (PyProof.Rows.callWith_type1 (thn (ha.run pos pins s σ H _ I h) fun us s1 ⟨vs, H1, I1, r1, q1⟩ => ?_) hs rfl))
  obtain ⟨a, xs, ex, hq, q⟩ := q1
  subst ex
  cases r1 with
  | cons r rr =>
    cases rr
    cases r
    obtain ⟨its, rv, p', hz⟩ := I1.tuple hq
    have hal : a < s1.heap.objs.size := by obtain ⟨o, ho, _⟩ := p'; exact Heap.lt_size ho
    refine my_enumerate_tuple (show s1.heap.IsTuple a its.toArray from p') fun h' he hit hsz hk => wpAny_pyIter_enum he ?_
    have I2 : Inv X pins σ H1 { s1 with heap := h' } := I1.kept (t' := s1.toks) hk
    refine ⟨s1.heap.objs.size + 1, [s1.heap.objs.size + 1, s1.heap.objs.size], _, _, H1, rfl, I2, turn_enumT a (s1.heap.objs.size + 1) s1.heap.objs.size (Nat.ne_of_lt (Nat.lt_succ_of_lt hal)) (Nat.ne_of_lt hal), ⟨⟨.none, he⟩, hit, Nat.succ_ne_self _⟩, fun b hb => ?_, q⟩
    have e' : b = s1.heap.objs.size + 1 ∨ b = s1.heap.objs.size := by simpa using hb
    have hle : s1.heap.objs.size ≤ b := by
      rcases e' with z | z
      · rw [z]; exact Nat.le_add_right _ _
      · rw [z]; exact Nat.le_refl _
    exact I1.fpOk hle (I1.hok.fresh hle)
/-- over enumerate(a tuple that stands) -/
theorem for_enumT {K : PySem.W.Frag} {a : Addr} {xs : List V} {g : TG} {tb : TS} {D : Ends} {σ : St} {H : Hp} (Pv : Nat → St → Hp → Prop) (h0 : Pv 0 σ H) (hl : ∀ i σ H, i ≤ xs.length → Pv i σ H → SqT K H a xs)
    (hs : ∀ i x σ H T H', xs[i]? = some x → Pv i σ H → H T = none → Same H H' → H' T = some (.tup [.int (i : Nat), x]) → g (.ref T) σ H' fun σ2 H2 => tb { D with nx := Pv (i + 1), ct := Pv (i + 1), bk := D.nx } σ2 H2)
    (hd : ∀ σ H, Pv xs.length σ H → D.nx σ H) :
    ∃ W : Nat → Nat → St → Hp → Prop, (∃ m, W 0 m σ H) ∧ ∀ i m σ H, W i m σ H →
      ((IteT K a).stop i H ∧ D.nx σ H) ∨ ((IteT K a).go i H ∧ ∃ N : St → Hp → Prop, (∀ σ' H', N σ' H' → ∃ m', m' < m ∧ W (i + 1) m' σ' H') ∧ ∀ x H', (IteT K a).yld i H x H' → g x σ H' fun σ2 H2 => tb { D with nx := N, ct := N, bk := D.nx } σ2 H2) := by
  refine ⟨fun i m σ H => m = xs.length - i ∧ i ≤ xs.length ∧ Pv i σ H, ⟨xs.length, by simp, Nat.zero_le _, h0⟩, ?_⟩
  rintro i m σ H ⟨rfl, hi, p⟩
  have q := hl i σ H hi p
  by_cases hlt : i < xs.length
  · refine .inr ⟨⟨xs, xs[i], q, by simp [hlt]⟩, Pv (i + 1), fun σ' H' p' => ⟨xs.length - (i + 1), by omega, rfl, hlt, p'⟩, fun v H' y => ?_⟩
    obtain ⟨T, x, e, n, e2, y⟩ := y
    subst e e2
    exact hs i x σ H T _ (y xs q) p n (sameNew n _) upd_same
  · have e : i = xs.length := by omega
    subst e
    exact .inl ⟨⟨xs, q, rfl⟩, hd σ H p⟩
end L2

set_option maxRecDepth 100000
set_option maxHeartbeats 4000000
/-! len(o), o[i], ==, != of an own class with its own __len__, __getitem__, __eq__ -/
namespace PySem
open PySem.W PySem.Calls PyProof.Rows Builtin
section
variable {prog : Program} {w : World} {A : Around} {E : Value → Shared → Prop} {s : Shared} {K : Frag} {x C L f : Addr} {h₀ : Heap} {m : Str → Option Value} {ox : Obj} {od : Option Obj} {b tb : Value}
theorem my_objNe (hu : A.units < cLine) (X : K.In s.heap) (I : InstAt s.heap x ox C od) (hs : findIn K (.ref C) "__eq__" = some (some (.ref f))) (hf : isFn K (.ref f) = true) {Q : Fin → Shared → Prop}
    (hcall : wpAny (model prog w) A (call (.ref f) [.ref x, b]) (fun v s' => ∃ r, v = .bool r ∧ Q (.done (.ret (.bool (!r)))) s') E s) : wpAny (model prog w) A (Builtin.«object.__ne__» ⟨[.ref x, b], []⟩) Q E s := by
  unfold Builtin.«object.__ne__»
  repeat (first
    | with_reducible refine wpAny_cRoomFor hu ?_
    | (refine wpAny_bind (m := callSpecialIfBound? (.ref x) (Str.ofString "__eq__") [b])
        (ifBound_K X I hs hf (wpAny_mono hcall (fun r s' hr => by
          obtain ⟨b, rfl, hq⟩ := hr
          repeat (first | exact hq | exact wpAny_pure hq | exact wpAny_truthy_bool hq | (refine wpAny_bind (m := truthy (.bool _)) (wpAny_truthy_bool ?_)) | wp_step)) fun _ _ e => e)))
    | wp_step)
theorem my_ifBoundB {M : Model} {name : Str} {id : String} {args : List Value} {Q : Option Value → Shared → Prop} (X : K.In s.heap) (I : InstAt s.heap x ox C od) (hs : findIn K (.ref C) name = some (some (.builtin id))) (S : Slot "object" name id)
    (h : wpAny M A (call (.builtin id) (.ref x :: args)) (fun v => Q (some v)) E s) : wpAny M A (callSpecialIfBound? (.ref x) name args) Q E s := by
  simp only [callSpecialIfBound?, bindSpecialIfBound?]
  refine wpAny_holding (wpAny_bind (wpAny_bind (wpAny_bind (I.type.here ((looks_findIn X hs).here ?_)))))
  simp only [S.bind]
  refine wpAny_bind (wpAny_askSetting (wpAny_ite ?_))
  have fin : wpAny M A (call (.builtin id) ([.ref x] ++ args) >>= fun v => pure (some v)) Q E s := wpAny_bind (wpAny_mono h (fun v s' h' => wpAny_pure h') fun _ _ h' => h')
  split
  · exact wpAny_bind (wpAny_pure (wpAny_pure fin))
  · exact wpAny_tryCatch (wpAny_bind (wpAny_pure (wpAny_pure fin)))
theorem my_ne {Q : Value → Shared → Prop} (hu : A.units + 1 < cLine) (F : Fr h₀ L s.heap m) (X₀ : K.In h₀) (I : InstAt s.heap x ox C od) (hb : Looks (model prog w) s.heap (typeOf b) tb) (hn : notFirst K C tb = true)
    (hne : findIn K (.ref C) "__ne__" = some (some (.builtin "object.__ne__"))) (hob : subIn K (.ref C) (.type "object") = some true) (hs : findIn K (.ref C) "__eq__" = some (some (.ref f))) (hf : isFn K (.ref f) = true)
    (h : wpAny (model prog w) A.in1 (call (.ref f) [.ref x, b]) (fun v s' => ∃ r, v = .bool r ∧ Q (.bool (!r)) s') E s) : wpAny (model prog w) A (richCompare .NotEq (.ref x) b) Q E s := by
  have X := X₀.keeps F.keep
  have one : wpAny (model prog w) A (tryCompare (.ref x) "__ne__" b) (fun r s' => ∃ v, r = some v ∧ Q v s') E s := by
    unfold tryCompare
    refine wpAny_bind (my_ifBoundB X I hne PySem.F.cmp_object.ne (wpAny_call (codeAny_call_builtin PySem.F.cmp_object.ne.plain PySem.F.cmpEntry_ne (check_slot PySem.F.cmpKind_ne PySem.F.cmpSplit_ne (I.type.andThen (looks_subIn X hob)) (PySem.F.cmpArgs_ne _ _) (my_objNe (A := A.in1) (by show A.units + 1 < cLine; exact hu) X I hs hf (wpAny_mono h (fun v s' hv => ?_) fun _ _ e => e))))))
    obtain ⟨b, rfl, hq⟩ := hv
    first | exact ⟨b, rfl, wpAny_pure ⟨_, rfl, hq⟩⟩ | exact ⟨b, rfl, wpAny_pure (wpAny_pure ⟨_, rfl, hq⟩)⟩ | exact ⟨b, rfl, _, rfl, hq⟩
  unfold richCompare
  simp only [oneThing_ref]
  refine wpAny_holding (wpAny_bind (wpAny_cRoomFor (Nat.lt_of_succ_lt hu) ?_))
  rw [cmpInfo_NotEq]
  dsimp only
  refine wpAny_bind (I.type.here (wpAny_bind (hb.here ?_)))
  split
  · rename_i q
    have e : subIn K tb (.ref C) = some false := by
      rcases Bool.or_eq_true_iff.mp hn with e | e
      · rw [beq_iff_eq.mp e] at q; simp at q
      · exact beq_iff_eq.mp e
    refine wpAny_bind ((looks_subIn X e).here ?_)
    simp only [Bool.false_eq_true, if_false]
    refine wpAny_bind (wpAny_mono one (fun r s' z => ?_) fun _ _ e => e)
    obtain ⟨v, rfl, hq⟩ := z
    exact wpAny_pure hq
  · refine wpAny_bind (wpAny_pure ?_)
    simp only [Bool.false_eq_true, if_false]
    refine wpAny_bind (wpAny_mono one (fun r s' z => ?_) fun _ _ e => e)
    obtain ⟨v, rfl, hq⟩ := z
    exact wpAny_pure hq
end
end PySem
namespace L2
open PySem PySem.Spec PyProof.Rows
section
variable {X : Cx} {CX : CXT} {k : Nat} {C f : Addr} {fd : FuncData} {ps : List Str} {sp : Sp} {E : XK}
theorem run_own1 {pins : List (Addr × Obj)} {σ : St} {H : Hp} {s : Shared} {Q : VK} {us : List Value} {vs : List V} (F : FnOk X.prog X.w X.K X.mg X.base CX k f fd ps sp) (hr : Room (k + 1) X.A) (hb : Binds X.K fd ps []) (hx : Passes CX X E)
    (I : Inv X pins σ H s) (r : Vals vs us) (h : sp vs H Q E) : wpAny (model X.prog X.w) X.A.in1 (call (.ref f) us) (EP X pins σ Q) X.xe s := by
  have hl : us.length = ps.length := by rw [← r.length]; exact F.len _ _ _ _ h
  have hb2 := hb s us I.kIn (by simpa using hl)
  rw [List.append_nil] at hb2
  refine wpAny_call (codeAny_mono (F.run X.A.in1 X.stack s H ⟨us, []⟩ us vs Q E hr.in1 I.env0.in1 hb2 r h) fun r s' hq => ?_)
  cases r with
  | error e => exact hx pins σ H s e s' I hq
  | ok fl =>
    cases fl with
    | ret u => exact I.after hq
    | next => exact False.elim hq
    | brk => exact False.elim hq
    | cont => exact False.elim hq
theorem call_lenO (F : FnOk X.prog X.w X.K X.mg X.base CX k f fd ps sp) (hr : Room (k + 1) X.A) (hb : Binds X.K fd ps []) (hx : Passes CX X E) (hs : PySem.W.findIn X.K (.ref C) "__len__" = some (some (.ref f))) (hf : PySem.W.isFn X.K (.ref f) = true) :
    CallR X (.builtin "len") (fun xs H Q => ∃ (a dx : Addr) (fs : List (Str × V)), xs = [.ref a] ∧ H a = some (.ins C dx fs) ∧ sp [.ref a] H (fun v H' => ∃ n : Int, v = .int n ∧ 0 ≤ n ∧ n < 2 ^ 63 ∧ Q (.int n) H') E) := by
  intro pins s σ H xs us Q I r h
  obtain ⟨a, dx, fs, rfl, ha, h⟩ := h
  obtain rfl := Vals.ref1 r
  obtain ⟨mA, J, _⟩ := ins_get I.hok ha
  obtain ⟨od, J, _⟩ := J.look
  obtain ⟨m, hF⟩ := I.fr
  refine PySem.W.len_K hF I.ok.mod.kin J hs hf (wpAny_mono (run_own1 F hr hb hx I (vs := [.ref a]) (.cons rfl .nil) h) (fun r s' z => ?_) fun _ _ y => y)
  obtain ⟨v, H', I', rv, n, rfl, h0, h1, q⟩ := z
  obtain ⟨t, rfl⟩ := rv
  exact ⟨⟨h0, h1⟩, .int n, H', I'.tok _, ⟨_, rfl⟩, q⟩
/-- o[i] -/
def tIxO (C : Addr) (sp : Sp) (E : XK) (ta tb : TE) : TE := fun σ H Q => ta σ H fun x H1 => tb σ H1 fun y H2 => ∃ (a dx : Addr) (fs : List (Str × V)), x = .ref a ∧ H2 a = some (.ins C dx fs) ∧ sp [.ref a, y] H2 Q E
theorem pe_ixO {o i : Expr} {ta tb : TE} {pos : Pos} (F : FnOk X.prog X.w X.K X.mg X.base CX k f fd ps sp) (hr : Room (k + 1) X.A) (hb : Binds X.K fd ps []) (hx : Passes CX X E) (hs : PySem.W.findIn X.K (.ref C) "__getitem__" = some (some (.ref f))) (hf : PySem.W.fnIn X.K f = true) (hfn : PySem.W.isFn X.K (.ref f) = true)
    (ha : PE X o ta) (hi : PE X i tb) (hsl : ∀ ov iv, subscripted i true ov iv = runValue (.builtin "lifetime.subscript" ⟨[ov, iv], []⟩)) : PE X (.Subscript o i pos) (tIxO C sp E ta tb) := by
  refine ⟨fun pins s σ H Q I h => ?_⟩
  refine Subscript_ (thn (ha.run pins s σ H _ I h) fun v s1 ⟨x, H1, I1, r1, q1⟩ => thn (hi.run pins s1 σ H1 _ I1 q1) fun u s2 ⟨y, H2, I2, r2, q2⟩ => ?_)
  obtain ⟨a, dx, fs, rfl, e, q⟩ := q2
  obtain rfl : v = Value.ref a := r1
  obtain ⟨mA, J, _⟩ := ins_get I2.hok e
  obtain ⟨od, J, _⟩ := J.look
  obtain ⟨m, hF⟩ := I2.fr
  exact PySem.W.sub_K hF I2.ok.mod.kin J hs hf hfn (run_own1 F hr hb hx I2 (vs := [.ref a, y]) (.cons rfl (.cons r2 .nil)) q) (hsl _ _)
/-- a == b by a's own __eq__ -/
def rEqO (K : PySem.W.Frag) (C : Addr) (sp : Sp) (E : XK) : R2 := fun x y H Q => ∃ (a dx : Addr) (fs : List (Str × V)) (t : Value), x = .ref a ∧ H a = some (.ins C dx fs) ∧ TyX K H y t ∧ PySem.W.notFirst K C t = true ∧ sp [.ref a, y] H (fun v H' => ∃ b, v = .bl b ∧ Q (.bl b) H') E
theorem op_eqO (F : FnOk X.prog X.w X.K X.mg X.base CX k f fd ps sp) (hr : Room k X.A) (hb : Binds X.K fd ps []) (hx : Passes CX X E) (hs : PySem.W.findIn X.K (.ref C) "__eq__" = some (some (.ref f))) (hf : PySem.W.isFn X.K (.ref f) = true) : OpR X (compareOp .Eq) (rEqO X.K C sp E) := by
  intro pins s σ H x y v u Q I rx ry h
  obtain ⟨a, dx, fs, t, rfl, ha, ty, nf, h⟩ := h
  obtain rfl : v = Value.ref a := rx
  obtain ⟨P, kx, hp, _⟩ := kit_of I ry ty
  obtain ⟨mA, J, _⟩ := ins_get I.hok ha
  obtain ⟨od, J, _⟩ := J.look
  obtain ⟨m, hF⟩ := I.fr
  show wpAny (model X.prog X.w) X.A (richCompare .Eq (.ref a) u) _ _ _
  refine PySem.W.cmp_K (op := .Eq) hr.units0 hF I.ok.mod.kin J (kx.ty _ _ I.kIn hp) nf hs hf (wpAny_mono (run_fn F hr hb .nil hx I (us := [.ref a, u]) (vs := [.ref a, y]) (.cons rfl (.cons ry .nil)) h) (fun r s' z => ?_) fun _ _ e => e)
  obtain ⟨v, H', I', rv, b, rfl, q⟩ := z
  cases rv
  exact ⟨.bl b, H', I', rfl, q⟩
/-- a != b by a's own __eq__ -/
def rNeO (K : PySem.W.Frag) (C : Addr) (sp : Sp) (E : XK) : R2 := fun x y H Q => ∃ (a dx : Addr) (fs : List (Str × V)) (t : Value), x = .ref a ∧ H a = some (.ins C dx fs) ∧ TyX K H y t ∧ PySem.W.notFirst K C t = true ∧ sp [.ref a, y] H (fun v H' => ∃ b, v = .bl b ∧ Q (.bl (!b)) H') E
theorem op_neO (F : FnOk X.prog X.w X.K X.mg X.base CX k f fd ps sp) (hr : Room (k + 1) X.A) (hb : Binds X.K fd ps []) (hx : Passes CX X E) (hs : PySem.W.findIn X.K (.ref C) "__eq__" = some (some (.ref f))) (hf : PySem.W.isFn X.K (.ref f) = true)
    (hne : PySem.W.findIn X.K (.ref C) "__ne__" = some (some (.builtin "object.__ne__"))) (hob : PySem.W.subIn X.K (.ref C) (.type "object") = some true) (hu : X.A.units + 1 < cLine) : OpR X (compareOp .NotEq) (rNeO X.K C sp E) := by
  intro pins s σ H x y v u Q I rx ry h
  obtain ⟨a, dx, fs, t, rfl, ha, ty, nf, h⟩ := h
  obtain rfl : v = Value.ref a := rx
  obtain ⟨P, kx, hp, _⟩ := kit_of I ry ty
  obtain ⟨mA, J, _⟩ := ins_get I.hok ha
  obtain ⟨od, J, _⟩ := J.look
  obtain ⟨m, hF⟩ := I.fr
  show wpAny (model X.prog X.w) X.A (richCompare .NotEq (.ref a) u) _ _ _
  refine PySem.my_ne hu hF I.ok.mod.kin J (kx.ty _ _ I.kIn hp) nf hne hob hs hf (wpAny_mono (run_own1 F hr hb hx I (us := [.ref a, u]) (vs := [.ref a, y]) (.cons rfl (.cons ry .nil)) h) (fun r s' z => ?_) fun _ _ e => e)
  obtain ⟨v, H', I', rv, b, rfl, q⟩ := z
  cases rv
  exact ⟨b, rfl, .bl (!b), H', I', rfl, q⟩
end
section
variable {X : Cx} {CX : CXT} {k : Nat} {C f : Addr} {fd : FuncData} {ps : List Str} {sp : Sp} {E : St → XK}
theorem run_own1S {pins : List (Addr × Obj)} {σ : St} {H : Hp} {s : Shared} {Q : VK} {us : List Value} {vs : List V} (F : FnOk X.prog X.w X.K X.mg X.base CX k f fd ps sp) (hr : Room (k + 1) X.A) (hb : Binds X.K fd ps []) (hx : PassesAt CX X σ (E σ))
    (I : Inv X pins σ H s) (r : Vals vs us) (h : sp vs H Q (E σ)) : wpAny (model X.prog X.w) X.A.in1 (call (.ref f) us) (EP X pins σ Q) X.xe s := by
  have hl : us.length = ps.length := by rw [← r.length]; exact F.len _ _ _ _ h
  have hb2 := hb s us I.kIn (by simpa using hl)
  rw [List.append_nil] at hb2
  refine wpAny_call (codeAny_mono (F.run X.A.in1 X.stack s H ⟨us, []⟩ us vs Q (E σ) hr.in1 I.env0.in1 hb2 r h) fun r s' hq => ?_)
  cases r with
  | error e => exact hx pins H s e s' I hq
  | ok fl =>
    cases fl with
    | ret u => exact I.after hq
    | next => exact False.elim hq
    | brk => exact False.elim hq
    | cont => exact False.elim hq
/-- o[i], what it lets out told at the slots -/
def tIxOS (C : Addr) (sp : Sp) (E : St → XK) (ta tb : TE) : TE := fun σ H Q => ta σ H fun x H1 => tb σ H1 fun y H2 => ∃ (a dx : Addr) (fs : List (Str × V)), x = .ref a ∧ H2 a = some (.ins C dx fs) ∧ sp [.ref a, y] H2 Q (E σ)
theorem pe_ixOS {o i : Expr} {ta tb : TE} {pos : Pos} (F : FnOk X.prog X.w X.K X.mg X.base CX k f fd ps sp) (hr : Room (k + 1) X.A) (hb : Binds X.K fd ps []) (hx : ∀ σ, PassesAt CX X σ (E σ)) (hs : PySem.W.findIn X.K (.ref C) "__getitem__" = some (some (.ref f))) (hf : PySem.W.fnIn X.K f = true) (hfn : PySem.W.isFn X.K (.ref f) = true)
    (ha : PE X o ta) (hi : PE X i tb) (hsl : ∀ ov iv, subscripted i true ov iv = runValue (.builtin "lifetime.subscript" ⟨[ov, iv], []⟩)) : PE X (.Subscript o i pos) (tIxOS C sp E ta tb) := by
  refine ⟨fun pins s σ H Q I h => ?_⟩
  refine Subscript_ (thn (ha.run pins s σ H _ I h) fun v s1 ⟨x, H1, I1, r1, q1⟩ => thn (hi.run pins s1 σ H1 _ I1 q1) fun u s2 ⟨y, H2, I2, r2, q2⟩ => ?_)
  obtain ⟨a, dx, fs, rfl, e, q⟩ := q2
  obtain rfl : v = Value.ref a := r1
  obtain ⟨mA, J, _⟩ := ins_get I2.hok e
  obtain ⟨od, J, _⟩ := J.look
  obtain ⟨m, hF⟩ := I2.fr
  exact PySem.W.sub_K hF I2.ok.mod.kin J hs hf hfn (run_own1S F hr hb (hx σ) I2 (vs := [.ref a, y]) (.cons rfl (.cons r2 .nil)) q) (hsl _ _)
end
end L2

set_option maxRecDepth 100000
set_option maxHeartbeats 4000000
/-! == of two dicts whose values are whole numbers, equal or not -/
namespace L2
open PySem PySem.Spec PyProof.Rows
def hitB (ls : List (Key × V)) : List (Key × V) → Bool
  | [] => true
  | p :: r => match valV ls p.1 with
    | none => false
    | some y => decide (p.2 = y) && hitB ls r
def IntsD (ks : List (Key × V)) : Prop := ∀ p ∈ ks, ∃ i : Int, p.2 = .int i
theorem IntsD.val {ls : List (Key × V)} (h : IntsD ls) {k : Key} {y : V} (e : valV ls k = some y) : ∃ i : Int, y = .int i := by
  unfold valV at e
  cases q : ls.find? fun kv => decide (kv.1 = k) with
  | none => rw [q] at e; cases e
  | some p =>
    rw [q] at e
    have e2 : p.2 = y := Option.some.inj e
    rw [← e2]
    exact h p (List.mem_of_find?_eq_some q)
theorem hits_ints {A : Around} {s : Shared} {ls : List (Key × V)} {vb : List (Key × Value)} (rb : KV ls vb) (il : IntsD ls) {ks : List (Key × V)} {va : List (Key × Value)} (ra : KV ks va) :
    IntsD ks → PySem.W.KeqHits A s vb va (hitB ls ks) := by
  unfold KV at ra
  induction ra with
  | nil => intro _; exact .nil
  | @cons p q ps qs h t ih =>
    intro hp
    obtain ⟨h1, h2⟩ := h
    obtain ⟨k, v⟩ := q
    have h1' : p.1 = k := h1
    have rr := rb.val p.1
    obtain ⟨i, ei⟩ := hp p List.mem_cons_self
    cases e : valV ls p.1 with
    | none =>
      rw [e] at rr
      have hn := RelO.none_of rr
      rw [h1'] at hn
      have z : hitB ls (p :: ps) = false := by
        unfold hitB
        rw [e]
      rw [z]
      exact .miss hn
    | some y =>
      rw [e] at rr
      obtain ⟨y', hy, ry⟩ := rr.some_of
      rw [h1'] at hy
      obtain ⟨j, ej⟩ := il.val e
      have z : hitB ls (p :: ps) = (decide (p.2 = y) && hitB ls ps) := by
        conv => lhs; unfold hitB
        rw [e]
      rw [z]
      refine .hit hy ?_ (ih fun p' hm => hp p' (List.mem_cons_of_mem _ hm))
      subst ej
      rw [ei] at h2 ⊢
      obtain ⟨t1, rfl⟩ := (show ∃ t, v = Value.int i t from h2)
      obtain ⟨t2, rfl⟩ := (show ∃ t, y' = Value.int j t from ry)
      rw [dec_int]
      exact SeqAt.EqAt.int_int i t1 j t2
section
variable {X : Cx}
def rEqDI : R2 := fun x y H Q => ∃ a b ks ls, x = .ref a ∧ y = .ref b ∧ H a = some (.dK ks) ∧ H b = some (.dK ls) ∧ IntsD ks ∧ IntsD ls ∧ Q (.bl (ks.length == ls.length && hitB ls ks)) H
def rNeDI : R2 := fun x y H Q => ∃ a b ks ls, x = .ref a ∧ y = .ref b ∧ H a = some (.dK ks) ∧ H b = some (.dK ls) ∧ IntsD ks ∧ IntsD ls ∧ Q (.bl (!(ks.length == ls.length && hitB ls ks))) H
theorem op_eq_dictI (hu : X.A.units < cLine) : OpR X (compareOp .Eq) rEqDI := by
  intro pins s σ H x y v u Q I rx ry h
  obtain ⟨a, b, ks, ls, rfl, rfl, ea, eb, ia, ib, q⟩ := h
  obtain rfl : v = Value.ref a := rx
  obtain rfl : u = Value.ref b := ry
  obtain ⟨_, ya, va, ra, da⟩ := (show ObjOk X.prog X.w H s.heap a (.dK ks) from I.hok a _ ea)
  obtain ⟨_, yb, vb, rb, db⟩ := (show ObjOk X.prog X.w H s.heap b (.dK ls) from I.hok b _ eb)
  exact PySem.W.keq_eq (knd := mixKind X.prog X.w) ya yb da db hu (fun _ => hits_ints rb ib ra ia) (fin_bl I q (by rw [ra.length, rb.length]))
theorem op_ne_dictI (hu : X.A.units < cLine) : OpR X (compareOp .NotEq) rNeDI := by
  intro pins s σ H x y v u Q I rx ry h
  obtain ⟨a, b, ks, ls, rfl, rfl, ea, eb, ia, ib, q⟩ := h
  obtain rfl : v = Value.ref a := rx
  obtain rfl : u = Value.ref b := ry
  obtain ⟨_, ya, va, ra, da⟩ := (show ObjOk X.prog X.w H s.heap a (.dK ks) from I.hok a _ ea)
  obtain ⟨_, yb, vb, rb, db⟩ := (show ObjOk X.prog X.w H s.heap b (.dK ls) from I.hok b _ eb)
  exact PySem.W.keq_ne (knd := mixKind X.prog X.w) ya yb da db hu (fun _ => hits_ints rb ib ra ia) (fin_bl I q (by rw [ra.length, rb.length]))
end
end L2

set_option maxRecDepth 100000
set_option maxHeartbeats 4000000
namespace Mine
open PySem L2
def top (i : Nat) : Stmt := PySem.Challenge.pw_askfurther_k01_bodies_told.main.body.getD i (.Pass ⟨0, 0, 0, 0⟩)
abbrev s_is_integer : Stmt := top 12
abbrev s_is_within : Stmt := top 13
abbrev s_is_index : Stmt := top 14
abbrev s_is_row : Stmt := top 15
abbrev s_is_name : Stmt := top 16
abbrev s_is_text_in : Stmt := top 17
/-- the built-in types whose things are passed -/
def bts : List String := ["NoneType", "bool", "int", "str", "float", "list", "tuple", "dict", "bytes", "set"]
def kb (t u : String) : Bool := t == u || (t == "bool" && u == "int")
theorem kit_b : ∀ t ∈ bts, ∀ u ∈ bts, kitB t u = some (kb t u) := by decide +kernel
/-- a thing of a built-in type -/
structure Bt (K : PySem.W.Frag) (H : Hp) (v : V) (t : String) : Prop where
  ty : TyX K H v (.type t)
  m : t ∈ bts
theorem Bt.kit {K : PySem.W.Frag} {H : Hp} {v : V} {t u : String} (b : Bt K H v t) (hu : u ∈ bts) : PySem.W.kitOne K (.type t) (.type u) = some (kb t u) := kit_ty (kit_b t b.m u hu)
theorem Bt.int {K : PySem.W.Frag} {H : Hp} {v : V} {t : String} (b : Bt K H v t) (h : (t == "int") = true) : ∃ i : Int, v = .int i := by
  cases b.ty with
  | base z => cases z <;> first | exact ⟨_, rfl⟩ | (exact absurd h (by decide))
  | _ => exact absurd h (by decide)
theorem Bt.str {K : PySem.W.Frag} {H : Hp} {v : V} {t : String} (b : Bt K H v t) (h : (t == "str") = true) : ∃ x : Str, v = .str x := by
  cases b.ty with
  | base z => cases z <;> first | exact ⟨_, rfl⟩ | (exact absurd h (by decide))
  | _ => exact absurd h (by decide)
theorem Bt.same {K : PySem.W.Frag} {H H' : Hp} {v : V} {t : String} (s : Same H H') (b : Bt K H v t) : Bt K H' v t := by
  refine ⟨?_, b.m⟩
  cases b.ty with
  | base h =>
    cases h with
    | non => exact .base .non
    | bl x => exact .base (.bl x)
    | int i => exact .base (.int i)
    | str x => exact .base (.str x)
    | flt x => exact .base (.flt x)
    | lst e => exact .base (.lst (s _ _ e))
    | frz e => exact .base (.frz (s _ _ e))
    | tup e => exact .base (.tup (s _ _ e))
    | dK e => exact .base (.dK (s _ _ e))
    | dT e => exact .base (.dT (s _ _ e))
  | byt x => exact .byt x
  | set e => exact .set (s _ _ e)
  | kList e c => exact .kList e c
  | kTuple e c => exact .kTuple e c
  | kDict e c => exact .kDict e c
  | fTuple e => exact .fTuple (s _ _ e)
  | fDict e => exact .fDict (s _ _ e)
/-- an integer in bounds; a name; what else is none -/
def inW (v : V) (lo hi : Int) : Bool := match v with
  | .int i => decide (lo ≤ i) && decide (i ≤ hi)
  | _ => false
def lettersS : Str := "abcdefghijklmnopqrstuvwxyz"
def isNm (x : Str) : Bool := decide (1 ≤ x.length) && decide (x.length ≤ 8) && x.cps.toList.all fun c => decide (c ∈ lettersS.cps.toList)
def nameV (v : V) : Bool := match v with
  | .str x => isNm x
  | _ => false
theorem inW_of {K : PySem.W.Frag} {H : Hp} {v : V} {t : String} (b : Bt K H v t) (h : (t == "int") = false) (lo hi : Int) : inW v lo hi = false := by
  cases b.ty with
  | base z => cases z <;> first | rfl | (exact absurd h (by decide))
  | _ => rfl
theorem nameV_of {K : PySem.W.Frag} {H : Hp} {v : V} {t : String} (b : Bt K H v t) (h : (t == "str") = false) : nameV v = false := by
  cases b.ty with
  | base z => cases z <;> first | rfl | (exact absurd h (by decide))
  | _ => rfl
def spInt (K : PySem.W.Frag) : Sp := fun vs H Q _ => ∃ (v : V) (t : String), vs = [v] ∧ Bt K H v t ∧ Q (.bl (t == "int")) H
def spWithin (K : PySem.W.Frag) : Sp := fun vs H Q _ => ∃ (v : V) (t : String) (lo hi : Int), vs = [v, .int lo, .int hi] ∧ Bt K H v t ∧ Q (.bl (inW v lo hi)) H
def spIndex (K : PySem.W.Frag) : Sp := fun vs H Q _ => ∃ (v : V) (t : String) (m : Int), vs = [v, .int m] ∧ Bt K H v t ∧ Q (.bl (inW v 0 (m - 1))) H
def spIsRow (K : PySem.W.Frag) : Sp := fun vs H Q _ => ∃ (v : V) (t : String), vs = [v] ∧ Bt K H v t ∧ ∀ H', Same H H' → Q (.bl (t == "list" || t == "tuple")) H'
def spName (K : PySem.W.Frag) : Sp := fun vs H Q _ => ∃ (v : V) (t : String), vs = [v] ∧ Bt K H v t ∧ (∀ x, v = .str x → x.length ≤ sizeLine) ∧ ∀ H', Same H H' → Q (.bl (nameV v)) H'
/-- a text's place in a dict of texts -/
def hasT (kvs : List (Key × V)) (v : V) : Bool := match v with
  | .str x => (valV kvs (.inr x)).isSome
  | _ => false
def spTextIn (K : PySem.W.Frag) : Sp := fun vs H Q _ => ∃ (v : V) (t : String) (d : Addr) (kvs : List (Key × V)), vs = [v, .ref d] ∧ Bt K H v t ∧ Rd H d (.dK kvs) ∧ Q (.bl (hasT kvs v)) H
structure TxtF (K : PySem.W.Frag) (mg : Str → Option Value) (fII fIW : Addr) : Prop where
  b_isinstance : mg "isinstance" = none
  b_int : mg "int" = none
  b_bool : mg "bool" = none
  b_str : mg "str" = none
  b_list : mg "list" = none
  b_tuple : mg "tuple" = none
  b_dict : mg "dict" = none
  b_len : mg "len" = none
  b_all : mg "all" = none
  c_LETTERS : ∃ t, mg "LETTERS" = some (.str lettersS t)
  c_LONGEST_NAME : ∃ t, mg "LONGEST_NAME" = some (.int 8 t)
  g_is_integer : mg "is_integer" = some (.ref fII)
  k_is_integer : PySem.W.keepIn K (.ref fII) = true
  g_is_within : mg "is_within" = some (.ref fIW)
  k_is_within : PySem.W.keepIn K (.ref fIW) = true
section
variable {P : Program} {w : World} {K : PySem.W.Frag} {mg : Str → Option Value} {base : Heap}
variable {fII fIW : Addr} {fdII fdIW : FuncData}
theorem sc_is_integer : FnScope ["thing"] ["thing"] (defScope s_is_integer) := ⟨rfl, rfl, rfl, by decide +kernel, rfl, by decide +kernel, by decide +kernel⟩
theorem ok_is_integer {f : Addr} {fd : FuncData} (F : Fun K "is_integer" "is_integer" s_is_integer f fd) (T : TxtF K mg fII fIW) : FnOk P w K mg base CX0 1 f fd ["thing"] (spInt K) := by
  refine F.ok sc_is_integer (fun vs H Q E h => ?_) (fun cdv A outer s H vs Q E hr h => ?_)
  · obtain ⟨v, t, rfl, _⟩ := h
    rfl
  · obtain ⟨v, t, rfl, b, k⟩ := h
    refine ⟨_, (pss_one (ps_ret (pe_and (pe_callB call_isi (by rfl) T.b_isinstance (by decide +kernel) (pa_cons (pv 0) (pa_cons (pe_bltn (v := .ty "int") rfl T.b_int (by decide +kernel) rfl) pa_nil))) (pe_one (pe_not (pe_callB call_isi (by rfl) T.b_isinstance (by decide +kernel) (pa_cons (pv 0) (pa_cons (pe_bltn (v := .ty "bool") rfl T.b_bool (by decide +kernel) rfl) pa_nil)))))))), ?_⟩
    refine ⟨_, rfl, v, _, _, _, _, rfl, .ty _, b.ty, b.kit (u := "int") (by decide), _, rfl, ?_⟩
    refine ite2 (fun h1 => ?_) (fun h1 => ?_)
    · refine ⟨_, rfl, v, _, _, _, _, rfl, .ty _, b.ty, b.kit (u := "bool") (by decide), _, rfl, ?_⟩
      have e : (!kb t "bool") = (t == "int") := by
        have := b.m
        revert h1
        simp only [bts, List.mem_cons, List.not_mem_nil, or_false] at this
        rcases this with rfl | rfl | rfl | rfl | rfl | rfl | rfl | rfl | rfl | rfl <;> decide
      rw [e]
      exact k
    · have e : (t == "int") = false := by
        have := b.m
        revert h1
        simp only [bts, List.mem_cons, List.not_mem_nil, or_false] at this
        rcases this with rfl | rfl | rfl | rfl | rfl | rfl | rfl | rfl | rfl | rfl <;> decide
      rw [e] at k
      exact k
theorem sc_is_within : FnScope ["thing", "low", "high"] ["thing", "low", "high"] (defScope s_is_within) := ⟨rfl, rfl, rfl, by decide +kernel, rfl, by decide +kernel, by decide +kernel⟩
theorem ok_is_within {f : Addr} {fd : FuncData} (F : Fun K "is_within" "is_within" s_is_within f fd) (T : TxtF K mg fII fIW) (FI : Fun K "is_integer" "is_integer" s_is_integer fII fdII) (bI : Binds K fdII ["thing"] []) : FnOk P w K mg base CX0 2 f fd ["thing", "low", "high"] (spWithin K) := by
  have GI : FnOk P w K mg base CX0 1 fII fdII ["thing"] (spInt K) := ok_is_integer FI T
  refine F.ok sc_is_within (fun vs H Q E h => ?_) (fun cdv A outer s H vs Q E hr h => ?_)
  · obtain ⟨v, t, lo, hi, rfl, _⟩ := h
    rfl
  · obtain ⟨v, t, lo, hi, rfl, b, k⟩ := h
    refine ⟨_, (pss_one (ps_ret (pe_and (pe_call GI hr (by rfl) T.g_is_integer T.k_is_integer bI .nil pass0 (pa_cons (pv 0) pa_nil)) (pe_one (pe_chain op_le op_le (pv 1) (pv 0) (pv 2)))))), ?_⟩
    refine ⟨_, rfl, v, t, rfl, b, _, rfl, ?_⟩
    refine ite2 (fun h1 => ?_) (fun h1 => ?_)
    · obtain ⟨i, rfl⟩ := b.int h1
      refine ⟨_, rfl, _, rfl, _, _, rfl, rfl, _, rfl, ?_⟩
      refine ite2 (fun h2 => ?_) (fun h2 => ?_)
      · refine ⟨_, rfl, _, _, rfl, rfl, ?_⟩
        have e : inW (.int i) lo hi = decide (i ≤ hi) := by
          show (decide (lo ≤ i) && decide (i ≤ hi)) = _
          rw [h2, Bool.true_and]
        show Q (.bl (decide (i ≤ hi))) H
        rw [← e]
        exact k
      · have e : inW (.int i) lo hi = false := by
          show (decide (lo ≤ i) && decide (i ≤ hi)) = _
          rw [Bool.eq_false_iff.mpr h2, Bool.false_and]
        rw [e] at k
        exact k
    · rw [inW_of b (Bool.eq_false_iff.mpr h1)] at k
      exact k
theorem sc_is_index : FnScope ["thing", "many"] ["thing", "many"] (defScope s_is_index) := ⟨rfl, rfl, rfl, by decide +kernel, rfl, by decide +kernel, by decide +kernel⟩
theorem ok_is_index {f : Addr} {fd : FuncData} (F : Fun K "is_index" "is_index" s_is_index f fd) (T : TxtF K mg fII fIW) (FI : Fun K "is_integer" "is_integer" s_is_integer fII fdII) (bI : Binds K fdII ["thing"] [])
    (FW : Fun K "is_within" "is_within" s_is_within fIW fdIW) (bW : Binds K fdIW ["thing", "low", "high"] []) : FnOk P w K mg base CX0 3 f fd ["thing", "many"] (spIndex K) := by
  have GW : FnOk P w K mg base CX0 2 fIW fdIW ["thing", "low", "high"] (spWithin K) := ok_is_within FW T FI bI
  refine F.ok sc_is_index (fun vs H Q E h => ?_) (fun cdv A outer s H vs Q E hr h => ?_)
  · obtain ⟨v, t, m, rfl, _⟩ := h
    rfl
  · obtain ⟨v, t, m, rfl, b, k⟩ := h
    refine ⟨_, (pss_one (ps_ret (pe_call GW hr (by rfl) T.g_is_within T.k_is_within bW .nil pass0 (pa_cons (pv 0) (pa_cons pe_int (pa_cons (pe_op op_sub (pv 1) pe_int) pa_nil)))))), ?_⟩
    exact ⟨_, rfl, _, rfl, _, _, rfl, rfl, v, t, 0, m - 1, rfl, b, k⟩
theorem sc_is_row : FnScope ["thing"] ["thing"] (defScope s_is_row) := ⟨rfl, rfl, rfl, by decide +kernel, rfl, by decide +kernel, by decide +kernel⟩
theorem ok_is_row {f : Addr} {fd : FuncData} (F : Fun K "is_row" "is_row" s_is_row f fd) (T : TxtF K mg fII fIW) : FnOk P w K mg base CX0 1 f fd ["thing"] (spIsRow K) := by
  refine F.ok sc_is_row (fun vs H Q E h => ?_) (fun cdv A outer s H vs Q E hr h => ?_)
  · obtain ⟨v, t, rfl, _⟩ := h
    rfl
  · obtain ⟨v, t, rfl, b, k⟩ := h
    refine ⟨_, (pss_one (ps_ret (pe_callB call_isiT (by rfl) T.b_isinstance (by decide +kernel) (pa_cons (pv 0) (pa_cons (pe_tupG (pa_cons (pe_bltn (v := .ty "list") rfl T.b_list (by decide +kernel) rfl) (pa_cons (pe_bltn (v := .ty "tuple") rfl T.b_tuple (by decide +kernel) rfl) pa_nil))) pa_nil))))), ?_⟩
    refine ⟨_, rfl, by show 2 ≤ sizeLine; decide, fun p H1 n1 s1 e1 => ?_⟩
    have b1 := b.same s1
    have kk : PySem.W.kitAny K (.type t) [.type "list", .type "tuple"] = some (t == "list" || t == "tuple") := by
      have h1 : kb t "list" = (t == "list") := by simp [kb]
      have h2 : kb t "tuple" = (t == "tuple") := by simp [kb]
      refine kitAny_cons (b1.kit (u := "list") (by decide)) (fun z => ?_) (fun z => ?_)
      · rw [h1] at z
        refine kitAny_cons (b1.kit (u := "tuple") (by decide)) (fun y => ?_) (fun y => ?_)
        · rw [h2] at y
          rw [z, y]
          exact kitAny_nil
        · rw [h2] at y
          rw [y, Bool.or_true]
      · rw [h1] at z
        rw [z, Bool.true_or]
    exact ⟨v, p, _, _, _, _, rfl, e1, .cons (.ty _) (.cons (.ty _) .nil), b1.ty, kk, k _ s1⟩
end
end Mine

set_option maxRecDepth 100000
set_option maxHeartbeats 4000000
namespace Mine
open PySem L2
abbrev s_are_counts : Stmt := top 18
abbrev s_are_operations : Stmt := top 19
abbrev s_word_of : Stmt := top 21
abbrev s_are_nexts : Stmt := top 22
abbrev s_line_of : Stmt := top 36
abbrev s_is_line : Stmt := top 35
structure TxtG (K : PySem.W.Frag) (mg : Str → Option Value) (a_is_row a_is_index a_is_name a_is_text_in a_are_counts a_word_of a_are_nexts a_is_line a_line_of a_are_operations : Addr) : Prop where
  c_MOST_OPERATIONS : ∃ t, mg "MOST_OPERATIONS" = some (.int 8 t)
  c_MOST_ANSWERS : ∃ t, mg "MOST_ANSWERS" = some (.int 6 t)
  g_is_row : mg "is_row" = some (.ref a_is_row)
  k_is_row : PySem.W.keepIn K (.ref a_is_row) = true
  g_is_index : mg "is_index" = some (.ref a_is_index)
  k_is_index : PySem.W.keepIn K (.ref a_is_index) = true
  g_is_name : mg "is_name" = some (.ref a_is_name)
  k_is_name : PySem.W.keepIn K (.ref a_is_name) = true
  g_is_text_in : mg "is_text_in" = some (.ref a_is_text_in)
  k_is_text_in : PySem.W.keepIn K (.ref a_is_text_in) = true
  g_are_counts : mg "are_counts" = some (.ref a_are_counts)
  k_are_counts : PySem.W.keepIn K (.ref a_are_counts) = true
  g_word_of : mg "word_of" = some (.ref a_word_of)
  k_word_of : PySem.W.keepIn K (.ref a_word_of) = true
  g_are_nexts : mg "are_nexts" = some (.ref a_are_nexts)
  k_are_nexts : PySem.W.keepIn K (.ref a_are_nexts) = true
  g_is_line : mg "is_line" = some (.ref a_is_line)
  k_is_line : PySem.W.keepIn K (.ref a_is_line) = true
  g_line_of : mg "line_of" = some (.ref a_line_of)
  k_line_of : PySem.W.keepIn K (.ref a_line_of) = true
  g_are_operations : mg "are_operations" = some (.ref a_are_operations)
  k_are_operations : PySem.W.keepIn K (.ref a_are_operations) = true
theorem globI {X : Cx} {x : Str} {i : Int} {pos : Pos} (hg : Gl X x) (h : ∃ t, X.mg x = some (.int i t)) (hd : (x == ("__debug__" : Str)) = false := by decide) : PE X (.Name x pos) (tC (.int i)) := by
  obtain ⟨t, e⟩ := h
  exact pe_glob hg e ⟨t, rfl⟩ hd
theorem globS {X : Cx} {x y : Str} {pos : Pos} (hg : Gl X x) (h : ∃ t, X.mg x = some (.str y t)) (hd : (x == ("__debug__" : Str)) = false := by decide) : PE X (.Name x pos) (tC (.str y)) := by
  obtain ⟨t, e⟩ := h
  exact pe_glob hg e ⟨t, rfl⟩ hd
/-- the letters of a text are looked at one by one -/
def lets (x : Str) (i : Nat) : List Bool := (x.cps.toList.take i).map fun c => decide (c ∈ lettersS.cps.toList)
theorem lets_succ {x : Str} {i c : Nat} (h : x.cps[i]? = some c) : lets x (i + 1) = lets x i ++ [decide (c ∈ lettersS.cps.toList)] := by
  have h' : x.cps.toList[i]? = some c := by rw [← h]; simp
  unfold lets
  rw [List.take_add_one, h', List.map_append]
  rfl
theorem lets_all (x : Str) : (lets x x.cps.size).all id = x.cps.toList.all fun c => decide (c ∈ lettersS.cps.toList) := by
  unfold lets
  rw [show x.cps.size = x.cps.toList.length by simp, List.take_length, List.all_map]
  rfl
section
variable {P : Program} {w : World} {K : PySem.W.Frag} {mg : Str → Option Value} {base : Heap}
variable {fII fIW : Addr}
theorem sc_is_name : FnScope ["thing", "letter"] ["thing"] (defScope s_is_name) := ⟨rfl, rfl, rfl, by decide +kernel, rfl, by decide +kernel, by decide +kernel⟩
theorem ok_is_name {f : Addr} {fd : FuncData} (F : Fun K "is_name" "is_name" s_is_name f fd) (T : TxtF K mg fII fIW) : FnOk P w K mg base CX0 1 f fd ["thing"] (spName K) := by
  refine F.ok sc_is_name (fun vs H Q E h => ?_) (fun cdv A outer s H vs Q E hr h => ?_)
  · obtain ⟨v, t, rfl, _⟩ := h
    rfl
  · obtain ⟨v, t, rfl, b, sz, k⟩ := h
    refine ⟨_, (pss_cons (ps_if (PW.pt (pw_or (pt_not (pt_val (pe_callB call_isi (by rfl) T.b_isinstance (by decide +kernel) (pa_cons (pv 0) (pa_cons (pe_bltn (v := .ty "str") rfl T.b_str (by decide +kernel) rfl) pa_nil))))) (pw_or1 (pt_not (pt_chain op_le op_le pe_int (pe_callB call_len_str (by rfl) T.b_len PySem.boot_len (pa_cons (pv 0) pa_nil)) (globI rfl T.c_LONGEST_NAME)))))) (pss_one (ps_ret pe_bl)) pss_nil)
      (pss_one (ps_ret (pe_callB (cr_all rfl) (by rfl) T.b_all (by decide +kernel) (pa_cons (pe_lc (own := [("letter", 1)]) (g := gName 1) (tt := tYes) rfl sc_is_name.nd (pi_str (pv 0)) (blkOk_by (own := [("letter", 1)]) (N := ["thing", "letter"]) (sc := defScope s_is_name) (by decide +kernel)) (fun _ _ _ _ _ => pg_name (i := 1) sc_is_name.nd rfl (Or.inl rfl)) (fun _ _ _ _ _ => pts_nil) (fun _ _ _ _ _ => (pe_cmpR op_in_sign (pv 1) (globS rfl T.c_LETTERS) (by rfl)))) pa_nil))))), ?_⟩
    have hk : ∀ t', (kb t' "str") = (t' == "str") := fun t' => by simp [kb]
    refine ⟨_, rfl, v, _, _, _, _, rfl, .ty _, b.ty, b.kit (u := "str") (by decide), _, rfl, ?_⟩
    rw [hk]
    by_cases h1 : (t == "str") = true
    · obtain ⟨x, rfl⟩ := b.str h1
      rw [h1]
      refine iteF ?_
      refine ⟨_, rfl, ?_⟩
      refine ⟨x, rfl, sz x rfl, _, _, rfl, rfl, _, rfl, ?_⟩
      have bad : ¬ (1 ≤ x.length ∧ x.length ≤ 8) → isNm x = false := fun z => by
        unfold isNm
        by_cases y : 1 ≤ x.length
        · rw [decide_eq_true y, decide_eq_false (fun u => z ⟨y, u⟩)]
          rfl
        · rw [decide_eq_false y]
          rfl
      by_cases h2 : 1 ≤ x.length
      · rw [decide_eq_true (show (1 : Int) ≤ (x.length : Int) by omega)]
        refine iteT ?_
        refine ⟨_, _, rfl, rfl, _, rfl, ?_⟩
        by_cases h3 : x.length ≤ 8
        · rw [decide_eq_true (show (x.length : Int) ≤ 8 by omega)]
          refine iteF ?_
          refine ⟨_, rfl, x, rfl, fun D nD => lc_it walk_str (fun i Hx => Same H Hx ∧ Hx D = some (.lst ((lets x i).map V.bl))) ⟨sameNew nD _, upd_same⟩ (fun _ _ _ _ => trivial) (fun i y Ha Hb hi z1 z2 => ?_) fun Hx z => ?_⟩
          · obtain ⟨sx, ex⟩ := z1
            obtain ⟨rfl, c, hc, rfl⟩ := z2
            refine ⟨rfl, _, rfl, c, lettersS, rfl, rfl, _, ex, ?_, fun b o e => ?_, ?_⟩
            · rw [List.length_map]
              show ((x.cps.toList.take i).map _).length < _
              rw [List.length_map, List.length_take, sizeLine_eq]
              have : x.cps.toList.length ≤ 8 := by
                have : x.length = x.cps.toList.length := by simp [Str.length]
                omega
              omega
            · rw [upd_ne (ne_of_none e nD)]
              exact sx _ _ e
            · rw [lets_succ hc, List.map_append]
              exact upd_same
          · obtain ⟨sx, ex⟩ := z
            refine ⟨D, _, rfl, SqL.of ex, ?_⟩
            rw [lets_all]
            have e : nameV (.str x) = x.cps.toList.all fun c => decide (c ∈ lettersS.cps.toList) := by
              show isNm x = _
              unfold isNm
              rw [decide_eq_true h2, decide_eq_true h3, Bool.true_and, Bool.true_and]
            rw [← e]
            exact k _ sx
        · rw [decide_eq_false (show ¬ (x.length : Int) ≤ 8 by omega)]
          refine iteT ?_
          have e : nameV (.str x) = false := bad fun z => h3 z.2
          rw [e] at k
          exact k _ (Same.refl _)
      · rw [decide_eq_false (show ¬ (1 : Int) ≤ (x.length : Int) by omega)]
        refine iteF ?_
        refine ⟨_, rfl, ?_⟩
        refine iteT ?_
        have e : nameV (.str x) = false := bad fun z => h2 z.1
        rw [e] at k
        exact k _ (Same.refl _)
    · rw [Bool.eq_false_iff.mpr h1]
      refine iteT ?_
      have e := nameV_of b (Bool.eq_false_iff.mpr h1)
      rw [e] at k
      exact k _ (Same.refl _)
end
end Mine

set_option maxRecDepth 100000
set_option maxHeartbeats 4000000
namespace L2
open PySem PySem.Spec PyProof.Rows
/-- a list or a tuple -/
def SqA (H : Hp) (a : Addr) (xs : List V) : Prop := H a = some (.lst xs) ∨ H a = some (.tup xs)
theorem Same.sqa {H H' : Hp} {a : Addr} {xs : List V} (s : Same H H') (h : SqA H a xs) : SqA H' a xs := h.elim (fun h => .inl (s _ _ h)) fun h => .inr (s _ _ h)
theorem SqA.ix {K : PySem.W.Frag} {H : Hp} {a : Addr} {xs : List V} {i : Int} {v : V} {Q : VK} (h : SqA H a xs) (e : atI xs i = some v) (q : Q v H) : rIx K (.ref a) (.int i) H Q := by
  rcases h with h | h
  · exact .inl ⟨a, xs, i, v, rfl, rfl, SqL.of h, e, q⟩
  · exact .inr (.inl ⟨a, xs, i, v, rfl, rfl, .inl (.inl h), e, q⟩)
theorem SqA.sq {K : PySem.W.Frag} {H : Hp} {a : Addr} {xs : List V} (h : SqA H a xs) : SqL K H a xs ∨ SqT K H a xs := h.elim (fun h => .inl (SqL.of h)) fun h => .inr (.inl (.inl h))
theorem pi_or {X : Cx} {tg iter : Expr} {w1 w2 : TI} (h1 : PI X tg iter w1) (h2 : PI X tg iter w2) : PI X tg iter (fun σ H R => w1 σ H R ∨ w2 σ H R) :=
  ⟨fun pins s σ H R I h => h.elim (h1.run pins s σ H R I) (h2.run pins s σ H R I)⟩
def iSeq (K : PySem.W.Frag) (tl : TE) : TI := fun σ H R => iList K tl σ H R ∨ iTup K tl σ H R
theorem pi_seq {X : Cx} {tg l : Expr} {tl : TE} (hl : PE X l tl) : PI X tg l (iSeq X.K tl) := pi_or (pi_list hl) (pi_tup hl)
theorem same_unlock {H Hx : Hp} {a : Addr} {u : HO} {od : Obj} (e : H a = some u) (s : Same (upd H a (.frz od u)) Hx) : Same H (upd Hx a u) := fun b o h => by
  by_cases z : b = a
  · subst z
    rw [e] at h
    rw [upd_same, h]
  · rw [upd_ne z]
    exact s b o (by rw [upd_ne z]; exact h)
end L2
namespace Mine
open PySem L2
abbrev Ops := List (Str × Int)
def opsK (o : Ops) : List (Key × V) := o.map fun p => (Sum.inr p.1, V.int p.2)
def opLook (o : Ops) (x : Str) : Option Int := (o.find? fun p => decide (p.1 = x)).map (·.2)
theorem val_ops (o : Ops) (x : Str) : valV (opsK o) (.inr x) = (opLook o x).map V.int := by
  unfold valV opsK opLook
  induction o with
  | nil => rfl
  | cons p o ih =>
    by_cases h : p.1 = x
    · simp [h]
    · have h2 : ¬ (Sum.inr p.1 : Key) = Sum.inr x := fun z => h (Sum.inr.inj z)
      simp only [List.map_cons, List.find?_cons, decide_eq_false h, decide_eq_false h2]
      exact ih
/-- operations that are right -/
structure OkOps (o : Ops) : Prop where
  few : o.length ≤ 8
  each : ∀ p ∈ o, isNm p.1 = true ∧ 0 ≤ p.2 ∧ p.2 ≤ 6
  nd : (o.map (·.1)).Nodup
def spCounts : Sp := fun vs H Q _ => ∃ (a : Addr) (o : Ops) (most lo hi : Int), vs = [.ref a, .int most, .int lo, .int hi] ∧ H a = some (.dK (opsK o)) ∧ (o.length : Int) ≤ most ∧ o.length ≤ 1000 ∧ (∀ p ∈ o, isNm p.1 = true ∧ lo ≤ p.2 ∧ p.2 ≤ hi) ∧ ∀ H', Same H H' → Q (.bl true) H'
def spOps : Sp := fun vs H Q _ => ∃ (a : Addr) (o : Ops), vs = [.ref a] ∧ H a = some (.dK (opsK o)) ∧ OkOps o ∧ ∀ H', Same H H' → Q (.bl true) H'
/-- what a row of a body says -/
inductive RowD where
  | ask (op : Str) (ns : List Int)
  | go (n : Int)
  | fin (w : Str)
/-- the row stands there, in lists or tuples -/
def RowAt (H : Hp) (v : V) : RowD → Prop
  | .ask op ns => ∃ a t, v = .ref a ∧ SqA H a [.str "ask", .str op, .ref t] ∧ SqA H t (ns.map V.int)
  | .go n => ∃ a, v = .ref a ∧ SqA H a [.str "go", .int n]
  | .fin w => ∃ a, v = .ref a ∧ SqA H a [.str "end", .str w]
/-- .. in tuples -/
def TRow (H : Hp) (v : V) : RowD → Prop
  | .ask op ns => ∃ a t, v = .ref a ∧ H a = some (.tup [.str "ask", .str op, .ref t]) ∧ H t = some (.tup (ns.map V.int))
  | .go n => ∃ a, v = .ref a ∧ H a = some (.tup [.str "go", .int n])
  | .fin w => ∃ a, v = .ref a ∧ H a = some (.tup [.str "end", .str w])
theorem RowAt.same {H H' : Hp} {v : V} {r : RowD} (s : Same H H') (h : RowAt H v r) : RowAt H' v r := by
  cases r with
  | ask op ns =>
    obtain ⟨a, t, e, h1, h2⟩ := h
    exact ⟨a, t, e, s.sqa h1, s.sqa h2⟩
  | go n =>
    obtain ⟨a, e, h1⟩ := h
    exact ⟨a, e, s.sqa h1⟩
  | fin w =>
    obtain ⟨a, e, h1⟩ := h
    exact ⟨a, e, s.sqa h1⟩
theorem TRow.same {H H' : Hp} {v : V} {r : RowD} (s : Same H H') (h : TRow H v r) : TRow H' v r := by
  cases r with
  | ask op ns =>
    obtain ⟨a, t, e, h1, h2⟩ := h
    exact ⟨a, t, e, s _ _ h1, s _ _ h2⟩
  | go n =>
    obtain ⟨a, e, h1⟩ := h
    exact ⟨a, e, s _ _ h1⟩
  | fin w =>
    obtain ⟨a, e, h1⟩ := h
    exact ⟨a, e, s _ _ h1⟩
theorem TRow.row {H : Hp} {v : V} {r : RowD} (h : TRow H v r) : RowAt H v r := by
  cases r with
  | ask op ns =>
    obtain ⟨a, t, e, h1, h2⟩ := h
    exact ⟨a, t, e, .inr h1, .inr h2⟩
  | go n =>
    obtain ⟨a, e, h1⟩ := h
    exact ⟨a, e, .inr h1⟩
  | fin w =>
    obtain ⟨a, e, h1⟩ := h
    exact ⟨a, e, .inr h1⟩
/-- the row is one of a body with these operations and so many rows -/
def OkRow (o : Ops) (many : Int) : RowD → Prop
  | .ask op ns => opLook o op = some (ns.length : Int) ∧ ns.length ≤ 1000 ∧ ∀ n ∈ ns, 0 ≤ n ∧ n < many
  | .go n => 0 ≤ n ∧ n < many
  | .fin w => isNm w = true ∧ w.length ≤ 8
def spWord : Sp := fun vs H Q _ => ∃ (a : Addr) (x : Str) (xs : List V), vs = [.ref a] ∧ SqA H a (.str x :: xs) ∧ ∀ H', Same H H' → Q (.str x) H'
def spNexts : Sp := fun vs H Q _ => ∃ (t d : Addr) (ns : List Int) (op : Str) (o : Ops) (many : Int), vs = [.ref t, .str op, .ref d, .int many] ∧ SqA H t (ns.map V.int) ∧ Rd H d (.dK (opsK o)) ∧
  opLook o op = some (ns.length : Int) ∧ ns.length ≤ 1000 ∧ (∀ n ∈ ns, 0 ≤ n ∧ n < many) ∧ ∀ H', Same H H' → Q (.bl true) H'
def spIsLine : Sp := fun vs H Q _ => ∃ (v : V) (d : Addr) (o : Ops) (many : Int) (r : RowD), vs = [v, .ref d, .int many] ∧ RowAt H v r ∧ Rd H d (.dK (opsK o)) ∧ OkRow o many r ∧ ∀ H', Same H H' → Q (.bl true) H'
def spLineOf : Sp := fun vs H Q _ => ∃ (v : V) (r : RowD), vs = [v] ∧ RowAt H v r ∧ ∀ (v' : V) (H' : Hp), Same H H' → TRow H' v' r → Q v' H'
theorem inW_int {i lo hi : Int} (h1 : lo ≤ i) (h2 : i ≤ hi) : inW (.int i) lo hi = true := by
  show (decide (lo ≤ i) && decide (i ≤ hi)) = true
  rw [decide_eq_true h1, decide_eq_true h2]
  rfl
theorem btInt {K : PySem.W.Frag} {H : Hp} (i : Int) : Bt K H (.int i) "int" := ⟨.base (.int i), by decide⟩
theorem btStr {K : PySem.W.Frag} {H : Hp} (x : Str) : Bt K H (.str x) "str" := ⟨.base (.str x), by decide⟩
theorem btSeq {K : PySem.W.Frag} {H : Hp} {a : Addr} {xs : List V} (h : SqA H a xs) : ∃ t, Bt K H (.ref a) t ∧ (t == "list" || t == "tuple") = true := by
  rcases h with h | h
  · exact ⟨"list", ⟨.base (.lst h), by decide⟩, by decide⟩
  · exact ⟨"tuple", ⟨.base (.tup h), by decide⟩, by decide⟩
theorem nm_len {x : Str} (h : isNm x = true) : x.length ≤ 8 := by
  unfold isNm at h
  rw [Bool.and_eq_true, Bool.and_eq_true] at h
  exact of_decide_eq_true h.1.2
theorem trues_all (n : Nat) : (List.replicate n true).all id = true := by simp
theorem trues_map (n : Nat) : (List.replicate n true).map V.bl = List.replicate n (V.bl true) := by simp
section
variable {P : Program} {w : World} {K : PySem.W.Frag} {mg : Str → Option Value} {base : Heap}
variable {fII fIW a_is_row a_is_index a_is_name a_is_text_in a_are_counts a_word_of a_are_nexts a_is_line a_line_of a_are_operations : Addr}
theorem sc_is_text_in : FnScope ["thing", "table"] ["thing", "table"] (defScope s_is_text_in) := ⟨rfl, rfl, rfl, by decide +kernel, rfl, by decide +kernel, by decide +kernel⟩
theorem ok_is_text_in {f : Addr} {fd : FuncData} (F : Fun K "is_text_in" "is_text_in" s_is_text_in f fd) (T : TxtF K mg fII fIW) : FnOk P w K mg base CX0 1 f fd ["thing", "table"] (spTextIn K) := by
  refine F.ok sc_is_text_in (fun vs H Q E h => ?_) (fun cdv A outer s H vs Q E hr h => ?_)
  · obtain ⟨v, t, d, kvs, rfl, _⟩ := h
    rfl
  · obtain ⟨v, t, d, kvs, rfl, b, hd, k⟩ := h
    refine ⟨_, (pss_one (ps_ret (pe_and (pe_callB call_isi (by rfl) T.b_isinstance (by decide +kernel) (pa_cons (pv 0) (pa_cons (pe_bltn (v := .ty "str") rfl T.b_str (by decide +kernel) rfl) pa_nil))) (pe_one (pe_cmp (pc_din (hu_of hr) (pv 0) (pv 1)) rfl))))), ?_⟩
    have hk : (kb t "str") = (t == "str") := by simp [kb]
    refine ⟨_, rfl, v, _, _, _, _, rfl, .ty _, b.ty, b.kit (u := "str") (by decide), _, rfl, ?_⟩
    rw [hk]
    by_cases h1 : (t == "str") = true
    · obtain ⟨x, rfl⟩ := b.str h1
      rw [h1]
      refine iteT ?_
      exact ⟨_, rfl, _, rfl, d, _, rfl, .inl ⟨kvs, .inr x, hd, rfl, rfl⟩, k⟩
    · rw [Bool.eq_false_iff.mpr h1]
      refine iteF ?_
      have e : hasT kvs v = false := by
        cases b.ty with
        | base z => cases z <;> first | rfl | (exact absurd (by decide) h1)
        | _ => rfl
      rw [e] at k
      exact k
theorem sc_are_counts : FnScope ["thing", "most", "low", "high", "name", "many"] ["thing", "most", "low", "high"] (defScope s_are_counts) := ⟨rfl, rfl, rfl, by decide +kernel, rfl, by decide +kernel, by decide +kernel⟩
theorem ok_are_counts {f : Addr} {fd fd_is_name fd_is_integer fd_is_within : FuncData} (F : Fun K "are_counts" "are_counts" s_are_counts f fd) (T : TxtF K mg fII fIW) (TG : TxtG K mg a_is_row a_is_index a_is_name a_is_text_in a_are_counts a_word_of a_are_nexts a_is_line a_line_of a_are_operations)
    (F_is_name : Fun K "is_name" "is_name" s_is_name a_is_name fd_is_name) (b_is_name : Binds K fd_is_name ["thing"] []) (FI : Fun K "is_integer" "is_integer" s_is_integer fII fd_is_integer) (bI : Binds K fd_is_integer ["thing"] [])
    (FW : Fun K "is_within" "is_within" s_is_within fIW fd_is_within) (b_is_within : Binds K fd_is_within ["thing", "low", "high"] []) : FnOk P w K mg base CX0 3 f fd ["thing", "most", "low", "high"] spCounts := by
  have GN : FnOk P w K mg base CX0 1 a_is_name fd_is_name ["thing"] (spName K) := ok_is_name F_is_name T
  have GW : FnOk P w K mg base CX0 2 fIW fd_is_within ["thing", "low", "high"] (spWithin K) := ok_is_within FW T FI bI
  refine F.ok sc_are_counts (fun vs H Q E h => ?_) (fun cdv A outer s H vs Q E hr h => ?_)
  · obtain ⟨a, o, most, lo, hi, rfl, _⟩ := h
    rfl
  · obtain ⟨a, o, most, lo, hi, rfl, ha, l1, l2, all, k⟩ := h
    refine ⟨_, (pss_cons (ps_if (PW.pt (pw_or (pt_not (pt_val (pe_callB call_isi (by rfl) T.b_isinstance (by decide +kernel) (pa_cons (pv 0) (pa_cons (pe_bltn (v := .ty "dict") rfl T.b_dict (by decide +kernel) rfl) pa_nil))))) (pw_or1 (pt_cmpR op_gt (pe_callB call_lenD (by rfl) T.b_len PySem.boot_len (pa_cons (pv 0) pa_nil)) (pv 1) (nomark _))))) (pss_one (ps_ret pe_bl)) pss_nil)
      (pss_one (ps_ret (pe_callB (cr_all rfl) (by rfl) T.b_all (by decide +kernel) (pa_cons (pe_lock (pe_lc (own := [("name", 4), ("many", 5)]) (g := gTup K 2 (gCons (gName 4) (gCons (gName 5) gNil))) (tt := tYes) rfl sc_are_counts.nd (pi_items (pv 0)) (blkOk_by (own := [("name", 4), ("many", 5)]) (N := ["thing", "most", "low", "high", "name", "many"]) (sc := defScope s_are_counts) (by decide +kernel)) (fun _ _ _ _ _ => pg_tup rfl (pgs_cons (pg_name (i := 4) sc_are_counts.nd rfl (Or.inl rfl)) (pgs_cons (pg_name (i := 5) sc_are_counts.nd rfl (Or.inl rfl)) pgs_nil))) (fun _ _ _ _ _ => pts_nil) (fun _ _ _ _ _ => (pe_and (pe_call GN (hr.mono (by decide)) (by rfl) TG.g_is_name TG.k_is_name b_is_name .nil pass0 (pa_cons (pv 4) pa_nil)) (pe_one (pe_call GW hr (by rfl) T.g_is_within T.k_is_within b_is_within .nil pass0 (pa_cons (pv 5) (pa_cons (pv 2) (pa_cons (pv 3) pa_nil))))))))) pa_nil))))), ?_⟩
    have bD : Bt K H (.ref a) "dict" := ⟨.base (.dK ha), by decide⟩
    refine ⟨_, rfl, _, _, _, _, _, rfl, .ty _, bD.ty, bD.kit (u := "dict") (by decide), _, rfl, ?_⟩
    refine iteF ?_
    refine ⟨_, rfl, a, _, rfl, ha, _, rfl, _, _, rfl, rfl, _, rfl, ?_⟩
    have lk : (opsK o).length = o.length := List.length_map ..
    rw [lk, decide_eq_false (show ¬ most < (o.length : Int) by omega)]
    refine iteF ?_
    refine ⟨a, _, ha, trivial, fun od => ⟨_, rfl, a, od, opsK o, rfl, upd_same, fun D nD => lc_it walk_items (fun i Hx => Same (upd H a (.frz od (.dK (opsK o)))) Hx ∧ Hx D = some (.lst (List.replicate i (V.bl true)))) ⟨sameNew nD _, upd_same⟩ (fun i Hx _ z => z.1 _ _ upd_same) (fun i y Ha Hb hi' z1 z2 => ?_) fun Hx z => ?_⟩⟩
    · obtain ⟨sx, ex⟩ := z1
      obtain ⟨T', x, y, rfl, nT, rfl, h1, h2⟩ := z2
      have hi2 : i < o.length := by rw [← lk]; exact hi'
      have e1 : (opsK o)[i]? = some (Sum.inr (o[i]).1, V.int (o[i]).2) := by
        unfold opsK
        rw [List.getElem?_map, List.getElem?_eq_getElem hi2]
        rfl
      dsimp only at h1 h2
      rw [e1] at h1 h2
      have h1' : V.str (o[i]).1 = x := Option.some.inj h1
      have h2' : V.int (o[i]).2 = y := Option.some.inj h2
      subst h1' h2'
      obtain ⟨g1, g2, g3⟩ := all _ (List.getElem_mem hi2)
      refine ⟨T', _, rfl, .inl (.inl upd_same), rfl, _, _, rfl, _, _, rfl, rfl, rfl, ?_⟩
      refine ⟨_, rfl, _, _, rfl, btStr _, fun x' e' => ?_, fun Hy sy => ⟨_, rfl, ?_⟩⟩
      · have e2 : (o[i]).1 = x' := V.str.inj e'
        rw [← e2]
        have := nm_len g1
        rw [sizeLine_eq]
        omega
      · rw [show nameV (.str (o[i]).1) = true from g1]
        refine iteT ?_
        refine ⟨_, rfl, _, rfl, _, rfl, _, _, _, _, rfl, btInt _, ?_⟩
        rw [inW_int g2 g3]
        have exy := sy _ _ (show upd Ha T' _ D = _ by rw [upd_ne (ne_of_none ex nT)]; exact ex)
        refine ⟨_, exy, ?_, fun b u e => ?_, ?_⟩
        · rw [List.length_replicate, sizeLine_eq]
          omega
        · have nb : b ≠ D := fun z => by
            rw [z] at e
            exact absurd (e.symm.trans nD) (by simp)
          rw [upd_ne nb]
          exact sy _ _ (by rw [upd_ne (ne_of_none (sx _ _ e) nT)]; exact sx _ _ e)
        · rw [List.replicate_succ']
          exact upd_same
    · obtain ⟨sx, ex⟩ := z
      have nDa : D ≠ a := fun z => by
        rw [z, upd_same] at nD
        cases nD
      refine ⟨sx _ _ upd_same, D, List.replicate (opsK o).length true, rfl, SqL.of (by rw [upd_ne nDa, trues_map]; exact ex), ?_⟩
      rw [trues_all]
      exact k _ (same_unlock ha sx)
end
end Mine

set_option maxRecDepth 100000
set_option maxHeartbeats 4000000
namespace Mine
open PySem L2
theorem at0' {α : Type} {a : α} {l : List α} : atI (a :: l) 0 = some a := atI_nat (j := 0) rfl
theorem at1' {α : Type} {a b : α} {l : List α} : atI (a :: b :: l) 1 = some b := atI_nat (j := 1) rfl
theorem at2' {α : Type} {a b c : α} {l : List α} : atI (a :: b :: c :: l) 2 = some c := atI_nat (j := 2) rfl
theorem nx_all {ns : List Int} {t : Addr} : (ns.map V.int).length = ns.length := List.length_map ..
section
variable {P : Program} {w : World} {K : PySem.W.Frag} {mg : Str → Option Value} {base : Heap}
variable {fII fIW a_is_row a_is_index a_is_name a_is_text_in a_are_counts a_word_of a_are_nexts a_is_line a_line_of a_are_operations : Addr}
theorem sc_are_operations : FnScope ["thing"] ["thing"] (defScope s_are_operations) := ⟨rfl, rfl, rfl, by decide +kernel, rfl, by decide +kernel, by decide +kernel⟩
theorem ok_are_operations {f : Addr} {fd fd_are_counts : FuncData} (F : Fun K "are_operations" "are_operations" s_are_operations f fd) (TG : TxtG K mg a_is_row a_is_index a_is_name a_is_text_in a_are_counts a_word_of a_are_nexts a_is_line a_line_of a_are_operations)
    (GC : FnOk P w K mg base CX0 3 a_are_counts fd_are_counts ["thing", "most", "low", "high"] spCounts) (b_are_counts : Binds K fd_are_counts ["thing", "most", "low", "high"] []) : FnOk P w K mg base CX0 4 f fd ["thing"] spOps := by
  refine F.ok sc_are_operations (fun vs H Q E h => ?_) (fun cdv A outer s H vs Q E hr h => ?_)
  · obtain ⟨a, o, rfl, _⟩ := h
    rfl
  · obtain ⟨a, o, rfl, ha, ok, k⟩ := h
    refine ⟨_, (pss_one (ps_ret (pe_call GC (hr.mono (by decide)) (by rfl) TG.g_are_counts TG.k_are_counts b_are_counts .nil pass0 (pa_cons (pv 0) (pa_cons (globI rfl TG.c_MOST_OPERATIONS) (pa_cons pe_int (pa_cons (globI rfl TG.c_MOST_ANSWERS) pa_nil))))))), ?_⟩
    have := ok.few
    exact ⟨_, rfl, a, o, 8, 0, 6, rfl, ha, by omega, by omega, ok.each, k⟩
theorem sc_word_of : FnScope ["row"] ["row"] (defScope s_word_of) := ⟨rfl, rfl, rfl, by decide +kernel, rfl, by decide +kernel, by decide +kernel⟩
theorem ok_word_of {f : Addr} {fd fd_is_row : FuncData} (F : Fun K "word_of" "word_of" s_word_of f fd) (T : TxtF K mg fII fIW) (TG : TxtG K mg a_is_row a_is_index a_is_name a_is_text_in a_are_counts a_word_of a_are_nexts a_is_line a_line_of a_are_operations)
    (GR : FnOk P w K mg base CX0 1 a_is_row fd_is_row ["thing"] (spIsRow K)) (b_is_row : Binds K fd_is_row ["thing"] []) : FnOk P w K mg base CX0 2 f fd ["row"] spWord := by
  refine F.ok sc_word_of (fun vs H Q E h => ?_) (fun cdv A outer s H vs Q E hr h => ?_)
  · obtain ⟨a, x, xs, rfl, _⟩ := h
    rfl
  · obtain ⟨a, x, xs, rfl, ha, k⟩ := h
    refine ⟨_, (pss_cons (ps_if (PW.pt (pw_and (pt_val (pe_call GR (hr.mono (by decide)) (by rfl) TG.g_is_row TG.k_is_row b_is_row .nil pass0 (pa_cons (pv 0) pa_nil))) (pw_and (pt_cmpR op_gt (pe_callB call_len_seq (by rfl) T.b_len PySem.boot_len (pa_cons (pv 0) pa_nil)) pe_int (nomark _)) (pw_and1 (pt_val (pe_callB call_isi (by rfl) T.b_isinstance (by decide +kernel) (pa_cons (pe_ix ix_seq (pv 0) pe_int (fun _ _ => rfl)) (pa_cons (pe_bltn (v := .ty "str") rfl T.b_str (by decide +kernel) rfl) pa_nil)))))))) (pss_one (ps_ret (pe_ix ix_seq (pv 0) pe_int (fun _ _ => rfl)))) pss_nil)
      (pss_one (ps_ret pe_str))), ?_⟩
    obtain ⟨t, b, e⟩ := btSeq (K := K) ha
    refine ⟨_, rfl, _, t, rfl, b, fun H1 s1 => ⟨_, rfl, ?_⟩⟩
    rw [e]
    refine iteT ?_
    have ha1 := s1.sqa ha
    refine ⟨_, rfl, a, _, rfl, ha1.sq, _, _, rfl, rfl, _, rfl, ?_⟩
    rw [decide_eq_true (show (0 : Int) < (((V.str x :: xs).length : Nat) : Int) by rw [List.length_cons]; omega)]
    refine iteT ?_
    refine ⟨_, rfl, ha1.ix at0' ?_⟩
    refine ⟨_, _, _, _, _, rfl, .ty _, (btStr (K := K) (H := H1) x).ty, (btStr (K := K) (H := H1) x).kit (u := "str") (by decide), _, rfl, ?_⟩
    refine iteT ?_
    exact ⟨_, rfl, ha1.ix at0' (k _ s1)⟩
theorem sc_are_nexts : FnScope ["nexts", "operation", "counts", "many", "index"] ["nexts", "operation", "counts", "many"] (defScope s_are_nexts) := ⟨rfl, rfl, rfl, by decide +kernel, rfl, by decide +kernel, by decide +kernel⟩
theorem ok_are_nexts {f : Addr} {fd fd_is_row fd_is_index : FuncData} (F : Fun K "are_nexts" "are_nexts" s_are_nexts f fd) (T : TxtF K mg fII fIW) (TG : TxtG K mg a_is_row a_is_index a_is_name a_is_text_in a_are_counts a_word_of a_are_nexts a_is_line a_line_of a_are_operations)
    (GR : FnOk P w K mg base CX0 1 a_is_row fd_is_row ["thing"] (spIsRow K)) (b_is_row : Binds K fd_is_row ["thing"] [])
    (GI : FnOk P w K mg base CX0 3 a_is_index fd_is_index ["thing", "many"] (spIndex K)) (b_is_index : Binds K fd_is_index ["thing", "many"] []) : FnOk P w K mg base CX0 4 f fd ["nexts", "operation", "counts", "many"] spNexts := by
  refine F.ok sc_are_nexts (fun vs H Q E h => ?_) (fun cdv A outer s H vs Q E hr h => ?_)
  · obtain ⟨t, d, ns, op, o, many, rfl, _⟩ := h
    rfl
  · obtain ⟨t, d, ns, op, o, many, rfl, ht, hd, hl, l2, all, k⟩ := h
    refine ⟨_, (pss_cons (ps_if (PW.pt (pw_or (pt_not (pt_val (pe_call GR (hr.mono (by decide)) (by rfl) TG.g_is_row TG.k_is_row b_is_row .nil pass0 (pa_cons (pv 0) pa_nil)))) (pw_or1 (pt_cmpR op_ne (pe_callB call_len_seq (by rfl) T.b_len PySem.boot_len (pa_cons (pv 0) pa_nil)) (pe_dget (hu_of hr) (pv 2) (pv 1) (fun _ _ => rfl)) (nomark _))))) (pss_one (ps_ret pe_bl)) pss_nil)
      (pss_one (ps_ret (pe_callB (cr_all rfl) (by rfl) T.b_all (by decide +kernel) (pa_cons (pe_lc (own := [("index", 4)]) (g := gName 4) (tt := tYes) (wi := iSeq K (tVar 0)) rfl sc_are_nexts.nd (pi_seq (pv 0)) (blkOk_by (own := [("index", 4)]) (N := ["nexts", "operation", "counts", "many", "index"]) (sc := defScope s_are_nexts) (by decide +kernel)) (fun _ _ _ _ _ => pg_name (i := 4) sc_are_nexts.nd rfl (Or.inl rfl)) (fun _ _ _ _ _ => pts_nil) (fun _ _ _ _ _ => (pe_call GI (hr.mono (by decide)) (by rfl) TG.g_is_index TG.k_is_index b_is_index .nil pass0 (pa_cons (pv 4) (pa_cons (pv 3) pa_nil))))) pa_nil))))), ?_⟩
    obtain ⟨ty, b, e⟩ := btSeq (K := K) ht
    refine ⟨_, rfl, _, ty, rfl, b, fun H1 s1 => ⟨_, rfl, ?_⟩⟩
    rw [e]
    refine iteF ?_
    have ht1 := s1.sqa ht
    have hd1 : Rd H1 d (.dK (opsK o)) := hd.elim (fun z => .inl (s1 _ _ z)) fun ⟨od, z⟩ => .inr ⟨od, s1 _ _ z⟩
    refine ⟨_, rfl, t, _, rfl, ht1.sq, _, rfl, _, rfl, d, _, rfl, .inl ⟨opsK o, .inr op, hd1, rfl, (by rw [val_ops, hl]; rfl)⟩, rfl, _, rfl, ?_⟩
    rw [List.length_map, decide_eq_true (show V.int (ns.length : Int) = V.int (ns.length : Int) from rfl)]
    refine iteF ?_
    have turn : ∀ (Hf : Hp) (D : Addr), Same H1 Hf → Hf D = none → ∀ i (y : V) Ha, i < (ns.map V.int).length → (Same Hf Ha ∧ Ha D = some (.lst (List.replicate i (V.bl true)))) → (ns.map V.int)[i]? = some y →
        inW y 0 (many - 1) = true ∧ (∃ z : Int, y = .int z) ∧ Ha D = some (.lst (List.replicate i (V.bl true))) ∧ (List.replicate i (V.bl true)).length < sizeLine ∧ (Same Hf (upd Ha D (.lst (List.replicate i (V.bl true) ++ [.bl true]))) ∧ upd Ha D (.lst (List.replicate i (V.bl true) ++ [.bl true])) D = some (.lst (List.replicate (i + 1) (V.bl true)))) := by
      intro Hf D sf nD i y Ha hi ⟨sx, ex⟩ hy
      rw [List.getElem?_map] at hy
      rw [List.length_map] at hi
      rw [List.getElem?_eq_getElem hi] at hy
      have e1 : V.int ns[i] = y := Option.some.inj hy
      subst e1
      obtain ⟨b1, b2⟩ := all _ (List.getElem_mem hi)
      refine ⟨inW_int b1 (by omega), ⟨_, rfl⟩, ex, ?_, fun b u e => ?_, ?_⟩
      · rw [List.length_replicate, sizeLine_eq]
        omega
      · have nb : b ≠ D := fun z => by
          rw [z] at e
          exact absurd (e.symm.trans nD) (by simp)
        rw [upd_ne nb]
        exact sx _ _ e
      · rw [List.replicate_succ']
        exact upd_same
    have fin : ∀ (D : Addr) (Hx : Hp), H1 D = none → (Same H1 Hx ∧ Hx D = some (.lst (List.replicate (ns.map V.int).length (V.bl true)))) → rAll K [.ref D] Hx fun v H' => Q v H' := by
      intro D Hx nD ⟨sx, ex⟩
      refine ⟨D, List.replicate (ns.map V.int).length true, rfl, SqL.of (by rw [trues_map]; exact ex), ?_⟩
      rw [trues_all]
      exact k _ (s1.trans sx)
    rcases ht1 with ht1 | ht1
    · refine .inl ⟨_, rfl, t, rfl, ⟨_, SqL.of ht1⟩, fun D nD => lc_it walk_list (fun i Hx => Same H1 Hx ∧ Hx D = some (.lst (List.replicate i (V.bl true)))) ⟨sameNew nD _, upd_same⟩ (fun i Hx _ z => SqL.of (z.1 _ _ ht1)) (fun i y Ha Hb hi z1 z2 => ?_) fun Hx z => fin D Hx nD z⟩
      obtain ⟨rfl, hy⟩ := z2
      obtain ⟨w1, ⟨z, rfl⟩, w3, w4, w5⟩ := turn H1 D (Same.refl _) nD i y _ hi z1 hy
      refine ⟨rfl, _, rfl, _, rfl, _, _, many, rfl, btInt z, ?_⟩
      rw [w1]
      exact ⟨_, w3, w4, w5⟩
    · refine .inr ⟨_, rfl, t, rfl, ⟨_, .inl (.inl ht1)⟩, fun D nD => lc_it walk_tup (fun i Hx => Same H1 Hx ∧ Hx D = some (.lst (List.replicate i (V.bl true)))) ⟨sameNew nD _, upd_same⟩ (fun i Hx _ z => .inl (.inl (z.1 _ _ ht1))) (fun i y Ha Hb hi z1 z2 => ?_) fun Hx z => fin D Hx nD z⟩
      obtain ⟨rfl, hy⟩ := z2
      obtain ⟨w1, ⟨z, rfl⟩, w3, w4, w5⟩ := turn H1 D (Same.refl _) nD i y _ hi z1 hy
      refine ⟨rfl, _, rfl, _, rfl, _, _, many, rfl, btInt z, ?_⟩
      rw [w1]
      exact ⟨_, w3, w4, w5⟩
end
end Mine

set_option maxRecDepth 100000
set_option maxHeartbeats 4000000
namespace L2
open PySem PySem.Spec PyProof.Rows
/-- tuple(x), x a list or a tuple: some tuple of the same things -/
def rTupG : List V → Hp → VK → Prop := fun xs H Q => ∃ p ys, xs = [.ref p] ∧ SqA H p ys ∧ ∀ (q : Addr) (H' : Hp), Same H H' → H' q = some (.tup ys) → Q (.ref q) H'
theorem call_tupleG {X : Cx} : CallR X (.type "tuple") rTupG := fun pins s σ H xs us Q I r ⟨p, ys, e, h, k⟩ => call_tuple_of pins s σ H xs us Q I r ⟨p, ys, e, h.elim (fun h => .inl ⟨SqL.of h, fun l hl => k l _ (sameNew hl _) upd_same⟩) fun h => .inr ⟨.inl (.inl h), k p H (Same.refl _) h⟩⟩
/-- list(x): a new list of the same things -/
def rLstG : List V → Hp → VK → Prop := fun xs H Q => ∃ p ys, xs = [.ref p] ∧ SqA H p ys ∧ New H (.lst ys) Q
theorem call_listG {X : Cx} : CallR X (.type "list") rLstG := fun pins s σ H xs us Q I r ⟨p, ys, e, h, k⟩ => call_list_of pins s σ H xs us Q I r ⟨p, ys, e, h.sq, fun l hl => k.at hl⟩
end L2
namespace Mine
open PySem L2
theorem strNe {x y : Str} (h : x ≠ y) : decide (V.str x = V.str y) = false := decide_eq_false fun z => h (V.str.inj z)
theorem strEq (x : Str) : decide (V.str x = V.str x) = true := decide_eq_true rfl
theorem intEq (i : Int) : decide (V.int i = V.int i) = true := decide_eq_true rfl
theorem ask_end : ("ask" : Str) ≠ "end" := by decide +kernel
theorem end_ask : ("end" : Str) ≠ "ask" := by decide +kernel
theorem go_ask : ("go" : Str) ≠ "ask" := by decide +kernel
theorem go_end : ("go" : Str) ≠ "end" := by decide +kernel
section
variable {P : Program} {w : World} {K : PySem.W.Frag} {mg : Str → Option Value} {base : Heap}
variable {fII fIW a_is_row a_is_index a_is_name a_is_text_in a_are_counts a_word_of a_are_nexts a_is_line a_line_of a_are_operations : Addr}
theorem sc_is_line : FnScope ["row", "counts", "many", "word"] ["row", "counts", "many"] (defScope s_is_line) := ⟨rfl, rfl, rfl, by decide +kernel, rfl, by decide +kernel, by decide +kernel⟩
theorem ok_is_line {f : Addr} {fd fd_word_of fd_is_text_in fd_are_nexts fd_is_name fd_is_index : FuncData} (F : Fun K "is_line" "is_line" s_is_line f fd) (T : TxtF K mg fII fIW) (TG : TxtG K mg a_is_row a_is_index a_is_name a_is_text_in a_are_counts a_word_of a_are_nexts a_is_line a_line_of a_are_operations)
    (GWo : FnOk P w K mg base CX0 2 a_word_of fd_word_of ["row"] spWord) (b_word_of : Binds K fd_word_of ["row"] [])
    (GT : FnOk P w K mg base CX0 1 a_is_text_in fd_is_text_in ["thing", "table"] (spTextIn K)) (b_is_text_in : Binds K fd_is_text_in ["thing", "table"] [])
    (GX : FnOk P w K mg base CX0 4 a_are_nexts fd_are_nexts ["nexts", "operation", "counts", "many"] spNexts) (b_are_nexts : Binds K fd_are_nexts ["nexts", "operation", "counts", "many"] [])
    (GNm : FnOk P w K mg base CX0 1 a_is_name fd_is_name ["thing"] (spName K)) (b_is_name : Binds K fd_is_name ["thing"] [])
    (GI : FnOk P w K mg base CX0 3 a_is_index fd_is_index ["thing", "many"] (spIndex K)) (b_is_index : Binds K fd_is_index ["thing", "many"] []) : FnOk P w K mg base CX0 5 f fd ["row", "counts", "many"] spIsLine := by
  refine F.ok sc_is_line (fun vs H Q E h => ?_) (fun cdv A outer s H vs Q E hr h => ?_)
  · obtain ⟨v, d, o, many, r, rfl, _⟩ := h
    rfl
  · obtain ⟨v, d, o, many, r, rfl, hv, hd, ok, k⟩ := h
    refine ⟨_, (pss_cons (ps_set (i := 3) sc_is_line.nd rfl (Or.inl rfl) (pe_call GWo (hr.mono (by decide)) (by rfl) TG.g_word_of TG.k_word_of b_word_of .nil pass0 (pa_cons (pv 0) pa_nil)))
      (pss_cons (ps_if (pt_cmpR op_eq (pv 3) pe_str (nomark _)) (pss_one (ps_ret (pe_and (pe_cmpR op_eq (pe_callB call_len_seq (by rfl) T.b_len PySem.boot_len (pa_cons (pv 0) pa_nil)) pe_int (nomark _)) (pe_and (pe_call GT (hr.mono (by decide)) (by rfl) TG.g_is_text_in TG.k_is_text_in b_is_text_in .nil pass0 (pa_cons (pe_ix ix_seq (pv 0) pe_int (fun _ _ => rfl)) (pa_cons (pv 1) pa_nil))) (pe_one (pe_call GX (hr.mono (by decide)) (by rfl) TG.g_are_nexts TG.k_are_nexts b_are_nexts .nil pass0 (pa_cons (pe_ix ix_seq (pv 0) pe_int (fun _ _ => rfl)) (pa_cons (pe_ix ix_seq (pv 0) pe_int (fun _ _ => rfl)) (pa_cons (pv 1) (pa_cons (pv 2) pa_nil)))))))))) pss_nil)
      (pss_cons (ps_if (pt_cmpR op_eq (pv 3) pe_str (nomark _)) (pss_one (ps_ret (pe_and (pe_cmpR op_eq (pe_callB call_len_seq (by rfl) T.b_len PySem.boot_len (pa_cons (pv 0) pa_nil)) pe_int (nomark _)) (pe_one (pe_call GNm (hr.mono (by decide)) (by rfl) TG.g_is_name TG.k_is_name b_is_name .nil pass0 (pa_cons (pe_ix ix_seq (pv 0) pe_int (fun _ _ => rfl)) pa_nil)))))) pss_nil)
      (pss_one (ps_ret (pe_and (pe_cmpR op_eq (pv 3) pe_str (nomark _)) (pe_and (pe_cmpR op_eq (pe_callB call_len_seq (by rfl) T.b_len PySem.boot_len (pa_cons (pv 0) pa_nil)) pe_int (nomark _)) (pe_one (pe_call GI (hr.mono (by decide)) (by rfl) TG.g_is_index TG.k_is_index b_is_index .nil pass0 (pa_cons (pe_ix ix_seq (pv 0) pe_int (fun _ _ => rfl)) (pa_cons (pv 2) pa_nil))))))))))), ?_⟩
    have rd : ∀ {H' : Hp}, Same H H' → Rd H' d (.dK (opsK o)) := fun s => hd.elim (fun z => .inl (s _ _ z)) fun ⟨od, z⟩ => .inr ⟨od, s _ _ z⟩
    cases r with
    | ask op ns =>
      obtain ⟨a, t, rfl, ha, ht⟩ := hv
      obtain ⟨o1, o2, o3⟩ := ok
      refine ⟨_, rfl, a, _, _, rfl, ha, fun H1 s1 => ?_⟩
      have ha1 := s1.sqa ha
      refine ⟨_, rfl, rfl, _, rfl, ?_⟩
      rw [strEq]
      refine iteT ?_
      refine ⟨_, rfl, a, _, rfl, ha1.sq, rfl, _, rfl, ?_⟩
      refine iteT ?_
      refine ⟨_, rfl, ha1.ix at1' ⟨_, rfl, _, _, d, _, rfl, btStr _, rd s1, _, rfl, ?_⟩⟩
      have hh : hasT (opsK o) (.str op) = true := by
        show (valV (opsK o) (.inr op)).isSome = true
        rw [val_ops, o1]
        rfl
      rw [hh]
      refine iteT ?_
      refine ⟨_, rfl, ha1.ix at2' ⟨_, rfl, ha1.ix at1' ⟨_, rfl, _, rfl, t, d, ns, op, o, many, rfl, s1.sqa ht, rd s1, o1, o2, o3, fun H2 s2 => k _ (s1.trans s2)⟩⟩⟩
    | fin x =>
      obtain ⟨a, rfl, ha⟩ := hv
      refine ⟨_, rfl, a, _, _, rfl, ha, fun H1 s1 => ?_⟩
      have ha1 := s1.sqa ha
      refine ⟨_, rfl, rfl, _, rfl, ?_⟩
      rw [strNe end_ask]
      refine iteF ?_
      refine ⟨_, rfl, rfl, _, rfl, ?_⟩
      rw [strEq]
      refine iteT ?_
      refine ⟨_, rfl, a, _, rfl, ha1.sq, rfl, _, rfl, ?_⟩
      refine iteT ?_
      refine ⟨_, rfl, ha1.ix at1' ⟨_, _, rfl, btStr _, fun x' e' => ?_, fun H2 s2 => ?_⟩⟩
      · have e2 : x = x' := V.str.inj e'
        rw [← e2, sizeLine_eq]
        have := ok.2
        omega
      · rw [show nameV (.str x) = true from ok.1]
        exact k _ (s1.trans s2)
    | go n =>
      obtain ⟨a, rfl, ha⟩ := hv
      refine ⟨_, rfl, a, _, _, rfl, ha, fun H1 s1 => ?_⟩
      have ha1 := s1.sqa ha
      refine ⟨_, rfl, rfl, _, rfl, ?_⟩
      rw [strNe go_ask]
      refine iteF ?_
      refine ⟨_, rfl, rfl, _, rfl, ?_⟩
      rw [strNe go_end]
      refine iteF ?_
      refine ⟨_, rfl, rfl, _, rfl, ?_⟩
      rw [strEq]
      refine iteT ?_
      refine ⟨_, rfl, a, _, rfl, ha1.sq, rfl, _, rfl, ?_⟩
      refine iteT ?_
      refine ⟨_, rfl, ha1.ix at1' ⟨_, rfl, _, _, many, rfl, btInt n, ?_⟩⟩
      rw [inW_int ok.1 (by have := ok.2; omega)]
      exact k _ s1
theorem sc_line_of : FnScope ["row"] ["row"] (defScope s_line_of) := ⟨rfl, rfl, rfl, by decide +kernel, rfl, by decide +kernel, by decide +kernel⟩
theorem ok_line_of {f : Addr} {fd : FuncData} (F : Fun K "line_of" "line_of" s_line_of f fd) (T : TxtF K mg fII fIW) : FnOk P w K mg base CX0 1 f fd ["row"] spLineOf := by
  refine F.ok sc_line_of (fun vs H Q E h => ?_) (fun cdv A outer s H vs Q E hr h => ?_)
  · obtain ⟨v, r, rfl, _⟩ := h
    rfl
  · obtain ⟨v, r, rfl, hv, k⟩ := h
    refine ⟨_, (pss_cons (ps_if (pt_cmpR op_eq (pe_ix ix_seq (pv 0) pe_int (fun _ _ => rfl)) pe_str (nomark _)) (pss_one (ps_ret (pe_tupG (pa_cons pe_str (pa_cons (pe_ix ix_seq (pv 0) pe_int (fun _ _ => rfl)) (pa_cons (pe_callTy call_tupleG (by rfl) T.b_tuple (by decide +kernel) (pa_cons (pe_ix ix_seq (pv 0) pe_int (fun _ _ => rfl)) pa_nil)) pa_nil)))))) pss_nil)
      (pss_one (ps_ret (pe_callTy call_tupleG (by rfl) T.b_tuple (by decide +kernel) (pa_cons (pv 0) pa_nil))))), ?_⟩
    cases r with
    | ask op ns =>
      obtain ⟨a, t, rfl, ha, ht⟩ := hv
      refine ⟨_, rfl, ha.ix at0' ⟨rfl, _, rfl, ?_⟩⟩
      rw [strEq]
      refine iteT ?_
      refine ⟨_, rfl, ha.ix at1' ⟨_, rfl, ha.ix at2' ⟨t, _, rfl, ht, fun p H1 s1 e1 => ?_⟩⟩⟩
      refine ⟨by show 3 ≤ sizeLine; decide, fun p2 H2 n2 s2 e2 => ?_⟩
      exact k _ _ (s1.trans s2) ⟨p2, p, rfl, e2, s2 _ _ e1⟩
    | fin x =>
      obtain ⟨a, rfl, ha⟩ := hv
      refine ⟨_, rfl, ha.ix at0' ⟨rfl, _, rfl, ?_⟩⟩
      rw [strNe end_ask]
      refine iteF ?_
      exact ⟨_, rfl, a, _, rfl, ha, fun p H1 s1 e1 => k _ _ s1 ⟨p, rfl, e1⟩⟩
    | go n =>
      obtain ⟨a, rfl, ha⟩ := hv
      refine ⟨_, rfl, ha.ix at0' ⟨rfl, _, rfl, ?_⟩⟩
      rw [strNe go_ask]
      refine iteF ?_
      exact ⟨_, rfl, a, _, rfl, ha, fun p H1 s1 e1 => k _ _ s1 ⟨p, rfl, e1⟩⟩
end
end Mine

set_option maxRecDepth 100000
set_option maxHeartbeats 4000000
namespace Mine
open PySem L2
abbrev s_rest_of : Stmt := top 27
abbrev s_stops_of : Stmt := top 26
theorem inV_ints {a : Int} : ∀ {ts : List Int}, inV (.int a) (ts.map V.int) = decide (a ∈ ts)
  | [] => by simp [inV]
  | t :: ts => by
    have ih := inV_ints (a := a) (ts := ts)
    unfold inV at ih ⊢
    rw [List.map_cons, List.any_cons, ih]
    show (t == a || decide (a ∈ ts)) = _
    by_cases h : t = a
    · subst h
      simp
    · have h2 : (t == a) = false := beq_eq_false_iff_ne.mpr h
      rw [h2, Bool.false_or]
      by_cases m : a ∈ ts
      · rw [decide_eq_true m, decide_eq_true (List.mem_cons_of_mem _ m)]
      · rw [decide_eq_false m, decide_eq_false (fun z => (List.mem_cons.mp z).elim (fun y => h y.symm) m)]
theorem flat_ints (ts : List Int) : (ts.map V.int).all flatV = true := by
  rw [List.all_map]
  exact List.all_eq_true.mpr fun _ _ => rfl
/-- min of the trail from where `at` stands, or `at` -/
def RestIs (ts : List Int) (a m : Int) : Prop := (a ∉ ts → m = a) ∧ ∀ j, ts[j]? = some a → (∀ i, i < j → ts[i]? ≠ some a) → m ∈ ts.drop j ∧ ∀ x ∈ ts.drop j, m ≤ x
def spRest (K : PySem.W.Frag) : Sp := fun vs H Q _ => ∃ (p : Addr) (ts : List Int) (a : Int), vs = [.ref p, .int a] ∧ H p = some (.lst (ts.map V.int)) ∧ ∀ (m : Int) (H' : Hp), Same H H' → RestIs ts a m → Q (.int m) H'
theorem first_at {a : Int} : ∀ {ts : List Int}, a ∈ ts → ∃ j : Nat, ts[j]? = some a ∧ ∀ i : Nat, i < j → ts[i]? ≠ some a
  | [], h => nomatch h
  | t :: ts, h => by
    by_cases e : t = a
    · exact ⟨0, by rw [e]; rfl, fun i hi => absurd hi (Nat.not_lt_zero i)⟩
    · obtain ⟨j, h1, h2⟩ := first_at (a := a) (ts := ts) ((List.mem_cons.mp h).elim (fun z => absurd z.symm e) id)
      refine ⟨j + 1, by simpa using h1, fun i hi => ?_⟩
      cases i with
      | zero => simpa using e
      | succ i => simpa using h2 i (by omega)
section
variable {P : Program} {w : World} {K : PySem.W.Frag} {mg : Str → Option Value} {base : Heap}
variable {fII fIW a_is_row a_is_index a_is_name a_is_text_in a_are_counts a_word_of a_are_nexts a_is_line a_line_of a_are_operations : Addr}
theorem sc_rest_of : FnScope ["trail", "at"] ["trail", "at"] (defScope s_rest_of) := ⟨rfl, rfl, rfl, by decide +kernel, rfl, by decide +kernel, by decide +kernel⟩
theorem ok_rest_of {f : Addr} {fd : FuncData} (F : Fun K "rest_of" "rest_of" s_rest_of f fd) (hmin : mg "min" = none) : FnOk P w K mg base CX0 1 f fd ["trail", "at"] (spRest K) := by
  refine F.ok sc_rest_of (fun vs H Q E h => ?_) (fun cdv A outer s H vs Q E hr h => ?_)
  · obtain ⟨p, ts, a, rfl, _⟩ := h
    rfl
  · obtain ⟨p, ts, a, rfl, hp, k⟩ := h
    refine ⟨_, (pss_cons (ps_if (pt_cmpR op_in_seq (pv 1) (pv 0) (by rfl)) (pss_one (ps_ret (pe_callB (cr_min rfl) (by rfl) hmin (by decide +kernel) (pa_cons (pe_slice sl_listG (pv 0) (po_some (pe_bm PySem.F.plainAttrs_list PySem.F.slot_list_index PySem.F.type_list_index mt_index (pv 0) (pa_cons (pv 1) pa_nil))) po_none) pa_nil)))) pss_nil)
      (pss_one (ps_ret (pv 1)))), ?_⟩
    refine ⟨_, rfl, _, rfl, p, _, rfl, .inl (SqL.of hp), rfl, flat_ints ts, _, rfl, ?_⟩
    show if inV (.int a) (ts.map V.int) = true then _ else _
    rw [inV_ints]
    refine ite2 (fun h1 => ?_) (fun h1 => ?_)
    · obtain ⟨j, hj, hf⟩ := first_at (of_decide_eq_true h1)
      have hjl : j < ts.length := (List.getElem?_eq_some_iff.mp hj).1
      refine ⟨_, rfl, _, rfl, .inl ⟨rfl, _, SqL.of hp⟩, _, rfl, p, _, _, j, .int a, rfl, rfl, SqL.of hp, rfl, flat_ints ts, by rw [List.getElem?_map, hj]; rfl, by show (a == a) = true; exact beq_self_eq_true a, fun m z hm hz => ?_, ?_⟩
      · rw [List.getElem?_map] at hz
        cases e : ts[m]? with
        | none => rw [e] at hz; cases hz
        | some b =>
          rw [e] at hz
          have e2 : V.int b = z := Option.some.inj hz
          subst e2
          show (b == a) = false
          exact beq_eq_false_iff_ne.mpr fun y => hf m hm (by rw [e, y])
      · refine ⟨_, rfl, p, _, rfl, SqL.of hp, fun q1 H1 n1 s1 e1 => ?_⟩
        have e2 : cutV (ts.map V.int) (some (j : Int)) none = (ts.drop j).map V.int := by
          unfold cutV
          rw [HT.sIx_nat, HT.sIx_none, List.length_map, Nat.min_eq_left (by omega), List.map_drop]
          exact List.take_of_length_le (by rw [List.length_drop, List.length_map]; omega)
        rw [e2] at e1
        refine ⟨q1, ts.drop j, rfl, SqL.of e1, by rw [List.length_drop]; omega, fun m h2 h3 => k m _ s1 ⟨fun z => absurd (of_decide_eq_true h1) z, fun j' hj' hf' => ?_⟩⟩
        have : j' = j := by
          by_cases lt : j' < j
          · exact absurd hj' (hf j' lt)
          · by_cases lt2 : j < j'
            · exact absurd hj (hf' j lt2)
            · omega
        subst this
        exact ⟨h2, h3⟩
    · exact ⟨_, rfl, k a _ (Same.refl _) ⟨fun _ => rfl, fun j hj _ => absurd (decide_eq_true (List.mem_of_getElem? hj)) h1⟩⟩
end
end Mine

set_option maxRecDepth 100000
set_option maxHeartbeats 4000000
namespace Mine
open PySem L2
def nxt (rs : List RowD) (i : Nat) : Nat := match rs[i]? with
  | some (.go k) => k.toNat
  | _ => i
def isGo (rs : List RowD) (i : Nat) : Bool := match rs[i]? with
  | some (.go _) => true
  | _ => false
def GoOk (rs : List RowD) : Prop := ∀ (i : Nat) (k : Int), rs[i]? = some (.go k) → 0 ≤ k ∧ k < rs.length
theorem nxt_lt {rs : List RowD} (h : GoOk rs) (i : Nat) (hi : i < rs.length) : nxt rs i < rs.length := by
  unfold nxt
  split
  · rename_i k e
    have := h i k e
    omega
  · exact hi
theorem nxt_fix {rs : List RowD} {i : Nat} (h : isGo rs i = false) : nxt rs i = i := by
  unfold isGo at h
  unfold nxt
  split
  · rename_i k e
    rw [e] at h
    cases h
  · rfl
abbrev way (rs : List RowD) (k i : Nat) : Nat := Mach.itr (nxt rs) k i
def stp (rs : List RowD) (i : Nat) : Nat := Mach.stopAt (nxt rs) rs.length i
theorem stp_way {rs : List RowD} (h : GoOk rs) : ∀ (k i : Nat), i < rs.length → stp rs (way rs k i) = stp rs i
  | 0, _, _ => rfl
  | k + 1, i, hi => by
    show stp rs (way rs k (nxt rs i)) = _
    rw [stp_way h k _ (nxt_lt h i hi)]
    exact Mach.stop_step (nxt_lt h) hi
/-- a list of ints by its places -/
def fl (n : Nat) (g : Nat → Int) : List V := (List.range n).map fun i => V.int (g i)
theorem fl_len {n : Nat} {g : Nat → Int} : (fl n g).length = n := by
  unfold fl
  rw [List.length_map, List.length_range]
theorem fl_get {n k : Nat} {g : Nat → Int} (h : k < n) : (fl n g)[k]? = some (V.int (g k)) := by
  unfold fl
  rw [List.getElem?_map, List.getElem?_range h]
  rfl
theorem fl_at {n k : Nat} {g : Nat → Int} (h : k < n) : atI (fl n g) (k : Int) = some (V.int (g k)) := atI_nat (fl_get h)
theorem fl_set {n k : Nat} {g : Nat → Int} {v : Int} (h : k < n) : (fl n g).set k (V.int v) = fl n (fun i => if i = k then v else g i) := by
  apply List.ext_getElem?
  intro i
  by_cases hi : i < n
  · rw [fl_get hi]
    by_cases e : i = k
    · subst e
      rw [List.getElem?_set_self (by rw [fl_len]; exact hi), if_pos rfl]
    · rw [List.getElem?_set_ne (Ne.symm e), fl_get hi, if_neg e]
  · rw [List.getElem?_eq_none (by rw [List.length_set, fl_len]; omega), List.getElem?_eq_none (by rw [fl_len]; omega)]
theorem fl_rep (n : Nat) : (List.replicate n [V.int (-1)]).flatten = fl n fun _ => -1 := by
  apply List.ext_getElem?
  intro i
  have e : (List.replicate n [V.int (-1)]).flatten = List.replicate n (V.int (-1)) := by simp
  rw [e]
  by_cases hi : i < n
  · rw [fl_get hi, List.getElem?_replicate, if_pos hi]
  · rw [List.getElem?_eq_none (by rw [List.length_replicate]; omega), List.getElem?_eq_none (by rw [fl_len]; omega)]
theorem ixn {n k : Nat} (h : k < n) : ixN n (k : Int) = some k := by
  unfold ixN
  rw [if_pos (by omega), if_pos (by omega)]
  simp
/-- the rows stand there as tuples -/
def Rows (H : Hp) (xs : List V) (rs : List RowD) : Prop := xs.length = rs.length ∧ ∀ (i : Nat) (r : RowD), rs[i]? = some r → ∃ x, xs[i]? = some x ∧ TRow H x r
theorem Rows.same {H H' : Hp} {xs : List V} {rs : List RowD} (s : Same H H') (h : Rows H xs rs) : Rows H' xs rs := ⟨h.1, fun i r e => by
  obtain ⟨x, h1, h2⟩ := h.2 i r e
  exact ⟨x, h1, h2.same s⟩⟩
def wordOf : RowD → Str
  | .ask _ _ => "ask"
  | .go _ => "go"
  | .fin _ => "end"
theorem TRow.head {H : Hp} {v : V} {r : RowD} (h : TRow H v r) : ∃ a xs, v = .ref a ∧ H a = some (.tup (.str (wordOf r) :: xs)) := by
  cases r with
  | ask op ns =>
    obtain ⟨a, t, e, h1, _⟩ := h
    exact ⟨a, _, e, h1⟩
  | go n =>
    obtain ⟨a, e, h1⟩ := h
    exact ⟨a, _, e, h1⟩
  | fin w =>
    obtain ⟨a, e, h1⟩ := h
    exact ⟨a, _, e, h1⟩
def spStops : Sp := fun vs H Q _ => ∃ (a : Addr) (xs : List V) (rs : List RowD), vs = [.ref a] ∧ H a = some (.lst xs) ∧ Rows H xs rs ∧ GoOk rs ∧ rs.length ≤ 100000 ∧ New H (.lst (fl rs.length fun i => (stp rs i : Int))) Q
/-- what holds ahead of the turn b of stops_of -/
structure StB (rs : List RowD) (b : Nat) (ss ws : Nat → Int) : Prop where
  any : ∀ i, i < rs.length → ss i = -1 ∨ ss i = stp rs i
  done : ∀ i, i < b → ss i = stp rs i
  ws : ∀ i, i < rs.length → ws i < b
/-- what holds within the walk from b, behind k steps -/
structure InW (rs : List RowD) (b k : Nat) (ss ws : Nat → Int) : Prop where
  go : ∀ j, j < k → isGo rs (way rs j b) = true
  new : ∀ j, j < k → ss (way rs j b) = -1
  mark : ∀ i, i < rs.length → (ws i = b ↔ ∃ j, j < k ∧ way rs j b = i)
  le : ∀ i, i < rs.length → ws i ≤ b
  ne : ∀ j j', j < j' → j' < k → way rs j b ≠ way rs j' b
/-- the walk's test -/
def goOn (rs : List RowD) (b k : Nat) (ss ws : Nat → Int) : Bool := decide (ss (way rs k b) < 0) && (!decide (ws (way rs k b) = b) && isGo rs (way rs k b))
theorem InW.room {rs : List RowD} {b k : Nat} {ss ws : Nat → Int} (ok : GoOk rs) (hb : b < rs.length) (w : InW rs b k ss ws) (h : ws (way rs k b) ≠ b) : k < rs.length := by
  have lt : ∀ j, way rs j b < rs.length := fun j => Mach.itr_lt (nxt_lt ok) j b hb
  have nd : ((List.range (k + 1)).map fun j => way rs j b).Nodup := by
    rw [List.Nodup, List.pairwise_map]
    refine List.Pairwise.imp_of_mem (fun {i j} hi hj l e => ?_) List.pairwise_lt_range
    have hj' := List.mem_range.mp hj
    by_cases q : j = k
    · subst q
      exact h (((w.mark _ (lt _)).mpr ⟨i, l, e⟩))
    · exact w.ne i j l (by omega) e
  have := Mach.pigeon _ _ nd (fun x hx => by
    obtain ⟨j, _, e⟩ := List.mem_map.mp hx
    rw [← e]
    exact lt j)
  rw [List.length_map, List.length_range] at this
  omega
theorem InW.more {rs : List RowD} {b k : Nat} {ss ws : Nat → Int} (ok : GoOk rs) (hb : b < rs.length) (w : InW rs b k ss ws) (h0 : ss (way rs k b) = -1) (h1 : ws (way rs k b) ≠ b) (h2 : isGo rs (way rs k b) = true) :
    InW rs b (k + 1) ss (fun i => if i = way rs k b then (b : Int) else ws i) := by
  have lt : ∀ j, way rs j b < rs.length := fun j => Mach.itr_lt (nxt_lt ok) j b hb
  refine ⟨fun j hj => ?_, fun j hj => ?_, fun i hi => ?_, fun i hi => ?_, fun j j' l hj e => ?_⟩
  · by_cases q : j = k
    · rw [q]
      exact h2
    · exact w.go j (by omega)
  · by_cases q : j = k
    · rw [q]
      exact h0
    · exact w.new j (by omega)
  · by_cases q : i = way rs k b
    · rw [if_pos q]
      exact ⟨fun _ => ⟨k, by omega, q.symm⟩, fun _ => rfl⟩
    · rw [if_neg q, w.mark i hi]
      constructor
      · rintro ⟨j, hj, e⟩
        exact ⟨j, by omega, e⟩
      · rintro ⟨j, hj, e⟩
        refine ⟨j, ?_, e⟩
        by_cases z : j = k
        · rw [z] at e
          exact absurd e.symm q
        · omega
  · show (if i = way rs k b then (b : Int) else ws i) ≤ b
    split
    · exact Int.le_refl _
    · exact w.le i hi
  · by_cases q : j' = k
    · subst q
      exact h1 (((w.mark _ (lt _)).mpr ⟨j, l, e⟩))
    · exact w.ne j j' l (by omega) e
/-- where the walk ends, what rest_of hands back is where it rests -/
theorem InW.rest {rs : List RowD} {b k : Nat} {ss ws : Nat → Int} (ok : GoOk rs) (hb : b < rs.length) (w : InW rs b k ss ws) (any : ∀ i, i < rs.length → ss i = -1 ∨ ss i = stp rs i) (hend : goOn rs b k ss ws = false) (neg : ss (way rs k b) < 0) {m : Int}
    (h : RestIs ((List.range k).map fun j => (way rs j b : Int)) (way rs k b : Int) m) : m = stp rs (way rs k b) := by
  have lt : ∀ j, way rs j b < rs.length := fun j => Mach.itr_lt (nxt_lt ok) j b hb
  by_cases mk : ws (way rs k b) = b
  · obtain ⟨j, hj, e⟩ := (w.mark _ (lt k)).mp mk
    have hget : ∀ i, i < k → ((List.range k).map fun j => (way rs j b : Int))[i]? = some (way rs i b : Int) := fun i hi => by
      rw [List.getElem?_map, List.getElem?_range hi]
      rfl
    obtain ⟨h1, h2⟩ := h.2 j (by rw [hget j hj, e]) (fun i hi z => by
      rw [hget i (by omega)] at z
      have z2 : (way rs i b : Int) = (way rs k b : Int) := Option.some.inj z
      exact w.ne i j hi hj (by omega))
    have hmem : ∀ x, x ∈ ((List.range k).map fun j => (way rs j b : Int)).drop j ↔ ∃ i, i < k - j ∧ x = (way rs i (way rs k b) : Int) := fun x => by
      have ee : ∀ i, way rs (j + i) b = way rs i (way rs k b) := fun i => by
        rw [← e]
        exact Mach.itr_add _ j i b
      constructor
      · intro hx
        obtain ⟨i, hi⟩ := List.mem_iff_getElem?.mp hx
        rw [List.getElem?_drop] at hi
        have hik : j + i < k := by
          have := (List.getElem?_eq_some_iff.mp hi).1
          simpa using this
        rw [hget _ hik] at hi
        have z : (way rs (j + i) b : Int) = x := Option.some.inj hi
        refine ⟨i, by omega, ?_⟩
        rw [← ee i]
        exact z.symm
      · rintro ⟨i, hi, rfl⟩
        refine List.mem_iff_getElem?.mpr ⟨i, ?_⟩
        rw [List.getElem?_drop, hget _ (by omega), ee i]
    obtain ⟨i0, hi0, e0⟩ := (hmem m).mp h1
    have st : stp rs (way rs k b) = way rs i0 (way rs k b) := by
      refine Mach.stop_ring (nxt_lt ok) (lt k) (m := k - j) (by omega) ?_ ⟨i0, hi0, rfl⟩ fun i hi => ?_
      · show way rs (k - j) (way rs k b) = way rs k b
        conv => lhs; rw [← e]
        show Mach.itr (nxt rs) (k - j) (Mach.itr (nxt rs) j b) = Mach.itr (nxt rs) k b
        rw [← Mach.itr_add]
        congr 1
        omega
      · have := h2 _ ((hmem _).mpr ⟨i, hi, rfl⟩)
        rw [e0] at this
        exact Int.ofNat_le.mp this
    rw [st]
    exact e0
  · have ng : isGo rs (way rs k b) = false := by
      unfold goOn at hend
      rw [decide_eq_true neg, decide_eq_false mk, Bool.true_and] at hend
      simpa using hend
    have hn : (way rs k b : Int) ∉ ((List.range k).map fun j => (way rs j b : Int)) := fun hx => by
      obtain ⟨j, hj, e⟩ := List.mem_map.mp hx
      have e2 : way rs j b = way rs k b := by omega
      have g := w.go j (List.mem_range.mp hj)
      rw [e2, ng] at g
      cases g
    rw [h.1 hn]
    have : stp rs (way rs k b) = way rs k b := Mach.stop_fix (nxt_lt ok) (lt k) (nxt_fix ng)
    rw [this]
end Mine

set_option maxRecDepth 100000
set_option maxHeartbeats 4000000
namespace Mine
open PySem L2
/-- both lists of marks stand there -/
structure At (H0 : Hp) (sa wa : Addr) (n : Nat) (ss ws : Nat → Int) (H : Hp) : Prop where
  same : Same H0 H
  s : H sa = some (.lst (fl n ss))
  w : H wa = some (.lst (fl n ws))
  ns : H0 sa = none
  nw : H0 wa = none
  ne : sa ≠ wa
theorem same_updN {H H' : Hp} {p : Addr} {o : HO} (s : Same H H') (n : H p = none) : Same H (upd H' p o) := fun b u e => by
  rw [upd_ne (ne_of_none e n)]
  exact s b u e
theorem At.go {H0 H H' : Hp} {sa wa : Addr} {n : Nat} {ss ws : Nat → Int} (t : At H0 sa wa n ss ws H) (s : Same H H') : At H0 sa wa n ss ws H' := ⟨t.same.trans s, s _ _ t.s, s _ _ t.w, t.ns, t.nw, t.ne⟩
def set1 (f : Nat → Int) (k : Nat) (v : Int) : Nat → Int := fun i => if i = k then v else f i
theorem At.setW {H0 H : Hp} {sa wa : Addr} {n k : Nat} {ss ws : Nat → Int} {v : Int} (t : At H0 sa wa n ss ws H) (h : k < n) : At H0 sa wa n ss (set1 ws k v) (upd H wa (.lst ((fl n ws).set k (V.int v)))) := by
  refine ⟨same_updN t.same t.nw, ?_, ?_, t.ns, t.nw, t.ne⟩
  · rw [upd_ne t.ne]
    exact t.s
  · rw [upd_same, fl_set h]
    rfl
theorem At.setS {H0 H : Hp} {sa wa : Addr} {n k : Nat} {ss ws : Nat → Int} {v : Int} (t : At H0 sa wa n ss ws H) (h : k < n) : At H0 sa wa n (set1 ss k v) ws (upd H sa (.lst ((fl n ss).set k (V.int v)))) := by
  refine ⟨same_updN t.same t.ns, ?_, ?_, t.ns, t.nw, t.ne⟩
  · rw [upd_same, fl_set h]
    rfl
  · rw [upd_ne (Ne.symm t.ne)]
    exact t.w
/-- a third list, made behind both -/
theorem At.other {H0 H : Hp} {sa wa ta : Addr} {n : Nat} {ss ws : Nat → Int} {o : HO} (t : At H0 sa wa n ss ws H) (h0 : H0 ta = none) (h1 : ta ≠ sa) (h2 : ta ≠ wa) : At H0 sa wa n ss ws (upd H ta o) := by
  refine ⟨same_updN t.same h0, ?_, ?_, t.ns, t.nw, t.ne⟩
  · rw [upd_ne (Ne.symm h1)]
    exact t.s
  · rw [upd_ne (Ne.symm h2)]
    exact t.w
theorem none_of {H H' : Hp} {p : Addr} (s : Same H H') (h : H' p = none) : H p = none := by
  cases e : H p with
  | none => rfl
  | some u =>
    rw [s _ _ e] at h
    cases h
def Up (rs : List RowD) (ss ss' : Nat → Int) : Prop := ∀ i, i < rs.length → ss' i = ss i ∨ ss' i = stp rs i
theorem Up.refl (rs : List RowD) (ss : Nat → Int) : Up rs ss ss := fun _ _ => .inl rfl
theorem Up.set {rs : List RowD} {ss ss' : Nat → Int} (u : Up rs ss ss') (k : Nat) : Up rs ss (set1 ss' k (stp rs k)) := fun i hi => by
  unfold set1
  by_cases e : i = k
  · rw [if_pos e, e]
    exact .inr rfl
  · rw [if_neg e]
    exact u i hi
theorem set1_same (f : Nat → Int) (k : Nat) (v : Int) : set1 f k v k = v := if_pos rfl
theorem Up.done {rs : List RowD} {ss ss' : Nat → Int} (u : Up rs ss ss') {i : Nat} (hi : i < rs.length) (h : ss i = stp rs i) : ss' i = stp rs i := (u i hi).elim (fun e => e.trans h) id
theorem Up.any {rs : List RowD} {ss ss' : Nat → Int} (u : Up rs ss ss') {i : Nat} (hi : i < rs.length) (h : ss i = -1 ∨ ss i = stp rs i) : ss' i = -1 ∨ ss' i = stp rs i := (u i hi).elim (fun e => by rw [e]; exact h) .inr
theorem set1_done {rs : List RowD} {ss : Nat → Int} {i : Nat} (h : ss i = stp rs i) (k : Nat) : set1 ss k (stp rs k) i = stp rs i := by
  unfold set1
  by_cases e : i = k
  · rw [if_pos e, e]
  · rw [if_neg e]
    exact h
theorem ask_go : ("ask" : Str) ≠ "go" := by decide +kernel
theorem end_go : ("end" : Str) ≠ "go" := by decide +kernel
theorem go_dec {rs : List RowD} {i : Nat} {r : RowD} (e : rs[i]? = some r) : decide (V.str (wordOf r) = V.str "go") = isGo rs i := by
  unfold isGo
  rw [e]
  cases r with
  | ask op ns => exact strNe ask_go
  | go k => exact strEq _
  | fin x => exact strNe end_go
theorem isGo_row {rs : List RowD} {i : Nat} (h : isGo rs i = true) : ∃ k, rs[i]? = some (.go k) := by
  unfold isGo at h
  split at h
  · rename_i k e
    exact ⟨k, e⟩
  · cases h
theorem InW.start {rs : List RowD} {b : Nat} {ss ws : Nat → Int} (t : StB rs b ss ws) : InW rs b 0 ss ws :=
  ⟨fun j hj => absurd hj (Nat.not_lt_zero _), fun j hj => absurd hj (Nat.not_lt_zero _), fun i hi => ⟨fun e => by have := t.ws i hi; omega, fun ⟨j, hj, _⟩ => absurd hj (Nat.not_lt_zero _)⟩, fun i hi => Int.le_of_lt (t.ws i hi), fun j j' _ hj => absurd hj (Nat.not_lt_zero _)⟩
theorem di {i j : Int} : decide (V.int i = V.int j) = decide (i = j) := by
  by_cases h : i = j
  · rw [decide_eq_true h, h]
    exact decide_eq_true rfl
  · rw [decide_eq_false h]
    exact decide_eq_false fun z => h (V.int.inj z)
theorem range_snoc (f : Nat → V) (k : Nat) : (List.range (k + 1)).map f = (List.range k).map f ++ [f k] := by
  rw [List.range_succ, List.map_append]
  rfl
theorem pt_imp {X : Cx} {e : Expr} {t t' : TT} (h : PT X e t) (m : ∀ σ H Q, t' σ H Q → t σ H Q) : PT X e t' := ⟨fun pins s σ H Q I q => h.run pins s σ H Q I (m σ H Q q)⟩
theorem ps_imp {X : Cx} {e : Stmt} {t t' : TS} (h : PS X e t) (m : ∀ D σ H, t' D σ H → t D σ H) : PS X e t' := ⟨fun pins s σ H D I q => h.run pins s σ H D I (m D σ H q)⟩
/-- the walk's test, as it is read -/
def tOn : TT := fun σ H Q => ∃ (a sa wa : Addr) (xs : List V) (rs : List RowD) (b k : Nat) (ss ws : Nat → Int) (v4 v6 : Option V), σ = [some (.ref a), some (.ref sa), some (.ref wa), some (.int b), v4, some (.int (way rs k b : Int)), v6] ∧
  H a = some (.lst xs) ∧ Rows H xs rs ∧ H sa = some (.lst (fl rs.length ss)) ∧ H wa = some (.lst (fl rs.length ws)) ∧ way rs k b < rs.length ∧ Q (goOn rs b k ss ws) H
theorem Rows.at {H : Hp} {xs : List V} {rs : List RowD} (r : Rows H xs rs) {i : Nat} (hi : i < rs.length) : ∃ (q : Addr) (zs : List V) (d : RowD), rs[i]? = some d ∧ xs[i]? = some (.ref q) ∧ TRow H (.ref q) d ∧ H q = some (.tup (.str (wordOf d) :: zs)) := by
  obtain ⟨x, h1, h2⟩ := r.2 i _ (List.getElem?_eq_getElem hi)
  obtain ⟨q, zs, rfl, h3⟩ := h2.head
  exact ⟨q, zs, _, List.getElem?_eq_getElem hi, h1, h2, h3⟩
/-- where the walk rests is set, if it is not known -/
def tSettle : TS := fun D σ H => ∃ (H0 : Hp) (sa wa ta : Addr) (rs : List RowD) (b k : Nat) (ss ws : Nat → Int) (v0 v6 : Option V), σ = [v0, some (.ref sa), some (.ref wa), some (.int b), some (.ref ta), some (.int (way rs k b : Int)), v6] ∧
  GoOk rs ∧ b < rs.length ∧ At H0 sa wa rs.length ss ws H ∧ ta ≠ sa ∧ H ta = some (.lst ((List.range k).map fun j => V.int (way rs j b : Int))) ∧ (∀ i, i < rs.length → ss i = -1 ∨ ss i = stp rs i) ∧ InW rs b k ss ws ∧ goOn rs b k ss ws = false ∧
  ∀ (ss' : Nat → Int) (H' : Hp), At H0 sa wa rs.length ss' ws H' → H' ta = some (.lst ((List.range k).map fun j => V.int (way rs j b : Int))) → Up rs ss ss' → ss' (way rs k b) = stp rs (way rs k b) → D.nx σ H'
section
variable {P : Program} {w : World} {K : PySem.W.Frag} {mg : Str → Option Value} {base : Heap}
variable {fII fIW a_rest : Addr}
theorem sc_stops_of : FnScope ["lines", "stops", "walks", "begin", "trail", "at", "passed"] ["lines"] (defScope s_stops_of) := ⟨rfl, rfl, rfl, by decide +kernel, rfl, by decide +kernel, by decide +kernel⟩
theorem ok_stops_of {f : Addr} {fd fd_rest : FuncData} (F : Fun K "stops_of" "stops_of" s_stops_of f fd) (T : TxtF K mg fII fIW) (h_range : mg "range" = none)
    (GR : FnOk P w K mg base CX0 1 a_rest fd_rest ["trail", "at"] (spRest K)) (b_rest : Binds K fd_rest ["trail", "at"] []) (g_rest : mg "rest_of" = some (.ref a_rest)) (k_rest : PySem.W.keepIn K (.ref a_rest) = true) : FnOk P w K mg base CX0 2 f fd ["lines"] spStops := by
  refine F.ok sc_stops_of (fun vs H Q E h => ?_) (fun cdv A outer s H vs Q E hr h => ?_)
  · obtain ⟨a, xs, rs, rfl, _⟩ := h
    rfl
  · obtain ⟨a, xs, rs, rfl, ha, rows, ok, big, k⟩ := h
    refine ⟨_, (pss_cons (ps_set (i := 1) sc_stops_of.nd rfl (Or.inl rfl) (pe_op op_repG (pe_lstG (pa_cons (pe_un un_neg pe_int) pa_nil)) (pe_callB call_len_seq (by rfl) T.b_len PySem.boot_len (pa_cons (pv 0) pa_nil))))
      (pss_cons (ps_set (i := 2) sc_stops_of.nd rfl (Or.inl rfl) (pe_op op_repG (pe_lstG (pa_cons (pe_un un_neg pe_int) pa_nil)) (pe_callB call_len_seq (by rfl) T.b_len PySem.boot_len (pa_cons (pv 0) pa_nil))))
      (pss_cons (ps_for PassesOwn.never rfl (pi_range1 (by rfl) h_range (pa_cons (pe_callB call_len_seq (by rfl) T.b_len PySem.boot_len (pa_cons (pv 0) pa_nil)) pa_nil)) (pg_name (i := 3) sc_stops_of.nd rfl (Or.inl rfl)) (pss_cons (ps_set (i := 4) sc_stops_of.nd rfl (Or.inl rfl) (pe_lstG pa_nil))
      (pss_cons (ps_set (i := 5) sc_stops_of.nd rfl (Or.inl rfl) (pv 3))
      (pss_cons (ps_while PassesOwn.never (pt_imp (t' := tOn) (PW.pt (pw_and (pt_cmpR op_lt (pe_ix ix_list (pv 1) (pv 5) (fun _ _ => rfl)) pe_int (nomark _)) (pw_and (pt_cmpR op_ne (pe_ix ix_list (pv 2) (pv 5) (fun _ _ => rfl)) (pv 3) (nomark _)) (pw_and1 (pt_cmpR op_eq (pe_ix ix_tup (pe_ix ix_list (pv 0) (pv 5) (fun _ _ => rfl)) pe_int (fun _ _ => rfl)) pe_str (nomark _)))))) (fun σ H Q q => by
      obtain ⟨a, sa, wa, xs, rs, b, k, ss, ws, v4, v6, rfl, ha, rows, hs, hw, lt, q⟩ := q
      obtain ⟨p, zs, d, ed, hx, _, hp⟩ := rows.at lt
      refine ⟨_, rfl, _, rfl, sa, _, _, _, rfl, rfl, SqL.of hs, fl_at lt, _, _, rfl, rfl, _, rfl, ?_⟩
      refine ite2 (fun h1 => ?_) (fun h1 => ?_)
      · refine ⟨_, rfl, _, rfl, wa, _, _, _, rfl, rfl, SqL.of hw, fl_at lt, _, rfl, rfl, _, rfl, ?_⟩
        rw [di]
        refine ite2 (fun h2 => ?_) (fun h2 => ?_)
        · refine ⟨_, rfl, _, rfl, a, xs, _, _, rfl, rfl, SqL.of ha, atI_nat hx, p, _, _, _, rfl, rfl, .inl (.inl hp), at0', rfl, _, rfl, ?_⟩
          rw [go_dec ed]
          have e : goOn rs b k ss ws = isGo rs (way rs k b) := by
            unfold goOn
            rw [h1, h2]
            rfl
          rw [e] at q
          exact q
        · have e : goOn rs b k ss ws = false := by
            unfold goOn
            rw [h1, Bool.eq_false_iff.mpr h2]
            rfl
          rw [e] at q
          exact q
      · have e : goOn rs b k ss ws = false := by
          unfold goOn
          rw [Bool.eq_false_iff.mpr h1]
          rfl
        rw [e] at q
        exact q)) (pss_cons (ps_asg (pv 3) (pg_sub (pv 2) (pv 5) set_list))
      (pss_cons (ps_expr (pe_bm PySem.F.plainAttrs_list PySem.F.slot_list_append PySem.F.type_list_append mt_append (pv 4) (pa_cons (pv 5) pa_nil)))
      (pss_one (ps_set (i := 5) sc_stops_of.nd rfl (Or.inl rfl) (pe_ix ix_tup (pe_ix ix_list (pv 0) (pv 5) (fun _ _ => rfl)) pe_int (fun _ _ => rfl)))))))
      (pss_cons (ps_imp (t' := tSettle) (ps_if (pt_cmpR op_lt (pe_ix ix_list (pv 1) (pv 5) (fun _ _ => rfl)) pe_int (nomark _)) (pss_one (ps_asg (pe_call GR (hr.mono (by decide)) (by rfl) g_rest k_rest b_rest .nil pass0 (pa_cons (pv 4) (pa_cons (pv 5) pa_nil))) (pg_sub (pv 1) (pv 5) set_list))) pss_nil) (fun D σ H q => by
      obtain ⟨H0, sa, wa, ta, rs, b, k, ss, ws, v0, v6, rfl, ok, hb, t, tas, et, any, iw, ge, kk⟩ := q
      have lt : way rs k b < rs.length := Mach.itr_lt (nxt_lt ok) k b hb
      refine ⟨_, rfl, _, rfl, sa, _, _, _, rfl, rfl, SqL.of t.s, fl_at lt, _, _, rfl, rfl, _, rfl, ?_⟩
      refine ite2 (fun h1 => ?_) (fun h1 => ?_)
      · refine ⟨_, rfl, _, rfl, ta, (List.range k).map fun j => (way rs j b : Int), _, rfl, by rw [et, List.map_map]; rfl, fun m H' s1 rest => ?_⟩
        refine ⟨_, rfl, _, rfl, sa, _, _, way rs k b, rfl, rfl, s1 _ _ t.s, by rw [fl_len]; exact ixn lt, ?_⟩
        have e := iw.rest ok hb any ge (of_decide_eq_true h1) rest
        subst e
        exact kk _ _ ((t.go s1).setS lt) (by rw [upd_ne tas]; exact s1 _ _ et) ((Up.refl _ _).set _) (set1_same _ _ _)
      · exact kk ss H t et (Up.refl _ _) ((any _ lt).elim (fun z => absurd (decide_eq_true (by omega)) h1) id)))
      (pss_one (ps_for PassesOwn.never rfl (pi_list (pv 4)) (pg_name (i := 6) sc_stops_of.nd rfl (Or.inl rfl)) (pss_one (ps_asg (pe_ix ix_list (pv 1) (pv 5) (fun _ _ => rfl)) (pg_sub (pv 1) (pv 6) set_list))))))))))
      (pss_one (ps_ret (pv 1)))))), ?_⟩
    have hl : (xs.length : Int) = rs.length := by rw [rows.1]
    have one : ∀ v : V, [v].length ≤ sizeLine := fun v => by rw [sizeLine_eq]; exact Nat.succ_le_of_lt (by decide)
    refine ⟨_, rfl, one _, fun p0 H1 n0 s1 e0 => ?_⟩
    have room : ∀ v : V, [v].length * (xs.length : Int).toNat ≤ sizeLine := fun v => by
      rw [sizeLine_eq, Int.toNat_natCast]
      have := rows.1
      show 1 * xs.length ≤ _
      omega
    refine ⟨_, rfl, a, xs, rfl, .inl (SqL.of (s1 _ _ ha)), ?_⟩
    refine ⟨p0, _, _, rfl, rfl, e0, by omega, by omega, room _, fun sa H2 n2 s2 e2 => ?_⟩
    refine ⟨_, rfl, one _, fun p1 H3 n3 s3 e3 => ?_⟩
    refine ⟨_, rfl, a, xs, rfl, .inl (SqL.of (s3 _ _ (s2 _ _ (s1 _ _ ha)))), ?_⟩
    refine ⟨p1, _, _, rfl, rfl, e3, by omega, by omega, room _, fun wa H4 n4 s4 e4 => ?_⟩
    have nsa : H sa = none := none_of s1 n2
    have nwa : H wa = none := none_of (s1.trans (s2.trans s3)) n4
    have nea : sa ≠ wa := fun z => by
      rw [← z, s3 _ _ e2] at n4
      cases n4
    have at0 : At H sa wa rs.length (fun _ => -1) (fun _ => -1) H4 := by
      refine ⟨s1.trans (s2.trans (s3.trans s4)), ?_, ?_, nsa, nwa, nea⟩
      · rw [s4 _ _ (s3 _ _ e2), Int.toNat_natCast, rows.1]
        exact congrArg (fun z => some (HO.lst z)) (fl_rep _)
      · rw [e4, Int.toNat_natCast, rows.1]
        exact congrArg (fun z => some (HO.lst z)) (fl_rep _)
    refine ⟨_, rfl, a, xs, rfl, .inl (SqL.of (s4 _ _ (s3 _ _ (s2 _ _ (s1 _ _ ha))))), ?_⟩
    rw [rows.1]
    refine ⟨_, rfl, by omega, by omega, for_range (n := rs.length) (fun b σ H' => ∃ (ss ws : Nat → Int) (v3 v4 v5 v6 : Option V), σ = [some (.ref a), some (.ref sa), some (.ref wa), v3, v4, v5, v6] ∧ At H sa wa rs.length ss ws H' ∧ StB rs b ss ws) ?_ (fun b σ H' hb z => ?_) (fun σ H' z => ?_)⟩
    · exact ⟨_, _, _, _, _, _, rfl, at0, fun _ _ => .inl rfl, fun i hi => absurd hi (Nat.not_lt_zero _), fun i hi => by show (-1 : Int) < 0; decide⟩
    · obtain ⟨ss, ws, v3, v4, v5, v6, rfl, t, stb⟩ := z
      have lt : ∀ j, way rs j b < rs.length := fun j => Mach.itr_lt (nxt_lt ok) j b hb
      have rowsIn : ∀ {H''}, Same H H'' → Rows H'' xs rs := fun s => rows.same s
      rw [Int.zero_add]
      refine ⟨Nat.zero_le _, fun ta H5 n5 s5 e5 => ?_⟩
      have t5 := t.go s5
      have nta : H ta = none := none_of t.same n5
      have tas : ta ≠ sa := fun z => by
        rw [z, t.s] at n5
        cases n5
      have taw : ta ≠ wa := fun z => by
        rw [z, t.w] at n5
        cases n5
      refine ⟨_, rfl, ?_⟩
      refine ⟨fun m σ H' => ∃ (k : Nat) (ws' : Nat → Int), m = rs.length - k ∧ σ = [some (.ref a), some (.ref sa), some (.ref wa), some (.int b), some (.ref ta), some (.int (way rs k b : Int)), v6] ∧ At H sa wa rs.length ss ws' H' ∧ H' ta = some (.lst ((List.range k).map fun j => V.int (way rs j b : Int))) ∧ InW rs b k ss ws', ⟨_, 0, ws, rfl, rfl, t5, e5, InW.start stb⟩, ?_⟩
      rintro m σ H' ⟨k', ws', rfl, rfl, t', et, iw⟩
      refine ⟨a, sa, wa, xs, rs, b, k', ss, ws', _, _, rfl, t'.same _ _ ha, rowsIn t'.same, t'.s, t'.w, lt k', ?_⟩
      refine ite2 (fun g => ?_) (fun g => ?_)
      · have g1 : ws' (way rs k' b) ≠ b ∧ isGo rs (way rs k' b) = true ∧ ss (way rs k' b) < 0 := by
          unfold goOn at g
          simp only [Bool.and_eq_true, decide_eq_true_eq, Bool.not_eq_true', decide_eq_false_iff_not] at g
          exact ⟨g.2.1, g.2.2, g.1⟩
        obtain ⟨g1, g2, g3⟩ := g1
        have g4 : ss (way rs k' b) = -1 := (stb.any _ (lt k')).elim id fun z => by omega
        obtain ⟨kk, hkk⟩ := isGo_row g2
        refine ⟨fun σ' H'' => ∃ ws'', σ' = [some (.ref a), some (.ref sa), some (.ref wa), some (.int b), some (.ref ta), some (.int (way rs (k' + 1) b : Int)), v6] ∧ At H sa wa rs.length ss ws'' H'' ∧ H'' ta = some (.lst ((List.range (k' + 1)).map fun j => V.int (way rs j b : Int))) ∧ InW rs b (k' + 1) ss ws'', fun σ' H'' ⟨ws'', z1, z2, z3, z4⟩ => ⟨rs.length - (k' + 1), by have := iw.room ok hb g1; omega, k' + 1, ws'', rfl, z1, z2, z3, z4⟩, ?_⟩
        refine ⟨_, rfl, _, rfl, _, rfl, wa, _, _, way rs k' b, rfl, rfl, t'.w, by rw [fl_len]; exact ixn (lt k'), ?_⟩
        have t2 := t'.setW (v := (b : Int)) (lt k')
        have et2 : upd H' wa (.lst ((fl rs.length ws').set (way rs k' b) (V.int b))) ta = some (.lst ((List.range k').map fun j => V.int (way rs j b : Int))) := by
          rw [upd_ne taw]
          exact et
        refine ⟨_, rfl, .inl ⟨rfl, _, SqL.of et2⟩, _, rfl, ta, _, _, rfl, rfl, et2, by rw [List.length_map, List.length_range, sizeLine_eq]; have := iw.room ok hb g1; omega, ?_⟩
        have t3 := t2.other (o := .lst ((List.range k').map (fun j => V.int (way rs j b : Int)) ++ [V.int (way rs k' b : Int)])) nta tas taw
        obtain ⟨x, hx1, hx2⟩ := rows.2 _ _ hkk
        obtain ⟨q, rfl, hq⟩ := hx2
        refine ⟨_, rfl, _, rfl, a, xs, _, _, rfl, rfl, SqL.of (t3.same _ _ ha), atI_nat hx1, q, _, _, _, rfl, rfl, .inl (.inl (t3.same _ _ hq)), at1', ?_⟩
        have e1 : kk = (way rs (k' + 1) b : Int) := by
          have : way rs (k' + 1) b = nxt rs (way rs k' b) := Mach.itr_succ _ _ _
          rw [this]
          unfold nxt
          rw [hkk]
          have := ok _ _ hkk
          show kk = (kk.toNat : Int)
          omega
        refine ⟨_, ?_, t3, ?_, iw.more ok hb g4 g1 g2⟩
        · rw [e1]
          rfl
        · rw [upd_same, range_snoc]
      · refine ⟨H, sa, wa, ta, rs, b, k', ss, ws', _, _, rfl, ok, hb, t', tas, et, stb.any, iw, Bool.eq_false_iff.mpr g, fun ss1 H6 t6 et6 up6 st6 => ?_⟩
        have stw : ∀ i, stp rs (way rs i b) = stp rs b := fun i => stp_way ok i b hb
        refine ⟨_, rfl, ta, rfl, ⟨_, SqL.of et6⟩, for_list (K := K) (a := ta) (xs := (List.range k').map fun j => V.int (way rs j b : Int)) (fun j σ H7 => ∃ (ss2 : Nat → Int) (v6 : Option V), σ = [some (.ref a), some (.ref sa), some (.ref wa), some (.int b), some (.ref ta), some (.int (way rs k' b : Int)), v6] ∧ At H sa wa rs.length ss2 ws' H7 ∧ H7 ta = some (.lst ((List.range k').map fun j => V.int (way rs j b : Int))) ∧ Up rs ss ss2 ∧ ss2 (way rs k' b) = stp rs b ∧ ∀ i, i < j → ss2 (way rs i b) = stp rs b)
          ⟨ss1, _, rfl, t6, et6, up6, by rw [st6, stw], fun i hi => absurd hi (Nat.not_lt_zero _)⟩ (fun i σ H7 _ z => by obtain ⟨_, _, _, _, z, _⟩ := z; exact SqL.of z) (fun j x σ H7 hx z => ?_) (fun σ H7 z => ?_)⟩
        · obtain ⟨ss2, w6, rfl, t7, et7, up7, st7, dn7⟩ := z
          have hj : j < k' := by
            have := (List.getElem?_eq_some_iff.mp hx).1
            rw [List.length_map, List.length_range] at this
            exact this
          rw [List.getElem?_map, List.getElem?_range hj] at hx
          have hx2 : V.int (way rs j b : Int) = x := Option.some.inj hx
          subst hx2
          refine ⟨_, rfl, _, rfl, sa, _, _, _, rfl, rfl, SqL.of t7.s, fl_at (lt k'), _, rfl, _, rfl, sa, _, _, way rs j b, rfl, rfl, t7.s, by rw [fl_len]; exact ixn (lt j), ?_⟩
          rw [st7]
          refine ⟨set1 ss2 (way rs j b) (stp rs b), _, rfl, t7.setS (lt j), ?_, ?_, ?_, fun i hi => ?_⟩
          · rw [upd_ne tas]
            exact et7
          · have := up7.set (way rs j b)
            rw [stw] at this
            exact this
          · have := set1_done (rs := rs) (ss := ss2) (i := way rs k' b) (by rw [st7, stw]) (way rs j b)
            rw [stw, stw] at this
            exact this
          · by_cases z : i = j
            · rw [z]
              exact set1_same _ _ _
            · have := set1_done (rs := rs) (ss := ss2) (i := way rs i b) (by rw [dn7 i (by omega), stw]) (way rs j b)
              rw [stw, stw] at this
              exact this
        · obtain ⟨ss2, w6, rfl, t7, et7, up7, st7, dn7⟩ := z
          refine ⟨ss2, ws', _, _, _, _, rfl, t7, fun i hi => up7.any hi (stb.any i hi), fun i hi => ?_, fun i hi => ?_⟩
          · by_cases z : i = b
            · subst z
              by_cases k0 : k' = 0
              · subst k0
                exact st7
              · exact dn7 0 (by rw [List.length_map, List.length_range]; omega)
            · exact up7.done (by omega) (stb.done i (by omega))
          · have := iw.le i hi
            omega
    · obtain ⟨ss, ws, v3, v4, v5, v6, rfl, t, stb⟩ := z
      have e : (fl rs.length ss) = fl rs.length fun i => (stp rs i : Int) := List.map_congr_left fun i hi => by rw [stb.done i (List.mem_range.mp hi)]
      exact ⟨_, rfl, k sa H' nsa t.same (by rw [t.s, e])⟩
end
end Mine

set_option maxRecDepth 100000
set_option maxHeartbeats 4000000
namespace Mine
open PySem L2
abbrev s_nexts_of : Stmt := top 29
abbrev s_rests_from : Stmt := top 28
def nextsD : RowD → List Int
  | .ask _ ns => ns
  | _ => []
def targets : RowD → List Int
  | .ask _ ns => ns
  | .go k => [k]
  | .fin _ => []
/-- all rows lead to rows -/
def Fit (rs : List RowD) : Prop := ∀ (i : Nat) (d : RowD), rs[i]? = some d → ∀ n ∈ targets d, 0 ≤ n ∧ n < rs.length
theorem Fit.go {rs : List RowD} (f : Fit rs) : GoOk rs := fun i k e => f i _ e k List.mem_cons_self
theorem Fit.nexts {rs : List RowD} (f : Fit rs) {i : Nat} {d : RowD} (e : rs[i]? = some d) {n : Int} (h : n ∈ nextsD d) : 0 ≤ n ∧ n < rs.length := f i d e n (by cases d <;> first | exact h | exact nomatch h)
def addTo (m : List Nat) (i : Nat) : List Nat := if i ∈ m then m else m ++ [i]
def grow (rs : List RowD) (m : List Nat) (ns : List Int) : List Nat := ns.foldl (fun m n => addTo m (stp rs n.toNat)) m
def metS (rs : List RowD) (m : List Nat) (d : Nat) : List Nat := match m[d]? with
  | some i => grow rs m (match rs[i]? with | some r => nextsD r | none => [])
  | none => m
def metAt (rs : List RowD) (b : Nat) : Nat → List Nat
  | 0 => [stp rs b]
  | d + 1 => metS rs (metAt rs b d) d
/-- the rows of rest that a run can come to, breadth first -/
def metOf (rs : List RowD) (b : Nat) : List Nat := metAt rs b rs.length
theorem stp_lt {rs : List RowD} (h : GoOk rs) {i : Nat} (hi : i < rs.length) : stp rs i < rs.length := Mach.stop_lt (nxt_lt h) hi
/-- no double, all below -/
def Few (n : Nat) (m : List Nat) : Prop := m.Nodup ∧ ∀ x ∈ m, x < n
theorem Few.len {n : Nat} {m : List Nat} (f : Few n m) : m.length ≤ n := Mach.pigeon n m f.1 f.2
theorem Few.add {n i : Nat} {m : List Nat} (f : Few n m) (h : i < n) : Few n (addTo m i) := by
  unfold addTo
  by_cases e : i ∈ m
  · rw [if_pos e]
    exact f
  · rw [if_neg e]
    refine ⟨?_, fun x hx => (List.mem_append.mp hx).elim (f.2 x) fun z => by rw [List.mem_singleton.mp z]; exact h⟩
    rw [List.nodup_append]
    exact ⟨f.1, by simp, fun x hx y hy z => by rw [List.mem_singleton.mp hy] at z; exact e (z ▸ hx)⟩
theorem grow_few {rs : List RowD} (ok : GoOk rs) : ∀ {ns : List Int} {m : List Nat}, Few rs.length m → (∀ n ∈ ns, 0 ≤ n ∧ n < rs.length) → Few rs.length (grow rs m ns)
  | [], _, f, _ => f
  | n :: ns, m, f, h => grow_few ok (ns := ns) (f.add (stp_lt ok (by have := h n List.mem_cons_self; omega))) fun x hx => h x (List.mem_cons_of_mem _ hx)
theorem add_len {m : List Nat} {i : Nat} : m.length ≤ (addTo m i).length := by
  unfold addTo
  split
  · exact Nat.le_refl _
  · rw [List.length_append]
    exact Nat.le_add_right _ _
theorem grow_len {rs : List RowD} : ∀ {ns : List Int} {m : List Nat}, m.length ≤ (grow rs m ns).length
  | [], _ => Nat.le_refl _
  | n :: ns, m => Nat.le_trans add_len (grow_len (ns := ns))
theorem metAt_few {rs : List RowD} (f : Fit rs) {b : Nat} (hb : b < rs.length) : ∀ d, Few rs.length (metAt rs b d)
  | 0 => ⟨by show [stp rs b].Nodup; simp, fun x hx => by rw [List.mem_singleton.mp hx]; exact stp_lt f.go hb⟩
  | d + 1 => by
    have ih := metAt_few f hb d
    show Few _ (metS rs (metAt rs b d) d)
    unfold metS
    split
    · rename_i i e
      refine grow_few f.go ih fun n hn => ?_
      split at hn
      · rename_i r er
        exact f.nexts er hn
      · exact nomatch hn
    · exact ih
theorem metAt_over {rs : List RowD} {b d : Nat} (h : (metAt rs b d).length ≤ d) : ∀ k, metAt rs b (d + k) = metAt rs b d
  | 0 => rfl
  | k + 1 => by
    have ih := metAt_over h k
    show metS rs (metAt rs b (d + k)) (d + k) = _
    rw [ih]
    unfold metS
    rw [List.getElem?_eq_none (by omega)]
theorem metAt_end {rs : List RowD} {b d : Nat} (hd : d ≤ rs.length) (h : (metAt rs b d).length ≤ d) : metAt rs b d = metOf rs b := by
  have := metAt_over h (rs.length - d)
  rw [show d + (rs.length - d) = rs.length by omega] at this
  exact this.symm
theorem metAt_step {rs : List RowD} {b d i : Nat} {r : RowD} (h : (metAt rs b d)[d]? = some i) (hr : rs[i]? = some r) : metAt rs b (d + 1) = grow rs (metAt rs b d) (nextsD r) := by
  show metS rs (metAt rs b d) d = _
  unfold metS
  rw [h]
  show grow rs _ (match rs[i]? with | some r => nextsD r | none => []) = _
  rw [hr]
def natsV (m : List Nat) : List V := m.map fun (i : Nat) => V.int (i : Int)
def knK (m : List Nat) : List (Key × V) := m.map fun (i : Nat) => (Sum.inl (i : Int), V.bl true)
theorem val_kn (m : List Nat) (j : Nat) : (valV (knK m) (.inl (j : Int))).isSome = decide (j ∈ m) := by
  induction m with
  | nil => rfl
  | cons i m ih =>
    by_cases h : i = j
    · subst h
      unfold knK
      rw [List.map_cons, valV_pos rfl]
      simp
    · have h2 : ¬ (Sum.inl (i : Int) : Key) = Sum.inl (j : Int) := fun z => h (by have := Sum.inl.inj z; omega)
      unfold knK at ih ⊢
      rw [List.map_cons, valV_neg h2, ih]
      by_cases q : j ∈ m
      · rw [decide_eq_true q, decide_eq_true (List.mem_cons_of_mem _ q)]
      · rw [decide_eq_false q, decide_eq_false (fun z => (List.mem_cons.mp z).elim (fun y => h y.symm) q)]
/-- both lists of what was met stand there -/
structure MetI (H0 : Hp) (ma ka : Addr) (m : List Nat) (H : Hp) : Prop where
  same : Same H0 H
  em : H ma = some (.lst (natsV m))
  ek : H ka = some (.dK (knK m))
  nm : H0 ma = none
  nk : H0 ka = none
  ne : ma ≠ ka
theorem MetI.go {H0 H H' : Hp} {ma ka : Addr} {m : List Nat} (t : MetI H0 ma ka m H) (s : Same H H') : MetI H0 ma ka m H' := ⟨t.same.trans s, s _ _ t.em, s _ _ t.ek, t.nm, t.nk, t.ne⟩
theorem MetI.put {H0 H : Hp} {ma ka : Addr} {m : List Nat} {i : Nat} (t : MetI H0 ma ka m H) (h : i ∉ m) : MetI H0 ma ka (addTo m i) (upd (upd H ka (.dK (putK (knK m) (.inl (i : Int)) (.bl true)))) ma (.lst (natsV m ++ [.int (i : Int)]))) := by
  have e : addTo m i = m ++ [i] := if_neg h
  refine ⟨same_updN (same_updN t.same t.nk) t.nm, ?_, ?_, t.nm, t.nk, t.ne⟩
  · rw [upd_same, e]
    unfold natsV
    rw [List.map_append]
    rfl
  · rw [upd_ne (Ne.symm t.ne), upd_same, putK_new, e]
    · unfold knK
      rw [List.map_append]
      rfl
    · have := val_kn m i
      rw [decide_eq_false h] at this
      cases q : valV (knK m) (.inl (i : Int)) with
      | none => rfl
      | some v =>
        rw [q] at this
        cases this
def spNextsOf : Sp := fun vs H Q _ => ∃ (q : Addr) (d : RowD), vs = [.ref q] ∧ TRow H (.ref q) d ∧ ∀ (t : Addr) (H' : Hp), Same H H' → H' t = some (.tup ((nextsD d).map V.int)) → Q (.ref t) H'
def spRests : Sp := fun vs H Q _ => ∃ (a sa : Addr) (xs : List V) (rs : List RowD) (b : Nat), vs = [.ref a, .ref sa, .int b] ∧ H a = some (.lst xs) ∧ Rows H xs rs ∧ Fit rs ∧ H sa = some (.lst (fl rs.length fun i => (stp rs i : Int))) ∧ b < rs.length ∧ rs.length ≤ 100000 ∧ New H (.lst (natsV (metOf rs b))) Q
section
variable {P : Program} {w : World} {K : PySem.W.Frag} {mg : Str → Option Value} {base : Heap}
variable {fII fIW a_nexts : Addr}
theorem sc_nexts_of : FnScope ["line"] ["line"] (defScope s_nexts_of) := ⟨rfl, rfl, rfl, by decide +kernel, rfl, by decide +kernel, by decide +kernel⟩
theorem ok_nexts_of {f : Addr} {fd : FuncData} (F : Fun K "nexts_of" "nexts_of" s_nexts_of f fd) : FnOk P w K mg base CX0 1 f fd ["line"] spNextsOf := by
  refine F.ok sc_nexts_of (fun vs H Q E h => ?_) (fun cdv A outer s H vs Q E hr h => ?_)
  · obtain ⟨q, d, rfl, _⟩ := h
    rfl
  · obtain ⟨q, d, rfl, row, k⟩ := h
    refine ⟨_, (pss_cons (ps_if (pt_cmpR op_eq (pe_ix ix_tup (pv 0) pe_int (fun _ _ => rfl)) pe_str (nomark _)) (pss_one (ps_ret (pe_ix ix_tup (pv 0) pe_int (fun _ _ => rfl)))) pss_nil)
      (pss_one (ps_ret (pe_tupG pa_nil)))), ?_⟩
    cases d with
    | ask op ns =>
      obtain ⟨a, t, e, h1, h2⟩ := row
      cases e
      refine ⟨_, rfl, _, _, _, _, rfl, rfl, .inl (.inl h1), at0', rfl, _, rfl, ?_⟩
      rw [strEq]
      refine iteT ?_
      exact ⟨_, rfl, _, _, _, _, rfl, rfl, .inl (.inl h1), at2', k t H (Same.refl _) h2⟩
    | go n =>
      obtain ⟨a, e, h1⟩ := row
      cases e
      refine ⟨_, rfl, _, _, _, _, rfl, rfl, .inl (.inl h1), at0', rfl, _, rfl, ?_⟩
      rw [strNe go_ask]
      refine iteF ?_
      exact ⟨Nat.zero_le _, fun t H' n s e => k t H' s e⟩
    | fin x =>
      obtain ⟨a, e, h1⟩ := row
      cases e
      refine ⟨_, rfl, _, _, _, _, rfl, rfl, .inl (.inl h1), at0', rfl, _, rfl, ?_⟩
      rw [strNe end_ask]
      refine iteF ?_
      exact ⟨Nat.zero_le _, fun t H' n s e => k t H' s e⟩
theorem sc_rests_from : FnScope ["lines", "stops", "begin", "met", "known", "done", "index"] ["lines", "stops", "begin"] (defScope s_rests_from) := ⟨rfl, rfl, rfl, by decide +kernel, rfl, by decide +kernel, by decide +kernel⟩
theorem ok_rests_from {f : Addr} {fd fd_nexts : FuncData} (F : Fun K "rests_from" "rests_from" s_rests_from f fd) (T : TxtF K mg fII fIW)
    (GN : FnOk P w K mg base CX0 1 a_nexts fd_nexts ["line"] spNextsOf) (b_nexts : Binds K fd_nexts ["line"] []) (g_nexts : mg "nexts_of" = some (.ref a_nexts)) (k_nexts : PySem.W.keepIn K (.ref a_nexts) = true) : FnOk P w K mg base CX0 2 f fd ["lines", "stops", "begin"] spRests := by
  refine F.ok sc_rests_from (fun vs H Q E h => ?_) (fun cdv A outer s H vs Q E hr h => ?_)
  · obtain ⟨a, sa, xs, rs, b, rfl, _⟩ := h
    rfl
  · obtain ⟨a, sa, xs, rs, b, rfl, ha, rows, fit, hs, hb, big, k⟩ := h
    refine ⟨_, (pss_cons (ps_set (i := 3) sc_rests_from.nd rfl (Or.inl rfl) (pe_lstG (pa_cons (pe_ix ix_list (pv 1) (pv 2) (fun _ _ => rfl)) pa_nil)))
      (pss_cons (ps_set (i := 4) sc_rests_from.nd rfl (Or.inl rfl) (pe_disp (pps_cons (pe_ix ix_list (pv 1) (pv 2) (fun _ _ => rfl)) pe_bl pps_nil) rfl rfl (fun z => by cases z) (by show 1 ≤ 15; decide)))
      (pss_cons (ps_set (i := 5) sc_rests_from.nd rfl (Or.inl rfl) pe_int)
      (pss_cons (ps_while PassesOwn.never (pt_cmpR op_lt (pv 5) (pe_callB call_len_seq (by rfl) T.b_len PySem.boot_len (pa_cons (pv 3) pa_nil)) (nomark _)) (pss_cons (ps_for PassesOwn.never rfl (pi_tup (pe_call GN (hr.mono (by decide)) (by rfl) g_nexts k_nexts b_nexts .nil pass0 (pa_cons (pe_ix ix_list (pv 0) (pe_ix ix_list (pv 3) (pv 5) (fun _ _ => rfl)) (fun _ _ => rfl)) pa_nil))) (pg_name (i := 6) sc_rests_from.nd rfl (Or.inl rfl)) (pss_one (ps_if (pt_cmp (pc_dnotin (hu_of hr) (pe_ix ix_list (pv 1) (pv 6) (fun _ _ => rfl)) (pv 4)) rfl) (pss_cons (ps_asg pe_bl (pg_sub (pv 4) (pe_ix ix_list (pv 1) (pv 6) (fun _ _ => rfl)) (set_dict (hu_of hr))))
      (pss_one (ps_expr (pe_bm PySem.F.plainAttrs_list PySem.F.slot_list_append PySem.F.type_list_append mt_append (pv 3) (pa_cons (pe_ix ix_list (pv 1) (pv 6) (fun _ _ => rfl)) pa_nil))))) pss_nil)))
      (pss_one (ps_aug (i := 5) sc_rests_from.nd rfl (Or.inl rfl) pe_int ip_add))))
      (pss_one (ps_ret (pv 3))))))), ?_⟩
    have one : ∀ v : V, [v].length ≤ sizeLine := fun v => by rw [sizeLine_eq]; exact Nat.succ_le_of_lt (by decide)
    refine ⟨_, rfl, _, rfl, sa, _, _, _, rfl, rfl, SqL.of hs, fl_at hb, one _, fun ma H1 n1 s1 e1 => ?_⟩
    refine fun ka nk => ?_
    have e2 : upd H1 ka (.dK []) sa = some (.lst (fl rs.length fun i => (stp rs i : Int))) := sameNew nk _ _ _ (s1 _ _ hs)
    refine ⟨_, rfl, _, rfl, sa, _, _, _, rfl, rfl, SqL.of e2, fl_at hb, ?_⟩
    refine ⟨upd_same, [(.inl (stp rs b : Int), .bl true)], rfl, by show 1 ≤ 15; decide, ?_⟩
    have mi : MetI H ma ka [stp rs b] (upd (upd H1 ka (.dK [])) ka (.dK (mergeK [] [(.inl (stp rs b : Int), .bl true)]))) := by
      have ne : ma ≠ ka := fun z => by
        rw [← z, e1] at nk
        cases nk
      refine ⟨?_, ?_, ?_, n1, none_of s1 nk, ne⟩
      · exact same_updN (same_updN s1 (none_of s1 nk)) (none_of s1 nk)
      · rw [upd_ne ne, upd_ne ne]
        exact e1
      · rw [upd_same]
        rfl
    refine ⟨fun m σ H' => ∃ (d : Nat) (v6 : Option V), m = rs.length - d ∧ σ = [some (.ref a), some (.ref sa), some (.int b), some (.ref ma), some (.ref ka), some (.int (d : Int)), v6] ∧ MetI H ma ka (metAt rs b d) H' ∧ d ≤ (metAt rs b d).length, ⟨_, 0, none, rfl, rfl, mi, Nat.zero_le _⟩, ?_⟩
    rintro m σ H' ⟨d, v6, rfl, rfl, t, hd⟩
    have few := metAt_few fit hb d
    have fl1 := few.len
    have nl : ∀ m : List Nat, (natsV m).length = m.length := fun m => List.length_map _
    refine ⟨_, rfl, _, rfl, ma, _, rfl, .inl (SqL.of t.em), _, _, rfl, rfl, _, rfl, ?_⟩
    rw [nl]
    refine ite2 (fun h1 => ?_) (fun h1 => ?_)
    · have hlt : d < (metAt rs b d).length := by
        have := of_decide_eq_true h1
        omega
      obtain ⟨i, ei⟩ : ∃ i, (metAt rs b d)[d]? = some i := ⟨_, List.getElem?_eq_getElem hlt⟩
      have hi : i < rs.length := few.2 _ (List.mem_of_getElem? ei)
      obtain ⟨q, zs, dd, ed, hx, row, hq⟩ := rows.at hi
      have st := metAt_step ei ed
      refine ⟨fun σ' H'' => ∃ v6, σ' = [some (.ref a), some (.ref sa), some (.int b), some (.ref ma), some (.ref ka), some (.int ((d + 1 : Nat) : Int)), v6] ∧ MetI H ma ka (metAt rs b (d + 1)) H'', fun σ' H'' ⟨v6, z1, z2⟩ => ⟨rs.length - (d + 1), by omega, d + 1, v6, rfl, z1, z2, by rw [st]; exact Nat.le_trans hlt grow_len⟩, ?_⟩
      have en : (natsV (metAt rs b d))[d]? = some (.int (i : Int)) := by
        unfold natsV
        rw [List.getElem?_map, ei]
        rfl
      refine ⟨_, rfl, _, rfl, _, rfl, ma, _, _, _, rfl, rfl, SqL.of t.em, atI_nat en, a, xs, _, _, rfl, rfl, SqL.of (t.same _ _ ha), atI_nat hx, q, dd, rfl, row.same t.same, fun tt H2 s2 et => ?_⟩
      refine ⟨tt, rfl, ⟨_, .inl (.inl et)⟩, for_tup (K := K) (a := tt) (xs := (nextsD dd).map V.int) (fun j σ H3 => ∃ v6, σ = [some (.ref a), some (.ref sa), some (.int b), some (.ref ma), some (.ref ka), some (.int (d : Int)), v6] ∧ MetI H ma ka (grow rs (metAt rs b d) ((nextsD dd).take j)) H3 ∧ H3 tt = some (.tup ((nextsD dd).map V.int))) ⟨_, rfl, t.go s2, et⟩ (fun j σ H3 _ z => by obtain ⟨_, _, _, z⟩ := z; exact .inl (.inl z)) (fun j x σ H3 hx z => ?_) (fun σ H3 z => ?_)⟩
      · obtain ⟨w6, rfl, t3, et3⟩ := z
        have hj : j < (nextsD dd).length := by
          have := (List.getElem?_eq_some_iff.mp hx).1
          rw [List.length_map] at this
          exact this
        have ej : (nextsD dd)[j]? = some (nextsD dd)[j] := List.getElem?_eq_getElem hj
        generalize (nextsD dd)[j] = n at ej
        rw [List.getElem?_map, ej] at hx
        have hx2 : V.int n = x := Option.some.inj hx
        subst hx2
        have mem := List.mem_of_getElem? ej
        obtain ⟨n0, n1⟩ := fit.nexts ed mem
        have e0 : n = (n.toNat : Int) := by omega
        have hn : n.toNat < rs.length := by omega
        have atS : atI (fl rs.length fun i => (stp rs i : Int)) n = some (V.int (stp rs n.toNat : Int)) := by
          conv => lhs; rw [e0]
          exact fl_at hn
        have few3 : Few rs.length (grow rs (metAt rs b d) ((nextsD dd).take j)) := grow_few fit.go few fun x hx => fit.nexts ed (List.mem_of_mem_take hx)
        have len3 := few3.len
        have tk : grow rs (metAt rs b d) ((nextsD dd).take (j + 1)) = addTo (grow rs (metAt rs b d) ((nextsD dd).take j)) (stp rs n.toNat) := by
          unfold grow
          rw [List.take_succ, ej, List.foldl_append]
          rfl
        refine ⟨_, rfl, _, rfl, sa, _, _, _, rfl, rfl, SqL.of (t3.same _ _ hs), atS, _, rfl, ka, _, rfl, .inl ⟨_, .inl (stp rs n.toNat : Int), .inl t3.ek, rfl, rfl⟩, _, rfl, ?_⟩
        rw [val_kn]
        refine ite2 (fun h2 => ?_) (fun h2 => ?_)
        · have nin : stp rs n.toNat ∉ grow rs (metAt rs b d) ((nextsD dd).take j) := fun z => by
            rw [decide_eq_true z] at h2
            cases h2
          have kl : (knK (grow rs (metAt rs b d) ((nextsD dd).take j))).length < sizeLine := by
            unfold knK
            rw [List.length_map, sizeLine_eq]
            omega
          refine ⟨_, rfl, _, rfl, _, rfl, sa, _, _, _, rfl, rfl, SqL.of (t3.same _ _ hs), atS, ka, _, rfl, .inl ⟨_, .inl (stp rs n.toNat : Int), t3.ek, rfl, kl, rfl⟩, ?_⟩
          have s4 : Same H (upd H3 ka (.dK (putK (knK (grow rs (metAt rs b d) ((nextsD dd).take j))) (.inl (stp rs n.toNat : Int)) (.bl true)))) := same_updN t3.same t3.nk
          have em4 : upd H3 ka (.dK (putK (knK (grow rs (metAt rs b d) ((nextsD dd).take j))) (.inl (stp rs n.toNat : Int)) (.bl true))) ma = some (.lst (natsV (grow rs (metAt rs b d) ((nextsD dd).take j)))) := by
            rw [upd_ne t3.ne]
            exact t3.em
          refine ⟨_, rfl, .inl ⟨rfl, _, SqL.of em4⟩, _, rfl, _, rfl, sa, _, _, _, rfl, rfl, SqL.of (s4 _ _ hs), atS, ma, _, _, rfl, rfl, em4, by rw [nl, sizeLine_eq]; omega, ?_⟩
          refine ⟨_, rfl, by rw [tk]; exact t3.put nin, ?_⟩
          have a1 : tt ≠ ma := fun z => by
            rw [z, t3.em] at et3
            cases et3
          have a2 : tt ≠ ka := fun z => by
            rw [z, t3.ek] at et3
            cases et3
          rw [upd_ne a1, upd_ne a2]
          exact et3
        · have yin : stp rs n.toNat ∈ grow rs (metAt rs b d) ((nextsD dd).take j) := by
            by_cases z : stp rs n.toNat ∈ grow rs (metAt rs b d) ((nextsD dd).take j)
            · exact z
            · rw [decide_eq_false z] at h2
              exact absurd rfl h2
          have ad : addTo (grow rs (metAt rs b d) ((nextsD dd).take j)) (stp rs n.toNat) = grow rs (metAt rs b d) ((nextsD dd).take j) := if_pos yin
          exact ⟨_, rfl, by rw [tk, ad]; exact t3, et3⟩
      · obtain ⟨w6, rfl, t3, et3⟩ := z
        refine ⟨_, rfl, _, _, rfl, rfl, _, rfl, ?_⟩
        rw [List.length_map, List.take_length, ← st] at t3
        exact t3
    · have hge : (metAt rs b d).length ≤ d := by
        by_cases z : (metAt rs b d).length ≤ d
        · exact z
        · exact absurd (decide_eq_true (by omega)) h1
      exact ⟨_, rfl, k ma H' t.nm t.same (by rw [t.em, metAt_end (by omega) hge])⟩
end
end Mine

set_option maxRecDepth 100000
set_option maxHeartbeats 4000000
namespace L2
open PySem PySem.Spec PyProof.Rows
/-- a dict comprehension over a list that stays -/
theorem dc_list {K : PySem.W.Frag} {a : Addr} {xs : List V} {g : TG} {tt : TT} {tk tv : TE} {vs : List Nat} {σ : St} {H1 : Hp} {D : Addr} {Qd : Hp → Prop} (Pv : Nat → Hp → Prop) (h0 : Pv 0 (upd H1 D (.dK []))) (hl : ∀ i H, i ≤ xs.length → Pv i H → SqL K H a xs)
    (hs : ∀ i x H, xs[i]? = some x → Pv i H → g x (wipe σ vs) H fun σ2 H2 => wipe σ2 vs = wipe σ vs ∧ tt σ2 H2 fun b H3 =>
      if b = true then tk σ2 H3 fun y H4 => tv σ2 H4 fun z H5 => ∃ kvs k, y = kV k ∧ H5 D = some (.dK kvs) ∧ kvs.length < sizeLine ∧ Pv (i + 1) (upd H5 D (.dK (putK kvs k z))) else Pv (i + 1) H3) (hd : ∀ H, Pv xs.length H → Qd H) :
    ∃ W : Nat → Nat → Hp → Prop, (∃ m, W 0 m (upd H1 D (.dK []))) ∧ ∀ i m H, W i m H →
      ((Itl K a).stop i H ∧ Qd H) ∨ ((Itl K a).go i H ∧ ∃ Nx : Hp → Prop, (∀ H', Nx H' → ∃ m', m' < m ∧ W (i + 1) m' H') ∧ ∀ x H', (Itl K a).yld i H x H' → g x (wipe σ vs) H' fun σ2 H2 => wipe σ2 vs = wipe σ vs ∧ tt σ2 H2 fun b H3 =>
        if b = true then tk σ2 H3 fun y H4 => tv σ2 H4 fun z H5 => ∃ kvs k, y = kV k ∧ H5 D = some (.dK kvs) ∧ kvs.length < sizeLine ∧ Nx (upd H5 D (.dK (putK kvs k z))) else Nx H3) := by
  refine ⟨fun i m H => m = xs.length - i ∧ i ≤ xs.length ∧ Pv i H, ⟨xs.length, by simp, Nat.zero_le _, h0⟩, ?_⟩
  rintro i m H ⟨rfl, hi, p⟩
  have q := hl i H hi p
  by_cases hlt : i < xs.length
  · refine .inr ⟨⟨xs, xs[i], q, by simp [hlt]⟩, Pv (i + 1), fun H' p' => ⟨xs.length - (i + 1), by omega, rfl, hlt, p'⟩, fun x H' y => ?_⟩
    obtain ⟨e, y⟩ := y
    subst e
    exact hs i x _ (y xs q) p
  · have e : i = xs.length := by omega
    subst e
    exact .inl ⟨⟨xs, q, Nat.le_refl _⟩, hd H p⟩
end L2
namespace Mine
open PySem L2
abbrev s_in_order : Stmt := top 20
abbrev s_firsts_of : Stmt := top 30
theorem Rd.same {H H' : Hp} {a : Addr} {o : HO} (s : Same H H') (h : Rd H a o) : Rd H' a o := h.elim (fun z => .inl (s _ _ z)) fun ⟨od, z⟩ => .inr ⟨od, s _ _ z⟩
/-- the number of a name -/
def lookI (o : Ops) (x : Str) : Int := (opLook o x).getD 0
theorem look_mem : ∀ {o : Ops}, (o.map (·.1)).Nodup → ∀ p ∈ o, opLook o p.1 = some p.2
  | p0 :: o, nd, p, h => by
    rw [List.map_cons, List.nodup_cons] at nd
    rcases List.mem_cons.mp h with e | h
    · subst e
      simp [opLook]
    · have ne : p0.1 ≠ p.1 := fun z => nd.1 (z ▸ List.mem_map_of_mem h)
      have ih := look_mem nd.2 p h
      unfold opLook at ih ⊢
      rw [List.find?_cons, decide_eq_false ne]
      exact ih
theorem look_some {o : Ops} (nd : (o.map (·.1)).Nodup) {x : Str} (h : x ∈ o.map (·.1)) : opLook o x = some (lookI o x) := by
  obtain ⟨p, hp, rfl⟩ := List.mem_map.mp h
  unfold lookI
  rw [look_mem nd p hp]
  rfl
def pick (o : Ops) (ys : List Str) : Ops := ys.map fun y => (y, lookI o y)
theorem pick_perm {o : Ops} (nd : (o.map (·.1)).Nodup) {ys : List Str} (p : ys.Perm (o.map (·.1))) : (pick o ys).Perm o := by
  have e : o = pick o (o.map (·.1)) := by
    unfold pick
    rw [List.map_map]
    refine (List.map_id o).symm.trans (List.map_congr_left fun q hq => ?_)
    show q = (q.1, lookI o q.1)
    unfold lookI
    rw [look_mem nd q hq]
    rfl
  conv => rhs; rw [e]
  exact p.map _
theorem pick_names {o : Ops} {ys : List Str} : (pick o ys).map (·.1) = ys := by
  unfold pick
  rw [List.map_map]
  exact List.map_id ys
theorem opsK_keys (o : Ops) : (opsK o).map (·.1) = (o.map (·.1)).map Sum.inr := by
  unfold opsK
  rw [List.map_map, List.map_map]
  rfl
theorem opsK_len (o : Ops) : (opsK o).length = o.length := List.length_map _
/-- the same operations, sorted -/
def Ordered (o o' : Ops) : Prop := o'.Perm o ∧ PyProof.Rows.sortedS (o'.map (·.1)) = true
def spOrder : Sp := fun vs H Q _ => ∃ (t : Addr) (o : Ops), vs = [.ref t] ∧ Rd H t (.dK (opsK o)) ∧ (o.map (·.1)).Nodup ∧ o.length < 64 ∧ ∀ o', Ordered o o' → New H (.dK (opsK o')) Q
theorem val_new {o : Ops} {ys : List Str} {i : Nat} {y : Str} (nd : ys.Nodup) (h : ys[i]? = some y) : valV (opsK (pick o (ys.take i))) (.inr y) = none := by
  rw [val_ops]
  have : opLook (pick o (ys.take i)) y = none := by
    unfold opLook
    rw [List.find?_eq_none.mpr]
    · rfl
    · intro p hp
      unfold pick at hp
      obtain ⟨z, hz, rfl⟩ := List.mem_map.mp hp
      intro q
      have e : z = y := of_decide_eq_true q
      subst e
      obtain ⟨j, hj⟩ := List.mem_iff_getElem?.mp hz
      rw [List.getElem?_take] at hj
      split at hj
      · rename_i lt
        have hjl := (List.getElem?_eq_some_iff.mp hj).1
        have hil := (List.getElem?_eq_some_iff.mp h).1
        have := (List.getElem?_inj hjl nd).mp (hj.trans h.symm)
        omega
      · cases hj
  rw [this]
  rfl
section
variable {P : Program} {w : World} {K : PySem.W.Frag} {mg : Str → Option Value} {base : Heap}
theorem sc_in_order : FnScope ["table", "name"] ["table"] (defScope s_in_order) := ⟨rfl, rfl, rfl, by decide +kernel, rfl, by decide +kernel, by decide +kernel⟩
theorem ok_in_order {f : Addr} {fd : FuncData} (F : Fun K "in_order" "in_order" s_in_order f fd) (h_sorted : mg "sorted" = none) : FnOk P w K mg base CX0 1 f fd ["table"] spOrder := by
  refine F.ok sc_in_order (fun vs H Q E h => ?_) (fun cdv A outer s H vs Q E hr h => ?_)
  · obtain ⟨t, o, rfl, _⟩ := h
    rfl
  · obtain ⟨t, o, rfl, ht, nd, few, k⟩ := h
    refine ⟨_, (pss_one (ps_ret (pe_dc (own := [("name", 1)]) (g := gName 1) (tt := tYes) rfl sc_in_order.nd (pi_list (pe_callB (call_sortedD rfl) (by rfl) h_sorted (by decide +kernel) (pa_cons (pv 0) pa_nil))) (blkOk_by (own := [("name", 1)]) (N := ["table", "name"]) (sc := defScope s_in_order) (by decide +kernel)) (fun _ _ _ _ _ => pg_name (i := 1) sc_in_order.nd rfl (Or.inl rfl)) (fun _ _ _ _ _ => pts_nil) (fun _ _ _ _ _ => pv 1) (fun _ _ _ _ _ => pe_dget (hu_of hr) (pv 0) (pv 1) (fun _ _ => rfl))))), ?_⟩
    refine ⟨_, rfl, t, _, o.map (·.1), rfl, ht, opsK_keys o, by rw [List.length_map]; exact few, fun ys p perm srt np => ?_⟩
    have nd2 : ys.Nodup := perm.nodup_iff.mpr nd
    have yl : ys.length < 64 := by
      have := perm.length_eq
      rw [List.length_map] at this
      omega
    refine ⟨p, rfl, ⟨_, SqL.of upd_same⟩, fun D nD => dc_list (xs := ys.map V.str) (fun i Hx => Same H Hx ∧ Hx p = some (.lst (ys.map V.str)) ∧ H D = none ∧ Hx D = some (.dK (opsK (pick o (ys.take i))))) ?_ (fun i Hx _ z => SqL.of z.2.1) (fun i x Hx hx z => ?_) (fun Hx z => ?_)⟩
    · have nD0 : H D = none := none_of (sameNew np _) nD
      have ne : p ≠ D := fun z => by
        rw [← z, upd_same] at nD
        cases nD
      refine ⟨same_updN (sameNew np _) nD0, ?_, nD0, upd_same⟩
      rw [upd_ne ne, upd_same]
    · obtain ⟨z1, z2, z3, z4⟩ := z
      have hi : i < ys.length := by
        have := (List.getElem?_eq_some_iff.mp hx).1
        rw [List.length_map] at this
        exact this
      have ey : ys[i]? = some ys[i] := List.getElem?_eq_getElem hi
      generalize ys[i] = y at ey
      rw [List.getElem?_map, ey] at hx
      have hx2 : V.str y = x := Option.some.inj hx
      subst hx2
      have my : y ∈ o.map (·.1) := perm.mem_iff.mp (List.mem_of_getElem? ey)
      refine ⟨rfl, ?_⟩
      unfold tYes
      simp only [↓reduceIte]
      refine ⟨_, rfl, _, rfl, _, rfl, t, _, rfl, .inl ⟨opsK o, .inr y, Rd.same z1 ht, rfl, (by rw [val_ops, look_some nd my]; rfl)⟩, _, .inr y, rfl, z4, ?_, same_updN z1 z3, ?_, z3, ?_⟩
      · rw [opsK_len, sizeLine_eq]
        unfold pick
        rw [List.length_map, List.length_take]
        omega
      · have ne : p ≠ D := fun z => by
          rw [← z] at z4
          rw [z4] at z2
          cases z2
        rw [upd_ne ne]
        exact z2
      · rw [upd_same, putK_new _ (val_new nd2 ey)]
        unfold pick
        rw [List.take_succ, ey, List.map_append]
        unfold opsK
        rw [List.map_append]
        rfl
    · obtain ⟨z1, z2, z3, z4⟩ := z
      rw [List.length_map, List.take_length] at z4
      exact k _ ⟨pick_perm nd perm, by rw [pick_names]; exact srt⟩ D Hx z3 z1 z4
end
def nameOf : RowD → Str
  | .ask op _ => op
  | .go _ => ""
  | .fin x => x
def addStr (m : List Str) (t : Str) : List Str := if t ∈ m then m else m ++ [t]
def takeIn (x : Str) (m : List Str) (d : RowD) : List Str := if wordOf d = x then addStr m (nameOf d) else m
/-- what stands behind the word, each once -/
def distinct (x : Str) (ds : List RowD) : List Str := ds.foldl (takeIn x) []
def tks (m : List Str) : List (Key × V) := m.map fun t => (Sum.inr t, V.bl true)
theorem val_tks (m : List Str) (t : Str) : (valV (tks m) (.inr t)).isSome = decide (t ∈ m) := by
  induction m with
  | nil => simp [tks, valV_nil]
  | cons y m ih =>
    by_cases h : y = t
    · subst h
      unfold tks
      rw [List.map_cons, valV_pos rfl]
      simp
    · have h2 : ¬ (Sum.inr y : Key) = Sum.inr t := fun z => h (Sum.inr.inj z)
      unfold tks at ih ⊢
      rw [List.map_cons, valV_neg h2, ih]
      by_cases q : t ∈ m
      · rw [decide_eq_true q, decide_eq_true (List.mem_cons_of_mem _ q)]
      · rw [decide_eq_false q, decide_eq_false (fun z => (List.mem_cons.mp z).elim (fun y => h y.symm) q)]
theorem put_tks (m : List Str) (t : Str) : putK (tks m) (.inr t) (.bl true) = tks (addStr m t) := by
  unfold addStr
  by_cases q : t ∈ m
  · rw [if_pos q]
    unfold putK
    have := val_tks m t
    rw [valV_any, this, decide_eq_true q, if_pos rfl]
    unfold tks
    rw [List.map_map]
    refine List.map_congr_left fun y _ => ?_
    show (if (Sum.inr y : Key) = Sum.inr t then ((Sum.inr y : Key), V.bl true) else (Sum.inr y, V.bl true)) = _
    split <;> rfl
  · rw [if_neg q]
    have := val_tks m t
    rw [decide_eq_false q] at this
    cases e : valV (tks m) (.inr t) with
    | none =>
      rw [putK_new _ e]
      unfold tks
      rw [List.map_append]
      rfl
    | some v =>
      rw [e] at this
      cases this
theorem addStr_len (m : List Str) (t : Str) : (addStr m t).length ≤ m.length + 1 := by
  unfold addStr
  split
  · omega
  · rw [List.length_append]
    exact Nat.le_refl _
theorem fold_len (x : Str) : ∀ (ds : List RowD) (m : List Str), (ds.foldl (takeIn x) m).length ≤ m.length + ds.length
  | [], _ => Nat.le_refl _
  | d :: ds, m => by
    have h := fold_len x ds (takeIn x m d)
    have h2 : (takeIn x m d).length ≤ m.length + 1 := by
      unfold takeIn
      split
      · exact addStr_len _ _
      · omega
    show (ds.foldl (takeIn x) (takeIn x m d)).length ≤ m.length + (ds.length + 1)
    omega
theorem distinct_len (x : Str) (ds : List RowD) : (distinct x ds).length ≤ ds.length := by
  have := fold_len x ds []
  rw [List.length_nil, Nat.zero_add] at this
  exact this
theorem distinct_snoc {x : Str} {ds : List RowD} {i : Nat} {d : RowD} (h : ds[i]? = some d) : distinct x (ds.take (i + 1)) = takeIn x (distinct x (ds.take i)) d := by
  unfold distinct
  rw [List.take_succ, h, List.foldl_append]
  rfl
def IsFirsts (x : Str) (ds : List RowD) (ys : List Str) : Prop := ys.Perm (distinct x ds) ∧ PyProof.Rows.sortedS ys = true
def spFirsts : Sp := fun vs H Q _ => ∃ (l : Addr) (xs : List V) (ds : List RowD) (x : Str), vs = [.ref l, .str x] ∧ x ≠ "go" ∧ H l = some (.lst xs) ∧ Rows H xs ds ∧ ds.length ≤ 100000 ∧ (distinct x ds).length < 64 ∧ ∀ ys, IsFirsts x ds ys → New H (.lst (ys.map V.str)) Q
theorem TRow.name {H : Hp} {v : V} {d : RowD} (h : TRow H v d) (g : wordOf d ≠ "go") : ∃ (a : Addr) (zs : List V), v = .ref a ∧ H a = some (.tup (.str (wordOf d) :: .str (nameOf d) :: zs)) := by
  cases d with
  | ask op ns =>
    obtain ⟨a, t, e, h1, _⟩ := h
    exact ⟨a, _, e, h1⟩
  | go n => exact absurd rfl g
  | fin x =>
    obtain ⟨a, e, h1⟩ := h
    exact ⟨a, _, e, h1⟩
section
variable {P : Program} {w : World} {K : PySem.W.Frag} {mg : Str → Option Value} {base : Heap}
theorem sc_firsts_of : FnScope ["lines", "word", "line"] ["lines", "word"] (defScope s_firsts_of) := ⟨rfl, rfl, rfl, by decide +kernel, rfl, by decide +kernel, by decide +kernel⟩
theorem ok_firsts_of {f : Addr} {fd : FuncData} (F : Fun K "firsts_of" "firsts_of" s_firsts_of f fd) (h_sorted : mg "sorted" = none) : FnOk P w K mg base CX0 1 f fd ["lines", "word"] spFirsts := by
  refine F.ok sc_firsts_of (fun vs H Q E h => ?_) (fun cdv A outer s H vs Q E hr h => ?_)
  · obtain ⟨l, xs, ds, x, rfl, _⟩ := h
    rfl
  · obtain ⟨l, xs, ds, x, rfl, ng, hl, rows, big, few, k⟩ := h
    refine ⟨_, (pss_one (ps_ret (pe_callB (call_sortedD rfl) (by rfl) h_sorted (by decide +kernel) (pa_cons (pe_dc (own := [("line", 2)]) (g := gName 2) rfl sc_firsts_of.nd (pi_list (pv 0)) (blkOk_by (own := [("line", 2)]) (N := ["lines", "word", "line"]) (sc := defScope s_firsts_of) (by decide +kernel)) (fun _ _ _ _ _ => pg_name (i := 2) sc_firsts_of.nd rfl (Or.inl rfl)) (fun _ _ _ _ _ => pts_one (pt_cmpR op_eq (pe_ix (show IxR _ (rIxT K) from ix_tup) (pv 2) pe_int (fun _ _ => rfl)) (pv 1) (nomark _))) (fun _ _ _ _ _ => (pe_ix (show IxR _ (rIxT K) from ix_tup) (pv 2) pe_int (fun _ _ => rfl))) (fun _ _ _ _ _ => pe_bl)) pa_nil)))), ?_⟩
    refine ⟨_, rfl, l, rfl, ⟨_, SqL.of hl⟩, fun D nD => dc_list (xs := xs) (fun i Hx => Same H Hx ∧ Hx D = some (.dK (tks (distinct x (ds.take i))))) ⟨sameNew nD _, upd_same⟩ (fun i Hx _ z => SqL.of (z.1 _ _ hl)) (fun i y Hx hy z => ?_) (fun Hx z => ?_)⟩
    · obtain ⟨z1, z2⟩ := z
      have hi : i < ds.length := by
        have := (List.getElem?_eq_some_iff.mp hy).1
        have := rows.1
        omega
      obtain ⟨q, zs, d, ed, hx, row, hq⟩ := rows.at hi
      rw [hy] at hx
      cases hx
      refine ⟨rfl, ?_⟩
      refine ⟨_, rfl, _, _, _, _, rfl, rfl, .inl (.inl (z1 _ _ hq)), at0', _, rfl, rfl, _, rfl, ?_⟩
      by_cases hw : wordOf d = x
      · rw [hw, strEq]
        simp only [↓reduceIte]
        obtain ⟨q2, zs2, e2, hq2⟩ := row.name (by rw [hw]; exact ng)
        cases e2
        refine ⟨_, rfl, _, _, _, _, rfl, rfl, .inl (.inl (z1 _ _ hq2)), at1', _, .inr (nameOf d), rfl, z2, ?_, same_updN z1 nD, ?_⟩
        · have := distinct_len x (ds.take i)
          rw [List.length_take] at this
          unfold tks
          rw [List.length_map, sizeLine_eq]
          omega
        · rw [upd_same, put_tks, distinct_snoc ed]
          unfold takeIn
          rw [if_pos hw]
      · rw [strNe hw]
        simp only [Bool.false_eq_true, ↓reduceIte]
        refine ⟨z1, ?_⟩
        rw [distinct_snoc ed]
        unfold takeIn
        rw [if_neg hw]
        exact z2
    · obtain ⟨z1, z2⟩ := z
      rw [rows.1, List.take_length] at z2
      refine ⟨D, _, distinct x ds, rfl, .inl z2, ?_, few, fun ys p perm srt np => ?_⟩
      · unfold tks
        rw [List.map_map]
        rfl
      · exact k ys ⟨perm, srt⟩ p _ (none_of z1 np) (same_updN z1 (none_of z1 np)) upd_same
end
end Mine

set_option maxRecDepth 100000
set_option maxHeartbeats 4000000
namespace L2
open PySem PySem.Spec PyProof.Rows
/-- a list comprehension whose element leaves the heap -/
theorem lc_pure {K : PySem.W.Frag} {a D : Addr} {xs ys : List V} {te : TE} {i : Nat} {vs : List Nat} {σ : St} {H1 : Hp} {Qd : Hp → Prop} (hl : H1 a = some (.lst xs)) (nD : H1 D = none) (len : ys.length = xs.length) (big : xs.length ≤ 1000000)
    (hw : ∀ x, wipe ((wipe σ vs).set i (some x)) vs = wipe σ vs) (hs : ∀ (j : Nat) (x y : V) (Ha : Hp) (Qe : VK), xs[j]? = some x → ys[j]? = some y → Same H1 Ha → Qe y Ha → te ((wipe σ vs).set i (some x)) Ha Qe)
    (hd : ∀ Hx, Same H1 Hx → Hx D = some (.lst ys) → Qd Hx) :
    ∃ W : Nat → Nat → Hp → Prop, (∃ m, W 0 m (upd H1 D (.lst []))) ∧ ∀ i2 m H, W i2 m H →
      ((Itl K a).stop i2 H ∧ Qd H) ∨ ((Itl K a).go i2 H ∧ ∃ Nx : Hp → Prop, (∀ H', Nx H' → ∃ m', m' < m ∧ W (i2 + 1) m' H') ∧ ∀ x H', (Itl K a).yld i2 H x H' → gName i x (wipe σ vs) H' fun σ2 H2 => wipe σ2 vs = wipe σ vs ∧ tYes σ2 H2 fun b H3 =>
        if b = true then te σ2 H3 fun y H4 => ∃ acc, H4 D = some (.lst acc) ∧ acc.length < sizeLine ∧ Nx (upd H4 D (.lst (acc ++ [y]))) else Nx H3) := by
  refine lc_it (walk_list (xs := xs)) (fun k Hx => Same H1 Hx ∧ Hx D = some (.lst (ys.take k))) ⟨sameNew nD _, upd_same⟩ (fun k Hx _ z => SqL.of (z.1 _ _ hl)) (fun k x Ha Hb hk z1 z2 => ?_) (fun Hx z => hd Hx z.1 (by rw [z.2, ← len, List.take_length]))
  obtain ⟨rfl, hx⟩ := z2
  obtain ⟨s1, e1⟩ := z1
  have ey : ys[k]? = some ys[k] := List.getElem?_eq_getElem (by omega)
  refine ⟨hw x, ?_⟩
  unfold tYes
  simp only [↓reduceIte]
  refine hs k x _ _ _ hx ey s1 ⟨_, e1, ?_, Mine.same_updN s1 nD, ?_⟩
  · rw [List.length_take, sizeLine_eq]
    omega
  · rw [upd_same, List.take_succ, ey]
    rfl
end L2
namespace Mine
open PySem L2
abbrev s_mach : Stmt := inClass (top 24) 0
def SameX (m : Addr) (H H' : Hp) : Prop := ∀ b o, b ≠ m → H b = some o → H' b = some o
theorem SameX.upd {m : Addr} {H H' : Hp} {o : HO} (x : SameX m H H') : SameX m H (upd H' m o) := fun b u n e => by
  rw [upd_ne n]
  exact x b u n e
theorem SameX.go {m : Addr} {H H' H'' : Hp} (x : SameX m H H') (s : Same H' H'') : SameX m H H'' := fun b u n e => s _ _ (x b u n e)
theorem SameX.at {m : Addr} {H H' : Hp} {C dx b : Addr} {fs : List (Str × V)} {o : HO} (x : SameX m H H') (hm : H m = some (.ins C dx fs)) (e : H b = some o) (n : o ≠ .ins C dx fs) : H' b = some o :=
  x b o (fun z => by rw [z, hm] at e; exact n (Option.some.inj e).symm) e
theorem SameX.trow {m : Addr} {H H' : Hp} {C dx : Addr} {fs : List (Str × V)} {v : V} {d : RowD} (x : SameX m H H') (hm : H m = some (.ins C dx fs)) (r : TRow H v d) : TRow H' v d := by
  cases d with
  | ask op ns =>
    obtain ⟨a, t, e, h1, h2⟩ := r
    exact ⟨a, t, e, x.at hm h1 (fun z => nomatch z), x.at hm h2 (fun z => nomatch z)⟩
  | go n =>
    obtain ⟨a, e, h1⟩ := r
    exact ⟨a, e, x.at hm h1 (fun z => nomatch z)⟩
  | fin w =>
    obtain ⟨a, e, h1⟩ := r
    exact ⟨a, e, x.at hm h1 (fun z => nomatch z)⟩
theorem SameX.rows {m : Addr} {H H' : Hp} {C dx : Addr} {fs : List (Str × V)} {xs : List V} {rs : List RowD} (x : SameX m H H') (hm : H m = some (.ins C dx fs)) (r : Rows H xs rs) : Rows H' xs rs := ⟨r.1, fun i d e => by
  obtain ⟨v, h1, h2⟩ := r.2 i d e
  exact ⟨v, h1, x.trow hm h2⟩⟩
/-- the rows of rest that are met -/
def restD (rs : List RowD) (b : Nat) : List RowD := (metOf rs b).map fun i => rs.getD i (.fin "")
def restV (rs : List RowD) (b : Nat) (xs : List V) : List V := (metOf rs b).map fun i => xs.getD i .non
theorem rest_rows {H : Hp} {rs : List RowD} {b : Nat} {xs : List V} (f : Fit rs) (hb : b < rs.length) (r : Rows H xs rs) : Rows H (restV rs b xs) (restD rs b) := by
  refine ⟨by unfold restV restD; rw [List.length_map, List.length_map], fun j d e => ?_⟩
  unfold restD at e
  rw [List.getElem?_map] at e
  cases q : (metOf rs b)[j]? with
  | none => rw [q] at e; cases e
  | some i =>
    rw [q] at e
    have hi : i < rs.length := (metAt_few f hb rs.length).2 i (List.mem_of_getElem? q)
    have e2 : rs.getD i (.fin "") = d := Option.some.inj e
    have e3 : rs[i]? = some d := by
      rw [List.getD_eq_getElem?_getD, List.getElem?_eq_getElem hi] at e2
      rw [List.getElem?_eq_getElem hi]
      exact congrArg some e2
    obtain ⟨x, h1, h2⟩ := r.2 i d e3
    refine ⟨x, ?_, h2⟩
    unfold restV
    rw [List.getElem?_map, q]
    show some (xs.getD i .non) = some x
    rw [List.getD_eq_getElem?_getD, h1]
    rfl
/-- whether a run hangs -/
def endlessD (rs : List RowD) (b : Nat) : Bool := inV (.str "go") ((restD rs b).map fun d => .str (wordOf d))
/-- the fields of a machine, and what stands there -/
structure MachFs (H : Hp) (fs : List (Str × V)) (t l : Addr) (b : Nat) (rs : List RowD) (sa aa ea : Addr) (as es : List Str) : Prop where
  counts : fs.lookup ("counts" : Str) = some (.ref t)
  lines : fs.lookup ("lines" : Str) = some (.ref l)
  begin : fs.lookup ("begin" : Str) = some (.int b)
  stops : fs.lookup ("stops" : Str) = some (.ref sa)
  asks : fs.lookup ("asks" : Str) = some (.ref aa)
  endings : fs.lookup ("endings" : Str) = some (.ref ea)
  endless : fs.lookup ("endless" : Str) = some (.bl (endlessD rs b))
  hs : H sa = some (.lst (fl rs.length fun i => (stp rs i : Int)))
  ha : H aa = some (.lst (as.map V.str))
  he : H ea = some (.lst (es.map V.str))
  fa : IsFirsts "ask" (restD rs b) as
  fe : IsFirsts "end" (restD rs b) es
theorem SameX.off {m a : Addr} {H H' : Hp} (x : SameX m H H') (n : H' a = none) (ne : a ≠ m) : H a = none := by
  cases e : H a with
  | none => rfl
  | some u =>
    rw [x a u ne e] at n
    cases n
def spMach (C : Addr) : Sp := fun vs H Q _ => ∃ (m t l dx : Addr) (xs : List V) (rs : List RowD) (b : Nat), vs = [.ref m, .ref t, .ref l, .int b] ∧ H m = some (.ins C dx []) ∧ H l = some (.lst xs) ∧ Rows H xs rs ∧ Fit rs ∧ b < rs.length ∧ rs.length ≤ 100000 ∧
  (distinct "ask" (restD rs b)).length < 64 ∧ (distinct "end" (restD rs b)).length < 64 ∧ ∀ (fs : List (Str × V)) (H' : Hp) (sa aa ea : Addr) (as es : List Str), H sa = none → H aa = none → H ea = none → SameX m H H' → H' m = some (.ins C dx fs) → MachFs H' fs t l b rs sa aa ea as es → Q .non H'
/-- what is told of the class -/
structure MachC (K : PySem.W.Frag) (C : Addr) : Prop where
  cl : Cls K C
  n_counts : NoAttr K C "counts"
  n_lines : NoAttr K C "lines"
  n_begin : NoAttr K C "begin"
  n_stops : NoAttr K C "stops"
  n_asks : NoAttr K C "asks"
  n_endings : NoAttr K C "endings"
  n_endless : NoAttr K C "endless"
section
variable {P : Program} {w : World} {K : PySem.W.Frag} {mg : Str → Option Value} {base : Heap}
variable {a_rests a_stops a_firsts C : Addr}
theorem sc_mach : FnScope ["self", "counts", "lines", "begin", "rests", "stop", "line"] ["self", "counts", "lines", "begin"] (defScope s_mach) := ⟨rfl, rfl, rfl, by decide +kernel, rfl, by decide +kernel, by decide +kernel⟩
theorem putF_len {fs : List (Str × V)} {f : Str} {v : V} {n : Nat} (h : fs.length ≤ n) : (putF f v fs).length ≤ n + 1 := Nat.le_trans (length_putF f v fs) (Nat.succ_le_succ h)
theorem ok_mach {f : Addr} {fd fd_rests fd_stops fd_firsts : FuncData} (F : Fun K "__init__" "Machine.__init__" s_mach f fd) (TM : MachC K C)
    (GR : FnOk P w K mg base CX0 2 a_rests fd_rests ["lines", "stops", "begin"] spRests) (b_rests : Binds K fd_rests ["lines", "stops", "begin"] []) (g_rests : mg "rests_from" = some (.ref a_rests)) (k_rests : PySem.W.keepIn K (.ref a_rests) = true)
    (GS : FnOk P w K mg base CX0 2 a_stops fd_stops ["lines"] spStops) (b_stops : Binds K fd_stops ["lines"] []) (g_stops : mg "stops_of" = some (.ref a_stops)) (k_stops : PySem.W.keepIn K (.ref a_stops) = true)
    (GF : FnOk P w K mg base CX0 1 a_firsts fd_firsts ["lines", "word"] spFirsts) (b_firsts : Binds K fd_firsts ["lines", "word"] []) (g_firsts : mg "firsts_of" = some (.ref a_firsts)) (k_firsts : PySem.W.keepIn K (.ref a_firsts) = true) : FnOk P w K mg base CX0 3 f fd ["self", "counts", "lines", "begin"] (spMach C) := by
  refine F.ok sc_mach (fun vs H Q E h => ?_) (fun cdv A outer s H vs Q E hr h => ?_)
  · obtain ⟨m, t, l, dx, xs, rs, b, rfl, _⟩ := h
    rfl
  · obtain ⟨m, t, l, dx, xs, rs, b, rfl, hm, hl, rows, fit, hb, big, few1, few2, k⟩ := h
    refine ⟨_, (pss_cons (ps_fld (pv 0) (pv 1) rfl)
      (pss_cons (ps_fld (pv 0) (pv 2) rfl)
      (pss_cons (ps_fld (pv 0) (pv 3) rfl)
      (pss_cons (ps_fld (pv 0) (pe_call GS (hr.mono (by decide)) (by rfl) g_stops k_stops b_stops .nil pass0 (pa_cons (pv 2) pa_nil)) rfl)
      (pss_cons (ps_setLc (i := 4) (own := [("stop", 5)]) (g := gName 5) (tt := tYes) rfl sc_mach.nd rfl rfl (sw_true rfl rfl rfl rfl) (pi_list (pe_call GR (hr.mono (by decide)) (by rfl) g_rests k_rests b_rests .nil pass0 (pa_cons (pv 2) (pa_cons (pe_fld (pv 0) rfl) (pa_cons (pv 3) pa_nil))))) (blkOk_by (own := [("stop", 5)]) (N := ["self", "counts", "lines", "begin", "rests", "stop", "line"]) (sc := defScope s_mach) (by decide +kernel)) (fun _ _ _ _ _ => pg_name (i := 5) sc_mach.nd rfl (Or.inl rfl)) (fun _ _ _ _ _ => pts_nil) (fun _ _ _ _ _ => pe_ix (show IxR _ (rIxL K) from ix_list) (pv 2) (pv 5) (fun _ _ => rfl)))
      (pss_cons (ps_fld (pv 0) (pe_call GF (hr.mono (by decide)) (by rfl) g_firsts k_firsts b_firsts .nil pass0 (pa_cons (pv 4) (pa_cons pe_str pa_nil))) rfl)
      (pss_cons (ps_fld (pv 0) (pe_call GF (hr.mono (by decide)) (by rfl) g_firsts k_firsts b_firsts .nil pass0 (pa_cons (pv 4) (pa_cons pe_str pa_nil))) rfl)
      (pss_one (ps_fld (pv 0) (pe_cmpR op_in_seq pe_str (pe_lc (own := [("line", 6)]) (g := gName 6) (tt := tYes) rfl sc_mach.nd (pi_list (pv 4)) (blkOk_by (own := [("line", 6)]) (N := ["self", "counts", "lines", "begin", "rests", "stop", "line"]) (sc := defScope s_mach) (by decide +kernel)) (fun _ _ _ _ _ => pg_name (i := 6) sc_mach.nd rfl (Or.inl rfl)) (fun _ _ _ _ _ => pts_nil) (fun _ _ _ _ _ => pe_ix (show IxR _ (rIxT K) from ix_tup) (pv 6) pe_int (fun _ _ => rfl))) (by rfl)) rfl))))))))), ?_⟩
    have L0 : ([] : List (Str × V)).length ≤ 0 := Nat.le_refl _
    have L1 := putF_len (f := "counts") (v := .ref t) L0
    have L2 := putF_len (f := "lines") (v := .ref l) L1
    have L3 := putF_len (f := "begin") (v := .int b) L2
    refine ⟨_, rfl, _, rfl, m, C, dx, _, rfl, hm, TM.cl, TM.n_counts, Nat.lt_of_le_of_lt L0 (by decide), ?_⟩
    refine ⟨_, rfl, _, rfl, m, C, dx, _, rfl, upd_same, TM.cl, TM.n_lines, Nat.lt_of_le_of_lt L1 (by decide), ?_⟩
    refine ⟨_, rfl, _, rfl, m, C, dx, _, rfl, upd_same, TM.cl, TM.n_begin, Nat.lt_of_le_of_lt L2 (by decide), ?_⟩
    rw [upd_upd, upd_upd]
    have x3 : SameX m H (upd H m (.ins C dx (putF "begin" (.int b) (putF "lines" (.ref l) (putF "counts" (.ref t) []))))) := SameX.upd fun _ _ _ e => e
    have m3 : upd H m (.ins C dx (putF "begin" (.int b) (putF "lines" (.ref l) (putF "counts" (.ref t) [])))) m = some (.ins C dx (putF "begin" (.int b) (putF "lines" (.ref l) (putF "counts" (.ref t) [])))) := upd_same
    have q1 : (putF ("begin" : Str) (.int b) (putF "lines" (.ref l) (putF "counts" (.ref t) []))).lookup ("counts" : Str) = some (.ref t) := by
      rw [lookup_putF, if_neg (by decide +kernel), lookup_putF, if_neg (by decide +kernel), lookup_putF, if_pos rfl]
    have q2 : (putF ("begin" : Str) (.int b) (putF "lines" (.ref l) (putF "counts" (.ref t) []))).lookup ("lines" : Str) = some (.ref l) := by
      rw [lookup_putF, if_neg (by decide +kernel), lookup_putF, if_pos rfl]
    have q3 : (putF ("begin" : Str) (.int b) (putF "lines" (.ref l) (putF "counts" (.ref t) []))).lookup ("begin" : Str) = some (.int b) := by
      rw [lookup_putF, if_pos rfl]
    generalize (upd H m (.ins C dx (putF "begin" (.int b) (putF "lines" (.ref l) (putF "counts" (.ref t) []))))) = H3 at x3 m3 ⊢
    generalize putF ("begin" : Str) (.int b) (putF "lines" (.ref l) (putF "counts" (.ref t) [])) = f3 at m3 L3 q1 q2 q3
    have l3 : H3 l = some (.lst xs) := x3.at hm hl (fun z => nomatch z)
    refine ⟨_, rfl, l, xs, rs, rfl, l3, x3.rows hm rows, fit.go, big, fun sa H4 n4 s4 e4 => ?_⟩
    refine ⟨_, rfl, m, C, dx, _, rfl, s4 _ _ m3, TM.cl, TM.n_stops, Nat.lt_of_le_of_lt L3 (by decide), ?_⟩
    have L4 := putF_len (f := "stops") (v := .ref sa) L3
    have sm : sa ≠ m := fun z => by
      rw [z, m3] at n4
      cases n4
    have nsa : H sa = none := x3.off n4 sm
    have x4 : SameX m H (upd H4 m (.ins C dx (putF "stops" (.ref sa) f3))) := (x3.go s4).upd
    have m4 : upd H4 m (.ins C dx (putF "stops" (.ref sa) f3)) m = some (.ins C dx (putF "stops" (.ref sa) f3)) := upd_same
    have e5 : upd H4 m (.ins C dx (putF "stops" (.ref sa) f3)) sa = some (.lst (fl rs.length fun i => (stp rs i : Int))) := by
      rw [upd_ne sm]
      exact e4
    have q4 : (putF ("stops" : Str) (.ref sa) f3).lookup ("stops" : Str) = some (.ref sa) := by rw [lookup_putF, if_pos rfl]
    have q1' : (putF ("stops" : Str) (.ref sa) f3).lookup ("counts" : Str) = some (.ref t) := by rw [lookup_putF, if_neg (by decide +kernel)]; exact q1
    have q2' : (putF ("stops" : Str) (.ref sa) f3).lookup ("lines" : Str) = some (.ref l) := by rw [lookup_putF, if_neg (by decide +kernel)]; exact q2
    have q3' : (putF ("stops" : Str) (.ref sa) f3).lookup ("begin" : Str) = some (.int b) := by rw [lookup_putF, if_neg (by decide +kernel)]; exact q3
    clear q1 q2 q3
    generalize (upd H4 m (.ins C dx (putF "stops" (.ref sa) f3))) = H5 at x4 m4 e5 ⊢
    generalize putF ("stops" : Str) (.ref sa) f3 = f4 at m4 L4 q1' q2' q3' q4
    have l5 : H5 l = some (.lst xs) := x4.at hm hl (fun z => nomatch z)
    have rows5 := x4.rows hm rows
    refine ⟨_, rfl, _, rfl, m, C, dx, _, _, rfl, m4, TM.cl, TM.n_stops, q4, _, rfl, l, sa, xs, rs, b, rfl, l5, rows5, fit, e5, hb, big, fun ma H6 n6 s6 e6 => ?_⟩
    have few := metAt_few fit hb rs.length
    have flen := few.len
    have nl : (natsV (metOf rs b)).length = (metOf rs b).length := List.length_map _
    have rvl : (restV rs b xs).length = (metOf rs b).length := List.length_map _
    have fl2 : (metOf rs b).length ≤ rs.length := flen
    refine ⟨ma, rfl, ⟨_, SqL.of e6⟩, fun D nD => lc_pure (ys := restV rs b xs) e6 nD (by rw [nl, rvl]) (by rw [nl]; omega) (fun _ => rfl) (fun j x y Ha Qe hx hy sa6 qe => ?_) (fun H7 s7 e7 => ?_)⟩
    · unfold natsV at hx
      rw [List.getElem?_map] at hx
      unfold restV at hy
      rw [List.getElem?_map] at hy
      cases q : (metOf rs b)[j]? with
      | none => rw [q] at hx; cases hx
      | some i =>
        rw [q] at hx hy
        have hx2 : V.int (i : Int) = x := Option.some.inj hx
        have hy2 : xs.getD i .non = y := Option.some.inj hy
        have hi : i < xs.length := by
          rw [rows.1]
          exact few.2 i (List.mem_of_getElem? q)
        subst hx2
        have ey : xs[i]? = some y := by
          rw [List.getD_eq_getElem?_getD, List.getElem?_eq_getElem hi] at hy2
          rw [List.getElem?_eq_getElem hi]
          exact congrArg some hy2
        exact ⟨_, rfl, _, rfl, l, xs, _, y, rfl, rfl, SqL.of (sa6 _ _ (s6 _ _ l5)), atI_nat ey, qe⟩
    · have s57 : Same H5 H7 := s6.trans s7
      have rr : Rows H7 (restV rs b xs) (restD rs b) := rest_rows fit hb (rows5.same s57)
      have rdl : (restD rs b).length ≤ 100000 := by
        unfold restD
        rw [List.length_map]
        omega
      refine ⟨_, rfl, D, _, _, "ask", rfl, by decide +kernel, e7, rr, rdl, few1, fun as fas aa H8 n8 s8 e8 => ?_⟩
      have m8 : H8 m = some (.ins C dx f4) := s8 _ _ (s57 _ _ m4)
      refine ⟨_, rfl, m, C, dx, _, rfl, m8, TM.cl, TM.n_asks, Nat.lt_of_le_of_lt L4 (by decide), ?_⟩
      have L5 := putF_len (f := "asks") (v := .ref aa) L4
      have am : aa ≠ m := fun z => by
        rw [z, s57 _ _ m4] at n8
        cases n8
      have naa : H aa = none := SameX.off (fun b o n e => s57 _ _ (x4 _ _ n e)) n8 am
      have x9 : SameX m H5 (upd H8 m (.ins C dx (putF "asks" (.ref aa) f4))) := SameX.upd fun b o _ e => s8 _ _ (s57 _ _ e)
      have x79 : SameX m H7 (upd H8 m (.ins C dx (putF "asks" (.ref aa) f4))) := SameX.upd fun b o _ e => s8 _ _ e
      have m9 : upd H8 m (.ins C dx (putF "asks" (.ref aa) f4)) m = some (.ins C dx (putF "asks" (.ref aa) f4)) := upd_same
      have e9 : upd H8 m (.ins C dx (putF "asks" (.ref aa) f4)) aa = some (.lst (as.map V.str)) := by
        rw [upd_ne am]
        exact e8
      have p5 : (putF ("asks" : Str) (.ref aa) f4).lookup ("asks" : Str) = some (.ref aa) := by rw [lookup_putF, if_pos rfl]
      have p1 : (putF ("asks" : Str) (.ref aa) f4).lookup ("counts" : Str) = some (.ref t) := by rw [lookup_putF, if_neg (by decide +kernel)]; exact q1'
      have p2 : (putF ("asks" : Str) (.ref aa) f4).lookup ("lines" : Str) = some (.ref l) := by rw [lookup_putF, if_neg (by decide +kernel)]; exact q2'
      have p3 : (putF ("asks" : Str) (.ref aa) f4).lookup ("begin" : Str) = some (.int b) := by rw [lookup_putF, if_neg (by decide +kernel)]; exact q3'
      have p4 : (putF ("asks" : Str) (.ref aa) f4).lookup ("stops" : Str) = some (.ref sa) := by rw [lookup_putF, if_neg (by decide +kernel)]; exact q4
      have m7 : H7 m = some (.ins C dx f4) := s57 _ _ m4
      generalize (upd H8 m (.ins C dx (putF "asks" (.ref aa) f4))) = H9 at x9 x79 m9 e9 ⊢
      generalize putF ("asks" : Str) (.ref aa) f4 = f5 at m9 L5 p1 p2 p3 p4 p5
      have d9 : H9 D = some (.lst (restV rs b xs)) := x79.at m7 e7 (fun z => nomatch z)
      have rr9 : Rows H9 (restV rs b xs) (restD rs b) := x79.rows m7 rr
      refine ⟨_, rfl, D, _, _, "end", rfl, by decide +kernel, d9, rr9, rdl, few2, fun es fes ea H10 n10 s10 e10 => ?_⟩
      refine ⟨_, rfl, m, C, dx, _, rfl, s10 _ _ m9, TM.cl, TM.n_endings, Nat.lt_of_le_of_lt L5 (by decide), ?_⟩
      have L6 := putF_len (f := "endings") (v := .ref ea) L5
      have em : ea ≠ m := fun z => by
        rw [z, m9] at n10
        cases n10
      have nea : H ea = none := SameX.off (fun b o n e => x9 _ _ n (x4 _ _ n e)) n10 em
      have x11 : SameX m H9 (upd H10 m (.ins C dx (putF "endings" (.ref ea) f5))) := SameX.upd fun b o _ e => s10 _ _ e
      have m11 : upd H10 m (.ins C dx (putF "endings" (.ref ea) f5)) m = some (.ins C dx (putF "endings" (.ref ea) f5)) := upd_same
      have e11 : upd H10 m (.ins C dx (putF "endings" (.ref ea) f5)) ea = some (.lst (es.map V.str)) := by
        rw [upd_ne em]
        exact e10
      have r6 : (putF ("endings" : Str) (.ref ea) f5).lookup ("endings" : Str) = some (.ref ea) := by rw [lookup_putF, if_pos rfl]
      have r1 : (putF ("endings" : Str) (.ref ea) f5).lookup ("counts" : Str) = some (.ref t) := by rw [lookup_putF, if_neg (by decide +kernel)]; exact p1
      have r2 : (putF ("endings" : Str) (.ref ea) f5).lookup ("lines" : Str) = some (.ref l) := by rw [lookup_putF, if_neg (by decide +kernel)]; exact p2
      have r3 : (putF ("endings" : Str) (.ref ea) f5).lookup ("begin" : Str) = some (.int b) := by rw [lookup_putF, if_neg (by decide +kernel)]; exact p3
      have r4 : (putF ("endings" : Str) (.ref ea) f5).lookup ("stops" : Str) = some (.ref sa) := by rw [lookup_putF, if_neg (by decide +kernel)]; exact p4
      have r5 : (putF ("endings" : Str) (.ref ea) f5).lookup ("asks" : Str) = some (.ref aa) := by rw [lookup_putF, if_neg (by decide +kernel)]; exact p5
      generalize (upd H10 m (.ins C dx (putF "endings" (.ref ea) f5))) = H11 at x11 m11 e11 ⊢
      generalize putF ("endings" : Str) (.ref ea) f5 = f6 at m11 L6 r1 r2 r3 r4 r5 r6
      have d11 : H11 D = some (.lst (restV rs b xs)) := x11.at m9 d9 (fun z => nomatch z)
      have rr11 : Rows H11 (restV rs b xs) (restD rs b) := x11.rows m9 rr9
      have rdv : (restD rs b).length = (restV rs b xs).length := rr11.1.symm
      refine ⟨_, rfl, D, rfl, ⟨_, SqL.of d11⟩, fun G nG => lc_pure (ys := (restD rs b).map fun d => .str (wordOf d)) d11 nG (by rw [List.length_map, rdv]) (by rw [← rdv]; omega) (fun _ => rfl) (fun j x y Ha Qe hx hy sa11 qe => ?_) (fun H12 s12 e12 => ?_)⟩
      · have hj : j < (restD rs b).length := by
          have := (List.getElem?_eq_some_iff.mp hx).1
          omega
        obtain ⟨z, zs, d, ed, hx2, row, hz⟩ := rr11.at hj
        rw [hx2] at hx
        cases hx
        rw [List.getElem?_map, ed] at hy
        cases hy
        exact ⟨_, rfl, _, _, _, _, rfl, rfl, .inl (.inl (sa11 _ _ hz)), at0', qe⟩
      · refine ⟨G, _, rfl, .inl (SqL.of e12), rfl, ?_, ?_⟩
        · rw [List.all_map]
          exact List.all_eq_true.mpr fun _ _ => rfl
        · refine ⟨_, rfl, m, C, dx, _, rfl, s12 _ _ m11, TM.cl, TM.n_endless, Nat.lt_of_le_of_lt L6 (by decide), ?_⟩
          have x12 : SameX m H11 (upd H12 m (.ins C dx (putF "endless" (.bl (endlessD rs b)) f6))) := SameX.upd fun b o _ e => s12 _ _ e
          refine k (putF "endless" (.bl (endlessD rs b)) f6) (upd H12 m (.ins C dx (putF "endless" (.bl (endlessD rs b)) f6))) sa aa ea as es nsa naa nea (fun b o n e => x12 _ _ n (x11 _ _ n (x9 _ _ n (x4 _ _ n e)))) upd_same ⟨?_, ?_, ?_, ?_, ?_, ?_, ?_, x12 _ _ sm (x11 _ _ sm (x9 _ _ sm e5)), x12 _ _ am (x11 _ _ am e9), x12 _ _ em e11, fas, fes⟩
          · rw [lookup_putF, if_neg (by decide +kernel)]
            exact r1
          · rw [lookup_putF, if_neg (by decide +kernel)]
            exact r2
          · rw [lookup_putF, if_neg (by decide +kernel)]
            exact r3
          · rw [lookup_putF, if_neg (by decide +kernel)]
            exact r4
          · rw [lookup_putF, if_neg (by decide +kernel)]
            exact r5
          · rw [lookup_putF, if_neg (by decide +kernel)]
            exact r6
          · rw [lookup_putF, if_pos rfl]
end
end Mine

set_option maxRecDepth 100000
set_option maxHeartbeats 4000000
namespace Mine
open PySem L2
abbrev s_lines_read : Stmt := top 34
theorem ps_no {X : Cx} {st : Stmt} : PS X st (fun _ _ _ => False) := ⟨fun _ _ _ _ _ _ h => h.elim⟩
/-- the rows stand there, in lists or tuples -/
def RowsIn (H : Hp) (xs : List V) (rs : List RowD) : Prop := xs.length = rs.length ∧ ∀ (i : Nat) (d : RowD), rs[i]? = some d → ∃ x, xs[i]? = some x ∧ RowAt H x d
def OkRows (o : Ops) (rs : List RowD) : Prop := ∀ (i : Nat) (d : RowD), rs[i]? = some d → OkRow o rs.length d
theorem OkRows.fit {o : Ops} {rs : List RowD} (h : OkRows o rs) : Fit rs := fun i d e n hn => by
  have := h i d e
  cases d with
  | ask op ns => exact this.2.2 n hn
  | go k =>
    rw [List.mem_singleton.mp hn]
    exact this
  | fin w => exact nomatch hn
def spRead : Sp := fun vs H Q _ => ∃ (r d : Addr) (xs : List V) (rs : List RowD) (o : Ops), vs = [.ref r, .ref d] ∧ SqA H r xs ∧ RowsIn H xs rs ∧ Rd H d (.dK (opsK o)) ∧ 1 ≤ rs.length ∧ rs.length ≤ 400 ∧ OkRows o rs ∧
  ∀ (p : Addr) (ys : List V) (H' : Hp), H p = none → Same H H' → H' p = some (.lst ys) → Rows H' ys rs → Q (.ref p) H'
theorem TRow.other {H : Hp} {D : Addr} {ys : List V} {o : HO} {v : V} {d : RowD} (h : TRow H v d) (e : H D = some (.lst ys)) : TRow (upd H D o) v d := by
  have ne : ∀ {a : Addr} {zs : List V}, H a = some (.tup zs) → upd H D o a = some (.tup zs) := fun {a zs} h1 => by
    rw [upd_ne (fun z => by rw [z, e] at h1; cases h1)]
    exact h1
  cases d with
  | ask op ns =>
    obtain ⟨a, t, e, h1, h2⟩ := h
    exact ⟨a, t, e, ne h1, ne h2⟩
  | go n =>
    obtain ⟨a, e, h1⟩ := h
    exact ⟨a, e, ne h1⟩
  | fin w =>
    obtain ⟨a, e, h1⟩ := h
    exact ⟨a, e, ne h1⟩
/-- the first kk rows stand in the new list -/
structure Grown (Hn : Hp) (D : Addr) (rs : List RowD) (kk : Nat) (Hx : Hp) : Prop where
  same : Same Hn Hx
  at_ : ∃ ys : List V, ys.length = kk ∧ Hx D = some (.lst ys) ∧ ∀ (j : Nat) (dj : RowD), j < kk → rs[j]? = some dj → ∃ y, ys[j]? = some y ∧ TRow Hx y dj
section
variable {P : Program} {w : World} {K : PySem.W.Frag} {mg : Str → Option Value} {base : Heap}
variable {fII fIW a_is_row a_is_index a_is_name a_is_text_in a_are_counts a_word_of a_are_nexts a_is_line a_line_of a_are_operations : Addr}
theorem sc_lines_read : FnScope ["rows", "counts", "index", "row"] ["rows", "counts"] (defScope s_lines_read) := ⟨rfl, rfl, rfl, by decide +kernel, rfl, by decide +kernel, by decide +kernel⟩
theorem ok_lines_read {f : Addr} {fd fd_is_row fd_is_line fd_line_of : FuncData} (F : Fun K "lines_read" "lines_read" s_lines_read f fd) (T : TxtF K mg fII fIW) (TG : TxtG K mg a_is_row a_is_index a_is_name a_is_text_in a_are_counts a_word_of a_are_nexts a_is_line a_line_of a_are_operations)
    (h_enum : mg "enumerate" = none) {tm : Tok} (h_most : mg "MOST_ROWS" = some (.int 400 tm))
    (GRw : FnOk P w K mg base CX0 1 a_is_row fd_is_row ["thing"] (spIsRow K)) (b_is_row : Binds K fd_is_row ["thing"] [])
    (GL : FnOk P w K mg base CX0 5 a_is_line fd_is_line ["row", "counts", "many"] spIsLine) (b_is_line : Binds K fd_is_line ["row", "counts", "many"] [])
    (GLo : FnOk P w K mg base CX0 1 a_line_of fd_line_of ["row"] spLineOf) (b_line_of : Binds K fd_line_of ["row"] []) : FnOk P w K mg base CX0 6 f fd ["rows", "counts"] spRead := by
  refine F.ok sc_lines_read (fun vs H Q E h => ?_) (fun cdv A outer s H vs Q E hr h => ?_)
  · obtain ⟨r, d, xs, rs, o, rfl, _⟩ := h
    rfl
  · obtain ⟨r, d, xs, rs, o, rfl, hx, rows, hd, lo, hi, ok, k⟩ := h
    refine ⟨_, (pss_cons (ps_if (PW.pt (pw_or (pt_not (pt_val (pe_call GRw (hr.mono (by decide)) (by rfl) TG.g_is_row TG.k_is_row b_is_row .nil pass0 (pa_cons (pv 0) pa_nil)))) (pw_or1 (pt_not (pt_chain op_le op_le pe_int (pe_callB call_len_seq (by rfl) T.b_len PySem.boot_len (pa_cons (pv 0) pa_nil)) (pe_glob (v := .int 400) rfl h_most ⟨_, rfl⟩)))))) (pss_one ps_no) pss_nil)
      (pss_cons (ps_for PassesOwn.never rfl (pi_or (pi_enum (by rfl) h_enum (pa_cons (pv 0) pa_nil)) (pi_enumT (by rfl) h_enum (pa_cons (pv 0) pa_nil))) (pg_tup rfl (pgs_cons (pg_name (i := 2) sc_lines_read.nd rfl (Or.inl rfl)) (pgs_cons (pg_name (i := 3) sc_lines_read.nd rfl (Or.inl rfl)) pgs_nil)))
        (pss_one (ps_if (pt_not (pt_val (pe_call GL (hr.mono (by decide)) (by rfl) TG.g_is_line TG.k_is_line b_is_line .nil pass0 (pa_cons (pv 3) (pa_cons (pv 1) (pa_cons (pe_callB call_len_seq (by rfl) T.b_len PySem.boot_len (pa_cons (pv 0) pa_nil)) pa_nil)))))) (pss_one ps_no) pss_nil)))
      (pss_one (ps_ret (pe_lc (own := [("row", 3)]) (g := gName 3) (tt := tYes) (wi := iSeq K (tVar 0)) rfl sc_lines_read.nd (pi_seq (pv 0)) (blkOk_by (own := [("row", 3)]) (N := ["rows", "counts", "index", "row"]) (sc := defScope s_lines_read) (by decide +kernel)) (fun _ _ _ _ _ => pg_name (i := 3) sc_lines_read.nd rfl (Or.inl rfl)) (fun _ _ _ _ _ => pts_nil) (fun _ _ _ _ _ => (pe_call GLo (hr.mono (by decide)) (by rfl) TG.g_line_of TG.k_line_of b_line_of .nil pass0 (pa_cons (pv 3) pa_nil)))))))), ?_⟩
    obtain ⟨ty, b, e⟩ := btSeq (K := K) hx
    refine ⟨_, rfl, _, ty, rfl, b, fun H1 s1 => ⟨_, rfl, ?_⟩⟩
    rw [e]
    refine iteF ?_
    have hx1 := s1.sqa hx
    have len : (xs.length : Int) = rs.length := by rw [rows.1]
    refine ⟨_, rfl, r, _, rfl, hx1.sq, _, _, rfl, rfl, _, rfl, ?_⟩
    rw [len, decide_eq_true (show (1 : Int) ≤ (rs.length : Int) by omega)]
    refine iteT ?_
    refine ⟨_, _, rfl, rfl, _, rfl, ?_⟩
    rw [decide_eq_true (show (rs.length : Int) ≤ 400 by omega)]
    refine iteF ?_
    have body : ∀ (i : Nat) (x : V) (Ha : Hp), xs[i]? = some x → Same H1 Ha → ∃ dd : RowD, RowAt Ha x dd ∧ OkRow o (rs.length : Int) dd ∧ rs[i]? = some dd := fun i x Ha hxi sa => by
      have hi2 : i < rs.length := by
        have := (List.getElem?_eq_some_iff.mp hxi).1
        have := rows.1
        omega
      obtain ⟨x2, h1, h2⟩ := rows.2 i _ (List.getElem?_eq_getElem hi2)
      rw [hxi] at h1
      cases h1
      exact ⟨_, h2.same (s1.trans sa), ok i _ (List.getElem?_eq_getElem hi2), List.getElem?_eq_getElem hi2⟩
    have elem : ∀ (Hn Ha : Hp) (D : Addr) (kk : Nat) (x : V), Same H1 Hn → Hn D = none → xs[kk]? = some x → Grown Hn D rs kk Ha → ∃ dd : RowD, RowAt Ha x dd ∧ ∀ (v' : V) (H' : Hp), Same Ha H' → TRow H' v' dd → ∃ acc, H' D = some (.lst acc) ∧ acc.length < sizeLine ∧ Grown Hn D rs (kk + 1) (upd H' D (.lst (acc ++ [v']))) := fun Hn Ha D kk x sn nD hxk gr => by
      obtain ⟨dd, b1, _, b3⟩ := body kk x Ha hxk (sn.trans gr.same)
      refine ⟨dd, b1, fun v' H' sa tr => ?_⟩
      obtain ⟨sx, ys, yl, ye, ya⟩ := gr
      have hk : kk < rs.length := (List.getElem?_eq_some_iff.mp b3).1
      have eD := sa _ _ ye
      refine ⟨ys, eD, by rw [yl, sizeLine_eq]; omega, ⟨same_updN (sx.trans sa) nD, ys ++ [v'], by rw [List.length_append, yl]; rfl, upd_same, fun j dj hj ej => ?_⟩⟩
      by_cases z : j < kk
      · obtain ⟨y, h1, h2⟩ := ya j dj z ej
        exact ⟨y, by rw [List.getElem?_append_left (by omega)]; exact h1, (h2.same sa).other eD⟩
      · have zj : j = kk := by omega
        subst zj
        rw [b3] at ej
        cases ej
        exact ⟨v', by rw [List.getElem?_append_right (by omega), yl, Nat.sub_self]; rfl, tr.other eD⟩
    have fin : ∀ (Hn Hx : Hp) (D : Addr), Same H1 Hn → Hn D = none → Grown Hn D rs xs.length Hx → Q (.ref D) Hx := fun Hn Hx D sn nD gr => by
      obtain ⟨sx, ys, yl, ye, ya⟩ := gr
      rw [rows.1] at yl ya
      exact k D ys Hx (none_of (s1.trans sn) nD) (s1.trans (sn.trans sx)) ye ⟨yl, fun i dd e => ya i dd (List.getElem?_eq_some_iff.mp e).1 e⟩
    rcases hx1 with hx1 | hx1
    · refine .inl ⟨_, rfl, r, xs, rfl, SqL.of hx1, for_enumL (K := K) (a := r) (xs := xs) (fun i σ H' => ∃ v2 v3 : Option V, σ = [some (.ref r), some (.ref d), v2, v3] ∧ Same H1 H') ⟨_, _, rfl, Same.refl _⟩ (fun i σ H' _ z => by obtain ⟨_, _, _, s⟩ := z; exact SqL.of (s _ _ hx1)) ?_ ?_⟩
      · rintro i x σ Ha T Hb hxi ⟨v2, v3, rfl, sa⟩ nT sT eT
        obtain ⟨dd, b1, b2, _⟩ := body i x Hb hxi (sa.trans sT)
        refine ⟨T, _, rfl, .inl (.inl eT), rfl, _, _, rfl, _, _, rfl, rfl, ?_⟩
        refine ⟨_, rfl, _, rfl, _, rfl, r, _, rfl, .inl (SqL.of ((sa.trans sT) _ _ hx1)), ?_⟩
        rw [len]
        refine ⟨x, d, o, _, dd, rfl, b1, Rd.same (s1.trans (sa.trans sT)) hd, b2, fun Hc sc => ⟨_, rfl, ?_⟩⟩
        refine iteF ?_
        exact ⟨_, _, rfl, (sa.trans sT).trans sc⟩
      · rintro σ Hn ⟨v2, v3, rfl, sn⟩
        refine .inl ⟨_, rfl, r, rfl, ⟨_, SqL.of (sn _ _ hx1)⟩, fun D nD => lc_it (walk_list (xs := xs)) (fun kk Hx => Grown Hn D rs kk Hx) ⟨sameNew nD _, [], rfl, upd_same, fun j _ hj => absurd hj (Nat.not_lt_zero j)⟩ (fun kk Hx _ z => SqL.of (z.same _ _ (sn _ _ hx1))) (fun kk x Ha Hb hk z1 z2 => ?_) fun Hx z => fin Hn Hx D sn nD z⟩
        obtain ⟨rfl, hxk⟩ := z2
        obtain ⟨dd, b1, q⟩ := elem Hn _ D kk x sn nD hxk z1
        exact ⟨rfl, _, rfl, x, dd, rfl, b1, q⟩
    · refine .inr ⟨_, rfl, r, xs, rfl, .inl (.inl hx1), for_enumT (K := K) (a := r) (xs := xs) (fun i σ H' => ∃ v2 v3 : Option V, σ = [some (.ref r), some (.ref d), v2, v3] ∧ Same H1 H') ⟨_, _, rfl, Same.refl _⟩ (fun i σ H' _ z => by obtain ⟨_, _, _, s⟩ := z; exact .inl (.inl (s _ _ hx1))) ?_ ?_⟩
      · rintro i x σ Ha T Hb hxi ⟨v2, v3, rfl, sa⟩ nT sT eT
        obtain ⟨dd, b1, b2, _⟩ := body i x Hb hxi (sa.trans sT)
        refine ⟨T, _, rfl, .inl (.inl eT), rfl, _, _, rfl, _, _, rfl, rfl, ?_⟩
        refine ⟨_, rfl, _, rfl, _, rfl, r, _, rfl, .inr (.inl (.inl ((sa.trans sT) _ _ hx1))), ?_⟩
        rw [len]
        refine ⟨x, d, o, _, dd, rfl, b1, Rd.same (s1.trans (sa.trans sT)) hd, b2, fun Hc sc => ⟨_, rfl, ?_⟩⟩
        refine iteF ?_
        exact ⟨_, _, rfl, (sa.trans sT).trans sc⟩
      · rintro σ Hn ⟨v2, v3, rfl, sn⟩
        refine .inr ⟨_, rfl, r, rfl, ⟨_, .inl (.inl (sn _ _ hx1))⟩, fun D nD => lc_it (walk_tup (xs := xs)) (fun kk Hx => Grown Hn D rs kk Hx) ⟨sameNew nD _, [], rfl, upd_same, fun j _ hj => absurd hj (Nat.not_lt_zero j)⟩ (fun kk Hx _ z => .inl (.inl (z.same _ _ (sn _ _ hx1)))) (fun kk x Ha Hb hk z1 z2 => ?_) fun Hx z => fin Hn Hx D sn nD z⟩
        obtain ⟨rfl, hxk⟩ := z2
        obtain ⟨dd, b1, q⟩ := elem Hn _ D kk x sn nD hxk z1
        exact ⟨rfl, _, rfl, x, dd, rfl, b1, q⟩
end
end Mine

set_option maxRecDepth 100000
set_option maxHeartbeats 4000000
namespace Mine
open PySem L2
abbrev s_body : Stmt := inClass (top 33) 0
theorem MachFs.x {m : Addr} {H H' : Hp} {C dx : Addr} {fx : List (Str × V)} {fs : List (Str × V)} {t l : Addr} {b : Nat} {rs : List RowD} {sa aa ea : Addr} {as es : List Str} (x : SameX m H H') (hm : H m = some (.ins C dx fx)) (f : MachFs H fs t l b rs sa aa ea as es) : MachFs H' fs t l b rs sa aa ea as es :=
  ⟨f.counts, f.lines, f.begin, f.stops, f.asks, f.endings, f.endless, x.at hm f.hs (fun z => nomatch z), x.at hm f.ha (fun z => nomatch z), x.at hm f.he (fun z => nomatch z), f.fa, f.fe⟩
theorem MachFs.same {H H' : Hp} {fs : List (Str × V)} {t l : Addr} {b : Nat} {rs : List RowD} {sa aa ea : Addr} {as es : List Str} (s : Same H H') (f : MachFs H fs t l b rs sa aa ea as es) : MachFs H' fs t l b rs sa aa ea as es :=
  ⟨f.counts, f.lines, f.begin, f.stops, f.asks, f.endings, f.endless, s _ _ f.hs, s _ _ f.ha, s _ _ f.he, f.fa, f.fe⟩
/-- a body stands there -/
structure BodyP (CB CM : Addr) (H : Hp) (bd : Addr) (o : Ops) (rs : List RowD) (b : Nat) (m t l sa aa ea : Addr) (o' : Ops) (xs : List V) (as es : List Str) : Prop where
  hb : ∃ dx fb, H bd = some (.ins CB dx fb) ∧ fb.lookup ("machine" : Str) = some (.ref m)
  hm : ∃ dm fm, H m = some (.ins CM dm fm) ∧ MachFs H fm t l b rs sa aa ea as es
  ht : H t = some (.dK (opsK o'))
  ord : Ordered o o'
  hl : H l = some (.lst xs)
  rows : Rows H xs rs
  lt : b < rs.length
  own : ∃ dx, H bd = some (.ins CB dx [("machine", .ref m)])
def BodyAt (CB CM : Addr) (H : Hp) (bd : Addr) (o : Ops) (rs : List RowD) (b : Nat) : Prop := ∃ m t l sa aa ea o' xs as es, BodyP CB CM H bd o rs b m t l sa aa ea o' xs as es
/-- a new body: its parts are new, but for the rows' tuples -/
def BodyN (CB CM : Addr) (H0 H : Hp) (bd : Addr) (o : Ops) (rs : List RowD) (b : Nat) : Prop := ∃ m t l sa aa ea o' xs as es, BodyP CB CM H bd o rs b m t l sa aa ea o' xs as es ∧ H0 m = none ∧ H0 t = none ∧ H0 l = none ∧ H0 sa = none ∧ H0 aa = none ∧ H0 ea = none
theorem BodyN.at {CB CM : Addr} {H0 H : Hp} {bd : Addr} {o : Ops} {rs : List RowD} {b : Nat} (h : BodyN CB CM H0 H bd o rs b) : BodyAt CB CM H bd o rs b := by
  obtain ⟨m, t, l, sa, aa, ea, o', xs, as, es, h, _⟩ := h
  exact ⟨m, t, l, sa, aa, ea, o', xs, as, es, h⟩
/-- what is new, or a tuple, stays: then the body stays -/
theorem BodyN.off {CB CM : Addr} {H0 H H' : Hp} {bd : Addr} {o : Ops} {rs : List RowD} {b : Nat} (h : BodyN CB CM H0 H bd o rs b) (nb : H0 bd = none) (k : ∀ a u, H a = some u → (H0 a = none ∨ ∃ zs, u = .tup zs) → H' a = some u) : BodyAt CB CM H' bd o rs b := by
  obtain ⟨m, t, l, sa, aa, ea, o', xs, as, es, ⟨⟨dx, fb, h1, h2⟩, ⟨dm, fm, h3, h4⟩, h5, h6, h7, h8, h9, dw, hw⟩, n1, n2, n3, n4, n5, n6⟩ := h
  have ku : ∀ {q : Addr} {us : List V}, H q = some (.tup us) → H' q = some (.tup us) := fun e => k _ _ e (.inr ⟨_, rfl⟩)
  refine ⟨m, t, l, sa, aa, ea, o', xs, as, es, ⟨dx, fb, k _ _ h1 (.inl nb), h2⟩, ⟨dm, fm, k _ _ h3 (.inl n1), ⟨h4.counts, h4.lines, h4.begin, h4.stops, h4.asks, h4.endings, h4.endless, k _ _ h4.hs (.inl n4), k _ _ h4.ha (.inl n5), k _ _ h4.he (.inl n6), h4.fa, h4.fe⟩⟩, k _ _ h5 (.inl n2), h6, k _ _ h7 (.inl n3), ⟨h8.1, fun i d e => ?_⟩, h9, dw, k _ _ hw (.inl nb)⟩
  obtain ⟨x, x1, x2⟩ := h8.2 i d e
  refine ⟨x, x1, ?_⟩
  cases d with
  | ask op ns =>
    obtain ⟨q, t', e1, k1, k2⟩ := x2
    exact ⟨q, t', e1, ku k1, ku k2⟩
  | go n =>
    obtain ⟨q, e1, k1⟩ := x2
    exact ⟨q, e1, ku k1⟩
  | fin n =>
    obtain ⟨q, e1, k1⟩ := x2
    exact ⟨q, e1, ku k1⟩
theorem BodyP.same {CB CM : Addr} {H H' : Hp} {bd : Addr} {o : Ops} {rs : List RowD} {b : Nat} {m t l sa aa ea : Addr} {o' : Ops} {xs : List V} {as es : List Str} (s : Same H H') (h : BodyP CB CM H bd o rs b m t l sa aa ea o' xs as es) : BodyP CB CM H' bd o rs b m t l sa aa ea o' xs as es := by
  obtain ⟨⟨dx, fb, h1, h2⟩, ⟨dm, fm, h3, h4⟩, h5, h6, h7, h8, h9, dw, hw⟩ := h
  exact ⟨⟨dx, fb, s _ _ h1, h2⟩, ⟨dm, fm, s _ _ h3, h4.same s⟩, s _ _ h5, h6, s _ _ h7, h8.same s, h9, dw, s _ _ hw⟩
theorem BodyAt.same {CB CM : Addr} {H H' : Hp} {bd : Addr} {o : Ops} {rs : List RowD} {b : Nat} (s : Same H H') (h : BodyAt CB CM H bd o rs b) : BodyAt CB CM H' bd o rs b := by
  obtain ⟨m, t, l, sa, aa, ea, o', xs, as, es, h⟩ := h
  exact ⟨m, t, l, sa, aa, ea, o', xs, as, es, h.same s⟩
theorem RowsIn.same {H H' : Hp} {xs : List V} {rs : List RowD} (s : Same H H') (h : RowsIn H xs rs) : RowsIn H' xs rs := ⟨h.1, fun i d e => by
  obtain ⟨x, h1, h2⟩ := h.2 i d e
  exact ⟨x, h1, h2.same s⟩⟩
def spBody (CB CM : Addr) : Sp := fun vs H Q _ => ∃ (bd d r dx : Addr) (xs : List V) (rs : List RowD) (o : Ops) (b : Nat), vs = [.ref bd, .ref d, .ref r, .int b] ∧ H bd = some (.ins CB dx []) ∧ H d = some (.dK (opsK o)) ∧ OkOps o ∧ SqA H r xs ∧ RowsIn H xs rs ∧ 1 ≤ rs.length ∧ rs.length ≤ 400 ∧ OkRows o rs ∧ b < rs.length ∧
  (distinct "ask" (restD rs b)).length < 64 ∧ (distinct "end" (restD rs b)).length < 64 ∧ ∀ H', SameX bd H H' → BodyN CB CM H H' bd o rs b → Q .non H'
structure BodyC (K : PySem.W.Frag) (C : Addr) : Prop where
  cl : Cls K C
  n_machine : NoAttr K C "machine"
section
variable {P : Program} {w : World} {K : PySem.W.Frag} {mg : Str → Option Value} {base : Heap}
variable {fII fIW a_is_row a_is_index a_is_name a_is_text_in a_are_counts a_word_of a_are_nexts a_is_line a_line_of a_are_operations a_lines_read a_in_order f_mach CB CM : Addr}
theorem sc_body : FnScope ["self", "operations", "rows", "start", "lines"] ["self", "operations", "rows", "start"] (defScope s_body) := ⟨rfl, rfl, rfl, by decide +kernel, rfl, by decide +kernel, by decide +kernel⟩
theorem ok_body {f : Addr} {fd fd_are_operations fd_lines_read fd_is_index fd_in_order fd_mach : FuncData} (F : Fun K "__init__" "Body.__init__" s_body f fd) (T : TxtF K mg fII fIW) (TG : TxtG K mg a_is_row a_is_index a_is_name a_is_text_in a_are_counts a_word_of a_are_nexts a_is_line a_line_of a_are_operations) (TB : BodyC K CB)
    (GO : FnOk P w K mg base CX0 4 a_are_operations fd_are_operations ["thing"] spOps) (b_are_operations : Binds K fd_are_operations ["thing"] [])
    (GLR : FnOk P w K mg base CX0 6 a_lines_read fd_lines_read ["rows", "counts"] spRead) (b_lines_read : Binds K fd_lines_read ["rows", "counts"] []) (g_lines_read : mg "lines_read" = some (.ref a_lines_read)) (k_lines_read : PySem.W.keepIn K (.ref a_lines_read) = true)
    (GIx : FnOk P w K mg base CX0 3 a_is_index fd_is_index ["thing", "many"] (spIndex K)) (b_is_index : Binds K fd_is_index ["thing", "many"] [])
    (GIO : FnOk P w K mg base CX0 1 a_in_order fd_in_order ["table"] spOrder) (b_in_order : Binds K fd_in_order ["table"] []) (g_in_order : mg "in_order" = some (.ref a_in_order)) (k_in_order : PySem.W.keepIn K (.ref a_in_order) = true)
    (MM : Mk K CM f_mach) (GM : FnOk P w K mg base CX0 3 f_mach fd_mach ["self", "counts", "lines", "begin"] (spMach CM)) (b_Machine : Binds K fd_mach ["self", "counts", "lines", "begin"] []) (g_Machine : mg "Machine" = some (.ref CM)) : FnOk P w K mg base CX0 7 f fd ["self", "operations", "rows", "start"] (spBody CB CM) := by
  refine F.ok sc_body (fun vs H Q E h => ?_) (fun cdv A outer s H vs Q E hr h => ?_)
  · obtain ⟨bd, d, r, dx, xs, rs, o, b, rfl, _⟩ := h
    rfl
  · obtain ⟨bd, d, r, dx, xs, rs, o, b, rfl, hbd, hd, oko, hx, rows, lo, hi, ok, hb, few1, few2, k⟩ := h
    refine ⟨_, (pss_cons (ps_if (pt_not (pt_val (pe_call GO (hr.mono (by decide)) (by rfl) TG.g_are_operations TG.k_are_operations b_are_operations .nil pass0 (pa_cons (pv 1) pa_nil)))) (pss_one ps_no) pss_nil)
      (pss_cons (ps_set (i := 4) sc_body.nd rfl (Or.inl rfl) (pe_call GLR (hr.mono (by decide)) (by rfl) g_lines_read k_lines_read b_lines_read .nil pass0 (pa_cons (pv 2) (pa_cons (pv 1) pa_nil))))
      (pss_cons (ps_if (pt_not (pt_val (pe_call GIx (hr.mono (by decide)) (by rfl) TG.g_is_index TG.k_is_index b_is_index .nil pass0 (pa_cons (pv 3) (pa_cons (pe_callB call_len_seq (by rfl) T.b_len PySem.boot_len (pa_cons (pv 4) pa_nil)) pa_nil))))) (pss_one ps_no) pss_nil)
      (pss_one (ps_fld (pv 0) (pe_make MM GM (hr.mono (by decide)) (by rfl) g_Machine b_Machine .nil pass0 (pa_cons (pe_call GIO (hr.mono (by decide)) (by rfl) g_in_order k_in_order b_in_order .nil pass0 (pa_cons (pv 1) pa_nil)) (pa_cons (pv 4) (pa_cons (pv 3) pa_nil)))) rfl))))), ?_⟩
    refine ⟨_, rfl, d, o, rfl, hd, oko, fun H1 s1 => ⟨_, rfl, ?_⟩⟩
    refine iteF ?_
    refine ⟨_, rfl, _, rfl, r, d, xs, rs, o, rfl, s1.sqa hx, rows.same s1, .inl (s1 _ _ hd), lo, hi, ok, fun l ys H2 n2 s2 e2 rr => ?_⟩
    refine ⟨_, rfl, _, rfl, l, _, rfl, .inl (SqL.of e2), .int b, "int", _, rfl, btInt _, _, rfl, ?_⟩
    rw [inW_int (show (0 : Int) ≤ b by omega) (by rw [rr.1]; omega)]
    refine iteF ?_
    refine ⟨_, rfl, d, o, rfl, .inl (s2 _ _ (s1 _ _ hd)), oko.nd, by have := oko.few; omega, fun o' ord t H3 n3 s3 e3 => ?_⟩
    refine ⟨_, rfl, _, rfl, fun m dm nm ndm ne => ?_⟩
    have sm : Same H3 (upd (upd H3 dm (.own m)) m (.ins CM dm [])) := same_updN (same_updN (Same.refl _) ndm) nm
    refine ⟨m, t, l, dm, ys, rs, b, rfl, upd_same, sm _ _ (s3 _ _ e2), rr.same (s3.trans sm), ok.fit, hb, by omega, few1, few2, fun fs H5 sa aa ea as es nsa naa nea x5 m5 mf => ⟨rfl, ?_⟩⟩
    have hbd3 : H3 bd = some (.ins CB dx []) := s3 _ _ (s2 _ _ (s1 _ _ hbd))
    have nbm : bd ≠ m := ne_of_none hbd3 nm
    have hbd5 : H5 bd = some (.ins CB dx []) := x5 bd _ nbm (sm _ _ hbd3)
    refine ⟨_, rfl, bd, CB, dx, _, rfl, hbd5, TB.cl, TB.n_machine, by decide, ?_⟩
    have x6 : SameX bd H5 (upd H5 bd (.ins CB dx (putF "machine" (.ref m) []))) := SameX.upd fun _ _ _ e => e
    have up : ∀ {b2 : Addr} {u : HO}, b2 ≠ bd → H b2 = some u → upd H5 bd (.ins CB dx (putF "machine" (.ref m) [])) b2 = some u := fun {b2 u} nb e => by
      have e3' : H3 b2 = some u := s3 _ _ (s2 _ _ (s1 _ _ e))
      exact x6 b2 u nb (x5 b2 u (ne_of_none e3' nm) (sm _ _ e3'))
    have up3 : ∀ {b2 : Addr} {u : HO}, H3 b2 = some u → b2 ≠ bd → upd H5 bd (.ins CB dx (putF "machine" (.ref m) [])) b2 = some u := fun {b2 u} e nb => x6 b2 u nb (x5 b2 u (ne_of_none e nm) (sm _ _ e))
    have rows6 : Rows (upd H5 bd (.ins CB dx (putF "machine" (.ref m) []))) ys rs := SameX.rows x6 hbd5 (SameX.rows x5 upd_same (rr.same (s3.trans sm)))
    have s12 : Same H H2 := s1.trans s2
    have s13 : Same H H3 := s12.trans s3
    refine k _ (fun b2 u nb e => up nb e) ⟨m, t, l, sa, aa, ea, o', ys, as, es, ⟨⟨dx, _, upd_same, by rw [lookup_putF, if_pos rfl]⟩, ⟨dm, fs, x6 m _ (Ne.symm nbm) m5, mf.x x6 hbd5⟩, up3 e3 (fun z => by rw [z, hbd3] at e3; cases e3), ord, up3 (s3 _ _ e2) (fun z => by rw [z] at e2; rw [s2 _ _ (s1 _ _ hbd)] at e2; cases e2), rows6, hb, dx, upd_same⟩, none_of s13 nm, none_of s12 n3, none_of s1 n2, none_of s13 (none_of sm nsa), none_of s13 (none_of sm naa), none_of s13 (none_of sm nea)⟩
end
end Mine

set_option maxRecDepth 100000
set_option maxHeartbeats 4000000
namespace Mine
open PySem L2
abbrev s_b_operations : Stmt := inClass (top 33) 1
abbrev s_b_rows : Stmt := inClass (top 33) 2
abbrev s_b_asked : Stmt := inClass (top 33) 4
abbrev s_b_words : Stmt := inClass (top 33) 5
abbrev s_b_start : Stmt := inClass (top 33) 3
abbrev s_b_hangs : Stmt := inClass (top 33) 6
abbrev s_b_len : Stmt := inClass (top 33) 8
abbrev s_b_getitem : Stmt := inClass (top 33) 9
def spB (CB CM : Addr) (c : Ops → List RowD → Nat → Hp → VK → Prop) : Sp := fun vs H Q _ => ∃ (bd : Addr) (o : Ops) (rs : List RowD) (b : Nat), vs = [.ref bd] ∧ BodyAt CB CM H bd o rs b ∧ c o rs b H Q
abbrev spBOps (CB CM : Addr) : Sp := spB CB CM fun o _ _ H Q => ∀ o', Ordered o o' → New H (.dK (opsK o')) Q
abbrev spBRows (CB CM : Addr) : Sp := spB CB CM fun _ rs _ H Q => ∀ xs, Rows H xs rs → New H (.lst xs) Q
abbrev spBAsked (CB CM : Addr) : Sp := spB CB CM fun _ rs b H Q => ∀ as, IsFirsts "ask" (restD rs b) as → New H (.lst (as.map V.str)) Q
abbrev spBWords (CB CM : Addr) : Sp := spB CB CM fun _ rs b H Q => ∀ as, IsFirsts "end" (restD rs b) as → New H (.lst (as.map V.str)) Q
abbrev spBStart (CB CM : Addr) : Sp := spB CB CM fun _ _ b H Q => Q (.int b) H
abbrev spBHangs (CB CM : Addr) : Sp := spB CB CM fun _ rs b H Q => Q (.bl (endlessD rs b)) H
abbrev spBLen (CB CM : Addr) : Sp := spB CB CM fun _ rs _ H Q => Q (.int rs.length) H
section
variable {P : Program} {w : World} {K : PySem.W.Frag} {mg : Str → Option Value} {base : Heap}
variable {fII fIW CB CM : Addr}
theorem sc_b_operations : FnScope ["self"] ["self"] (defScope s_b_operations) := ⟨rfl, rfl, rfl, by decide +kernel, rfl, by decide +kernel, by decide +kernel⟩
theorem ok_b_operations {f : Addr} {fd : FuncData} (F : Fun K "operations" "Body.operations" s_b_operations f fd) (T : TxtF K mg fII fIW) (TB : BodyC K CB) (TM : MachC K CM) : FnOk P w K mg base CX0 1 f fd ["self"] (spBOps CB CM) := by
  refine F.ok sc_b_operations (fun vs H Q E h => ?_) (fun cdv A outer s H vs Q E hr h => ?_)
  · obtain ⟨bd, o, rs, b, rfl, _⟩ := h
    rfl
  · obtain ⟨bd, o, rs, b, rfl, ⟨m, t, l, sa, aa, ea, o', xs, as, es, h⟩, k⟩ := h
    obtain ⟨dx, fb, h1, h2⟩ := h.hb
    obtain ⟨dm, fm, h3, mf⟩ := h.hm
    refine ⟨_, (pss_one (ps_ret (pe_callTy call_dictD (by rfl) T.b_dict (by decide +kernel) (pa_cons (pe_fld (pe_fld (pv 0) rfl) rfl) pa_nil)))), ?_⟩
    exact ⟨_, rfl, bd, CB, dx, fb, _, rfl, h1, TB.cl, TB.n_machine, h2, m, CM, dm, fm, _, rfl, h3, TM.cl, TM.n_counts, mf.counts, t, opsK o', rfl, .inl h.ht, fun p n => (k o' h.ord).at n⟩
theorem sc_b_rows : FnScope ["self"] ["self"] (defScope s_b_rows) := ⟨rfl, rfl, rfl, by decide +kernel, rfl, by decide +kernel, by decide +kernel⟩
theorem ok_b_rows {f : Addr} {fd : FuncData} (F : Fun K "rows" "Body.rows" s_b_rows f fd) (T : TxtF K mg fII fIW) (TB : BodyC K CB) (TM : MachC K CM) : FnOk P w K mg base CX0 1 f fd ["self"] (spBRows CB CM) := by
  refine F.ok sc_b_rows (fun vs H Q E h => ?_) (fun cdv A outer s H vs Q E hr h => ?_)
  · obtain ⟨bd, o, rs, b, rfl, _⟩ := h
    rfl
  · obtain ⟨bd, o, rs, b, rfl, ⟨m, t, l, sa, aa, ea, o', xs, as, es, h⟩, k⟩ := h
    obtain ⟨dx, fb, h1, h2⟩ := h.hb
    obtain ⟨dm, fm, h3, mf⟩ := h.hm
    refine ⟨_, (pss_one (ps_ret (pe_callTy call_listG (by rfl) T.b_list (by decide +kernel) (pa_cons (pe_fld (pe_fld (pv 0) rfl) rfl) pa_nil)))), ?_⟩
    exact ⟨_, rfl, bd, CB, dx, fb, _, rfl, h1, TB.cl, TB.n_machine, h2, m, CM, dm, fm, _, rfl, h3, TM.cl, TM.n_lines, mf.lines, l, xs, rfl, .inl h.hl, k xs h.rows⟩
theorem sc_b_asked : FnScope ["self"] ["self"] (defScope s_b_asked) := ⟨rfl, rfl, rfl, by decide +kernel, rfl, by decide +kernel, by decide +kernel⟩
theorem ok_b_asked {f : Addr} {fd : FuncData} (F : Fun K "asked" "Body.asked" s_b_asked f fd) (T : TxtF K mg fII fIW) (TB : BodyC K CB) (TM : MachC K CM) : FnOk P w K mg base CX0 1 f fd ["self"] (spBAsked CB CM) := by
  refine F.ok sc_b_asked (fun vs H Q E h => ?_) (fun cdv A outer s H vs Q E hr h => ?_)
  · obtain ⟨bd, o, rs, b, rfl, _⟩ := h
    rfl
  · obtain ⟨bd, o, rs, b, rfl, ⟨m, t, l, sa, aa, ea, o', xs, as, es, h⟩, k⟩ := h
    obtain ⟨dx, fb, h1, h2⟩ := h.hb
    obtain ⟨dm, fm, h3, mf⟩ := h.hm
    refine ⟨_, (pss_one (ps_ret (pe_callTy call_listG (by rfl) T.b_list (by decide +kernel) (pa_cons (pe_fld (pe_fld (pv 0) rfl) rfl) pa_nil)))), ?_⟩
    exact ⟨_, rfl, bd, CB, dx, fb, _, rfl, h1, TB.cl, TB.n_machine, h2, m, CM, dm, fm, _, rfl, h3, TM.cl, TM.n_asks, mf.asks, aa, _, rfl, .inl mf.ha, k as mf.fa⟩
theorem sc_b_words : FnScope ["self"] ["self"] (defScope s_b_words) := ⟨rfl, rfl, rfl, by decide +kernel, rfl, by decide +kernel, by decide +kernel⟩
theorem ok_b_words {f : Addr} {fd : FuncData} (F : Fun K "words" "Body.words" s_b_words f fd) (T : TxtF K mg fII fIW) (TB : BodyC K CB) (TM : MachC K CM) : FnOk P w K mg base CX0 1 f fd ["self"] (spBWords CB CM) := by
  refine F.ok sc_b_words (fun vs H Q E h => ?_) (fun cdv A outer s H vs Q E hr h => ?_)
  · obtain ⟨bd, o, rs, b, rfl, _⟩ := h
    rfl
  · obtain ⟨bd, o, rs, b, rfl, ⟨m, t, l, sa, aa, ea, o', xs, as, es, h⟩, k⟩ := h
    obtain ⟨dx, fb, h1, h2⟩ := h.hb
    obtain ⟨dm, fm, h3, mf⟩ := h.hm
    refine ⟨_, (pss_one (ps_ret (pe_callTy call_listG (by rfl) T.b_list (by decide +kernel) (pa_cons (pe_fld (pe_fld (pv 0) rfl) rfl) pa_nil)))), ?_⟩
    exact ⟨_, rfl, bd, CB, dx, fb, _, rfl, h1, TB.cl, TB.n_machine, h2, m, CM, dm, fm, _, rfl, h3, TM.cl, TM.n_endings, mf.endings, ea, _, rfl, .inl mf.he, k es mf.fe⟩
theorem sc_b_start : FnScope ["self"] ["self"] (defScope s_b_start) := ⟨rfl, rfl, rfl, by decide +kernel, rfl, by decide +kernel, by decide +kernel⟩
theorem ok_b_start {f : Addr} {fd : FuncData} (F : Fun K "start" "Body.start" s_b_start f fd) (T : TxtF K mg fII fIW) (TB : BodyC K CB) (TM : MachC K CM) : FnOk P w K mg base CX0 1 f fd ["self"] (spBStart CB CM) := by
  refine F.ok sc_b_start (fun vs H Q E h => ?_) (fun cdv A outer s H vs Q E hr h => ?_)
  · obtain ⟨bd, o, rs, b, rfl, _⟩ := h
    rfl
  · obtain ⟨bd, o, rs, b, rfl, ⟨m, t, l, sa, aa, ea, o', xs, as, es, h⟩, k⟩ := h
    obtain ⟨dx, fb, h1, h2⟩ := h.hb
    obtain ⟨dm, fm, h3, mf⟩ := h.hm
    refine ⟨_, (pss_one (ps_ret (pe_fld (pe_fld (pv 0) rfl) rfl))), ?_⟩
    exact ⟨_, rfl, bd, CB, dx, fb, _, rfl, h1, TB.cl, TB.n_machine, h2, m, CM, dm, fm, _, rfl, h3, TM.cl, TM.n_begin, mf.begin, k⟩
theorem sc_b_hangs : FnScope ["self"] ["self"] (defScope s_b_hangs) := ⟨rfl, rfl, rfl, by decide +kernel, rfl, by decide +kernel, by decide +kernel⟩
theorem ok_b_hangs {f : Addr} {fd : FuncData} (F : Fun K "hangs" "Body.hangs" s_b_hangs f fd) (T : TxtF K mg fII fIW) (TB : BodyC K CB) (TM : MachC K CM) : FnOk P w K mg base CX0 1 f fd ["self"] (spBHangs CB CM) := by
  refine F.ok sc_b_hangs (fun vs H Q E h => ?_) (fun cdv A outer s H vs Q E hr h => ?_)
  · obtain ⟨bd, o, rs, b, rfl, _⟩ := h
    rfl
  · obtain ⟨bd, o, rs, b, rfl, ⟨m, t, l, sa, aa, ea, o', xs, as, es, h⟩, k⟩ := h
    obtain ⟨dx, fb, h1, h2⟩ := h.hb
    obtain ⟨dm, fm, h3, mf⟩ := h.hm
    refine ⟨_, (pss_one (ps_ret (pe_fld (pe_fld (pv 0) rfl) rfl))), ?_⟩
    exact ⟨_, rfl, bd, CB, dx, fb, _, rfl, h1, TB.cl, TB.n_machine, h2, m, CM, dm, fm, _, rfl, h3, TM.cl, TM.n_endless, mf.endless, k⟩
theorem sc_b_len : FnScope ["self"] ["self"] (defScope s_b_len) := ⟨rfl, rfl, rfl, by decide +kernel, rfl, by decide +kernel, by decide +kernel⟩
theorem ok_b_len {f : Addr} {fd : FuncData} (F : Fun K "__len__" "Body.__len__" s_b_len f fd) (T : TxtF K mg fII fIW) (TB : BodyC K CB) (TM : MachC K CM) : FnOk P w K mg base CX0 1 f fd ["self"] (spBLen CB CM) := by
  refine F.ok sc_b_len (fun vs H Q E h => ?_) (fun cdv A outer s H vs Q E hr h => ?_)
  · obtain ⟨bd, o, rs, b, rfl, _⟩ := h
    rfl
  · obtain ⟨bd, o, rs, b, rfl, ⟨m, t, l, sa, aa, ea, o', xs, as, es, h⟩, k⟩ := h
    obtain ⟨dx, fb, h1, h2⟩ := h.hb
    obtain ⟨dm, fm, h3, mf⟩ := h.hm
    refine ⟨_, (pss_one (ps_ret (pe_callB call_len_seq (by rfl) T.b_len PySem.boot_len (pa_cons (pe_fld (pe_fld (pv 0) rfl) rfl) pa_nil)))), ?_⟩
    exact ⟨_, rfl, bd, CB, dx, fb, _, rfl, h1, TB.cl, TB.n_machine, h2, m, CM, dm, fm, _, rfl, h3, TM.cl, TM.n_lines, mf.lines, l, xs, rfl, .inl (SqL.of h.hl), by rw [h.rows.1]; exact k⟩
end
end Mine

set_option maxRecDepth 100000
set_option maxHeartbeats 4000000
namespace Mine
open PySem L2
/-! rows as data -/
def rowP : RowD → PyData
  | .ask op ns => .tuple [.str "ask", .str op, .tuple (ns.map PyData.int)]
  | .go n => .tuple [.str "go", .int n]
  | .fin w => .tuple [.str "end", .str w]
def rowStr : RowD → Str
  | .ask op _ => op
  | .go _ => "go"
  | .fin w => w
theorem ints_all {K : PySem.W.Frag} {H : Hp} : ∀ ns : List Int, DpAll K H (ns.map V.int) (ns.map PyData.int)
  | [] => .nil
  | n :: ns => .cons (.int n) (ints_all ns)
theorem TRow.dp {K : PySem.W.Frag} {H : Hp} {v : V} {d : RowD} (h : TRow H v d) : Dp K H v (rowP d) := by
  cases d with
  | ask op ns =>
    obtain ⟨a, t, rfl, h1, h2⟩ := h
    exact .tup (.inl (.inl h1)) (.cons (.str _) (.cons (.str _) (.cons (.tup (.inl (.inl h2)) (ints_all ns)) .nil)))
  | go n =>
    obtain ⟨a, rfl, h1⟩ := h
    exact .tup (.inl (.inl h1)) (.cons (.str _) (.cons (.int _) .nil))
  | fin w =>
    obtain ⟨a, rfl, h1⟩ := h
    exact .tup (.inl (.inl h1)) (.cons (.str _) (.cons (.str _) .nil))
theorem dpAll_of {K : PySem.W.Frag} {H : Hp} : ∀ {xs : List V} {rs : List RowD}, xs.length = rs.length → (∀ (i : Nat) (d : RowD), rs[i]? = some d → ∃ x, xs[i]? = some x ∧ TRow H x d) → DpAll K H xs (rs.map rowP)
  | [], [], _, _ => .nil
  | x :: xs, d :: rs, l, h => by
    obtain ⟨y, h1, h2⟩ := h 0 d rfl
    have e : x = y := Option.some.inj h1
    subst e
    exact .cons h2.dp (dpAll_of (by simpa using l) fun i d' e => by simpa using h (i + 1) d' (by simpa using e))
  | [], _ :: _, l, _ => by simp at l
  | _ :: _, [], l, _ => by simp at l
theorem Rows.dp {K : PySem.W.Frag} {H : Hp} {xs : List V} {rs : List RowD} {l : Addr} (h : Rows H xs rs) (e : H l = some (.lst xs)) : Dp K H (.ref l) (.list (rs.map rowP)) := .lst (SqL.of e) (dpAll_of h.1 h.2)
theorem ints_lay : ∀ ns : List Int, PyData.canLayAll0 (ns.map PyData.int) = true
  | [] => by simp [PyData.canLayAll0]
  | n :: ns => by simp [PyData.canLayAll0, PyData.canLay0, ints_lay ns]
theorem ints_dep : ∀ ns : List Int, PyData.depthAll (ns.map PyData.int) = 0
  | [] => by simp [PyData.depthAll]
  | n :: ns => by simp [PyData.depthAll, PyData.depth, ints_dep ns]
theorem row_lay {d : RowD} (h : PyData.strOk (rowStr d) = true) : (rowP d).canLay0 = true := by
  have a1 : PyData.strOk ("ask" : Str) = true := strOk_of "ask"
  have a2 : PyData.strOk ("go" : Str) = true := strOk_of "go"
  have a3 : PyData.strOk ("end" : Str) = true := strOk_of "end"
  cases d with
  | ask op ns =>
    have h' : PyData.strOk op = true := h
    simp [rowP, PyData.canLay0, PyData.canLayAll0, a1, h', ints_lay ns]
  | go n => simp [rowP, PyData.canLay0, PyData.canLayAll0, a2]
  | fin w =>
    have h' : PyData.strOk w = true := h
    simp [rowP, PyData.canLay0, PyData.canLayAll0, a3, h']
theorem row_dep (d : RowD) : (rowP d).depth ≤ 2 := by
  cases d with
  | ask op ns =>
    have := ints_dep ns
    simp [rowP, PyData.depth, PyData.depthAll, this]
  | go n => simp [rowP, PyData.depth, PyData.depthAll]
  | fin w => simp [rowP, PyData.depth, PyData.depthAll]
def StrsOk (rs : List RowD) : Prop := ∀ d ∈ rs, PyData.strOk (rowStr d) = true
theorem rows_lay : ∀ {rs : List RowD}, StrsOk rs → PyData.canLayAll0 (rs.map rowP) = true
  | [], _ => by simp [PyData.canLayAll0]
  | d :: rs, h => by
    have h1 := row_lay (h d List.mem_cons_self)
    have h2 := rows_lay (rs := rs) fun x hx => h x (List.mem_cons_of_mem _ hx)
    simp [PyData.canLayAll0, h1, h2]
theorem rows_dep : ∀ rs : List RowD, PyData.depthAll (rs.map rowP) ≤ 2
  | [] => by simp [PyData.depthAll]
  | d :: rs => by
    have h1 := row_dep d
    have h2 := rows_dep rs
    simp only [List.map_cons, PyData.depthAll]
    omega
theorem rows_shaped {rs : List RowD} (h : StrsOk rs) : SeqAt.shaped (.list (rs.map rowP)) = true := by
  have h1 := rows_dep rs
  have h2 : PyData.depth (.list (rs.map rowP)) ≤ 64 := by
    simp only [PyData.depth]
    omega
  show (PyData.canLay0 (.list (rs.map rowP)) && decide (PyData.depth (.list (rs.map rowP)) ≤ 64)) = true
  rw [Bool.and_eq_true]
  exact ⟨by simp only [PyData.canLay0]; exact rows_lay h, decide_eq_true h2⟩
theorem ints_eqv : ∀ ns ms : List Int, (PyData.eqvAll (ns.map PyData.int) (ms.map PyData.int) = true) ↔ ns = ms
  | [], [] => by simp [PyData.eqvAll]
  | [], _ :: _ => by simp [PyData.eqvAll]
  | _ :: _, [] => by simp [PyData.eqvAll]
  | n :: ns, m :: ms => by
    have ih := ints_eqv ns ms
    simp [PyData.eqvAll, PyData.eqv, ih]
theorem row_eqv (d e : RowD) : (PyData.eqv (rowP d) (rowP e) = true) ↔ d = e := by
  have n1 : (("ask" : Str) == ("go" : Str)) = false := by decide +kernel
  have n2 : (("ask" : Str) == ("end" : Str)) = false := by decide +kernel
  have n3 : (("go" : Str) == ("ask" : Str)) = false := by decide +kernel
  have n4 : (("go" : Str) == ("end" : Str)) = false := by decide +kernel
  have n5 : (("end" : Str) == ("ask" : Str)) = false := by decide +kernel
  have n6 : (("end" : Str) == ("go" : Str)) = false := by decide +kernel
  cases d with
  | ask op ns => cases e with
    | ask op2 ms =>
      have := ints_eqv ns ms
      simp [rowP, PyData.eqv, PyData.eqvAll, this]
    | go n => simp [rowP, PyData.eqv, PyData.eqvAll, n1]
    | fin w => simp [rowP, PyData.eqv, PyData.eqvAll, n2]
  | go n => cases e with
    | ask op2 ms => simp [rowP, PyData.eqv, PyData.eqvAll, n3]
    | go m => simp [rowP, PyData.eqv, PyData.eqvAll]
    | fin w => simp [rowP, PyData.eqv, PyData.eqvAll, n4]
  | fin w => cases e with
    | ask op2 ms => simp [rowP, PyData.eqv, PyData.eqvAll, n5]
    | go m => simp [rowP, PyData.eqv, PyData.eqvAll, n6]
    | fin w2 => simp [rowP, PyData.eqv, PyData.eqvAll]
theorem rows_eqv : ∀ rs qs : List RowD, (PyData.eqv (.list (rs.map rowP)) (.list (qs.map rowP)) = true) ↔ rs = qs
  | [], [] => by simp [PyData.eqv, PyData.eqvAll]
  | [], _ :: _ => by simp [PyData.eqv, PyData.eqvAll]
  | _ :: _, [] => by simp [PyData.eqv, PyData.eqvAll]
  | d :: rs, e :: qs => by
    have ih := rows_eqv rs qs
    have h := row_eqv d e
    simp only [PyData.eqv] at ih
    simp only [List.map_cons, PyData.eqv, PyData.eqvAll, Bool.and_eq_true, List.cons.injEq]
    rw [h, ih]
end Mine

set_option maxRecDepth 100000
set_option maxHeartbeats 4000000
namespace Mine
open PySem L2
abbrev s_are_equal : Stmt := top 25
abbrev s_b_eq : Stmt := inClass (top 33) 12
def MachP (CM : Addr) (H : Hp) (m : Addr) (o : Ops) (rs : List RowD) (b : Nat) : Prop := ∃ dm fm t l sa aa ea xs as es, H m = some (.ins CM dm fm) ∧ MachFs H fm t l b rs sa aa ea as es ∧ H t = some (.dK (opsK o)) ∧ H l = some (.lst xs) ∧ Rows H xs rs
def eqO (o p : Ops) : Bool := (opsK o).length == (opsK p).length && hitB (opsK p) (opsK o)
def eqM (o1 : Ops) (r1 : List RowD) (b1 : Nat) (o2 : Ops) (r2 : List RowD) (b2 : Nat) : Bool := if eqO o1 o2 = true then (if PyData.eqv (.list (r1.map rowP)) (.list (r2.map rowP)) = true then decide (V.int (b1 : Int) = V.int (b2 : Int)) else false) else false
theorem opsK_ints (o : Ops) : IntsD (opsK o) := fun p hp => by
  unfold opsK at hp
  obtain ⟨q, _, rfl⟩ := List.mem_map.mp hp
  exact ⟨q.2, rfl⟩
def spAreEq (CM : Addr) : Sp := fun vs H Q _ => ∃ (m1 m2 : Addr) (o1 o2 : Ops) (r1 r2 : List RowD) (b1 b2 : Nat), vs = [.ref m1, .ref m2] ∧ MachP CM H m1 o1 r1 b1 ∧ MachP CM H m2 o2 r2 b2 ∧ StrsOk r1 ∧ StrsOk r2 ∧ Q (.bl (eqM o1 r1 b1 o2 r2 b2)) H
section
variable {P : Program} {w : World} {K : PySem.W.Frag} {mg : Str → Option Value} {base : Heap}
variable {fII fIW CB CM a_are_equal : Addr}
theorem sc_are_equal : FnScope ["one", "other"] ["one", "other"] (defScope s_are_equal) := ⟨rfl, rfl, rfl, by decide +kernel, rfl, by decide +kernel, by decide +kernel⟩
theorem ok_are_equal {f : Addr} {fd : FuncData} (F : Fun K "are_equal" "are_equal" s_are_equal f fd) (TM : MachC K CM) : FnOk P w K mg base CX0 1 f fd ["one", "other"] (spAreEq CM) := by
  refine F.ok sc_are_equal (fun vs H Q E h => ?_) (fun cdv A outer s H vs Q E hr h => ?_)
  · obtain ⟨m1, m2, o1, o2, r1, r2, b1, b2, rfl, _⟩ := h
    rfl
  · obtain ⟨m1, m2, o1, o2, r1, r2, b1, b2, rfl, ⟨dm, fm, t, l, sa, aa, ea, xs, as, es, h1, h2, h3, h4, h5⟩, ⟨dm', fm', t', l', sa', aa', ea', xs', as', es', h1', h2', h3', h4', h5'⟩, k1, k2, k⟩ := h
    refine ⟨_, (pss_one (ps_ret (pe_and (pe_cmpR (op_eq_dictI hr.units0) (pe_fld (pv 0) rfl) (pe_fld (pv 1) rfl) (nomark _)) (pe_and (pe_cmpR (op_eqD hr.units) (pe_fld (pv 0) rfl) (pe_fld (pv 1) rfl) (nomark _)) (pe_one (pe_cmpR op_eq (pe_fld (pv 0) rfl) (pe_fld (pv 1) rfl) (nomark _))))))), ?_⟩
    refine ⟨_, rfl, m1, CM, dm, fm, _, rfl, h1, TM.cl, TM.n_counts, h2.counts, _, rfl, m2, CM, dm', fm', _, rfl, h1', TM.cl, TM.n_counts, h2'.counts, t, t', _, _, rfl, rfl, h3, h3', opsK_ints _, opsK_ints _, _, rfl, ?_⟩
    show if eqO o1 o2 = true then _ else _
    refine ite2 (fun e1 => ?_) (fun e1 => ?_)
    · refine ⟨_, rfl, m1, CM, dm, fm, _, rfl, h1, TM.cl, TM.n_lines, h2.lines, _, rfl, m2, CM, dm', fm', _, rfl, h1', TM.cl, TM.n_lines, h2'.lines, _, _, h5.dp h4, h5'.dp h4', rows_shaped k1, rows_shaped k2, _, rfl, ?_⟩
      refine ite2 (fun e2 => ?_) (fun e2 => ?_)
      · refine ⟨_, rfl, m1, CM, dm, fm, _, rfl, h1, TM.cl, TM.n_begin, h2.begin, _, rfl, m2, CM, dm', fm', _, rfl, h1', TM.cl, TM.n_begin, h2'.begin, rfl, ?_⟩
        unfold eqM at k
        rw [if_pos e1, if_pos e2] at k
        exact k
      · unfold eqM at k
        rw [if_pos e1, if_neg e2] at k
        exact k
    · unfold eqM at k
      rw [if_neg e1] at k
      exact k
/-- what is told of the class, for isinstance -/
structure BodyI (K : PySem.W.Frag) (C : Addr) : Prop where
  ha : PySem.W.findIn K (.ref C) "__class__" = some (some (.builtin "object.__class__"))
  hn : PySem.W.specialIn K (.builtin "object.__class__") "__get__" = some (some (.builtin "getset_descriptor.__get__"))
  ht : PySem.W.takesIn K (.builtin "object.__class__") = some true
  hm : PySem.W.mroIn K C (.type "object") = some true
  kit : PySem.W.kitOne K (.ref C) (.ref C) = some true
/-- a body compared: with a body, or with a thing that is none -/
def spBEq (K : PySem.W.Frag) (CB CM : Addr) : Sp := fun vs H Q _ => ∃ (bd : Addr) (o : Ops) (rs : List RowD) (b : Nat) (y : V) (m t l sa aa ea : Addr) (o' : Ops) (xs : List V) (as es : List Str), vs = [.ref bd, y] ∧ BodyP CB CM H bd o rs b m t l sa aa ea o' xs as es ∧
  ((∃ (bd2 : Addr) (o2 : Ops) (rs2 : List RowD) (b2 : Nat) (m2 t2 l2 sa2 aa2 ea2 : Addr) (o2' : Ops) (xs2 : List V) (as2 es2 : List Str), y = .ref bd2 ∧ BodyP CB CM H bd2 o2 rs2 b2 m2 t2 l2 sa2 aa2 ea2 o2' xs2 as2 es2 ∧ StrsOk rs ∧ StrsOk rs2 ∧ Q (.bl (eqM o' rs b o2' rs2 b2)) H) ∨
   ∃ ty, TyX K H y ty ∧ PySem.W.kitOne K ty (.ref CB) = some false ∧ Q (.bl false) H)
theorem sc_b_eq : FnScope ["self", "other"] ["self", "other"] (defScope s_b_eq) := ⟨rfl, rfl, rfl, by decide +kernel, rfl, by decide +kernel, by decide +kernel⟩
theorem ok_b_eq {f : Addr} {fd fd_ae : FuncData} (F : Fun K "__eq__" "Body.__eq__" s_b_eq f fd) (T : TxtF K mg fII fIW) (TB : BodyC K CB) (TI : BodyI K CB) (TM : MachC K CM) (g_Body : mg "Body" = some (.ref CB))
    (GE : FnOk P w K mg base CX0 1 a_are_equal fd_ae ["one", "other"] (spAreEq CM)) (b_are_equal : Binds K fd_ae ["one", "other"] []) (g_are_equal : mg "are_equal" = some (.ref a_are_equal)) (k_are_equal : PySem.W.keepIn K (.ref a_are_equal) = true) : FnOk P w K mg base CX0 2 f fd ["self", "other"] (spBEq K CB CM) := by
  refine F.ok sc_b_eq (fun vs H Q E h => ?_) (fun cdv A outer s H vs Q E hr h => ?_)
  · obtain ⟨bd, o, rs, b, y, m, t, l, sa, aa, ea, o', xs, as, es, rfl, _⟩ := h
    rfl
  · obtain ⟨bd, o, rs, b, y, m, t, l, sa, aa, ea, o', xs, as, es, rfl, h, k⟩ := h
    refine ⟨_, (pss_one (ps_ret (pe_and (pe_callB call_isi (by rfl) T.b_isinstance (by decide +kernel) (pa_cons (pv 1) (pa_cons (pe_glob (v := .ref CB) rfl g_Body rfl) pa_nil))) (pe_one (pe_call GE (hr.mono (by decide)) (by rfl) g_are_equal k_are_equal b_are_equal .nil pass0 (pa_cons (pe_fld (pv 0) rfl) (pa_cons (pe_fld (pv 1) rfl) pa_nil))))))), ?_⟩
    obtain ⟨dx, fb, h1, h2⟩ := h.hb
    obtain ⟨dm, fm, h3, mf⟩ := h.hm
    rcases k with ⟨bd2, o2, rs2, b2, m2, t2, l2, sa2, aa2, ea2, o2', xs2, as2, es2, rfl, g, k1, k2, k⟩ | ⟨ty, tx, kt, k⟩
    · obtain ⟨dx2, fb2, g1, g2⟩ := g.hb
      obtain ⟨dm2, fm2, g3, mf2⟩ := g.hm
      refine ⟨_, rfl, _, _, _, _, _, rfl, .own CB, .base (.ins g1 TB.cl TI.ha TI.hn TI.ht TI.hm), TI.kit, _, rfl, ?_⟩
      refine iteT ?_
      exact ⟨_, rfl, bd, CB, dx, fb, _, rfl, h1, TB.cl, TB.n_machine, h2, _, rfl, bd2, CB, dx2, fb2, _, rfl, g1, TB.cl, TB.n_machine, g2, m, m2, o', o2', rs, rs2, b, b2, rfl, ⟨dm, fm, t, l, sa, aa, ea, xs, as, es, h3, mf, h.ht, h.hl, h.rows⟩, ⟨dm2, fm2, t2, l2, sa2, aa2, ea2, xs2, as2, es2, g3, mf2, g.ht, g.hl, g.rows⟩, k1, k2, k⟩
    · refine ⟨_, rfl, _, _, _, _, _, rfl, .own CB, tx, kt, _, rfl, ?_⟩
      exact iteF k
end
end Mine

set_option maxRecDepth 100000
set_option maxHeartbeats 4000000
namespace Mine
open PySem L2
theorem hit_ops (p : Ops) : ∀ o : Ops, (hitB (opsK p) (opsK o) = true) ↔ ∀ q ∈ o, opLook p q.1 = some q.2
  | [] => by simp [opsK, hitB]
  | q :: o => by
    have ih := hit_ops p o
    have e : opsK (q :: o) = (Sum.inr q.1, V.int q.2) :: opsK o := rfl
    rw [e]
    unfold hitB
    have v : valV (opsK p) (Sum.inr q.1 : Key) = (opLook p q.1).map V.int := val_ops p q.1
    cases h : opLook p q.1 with
    | none =>
      rw [h] at v
      rw [show valV (opsK p) ((Sum.inr q.1, V.int q.2) : Key × V).1 = none from v]
      constructor
      · intro z
        cases z
      · intro z
        have := z q List.mem_cons_self
        rw [h] at this
        cases this
    | some n =>
      rw [h] at v
      rw [show valV (opsK p) ((Sum.inr q.1, V.int q.2) : Key × V).1 = some (V.int n) from v]
      show (decide (V.int q.2 = V.int n) && hitB (opsK p) (opsK o)) = true ↔ _
      rw [Bool.and_eq_true, ih, di, decide_eq_true_eq]
      constructor
      · rintro ⟨a, b⟩ x hx
        rcases List.mem_cons.mp hx with e | hx
        · rw [e, h, a]
        · exact b x hx
      · intro z
        have := z q List.mem_cons_self
        rw [h] at this
        exact ⟨(Option.some.inj this).symm, fun x hx => z x (List.mem_cons_of_mem _ hx)⟩
theorem eqO_iff (o p : Ops) : (eqO o p = true) ↔ o.length = p.length ∧ ∀ q ∈ o, opLook p q.1 = some q.2 := by
  unfold eqO
  rw [Bool.and_eq_true, hit_ops, opsK_len, opsK_len, beq_iff_eq]
/-- the same operations, in whatever order -/
theorem eqO_perm {o p : Ops} (nd : (p.map (·.1)).Nodup) (h : o.Perm p) : eqO o p = true :=
  (eqO_iff o p).mpr ⟨h.length_eq, fun q hq => look_mem nd q (h.mem_iff.mp hq)⟩
theorem eqO_len {o p : Ops} (h : o.length ≠ p.length) : eqO o p = false := by
  cases e : eqO o p with
  | false => rfl
  | true => exact absurd ((eqO_iff o p).mp e).1 h
theorem eqM_same {o1 o2 : Ops} (nd : (o2.map (·.1)).Nodup) (h : o1.Perm o2) (rs : List RowD) (b : Nat) : eqM o1 rs b o2 rs b = true := by
  unfold eqM
  rw [if_pos (eqO_perm nd h), if_pos ((rows_eqv rs rs).mpr rfl)]
  exact decide_eq_true rfl
theorem eqM_ops {o1 o2 : Ops} {r1 r2 : List RowD} {b1 b2 : Nat} (h : o1.length ≠ o2.length) : eqM o1 r1 b1 o2 r2 b2 = false := by
  unfold eqM
  rw [if_neg (by rw [eqO_len h]; exact Bool.false_ne_true)]
theorem eqM_rows {o1 o2 : Ops} {r1 r2 : List RowD} {b1 b2 : Nat} (h : r1 ≠ r2) : eqM o1 r1 b1 o2 r2 b2 = false := by
  unfold eqM
  split
  · rw [if_neg fun z => h ((rows_eqv r1 r2).mp z)]
  · rfl
theorem eqM_start {o1 o2 : Ops} {r1 r2 : List RowD} {b1 b2 : Nat} (h : b1 ≠ b2) : eqM o1 r1 b1 o2 r2 b2 = false := by
  unfold eqM
  split
  · split
    · exact decide_eq_false fun z => h (by have := V.int.inj z; omega)
    · rfl
  · rfl
end Mine

set_option maxRecDepth 100000
set_option maxHeartbeats 4000000
namespace Mine
open PySem L2
/-- an error class with a field: its own __init__ at fI -/
structure ErrC (K : PySem.W.Frag) (C fI : Addr) : Prop where
  ox : OexC K C
  iC : PySem.W.findIn K (.ref C) "__init__" = some (some (.ref fI))
  tI : PySem.W.typeIn K (.ref fI) = some (.type "function")
/-- the field is kept, in a dict that was not there -/
def spInitF (C : Addr) (fld : Str) : Sp := fun vs H Q _ => ∃ (a : Addr) (v : V), vs = [.ref a, v] ∧ H a = some (exo a C none) ∧
  ∀ (dx : Addr) (H' : Hp), H dx = none → dx ≠ a → (∀ b o, b ≠ a → H b = some o → H' b = some o) → H' a = some (exo a C (some dx)) → H' dx = some (exd dx [(fld, v)]) → Q .non H'
abbrev s_i_NoRow : Stmt := inClass (top 6) 0
def spGet (K : PySem.W.Frag) (CB CM CN : Addr) : Sp := fun vs H Q E => ∃ (bd : Addr) (o : Ops) (rs : List RowD) (b : Nat) (y : V) (ty : String), vs = [.ref bd, y] ∧ BodyAt CB CM H bd o rs b ∧ Bt K H y ty ∧ rs.length ≤ 100000 ∧
  ((∃ (i : Nat) (d : RowD), y = .int (i : Int) ∧ rs[i]? = some d ∧ ∀ v, TRow H v d → Q v H) ∨
   (inW y 0 ((rs.length : Int) - 1) = false ∧ ∀ (d : Addr) (H' : Hp), H d = none → (∀ b u, H b = some u → H' b = some u) → H' d = some (.xd [("index", y)]) → E (.ref CN) (some d) H'))
section
variable {P : Program} {w : World} {K : PySem.W.Frag} {mg : Str → Option Value} {base : Heap}
variable {fII fIW a_is_row a_is_index a_is_name a_is_text_in a_are_counts a_word_of a_are_nexts a_is_line a_line_of a_are_operations CB CM CN fN : Addr}
theorem sc_i_NoRow : FnScope ["self", "index"] ["self", "index"] (defScope s_i_NoRow) := ⟨rfl, rfl, rfl, by decide +kernel, rfl, by decide +kernel, by decide +kernel⟩
theorem ok_i_NoRow {f C : Addr} {fd : FuncData} (F : Fun K "__init__" "NoRow.__init__" s_i_NoRow f fd) (ox : OexC K C) (nf : PySem.W.findIn K (.ref C) "index" = some none) : FnOk P w K mg base CX0 1 f fd ["self", "index"] (spInitF C "index") := by
  refine F.ok sc_i_NoRow (fun vs H Q E h => ?_) (fun cdv A outer s H vs Q E hr h => ?_)
  · obtain ⟨a, v, rfl, _⟩ := h
    rfl
  · obtain ⟨a, v, rfl, ha, k⟩ := h
    refine ⟨_, pss_one (ps_ost (pv 0) (pv 1)), ?_⟩
    refine ⟨_, rfl, _, rfl, a, C, rfl, ox, nf, .inl ⟨ha, fun dx nd ne => ?_⟩⟩
    refine k dx _ nd ne (fun b o nb hb => ?_) upd_same ?_
    · rw [upd_ne nb, upd_ne (ne_of_none hb nd)]
      exact hb
    · rw [upd_ne ne, upd_same]
theorem sc_b_getitem : FnScope ["self", "index"] ["self", "index"] (defScope s_b_getitem) := ⟨rfl, rfl, rfl, by decide +kernel, rfl, by decide +kernel, by decide +kernel⟩
theorem ok_b_getitem {f : Addr} {fd fd_is_index fdN : FuncData} (F : Fun K "__getitem__" "Body.__getitem__" s_b_getitem f fd) (T : TxtF K mg fII fIW) (TG : TxtG K mg a_is_row a_is_index a_is_name a_is_text_in a_are_counts a_word_of a_are_nexts a_is_line a_line_of a_are_operations) (TB : BodyC K CB) (TM : MachC K CM)
    (GIx : FnOk P w K mg base CX0 3 a_is_index fd_is_index ["thing", "many"] (spIndex K)) (b_is_index : Binds K fd_is_index ["thing", "many"] [])
    (EN : ErrC K CN fN) (GN : FnOk P w K mg base CX0 1 fN fdN ["self", "index"] (spInitF CN "index")) (b_NoRow : Binds K fdN ["self", "index"] []) (g_NoRow : mg "NoRow" = some (.ref CN)) : FnOk P w K mg base (L2.CX P w) 4 f fd ["self", "index"] (spGet K CB CM CN) := by
  refine F.okX sc_b_getitem (fun vs H Q E h => ?_) (fun cdv A outer s H vs Q E hr h => ?_)
  · obtain ⟨bd, o, rs, b, y, ty, rfl, _⟩ := h
    rfl
  · obtain ⟨bd, o, rs, b, y, ty, rfl, ⟨m, t, l, sa, aa, ea, o', xs, as, es, h⟩, bt, big, k⟩ := h
    obtain ⟨dx, fb, h1, h2⟩ := h.hb
    obtain ⟨dm, fm, h3, mf⟩ := h.hm
    refine ⟨_, (pss_cons (ps_if (pt_not (pt_val (pe_call GIx (hr.mono (by decide)) (by rfl) TG.g_is_index TG.k_is_index b_is_index .nil pass0 (pa_cons (pv 1) (pa_cons (pe_callB call_len_seq (by rfl) T.b_len PySem.boot_len (pa_cons (pe_fld (pe_fld (pv 0) rfl) rfl) pa_nil)) pa_nil))))) (pss_one (ps_raise rfl (takes_of rfl rfl rfl rfl) (pmk_oex EN.ox EN.iC EN.tI GN (hr.mono (by decide)) b_NoRow .nil pass0 (by rfl) g_NoRow (pa_cons (pv 1) pa_nil)))) pss_nil)
      (pss_one (ps_ret (pe_ix ix_list (pe_fld (pe_fld (pv 0) rfl) rfl) (pv 1) (fun _ _ => rfl))))), ?_⟩
    refine ⟨_, rfl, _, rfl, bd, CB, dx, fb, _, rfl, h1, TB.cl, TB.n_machine, h2, m, CM, dm, fm, _, rfl, h3, TM.cl, TM.n_lines, mf.lines, l, xs, rfl, .inl (SqL.of h.hl), y, ty, _, rfl, bt, _, rfl, ?_⟩
    rw [h.rows.1]
    rcases k with ⟨i, d, rfl, ei, k⟩ | ⟨e, k⟩
    · have hi := (List.getElem?_eq_some_iff.mp ei).1
      rw [inW_int (show (0 : Int) ≤ i by omega) (by omega)]
      refine iteF ?_
      obtain ⟨x, x1, x2⟩ := h.rows.2 i d ei
      exact ⟨_, rfl, bd, CB, dx, fb, _, rfl, h1, TB.cl, TB.n_machine, h2, m, CM, dm, fm, _, rfl, h3, TM.cl, TM.n_lines, mf.lines, _, rfl, l, xs, _, x, rfl, rfl, SqL.of h.hl, atI_nat x1, k x x2⟩
    · rw [e]
      refine iteT ?_
      refine ⟨_, rfl, by show 1 ≤ 1000; decide, fun a na => ⟨a, y, rfl, upd_same, fun d H2 nd nda s2 e1 e2 => ⟨rfl, d, _, e1, e2, ?_, ?_⟩⟩⟩
      · rw [upd_ne nda] at nd
        exact nd
      · rw [upd_ne nda] at nd
        refine k d _ nd (fun b2 u eb => ?_) upd_same
        have nb : b2 ≠ a := ne_of_none eb na
        rw [upd_ne (ne_of_none eb nd), del_ne nb]
        exact s2 b2 u nb (by rw [upd_ne nb]; exact eb)
end
end Mine

set_option maxRecDepth 100000
set_option maxHeartbeats 4000000
namespace L2
open PySem PySem.Spec PyProof.Rows
theorem takesNo {X : Cx} : Takes X (fun _ _ _ _ => False) := fun _ _ x => by
  obtain ⟨_, _, _, _, _, _, _, _, _, _, _, _, _, _, _, _, z⟩ := x
  exact z.elim
/-- isinstance of the caught error, which has its own dict -/
def rIsE2 (K : PySem.W.Frag) (a : Addr) (cls : Value) (d : Option Addr) : List V → Hp → VK → Prop := fun xs H Q => ∃ (C : Addr) (c : V) (cv : Value) (b : Bool) (dd : Addr) (fs : List (Str × V)), xs = [.ref a, c] ∧ cls = .ref C ∧ ExcC K C ∧ d = some dd ∧ H dd = some (.xd fs) ∧ ClsV c cv ∧ PySem.W.kitOne K (.ref C) cv = some b ∧ Q (.bl b) H
theorem call_isE2 {X : Cx} {a : Addr} {oe : Obj} {cls : Value} {d : Option Addr} {pn : List (Addr × Obj)} (hz : Zc cls d oe) (hf : ∃ vs, oe.data = .fields vs) : CallR (X.suite a ((a, oe) :: pn)) (.builtin "isinstance") (rIsE2 X.K a cls d) := by
  intro pins s σ H xs us Q I r h
  obtain ⟨C, c, cv, b, dd, fs, rfl, rfl, T, rfl, ed, kc, e, q⟩ := h
  obtain ⟨u1, u2, rfl, r1, r2⟩ := vals2 r
  cases (show u1 = Value.ref a from r1)
  have e2 := kc.eq r2
  subst e2
  obtain ⟨ha, _⟩ := I.pin (a, oe) (List.mem_append_left _ List.mem_cons_self)
  obtain ⟨vs, hd⟩ := hf
  have hx : ObjOk X.prog X.w H s.heap dd (.xd fs) := I.hok dd _ ed
  obtain ⟨mA, hns, hr⟩ := hx
  obtain ⟨od, ho, hl⟩ := lookIn_ns hns
  have J : PySem.W.InstAt s.heap a oe C (some od) := ⟨ha, hz.1, by unfold PySem.W.notCls; rw [hd] <;> rfl, by rw [hz.2]; exact ho⟩
  exact PySem.W.kia_one (PySem.ExoX.kitExo T) I.kIn ⟨_, _, J⟩ e (fun z => nomatch z) fun tk => ⟨.bl b, H, I.tok tk, rfl, q⟩
end L2
namespace Mine
open PySem L2
abbrev s_is_no_row : Stmt := top 45
def spIsNoRow (K : PySem.W.Frag) (CB CM : Addr) : Sp := fun vs H Q _ => ∃ (bd : Addr) (o : Ops) (rs : List RowD) (b : Nat) (y : V) (ty : String), vs = [.ref bd, y] ∧ BodyAt CB CM H bd o rs b ∧ Bt K H y ty ∧ rs.length ≤ 100000 ∧ inW y 0 ((rs.length : Int) - 1) = false ∧ Good K H y ∧ ∀ H', Same H H' → Q (.bl true) H'
section
variable {P : Program} {w : World} {K : PySem.W.Frag} {mg : Str → Option Value} {base : Heap}
variable {fII fIW CB CM CN CA fG : Addr}
theorem sc_is_no_row : FnScope ["_law_body", "_law_thing", "e"] ["_law_body", "_law_thing"] (defScope s_is_no_row) := ⟨rfl, rfl, rfl, by decide +kernel, rfl, by decide +kernel, by decide +kernel⟩
theorem ok_is_no_row {f : Addr} {fd fdG : FuncData} (F : Fun K "_law_is_no_row" "_law_is_no_row" s_is_no_row f fd) (T : TxtF K mg fII fIW) (h_repr : mg "repr" = none)
    (GG : FnOk P w K mg base (L2.CX P w) 4 fG fdG ["self", "index"] (spGet K CB CM CN)) (b_get : Binds K fdG ["self", "index"] []) (gi_s : PySem.W.findIn K (.ref CB) "__getitem__" = some (some (.ref fG))) (gi_f : PySem.W.fnIn K fG = true) (gi_n : PySem.W.isFn K (.ref fG) = true)
    (g_AskError : mg "AskError" = some (.ref CA)) (g_NoRow : mg "NoRow" = some (.ref CN)) (XN : XfC K CN) (TN : ExcC K CN) (nf : PySem.W.findIn K (.ref CN) "index" = some none) (eP : PySem.W.exmOne K (.ref CN) (.ref CA) = some true) (kN : PySem.W.kitOne K (.ref CN) (.ref CN) = some true) : FnG P w K mg base CX0 6 f fd ["_law_body", "_law_thing"] (spIsNoRow K CB CM) := by
  refine F.okG sc_is_no_row (fun vs H Q E h => ?_) (fun cdv A outer s H vs Q E hA hr h => ?_)
  · obtain ⟨bd, o, rs, b, y, ty, rfl, _⟩ := h
    rfl
  · obtain ⟨bd, o, rs, b, y, ty, rfl, hB, bt, big, bad, good, k⟩ := h
    have hA2 : Bare A := hA
    refine ⟨_, (pss_one (ps_try_as (i := 2) rfl rfl sc_is_no_row.nd rfl rfl ⟨rfl, by decide, .inl g_AskError⟩ takesNo
      (fun W pn xe tk _ => pss_cons (ps_expr (pe_ixOS GG (hr.mono (by decide)) b_get (fun σ => passAt tk σ) gi_s gi_f gi_n (pv 0) (pv 1) (fun _ _ => by with_unfolding_all rfl))) (pss_one (ps_ret pe_bl)))
      (fun a oe cls d pn hz hf => pss_one (ps_ret (pe_and (pe_callB (call_isE2 hz hf) (by rfl) T.b_isinstance (by decide +kernel) (pa_cons (pv 2) (pa_cons (pe_glob (v := .ref CN) rfl g_NoRow rfl) pa_nil))) (pe_one (pe_cmpR op_eq (pe_callB (show CallR _ (.builtin "repr") (rRepr K) from call_repr hA2 hr.units) (by rfl) h_repr (by decide +kernel) (pa_cons (pe_xf XN nf hz hf (pv 2)) pa_nil)) (pe_callB (show CallR _ (.builtin "repr") (rRepr K) from call_repr hA2 hr.units) (by rfl) h_repr (by decide +kernel) (pa_cons (pv 1) pa_nil)) (nomark _)))))))), ?_⟩
    obtain ⟨m, t, l, sa, aa, ea, o', xs, as, es, hh⟩ := id hB
    obtain ⟨dx, fb, h1, h2⟩ := hh.hb
    refine ⟨_, rfl, _, rfl, bd, dx, fb, rfl, h1, bd, o, rs, b, y, ty, rfl, hB, bt, big, .inr ⟨bad, fun d H' nd s1 ed => ?_⟩⟩
    refine ⟨true, eP, fun _ a ha => ?_, fun q => nomatch q⟩
    obtain ⟨pd, sw, fine⟩ := Good.same (show Same H H' from s1) good
    refine ⟨_, rfl, CN, _, _, _, d, _, rfl, rfl, TN, rfl, ed, .own CN, kN, _, rfl, ?_⟩
    refine iteT ?_
    refine ⟨_, rfl, rfl, rfl, d, _, y, rfl, ed, by simp [List.lookup], y, pd, rfl, sw, fine.sh, fine.dp, fine.sz, _, rfl, y, pd, rfl, sw, fine.sh, fine.dp, fine.sz, rfl, ?_⟩
    rw [decide_eq_true (show V.str pd.shown = V.str pd.shown from rfl)]
    exact k H' s1
end
end Mine

set_option maxRecDepth 100000
set_option maxHeartbeats 4000000
namespace Mine
open PySem L2
abbrev sSrc : Stmt := top 38
abbrev sNext : Stmt := top 39
abbrev sOne : Stmt := top 40
/-- the source of the draws: three ints -/
def SrcAt (H : Hp) (a : Addr) : Prop := ∃ x y z : Int, H a = some (.lst [.int x, .int y, .int z])
/-- all but what stands at a is as it was -/
def But (H H' : Hp) (a : Addr) : Prop := ∀ b o, b ≠ a → H b = some o → H' b = some o
theorem but_upd {H : Hp} {a : Addr} (o : HO) : But H (upd H a o) a := fun b u ne e => by
  rw [upd_ne ne]
  exact e
theorem But.trans {H H1 H2 : Hp} {a : Addr} (s : But H H1 a) (t : But H1 H2 a) : But H H2 a := fun b o ne e => t b o ne (s b o ne e)
theorem But.same {H H1 H2 : Hp} {a : Addr} (s : Same H H1) (t : But H1 H2 a) (n : H a = none) : Same H H2 := fun b o e => t b o (ne_of_none e n) (s b o e)
def spSrc : Sp := fun vs H Q _ => ∃ c : Int, vs = [.int c] ∧ ∀ (x y z : Int), New H (.lst [.int x, .int y, .int z]) Q
def spNext : Sp := fun vs H Q _ => ∃ (a : Addr) (m x y z : Int), vs = [.ref a, .int m] ∧ 0 < m ∧ m.natAbs < 2 ^ 200 ∧ H a = some (.lst [.int x, .int y, .int z]) ∧
  ∀ (n x' y' z' : Int) (H' : Hp), 0 ≤ n → n < m → But H H' a → H' a = some (.lst [.int x', .int y', .int z']) → Q (.int n) H'
/-- one of the things in a list -/
def spOne : Sp := fun vs H Q _ => ∃ (a b : Addr) (xs : List V) (x y z : Int), vs = [.ref a, .ref b] ∧ H a = some (.lst [.int x, .int y, .int z]) ∧ H b = some (.lst xs) ∧ 0 < xs.length ∧ xs.length ≤ 1000 ∧ a ≠ b ∧
  ∀ (v : V) (x' y' z' : Int) (H' : Hp), v ∈ xs → But H H' a → H' a = some (.lst [.int x', .int y', .int z']) → Q v H'
structure TxtD (K : PySem.W.Frag) (mg : Str → Option Value) (fN : Addr) : Prop where
  int : mg "int" = none
  len : mg "len" = none
  gN : mg "_law_next" = some (.ref fN)
  kN : PySem.W.keepIn K (.ref fN) = true
theorem at0 {α : Type} {a : α} {l : List α} : atI (a :: l) 0 = some a := atI_nat (j := 0) rfl
theorem at1 {α : Type} {a b : α} {l : List α} : atI (a :: b :: l) 1 = some b := atI_nat (j := 1) rfl
theorem at2 {α : Type} {a b c : α} {l : List α} : atI (a :: b :: c :: l) 2 = some c := atI_nat (j := 2) rfl
theorem ix0 {n : Nat} : ixN (n + 1) 0 = some 0 := by
  unfold ixN
  rw [if_pos (Int.le_refl _), if_pos (by omega)]
  rfl
theorem ix2 {n : Nat} : ixN (n + 3) 2 = some 2 := by
  unfold ixN
  rw [if_pos (by decide), if_pos (by omega)]
  rfl
theorem modM {m : Int} (h : 0 < m) (u : Int) : 0 ≤ u % m ∧ u % m < m := ⟨Int.emod_nonneg _ (by omega), Int.emod_lt_of_pos _ h⟩
section
variable {P : Program} {w : World} {K : PySem.W.Frag} {mg : Str → Option Value} {base : Heap}
variable {fN : Addr}
theorem scSrc : FnScope ["_law_cell"] ["_law_cell"] (defScope sSrc) := ⟨rfl, rfl, rfl, by decide +kernel, rfl, by decide +kernel, by decide +kernel⟩
theorem ok_src {f : Addr} {fd : FuncData} (F : Fun K "_law_source_of" "_law_source_of" sSrc f fd) (T : TxtD K mg fN) : FnOk P w K mg base CX0 1 f fd ["_law_cell"] spSrc := by
  refine F.ok scSrc (fun vs H Q E h => ?_) (fun cdv A outer s H vs Q E hr h => ?_)
  · obtain ⟨c, rfl, _⟩ := h
    rfl
  · obtain ⟨c, rfl, k⟩ := h
    refine ⟨_, (pss_cons (ps_set (i := 0) scSrc.nd rfl (Or.inl rfl) (pe_ifExp (pt_cmpR op_ge (pv 0) pe_int (nomark _)) (pv 0) (pe_op op_sub (pe_op op_sub pe_int (pe_op op_mul pe_int (pv 0))) pe_int)))
      (pss_one (ps_ret (pe_lstG (pa_cons (pe_op op_mul (pv 0) (pe_callTy call_int1 (by rfl) T.int (by decide +kernel) (pa_cons (pe_cmpR op_ge (pv 0) (pe_op op_pow pe_int pe_int) (nomark _)) pa_nil))) (pa_cons (pe_op op_mod (pe_callTy call_int1 (by rfl) T.int (by decide +kernel) (pa_cons (pv 0) pa_nil)) pe_int) (pa_cons pe_int pa_nil))))))), ?_⟩
    refine ⟨_, rfl, _, _, rfl, rfl, _, rfl, ?_⟩
    refine ite2 (fun _ => ?_) (fun _ => ?_)
    · refine ⟨_, rfl, _, rfl, _, rfl, _, _, rfl, rfl, ⟨by decide, by decide, by decide⟩, _, _, rfl, rfl, .inr ⟨_, rfl, _, _, rfl, rfl, .inr (by split <;> decide), ?_⟩⟩
      refine ⟨_, rfl, .inl ⟨_, rfl, _, _, rfl, rfl, (by show (0 : Int) < 2147483647; decide), ?_⟩⟩
      exact ⟨by show 3 ≤ sizeLine; decide, fun p H' n s e => k _ _ _ p H' n s e⟩
    · refine ⟨_, rfl, _, _, rfl, rfl, .inl (by decide), _, _, rfl, rfl, _, _, rfl, rfl, ?_⟩
      refine ⟨_, rfl, _, rfl, _, _, rfl, rfl, ⟨by decide, by decide, by decide⟩, _, _, rfl, rfl, .inr ⟨_, rfl, _, _, rfl, rfl, .inr (by split <;> decide), ?_⟩⟩
      refine ⟨_, rfl, .inl ⟨_, rfl, _, _, rfl, rfl, (by show (0 : Int) < 2147483647; decide), ?_⟩⟩
      exact ⟨by show 3 ≤ sizeLine; decide, fun p H' n s e => k _ _ _ p H' n s e⟩
theorem scNext : FnScope ["_law_source", "_law_many", "_law_found", "_law_number"] ["_law_source", "_law_many"] (defScope sNext) := ⟨rfl, rfl, rfl, by decide +kernel, rfl, by decide +kernel, by decide +kernel⟩
theorem divOk {i m : Int} (h0 : 0 < m) (h : m.natAbs < 2 ^ 200) : CDivW i m := wide_div (i := i) h0 h (by decide) (by decide)
theorem ok_next {f : Addr} {fd : FuncData} (F : Fun K "_law_next" "_law_next" sNext f fd) (T : TxtD K mg fN) : FnOk P w K mg base CX0 1 f fd ["_law_source", "_law_many"] spNext := by
  refine F.ok scNext (fun vs H Q E h => ?_) (fun cdv A outer s H vs Q E hr h => ?_)
  · obtain ⟨a, m, x, y, z, rfl, _⟩ := h
    rfl
  · obtain ⟨a, m, x, y, z, rfl, m0, m1, ha, k⟩ := h
    refine ⟨_, (pss_cons (ps_if (pt_cmpR op_gt (pe_ix ix_list (pv 0) pe_int (fun _ _ => rfl)) pe_int (nomark _)) (pss_cons (ps_set (i := 2) scNext.nd rfl (Or.inl rfl) (pe_op op_mod (pe_callTy call_int1 (by rfl) T.int (by decide +kernel) (pa_cons (pe_ix ix_list (pv 0) pe_int (fun _ _ => rfl)) pa_nil)) (pv 1)))
      (pss_cons (ps_asg (pe_op op_fdivW (pe_ix ix_list (pv 0) pe_int (fun _ _ => rfl)) (pv 1)) (pg_sub (pv 0) pe_int set_list))
      (pss_one (ps_ret (pv 2))))) pss_nil)
      (pss_cons (ps_asg (pe_op op_add (pe_ix ix_list (pv 0) pe_int (fun _ _ => rfl)) pe_int) (pg_sub (pv 0) pe_int set_list))
      (pss_cons (ps_set (i := 3) scNext.nd rfl (Or.inl rfl) (pe_op op_mod (pe_callTy call_int1 (by rfl) T.int (by decide +kernel) (pa_cons (pe_op op_add (pe_op op_add (pe_ix ix_list (pv 0) pe_int (fun _ _ => rfl)) (pe_op op_mul pe_int (pe_ix ix_list (pv 0) pe_int (fun _ _ => rfl)))) pe_int) pa_nil)) pe_int))
      (pss_cons (ps_set (i := 3) scNext.nd rfl (Or.inl rfl) (pe_op op_mod (pe_callTy call_int1 (by rfl) T.int (by decide +kernel) (pa_cons (pe_op op_mul (pv 3) pe_int) pa_nil)) pe_int))
      (pss_cons (ps_set (i := 3) scNext.nd rfl (Or.inl rfl) (pe_op op_mod (pe_callTy call_int1 (by rfl) T.int (by decide +kernel) (pa_cons (pe_op op_mul (pv 3) (pe_op op_add (pe_op op_fdiv (pv 3) pe_int) pe_int)) pa_nil)) pe_int))
      (pss_cons (ps_set (i := 3) scNext.nd rfl (Or.inl rfl) (pe_op op_mod (pe_callTy call_int1 (by rfl) T.int (by decide +kernel) (pa_cons (pe_op op_mul (pv 3) (pe_op op_add (pe_op op_fdiv (pv 3) pe_int) pe_int)) pa_nil)) pe_int))
      (pss_one (ps_ret (pe_op op_mod (pe_callTy call_int1 (by rfl) T.int (by decide +kernel) (pa_cons (pe_op op_fdiv (pv 3) pe_int) pa_nil)) (pv 1)))))))))), ?_⟩
    refine ⟨_, rfl, _, _, _, _, rfl, rfl, SqL.of ha, at0, _, _, rfl, rfl, _, rfl, ?_⟩
    refine ite2 (fun _ => ?_) (fun _ => ?_)
    · refine ⟨_, rfl, _, _, _, _, rfl, rfl, SqL.of ha, at0, .inl ⟨_, rfl, _, rfl, _, _, rfl, rfl, m0, ?_⟩⟩
      refine ⟨_, rfl, _, _, _, _, rfl, rfl, SqL.of ha, at0, _, rfl, _, _, rfl, rfl, divOk m0 m1, _, rfl, _, _, _, 0, rfl, rfl, ha, ix0, ?_⟩
      exact ⟨_, rfl, k _ _ y z _ (modM m0 _).1 (modM m0 _).2 (but_upd _) upd_same⟩
    · refine ⟨_, rfl, _, _, _, _, rfl, rfl, SqL.of ha, at2, _, _, rfl, rfl, _, rfl, _, _, _, 2, rfl, rfl, ha, ix2, ?_⟩
      have bd : ∀ u : Int, (-(2 ^ 64) < u % 2147483647 ∧ u % 2147483647 < 2 ^ 64) := fun u => by
        have := modM (show (0 : Int) < 2147483647 by decide) u
        omega
      refine ⟨_, rfl, _, _, _, _, rfl, rfl, SqL.of upd_same, at1, _, rfl, _, _, _, _, rfl, rfl, SqL.of upd_same, at2, _, _, rfl, rfl, .inl (by decide), _, _, rfl, rfl, _, _, rfl, rfl, .inl ⟨_, rfl, _, _, rfl, rfl, (by show (0 : Int) < 2147483647; decide), ?_⟩⟩
      refine ⟨_, rfl, _, _, rfl, rfl, .inr (by decide), .inl ⟨_, rfl, _, _, rfl, rfl, (by show (0 : Int) < 2147483647; decide), ?_⟩⟩
      refine ⟨_, rfl, _, rfl, _, _, rfl, rfl, ⟨by decide, by decide⟩, _, _, rfl, rfl, _, _, rfl, rfl, .inl (bd _), .inl ⟨_, rfl, _, _, rfl, rfl, (by show (0 : Int) < 2147483647; decide), ?_⟩⟩
      refine ⟨_, rfl, _, rfl, _, _, rfl, rfl, ⟨by decide, by decide⟩, _, _, rfl, rfl, _, _, rfl, rfl, .inl (bd _), .inl ⟨_, rfl, _, _, rfl, rfl, (by show (0 : Int) < 2147483399; decide), ?_⟩⟩
      refine ⟨_, rfl, _, _, rfl, rfl, ⟨by decide, by decide⟩, .inl ⟨_, rfl, _, rfl, _, _, rfl, rfl, m0, ?_⟩⟩
      exact k _ x y _ _ (modM m0 _).1 (modM m0 _).2 (but_upd _) upd_same
theorem scOne : FnScope ["_law_source", "_law_some"] ["_law_source", "_law_some"] (defScope sOne) := ⟨rfl, rfl, rfl, by decide +kernel, rfl, by decide +kernel, by decide +kernel⟩
theorem ok_one {f : Addr} {fd fdN : FuncData} (F : Fun K "_law_one" "_law_one" sOne f fd) (T : TxtD K mg fN) (FN : Fun K "_law_next" "_law_next" sNext fN fdN) (bN : Binds K fdN ["_law_source", "_law_many"] []) : FnOk P w K mg base CX0 2 f fd ["_law_source", "_law_some"] spOne := by
  have GN : FnOk P w K mg base CX0 1 fN fdN ["_law_source", "_law_many"] spNext := ok_next FN T
  refine F.ok scOne (fun vs H Q E h => ?_) (fun cdv A outer s H vs Q E hr h => ?_)
  · obtain ⟨a, b, xs, x, y, z, rfl, _⟩ := h
    rfl
  · obtain ⟨a, b, xs, x, y, z, rfl, ha, hb, l0, l1, ne, k⟩ := h
    have hr1 : Room 1 _ := hr.mono (by decide)
    refine ⟨_, (pss_one (ps_ret (pe_ix ix_list (pv 1) (pe_call GN hr1 (by rfl) T.gN T.kN bN .nil pass0 (pa_cons (pv 0) (pa_cons (pe_callB call_len_seq (by rfl) T.len PySem.boot_len (pa_cons (pv 1) pa_nil)) pa_nil))) (fun _ _ => rfl)))), ?_⟩
    refine ⟨_, rfl, _, rfl, _, rfl, _, _, rfl, .inl (SqL.of hb), a, _, x, y, z, rfl, by omega, ?_, ha, fun n x' y' z' H' n0 n1 bt he => ?_⟩
    · have : (((xs.length : Nat) : Int)).natAbs = xs.length := rfl
      rw [this]
      exact Nat.lt_of_le_of_lt l1 (by decide)
    · have hn : n.toNat < xs.length := by omega
      have ei : xs[n.toNat]? = some xs[n.toNat] := List.getElem?_eq_getElem hn
      have e2 : ((n.toNat : Nat) : Int) = n := Int.toNat_of_nonneg n0
      have ea : atI xs ((n.toNat : Nat) : Int) = some xs[n.toNat] := atI_nat ei
      rw [e2] at ea
      exact ⟨_, _, _, _, rfl, rfl, SqL.of (bt _ _ ne.symm hb), ea, k _ _ _ _ _ (List.getElem_mem hn) bt he⟩
end
end Mine

set_option maxRecDepth 100000
set_option maxHeartbeats 4000000
namespace Mine
open PySem L2
abbrev s_mixed : Stmt := top 41
/-- a text, or a pair of a text and a number -/
def El (H : Hp) (v : V) : Prop := (∃ t : Str, v = .str t ∧ PyData.strOk t = true) ∨ ∃ (q : Addr) (t : Str) (i : Int), v = .ref q ∧ H q = some (.tup [.str t, .int i]) ∧ PyData.strOk t = true
def TupStay (H H' : Hp) : Prop := ∀ (q : Addr) (zs : List V), H q = some (.tup zs) → H' q = some (.tup zs)
theorem El.stay {H H' : Hp} {v : V} (s : TupStay H H') (e : El H v) : El H' v := e.elim .inl fun ⟨q, t, i, h1, h2, h3⟩ => .inr ⟨q, t, i, h1, s _ _ h2, h3⟩
theorem El.dp {K : PySem.W.Frag} {H : Hp} {v : V} (e : El H v) : ∃ d : PyData, Dp K H v d ∧ d.canLay0 = true ∧ d.depth ≤ 1 := by
  rcases e with ⟨t, rfl, h⟩ | ⟨q, t, i, rfl, h, h3⟩
  · exact ⟨_, .str t, by simp [PyData.canLay0, h], by simp [PyData.depth]⟩
  · exact ⟨_, .tup (.inl (.inl h)) (.cons (.str t) (.cons (.int i) .nil)), by simp [PyData.canLay0, PyData.canLayAll0, h3], by simp [PyData.depth, PyData.depthAll]⟩
theorem Els.dp {K : PySem.W.Frag} {H : Hp} : ∀ {vs : List V}, (∀ v ∈ vs, El H v) → ∃ ds : List PyData, DpAll K H vs ds ∧ PyData.canLayAll0 ds = true ∧ PyData.depthAll ds ≤ 1 ∧ ds.length = vs.length
  | [], _ => ⟨[], .nil, by simp [PyData.canLayAll0], by simp [PyData.depthAll], rfl⟩
  | v :: vs, h => by
    obtain ⟨d, h1, h2, h3⟩ := (h v List.mem_cons_self).dp (K := K)
    obtain ⟨ds, k1, k2, k3, k4⟩ := Els.dp (K := K) (vs := vs) fun x hx => h x (List.mem_cons_of_mem _ hx)
    refine ⟨d :: ds, .cons h1 k1, by simp [PyData.canLayAll0, h2, k2], ?_, by rw [List.length_cons, k4]; rfl⟩
    simp only [PyData.depthAll]
    omega
def spMixed : Sp := fun vs H Q _ => ∃ (a b : Addr) (xs : List V) (x y z : Int), vs = [.ref a, .ref b] ∧ H a = some (.lst [.int x, .int y, .int z]) ∧ SqA H b xs ∧ xs.length ≤ 1000 ∧ (∀ v ∈ xs, El H v) ∧
  ∀ (p : Addr) (ys : List V) (x' y' z' : Int) (H' : Hp), H p = none → ys.Perm xs → But H H' a → H' a = some (.lst [.int x', .int y', .int z']) → H' p = some (.lst ys) → Q (.ref p) H'
/-- ahead of a turn -/
structure MixI (H : Hp) (a la fa : Addr) (xs lf ff : List V) (H' : Hp) : Prop where
  but : But H H' a
  src : SrcAt H' a
  l : H' la = some (.lst lf)
  f : H' fa = some (.lst ff)
  nl : H la = none
  nf : H fa = none
  ne : la ≠ fa
  perm : (lf ++ ff).Perm xs
theorem erase_perm {α : Type} : ∀ (l : List α) (k : Nat) (y : α), l[k]? = some y → (y :: l.eraseIdx k).Perm l ∧ (l.eraseIdx k).length + 1 = l.length
  | [], k, y, h => by simp at h
  | x :: l, 0, y, h => by
    have e : x = y := Option.some.inj h
    subst e
    exact ⟨.refl _, rfl⟩
  | x :: l, k + 1, y, h => by
    obtain ⟨p, e⟩ := erase_perm l k y (by simpa using h)
    exact ⟨(List.Perm.swap x y _).trans (p.cons x), by show (l.eraseIdx k).length + 1 + 1 = l.length + 1; rw [e]⟩
theorem seq_at {n : Nat} {i : Int} (h0 : 0 ≤ i) (h : i < n) : seqIndex? i n = some i.toNat := (ixN_seq (by unfold ixN; rw [if_pos h0, if_pos h])).1
section
variable {P : Program} {w : World} {K : PySem.W.Frag} {mg : Str → Option Value} {base : Heap}
variable {fII fIW fN : Addr}
theorem sc_mixed : FnScope ["_law_source", "_law_some", "_law_left", "_law_found"] ["_law_source", "_law_some"] (defScope s_mixed) := ⟨rfl, rfl, rfl, by decide +kernel, rfl, by decide +kernel, by decide +kernel⟩
theorem ok_mixed {f : Addr} {fd fdN : FuncData} (F : Fun K "_law_mixed" "_law_mixed" s_mixed f fd) (T : TxtF K mg fII fIW)
    (GN : FnOk P w K mg base CX0 1 fN fdN ["_law_source", "_law_many"] spNext) (b_next : Binds K fdN ["_law_source", "_law_many"] []) (g_next : mg "_law_next" = some (.ref fN)) (k_next : PySem.W.keepIn K (.ref fN) = true) : FnOk P w K mg base CX0 2 f fd ["_law_source", "_law_some"] spMixed := by
  refine F.ok sc_mixed (fun vs H Q E h => ?_) (fun cdv A outer s H vs Q E hr h => ?_)
  · obtain ⟨a, b, xs, x, y, z, rfl, _⟩ := h
    rfl
  · obtain ⟨a, b, xs, x, y, z, rfl, ha, hb, few, els, k⟩ := h
    refine ⟨_, (pss_cons (ps_par (i := 2) (j := 3) rfl sc_mixed.nd rfl rfl (by decide) rfl rfl (pa_cons (pe_callTy call_listG (by rfl) T.b_list (by decide +kernel) (pa_cons (pv 1) pa_nil)) (pa_cons (pe_lstG pa_nil) pa_nil)) rfl)
      (pss_cons (ps_while PassesOwn.never (pt_cmpR (op_neD hr.units) (pv 2) (pe_lstG pa_nil) (nomark _)) (pss_one (ps_expr (pe_bm PySem.F.plainAttrs_list PySem.F.slot_list_append PySem.F.type_list_append mt_append (pv 3) (pa_cons (pe_bm PySem.F.plainAttrs_list PySem.F.slot_list_pop PySem.F.type_list_pop mt_popAt (pv 2) (pa_cons (pe_call GN (hr.mono (by decide)) (by rfl) g_next k_next b_next .nil pass0 (pa_cons (pv 0) (pa_cons (pe_callB call_len_seq (by rfl) T.b_len PySem.boot_len (pa_cons (pv 2) pa_nil)) pa_nil))) pa_nil)) pa_nil)))))
      (pss_one (ps_ret (pv 3))))), ?_⟩
    refine ⟨_, rfl, b, _, rfl, hb, fun la H1 n1 s1 e1 => ⟨Nat.zero_le _, fun fa H2 n2 s2 e2 => ⟨_, _, rfl, ?_⟩⟩⟩
    have nla : la ≠ fa := fun z => by
      rw [← z, e1] at n2
      cases n2
    have start : MixI H a la fa xs xs [] H2 := ⟨fun b2 o _ e => s2 _ _ (s1 _ _ e), ⟨x, y, z, s2 _ _ (s1 _ _ ha)⟩, s2 _ _ e1, e2, n1, none_of s1 n2, nla, by rw [List.append_nil]⟩
    refine ⟨fun m σ H' => ∃ lf ff, m = lf.length ∧ σ = [some (.ref a), some (.ref b), some (.ref la), some (.ref fa)] ∧ MixI H a la fa xs lf ff H', ⟨_, xs, [], rfl, rfl, start⟩, ?_⟩
    rintro m σ H' ⟨lf, ff, rfl, rfl, mi⟩
    have nal : la ≠ a := fun z => by
      have := mi.nl
      rw [z, ha] at this
      cases this
    have naf : fa ≠ a := fun z => by
      have := mi.nf
      rw [z, ha] at this
      cases this
    have tup : ∀ {H'' : Hp}, But H H'' a → TupStay H H'' := fun bt q zs e => bt q _ (fun z => by rw [z, ha] at e; cases e) e
    have len : lf.length + ff.length = xs.length := by
      have := mi.perm.length_eq
      rw [List.length_append] at this
      exact this
    refine ⟨_, rfl, Nat.zero_le _, fun e0 H3 n3 s3 ee => ?_⟩
    have bt3 : But H H3 a := fun b2 o nb e => s3 _ _ (mi.but b2 o nb e)
    obtain ⟨ds, d1, d2, d3, d4⟩ := Els.dp (K := K) (H := H3) (vs := lf) fun v hv => (els v (mi.perm.mem_iff.mp (List.mem_append_left _ hv))).stay (tup bt3)
    have sh : SeqAt.shaped (.list ds) = true := by
      show (PyData.canLay0 (.list ds) && decide (PyData.depth (.list ds) ≤ 64)) = true
      rw [Bool.and_eq_true]
      refine ⟨by simp only [PyData.canLay0]; exact d2, decide_eq_true ?_⟩
      simp only [PyData.depth]
      omega
    refine ⟨.list ds, .list [], .lst (SqL.of (s3 _ _ mi.l)) d1, .lst (SqL.of ee) .nil, sh, by decide +kernel, _, rfl, ?_⟩
    cases lf with
    | nil =>
      have : ds = [] := List.length_eq_zero_iff.mp d4
      subst this
      have e : (!PyData.eqv (.list []) (.list [])) = false := by simp [PyData.eqv, PyData.eqvAll]
      rw [e]
      refine iteF ?_
      obtain ⟨x', y', z', es⟩ := mi.src
      exact ⟨_, rfl, k fa ff x' y' z' H3 mi.nf (by simpa using mi.perm) bt3 (s3 _ _ es) (s3 _ _ mi.f)⟩
    | cons v0 l0 =>
      have e : (!PyData.eqv (.list ds) (.list [])) = true := by
        cases ds with
        | nil => simp at d4
        | cons d ds => simp [PyData.eqv, PyData.eqvAll]
      rw [e]
      refine iteT ?_
      refine ⟨fun σ' H'' => ∃ lf' ff', lf'.length < (v0 :: l0).length ∧ σ' = [some (.ref a), some (.ref b), some (.ref la), some (.ref fa)] ∧ MixI H a la fa xs lf' ff' H'', fun σ' H'' ⟨lf', ff', z1, z2, z3⟩ => ⟨_, z1, lf', ff', rfl, z2, z3⟩, ?_⟩
      obtain ⟨x', y', z', es⟩ := mi.src
      refine ⟨_, rfl, .inl ⟨rfl, _, SqL.of (s3 _ _ mi.f)⟩, _, rfl, .inl ⟨rfl, _, SqL.of (s3 _ _ mi.l)⟩, _, rfl, _, rfl, la, _, rfl, .inl (SqL.of (s3 _ _ mi.l)), a, _, x', y', z', rfl, ?_, ?_, s3 _ _ es, fun n u1 u2 u3 H4 n0 n1' bt4 e4 => ?_⟩
      · show (0 : Int) < ((v0 :: l0).length : Int)
        simp
      · have h1 : (v0 :: l0).length ≤ 1000 := by omega
        rw [Int.natAbs_natCast]
        exact Nat.lt_of_le_of_lt h1 (by decide)
      · have n1' : n < ((v0 :: l0).length : Int) := n1'
        have h1 : (v0 :: l0).length ≤ 1000 := by omega
        have el := bt4 _ _ nal (s3 _ _ mi.l)
        have ef := bt4 _ _ naf (s3 _ _ mi.f)
        have hk : n.toNat < (v0 :: l0).length := by omega
        have ey : (v0 :: l0)[n.toNat]? = some (v0 :: l0)[n.toNat] := List.getElem?_eq_getElem hk
        obtain ⟨pe, le⟩ := erase_perm _ _ _ ey
        generalize (v0 :: l0)[n.toNat] = y at ey pe
        generalize hl2 : (v0 :: l0).eraseIdx n.toNat = l2 at pe le
        refine ⟨la, v0 :: l0, n, n.toNat, y, rfl, rfl, el, by omega, by omega, seq_at n0 n1', ey, ?_⟩
        rw [hl2]
        have ef2 : upd H4 la (.lst l2) fa = some (.lst ff) := by
          rw [upd_ne (Ne.symm nla)]
          exact ef
        refine ⟨fa, ff, y, rfl, rfl, ef2, by rw [sizeLine_eq]; omega, l2, ff ++ [y], by omega, rfl, ?_⟩
        have ne : ∀ {b2 : Addr} {o : HO}, H b2 = some o → b2 ≠ la ∧ b2 ≠ fa := fun {b2 o} e => ⟨fun z => absurd (by rw [← e, z, mi.nl]) (fun q : (none : Option HO) = some o => nomatch q), fun z => absurd (by rw [← e, z, mi.nf]) (fun q : (none : Option HO) = some o => nomatch q)⟩
        refine ⟨fun b2 o nb e => ?_, ⟨u1, u2, u3, ?_⟩, ?_, upd_same, mi.nl, mi.nf, nla, ?_⟩
        · rw [upd_ne (ne e).2, upd_ne (ne e).1]
          exact bt4 _ _ nb (bt3 _ _ nb e)
        · rw [upd_ne (Ne.symm naf), upd_ne (Ne.symm nal)]
          exact e4
        · rw [upd_ne nla, upd_same]
        · have q1 : (l2 ++ (ff ++ [y])).Perm (y :: l2 ++ ff) := by
            rw [← List.append_assoc]
            exact (List.perm_append_comm (l₁ := l2 ++ ff) (l₂ := [y]))
          exact (q1.trans (pe.append_right ff)).trans mi.perm
end
end Mine

set_option maxRecDepth 100000
set_option maxHeartbeats 4000000
namespace Mine
open PySem L2
abbrev s_ops : Stmt := top 42
def names8 : List Str := ["coin", "ask", "tell", "go", "end", "fail", "x", "open"]
def spDrawOps : Sp := fun vs H Q _ => ∃ (a : Addr) (m : Nat) (x y z : Int), vs = [.ref a, .int (m : Int)] ∧ H a = some (.lst [.int x, .int y, .int z]) ∧ m ≤ 8 ∧
  ∀ (p : Addr) (o : Ops) (x' y' z' : Int) (H' : Hp), H p = none → o.length = m → (∀ q ∈ o, q.1 ∈ names8 ∧ 0 ≤ q.2 ∧ q.2 ≤ 3) → (o.map (·.1)).Nodup → But H H' a → H' a = some (.lst [.int x', .int y', .int z']) → H' p = some (.dK (opsK o)) → Q (.ref p) H'
theorem names8_ok : ∀ t ∈ names8, isNm t = true := by decide +kernel
theorem names8_nd : names8.Nodup := by decide +kernel
theorem names8_str : ∀ t ∈ names8, PyData.strOk t = true := by decide +kernel
def unS : V → Str
  | .str t => t
  | _ => ""
theorem perm_strs {ys : List V} {ns : List Str} (h : ys.Perm (ns.map V.str)) : ∃ zs : List Str, zs.Perm ns ∧ ys = zs.map V.str := by
  refine ⟨ys.map unS, ?_, ?_⟩
  · have := h.map unS
    rw [List.map_map] at this
    have e : ns.map (unS ∘ V.str) = ns := (List.map_congr_left fun _ _ => rfl).trans (List.map_id ns)
    rw [e] at this
    exact this
  · rw [List.map_map]
    refine (List.map_id ys).symm.trans (List.map_congr_left fun v hv => ?_)
    obtain ⟨t, _, rfl⟩ := List.mem_map.mp (h.mem_iff.mp hv)
    rfl
theorem paired_imp {α β : Type} {R S : α → β → Prop} (h : ∀ x y, R x y → S x y) : ∀ {xs : List α} {ys : List β}, Paired R xs ys → Paired S xs ys
  | _, _, .nil => .nil
  | _, _, .cons a b => .cons (h _ _ a) (paired_imp h b)
theorem paired_snoc {α β : Type} {R : α → β → Prop} {x : α} {y : β} (h : R x y) : ∀ {xs : List α} {ys : List β}, Paired R xs ys → Paired R (xs ++ [x]) (ys ++ [y])
  | _, _, .nil => .cons h .nil
  | _, _, .cons a b => .cons a (paired_snoc h b)
theorem low8 : ∀ n ∈ ([0, 1, 1, 2, 2, 2, 3, 2] : List Int), 0 ≤ n ∧ n ≤ 3 := by decide
/-- the pairs that are made so far -/
structure PairI (Hn : Hp) (a D : Addr) (zs : List Str) (j : Nat) (Hx : Hp) : Prop where
  but : But Hn Hx a
  src : SrcAt Hx a
  made : ∃ (ps : List Addr) (o : Ops), Hx D = some (.lst (ps.map V.ref)) ∧ o.map (·.1) = zs.take j ∧ (∀ q ∈ o, 0 ≤ q.2 ∧ q.2 ≤ 3) ∧ Paired (fun p kv => Hx p = some (.tup [kV kv.1, kv.2])) ps (opsK o) ∧ ps.length = j
theorem merge_new : ∀ (more kvs : List (Key × V)), (more.map (·.1)).Nodup → (∀ k ∈ more.map (·.1), valV kvs k = none) → mergeK kvs more = kvs ++ more
  | [], kvs, _, _ => by rw [List.append_nil]; rfl
  | p :: more, kvs, nd, h => by
    rw [List.map_cons, List.nodup_cons] at nd
    show mergeK (putK kvs p.1 p.2) more = _
    have hp := h p.1 (by rw [List.map_cons]; exact List.mem_cons_self)
    rw [merge_new more _ nd.2 fun k hk => by
      rw [valV_put, if_neg (fun z : k = p.1 => nd.1 (by rw [← z]; exact hk))]
      exact h k (by rw [List.map_cons]; exact List.mem_cons_of_mem _ hk), putK_new _ hp, List.append_assoc]
    rfl
theorem merge_ops {o : Ops} (nd : (o.map (·.1)).Nodup) : mergeK [] (opsK o) = opsK o := by
  have := merge_new (opsK o) [] (by
    rw [opsK_keys, List.Nodup, List.pairwise_map]
    exact List.Pairwise.imp (fun h z => h (Sum.inr.inj z)) nd) (fun _ _ => rfl)
  rw [this]
  rfl
section
variable {P : Program} {w : World} {K : PySem.W.Frag} {mg : Str → Option Value} {base : Heap}
variable {fII fIW fM fO : Addr}
theorem sc_ops : FnScope ["_law_source", "_law_many", "_law_names", "_law_name"] ["_law_source", "_law_many"] (defScope s_ops) := ⟨rfl, rfl, rfl, by decide +kernel, rfl, by decide +kernel, by decide +kernel⟩
theorem ok_draw_ops {f : Addr} {fd fdM fdO : FuncData} (F : Fun K "_law_operations" "_law_operations" s_ops f fd) (T : TxtF K mg fII fIW)
    (GM : FnOk P w K mg base CX0 2 fM fdM ["_law_source", "_law_some"] spMixed) (b_mixed : Binds K fdM ["_law_source", "_law_some"] []) (g_mixed : mg "_law_mixed" = some (.ref fM)) (k_mixed : PySem.W.keepIn K (.ref fM) = true)
    (GO : FnOk P w K mg base CX0 2 fO fdO ["_law_source", "_law_some"] spOne) (b_one : Binds K fdO ["_law_source", "_law_some"] []) (g_one : mg "_law_one" = some (.ref fO)) (k_one : PySem.W.keepIn K (.ref fO) = true) : FnOk P w K mg base CX0 3 f fd ["_law_source", "_law_many"] spDrawOps := by
  refine F.ok sc_ops (fun vs H Q E h => ?_) (fun cdv A outer s H vs Q E hr h => ?_)
  · obtain ⟨a, m, x, y, z, rfl, _⟩ := h
    rfl
  · obtain ⟨a, m, x, y, z, rfl, ha, hm, k⟩ := h
    refine ⟨_, (pss_cons (ps_set (i := 2) sc_ops.nd rfl (Or.inl rfl) (pe_slice sl_listG (pe_call GM (hr.mono (by decide)) (by rfl) g_mixed k_mixed b_mixed .nil pass0 (pa_cons (pv 0) (pa_cons (pe_lstG (pa_cons pe_str (pa_cons pe_str (pa_cons pe_str (pa_cons pe_str (pa_cons pe_str (pa_cons pe_str (pa_cons pe_str (pa_cons pe_str pa_nil))))))))) pa_nil))) po_none (po_some (pv 1))))
      (pss_one (ps_ret (pe_callTy (call_dictP rfl) (by rfl) T.b_dict (by decide +kernel) (pa_cons (pe_lc (own := [("_law_name", 3)]) (g := gName 3) (tt := tYes) rfl sc_ops.nd (pi_list (pv 2)) (blkOk_by (own := [("_law_name", 3)]) (N := ["_law_source", "_law_many", "_law_names", "_law_name"]) (sc := defScope s_ops) (by decide +kernel)) (fun _ _ _ _ _ => pg_name (i := 3) sc_ops.nd rfl (Or.inl rfl)) (fun _ _ _ _ _ => pts_nil) (fun _ _ _ _ _ => pe_tupG (pa_cons (pv 3) (pa_cons (pe_call GO (hr.mono (by decide)) (by rfl) g_one k_one b_one .nil pass0 (pa_cons (pv 0) (pa_cons (pe_lstG (pa_cons pe_int (pa_cons pe_int (pa_cons pe_int (pa_cons pe_int (pa_cons pe_int (pa_cons pe_int (pa_cons pe_int (pa_cons pe_int pa_nil))))))))) pa_nil))) pa_nil)))) pa_nil))))), ?_⟩
    have nl : ∀ n : Nat, n ≤ 8 → n ≤ sizeLine := fun n h => by rw [sizeLine_eq]; omega
    refine ⟨_, rfl, nl _ (by decide), fun p1 H1 n1 s1 e1 => ?_⟩
    refine ⟨a, p1, _, x, y, z, rfl, s1 _ _ ha, .inl e1, by show 8 ≤ 1000; decide, ?_, fun p2 ys x' y' z' H2 n2 perm bt e2 e3 => ?_⟩
    · intro v hv
      have hv : v ∈ names8.map V.str := hv
      obtain ⟨t, ht, rfl⟩ := List.mem_map.mp hv
      exact .inl ⟨t, rfl, names8_str t ht⟩
    · obtain ⟨zs, pz, rfl⟩ := perm_strs (ns := names8) perm
      have zl : zs.length = 8 := pz.length_eq
      refine ⟨_, rfl, _, rfl, p2, _, rfl, SqL.of e3, fun p3 H3 n3 s3 e4 => ?_⟩
      have ec : cutV (zs.map V.str) none (some (m : Int)) = (zs.take m).map V.str := by
        unfold cutV
        rw [HT.sIx_none, HT.sIx_nat, List.length_map, List.drop_zero, List.map_take, Nat.sub_zero, Nat.min_eq_left (by omega)]
      rw [ec] at e4
      have p2a : p3 ≠ a := fun z => by
        rw [z, e2] at n3
        cases n3
      refine ⟨_, rfl, p3, rfl, ⟨_, SqL.of e4⟩, fun D nD => ?_⟩
      have nDa : D ≠ a := fun z => by
        rw [z, s3 _ _ e2] at nD
        cases nD
      have e2' := s3 _ _ e2
      refine lc_it (walk_list (xs := (zs.take m).map V.str)) (fun j Hx => PairI H3 a D (zs.take m) j Hx) ⟨fun b o _ e => ?_, ⟨x', y', z', ?_⟩, [], [], upd_same, rfl, fun _ h => (nomatch h), .nil, rfl⟩ (fun j Hx _ z => SqL.of (z.but _ _ p2a e4)) (fun j x Ha Hb hj z1 z2 => ?_) (fun Hx z => ?_)
      · rw [upd_ne (ne_of_none e nD)]
        exact e
      · rw [upd_ne (Ne.symm nDa)]
        exact e2'
      · obtain ⟨rfl, hx⟩ := z2
        obtain ⟨but, ⟨x1, y1, z1', src⟩, ps, o, q1, q2, q3, q4, q5⟩ := z1
        rw [List.length_map] at hj
        have et : (zs.take m)[j]? = some (zs.take m)[j] := List.getElem?_eq_getElem hj
        generalize (zs.take m)[j] = t at et
        rw [List.getElem?_map, et] at hx
        have hx2 : V.str t = x := Option.some.inj hx
        subst hx2
        refine ⟨rfl, _, rfl, _, rfl, nl _ (by decide), fun p4 H4 n4 s4 e5 => ?_⟩
        refine ⟨a, p4, _, x1, y1, z1', rfl, s4 _ _ src, e5, by show 0 < 8; decide, by show 8 ≤ 1000; decide, ne_of_none src n4, fun v x5 y5 z5 H5 mv bt5 e6 => ?_⟩
        have mv : v ∈ ([0, 1, 1, 2, 2, 2, 3, 2] : List Int).map V.int := mv
        obtain ⟨n, hn, rfl⟩ := List.mem_map.mp mv
        have tl : (zs.take m).length ≤ 8 := by rw [List.length_take]; omega
        refine ⟨nl _ (by show 2 ≤ 8; decide), fun T H6 n6 s6 e7 => ⟨_, s6 _ _ (bt5 _ _ nDa (s4 _ _ q1)), by rw [List.length_map, q5, sizeLine_eq]; omega, ?_⟩⟩
        have hD6 := s6 _ _ (bt5 _ _ nDa (s4 _ _ q1))
        refine ⟨fun b o nb e => ?_, ⟨x5, y5, z5, ?_⟩, ps ++ [T], o ++ [(t, n)], ?_, ?_, fun q hq => ?_, ?_, by rw [List.length_append, q5]; rfl⟩
        · rw [upd_ne (ne_of_none e nD)]
          exact s6 _ _ (bt5 _ _ nb (s4 _ _ (but _ _ nb e)))
        · rw [upd_ne (Ne.symm nDa)]
          exact s6 _ _ e6
        · rw [upd_same, List.map_append]
          rfl
        · rw [List.map_append, q2, List.take_succ, et]
          rfl
        · rcases List.mem_append.mp hq with h | h
          · exact q3 q h
          · rw [List.mem_singleton.mp h]
            exact low8 n hn
        · have up : ∀ {p : Addr} {us : List V}, H6 p = some (.tup us) → upd H6 D (.lst (ps.map V.ref ++ [.ref T])) p = some (.tup us) := fun {p us} e => by
            rw [upd_ne (fun z => by rw [z, hD6] at e; cases e)]
            exact e
          have e8 : opsK (o ++ [(t, n)]) = opsK o ++ [(Sum.inr t, V.int n)] := by
            unfold opsK
            rw [List.map_append]
            rfl
          rw [e8]
          refine paired_snoc (R := fun (p : Addr) (kv : Key × V) => upd H6 D (.lst (ps.map V.ref ++ [.ref T])) p = some (.tup [kV kv.1, kv.2])) (x := T) (y := ((Sum.inr t, V.int n) : Key × V)) (up e7) (paired_imp (fun p kv e => up (s6 _ _ (bt5 _ _ (fun z => ?_) (s4 _ _ e)))) q4)
          rw [z, src] at e
          cases e
      · obtain ⟨but, ⟨x1, y1, z1', src⟩, ps, o, q1, q2, q3, q4, q5⟩ := z
        rw [List.length_map, List.take_length] at q2
        have nd : (o.map (·.1)).Nodup := by
          rw [q2]
          exact (pz.nodup_iff.mpr names8_nd).sublist (List.take_sublist _ _)
        have hin : ∀ q ∈ o, q.1 ∈ names8 := fun q hq => by
          have : q.1 ∈ o.map (·.1) := List.mem_map_of_mem hq
          rw [q2] at this
          exact pz.mem_iff.mp (List.mem_of_mem_take this)
        have ol : o.length = m := by
          have := congrArg List.length q2
          rw [List.length_map, List.length_take] at this
          omega
        refine ⟨D, ps, opsK o, rfl, SqL.of q1, paired_imp (fun _ _ e => .inl (.inl e)) q4, fun p np => ?_⟩
        rw [merge_ops nd]
        have bt0 : But H Hx a := fun b o nb e => but _ _ nb (s3 _ _ (bt _ _ nb (s1 _ _ e)))
        have npH : H p = none := by
          cases e : H p with
          | none => rfl
          | some u =>
            by_cases z : p = a
            · rw [z, src] at np
              cases np
            · rw [bt0 _ _ z e] at np
              cases np
        refine k p o x1 y1 z1' _ npH ol (fun q hq => ⟨hin q hq, q3 q hq⟩) nd (fun b u nb e => ?_) ?_ upd_same
        · rw [upd_ne (ne_of_none e npH)]
          exact bt0 _ _ nb e
        · rw [upd_ne (fun z => by rw [← z, src] at np; cases np)]
          exact src
end
end Mine

set_option maxRecDepth 100000
set_option maxHeartbeats 4000000
namespace Mine
open PySem L2
abbrev s_listed : Stmt := top 44
def spNever : Sp := fun _ _ _ _ => False
theorem fn_never {P : Program} {w : World} {K : PySem.W.Frag} {mg : Str → Option Value} {base : Heap} {f : Addr} {fd : FuncData} {ps : List Str} : FnOk P w K mg base CX0 0 f fd ps spNever := ⟨fun _ _ _ _ h => h.elim, fun _ _ _ _ _ _ _ _ _ _ _ _ _ h => h.elim⟩
/-- a text or a number: itself -/
def spList0 : Sp := fun vs H Q _ => ∃ v : V, vs = [v] ∧ ((∃ t : Str, v = .str t) ∨ ∃ i : Int, v = .int i) ∧ Q v H
section
variable {P : Program} {w : World} {K : PySem.W.Frag} {mg : Str → Option Value} {base : Heap}
variable {fII fIW : Addr}
theorem sc_listed : FnScope ["_law_thing", "_law_one_here"] ["_law_thing"] (defScope s_listed) := ⟨rfl, rfl, rfl, by decide +kernel, rfl, by decide +kernel, by decide +kernel⟩
theorem ok_list0 {f : Addr} {fd : FuncData} (F : Fun K "_law_listed" "_law_listed" s_listed f fd) (T : TxtF K mg fII fIW) (g_listed : mg "_law_listed" = some (.ref f)) (k_listed : PySem.W.keepIn K (.ref f) = true) (b_listed : Binds K fd ["_law_thing"] []) : FnOk P w K mg base CX0 1 f fd ["_law_thing"] spList0 := by
  have GL : FnOk P w K mg base CX0 0 f fd ["_law_thing"] spNever := fn_never
  refine F.ok sc_listed (fun vs H Q E h => ?_) (fun cdv A outer s H vs Q E hr h => ?_)
  · obtain ⟨v, rfl, _⟩ := h
    rfl
  · obtain ⟨v, rfl, hv, k⟩ := h
    refine ⟨_, (pss_one (ps_ret (pe_ifExp (pt_val (pe_callB call_isi (by rfl) T.b_isinstance (by decide +kernel) (pa_cons (pv 0) (pa_cons (pe_bltn (v := .ty "tuple") rfl T.b_tuple (by decide +kernel) rfl) pa_nil)))) (pe_lc (own := [("_law_one_here", 1)]) (g := gName 1) (tt := tYes) rfl sc_listed.nd (pi_tup (pv 0)) (blkOk_by (own := [("_law_one_here", 1)]) (N := ["_law_thing", "_law_one_here"]) (sc := defScope s_listed) (by decide +kernel)) (fun _ _ _ _ _ => pg_name (i := 1) sc_listed.nd rfl (Or.inl rfl)) (fun _ _ _ _ _ => pts_nil) (fun _ _ _ _ _ => pe_call GL (hr.mono (by decide)) (by rfl) g_listed k_listed b_listed .nil pass0 (pa_cons (pv 1) pa_nil))) (pv 0)))), ?_⟩
    rcases hv with ⟨t, rfl⟩ | ⟨i, rfl⟩
    · refine ⟨_, rfl, _, _, _, _, _, rfl, .ty _, (btStr (K := K) (H := H) t).ty, (btStr (K := K) (H := H) t).kit (u := "tuple") (by decide), _, rfl, ?_⟩
      exact iteF ⟨_, rfl, k⟩
    · refine ⟨_, rfl, _, _, _, _, _, rfl, .ty _, (btInt (K := K) (H := H) i).ty, (btInt (K := K) (H := H) i).kit (u := "tuple") (by decide), _, rfl, ?_⟩
      exact iteF ⟨_, rfl, k⟩
theorem fn_or {f : Addr} {fd : FuncData} {ps : List Str} {k : Nat} {sp1 sp2 : Sp} (F1 : FnOk P w K mg base CX0 k f fd ps sp1) (F2 : FnOk P w K mg base CX0 k f fd ps sp2) : FnOk P w K mg base CX0 k f fd ps (fun vs H Q E => sp1 vs H Q E ∨ sp2 vs H Q E) :=
  ⟨fun vs H Q E h => h.elim (F1.len vs H Q E) (F2.len vs H Q E), fun A outer s H args us vs Q E hr e0 hb r h => h.elim (F1.run A outer s H args us vs Q E hr e0 hb r) (F2.run A outer s H args us vs Q E hr e0 hb r)⟩
theorem fn_up {f : Addr} {fd : FuncData} {ps : List Str} {k j : Nat} {sp1 : Sp} (F1 : FnOk P w K mg base CX0 k f fd ps sp1) (h : k ≤ j) : FnOk P w K mg base CX0 j f fd ps sp1 :=
  ⟨F1.len, fun A outer s H args us vs Q E hr e0 hb r h2 => F1.run A outer s H args us vs Q E (hr.mono h) e0 hb r h2⟩
def spListN : Sp := fun vs H Q _ => ∃ (q : Addr) (ns : List Int), vs = [.ref q] ∧ H q = some (.tup (ns.map V.int)) ∧ ns.length ≤ 1000 ∧ New H (.lst (ns.map V.int)) Q
theorem ok_listN {f : Addr} {fd : FuncData} (F : Fun K "_law_listed" "_law_listed" s_listed f fd) (T : TxtF K mg fII fIW) (g_listed : mg "_law_listed" = some (.ref f)) (k_listed : PySem.W.keepIn K (.ref f) = true) (b_listed : Binds K fd ["_law_thing"] []) : FnOk P w K mg base CX0 2 f fd ["_law_thing"] spListN := by
  have GL : FnOk P w K mg base CX0 1 f fd ["_law_thing"] spList0 := ok_list0 F T g_listed k_listed b_listed
  refine F.ok sc_listed (fun vs H Q E h => ?_) (fun cdv A outer s H vs Q E hr h => ?_)
  · obtain ⟨q, ns, rfl, _⟩ := h
    rfl
  · obtain ⟨q, ns, rfl, hq, few, k⟩ := h
    refine ⟨_, (pss_one (ps_ret (pe_ifExp (pt_val (pe_callB call_isi (by rfl) T.b_isinstance (by decide +kernel) (pa_cons (pv 0) (pa_cons (pe_bltn (v := .ty "tuple") rfl T.b_tuple (by decide +kernel) rfl) pa_nil)))) (pe_lc (own := [("_law_one_here", 1)]) (g := gName 1) (tt := tYes) rfl sc_listed.nd (pi_tup (pv 0)) (blkOk_by (own := [("_law_one_here", 1)]) (N := ["_law_thing", "_law_one_here"]) (sc := defScope s_listed) (by decide +kernel)) (fun _ _ _ _ _ => pg_name (i := 1) sc_listed.nd rfl (Or.inl rfl)) (fun _ _ _ _ _ => pts_nil) (fun _ _ _ _ _ => pe_call GL (hr.mono (by decide)) (by rfl) g_listed k_listed b_listed .nil pass0 (pa_cons (pv 1) pa_nil))) (pv 0)))), ?_⟩
    have bt : Bt K H (.ref q) "tuple" := ⟨.base (.tup hq), by decide⟩
    refine ⟨_, rfl, _, _, _, _, _, rfl, .ty _, bt.ty, bt.kit (u := "tuple") (by decide), _, rfl, ?_⟩
    refine iteT ?_
    refine ⟨_, rfl, q, rfl, ⟨_, .inl (.inl hq)⟩, fun D nD => lc_it (walk_tup (xs := ns.map V.int)) (fun j Hx => Same H Hx ∧ Hx D = some (.lst ((ns.map V.int).take j))) ⟨sameNew nD _, upd_same⟩ (fun j Hx _ z => .inl (.inl (z.1 _ _ hq))) (fun j x Ha Hb hj z1 z2 => ?_) (fun Hx z => k D Hx nD z.1 (by rw [z.2, List.take_length]))⟩
    obtain ⟨rfl, hx⟩ := z2
    obtain ⟨n, hn, rfl⟩ := List.mem_map.mp (List.mem_of_getElem? hx)
    refine ⟨rfl, _, rfl, .int n, rfl, .inr ⟨n, rfl⟩, _, z1.2, by rw [List.length_take, List.length_map, sizeLine_eq]; omega, same_updN z1.1 nD, ?_⟩
    rw [upd_same, List.take_succ, hx]
    rfl
/-- the row in new lists -/
def RowL (H H' : Hp) (v : V) : RowD → Prop
  | .ask op ns => ∃ a t, v = .ref a ∧ H' a = some (.lst [.str "ask", .str op, .ref t]) ∧ H' t = some (.lst (ns.map V.int)) ∧ H a = none ∧ H t = none
  | .go n => ∃ a, v = .ref a ∧ H' a = some (.lst [.str "go", .int n]) ∧ H a = none
  | .fin w => ∃ a, v = .ref a ∧ H' a = some (.lst [.str "end", .str w]) ∧ H a = none
def spListR : Sp := fun vs H Q _ => ∃ (q : Addr) (d : RowD), vs = [.ref q] ∧ TRow H (.ref q) d ∧ (targets d).length ≤ 1000 ∧ ∀ (v : V) (H' : Hp), Same H H' → RowL H H' v d → Q v H'
theorem ok_listR {f : Addr} {fd : FuncData} (F : Fun K "_law_listed" "_law_listed" s_listed f fd) (T : TxtF K mg fII fIW) (g_listed : mg "_law_listed" = some (.ref f)) (k_listed : PySem.W.keepIn K (.ref f) = true) (b_listed : Binds K fd ["_law_thing"] []) : FnOk P w K mg base CX0 3 f fd ["_law_thing"] spListR := by
  have GL : FnOk P w K mg base CX0 2 f fd ["_law_thing"] (fun vs H Q E => spList0 vs H Q E ∨ spListN vs H Q E) := fn_or (fn_up (ok_list0 F T g_listed k_listed b_listed) (by decide)) (ok_listN F T g_listed k_listed b_listed)
  refine F.ok sc_listed (fun vs H Q E h => ?_) (fun cdv A outer s H vs Q E hr h => ?_)
  · obtain ⟨q, d, rfl, _⟩ := h
    rfl
  · obtain ⟨q, d, rfl, row, few, k⟩ := h
    refine ⟨_, (pss_one (ps_ret (pe_ifExp (pt_val (pe_callB call_isi (by rfl) T.b_isinstance (by decide +kernel) (pa_cons (pv 0) (pa_cons (pe_bltn (v := .ty "tuple") rfl T.b_tuple (by decide +kernel) rfl) pa_nil)))) (pe_lc (own := [("_law_one_here", 1)]) (g := gName 1) (tt := tYes) rfl sc_listed.nd (pi_tup (pv 0)) (blkOk_by (own := [("_law_one_here", 1)]) (N := ["_law_thing", "_law_one_here"]) (sc := defScope s_listed) (by decide +kernel)) (fun _ _ _ _ _ => pg_name (i := 1) sc_listed.nd rfl (Or.inl rfl)) (fun _ _ _ _ _ => pts_nil) (fun _ _ _ _ _ => pe_call GL (hr.mono (by decide)) (by rfl) g_listed k_listed b_listed .nil pass0 (pa_cons (pv 1) pa_nil))) (pv 0)))), ?_⟩
    cases d with
    | go n =>
      obtain ⟨a, e, hq⟩ := row
      cases e
      have bt : Bt K H (.ref q) "tuple" := ⟨.base (.tup hq), by decide⟩
      refine ⟨_, rfl, _, _, _, _, _, rfl, .ty _, bt.ty, bt.kit (u := "tuple") (by decide), _, rfl, ?_⟩
      refine iteT ?_
      refine ⟨_, rfl, q, rfl, ⟨_, .inl (.inl hq)⟩, fun D nD => lc_it (walk_tup (xs := [.str "go", .int n])) (fun j Hx => Same H Hx ∧ Hx D = some (.lst (([.str "go", .int n] : List V).take j))) ⟨sameNew nD _, upd_same⟩ (fun j Hx _ z => .inl (.inl (z.1 _ _ hq))) (fun j x Ha Hb hj z1 z2 => ?_) (fun Hx z => k (.ref D) Hx z.1 ⟨D, rfl, z.2, nD⟩)⟩
      obtain ⟨rfl, hx⟩ := z2
      have hv : (∃ t : Str, x = .str t) ∨ ∃ i : Int, x = .int i := by
        rcases List.mem_cons.mp (List.mem_of_getElem? hx) with rfl | h
        · exact .inl ⟨_, rfl⟩
        · exact .inr ⟨_, List.mem_singleton.mp h⟩
      refine ⟨rfl, _, rfl, .inl ⟨x, rfl, hv, _, z1.2, by rw [sizeLine_eq]; exact Nat.lt_of_le_of_lt (List.length_take_le j _) (by have hj2 : j < 2 := hj; omega), same_updN z1.1 nD, ?_⟩⟩
      rw [upd_same, List.take_succ, hx]
      rfl
    | fin w =>
      obtain ⟨a, e, hq⟩ := row
      cases e
      have bt : Bt K H (.ref q) "tuple" := ⟨.base (.tup hq), by decide⟩
      refine ⟨_, rfl, _, _, _, _, _, rfl, .ty _, bt.ty, bt.kit (u := "tuple") (by decide), _, rfl, ?_⟩
      refine iteT ?_
      refine ⟨_, rfl, q, rfl, ⟨_, .inl (.inl hq)⟩, fun D nD => lc_it (walk_tup (xs := [.str "end", .str w])) (fun j Hx => Same H Hx ∧ Hx D = some (.lst (([.str "end", .str w] : List V).take j))) ⟨sameNew nD _, upd_same⟩ (fun j Hx _ z => .inl (.inl (z.1 _ _ hq))) (fun j x Ha Hb hj z1 z2 => ?_) (fun Hx z => k (.ref D) Hx z.1 ⟨D, rfl, z.2, nD⟩)⟩
      obtain ⟨rfl, hx⟩ := z2
      have hv : (∃ t : Str, x = .str t) ∨ ∃ i : Int, x = .int i := by
        rcases List.mem_cons.mp (List.mem_of_getElem? hx) with rfl | h
        · exact .inl ⟨_, rfl⟩
        · exact .inl ⟨_, List.mem_singleton.mp h⟩
      refine ⟨rfl, _, rfl, .inl ⟨x, rfl, hv, _, z1.2, by rw [sizeLine_eq]; exact Nat.lt_of_le_of_lt (List.length_take_le j _) (by have hj2 : j < 2 := hj; omega), same_updN z1.1 nD, ?_⟩⟩
      rw [upd_same, List.take_succ, hx]
      rfl
    | ask op ns =>
      obtain ⟨a, t, e, hq, ht⟩ := row
      cases e
      have bt : Bt K H (.ref q) "tuple" := ⟨.base (.tup hq), by decide⟩
      refine ⟨_, rfl, _, _, _, _, _, rfl, .ty _, bt.ty, bt.kit (u := "tuple") (by decide), _, rfl, ?_⟩
      refine iteT ?_
      refine ⟨_, rfl, q, rfl, ⟨_, .inl (.inl hq)⟩, fun D nD => lc_it (walk_tup (xs := [.str "ask", .str op, .ref t])) (fun j Hx => Same H Hx ∧ (j ≤ 2 → Hx D = some (.lst (([.str "ask", .str op] : List V).take j))) ∧ (j = 3 → ∃ t', Hx D = some (.lst [.str "ask", .str op, .ref t']) ∧ Hx t' = some (.lst (ns.map V.int)) ∧ H t' = none)) ⟨sameNew nD _, fun _ => upd_same, fun h => absurd h (by decide)⟩ (fun j Hx _ z => .inl (.inl (z.1 _ _ hq))) (fun j x Ha Hb hj z1 z2 => ?_) (fun Hx z => ?_)⟩
      · obtain ⟨rfl, hx⟩ := z2
        obtain ⟨sa, z1, _⟩ := z1
        match j, hj, hx, z1 with
        | 0, _, hx, z1 =>
          cases hx
          refine ⟨rfl, _, rfl, .inl ⟨_, rfl, .inl ⟨_, rfl⟩, _, z1 (by decide), by rw [sizeLine_eq]; exact Nat.lt_of_le_of_lt (show 0 ≤ 0 from Nat.le_refl 0) (by decide), same_updN sa nD, fun _ => ?_, fun h => absurd h (by decide)⟩⟩
          rw [upd_same]
          rfl
        | 1, _, hx, z1 =>
          cases hx
          refine ⟨rfl, _, rfl, .inl ⟨_, rfl, .inl ⟨_, rfl⟩, _, z1 (by decide), by rw [sizeLine_eq]; exact Nat.lt_of_le_of_lt (show 1 ≤ 1 from Nat.le_refl 1) (by decide), same_updN sa nD, fun _ => ?_, fun h => absurd h (by decide)⟩⟩
          rw [upd_same]
          rfl
        | 2, _, hx, z1 =>
          cases hx
          refine ⟨rfl, _, rfl, .inr ⟨t, ns, rfl, sa _ _ ht, few, fun t' Hc nt' sc et' => ?_⟩⟩
          have eD := sc _ _ (z1 (by decide))
          have ntD : t' ≠ D := fun z => by
            rw [z, z1 (by decide)] at nt'
            cases nt'
          refine ⟨_, eD, by rw [sizeLine_eq]; exact Nat.lt_of_le_of_lt (show 2 ≤ 2 from Nat.le_refl 2) (by decide), same_updN (sa.trans sc) nD, fun h => absurd h (by decide), fun _ => ⟨t', ?_, ?_, none_of sa nt'⟩⟩
          · rw [upd_same]
            rfl
          · rw [upd_ne ntD]
            exact et'
        | n + 3, hj, _, _ => exact absurd hj (by show ¬ n + 3 < 3; omega)
      · obtain ⟨sx, _, z⟩ := z
        obtain ⟨t', q1, q2, q3⟩ := z rfl
        exact k (.ref D) Hx sx ⟨D, t', rfl, q1, q2, nD, q3⟩
end
end Mine

set_option maxRecDepth 100000
set_option maxHeartbeats 4000000
namespace Mine
open PySem L2
abbrev s_rows : Stmt := top 43
def RowFine (dd : RowD) : Prop := PyData.strOk (rowStr dd) = true ∧ dd ≠ .fin "zz"
def spDrawRows : Sp := fun vs H Q _ => ∃ (a d : Addr) (o : Ops) (n : Nat) (x y z : Int), vs = [.ref a, .ref d, .int (n : Int)] ∧ H a = some (.lst [.int x, .int y, .int z]) ∧ H d = some (.dK (opsK o)) ∧ (o.map (·.1)).Nodup ∧ o.length < 64 ∧ (∀ q ∈ o, q.1 ∈ names8 ∧ 0 ≤ q.2 ∧ q.2 ≤ 3) ∧ 1 ≤ n ∧ n ≤ 400 ∧
  ∀ (p : Addr) (xs : List V) (rs : List RowD) (x' y' z' : Int) (H' : Hp), H p = none → rs.length = n → OkRows o rs → (∀ dd ∈ rs, RowFine dd) → But H H' a → H' a = some (.lst [.int x', .int y', .int z']) → H' p = some (.lst xs) → Rows H' xs rs → Q (.ref p) H'
structure FixR (H : Hp) (a p p3 : Addr) : Prop where
  ha : ∃ x y z : Int, H a = some (.lst [.int x, .int y, .int z])
  np : H p = none
  np3 : H p3 = none
  ne : p ≠ p3
theorem FixR.pa {H : Hp} {a p p3 : Addr} (f : FixR H a p p3) : p ≠ a := fun z => by
  obtain ⟨_, _, _, e⟩ := f.ha
  have := f.np
  rw [z, e] at this
  cases this
theorem FixR.p3a {H : Hp} {a p p3 : Addr} (f : FixR H a p p3) : p3 ≠ a := fun z => by
  obtain ⟨_, _, _, e⟩ := f.ha
  have := f.np3
  rw [z, e] at this
  cases this
structure RowsI (H : Hp) (a p p3 : Addr) (ys : List Str) (o : Ops) (n j : Nat) (H' : Hp) : Prop where
  but : But H H' a
  src : SrcAt H' a
  nm : H' p3 = some (.lst (ys.map V.str))
  made : ∃ xs rs, H' p = some (.lst xs) ∧ rs.length = j ∧ Rows H' xs rs ∧ ∀ dd ∈ rs, OkRow o n dd ∧ RowFine dd
theorem RowsI.go {H H' H'' : Hp} {a p p3 : Addr} {ys : List Str} {o : Ops} {n j : Nat} (r : RowsI H a p p3 ys o n j H') (s : Same H' H'') : RowsI H a p p3 ys o n j H'' := by
  obtain ⟨b, ⟨x, y, z, e⟩, c, xs, rs, d1, d2, d3, d4⟩ := r
  exact ⟨fun q u nq e => s _ _ (b q u nq e), ⟨x, y, z, s _ _ e⟩, s _ _ c, xs, rs, s _ _ d1, d2, d3.same s, d4⟩
theorem RowsI.draw {H H' H'' : Hp} {a p p3 : Addr} {ys : List Str} {o : Ops} {n j : Nat} (f : FixR H a p p3) (r : RowsI H a p p3 ys o n j H') (s : But H' H'' a) (e2 : SrcAt H'' a) : RowsI H a p p3 ys o n j H'' := by
  obtain ⟨b, ⟨x, y, z, e⟩, c, xs, rs, d1, d2, d3, d4⟩ := r
  refine ⟨b.trans s, e2, s _ _ f.p3a c, xs, rs, s _ _ f.pa d1, d2, ⟨d3.1, fun i dd ed => ?_⟩, d4⟩
  obtain ⟨v, h1, h2⟩ := d3.2 i dd ed
  have up : ∀ {q : Addr} {us : List V}, H' q = some (.tup us) → H'' q = some (.tup us) := fun {q us} eq => s _ _ (fun z => by rw [z, e] at eq; cases eq) eq
  refine ⟨v, h1, ?_⟩
  cases dd with
  | ask op ns =>
    obtain ⟨q, t, e1, k1, k2⟩ := h2
    exact ⟨q, t, e1, up k1, up k2⟩
  | go m =>
    obtain ⟨q, e1, k1⟩ := h2
    exact ⟨q, e1, up k1⟩
  | fin m =>
    obtain ⟨q, e1, k1⟩ := h2
    exact ⟨q, e1, up k1⟩
theorem RowsI.put {H H' : Hp} {a p p3 : Addr} {ys : List Str} {o : Ops} {n j : Nat} (f : FixR H a p p3) (r : RowsI H a p p3 ys o n j H') : ∃ xs, H' p = some (.lst xs) ∧ xs.length = j ∧ ∀ (T : Addr) (dd : RowD), TRow H' (.ref T) dd → OkRow o n dd → RowFine dd → RowsI H a p p3 ys o n (j + 1) (upd H' p (.lst (xs ++ [.ref T]))) := by
  obtain ⟨b, ⟨x, y, z, e⟩, c, xs, rs, d1, d2, d3, d4⟩ := r
  refine ⟨xs, d1, by rw [d3.1, d2], fun T dd t1 t2 t3 => ⟨fun q u nq eq => ?_, ⟨x, y, z, ?_⟩, ?_, xs ++ [.ref T], rs ++ [dd], upd_same, by rw [List.length_append, d2]; rfl, ⟨by rw [List.length_append, List.length_append, d3.1]; rfl, fun i di ei => ?_⟩, fun q hq => ?_⟩⟩
  · rw [upd_ne (ne_of_none eq f.np)]
    exact b q u nq eq
  · rw [upd_ne (Ne.symm f.pa)]
    exact e
  · rw [upd_ne (Ne.symm f.ne)]
    exact c
  · by_cases hi : i < rs.length
    · rw [List.getElem?_append_left hi] at ei
      obtain ⟨v, h1, h2⟩ := d3.2 i di ei
      exact ⟨v, by rw [List.getElem?_append_left (by rw [d3.1]; exact hi)]; exact h1, h2.other d1⟩
    · rw [List.getElem?_append_right (by omega)] at ei
      have hz : i - rs.length = 0 := by
        have := (List.getElem?_eq_some_iff.mp ei).1
        rw [List.length_singleton] at this
        omega
      rw [hz] at ei
      cases ei
      exact ⟨.ref T, by rw [List.getElem?_append_right (by rw [d3.1]; omega), d3.1, hz]; rfl, t1.other d1⟩
  · rcases List.mem_append.mp hq with h | h
    · exact d4 q h
    · rw [List.mem_singleton.mp h]
      exact ⟨t2, t3⟩
def words4 : List Str := ["good", "bad", "done", "x"]
theorem words4_raw : ∀ t ∈ words4, isNm t = true ∧ t.length ≤ 8 ∧ PyData.strOk t = true ∧ t ≠ "zz" := by decide +kernel
theorem words4_ok (t : Str) (h : t ∈ words4) : isNm t = true ∧ t.length ≤ 8 ∧ RowFine (.fin t) := by
  obtain ⟨a, b, c, d⟩ := words4_raw t h
  exact ⟨a, b, c, fun z => d (RowD.fin.inj z)⟩
theorem go_ok : PyData.strOk ("go" : Str) = true := by decide +kernel
def tElse : TS := fun D σ H' => ∃ (H : Hp) (a p p3 : Addr) (ys : List Str) (o : Ops) (n j : Nat) (way : Int) (v1 v5 v7 v8 : Option V), σ = [some (.ref a), v1, some (.int (n : Int)), some (.ref p), some (.ref p3), v5, some (.int way), v7, v8] ∧ FixR H a p p3 ∧ RowsI H a p p3 ys o n j H' ∧ 1 ≤ n ∧ n ≤ 400 ∧ j ≤ 400 ∧
  ∀ H'', RowsI H a p p3 ys o n (j + 1) H'' → D.nx σ H''
section
variable {P : Program} {w : World} {K : PySem.W.Frag} {mg : Str → Option Value} {base : Heap}
variable {fII fIW fN fO : Addr}
theorem sc_rows : FnScope ["_law_source", "_law_operations_here", "_law_many", "_law_rows_here", "_law_names", "_law_k", "_law_way", "_law_name", "_law_j"] ["_law_source", "_law_operations_here", "_law_many"] (defScope s_rows) := ⟨rfl, rfl, rfl, by decide +kernel, rfl, by decide +kernel, by decide +kernel⟩
theorem ok_draw_rows {f : Addr} {fd fdN fdO : FuncData} (F : Fun K "_law_rows" "_law_rows" s_rows f fd) (T : TxtF K mg fII fIW) (h_range : mg "range" = none) (h_sorted : mg "sorted" = none)
    (GN : FnOk P w K mg base CX0 1 fN fdN ["_law_source", "_law_many"] spNext) (b_next : Binds K fdN ["_law_source", "_law_many"] []) (g_next : mg "_law_next" = some (.ref fN)) (k_next : PySem.W.keepIn K (.ref fN) = true)
    (GO : FnOk P w K mg base CX0 2 fO fdO ["_law_source", "_law_some"] spOne) (b_one : Binds K fdO ["_law_source", "_law_some"] []) (g_one : mg "_law_one" = some (.ref fO)) (k_one : PySem.W.keepIn K (.ref fO) = true) : FnOk P w K mg base CX0 3 f fd ["_law_source", "_law_operations_here", "_law_many"] spDrawRows := by
  refine F.ok sc_rows (fun vs H Q E h => ?_) (fun cdv A outer s H vs Q E hr h => ?_)
  · obtain ⟨a, d, o, n, x, y, z, rfl, _⟩ := h
    rfl
  · obtain ⟨a, d, o, n, x, y, z, rfl, ha, hd, nd, few, okn, n1, n2, k⟩ := h
    refine ⟨_, (pss_cons (ps_par (i := 3) (j := 4) rfl sc_rows.nd rfl rfl (by decide) rfl rfl (pa_cons (pe_lstG pa_nil) (pa_cons (pe_callB cr_sortedS (by rfl) h_sorted (by decide +kernel) (pa_cons (pe_callTy (call_listD rfl) (by rfl) T.b_list (by decide +kernel) (pa_cons (pv 1) pa_nil)) pa_nil)) pa_nil)) rfl)
      (pss_cons (ps_for PassesOwn.never rfl (pi_range1 (by rfl) h_range (pa_cons (pv 2) pa_nil)) (pg_name (i := 5) sc_rows.nd rfl (Or.inl rfl))
        (pss_cons (ps_set (i := 6) sc_rows.nd rfl (Or.inl rfl) (pe_call GN (hr.mono (by decide)) (by rfl) g_next k_next b_next .nil pass0 (pa_cons (pv 0) (pa_cons pe_int pa_nil))))
        (pss_one (ps_if (PW.pt (pw_and (pt_cmpR op_lt (pv 6) pe_int (nomark _)) (pw_and1 (pt_cmpR (op_neD hr.units) (pv 4) (pe_lstG pa_nil) (nomark _)))))
          (pss_cons (ps_set (i := 7) sc_rows.nd rfl (Or.inl rfl) (pe_call GO (hr.mono (by decide)) (by rfl) g_one k_one b_one .nil pass0 (pa_cons (pv 0) (pa_cons (pv 4) pa_nil)))) (pss_one (ps_expr (pe_bm PySem.F.plainAttrs_list PySem.F.slot_list_append PySem.F.type_list_append mt_append (pv 3) (pa_cons (pe_tupG (pa_cons pe_str (pa_cons (pv 7) (pa_cons (pe_callTy call_tupleG (by rfl) T.b_tuple (by decide +kernel) (pa_cons (pe_lc (own := [("_law_j", 8)]) (g := gName 8) (tt := tYes) rfl sc_rows.nd (pi_range1 (by rfl) h_range (pa_cons (pe_dget (hu_of hr) (pv 1) (pv 7) (fun _ _ => rfl)) pa_nil)) (blkOk_by (own := [("_law_j", 8)]) (N := ["_law_source", "_law_operations_here", "_law_many", "_law_rows_here", "_law_names", "_law_k", "_law_way", "_law_name", "_law_j"]) (sc := defScope s_rows) (by decide +kernel)) (fun _ _ _ _ _ => pg_name (i := 8) sc_rows.nd rfl (Or.inl rfl)) (fun _ _ _ _ _ => pts_nil) (fun _ _ _ _ _ => (pe_call GN (hr.mono (by decide)) (by rfl) g_next k_next b_next .nil pass0 (pa_cons (pv 0) (pa_cons (pv 2) pa_nil))))) pa_nil)) pa_nil)))) pa_nil)))))
          (pss_one (ps_imp (t' := tElse) (ps_if (pt_cmpR op_eq (pv 6) pe_int (nomark _)) (pss_one (ps_expr (pe_bm PySem.F.plainAttrs_list PySem.F.slot_list_append PySem.F.type_list_append mt_append (pv 3) (pa_cons (pe_tupG (pa_cons pe_str (pa_cons (pe_call GN (hr.mono (by decide)) (by rfl) g_next k_next b_next .nil pass0 (pa_cons (pv 0) (pa_cons (pv 2) pa_nil))) pa_nil))) pa_nil)))) (pss_one (ps_expr (pe_bm PySem.F.plainAttrs_list PySem.F.slot_list_append PySem.F.type_list_append mt_append (pv 3) (pa_cons (pe_tupG (pa_cons pe_str (pa_cons (pe_call GO (hr.mono (by decide)) (by rfl) g_one k_one b_one .nil pass0 (pa_cons (pv 0) (pa_cons (pe_lstG (pa_cons pe_str (pa_cons pe_str (pa_cons pe_str (pa_cons pe_str pa_nil))))) pa_nil))) pa_nil))) pa_nil))))) (fun D σ H' q => by
        obtain ⟨H, a, p, p3, ys, o, n, j, way, v1, v5, v7, v8, rfl, fx, ri, n1, n2, j2, kk⟩ := q
        have two : ∀ v u : V, [v, u].length ≤ sizeLine := fun v u => by rw [sizeLine_eq]; exact Nat.le_trans (show 2 ≤ 2 from Nat.le_refl 2) (by decide)
        obtain ⟨x, y, z, src⟩ := ri.src
        obtain ⟨xs0, q0, _, _⟩ := ri.put fx
        refine ⟨_, rfl, rfl, _, rfl, ?_⟩
        refine ite2 (fun _ => ?_) (fun _ => ?_)
        · refine ⟨_, rfl, .inl ⟨rfl, _, SqL.of q0⟩, _, rfl, _, rfl, a, (n : Int), x, y, z, rfl, by omega, ?_, src, fun k u1 u2 u3 H4 k0 k1 bt e4 => ?_⟩
          · rw [Int.natAbs_natCast]
            exact Nat.lt_of_le_of_lt n2 (by decide)
          · refine ⟨two _ _, fun T H5 nT s5 e5 => ?_⟩
            have r5 := (ri.draw fx bt ⟨u1, u2, u3, e4⟩).go s5
            obtain ⟨xs, q1, q2, q3⟩ := r5.put fx
            exact ⟨p, xs, .ref T, rfl, rfl, q1, by rw [q2, sizeLine_eq]; omega, kk _ (q3 T (.go k) ⟨T, rfl, e5⟩ ⟨k0, k1⟩ ⟨go_ok, fun z => nomatch z⟩)⟩
        · refine ⟨_, rfl, .inl ⟨rfl, _, SqL.of q0⟩, _, rfl, Nat.le_trans (show 4 ≤ 4 from Nat.le_refl 4) (by rw [sizeLine_eq]; decide), fun p4 H3 n3 s3 e3 => ?_⟩
          refine ⟨a, p4, _, x, y, z, rfl, s3 _ _ src, e3, by show 0 < 4; decide, by show 4 ≤ 1000; decide, ne_of_none src n3, fun v x1 y1 z1 H4 mv bt e4 => ?_⟩
          have mv : v ∈ words4.map V.str := mv
          obtain ⟨t, ht, rfl⟩ := List.mem_map.mp mv
          refine ⟨two _ _, fun T H5 nT s5 e5 => ?_⟩
          have r5 := ((ri.go s3).draw fx bt ⟨x1, y1, z1, e4⟩).go s5
          obtain ⟨xs, q1, q2, q3⟩ := r5.put fx
          obtain ⟨w1, w2, w3⟩ := words4_ok t ht
          exact ⟨p, xs, .ref T, rfl, rfl, q1, by rw [q2, sizeLine_eq]; omega, kk _ (q3 T (.fin t) ⟨T, rfl, e5⟩ ⟨w1, w2⟩ w3)⟩)))))))
      (pss_one (ps_ret (pv 3))))), ?_⟩
    refine ⟨Nat.zero_le _, fun p H1 np s1 e1 => ?_⟩
    refine ⟨_, rfl, d, _, rfl, .inl (s1 _ _ hd), fun p2 np2 => ?_⟩
    have keys : ((opsK o).map fun kv => kV kv.1) = (o.map (·.1)).map V.str := by
      unfold opsK
      rw [List.map_map, List.map_map]
      rfl
    refine ⟨p2, o.map (·.1), rfl, SqL.of (by rw [upd_same, keys]), by rw [List.length_map]; exact few, fun ys p3 perm srt np3 => ⟨_, _, rfl, ?_⟩⟩
    have s2 : Same H1 (upd H1 p2 (.lst ((opsK o).map fun kv => kV kv.1))) := sameNew np2 _
    have s13 : Same H1 (upd (upd H1 p2 (.lst ((opsK o).map fun kv => kV kv.1))) p3 (.lst (ys.map V.str))) := same_updN s2 (none_of s2 np3)
    have fx : FixR H a p p3 := ⟨⟨x, y, z, ha⟩, np, none_of s1 (none_of s2 np3), fun q => by
      have := s2 _ _ e1
      rw [q, np3] at this
      cases this⟩
    have ri0 : RowsI H a p p3 ys o n 0 (upd (upd H1 p2 (.lst ((opsK o).map fun kv => kV kv.1))) p3 (.lst (ys.map V.str))) :=
      ⟨fun q u _ e => s13 _ _ (s1 _ _ e), ⟨x, y, z, s13 _ _ (s1 _ _ ha)⟩, upd_same, [], [], s13 _ _ e1, rfl, ⟨rfl, fun i dd e => by simp at e⟩, fun dd h => (nomatch h)⟩
    have da : d ≠ a := fun q => by
      rw [q, ha] at hd
      cases hd
    have inN : ∀ t ∈ ys, ∃ c, opLook o t = some c ∧ 0 ≤ c ∧ c ≤ 3 ∧ t ∈ names8 := fun t ht => by
      obtain ⟨q, hq, rfl⟩ := List.mem_map.mp (perm.mem_iff.mp ht)
      obtain ⟨a1, a2, a3⟩ := okn q hq
      exact ⟨q.2, look_mem nd q hq, a2, a3, a1⟩
    have yl : ys.length < 64 := by
      have := perm.length_eq
      rw [List.length_map] at this
      omega
    refine ⟨_, rfl, (n : Int), rfl, by omega, by omega, for_range (n := n) (fun j σ H' => ∃ v5 v6 v7 v8 : Option V, σ = [some (.ref a), some (.ref d), some (.int (n : Int)), some (.ref p), some (.ref p3), v5, v6, v7, v8] ∧ RowsI H a p p3 ys o n j H') ⟨_, _, _, _, rfl, ri0⟩ (fun j σ H' hj z => ?_) (fun σ H' z => ?_)⟩
    · obtain ⟨v5, v6, v7, v8, rfl, ri⟩ := z
      obtain ⟨x1, y1, z1, src⟩ := ri.src
      refine ⟨_, rfl, a, 9, x1, y1, z1, rfl, by decide, by decide, src, fun way u1 u2 u3 H4 w0 w1 bt e4 => ?_⟩
      have r4 := ri.draw fx bt ⟨u1, u2, u3, e4⟩
      refine ⟨_, rfl, _, _, rfl, rfl, _, rfl, ?_⟩
      refine ite2 (fun _ => ?_) (fun _ => ?_)
      · refine ⟨_, rfl, Nat.zero_le _, fun p5 H5 n5 s5 e5 => ?_⟩
        have r5 := r4.go s5
        refine ⟨.list (ys.map PyData.str), .list [], strs_dp r5.nm, .lst (SqL.of e5) .nil, strs_shaped ys (fun t ht => names8_str t (inN t ht).choose_spec.2.2.2), by decide +kernel, _, rfl, ?_⟩
        by_cases hy : ys = []
        · have e : (!PyData.eqv (.list (ys.map PyData.str)) (.list [])) = false := by rw [hy]; simp [PyData.eqv, PyData.eqvAll]
          rw [e]
          refine iteF ?_
          exact ⟨H, a, p, p3, ys, o, n, j, way, _, _, _, _, rfl, fx, r5, n1, n2, by omega, fun H'' rr => ⟨_, _, _, _, rfl, rr⟩⟩
        · have e : (!PyData.eqv (.list (ys.map PyData.str)) (.list [])) = true := by
            cases ys with
            | nil => exact absurd rfl hy
            | cons t ts => simp [PyData.eqv, PyData.eqvAll]
          rw [e]
          refine iteT ?_
          obtain ⟨x5, y5, z5, src5⟩ := r5.src
          have yp : 0 < ys.length := List.length_pos_iff.mpr hy
          refine ⟨_, rfl, _, rfl, a, p3, _, x5, y5, z5, rfl, src5, r5.nm, by rw [List.length_map]; exact yp, by rw [List.length_map]; omega, Ne.symm fx.p3a, fun v x6 y6 z6 H6 mv bt6 e6 => ?_⟩
          obtain ⟨t, ht, rfl⟩ := List.mem_map.mp mv
          obtain ⟨c, c1, c2, c3, c4⟩ := inN t ht
          have r6 := r5.draw fx bt6 ⟨x6, y6, z6, e6⟩
          obtain ⟨xs0, q0, _, _⟩ := r6.put fx
          refine ⟨_, rfl, .inl ⟨rfl, _, SqL.of q0⟩, _, rfl, _, rfl, _, rfl, d, _, rfl, .inl ⟨opsK o, .inr t, .inl (r6.but _ _ da hd), rfl, (by rw [val_ops, c1]; rfl)⟩, c, rfl, by omega, by omega, fun D nD => ?_⟩
          have Da : D ≠ a := fun q => by
            rw [q, e6] at nD
            cases nD
          refine lc_it (walk_range (lo := 0) (n := c.toNat)) (fun i Hx => But H6 Hx a ∧ SrcAt Hx a ∧ ∃ ns : List Int, Hx D = some (.lst (ns.map V.int)) ∧ ns.length = i ∧ ∀ m ∈ ns, 0 ≤ m ∧ m < (n : Int)) ⟨fun q u _ e => ?_, ⟨x6, y6, z6, ?_⟩, [], upd_same, rfl, fun _ h => (nomatch h)⟩ (fun _ _ _ _ => trivial) (fun i xx Ha Hb hi z1 z2 => ?_) (fun Hx z => ?_)
          · rw [upd_ne (ne_of_none e nD)]
            exact e
          · rw [upd_ne (Ne.symm Da)]
            exact e6
          · obtain ⟨b1, ⟨x7, y7, z7, e7⟩, ns, b2, b3, b4⟩ := z1
            obtain ⟨rfl, rfl⟩ := z2
            refine ⟨rfl, _, rfl, _, rfl, a, (n : Int), x7, y7, z7, rfl, by omega, ?_, e7, fun m u7 u8 u9 H8 m0 m1 bt8 e8 => ?_⟩
            · rw [Int.natAbs_natCast]
              exact Nat.lt_of_le_of_lt n2 (by decide)
            · refine ⟨_, bt8 _ _ Da b2, by rw [List.length_map, b3, sizeLine_eq]; omega, fun q u nq e => ?_, ⟨u7, u8, u9, ?_⟩, ns ++ [m], ?_, by rw [List.length_append, b3]; rfl, fun k hk => ?_⟩
              · rw [upd_ne (ne_of_none e nD)]
                exact bt8 _ _ nq (b1 _ _ nq e)
              · rw [upd_ne (Ne.symm Da)]
                exact e8
              · rw [upd_same, List.map_append]
                rfl
              · rcases List.mem_append.mp hk with h | h
                · exact b4 k h
                · rw [List.mem_singleton.mp h]
                  exact ⟨m0, m1⟩
          · obtain ⟨b1, b5, ns, b2, b3, b4⟩ := z
            have r7 := r6.draw fx b1 b5
            refine ⟨D, _, rfl, .inl b2, fun tt H8 s8 e8 => ?_⟩
            refine ⟨by rw [sizeLine_eq]; exact Nat.le_trans (show 3 ≤ 3 from Nat.le_refl 3) (by decide), fun T H9 nT s9 e9 => ?_⟩
            have r9 := (r7.go s8).go s9
            obtain ⟨xs, q1, q2, q3⟩ := r9.put fx
            refine ⟨p, xs, .ref T, rfl, rfl, q1, by rw [q2, sizeLine_eq]; omega, ?_⟩
            exact ⟨_, _, _, _, rfl, q3 T (.ask t ns) ⟨T, tt, rfl, e9, s9 _ _ e8⟩ ⟨by rw [c1, b3]; congr 1; omega, by omega, b4⟩ ⟨names8_str t c4, fun z => nomatch z⟩⟩
      · exact ⟨H, a, p, p3, ys, o, n, j, way, _, _, _, _, rfl, fx, r4, n1, n2, by omega, fun H'' rr => ⟨_, _, _, _, rfl, rr⟩⟩
    · obtain ⟨v5, v6, v7, v8, rfl, bu, ⟨x1, y1, z1, src⟩, nm, xs, rs, d1, d2, d3, d4⟩ := z
      refine ⟨_, rfl, k p xs rs x1 y1 z1 H' np d2 (fun i dd e => ?_) (fun dd h => (d4 dd h).2) bu src d1 d3⟩
      rw [d2]
      exact (d4 dd (List.mem_of_getElem? e)).1
end
end Mine

set_option maxRecDepth 100000
set_option maxHeartbeats 4000000
namespace L2
open PySem PySem.Spec PyProof.Rows
section
variable {X : Cx} {es : List Expr} {kws : List Keyword} {t : TA}
theorem PA.mono (h : PA X es t) : PA X es (fun σ H R => ∃ R', t σ H R' ∧ ∀ vs H1, R' vs H1 → R vs H1) := ⟨fun pos pins s σ H R I ⟨R', h1, h2⟩ => thn (h.run pos pins s σ H R' I h1) fun us s1 ⟨vs, H1, I1, r, q⟩ => ⟨vs, H1, I1, r, h2 _ _ q⟩⟩
theorem PK.mono (h : PK X kws t) : PK X kws (fun σ H R => ∃ R', t σ H R' ∧ ∀ vs H1, R' vs H1 → R vs H1) := ⟨fun pos pins s σ H R I ⟨R', h1, h2⟩ => thn (h.run pos pins s σ H R' I h1) fun us s1 ⟨vs, H1, I1, r, q⟩ => ⟨vs, H1, I1, r, h2 _ _ q⟩⟩
end
end L2
namespace Mine
open PySem L2
abbrev s_unlike : Stmt := top 46
/-- the parts of a right body of fewer than 64 rows -/
structure OkB (o : Ops) (rs : List RowD) (b : Nat) : Prop where
  ops : OkOps o
  lo : 1 ≤ rs.length
  hi : rs.length < 64
  rows : OkRows o rs
  lt : b < rs.length
theorem OkB.few {o : Ops} {rs : List RowD} {b : Nat} (h : OkB o rs b) (x : Str) : (distinct x (restD rs b)).length < 64 := by
  have h1 := distinct_len x (restD rs b)
  have h2 : (restD rs b).length ≤ rs.length := by
    unfold restD
    rw [List.length_map]
    exact (metAt_few h.rows.fit h.lt rs.length).len
  have := h.hi
  omega
/-- Body(d, r, start=b), as it is told here -/
def tBody (CB CM : Addr) (t tk : TA) : TE := fun σ H Q => t σ H fun vs H1 => tk σ H1 fun zs H2 => ∃ (d r : Addr) (xs : List V) (rs : List RowD) (o : Ops) (b : Nat), vs = [.ref d, .ref r] ∧ zs = [.int b] ∧ H2 d = some (.dK (opsK o)) ∧ SqA H2 r xs ∧ RowsIn H2 xs rs ∧ OkB o rs b ∧
  ∀ bd H3, H2 bd = none → Same H2 H3 → BodyN CB CM H2 H3 bd o rs b → Q (.ref bd) H3
abbrev KS : List Str := ["start"]
abbrev zo : Ops := [("zz", 1)]
abbrev PB : List Str := ["self", "operations", "rows", "start"]
theorem bindB {K : PySem.W.Frag} {fd : FuncData} (h : ∀ (a b c d : Value), bindArgs fd ⟨[a, b, c], [(("start" : Str), d)]⟩ = pure ([(("self" : Str), a), ("operations", b), ("rows", c), ("start", d)] : List (Str × Value))) : KBn K fd PB (2 + 1) KS (fun us ws => us ++ ws) (fun vs zs => vs ++ zs) where
  to := fun s us ws _ l1 l2 => match us, ws, l1, l2 with
    | [a, b, c], [d], _, _ => .of_eq (h a b c d)
  rel := fun r rz => r.append rz
section
variable {X : Cx} {CB CM f : Addr} {fd : FuncData} {x : Str} {p pos : Pos} {e : Expr} {es : List Expr} {kws : List Keyword} {t tk : TA}
theorem body_end {H2 : Hp} {Q : VK} {E : XK} {d r : Addr} {xs : List V} {rs : List RowD} {o : Ops} {b : Nat} (hd : H2 d = some (.dK (opsK o))) (hx : SqA H2 r xs) (rows : RowsIn H2 xs rs) (ok : OkB o rs b) (k : ∀ bd H3, H2 bd = none → Same H2 H3 → BodyN CB CM H2 H3 bd o rs b → Q (.ref bd) H3)
    (bd dx : Addr) (nb : H2 bd = none) (nd : H2 dx = none) (ne : dx ≠ bd) : spBody CB CM [.ref bd, .ref d, .ref r, .int b] (upd (upd H2 dx (.own bd)) bd (.ins CB dx [])) (fun v H3 => v = .non ∧ Q (.ref bd) H3) E := by
  have sm : Same H2 (upd (upd H2 dx (.own bd)) bd (.ins CB dx [])) := same_updN (same_updN (Same.refl _) nd) nb
  exact ⟨bd, d, r, dx, xs, rs, o, b, rfl, upd_same, sm _ _ hd, ok.ops, sm.sqa hx, rows.same sm, ok.lo, by have := ok.hi; omega, ok.rows, ok.lt, ok.few "ask", ok.few "end", fun H' s' B => ⟨rfl, k bd H' nb (fun b2 u e => s' b2 u (ne_of_none e nb) (sm _ _ e)) (by
    obtain ⟨m, t, l, sa, aa, ea, o', xs, as, es, h, n1, n2, n3, n4, n5, n6⟩ := B
    exact ⟨m, t, l, sa, aa, ea, o', xs, as, es, h, none_of sm n1, none_of sm n2, none_of sm n3, none_of sm n4, none_of sm n5, none_of sm n6⟩)⟩⟩
theorem pe_body (M : Mk X.K CB f) (F : FnOk X.prog X.w X.K X.mg X.base CX0 7 f fd PB (spBody CB CM)) (hr : Room 8 X.A) (hg : Gl X x) (hm : X.mg x = some (.ref CB)) (hb : KBn X.K fd PB (2 + 1) KS (fun us ws => us ++ ws) (fun vs zs => vs ++ zs)) (ha : PA X (e :: es) t) (hkw : PK X kws tk)
    (hall : (backToKw pos (keywordEach kws X.env)).all (·.1.isSome) = true := by rfl) (hks : (backToKw pos (keywordEach kws X.env)).filterMap (·.1) = KS := by rfl) (hdb : (x == ("__debug__" : Str)) = false := by decide)
    (he : starEach (e :: es) X.env = (false, eval e X.env) :: starEach es X.env := by rfl) (hpl : ((backTo pos (starEach (e :: es) X.env)).any (·.1) || (backToKw pos (keywordEach kws X.env)).any (·.1.isNone)) = false := by rfl) :
    PE X (.Call (.Name x p) (e :: es) kws pos) (tBody CB CM t tk) := by
  refine pe_imp (pe_makeK (E := E0) M F hr hg hm hb pass0 ha.mono hkw.mono hall hks hdb he hpl) fun σ H Q q => ?_
  refine ⟨_, q, fun vs H1 q1 => ⟨_, q1, fun zs H2 q2 => ?_⟩⟩
  obtain ⟨d, r, xs, rs, o, b, rfl, rfl, hd, hx, rows, ok, k⟩ := q2
  exact ⟨rfl, rfl, fun bd dx nb nd ne => body_end hd hx rows ok k bd dx nb nd ne⟩
end
theorem look_more {o : Ops} {x : Str} {n : Int} (m : Ops) (h : opLook o x = some n) : opLook (o ++ m) x = some n := by
  unfold opLook at h ⊢
  rw [List.find?_append]
  cases e : o.find? (fun p => decide (p.1 = x)) with
  | none => rw [e] at h; cases h
  | some q => rw [e] at h; exact h
theorem OkRow.more {o : Ops} {k m : Int} {d : RowD} (p : Ops) (le : k ≤ m) (h : OkRow o k d) : OkRow (o ++ p) m d := by
  cases d with
  | ask op ns => exact ⟨look_more p h.1, h.2.1, fun n hn => ⟨(h.2.2 n hn).1, Int.lt_of_lt_of_le (h.2.2 n hn).2 le⟩⟩
  | go n => exact ⟨h.1, Int.lt_of_lt_of_le h.2 le⟩
  | fin w => exact h
theorem OkRow.wide {o : Ops} {k m : Int} {d : RowD} (le : k ≤ m) (h : OkRow o k d) : OkRow o m d := by
  cases d with
  | ask op ns => exact ⟨h.1, h.2.1, fun n hn => ⟨(h.2.2 n hn).1, Int.lt_of_lt_of_le (h.2.2 n hn).2 le⟩⟩
  | go n => exact ⟨h.1, Int.lt_of_lt_of_le h.2 le⟩
  | fin w => exact h
def zz : RowD := .fin "zz"
theorem zz_ok (o : Ops) (m : Int) : OkRow o m zz := by
  show isNm "zz" = true ∧ ("zz" : Str).length ≤ 8
  decide +kernel
theorem zz_str : PyData.strOk (rowStr zz) = true := by
  show PyData.strOk ("zz" : Str) = true
  decide +kernel
theorem zz_name : isNm ("zz" : Str) = true ∧ ("zz" : Str) ∉ names8 := by decide +kernel
theorem OkRows.mem {o : Ops} {rs : List RowD} (h : ∀ d ∈ rs, OkRow o rs.length d) : OkRows o rs := fun _ d e => h d (List.mem_of_getElem? e)
theorem OkRows.of {o : Ops} {rs : List RowD} (h : OkRows o rs) {d : RowD} (hd : d ∈ rs) : OkRow o rs.length d := by
  obtain ⟨i, e⟩ := List.getElem?_of_mem hd
  exact h i d e
theorem Rows.inn {H : Hp} {xs : List V} {rs : List RowD} (h : Rows H xs rs) : RowsIn H xs rs := ⟨h.1, fun i d e => by
  obtain ⟨x, h1, h2⟩ := h.2 i d e
  exact ⟨x, h1, h2.row⟩⟩
theorem OkB.ops1 {o : Ops} {rs : List RowD} {b : Nat} (h : OkB o rs b) (few : o.length ≤ 4) (nm : ∀ q ∈ o, q.1 ∈ names8) : OkB (o ++ zo) rs b := by
  refine ⟨⟨by rw [List.length_append]; show o.length + 1 ≤ 8; omega, fun p hp => ?_, ?_⟩, h.lo, h.hi, fun i d e => (h.rows i d e).more _ (Int.le_refl _), h.lt⟩
  · rcases List.mem_append.mp hp with z | z
    · exact h.ops.each p z
    · rw [List.mem_singleton.mp z]
      exact ⟨zz_name.1, by decide, by decide⟩
  · rw [List.map_append, List.nodup_append]
    refine ⟨h.ops.nd, by simp, fun x hx y hy e => ?_⟩
    have hy' : y = "zz" := List.mem_singleton.mp hy
    obtain ⟨q, hq, rfl⟩ := List.mem_map.mp hx
    exact zz_name.2 (by rw [← hy', ← e]; exact nm q hq)
theorem OkB.last {o : Ops} {rs : List RowD} {b : Nat} (h : OkB o rs b) (few : rs.length ≤ 12) : OkB o (rs ++ [zz]) b := by
  have el : (rs ++ [zz]).length = rs.length + 1 := by rw [List.length_append]; rfl
  refine ⟨h.ops, by omega, by omega, OkRows.mem fun d hd => ?_, by have := h.lt; omega⟩
  rcases List.mem_append.mp hd with z | z
  · exact (h.rows.of z).wide (by omega)
  · rw [List.mem_singleton.mp z]
    exact zz_ok _ _
theorem OkB.first {o : Ops} {rs : List RowD} {b : Nat} (h : OkB o rs b) : OkB o (zz :: rs.drop 1) b := by
  have el : (zz :: rs.drop 1).length = rs.length := by
    rw [List.length_cons, List.length_drop]
    have := h.lo
    omega
  refine ⟨h.ops, by have := h.lo; omega, by have := h.hi; omega, OkRows.mem fun d hd => ?_, by have := h.lt; omega⟩
  rcases List.mem_cons.mp hd with z | z
  · rw [z]
    exact zz_ok _ _
  · exact (h.rows.of (List.mem_of_mem_drop z)).wide (by omega)
/-- another body, with at least one other part -/
def Unl (CB CM : Addr) (H : Hp) (q : Addr) (o : Ops) (rs : List RowD) (b : Nat) : Prop := ∃ (o2 : Ops) (rs2 : List RowD) (b2 : Nat), BodyAt CB CM H q o2 rs2 b2 ∧ StrsOk rs2 ∧ (o.length ≠ o2.length ∨ rs ≠ rs2 ∨ b ≠ b2)
theorem Unl.same {CB CM : Addr} {H H' : Hp} {q : Addr} {o : Ops} {rs : List RowD} {b : Nat} (s : Same H H') (h : Unl CB CM H q o rs b) : Unl CB CM H' q o rs b := by
  obtain ⟨o2, rs2, b2, h1, h2, h3⟩ := h
  exact ⟨o2, rs2, b2, h1.same s, h2, h3⟩
/-- a list of bodies that grows is no part of a body -/
theorem BodyP.other {CB CM : Addr} {H : Hp} {lo q C dq : Addr} {fq : List (Str × V)} {ys : List V} {u : HO} {bd : Addr} {o : Ops} {rs : List RowD} {b : Nat} {m t l sa aa ea : Addr} {o' : Ops} {xs : List V} {as es : List Str} (e : H lo = some (.lst (V.ref q :: ys))) (hq : H q = some (.ins C dq fq))
    (h : BodyP CB CM H bd o rs b m t l sa aa ea o' xs as es) : BodyP CB CM (upd H lo u) bd o rs b m t l sa aa ea o' xs as es := by
  have up : ∀ {a : Addr} {w : HO}, H a = some w → (∀ zs, w ≠ .lst zs) → upd H lo u a = some w := fun {a w} g n => by
    rw [upd_ne (fun z => by rw [z, e] at g; exact n _ (Option.some.inj g).symm)]
    exact g
  have upl : ∀ {a : Addr} {zs : List V}, H a = some (.lst zs) → zs.head? ≠ some (V.ref q) → upd H lo u a = some (.lst zs) := fun {a zs} g n => by
    rw [upd_ne (fun z => by rw [z, e] at g; cases g; exact n rfl)]
    exact g
  have hStr : ∀ ts : List Str, (ts.map V.str).head? ≠ some (V.ref q) := fun ts => by
    cases ts with
    | nil => exact fun z => nomatch z
    | cons t ts => exact fun z => nomatch Option.some.inj z
  obtain ⟨⟨dx, fb, h1, h2⟩, ⟨dm, fm, h3, h4⟩, h5, h6, h7, h8, h9, dw, hw⟩ := h
  refine ⟨⟨dx, fb, up h1 (fun _ z => nomatch z), h2⟩, ⟨dm, fm, up h3 (fun _ z => nomatch z), ⟨h4.counts, h4.lines, h4.begin, h4.stops, h4.asks, h4.endings, h4.endless, upl h4.hs ?_, upl h4.ha (hStr _), upl h4.he (hStr _), h4.fa, h4.fe⟩⟩, up h5 (fun _ z => nomatch z), h6, upl h7 ?_, ⟨h8.1, fun i d ei => ?_⟩, h9, dw, up hw (fun _ z => nomatch z)⟩
  · unfold fl
    cases hn : rs.length with
    | zero => exact fun z => nomatch z
    | succ n =>
      rw [List.range_succ_eq_map]
      exact fun z => nomatch Option.some.inj z
  · cases xs with
    | nil => exact fun z => nomatch z
    | cons x xs =>
      intro z
      have hx : x = V.ref q := Option.some.inj z
      have e0 : rs[0]? = some rs[0] := List.getElem?_eq_getElem (by omega)
      obtain ⟨y, y1, y2⟩ := h8.2 0 _ e0
      have hy : x = y := Option.some.inj y1
      rw [← hy, hx] at y2
      generalize rs[0] = d0 at y2
      cases d0 with
      | ask op ns =>
        obtain ⟨a, t', e1, k1, _⟩ := y2
        rw [← V.ref.inj e1, hq] at k1
        cases k1
      | go k =>
        obtain ⟨a, e1, k1⟩ := y2
        rw [← V.ref.inj e1, hq] at k1
        cases k1
      | fin w =>
        obtain ⟨a, e1, k1⟩ := y2
        rw [← V.ref.inj e1, hq] at k1
        cases k1
  · obtain ⟨x, x1, x2⟩ := h8.2 i d ei
    exact ⟨x, x1, x2.other e⟩
theorem BodyAt.other {CB CM : Addr} {H : Hp} {lo q C dq : Addr} {fq : List (Str × V)} {ys : List V} {u : HO} {bd : Addr} {o : Ops} {rs : List RowD} {b : Nat} (e : H lo = some (.lst (V.ref q :: ys))) (hq : H q = some (.ins C dq fq)) (h : BodyAt CB CM H bd o rs b) : BodyAt CB CM (upd H lo u) bd o rs b := by
  obtain ⟨m, t, l, sa, aa, ea, o', xs, as, es, h⟩ := h
  exact ⟨m, t, l, sa, aa, ea, o', xs, as, es, h.other e hq⟩
theorem BodyAt.ins {CB CM : Addr} {H : Hp} {bd : Addr} {o : Ops} {rs : List RowD} {b : Nat} (h : BodyAt CB CM H bd o rs b) : ∃ dx fb, H bd = some (.ins CB dx fb) := by
  obtain ⟨m, t, l, sa, aa, ea, o', xs, as, es, h⟩ := h
  obtain ⟨dx, fb, h1, _⟩ := h.hb
  exact ⟨dx, fb, h1⟩
/-- the bodies so far stand in the list lo -/
structure Othr (CB CM : Addr) (H0 H : Hp) (lo : Addr) (o : Ops) (rs : List RowD) (b : Nat) (qs : List Addr) : Prop where
  same : Same H0 H
  nlo : H0 lo = none
  at_ : H lo = some (.lst (qs.map V.ref))
  each : ∀ q ∈ qs, Unl CB CM H q o rs b
theorem Othr.go {CB CM : Addr} {H0 H H' : Hp} {lo : Addr} {o : Ops} {rs : List RowD} {b : Nat} {qs : List Addr} (h : Othr CB CM H0 H lo o rs b qs) (s : Same H H') : Othr CB CM H0 H' lo o rs b qs :=
  ⟨h.same.trans s, h.nlo, s _ _ h.at_, fun q hq => (h.each q hq).same s⟩
theorem Othr.push {CB CM : Addr} {H0 H : Hp} {lo q q0 : Addr} {o : Ops} {rs : List RowD} {b : Nat} {qs : List Addr} (h : Othr CB CM H0 H lo o rs b (q0 :: qs)) (n : Unl CB CM H q o rs b) : Othr CB CM H0 (upd H lo (.lst ((q0 :: qs).map V.ref ++ [.ref q]))) lo o rs b (q0 :: qs ++ [q]) := by
  obtain ⟨o2, rs2, b2, B, _, _⟩ := h.each q0 List.mem_cons_self
  obtain ⟨dx, fb, hq⟩ := B.ins
  have up : ∀ {q'}, Unl CB CM H q' o rs b → Unl CB CM (upd H lo (.lst ((q0 :: qs).map V.ref ++ [.ref q]))) q' o rs b := fun {q'} z => by
    obtain ⟨o3, rs3, b3, B3, z1, z2⟩ := z
    exact ⟨o3, rs3, b3, B3.other h.at_ hq, z1, z2⟩
  refine ⟨fun a w ea => ?_, h.nlo, by rw [upd_same, List.map_append]; rfl, fun q' hq' => ?_⟩
  · rw [upd_ne (ne_of_none ea h.nlo)]
    exact h.same _ _ ea
  · rcases List.mem_append.mp hq' with z | z
    · exact up (h.each q' z)
    · rw [List.mem_singleton.mp z]
      exact up n
def spUnlike (CB CM : Addr) : Sp := fun vs H Q _ => ∃ (d r : Addr) (o : Ops) (xs : List V) (rs : List RowD) (b : Nat), vs = [.ref d, .ref r, .int b] ∧ H d = some (.dK (opsK o)) ∧ H r = some (.lst xs) ∧ Rows H xs rs ∧ OkB o rs b ∧ rs.length ≤ 12 ∧ o.length ≤ 4 ∧ (∀ q ∈ o, q.1 ∈ names8) ∧ (∀ dd ∈ rs, RowFine dd) ∧
  ∀ (p : Addr) (qs : List Addr) (H' : Hp), H p = none → Same H H' → H' p = some (.lst (qs.map V.ref)) → qs.length ≤ 4 → (∀ q ∈ qs, Unl CB CM H' q o rs b) → Q (.ref p) H'
section
variable {P : Program} {w : World} {K : PySem.W.Frag} {mg : Str → Option Value} {base : Heap}
variable {fII fIW CB CM fB : Addr}
theorem sc_unlike : FnScope ["_law_operations_here", "_law_rows_here", "_law_begin", "_law_more", "_law_others"] ["_law_operations_here", "_law_rows_here", "_law_begin"] (defScope s_unlike) := ⟨rfl, rfl, rfl, by decide +kernel, rfl, by decide +kernel, by decide +kernel⟩
theorem ok_unlike {f : Addr} {fd fdB : FuncData} (F : Fun K "_law_unlike" "_law_unlike" s_unlike f fd) (T : TxtF K mg fII fIW)
    (MB : Mk K CB fB) (GB : FnOk P w K mg base CX0 7 fB fdB PB (spBody CB CM)) (kB : KBn K fdB PB (2 + 1) KS (fun us ws => us ++ ws) (fun vs zs => vs ++ zs)) (g_Body : mg "Body" = some (.ref CB)) : FnOk P w K mg base CX0 9 f fd ["_law_operations_here", "_law_rows_here", "_law_begin"] (spUnlike CB CM) := by
  refine F.ok sc_unlike (fun vs H Q E h => ?_) (fun cdv A outer s H vs Q E hr h => ?_)
  · obtain ⟨d, r, o, xs, rs, b, rfl, _⟩ := h
    rfl
  · obtain ⟨d, r, o, xs, rs, b, rfl, hd, hr1, rows, ok, few, fewo, nm, fine, k⟩ := h
    refine ⟨_, (pss_cons (ps_set (i := 3) sc_unlike.nd rfl (Or.inl rfl) (pe_callTy (call_dictP rfl) (by rfl) T.b_dict (by decide +kernel) (pa_cons (pe_op op_catG (LiI.pe_listItems rfl (pv 0) (by rfl) T.b_list (by decide +kernel)) (pe_lstG (pa_cons (pe_tupG (pa_cons pe_str (pa_cons pe_int pa_nil))) pa_nil))) pa_nil)))
      (pss_cons (ps_set (i := 4) sc_unlike.nd rfl (Or.inl rfl) (pe_lstG (pa_cons (pe_body MB GB (hr.mono (by decide)) (by rfl) g_Body kB (pa_cons (pv 3) (pa_cons (pv 1) pa_nil)) (pk_cons (pv 2) pk_nil)) (pa_cons (pe_body MB GB (hr.mono (by decide)) (by rfl) g_Body kB (pa_cons (pv 0) (pa_cons (pe_op op_catG (pv 1) (pe_lstG (pa_cons (pe_tupG (pa_cons pe_str (pa_cons pe_str pa_nil))) pa_nil))) pa_nil)) (pk_cons (pv 2) pk_nil)) pa_nil))))
      (pss_cons (ps_expr (pe_bm PySem.F.plainAttrs_list PySem.F.slot_list_append PySem.F.type_list_append mt_append (pv 4) (pa_cons (pe_body MB GB (hr.mono (by decide)) (by rfl) g_Body kB (pa_cons (pv 0) (pa_cons (pe_op op_catG (pe_lstG (pa_cons (pe_tupG (pa_cons pe_str (pa_cons pe_str pa_nil))) pa_nil)) (pe_slice sl_listG (pv 1) (po_some pe_int) po_none)) pa_nil)) (pk_cons (pv 2) pk_nil)) pa_nil)))
      (pss_cons (ps_if (pt_cmpR op_gt (pe_callB call_len_seq (by rfl) T.b_len PySem.boot_len (pa_cons (pv 1) pa_nil)) pe_int (nomark _)) (pss_one (ps_expr (pe_bm PySem.F.plainAttrs_list PySem.F.slot_list_append PySem.F.type_list_append mt_append (pv 4) (pa_cons (pe_body MB GB (hr.mono (by decide)) (by rfl) g_Body kB (pa_cons (pv 0) (pa_cons (pv 1) pa_nil)) (pk_cons (pe_callTy call_int1 (by rfl) T.b_int (by decide +kernel) (pa_cons (pe_cmpR op_eq (pv 2) pe_int (nomark _)) pa_nil)) pk_nil)) pa_nil)))) pss_nil)
      (pss_one (ps_ret (pv 4))))))), ?_⟩
    have S0 : Same H H := Same.refl _
    have two : ∀ v u : V, [v, u].length ≤ sizeLine := fun v u => by rw [sizeLine_eq]; exact Nat.le_trans (show 2 ≤ 2 from Nat.le_refl 2) (by decide)
    have one : ∀ v : V, [v].length ≤ sizeLine := fun v => by rw [sizeLine_eq]; exact Nat.le_trans (show 1 ≤ 1 from Nat.le_refl 1) (by decide)
    have few2 : xs.length ≤ 12 := by rw [rows.1]; exact few
    refine ⟨_, rfl, d, opsK o, rfl, hd, fun H1 p1 ts s1 np1 nts nin hp1 pr => ?_⟩
    have s1 : Same H H1 := s1
    refine ⟨two _ _, fun T2 H2 nT2 s2 e2 => ⟨one _, fun L2 H3 nL2 s3 e3 => ?_⟩⟩
    have lts : ts.length = o.length := by rw [pr.length, opsK_len]
    refine ⟨p1, L2, _, _, rfl, rfl, s3 _ _ (s2 _ _ hp1), e3, by rw [List.length_map, sizeLine_eq, lts]; exact Nat.le_trans (show o.length + 1 ≤ 5 by omega) (by decide), fun q4 H4 nq4 s4 e4 => ?_⟩
    have e8 : opsK (o ++ zo) = opsK o ++ ([(Sum.inr "zz", V.int 1)] : List (Key × V)) := by
      unfold opsK
      rw [List.map_append]
      rfl
    have okB1 := ok.ops1 fewo nm
    refine ⟨q4, ts ++ [T2], opsK (o ++ zo), rfl, SqL.of (by rw [List.map_append]; exact e4), ?_, fun p5 np5 => ?_⟩
    · rw [e8]
      exact paired_snoc (R := fun (p : Addr) (kv : Key × V) => SqT K H4 p [kV kv.1, kv.2]) (x := T2) (y := ((Sum.inr "zz", V.int 1) : Key × V)) (.inl (.inl (s4 _ _ (s3 _ _ e2)))) (paired_imp (fun p kv e => .inl (.inl (s4 _ _ (s3 _ _ (s2 _ _ e))))) pr)
    rw [merge_ops okB1.ops.nd]
    have s04 : Same H H4 := s1.trans (s2.trans (s3.trans s4))
    have s5 : Same H (upd H4 p5 (.dK (opsK (o ++ zo)))) := same_updN s04 (none_of s04 np5)
    have e5 : (upd H4 p5 (.dK (opsK (o ++ zo)))) p5 = some (.dK (opsK (o ++ zo))) := upd_same
    generalize upd H4 p5 (.dK (opsK (o ++ zo))) = H5 at s5 e5 ⊢
    refine ⟨_, rfl, _, rfl, _, rfl, p5, r, xs, rs, _, b, rfl, rfl, e5, .inl (s5 _ _ hr1), (rows.same s5).inn, okB1, fun b1 H6 nb1 s6 B1n => ?_⟩
    have B1 := B1n.at
    refine ⟨_, rfl, _, rfl, two _ _, fun T7 H7 nT7 s7 e7 => ⟨one _, fun L8 H8 nL8 s8 e8' => ?_⟩⟩
    have s08 : Same H H8 := s5.trans (s6.trans (s7.trans s8))
    refine ⟨r, L8, xs, _, rfl, rfl, s08 _ _ hr1, e8', by rw [sizeLine_eq]; exact Nat.le_trans (show xs.length + 1 ≤ 13 by omega) (by decide), fun q9 H9 nq9 s9 e9 => ?_⟩
    have s09 : Same H H9 := s08.trans s9
    have rows2 : Rows H9 (xs ++ [V.ref T7]) (rs ++ [zz]) := by
      refine ⟨by rw [List.length_append, List.length_append, rows.1]; rfl, fun i di ei => ?_⟩
      by_cases hi : i < rs.length
      · rw [List.getElem?_append_left hi] at ei
        obtain ⟨v, h1, h2⟩ := (rows.same s09).2 i di ei
        exact ⟨v, by rw [List.getElem?_append_left (by rw [rows.1]; exact hi)]; exact h1, h2⟩
      · rw [List.getElem?_append_right (by omega)] at ei
        have hz : i - rs.length = 0 := by
          have := (List.getElem?_eq_some_iff.mp ei).1
          rw [List.length_singleton] at this
          omega
        rw [hz] at ei
        cases ei
        exact ⟨.ref T7, by rw [List.getElem?_append_right (by rw [rows.1]; omega), rows.1, hz]; rfl, T7, rfl, s9 _ _ (s8 _ _ e7)⟩
    refine ⟨_, rfl, d, q9, _, _, o, b, rfl, rfl, s09 _ _ hd, .inl e9, rows2.inn, ok.last few, fun b2 H10 nb2 s10 B2n => ⟨two _ _, fun lo H11 nlo s11 e11 => ?_⟩⟩
    have B2 := B2n.at
    have s011 : Same H H11 := s09.trans (s10.trans s11)
    refine ⟨_, rfl, .inl ⟨rfl, _, SqL.of e11⟩, _, rfl, two _ _, fun T12 H12 nT12 s12 e12 => ⟨one _, fun L13 H13 nL13 s13 e13 => ?_⟩⟩
    have s013 : Same H H13 := s011.trans (s12.trans s13)
    refine ⟨_, rfl, _, rfl, r, xs, rfl, SqL.of (s013 _ _ hr1), fun q14 H14 nq14 s14 e14 => ?_⟩
    have cut : cutV xs (some 1) none = xs.drop 1 := by
      unfold cutV
      rw [show ((1 : Int)) = ((1 : Nat) : Int) from rfl, HT.sIx_nat, HT.sIx_none, Nat.min_eq_left (by rw [rows.1]; exact ok.lo)]
      exact List.take_of_length_le (by rw [List.length_drop]; omega)
    rw [cut] at e14
    refine ⟨L13, q14, _, _, rfl, rfl, s14 _ _ e13, e14, by rw [List.length_drop, sizeLine_eq]; exact Nat.le_trans (show 1 + (xs.length - 1) ≤ 13 by omega) (by decide), fun q15 H15 nq15 s15 e15 => ?_⟩
    have s015 : Same H H15 := s013.trans (s14.trans s15)
    have rows3 : Rows H15 ([V.ref T12] ++ xs.drop 1) (zz :: rs.drop 1) := by
      refine ⟨by simp only [List.length_append, List.length_cons, List.length_drop, List.length_nil, rows.1]; omega, fun i di ei => ?_⟩
      cases i with
      | zero =>
        have : zz = di := Option.some.inj ei
        subst this
        exact ⟨.ref T12, rfl, T12, rfl, s15 _ _ (s14 _ _ (s13 _ _ e12))⟩
      | succ i =>
        rw [List.getElem?_cons_succ, List.getElem?_drop] at ei
        obtain ⟨v, h1, h2⟩ := (rows.same s015).2 (1 + i) di ei
        exact ⟨v, by rw [List.singleton_append, List.getElem?_cons_succ, List.getElem?_drop]; exact h1, h2⟩
    refine ⟨_, rfl, d, q15, _, _, o, b, rfl, rfl, s015 _ _ hd, .inl e15, rows3.inn, ok.first, fun b3 H16 nb3 s16 B3n => ?_⟩
    have B3 := B3n.at
    have sz : ∀ {n : Nat}, n ≤ 8 → n ≤ sizeLine := fun {n} h => by rw [sizeLine_eq]; exact Nat.le_trans h (by decide)
    have sOk : StrsOk rs := fun dd hdd => (fine dd hdd).1
    have nlo0 : H lo = none := none_of (s09.trans s10) nlo
    have ot2 : Othr CB CM H H11 lo o rs b [b1, b2] := ⟨s011, nlo0, e11, fun q hq => by
      rcases List.mem_cons.mp hq with z | z
      · rw [z]
        exact ⟨_, _, _, B1.same (s7.trans (s8.trans (s9.trans (s10.trans s11)))), sOk, .inl (by rw [List.length_append]; show o.length ≠ o.length + 1; omega)⟩
      · rw [List.mem_singleton.mp z]
        refine ⟨_, _, _, B2.same s11, fun dd hdd => ?_, .inr (.inl fun z => ?_)⟩
        · rcases List.mem_append.mp hdd with y | y
          · exact sOk dd y
          · rw [List.mem_singleton.mp y]
            exact zz_str
        · have := congrArg List.length z
          rw [List.length_append] at this
          simp at this⟩
    have u3 : Unl CB CM H16 b3 o rs b := ⟨_, _, _, B3, fun dd hdd => by
      rcases List.mem_cons.mp hdd with y | y
      · rw [y]
        exact zz_str
      · exact sOk dd (List.mem_of_mem_drop y), .inr (.inl fun z => by
        have hm : zz ∈ rs := by
          rw [z]
          exact List.mem_cons_self
        exact (fine _ hm).2 rfl)⟩
    have ot3 := (ot2.go (s12.trans (s13.trans (s14.trans (s15.trans s16))))).push u3
    refine ⟨lo, _, .ref b3, rfl, rfl, (ot2.go (s12.trans (s13.trans (s14.trans (s15.trans s16))))).at_, sz (by show 2 + 1 ≤ 8; decide), ?_⟩
    generalize upd H16 lo (.lst ([b1, b2].map V.ref ++ [.ref b3])) = H17 at ot3 ⊢
    refine ⟨_, rfl, r, xs, rfl, .inl (SqL.of (ot3.same _ _ hr1)), _, _, rfl, rfl, _, rfl, ?_⟩
    refine ite2 (fun big => ?_) (fun _ => ?_)
    · have big2 : 1 < xs.length := by
        have := of_decide_eq_true big
        omega
      have eb : (if decide (V.int (b : Int) = V.int 0) = true then (1 : Int) else 0) = ((if b = 0 then 1 else 0 : Nat) : Int) := by
        by_cases h0 : b = 0
        · subst h0
          rfl
        · rw [if_neg h0, if_neg (fun z => h0 (by have := V.int.inj (of_decide_eq_true z); omega))]
          rfl
      have ok4 : OkB o rs (if b = 0 then 1 else 0) := ⟨ok.ops, ok.lo, ok.hi, ok.rows, by split <;> (have := rows.1; omega)⟩
      refine ⟨_, rfl, .inl ⟨rfl, _, SqL.of ot3.at_⟩, _, rfl, _, rfl, _, rfl, rfl, .inr ⟨_, rfl, d, r, xs, rs, o, (if b = 0 then 1 else 0), rfl, congrArg (fun n => [V.int n]) eb, ot3.same _ _ hd, .inl (ot3.same _ _ hr1), (rows.same ot3.same).inn, ok4, fun b4 H18 nb4 s18 B4n => ?_⟩⟩
      have B4 := B4n.at
      have u4 : Unl CB CM H18 b4 o rs b := ⟨_, _, _, B4, sOk, .inr (.inr (by split <;> omega))⟩
      have ot4 := (ot3.go s18).push u4
      exact ⟨lo, _, .ref b4, rfl, rfl, (ot3.go s18).at_, sz (by show 3 + 1 ≤ 8; decide), _, rfl, k lo _ _ nlo0 ot4.same ot4.at_ (by show 4 ≤ 4; decide) ot4.each⟩
    · exact ⟨_, rfl, k lo _ _ nlo0 ot3.same ot3.at_ (by show 3 ≤ 4; decide) ot3.each⟩
end
end Mine

set_option maxRecDepth 100000
set_option maxHeartbeats 4000000
namespace Mine
open PySem L2
abbrev s_right : Stmt := top 47
abbrev NR : List Str := ["_law_source", "_law_operations_here", "_law_rows_here", "_law_begin", "_law_given", "_law_some", "_law_row", "_law_body", "_law_twin", "_law_at", "_law_odd", "_law_other", "_law_thing"]
def nthS (d : Stmt) : List Stmt → Nat → Stmt
  | [], _ => d
  | s :: _, 0 => s
  | _ :: r, n + 1 => nthS d r n
abbrev stR (n : Nat) : Stmt := nthS s_right (defBody s_right) n
/-- what is told of the class of bodies -/
structure BodyF (P : Program) (w : World) (K : PySem.W.Frag) (mg : Str → Option Value) (base : Heap) (CB CM : Addr) : Prop where
  cl : BodyC K CB
  rows : ∃ f fd, Meth K CB "rows" f ∧ FnOk P w K mg base CX0 1 f fd ["self"] (spBRows CB CM) ∧ Binds K fd ["self"] []
  ops : ∃ f fd, Meth K CB "operations" f ∧ FnOk P w K mg base CX0 1 f fd ["self"] (spBOps CB CM) ∧ Binds K fd ["self"] []
  asked : ∃ f fd, Meth K CB "asked" f ∧ FnOk P w K mg base CX0 1 f fd ["self"] (spBAsked CB CM) ∧ Binds K fd ["self"] []
  words : ∃ f fd, Meth K CB "words" f ∧ FnOk P w K mg base CX0 1 f fd ["self"] (spBWords CB CM) ∧ Binds K fd ["self"] []
  len : ∃ f fd, PySem.W.findIn K (.ref CB) "__len__" = some (some (.ref f)) ∧ PySem.W.isFn K (.ref f) = true ∧ FnOk P w K mg base CX0 1 f fd ["self"] (spBLen CB CM) ∧ Binds K fd ["self"] []
  get : ∃ f fd CN, PySem.W.findIn K (.ref CB) "__getitem__" = some (some (.ref f)) ∧ PySem.W.fnIn K f = true ∧ PySem.W.isFn K (.ref f) = true ∧ FnOk P w K mg base (L2.CX P w) 4 f fd ["self", "index"] (spGet K CB CM CN) ∧ Binds K fd ["self", "index"] []
  eq : ∃ f fd, PySem.W.findIn K (.ref CB) "__eq__" = some (some (.ref f)) ∧ PySem.W.isFn K (.ref f) = true ∧ FnOk P w K mg base CX0 2 f fd ["self", "other"] (spBEq K CB CM) ∧ Binds K fd ["self", "other"] []
  ne : PySem.W.findIn K (.ref CB) "__ne__" = some (some (.builtin "object.__ne__"))
  ob : PySem.W.subIn K (.ref CB) (.type "object") = some true
  start : ∃ p g fd, PropOf K CB "start" p g ∧ FnOk P w K mg base CX0 1 g fd ["self"] (spBStart CB CM) ∧ Binds K fd ["self"] []
  I : BodyI K CB
  odd : ∀ ty ∈ ["NoneType", "int", "str", "list", "tuple", "dict"], PySem.W.kitOne K (.type ty) (.ref CB) = some false ∧ PySem.W.notFirst K CB (.type ty) = true
/-- the state ahead of the checks -/
structure RightS (CB CM : Addr) (Z : Hp) (a0 : Addr) (H : Hp) (d r bd tw : Addr) (o og : Ops) (xs : List V) (rs : List RowD) (b : Nat) : Prop where
  hd : H d = some (.dK (opsK o))
  hr : H r = some (.lst xs)
  rows : Rows H xs rs
  ok : OkB o rs b
  few : rs.length ≤ 12
  fewo : o.length ≤ 4
  nm : ∀ q ∈ o, q.1 ∈ names8
  fine : ∀ dd ∈ rs, RowFine dd
  perm : og.Perm o
  B : BodyAt CB CM H bd og rs b
  T : BodyAt CB CM H tw o rs b
  bt : But Z H a0
  src : SrcAt H a0
theorem RightS.same {CB CM a0 : Addr} {Z H H' : Hp} {d r bd tw : Addr} {o og : Ops} {xs : List V} {rs : List RowD} {b : Nat} (h : RightS CB CM Z a0 H d r bd tw o og xs rs b) (s : Same H H') : RightS CB CM Z a0 H' d r bd tw o og xs rs b :=
  ⟨s _ _ h.hd, s _ _ h.hr, h.rows.same s, h.ok, h.few, h.fewo, h.nm, h.fine, h.perm, h.B.same s, h.T.same s, fun q u n e => s _ _ (h.bt q u n e), by
    obtain ⟨x, y, z, e⟩ := h.src
    exact ⟨x, y, z, s _ _ e⟩⟩
theorem RightS.strs {CB CM a0 : Addr} {Z H : Hp} {d r bd tw : Addr} {o og : Ops} {xs : List V} {rs : List RowD} {b : Nat} (h : RightS CB CM Z a0 H d r bd tw o og xs rs b) : StrsOk rs := fun dd hd => (h.fine dd hd).1
def Pr (CB CM : Addr) (Z : Hp) (a0 : Addr) (σ : St) (H : Hp) : Prop := ∃ (d r bd tw : Addr) (v0 v4 v5 v6 v9 v10 v11 v12 : Option V) (o og : Ops) (xs : List V) (rs : List RowD) (b : Nat), σ = [v0, some (.ref d), some (.ref r), some (.int (b : Int)), v4, v5, v6, some (.ref bd), some (.ref tw), v9, v10, v11, v12] ∧ RightS CB CM Z a0 H d r bd tw o og xs rs b
/-- a statement that looks only -/
def tChk (CB CM : Addr) (Z : Hp) (a0 : Addr) : TS := fun D σ H => Pr CB CM Z a0 σ H ∧ ∀ σ' H', Pr CB CM Z a0 σ' H' → D.nx σ' H'
theorem BodyAt.one {CB CM : Addr} {H : Hp} {bd : Addr} {o : Ops} {rs : List RowD} {b : Nat} (h : BodyAt CB CM H bd o rs b) : ∃ dx m, H bd = some (.ins CB dx [("machine", V.ref m)]) := by
  obtain ⟨m, t, l, sa, aa, ea, o', xs, as, es, h⟩ := h
  obtain ⟨dx, e⟩ := h.own
  exact ⟨dx, m, e⟩
theorem nf_self {K : PySem.W.Frag} {C : Addr} : PySem.W.notFirst K C (.ref C) = true := by
  unfold PySem.W.notFirst
  simp
section
variable {P : Program} {w : World} {K : PySem.W.Frag} {mg : Str → Option Value} {base : Heap}
variable {fII fIW CB CM f a0 : Addr} {Z : Hp}
theorem sc_right : FnScope NR ["_law_source"] (defScope s_right) := ⟨rfl, rfl, rfl, by decide +kernel, rfl, by decide +kernel, by decide +kernel⟩
/-- body == twin, as the layer wants it -/
theorem eq_twin {Q : VK} {H : Hp} {bd tw : Addr} {o1 o2 : Ops} {rs1 rs2 : List RowD} {b1 b2 : Nat} (BF : BodyF P w K mg base CB CM) (B : BodyAt CB CM H bd o1 rs1 b1) (W : BodyAt CB CM H tw o2 rs2 b2) (s1 : StrsOk rs1) (s2 : StrsOk rs2)
    (q : ∀ o1' o2', Ordered o1 o1' → Ordered o2 o2' → Q (.bl (eqM o1' rs1 b1 o2' rs2 b2)) H) : ∃ (a dx : Addr) (fs : List (Str × V)) (t : Value), V.ref bd = .ref a ∧ H a = some (.ins CB dx fs) ∧ TyX K H (V.ref tw) t ∧ PySem.W.notFirst K CB t = true ∧ spBEq K CB CM [.ref a, V.ref tw] H Q E0 := by
  obtain ⟨m, t, l, sa, aa, ea, o', xs, as, es, h⟩ := B
  obtain ⟨m2, t2, l2, sa2, aa2, ea2, o2', xs2, as2, es2, h2⟩ := W
  obtain ⟨dx, e⟩ := h.own
  obtain ⟨dx2, e2⟩ := h2.own
  exact ⟨bd, dx, _, .ref CB, rfl, e, .base (.ins e2 BF.cl.cl BF.I.ha BF.I.hn BF.I.ht BF.I.hm), nf_self, bd, o1, rs1, b1, .ref tw, m, t, l, sa, aa, ea, o', xs, as, es, rfl, h, .inl ⟨tw, o2, rs2, b2, m2, t2, l2, sa2, aa2, ea2, o2', xs2, as2, es2, rfl, h2, s1, s2, q _ _ h.ord h2.ord⟩⟩
theorem Ordered.nd {o o' : Ops} (h : Ordered o o') (nd : (o.map (·.1)).Nodup) : (o'.map (·.1)).Nodup := (h.1.map (·.1)).nodup_iff.mpr nd
theorem chk13 {cdv : Value} {A : Around} {outer : List Env} {s : Shared} {H0 : Hp} {E : XK} (hr : Room 12 (A.deeper (PyProof.Rows.envOfC "_law_right" (defScope s_right) s.heap.objs.size f cdv))) (T : TxtF K mg fII fIW) (BF : BodyF P w K mg base CB CM) :
    PS (cxOf CX0 P w K mg base NR "_law_right" (defScope s_right) f cdv A outer s H0 E).nox (stR 13) (tChk CB CM Z a0) := by
  obtain ⟨f_rows, fd_rows, m_rows, G_rows, b_rows⟩ := BF.rows
  obtain ⟨f_ops, fd_ops, m_ops, G_ops, b_ops⟩ := BF.ops
  obtain ⟨fl_, fd_len, s_len, f_len, G_len, b_len⟩ := BF.len
  obtain ⟨ps_, gs_, fd_start, p_start, G_start, b_start⟩ := BF.start
  refine ps_imp (ps_if (PW.pt (pw_or (pt_cmpR (op_neD hr.units) (pe_meth0 (pv 7) BF.cl.cl m_rows G_rows (hr.mono (by decide)) b_rows .nil pass0) (pv 2) (nomark _)) (pw_or (pt_cmpR (op_ne_dictI hr.units0) (pe_meth0 (pv 7) BF.cl.cl m_ops G_ops (hr.mono (by decide)) b_ops .nil pass0) (pv 1) (nomark _)) (pw_or (pt_cmpR op_ne (pe_prop (pv 7) BF.cl.cl p_start G_start (hr.mono (by decide)) b_start .nil pass0 (by rfl)) (pv 3) (nomark _)) (pw_or1 (pt_cmpR op_ne (pe_callB (call_lenO G_len (hr.mono (by decide)) b_len pass0 s_len f_len) (by rfl) T.b_len PySem.boot_len (pa_cons (pv 7) pa_nil)) (pe_callB call_len_seq (by rfl) T.b_len PySem.boot_len (pa_cons (pv 2) pa_nil)) (nomark _))))))) (pss_one ps_no) pss_nil) fun D σ H q => ?_
  obtain ⟨⟨d, r, bd, tw, v0, v4, v5, v6, v9, v10, v11, v12, o, og, xs, rs, b, rfl, R⟩, k⟩ := q
  obtain ⟨dx, m, eb⟩ := R.B.one
  refine ⟨_, rfl, bd, dx, _, rfl, eb, by rfl, bd, og, rs, b, rfl, R.B, fun ys rows' p1 H1 n1 s1 e1 => ?_⟩
  have R1 := R.same s1
  refine ⟨_, rfl, .list (rs.map rowP), .list (rs.map rowP), (rows'.same s1).dp e1, R1.rows.dp R1.hr, rows_shaped R.strs, rows_shaped R.strs, _, rfl, ?_⟩
  rw [(rows_eqv rs rs).mpr rfl]
  refine iteF ?_
  obtain ⟨dx1, m1, eb1⟩ := R1.B.one
  refine ⟨_, rfl, bd, dx1, _, rfl, eb1, by rfl, bd, og, rs, b, rfl, R1.B, fun o' ord p2 H2 n2 s2 e2 => ?_⟩
  have R2 := R1.same s2
  refine ⟨_, rfl, p2, d, opsK o', opsK o, rfl, rfl, e2, R2.hd, opsK_ints _, opsK_ints _, _, rfl, ?_⟩
  have eo : ((opsK o').length == (opsK o).length && hitB (opsK o) (opsK o')) = true := eqO_perm R.ok.ops.nd (ord.1.trans R.perm)
  rw [eo]
  refine iteF ?_
  obtain ⟨dx2, m2, eb2⟩ := R2.B.one
  refine ⟨_, rfl, bd, dx2, _, rfl, eb2, ⟨bd, og, rs, b, rfl, R2.B, _, rfl, rfl, _, rfl, ?_⟩⟩
  rw [decide_eq_true (show V.int (b : Int) = V.int (b : Int) from rfl)]
  refine iteF ?_
  refine ⟨_, rfl, bd, dx2, _, rfl, eb2, bd, og, rs, b, rfl, R2.B, rs.length, rfl, by omega, by have := R.few; omega, ?_⟩
  refine ⟨_, rfl, r, xs, rfl, .inl (SqL.of R2.hr), rfl, _, rfl, ?_⟩
  rw [decide_eq_true (show V.int (rs.length : Int) = V.int (xs.length : Int) from by rw [R.rows.1])]
  exact iteF (k _ _ ⟨d, r, bd, tw, _, _, _, _, _, _, _, _, o, og, xs, rs, b, rfl, R2⟩)
theorem chk14 {cdv : Value} {A : Around} {outer : List Env} {s : Shared} {H0 : Hp} {E : XK} (hr : Room 12 (A.deeper (PyProof.Rows.envOfC "_law_right" (defScope s_right) s.heap.objs.size f cdv))) (T : TxtF K mg fII fIW) (BF : BodyF P w K mg base CB CM) (h_range : mg "range" = none) :
    PS (cxOf CX0 P w K mg base NR "_law_right" (defScope s_right) f cdv A outer s H0 E).nox (stR 14) (tChk CB CM Z a0) := by
  obtain ⟨fg_, fd_get, CN, s_get, f_get, n_get, G_get, b_get⟩ := BF.get
  obtain ⟨fe_, fd_eq, s_eq, f_eq, G_eq, b_eq⟩ := BF.eq
  refine ps_imp (ps_if (PW.pt (pw_or (pt_cmpR (op_neD hr.units) (pe_lc (own := [("_law_at", 9)]) (g := gName 9) (tt := tYes) rfl sc_right.nd (pi_range1 (by rfl) h_range (pa_cons (pe_callB call_len_seq (by rfl) T.b_len PySem.boot_len (pa_cons (pv 2) pa_nil)) pa_nil)) (blkOk_by (own := [("_law_at", 9)]) (N := NR) (sc := defScope s_right) (by decide +kernel)) (fun _ _ _ _ _ => pg_name (i := 9) sc_right.nd rfl (Or.inl rfl)) (fun _ _ _ _ _ => pts_nil) (fun _ _ _ _ _ => (pe_ixOS (E := fun _ _ _ _ => False) G_get (hr.mono (by decide)) b_get (fun σ => passAt (takesNo) σ) s_get f_get n_get (pv 7) (pv 9) (fun _ _ => by with_unfolding_all rfl)))) (pv 2) (nomark _)) (pw_or (pt_cmpR (show OpR _ _ (rNeO K CB (spBEq K CB CM) E0) from op_neO G_eq (hr.mono (by decide)) b_eq pass0 s_eq f_eq BF.ne BF.ob (hu_of hr)) (pv 7) (pv 8) (nomark _)) (pw_or1 (pt_not (pt_cmpR (show OpR _ _ (rEqO K CB (spBEq K CB CM) E0) from op_eqO G_eq (hr.mono (by decide)) b_eq pass0 s_eq f_eq) (pv 7) (pv 8) (nomark _))))))) (pss_one ps_no) pss_nil) fun D σ H q => ?_
  obtain ⟨⟨d, r, bd, tw, v0, v4, v5, v6, v9, v10, v11, v12, o, og, xs, rs, b, rfl, R⟩, k⟩ := q
  refine ⟨_, rfl, r, xs, rfl, .inl (SqL.of R.hr), (xs.length : Int), rfl, by omega, by have := R.few; have := R.rows.1; omega, fun p np => ?_⟩
  refine lc_it (walk_range (lo := 0) (n := xs.length)) (fun i Hx => Grown H p rs i Hx) ⟨sameNew np _, [], rfl, upd_same, fun j dj hj => absurd hj (Nat.not_lt_zero _)⟩ (fun _ _ _ _ => trivial) (fun i xx Ha Hb hi z1 z2 => ?_) (fun Hx z => ?_)
  · obtain ⟨rfl, rfl⟩ := z2
    have Ra := R.same z1.same
    obtain ⟨ys, y1, y2, y3⟩ := z1.at_
    obtain ⟨dx, m, eb⟩ := Ra.B.one
    have hi2 : i < rs.length := by have := R.rows.1; omega
    refine ⟨rfl, _, rfl, _, rfl, bd, dx, _, rfl, eb, bd, og, rs, b, _, "int", rfl, Ra.B, btInt _, by have := R.few; omega, .inl ⟨i, rs[i], by simp, List.getElem?_eq_getElem hi2, fun v tv => ?_⟩⟩
    refine ⟨ys, y2, by rw [y1, sizeLine_eq]; have := R.few; omega, fun a u e => ?_, ys ++ [v], by rw [List.length_append, y1]; rfl, upd_same, fun j dj hj ej => ?_⟩
    · rw [upd_ne (ne_of_none e np)]
      exact z1.same _ _ e
    · by_cases hl : j < i
      · obtain ⟨y, f1, f2⟩ := y3 j dj hl ej
        exact ⟨y, by rw [List.getElem?_append_left (by omega)]; exact f1, f2.other y2⟩
      · have hji : j = i := by omega
        subst hji
        rw [List.getElem?_eq_getElem hi2] at ej
        cases ej
        exact ⟨v, by rw [List.getElem?_append_right (by omega), y1, Nat.sub_self]; rfl, tv.other y2⟩
  · obtain ⟨ys, y1, y2, y3⟩ := z.at_
    have Rx := R.same z.same
    have rr : Rows Hx ys rs := ⟨by rw [y1]; exact R.rows.1, fun i dd e => y3 i dd (by have := (List.getElem?_eq_some_iff.mp e).1; have := R.rows.1; omega) e⟩
    refine ⟨_, rfl, .list (rs.map rowP), .list (rs.map rowP), rr.dp y2, Rx.rows.dp Rx.hr, rows_shaped R.strs, rows_shaped R.strs, _, rfl, ?_⟩
    rw [(rows_eqv rs rs).mpr rfl]
    refine iteF ?_
    refine ⟨_, rfl, _, rfl, eq_twin BF Rx.B Rx.T R.strs R.strs fun o1 o2 d1 d2 => ⟨_, rfl, _, rfl, ?_⟩⟩
    have pm : o1.Perm o2 := d1.1.trans (R.perm.trans d2.1.symm)
    rw [eqM_same (d2.nd R.ok.ops.nd) pm]
    refine iteF ?_
    refine ⟨_, rfl, _, rfl, eq_twin BF Rx.B Rx.T R.strs R.strs fun o1 o2 d1 d2 => ⟨_, rfl, _, rfl, ?_⟩⟩
    have pm : o1.Perm o2 := d1.1.trans (R.perm.trans d2.1.symm)
    rw [eqM_same (d2.nd R.ok.ops.nd) pm]
    exact iteF (k _ _ ⟨d, r, bd, tw, _, _, _, _, _, _, _, _, o, og, xs, rs, b, rfl, Rx⟩)
end
end Mine

set_option maxRecDepth 100000
set_option maxHeartbeats 4000000
namespace Mine
open PySem L2
def Odd (K : PySem.W.Frag) (H : Hp) (n : Nat) (v : V) : Prop := (∃ ty, Bt K H v ty) ∧ inW v 0 ((n : Int) - 1) = false ∧ Good K H v
theorem Odd.same {K : PySem.W.Frag} {H H' : Hp} {n : Nat} {v : V} (s : Same H H') (h : Odd K H n v) : Odd K H' n v := by
  obtain ⟨⟨ty, bt⟩, i, g⟩ := h
  exact ⟨⟨ty, bt.same s⟩, i, g.same s⟩
theorem inW_off {i : Int} {n : Nat} (h : i < 0 ∨ (n : Int) ≤ i) : inW (.int i) 0 ((n : Int) - 1) = false := by
  show (decide (0 ≤ i) && decide (i ≤ (n : Int) - 1)) = false
  rw [Bool.and_eq_false_iff]
  rcases h with h | h
  · exact .inl (decide_eq_false (by omega))
  · exact .inr (decide_eq_false (by omega))
theorem odd_of {K : PySem.W.Frag} {H : Hp} {v : V} {n : Nat} {ty : String} (b : Bt K H v ty) (h : (ty == "int") = false) (g : Good K H v) : Odd K H n v := ⟨⟨ty, b⟩, inW_of b h _ _, g⟩
/-- a right end of the def -/
def tEnd (CB CM : Addr) (Z : Hp) (a0 : Addr) : TS := fun D σ H => Pr CB CM Z a0 σ H ∧ ∀ H', But Z H' a0 → SrcAt H' a0 → D.rt (.bl true) H'
section
variable {P : Program} {w : World} {K : PySem.W.Frag} {mg : Str → Option Value} {base : Heap}
variable {fII fIW CB CM f fNR fUN a0 : Addr} {Z : Hp}
theorem eq_odd {Q : VK} {H : Hp} {bd : Addr} {y : V} {ty : String} {o1 : Ops} {rs1 : List RowD} {b1 : Nat} (BF : BodyF P w K mg base CB CM) (B : BodyAt CB CM H bd o1 rs1 b1) (bt : Bt K H y ty) (hm : ty ∈ ["NoneType", "int", "str", "list", "tuple", "dict"])
    (q : Q (.bl false) H) : ∃ (a dx : Addr) (fs : List (Str × V)) (t : Value), V.ref bd = .ref a ∧ H a = some (.ins CB dx fs) ∧ TyX K H y t ∧ PySem.W.notFirst K CB t = true ∧ spBEq K CB CM [.ref a, y] H Q E0 := by
  obtain ⟨m, t, l, sa, aa, ea, o', xs, as, es, h⟩ := B
  obtain ⟨dx, e⟩ := h.own
  obtain ⟨k1, k2⟩ := BF.odd ty hm
  exact ⟨bd, dx, _, .type ty, rfl, e, bt.ty, k2, bd, o1, rs1, b1, y, m, t, l, sa, aa, ea, o', xs, as, es, rfl, h, .inr ⟨.type ty, bt.ty, k1, q⟩⟩
theorem chk15 {cdv : Value} {A : Around} {outer : List Env} {s : Shared} {H0 : Hp} {E : XK} {fdNR : FuncData} (hA : Bare A) (hr : Room 12 (A.deeper (PyProof.Rows.envOfC "_law_right" (defScope s_right) s.heap.objs.size f cdv))) (T : TxtF K mg fII fIW) (BF : BodyF P w K mg base CB CM)
    (G_nr : FnG P w K mg base CX0 6 fNR fdNR ["_law_body", "_law_thing"] (spIsNoRow K CB CM)) (b_nr : Binds K fdNR ["_law_body", "_law_thing"] []) (g_nr : mg "_law_is_no_row" = some (.ref fNR)) (k_nr : PySem.W.keepIn K (.ref fNR) = true) :
    PS (cxOf CX0 P w K mg base NR "_law_right" (defScope s_right) f cdv A outer s H0 E).nox (stR 15) (tChk CB CM Z a0) := by
  have one : ∀ v : V, [v].length ≤ sizeLine := fun v => by rw [sizeLine_eq]; exact Nat.le_trans (show 1 ≤ 1 from Nat.le_refl 1) (by decide)
  refine ps_imp (ps_for PassesOwn.never rfl (pi_list (pe_lstG (pa_cons (pe_callB call_len_seq (by rfl) T.b_len PySem.boot_len (pa_cons (pv 2) pa_nil)) (pa_cons (pe_un un_neg pe_int) (pa_cons pe_non (pa_cons pe_bl (pa_cons pe_str (pa_cons (pe_tupG (pa_cons pe_int pa_nil)) (pa_cons (pe_lstG (pa_cons pe_int pa_nil)) (pa_cons pe_dnewK (pa_cons pe_bl (pa_cons (pe_op op_pow pe_int pe_int) pa_nil)))))))))))) (pg_name (i := 10) sc_right.nd rfl (Or.inl rfl)) (pss_one (ps_if (pt_not (pt_val (pe_callG G_nr (hA.deeper _) (hr.mono (by decide)) (by rfl) g_nr k_nr b_nr .nil pass0 (pa_cons (pv 7) (pa_cons (pv 10) pa_nil))))) (pss_one ps_no) pss_nil))) fun D σ H q => ?_
  obtain ⟨⟨d, r, bd, tw, v0, v4, v5, v6, v9, v10, v11, v12, o, og, xs, rs, b, rfl, R⟩, k⟩ := q
  refine ⟨_, rfl, r, xs, rfl, .inl (SqL.of R.hr), _, rfl, one _, fun T1 H1 n1 s1 e1 => ⟨one _, fun L2 H2 n2 s2 e2 => fun p3 np3 => ⟨_, _, rfl, rfl, ⟨by decide, by decide, by decide⟩, ?_⟩⟩⟩
  have s3 : Same H2 (upd H2 p3 (.dK [])) := sameNew np3 _
  have e3 : upd H2 p3 (.dK []) p3 = some (.dK []) := upd_same
  generalize upd H2 p3 (.dK []) = H3 at s3 e3 ⊢
  refine ⟨by rw [sizeLine_eq]; exact Nat.le_trans (show 10 ≤ 10 from Nat.le_refl 10) (by decide), fun pl Hl nl sl el => ?_⟩
  have sA : Same H Hl := s1.trans (s2.trans (s3.trans sl))
  have lx : xs.length = rs.length := R.rows.1
  have few := R.few
  have lo := R.ok.lo
  refine ⟨pl, rfl, ⟨_, SqL.of el⟩, for_list (K := K) (a := pl) (fun i σ H' => ∃ v10 : Option V, σ = [v0, some (.ref d), some (.ref r), some (.int (b : Int)), v4, v5, v6, some (.ref bd), some (.ref tw), v9, v10, v11, v12] ∧ Same Hl H') ⟨_, rfl, Same.refl _⟩ (fun i σ H' _ z => SqL.of (by obtain ⟨_, _, s⟩ := z; exact s _ _ el)) (fun i x σ H' hx z => ?_) (fun σ H' z => ?_)⟩
  · obtain ⟨v10', rfl, sg⟩ := z
    have e1' := sl _ _ (s3 _ _ (s2 _ _ e1))
    have e2' := sl _ _ (s3 _ _ e2)
    have e3' := sl _ _ e3
    have od : Odd K Hl rs.length x := by
      have hm := List.mem_of_getElem? hx
      simp only [List.mem_cons, List.not_mem_nil, or_false] at hm
      rcases hm with rfl | rfl | rfl | rfl | rfl | rfl | rfl | rfl | rfl | rfl
      · exact ⟨⟨"int", btInt _⟩, inW_off (.inr (by omega)), ⟨_, .inl ⟨.int _, rfl⟩, fine_int (by omega) (by omega)⟩⟩
      · exact ⟨⟨"int", btInt _⟩, inW_off (.inl (by decide)), ⟨.int (-1), .inl ⟨.int (-1), rfl⟩, by decide +kernel, by decide +kernel, by decide +kernel, by decide +kernel⟩⟩
      · exact odd_of (ty := "NoneType") ⟨.base .non, by decide⟩ (by decide) ⟨.none, .inl ⟨.non, rfl⟩, by decide +kernel, by decide +kernel, by decide +kernel, by decide +kernel⟩
      · exact odd_of (ty := "bool") ⟨.base (.bl true), by decide⟩ (by decide) ⟨.bool true, .inl ⟨.bl true, rfl⟩, by decide +kernel, by decide +kernel, by decide +kernel, by decide +kernel⟩
      · exact odd_of (ty := "str") (btStr _) (by decide) ⟨.str "0", .inl ⟨.str "0", rfl⟩, by decide +kernel, by decide +kernel, by decide +kernel, by decide +kernel⟩
      · exact odd_of (ty := "tuple") ⟨.base (.tup e1'), by decide⟩ (by decide) ⟨.tuple [.int 0], .inl ⟨.tup (.inl (.inl e1')) (.cons (.int 0) .nil), rfl⟩, by decide +kernel, by decide +kernel, by decide +kernel, by decide +kernel⟩
      · exact odd_of (ty := "list") ⟨.base (.lst e2'), by decide⟩ (by decide) ⟨.list [.int 0], .inl ⟨.lst (SqL.of e2') (.cons (.int 0) .nil), rfl⟩, by decide +kernel, by decide +kernel, by decide +kernel, by decide +kernel⟩
      · exact odd_of (ty := "dict") ⟨.base (.dK e3'), by decide⟩ (by decide) ⟨.dict [], .inr ⟨p3, [], rfl, e3', rfl⟩, by decide +kernel, by decide +kernel, by decide +kernel, by decide +kernel⟩
      · exact odd_of (ty := "bool") ⟨.base (.bl false), by decide⟩ (by decide) ⟨.bool false, .inl ⟨.bl false, rfl⟩, by decide +kernel, by decide +kernel, by decide +kernel, by decide +kernel⟩
      · exact ⟨⟨"int", btInt _⟩, inW_off (.inr (by show (rs.length : Int) ≤ 1000000000; omega)), ⟨_, .inl ⟨.int _, rfl⟩, fine_int (by decide) (by decide)⟩⟩
    obtain ⟨⟨ty, bt⟩, iw, gd⟩ := od.same sg
    refine ⟨_, rfl, _, rfl, bd, og, rs, b, x, ty, rfl, R.B.same (sA.trans sg), bt, by omega, iw, gd, fun H'' s'' => ⟨_, rfl, ?_⟩⟩
    exact iteF ⟨_, rfl, sg.trans s''⟩
  · obtain ⟨v10', rfl, sg⟩ := z
    exact k _ _ ⟨d, r, bd, tw, _, _, _, _, _, _, _, _, o, og, xs, rs, b, rfl, R.same (sA.trans sg)⟩
theorem unl_ne {o o1 o2 o2' og : Ops} {rs rs2 : List RowD} {b b2 : Nat} (h : o.length ≠ o2.length ∨ rs ≠ rs2 ∨ b ≠ b2) (p1 : o1.Perm og) (p2 : og.Perm o) (p3 : o2'.Perm o2) : eqM o1 rs b o2' rs2 b2 = false ∧ eqM o2' rs2 b2 o1 rs b = false := by
  have l1 := p1.length_eq
  have l2 := p2.length_eq
  have l3 := p3.length_eq
  rcases h with h | h | h
  · exact ⟨eqM_ops (by omega), eqM_ops (by omega)⟩
  · exact ⟨eqM_rows h, eqM_rows (Ne.symm h)⟩
  · exact ⟨eqM_start h, eqM_start (Ne.symm h)⟩
theorem chk16 {cdv : Value} {A : Around} {outer : List Env} {s : Shared} {H0 : Hp} {E : XK} {fdUN : FuncData} (hr : Room 12 (A.deeper (PyProof.Rows.envOfC "_law_right" (defScope s_right) s.heap.objs.size f cdv))) (T : TxtF K mg fII fIW) (BF : BodyF P w K mg base CB CM)
    (G_un : FnOk P w K mg base CX0 9 fUN fdUN ["_law_operations_here", "_law_rows_here", "_law_begin"] (spUnlike CB CM)) (b_un : Binds K fdUN ["_law_operations_here", "_law_rows_here", "_law_begin"] []) (g_un : mg "_law_unlike" = some (.ref fUN)) (k_un : PySem.W.keepIn K (.ref fUN) = true) :
    PS (cxOf CX0 P w K mg base NR "_law_right" (defScope s_right) f cdv A outer s H0 E).nox (stR 16) (tChk CB CM Z a0) := by
  obtain ⟨fe_, fd_eq, s_eq, f_eq, G_eq, b_eq⟩ := BF.eq
  refine ps_imp (ps_if (pt_cmpR (op_neD hr.units) (pe_lc (own := [("_law_other", 11)]) (g := gName 11) rfl sc_right.nd (pi_list (pe_call G_un (hr.mono (by decide)) (by rfl) g_un k_un b_un .nil pass0 (pa_cons (pv 1) (pa_cons (pv 2) (pa_cons (pv 3) pa_nil))))) (blkOk_by (own := [("_law_other", 11)]) (N := NR) (sc := defScope s_right) (by decide +kernel)) (fun _ _ _ _ _ => pg_name (i := 11) sc_right.nd rfl (Or.inl rfl)) (fun _ _ _ _ _ => pts_one (PW.pt (pw_or (pt_cmpR (show OpR _ _ (rEqO K CB (spBEq K CB CM) E0) from op_eqO G_eq (hr.mono (by decide)) b_eq pass0 s_eq f_eq) (pv 7) (pv 11) (nomark _)) (pw_or1 (pt_not (pt_cmpR (show OpR _ _ (rNeO K CB (spBEq K CB CM) E0) from op_neO G_eq (hr.mono (by decide)) b_eq pass0 s_eq f_eq BF.ne BF.ob (hu_of hr)) (pv 11) (pv 7) (nomark _))))))) (fun _ _ _ _ _ => pe_int)) (pe_lstG pa_nil) (nomark _)) (pss_one ps_no) pss_nil) fun D σ H q => ?_
  obtain ⟨⟨d, r, bd, tw, v0, v4, v5, v6, v9, v10, v11, v12, o, og, xs, rs, b, rfl, R⟩, k⟩ := q
  refine ⟨_, rfl, _, rfl, _, rfl, d, r, o, xs, rs, b, rfl, R.hd, R.hr, R.rows, R.ok, R.few, R.fewo, R.nm, R.fine, fun p qs H1 np s1 e1 lq each => ?_⟩
  refine ⟨p, rfl, ⟨_, SqL.of e1⟩, fun G nG => ?_⟩
  refine lc_it (walk_list (xs := qs.map V.ref)) (fun i Hx => Same H1 Hx ∧ Hx G = some (.lst [])) ⟨sameNew nG _, upd_same⟩ (fun j Hx _ z => SqL.of (z.1 _ _ e1)) (fun j x Ha Hb hj z1 z2 => ?_) (fun Hx z => ?_)
  · obtain ⟨rfl, hx⟩ := z2
    obtain ⟨sa, ea⟩ := z1
    obtain ⟨q, hq, rfl⟩ := List.mem_map.mp (List.mem_of_getElem? hx)
    obtain ⟨o2, rs2, b2, B2, st2, dif⟩ := (each q hq).same sa
    have Ra := R.same (s1.trans sa)
    refine ⟨rfl, _, rfl, _, rfl, eq_twin BF Ra.B B2 R.strs st2 fun o1 o2' d1 d2 => ⟨_, rfl, _, rfl, ?_⟩⟩
    rw [(unl_ne dif d1.1 R.perm d2.1).1]
    refine iteF ?_
    refine ⟨_, rfl, _, rfl, eq_twin BF B2 Ra.B st2 R.strs fun o2' o1 d2 d1 => ⟨_, rfl, _, rfl, ?_⟩⟩
    rw [(unl_ne dif d1.1 R.perm d2.1).2]
    exact iteF ⟨sa, ea⟩
  · obtain ⟨sa, ea⟩ := z
    refine ⟨Nat.zero_le _, fun p2 H2 n2 s2 e2 => ?_⟩
    refine ⟨.list [], .list [], .lst (SqL.of (s2 _ _ ea)) .nil, .lst (SqL.of e2) .nil, by decide +kernel, by decide +kernel, _, rfl, ?_⟩
    have e : (!PyData.eqv (.list []) (.list [])) = false := by simp [PyData.eqv, PyData.eqvAll]
    rw [e]
    exact iteF (k _ _ ⟨d, r, bd, tw, _, _, _, _, _, _, _, _, o, og, xs, rs, b, rfl, R.same (s1.trans (sa.trans s2))⟩)
theorem chk17 {cdv : Value} {A : Around} {outer : List Env} {s : Shared} {H0 : Hp} {E : XK} (hr : Room 12 (A.deeper (PyProof.Rows.envOfC "_law_right" (defScope s_right) s.heap.objs.size f cdv))) (T : TxtF K mg fII fIW) (BF : BodyF P w K mg base CB CM) :
    PS (cxOf CX0 P w K mg base NR "_law_right" (defScope s_right) f cdv A outer s H0 E).nox (stR 17) (tEnd CB CM Z a0) := by
  have three : ∀ u v w : V, [u, v, w].length ≤ sizeLine := fun u v w => by rw [sizeLine_eq]; exact Nat.le_trans (show 3 ≤ 3 from Nat.le_refl 3) (by decide)
  obtain ⟨fe_, fd_eq, s_eq, f_eq, G_eq, b_eq⟩ := BF.eq
  refine ps_imp (ps_ret (pe_cmpR (op_eqD hr.units) (pe_lc (own := [("_law_thing", 12)]) (g := gName 12) rfl sc_right.nd (pi_list (pe_lstG (pa_cons pe_non (pa_cons (pv 2) (pa_cons pe_int (pa_cons pe_str (pa_cons (pe_tupG (pa_cons (pv 1) (pa_cons (pv 2) (pa_cons (pv 3) pa_nil)))) (pa_cons pe_dnewK pa_nil)))))))) (blkOk_by (own := [("_law_thing", 12)]) (N := NR) (sc := defScope s_right) (by decide +kernel)) (fun _ _ _ _ _ => pg_name (i := 12) sc_right.nd rfl (Or.inl rfl)) (fun _ _ _ _ _ => pts_one (pt_cmpR (show OpR _ _ (rEqO K CB (spBEq K CB CM) E0) from op_eqO G_eq (hr.mono (by decide)) b_eq pass0 s_eq f_eq) (pv 7) (pv 12) (nomark _))) (fun _ _ _ _ _ => pe_int)) (pe_lstG pa_nil) (nomark _))) fun D σ H q => ?_
  obtain ⟨⟨d, r, bd, tw, v0, v4, v5, v6, v9, v10, v11, v12, o, og, xs, rs, b, rfl, R⟩, k⟩ := q
  refine ⟨_, rfl, _, rfl, _, rfl, _, rfl, three _ _ _, fun T1 H1 n1 s1 e1 => fun p3 np3 => ?_⟩
  have s3 : Same H1 (upd H1 p3 (.dK [])) := sameNew np3 _
  have e3 : upd H1 p3 (.dK []) p3 = some (.dK []) := upd_same
  generalize upd H1 p3 (.dK []) = H3 at s3 e3 ⊢
  refine ⟨by rw [sizeLine_eq]; exact Nat.le_trans (show 6 ≤ 6 from Nat.le_refl 6) (by decide), fun pl Hl nl sl el => ?_⟩
  have sA : Same H Hl := s1.trans (s3.trans sl)
  refine ⟨pl, rfl, ⟨_, SqL.of el⟩, fun G nG => ?_⟩
  refine lc_it (walk_list (xs := [V.non, .ref r, .int 5, .str "body", .ref T1, .ref p3])) (fun i Hx => Same Hl Hx ∧ Hx G = some (.lst [])) ⟨sameNew nG _, upd_same⟩ (fun j Hx _ z => SqL.of (z.1 _ _ el)) (fun j x Ha Hb hj z1 z2 => ?_) (fun Hx z => ?_)
  · obtain ⟨rfl, hx⟩ := z2
    obtain ⟨sa, ea⟩ := z1
    have Ra := R.same (sA.trans sa)
    have bt : ∃ ty, Bt K Hb x ty ∧ ty ∈ ["NoneType", "int", "str", "list", "tuple", "dict"] := by
      have hm := List.mem_of_getElem? hx
      simp only [List.mem_cons, List.not_mem_nil, or_false] at hm
      rcases hm with rfl | rfl | rfl | rfl | rfl | rfl
      · exact ⟨"NoneType", ⟨.base .non, by decide⟩, by decide⟩
      · exact ⟨"list", ⟨.base (.lst Ra.hr), by decide⟩, by decide⟩
      · exact ⟨"int", btInt _, by decide⟩
      · exact ⟨"str", btStr _, by decide⟩
      · exact ⟨"tuple", ⟨.base (.tup (sa _ _ (sl _ _ (s3 _ _ e1)))), by decide⟩, by decide⟩
      · exact ⟨"dict", ⟨.base (.dK (sa _ _ (sl _ _ e3))), by decide⟩, by decide⟩
    obtain ⟨ty, bt, hm⟩ := bt
    refine ⟨rfl, _, rfl, _, rfl, eq_odd BF Ra.B bt hm ⟨_, rfl, _, rfl, ?_⟩⟩
    exact iteF ⟨sa, ea⟩
  · obtain ⟨sa, ea⟩ := z
    refine ⟨Nat.zero_le _, fun p2 H2 n2 s2 e2 => ?_⟩
    refine ⟨.list [], .list [], .lst (SqL.of (s2 _ _ ea)) .nil, .lst (SqL.of e2) .nil, by decide +kernel, by decide +kernel, ?_⟩
    have e : PyData.eqv (.list []) (.list []) = true := by simp [PyData.eqv, PyData.eqvAll]
    rw [e]
    have R2 := R.same (sA.trans (sa.trans s2))
    exact k _ R2.bt R2.src
end
end Mine

set_option maxRecDepth 100000
set_option maxHeartbeats 4000000
namespace Mine
open PySem L2
/-! permutations and pairs -/
theorem perm_map {α β : Type} {f : α → β} {ys zs : List β} (h : ys.Perm zs) : ∀ l : List α, zs = l.map f → ∃ l' : List α, l'.Perm l ∧ ys = l'.map f := by
  induction h with
  | nil => exact fun l e => ⟨l, .refl _, e⟩
  | cons x h ih =>
    intro l e
    cases l with
    | nil => cases e
    | cons a l =>
      rw [List.map_cons, List.cons.injEq] at e
      obtain ⟨l', p, e'⟩ := ih l e.2
      exact ⟨a :: l', p.cons a, by rw [List.map_cons, e.1, e']⟩
  | swap x y l0 =>
    intro l e
    cases l with
    | nil => cases e
    | cons a l =>
      cases l with
      | nil => cases e
      | cons b l =>
        rw [List.map_cons, List.map_cons, List.cons.injEq, List.cons.injEq] at e
        exact ⟨b :: a :: l, .swap a b l, by rw [List.map_cons, List.map_cons, e.1, e.2.1, e.2.2]⟩
  | trans h1 h2 ih1 ih2 =>
    intro l e
    obtain ⟨l2, p2, e2⟩ := ih2 l e
    obtain ⟨l1, p1, e1⟩ := ih1 l2 e2
    exact ⟨l1, p1.trans p2, e1⟩
theorem paired_perm {α β : Type} {R : α → β → Prop} {xs' xs : List α} (h : xs'.Perm xs) : ∀ ys : List β, Paired R xs ys → ∃ ys' : List β, ys'.Perm ys ∧ Paired R xs' ys' := by
  induction h with
  | nil => exact fun ys p => ⟨ys, .refl _, p⟩
  | cons x h ih =>
    intro ys p
    cases p with
    | cons r p =>
      obtain ⟨ys', q1, q2⟩ := ih _ p
      exact ⟨_ :: ys', q1.cons _, .cons r q2⟩
  | swap x y l0 =>
    intro ys p
    cases p with
    | cons r p =>
      cases p with
      | cons r2 p => exact ⟨_, .swap _ _ _, .cons r2 (.cons r p)⟩
  | trans h1 h2 ih1 ih2 =>
    intro ys p
    obtain ⟨y2, p2, q2⟩ := ih2 _ p
    obtain ⟨y1, p1, q1⟩ := ih1 _ q2
    exact ⟨y1, p1.trans p2, q1⟩
theorem look_in {o : Ops} {x : Str} {n : Int} (h : opLook o x = some n) : (x, n) ∈ o := by
  unfold opLook at h
  cases e : o.find? (fun p => decide (p.1 = x)) with
  | none => rw [e] at h; cases h
  | some q =>
    rw [e] at h
    have h1 : q.2 = n := Option.some.inj h
    have h2 := List.mem_of_find?_eq_some e
    have h3 := List.find?_some e
    have h4 : q.1 = x := of_decide_eq_true h3
    rw [← h1, ← h4]
    exact h2
theorem OkB.perm {o og : Ops} {rs : List RowD} {b : Nat} (h : OkB o rs b) (p : og.Perm o) : OkB og rs b := by
  have nd : (og.map (·.1)).Nodup := (p.map (·.1)).nodup_iff.mpr h.ops.nd
  refine ⟨⟨by rw [p.length_eq]; exact h.ops.few, fun q hq => h.ops.each q (p.mem_iff.mp hq), nd⟩, h.lo, h.hi, fun i d e => ?_, h.lt⟩
  have z := h.rows i d e
  cases d with
  | ask op ns => exact ⟨look_mem nd (op, _) (p.mem_iff.mpr (look_in z.1)), z.2⟩
  | go n => exact z
  | fin w => exact z
/-! a heap but for one thing -/
def Off (H : Hp) (D : Addr) : Hp := fun b => if b = D then none else H b
theorem off_ne {H : Hp} {D b : Addr} (h : b ≠ D) : Off H D b = H b := by
  unfold Off
  rw [if_neg h]
theorem off_some {H : Hp} {D b : Addr} {u : HO} (h : Off H D b = some u) : b ≠ D ∧ H b = some u := by
  unfold Off at h
  by_cases e : b = D
  · rw [if_pos e] at h
    cases h
  · rw [if_neg e] at h
    exact ⟨e, h⟩
theorem off_le (H : Hp) (D : Addr) : Same (Off H D) H := fun b u e => (off_some e).2
theorem off_same {H H' : Hp} {D : Addr} (s : Same H H') : Same (Off H D) (Off H' D) := fun b u e => by
  obtain ⟨n, e⟩ := off_some e
  rw [off_ne n]
  exact s _ _ e
theorem off_upd {H : Hp} {D : Addr} (o : HO) : Off (upd H D o) D = Off H D := by
  funext b
  unfold Off
  by_cases e : b = D
  · rw [if_pos e, if_pos e]
  · rw [if_neg e, if_neg e, upd_ne e]
/-- a row in new lists -/
structure RowN (H0 H : Hp) (v : V) (d : RowD) : Prop where
  row : RowAt H v d
  list : ∃ a ys, v = .ref a ∧ H a = some (.lst ys) ∧ 2 ≤ ys.length ∧ H0 a = none
theorem RowN.same {H0 H H' : Hp} {v : V} {d : RowD} (s : Same H H') (h : RowN H0 H v d) : RowN H0 H' v d := by
  obtain ⟨h1, a, ys, e1, e2, e3, e4⟩ := h
  exact ⟨h1.same s, a, ys, e1, s _ _ e2, e3, e4⟩
theorem rowN_of {H0 H H' : Hp} {D : Addr} {u : HO} {v : V} {d : RowD} (s0 : Same H0 H) (hD : H D = some u) (h : RowL H H' v d) : RowN H0 (Off H' D) v d := by
  have ne : ∀ {a : Addr}, H a = none → a ≠ D := fun {a} n z => by
    rw [z, hD] at n
    cases n
  cases d with
  | ask op ns =>
    obtain ⟨a, t, e, h1, h2, n1, n2⟩ := h
    exact ⟨⟨a, t, e, .inl (by rw [off_ne (ne n1)]; exact h1), .inl (by rw [off_ne (ne n2)]; exact h2)⟩, a, _, e, by rw [off_ne (ne n1)]; exact h1, by show 2 ≤ 3; decide, none_of s0 n1⟩
  | go n =>
    obtain ⟨a, e, h1, n1⟩ := h
    exact ⟨⟨a, e, .inl (by rw [off_ne (ne n1)]; exact h1)⟩, a, _, e, by rw [off_ne (ne n1)]; exact h1, by show 2 ≤ 2; decide, none_of s0 n1⟩
  | fin w =>
    obtain ⟨a, e, h1, n1⟩ := h
    exact ⟨⟨a, e, .inl (by rw [off_ne (ne n1)]; exact h1)⟩, a, _, e, by rw [off_ne (ne n1)]; exact h1, by show 2 ≤ 2; decide, none_of s0 n1⟩
/-! the states -/
/-- the draws -/
structure Dr (Z : Hp) (a0 : Addr) (H : Hp) (d r : Addr) (o : Ops) (xs : List V) (rs : List RowD) (b : Nat) : Prop where
  hd : H d = some (.dK (opsK o))
  hr : H r = some (.lst xs)
  rows : Rows H xs rs
  ok : OkB o rs b
  few : rs.length ≤ 12
  fewo : o.length ≤ 4
  nm : ∀ q ∈ o, q.1 ∈ names8
  fine : ∀ dd ∈ rs, RowFine dd
  bt : But Z H a0
  src : SrcAt H a0
theorem Dr.same {Z H H' : Hp} {a0 d r : Addr} {o : Ops} {xs : List V} {rs : List RowD} {b : Nat} (h : Dr Z a0 H d r o xs rs b) (s : Same H H') : Dr Z a0 H' d r o xs rs b :=
  ⟨s _ _ h.hd, s _ _ h.hr, h.rows.same s, h.ok, h.few, h.fewo, h.nm, h.fine, fun q u n e => s _ _ (h.bt q u n e), by
    obtain ⟨x, y, z, e⟩ := h.src
    exact ⟨x, y, z, s _ _ e⟩⟩
def P2 (Z : Hp) (a0 : Addr) (σ : St) (H : Hp) : Prop := ∃ (d r : Addr) (o : Ops) (xs : List V) (rs : List RowD) (b : Nat), σ = [some (.ref a0), some (.ref d), some (.ref r), some (.int (b : Int)), none, none, none, none, none, none, none, none, none] ∧ d ≠ a0 ∧ r ≠ a0 ∧ Dr Z a0 H d r o xs rs b
/-- given and some stand -/
structure Gv (Z : Hp) (a0 : Addr) (Hn H : Hp) (d r g sm : Addr) (o og : Ops) (xs vs : List V) (rs : List RowD) (b : Nat) : Prop where
  dr : Dr Z a0 Hn d r o xs rs b
  perm : og.Perm o
  hg : Hn g = some (.dK (opsK og))
  gd : g ≠ d
  ga : g ≠ a0
  zg : Z g = none
  nsm : Hn sm = none
  same : Same Hn H
  hsm : H sm = some (.lst vs)
  lv : vs.length = rs.length
  each : ∀ (j : Nat) (dj : RowD), rs[j]? = some dj → ∃ v, vs[j]? = some v ∧ RowN Hn (Off H sm) v dj
def sg (a0 d r : Addr) (b : Nat) (g sm : Addr) (v6 v7 v8 : Option V) : St := [some (.ref a0), some (.ref d), some (.ref r), some (.int (b : Int)), some (.ref g), some (.ref sm), v6, v7, v8, none, none, none, none]
def P3 (Z : Hp) (a0 : Addr) (σ : St) (H : Hp) : Prop := ∃ (Hn : Hp) (d r g sm : Addr) (o og : Ops) (xs vs : List V) (rs : List RowD) (b : Nat), σ = sg a0 d r b g sm none none none ∧ Gv Z a0 Hn H d r g sm o og xs vs rs b
/-- the body stands; what it was made of may change -/
structure Md (CB CM : Addr) (Z : Hp) (a0 : Addr) (Hn H2 H3 H : Hp) (d r g sm bd : Addr) (o og : Ops) (xs vs : List V) (rs : List RowD) (b : Nat) : Prop where
  gv : Gv Z a0 Hn H2 d r g sm o og xs vs rs b
  s3 : Same H2 H3
  nb : H2 bd = none
  B : BodyN CB CM H2 H3 bd og rs b
  kept : ∀ a u, H3 a = some u → (H2 a = none ∨ (∃ zs, u = .tup zs) ∨ ((∃ u', Hn a = some u') ∧ a ≠ g)) → H a = some u
  hs : H sm = some (.lst vs)
  rws : ∀ v ∈ vs, ∃ a ys ys0, v = .ref a ∧ H a = some (.lst ys) ∧ 2 ≤ ys.length ∧ Hn a = none ∧ H2 a = some (.lst ys0) ∧ a ≠ sm
def P4 (CB CM : Addr) (Z : Hp) (a0 : Addr) (σ : St) (H : Hp) : Prop := ∃ (Hn H2 H3 : Hp) (d r g sm bd : Addr) (o og : Ops) (xs vs : List V) (rs : List RowD) (b : Nat), σ = sg a0 d r b g sm none (some (.ref bd)) none ∧ Md CB CM Z a0 Hn H2 H3 H d r g sm bd o og xs vs rs b ∧ H g = some (.dK (opsK og))
def P5 (CB CM : Addr) (Z : Hp) (a0 : Addr) (σ : St) (H : Hp) : Prop := ∃ (Hn H2 H3 : Hp) (d r g sm bd : Addr) (v6 : Option V) (o og : Ops) (xs vs : List V) (rs : List RowD) (b : Nat), σ = sg a0 d r b g sm v6 (some (.ref bd)) none ∧ Md CB CM Z a0 Hn H2 H3 H d r g sm bd o og xs vs rs b
def P7 (CB CM : Addr) (Z : Hp) (a0 : Addr) (σ : St) (H : Hp) : Prop := ∃ (d r g sm bd : Addr) (v6 : Option V) (o og : Ops) (xs : List V) (rs : List RowD) (b : Nat), σ = sg a0 d r b g sm v6 (some (.ref bd)) none ∧ Dr Z a0 H d r o xs rs b ∧ og.Perm o ∧ BodyAt CB CM H bd og rs b
def tGo (p q : St → Hp → Prop) : TS := fun D σ H => p σ H ∧ ∀ σ' H', q σ' H' → D.nx σ' H'
theorem Md.hnd {CB CM : Addr} {Z : Hp} {a0 : Addr} {Hn H2 H3 H : Hp} {d r g sm bd : Addr} {o og : Ops} {xs vs : List V} {rs : List RowD} {b : Nat} (m : Md CB CM Z a0 Hn H2 H3 H d r g sm bd o og xs vs rs b) {a : Addr} {u : HO} (e : Hn a = some u) (n : a ≠ g) : H a = some u :=
  m.kept _ _ (m.s3 _ _ (m.gv.same _ _ e)) (.inr (.inr ⟨⟨u, e⟩, n⟩))
/-- a change of given, of some or of a row of these -/
theorem Md.put {CB CM : Addr} {Z : Hp} {a0 : Addr} {Hn H2 H3 H : Hp} {d r g sm bd : Addr} {o og : Ops} {xs vs : List V} {rs : List RowD} {b : Nat} (m : Md CB CM Z a0 Hn H2 H3 H d r g sm bd o og xs vs rs b) {q : Addr} {w : HO}
    (h2 : ∃ u, H2 q = some u ∧ ∀ zs, u ≠ .tup zs) (hn : Hn q = none ∨ q = g) : ∀ a u, H3 a = some u → (H2 a = none ∨ (∃ zs, u = .tup zs) ∨ ((∃ u', Hn a = some u') ∧ a ≠ g)) → upd H q w a = some u := fun a u e c => by
  have ne : a ≠ q := fun z => by
    subst z
    obtain ⟨u2, e2, nt⟩ := h2
    rcases c with c | ⟨zs, c⟩ | ⟨⟨u', c⟩, c2⟩
    · rw [c] at e2
      cases e2
    · have := m.s3 _ _ e2
      rw [e] at this
      exact nt zs (by rw [← Option.some.inj this, c])
    · rcases hn with hn | hn
      · rw [hn] at c
        cases c
      · exact c2 hn
  rw [upd_ne ne]
  exact m.kept a u e c
section
variable {P : Program} {w : World} {K : PySem.W.Frag} {mg : Str → Option Value} {base : Heap}
variable {fII fIW CB CM f fB fMx fLs a0 : Addr} {Z : Hp}
theorem st3 {cdv : Value} {A : Around} {outer : List Env} {s : Shared} {H0 : Hp} {E : XK} {fdMx fdLs : FuncData} (hr : Room 12 (A.deeper (PyProof.Rows.envOfC "_law_right" (defScope s_right) s.heap.objs.size f cdv))) (T : TxtF K mg fII fIW)
    (G_mixed : FnOk P w K mg base CX0 2 fMx fdMx ["_law_source", "_law_some"] spMixed) (b_mixed : Binds K fdMx ["_law_source", "_law_some"] []) (g_mixed : mg "_law_mixed" = some (.ref fMx)) (k_mixed : PySem.W.keepIn K (.ref fMx) = true)
    (G_listed : FnOk P w K mg base CX0 3 fLs fdLs ["_law_thing"] spListR) (b_listed : Binds K fdLs ["_law_thing"] []) (g_listed : mg "_law_listed" = some (.ref fLs)) (k_listed : PySem.W.keepIn K (.ref fLs) = true) :
    PS (cxOf CX0 P w K mg base NR "_law_right" (defScope s_right) f cdv A outer s H0 E).nox (stR 3) (tGo (P2 Z a0) (P3 Z a0)) := by
  refine ps_imp (ps_par (i := 4) (j := 5) rfl sc_right.nd rfl rfl (by decide) rfl rfl (pa_cons (pe_callTy (call_dictP rfl) (by rfl) T.b_dict (by decide +kernel) (pa_cons (pe_call G_mixed (hr.mono (by decide)) (by rfl) g_mixed k_mixed b_mixed .nil pass0 (pa_cons (pv 0) (pa_cons (LiI.pe_listItems rfl (pv 1) (by rfl) T.b_list (by decide +kernel)) pa_nil))) pa_nil)) (pa_cons (pe_lc (own := [("_law_row", 6)]) (g := gName 6) (tt := tYes) rfl sc_right.nd (pi_list (pv 2)) (blkOk_by (own := [("_law_row", 6)]) (N := NR) (sc := defScope s_right) (by decide +kernel)) (fun _ _ _ _ _ => pg_name (i := 6) sc_right.nd rfl (Or.inl rfl)) (fun _ _ _ _ _ => pts_nil) (fun _ _ _ _ _ => (pe_call G_listed (hr.mono (by decide)) (by rfl) g_listed k_listed b_listed .nil pass0 (pa_cons (pv 6) pa_nil)))) pa_nil)) rfl) fun D σ H q => ?_
  obtain ⟨⟨d, r, o, xs, rs, b, rfl, da, ra, R⟩, k⟩ := q
  obtain ⟨x, y, z, src⟩ := R.src
  refine ⟨_, rfl, _, rfl, d, opsK o, rfl, R.hd, fun H1 p1 ts s1 np1 nts nin hp1 pr => ?_⟩
  have s1 : Same H H1 := s1
  have lts : ts.length = o.length := by rw [pr.length, opsK_len]
  refine ⟨a0, p1, ts.map V.ref, x, y, z, rfl, s1 _ _ src, .inl hp1, by rw [List.length_map, lts]; have := R.fewo; omega, fun v hv => ?_, fun p2 ys x' y' z' H2 np2 pm bt e2 e2' => ?_⟩
  · obtain ⟨t, ht, rfl⟩ := List.mem_map.mp hv
    obtain ⟨j, q, e1, e2, e3⟩ := LiI.paired_ix pr ht
    unfold opsK at e2
    rw [List.getElem?_map] at e2
    cases e4 : o[j]? with
    | none => rw [e4] at e2; cases e2
    | some on =>
      rw [e4] at e2
      have e5 : ((Sum.inr on.1, V.int on.2) : Key × V) = q := Option.some.inj e2
      subst e5
      exact .inr ⟨t, on.1, on.2, rfl, e3, names8_str _ (R.nm _ (List.mem_of_getElem? e4))⟩
  obtain ⟨ts', pts, rfl⟩ := perm_map pm ts rfl
  obtain ⟨kvs', pk, prd⟩ := paired_perm pts _ pr
  obtain ⟨og, pog, rfl⟩ := perm_map pk o rfl
  have pog : og.Perm o := pog
  have ta : ∀ {t : Addr} {us : List V}, H1 t = some (.tup us) → H2 t = some (.tup us) := fun {t us} e => bt _ _ (fun zz => by rw [zz, s1 _ _ src] at e; cases e) e
  have np2H : H p2 = none := none_of s1 np2
  refine ⟨p2, ts', opsK og, rfl, SqL.of e2', paired_imp (fun _ _ e => .inl (.inl (ta e))) prd, fun g ng => ?_⟩
  have ok2 := R.ok.perm pog
  rw [merge_ops ok2.ops.nd]
  have btA : But H H2 a0 := fun q u n e => bt q u n (s1 _ _ e)
  have rows2 : Rows H2 xs rs := ⟨R.rows.1, fun i dd e => by
    obtain ⟨v, h1, h2⟩ := (R.rows.same s1).2 i dd e
    refine ⟨v, h1, ?_⟩
    cases dd with
    | ask op ns =>
      obtain ⟨q, t, e1, k1, k2⟩ := h2
      exact ⟨q, t, e1, ta k1, ta k2⟩
    | go m =>
      obtain ⟨q, e1, k1⟩ := h2
      exact ⟨q, e1, ta k1⟩
    | fin m =>
      obtain ⟨q, e1, k1⟩ := h2
      exact ⟨q, e1, ta k1⟩⟩
  have R2 : Dr Z a0 H2 d r o xs rs b := ⟨btA _ _ da R.hd, btA _ _ ra R.hr, rows2, R.ok, R.few, R.fewo, R.nm, R.fine, R.bt.trans btA, ⟨x', y', z', e2⟩⟩
  have sg2 : Same H2 (upd H2 g (.dK (opsK og))) := sameNew ng _
  have Rn := R2.same sg2
  have eg : upd H2 g (.dK (opsK og)) g = some (.dK (opsK og)) := upd_same
  have gd : g ≠ d := fun zz => by
    rw [zz, R2.hd] at ng
    cases ng
  have ga : g ≠ a0 := fun zz => by
    rw [zz, e2] at ng
    cases ng
  have zg : Z g = none := by
    cases e : Z g with
    | none => rfl
    | some u =>
      rw [R2.bt g u ga e] at ng
      cases ng
  generalize upd H2 g (.dK (opsK og)) = Hn at Rn eg ⊢
  refine ⟨_, rfl, r, rfl, ⟨_, SqL.of Rn.hr⟩, fun sm nsm => ?_⟩
  refine lc_it (walk_list (xs := xs)) (fun i Hx => Same Hn Hx ∧ ∃ vs, Hx sm = some (.lst vs) ∧ vs.length = i ∧ ∀ (j : Nat) (dj : RowD), j < i → rs[j]? = some dj → ∃ v, vs[j]? = some v ∧ RowN Hn (Off Hx sm) v dj) ⟨sameNew nsm _, [], upd_same, rfl, fun j dj hj => absurd hj (Nat.not_lt_zero _)⟩ (fun j Hx _ zz => SqL.of (zz.1 _ _ Rn.hr)) (fun i xx Ha Hb hi z1 z2 => ?_) (fun Hx zz => ?_)
  · obtain ⟨rfl, hx⟩ := z2
    obtain ⟨sa, vs, c1, c2, c3⟩ := z1
    have hi2 : i < rs.length := by have := Rn.rows.1; omega
    have ei : rs[i]? = some rs[i] := List.getElem?_eq_getElem hi2
    obtain ⟨v, v1, v2⟩ := (Rn.rows.same sa).2 i _ ei
    rw [hx] at v1
    have v1 := Option.some.inj v1
    subst v1
    generalize rs[i] = di at ei v2
    obtain ⟨q, rfl⟩ : ∃ q, xx = V.ref q := by
      cases di with
      | ask op ns => obtain ⟨q, _, e, _⟩ := v2; exact ⟨q, e⟩
      | go m => obtain ⟨q, e, _⟩ := v2; exact ⟨q, e⟩
      | fin m => obtain ⟨q, e, _⟩ := v2; exact ⟨q, e⟩
    have tg : (targets di).length ≤ 1000 := by
      have := Rn.ok.rows i di ei
      cases di with
      | ask op ns => exact this.2.1
      | go m => exact (by decide : 1 ≤ 1000)
      | fin m => exact (by decide : 0 ≤ 1000)
    refine ⟨rfl, _, rfl, q, di, rfl, v2, tg, fun v Hc sc rl => ?_⟩
    have few := Rn.few
    refine ⟨vs, sc _ _ c1, by rw [c2, sizeLine_eq]; omega, fun a u e => ?_, vs ++ [v], upd_same, by rw [List.length_append, c2]; rfl, fun j dj hj ej => ?_⟩
    · rw [upd_ne (ne_of_none e nsm)]
      exact sc _ _ (sa _ _ e)
    · rw [off_upd]
      by_cases hl : j < i
      · obtain ⟨w', f1, f2⟩ := c3 j dj hl ej
        exact ⟨w', by rw [List.getElem?_append_left (by omega)]; exact f1, f2.same (off_same sc)⟩
      · have hji : j = i := by omega
        subst hji
        rw [ei] at ej
        cases ej
        exact ⟨v, by rw [List.getElem?_append_right (by omega), c2, Nat.sub_self]; rfl, rowN_of sa c1 rl⟩
  · obtain ⟨sx, vs, c1, c2, c3⟩ := zz
    refine ⟨_, _, rfl, k _ _ ⟨Hn, d, r, g, sm, o, og, xs, vs, rs, b, rfl, Rn, pog, eg, gd, ga, zg, nsm, sx, c1, by rw [c2]; exact Rn.rows.1, fun j dj ej => c3 j dj ?_ ej⟩⟩
    have := (List.getElem?_eq_some_iff.mp ej).1
    have := Rn.rows.1
    omega
theorem st4 {cdv : Value} {A : Around} {outer : List Env} {s : Shared} {H0 : Hp} {E : XK} {fdB : FuncData} (hr : Room 12 (A.deeper (PyProof.Rows.envOfC "_law_right" (defScope s_right) s.heap.objs.size f cdv)))
    (MB : Mk K CB fB) (GB : FnOk P w K mg base CX0 7 fB fdB PB (spBody CB CM)) (kB : KBn K fdB PB (2 + 1) KS (fun us ws => us ++ ws) (fun vs zs => vs ++ zs)) (g_Body : mg "Body" = some (.ref CB)) :
    PS (cxOf CX0 P w K mg base NR "_law_right" (defScope s_right) f cdv A outer s H0 E).nox (stR 4) (tGo (P3 Z a0) (P4 CB CM Z a0)) := by
  refine ps_imp (ps_set (i := 7) sc_right.nd rfl (Or.inr rfl) (pe_body MB GB (hr.mono (by decide)) (by rfl) g_Body kB (pa_cons (pv 4) (pa_cons (pv 5) pa_nil)) (pk_cons (pv 3) pk_nil))) fun D σ H q => ?_
  obtain ⟨⟨Hn, d, r, g, sm, o, og, xs, vs, rs, b, rfl, G⟩, k⟩ := q
  have rin : RowsIn H vs rs := ⟨G.lv, fun i dd e => by
    obtain ⟨v, h1, h2⟩ := G.each i dd e
    exact ⟨v, h1, h2.row.same (off_le _ _)⟩⟩
  refine ⟨_, rfl, _, rfl, _, rfl, g, sm, vs, rs, og, b, rfl, rfl, G.same _ _ G.hg, .inl G.hsm, rin, G.dr.ok.perm G.perm, fun bd H3 nb s3 B => ?_⟩
  refine k _ _ ⟨Hn, H, H3, d, r, g, sm, bd, o, og, xs, vs, rs, b, rfl, ⟨G, s3, nb, B, fun a u e _ => e, s3 _ _ G.hsm, fun v hv => ?_⟩, s3 _ _ (G.same _ _ G.hg)⟩
  obtain ⟨j, ej⟩ := List.getElem?_of_mem hv
  have hj : j < rs.length := by
    have := (List.getElem?_eq_some_iff.mp ej).1
    have := G.lv
    omega
  obtain ⟨v', h1, h2⟩ := G.each j _ (List.getElem?_eq_getElem hj)
  rw [ej] at h1
  have h1 := Option.some.inj h1
  subst h1
  obtain ⟨a, ys, e1, e2, e3, e4⟩ := h2.list
  obtain ⟨n, e2⟩ := off_some e2
  exact ⟨a, ys, ys, e1, s3 _ _ e2, e3, e4, e2, n⟩
theorem st5 {cdv : Value} {A : Around} {outer : List Env} {s : Shared} {H0 : Hp} {E : XK} (hr : Room 12 (A.deeper (PyProof.Rows.envOfC "_law_right" (defScope s_right) s.heap.objs.size f cdv))) :
    PS (cxOf CX0 P w K mg base NR "_law_right" (defScope s_right) f cdv A outer s H0 E).nox (stR 5) (tGo (P4 CB CM Z a0) (P5 CB CM Z a0)) := by
  refine ps_imp (ps_asg pe_int (pg_sub (pv 4) pe_str (set_dict (hu_of hr)))) fun D σ H q => ?_
  obtain ⟨⟨Hn, H2, H3, d, r, g, sm, bd, o, og, xs, vs, rs, b, rfl, m, hg⟩, k⟩ := q
  have fewg : (opsK og).length < sizeLine := by
    rw [opsK_len, m.gv.perm.length_eq, sizeLine_eq]
    have := m.gv.dr.fewo
    omega
  refine ⟨_, rfl, g, _, rfl, DPut.k (k := .inr "new") hg fewg, ?_⟩
  have sg' : sm ≠ g := fun z => by
    have := m.gv.nsm
    rw [z, m.gv.hg] at this
    cases this
  refine k _ _ ⟨Hn, H2, H3, d, r, g, sm, bd, none, o, og, xs, vs, rs, b, rfl, m.gv, m.s3, m.nb, m.B, m.put ⟨_, m.gv.same _ _ m.gv.hg, fun zs z => nomatch z⟩ (.inr rfl), by rw [upd_ne sg']; exact m.hs, fun v hv => ?_⟩
  obtain ⟨a, ys, ys0, e1, e2, e3, e4, e5, e6⟩ := m.rws v hv
  refine ⟨a, ys, ys0, e1, ?_, e3, e4, e5, e6⟩
  rw [upd_ne (fun z => by rw [z, m.gv.hg] at e4; cases e4)]
  exact e2
theorem st6 {cdv : Value} {A : Around} {outer : List Env} {s : Shared} {H0 : Hp} {E : XK} (hr : Room 12 (A.deeper (PyProof.Rows.envOfC "_law_right" (defScope s_right) s.heap.objs.size f cdv))) :
    PS (cxOf CX0 P w K mg base NR "_law_right" (defScope s_right) f cdv A outer s H0 E).nox (stR 6) (tGo (P5 CB CM Z a0) (P5 CB CM Z a0)) := by
  refine ps_imp (ps_for PassesOwn.never rfl (pi_list (pv 5)) (pg_name (i := 6) sc_right.nd rfl (Or.inl rfl)) (pss_one (ps_asg pe_str (pg_sub (pv 6) pe_int set_list)))) fun D σ H q => ?_
  obtain ⟨⟨Hn, H2, H3, d, r, g, sm, bd, v6, o, og, xs, vs, rs, b, rfl, m⟩, k⟩ := q
  refine ⟨_, rfl, sm, rfl, ⟨_, SqL.of m.hs⟩, for_list (K := K) (a := sm) (xs := vs) (fun i σ H' => ∃ v6' : Option V, σ = sg a0 d r b g sm v6' (some (.ref bd)) none ∧ Md CB CM Z a0 Hn H2 H3 H' d r g sm bd o og xs vs rs b) ⟨_, rfl, m⟩ (fun i σ H' _ z => SqL.of (by obtain ⟨_, _, mm⟩ := z; exact mm.hs)) (fun i x σ H' hx z => ?_) (fun σ H' z => ?_)⟩
  · obtain ⟨v6', rfl, mm⟩ := z
    obtain ⟨a, ys, ys0, rfl, e2, e3, e4, e5, e6⟩ := mm.rws x (List.mem_of_getElem? hx)
    have ix1 : ixN ys.length 1 = some 1 := by
      unfold ixN
      rw [if_pos (by decide), if_pos (by omega)]
      rfl
    refine ⟨_, rfl, a, ys, 1, 1, rfl, rfl, e2, ix1, _, rfl, mm.gv, mm.s3, mm.nb, mm.B, mm.put ⟨_, e5, fun zs z => nomatch z⟩ (.inl e4), by rw [upd_ne (Ne.symm e6)]; exact mm.hs, fun v hv => ?_⟩
    obtain ⟨a', ys', ys0', f1, f2, f3, f4, f5, f6⟩ := mm.rws v hv
    by_cases z : a' = a
    · refine ⟨a', ys.set 1 (.str "none"), ys0', f1, by rw [z, upd_same], by rw [List.length_set]; exact e3, f4, f5, f6⟩
    · exact ⟨a', ys', ys0', f1, by rw [upd_ne z]; exact f2, f3, f4, f5, f6⟩
  · obtain ⟨v6', rfl, mm⟩ := z
    exact k _ _ ⟨Hn, H2, H3, d, r, g, sm, bd, v6', o, og, xs, vs, rs, b, rfl, mm⟩
theorem st7 {cdv : Value} {A : Around} {outer : List Env} {s : Shared} {H0 : Hp} {E : XK} (hr : Room 12 (A.deeper (PyProof.Rows.envOfC "_law_right" (defScope s_right) s.heap.objs.size f cdv))) :
    PS (cxOf CX0 P w K mg base NR "_law_right" (defScope s_right) f cdv A outer s H0 E).nox (stR 7) (tGo (P5 CB CM Z a0) (P7 CB CM Z a0)) := by
  refine ps_imp (ps_expr (pe_bm0 PySem.F.plainAttrs_list PySem.F.slot_list_clear PySem.F.type_list_clear mt_clear (pv 5))) fun D σ H q => ?_
  obtain ⟨⟨Hn, H2, H3, d, r, g, sm, bd, v6, o, og, xs, vs, rs, b, rfl, m⟩, k⟩ := q
  refine ⟨_, rfl, .inl ⟨rfl, _, SqL.of m.hs⟩, sm, vs, rfl, rfl, m.hs, ?_⟩
  have kp := m.put (q := sm) (w := .lst []) ⟨_, m.gv.hsm, fun zs z => nomatch z⟩ (.inl m.gv.nsm)
  have up : ∀ {a : Addr} {u : HO}, Hn a = some u → a ≠ g → upd H sm (.lst []) a = some u := fun {a u} e n => kp _ _ (m.s3 _ _ (m.gv.same _ _ e)) (.inr (.inr ⟨⟨u, e⟩, n⟩))
  have gv := m.gv
  have dr := gv.dr
  have upt : ∀ {q : Addr} {us : List V}, Hn q = some (.tup us) → upd H sm (.lst []) q = some (.tup us) := fun {q us} e => up e (fun z => by rw [z, gv.hg] at e; cases e)
  refine k _ _ ⟨d, r, g, sm, bd, v6, o, og, xs, rs, b, rfl, ⟨up dr.hd (Ne.symm gv.gd), up dr.hr (fun z => by have := dr.hr; rw [z, gv.hg] at this; cases this), ⟨dr.rows.1, fun i dd e => ?_⟩, dr.ok, dr.few, dr.fewo, dr.nm, dr.fine, ?_, ?_⟩, gv.perm, m.B.off m.nb fun a u e c => kp a u e (c.elim .inl fun c => .inr (.inl c))⟩
  · obtain ⟨v, h1, h2⟩ := dr.rows.2 i dd e
    refine ⟨v, h1, ?_⟩
    cases dd with
    | ask op ns =>
      obtain ⟨q, t, e1, k1, k2⟩ := h2
      exact ⟨q, t, e1, upt k1, upt k2⟩
    | go n =>
      obtain ⟨q, e1, k1⟩ := h2
      exact ⟨q, e1, upt k1⟩
    | fin n =>
      obtain ⟨q, e1, k1⟩ := h2
      exact ⟨q, e1, upt k1⟩
  · intro q u n e
    have e1 := dr.bt q u n e
    by_cases z : q = g
    · rw [z, gv.zg] at e
      cases e
    · exact up e1 z
  · obtain ⟨x, y, z, e⟩ := dr.src
    exact ⟨x, y, z, up e (Ne.symm gv.ga)⟩
end
end Mine

set_option maxRecDepth 100000
set_option maxHeartbeats 4000000
namespace Mine
open PySem L2
def spRight : Sp := fun vs H Q _ => ∃ a : Addr, vs = [.ref a] ∧ SrcAt H a ∧ ∀ H', But H H' a → SrcAt H' a → Q (.bl true) H'
section
variable {P : Program} {w : World} {K : PySem.W.Frag} {mg : Str → Option Value} {base : Heap}
variable {fII fIW CB CM f fB fMx fLs fNx fOp fRw fNR fUN a0 : Addr} {Z : Hp}
theorem st8 {cdv : Value} {A : Around} {outer : List Env} {s : Shared} {H0 : Hp} {E : XK} {fdB : FuncData} (hr : Room 12 (A.deeper (PyProof.Rows.envOfC "_law_right" (defScope s_right) s.heap.objs.size f cdv))) (T : TxtF K mg fII fIW)
    (MB : Mk K CB fB) (GB : FnOk P w K mg base CX0 7 fB fdB PB (spBody CB CM)) (kB : KBn K fdB PB (2 + 1) KS (fun us ws => us ++ ws) (fun vs zs => vs ++ zs)) (g_Body : mg "Body" = some (.ref CB)) :
    PS (cxOf CX0 P w K mg base NR "_law_right" (defScope s_right) f cdv A outer s H0 E).nox (stR 8) (tGo (P7 CB CM Z a0) (Pr CB CM Z a0)) := by
  refine ps_imp (ps_set (i := 8) sc_right.nd rfl (Or.inl rfl) (pe_body MB GB (hr.mono (by decide)) (by rfl) g_Body kB (pa_cons (pv 1) (pa_cons (pe_callTy call_tupleG (by rfl) T.b_tuple (by decide +kernel) (pa_cons (pv 2) pa_nil)) pa_nil)) (pk_cons (pv 3) pk_nil))) fun D σ H q => ?_
  obtain ⟨⟨d, r, g, sm, bd, v6, o, og, xs, rs, b, rfl, R, pm, B⟩, k⟩ := q
  refine ⟨_, rfl, _, rfl, r, xs, rfl, .inl R.hr, fun tt H1 s1 e1 => ?_⟩
  have R1 := R.same s1
  refine ⟨_, rfl, d, tt, xs, rs, o, b, rfl, rfl, R1.hd, .inr e1, R1.rows.inn, R1.ok, fun tw H2 nb s2 W => ?_⟩
  have R2 := R1.same s2
  exact k _ _ ⟨d, r, bd, tw, _, _, _, _, _, _, _, _, o, og, xs, rs, b, rfl, R2.hd, R2.hr, R2.rows, R2.ok, R2.few, R2.fewo, R2.nm, R2.fine, pm, B.same (s1.trans s2), W.at, R2.bt, R2.src⟩
theorem chk9 {cdv : Value} {A : Around} {outer : List Env} {s : Shared} {H0 : Hp} {E : XK} (hr : Room 12 (A.deeper (PyProof.Rows.envOfC "_law_right" (defScope s_right) s.heap.objs.size f cdv))) (BF : BodyF P w K mg base CB CM) :
    PS (cxOf CX0 P w K mg base NR "_law_right" (defScope s_right) f cdv A outer s H0 E).nox (stR 9) (tChk CB CM Z a0) := by
  obtain ⟨f_rows, fd_rows, m_rows, G_rows, b_rows⟩ := BF.rows
  refine ps_imp (ps_expr (pe_bm0 PySem.F.plainAttrs_list PySem.F.slot_list_clear PySem.F.type_list_clear mt_clear (pe_meth0 (pv 7) BF.cl.cl m_rows G_rows (hr.mono (by decide)) b_rows .nil pass0))) fun D σ H q => ?_
  obtain ⟨⟨d, r, bd, tw, v0, v4, v5, v6, v9, v10, v11, v12, o, og, xs, rs, b, rfl, R⟩, k⟩ := q
  obtain ⟨dx, m, eb⟩ := R.B.one
  refine ⟨_, rfl, bd, dx, _, rfl, eb, by rfl, bd, og, rs, b, rfl, R.B, fun ys rows' p1 H1 n1 s1 e1 => ⟨.inl ⟨rfl, _, SqL.of e1⟩, p1, ys, rfl, rfl, e1, ?_⟩⟩
  exact k _ _ ⟨d, r, bd, tw, _, _, _, _, _, _, _, _, o, og, xs, rs, b, rfl, R.same (same_updN s1 n1)⟩
theorem chk10 {cdv : Value} {A : Around} {outer : List Env} {s : Shared} {H0 : Hp} {E : XK} (hr : Room 12 (A.deeper (PyProof.Rows.envOfC "_law_right" (defScope s_right) s.heap.objs.size f cdv))) (BF : BodyF P w K mg base CB CM) :
    PS (cxOf CX0 P w K mg base NR "_law_right" (defScope s_right) f cdv A outer s H0 E).nox (stR 10) (tChk CB CM Z a0) := by
  obtain ⟨f_ops, fd_ops, m_ops, G_ops, b_ops⟩ := BF.ops
  refine ps_imp (ps_expr (pe_bm0 PySem.F.plainAttrs_dict PySem.F.slot_dict_clear PySem.F.type_dict_clear mtd_clear (pe_meth0 (pv 7) BF.cl.cl m_ops G_ops (hr.mono (by decide)) b_ops .nil pass0))) fun D σ H q => ?_
  obtain ⟨⟨d, r, bd, tw, v0, v4, v5, v6, v9, v10, v11, v12, o, og, xs, rs, b, rfl, R⟩, k⟩ := q
  obtain ⟨dx, m, eb⟩ := R.B.one
  refine ⟨_, rfl, bd, dx, _, rfl, eb, by rfl, bd, og, rs, b, rfl, R.B, fun o' ord p1 H1 n1 s1 e1 => ⟨.inr (.inr (.inl ⟨rfl, .inl ⟨_, e1⟩⟩)), p1, _, rfl, rfl, e1, ?_⟩⟩
  exact k _ _ ⟨d, r, bd, tw, _, _, _, _, _, _, _, _, o, og, xs, rs, b, rfl, R.same (same_updN s1 n1)⟩
theorem firsts_few {o : Ops} {rs : List RowD} {b : Nat} {x : Str} {as : List Str} (ok : OkB o rs b) (h : IsFirsts x (restD rs b) as) : as.length < 64 := by
  rw [h.1.length_eq]
  exact ok.few x
theorem chk11 {cdv : Value} {A : Around} {outer : List Env} {s : Shared} {H0 : Hp} {E : XK} (hr : Room 12 (A.deeper (PyProof.Rows.envOfC "_law_right" (defScope s_right) s.heap.objs.size f cdv))) (BF : BodyF P w K mg base CB CM) :
    PS (cxOf CX0 P w K mg base NR "_law_right" (defScope s_right) f cdv A outer s H0 E).nox (stR 11) (tChk CB CM Z a0) := by
  obtain ⟨f_asked, fd_asked, m_asked, G_asked, b_asked⟩ := BF.asked
  refine ps_imp (ps_expr (pe_bm PySem.F.plainAttrs_list PySem.F.slot_list_append PySem.F.type_list_append mt_append (pe_meth0 (pv 7) BF.cl.cl m_asked G_asked (hr.mono (by decide)) b_asked .nil pass0) (pa_cons pe_str pa_nil))) fun D σ H q => ?_
  obtain ⟨⟨d, r, bd, tw, v0, v4, v5, v6, v9, v10, v11, v12, o, og, xs, rs, b, rfl, R⟩, k⟩ := q
  obtain ⟨dx, m, eb⟩ := R.B.one
  refine ⟨_, rfl, bd, dx, _, rfl, eb, by rfl, bd, og, rs, b, rfl, R.B, fun as fa p1 H1 n1 s1 e1 => ⟨.inl ⟨rfl, _, SqL.of e1⟩, p1, _, _, rfl, rfl, e1, by rw [List.length_map, sizeLine_eq]; have := firsts_few R.ok fa; omega, ?_⟩⟩
  exact k _ _ ⟨d, r, bd, tw, _, _, _, _, _, _, _, _, o, og, xs, rs, b, rfl, R.same (same_updN s1 n1)⟩
theorem chk12 {cdv : Value} {A : Around} {outer : List Env} {s : Shared} {H0 : Hp} {E : XK} (hr : Room 12 (A.deeper (PyProof.Rows.envOfC "_law_right" (defScope s_right) s.heap.objs.size f cdv))) (BF : BodyF P w K mg base CB CM) :
    PS (cxOf CX0 P w K mg base NR "_law_right" (defScope s_right) f cdv A outer s H0 E).nox (stR 12) (tChk CB CM Z a0) := by
  obtain ⟨f_words, fd_words, m_words, G_words, b_words⟩ := BF.words
  refine ps_imp (ps_expr (pe_bm PySem.F.plainAttrs_list PySem.F.slot_list_append PySem.F.type_list_append mt_append (pe_meth0 (pv 7) BF.cl.cl m_words G_words (hr.mono (by decide)) b_words .nil pass0) (pa_cons pe_str pa_nil))) fun D σ H q => ?_
  obtain ⟨⟨d, r, bd, tw, v0, v4, v5, v6, v9, v10, v11, v12, o, og, xs, rs, b, rfl, R⟩, k⟩ := q
  obtain ⟨dx, m, eb⟩ := R.B.one
  refine ⟨_, rfl, bd, dx, _, rfl, eb, by rfl, bd, og, rs, b, rfl, R.B, fun as fa p1 H1 n1 s1 e1 => ⟨.inl ⟨rfl, _, SqL.of e1⟩, p1, _, _, rfl, rfl, e1, by rw [List.length_map, sizeLine_eq]; have := firsts_few R.ok fa; omega, ?_⟩⟩
  exact k _ _ ⟨d, r, bd, tw, _, _, _, _, _, _, _, _, o, og, xs, rs, b, rfl, R.same (same_updN s1 n1)⟩
theorem ok_right {fd fdB fdMx fdLs fdNx fdOp fdRw fdNR fdUN : FuncData} (F : Fun K "_law_right" "_law_right" s_right f fd) (T : TxtF K mg fII fIW) (BF : BodyF P w K mg base CB CM) (h_range : mg "range" = none)
    (MB : Mk K CB fB) (GB : FnOk P w K mg base CX0 7 fB fdB PB (spBody CB CM)) (kB : KBn K fdB PB (2 + 1) KS (fun us ws => us ++ ws) (fun vs zs => vs ++ zs)) (g_Body : mg "Body" = some (.ref CB))
    (G_next : FnOk P w K mg base CX0 1 fNx fdNx ["_law_source", "_law_many"] spNext) (b_next : Binds K fdNx ["_law_source", "_law_many"] []) (g_next : mg "_law_next" = some (.ref fNx)) (k_next : PySem.W.keepIn K (.ref fNx) = true)
    (G_ops : FnOk P w K mg base CX0 3 fOp fdOp ["_law_source", "_law_many"] spDrawOps) (b_ops : Binds K fdOp ["_law_source", "_law_many"] []) (g_ops : mg "_law_operations" = some (.ref fOp)) (k_ops : PySem.W.keepIn K (.ref fOp) = true)
    (G_rows : FnOk P w K mg base CX0 3 fRw fdRw ["_law_source", "_law_operations_here", "_law_many"] spDrawRows) (b_rows : Binds K fdRw ["_law_source", "_law_operations_here", "_law_many"] []) (g_rows : mg "_law_rows" = some (.ref fRw)) (k_rows : PySem.W.keepIn K (.ref fRw) = true)
    (G_mixed : FnOk P w K mg base CX0 2 fMx fdMx ["_law_source", "_law_some"] spMixed) (b_mixed : Binds K fdMx ["_law_source", "_law_some"] []) (g_mixed : mg "_law_mixed" = some (.ref fMx)) (k_mixed : PySem.W.keepIn K (.ref fMx) = true)
    (G_listed : FnOk P w K mg base CX0 3 fLs fdLs ["_law_thing"] spListR) (b_listed : Binds K fdLs ["_law_thing"] []) (g_listed : mg "_law_listed" = some (.ref fLs)) (k_listed : PySem.W.keepIn K (.ref fLs) = true)
    (G_nr : FnG P w K mg base CX0 6 fNR fdNR ["_law_body", "_law_thing"] (spIsNoRow K CB CM)) (b_nr : Binds K fdNR ["_law_body", "_law_thing"] []) (g_nr : mg "_law_is_no_row" = some (.ref fNR)) (k_nr : PySem.W.keepIn K (.ref fNR) = true)
    (G_un : FnOk P w K mg base CX0 9 fUN fdUN ["_law_operations_here", "_law_rows_here", "_law_begin"] (spUnlike CB CM)) (b_un : Binds K fdUN ["_law_operations_here", "_law_rows_here", "_law_begin"] []) (g_un : mg "_law_unlike" = some (.ref fUN)) (k_un : PySem.W.keepIn K (.ref fUN) = true) :
    FnG P w K mg base CX0 13 f fd ["_law_source"] spRight := by
  refine F.okG sc_right (fun vs H Q E h => ?_) (fun cdv A outer s H vs Q E hA hr h => ?_)
  · obtain ⟨a, rfl, _⟩ := h
    rfl
  · obtain ⟨a, rfl, ⟨x, y, z, src⟩, k⟩ := h
    refine ⟨_, (pss_cons (ps_set (i := 1) sc_right.nd rfl (Or.inl rfl) (pe_call G_ops (hr.mono (by decide)) (by rfl) g_ops k_ops b_ops .nil pass0 (pa_cons (pv 0) (pa_cons (pe_call G_next (hr.mono (by decide)) (by rfl) g_next k_next b_next .nil pass0 (pa_cons (pv 0) (pa_cons pe_int pa_nil))) pa_nil)))) (pss_cons (ps_set (i := 2) sc_right.nd rfl (Or.inl rfl) (pe_call G_rows (hr.mono (by decide)) (by rfl) g_rows k_rows b_rows .nil pass0 (pa_cons (pv 0) (pa_cons (pv 1) (pa_cons (pe_op op_add pe_int (pe_call G_next (hr.mono (by decide)) (by rfl) g_next k_next b_next .nil pass0 (pa_cons (pv 0) (pa_cons pe_int pa_nil)))) pa_nil))))) (pss_cons (ps_set (i := 3) sc_right.nd rfl (Or.inl rfl) (pe_call G_next (hr.mono (by decide)) (by rfl) g_next k_next b_next .nil pass0 (pa_cons (pv 0) (pa_cons (pe_callB call_len_seq (by rfl) T.b_len PySem.boot_len (pa_cons (pv 2) pa_nil)) pa_nil)))) (pss_cons (st3 (Z := H) (a0 := a) hr T G_mixed b_mixed g_mixed k_mixed G_listed b_listed g_listed k_listed) (pss_cons (st4 (Z := H) (a0 := a) (CB := CB) (CM := CM) hr MB GB kB g_Body) (pss_cons (st5 (Z := H) (a0 := a) (CB := CB) (CM := CM) hr) (pss_cons (st6 (Z := H) (a0 := a) (CB := CB) (CM := CM) hr) (pss_cons (st7 (Z := H) (a0 := a) (CB := CB) (CM := CM) hr) (pss_cons (st8 (Z := H) (a0 := a) (CB := CB) (CM := CM) hr T MB GB kB g_Body) (pss_cons (chk9 (Z := H) (a0 := a) (CB := CB) (CM := CM) hr BF) (pss_cons (chk10 (Z := H) (a0 := a) (CB := CB) (CM := CM) hr BF) (pss_cons (chk11 (Z := H) (a0 := a) (CB := CB) (CM := CM) hr BF) (pss_cons (chk12 (Z := H) (a0 := a) (CB := CB) (CM := CM) hr BF) (pss_cons (chk13 (Z := H) (a0 := a) (CB := CB) (CM := CM) hr T BF) (pss_cons (chk14 (Z := H) (a0 := a) (CB := CB) (CM := CM) hr T BF h_range) (pss_cons (chk15 (Z := H) (a0 := a) (CB := CB) (CM := CM) hA hr T BF G_nr b_nr g_nr k_nr) (pss_cons (chk16 (Z := H) (a0 := a) (CB := CB) (CM := CM) hr T BF G_un b_un g_un k_un) (pss_one (chk17 (Z := H) (a0 := a) (CB := CB) (CM := CM) hr T BF))))))))))))))))))), ?_⟩
    refine ⟨_, rfl, _, rfl, a, 5, x, y, z, rfl, by decide, by decide, src, fun n x1 y1 z1 H1 n0 n5 bt1 e1 => ?_⟩
    obtain ⟨n, rfl⟩ := Int.eq_ofNat_of_zero_le n0
    refine ⟨a, n, x1, y1, z1, rfl, e1, by omega, fun d o x2 y2 z2 H2 nd2 ol vals nd bt2 e2 ed => ?_⟩
    have da : d ≠ a := fun q => by
      rw [q, e1] at nd2
      cases nd2
    refine ⟨_, rfl, _, rfl, _, rfl, a, 12, x2, y2, z2, rfl, by decide, by decide, e2, fun m x3 y3 z3 H3 m0 m12 bt3 e3 => ?_⟩
    obtain ⟨m, rfl⟩ := Int.eq_ofNat_of_zero_le m0
    refine ⟨_, _, rfl, rfl, ?_⟩
    refine ⟨a, d, o, 1 + m, x3, y3, z3, by rw [Int.natCast_add]; rfl, e3, bt3 _ _ da ed, nd, by omega, vals, by omega, by omega, fun r xs rs x4 y4 z4 H4 nr rl okr fine bt4 e4 er rows => ?_⟩
    have ra : r ≠ a := fun q => by
      rw [q, e3] at nr
      cases nr
    have lx := rows.1
    refine ⟨_, rfl, _, rfl, r, xs, rfl, .inl (SqL.of er), a, (xs.length : Int), x4, y4, z4, rfl, by omega, ?_, e4, fun b x5 y5 z5 H5 b0 bl bt5 e5 => ?_⟩
    · rw [Int.natAbs_natCast]
      exact Nat.lt_of_le_of_lt (show xs.length ≤ 12 by omega) (by decide)
    obtain ⟨b, rfl⟩ := Int.eq_ofNat_of_zero_le b0
    have rows5 : Rows H5 xs rs := ⟨rows.1, fun i dd e => by
      obtain ⟨v, h1, h2⟩ := rows.2 i dd e
      have ta : ∀ {t : Addr} {us : List V}, H4 t = some (.tup us) → H5 t = some (.tup us) := fun {t us} e => bt5 _ _ (fun zz => by rw [zz, e4] at e; cases e) e
      refine ⟨v, h1, ?_⟩
      cases dd with
      | ask op ns =>
        obtain ⟨q, t, e1, k1, k2⟩ := h2
        exact ⟨q, t, e1, ta k1, ta k2⟩
      | go m =>
        obtain ⟨q, e1, k1⟩ := h2
        exact ⟨q, e1, ta k1⟩
      | fin m =>
        obtain ⟨q, e1, k1⟩ := h2
        exact ⟨q, e1, ta k1⟩⟩
    have ok : OkB o rs b := ⟨⟨by omega, fun q hq => ⟨names8_ok _ (vals q hq).1, (vals q hq).2.1, by have := (vals q hq).2.2; omega⟩, nd⟩, by omega, by omega, okr, by omega⟩
    have dr : Dr H a H5 d r o xs rs b := ⟨bt5 _ _ da (bt4 _ _ da (bt3 _ _ da ed)), bt5 _ _ ra er, rows5, ok, by omega, by omega, fun q hq => (vals q hq).1, fine, bt1.trans (bt2.trans (bt3.trans (bt4.trans bt5))), ⟨x5, y5, z5, e5⟩⟩
    refine ⟨⟨d, r, o, xs, rs, b, rfl, da, ra, dr⟩, fun σ3 H3 p3 => ⟨p3, fun σ4 H4 p4 => ⟨p4, fun σ5 H5 p5 => ⟨p5, fun σ6 H6 p6 => ⟨p6, fun σ7 H7 p7 => ⟨p7, fun σ8 H8 p8 => ⟨p8, fun σ9 H9 p9 => ⟨p9, fun σ10 H10 p10 => ⟨p10, fun σ11 H11 p11 => ⟨p11, fun σ12 H12 p12 => ⟨p12, fun σ13 H13 p13 => ⟨p13, fun σ14 H14 p14 => ⟨p14, fun σ15 H15 p15 => ⟨p15, fun σ16 H16 p16 => ⟨p16, fun H' bt src => k H' bt src⟩⟩⟩⟩⟩⟩⟩⟩⟩⟩⟩⟩⟩⟩⟩
end
end Mine

set_option maxRecDepth 100000
set_option maxHeartbeats 4000000
namespace Mine
open PySem L2
abbrev s_law : Stmt := top 48
def spLaw (K : PySem.W.Frag) : Sp := fun vs H Q _ => ∃ (a : Addr) (ns : List Int), vs = [.ref a] ∧ SqL K H a (ns.map V.int) ∧ ns.length ≤ 63 ∧ ∀ H', Q (.bl true) H'
theorem ok_a : OkB [] [.fin "a"] 0 := by
  refine ⟨⟨by decide, (fun p h => nomatch h), by decide⟩, by decide, by decide, OkRows.mem fun d hd => ?_, by decide⟩
  rw [List.mem_singleton.mp hd]
  show isNm "a" = true ∧ ("a" : Str).length ≤ 8
  decide +kernel
theorem body_end2 {CB CM : Addr} {H2 : Hp} {R : Hp → Prop} {E : XK} {d r : Addr} {xs : List V} {rs : List RowD} {o : Ops} {b : Nat} (hd : H2 d = some (.dK (opsK o))) (hx : SqA H2 r xs) (rows : RowsIn H2 xs rs) (ok : OkB o rs b)
    (bd dx : Addr) (nb : H2 bd = none) (nd : H2 dx = none) (k : ∀ H3, BodyAt CB CM H3 bd o rs b → R H3) : spBody CB CM [.ref bd, .ref d, .ref r, .int b] (upd (upd H2 dx (.own bd)) bd (.ins CB dx [])) (fun v H3 => v = .non ∧ R H3) E := by
  have sm : Same H2 (upd (upd H2 dx (.own bd)) bd (.ins CB dx [])) := same_updN (same_updN (Same.refl _) nd) nb
  exact ⟨bd, d, r, dx, xs, rs, o, b, rfl, upd_same, sm _ _ hd, ok.ops, sm.sqa hx, rows.same sm, ok.lo, by have := ok.hi; omega, ok.rows, ok.lt, ok.few "ask", ok.few "end", fun H' s' B => ⟨rfl, k H' B.at⟩⟩
section
variable {P : Program} {w : World} {K : PySem.W.Frag} {mg : Str → Option Value} {base : Heap}
variable {fII fIW CB CM f fB fSr fRt : Addr}
theorem sc_law : FnScope ["_law_script", "_law_cell", "_law_source", "_law_turn"] ["_law_script"] (defScope s_law) := ⟨rfl, rfl, rfl, by decide +kernel, rfl, by decide +kernel, by decide +kernel⟩
theorem ok_law {fd fdB fdSr fdRt : FuncData} {ds : List Value} (F : Fun K "law" "law" s_law f fd) (BF : BodyF P w K mg base CB CM) (h_range : mg "range" = none)
    (MB : Mk K CB fB) (GB : FnOk P w K mg base CX0 7 fB fdB PB (spBody CB CM)) (hds : Vals [V.int 0] ds) (bB : Binds K fdB PB ds) (g_Body : mg "Body" = some (.ref CB))
    (G_src : FnOk P w K mg base CX0 1 fSr fdSr ["_law_cell"] spSrc) (b_src : Binds K fdSr ["_law_cell"] []) (g_src : mg "_law_source_of" = some (.ref fSr)) (k_src : PySem.W.keepIn K (.ref fSr) = true)
    (G_right : FnG P w K mg base CX0 13 fRt fdRt ["_law_source"] spRight) (b_right : Binds K fdRt ["_law_source"] []) (g_right : mg "_law_right" = some (.ref fRt)) (k_right : PySem.W.keepIn K (.ref fRt) = true) :
    FnG P w K mg base CX0 14 f fd ["_law_script"] (spLaw K) := by
  obtain ⟨ps_, gs_, fd_start, p_start, G_start, b_start⟩ := BF.start
  refine F.okG sc_law (fun vs H Q E h => ?_) (fun cdv A outer s H vs Q E hA hr h => ?_)
  · obtain ⟨a, ns, rfl, _⟩ := h
    rfl
  · obtain ⟨a, ns, rfl, hS, hlen, k⟩ := h
    refine ⟨_, (pss_cons (ps_for PassesOwn.never rfl (pi_list (pe_op op_catG (pe_slice sl_listG (pv 0) po_none (po_some pe_int)) (pe_lstG (pa_cons pe_int pa_nil)))) (pg_name (i := 1) sc_law.nd rfl (Or.inl rfl))
      (pss_cons (ps_set (i := 2) sc_law.nd rfl (Or.inl rfl) (pe_call G_src (hr.mono (by decide)) (by rfl) g_src k_src b_src .nil pass0 (pa_cons (pv 1) pa_nil)))
      (pss_one (ps_for PassesOwn.never rfl (pi_range1 (by rfl) h_range (pa_cons pe_int pa_nil)) (pg_name (i := 3) sc_law.nd rfl (Or.inl rfl)) (pss_one (ps_if (pt_not (pt_val (pe_callG G_right (hA.deeper _) hr (by rfl) g_right k_right b_right .nil pass0 (pa_cons (pv 2) pa_nil)))) (pss_one ps_no) pss_nil))))))
      (pss_one (ps_ret (pe_cmpR op_eq (pe_prop (pe_make (dvs := [V.int 0]) MB GB (hr.mono (by decide)) (by rfl) g_Body bB hds pass0 (pa_cons pe_dnewK (pa_cons (pe_lstG (pa_cons (pe_tupG (pa_cons pe_str (pa_cons pe_str pa_nil))) pa_nil)) pa_nil))) BF.cl.cl p_start G_start (hr.mono (by decide)) b_start .nil pass0 (by rfl)) pe_int (nomark _))))), ?_⟩
    have two : ∀ v u : V, [v, u].length ≤ sizeLine := fun v u => by rw [sizeLine_eq]; exact Nat.le_trans (show 2 ≤ 2 from Nat.le_refl 2) (by decide)
    have one : ∀ v : V, [v].length ≤ sizeLine := fun v => by rw [sizeLine_eq]; exact Nat.le_trans (show 1 ≤ 1 from Nat.le_refl 1) (by decide)
    refine ⟨_, rfl, 6, rfl, a, _, rfl, hS, fun p1 H1 n1 s1 e1 => ?_⟩
    refine ⟨one _, fun p2 H2 n2 s2 e2 => ?_⟩
    refine ⟨p1, p2, _, _, rfl, rfl, s2 _ _ e1, e2, ?_, fun p3 H3 n3 s3 e3 => ?_⟩
    · have := ints_cut_len (lo := none) (hi := some 6) hlen
      show _ + 1 ≤ sizeLine
      rw [sizeLine_eq]
      omega
    refine ⟨p3, rfl, ⟨_, SqL.of e3⟩, for_list (K := K) (a := p3) (xs := cutV (ns.map V.int) none (some 6) ++ [.int 0]) (fun i σ H' => ∃ v1 v2 v3 : Option V, σ = [some (.ref a), v1, v2, v3] ∧ Same H3 H') ⟨_, _, _, rfl, Same.refl _⟩ (fun i σ H' _ z => by obtain ⟨_, _, _, _, s⟩ := z; exact s.seq (SqL.of e3)) ?_ ?_⟩
    · rintro i y σ Hc hi ⟨v1, v2, v3, rfl, sc⟩
      obtain ⟨c, rfl⟩ := ints_cut hi
      refine ⟨_, rfl, c, rfl, fun x y z p4 H4 n4 s4 e4 => ?_⟩
      refine ⟨6, rfl, by decide, by decide, for_range (n := 6) (fun j σ H' => ∃ v3 : Option V, σ = [some (.ref a), some (.int c), some (.ref p4), v3] ∧ Same Hc H' ∧ SrcAt H' p4) ⟨_, rfl, s4, x, y, z, e4⟩ ?_ ?_⟩
      · rintro j σ Hd hj ⟨v3, rfl, sd, src⟩
        refine ⟨_, rfl, p4, rfl, src, fun H'' bt src2 => ⟨_, rfl, ?_⟩⟩
        exact iteF ⟨_, rfl, But.same sd bt n4, src2⟩
      · rintro σ Hd ⟨v3, rfl, sd, src⟩
        exact ⟨_, _, _, rfl, sc.trans sd⟩
    · rintro σ Hc ⟨v1, v2, v3, rfl, sc⟩
      refine fun p np => ?_
      have e0 : upd Hc p (.dK []) p = some (.dK (opsK [])) := upd_same
      generalize upd Hc p (.dK []) = H0 at e0 ⊢
      refine ⟨two _ _, fun T1 H1 n1 s1 e1 => ⟨one _, fun L2 H2 n2 s2 e2 => fun bd dx nb nd ne => ?_⟩⟩
      have rin : RowsIn H2 [V.ref T1] [.fin "a"] := ⟨rfl, fun i dd e => by
        cases i with
        | zero =>
          have := Option.some.inj e
          subst this
          exact ⟨_, rfl, T1, rfl, .inr (s2 _ _ e1)⟩
        | succ i => simp at e⟩
      refine body_end2 (CB := CB) (CM := CM) (b := 0) (s2 _ _ (s1 _ _ e0)) (.inl e2) rin ok_a bd dx nb nd (fun H3 B => ?_)
      obtain ⟨dx, m, eb⟩ := B.one
      exact ⟨bd, dx, _, rfl, eb, bd, [], [.fin "a"], 0, rfl, B, rfl, k _⟩
end
end Mine

set_option maxRecDepth 100000
set_option maxHeartbeats 4000000
namespace Mine
open PySem L2
abbrev veRow : List Value := [.type "ValueError", .type "Exception", .type "BaseException", .type "object"]
/-- what the written part holds of an error class -/
structure Raw (K : PySem.W.Frag) (cA C : Addr) : Prop where
  xL : ∃ nm q N bs sn sub ab col dd m0 m1 m2 m3 m5, K.lookup C = some (excClassObj nm q C N bs [.ref cA, .type "ValueError", .type "Exception", .type "BaseException", .type "object"] true sn sub ab col dd m0 m1 m2 m3 m5 "ValueError.__new__")
  ga : PySem.W.findIn K (.ref C) "__getattribute__" = some (some (.builtin "BaseException.__getattribute__"))
  gg : PySem.W.findIn K (.ref C) "__getattr__" = some none
  ca : PySem.W.findIn K (.ref C) "__class__" = some (some (.builtin "object.__class__"))
  sa : PySem.W.findIn K (.ref C) "__setattr__" = some (some (.builtin "object.__setattr__"))
  ty : PySem.W.typeIn K (.ref C) = some (.type "type")
  hd : PySem.W.hasDictIn K C = true
  kC : PySem.W.keepIn K (.ref C) = true
theorem Raw.mro {K : PySem.W.Frag} {cA C : Addr} (r : Raw K cA C) : ∃ cd : ClassData, PySem.W.clsIn K C = some cd ∧ cd.mro = [.ref C, .ref cA, .type "ValueError", .type "Exception", .type "BaseException", .type "object"] := by
  obtain ⟨nm, q, N, bs, sn, sub, ab, col, dd, m0, m1, m2, m3, m5, hC⟩ := r.xL
  refine ⟨{ name := nm, bases := bs, mro := [.ref C, .ref cA, .type "ValueError", .type "Exception", .type "BaseException", .type "object"], ns := N, qualname := q, hasDict := true, slotNames := sn, subclasses := sub, abstract := ab, collection := col, hasDel := false }, ?_, rfl⟩
  unfold PySem.W.clsIn
  rw [hC] <;> rfl
theorem Raw.sub {K : PySem.W.Frag} {cA C : Addr} (r : Raw K cA C) (b : Value) (hb : ([.ref C, .ref cA, .type "ValueError", .type "Exception", .type "BaseException", .type "object"] : List Value).contains b = true) :
    PySem.W.mroIn K C b = some true := by
  obtain ⟨cd, h1, h2⟩ := r.mro
  show (PySem.W.clsIn K C).bind _ = _
  rw [h1, Option.bind_some, h2]
  show some _ = some true
  rw [hb]
theorem Raw.exc {K : PySem.W.Frag} {cA C : Addr} (r : Raw K cA C) (hn : PySem.W.specialIn K (.builtin "object.__class__") "__get__" = some (some (.builtin "getset_descriptor.__get__"))) (ht : PySem.W.takesIn K (.builtin "object.__class__") = some true) : ExcC K C :=
  ⟨r.ga, r.gg, r.sub _ (by simp [List.contains_cons]), r.hd, r.ca, hn, ht, r.sub _ (by simp [List.contains_cons])⟩
theorem Raw.oex {K : PySem.W.Frag} {cA C : Addr} (r : Raw K cA C) : OexC K C := by
  obtain ⟨nm, q, N, bs, sn, sub, ab, col, dd, m0, m1, m2, m3, m5, hC⟩ := r.xL
  exact ⟨⟨nm, q, N, bs, _, sn, sub, ab, col, dd, m0, m1, m2, m3, m5, hC, by show PySem.HandSPX.refsVE veRow = true; decide +kernel⟩, r.sa, r.sub _ (by simp [List.contains_cons]), r.ty, r.kC⟩
theorem odd_own {K : PySem.W.Frag} {C : Addr} {ty : String} (hd : PySem.W.hasDictIn K C = true) (ht : PySem.W.typeIn K (.ref C) = some (.type "type")) (h : PySem.W.subIn K (.type ty) (.ref C) = some false) : PySem.W.kitOne K (.type ty) (.ref C) = some false ∧ PySem.W.notFirst K C (.type ty) = true := by
  have ne : ((Value.type ty) == (Value.ref C)) = false := beq_eq_false_iff_ne.mpr fun z => nomatch z
  obtain ⟨cd, hc, _⟩ := PySem.W.any_some hd
  refine ⟨?_, ?_⟩
  · unfold PySem.W.kitOne
    rw [ne, if_neg Bool.false_ne_true]
    show (if ((PySem.W.clsIn K C).isSome && PySem.W.typeIn K (.ref C) == some (.type "type")) = true then PySem.W.subIn K (.type ty) (.ref C) else none) = some false
    rw [if_pos (by rw [hc, ht] <;> rfl)]
    exact h
  · unfold PySem.W.notFirst
    rw [h]
    simp
theorem all_mk {l : PySem.W.OpenLaw} {w : World} {K : PySem.W.Frag} {h : Heap} {mg : Str → Option Value} {fa a_is_integer a_is_within a_is_index a_is_row a_is_name a_is_text_in a_are_counts a_are_operations a_in_order a_word_of a_are_nexts a_are_equal a_stops_of a_rest_of a_rests_from a_nexts_of a_firsts_of a_lines_read a_is_line a_line_of a_law_source_of a_law_next a_law_one a_law_mixed a_law_operations a_law_rows a_law_listed a_law_is_no_row a_law_unlike a_law_right a_law m_rows m_operations m_asked m_words m_len m_getitem m_eq m_start p_start fM fB fN CA CB CM CN DK : Addr} {fd_is_integer fd_is_within fd_is_index fd_is_row fd_is_name fd_is_text_in fd_are_counts fd_are_operations fd_in_order fd_word_of fd_are_nexts fd_are_equal fd_stops_of fd_rest_of fd_rests_from fd_nexts_of fd_firsts_of fd_lines_read fd_is_line fd_line_of fd_law_source_of fd_law_next fd_law_one fd_law_mixed fd_law_operations fd_law_rows fd_law_listed fd_law_is_no_row fd_law_unlike fd_law_right fd_law fdm_rows fdm_operations fdm_asked fdm_words fdm_len fdm_getitem fdm_eq fdm_start fdM fdB fdN : FuncData} {tD tL t1 t2 t3 t4 : Tok} {rest : List Value} (X : K.In h) (G : h.Ns mainGlobals mg) (hfa : mg "law" = some (.ref fa))
    (g_is_integer : PySem.W.nsIn K mainGlobals "is_integer" = some (some (.ref a_is_integer)))
    (F_is_integer : Fun K "is_integer" "is_integer" s_is_integer a_is_integer fd_is_integer)
    (g_is_within : PySem.W.nsIn K mainGlobals "is_within" = some (some (.ref a_is_within)))
    (F_is_within : Fun K "is_within" "is_within" s_is_within a_is_within fd_is_within)
    (g_is_index : PySem.W.nsIn K mainGlobals "is_index" = some (some (.ref a_is_index)))
    (F_is_index : Fun K "is_index" "is_index" s_is_index a_is_index fd_is_index)
    (g_is_row : PySem.W.nsIn K mainGlobals "is_row" = some (some (.ref a_is_row)))
    (F_is_row : Fun K "is_row" "is_row" s_is_row a_is_row fd_is_row)
    (g_is_name : PySem.W.nsIn K mainGlobals "is_name" = some (some (.ref a_is_name)))
    (F_is_name : Fun K "is_name" "is_name" s_is_name a_is_name fd_is_name)
    (g_is_text_in : PySem.W.nsIn K mainGlobals "is_text_in" = some (some (.ref a_is_text_in)))
    (F_is_text_in : Fun K "is_text_in" "is_text_in" s_is_text_in a_is_text_in fd_is_text_in)
    (g_are_counts : PySem.W.nsIn K mainGlobals "are_counts" = some (some (.ref a_are_counts)))
    (F_are_counts : Fun K "are_counts" "are_counts" s_are_counts a_are_counts fd_are_counts)
    (g_are_operations : PySem.W.nsIn K mainGlobals "are_operations" = some (some (.ref a_are_operations)))
    (F_are_operations : Fun K "are_operations" "are_operations" s_are_operations a_are_operations fd_are_operations)
    (g_in_order : PySem.W.nsIn K mainGlobals "in_order" = some (some (.ref a_in_order)))
    (F_in_order : Fun K "in_order" "in_order" s_in_order a_in_order fd_in_order)
    (g_word_of : PySem.W.nsIn K mainGlobals "word_of" = some (some (.ref a_word_of)))
    (F_word_of : Fun K "word_of" "word_of" s_word_of a_word_of fd_word_of)
    (g_are_nexts : PySem.W.nsIn K mainGlobals "are_nexts" = some (some (.ref a_are_nexts)))
    (F_are_nexts : Fun K "are_nexts" "are_nexts" s_are_nexts a_are_nexts fd_are_nexts)
    (g_are_equal : PySem.W.nsIn K mainGlobals "are_equal" = some (some (.ref a_are_equal)))
    (F_are_equal : Fun K "are_equal" "are_equal" s_are_equal a_are_equal fd_are_equal)
    (g_stops_of : PySem.W.nsIn K mainGlobals "stops_of" = some (some (.ref a_stops_of)))
    (F_stops_of : Fun K "stops_of" "stops_of" s_stops_of a_stops_of fd_stops_of)
    (g_rest_of : PySem.W.nsIn K mainGlobals "rest_of" = some (some (.ref a_rest_of)))
    (F_rest_of : Fun K "rest_of" "rest_of" s_rest_of a_rest_of fd_rest_of)
    (g_rests_from : PySem.W.nsIn K mainGlobals "rests_from" = some (some (.ref a_rests_from)))
    (F_rests_from : Fun K "rests_from" "rests_from" s_rests_from a_rests_from fd_rests_from)
    (g_nexts_of : PySem.W.nsIn K mainGlobals "nexts_of" = some (some (.ref a_nexts_of)))
    (F_nexts_of : Fun K "nexts_of" "nexts_of" s_nexts_of a_nexts_of fd_nexts_of)
    (g_firsts_of : PySem.W.nsIn K mainGlobals "firsts_of" = some (some (.ref a_firsts_of)))
    (F_firsts_of : Fun K "firsts_of" "firsts_of" s_firsts_of a_firsts_of fd_firsts_of)
    (g_lines_read : PySem.W.nsIn K mainGlobals "lines_read" = some (some (.ref a_lines_read)))
    (F_lines_read : Fun K "lines_read" "lines_read" s_lines_read a_lines_read fd_lines_read)
    (g_is_line : PySem.W.nsIn K mainGlobals "is_line" = some (some (.ref a_is_line)))
    (F_is_line : Fun K "is_line" "is_line" s_is_line a_is_line fd_is_line)
    (g_line_of : PySem.W.nsIn K mainGlobals "line_of" = some (some (.ref a_line_of)))
    (F_line_of : Fun K "line_of" "line_of" s_line_of a_line_of fd_line_of)
    (g_law_source_of : PySem.W.nsIn K mainGlobals "_law_source_of" = some (some (.ref a_law_source_of)))
    (F_law_source_of : Fun K "_law_source_of" "_law_source_of" sSrc a_law_source_of fd_law_source_of)
    (g_law_next : PySem.W.nsIn K mainGlobals "_law_next" = some (some (.ref a_law_next)))
    (F_law_next : Fun K "_law_next" "_law_next" sNext a_law_next fd_law_next)
    (g_law_one : PySem.W.nsIn K mainGlobals "_law_one" = some (some (.ref a_law_one)))
    (F_law_one : Fun K "_law_one" "_law_one" sOne a_law_one fd_law_one)
    (g_law_mixed : PySem.W.nsIn K mainGlobals "_law_mixed" = some (some (.ref a_law_mixed)))
    (F_law_mixed : Fun K "_law_mixed" "_law_mixed" s_mixed a_law_mixed fd_law_mixed)
    (g_law_operations : PySem.W.nsIn K mainGlobals "_law_operations" = some (some (.ref a_law_operations)))
    (F_law_operations : Fun K "_law_operations" "_law_operations" s_ops a_law_operations fd_law_operations)
    (g_law_rows : PySem.W.nsIn K mainGlobals "_law_rows" = some (some (.ref a_law_rows)))
    (F_law_rows : Fun K "_law_rows" "_law_rows" s_rows a_law_rows fd_law_rows)
    (g_law_listed : PySem.W.nsIn K mainGlobals "_law_listed" = some (some (.ref a_law_listed)))
    (F_law_listed : Fun K "_law_listed" "_law_listed" s_listed a_law_listed fd_law_listed)
    (g_law_is_no_row : PySem.W.nsIn K mainGlobals "_law_is_no_row" = some (some (.ref a_law_is_no_row)))
    (F_law_is_no_row : Fun K "_law_is_no_row" "_law_is_no_row" s_is_no_row a_law_is_no_row fd_law_is_no_row)
    (g_law_unlike : PySem.W.nsIn K mainGlobals "_law_unlike" = some (some (.ref a_law_unlike)))
    (F_law_unlike : Fun K "_law_unlike" "_law_unlike" s_unlike a_law_unlike fd_law_unlike)
    (g_law_right : PySem.W.nsIn K mainGlobals "_law_right" = some (some (.ref a_law_right)))
    (F_law_right : Fun K "_law_right" "_law_right" s_right a_law_right fd_law_right)
    (g_law : PySem.W.nsIn K mainGlobals "law" = some (some (.ref a_law)))
    (F_law : Fun K "law" "law" s_law a_law fd_law)
    (gc_AskError : PySem.W.nsIn K mainGlobals "AskError" = some (some (.ref CA)))
    (gc_Body : PySem.W.nsIn K mainGlobals "Body" = some (some (.ref CB)))
    (gc_Machine : PySem.W.nsIn K mainGlobals "Machine" = some (some (.ref CM)))
    (gc_NoRow : PySem.W.nsIn K mainGlobals "NoRow" = some (some (.ref CN)))
    (rN : Raw K CA CN)
    (iN : PySem.W.findIn K (.ref CN) "__init__" = some (some (.ref fN)))
    (tN : PySem.W.typeIn K (.ref fN) = some (.type "function"))
    (nN : PySem.W.findIn K (.ref CN) "index" = some none)
    (FN : Fun K "__init__" "NoRow.__init__" s_i_NoRow fN fdN)
    (sbA : PySem.W.subIn K (.ref CA) (.type "BaseException") = some true)
    (hdA : PySem.W.hasDictIn K CA = true)
    (tyA : PySem.W.typeIn K (.ref CA) = some (.type "type"))
    (hn : PySem.W.specialIn K (.builtin "object.__class__") "__get__" = some (some (.builtin "getset_descriptor.__get__")))
    (ht : PySem.W.takesIn K (.builtin "object.__class__") = some true)
    (clB : Cls K CB)
    (mkB : PySem.W.makesIn K CB = true)
    (inB : PySem.W.findIn K (.ref CB) "__init__" = some (some (.ref fB)))
    (fnB : PySem.W.isFn K (.ref fB) = true)
    (kpB : PySem.W.keepIn K (.ref CB) = true)
    (clM : Cls K CM)
    (mkM : PySem.W.makesIn K CM = true)
    (inM : PySem.W.findIn K (.ref CM) "__init__" = some (some (.ref fM)))
    (fnM : PySem.W.isFn K (.ref fM) = true)
    (kpM : PySem.W.keepIn K (.ref CM) = true)
    (FM : Fun K "__init__" "Machine.__init__" s_mach fM fdM)
    (FB : ∃ (oc : Value) (od : Option Addr) (doc pm : Value) (an : Option Addr) (cdv ct : Value) (osl : Array (Option Value)), fdB = PySem.W.fnOf "__init__" "Body.__init__" (defArgs s_body) (defBody s_body) (defScope s_body) .none (.ref DK) doc pm an cdv ct ∧ K.lookup fB = some ⟨oc, od, .func fdB, osl⟩ ∧ PySem.W.codeIn K cdv "Body.__init__" = true)
    (kfB : PySem.W.keepIn K (.ref fB) = true)
    (nsD : PySem.W.nsIn K DK "start" = some (some (.int 0 tD)))
    (nm_counts : NoAttr K CM "counts")
    (nm_lines : NoAttr K CM "lines")
    (nm_begin : NoAttr K CM "begin")
    (nm_stops : NoAttr K CM "stops")
    (nm_asks : NoAttr K CM "asks")
    (nm_endings : NoAttr K CM "endings")
    (nm_endless : NoAttr K CM "endless")
    (nb_machine : NoAttr K CB "machine")
    (at_rows : PySem.W.findIn K (.ref CB) "rows" = some (some (.ref m_rows)))
    (fn_rows : PySem.W.isFn K (.ref m_rows) = true)
    (FM_rows : Fun K "rows" "Body.rows" s_b_rows m_rows fdm_rows)
    (at_operations : PySem.W.findIn K (.ref CB) "operations" = some (some (.ref m_operations)))
    (fn_operations : PySem.W.isFn K (.ref m_operations) = true)
    (FM_operations : Fun K "operations" "Body.operations" s_b_operations m_operations fdm_operations)
    (at_asked : PySem.W.findIn K (.ref CB) "asked" = some (some (.ref m_asked)))
    (fn_asked : PySem.W.isFn K (.ref m_asked) = true)
    (FM_asked : Fun K "asked" "Body.asked" s_b_asked m_asked fdm_asked)
    (at_words : PySem.W.findIn K (.ref CB) "words" = some (some (.ref m_words)))
    (fn_words : PySem.W.isFn K (.ref m_words) = true)
    (FM_words : Fun K "words" "Body.words" s_b_words m_words fdm_words)
    (at_len : PySem.W.findIn K (.ref CB) "__len__" = some (some (.ref m_len)))
    (fn_len : PySem.W.isFn K (.ref m_len) = true)
    (FM_len : Fun K "__len__" "Body.__len__" s_b_len m_len fdm_len)
    (at_getitem : PySem.W.findIn K (.ref CB) "__getitem__" = some (some (.ref m_getitem)))
    (fn_getitem : PySem.W.isFn K (.ref m_getitem) = true)
    (FM_getitem : Fun K "__getitem__" "Body.__getitem__" s_b_getitem m_getitem fdm_getitem)
    (at_eq : PySem.W.findIn K (.ref CB) "__eq__" = some (some (.ref m_eq)))
    (fn_eq : PySem.W.isFn K (.ref m_eq) = true)
    (FM_eq : Fun K "__eq__" "Body.__eq__" s_b_eq m_eq fdm_eq)
    (fnI_getitem : PySem.W.fnIn K m_getitem = true)
    (at_start : PySem.W.findIn K (.ref CB) "start" = some (some (.ref p_start)))
    (get_start : PySem.W.specialIn K (.ref p_start) "__get__" = some (some (.builtin "property.__get__")))
    (tak_start : PySem.W.takesIn K (.ref p_start) = some true)
    (rec_start : PySem.W.recIn K p_start "property" = some (.ref m_start :: rest))
    (FM_start : Fun K "start" "Body.start" s_b_start m_start fdm_start)
    (neB : PySem.W.findIn K (.ref CB) "__ne__" = some (some (.builtin "object.__ne__")))
    (obB : PySem.W.subIn K (.ref CB) (.type "object") = some true)
    (haB : PySem.W.findIn K (.ref CB) "__class__" = some (some (.builtin "object.__class__")))
    (hmB : PySem.W.mroIn K CB (.type "object") = some true)
    (tyB : PySem.W.typeIn K (.ref CB) = some (.type "type"))
    (u_NoneType : PySem.W.subIn K (.type "NoneType") (.ref CB) = some false)
    (u_int : PySem.W.subIn K (.type "int") (.ref CB) = some false)
    (u_str : PySem.W.subIn K (.type "str") (.ref CB) = some false)
    (u_list : PySem.W.subIn K (.type "list") (.ref CB) = some false)
    (u_tuple : PySem.W.subIn K (.type "tuple") (.ref CB) = some false)
    (u_dict : PySem.W.subIn K (.type "dict") (.ref CB) = some false)
    (z_int : PySem.W.nsIn K mainGlobals "int" = some none)
    (z_isinstance : PySem.W.nsIn K mainGlobals "isinstance" = some none)
    (z_bool : PySem.W.nsIn K mainGlobals "bool" = some none)
    (z_str : PySem.W.nsIn K mainGlobals "str" = some none)
    (z_list : PySem.W.nsIn K mainGlobals "list" = some none)
    (z_tuple : PySem.W.nsIn K mainGlobals "tuple" = some none)
    (z_dict : PySem.W.nsIn K mainGlobals "dict" = some none)
    (z_len : PySem.W.nsIn K mainGlobals "len" = some none)
    (z_all : PySem.W.nsIn K mainGlobals "all" = some none)
    (z_range : PySem.W.nsIn K mainGlobals "range" = some none)
    (z_sorted : PySem.W.nsIn K mainGlobals "sorted" = some none)
    (z_min : PySem.W.nsIn K mainGlobals "min" = some none)
    (z_enumerate : PySem.W.nsIn K mainGlobals "enumerate" = some none)
    (z_repr : PySem.W.nsIn K mainGlobals "repr" = some none)
    (cLET : PySem.W.nsIn K mainGlobals "LETTERS" = some (some (.str lettersS tL)))
    (c_LONGEST_NAME : PySem.W.nsIn K mainGlobals "LONGEST_NAME" = some (some (.int 8 t1)))
    (c_MOST_OPERATIONS : PySem.W.nsIn K mainGlobals "MOST_OPERATIONS" = some (some (.int 8 t2)))
    (c_MOST_ANSWERS : PySem.W.nsIn K mainGlobals "MOST_ANSWERS" = some (some (.int 6 t3)))
    (c_MOST_ROWS : PySem.W.nsIn K mainGlobals "MOST_ROWS" = some (some (.int 400 t4)))
    : ∃ fd : FuncData, (∀ (s : Shared) (v : Value), BindsTo s fd ⟨[v], []⟩ [("_law_script", v)]) ∧ ∀ base : Heap, K.In base → base.Ns mainGlobals mg → FnG l.prog w K mg base CX0 14 fa fd ["_law_script"] (spLaw K) := by
  have e := hfa.symm.trans (PySem.W.mg_of X G g_law)
  cases e
  obtain ⟨oc, od, doc, pm, an, cdv, ct, osl, eB, lB, cB⟩ := FB
  have FB1 : Fun K "__init__" "Body.__init__" s_body fB fdB := ⟨⟨oc, od, .ref DK, doc, pm, an, cdv, ct, osl, eB, lB, cB⟩, kfB⟩
  have FDB : FunD K "__init__" "Body.__init__" (defArgs s_body) (defBody s_body) (defScope s_body) [] [("start", V.int 0)] fB fdB := ⟨⟨oc, od, .none, .ref DK, doc, pm, an, cdv, ct, osl, eB, lB, cB, .inl ⟨rfl, rfl⟩, .inr ⟨DK, rfl, fun q hq => by
    rw [List.mem_singleton.mp hq]
    exact ⟨_, nsD, ⟨_, rfl⟩⟩⟩⟩, kfB⟩
  obtain ⟨ds, hds, bB0⟩ := FDB.binds0 (ps := PB) 3 (by simp) rfl fun D doc pm an cdv ct us ks l1 l2 => match us, ks, l1, l2 with | [_, _, _], [_], _, _ => ⟨_, _, _, _, _, _, rfl, rfl, rfl⟩
  have kB : KBn K fdB PB (2 + 1) KS (fun us ws => us ++ ws) (fun vs zs => vs ++ zs) := bindB fun a b c d => by
    rw [eB]
    rfl
  have T : TxtF K mg a_is_integer a_is_within := ⟨(PySem.W.mg_none_of X G z_isinstance), (PySem.W.mg_none_of X G z_int), (PySem.W.mg_none_of X G z_bool), (PySem.W.mg_none_of X G z_str), (PySem.W.mg_none_of X G z_list), (PySem.W.mg_none_of X G z_tuple), (PySem.W.mg_none_of X G z_dict), (PySem.W.mg_none_of X G z_len), (PySem.W.mg_none_of X G z_all), ⟨_, PySem.W.mg_of X G cLET⟩, ⟨_, PySem.W.mg_of X G c_LONGEST_NAME⟩, (PySem.W.mg_of X G g_is_integer), F_is_integer.kp, (PySem.W.mg_of X G g_is_within), F_is_within.kp⟩
  have TG : TxtG K mg a_is_row a_is_index a_is_name a_is_text_in a_are_counts a_word_of a_are_nexts a_is_line a_line_of a_are_operations := ⟨⟨_, PySem.W.mg_of X G c_MOST_OPERATIONS⟩, ⟨_, PySem.W.mg_of X G c_MOST_ANSWERS⟩, (PySem.W.mg_of X G g_is_row), F_is_row.kp, (PySem.W.mg_of X G g_is_index), F_is_index.kp, (PySem.W.mg_of X G g_is_name), F_is_name.kp, (PySem.W.mg_of X G g_is_text_in), F_is_text_in.kp, (PySem.W.mg_of X G g_are_counts), F_are_counts.kp, (PySem.W.mg_of X G g_word_of), F_word_of.kp, (PySem.W.mg_of X G g_are_nexts), F_are_nexts.kp, (PySem.W.mg_of X G g_is_line), F_is_line.kp, (PySem.W.mg_of X G g_line_of), F_line_of.kp, (PySem.W.mg_of X G g_are_operations), F_are_operations.kp⟩
  have TD : TxtD K mg a_law_next := ⟨(PySem.W.mg_none_of X G z_int), (PySem.W.mg_none_of X G z_len), (PySem.W.mg_of X G g_law_next), F_law_next.kp⟩
  have TM : MachC K CM := ⟨clM, nm_counts, nm_lines, nm_begin, nm_stops, nm_asks, nm_endings, nm_endless⟩
  have TB : BodyC K CB := ⟨clB, nb_machine⟩
  have TI : BodyI K CB := ⟨haB, hn, ht, hmB, by
    unfold PySem.W.kitOne
    simp⟩
  have oxN : OexC K CN := rN.oex
  have exN : ExcC K CN := rN.exc hn ht
  have EN : ErrC K CN fN := ⟨oxN, iN, tN⟩
  have XN : XfC K CN := ⟨rN.ga, rN.gg, rN.sub _ (by simp [List.contains_cons]), rN.hd⟩
  have eP : PySem.W.exmOne K (.ref CN) (.ref CA) = some true := PySem.W.exm_ref sbA hdA tyA (rN.sub _ (by simp [List.contains_cons]))
  have kN : PySem.W.kitOne K (.ref CN) (.ref CN) = some true := by
    unfold PySem.W.kitOne
    simp
  have odd : ∀ ty ∈ ["NoneType", "int", "str", "list", "tuple", "dict"], PySem.W.kitOne K (.type ty) (.ref CB) = some false ∧ PySem.W.notFirst K CB (.type ty) = true := fun ty h => by
    have one : PySem.W.subIn K (.type ty) (.ref CB) = some false := by
      simp only [List.mem_cons, List.not_mem_nil, or_false] at h
      rcases h with rfl | rfl | rfl | rfl | rfl | rfl
      · exact u_NoneType
      · exact u_int
      · exact u_str
      · exact u_list
      · exact u_tuple
      · exact u_dict
    exact odd_own clB.hd tyB one
  refine ⟨fd_law, fun s v => ?_, fun base _ _ => ?_⟩
  · obtain ⟨_, _, _, _, _, _, _, _, _, rfl, _, _⟩ := F_law.ex
    exact .of_eq rfl
  · skip
    have G_is_integer : FnOk l.prog w K mg base CX0 1 a_is_integer fd_is_integer ["thing"] (spInt K) := ok_is_integer F_is_integer T
    have G_is_index : FnOk l.prog w K mg base CX0 3 a_is_index fd_is_index ["thing", "many"] (spIndex K) := ok_is_index F_is_index T F_is_integer (F_is_integer.binds (ps := ["thing"]) fun _ _ _ _ _ _ us hl => match us, hl with | [_], _ => rfl) F_is_within (F_is_within.binds (ps := ["thing", "low", "high"]) fun _ _ _ _ _ _ us hl => match us, hl with | [_, _, _], _ => rfl)
    have G_is_row : FnOk l.prog w K mg base CX0 1 a_is_row fd_is_row ["thing"] (spIsRow K) := ok_is_row F_is_row T
    have G_is_name : FnOk l.prog w K mg base CX0 1 a_is_name fd_is_name ["thing"] (spName K) := ok_is_name F_is_name T
    have G_is_text_in : FnOk l.prog w K mg base CX0 1 a_is_text_in fd_is_text_in ["thing", "table"] (spTextIn K) := ok_is_text_in F_is_text_in T
    have G_are_counts : FnOk l.prog w K mg base CX0 3 a_are_counts fd_are_counts ["thing", "most", "low", "high"] spCounts := ok_are_counts F_are_counts T TG F_is_name (F_is_name.binds (ps := ["thing"]) fun _ _ _ _ _ _ us hl => match us, hl with | [_], _ => rfl) F_is_integer (F_is_integer.binds (ps := ["thing"]) fun _ _ _ _ _ _ us hl => match us, hl with | [_], _ => rfl) F_is_within (F_is_within.binds (ps := ["thing", "low", "high"]) fun _ _ _ _ _ _ us hl => match us, hl with | [_, _, _], _ => rfl)
    have G_are_operations : FnOk l.prog w K mg base CX0 4 a_are_operations fd_are_operations ["thing"] spOps := ok_are_operations F_are_operations TG G_are_counts (F_are_counts.binds (ps := ["thing", "most", "low", "high"]) fun _ _ _ _ _ _ us hl => match us, hl with | [_, _, _, _], _ => rfl)
    have G_word_of : FnOk l.prog w K mg base CX0 2 a_word_of fd_word_of ["row"] spWord := ok_word_of F_word_of T TG G_is_row (F_is_row.binds (ps := ["thing"]) fun _ _ _ _ _ _ us hl => match us, hl with | [_], _ => rfl)
    have G_are_nexts : FnOk l.prog w K mg base CX0 4 a_are_nexts fd_are_nexts ["nexts", "operation", "counts", "many"] spNexts := ok_are_nexts F_are_nexts T TG G_is_row (F_is_row.binds (ps := ["thing"]) fun _ _ _ _ _ _ us hl => match us, hl with | [_], _ => rfl) G_is_index (F_is_index.binds (ps := ["thing", "many"]) fun _ _ _ _ _ _ us hl => match us, hl with | [_, _], _ => rfl)
    have G_is_line : FnOk l.prog w K mg base CX0 5 a_is_line fd_is_line ["row", "counts", "many"] spIsLine := ok_is_line F_is_line T TG G_word_of (F_word_of.binds (ps := ["row"]) fun _ _ _ _ _ _ us hl => match us, hl with | [_], _ => rfl) G_is_text_in (F_is_text_in.binds (ps := ["thing", "table"]) fun _ _ _ _ _ _ us hl => match us, hl with | [_, _], _ => rfl) G_are_nexts (F_are_nexts.binds (ps := ["nexts", "operation", "counts", "many"]) fun _ _ _ _ _ _ us hl => match us, hl with | [_, _, _, _], _ => rfl) G_is_name (F_is_name.binds (ps := ["thing"]) fun _ _ _ _ _ _ us hl => match us, hl with | [_], _ => rfl) G_is_index (F_is_index.binds (ps := ["thing", "many"]) fun _ _ _ _ _ _ us hl => match us, hl with | [_, _], _ => rfl)
    have G_line_of : FnOk l.prog w K mg base CX0 1 a_line_of fd_line_of ["row"] spLineOf := ok_line_of F_line_of T
    have G_rest_of : FnOk l.prog w K mg base CX0 1 a_rest_of fd_rest_of ["trail", "at"] (spRest K) := ok_rest_of F_rest_of (PySem.W.mg_none_of X G z_min)
    have G_stops_of : FnOk l.prog w K mg base CX0 2 a_stops_of fd_stops_of ["lines"] spStops := ok_stops_of F_stops_of T (PySem.W.mg_none_of X G z_range) G_rest_of (F_rest_of.binds (ps := ["trail", "at"]) fun _ _ _ _ _ _ us hl => match us, hl with | [_, _], _ => rfl) (PySem.W.mg_of X G g_rest_of) F_rest_of.kp
    have G_nexts_of : FnOk l.prog w K mg base CX0 1 a_nexts_of fd_nexts_of ["line"] spNextsOf := ok_nexts_of F_nexts_of
    have G_rests_from : FnOk l.prog w K mg base CX0 2 a_rests_from fd_rests_from ["lines", "stops", "begin"] spRests := ok_rests_from F_rests_from T G_nexts_of (F_nexts_of.binds (ps := ["line"]) fun _ _ _ _ _ _ us hl => match us, hl with | [_], _ => rfl) (PySem.W.mg_of X G g_nexts_of) F_nexts_of.kp
    have G_in_order : FnOk l.prog w K mg base CX0 1 a_in_order fd_in_order ["table"] spOrder := ok_in_order F_in_order (PySem.W.mg_none_of X G z_sorted)
    have G_firsts_of : FnOk l.prog w K mg base CX0 1 a_firsts_of fd_firsts_of ["lines", "word"] spFirsts := ok_firsts_of F_firsts_of (PySem.W.mg_none_of X G z_sorted)
    have G_mach : FnOk l.prog w K mg base CX0 3 fM fdM ["self", "counts", "lines", "begin"] (spMach CM) := ok_mach FM TM G_rests_from (F_rests_from.binds (ps := ["lines", "stops", "begin"]) fun _ _ _ _ _ _ us hl => match us, hl with | [_, _, _], _ => rfl) (PySem.W.mg_of X G g_rests_from) F_rests_from.kp G_stops_of (F_stops_of.binds (ps := ["lines"]) fun _ _ _ _ _ _ us hl => match us, hl with | [_], _ => rfl) (PySem.W.mg_of X G g_stops_of) F_stops_of.kp G_firsts_of (F_firsts_of.binds (ps := ["lines", "word"]) fun _ _ _ _ _ _ us hl => match us, hl with | [_, _], _ => rfl) (PySem.W.mg_of X G g_firsts_of) F_firsts_of.kp
    have G_lines_read : FnOk l.prog w K mg base CX0 6 a_lines_read fd_lines_read ["rows", "counts"] spRead := ok_lines_read F_lines_read T TG (PySem.W.mg_none_of X G z_enumerate) (PySem.W.mg_of X G c_MOST_ROWS) G_is_row (F_is_row.binds (ps := ["thing"]) fun _ _ _ _ _ _ us hl => match us, hl with | [_], _ => rfl) G_is_line (F_is_line.binds (ps := ["row", "counts", "many"]) fun _ _ _ _ _ _ us hl => match us, hl with | [_, _, _], _ => rfl) G_line_of (F_line_of.binds (ps := ["row"]) fun _ _ _ _ _ _ us hl => match us, hl with | [_], _ => rfl)
    have MM : Mk K CM fM := ⟨mkM, inM, fnM, kpM⟩
    have MB : Mk K CB fB := ⟨mkB, inB, fnB, kpB⟩
    have GB : FnOk l.prog w K mg base CX0 7 fB fdB PB (spBody CB CM) := ok_body FB1 T TG TB G_are_operations (F_are_operations.binds (ps := ["thing"]) fun _ _ _ _ _ _ us hl => match us, hl with | [_], _ => rfl) G_lines_read (F_lines_read.binds (ps := ["rows", "counts"]) fun _ _ _ _ _ _ us hl => match us, hl with | [_, _], _ => rfl) (PySem.W.mg_of X G g_lines_read) F_lines_read.kp G_is_index (F_is_index.binds (ps := ["thing", "many"]) fun _ _ _ _ _ _ us hl => match us, hl with | [_, _], _ => rfl) G_in_order (F_in_order.binds (ps := ["table"]) fun _ _ _ _ _ _ us hl => match us, hl with | [_], _ => rfl) (PySem.W.mg_of X G g_in_order) F_in_order.kp MM G_mach (FM.binds (ps := ["self", "counts", "lines", "begin"]) fun _ _ _ _ _ _ us hl => match us, hl with | [_, _, _, _], _ => rfl) (PySem.W.mg_of X G gc_Machine)
    have GM_rows : FnOk l.prog w K mg base CX0 1 m_rows fdm_rows ["self"] (spBRows CB CM) := ok_b_rows FM_rows T TB TM
    have GM_operations : FnOk l.prog w K mg base CX0 1 m_operations fdm_operations ["self"] (spBOps CB CM) := ok_b_operations FM_operations T TB TM
    have GM_asked : FnOk l.prog w K mg base CX0 1 m_asked fdm_asked ["self"] (spBAsked CB CM) := ok_b_asked FM_asked T TB TM
    have GM_words : FnOk l.prog w K mg base CX0 1 m_words fdm_words ["self"] (spBWords CB CM) := ok_b_words FM_words T TB TM
    have GM_len : FnOk l.prog w K mg base CX0 1 m_len fdm_len ["self"] (spBLen CB CM) := ok_b_len FM_len T TB TM
    have GM_start : FnOk l.prog w K mg base CX0 1 m_start fdm_start ["self"] (spBStart CB CM) := ok_b_start FM_start T TB TM
    have G_are_equal : FnOk l.prog w K mg base CX0 1 a_are_equal fd_are_equal ["one", "other"] (spAreEq CM) := ok_are_equal F_are_equal TM
    have GM_eq : FnOk l.prog w K mg base CX0 2 m_eq fdm_eq ["self", "other"] (spBEq K CB CM) := ok_b_eq FM_eq T TB TI TM (PySem.W.mg_of X G gc_Body) G_are_equal (F_are_equal.binds (ps := ["one", "other"]) fun _ _ _ _ _ _ us hl => match us, hl with | [_, _], _ => rfl) (PySem.W.mg_of X G g_are_equal) F_are_equal.kp
    have G_NoRow : FnOk l.prog w K mg base CX0 1 fN fdN ["self", "index"] (spInitF CN "index") := ok_i_NoRow FN oxN nN
    have GM_getitem : FnOk l.prog w K mg base (L2.CX l.prog w) 4 m_getitem fdm_getitem ["self", "index"] (spGet K CB CM CN) := ok_b_getitem FM_getitem T TG TB TM G_is_index (F_is_index.binds (ps := ["thing", "many"]) fun _ _ _ _ _ _ us hl => match us, hl with | [_, _], _ => rfl) EN G_NoRow (FN.binds (ps := ["self", "index"]) fun _ _ _ _ _ _ us hl => match us, hl with | [_, _], _ => rfl) (PySem.W.mg_of X G gc_NoRow)
    have BF : BodyF l.prog w K mg base CB CM := ⟨TB, ⟨_, _, ⟨at_rows, fn_rows, FM_rows.kp⟩, GM_rows, (FM_rows.binds (ps := ["self"]) fun _ _ _ _ _ _ us hl => match us, hl with | [_], _ => rfl)⟩, ⟨_, _, ⟨at_operations, fn_operations, FM_operations.kp⟩, GM_operations, (FM_operations.binds (ps := ["self"]) fun _ _ _ _ _ _ us hl => match us, hl with | [_], _ => rfl)⟩, ⟨_, _, ⟨at_asked, fn_asked, FM_asked.kp⟩, GM_asked, (FM_asked.binds (ps := ["self"]) fun _ _ _ _ _ _ us hl => match us, hl with | [_], _ => rfl)⟩, ⟨_, _, ⟨at_words, fn_words, FM_words.kp⟩, GM_words, (FM_words.binds (ps := ["self"]) fun _ _ _ _ _ _ us hl => match us, hl with | [_], _ => rfl)⟩, ⟨_, _, at_len, fn_len, GM_len, (FM_len.binds (ps := ["self"]) fun _ _ _ _ _ _ us hl => match us, hl with | [_], _ => rfl)⟩, ⟨_, _, CN, at_getitem, fnI_getitem, fn_getitem, GM_getitem, (FM_getitem.binds (ps := ["self", "index"]) fun _ _ _ _ _ _ us hl => match us, hl with | [_, _], _ => rfl)⟩, ⟨_, _, at_eq, fn_eq, GM_eq, (FM_eq.binds (ps := ["self", "other"]) fun _ _ _ _ _ _ us hl => match us, hl with | [_, _], _ => rfl)⟩, neB, obB, ⟨_, _, _, ⟨at_start, get_start, tak_start, ⟨_, rec_start⟩⟩, GM_start, (FM_start.binds (ps := ["self"]) fun _ _ _ _ _ _ us hl => match us, hl with | [_], _ => rfl)⟩, TI, odd⟩
    have G_law_source_of : FnOk l.prog w K mg base CX0 1 a_law_source_of fd_law_source_of ["_law_cell"] spSrc := ok_src F_law_source_of TD
    have G_law_next : FnOk l.prog w K mg base CX0 1 a_law_next fd_law_next ["_law_source", "_law_many"] spNext := ok_next F_law_next TD
    have G_law_one : FnOk l.prog w K mg base CX0 2 a_law_one fd_law_one ["_law_source", "_law_some"] spOne := ok_one F_law_one TD F_law_next (F_law_next.binds (ps := ["_law_source", "_law_many"]) fun _ _ _ _ _ _ us hl => match us, hl with | [_, _], _ => rfl)
    have G_law_mixed : FnOk l.prog w K mg base CX0 2 a_law_mixed fd_law_mixed ["_law_source", "_law_some"] spMixed := ok_mixed F_law_mixed T G_law_next (F_law_next.binds (ps := ["_law_source", "_law_many"]) fun _ _ _ _ _ _ us hl => match us, hl with | [_, _], _ => rfl) (PySem.W.mg_of X G g_law_next) F_law_next.kp
    have G_law_operations : FnOk l.prog w K mg base CX0 3 a_law_operations fd_law_operations ["_law_source", "_law_many"] spDrawOps := ok_draw_ops F_law_operations T G_law_mixed (F_law_mixed.binds (ps := ["_law_source", "_law_some"]) fun _ _ _ _ _ _ us hl => match us, hl with | [_, _], _ => rfl) (PySem.W.mg_of X G g_law_mixed) F_law_mixed.kp G_law_one (F_law_one.binds (ps := ["_law_source", "_law_some"]) fun _ _ _ _ _ _ us hl => match us, hl with | [_, _], _ => rfl) (PySem.W.mg_of X G g_law_one) F_law_one.kp
    have G_law_rows : FnOk l.prog w K mg base CX0 3 a_law_rows fd_law_rows ["_law_source", "_law_operations_here", "_law_many"] spDrawRows := ok_draw_rows F_law_rows T (PySem.W.mg_none_of X G z_range) (PySem.W.mg_none_of X G z_sorted) G_law_next (F_law_next.binds (ps := ["_law_source", "_law_many"]) fun _ _ _ _ _ _ us hl => match us, hl with | [_, _], _ => rfl) (PySem.W.mg_of X G g_law_next) F_law_next.kp G_law_one (F_law_one.binds (ps := ["_law_source", "_law_some"]) fun _ _ _ _ _ _ us hl => match us, hl with | [_, _], _ => rfl) (PySem.W.mg_of X G g_law_one) F_law_one.kp
    have G_law_listed : FnOk l.prog w K mg base CX0 3 a_law_listed fd_law_listed ["_law_thing"] spListR := ok_listR F_law_listed T (PySem.W.mg_of X G g_law_listed) F_law_listed.kp (F_law_listed.binds (ps := ["_law_thing"]) fun _ _ _ _ _ _ us hl => match us, hl with | [_], _ => rfl)
    have G_law_is_no_row : FnG l.prog w K mg base CX0 6 a_law_is_no_row fd_law_is_no_row ["_law_body", "_law_thing"] (spIsNoRow K CB CM) := ok_is_no_row F_law_is_no_row T (PySem.W.mg_none_of X G z_repr) GM_getitem (FM_getitem.binds (ps := ["self", "index"]) fun _ _ _ _ _ _ us hl => match us, hl with | [_, _], _ => rfl) at_getitem fnI_getitem fn_getitem (PySem.W.mg_of X G gc_AskError) (PySem.W.mg_of X G gc_NoRow) XN exN nN eP kN
    have G_law_unlike : FnOk l.prog w K mg base CX0 9 a_law_unlike fd_law_unlike ["_law_operations_here", "_law_rows_here", "_law_begin"] (spUnlike CB CM) := ok_unlike F_law_unlike T MB GB kB (PySem.W.mg_of X G gc_Body)
    have G_law_right : FnG l.prog w K mg base CX0 13 a_law_right fd_law_right ["_law_source"] spRight := ok_right F_law_right T BF (PySem.W.mg_none_of X G z_range) MB GB kB (PySem.W.mg_of X G gc_Body) G_law_next (F_law_next.binds (ps := ["_law_source", "_law_many"]) fun _ _ _ _ _ _ us hl => match us, hl with | [_, _], _ => rfl) (PySem.W.mg_of X G g_law_next) F_law_next.kp G_law_operations (F_law_operations.binds (ps := ["_law_source", "_law_many"]) fun _ _ _ _ _ _ us hl => match us, hl with | [_, _], _ => rfl) (PySem.W.mg_of X G g_law_operations) F_law_operations.kp G_law_rows (F_law_rows.binds (ps := ["_law_source", "_law_operations_here", "_law_many"]) fun _ _ _ _ _ _ us hl => match us, hl with | [_, _, _], _ => rfl) (PySem.W.mg_of X G g_law_rows) F_law_rows.kp G_law_mixed (F_law_mixed.binds (ps := ["_law_source", "_law_some"]) fun _ _ _ _ _ _ us hl => match us, hl with | [_, _], _ => rfl) (PySem.W.mg_of X G g_law_mixed) F_law_mixed.kp G_law_listed (F_law_listed.binds (ps := ["_law_thing"]) fun _ _ _ _ _ _ us hl => match us, hl with | [_], _ => rfl) (PySem.W.mg_of X G g_law_listed) F_law_listed.kp G_law_is_no_row (F_law_is_no_row.binds (ps := ["_law_body", "_law_thing"]) fun _ _ _ _ _ _ us hl => match us, hl with | [_, _], _ => rfl) (PySem.W.mg_of X G g_law_is_no_row) F_law_is_no_row.kp G_law_unlike (F_law_unlike.binds (ps := ["_law_operations_here", "_law_rows_here", "_law_begin"]) fun _ _ _ _ _ _ us hl => match us, hl with | [_, _, _], _ => rfl) (PySem.W.mg_of X G g_law_unlike) F_law_unlike.kp
    exact ok_law F_law BF (PySem.W.mg_none_of X G z_range) MB GB hds bB0 (PySem.W.mg_of X G gc_Body) G_law_source_of (F_law_source_of.binds (ps := ["_law_cell"]) fun _ _ _ _ _ _ us hl => match us, hl with | [_], _ => rfl) (PySem.W.mg_of X G g_law_source_of) F_law_source_of.kp G_law_right (F_law_right.binds (ps := ["_law_source"]) fun _ _ _ _ _ _ us hl => match us, hl with | [_], _ => rfl) (PySem.W.mg_of X G g_law_right) F_law_right.kp
theorem walk {l : PySem.W.OpenLaw} {q : Program} {loose : List Str} {XP : (Str → Option Value) → Heap → Prop} {YP : World → Heap → Prop} {d : DefRec} {K : Params → PySem.W.Frag} (hn : l.most = some 63) (hdf : d.params.defaults = [])
    (hY : ∀ (w : World) (h : Heap), YP w h → (K w.params).In h)
    (F : ∀ (w : World) (mg : Str → Option Value) (fa : Addr) (h : Heap), (K w.params).In h → h.Ns mainGlobals mg → mg d.name = some (.ref fa) →
      ∃ fd : FuncData, (∀ (s : Shared) (u : Value), BindsTo s fd ⟨[u], []⟩ [("_law_script", u)]) ∧ ∀ base : Heap, (K w.params).In base → base.Ns mainGlobals mg → FnG l.prog w (K w.params) mg base CX0 14 fa fd ["_law_script"] (spLaw (K w.params))) :
    PySem.W.WalkO q loose XP YP l.row.toRowW d [] (fun f vs => PySem.call f vs) :=
  L2.walk_ofG (n := 63) (k := 14) (x := "_law_script") (CX := fun _ => CX0) (sp := fun w => spLaw (K w.params)) hn (by decide) hdf ⟨rfl, by decide, by decide⟩ hY F (fun _ _ a ns hl _ hS => ⟨a, ns, rfl, hS, hl, fun _ => rfl⟩) fun _ _ _ _ _ z => z
end Mine

set_option maxRecDepth 100000
set_option maxHeartbeats 4000000
open PySem PySem.W PyProof.Rows
set_option maxRecDepth 100000 in
set_option maxHeartbeats 0 in
theorem PySem.Challenge.cw_askfurther_k01_bodies_told_holds : PySem.Challenge.rw_askfurther_k01_bodies_told.Holds := by
  w_on; o_law; k_head; (case hw => w_witness2)
  k_fill
  refine Mine.walk (l := PySem.Challenge.rw_askfurther_k01_bodies_told) rfl rfl (fun w h Y => PySem.W.kIn_of Y) ?F
  case F =>
    intro w mg fa h KX G hmg
    refine' Mine.all_mk KX G hmg ?g_is_integer ?F_is_integer ?g_is_within ?F_is_within ?g_is_index ?F_is_index ?g_is_row ?F_is_row ?g_is_name ?F_is_name ?g_is_text_in ?F_is_text_in ?g_are_counts ?F_are_counts ?g_are_operations ?F_are_operations ?g_in_order ?F_in_order ?g_word_of ?F_word_of ?g_are_nexts ?F_are_nexts ?g_are_equal ?F_are_equal ?g_stops_of ?F_stops_of ?g_rest_of ?F_rest_of ?g_rests_from ?F_rests_from ?g_nexts_of ?F_nexts_of ?g_firsts_of ?F_firsts_of ?g_lines_read ?F_lines_read ?g_is_line ?F_is_line ?g_line_of ?F_line_of ?g_law_source_of ?F_law_source_of ?g_law_next ?F_law_next ?g_law_one ?F_law_one ?g_law_mixed ?F_law_mixed ?g_law_operations ?F_law_operations ?g_law_rows ?F_law_rows ?g_law_listed ?F_law_listed ?g_law_is_no_row ?F_law_is_no_row ?g_law_unlike ?F_law_unlike ?g_law_right ?F_law_right ?g_law ?F_law ?gc_AskError ?gc_Body ?gc_Machine ?gc_NoRow ?rN ?iN ?tN ?nN ?FN ?sbA ?hdA ?tyA ?hn ?ht ?clB ?mkB ?inB ?fnB ?kpB ?clM ?mkM ?inM ?fnM ?kpM ?FM ?FB ?kfB ?nsD ?nm_counts ?nm_lines ?nm_begin ?nm_stops ?nm_asks ?nm_endings ?nm_endless ?nb_machine ?at_rows ?fn_rows ?FM_rows ?at_operations ?fn_operations ?FM_operations ?at_asked ?fn_asked ?FM_asked ?at_words ?fn_words ?FM_words ?at_len ?fn_len ?FM_len ?at_getitem ?fn_getitem ?FM_getitem ?at_eq ?fn_eq ?FM_eq ?fnI_getitem ?at_start ?get_start ?tak_start ?rec_start ?FM_start ?neB ?obB ?haB ?hmB ?tyB ?u_NoneType ?u_int ?u_str ?u_list ?u_tuple ?u_dict ?z_int ?z_isinstance ?z_bool ?z_str ?z_list ?z_tuple ?z_dict ?z_len ?z_all ?z_range ?z_sorted ?z_min ?z_enumerate ?z_repr ?cLET ?c_LONGEST_NAME ?c_MOST_OPERATIONS ?c_MOST_ANSWERS ?c_MOST_ROWS
    (case g_is_integer => k_is)
    (case F_is_integer => exact ⟨⟨_, _, _, _, _, _, _, _, _, rfl, by k_is, by k_is⟩, by k_is⟩)
    (case g_is_within => k_is)
    (case F_is_within => exact ⟨⟨_, _, _, _, _, _, _, _, _, rfl, by k_is, by k_is⟩, by k_is⟩)
    (case g_is_index => k_is)
    (case F_is_index => exact ⟨⟨_, _, _, _, _, _, _, _, _, rfl, by k_is, by k_is⟩, by k_is⟩)
    (case g_is_row => k_is)
    (case F_is_row => exact ⟨⟨_, _, _, _, _, _, _, _, _, rfl, by k_is, by k_is⟩, by k_is⟩)
    (case g_is_name => k_is)
    (case F_is_name => exact ⟨⟨_, _, _, _, _, _, _, _, _, rfl, by k_is, by k_is⟩, by k_is⟩)
    (case g_is_text_in => k_is)
    (case F_is_text_in => exact ⟨⟨_, _, _, _, _, _, _, _, _, rfl, by k_is, by k_is⟩, by k_is⟩)
    (case g_are_counts => k_is)
    (case F_are_counts => exact ⟨⟨_, _, _, _, _, _, _, _, _, rfl, by k_is, by k_is⟩, by k_is⟩)
    (case g_are_operations => k_is)
    (case F_are_operations => exact ⟨⟨_, _, _, _, _, _, _, _, _, rfl, by k_is, by k_is⟩, by k_is⟩)
    (case g_in_order => k_is)
    (case F_in_order => exact ⟨⟨_, _, _, _, _, _, _, _, _, rfl, by k_is, by k_is⟩, by k_is⟩)
    (case g_word_of => k_is)
    (case F_word_of => exact ⟨⟨_, _, _, _, _, _, _, _, _, rfl, by k_is, by k_is⟩, by k_is⟩)
    (case g_are_nexts => k_is)
    (case F_are_nexts => exact ⟨⟨_, _, _, _, _, _, _, _, _, rfl, by k_is, by k_is⟩, by k_is⟩)
    (case g_are_equal => k_is)
    (case F_are_equal => exact ⟨⟨_, _, _, _, _, _, _, _, _, rfl, by k_is, by k_is⟩, by k_is⟩)
    (case g_stops_of => k_is)
    (case F_stops_of => exact ⟨⟨_, _, _, _, _, _, _, _, _, rfl, by k_is, by k_is⟩, by k_is⟩)
    (case g_rest_of => k_is)
    (case F_rest_of => exact ⟨⟨_, _, _, _, _, _, _, _, _, rfl, by k_is, by k_is⟩, by k_is⟩)
    (case g_rests_from => k_is)
    (case F_rests_from => exact ⟨⟨_, _, _, _, _, _, _, _, _, rfl, by k_is, by k_is⟩, by k_is⟩)
    (case g_nexts_of => k_is)
    (case F_nexts_of => exact ⟨⟨_, _, _, _, _, _, _, _, _, rfl, by k_is, by k_is⟩, by k_is⟩)
    (case g_firsts_of => k_is)
    (case F_firsts_of => exact ⟨⟨_, _, _, _, _, _, _, _, _, rfl, by k_is, by k_is⟩, by k_is⟩)
    (case g_lines_read => k_is)
    (case F_lines_read => exact ⟨⟨_, _, _, _, _, _, _, _, _, rfl, by k_is, by k_is⟩, by k_is⟩)
    (case g_is_line => k_is)
    (case F_is_line => exact ⟨⟨_, _, _, _, _, _, _, _, _, rfl, by k_is, by k_is⟩, by k_is⟩)
    (case g_line_of => k_is)
    (case F_line_of => exact ⟨⟨_, _, _, _, _, _, _, _, _, rfl, by k_is, by k_is⟩, by k_is⟩)
    (case g_law_source_of => k_is)
    (case F_law_source_of => exact ⟨⟨_, _, _, _, _, _, _, _, _, rfl, by k_is, by k_is⟩, by k_is⟩)
    (case g_law_next => k_is)
    (case F_law_next => exact ⟨⟨_, _, _, _, _, _, _, _, _, rfl, by k_is, by k_is⟩, by k_is⟩)
    (case g_law_one => k_is)
    (case F_law_one => exact ⟨⟨_, _, _, _, _, _, _, _, _, rfl, by k_is, by k_is⟩, by k_is⟩)
    (case g_law_mixed => k_is)
    (case F_law_mixed => exact ⟨⟨_, _, _, _, _, _, _, _, _, rfl, by k_is, by k_is⟩, by k_is⟩)
    (case g_law_operations => k_is)
    (case F_law_operations => exact ⟨⟨_, _, _, _, _, _, _, _, _, rfl, by k_is, by k_is⟩, by k_is⟩)
    (case g_law_rows => k_is)
    (case F_law_rows => exact ⟨⟨_, _, _, _, _, _, _, _, _, rfl, by k_is, by k_is⟩, by k_is⟩)
    (case g_law_listed => k_is)
    (case F_law_listed => exact ⟨⟨_, _, _, _, _, _, _, _, _, rfl, by k_is, by k_is⟩, by k_is⟩)
    (case g_law_is_no_row => k_is)
    (case F_law_is_no_row => exact ⟨⟨_, _, _, _, _, _, _, _, _, rfl, by k_is, by k_is⟩, by k_is⟩)
    (case g_law_unlike => k_is)
    (case F_law_unlike => exact ⟨⟨_, _, _, _, _, _, _, _, _, rfl, by k_is, by k_is⟩, by k_is⟩)
    (case g_law_right => k_is)
    (case F_law_right => exact ⟨⟨_, _, _, _, _, _, _, _, _, rfl, by k_is, by k_is⟩, by k_is⟩)
    (case g_law => k_is)
    (case F_law => exact ⟨⟨_, _, _, _, _, _, _, _, _, rfl, by k_is, by k_is⟩, by k_is⟩)
    (case gc_AskError => k_is)
    (case gc_Body => k_is)
    (case gc_Machine => k_is)
    (case gc_NoRow => k_is)
    (case rN => exact ⟨⟨_, _, _, _, _, _, _, _, _, _, _, _, _, _, by k_is⟩, by k_is, by k_is, by k_is, by k_is, by k_is, by k_is, by k_is⟩)
    (case iN => k_is)
    (case tN => k_is)
    (case nN => k_is)
    (case FN => exact ⟨⟨_, _, _, _, _, _, _, _, _, rfl, by k_is, by k_is⟩, by k_is⟩)
    (case sbA => k_is)
    (case hdA => k_is)
    (case tyA => k_is)
    (case hn => k_is)
    (case ht => k_is)
    (case clB => exact ⟨by k_is, by k_is, by k_is, by k_is⟩)
    (case mkB => k_is)
    (case inB => k_is)
    (case fnB => k_is)
    (case kpB => k_is)
    (case clM => exact ⟨by k_is, by k_is, by k_is, by k_is⟩)
    (case mkM => k_is)
    (case inM => k_is)
    (case fnM => k_is)
    (case kpM => k_is)
    (case FM => exact ⟨⟨_, _, _, _, _, _, _, _, _, rfl, by k_is, by k_is⟩, by k_is⟩)
    (case FB => exact ⟨_, _, _, _, _, _, _, _, rfl, by k_is, by k_is⟩)
    (case kfB => k_is)
    (case nsD => k_is)
    (case nm_counts => (show PySem.W.findIn _ _ _ = _); k_is)
    (case nm_lines => (show PySem.W.findIn _ _ _ = _); k_is)
    (case nm_begin => (show PySem.W.findIn _ _ _ = _); k_is)
    (case nm_stops => (show PySem.W.findIn _ _ _ = _); k_is)
    (case nm_asks => (show PySem.W.findIn _ _ _ = _); k_is)
    (case nm_endings => (show PySem.W.findIn _ _ _ = _); k_is)
    (case nm_endless => (show PySem.W.findIn _ _ _ = _); k_is)
    (case nb_machine => (show PySem.W.findIn _ _ _ = _); k_is)
    (case at_rows => k_is)
    (case fn_rows => k_is)
    (case FM_rows => exact ⟨⟨_, _, _, _, _, _, _, _, _, rfl, by k_is, by k_is⟩, by k_is⟩)
    (case at_operations => k_is)
    (case fn_operations => k_is)
    (case FM_operations => exact ⟨⟨_, _, _, _, _, _, _, _, _, rfl, by k_is, by k_is⟩, by k_is⟩)
    (case at_asked => k_is)
    (case fn_asked => k_is)
    (case FM_asked => exact ⟨⟨_, _, _, _, _, _, _, _, _, rfl, by k_is, by k_is⟩, by k_is⟩)
    (case at_words => k_is)
    (case fn_words => k_is)
    (case FM_words => exact ⟨⟨_, _, _, _, _, _, _, _, _, rfl, by k_is, by k_is⟩, by k_is⟩)
    (case at_len => k_is)
    (case fn_len => k_is)
    (case FM_len => exact ⟨⟨_, _, _, _, _, _, _, _, _, rfl, by k_is, by k_is⟩, by k_is⟩)
    (case at_getitem => k_is)
    (case fn_getitem => k_is)
    (case FM_getitem => exact ⟨⟨_, _, _, _, _, _, _, _, _, rfl, by k_is, by k_is⟩, by k_is⟩)
    (case at_eq => k_is)
    (case fn_eq => k_is)
    (case FM_eq => exact ⟨⟨_, _, _, _, _, _, _, _, _, rfl, by k_is, by k_is⟩, by k_is⟩)
    (case fnI_getitem => k_is)
    (case at_start => k_is)
    (case get_start => k_is)
    (case tak_start => k_is)
    (case rec_start => k_is)
    (case FM_start => exact ⟨⟨_, _, _, _, _, _, _, _, _, rfl, by k_is, by k_is⟩, by k_is⟩)
    (case neB => k_is)
    (case obB => k_is)
    (case haB => k_is)
    (case hmB => k_is)
    (case tyB => k_is)
    (case u_NoneType => k_is)
    (case u_int => k_is)
    (case u_str => k_is)
    (case u_list => k_is)
    (case u_tuple => k_is)
    (case u_dict => k_is)
    (case z_int => k_is)
    (case z_isinstance => k_is)
    (case z_bool => k_is)
    (case z_str => k_is)
    (case z_list => k_is)
    (case z_tuple => k_is)
    (case z_dict => k_is)
    (case z_len => k_is)
    (case z_all => k_is)
    (case z_range => k_is)
    (case z_sorted => k_is)
    (case z_min => k_is)
    (case z_enumerate => k_is)
    (case z_repr => k_is)
    (case cLET => k_is)
    (case c_LONGEST_NAME => k_is)
    (case c_MOST_OPERATIONS => k_is)
    (case c_MOST_ANSWERS => k_is)
    (case c_MOST_ROWS => k_is)
