import PyProof.Rows.All
import Wide.All
import OpenK.AllK
import Wide.FinOn
import HandS.ForMost
import HandS.Exc
import HandS.ExcInit
import HandS.ExcIs
import HandS.IsInst
import HandS.Wide
import HandS.Defaults
import HandS.ExcValue
import HandS.ExcOwn
import PyProof.EnumMake
import KE.GoesMore
import KE.GoesEnum
import HandS.DictComp
import HandS.Walk
import HandS.Ends
import HandS.Small
import HandS.TupAny
import HandS.Zip
import HandS.Conv
import HandS.SetKeys
import HandS.Style
import KE.SortData
import KE.OsSortAny
import HandS.Sort
import HandS.Property
import HandS.Star
import PyProof.NeKinds
import HandS.MakeKwOnly
import HandS.OwnEq
import PyProof.InstNe
import HandS.NoneIn
import PySem.Challenge.RW_askfurther_k59_whole_stands_led_on_every
set_option Elab.async false
set_option linter.all false
set_option maxRecDepth 100000
set_option maxHeartbeats 4000000
/-! Own error classes over ValueError, made as values: with keywords, without an own __init__; what isinstance says of them; their fields. -/
namespace PySem
namespace ExoX
open PySem.HandSPX
open Builtin Builtin.ObjectAttr
section
variable {prog : Program} {w : World} {A : Around} {R : Result → Shared → Prop} {Er : Value → Shared → Prop}
variable {hp : Heap} {gs : Array GenState} {dr : Drawn} {tk : Nat} {os : OsState} {kw : List (Str × Value)} {rs : List Value}
variable {nm qn : Str} {Cl Nm : Addr} {bss bm bB sb : List Value} {hd ab : Bool} {sl : List Str} {cl : Option Bool} {dd : Option Addr} {y0 y1 y2 y3 y5 : Option Value} {Bs nI iI : String}
abbrev cobj (nm qn : Str) (Cl Nm : Addr) (bss bm : List Value) (hd : Bool) (sl : List Str) (sb : List Value) (ab : Bool) (cl : Option Bool) (dd : Option Addr) (y0 y1 y2 y3 y5 : Option Value) (nI : String) : Obj :=
  excClassObj nm qn Cl Nm bss bm hd sl sb ab cl dd y0 y1 y2 y3 y5 nI
/-- the check ahead of __new__, with keywords -/
theorem checkNewKw (F : ExcBaseFacts Bs nI iI bB) (hc : ∀ T : String, bm.contains (.type T) = bB.contains (.type T)) {Q : Unit → Shared → Prop}
    (ho : hp.get? Cl = some (cobj nm qn Cl Nm bss bm hd sl sb ab cl dd y0 y1 y2 y3 y5 nI)) (q : Q () ⟨hp, gs, dr, tk, os⟩) :
    wpAny (model prog w) A (checkBuiltinCall nI ⟨.ref Cl :: rs, kw⟩) Q Er ⟨hp, gs, dr, tk, os⟩ := by
  have c1 : (Value.ref Cl :: bm).contains (.type Bs) = true := by
    rw [List.contains_cons, hc, F.hasB, Bool.or_true]
  have c2 := F.noStar
  simp only [checkBuiltinCall, F.newKind, F.newSplit, F.newRow]
  repeat (first
    | refine wpAny_loadPart_at ho ?_
    | (refine wpAny_isSubtype_exc ho ?_; rw [c1])
    | refine wpAny_staticBase_exc ho ?_
    | refine wpAny_madeBy_exc ho ?_
    | simp only [bne_self_eq_false, Bool.false_eq_true, if_false]
    | wp_step)
  exact q
end
section
variable {prog : Program} {w : World} {A : Around} {R : Result → Shared → Prop} {Er : Value → Shared → Prop}
variable {hp : Heap} {gs : Array GenState} {dr : Drawn} {tk : Nat} {os : OsState} {kw : List (Str × Value)} {rs : List Value}
variable {nm qn : Str} {Cl Nm fI : Addr} {bss bm bB sb : List Value} {hd ab : Bool} {sl : List Str} {cl : Option Bool} {dd : Option Addr} {y0 y1 y2 y3 y5 : Option Value} {Bs nI iI : String}
/-- the two objects that __new__ lays -/
abbrev laid (hp : Heap) (rs : List Value) (Cl : Addr) : Heap := (hp.push (PySem.W.kdv_tup rs)).push (excO Cl hp.objs.size)
theorem newKw (F : ExcBaseFacts Bs nI iI bB) (hc : ∀ T : String, bm.contains (.type T) = bB.contains (.type T))
    (ho : hp.get? Cl = some (cobj nm qn Cl Nm bss bm hd sl sb ab cl dd y0 y1 y2 y3 y5 nI)) (hl : rs.length ≤ sizeLine)
    (q : R (.ok (.ret (.ref (hp.objs.size + 1)))) ⟨laid hp rs Cl, gs, dr, tk, os⟩) :
    codeAny (model prog w) A (.builtin nI ⟨.ref Cl :: rs, kw⟩) R ⟨hp, gs, dr, tk, os⟩ := by
  have c0 := F.ends
  have c1 : (Value.ref Cl :: bm).contains (.type Bs) = true := by
    rw [List.contains_cons, hc, F.hasB, Bool.or_true]
  have c2 : (Value.ref Cl :: bm).contains (.type "AttributeError") = false := by
    rw [List.contains_cons, hc, F.noAttr]
    rfl
  have c3 : (Value.ref Cl :: bm).contains (.type "NameError") = false := by
    rw [List.contains_cons, hc, F.noName]
    rfl
  refine codeAny_builtinAt F.entry ?_
  unfold Builtin.«BaseException.__new__»
  refine wpAt_bind ?_
  show wpAt _ _ _ (stack >>= _) _ _ _
  refine wpAt_bind (wpAt_stack fun p below => wpAt_of_wpAny ?_)
  wp_walk
  refine wpAt_of_wpAny ?_
  rw [F.owner]
  repeat (first
    | with_reducible refine wpAny_madeHere_exc F.canon ho ?_
    | with_reducible refine wpAny_loadPart_at ho ?_
    | (with_reducible refine wpAny_isSubtype_exc ho ?_; first | rw [c1] | rw [c2] | rw [c3])
    | wp_step)
  show R _ _
  rw [Heap.size_push]
  exact q
theorem typeCallKw (F : ExcBaseFacts Bs nI iI bB) (hc : ∀ T : String, bm.contains (.type T) = bB.contains (.type T)) {Q : Fin → Shared → Prop}
    (ho : hp.get? Cl = some (cobj nm qn Cl Nm bss bm hd sl sb ab cl dd y0 y1 y2 y3 y5 nI))
    (li : PySem.W.Looks (model prog w) hp (typeLookup (.ref Cl) "__init__") (some (.ref fI)))
    (lb : ∀ self, PySem.W.Looks (model prog w) hp (bindSpecial (.ref fI) self) (.ref fI, [self])) (hl : rs.length ≤ sizeLine)
    (q : codeAny (model prog w) A (.call (.ref fI) ⟨.ref (hp.objs.size + 1) :: rs, kw⟩)
      (fun r s' => match r with | .ok (.ret v) => v = .none ∧ Q (.done (.ret (.ref (hp.objs.size + 1)))) s' | .ok _ => False | .error e => Er e s')
      ⟨laid hp rs Cl, gs, dr, tk, os⟩) :
    wpAny (model prog w) A (Builtin.«type.__call__» ⟨.ref Cl :: rs, kw⟩) Q Er ⟨hp, gs, dr, tk, os⟩ := by
  repeat (first
    | with_reducible refine wpAny_loadPart_at ho ?_
    | with_reducible refine wpAny_madeBy_exc ho ?_
    | wp_step)
  refine codeAny_call_builtin_code (Code.quiet_builtin _ F.quiet) (checkNewKw F hc ho ?_)
  refine newKw F hc ho hl ?_
  show wpAny _ _ _ _ _ _
  have kp : ∀ b o, hp.get? b = some o → (laid hp rs Cl).get? b = some o := fun b o e =>
    Heap.get?_push_of_some _ (Heap.get?_push_of_some _ e)
  have ho1 := kp _ _ ho
  have hx : (laid hp rs Cl).get? (hp.objs.size + 1) = some (excO Cl hp.objs.size) := by heap_get
  have cc : (Value.ref Cl :: bm).contains (.ref Cl) = true := by simp
  have li1 := li.keeps kp
  have lb1 := (lb (.ref (hp.objs.size + 1))).keeps kp
  unfold isInstance
  repeat (first
    | with_reducible refine wpAny_loadPart_at hx ?_
    | (with_reducible refine wpAny_isSubtype_exc ho1 ?_; rw [cc])
    | wp_step)
  show wpAny _ _ (typeLookup (.ref Cl) _) _ _ _
  refine li1.at ?_
  refine wpAny_holding (wpAny_bind (lb1.at ?_))
  refine wpAny_bind (wpAny_call (codeAny_mono q fun r s' z => ?_))
  rcases r with e | (v | _ | _ | _) <;> first | exact z | exact z.elim | skip
  obtain ⟨rfl, z⟩ := z
  first
    | exact wpAny_pure (wpAny_pure z)
    | (wp_walk; exact z)
/-- C(.., k = v ..): the object is laid, then C's own __init__ runs -/
theorem callKw (F : ExcBaseFacts Bs nI iI bB) (hc : ∀ T : String, bm.contains (.type T) = bB.contains (.type T))
    (ho : hp.get? Cl = some (cobj nm qn Cl Nm bss bm hd sl sb ab cl dd y0 y1 y2 y3 y5 nI))
    (li : PySem.W.Looks (model prog w) hp (typeLookup (.ref Cl) "__init__") (some (.ref fI)))
    (lb : ∀ self, PySem.W.Looks (model prog w) hp (bindSpecial (.ref fI) self) (.ref fI, [self])) (hl : rs.length ≤ sizeLine)
    (q : codeAny (model prog w) (A.under (.builtin "type.__call__" ⟨.ref Cl :: rs, kw⟩)) (.call (.ref fI) ⟨.ref (hp.objs.size + 1) :: rs, kw⟩)
      (PySem.W.InitBack (hp.objs.size + 1) R) ⟨laid hp rs Cl, gs, dr, tk, os⟩) :
    codeAny (model prog w) A (.call (.ref Cl) ⟨rs, kw⟩) R ⟨hp, gs, dr, tk, os⟩ := by
  have f1 := tc_lookup
  have f2 := tc_bind (.ref Cl)
  have hty : (⟨hp, gs, dr, tk, os⟩ : Shared).TypeIs (.ref Cl) "type" := ⟨_, ho, rfl⟩
  refine codeAny_of_tree ?_
  show wpAny _ _ (callAny (.ref Cl) _) _ _ _
  repeat (any_goals (first
    | assumption
    | with_reducible refine wpAny_loadPart_at ho ?_
    | wp_step))
  refine ⟨rfl, ?_⟩
  refine codeAny_call_builtin_at (Code.quiet_builtin _ (by decide +kernel)) entry_typeCall (wpAny_check_type_call_sub ho (typeCallKw F hc ho li lb hl ?_))
  refine codeAny_mono q fun r s' z => ?_
  rcases r with e | (v | _ | _ | _) <;> exact z
end
end ExoX
end PySem

set_option maxRecDepth 100000
set_option maxHeartbeats 4000000
namespace L2
open PySem PySem.Spec PyProof.Rows
section
variable {X : Cx} {CX : CXT} {k n : Nat} {fI C : Addr} {fd : FuncData} {ps ks : List Str} {sp : Sp} {E : XK} {g : List Value → List Value → List Value} {gV : List V → List V → List V}
variable {pins : List (Addr × Obj)} {σ : St} {H : Hp} {s : Shared} {x : Str} {p pos : Pos} {e : Expr} {es : List Expr} {kws : List Keyword} {t tk : TA}
/-- the object is laid, C's own __init__ keeps sp -/
theorem run_exo {Q : VK} {us ws : List Value} {vs zs : List V} (T : OexC X.K C) (iC : PySem.W.findIn X.K (.ref C) "__init__" = some (some (.ref fI)))
    (tI : PySem.W.typeIn X.K (.ref fI) = some (.type "function")) (F : FnOk X.prog X.w X.K X.mg X.base CX k fI fd ps sp) (hr : Room (k + 1) X.A)
    (hb : KBn X.K fd ps (n + 1) ks g gV) (hx : Passes CX X E) (I : Inv X pins σ H s) (r : Vals vs us) (rz : Vals zs ws) (l1 : vs.length = n) (l2 : zs.length = ks.length) (l3 : n ≤ 1000)
    (h : ∀ a, H a = none → sp (gV (.ref a :: vs) zs) (upd H a (exo a C none)) (fun v H2 => v = .non ∧ Q (.ref a) H2) E) :
    wpAny (model X.prog X.w) X.A (call (.ref C) us (ks.zip ws)) (EP X pins σ Q) X.xe s := by
  obtain ⟨nm, q, N, bs, bm, sn, sub, ab, col, dd, k0, k1, k2, k3, k5, hC, hbm⟩ := T.cls
  obtain ⟨hp, gs, dr, t0, os⟩ := s
  have up : hp.objs.size ≤ hp.objs.size + 1 := Nat.le_succ _
  have hq := h (hp.objs.size + 1) (I.hok.fresh up)
  have kk : ∀ b o, hp.get? b = some o → (PySem.ExoX.laid hp us C).get? b = some o := fun b o z =>
    Heap.get?_push_of_some _ (Heap.get?_push_of_some _ z)
  have hg : (PySem.ExoX.laid hp us C).get? (hp.objs.size + 1) = some (PySem.HandSPX.excO C hp.objs.size) := by heap_get
  have I2 : Inv X pins σ (upd H (hp.objs.size + 1) (exo (hp.objs.size + 1) C none)) ⟨PySem.ExoX.laid hp us C, gs, dr, t0, os⟩ :=
    I.laid (t' := t0) (a := hp.objs.size + 1) (o := exo (hp.objs.size + 1) C none) (h' := PySem.ExoX.laid hp us C) kk up (exo_ok hg)
  have r1 : Vals (V.ref (hp.objs.size + 1) :: vs) (Value.ref (hp.objs.size + 1) :: us) := .cons rfl r
  have r2 := hb.rel r1 rz
  have e1 : (Value.ref (hp.objs.size + 1) :: us).length = n + 1 := r1.length.symm.trans (congrArg Nat.succ l1)
  have e2 : ws.length = ks.length := rz.length.symm.trans l2
  have hus : us.length ≤ sizeLine := by
    rw [← r.length, l1, sizeLine_eq]
    omega
  refine wpAny_call (PySem.ExoX.callKw PySem.F.excBase_ValueError (fun Y => PySem.HandSPX.refsVE_contains Y bm hbm) (I.kIn _ _ hC) (PySem.W.looks_findIn I.kIn iC) (fun self => PySem.W.bind_fn I.kIn self tI) hus ?_)
  refine codeAny_mono (F.run _ X.stack _ _ ⟨Value.ref (hp.objs.size + 1) :: us, ks.zip ws⟩ (g (Value.ref (hp.objs.size + 1) :: us) ws) _ _ E (hr.make C us (ks.zip ws)) (I2.env0.make C us (ks.zip ws)) (hb.to _ (Value.ref (hp.objs.size + 1) :: us) ws I2.kIn e1 e2) r2 hq) fun r s' hq' => ?_
  cases r with
  | error er => exact hx pins σ _ _ er s' I2 hq'
  | ok fl =>
    cases fl with
    | ret u =>
      obtain ⟨v, H', I3, rv, ev, q3⟩ := I2.after hq'
      subst ev
      exact ⟨rv, ⟨V.ref (hp.objs.size + 1), H', I3, rfl, q3⟩⟩
    | next => exact False.elim hq'
    | brk => exact False.elim hq'
    | cont => exact False.elim hq'
/-- C(e, .., k = v, ..) as a value -/
def tExoN (C : Addr) (n m : Nat) (sp : Sp) (gV : List V → List V → List V) (E : XK) (t tk : TA) : TE := fun σ H Q => t σ H fun vs H1 => tk σ H1 fun zs H2 => vs.length = n ∧ zs.length = m ∧
  ∀ a, H2 a = none → sp (gV (.ref a :: vs) zs) (upd H2 a (exo a C none)) (fun v H3 => v = .non ∧ Q (.ref a) H3) E
theorem pe_exo1 (T : OexC X.K C) (iC : PySem.W.findIn X.K (.ref C) "__init__" = some (some (.ref fI))) (tI : PySem.W.typeIn X.K (.ref fI) = some (.type "function"))
    (F : FnOk X.prog X.w X.K X.mg X.base CX k fI fd ps sp) (hr : Room (k + 1) X.A) (hg : Gl X x) (hm : X.mg x = some (.ref C)) (hb : KBn X.K fd ps (n + 1) [] g gV) (hx : Passes CX X E) (l3 : n ≤ 1000)
    (ha : PA X (e :: es) t) (hdb : (x == ("__debug__" : Str)) = false := by decide) (he : starEach (e :: es) X.env = (false, eval e X.env) :: starEach es X.env := by rfl)
    (hpl : (backTo pos (starEach es X.env)).any (·.1) = false := by rfl) :
    PE X (.Call (.Name x p) (e :: es) [] pos) (tExoN C n 0 sp gV E t tNil) := by
  refine ⟨fun pins s σ H Q I h => ?_⟩
  refine wpAny_Call_Name_kw (ld_glob I hg hm ?_ hdb)
  refine PySem.W.callWith_K (h₀ := X.base) I.ok.mod.kin T.kC (thn (ha.run pos pins s σ H _ I h) fun us s1 ⟨vs, H1, I1, r, l1, l2, q⟩ => ⟨I1.kIn, ?_⟩) he hpl
  exact run_exo (ks := []) (ws := []) (zs := []) T iC tI F hr hb hx I1 r .nil l1 rfl l3 q
/-- keywords alone -/
theorem pe_exoK (T : OexC X.K C) (iC : PySem.W.findIn X.K (.ref C) "__init__" = some (some (.ref fI))) (tI : PySem.W.typeIn X.K (.ref fI) = some (.type "function"))
    (F : FnOk X.prog X.w X.K X.mg X.base CX k fI fd ps sp) (hr : Room (k + 1) X.A) (hg : Gl X x) (hm : X.mg x = some (.ref C)) (hb : KBn X.K fd ps (0 + 1) ks g gV) (hx : Passes CX X E)
    (hkw : PK X kws tk) (hall : (backToKw pos (keywordEach kws X.env)).all (·.1.isSome) = true := by rfl) (hks : (backToKw pos (keywordEach kws X.env)).filterMap (·.1) = ks := by rfl)
    (hdb : (x == ("__debug__" : Str)) = false := by decide)
    (hpl : ((backTo pos (starEach [] X.env)).any (·.1) || (backToKw pos (keywordEach kws X.env)).any (·.1.isNone)) = false := by rfl) :
    PE X (.Call (.Name x p) [] kws pos) (tExoN C 0 ks.length sp gV E tNil tk) := by
  refine ⟨fun pins s σ H Q I h => ?_⟩
  refine wpAny_Call_Name_kw (ld_glob I hg hm ?_ hdb)
  refine PySem.W.callWith_KW0 (h₀ := X.base) I.ok.mod.kin T.kC hall (thn (hkw.run pos pins s σ H _ I h) fun ws s2 ⟨zs, H2, I2, rz, l1, l2, q2⟩ => ⟨I2.kIn, ?_⟩) hpl
  rw [hks]
  exact run_exo (us := []) (vs := []) T iC tI F hr hb hx I2 .nil rz l1 l2 (Nat.zero_le _) q2
/-- C(), a class without an own __init__ -/
def tExo0 (C : Addr) : TE := fun _ H Q => ∀ a, H a = none → Q (.ref a) (upd H a (exo a C none))
theorem pe_exo0 (q : PySem.W.excIn X.K C [.type "ValueError", .type "Exception", .type "BaseException", .type "object"] "ValueError.__new__" = true) (kC : PySem.W.keepIn X.K (.ref C) = true) (hg : Gl X x) (hm : X.mg x = some (.ref C))
    (hdb : (x == ("__debug__" : Str)) = false := by decide) : PE X (.Call (.Name x p) [] [] pos) (tExo0 C) := by
  refine ⟨fun pins s σ H Q I h => ?_⟩
  refine wpAny_Call_Name_kw (ld_glob I hg hm ?_ hdb)
  refine PySem.W.callWith_K0 I.kIn kC ?_
  show wpAny _ _ (call (.ref C) []) _ _ _
  obtain ⟨bm, N, nm, qn, bs, hdct, sn, sub, ab, col, dd, k0, k1, k2, k3, k5, mN, hC, hN, hni, T⟩ := exc_obj I.kIn q
  refine wpAny_call_exc_subT PySem.F.excBase_ValueError T hC hN hni (fun h' a hm => ?_) (by show 0 ≤ sizeLine; rw [sizeLine_eq]; omega)
  have hn : H a = none := I.hok.gone hm.new
  obtain ⟨t, ht, _, _⟩ := hm.there
  exact ⟨.ref a, upd H a (exo a C none), I.laidN hm.keeps hm.new hn (exo_ok ht), rfl, h a hn⟩
end
end L2

set_option maxRecDepth 100000
set_option maxHeartbeats 4000000
namespace PySem.ExoX
open PySem PySem.W PySem.Calls PyProof.Rows PySem.Spec
section
variable {prog : Program} {w : World} {A : Around} {Er : Value → Shared → Prop} {s : Shared} {K : Frag} {x D : Addr} {ob : Obj} {own : Option Obj}
/-- a class's own attribute that takes what is read off an instance, whatever the instance's dict holds -/
theorem find_data {nm : Str} {a g : Value} (c0 : (clsIn K D).isSome = true) (c1 : findIn K (.ref D) nm = some (some a)) (c2 : specialIn K a "__get__" = some (some g)) (c3 : takesIn K a = some true) :
    findObj K D own nm = some (.bind g a) := by
  obtain ⟨cd, c0⟩ := Option.isSome_iff_exists.mp c0
  unfold findObj
  rw [c0, Option.bind_some, c1, Option.bind_some]
  simp [c2, c3]
/-- e.__class__ of such an error, with or without a dict -/
theorem class_of {Q : Option Value → Shared → Prop} (T : L2.ExcC K D) (X : K.In s.heap) (I : InstAt s.heap x ob D own) (q : Q (some (.ref D)) { s with toks := s.toks + 1 }) :
    wpAny (model prog w) A (getAttr? (.ref x) "__class__") Q Er s := by
  have fd : findObj K D own "__class__" = some (.bind (.builtin "getset_descriptor.__get__") (.builtin "object.__class__")) :=
    find_data (by
      obtain ⟨cd, z, _⟩ := any_some T.hd
      rw [z]
      rfl) T.ha T.hn T.ht
  obtain ⟨hh, gg, dd, tt, oo⟩ := s
  have l0 := I.type (M := model prog w)
  have l1 := looks_findIn (M := model prog w) X T.hg
  have l2 := looks_findIn (M := model prog w) X T.hk
  have l3 := looks_find (M := model prog w) X I fd
  have l4 : Looks (model prog w) hh (isInstance (.ref x) (.type "BaseException")) true := l0.andThen (looks_subIn X T.hs)
  have n0 : (false && onTheHeap (Value.builtin "BaseException.__getattribute__")) = false := rfl
  have n2 : (Value.builtin "BaseException.__getattribute__" == Value.builtin "object.__getattribute__") = false := by
    decide +kernel
  have n1 : (onTheHeap (Value.ref D) && Value.builtin "BaseException.__getattribute__" == Value.builtin "object.__getattribute__") = false := by
    rw [n2]
    rfl
  unfold getAttr? getAttrBy? getAttrBy
  refine wpAny_bind (wpAny_mkText (wpAny_bind (wpAny_attempt (wpAny_holding (wpAny_bind (l0.at (wpAny_bind (l1.at ?_))))))))
  show wpAny _ _ (if (onTheHeap (Value.ref D) && Value.builtin "BaseException.__getattribute__" == Value.builtin "object.__getattribute__") = true then _ else _) _ _ _
  rw [n1, if_neg Bool.false_ne_true]
  unfold getAttrByItsOwn hookBefore
  refine wpAny_bind ?_
  rw [if_pos (show onTheHeap (Value.ref D) = true from rfl)]
  refine l2.at ?_
  refine wpAny_bind (wpAny_attempt (wpAny_holding ?_))
  unfold callGetattribute
  rw [n0, if_neg Bool.false_ne_true]
  unfold boundAndCalled
  rw [PySem.F.excAttr_ValueError.ga.bind (.ref x)]
  refine wpAny_bind (wpAny_pure ?_)
  show wpAny _ _ (call (.builtin "BaseException.__getattribute__") [.ref x, .str "__class__" tt]) _ _ _
  refine wpAny_call (codeAny_call_builtin PySem.F.excAttr_ValueError.ga.plain PySem.F.entry_bexc_ga ?_)
  refine @check_slot (model prog w) _ _ ⟨hh, gg, dd, tt + 1, oo⟩ "BaseException.__getattribute__" "BaseException" "__getattribute__" (.ref x) [.str "__class__" tt] [] _
    (by decide +kernel) (by decide +kernel) l4 (PySem.F.args_bexc_ga (.ref x) (.str "__class__" tt)) ?_
  unfold Builtin.«object.__getattribute__»
  refine wpAny_bind (wpAny_of_eq (a := ((Value.ref x : Value), [Value.str "__class__" tt])) (by first | rfl | (simp only [slotArgs]; rfl)) ?_)
  refine wpAny_bind (wpAny_pure (wpAny_bind (l0.at (wpAny_bind (l3.at ?_)))))
  show wpAny _ _ (holding [Value.builtin "object.__class__"] (call (.builtin "getset_descriptor.__get__") [.builtin "object.__class__", .ref x, .ref D]) >>= ret) _ _ _
  refine wpAny_bind (wpAny_holding (wpAny_call (class_get (s := ⟨hh, gg, dd, tt + 1, oo⟩) (ox := ob) (od := own) X I T.hm ?_)))
  refine wpAny_pure ?_
  show wpAny _ _ (handedOut (.ref D)) _ _ _
  rw [handedOut_of (v := .ref D) rfl]
  first
    | exact wpAny_pure (wpAny_pure q)
    | exact wpAny_pure q
    | exact wpAny_pure (wpAny_bind (wpAny_pure (wpAny_pure q)))
theorem kitExo (T : L2.ExcC K D) : KitX K (.ref x) (.ref D) (fun h => ∃ ob own, InstAt h x ob D own) where
  ty := fun _ _ _ ⟨_, _, I⟩ => I.type
  it := fun _ _ X _ => by
    obtain ⟨cd, z, _⟩ := any_some T.hd
    unfold clsIn at z
    split at z
    · rename_i c1 c2 c3 c4 lk
      intro A' Q' E' s' kp q
      unfold isType loadHead
      exact wpAny_bind (wpAny_loadPart (kp _ _ (X _ _ lk)) (wpAny_pure q))
    · cases z
  ne := fun h tp dd its n sl X lk2 => by
    obtain ⟨cd, z, _⟩ := any_some T.hd
    refine Bool.eq_false_iff.mpr fun q => ?_
    have e : D = tp := Value.ref.inj (beq_iff_eq.mp q)
    subst e
    unfold clsIn at z
    split at z
    · rename_i c1 c2 c3 c4 lk
      have y := (X _ _ lk).symm.trans lk2
      cases y
    · cases z
  ca := fun X ⟨_, _, I⟩ q => class_of T X I q
end
end PySem.ExoX
namespace L2
open PySem PySem.Spec PyProof.Rows
/-- an error of the class at C stands at a, with no dict or with its own -/
def ErrAt (H : Hp) (a C : Addr) : Prop := H a = some (exo a C none) ∨ ∃ dx fs, H a = some (exo a C (some dx)) ∧ H dx = some (exd dx fs)
theorem inst_exo {X : Cx} {pins : List (Addr × Obj)} {σ : St} {H : Hp} {s : Shared} {a C : Addr} (I : Inv X pins σ H s) (e : ErrAt H a C) : ∃ ob own, PySem.W.InstAt s.heap a ob C own := by
  rcases e with e | ⟨dx, fs, e, ed⟩
  · obtain ⟨t, ho⟩ := exo_at I.hok e
    exact ⟨_, none, ho, rfl, rfl, trivial⟩
  · obtain ⟨t, ho⟩ := exo_at I.hok e
    obtain ⟨mA, hns, _⟩ := exd_at I.hok ed
    obtain ⟨o, _, _, ho2, _⟩ := hns
    exact ⟨_, some o, ho, rfl, rfl, ho2⟩
def rIsExo (K : PySem.W.Frag) : List V → Hp → VK → Prop := fun xs H Q => ∃ (a C : Addr) (c : V) (u : Value) (b : Bool), xs = [.ref a, c] ∧ ErrAt H a C ∧ ClsV c u ∧ ExcC K C ∧ PySem.W.kitOne K (.ref C) u = some b ∧ Q (.bl b) H
theorem call_isExo {X : Cx} : CallR X (.builtin "isinstance") (rIsExo X.K) := by
  intro pins s σ H xs us Q I r h
  obtain ⟨a, C, c, u, b, rfl, ea, k, T, e, q⟩ := h
  obtain ⟨u1, u2, rfl, r1, r2⟩ := vals2 r
  cases (show u1 = Value.ref a from r1)
  have e2 := k.eq r2
  subst e2
  exact PySem.W.kia_one (PySem.ExoX.kitExo T) I.kIn (inst_exo I ea) e (fun z => nomatch z) fun tk => ⟨.bl b, H, I.tok tk, rfl, q⟩
/-- e.f of such an error -/
def tExoF (K : PySem.W.Frag) (te : TE) (f : Str) : TE := fun σ H Q => te σ H fun x H1 => ∃ (a C dx : Addr) (fs : List (Str × V)) (v : V), x = .ref a ∧ H1 a = some (exo a C (some dx)) ∧ H1 dx = some (exd dx fs) ∧
  ExcC K C ∧ PySem.W.findIn K (.ref C) f = some none ∧ fs.lookup f = some v ∧ Q v H1
theorem pe_exoF {X : Cx} {e : Expr} {te : TE} {f : Str} {pos : Pos} (he : PE X e te) (hb : attributeBase e f X.env (eval e X.env) = eval e X.env := by rfl) : PE X (.Attribute e f pos) (tExoF X.K te f) := by
  refine ⟨fun pins s σ H Q I h => ?_⟩
  refine attr_of hb (thn (he.run pins s σ H _ I h) fun u s1 ⟨x, H1, I1, rx, a, C, dx, fs, v, ex, ea, ed, T, hno, lf, q⟩ => ?_)
  subst ex
  obtain rfl : u = Value.ref a := rx
  obtain ⟨t, ho⟩ := exo_at I1.hok ea
  obtain ⟨mA, hns, hr⟩ := exd_at I1.hok ed
  obtain ⟨od, ho2, hl⟩ := lookIn_ns hns
  obtain ⟨u, hu, ru⟩ := RelO.some_of (v := v) (o := mA f) (by rw [← lf]; exact hr f)
  have J : PySem.W.InstAt s1.heap a _ C (some od) := ⟨ho, rfl, rfl, ho2⟩
  exact HandSPX.exc_get I1.kIn J T.hg T.hk T.hs (PySem.W.findObj_own T.hd hno rfl (by rw [hl, hu])) (handed_of ru) ⟨v, H1, I1.tok _, ru, q⟩
end L2

set_option maxRecDepth 100000
set_option maxHeartbeats 4000000
/-! Rules whose reading hands on a heap by what is true of it: all that was tracked stands, the new thing is there. -/
namespace L2
open PySem PySem.Spec PyProof.Rows
theorem sameNew {H : Hp} {p : Addr} (n : H p = none) (o : HO) : Same H (upd H p o) := fun b u e => by
  rw [upd_ne (ne_of_none e n)]
  exact e
section
variable {X : Cx} {es : List Expr} {t : TA} {pos : Pos}
/-- a new thing at p -/
def New (H : Hp) (o : HO) (Q : VK) : Prop := ∀ (p : Addr) (H' : Hp), H p = none → Same H H' → H' p = some o → Q (.ref p) H'
theorem New.at {H : Hp} {o : HO} {Q : VK} (h : New H o Q) {p : Addr} (n : H p = none) : Q (.ref p) (upd H p o) := h p _ n (sameNew n o) upd_same
def gLstN (t : TA) : TE := fun σ H Q => t σ H fun xs H1 => xs.length ≤ sizeLine ∧ New H1 (.lst xs) Q
def gTup' (t : TA) : TE := fun σ H Q => t σ H fun xs H1 => xs.length ≤ sizeLine ∧ New H1 (.tup xs) Q
theorem PA.imp {t' : TA} (h : PA X es t) (m : ∀ σ H Q, t' σ H Q → t σ H Q) : PA X es t' := ⟨fun pos pins s σ H Q I q => h.run pos pins s σ H Q I (m σ H Q q)⟩
/-- what is asked behind a list of arguments may be read in a weaker way -/
theorem pe_lstG (h : PA X es t) : PE X (.List es pos) (gLstN t) := by
  have z : PE X (.List es pos) (tLst fun σ H R => ∃ R', t σ H R' ∧ ∀ xs H1, R' xs H1 → R xs H1) := by
    refine pe_lst ⟨fun pos pins s σ H R I ⟨R', h1, h2⟩ => ?_⟩
    refine thn (h.run pos pins s σ H R' I h1) fun us s1 ⟨vs, H1, I1, r, q⟩ => ⟨vs, H1, I1, r, h2 _ _ q⟩
  exact ⟨fun pins s σ H Q I q => z.run pins s σ H Q I ⟨_, q, fun xs H1 ⟨l, k⟩ => ⟨l, fun p n => k.at n⟩⟩⟩
theorem pe_tupG {x1} (h : PA X es t) : PE X (.Tuple es x1 pos) (gTup' t) := by
  have z : PE X (.Tuple es x1 pos) (tTup fun σ H R => ∃ R', t σ H R' ∧ ∀ xs H1, R' xs H1 → R xs H1) := by
    refine pe_tup ⟨fun pos pins s σ H R I ⟨R', h1, h2⟩ => ?_⟩
    refine thn (h.run pos pins s σ H R' I h1) fun us s1 ⟨vs, H1, I1, r, q⟩ => ⟨vs, H1, I1, r, h2 _ _ q⟩
  exact ⟨fun pins s σ H Q I q => z.run pins s σ H Q I ⟨_, q, fun xs H1 ⟨l, k⟩ => ⟨l, fun p n => k.at n⟩⟩⟩
def rCatG : R2 := fun x y H Q => ∃ l b xs zs, x = .ref l ∧ y = .ref b ∧ H l = some (.lst xs) ∧ H b = some (.lst zs) ∧ xs.length + zs.length ≤ sizeLine ∧ New H (.lst (xs ++ zs)) Q
theorem op_catG : OpR X (binaryOp .Add) rCatG := fun pins s σ H x y v u Q I rx ry ⟨l, b, xs, zs, e1, e2, e3, e4, e5, k⟩ => op_cat pins s σ H x y v u Q I rx ry ⟨l, b, xs, zs, e1, e2, e3, e4, e5, fun p n => k.at n⟩
def rSlLG (K : PySem.W.Frag) : V → Option Int → Option Int → Hp → VK → Prop := fun x lo hi H Q => ∃ a xs, x = .ref a ∧ SqL K H a xs ∧ New H (.lst (cutV xs lo hi)) Q
theorem sl_listG : SlR X (rSlLG X.K) := fun pins s σ H x v vl vu lo hi sl Q I rx hs pl pu ⟨a, xs, e, hx, k⟩ => sl_list pins s σ H x v vl vu lo hi sl Q I rx hs pl pu ⟨a, xs, e, hx, fun p n => k.at n⟩
end
theorem pe_imp {X : Cx} {e : Expr} {t t' : TE} (h : PE X e t) (m : ∀ σ H Q, t' σ H Q → t σ H Q) : PE X e t' := ⟨fun pins s σ H Q I q => h.run pins s σ H Q I (m σ H Q q)⟩
theorem Same.err {H H' : Hp} {a C : Addr} (s : Same H H') (e : ErrAt H a C) : ErrAt H' a C := by
  rcases e with e | ⟨dx, fs, e, ed⟩
  · exact .inl (s _ _ e)
  · exact .inr ⟨dx, fs, s _ _ e, s _ _ ed⟩
/-- the field is kept: __init__(self, f) -/
def spInit (C : Addr) (fld : Str) : Sp := fun vs H Q _ => ∃ (a : Addr) (v : V), vs = [.ref a, v] ∧ H a = some (exo a C none) ∧
  ∀ (dx : Addr) (H' : Hp), (∀ b o, b ≠ a → H b = some o → H' b = some o) → H' a = some (exo a C (some dx)) → H' dx = some (exd dx [(fld, v)]) → Q .non H'
/-- a new error with a field -/
def NewE (C : Addr) (fld : Str) (v : V) (H : Hp) (Q : VK) : Prop := ∀ (a dx : Addr) (H' : Hp), H a = none → Same H H' → H' a = some (exo a C (some dx)) → H' dx = some (exd dx [(fld, v)]) → Q (.ref a) H'
section
variable {X : Cx} {CX : CXT} {k : Nat} {fI C : Addr} {fd : FuncData} {fld : Str} {E : XK} {x : Str} {p pos : Pos} {e : Expr} {te : TE} {nm : Option Str} {kpos : Pos}
theorem bind1 {K : PySem.W.Frag} {n : Str} (h : ∀ (a b : Value), bindArgs fd ⟨[a], [(n, b)]⟩ = pure ([(("self" : Str), a), (n, b)] : List (Str × Value))) : KBn K fd ["self", n] (0 + 1) [n] (fun us ws => us ++ ws) (fun vs zs => vs ++ zs) where
  to := fun s us ws _ l1 l2 => match us, ws, l1, l2 with
    | [a], [b], _, _ => .of_eq (h a b)
  rel := fun r rz => r.append rz
theorem bind2 {K : PySem.W.Frag} {n : Str} (h : ∀ (a b : Value), bindArgs fd ⟨[a, b], []⟩ = pure ([(("self" : Str), a), (n, b)] : List (Str × Value))) : KBn K fd ["self", n] (1 + 1) [] (fun us ws => us ++ ws) (fun vs zs => vs ++ zs) where
  to := fun s us ws _ l1 l2 => match us, ws, l1, l2 with
    | [a, b], [], _, _ => .of_eq (h a b)
  rel := fun r rz => r.append rz
/-- C(f = e) -/
def gExoK (C : Addr) (fld : Str) (te : TE) : TE := fun σ H Q => te σ H fun v H1 => NewE C fld v H1 Q
theorem exo_end {v : V} {H1 : Hp} {Q : VK} {E : XK} (q : NewE C fld v H1 Q) (a : Addr) (n : H1 a = none) : spInit C fld [.ref a, v] (upd H1 a (exo a C none)) (fun u H3 => u = .non ∧ Q (.ref a) H3) E :=
  ⟨a, v, rfl, upd_same, fun dx H' s e1 e2 => ⟨rfl, q a dx H' n (fun b o hb => s b o (ne_of_none hb n) (by rw [upd_ne (ne_of_none hb n)]; exact hb)) e1 e2⟩⟩
theorem pe_exoKG (T : OexC X.K C) (iC : PySem.W.findIn X.K (.ref C) "__init__" = some (some (.ref fI))) (tI : PySem.W.typeIn X.K (.ref fI) = some (.type "function"))
    (F : FnOk X.prog X.w X.K X.mg X.base CX k fI fd ["self", fld] (spInit C fld)) (hr : Room (k + 1) X.A) (hg : Gl X x) (hm : X.mg x = some (.ref C)) (hb : ∀ (a b : Value), bindArgs fd ⟨[a], [(fld, b)]⟩ = pure ([(("self" : Str), a), (fld, b)] : List (Str × Value))) (hx : Passes CX X E)
    (he : PE X e te) (hall : (backToKw pos (keywordEach [⟨nm, e, kpos⟩] X.env)).all (·.1.isSome) = true := by rfl) (hks : (backToKw pos (keywordEach [⟨nm, e, kpos⟩] X.env)).filterMap (·.1) = [fld] := by rfl)
    (hdb : (x == ("__debug__" : Str)) = false := by decide)
    (hpl : ((backTo pos (starEach [] X.env)).any (·.1) || (backToKw pos (keywordEach [⟨nm, e, kpos⟩] X.env)).any (·.1.isNone)) = false := by rfl) :
    PE X (.Call (.Name x p) [] [⟨nm, e, kpos⟩] pos) (gExoK C fld te) := by
  have z : PE X e (fun σ H R => ∃ R', te σ H R' ∧ ∀ v H1, R' v H1 → R v H1) := ⟨fun pins s σ H R I ⟨R', h1, h2⟩ => thn (he.run pins s σ H R' I h1) fun us s1 ⟨v, H1, I1, r, q⟩ => ⟨v, H1, I1, r, h2 _ _ q⟩⟩
  refine pe_imp (pe_exoK (E := E) T iC tI F hr hg hm (bind1 (K := X.K) hb) hx (pk_cons z pk_nil) hall hks hdb hpl) fun σ H Q q => ?_
  exact ⟨_, q, fun v H1 q1 => ⟨rfl, rfl, fun a n => exo_end q1 a n⟩⟩
theorem pe_exoPG (T : OexC X.K C) (iC : PySem.W.findIn X.K (.ref C) "__init__" = some (some (.ref fI))) (tI : PySem.W.typeIn X.K (.ref fI) = some (.type "function"))
    (F : FnOk X.prog X.w X.K X.mg X.base CX k fI fd ["self", fld] (spInit C fld)) (hr : Room (k + 1) X.A) (hg : Gl X x) (hm : X.mg x = some (.ref C)) (hb : ∀ (a b : Value), bindArgs fd ⟨[a, b], []⟩ = pure ([(("self" : Str), a), (fld, b)] : List (Str × Value))) (hx : Passes CX X E)
    (he : PE X e te) (hdb : (x == ("__debug__" : Str)) = false := by decide) (hs : starEach [e] X.env = (false, eval e X.env) :: starEach [] X.env := by rfl)
    (hpl : (backTo pos (starEach [] X.env)).any (·.1) = false := by rfl) :
    PE X (.Call (.Name x p) [e] [] pos) (gExoK C fld te) := by
  have z : PE X e (fun σ H R => ∃ R', te σ H R' ∧ ∀ v H1, R' v H1 → R v H1) := ⟨fun pins s σ H R I ⟨R', h1, h2⟩ => thn (he.run pins s σ H R' I h1) fun us s1 ⟨v, H1, I1, r, q⟩ => ⟨v, H1, I1, r, h2 _ _ q⟩⟩
  refine pe_imp (pe_exo1 (E := E) T iC tI F hr hg hm (bind2 (K := X.K) hb) hx (by decide) (pa_cons z pa_nil hs) hdb hs hpl) fun σ H Q q => ?_
  exact ⟨_, q, fun v H1 q1 => ⟨rfl, rfl, fun a n => exo_end q1 a n⟩⟩
/-- C(), no __init__ of its own -/
def gExo0 (C : Addr) : TE := fun _ H Q => New0 H C Q where New0 (H : Hp) (C : Addr) (Q : VK) : Prop := ∀ (a : Addr) (H' : Hp), H a = none → Same H H' → H' a = some (exo a C none) → Q (.ref a) H'
theorem pe_exo0G (q : PySem.W.excIn X.K C [.type "ValueError", .type "Exception", .type "BaseException", .type "object"] "ValueError.__new__" = true) (kC : PySem.W.keepIn X.K (.ref C) = true) (hg : Gl X x) (hm : X.mg x = some (.ref C))
    (hdb : (x == ("__debug__" : Str)) = false := by decide) : PE X (.Call (.Name x p) [] [] pos) (gExo0 C) :=
  pe_imp (pe_exo0 q kC hg hm hdb) fun σ H Q k a n => k a _ n (sameNew n _) upd_same
end
end L2

set_option maxRecDepth 100000
set_option maxHeartbeats 4000000
namespace L2
open PySem PySem.Spec PyProof.Rows
/-- over enumerate(a list that stands) -/
theorem for_enumL {K : PySem.W.Frag} {a : Addr} {xs : List V} {g : TG} {tb : TS} {D : Ends} {σ : St} {H : Hp} (Pv : Nat → St → Hp → Prop) (h0 : Pv 0 σ H) (hl : ∀ i σ H, i ≤ xs.length → Pv i σ H → SqL K H a xs)
    (hs : ∀ i x σ H T H', xs[i]? = some x → Pv i σ H → H T = none → Same H H' → H' T = some (.tup [.int (i : Nat), x]) → g (.ref T) σ H' fun σ2 H2 => tb { D with nx := Pv (i + 1), ct := Pv (i + 1), bk := D.nx } σ2 H2)
    (hd : ∀ σ H, Pv xs.length σ H → D.nx σ H) :
    ∃ W : Nat → Nat → St → Hp → Prop, (∃ m, W 0 m σ H) ∧ ∀ i m σ H, W i m σ H →
      ((Ite K a).stop i H ∧ D.nx σ H) ∨ ((Ite K a).go i H ∧ ∃ N : St → Hp → Prop, (∀ σ' H', N σ' H' → ∃ m', m' < m ∧ W (i + 1) m' σ' H') ∧ ∀ x H', (Ite K a).yld i H x H' → g x σ H' fun σ2 H2 => tb { D with nx := N, ct := N, bk := D.nx } σ2 H2) := by
  refine ⟨fun i m σ H => m = xs.length - i ∧ i ≤ xs.length ∧ Pv i σ H, ⟨xs.length, by simp, Nat.zero_le _, h0⟩, ?_⟩
  rintro i m σ H ⟨rfl, hi, p⟩
  have q := hl i σ H hi p
  by_cases hlt : i < xs.length
  · refine .inr ⟨⟨xs, xs[i], q, by simp [hlt]⟩, Pv (i + 1), fun σ' H' p' => ⟨xs.length - (i + 1), by omega, rfl, hlt, p'⟩, fun v H' y => ?_⟩
    obtain ⟨T, x, e, n, e2, y⟩ := y
    subst e e2
    exact hs i x σ H T _ (y xs q) p n (sameNew n _) upd_same
  · have e : i = xs.length := by omega
    subst e
    exact .inl ⟨⟨xs, q, Nat.le_refl _⟩, hd σ H p⟩
/-! lists of truth values as data -/
theorem bools_lay : ∀ bs : List Bool, PyData.canLayAll0 (bs.map PyData.bool) = true
  | [] => rfl
  | b :: bs => by
    show (PyData.canLay0 (.bool b) && PyData.canLayAll0 (bs.map PyData.bool)) = true
    rw [bools_lay bs]
    rfl
theorem bools_flat : ∀ bs : List Bool, PyData.depthAll (bs.map PyData.bool) = 0
  | [] => rfl
  | b :: bs => by
    show max (PyData.depth (.bool b)) (PyData.depthAll (bs.map PyData.bool)) = 0
    rw [bools_flat bs]
    rfl
theorem bools_shaped (bs : List Bool) : SeqAt.shaped (.list (bs.map PyData.bool)) = true := by
  have h1 : PyData.canLay0 (.list (bs.map PyData.bool)) = true := bools_lay bs
  have h2 : PyData.depth (.list (bs.map PyData.bool)) = 1 := by
    show PyData.depthAll (bs.map PyData.bool) + 1 = 1
    rw [bools_flat bs]
  unfold SeqAt.shaped
  rw [h1, h2]
  rfl
theorem bools_all {K : PySem.W.Frag} {H : Hp} : ∀ bs : List Bool, DpAll K H (bs.map V.bl) (bs.map PyData.bool)
  | [] => .nil
  | b :: bs => .cons (.bl b) (bools_all bs)
theorem bools_dp {K : PySem.W.Frag} {H : Hp} {p : Addr} {bs : List Bool} (h : H p = some (.lst (bs.map V.bl))) : Dp K H (.ref p) (.list (bs.map PyData.bool)) := .lst (SqL.of h) (bools_all bs)
theorem bools_same (bs : List Bool) : PyData.eqv (.list (bs.map PyData.bool)) (.list (bs.map PyData.bool)) = true := SeqAt.eqv_refl _ (bools_lay bs)
/-- a display of one entry, text to value -/
def gDict1 (k : Str) (te : TE) : TE := fun σ H Q => ∀ p : Addr, H p = none → te σ (upd H p (.dK [])) fun v H2 => H2 p = some (.dK []) ∧ Q (.ref p) (upd H2 p (.dK [(.inr k, v)]))
theorem pe_disp1 {X : Cx} {pos p1 : Pos} {v : Expr} {k : Str} {j : Nat} {te : TE} (hv : PE X v te) : PE X (.Dict [some (.Constant (.str k) j p1)] [v] pos) (gDict1 k te) := by
  have z : PE X v (fun σ H R => ∃ R', te σ H R' ∧ ∀ v H1, R' v H1 → R v H1) := ⟨fun pins s σ H R I ⟨R', h1, h2⟩ => thn (hv.run pins s σ H R' I h1) fun us s1 ⟨v, H1, I1, r, q⟩ => ⟨v, H1, I1, r, h2 _ _ q⟩⟩
  refine pe_imp (pe_disp (pps_cons pe_str z pps_nil) rfl rfl (fun z => by cases z) (by show 1 ≤ 15; decide)) fun σ H Q q p n => ?_
  exact ⟨_, q p n, fun u H2 ⟨e, k2⟩ => ⟨e, [(.inr k, u)], rfl, by show 1 ≤ 15; decide, k2⟩⟩
/-- the cut and what is put behind it -/
theorem ints_cut {ns : List Int} {lo hi : Option Int} {i : Nat} {y : V} (h : (cutV (ns.map V.int) lo hi ++ [.int 0])[i]? = some y) : ∃ c : Int, y = .int c := by
  have m := List.mem_of_getElem? h
  rcases List.mem_append.mp m with m | m
  · unfold cutV at m
    have m2 := List.mem_of_mem_drop (List.mem_of_mem_take m)
    obtain ⟨c, _, e⟩ := List.mem_map.mp m2
    exact ⟨c, e.symm⟩
  · exact ⟨0, by simpa using m⟩
theorem ints_cut_len {ns : List Int} {lo hi : Option Int} (h : ns.length ≤ 63) : (cutV (ns.map V.int) lo hi).length ≤ 63 := by
  have := cutV_length (ns.map V.int) lo hi
  rw [List.length_map] at this
  omega
end L2

set_option maxRecDepth 100000
set_option maxHeartbeats 4000000
/-! for .. in enumerate(a tuple), as the hand layer has it for a list -/
namespace PySem
open Sem (wp)
open AutoSeq1 (wpAny_loadPart')
theorem my_enumerate_newT (l : Addr) (items : Array Value) (n : Nat) (dct : Option Addr) (sl : Array (Option Value)) :
    Meets (Builtin.«enumerate.__new__» ⟨[.type "enumerate", .ref l], []⟩) (fun _ R s => s.heap.get? l = some { cls := .type "tuple", dict := dct, data := .seq items n, slots := sl } ∧
      R (.ok (.ret (.ref (s.heap.push { cls := .type "tuple_iterator", data := .fields #[.ref l, .int 0 0] }).objs.size)))
        { s with heap := (s.heap.push { cls := .type "tuple_iterator", data := .fields #[.ref l, .int 0 0] }).push { cls := .type "enumerate", data := .fields #[.none, .bool false, .ref s.heap.objs.size, rawInt 0, .none, .none] } }) :=
  .of_wp fun prog w A R s h => by
    obtain ⟨hp, g, d, tk, os⟩ := s; obtain ⟨hl, h⟩ := h
    have hsub := sub_enumerate
    have hL : Heap.IsTuple (Shared.heap ⟨hp, g, d, tk, os⟩) l items := ⟨_, hl, rfl, n, rfl⟩
    wp_walk using wpAny_loadPart' hl
    refine wpAny_stack_any fun st => wpAny_pure ?_
    split
    · rename_i c _ _ _ _ _
      cases (c == Value.type "enumerate")
      · wp_walk using wpAny_loadPart' hl, wpAny_pyIter_tuple hL
        exact ⟨_, rfl, h⟩
      · wp_walk using wpAny_loadPart' hl, wpAny_pyIter_tuple hL
        exact ⟨_, rfl, h⟩
    · wp_walk using wpAny_loadPart' hl, wpAny_pyIter_tuple hL
      exact ⟨_, rfl, h⟩
section
variable {prog : Program} {w : World} {A : Around} {E : Value → Shared → Prop} {s : Shared}
theorem my_enumerate_tuple {l : Addr} {items : Array Value} {Q : Value → Shared → Prop} (hL : s.heap.IsTuple l items)
    (h : ∀ h', IsEnum h' (s.heap.objs.size + 1) s.heap.objs.size 0 .none → h'.IsTupleIter s.heap.objs.size l 0 → h'.objs.size = s.heap.objs.size + 2 →
      (∀ b o, s.heap.get? b = some o → h'.get? b = some o) → Q (.ref (s.heap.objs.size + 1)) { s with heap := h' }) :
    wpAny (model prog w) A (call (.type "enumerate") [.ref l]) Q E s := by
  obtain ⟨⟨c, dct, dt, sl⟩, hl, hc, n, hd⟩ := hL
  replace hc : c = .type "tuple" := hc
  replace hd : dt = .seq items n := hd
  subst hc hd
  refine callType_new F.called_enumerate (by decide) (F.typeCall_enumerate_1 _) (F.newCall_enumerate_1 _) (fun obj => F.args_object_init_2 obj _) F.entry_enumerate_new
    (my_enumerate_newT l items n dct sl) ⟨hl, ?_⟩
  have hz : (s.heap.push { cls := .type "tuple_iterator", data := .fields #[.ref l, .int 0 0] }).objs.size = s.heap.objs.size + 1 := Heap.size_push ..
  show _ ∧ _
  rw [hz]
  have he : IsEnum ((s.heap.push { cls := .type "tuple_iterator", data := .fields #[.ref l, .int 0 0] }).push
      { cls := .type "enumerate", data := .fields #[.none, .bool false, .ref s.heap.objs.size, rawInt 0, .none, .none] }) (s.heap.objs.size + 1) s.heap.objs.size 0 .none := by
    have := Heap.get?_push_size (s.heap.push { cls := .type "tuple_iterator", data := .fields #[.ref l, .int 0 0] })
      (o := { cls := .type "enumerate", data := .fields #[.none, .bool false, .ref s.heap.objs.size, rawInt 0, .none, .none] }) rfl
    rw [hz] at this; exact this
  refine ⟨⟨_, he, rfl⟩, h _ he ⟨_, Heap.get?_push_of_some _ (Heap.get?_push_size _ rfl), rfl, rfl⟩ (by rw [Heap.size_push, hz]) fun b o x => Heap.get?_push_of_some _ (Heap.get?_push_of_some _ x)⟩
end
end PySem
namespace L2
open PySem PySem.Spec PyProof.Rows
/-- the tuple at a, each item in a new pair -/
def IteT (K : PySem.W.Frag) (a : Addr) : It :=
  ⟨fun i H => ∃ (xs : List V) (x : V), SqT K H a xs ∧ xs[i]? = some x, fun i H v H' => ∃ T x, v = .ref T ∧ H T = none ∧ H' = upd H T (.tup [.int (i : Nat), x]) ∧ ∀ xs, SqT K H a xs → xs[i]? = some x, fun i H => ∃ xs : List V, SqT K H a xs ∧ xs.length = i⟩
theorem turn_enumT {P : Program} {w : World} {K : PySem.W.Frag} {elts : List Expr} {kk : Nat} {tpos : Pos} (a e it : Addr) (nae : a ≠ e) (nai : a ≠ it) :
    Turn P w K (.Tuple elts kk tpos) (IteT K a) [e, it] e (fun i h => (∃ old, IsEnum h e it ((i : Nat) : Int) old) ∧ h.IsTupleIter it a i ∧ e ≠ it) where
  mem := by simp
  obj := fun i h st b hb => by
    obtain ⟨⟨old, he⟩, ⟨o, ho, hc, hd⟩, _⟩ := st
    have e' : b = e ∨ b = it := by simpa using hb
    rcases e' with z | z
    · rw [z]; exact ⟨_, he, fun v q => nomatch q⟩
    · rw [z]; exact ⟨o, ho, fun v q => by rw [hd] at q; cases q⟩
  keep := fun i h h' st k => by
    obtain ⟨⟨old, he⟩, ⟨o, ho, r⟩, hne⟩ := st
    exact ⟨⟨old, k e (by simp) _ he⟩, ⟨o, k it (by simp) o ho, r⟩, hne⟩
  item := by
    intro X hP hw hK hc i pins s σ H E I hf st hg
    subst hP hw hK
    obtain ⟨⟨old, he⟩, hit, hne⟩ := st
    obtain ⟨xs, x, hq, hx⟩ := hg
    obtain ⟨its, rv, p, hz⟩ := I.tuple hq
    obtain ⟨u, hu, ru⟩ := rv.get hx
    have hel : e < s.heap.objs.size := Heap.lt_size he
    have hil : it < s.heap.objs.size := by obtain ⟨_, q, _⟩ := hit; exact Heap.lt_size q
    have hi : i < its.toArray.size := by
      have := (List.getElem?_eq_some_iff.mp hu).1
      simpa using this
    refine wpAny_pyNext_enum_itemD (Draws.tuple (prog := X.prog) (w := X.w) (A := X.A.in1) (I.ok.hd hc) it a nai its.toArray) he ⟨hit, show s.heap.IsTuple a its.toArray from p⟩ hi hne (by simp [Ne.symm nae, hne]) fun x2 h' tk hx2 ho hit' hT hsz hk => ?_
    have ex : x2 = u := by
      have e1 : its.toArray[i]? = some u := by simpa using hu
      rw [e1] at hx2
      exact (Option.some.inj hx2).symm
    subst ex
    refine ⟨_, rfl, wpAny_letOwnedTupleGo_enum (s := { s with heap := h', toks := tk + 1 }) ho fun h'' he' sb => ?_⟩
    have hT2 : h''.get? s.heap.objs.size = some { cls := .type "tuple", data := .seq #[.int i tk, x2] } := (sb.2 _ (Nat.ne_of_gt hel)).trans hT
    have new : ObjOk X.prog X.w (upd H s.heap.objs.size (.tup [.int (i : Nat), x])) h'' s.heap.objs.size (.tup [.int (i : Nat), x]) :=
      ⟨by show 2 ≤ sizeLine; decide, [.int i tk, x2], .cons ⟨_, rfl⟩ (.cons ru .nil), ⟨_, hT2, rfl, _, rfl⟩⟩
    have I1 : Inv X pins σ (upd H s.heap.objs.size (.tup [.int (i : Nat), x])) { s with heap := h'', toks := tk + 1 } :=
      I.turnedNew (ch := [e, it]) (fun b ob hb q => (sb.2 b (fun z => hb (by simp [z]))).trans (hk b ob (fun z => hb (by simp [z])) (fun z => hb (by simp [z])) q)) hf (Nat.le_refl _) new
    refine ⟨.ref s.heap.objs.size, _, I1, rfl, ⟨_, x, rfl, I.hok.fresh (Nat.le_refl _), rfl, fun ys hy => by rw [I.tuple_inj hy hq]; exact hx⟩, ⟨⟨x2, ?_⟩, ?_, hne⟩, fun b hb => ?_⟩
    · have e1 : ((i + 1 : Nat) : Int) = (i : Int) + 1 := by omega
      rw [e1]; exact he'
    · obtain ⟨o, ho2, r⟩ := hit'.1
      exact ⟨o, (sb.2 it (Ne.symm hne)).trans ho2, r⟩
    · have hb' : b < s.heap.objs.size := by
        have e' : b = e ∨ b = it := by simpa using hb
        rcases e' with z | z
        · rw [z]; exact hel
        · rw [z]; exact hil
      rw [upd_ne (Nat.ne_of_lt hb')]
      exact (hf b hb).1
  done := by
    intro X hP hw hK hc i pins s σ H E I hf st hg
    subst hP hw hK
    obtain ⟨⟨old, he⟩, hit, hne⟩ := st
    obtain ⟨xs, hq, hx⟩ := hg
    obtain ⟨its, rv, p, hz⟩ := I.tuple hq
    obtain ⟨f0, f1, f2, f3, f4, f5⟩ := hf it (by simp)
    have hl := rv.length
    have ei : i = its.toArray.size := by simp; omega
    subst ei
    exact wpAny_pyNext_enum_endD (Draws.tuple (prog := X.prog) (w := X.w) (A := X.A.in1) (I.ok.hd hc) it a nai its.toArray) he ⟨hit, show s.heap.IsTuple a its.toArray from p⟩ fun h' eb => ⟨rfl, I.turned (t' := s.toks) (fun b o hb q => eb b o hb q) f0 f1 f3 f4 f5⟩
  self := fun A i s Q E st h => let ⟨⟨_, he⟩, _⟩ := st; wpAny_pyIter_enum he h
def iEnumT (K : PySem.W.Frag) (ta : TA) : TI := fun σ H R => ta σ H fun vs H1 => ∃ a xs, vs = [.ref a] ∧ SqT K H1 a xs ∧ R (IteT K a) H1
theorem pi_enumT {X : Cx} {e : Expr} {ta : TA} {p pos tpos : Pos} {elts : List Expr} {kk : Nat} (hg : Gl X "enumerate") (hm : X.mg "enumerate" = none) (ha : PA X [e] ta) (hs : starEach [e] X.env = [(false, eval e X.env)] := by rfl) :
    PI X (.Tuple elts kk tpos) (.Call (.Name "enumerate" p) [e] [] pos) (iEnumT X.K ta) := by
  refine ⟨fun pins s σ H R I h => ?_⟩
  refine Call_ (ld_blt I hg hm boot_enumerate (PyProof.Rows.callWith_type1 (thn (ha.run pos pins s σ H _ I h) fun us s1 ⟨vs, H1, I1, r1, q1⟩ => ?_) hs rfl))
  obtain ⟨a, xs, ex, hq, q⟩ := q1
  subst ex
  cases r1 with
  | cons r rr =>
    cases rr
    cases r
    obtain ⟨its, rv, p', hz⟩ := I1.tuple hq
    have hal : a < s1.heap.objs.size := by obtain ⟨o, ho, _⟩ := p'; exact Heap.lt_size ho
    refine my_enumerate_tuple (show s1.heap.IsTuple a its.toArray from p') fun h' he hit hsz hk => wpAny_pyIter_enum he ?_
    have I2 : Inv X pins σ H1 { s1 with heap := h' } := I1.kept (t' := s1.toks) hk
    refine ⟨s1.heap.objs.size + 1, [s1.heap.objs.size + 1, s1.heap.objs.size], _, _, H1, rfl, I2, turn_enumT a (s1.heap.objs.size + 1) s1.heap.objs.size (Nat.ne_of_lt (Nat.lt_succ_of_lt hal)) (Nat.ne_of_lt hal), ⟨⟨.none, he⟩, hit, Nat.succ_ne_self _⟩, fun b hb => ?_, q⟩
    have e' : b = s1.heap.objs.size + 1 ∨ b = s1.heap.objs.size := by simpa using hb
    have hle : s1.heap.objs.size ≤ b := by
      rcases e' with z | z
      · rw [z]; exact Nat.le_add_right _ _
      · rw [z]; exact Nat.le_refl _
    exact I1.fpOk hle (I1.hok.fresh hle)
/-- over enumerate(a tuple that stands) -/
theorem for_enumT {K : PySem.W.Frag} {a : Addr} {xs : List V} {g : TG} {tb : TS} {D : Ends} {σ : St} {H : Hp} (Pv : Nat → St → Hp → Prop) (h0 : Pv 0 σ H) (hl : ∀ i σ H, i ≤ xs.length → Pv i σ H → SqT K H a xs)
    (hs : ∀ i x σ H T H', xs[i]? = some x → Pv i σ H → H T = none → Same H H' → H' T = some (.tup [.int (i : Nat), x]) → g (.ref T) σ H' fun σ2 H2 => tb { D with nx := Pv (i + 1), ct := Pv (i + 1), bk := D.nx } σ2 H2)
    (hd : ∀ σ H, Pv xs.length σ H → D.nx σ H) :
    ∃ W : Nat → Nat → St → Hp → Prop, (∃ m, W 0 m σ H) ∧ ∀ i m σ H, W i m σ H →
      ((IteT K a).stop i H ∧ D.nx σ H) ∨ ((IteT K a).go i H ∧ ∃ N : St → Hp → Prop, (∀ σ' H', N σ' H' → ∃ m', m' < m ∧ W (i + 1) m' σ' H') ∧ ∀ x H', (IteT K a).yld i H x H' → g x σ H' fun σ2 H2 => tb { D with nx := N, ct := N, bk := D.nx } σ2 H2) := by
  refine ⟨fun i m σ H => m = xs.length - i ∧ i ≤ xs.length ∧ Pv i σ H, ⟨xs.length, by simp, Nat.zero_le _, h0⟩, ?_⟩
  rintro i m σ H ⟨rfl, hi, p⟩
  have q := hl i σ H hi p
  by_cases hlt : i < xs.length
  · refine .inr ⟨⟨xs, xs[i], q, by simp [hlt]⟩, Pv (i + 1), fun σ' H' p' => ⟨xs.length - (i + 1), by omega, rfl, hlt, p'⟩, fun v H' y => ?_⟩
    obtain ⟨T, x, e, n, e2, y⟩ := y
    subst e e2
    exact hs i x σ H T _ (y xs q) p n (sameNew n _) upd_same
  · have e : i = xs.length := by omega
    subst e
    exact .inl ⟨⟨xs, q, rfl⟩, hd σ H p⟩
end L2

set_option maxRecDepth 100000
set_option maxHeartbeats 4000000
namespace Mine
open PySem L2
def top (i : Nat) : Stmt := PySem.Challenge.pw_askfurther_k59_whole_stands_led_on_every.main.body.getD i (.Pass ⟨0, 0, 0, 0⟩)
abbrev s_is_integer : Stmt := top 15
abbrev s_is_within : Stmt := top 16
abbrev s_is_index : Stmt := top 17
abbrev s_is_row : Stmt := top 18
abbrev s_is_name : Stmt := top 19
abbrev s_is_text_in : Stmt := top 20
/-- the built-in types whose things are passed -/
def bts : List String := ["NoneType", "bool", "int", "str", "float", "list", "tuple", "dict", "bytes", "set"]
def kb (t u : String) : Bool := t == u || (t == "bool" && u == "int")
theorem kit_b : ∀ t ∈ bts, ∀ u ∈ bts, kitB t u = some (kb t u) := by decide +kernel
/-- a thing of a built-in type -/
structure Bt (K : PySem.W.Frag) (H : Hp) (v : V) (t : String) : Prop where
  ty : TyX K H v (.type t)
  m : t ∈ bts
theorem Bt.kit {K : PySem.W.Frag} {H : Hp} {v : V} {t u : String} (b : Bt K H v t) (hu : u ∈ bts) : PySem.W.kitOne K (.type t) (.type u) = some (kb t u) := kit_ty (kit_b t b.m u hu)
theorem Bt.int {K : PySem.W.Frag} {H : Hp} {v : V} {t : String} (b : Bt K H v t) (h : (t == "int") = true) : ∃ i : Int, v = .int i := by
  cases b.ty with
  | base z => cases z <;> first | exact ⟨_, rfl⟩ | (exact absurd h (by decide))
  | _ => exact absurd h (by decide)
theorem Bt.str {K : PySem.W.Frag} {H : Hp} {v : V} {t : String} (b : Bt K H v t) (h : (t == "str") = true) : ∃ x : Str, v = .str x := by
  cases b.ty with
  | base z => cases z <;> first | exact ⟨_, rfl⟩ | (exact absurd h (by decide))
  | _ => exact absurd h (by decide)
theorem Bt.same {K : PySem.W.Frag} {H H' : Hp} {v : V} {t : String} (s : Same H H') (b : Bt K H v t) : Bt K H' v t := by
  refine ⟨?_, b.m⟩
  cases b.ty with
  | base h =>
    cases h with
    | non => exact .base .non
    | bl x => exact .base (.bl x)
    | int i => exact .base (.int i)
    | str x => exact .base (.str x)
    | flt x => exact .base (.flt x)
    | lst e => exact .base (.lst (s _ _ e))
    | frz e => exact .base (.frz (s _ _ e))
    | tup e => exact .base (.tup (s _ _ e))
    | dK e => exact .base (.dK (s _ _ e))
    | dT e => exact .base (.dT (s _ _ e))
  | byt x => exact .byt x
  | set e => exact .set (s _ _ e)
  | kList e c => exact .kList e c
  | kTuple e c => exact .kTuple e c
  | kDict e c => exact .kDict e c
  | fTuple e => exact .fTuple (s _ _ e)
  | fDict e => exact .fDict (s _ _ e)
/-- an integer in bounds; a name; what else is none -/
def inW (v : V) (lo hi : Int) : Bool := match v with
  | .int i => decide (lo ≤ i) && decide (i ≤ hi)
  | _ => false
def lettersS : Str := "abcdefghijklmnopqrstuvwxyz"
def isNm (x : Str) : Bool := decide (1 ≤ x.length) && decide (x.length ≤ 8) && x.cps.toList.all fun c => decide (c ∈ lettersS.cps.toList)
def nameV (v : V) : Bool := match v with
  | .str x => isNm x
  | _ => false
theorem inW_of {K : PySem.W.Frag} {H : Hp} {v : V} {t : String} (b : Bt K H v t) (h : (t == "int") = false) (lo hi : Int) : inW v lo hi = false := by
  cases b.ty with
  | base z => cases z <;> first | rfl | (exact absurd h (by decide))
  | _ => rfl
theorem nameV_of {K : PySem.W.Frag} {H : Hp} {v : V} {t : String} (b : Bt K H v t) (h : (t == "str") = false) : nameV v = false := by
  cases b.ty with
  | base z => cases z <;> first | rfl | (exact absurd h (by decide))
  | _ => rfl
def spInt (K : PySem.W.Frag) : Sp := fun vs H Q _ => ∃ (v : V) (t : String), vs = [v] ∧ Bt K H v t ∧ Q (.bl (t == "int")) H
def spWithin (K : PySem.W.Frag) : Sp := fun vs H Q _ => ∃ (v : V) (t : String) (lo hi : Int), vs = [v, .int lo, .int hi] ∧ Bt K H v t ∧ Q (.bl (inW v lo hi)) H
def spIndex (K : PySem.W.Frag) : Sp := fun vs H Q _ => ∃ (v : V) (t : String) (m : Int), vs = [v, .int m] ∧ Bt K H v t ∧ Q (.bl (inW v 0 (m - 1))) H
def spIsRow (K : PySem.W.Frag) : Sp := fun vs H Q _ => ∃ (v : V) (t : String), vs = [v] ∧ Bt K H v t ∧ ∀ H', Same H H' → Q (.bl (t == "list" || t == "tuple")) H'
def spName (K : PySem.W.Frag) : Sp := fun vs H Q _ => ∃ (v : V) (t : String), vs = [v] ∧ Bt K H v t ∧ (∀ x, v = .str x → x.length ≤ sizeLine) ∧ ∀ H', Same H H' → Q (.bl (nameV v)) H'
/-- a text's place in a dict of texts -/
def hasT (kvs : List (Key × V)) (v : V) : Bool := match v with
  | .str x => (valV kvs (.inr x)).isSome
  | _ => false
def spTextIn (K : PySem.W.Frag) : Sp := fun vs H Q _ => ∃ (v : V) (t : String) (d : Addr) (kvs : List (Key × V)), vs = [v, .ref d] ∧ Bt K H v t ∧ Rd H d (.dK kvs) ∧ Q (.bl (hasT kvs v)) H
structure TxtF (K : PySem.W.Frag) (mg : Str → Option Value) (fII fIW : Addr) : Prop where
  b_isinstance : mg "isinstance" = none
  b_int : mg "int" = none
  b_bool : mg "bool" = none
  b_str : mg "str" = none
  b_list : mg "list" = none
  b_tuple : mg "tuple" = none
  b_dict : mg "dict" = none
  b_len : mg "len" = none
  b_all : mg "all" = none
  c_LETTERS : ∃ t, mg "LETTERS" = some (.str lettersS t)
  c_LONGEST_NAME : ∃ t, mg "LONGEST_NAME" = some (.int 8 t)
  g_is_integer : mg "is_integer" = some (.ref fII)
  k_is_integer : PySem.W.keepIn K (.ref fII) = true
  g_is_within : mg "is_within" = some (.ref fIW)
  k_is_within : PySem.W.keepIn K (.ref fIW) = true
section
variable {P : Program} {w : World} {K : PySem.W.Frag} {mg : Str → Option Value} {base : Heap}
variable {fII fIW : Addr} {fdII fdIW : FuncData}
theorem sc_is_integer : FnScope ["thing"] ["thing"] (defScope s_is_integer) := ⟨rfl, rfl, rfl, by decide +kernel, rfl, by decide +kernel, by decide +kernel⟩
theorem ok_is_integer {f : Addr} {fd : FuncData} (F : Fun K "is_integer" "is_integer" s_is_integer f fd) (T : TxtF K mg fII fIW) : FnOk P w K mg base CX0 1 f fd ["thing"] (spInt K) := by
  refine F.ok sc_is_integer (fun vs H Q E h => ?_) (fun cdv A outer s H vs Q E hr h => ?_)
  · obtain ⟨v, t, rfl, _⟩ := h
    rfl
  · obtain ⟨v, t, rfl, b, k⟩ := h
    refine ⟨_, (pss_one (ps_ret (pe_and (pe_callB call_isi (by rfl) T.b_isinstance (by decide +kernel) (pa_cons (pv 0) (pa_cons (pe_bltn (v := .ty "int") rfl T.b_int (by decide +kernel) rfl) pa_nil))) (pe_one (pe_not (pe_callB call_isi (by rfl) T.b_isinstance (by decide +kernel) (pa_cons (pv 0) (pa_cons (pe_bltn (v := .ty "bool") rfl T.b_bool (by decide +kernel) rfl) pa_nil)))))))), ?_⟩
    refine ⟨_, rfl, v, _, _, _, _, rfl, .ty _, b.ty, b.kit (u := "int") (by decide), _, rfl, ?_⟩
    refine ite2 (fun h1 => ?_) (fun h1 => ?_)
    · refine ⟨_, rfl, v, _, _, _, _, rfl, .ty _, b.ty, b.kit (u := "bool") (by decide), _, rfl, ?_⟩
      have e : (!kb t "bool") = (t == "int") := by
        have := b.m
        revert h1
        simp only [bts, List.mem_cons, List.not_mem_nil, or_false] at this
        rcases this with rfl | rfl | rfl | rfl | rfl | rfl | rfl | rfl | rfl | rfl <;> decide
      rw [e]
      exact k
    · have e : (t == "int") = false := by
        have := b.m
        revert h1
        simp only [bts, List.mem_cons, List.not_mem_nil, or_false] at this
        rcases this with rfl | rfl | rfl | rfl | rfl | rfl | rfl | rfl | rfl | rfl <;> decide
      rw [e] at k
      exact k
theorem sc_is_within : FnScope ["thing", "low", "high"] ["thing", "low", "high"] (defScope s_is_within) := ⟨rfl, rfl, rfl, by decide +kernel, rfl, by decide +kernel, by decide +kernel⟩
theorem ok_is_within {f : Addr} {fd : FuncData} (F : Fun K "is_within" "is_within" s_is_within f fd) (T : TxtF K mg fII fIW) (FI : Fun K "is_integer" "is_integer" s_is_integer fII fdII) (bI : Binds K fdII ["thing"] []) : FnOk P w K mg base CX0 2 f fd ["thing", "low", "high"] (spWithin K) := by
  have GI : FnOk P w K mg base CX0 1 fII fdII ["thing"] (spInt K) := ok_is_integer FI T
  refine F.ok sc_is_within (fun vs H Q E h => ?_) (fun cdv A outer s H vs Q E hr h => ?_)
  · obtain ⟨v, t, lo, hi, rfl, _⟩ := h
    rfl
  · obtain ⟨v, t, lo, hi, rfl, b, k⟩ := h
    refine ⟨_, (pss_one (ps_ret (pe_and (pe_call GI hr (by rfl) T.g_is_integer T.k_is_integer bI .nil pass0 (pa_cons (pv 0) pa_nil)) (pe_one (pe_chain op_le op_le (pv 1) (pv 0) (pv 2)))))), ?_⟩
    refine ⟨_, rfl, v, t, rfl, b, _, rfl, ?_⟩
    refine ite2 (fun h1 => ?_) (fun h1 => ?_)
    · obtain ⟨i, rfl⟩ := b.int h1
      refine ⟨_, rfl, _, rfl, _, _, rfl, rfl, _, rfl, ?_⟩
      refine ite2 (fun h2 => ?_) (fun h2 => ?_)
      · refine ⟨_, rfl, _, _, rfl, rfl, ?_⟩
        have e : inW (.int i) lo hi = decide (i ≤ hi) := by
          show (decide (lo ≤ i) && decide (i ≤ hi)) = _
          rw [h2, Bool.true_and]
        show Q (.bl (decide (i ≤ hi))) H
        rw [← e]
        exact k
      · have e : inW (.int i) lo hi = false := by
          show (decide (lo ≤ i) && decide (i ≤ hi)) = _
          rw [Bool.eq_false_iff.mpr h2, Bool.false_and]
        rw [e] at k
        exact k
    · rw [inW_of b (Bool.eq_false_iff.mpr h1)] at k
      exact k
theorem sc_is_index : FnScope ["thing", "many"] ["thing", "many"] (defScope s_is_index) := ⟨rfl, rfl, rfl, by decide +kernel, rfl, by decide +kernel, by decide +kernel⟩
theorem ok_is_index {f : Addr} {fd : FuncData} (F : Fun K "is_index" "is_index" s_is_index f fd) (T : TxtF K mg fII fIW) (FI : Fun K "is_integer" "is_integer" s_is_integer fII fdII) (bI : Binds K fdII ["thing"] [])
    (FW : Fun K "is_within" "is_within" s_is_within fIW fdIW) (bW : Binds K fdIW ["thing", "low", "high"] []) : FnOk P w K mg base CX0 3 f fd ["thing", "many"] (spIndex K) := by
  have GW : FnOk P w K mg base CX0 2 fIW fdIW ["thing", "low", "high"] (spWithin K) := ok_is_within FW T FI bI
  refine F.ok sc_is_index (fun vs H Q E h => ?_) (fun cdv A outer s H vs Q E hr h => ?_)
  · obtain ⟨v, t, m, rfl, _⟩ := h
    rfl
  · obtain ⟨v, t, m, rfl, b, k⟩ := h
    refine ⟨_, (pss_one (ps_ret (pe_call GW hr (by rfl) T.g_is_within T.k_is_within bW .nil pass0 (pa_cons (pv 0) (pa_cons pe_int (pa_cons (pe_op op_sub (pv 1) pe_int) pa_nil)))))), ?_⟩
    exact ⟨_, rfl, _, rfl, _, _, rfl, rfl, v, t, 0, m - 1, rfl, b, k⟩
theorem sc_is_row : FnScope ["thing"] ["thing"] (defScope s_is_row) := ⟨rfl, rfl, rfl, by decide +kernel, rfl, by decide +kernel, by decide +kernel⟩
theorem ok_is_row {f : Addr} {fd : FuncData} (F : Fun K "is_row" "is_row" s_is_row f fd) (T : TxtF K mg fII fIW) : FnOk P w K mg base CX0 1 f fd ["thing"] (spIsRow K) := by
  refine F.ok sc_is_row (fun vs H Q E h => ?_) (fun cdv A outer s H vs Q E hr h => ?_)
  · obtain ⟨v, t, rfl, _⟩ := h
    rfl
  · obtain ⟨v, t, rfl, b, k⟩ := h
    refine ⟨_, (pss_one (ps_ret (pe_callB call_isiT (by rfl) T.b_isinstance (by decide +kernel) (pa_cons (pv 0) (pa_cons (pe_tupG (pa_cons (pe_bltn (v := .ty "list") rfl T.b_list (by decide +kernel) rfl) (pa_cons (pe_bltn (v := .ty "tuple") rfl T.b_tuple (by decide +kernel) rfl) pa_nil))) pa_nil))))), ?_⟩
    refine ⟨_, rfl, by show 2 ≤ sizeLine; decide, fun p H1 n1 s1 e1 => ?_⟩
    have b1 := b.same s1
    have kk : PySem.W.kitAny K (.type t) [.type "list", .type "tuple"] = some (t == "list" || t == "tuple") := by
      have h1 : kb t "list" = (t == "list") := by simp [kb]
      have h2 : kb t "tuple" = (t == "tuple") := by simp [kb]
      refine kitAny_cons (b1.kit (u := "list") (by decide)) (fun z => ?_) (fun z => ?_)
      · rw [h1] at z
        refine kitAny_cons (b1.kit (u := "tuple") (by decide)) (fun y => ?_) (fun y => ?_)
        · rw [h2] at y
          rw [z, y]
          exact kitAny_nil
        · rw [h2] at y
          rw [y, Bool.or_true]
      · rw [h1] at z
        rw [z, Bool.true_or]
    exact ⟨v, p, _, _, _, _, rfl, e1, .cons (.ty _) (.cons (.ty _) .nil), b1.ty, kk, k _ s1⟩
end
end Mine

set_option maxRecDepth 100000
set_option maxHeartbeats 4000000
namespace Mine
open PySem L2
abbrev s_are_counts : Stmt := top 21
abbrev s_are_operations : Stmt := top 22
abbrev s_word_of : Stmt := top 24
abbrev s_are_nexts : Stmt := top 25
abbrev s_line_of : Stmt := top 55
abbrev s_is_line : Stmt := top 54
structure TxtG (K : PySem.W.Frag) (mg : Str → Option Value) (a_is_row a_is_index a_is_name a_is_text_in a_are_counts a_word_of a_are_nexts a_is_line a_line_of a_are_operations : Addr) : Prop where
  c_MOST_OPERATIONS : ∃ t, mg "MOST_OPERATIONS" = some (.int 8 t)
  c_MOST_ANSWERS : ∃ t, mg "MOST_ANSWERS" = some (.int 6 t)
  g_is_row : mg "is_row" = some (.ref a_is_row)
  k_is_row : PySem.W.keepIn K (.ref a_is_row) = true
  g_is_index : mg "is_index" = some (.ref a_is_index)
  k_is_index : PySem.W.keepIn K (.ref a_is_index) = true
  g_is_name : mg "is_name" = some (.ref a_is_name)
  k_is_name : PySem.W.keepIn K (.ref a_is_name) = true
  g_is_text_in : mg "is_text_in" = some (.ref a_is_text_in)
  k_is_text_in : PySem.W.keepIn K (.ref a_is_text_in) = true
  g_are_counts : mg "are_counts" = some (.ref a_are_counts)
  k_are_counts : PySem.W.keepIn K (.ref a_are_counts) = true
  g_word_of : mg "word_of" = some (.ref a_word_of)
  k_word_of : PySem.W.keepIn K (.ref a_word_of) = true
  g_are_nexts : mg "are_nexts" = some (.ref a_are_nexts)
  k_are_nexts : PySem.W.keepIn K (.ref a_are_nexts) = true
  g_is_line : mg "is_line" = some (.ref a_is_line)
  k_is_line : PySem.W.keepIn K (.ref a_is_line) = true
  g_line_of : mg "line_of" = some (.ref a_line_of)
  k_line_of : PySem.W.keepIn K (.ref a_line_of) = true
  g_are_operations : mg "are_operations" = some (.ref a_are_operations)
  k_are_operations : PySem.W.keepIn K (.ref a_are_operations) = true
theorem globI {X : Cx} {x : Str} {i : Int} {pos : Pos} (hg : Gl X x) (h : ∃ t, X.mg x = some (.int i t)) (hd : (x == ("__debug__" : Str)) = false := by decide) : PE X (.Name x pos) (tC (.int i)) := by
  obtain ⟨t, e⟩ := h
  exact pe_glob hg e ⟨t, rfl⟩ hd
theorem globS {X : Cx} {x y : Str} {pos : Pos} (hg : Gl X x) (h : ∃ t, X.mg x = some (.str y t)) (hd : (x == ("__debug__" : Str)) = false := by decide) : PE X (.Name x pos) (tC (.str y)) := by
  obtain ⟨t, e⟩ := h
  exact pe_glob hg e ⟨t, rfl⟩ hd
/-- the letters of a text are looked at one by one -/
def lets (x : Str) (i : Nat) : List Bool := (x.cps.toList.take i).map fun c => decide (c ∈ lettersS.cps.toList)
theorem lets_succ {x : Str} {i c : Nat} (h : x.cps[i]? = some c) : lets x (i + 1) = lets x i ++ [decide (c ∈ lettersS.cps.toList)] := by
  have h' : x.cps.toList[i]? = some c := by rw [← h]; simp
  unfold lets
  rw [List.take_add_one, h', List.map_append]
  rfl
theorem lets_all (x : Str) : (lets x x.cps.size).all id = x.cps.toList.all fun c => decide (c ∈ lettersS.cps.toList) := by
  unfold lets
  rw [show x.cps.size = x.cps.toList.length by simp, List.take_length, List.all_map]
  rfl
section
variable {P : Program} {w : World} {K : PySem.W.Frag} {mg : Str → Option Value} {base : Heap}
variable {fII fIW : Addr}
theorem sc_is_name : FnScope ["thing", "letter"] ["thing"] (defScope s_is_name) := ⟨rfl, rfl, rfl, by decide +kernel, rfl, by decide +kernel, by decide +kernel⟩
theorem ok_is_name {f : Addr} {fd : FuncData} (F : Fun K "is_name" "is_name" s_is_name f fd) (T : TxtF K mg fII fIW) : FnOk P w K mg base CX0 1 f fd ["thing"] (spName K) := by
  refine F.ok sc_is_name (fun vs H Q E h => ?_) (fun cdv A outer s H vs Q E hr h => ?_)
  · obtain ⟨v, t, rfl, _⟩ := h
    rfl
  · obtain ⟨v, t, rfl, b, sz, k⟩ := h
    refine ⟨_, (pss_cons (ps_if (PW.pt (pw_or (pt_not (pt_val (pe_callB call_isi (by rfl) T.b_isinstance (by decide +kernel) (pa_cons (pv 0) (pa_cons (pe_bltn (v := .ty "str") rfl T.b_str (by decide +kernel) rfl) pa_nil))))) (pw_or1 (pt_not (pt_chain op_le op_le pe_int (pe_callB call_len_str (by rfl) T.b_len PySem.boot_len (pa_cons (pv 0) pa_nil)) (globI rfl T.c_LONGEST_NAME)))))) (pss_one (ps_ret pe_bl)) pss_nil)
      (pss_one (ps_ret (pe_callB (cr_all rfl) (by rfl) T.b_all (by decide +kernel) (pa_cons (pe_lc (own := [("letter", 1)]) (g := gName 1) (tt := tYes) rfl sc_is_name.nd (pi_str (pv 0)) (blkOk_by (own := [("letter", 1)]) (N := ["thing", "letter"]) (sc := defScope s_is_name) (by decide +kernel)) (fun _ _ _ _ _ => pg_name (i := 1) sc_is_name.nd rfl (Or.inl rfl)) (fun _ _ _ _ _ => pts_nil) (fun _ _ _ _ _ => (pe_cmpR op_in_sign (pv 1) (globS rfl T.c_LETTERS) (by rfl)))) pa_nil))))), ?_⟩
    have hk : ∀ t', (kb t' "str") = (t' == "str") := fun t' => by simp [kb]
    refine ⟨_, rfl, v, _, _, _, _, rfl, .ty _, b.ty, b.kit (u := "str") (by decide), _, rfl, ?_⟩
    rw [hk]
    by_cases h1 : (t == "str") = true
    · obtain ⟨x, rfl⟩ := b.str h1
      rw [h1]
      refine iteF ?_
      refine ⟨_, rfl, ?_⟩
      refine ⟨x, rfl, sz x rfl, _, _, rfl, rfl, _, rfl, ?_⟩
      have bad : ¬ (1 ≤ x.length ∧ x.length ≤ 8) → isNm x = false := fun z => by
        unfold isNm
        by_cases y : 1 ≤ x.length
        · rw [decide_eq_true y, decide_eq_false (fun u => z ⟨y, u⟩)]
          rfl
        · rw [decide_eq_false y]
          rfl
      by_cases h2 : 1 ≤ x.length
      · rw [decide_eq_true (show (1 : Int) ≤ (x.length : Int) by omega)]
        refine iteT ?_
        refine ⟨_, _, rfl, rfl, _, rfl, ?_⟩
        by_cases h3 : x.length ≤ 8
        · rw [decide_eq_true (show (x.length : Int) ≤ 8 by omega)]
          refine iteF ?_
          refine ⟨_, rfl, x, rfl, fun D nD => lc_it walk_str (fun i Hx => Same H Hx ∧ Hx D = some (.lst ((lets x i).map V.bl))) ⟨sameNew nD _, upd_same⟩ (fun _ _ _ _ => trivial) (fun i y Ha Hb hi z1 z2 => ?_) fun Hx z => ?_⟩
          · obtain ⟨sx, ex⟩ := z1
            obtain ⟨rfl, c, hc, rfl⟩ := z2
            refine ⟨rfl, _, rfl, c, lettersS, rfl, rfl, _, ex, ?_, fun b o e => ?_, ?_⟩
            · rw [List.length_map]
              show ((x.cps.toList.take i).map _).length < _
              rw [List.length_map, List.length_take, sizeLine_eq]
              have : x.cps.toList.length ≤ 8 := by
                have : x.length = x.cps.toList.length := by simp [Str.length]
                omega
              omega
            · rw [upd_ne (ne_of_none e nD)]
              exact sx _ _ e
            · rw [lets_succ hc, List.map_append]
              exact upd_same
          · obtain ⟨sx, ex⟩ := z
            refine ⟨D, _, rfl, SqL.of ex, ?_⟩
            rw [lets_all]
            have e : nameV (.str x) = x.cps.toList.all fun c => decide (c ∈ lettersS.cps.toList) := by
              show isNm x = _
              unfold isNm
              rw [decide_eq_true h2, decide_eq_true h3, Bool.true_and, Bool.true_and]
            rw [← e]
            exact k _ sx
        · rw [decide_eq_false (show ¬ (x.length : Int) ≤ 8 by omega)]
          refine iteT ?_
          have e : nameV (.str x) = false := bad fun z => h3 z.2
          rw [e] at k
          exact k _ (Same.refl _)
      · rw [decide_eq_false (show ¬ (1 : Int) ≤ (x.length : Int) by omega)]
        refine iteF ?_
        refine ⟨_, rfl, ?_⟩
        refine iteT ?_
        have e : nameV (.str x) = false := bad fun z => h2 z.1
        rw [e] at k
        exact k _ (Same.refl _)
    · rw [Bool.eq_false_iff.mpr h1]
      refine iteT ?_
      have e := nameV_of b (Bool.eq_false_iff.mpr h1)
      rw [e] at k
      exact k _ (Same.refl _)
end
end Mine

set_option maxRecDepth 100000
set_option maxHeartbeats 4000000
namespace L2
open PySem PySem.Spec PyProof.Rows
/-- a list or a tuple -/
def SqA (H : Hp) (a : Addr) (xs : List V) : Prop := H a = some (.lst xs) ∨ H a = some (.tup xs)
theorem Same.sqa {H H' : Hp} {a : Addr} {xs : List V} (s : Same H H') (h : SqA H a xs) : SqA H' a xs := h.elim (fun h => .inl (s _ _ h)) fun h => .inr (s _ _ h)
theorem SqA.ix {K : PySem.W.Frag} {H : Hp} {a : Addr} {xs : List V} {i : Int} {v : V} {Q : VK} (h : SqA H a xs) (e : atI xs i = some v) (q : Q v H) : rIx K (.ref a) (.int i) H Q := by
  rcases h with h | h
  · exact .inl ⟨a, xs, i, v, rfl, rfl, SqL.of h, e, q⟩
  · exact .inr (.inl ⟨a, xs, i, v, rfl, rfl, .inl (.inl h), e, q⟩)
theorem SqA.sq {K : PySem.W.Frag} {H : Hp} {a : Addr} {xs : List V} (h : SqA H a xs) : SqL K H a xs ∨ SqT K H a xs := h.elim (fun h => .inl (SqL.of h)) fun h => .inr (.inl (.inl h))
theorem pi_or {X : Cx} {tg iter : Expr} {w1 w2 : TI} (h1 : PI X tg iter w1) (h2 : PI X tg iter w2) : PI X tg iter (fun σ H R => w1 σ H R ∨ w2 σ H R) :=
  ⟨fun pins s σ H R I h => h.elim (h1.run pins s σ H R I) (h2.run pins s σ H R I)⟩
def iSeq (K : PySem.W.Frag) (tl : TE) : TI := fun σ H R => iList K tl σ H R ∨ iTup K tl σ H R
theorem pi_seq {X : Cx} {tg l : Expr} {tl : TE} (hl : PE X l tl) : PI X tg l (iSeq X.K tl) := pi_or (pi_list hl) (pi_tup hl)
theorem same_unlock {H Hx : Hp} {a : Addr} {u : HO} {od : Obj} (e : H a = some u) (s : Same (upd H a (.frz od u)) Hx) : Same H (upd Hx a u) := fun b o h => by
  by_cases z : b = a
  · subst z
    rw [e] at h
    rw [upd_same, h]
  · rw [upd_ne z]
    exact s b o (by rw [upd_ne z]; exact h)
end L2
namespace Mine
open PySem L2
abbrev Ops := List (Str × Int)
def opsK (o : Ops) : List (Key × V) := o.map fun p => (Sum.inr p.1, V.int p.2)
def opLook (o : Ops) (x : Str) : Option Int := (o.find? fun p => decide (p.1 = x)).map (·.2)
theorem val_ops (o : Ops) (x : Str) : valV (opsK o) (.inr x) = (opLook o x).map V.int := by
  unfold valV opsK opLook
  induction o with
  | nil => rfl
  | cons p o ih =>
    by_cases h : p.1 = x
    · simp [h]
    · have h2 : ¬ (Sum.inr p.1 : Key) = Sum.inr x := fun z => h (Sum.inr.inj z)
      simp only [List.map_cons, List.find?_cons, decide_eq_false h, decide_eq_false h2]
      exact ih
/-- operations that are right -/
structure OkOps (o : Ops) : Prop where
  few : o.length ≤ 8
  each : ∀ p ∈ o, isNm p.1 = true ∧ 0 ≤ p.2 ∧ p.2 ≤ 6
  nd : (o.map (·.1)).Nodup
def spCounts : Sp := fun vs H Q _ => ∃ (a : Addr) (o : Ops) (most lo hi : Int), vs = [.ref a, .int most, .int lo, .int hi] ∧ H a = some (.dK (opsK o)) ∧ (o.length : Int) ≤ most ∧ o.length ≤ 1000 ∧ (∀ p ∈ o, isNm p.1 = true ∧ lo ≤ p.2 ∧ p.2 ≤ hi) ∧ ∀ H', Same H H' → Q (.bl true) H'
def spOps : Sp := fun vs H Q _ => ∃ (a : Addr) (o : Ops), vs = [.ref a] ∧ H a = some (.dK (opsK o)) ∧ OkOps o ∧ ∀ H', Same H H' → Q (.bl true) H'
/-- what a row of a body says -/
inductive RowD where
  | ask (op : Str) (ns : List Int)
  | go (n : Int)
  | fin (w : Str)
/-- the row stands there, in lists or tuples -/
def RowAt (H : Hp) (v : V) : RowD → Prop
  | .ask op ns => ∃ a t, v = .ref a ∧ SqA H a [.str "ask", .str op, .ref t] ∧ SqA H t (ns.map V.int)
  | .go n => ∃ a, v = .ref a ∧ SqA H a [.str "go", .int n]
  | .fin w => ∃ a, v = .ref a ∧ SqA H a [.str "end", .str w]
/-- .. in tuples -/
def TRow (H : Hp) (v : V) : RowD → Prop
  | .ask op ns => ∃ a t, v = .ref a ∧ H a = some (.tup [.str "ask", .str op, .ref t]) ∧ H t = some (.tup (ns.map V.int))
  | .go n => ∃ a, v = .ref a ∧ H a = some (.tup [.str "go", .int n])
  | .fin w => ∃ a, v = .ref a ∧ H a = some (.tup [.str "end", .str w])
theorem RowAt.same {H H' : Hp} {v : V} {r : RowD} (s : Same H H') (h : RowAt H v r) : RowAt H' v r := by
  cases r with
  | ask op ns =>
    obtain ⟨a, t, e, h1, h2⟩ := h
    exact ⟨a, t, e, s.sqa h1, s.sqa h2⟩
  | go n =>
    obtain ⟨a, e, h1⟩ := h
    exact ⟨a, e, s.sqa h1⟩
  | fin w =>
    obtain ⟨a, e, h1⟩ := h
    exact ⟨a, e, s.sqa h1⟩
theorem TRow.same {H H' : Hp} {v : V} {r : RowD} (s : Same H H') (h : TRow H v r) : TRow H' v r := by
  cases r with
  | ask op ns =>
    obtain ⟨a, t, e, h1, h2⟩ := h
    exact ⟨a, t, e, s _ _ h1, s _ _ h2⟩
  | go n =>
    obtain ⟨a, e, h1⟩ := h
    exact ⟨a, e, s _ _ h1⟩
  | fin w =>
    obtain ⟨a, e, h1⟩ := h
    exact ⟨a, e, s _ _ h1⟩
theorem TRow.row {H : Hp} {v : V} {r : RowD} (h : TRow H v r) : RowAt H v r := by
  cases r with
  | ask op ns =>
    obtain ⟨a, t, e, h1, h2⟩ := h
    exact ⟨a, t, e, .inr h1, .inr h2⟩
  | go n =>
    obtain ⟨a, e, h1⟩ := h
    exact ⟨a, e, .inr h1⟩
  | fin w =>
    obtain ⟨a, e, h1⟩ := h
    exact ⟨a, e, .inr h1⟩
/-- the row is one of a body with these operations and so many rows -/
def OkRow (o : Ops) (many : Int) : RowD → Prop
  | .ask op ns => opLook o op = some (ns.length : Int) ∧ ns.length ≤ 1000 ∧ ∀ n ∈ ns, 0 ≤ n ∧ n < many
  | .go n => 0 ≤ n ∧ n < many
  | .fin w => isNm w = true ∧ w.length ≤ 8
def spWord : Sp := fun vs H Q _ => ∃ (a : Addr) (x : Str) (xs : List V), vs = [.ref a] ∧ SqA H a (.str x :: xs) ∧ ∀ H', Same H H' → Q (.str x) H'
def spNexts : Sp := fun vs H Q _ => ∃ (t d : Addr) (ns : List Int) (op : Str) (o : Ops) (many : Int), vs = [.ref t, .str op, .ref d, .int many] ∧ SqA H t (ns.map V.int) ∧ Rd H d (.dK (opsK o)) ∧
  opLook o op = some (ns.length : Int) ∧ ns.length ≤ 1000 ∧ (∀ n ∈ ns, 0 ≤ n ∧ n < many) ∧ ∀ H', Same H H' → Q (.bl true) H'
def spIsLine : Sp := fun vs H Q _ => ∃ (v : V) (d : Addr) (o : Ops) (many : Int) (r : RowD), vs = [v, .ref d, .int many] ∧ RowAt H v r ∧ Rd H d (.dK (opsK o)) ∧ OkRow o many r ∧ ∀ H', Same H H' → Q (.bl true) H'
def spLineOf : Sp := fun vs H Q _ => ∃ (v : V) (r : RowD), vs = [v] ∧ RowAt H v r ∧ ∀ (v' : V) (H' : Hp), Same H H' → TRow H' v' r → Q v' H'
theorem inW_int {i lo hi : Int} (h1 : lo ≤ i) (h2 : i ≤ hi) : inW (.int i) lo hi = true := by
  show (decide (lo ≤ i) && decide (i ≤ hi)) = true
  rw [decide_eq_true h1, decide_eq_true h2]
  rfl
theorem btInt {K : PySem.W.Frag} {H : Hp} (i : Int) : Bt K H (.int i) "int" := ⟨.base (.int i), by decide⟩
theorem btStr {K : PySem.W.Frag} {H : Hp} (x : Str) : Bt K H (.str x) "str" := ⟨.base (.str x), by decide⟩
theorem btSeq {K : PySem.W.Frag} {H : Hp} {a : Addr} {xs : List V} (h : SqA H a xs) : ∃ t, Bt K H (.ref a) t ∧ (t == "list" || t == "tuple") = true := by
  rcases h with h | h
  · exact ⟨"list", ⟨.base (.lst h), by decide⟩, by decide⟩
  · exact ⟨"tuple", ⟨.base (.tup h), by decide⟩, by decide⟩
theorem nm_len {x : Str} (h : isNm x = true) : x.length ≤ 8 := by
  unfold isNm at h
  rw [Bool.and_eq_true, Bool.and_eq_true] at h
  exact of_decide_eq_true h.1.2
theorem trues_all (n : Nat) : (List.replicate n true).all id = true := by simp
theorem trues_map (n : Nat) : (List.replicate n true).map V.bl = List.replicate n (V.bl true) := by simp
section
variable {P : Program} {w : World} {K : PySem.W.Frag} {mg : Str → Option Value} {base : Heap}
variable {fII fIW a_is_row a_is_index a_is_name a_is_text_in a_are_counts a_word_of a_are_nexts a_is_line a_line_of a_are_operations : Addr}
theorem sc_is_text_in : FnScope ["thing", "table"] ["thing", "table"] (defScope s_is_text_in) := ⟨rfl, rfl, rfl, by decide +kernel, rfl, by decide +kernel, by decide +kernel⟩
theorem ok_is_text_in {f : Addr} {fd : FuncData} (F : Fun K "is_text_in" "is_text_in" s_is_text_in f fd) (T : TxtF K mg fII fIW) : FnOk P w K mg base CX0 1 f fd ["thing", "table"] (spTextIn K) := by
  refine F.ok sc_is_text_in (fun vs H Q E h => ?_) (fun cdv A outer s H vs Q E hr h => ?_)
  · obtain ⟨v, t, d, kvs, rfl, _⟩ := h
    rfl
  · obtain ⟨v, t, d, kvs, rfl, b, hd, k⟩ := h
    refine ⟨_, (pss_one (ps_ret (pe_and (pe_callB call_isi (by rfl) T.b_isinstance (by decide +kernel) (pa_cons (pv 0) (pa_cons (pe_bltn (v := .ty "str") rfl T.b_str (by decide +kernel) rfl) pa_nil))) (pe_one (pe_cmp (pc_din (hu_of hr) (pv 0) (pv 1)) rfl))))), ?_⟩
    have hk : (kb t "str") = (t == "str") := by simp [kb]
    refine ⟨_, rfl, v, _, _, _, _, rfl, .ty _, b.ty, b.kit (u := "str") (by decide), _, rfl, ?_⟩
    rw [hk]
    by_cases h1 : (t == "str") = true
    · obtain ⟨x, rfl⟩ := b.str h1
      rw [h1]
      refine iteT ?_
      exact ⟨_, rfl, _, rfl, d, _, rfl, .inl ⟨kvs, .inr x, hd, rfl, rfl⟩, k⟩
    · rw [Bool.eq_false_iff.mpr h1]
      refine iteF ?_
      have e : hasT kvs v = false := by
        cases b.ty with
        | base z => cases z <;> first | rfl | (exact absurd (by decide) h1)
        | _ => rfl
      rw [e] at k
      exact k
theorem sc_are_counts : FnScope ["thing", "most", "low", "high", "name", "many"] ["thing", "most", "low", "high"] (defScope s_are_counts) := ⟨rfl, rfl, rfl, by decide +kernel, rfl, by decide +kernel, by decide +kernel⟩
theorem ok_are_counts {f : Addr} {fd fd_is_name fd_is_integer fd_is_within : FuncData} (F : Fun K "are_counts" "are_counts" s_are_counts f fd) (T : TxtF K mg fII fIW) (TG : TxtG K mg a_is_row a_is_index a_is_name a_is_text_in a_are_counts a_word_of a_are_nexts a_is_line a_line_of a_are_operations)
    (F_is_name : Fun K "is_name" "is_name" s_is_name a_is_name fd_is_name) (b_is_name : Binds K fd_is_name ["thing"] []) (FI : Fun K "is_integer" "is_integer" s_is_integer fII fd_is_integer) (bI : Binds K fd_is_integer ["thing"] [])
    (FW : Fun K "is_within" "is_within" s_is_within fIW fd_is_within) (b_is_within : Binds K fd_is_within ["thing", "low", "high"] []) : FnOk P w K mg base CX0 3 f fd ["thing", "most", "low", "high"] spCounts := by
  have GN : FnOk P w K mg base CX0 1 a_is_name fd_is_name ["thing"] (spName K) := ok_is_name F_is_name T
  have GW : FnOk P w K mg base CX0 2 fIW fd_is_within ["thing", "low", "high"] (spWithin K) := ok_is_within FW T FI bI
  refine F.ok sc_are_counts (fun vs H Q E h => ?_) (fun cdv A outer s H vs Q E hr h => ?_)
  · obtain ⟨a, o, most, lo, hi, rfl, _⟩ := h
    rfl
  · obtain ⟨a, o, most, lo, hi, rfl, ha, l1, l2, all, k⟩ := h
    refine ⟨_, (pss_cons (ps_if (PW.pt (pw_or (pt_not (pt_val (pe_callB call_isi (by rfl) T.b_isinstance (by decide +kernel) (pa_cons (pv 0) (pa_cons (pe_bltn (v := .ty "dict") rfl T.b_dict (by decide +kernel) rfl) pa_nil))))) (pw_or1 (pt_cmpR op_gt (pe_callB call_lenD (by rfl) T.b_len PySem.boot_len (pa_cons (pv 0) pa_nil)) (pv 1) (nomark _))))) (pss_one (ps_ret pe_bl)) pss_nil)
      (pss_one (ps_ret (pe_callB (cr_all rfl) (by rfl) T.b_all (by decide +kernel) (pa_cons (pe_lock (pe_lc (own := [("name", 4), ("many", 5)]) (g := gTup K 2 (gCons (gName 4) (gCons (gName 5) gNil))) (tt := tYes) rfl sc_are_counts.nd (pi_items (pv 0)) (blkOk_by (own := [("name", 4), ("many", 5)]) (N := ["thing", "most", "low", "high", "name", "many"]) (sc := defScope s_are_counts) (by decide +kernel)) (fun _ _ _ _ _ => pg_tup rfl (pgs_cons (pg_name (i := 4) sc_are_counts.nd rfl (Or.inl rfl)) (pgs_cons (pg_name (i := 5) sc_are_counts.nd rfl (Or.inl rfl)) pgs_nil))) (fun _ _ _ _ _ => pts_nil) (fun _ _ _ _ _ => (pe_and (pe_call GN (hr.mono (by decide)) (by rfl) TG.g_is_name TG.k_is_name b_is_name .nil pass0 (pa_cons (pv 4) pa_nil)) (pe_one (pe_call GW hr (by rfl) T.g_is_within T.k_is_within b_is_within .nil pass0 (pa_cons (pv 5) (pa_cons (pv 2) (pa_cons (pv 3) pa_nil))))))))) pa_nil))))), ?_⟩
    have bD : Bt K H (.ref a) "dict" := ⟨.base (.dK ha), by decide⟩
    refine ⟨_, rfl, _, _, _, _, _, rfl, .ty _, bD.ty, bD.kit (u := "dict") (by decide), _, rfl, ?_⟩
    refine iteF ?_
    refine ⟨_, rfl, a, _, rfl, ha, _, rfl, _, _, rfl, rfl, _, rfl, ?_⟩
    have lk : (opsK o).length = o.length := List.length_map ..
    rw [lk, decide_eq_false (show ¬ most < (o.length : Int) by omega)]
    refine iteF ?_
    refine ⟨a, _, ha, trivial, fun od => ⟨_, rfl, a, od, opsK o, rfl, upd_same, fun D nD => lc_it walk_items (fun i Hx => Same (upd H a (.frz od (.dK (opsK o)))) Hx ∧ Hx D = some (.lst (List.replicate i (V.bl true)))) ⟨sameNew nD _, upd_same⟩ (fun i Hx _ z => z.1 _ _ upd_same) (fun i y Ha Hb hi' z1 z2 => ?_) fun Hx z => ?_⟩⟩
    · obtain ⟨sx, ex⟩ := z1
      obtain ⟨T', x, y, rfl, nT, rfl, h1, h2⟩ := z2
      have hi2 : i < o.length := by rw [← lk]; exact hi'
      have e1 : (opsK o)[i]? = some (Sum.inr (o[i]).1, V.int (o[i]).2) := by
        unfold opsK
        rw [List.getElem?_map, List.getElem?_eq_getElem hi2]
        rfl
      dsimp only at h1 h2
      rw [e1] at h1 h2
      have h1' : V.str (o[i]).1 = x := Option.some.inj h1
      have h2' : V.int (o[i]).2 = y := Option.some.inj h2
      subst h1' h2'
      obtain ⟨g1, g2, g3⟩ := all _ (List.getElem_mem hi2)
      refine ⟨T', _, rfl, .inl (.inl upd_same), rfl, _, _, rfl, _, _, rfl, rfl, rfl, ?_⟩
      refine ⟨_, rfl, _, _, rfl, btStr _, fun x' e' => ?_, fun Hy sy => ⟨_, rfl, ?_⟩⟩
      · have e2 : (o[i]).1 = x' := V.str.inj e'
        rw [← e2]
        have := nm_len g1
        rw [sizeLine_eq]
        omega
      · rw [show nameV (.str (o[i]).1) = true from g1]
        refine iteT ?_
        refine ⟨_, rfl, _, rfl, _, rfl, _, _, _, _, rfl, btInt _, ?_⟩
        rw [inW_int g2 g3]
        have exy := sy _ _ (show upd Ha T' _ D = _ by rw [upd_ne (ne_of_none ex nT)]; exact ex)
        refine ⟨_, exy, ?_, fun b u e => ?_, ?_⟩
        · rw [List.length_replicate, sizeLine_eq]
          omega
        · have nb : b ≠ D := fun z => by
            rw [z] at e
            exact absurd (e.symm.trans nD) (by simp)
          rw [upd_ne nb]
          exact sy _ _ (by rw [upd_ne (ne_of_none (sx _ _ e) nT)]; exact sx _ _ e)
        · rw [List.replicate_succ']
          exact upd_same
    · obtain ⟨sx, ex⟩ := z
      have nDa : D ≠ a := fun z => by
        rw [z, upd_same] at nD
        cases nD
      refine ⟨sx _ _ upd_same, D, List.replicate (opsK o).length true, rfl, SqL.of (by rw [upd_ne nDa, trues_map]; exact ex), ?_⟩
      rw [trues_all]
      exact k _ (same_unlock ha sx)
end
end Mine

set_option maxRecDepth 100000
set_option maxHeartbeats 4000000
namespace Mine
open PySem L2
theorem at0' {α : Type} {a : α} {l : List α} : atI (a :: l) 0 = some a := atI_nat (j := 0) rfl
theorem at1' {α : Type} {a b : α} {l : List α} : atI (a :: b :: l) 1 = some b := atI_nat (j := 1) rfl
theorem at2' {α : Type} {a b c : α} {l : List α} : atI (a :: b :: c :: l) 2 = some c := atI_nat (j := 2) rfl
theorem nx_all {ns : List Int} {t : Addr} : (ns.map V.int).length = ns.length := List.length_map ..
section
variable {P : Program} {w : World} {K : PySem.W.Frag} {mg : Str → Option Value} {base : Heap}
variable {fII fIW a_is_row a_is_index a_is_name a_is_text_in a_are_counts a_word_of a_are_nexts a_is_line a_line_of a_are_operations : Addr}
theorem sc_are_operations : FnScope ["thing"] ["thing"] (defScope s_are_operations) := ⟨rfl, rfl, rfl, by decide +kernel, rfl, by decide +kernel, by decide +kernel⟩
theorem ok_are_operations {f : Addr} {fd fd_are_counts : FuncData} (F : Fun K "are_operations" "are_operations" s_are_operations f fd) (TG : TxtG K mg a_is_row a_is_index a_is_name a_is_text_in a_are_counts a_word_of a_are_nexts a_is_line a_line_of a_are_operations)
    (GC : FnOk P w K mg base CX0 3 a_are_counts fd_are_counts ["thing", "most", "low", "high"] spCounts) (b_are_counts : Binds K fd_are_counts ["thing", "most", "low", "high"] []) : FnOk P w K mg base CX0 4 f fd ["thing"] spOps := by
  refine F.ok sc_are_operations (fun vs H Q E h => ?_) (fun cdv A outer s H vs Q E hr h => ?_)
  · obtain ⟨a, o, rfl, _⟩ := h
    rfl
  · obtain ⟨a, o, rfl, ha, ok, k⟩ := h
    refine ⟨_, (pss_one (ps_ret (pe_call GC (hr.mono (by decide)) (by rfl) TG.g_are_counts TG.k_are_counts b_are_counts .nil pass0 (pa_cons (pv 0) (pa_cons (globI rfl TG.c_MOST_OPERATIONS) (pa_cons pe_int (pa_cons (globI rfl TG.c_MOST_ANSWERS) pa_nil))))))), ?_⟩
    have := ok.few
    exact ⟨_, rfl, a, o, 8, 0, 6, rfl, ha, by omega, by omega, ok.each, k⟩
theorem sc_word_of : FnScope ["row"] ["row"] (defScope s_word_of) := ⟨rfl, rfl, rfl, by decide +kernel, rfl, by decide +kernel, by decide +kernel⟩
theorem ok_word_of {f : Addr} {fd fd_is_row : FuncData} (F : Fun K "word_of" "word_of" s_word_of f fd) (T : TxtF K mg fII fIW) (TG : TxtG K mg a_is_row a_is_index a_is_name a_is_text_in a_are_counts a_word_of a_are_nexts a_is_line a_line_of a_are_operations)
    (GR : FnOk P w K mg base CX0 1 a_is_row fd_is_row ["thing"] (spIsRow K)) (b_is_row : Binds K fd_is_row ["thing"] []) : FnOk P w K mg base CX0 2 f fd ["row"] spWord := by
  refine F.ok sc_word_of (fun vs H Q E h => ?_) (fun cdv A outer s H vs Q E hr h => ?_)
  · obtain ⟨a, x, xs, rfl, _⟩ := h
    rfl
  · obtain ⟨a, x, xs, rfl, ha, k⟩ := h
    refine ⟨_, (pss_cons (ps_if (PW.pt (pw_and (pt_val (pe_call GR (hr.mono (by decide)) (by rfl) TG.g_is_row TG.k_is_row b_is_row .nil pass0 (pa_cons (pv 0) pa_nil))) (pw_and (pt_cmpR op_gt (pe_callB call_len_seq (by rfl) T.b_len PySem.boot_len (pa_cons (pv 0) pa_nil)) pe_int (nomark _)) (pw_and1 (pt_val (pe_callB call_isi (by rfl) T.b_isinstance (by decide +kernel) (pa_cons (pe_ix ix_seq (pv 0) pe_int (fun _ _ => rfl)) (pa_cons (pe_bltn (v := .ty "str") rfl T.b_str (by decide +kernel) rfl) pa_nil)))))))) (pss_one (ps_ret (pe_ix ix_seq (pv 0) pe_int (fun _ _ => rfl)))) pss_nil)
      (pss_one (ps_ret pe_str))), ?_⟩
    obtain ⟨t, b, e⟩ := btSeq (K := K) ha
    refine ⟨_, rfl, _, t, rfl, b, fun H1 s1 => ⟨_, rfl, ?_⟩⟩
    rw [e]
    refine iteT ?_
    have ha1 := s1.sqa ha
    refine ⟨_, rfl, a, _, rfl, ha1.sq, _, _, rfl, rfl, _, rfl, ?_⟩
    rw [decide_eq_true (show (0 : Int) < (((V.str x :: xs).length : Nat) : Int) by rw [List.length_cons]; omega)]
    refine iteT ?_
    refine ⟨_, rfl, ha1.ix at0' ?_⟩
    refine ⟨_, _, _, _, _, rfl, .ty _, (btStr (K := K) (H := H1) x).ty, (btStr (K := K) (H := H1) x).kit (u := "str") (by decide), _, rfl, ?_⟩
    refine iteT ?_
    exact ⟨_, rfl, ha1.ix at0' (k _ s1)⟩
theorem sc_are_nexts : FnScope ["nexts", "operation", "counts", "many", "index"] ["nexts", "operation", "counts", "many"] (defScope s_are_nexts) := ⟨rfl, rfl, rfl, by decide +kernel, rfl, by decide +kernel, by decide +kernel⟩
theorem ok_are_nexts {f : Addr} {fd fd_is_row fd_is_index : FuncData} (F : Fun K "are_nexts" "are_nexts" s_are_nexts f fd) (T : TxtF K mg fII fIW) (TG : TxtG K mg a_is_row a_is_index a_is_name a_is_text_in a_are_counts a_word_of a_are_nexts a_is_line a_line_of a_are_operations)
    (GR : FnOk P w K mg base CX0 1 a_is_row fd_is_row ["thing"] (spIsRow K)) (b_is_row : Binds K fd_is_row ["thing"] [])
    (GI : FnOk P w K mg base CX0 3 a_is_index fd_is_index ["thing", "many"] (spIndex K)) (b_is_index : Binds K fd_is_index ["thing", "many"] []) : FnOk P w K mg base CX0 4 f fd ["nexts", "operation", "counts", "many"] spNexts := by
  refine F.ok sc_are_nexts (fun vs H Q E h => ?_) (fun cdv A outer s H vs Q E hr h => ?_)
  · obtain ⟨t, d, ns, op, o, many, rfl, _⟩ := h
    rfl
  · obtain ⟨t, d, ns, op, o, many, rfl, ht, hd, hl, l2, all, k⟩ := h
    refine ⟨_, (pss_cons (ps_if (PW.pt (pw_or (pt_not (pt_val (pe_call GR (hr.mono (by decide)) (by rfl) TG.g_is_row TG.k_is_row b_is_row .nil pass0 (pa_cons (pv 0) pa_nil)))) (pw_or1 (pt_cmpR op_ne (pe_callB call_len_seq (by rfl) T.b_len PySem.boot_len (pa_cons (pv 0) pa_nil)) (pe_dget (hu_of hr) (pv 2) (pv 1) (fun _ _ => rfl)) (nomark _))))) (pss_one (ps_ret pe_bl)) pss_nil)
      (pss_one (ps_ret (pe_callB (cr_all rfl) (by rfl) T.b_all (by decide +kernel) (pa_cons (pe_lc (own := [("index", 4)]) (g := gName 4) (tt := tYes) (wi := iSeq K (tVar 0)) rfl sc_are_nexts.nd (pi_seq (pv 0)) (blkOk_by (own := [("index", 4)]) (N := ["nexts", "operation", "counts", "many", "index"]) (sc := defScope s_are_nexts) (by decide +kernel)) (fun _ _ _ _ _ => pg_name (i := 4) sc_are_nexts.nd rfl (Or.inl rfl)) (fun _ _ _ _ _ => pts_nil) (fun _ _ _ _ _ => (pe_call GI (hr.mono (by decide)) (by rfl) TG.g_is_index TG.k_is_index b_is_index .nil pass0 (pa_cons (pv 4) (pa_cons (pv 3) pa_nil))))) pa_nil))))), ?_⟩
    obtain ⟨ty, b, e⟩ := btSeq (K := K) ht
    refine ⟨_, rfl, _, ty, rfl, b, fun H1 s1 => ⟨_, rfl, ?_⟩⟩
    rw [e]
    refine iteF ?_
    have ht1 := s1.sqa ht
    have hd1 : Rd H1 d (.dK (opsK o)) := hd.elim (fun z => .inl (s1 _ _ z)) fun ⟨od, z⟩ => .inr ⟨od, s1 _ _ z⟩
    refine ⟨_, rfl, t, _, rfl, ht1.sq, _, rfl, _, rfl, d, _, rfl, .inl ⟨opsK o, .inr op, hd1, rfl, (by rw [val_ops, hl]; rfl)⟩, rfl, _, rfl, ?_⟩
    rw [List.length_map, decide_eq_true (show V.int (ns.length : Int) = V.int (ns.length : Int) from rfl)]
    refine iteF ?_
    have turn : ∀ (Hf : Hp) (D : Addr), Same H1 Hf → Hf D = none → ∀ i (y : V) Ha, i < (ns.map V.int).length → (Same Hf Ha ∧ Ha D = some (.lst (List.replicate i (V.bl true)))) → (ns.map V.int)[i]? = some y →
        inW y 0 (many - 1) = true ∧ (∃ z : Int, y = .int z) ∧ Ha D = some (.lst (List.replicate i (V.bl true))) ∧ (List.replicate i (V.bl true)).length < sizeLine ∧ (Same Hf (upd Ha D (.lst (List.replicate i (V.bl true) ++ [.bl true]))) ∧ upd Ha D (.lst (List.replicate i (V.bl true) ++ [.bl true])) D = some (.lst (List.replicate (i + 1) (V.bl true)))) := by
      intro Hf D sf nD i y Ha hi ⟨sx, ex⟩ hy
      rw [List.getElem?_map] at hy
      rw [List.length_map] at hi
      rw [List.getElem?_eq_getElem hi] at hy
      have e1 : V.int ns[i] = y := Option.some.inj hy
      subst e1
      obtain ⟨b1, b2⟩ := all _ (List.getElem_mem hi)
      refine ⟨inW_int b1 (by omega), ⟨_, rfl⟩, ex, ?_, fun b u e => ?_, ?_⟩
      · rw [List.length_replicate, sizeLine_eq]
        omega
      · have nb : b ≠ D := fun z => by
          rw [z] at e
          exact absurd (e.symm.trans nD) (by simp)
        rw [upd_ne nb]
        exact sx _ _ e
      · rw [List.replicate_succ']
        exact upd_same
    have fin : ∀ (D : Addr) (Hx : Hp), H1 D = none → (Same H1 Hx ∧ Hx D = some (.lst (List.replicate (ns.map V.int).length (V.bl true)))) → rAll K [.ref D] Hx fun v H' => Q v H' := by
      intro D Hx nD ⟨sx, ex⟩
      refine ⟨D, List.replicate (ns.map V.int).length true, rfl, SqL.of (by rw [trues_map]; exact ex), ?_⟩
      rw [trues_all]
      exact k _ (s1.trans sx)
    rcases ht1 with ht1 | ht1
    · refine .inl ⟨_, rfl, t, rfl, ⟨_, SqL.of ht1⟩, fun D nD => lc_it walk_list (fun i Hx => Same H1 Hx ∧ Hx D = some (.lst (List.replicate i (V.bl true)))) ⟨sameNew nD _, upd_same⟩ (fun i Hx _ z => SqL.of (z.1 _ _ ht1)) (fun i y Ha Hb hi z1 z2 => ?_) fun Hx z => fin D Hx nD z⟩
      obtain ⟨rfl, hy⟩ := z2
      obtain ⟨w1, ⟨z, rfl⟩, w3, w4, w5⟩ := turn H1 D (Same.refl _) nD i y _ hi z1 hy
      refine ⟨rfl, _, rfl, _, rfl, _, _, many, rfl, btInt z, ?_⟩
      rw [w1]
      exact ⟨_, w3, w4, w5⟩
    · refine .inr ⟨_, rfl, t, rfl, ⟨_, .inl (.inl ht1)⟩, fun D nD => lc_it walk_tup (fun i Hx => Same H1 Hx ∧ Hx D = some (.lst (List.replicate i (V.bl true)))) ⟨sameNew nD _, upd_same⟩ (fun i Hx _ z => .inl (.inl (z.1 _ _ ht1))) (fun i y Ha Hb hi z1 z2 => ?_) fun Hx z => fin D Hx nD z⟩
      obtain ⟨rfl, hy⟩ := z2
      obtain ⟨w1, ⟨z, rfl⟩, w3, w4, w5⟩ := turn H1 D (Same.refl _) nD i y _ hi z1 hy
      refine ⟨rfl, _, rfl, _, rfl, _, _, many, rfl, btInt z, ?_⟩
      rw [w1]
      exact ⟨_, w3, w4, w5⟩
end
end Mine

set_option maxRecDepth 100000
set_option maxHeartbeats 4000000
namespace L2
open PySem PySem.Spec PyProof.Rows
/-- tuple(x), x a list or a tuple: some tuple of the same things -/
def rTupG : List V → Hp → VK → Prop := fun xs H Q => ∃ p ys, xs = [.ref p] ∧ SqA H p ys ∧ ∀ (q : Addr) (H' : Hp), Same H H' → H' q = some (.tup ys) → Q (.ref q) H'
theorem call_tupleG {X : Cx} : CallR X (.type "tuple") rTupG := fun pins s σ H xs us Q I r ⟨p, ys, e, h, k⟩ => call_tuple_of pins s σ H xs us Q I r ⟨p, ys, e, h.elim (fun h => .inl ⟨SqL.of h, fun l hl => k l _ (sameNew hl _) upd_same⟩) fun h => .inr ⟨.inl (.inl h), k p H (Same.refl _) h⟩⟩
/-- list(x): a new list of the same things -/
def rLstG : List V → Hp → VK → Prop := fun xs H Q => ∃ p ys, xs = [.ref p] ∧ SqA H p ys ∧ New H (.lst ys) Q
theorem call_listG {X : Cx} : CallR X (.type "list") rLstG := fun pins s σ H xs us Q I r ⟨p, ys, e, h, k⟩ => call_list_of pins s σ H xs us Q I r ⟨p, ys, e, h.sq, fun l hl => k.at hl⟩
end L2
namespace Mine
open PySem L2
theorem strNe {x y : Str} (h : x ≠ y) : decide (V.str x = V.str y) = false := decide_eq_false fun z => h (V.str.inj z)
theorem strEq (x : Str) : decide (V.str x = V.str x) = true := decide_eq_true rfl
theorem intEq (i : Int) : decide (V.int i = V.int i) = true := decide_eq_true rfl
theorem ask_end : ("ask" : Str) ≠ "end" := by decide +kernel
theorem end_ask : ("end" : Str) ≠ "ask" := by decide +kernel
theorem go_ask : ("go" : Str) ≠ "ask" := by decide +kernel
theorem go_end : ("go" : Str) ≠ "end" := by decide +kernel
section
variable {P : Program} {w : World} {K : PySem.W.Frag} {mg : Str → Option Value} {base : Heap}
variable {fII fIW a_is_row a_is_index a_is_name a_is_text_in a_are_counts a_word_of a_are_nexts a_is_line a_line_of a_are_operations : Addr}
theorem sc_is_line : FnScope ["row", "counts", "many", "word"] ["row", "counts", "many"] (defScope s_is_line) := ⟨rfl, rfl, rfl, by decide +kernel, rfl, by decide +kernel, by decide +kernel⟩
theorem ok_is_line {f : Addr} {fd fd_word_of fd_is_text_in fd_are_nexts fd_is_name fd_is_index : FuncData} (F : Fun K "is_line" "is_line" s_is_line f fd) (T : TxtF K mg fII fIW) (TG : TxtG K mg a_is_row a_is_index a_is_name a_is_text_in a_are_counts a_word_of a_are_nexts a_is_line a_line_of a_are_operations)
    (GWo : FnOk P w K mg base CX0 2 a_word_of fd_word_of ["row"] spWord) (b_word_of : Binds K fd_word_of ["row"] [])
    (GT : FnOk P w K mg base CX0 1 a_is_text_in fd_is_text_in ["thing", "table"] (spTextIn K)) (b_is_text_in : Binds K fd_is_text_in ["thing", "table"] [])
    (GX : FnOk P w K mg base CX0 4 a_are_nexts fd_are_nexts ["nexts", "operation", "counts", "many"] spNexts) (b_are_nexts : Binds K fd_are_nexts ["nexts", "operation", "counts", "many"] [])
    (GNm : FnOk P w K mg base CX0 1 a_is_name fd_is_name ["thing"] (spName K)) (b_is_name : Binds K fd_is_name ["thing"] [])
    (GI : FnOk P w K mg base CX0 3 a_is_index fd_is_index ["thing", "many"] (spIndex K)) (b_is_index : Binds K fd_is_index ["thing", "many"] []) : FnOk P w K mg base CX0 5 f fd ["row", "counts", "many"] spIsLine := by
  refine F.ok sc_is_line (fun vs H Q E h => ?_) (fun cdv A outer s H vs Q E hr h => ?_)
  · obtain ⟨v, d, o, many, r, rfl, _⟩ := h
    rfl
  · obtain ⟨v, d, o, many, r, rfl, hv, hd, ok, k⟩ := h
    refine ⟨_, (pss_cons (ps_set (i := 3) sc_is_line.nd rfl (Or.inl rfl) (pe_call GWo (hr.mono (by decide)) (by rfl) TG.g_word_of TG.k_word_of b_word_of .nil pass0 (pa_cons (pv 0) pa_nil)))
      (pss_cons (ps_if (pt_cmpR op_eq (pv 3) pe_str (nomark _)) (pss_one (ps_ret (pe_and (pe_cmpR op_eq (pe_callB call_len_seq (by rfl) T.b_len PySem.boot_len (pa_cons (pv 0) pa_nil)) pe_int (nomark _)) (pe_and (pe_call GT (hr.mono (by decide)) (by rfl) TG.g_is_text_in TG.k_is_text_in b_is_text_in .nil pass0 (pa_cons (pe_ix ix_seq (pv 0) pe_int (fun _ _ => rfl)) (pa_cons (pv 1) pa_nil))) (pe_one (pe_call GX (hr.mono (by decide)) (by rfl) TG.g_are_nexts TG.k_are_nexts b_are_nexts .nil pass0 (pa_cons (pe_ix ix_seq (pv 0) pe_int (fun _ _ => rfl)) (pa_cons (pe_ix ix_seq (pv 0) pe_int (fun _ _ => rfl)) (pa_cons (pv 1) (pa_cons (pv 2) pa_nil)))))))))) pss_nil)
      (pss_cons (ps_if (pt_cmpR op_eq (pv 3) pe_str (nomark _)) (pss_one (ps_ret (pe_and (pe_cmpR op_eq (pe_callB call_len_seq (by rfl) T.b_len PySem.boot_len (pa_cons (pv 0) pa_nil)) pe_int (nomark _)) (pe_one (pe_call GNm (hr.mono (by decide)) (by rfl) TG.g_is_name TG.k_is_name b_is_name .nil pass0 (pa_cons (pe_ix ix_seq (pv 0) pe_int (fun _ _ => rfl)) pa_nil)))))) pss_nil)
      (pss_one (ps_ret (pe_and (pe_cmpR op_eq (pv 3) pe_str (nomark _)) (pe_and (pe_cmpR op_eq (pe_callB call_len_seq (by rfl) T.b_len PySem.boot_len (pa_cons (pv 0) pa_nil)) pe_int (nomark _)) (pe_one (pe_call GI (hr.mono (by decide)) (by rfl) TG.g_is_index TG.k_is_index b_is_index .nil pass0 (pa_cons (pe_ix ix_seq (pv 0) pe_int (fun _ _ => rfl)) (pa_cons (pv 2) pa_nil))))))))))), ?_⟩
    have rd : ∀ {H' : Hp}, Same H H' → Rd H' d (.dK (opsK o)) := fun s => hd.elim (fun z => .inl (s _ _ z)) fun ⟨od, z⟩ => .inr ⟨od, s _ _ z⟩
    cases r with
    | ask op ns =>
      obtain ⟨a, t, rfl, ha, ht⟩ := hv
      obtain ⟨o1, o2, o3⟩ := ok
      refine ⟨_, rfl, a, _, _, rfl, ha, fun H1 s1 => ?_⟩
      have ha1 := s1.sqa ha
      refine ⟨_, rfl, rfl, _, rfl, ?_⟩
      rw [strEq]
      refine iteT ?_
      refine ⟨_, rfl, a, _, rfl, ha1.sq, rfl, _, rfl, ?_⟩
      refine iteT ?_
      refine ⟨_, rfl, ha1.ix at1' ⟨_, rfl, _, _, d, _, rfl, btStr _, rd s1, _, rfl, ?_⟩⟩
      have hh : hasT (opsK o) (.str op) = true := by
        show (valV (opsK o) (.inr op)).isSome = true
        rw [val_ops, o1]
        rfl
      rw [hh]
      refine iteT ?_
      refine ⟨_, rfl, ha1.ix at2' ⟨_, rfl, ha1.ix at1' ⟨_, rfl, _, rfl, t, d, ns, op, o, many, rfl, s1.sqa ht, rd s1, o1, o2, o3, fun H2 s2 => k _ (s1.trans s2)⟩⟩⟩
    | fin x =>
      obtain ⟨a, rfl, ha⟩ := hv
      refine ⟨_, rfl, a, _, _, rfl, ha, fun H1 s1 => ?_⟩
      have ha1 := s1.sqa ha
      refine ⟨_, rfl, rfl, _, rfl, ?_⟩
      rw [strNe end_ask]
      refine iteF ?_
      refine ⟨_, rfl, rfl, _, rfl, ?_⟩
      rw [strEq]
      refine iteT ?_
      refine ⟨_, rfl, a, _, rfl, ha1.sq, rfl, _, rfl, ?_⟩
      refine iteT ?_
      refine ⟨_, rfl, ha1.ix at1' ⟨_, _, rfl, btStr _, fun x' e' => ?_, fun H2 s2 => ?_⟩⟩
      · have e2 : x = x' := V.str.inj e'
        rw [← e2, sizeLine_eq]
        have := ok.2
        omega
      · rw [show nameV (.str x) = true from ok.1]
        exact k _ (s1.trans s2)
    | go n =>
      obtain ⟨a, rfl, ha⟩ := hv
      refine ⟨_, rfl, a, _, _, rfl, ha, fun H1 s1 => ?_⟩
      have ha1 := s1.sqa ha
      refine ⟨_, rfl, rfl, _, rfl, ?_⟩
      rw [strNe go_ask]
      refine iteF ?_
      refine ⟨_, rfl, rfl, _, rfl, ?_⟩
      rw [strNe go_end]
      refine iteF ?_
      refine ⟨_, rfl, rfl, _, rfl, ?_⟩
      rw [strEq]
      refine iteT ?_
      refine ⟨_, rfl, a, _, rfl, ha1.sq, rfl, _, rfl, ?_⟩
      refine iteT ?_
      refine ⟨_, rfl, ha1.ix at1' ⟨_, rfl, _, _, many, rfl, btInt n, ?_⟩⟩
      rw [inW_int ok.1 (by have := ok.2; omega)]
      exact k _ s1
theorem sc_line_of : FnScope ["row"] ["row"] (defScope s_line_of) := ⟨rfl, rfl, rfl, by decide +kernel, rfl, by decide +kernel, by decide +kernel⟩
theorem ok_line_of {f : Addr} {fd : FuncData} (F : Fun K "line_of" "line_of" s_line_of f fd) (T : TxtF K mg fII fIW) : FnOk P w K mg base CX0 1 f fd ["row"] spLineOf := by
  refine F.ok sc_line_of (fun vs H Q E h => ?_) (fun cdv A outer s H vs Q E hr h => ?_)
  · obtain ⟨v, r, rfl, _⟩ := h
    rfl
  · obtain ⟨v, r, rfl, hv, k⟩ := h
    refine ⟨_, (pss_cons (ps_if (pt_cmpR op_eq (pe_ix ix_seq (pv 0) pe_int (fun _ _ => rfl)) pe_str (nomark _)) (pss_one (ps_ret (pe_tupG (pa_cons pe_str (pa_cons (pe_ix ix_seq (pv 0) pe_int (fun _ _ => rfl)) (pa_cons (pe_callTy call_tupleG (by rfl) T.b_tuple (by decide +kernel) (pa_cons (pe_ix ix_seq (pv 0) pe_int (fun _ _ => rfl)) pa_nil)) pa_nil)))))) pss_nil)
      (pss_one (ps_ret (pe_callTy call_tupleG (by rfl) T.b_tuple (by decide +kernel) (pa_cons (pv 0) pa_nil))))), ?_⟩
    cases r with
    | ask op ns =>
      obtain ⟨a, t, rfl, ha, ht⟩ := hv
      refine ⟨_, rfl, ha.ix at0' ⟨rfl, _, rfl, ?_⟩⟩
      rw [strEq]
      refine iteT ?_
      refine ⟨_, rfl, ha.ix at1' ⟨_, rfl, ha.ix at2' ⟨t, _, rfl, ht, fun p H1 s1 e1 => ?_⟩⟩⟩
      refine ⟨by show 3 ≤ sizeLine; decide, fun p2 H2 n2 s2 e2 => ?_⟩
      exact k _ _ (s1.trans s2) ⟨p2, p, rfl, e2, s2 _ _ e1⟩
    | fin x =>
      obtain ⟨a, rfl, ha⟩ := hv
      refine ⟨_, rfl, ha.ix at0' ⟨rfl, _, rfl, ?_⟩⟩
      rw [strNe end_ask]
      refine iteF ?_
      exact ⟨_, rfl, a, _, rfl, ha, fun p H1 s1 e1 => k _ _ s1 ⟨p, rfl, e1⟩⟩
    | go n =>
      obtain ⟨a, rfl, ha⟩ := hv
      refine ⟨_, rfl, ha.ix at0' ⟨rfl, _, rfl, ?_⟩⟩
      rw [strNe go_ask]
      refine iteF ?_
      exact ⟨_, rfl, a, _, rfl, ha, fun p H1 s1 e1 => k _ _ s1 ⟨p, rfl, e1⟩⟩
end
end Mine

/-! Where a walk along a function of the numbers below n comes to rest: plain mathematics. -/
namespace Mach
def itr (f : Nat → Nat) : Nat → Nat → Nat
  | 0, i => i
  | k + 1, i => itr f k (f i)
theorem itr_add (f : Nat → Nat) : ∀ a b i, itr f (a + b) i = itr f b (itr f a i)
  | 0, b, i => by rw [Nat.zero_add]; rfl
  | a + 1, b, i => by
    rw [Nat.succ_add]
    exact itr_add f a b (f i)
theorem itr_succ (f : Nat → Nat) (k i : Nat) : itr f (k + 1) i = f (itr f k i) := by
  rw [itr_add f k 1 i]
  rfl
theorem itr_lt {f : Nat → Nat} {n : Nat} (hf : ∀ i, i < n → f i < n) : ∀ k i, i < n → itr f k i < n
  | 0, _, h => h
  | k + 1, i, h => itr_lt hf k (f i) (hf i h)
theorem pigeon : ∀ (n : Nat) (l : List Nat), l.Nodup → (∀ x ∈ l, x < n) → l.length ≤ n
  | 0, [], _, _ => Nat.le_refl _
  | 0, x :: _, _, h => absurd (h x List.mem_cons_self) (Nat.not_lt_zero _)
  | n + 1, l, nd, h => by
    by_cases m : n ∈ l
    · have e := List.length_erase_of_mem m
      have ih := pigeon n (l.erase n) (nd.erase n) (fun x hx => by
        have h1 := (nd.mem_erase_iff).mp hx
        have h2 := h x h1.2
        have h3 := h1.1
        omega)
      omega
    · have ih := pigeon n l nd (fun x hx => by
        have h2 := h x hx
        have h3 : x ≠ n := fun z => m (z ▸ hx)
        omega)
      omega
/-- two places of the way are the same -/
theorem again {f : Nat → Nat} {n i : Nat} (hf : ∀ i, i < n → f i < n) (hi : i < n) : ∃ a b, a < b ∧ b ≤ n ∧ itr f a i = itr f b i := by
  by_cases h : ∃ a b, a < b ∧ b ≤ n ∧ itr f a i = itr f b i
  · exact h
  · have nd : ((List.range (n + 1)).map fun k => itr f k i).Nodup := by
      rw [List.Nodup, List.pairwise_map]
      refine List.Pairwise.imp_of_mem (fun {a b} ha hb lt e => h ⟨a, b, lt, ?_, e⟩) List.pairwise_lt_range
      have := List.mem_range.mp hb
      omega
    have := pigeon n _ nd (fun x hx => by
      obtain ⟨k, _, e⟩ := List.mem_map.mp hx
      rw [← e]
      exact itr_lt hf k i hi)
    rw [List.length_map, List.length_range] at this
    omega
/-- behind n steps a walk is on its ring -/
theorem ring_of {f : Nat → Nat} {n i : Nat} (hf : ∀ i, i < n → f i < n) (hi : i < n) : ∃ p, 0 < p ∧ itr f p (itr f n i) = itr f n i := by
  obtain ⟨a, b, lt, le, e⟩ := again hf hi
  refine ⟨b - a, by omega, ?_⟩
  have e1 : itr f n i = itr f (n - a) (itr f a i) := by
    rw [← itr_add]
    congr 1
    omega
  have e2 : itr f (b - a) (itr f a i) = itr f b i := by
    rw [← itr_add]
    congr 1
    omega
  rw [e1, ← itr_add, Nat.add_comm, itr_add, e2, ← e]
theorem ring_many {f : Nat → Nat} {p j : Nat} (h : itr f p j = j) : ∀ t, itr f (p * t) j = j
  | 0 => rfl
  | t + 1 => by
    rw [Nat.mul_succ, itr_add, ring_many h t, h]
theorem foldl_min : ∀ (l : List Nat) (a : Nat), (l.foldl Nat.min a = a ∨ l.foldl Nat.min a ∈ l) ∧ l.foldl Nat.min a ≤ a ∧ ∀ x ∈ l, l.foldl Nat.min a ≤ x
  | [], a => ⟨.inl rfl, Nat.le_refl _, fun _ h => nomatch h⟩
  | y :: l, a => by
    obtain ⟨h1, h2, h3⟩ := foldl_min l (Nat.min a y)
    refine ⟨?_, ?_, ?_⟩
    · rcases h1 with h1 | h1
      · by_cases q : a ≤ y
        · left
          show l.foldl Nat.min (Nat.min a y) = a
          rw [h1]
          exact Nat.min_eq_left q
        · right
          show l.foldl Nat.min (Nat.min a y) ∈ y :: l
          rw [h1, show Nat.min a y = y from Nat.min_eq_right (by omega)]
          exact List.mem_cons_self
      · exact .inr (List.mem_cons_of_mem _ h1)
    · exact Nat.le_trans h2 (Nat.min_le_left _ _)
    · intro x hx
      rcases List.mem_cons.mp hx with e | hx
      · rw [e]
        exact Nat.le_trans h2 (Nat.min_le_right _ _)
      · exact h3 x hx
/-- where a walk rests: the least number on the ring to which it comes (a fixed one is a ring by itself) -/
def stopAt (f : Nat → Nat) (n i : Nat) : Nat := ((List.range n).map fun k => itr f k (itr f n i)).foldl Nat.min (itr f n i)
theorem stop_mem (f : Nat → Nat) (n i : Nat) : ∃ k, stopAt f n i = itr f k (itr f n i) := by
  obtain ⟨h, _⟩ := foldl_min ((List.range n).map fun k => itr f k (itr f n i)) (itr f n i)
  rcases h with h | h
  · exact ⟨0, h⟩
  · obtain ⟨k, _, e⟩ := List.mem_map.mp h
    exact ⟨k, e.symm⟩
theorem stop_lt {f : Nat → Nat} {n i : Nat} (hf : ∀ i, i < n → f i < n) (hi : i < n) : stopAt f n i < n := by
  obtain ⟨k, e⟩ := stop_mem f n i
  rw [e]
  exact itr_lt hf k _ (itr_lt hf n i hi)
/-- from a place on the ring each place of the ring is met within n steps -/
theorem ring_short {f : Nat → Nat} {n j : Nat} (hf : ∀ i, i < n → f i < n) (hj : j < n) (k : Nat) : ∃ k', k' < n ∧ itr f k' j = itr f k j := by
  induction k using Nat.strongRecOn with
  | ind k ih =>
    by_cases h : k < n
    · exact ⟨k, h, rfl⟩
    · obtain ⟨a, b, lt, le, e⟩ := again hf hj
      have e2 : itr f k j = itr f (k - (b - a)) j := by
        have h1 : k = b + (k - b) := by omega
        have h2 : k - (b - a) = a + (k - b) := by omega
        rw [h2, itr_add, e, ← itr_add, ← h1]
      obtain ⟨k', h1, h2⟩ := ih (k - (b - a)) (by omega)
      exact ⟨k', h1, h2.trans e2.symm⟩
theorem stop_le {f : Nat → Nat} {n i : Nat} (hf : ∀ i, i < n → f i < n) (hi : i < n) (k : Nat) : stopAt f n i ≤ itr f k (itr f n i) := by
  obtain ⟨_, _, h⟩ := foldl_min ((List.range n).map fun k => itr f k (itr f n i)) (itr f n i)
  obtain ⟨k', lt, e⟩ := ring_short hf (itr_lt hf n i hi) k
  rw [← e]
  exact h _ (List.mem_map.mpr ⟨k', List.mem_range.mpr lt, rfl⟩)
theorem stop_unique {f : Nat → Nat} {n i s : Nat} (hf : ∀ i, i < n → f i < n) (hi : i < n) (h1 : ∃ k, s = itr f k (itr f n i)) (h2 : ∀ k, s ≤ itr f k (itr f n i)) : stopAt f n i = s := by
  obtain ⟨k, e⟩ := h1
  obtain ⟨k', e'⟩ := stop_mem f n i
  have a1 := stop_le hf hi k
  have a2 := h2 k'
  omega
theorem stop_step {f : Nat → Nat} {n i : Nat} (hf : ∀ i, i < n → f i < n) (hi : i < n) : stopAt f n (f i) = stopAt f n i := by
  have e : itr f n (f i) = f (itr f n i) := itr_succ f n i
  obtain ⟨p, p0, hp⟩ := ring_of hf hi
  refine stop_unique hf (hf i hi) ?_ fun k => ?_
  · obtain ⟨k, ek⟩ := stop_mem f n i
    refine ⟨k + p - 1, ?_⟩
    rw [ek, e]
    show _ = itr f (k + p - 1 + 1) (itr f n i)
    rw [show k + p - 1 + 1 = p + k by omega, itr_add, hp]
  · rw [e]
    exact stop_le hf hi (k + 1)
/-- on a ring that is written out: the least of it -/
theorem stop_ring {f : Nat → Nat} {n j m s : Nat} (hf : ∀ i, i < n → f i < n) (hj : j < n) (m0 : 0 < m) (h : itr f m j = j) (h1 : ∃ k, k < m ∧ s = itr f k j) (h2 : ∀ k, k < m → s ≤ itr f k j) : stopAt f n j = s := by
  have all : ∀ k, ∃ k', k' < m ∧ itr f k j = itr f k' j := fun k => by
    refine ⟨k % m, Nat.mod_lt _ m0, ?_⟩
    have e : k = m * (k / m) + k % m := (Nat.div_add_mod k m).symm
    conv => lhs; rw [e]
    rw [itr_add, ring_many h]
  refine stop_unique hf hj ?_ fun k => ?_
  · obtain ⟨k, _, e⟩ := h1
    refine ⟨k + (m * n - n), ?_⟩
    rw [e, ← itr_add]
    have hn : n ≤ m * n := Nat.le_mul_of_pos_left n m0
    rw [show n + (k + (m * n - n)) = m * n + k by omega, itr_add, ring_many h]
  · rw [← itr_add]
    obtain ⟨k', lt, e⟩ := all (n + k)
    rw [e]
    exact h2 k' lt
theorem stop_fix {f : Nat → Nat} {n j : Nat} (hf : ∀ i, i < n → f i < n) (hj : j < n) (h : f j = j) : stopAt f n j = j :=
  stop_ring hf hj (m := 1) (by decide) h ⟨0, by decide, rfl⟩ fun k hk => by
    have : k = 0 := by omega
    subst this
    exact Nat.le_refl _
end Mach

set_option maxRecDepth 100000
set_option maxHeartbeats 4000000
/-! Defs that are run where nothing is being shown (repr of containers asks for it): the same promise, at such places alone. -/
namespace L2
open PySem PySem.Spec PyProof.Rows
def Bare (A : Around) : Prop := A.guards = some []
theorem Bare.deeper {A : Around} (h : Bare A) (env : Env) : Bare (A.deeper env) := h
structure FnG (P : Program) (w : World) (K : PySem.W.Frag) (mg : Str → Option Value) (base : Heap) (CX : CXT) (k : Nat) (f : Addr) (fd : FuncData) (ps : List Str) (sp : Sp) : Prop where
  len : ∀ vs H Q E, sp vs H Q E → vs.length = ps.length
  run : ∀ (A : Around) (outer : List Env) (s : Shared) (H : Hp) (args : Args) (us : List Value) (vs : List V) (Q : VK) (E : XK), Bare A → Room k A → Env0 P w K mg base A outer s H → BindsTo s fd args (ps.zip us) → Vals vs us → sp vs H Q E →
    codeAny (model P w) A (.call (.ref f) args) (CR CX outer P w H s Q E) s
theorem FnOk.toG {P : Program} {w : World} {K : PySem.W.Frag} {mg : Str → Option Value} {base : Heap} {CX : CXT} {k : Nat} {f : Addr} {fd : FuncData} {ps : List Str} {sp : Sp} (F : FnOk P w K mg base CX k f fd ps sp) : FnG P w K mg base CX k f fd ps sp :=
  ⟨F.len, fun A outer s H args us vs Q E _ => F.run A outer s H args us vs Q E⟩
section
variable {P : Program} {w : World} {K : PySem.W.Frag} {mg : Str → Option Value} {base : Heap} {CX : CXT} {k : Nat} {f : Addr} {x qual : Str} {st : Stmt} {fd : FuncData} {N ps : List Str} {sp : Sp}
/-- a def by its body, at places where nothing is being shown -/
theorem Fun.okGX (F : Fun K x qual st f fd) (S : FnScope N ps (defScope st)) (len : ∀ vs H Q E, sp vs H Q E → vs.length = ps.length)
    (hbody : ∀ (cdv : Value) (A : Around) (outer : List Env) (s : Shared) (H : Hp) (vs : List V) (Q : VK) (E : XK), Bare A → Room k (A.deeper (envOfC qual (defScope st) s.heap.objs.size f cdv)) → sp vs H Q E →
      ∃ t, PSs (cxOf CX P w K mg base N qual (defScope st) f cdv A outer s H E) (defBody st) t ∧ t { nx := fun _ H' => Q .non H', rt := Q } (start N vs) H) : FnG P w K mg base CX (k + 1) f fd ps sp := by
  obtain ⟨oc, od, kV, doc, pm, an, cdv, ct, osl, rfl, lk, hcd⟩ := F.ex
  refine ⟨len, fun A outer s H args us vs Q E bare hr e0 hb r hsp => ?_⟩
  have same : ∀ b o, base.get? b = some o → s.heap.get? b = some o := fun b o e => (e0.bs b o e).1
  have KX : K.In s.heap := e0.mod.kin.keeps same
  have hkind : ∀ y ∈ ps.zip us, (defScope st).names.lookup y.1 = some .local ∨ ((defScope st).names.lookup y.1 = some .cell ∧ ((cellsFrom (s.heap.objs.size + 1) (defScope st).names []).lookup y.1).isSome = true) := by
    rintro ⟨n, v⟩ hy
    rcases S.par n (List.of_mem_zip hy).1 with q | q
    · exact .inl q
    · exact .inr ⟨q, PySem.W.cellsFrom_some _ _ _ (.inl q)⟩
  refine codeAny_call_function hr.depth (KX _ _ lk) rfl S.co S.gen rfl (PySem.W.codeRec_of KX hcd) (hb _ _ _ _ ?_)
  refine wpAny_newFunctionEnv_cells S.kind hkind fun env he s1 ic => ?_
  subst he
  refine ⟨(e0.mod.nolimit.keeps same).keeps ic.toInCall.keep, codeAny_func ?_⟩
  obtain ⟨t, ht, hq⟩ := hbody cdv A outer s H vs Q E bare (hr.deeper _) hsp
  have I := inv_start (CX := CX) (E := E) S hr.hd e0 (len _ _ _ _ hsp) r ic
  refine wpAny_mono (ht.run [] s1 (start N vs) H _ I hq) (fun fl s' hs => ?_) fun e s' hs => hs
  cases fl with
  | ret u =>
    obtain ⟨v, σ', H', J, rv, q⟩ := hs
    exact ⟨v, H', J.os, J.bare, J.base, J.hok, rv, q⟩
  | next =>
    obtain ⟨σ', H', J, q⟩ := hs
    exact ⟨V.non, H', J.os, J.bare, J.base, J.hok, rfl, q⟩
  | brk =>
    obtain ⟨_, _, _, q⟩ := hs
    exact False.elim q
  | cont =>
    obtain ⟨_, _, _, q⟩ := hs
    exact False.elim q
/-- the same for a def that lets nothing out -/
theorem Fun.okG (F : Fun K x qual st f fd) (S : FnScope N ps (defScope st)) (len : ∀ vs H Q E, sp vs H Q E → vs.length = ps.length)
    (hbody : ∀ (cdv : Value) (A : Around) (outer : List Env) (s : Shared) (H : Hp) (vs : List V) (Q : VK) (E : XK), Bare A → Room k (A.deeper (envOfC qual (defScope st) s.heap.objs.size f cdv)) → sp vs H Q E →
      ∃ t, PSs (cxOf CX0 P w K mg base N qual (defScope st) f cdv A outer s H E).nox (defBody st) t ∧ t { nx := fun _ H' => Q .non H', rt := Q } (start N vs) H) : FnG P w K mg base CX0 (k + 1) f fd ps sp :=
  F.okGX S len fun cdv A outer s H vs Q E hA hr h => by
    obtain ⟨t, h1, h2⟩ := hbody cdv A outer s H vs Q E hA hr h
    exact ⟨t, h1.nox, h2⟩
end
section
variable {X : Cx} {CX : CXT} {k : Nat} {f : Addr} {fd : FuncData} {ps : List Str} {sp : Sp} {dvs : List V} {ds : List Value} {E : XK} {x : Str} {p pos : Pos} {e : Expr} {es : List Expr} {t : TA}
theorem run_fnG {pins : List (Addr × Obj)} {σ : St} {H : Hp} {s : Shared} {Q : VK} {us : List Value} {vs : List V} (F : FnG X.prog X.w X.K X.mg X.base CX k f fd ps sp) (hA : Bare X.A) (hr : Room k X.A) (hb : Binds X.K fd ps ds) (hd : Vals dvs ds) (hx : Passes CX X E)
    (I : Inv X pins σ H s) (r : Vals vs us) (h : sp (vs ++ dvs) H Q E) : wpAny (model X.prog X.w) X.A (call (.ref f) us) (EP X pins σ Q) X.xe s := by
  have r2 : Vals (vs ++ dvs) (us ++ ds) := r.append hd
  have hl : (us ++ ds).length = ps.length := by
    rw [← r2.length]
    exact F.len _ _ _ _ h
  refine wpAny_call (codeAny_mono (F.run X.A X.stack s H ⟨us, []⟩ (us ++ ds) (vs ++ dvs) Q E hA hr I.env0 (hb s us I.kIn hl) r2 h) fun r s' hq => ?_)
  cases r with
  | error er => exact hx pins σ H s er s' I hq
  | ok fl =>
    cases fl with
    | ret u => exact I.after hq
    | next => exact False.elim hq
    | brk => exact False.elim hq
    | cont => exact False.elim hq
theorem pe_callG (F : FnG X.prog X.w X.K X.mg X.base CX k f fd ps sp) (hA : Bare X.A) (hr : Room k X.A) (hg : Gl X x) (hm : X.mg x = some (.ref f)) (hk : PySem.W.keepIn X.K (.ref f) = true) (hb : Binds X.K fd ps ds) (hd : Vals dvs ds) (hx : Passes CX X E)
    (ha : PA X (e :: es) t) (hdb : (x == ("__debug__" : Str)) = false := by decide) (he : starEach (e :: es) X.env = (false, eval e X.env) :: starEach es X.env := by rfl) (hpl : (backTo pos (starEach es X.env)).any (·.1) = false := by rfl) :
    PE X (.Call (.Name x p) (e :: es) [] pos) (tCall sp dvs E t) := by
  refine ⟨fun pins s σ H Q I h => ?_⟩
  refine wpAny_Call_Name_kw (ld_glob I hg hm ?_ hdb)
  exact PySem.W.callWith_K (h₀ := X.base) I.ok.mod.kin hk (thn (ha.run pos pins s σ H _ I h) fun us s1 ⟨vs, H1, I1, r, q⟩ => ⟨I1.kIn, run_fnG F hA hr hb hd hx I1 r q⟩) he hpl
end
/-! ### what repr says -/
def keyD : Key → PyData
  | .inl i => .int i
  | .inr x => .str x
/-- x, shown as d: data without dicts, or a dict of ints -/
def Shw (K : PySem.W.Frag) (H : Hp) (x : V) (d : PyData) : Prop :=
  (Dp K H x d ∧ d.hasDict = false) ∨ ∃ (a : Addr) (kvs : List (Key × Int)), x = .ref a ∧ H a = some (.dK (kvs.map fun kv => (kv.1, V.int kv.2))) ∧ d = .dict (kvs.map fun kv => (keyD kv.1, .int kv.2))
theorem reads_dict {P : Program} {w : World} {h : Heap} : ∀ {es : List DictEntry} {vs : List (Key × Value)} {kvs : List (Key × Int)}, Pairs (mixKind P w) es vs → KV (kvs.map fun kv => (kv.1, V.int kv.2)) vs →
    ReadsAll h (es.map (·.key)) ((kvs.map fun kv => (keyD kv.1, PyData.int kv.2)).map (·.1)) [] ∧ ReadsAll h (es.map (·.val)) ((kvs.map fun kv => (keyD kv.1, PyData.int kv.2)).map (·.2)) []
  | [], vs, [], _, _ => ⟨.nil, .nil⟩
  | [], vs, k :: kvs, p, r => by
    cases p
    cases r
  | e :: es, vs, [], p, r => by
    cases r
    cases p
  | e :: es, vs, k :: kvs, p, r => by
    cases r with
    | cons r1 rr =>
      cases p with
      | cons q1 q2 pr =>
        obtain ⟨h1, h2⟩ := reads_dict (h := h) pr rr
        obtain ⟨e1, t, e2⟩ := r1
        refine ⟨ReadsAll.cons (as := []) (bs := []) ?_ h1, ReadsAll.cons (as := []) (bs := []) ?_ h2⟩
        · have z : keyIs k.1 e.key = true := by
            have e1' : k.1 = _ := e1
            rw [e1']
            exact q1
          rcases keyIs_shape z with ⟨i, t', e3, e4⟩ | ⟨y, t', e3, e4⟩
          · show Reads h e.key (keyD k.1) []
            rw [e3, e4]
            exact Reads.int i t'
          · show Reads h e.key (keyD k.1) []
            rw [e3, e4]
            exact Reads.str y t'
        · show Reads h e.val (.int k.2) []
          rw [q2, e2]
          exact Reads.int _ t
theorem shw_reads {X : Cx} {pins : List (Addr × Obj)} {σ : St} {H : Hp} {s : Shared} {x : V} {u : Value} {d : PyData} (I : Inv X pins σ H s) (h : Shw X.K H x d) (r : RelV x u) : ∃ as, Reads s.heap u d as ∧ (d.hasDict = true → sysModules ∉ as) := by
  rcases h with ⟨h, nd⟩ | ⟨a, kvs, rfl, e, rfl⟩
  · obtain ⟨as, q⟩ := Dp.reads I d x u h r
    exact ⟨as, q, fun z => by rw [nd] at z; cases z⟩
  · cases (show u = Value.ref a from r)
    obtain ⟨_, ns, vs, rk, o, es, ep, ho, hx, hd, _, hp, _⟩ := (show ObjOk X.prog X.w H s.heap a (.dK _) from I.hok a _ e)
    obtain ⟨h1, h2⟩ := reads_dict (h := s.heap) hp rk
    refine ⟨_, Reads.dict ho hx.1 hd h1 h2, fun _ m => ?_⟩
    have : sysModules = a := by simpa using m
    rw [this] at ns
    simp at ns
def rRepr (K : PySem.W.Frag) : List V → Hp → VK → Prop := fun xs H Q => ∃ (x : V) (d : PyData), xs = [x] ∧ Shw K H x d ∧ d.showable = true ∧ d.depth ≤ 60 ∧ d.shown.length ≤ sizeLine ∧ Q (.str d.shown) H
theorem call_repr {X : Cx} (hA : Bare X.A) (hu : X.A.units + 64 < cLine) : CallR X (.builtin "repr") (rRepr X.K) := by
  intro pins s σ H xs us Q I r h
  obtain ⟨x, d, rfl, hs, sh, dp, sz, q⟩ := h
  obtain ⟨u, rfl, rx⟩ := vals1 r
  obtain ⟨as, rd, nsys⟩ := shw_reads I hs rx
  cases rd with
  | none => exact PySem.P.repr_of_none ⟨.str "None", H, I.tok _, ⟨_, rfl⟩, q⟩
  | bool b => exact PySem.P.repr_of_bool ⟨.str (if b then "True" else "False"), H, I.tok _, ⟨_, rfl⟩, q⟩
  | int i t => exact PySem.P.repr_of_int (of_decide_eq_true sh) ⟨.str (toString i), H, I.tok _, ⟨_, rfl⟩, q⟩
  | str y t => exact PySem.P.repr_of_str ⟨.str (reprText y), H, I.tok _, ⟨_, rfl⟩, q⟩ sz
  | list h1 h2 h3 h4 =>
    exact repr_of_reads' (Reads.list h1 h2 h3 h4) sh nsys hA (by omega) (fun b o e => e) (fun h' u tk k => ⟨.str _, H, I.kept (t' := tk) k, ⟨_, rfl⟩, q⟩) sz
  | tuple h1 h2 h3 h4 =>
    exact repr_of_reads' (Reads.tuple h1 h2 h3 h4) sh nsys hA (by omega) (fun b o e => e) (fun h' u tk k => ⟨.str _, H, I.kept (t' := tk) k, ⟨_, rfl⟩, q⟩) sz
  | dict h1 h2 h3 h4 h5 =>
    exact repr_of_reads' (Reads.dict h1 h2 h3 h4 h5) sh nsys hA (by omega) (fun b o e => e) (fun h' u tk k => ⟨.str _, H, I.kept (t' := tk) k, ⟨_, rfl⟩, q⟩) sz
end L2

set_option maxRecDepth 100000
set_option maxHeartbeats 4000000
/-! The end of a law row for a promise that holds where nothing is being shown: the claim's caller shows nothing. -/
namespace L2
open PySem PySem.Spec PyProof.Rows
section
variable {P : Program} {w : World} {K : PySem.W.Frag} {mg mb : Str → Option Value} {CX : CXT} {k : Nat} {fa sc : Addr} {fd : FuncData} {x : Str} {sp : Sp} {st : Shared} {its : List Value} {ns : List Int}
/-- from an abstract heap in which at most the script is tracked -/
theorem callG_at (KX : K.In st.heap) (gN : st.heap.Ns mainGlobals mg) (bN : st.heap.Ns builtinsNs mb) (bb : ∀ x : Str, x ≠ "__name__" → mb x = bootBuiltins x) (nl : st.heap.NoLimit) (gz : st.gens = #[])
    (hs : st.heap.get? sc = some { cls := .type "list", data := .seq its.toArray }) (hr : Room k callerA)
    (F : ∀ base : Heap, K.In base → base.Ns mainGlobals mg → FnG P w K mg base CX k fa fd [x] sp) (hb : ∀ (s : Shared) (u : Value), BindsTo s fd ⟨[u], []⟩ [(x, u)])
    (noX : ∀ H e s', CX [] H st (fun _ _ _ => False) e s' → False) (H : Hp) (hO : Only H) (hsp : sp [.ref sc] H (fun v _ => v = .bl true) fun _ _ _ => False)
    (ok : HOk P w H st.heap) (one : ∀ b, H b ≠ none → b = sc) (hK : H sc ≠ none → K.lookup sc = none) :
    codeAny (model P w) callerA (.call (.ref fa) ⟨[.ref sc], []⟩) (fun r s' => r = .ok (.ret (.bool true)) ∧ OldK st.heap s'.heap ∧ s'.os = st.os ∧ AllBare s'.gens) st := by
  have low : ∀ {b : Addr} {o : Obj}, st.heap.get? b = some o → H b = none → (hidT st.heap H).get? b = some o := fun e n => hidT_get e n
  have isSc : ∀ {b : Addr}, (∃ u, H b = some u) → b = sc := fun {b} ⟨u, q⟩ => one b (by rw [q]; simp)
  have free : ∀ {b : Addr}, b ≠ sc → H b = none := fun {b} ne => by
    cases q : H b with
    | none => rfl
    | some u => exact absurd (isSc ⟨u, q⟩) ne
  have notDict : ∀ {b : Addr} {o : Obj} {es : Array DictEntry} {ep : Nat}, st.heap.get? b = some o → o.data = .dict es ep → H b = none := fun {b o es ep} e d => by
    refine free fun z => ?_
    rw [z, hs] at e
    have e2 := Option.some.inj e
    subst e2
    have d2 : Data.seq its.toArray _ = Data.dict es ep := d
    cases d2
  have nsLow : ∀ {b : Addr} {m : Str → Option Value}, st.heap.Ns b m → (hidT st.heap H).Ns b m := fun {b m} z => by
    obtain ⟨o, es, ep, e, d, r⟩ := z
    exact ⟨o, es, ep, low e (notDict e d), d, r⟩
  have KL : K.In (hidT st.heap H) := fun b o e => low (KX b o e) (by
    cases q : H b with
    | none => rfl
    | some u =>
      have z := isSc ⟨u, q⟩
      subst z
      rw [hK (by rw [q]; simp)] at e
      cases e)
  obtain ⟨mc, l1, l2⟩ := nl
  have M : Mod K mg (hidT st.heap H) := ⟨KL, nsLow gN, ⟨mb, nsLow bN, bb⟩, ⟨mc, nsLow l1, l2⟩⟩
  have e0 : Env0 P w K mg (hidT st.heap H) callerA [] st H := ⟨rfl, M, fun b o e => of_hidT e, Nat.le_of_eq (hidT_size _ _), trivial, fun b hb => absurd (show b ∈ ([] : List Addr) from hb) (by simp), ok, .of_eq gz⟩
  refine codeAny_mono ((F _ KL (nsLow gN)).run callerA [] st H ⟨[.ref sc], []⟩ [.ref sc] [.ref sc] _ _ rfl hr e0 (hb st (.ref sc)) (.cons rfl .nil) hsp) fun r s' h => ?_
  cases r with
  | error e => exact (noX H e s' h).elim
  | ok fl =>
    cases fl with
    | next => exact False.elim h
    | brk => exact False.elim h
    | cont => exact False.elim h
    | ret u =>
      obtain ⟨v, H', os, bare, un, ok', r', q⟩ := h
      have q' : v = .bl true := q
      subst q'
      obtain rfl : u = Value.bool true := r'
      refine ⟨rfl, OldK.of_keep fun b o e => ?_, os, bare⟩
      rcases hO b with z | ⟨ob, xs, z⟩
      · exact un.keep b o e z (fun z => absurd (show b ∈ ([] : List Addr) from z) (by simp)) (by simp)
      · obtain ⟨e1, _⟩ := ok b _ z
        obtain ⟨e2, _⟩ := ok' b _ (un.frzs b ob _ z)
        rw [e] at e1
        cases e1
        exact e2
theorem law_callG (KX : K.In st.heap) (gN : st.heap.Ns mainGlobals mg) (bN : st.heap.Ns builtinsNs mb) (bb : ∀ x : Str, x ≠ "__name__" → mb x = bootBuiltins x) (nl : st.heap.NoLimit) (gz : st.gens = #[])
    (hs : st.heap.get? sc = some { cls := .type "list", data := .seq its.toArray }) (hi : IntsAre its ns) (hl : ns.length ≤ sizeLine) (hr : Room k callerA)
    (F : ∀ base : Heap, K.In base → base.Ns mainGlobals mg → FnG P w K mg base CX k fa fd [x] sp) (hb : ∀ (s : Shared) (u : Value), BindsTo s fd ⟨[u], []⟩ [(x, u)])
    (hsp : ∀ H : Hp, Only H → SqL K H sc (ns.map V.int) → sp [.ref sc] H (fun v _ => v = .bl true) fun _ _ _ => False) (noX : ∀ H e s', CX [] H st (fun _ _ _ => False) e s' → False) :
    codeAny (model P w) callerA (.call (.ref fa) ⟨[.ref sc], []⟩) (fun r s' => r = .ok (.ret (.bool true)) ∧ OldK st.heap s'.heap ∧ s'.os = st.os ∧ AllBare s'.gens) st := by
  have rv := vals_ints hi
  cases hk : K.lookup sc with
  | some o =>
    have e := KX sc o hk
    rw [hs] at e
    cases e
    have only : Only (fun _ => none) := fun _ => .inl rfl
    refine callG_at KX gN bN bb nl gz hs hr F hb noX (fun _ => none) only (hsp _ only (.inr ⟨_, its.toArray, _, hk, rfl, rfl, rfl, by rw [List.size_toArray, hi.length]; exact hl, by simpa using rv⟩)) (fun b u z => nomatch z) (fun b z => absurd rfl z) fun z => absurd rfl z
  | none =>
    let H : Hp := fun b => if b = sc then some (.frz { cls := .type "list", data := .seq its.toArray } (.lst (ns.map V.int))) else none
    have at' : H sc = some (.frz { cls := .type "list", data := .seq its.toArray } (.lst (ns.map V.int))) := if_pos rfl
    have off : ∀ {b : Addr}, b ≠ sc → H b = none := fun ne => if_neg ne
    have only : Only H := fun b => by
      by_cases z : b = sc
      · rw [z]
        exact .inr ⟨_, _, at'⟩
      · exact .inl (off z)
    refine callG_at KX gN bN bb nl gz hs hr F hb noX H only (hsp H only (.inl (.inr ⟨_, at'⟩))) (fun b u z => ?_) (fun b z => ?_) fun _ => hk
    · by_cases q : b = sc
      · subst q
        rw [at'] at z
        cases z
        exact ⟨hs, by rw [List.length_map]; exact hl, its, _, rv, hs⟩
      · rw [off q] at z
        cases z
    · by_cases q : b = sc
      · exact q
      · exact absurd (off q) z
end
theorem walk_ofG {l : PySem.W.OpenLaw} {n k : Nat} {q : Program} {loose : List Str} {XP : (Str → Option Value) → Heap → Prop} {YP : World → Heap → Prop} {d : DefRec} {K : Params → PySem.W.Frag} {CX : World → CXT} {sp : World → Sp} {x : Str}
    (hn : l.most = some n) (hn2 : n ≤ sizeLine) (hdf : d.params.defaults = []) (hr : Room k callerA) (hY : ∀ (w : World) (h : Heap), YP w h → (K w.params).In h)
    (F : ∀ (w : World) (mg : Str → Option Value) (fa : Addr) (h : Heap), (K w.params).In h → h.Ns mainGlobals mg → mg d.name = some (.ref fa) →
      ∃ fd : FuncData, (∀ (s : Shared) (u : Value), BindsTo s fd ⟨[u], []⟩ [(x, u)]) ∧ ∀ base : Heap, (K w.params).In base → base.Ns mainGlobals mg → FnG l.prog w (K w.params) mg base (CX w) k fa fd [x] (sp w))
    (hsp : ∀ (w : World) (H : Hp) (a : Addr) (ns : List Int), ns.length ≤ n → Only H → SqL (K w.params) H a (ns.map V.int) → sp w [.ref a] H (fun v _ => v = .bl true) fun _ _ _ => False)
    (hCX : ∀ (w : World) (H : Hp) (s : Shared) (e : Value) (s' : Shared), CX w [] H s (fun _ _ _ => False) e s' → False) :
    PySem.W.WalkO q loose XP YP l.row.toRowW d [] (fun f vs => PySem.call f vs) := by
  refine Att.attach_call hn hdf fun w s₀ s₁ mg mb fa o pm cd doc a vs ns G Y ho hd hcd hmg hobj hints hlen hg => ?_
  have KX := hY w _ Y
  obtain ⟨fd, hb, hF⟩ := F w mg fa _ KX G.T.g hmg
  exact law_callG KX G.T.g G.T.b G.T.builtins G.T.nolimit hg hobj hints (Nat.le_trans hlen hn2) hr hF hb (fun H hO hS => hsp w H a ns hlen hO hS) fun H e s' => hCX w H s₁ e s'
end L2

set_option maxRecDepth 100000
set_option maxHeartbeats 4000000
/-! Things that are shown by repr: what is kept of them in later heaps. -/
namespace L2
open PySem PySem.Spec PyProof.Rows
theorem Same.seqT {K : PySem.W.Frag} {H H' : Hp} {a : Addr} {xs : List V} (s : Same H H') (h : SqT K H a xs) : SqT K H' a xs := by
  rcases h with (h | ⟨o, h⟩) | h
  · exact .inl (.inl (s _ _ h))
  · exact .inl (.inr ⟨o, s _ _ h⟩)
  · exact .inr h
mutual
theorem Dp.same {K : PySem.W.Frag} {H H' : Hp} (s : Same H H') : ∀ (d : PyData) (v : V), Dp K H v d → Dp K H' v d
  | .none, _, h => by
    cases h
    exact .non
  | .bool b, _, h => by
    cases h
    exact .bl b
  | .int i, _, h => by
    cases h
    exact .int i
  | .str x, _, h => by
    cases h
    exact .str x
  | .list ds, _, h => by
    cases h with
    | lst q ha => exact .lst (s.seq q) (DpAll.same s ds _ ha)
  | .tuple ds, _, h => by
    cases h with
    | tup q ha => exact .tup (s.seqT q) (DpAll.same s ds _ ha)
  | .dict _, _, h => by cases h
theorem DpAll.same {K : PySem.W.Frag} {H H' : Hp} (s : Same H H') : ∀ (ds : List PyData) (vs : List V), DpAll K H vs ds → DpAll K H' vs ds
  | [], _, h => by
    cases h
    exact .nil
  | d :: ds, _, h => by
    cases h with
    | cons h1 h2 => exact .cons (Dp.same s d _ h1) (DpAll.same s ds _ h2)
end
theorem Shw.same {K : PySem.W.Frag} {H H' : Hp} {x : V} {d : PyData} (s : Same H H') (h : Shw K H x d) : Shw K H' x d := by
  rcases h with ⟨h, n⟩ | ⟨a, kvs, e1, e2, e3⟩
  · exact .inl ⟨h.same s d x, n⟩
  · exact .inr ⟨a, kvs, e1, s _ _ e2, e3⟩
/-- what is asked of a thing that is shown -/
structure Fine (d : PyData) : Prop where
  sh : d.showable = true
  dp : d.depth ≤ 60
  sz : d.shown.length ≤ sizeLine
  ok : PyData.strOk d.shown = true
def Good (K : PySem.W.Frag) (H : Hp) (v : V) : Prop := ∃ d, Shw K H v d ∧ Fine d
theorem Good.same {K : PySem.W.Frag} {H H' : Hp} {v : V} (s : Same H H') (h : Good K H v) : Good K H' v := by
  obtain ⟨d, a, b⟩ := h
  exact ⟨d, a.same s, b⟩
theorem strOk_of (s : String) : PyData.strOk (Str.ofString s) = true := by
  unfold PyData.strOk
  rw [Str.ofString_eq_toList]
  simp only [List.all_toArray, List.all_map, List.all_eq_true, Function.comp, decide_eq_true_eq]
  intro c _
  have := c.valid
  show c.toNat < 0x110000
  have z : c.val.toNat < 0x110000 := by
    rcases this with h | ⟨_, h⟩
    · have h' : c.val.toNat < 0xd800 := h
      omega
    · exact h
  exact z
theorem fine_int {n : Int} (h0 : 0 ≤ n) (h : n < 10 ^ 30) : Fine (.int n) := by
  have l : n.natAbs < 2 ^ 100 := by
    have : (n.natAbs : Int) = n := by omega
    have h2 : (n.natAbs : Int) < 10 ^ 30 := by omega
    have h3 : n.natAbs < 10 ^ 30 := by exact_mod_cast h2
    exact Nat.lt_trans h3 (by decide)
  have l2 : n.natAbs.log2 < 1920 := Nat.lt_trans (PySem.Flt.log2_lt_of (by decide) l) (by decide)
  exact ⟨decide_eq_true l2, Nat.zero_le _, int_text_fits l2, strOk_of _⟩
/-! lists of texts as data -/
theorem strs_lay : ∀ ts : List Str, (∀ t ∈ ts, PyData.strOk t = true) → PyData.canLayAll0 (ts.map PyData.str) = true
  | [], _ => rfl
  | t :: ts, h => by
    show (PyData.strOk t && PyData.canLayAll0 (ts.map PyData.str)) = true
    rw [strs_lay ts fun u m => h u (List.mem_cons_of_mem _ m), h t List.mem_cons_self]
    rfl
theorem strs_flat : ∀ ts : List Str, PyData.depthAll (ts.map PyData.str) = 0
  | [] => rfl
  | t :: ts => by
    show max (PyData.depth (.str t)) (PyData.depthAll (ts.map PyData.str)) = 0
    rw [strs_flat ts]
    rfl
theorem strs_shaped (ts : List Str) (h : ∀ t ∈ ts, PyData.strOk t = true) : SeqAt.shaped (.list (ts.map PyData.str)) = true := by
  have h1 : PyData.canLay0 (.list (ts.map PyData.str)) = true := strs_lay ts h
  have h2 : PyData.depth (.list (ts.map PyData.str)) = 1 := by
    show PyData.depthAll (ts.map PyData.str) + 1 = 1
    rw [strs_flat ts]
  unfold SeqAt.shaped
  rw [h1, h2]
  rfl
theorem strs_all {K : PySem.W.Frag} {H : Hp} : ∀ ts : List Str, DpAll K H (ts.map V.str) (ts.map PyData.str)
  | [] => .nil
  | t :: ts => .cons (.str t) (strs_all ts)
theorem strs_dp {K : PySem.W.Frag} {H : Hp} {p : Addr} {ts : List Str} (h : H p = some (.lst (ts.map V.str))) : Dp K H (.ref p) (.list (ts.map PyData.str)) := .lst (SqL.of h) (strs_all ts)
theorem strs_same (ts : List Str) (h : ∀ t ∈ ts, PyData.strOk t = true) : PyData.eqv (.list (ts.map PyData.str)) (.list (ts.map PyData.str)) = true := SeqAt.eqv_refl _ (strs_lay ts h)
def rRepG : R2 := fun x y H Q => ∃ l k xs, x = .ref l ∧ y = .int k ∧ H l = some (.lst xs) ∧ -(2 ^ 63) ≤ k ∧ k < 2 ^ 63 ∧ xs.length * k.toNat ≤ sizeLine ∧ New H (.lst (List.replicate k.toNat xs).flatten) Q
theorem op_repG {X : Cx} : OpR X (binaryOp .Mult) rRepG := fun pins s σ H x y v u Q I rx ry ⟨l, k, xs, e1, e2, e3, e4, e5, e6, q⟩ => op_rep pins s σ H x y v u Q I rx ry ⟨l, k, xs, e1, e2, e3, e4, e5, e6, fun p n => q.at n⟩
end L2

set_option maxRecDepth 100000
set_option maxHeartbeats 4000000
namespace Mine
open PySem L2
abbrev s_rest_of : Stmt := top 31
abbrev s_stops_of : Stmt := top 30
theorem inV_ints {a : Int} : ∀ {ts : List Int}, inV (.int a) (ts.map V.int) = decide (a ∈ ts)
  | [] => by simp [inV]
  | t :: ts => by
    have ih := inV_ints (a := a) (ts := ts)
    unfold inV at ih ⊢
    rw [List.map_cons, List.any_cons, ih]
    show (t == a || decide (a ∈ ts)) = _
    by_cases h : t = a
    · subst h
      simp
    · have h2 : (t == a) = false := beq_eq_false_iff_ne.mpr h
      rw [h2, Bool.false_or]
      by_cases m : a ∈ ts
      · rw [decide_eq_true m, decide_eq_true (List.mem_cons_of_mem _ m)]
      · rw [decide_eq_false m, decide_eq_false (fun z => (List.mem_cons.mp z).elim (fun y => h y.symm) m)]
theorem flat_ints (ts : List Int) : (ts.map V.int).all flatV = true := by
  rw [List.all_map]
  exact List.all_eq_true.mpr fun _ _ => rfl
/-- min of the trail from where `at` stands, or `at` -/
def RestIs (ts : List Int) (a m : Int) : Prop := (a ∉ ts → m = a) ∧ ∀ j, ts[j]? = some a → (∀ i, i < j → ts[i]? ≠ some a) → m ∈ ts.drop j ∧ ∀ x ∈ ts.drop j, m ≤ x
def spRest (K : PySem.W.Frag) : Sp := fun vs H Q _ => ∃ (p : Addr) (ts : List Int) (a : Int), vs = [.ref p, .int a] ∧ H p = some (.lst (ts.map V.int)) ∧ ∀ (m : Int) (H' : Hp), Same H H' → RestIs ts a m → Q (.int m) H'
theorem first_at {a : Int} : ∀ {ts : List Int}, a ∈ ts → ∃ j : Nat, ts[j]? = some a ∧ ∀ i : Nat, i < j → ts[i]? ≠ some a
  | [], h => nomatch h
  | t :: ts, h => by
    by_cases e : t = a
    · exact ⟨0, by rw [e]; rfl, fun i hi => absurd hi (Nat.not_lt_zero i)⟩
    · obtain ⟨j, h1, h2⟩ := first_at (a := a) (ts := ts) ((List.mem_cons.mp h).elim (fun z => absurd z.symm e) id)
      refine ⟨j + 1, by simpa using h1, fun i hi => ?_⟩
      cases i with
      | zero => simpa using e
      | succ i => simpa using h2 i (by omega)
section
variable {P : Program} {w : World} {K : PySem.W.Frag} {mg : Str → Option Value} {base : Heap}
variable {fII fIW a_is_row a_is_index a_is_name a_is_text_in a_are_counts a_word_of a_are_nexts a_is_line a_line_of a_are_operations : Addr}
theorem sc_rest_of : FnScope ["trail", "at"] ["trail", "at"] (defScope s_rest_of) := ⟨rfl, rfl, rfl, by decide +kernel, rfl, by decide +kernel, by decide +kernel⟩
theorem ok_rest_of {f : Addr} {fd : FuncData} (F : Fun K "rest_of" "rest_of" s_rest_of f fd) (hmin : mg "min" = none) : FnOk P w K mg base CX0 1 f fd ["trail", "at"] (spRest K) := by
  refine F.ok sc_rest_of (fun vs H Q E h => ?_) (fun cdv A outer s H vs Q E hr h => ?_)
  · obtain ⟨p, ts, a, rfl, _⟩ := h
    rfl
  · obtain ⟨p, ts, a, rfl, hp, k⟩ := h
    refine ⟨_, (pss_cons (ps_if (pt_cmpR op_in_seq (pv 1) (pv 0) (by rfl)) (pss_one (ps_ret (pe_callB (cr_min rfl) (by rfl) hmin (by decide +kernel) (pa_cons (pe_slice sl_listG (pv 0) (po_some (pe_bm PySem.F.plainAttrs_list PySem.F.slot_list_index PySem.F.type_list_index mt_index (pv 0) (pa_cons (pv 1) pa_nil))) po_none) pa_nil)))) pss_nil)
      (pss_one (ps_ret (pv 1)))), ?_⟩
    refine ⟨_, rfl, _, rfl, p, _, rfl, .inl (SqL.of hp), rfl, flat_ints ts, _, rfl, ?_⟩
    show if inV (.int a) (ts.map V.int) = true then _ else _
    rw [inV_ints]
    refine ite2 (fun h1 => ?_) (fun h1 => ?_)
    · obtain ⟨j, hj, hf⟩ := first_at (of_decide_eq_true h1)
      have hjl : j < ts.length := (List.getElem?_eq_some_iff.mp hj).1
      refine ⟨_, rfl, _, rfl, .inl ⟨rfl, _, SqL.of hp⟩, _, rfl, p, _, _, j, .int a, rfl, rfl, SqL.of hp, rfl, flat_ints ts, by rw [List.getElem?_map, hj]; rfl, by show (a == a) = true; exact beq_self_eq_true a, fun m z hm hz => ?_, ?_⟩
      · rw [List.getElem?_map] at hz
        cases e : ts[m]? with
        | none => rw [e] at hz; cases hz
        | some b =>
          rw [e] at hz
          have e2 : V.int b = z := Option.some.inj hz
          subst e2
          show (b == a) = false
          exact beq_eq_false_iff_ne.mpr fun y => hf m hm (by rw [e, y])
      · refine ⟨_, rfl, p, _, rfl, SqL.of hp, fun q1 H1 n1 s1 e1 => ?_⟩
        have e2 : cutV (ts.map V.int) (some (j : Int)) none = (ts.drop j).map V.int := by
          unfold cutV
          rw [HT.sIx_nat, HT.sIx_none, List.length_map, Nat.min_eq_left (by omega), List.map_drop]
          exact List.take_of_length_le (by rw [List.length_drop, List.length_map]; omega)
        rw [e2] at e1
        refine ⟨q1, ts.drop j, rfl, SqL.of e1, by rw [List.length_drop]; omega, fun m h2 h3 => k m _ s1 ⟨fun z => absurd (of_decide_eq_true h1) z, fun j' hj' hf' => ?_⟩⟩
        have : j' = j := by
          by_cases lt : j' < j
          · exact absurd hj' (hf j' lt)
          · by_cases lt2 : j < j'
            · exact absurd hj (hf' j lt2)
            · omega
        subst this
        exact ⟨h2, h3⟩
    · exact ⟨_, rfl, k a _ (Same.refl _) ⟨fun _ => rfl, fun j hj _ => absurd (decide_eq_true (List.mem_of_getElem? hj)) h1⟩⟩
end
end Mine

set_option maxRecDepth 100000
set_option maxHeartbeats 4000000
namespace Mine
open PySem L2
def nxt (rs : List RowD) (i : Nat) : Nat := match rs[i]? with
  | some (.go k) => k.toNat
  | _ => i
def isGo (rs : List RowD) (i : Nat) : Bool := match rs[i]? with
  | some (.go _) => true
  | _ => false
def GoOk (rs : List RowD) : Prop := ∀ (i : Nat) (k : Int), rs[i]? = some (.go k) → 0 ≤ k ∧ k < rs.length
theorem nxt_lt {rs : List RowD} (h : GoOk rs) (i : Nat) (hi : i < rs.length) : nxt rs i < rs.length := by
  unfold nxt
  split
  · rename_i k e
    have := h i k e
    omega
  · exact hi
theorem nxt_fix {rs : List RowD} {i : Nat} (h : isGo rs i = false) : nxt rs i = i := by
  unfold isGo at h
  unfold nxt
  split
  · rename_i k e
    rw [e] at h
    cases h
  · rfl
abbrev way (rs : List RowD) (k i : Nat) : Nat := Mach.itr (nxt rs) k i
def stp (rs : List RowD) (i : Nat) : Nat := Mach.stopAt (nxt rs) rs.length i
theorem stp_way {rs : List RowD} (h : GoOk rs) : ∀ (k i : Nat), i < rs.length → stp rs (way rs k i) = stp rs i
  | 0, _, _ => rfl
  | k + 1, i, hi => by
    show stp rs (way rs k (nxt rs i)) = _
    rw [stp_way h k _ (nxt_lt h i hi)]
    exact Mach.stop_step (nxt_lt h) hi
/-- a list of ints by its places -/
def fl (n : Nat) (g : Nat → Int) : List V := (List.range n).map fun i => V.int (g i)
theorem fl_len {n : Nat} {g : Nat → Int} : (fl n g).length = n := by
  unfold fl
  rw [List.length_map, List.length_range]
theorem fl_get {n k : Nat} {g : Nat → Int} (h : k < n) : (fl n g)[k]? = some (V.int (g k)) := by
  unfold fl
  rw [List.getElem?_map, List.getElem?_range h]
  rfl
theorem fl_at {n k : Nat} {g : Nat → Int} (h : k < n) : atI (fl n g) (k : Int) = some (V.int (g k)) := atI_nat (fl_get h)
theorem fl_set {n k : Nat} {g : Nat → Int} {v : Int} (h : k < n) : (fl n g).set k (V.int v) = fl n (fun i => if i = k then v else g i) := by
  apply List.ext_getElem?
  intro i
  by_cases hi : i < n
  · rw [fl_get hi]
    by_cases e : i = k
    · subst e
      rw [List.getElem?_set_self (by rw [fl_len]; exact hi), if_pos rfl]
    · rw [List.getElem?_set_ne (Ne.symm e), fl_get hi, if_neg e]
  · rw [List.getElem?_eq_none (by rw [List.length_set, fl_len]; omega), List.getElem?_eq_none (by rw [fl_len]; omega)]
theorem fl_rep (n : Nat) : (List.replicate n [V.int (-1)]).flatten = fl n fun _ => -1 := by
  apply List.ext_getElem?
  intro i
  have e : (List.replicate n [V.int (-1)]).flatten = List.replicate n (V.int (-1)) := by simp
  rw [e]
  by_cases hi : i < n
  · rw [fl_get hi, List.getElem?_replicate, if_pos hi]
  · rw [List.getElem?_eq_none (by rw [List.length_replicate]; omega), List.getElem?_eq_none (by rw [fl_len]; omega)]
theorem ixn {n k : Nat} (h : k < n) : ixN n (k : Int) = some k := by
  unfold ixN
  rw [if_pos (by omega), if_pos (by omega)]
  simp
/-- the rows stand there as tuples -/
def Rows (H : Hp) (xs : List V) (rs : List RowD) : Prop := xs.length = rs.length ∧ ∀ (i : Nat) (r : RowD), rs[i]? = some r → ∃ x, xs[i]? = some x ∧ TRow H x r
theorem Rows.same {H H' : Hp} {xs : List V} {rs : List RowD} (s : Same H H') (h : Rows H xs rs) : Rows H' xs rs := ⟨h.1, fun i r e => by
  obtain ⟨x, h1, h2⟩ := h.2 i r e
  exact ⟨x, h1, h2.same s⟩⟩
def wordOf : RowD → Str
  | .ask _ _ => "ask"
  | .go _ => "go"
  | .fin _ => "end"
theorem TRow.head {H : Hp} {v : V} {r : RowD} (h : TRow H v r) : ∃ a xs, v = .ref a ∧ H a = some (.tup (.str (wordOf r) :: xs)) := by
  cases r with
  | ask op ns =>
    obtain ⟨a, t, e, h1, _⟩ := h
    exact ⟨a, _, e, h1⟩
  | go n =>
    obtain ⟨a, e, h1⟩ := h
    exact ⟨a, _, e, h1⟩
  | fin w =>
    obtain ⟨a, e, h1⟩ := h
    exact ⟨a, _, e, h1⟩
def spStops : Sp := fun vs H Q _ => ∃ (a : Addr) (xs : List V) (rs : List RowD), vs = [.ref a] ∧ H a = some (.lst xs) ∧ Rows H xs rs ∧ GoOk rs ∧ rs.length ≤ 100000 ∧ New H (.lst (fl rs.length fun i => (stp rs i : Int))) Q
/-- what holds ahead of the turn b of stops_of -/
structure StB (rs : List RowD) (b : Nat) (ss ws : Nat → Int) : Prop where
  any : ∀ i, i < rs.length → ss i = -1 ∨ ss i = stp rs i
  done : ∀ i, i < b → ss i = stp rs i
  ws : ∀ i, i < rs.length → ws i < b
/-- what holds within the walk from b, behind k steps -/
structure InW (rs : List RowD) (b k : Nat) (ss ws : Nat → Int) : Prop where
  go : ∀ j, j < k → isGo rs (way rs j b) = true
  new : ∀ j, j < k → ss (way rs j b) = -1
  mark : ∀ i, i < rs.length → (ws i = b ↔ ∃ j, j < k ∧ way rs j b = i)
  le : ∀ i, i < rs.length → ws i ≤ b
  ne : ∀ j j', j < j' → j' < k → way rs j b ≠ way rs j' b
/-- the walk's test -/
def goOn (rs : List RowD) (b k : Nat) (ss ws : Nat → Int) : Bool := decide (ss (way rs k b) < 0) && (!decide (ws (way rs k b) = b) && isGo rs (way rs k b))
theorem InW.room {rs : List RowD} {b k : Nat} {ss ws : Nat → Int} (ok : GoOk rs) (hb : b < rs.length) (w : InW rs b k ss ws) (h : ws (way rs k b) ≠ b) : k < rs.length := by
  have lt : ∀ j, way rs j b < rs.length := fun j => Mach.itr_lt (nxt_lt ok) j b hb
  have nd : ((List.range (k + 1)).map fun j => way rs j b).Nodup := by
    rw [List.Nodup, List.pairwise_map]
    refine List.Pairwise.imp_of_mem (fun {i j} hi hj l e => ?_) List.pairwise_lt_range
    have hj' := List.mem_range.mp hj
    by_cases q : j = k
    · subst q
      exact h (((w.mark _ (lt _)).mpr ⟨i, l, e⟩))
    · exact w.ne i j l (by omega) e
  have := Mach.pigeon _ _ nd (fun x hx => by
    obtain ⟨j, _, e⟩ := List.mem_map.mp hx
    rw [← e]
    exact lt j)
  rw [List.length_map, List.length_range] at this
  omega
theorem InW.more {rs : List RowD} {b k : Nat} {ss ws : Nat → Int} (ok : GoOk rs) (hb : b < rs.length) (w : InW rs b k ss ws) (h0 : ss (way rs k b) = -1) (h1 : ws (way rs k b) ≠ b) (h2 : isGo rs (way rs k b) = true) :
    InW rs b (k + 1) ss (fun i => if i = way rs k b then (b : Int) else ws i) := by
  have lt : ∀ j, way rs j b < rs.length := fun j => Mach.itr_lt (nxt_lt ok) j b hb
  refine ⟨fun j hj => ?_, fun j hj => ?_, fun i hi => ?_, fun i hi => ?_, fun j j' l hj e => ?_⟩
  · by_cases q : j = k
    · rw [q]
      exact h2
    · exact w.go j (by omega)
  · by_cases q : j = k
    · rw [q]
      exact h0
    · exact w.new j (by omega)
  · by_cases q : i = way rs k b
    · rw [if_pos q]
      exact ⟨fun _ => ⟨k, by omega, q.symm⟩, fun _ => rfl⟩
    · rw [if_neg q, w.mark i hi]
      constructor
      · rintro ⟨j, hj, e⟩
        exact ⟨j, by omega, e⟩
      · rintro ⟨j, hj, e⟩
        refine ⟨j, ?_, e⟩
        by_cases z : j = k
        · rw [z] at e
          exact absurd e.symm q
        · omega
  · show (if i = way rs k b then (b : Int) else ws i) ≤ b
    split
    · exact Int.le_refl _
    · exact w.le i hi
  · by_cases q : j' = k
    · subst q
      exact h1 (((w.mark _ (lt _)).mpr ⟨j, l, e⟩))
    · exact w.ne j j' l (by omega) e
/-- where the walk ends, what rest_of hands back is where it rests -/
theorem InW.rest {rs : List RowD} {b k : Nat} {ss ws : Nat → Int} (ok : GoOk rs) (hb : b < rs.length) (w : InW rs b k ss ws) (any : ∀ i, i < rs.length → ss i = -1 ∨ ss i = stp rs i) (hend : goOn rs b k ss ws = false) (neg : ss (way rs k b) < 0) {m : Int}
    (h : RestIs ((List.range k).map fun j => (way rs j b : Int)) (way rs k b : Int) m) : m = stp rs (way rs k b) := by
  have lt : ∀ j, way rs j b < rs.length := fun j => Mach.itr_lt (nxt_lt ok) j b hb
  by_cases mk : ws (way rs k b) = b
  · obtain ⟨j, hj, e⟩ := (w.mark _ (lt k)).mp mk
    have hget : ∀ i, i < k → ((List.range k).map fun j => (way rs j b : Int))[i]? = some (way rs i b : Int) := fun i hi => by
      rw [List.getElem?_map, List.getElem?_range hi]
      rfl
    obtain ⟨h1, h2⟩ := h.2 j (by rw [hget j hj, e]) (fun i hi z => by
      rw [hget i (by omega)] at z
      have z2 : (way rs i b : Int) = (way rs k b : Int) := Option.some.inj z
      exact w.ne i j hi hj (by omega))
    have hmem : ∀ x, x ∈ ((List.range k).map fun j => (way rs j b : Int)).drop j ↔ ∃ i, i < k - j ∧ x = (way rs i (way rs k b) : Int) := fun x => by
      have ee : ∀ i, way rs (j + i) b = way rs i (way rs k b) := fun i => by
        rw [← e]
        exact Mach.itr_add _ j i b
      constructor
      · intro hx
        obtain ⟨i, hi⟩ := List.mem_iff_getElem?.mp hx
        rw [List.getElem?_drop] at hi
        have hik : j + i < k := by
          have := (List.getElem?_eq_some_iff.mp hi).1
          simpa using this
        rw [hget _ hik] at hi
        have z : (way rs (j + i) b : Int) = x := Option.some.inj hi
        refine ⟨i, by omega, ?_⟩
        rw [← ee i]
        exact z.symm
      · rintro ⟨i, hi, rfl⟩
        refine List.mem_iff_getElem?.mpr ⟨i, ?_⟩
        rw [List.getElem?_drop, hget _ (by omega), ee i]
    obtain ⟨i0, hi0, e0⟩ := (hmem m).mp h1
    have st : stp rs (way rs k b) = way rs i0 (way rs k b) := by
      refine Mach.stop_ring (nxt_lt ok) (lt k) (m := k - j) (by omega) ?_ ⟨i0, hi0, rfl⟩ fun i hi => ?_
      · show way rs (k - j) (way rs k b) = way rs k b
        conv => lhs; rw [← e]
        show Mach.itr (nxt rs) (k - j) (Mach.itr (nxt rs) j b) = Mach.itr (nxt rs) k b
        rw [← Mach.itr_add]
        congr 1
        omega
      · have := h2 _ ((hmem _).mpr ⟨i, hi, rfl⟩)
        rw [e0] at this
        exact Int.ofNat_le.mp this
    rw [st]
    exact e0
  · have ng : isGo rs (way rs k b) = false := by
      unfold goOn at hend
      rw [decide_eq_true neg, decide_eq_false mk, Bool.true_and] at hend
      simpa using hend
    have hn : (way rs k b : Int) ∉ ((List.range k).map fun j => (way rs j b : Int)) := fun hx => by
      obtain ⟨j, hj, e⟩ := List.mem_map.mp hx
      have e2 : way rs j b = way rs k b := by omega
      have g := w.go j (List.mem_range.mp hj)
      rw [e2, ng] at g
      cases g
    rw [h.1 hn]
    have : stp rs (way rs k b) = way rs k b := Mach.stop_fix (nxt_lt ok) (lt k) (nxt_fix ng)
    rw [this]
end Mine

set_option maxRecDepth 100000
set_option maxHeartbeats 4000000
namespace Mine
open PySem L2
/-- both lists of marks stand there -/
structure At (H0 : Hp) (sa wa : Addr) (n : Nat) (ss ws : Nat → Int) (H : Hp) : Prop where
  same : Same H0 H
  s : H sa = some (.lst (fl n ss))
  w : H wa = some (.lst (fl n ws))
  ns : H0 sa = none
  nw : H0 wa = none
  ne : sa ≠ wa
theorem same_updN {H H' : Hp} {p : Addr} {o : HO} (s : Same H H') (n : H p = none) : Same H (upd H' p o) := fun b u e => by
  rw [upd_ne (ne_of_none e n)]
  exact s b u e
theorem At.go {H0 H H' : Hp} {sa wa : Addr} {n : Nat} {ss ws : Nat → Int} (t : At H0 sa wa n ss ws H) (s : Same H H') : At H0 sa wa n ss ws H' := ⟨t.same.trans s, s _ _ t.s, s _ _ t.w, t.ns, t.nw, t.ne⟩
def set1 (f : Nat → Int) (k : Nat) (v : Int) : Nat → Int := fun i => if i = k then v else f i
theorem At.setW {H0 H : Hp} {sa wa : Addr} {n k : Nat} {ss ws : Nat → Int} {v : Int} (t : At H0 sa wa n ss ws H) (h : k < n) : At H0 sa wa n ss (set1 ws k v) (upd H wa (.lst ((fl n ws).set k (V.int v)))) := by
  refine ⟨same_updN t.same t.nw, ?_, ?_, t.ns, t.nw, t.ne⟩
  · rw [upd_ne t.ne]
    exact t.s
  · rw [upd_same, fl_set h]
    rfl
theorem At.setS {H0 H : Hp} {sa wa : Addr} {n k : Nat} {ss ws : Nat → Int} {v : Int} (t : At H0 sa wa n ss ws H) (h : k < n) : At H0 sa wa n (set1 ss k v) ws (upd H sa (.lst ((fl n ss).set k (V.int v)))) := by
  refine ⟨same_updN t.same t.ns, ?_, ?_, t.ns, t.nw, t.ne⟩
  · rw [upd_same, fl_set h]
    rfl
  · rw [upd_ne (Ne.symm t.ne)]
    exact t.w
/-- a third list, made behind both -/
theorem At.other {H0 H : Hp} {sa wa ta : Addr} {n : Nat} {ss ws : Nat → Int} {o : HO} (t : At H0 sa wa n ss ws H) (h0 : H0 ta = none) (h1 : ta ≠ sa) (h2 : ta ≠ wa) : At H0 sa wa n ss ws (upd H ta o) := by
  refine ⟨same_updN t.same h0, ?_, ?_, t.ns, t.nw, t.ne⟩
  · rw [upd_ne (Ne.symm h1)]
    exact t.s
  · rw [upd_ne (Ne.symm h2)]
    exact t.w
theorem none_of {H H' : Hp} {p : Addr} (s : Same H H') (h : H' p = none) : H p = none := by
  cases e : H p with
  | none => rfl
  | some u =>
    rw [s _ _ e] at h
    cases h
def Up (rs : List RowD) (ss ss' : Nat → Int) : Prop := ∀ i, i < rs.length → ss' i = ss i ∨ ss' i = stp rs i
theorem Up.refl (rs : List RowD) (ss : Nat → Int) : Up rs ss ss := fun _ _ => .inl rfl
theorem Up.set {rs : List RowD} {ss ss' : Nat → Int} (u : Up rs ss ss') (k : Nat) : Up rs ss (set1 ss' k (stp rs k)) := fun i hi => by
  unfold set1
  by_cases e : i = k
  · rw [if_pos e, e]
    exact .inr rfl
  · rw [if_neg e]
    exact u i hi
theorem set1_same (f : Nat → Int) (k : Nat) (v : Int) : set1 f k v k = v := if_pos rfl
theorem Up.done {rs : List RowD} {ss ss' : Nat → Int} (u : Up rs ss ss') {i : Nat} (hi : i < rs.length) (h : ss i = stp rs i) : ss' i = stp rs i := (u i hi).elim (fun e => e.trans h) id
theorem Up.any {rs : List RowD} {ss ss' : Nat → Int} (u : Up rs ss ss') {i : Nat} (hi : i < rs.length) (h : ss i = -1 ∨ ss i = stp rs i) : ss' i = -1 ∨ ss' i = stp rs i := (u i hi).elim (fun e => by rw [e]; exact h) .inr
theorem set1_done {rs : List RowD} {ss : Nat → Int} {i : Nat} (h : ss i = stp rs i) (k : Nat) : set1 ss k (stp rs k) i = stp rs i := by
  unfold set1
  by_cases e : i = k
  · rw [if_pos e, e]
  · rw [if_neg e]
    exact h
theorem ask_go : ("ask" : Str) ≠ "go" := by decide +kernel
theorem end_go : ("end" : Str) ≠ "go" := by decide +kernel
theorem go_dec {rs : List RowD} {i : Nat} {r : RowD} (e : rs[i]? = some r) : decide (V.str (wordOf r) = V.str "go") = isGo rs i := by
  unfold isGo
  rw [e]
  cases r with
  | ask op ns => exact strNe ask_go
  | go k => exact strEq _
  | fin x => exact strNe end_go
theorem isGo_row {rs : List RowD} {i : Nat} (h : isGo rs i = true) : ∃ k, rs[i]? = some (.go k) := by
  unfold isGo at h
  split at h
  · rename_i k e
    exact ⟨k, e⟩
  · cases h
theorem InW.start {rs : List RowD} {b : Nat} {ss ws : Nat → Int} (t : StB rs b ss ws) : InW rs b 0 ss ws :=
  ⟨fun j hj => absurd hj (Nat.not_lt_zero _), fun j hj => absurd hj (Nat.not_lt_zero _), fun i hi => ⟨fun e => by have := t.ws i hi; omega, fun ⟨j, hj, _⟩ => absurd hj (Nat.not_lt_zero _)⟩, fun i hi => Int.le_of_lt (t.ws i hi), fun j j' _ hj => absurd hj (Nat.not_lt_zero _)⟩
theorem di {i j : Int} : decide (V.int i = V.int j) = decide (i = j) := by
  by_cases h : i = j
  · rw [decide_eq_true h, h]
    exact decide_eq_true rfl
  · rw [decide_eq_false h]
    exact decide_eq_false fun z => h (V.int.inj z)
theorem range_snoc (f : Nat → V) (k : Nat) : (List.range (k + 1)).map f = (List.range k).map f ++ [f k] := by
  rw [List.range_succ, List.map_append]
  rfl
theorem pt_imp {X : Cx} {e : Expr} {t t' : TT} (h : PT X e t) (m : ∀ σ H Q, t' σ H Q → t σ H Q) : PT X e t' := ⟨fun pins s σ H Q I q => h.run pins s σ H Q I (m σ H Q q)⟩
theorem ps_imp {X : Cx} {e : Stmt} {t t' : TS} (h : PS X e t) (m : ∀ D σ H, t' D σ H → t D σ H) : PS X e t' := ⟨fun pins s σ H D I q => h.run pins s σ H D I (m D σ H q)⟩
/-- the walk's test, as it is read -/
def tOn : TT := fun σ H Q => ∃ (a sa wa : Addr) (xs : List V) (rs : List RowD) (b k : Nat) (ss ws : Nat → Int) (v4 v6 : Option V), σ = [some (.ref a), some (.ref sa), some (.ref wa), some (.int b), v4, some (.int (way rs k b : Int)), v6] ∧
  H a = some (.lst xs) ∧ Rows H xs rs ∧ H sa = some (.lst (fl rs.length ss)) ∧ H wa = some (.lst (fl rs.length ws)) ∧ way rs k b < rs.length ∧ Q (goOn rs b k ss ws) H
theorem Rows.at {H : Hp} {xs : List V} {rs : List RowD} (r : Rows H xs rs) {i : Nat} (hi : i < rs.length) : ∃ (q : Addr) (zs : List V) (d : RowD), rs[i]? = some d ∧ xs[i]? = some (.ref q) ∧ TRow H (.ref q) d ∧ H q = some (.tup (.str (wordOf d) :: zs)) := by
  obtain ⟨x, h1, h2⟩ := r.2 i _ (List.getElem?_eq_getElem hi)
  obtain ⟨q, zs, rfl, h3⟩ := h2.head
  exact ⟨q, zs, _, List.getElem?_eq_getElem hi, h1, h2, h3⟩
/-- where the walk rests is set, if it is not known -/
def tSettle : TS := fun D σ H => ∃ (H0 : Hp) (sa wa ta : Addr) (rs : List RowD) (b k : Nat) (ss ws : Nat → Int) (v0 v6 : Option V), σ = [v0, some (.ref sa), some (.ref wa), some (.int b), some (.ref ta), some (.int (way rs k b : Int)), v6] ∧
  GoOk rs ∧ b < rs.length ∧ At H0 sa wa rs.length ss ws H ∧ ta ≠ sa ∧ H ta = some (.lst ((List.range k).map fun j => V.int (way rs j b : Int))) ∧ (∀ i, i < rs.length → ss i = -1 ∨ ss i = stp rs i) ∧ InW rs b k ss ws ∧ goOn rs b k ss ws = false ∧
  ∀ (ss' : Nat → Int) (H' : Hp), At H0 sa wa rs.length ss' ws H' → H' ta = some (.lst ((List.range k).map fun j => V.int (way rs j b : Int))) → Up rs ss ss' → ss' (way rs k b) = stp rs (way rs k b) → D.nx σ H'
section
variable {P : Program} {w : World} {K : PySem.W.Frag} {mg : Str → Option Value} {base : Heap}
variable {fII fIW a_rest : Addr}
theorem sc_stops_of : FnScope ["lines", "stops", "walks", "begin", "trail", "at", "passed"] ["lines"] (defScope s_stops_of) := ⟨rfl, rfl, rfl, by decide +kernel, rfl, by decide +kernel, by decide +kernel⟩
theorem ok_stops_of {f : Addr} {fd fd_rest : FuncData} (F : Fun K "stops_of" "stops_of" s_stops_of f fd) (T : TxtF K mg fII fIW) (h_range : mg "range" = none)
    (GR : FnOk P w K mg base CX0 1 a_rest fd_rest ["trail", "at"] (spRest K)) (b_rest : Binds K fd_rest ["trail", "at"] []) (g_rest : mg "rest_of" = some (.ref a_rest)) (k_rest : PySem.W.keepIn K (.ref a_rest) = true) : FnOk P w K mg base CX0 2 f fd ["lines"] spStops := by
  refine F.ok sc_stops_of (fun vs H Q E h => ?_) (fun cdv A outer s H vs Q E hr h => ?_)
  · obtain ⟨a, xs, rs, rfl, _⟩ := h
    rfl
  · obtain ⟨a, xs, rs, rfl, ha, rows, ok, big, k⟩ := h
    refine ⟨_, (pss_cons (ps_set (i := 1) sc_stops_of.nd rfl (Or.inl rfl) (pe_op op_repG (pe_lstG (pa_cons (pe_un un_neg pe_int) pa_nil)) (pe_callB call_len_seq (by rfl) T.b_len PySem.boot_len (pa_cons (pv 0) pa_nil))))
      (pss_cons (ps_set (i := 2) sc_stops_of.nd rfl (Or.inl rfl) (pe_op op_repG (pe_lstG (pa_cons (pe_un un_neg pe_int) pa_nil)) (pe_callB call_len_seq (by rfl) T.b_len PySem.boot_len (pa_cons (pv 0) pa_nil))))
      (pss_cons (ps_for PassesOwn.never rfl (pi_range1 (by rfl) h_range (pa_cons (pe_callB call_len_seq (by rfl) T.b_len PySem.boot_len (pa_cons (pv 0) pa_nil)) pa_nil)) (pg_name (i := 3) sc_stops_of.nd rfl (Or.inl rfl)) (pss_cons (ps_set (i := 4) sc_stops_of.nd rfl (Or.inl rfl) (pe_lstG pa_nil))
      (pss_cons (ps_set (i := 5) sc_stops_of.nd rfl (Or.inl rfl) (pv 3))
      (pss_cons (ps_while PassesOwn.never (pt_imp (t' := tOn) (PW.pt (pw_and (pt_cmpR op_lt (pe_ix ix_list (pv 1) (pv 5) (fun _ _ => rfl)) pe_int (nomark _)) (pw_and (pt_cmpR op_ne (pe_ix ix_list (pv 2) (pv 5) (fun _ _ => rfl)) (pv 3) (nomark _)) (pw_and1 (pt_cmpR op_eq (pe_ix ix_tup (pe_ix ix_list (pv 0) (pv 5) (fun _ _ => rfl)) pe_int (fun _ _ => rfl)) pe_str (nomark _)))))) (fun σ H Q q => by
      obtain ⟨a, sa, wa, xs, rs, b, k, ss, ws, v4, v6, rfl, ha, rows, hs, hw, lt, q⟩ := q
      obtain ⟨p, zs, d, ed, hx, _, hp⟩ := rows.at lt
      refine ⟨_, rfl, _, rfl, sa, _, _, _, rfl, rfl, SqL.of hs, fl_at lt, _, _, rfl, rfl, _, rfl, ?_⟩
      refine ite2 (fun h1 => ?_) (fun h1 => ?_)
      · refine ⟨_, rfl, _, rfl, wa, _, _, _, rfl, rfl, SqL.of hw, fl_at lt, _, rfl, rfl, _, rfl, ?_⟩
        rw [di]
        refine ite2 (fun h2 => ?_) (fun h2 => ?_)
        · refine ⟨_, rfl, _, rfl, a, xs, _, _, rfl, rfl, SqL.of ha, atI_nat hx, p, _, _, _, rfl, rfl, .inl (.inl hp), at0', rfl, _, rfl, ?_⟩
          rw [go_dec ed]
          have e : goOn rs b k ss ws = isGo rs (way rs k b) := by
            unfold goOn
            rw [h1, h2]
            rfl
          rw [e] at q
          exact q
        · have e : goOn rs b k ss ws = false := by
            unfold goOn
            rw [h1, Bool.eq_false_iff.mpr h2]
            rfl
          rw [e] at q
          exact q
      · have e : goOn rs b k ss ws = false := by
          unfold goOn
          rw [Bool.eq_false_iff.mpr h1]
          rfl
        rw [e] at q
        exact q)) (pss_cons (ps_asg (pv 3) (pg_sub (pv 2) (pv 5) set_list))
      (pss_cons (ps_expr (pe_bm PySem.F.plainAttrs_list PySem.F.slot_list_append PySem.F.type_list_append mt_append (pv 4) (pa_cons (pv 5) pa_nil)))
      (pss_one (ps_set (i := 5) sc_stops_of.nd rfl (Or.inl rfl) (pe_ix ix_tup (pe_ix ix_list (pv 0) (pv 5) (fun _ _ => rfl)) pe_int (fun _ _ => rfl)))))))
      (pss_cons (ps_imp (t' := tSettle) (ps_if (pt_cmpR op_lt (pe_ix ix_list (pv 1) (pv 5) (fun _ _ => rfl)) pe_int (nomark _)) (pss_one (ps_asg (pe_call GR (hr.mono (by decide)) (by rfl) g_rest k_rest b_rest .nil pass0 (pa_cons (pv 4) (pa_cons (pv 5) pa_nil))) (pg_sub (pv 1) (pv 5) set_list))) pss_nil) (fun D σ H q => by
      obtain ⟨H0, sa, wa, ta, rs, b, k, ss, ws, v0, v6, rfl, ok, hb, t, tas, et, any, iw, ge, kk⟩ := q
      have lt : way rs k b < rs.length := Mach.itr_lt (nxt_lt ok) k b hb
      refine ⟨_, rfl, _, rfl, sa, _, _, _, rfl, rfl, SqL.of t.s, fl_at lt, _, _, rfl, rfl, _, rfl, ?_⟩
      refine ite2 (fun h1 => ?_) (fun h1 => ?_)
      · refine ⟨_, rfl, _, rfl, ta, (List.range k).map fun j => (way rs j b : Int), _, rfl, by rw [et, List.map_map]; rfl, fun m H' s1 rest => ?_⟩
        refine ⟨_, rfl, _, rfl, sa, _, _, way rs k b, rfl, rfl, s1 _ _ t.s, by rw [fl_len]; exact ixn lt, ?_⟩
        have e := iw.rest ok hb any ge (of_decide_eq_true h1) rest
        subst e
        exact kk _ _ ((t.go s1).setS lt) (by rw [upd_ne tas]; exact s1 _ _ et) ((Up.refl _ _).set _) (set1_same _ _ _)
      · exact kk ss H t et (Up.refl _ _) ((any _ lt).elim (fun z => absurd (decide_eq_true (by omega)) h1) id)))
      (pss_one (ps_for PassesOwn.never rfl (pi_list (pv 4)) (pg_name (i := 6) sc_stops_of.nd rfl (Or.inl rfl)) (pss_one (ps_asg (pe_ix ix_list (pv 1) (pv 5) (fun _ _ => rfl)) (pg_sub (pv 1) (pv 6) set_list))))))))))
      (pss_one (ps_ret (pv 1)))))), ?_⟩
    have hl : (xs.length : Int) = rs.length := by rw [rows.1]
    have one : ∀ v : V, [v].length ≤ sizeLine := fun v => by rw [sizeLine_eq]; exact Nat.succ_le_of_lt (by decide)
    refine ⟨_, rfl, one _, fun p0 H1 n0 s1 e0 => ?_⟩
    have room : ∀ v : V, [v].length * (xs.length : Int).toNat ≤ sizeLine := fun v => by
      rw [sizeLine_eq, Int.toNat_natCast]
      have := rows.1
      show 1 * xs.length ≤ _
      omega
    refine ⟨_, rfl, a, xs, rfl, .inl (SqL.of (s1 _ _ ha)), ?_⟩
    refine ⟨p0, _, _, rfl, rfl, e0, by omega, by omega, room _, fun sa H2 n2 s2 e2 => ?_⟩
    refine ⟨_, rfl, one _, fun p1 H3 n3 s3 e3 => ?_⟩
    refine ⟨_, rfl, a, xs, rfl, .inl (SqL.of (s3 _ _ (s2 _ _ (s1 _ _ ha)))), ?_⟩
    refine ⟨p1, _, _, rfl, rfl, e3, by omega, by omega, room _, fun wa H4 n4 s4 e4 => ?_⟩
    have nsa : H sa = none := none_of s1 n2
    have nwa : H wa = none := none_of (s1.trans (s2.trans s3)) n4
    have nea : sa ≠ wa := fun z => by
      rw [← z, s3 _ _ e2] at n4
      cases n4
    have at0 : At H sa wa rs.length (fun _ => -1) (fun _ => -1) H4 := by
      refine ⟨s1.trans (s2.trans (s3.trans s4)), ?_, ?_, nsa, nwa, nea⟩
      · rw [s4 _ _ (s3 _ _ e2), Int.toNat_natCast, rows.1]
        exact congrArg (fun z => some (HO.lst z)) (fl_rep _)
      · rw [e4, Int.toNat_natCast, rows.1]
        exact congrArg (fun z => some (HO.lst z)) (fl_rep _)
    refine ⟨_, rfl, a, xs, rfl, .inl (SqL.of (s4 _ _ (s3 _ _ (s2 _ _ (s1 _ _ ha))))), ?_⟩
    rw [rows.1]
    refine ⟨_, rfl, by omega, by omega, for_range (n := rs.length) (fun b σ H' => ∃ (ss ws : Nat → Int) (v3 v4 v5 v6 : Option V), σ = [some (.ref a), some (.ref sa), some (.ref wa), v3, v4, v5, v6] ∧ At H sa wa rs.length ss ws H' ∧ StB rs b ss ws) ?_ (fun b σ H' hb z => ?_) (fun σ H' z => ?_)⟩
    · exact ⟨_, _, _, _, _, _, rfl, at0, fun _ _ => .inl rfl, fun i hi => absurd hi (Nat.not_lt_zero _), fun i hi => by show (-1 : Int) < 0; decide⟩
    · obtain ⟨ss, ws, v3, v4, v5, v6, rfl, t, stb⟩ := z
      have lt : ∀ j, way rs j b < rs.length := fun j => Mach.itr_lt (nxt_lt ok) j b hb
      have rowsIn : ∀ {H''}, Same H H'' → Rows H'' xs rs := fun s => rows.same s
      rw [Int.zero_add]
      refine ⟨Nat.zero_le _, fun ta H5 n5 s5 e5 => ?_⟩
      have t5 := t.go s5
      have nta : H ta = none := none_of t.same n5
      have tas : ta ≠ sa := fun z => by
        rw [z, t.s] at n5
        cases n5
      have taw : ta ≠ wa := fun z => by
        rw [z, t.w] at n5
        cases n5
      refine ⟨_, rfl, ?_⟩
      refine ⟨fun m σ H' => ∃ (k : Nat) (ws' : Nat → Int), m = rs.length - k ∧ σ = [some (.ref a), some (.ref sa), some (.ref wa), some (.int b), some (.ref ta), some (.int (way rs k b : Int)), v6] ∧ At H sa wa rs.length ss ws' H' ∧ H' ta = some (.lst ((List.range k).map fun j => V.int (way rs j b : Int))) ∧ InW rs b k ss ws', ⟨_, 0, ws, rfl, rfl, t5, e5, InW.start stb⟩, ?_⟩
      rintro m σ H' ⟨k', ws', rfl, rfl, t', et, iw⟩
      refine ⟨a, sa, wa, xs, rs, b, k', ss, ws', _, _, rfl, t'.same _ _ ha, rowsIn t'.same, t'.s, t'.w, lt k', ?_⟩
      refine ite2 (fun g => ?_) (fun g => ?_)
      · have g1 : ws' (way rs k' b) ≠ b ∧ isGo rs (way rs k' b) = true ∧ ss (way rs k' b) < 0 := by
          unfold goOn at g
          simp only [Bool.and_eq_true, decide_eq_true_eq, Bool.not_eq_true', decide_eq_false_iff_not] at g
          exact ⟨g.2.1, g.2.2, g.1⟩
        obtain ⟨g1, g2, g3⟩ := g1
        have g4 : ss (way rs k' b) = -1 := (stb.any _ (lt k')).elim id fun z => by omega
        obtain ⟨kk, hkk⟩ := isGo_row g2
        refine ⟨fun σ' H'' => ∃ ws'', σ' = [some (.ref a), some (.ref sa), some (.ref wa), some (.int b), some (.ref ta), some (.int (way rs (k' + 1) b : Int)), v6] ∧ At H sa wa rs.length ss ws'' H'' ∧ H'' ta = some (.lst ((List.range (k' + 1)).map fun j => V.int (way rs j b : Int))) ∧ InW rs b (k' + 1) ss ws'', fun σ' H'' ⟨ws'', z1, z2, z3, z4⟩ => ⟨rs.length - (k' + 1), by have := iw.room ok hb g1; omega, k' + 1, ws'', rfl, z1, z2, z3, z4⟩, ?_⟩
        refine ⟨_, rfl, _, rfl, _, rfl, wa, _, _, way rs k' b, rfl, rfl, t'.w, by rw [fl_len]; exact ixn (lt k'), ?_⟩
        have t2 := t'.setW (v := (b : Int)) (lt k')
        have et2 : upd H' wa (.lst ((fl rs.length ws').set (way rs k' b) (V.int b))) ta = some (.lst ((List.range k').map fun j => V.int (way rs j b : Int))) := by
          rw [upd_ne taw]
          exact et
        refine ⟨_, rfl, .inl ⟨rfl, _, SqL.of et2⟩, _, rfl, ta, _, _, rfl, rfl, et2, by rw [List.length_map, List.length_range, sizeLine_eq]; have := iw.room ok hb g1; omega, ?_⟩
        have t3 := t2.other (o := .lst ((List.range k').map (fun j => V.int (way rs j b : Int)) ++ [V.int (way rs k' b : Int)])) nta tas taw
        obtain ⟨x, hx1, hx2⟩ := rows.2 _ _ hkk
        obtain ⟨q, rfl, hq⟩ := hx2
        refine ⟨_, rfl, _, rfl, a, xs, _, _, rfl, rfl, SqL.of (t3.same _ _ ha), atI_nat hx1, q, _, _, _, rfl, rfl, .inl (.inl (t3.same _ _ hq)), at1', ?_⟩
        have e1 : kk = (way rs (k' + 1) b : Int) := by
          have : way rs (k' + 1) b = nxt rs (way rs k' b) := Mach.itr_succ _ _ _
          rw [this]
          unfold nxt
          rw [hkk]
          have := ok _ _ hkk
          show kk = (kk.toNat : Int)
          omega
        refine ⟨_, ?_, t3, ?_, iw.more ok hb g4 g1 g2⟩
        · rw [e1]
          rfl
        · rw [upd_same, range_snoc]
      · refine ⟨H, sa, wa, ta, rs, b, k', ss, ws', _, _, rfl, ok, hb, t', tas, et, stb.any, iw, Bool.eq_false_iff.mpr g, fun ss1 H6 t6 et6 up6 st6 => ?_⟩
        have stw : ∀ i, stp rs (way rs i b) = stp rs b := fun i => stp_way ok i b hb
        refine ⟨_, rfl, ta, rfl, ⟨_, SqL.of et6⟩, for_list (K := K) (a := ta) (xs := (List.range k').map fun j => V.int (way rs j b : Int)) (fun j σ H7 => ∃ (ss2 : Nat → Int) (v6 : Option V), σ = [some (.ref a), some (.ref sa), some (.ref wa), some (.int b), some (.ref ta), some (.int (way rs k' b : Int)), v6] ∧ At H sa wa rs.length ss2 ws' H7 ∧ H7 ta = some (.lst ((List.range k').map fun j => V.int (way rs j b : Int))) ∧ Up rs ss ss2 ∧ ss2 (way rs k' b) = stp rs b ∧ ∀ i, i < j → ss2 (way rs i b) = stp rs b)
          ⟨ss1, _, rfl, t6, et6, up6, by rw [st6, stw], fun i hi => absurd hi (Nat.not_lt_zero _)⟩ (fun i σ H7 _ z => by obtain ⟨_, _, _, _, z, _⟩ := z; exact SqL.of z) (fun j x σ H7 hx z => ?_) (fun σ H7 z => ?_)⟩
        · obtain ⟨ss2, w6, rfl, t7, et7, up7, st7, dn7⟩ := z
          have hj : j < k' := by
            have := (List.getElem?_eq_some_iff.mp hx).1
            rw [List.length_map, List.length_range] at this
            exact this
          rw [List.getElem?_map, List.getElem?_range hj] at hx
          have hx2 : V.int (way rs j b : Int) = x := Option.some.inj hx
          subst hx2
          refine ⟨_, rfl, _, rfl, sa, _, _, _, rfl, rfl, SqL.of t7.s, fl_at (lt k'), _, rfl, _, rfl, sa, _, _, way rs j b, rfl, rfl, t7.s, by rw [fl_len]; exact ixn (lt j), ?_⟩
          rw [st7]
          refine ⟨set1 ss2 (way rs j b) (stp rs b), _, rfl, t7.setS (lt j), ?_, ?_, ?_, fun i hi => ?_⟩
          · rw [upd_ne tas]
            exact et7
          · have := up7.set (way rs j b)
            rw [stw] at this
            exact this
          · have := set1_done (rs := rs) (ss := ss2) (i := way rs k' b) (by rw [st7, stw]) (way rs j b)
            rw [stw, stw] at this
            exact this
          · by_cases z : i = j
            · rw [z]
              exact set1_same _ _ _
            · have := set1_done (rs := rs) (ss := ss2) (i := way rs i b) (by rw [dn7 i (by omega), stw]) (way rs j b)
              rw [stw, stw] at this
              exact this
        · obtain ⟨ss2, w6, rfl, t7, et7, up7, st7, dn7⟩ := z
          refine ⟨ss2, ws', _, _, _, _, rfl, t7, fun i hi => up7.any hi (stb.any i hi), fun i hi => ?_, fun i hi => ?_⟩
          · by_cases z : i = b
            · subst z
              by_cases k0 : k' = 0
              · subst k0
                exact st7
              · exact dn7 0 (by rw [List.length_map, List.length_range]; omega)
            · exact up7.done (by omega) (stb.done i (by omega))
          · have := iw.le i hi
            omega
    · obtain ⟨ss, ws, v3, v4, v5, v6, rfl, t, stb⟩ := z
      have e : (fl rs.length ss) = fl rs.length fun i => (stp rs i : Int) := List.map_congr_left fun i hi => by rw [stb.done i (List.mem_range.mp hi)]
      exact ⟨_, rfl, k sa H' nsa t.same (by rw [t.s, e])⟩
end
end Mine

set_option maxRecDepth 100000
set_option maxHeartbeats 4000000
namespace Mine
open PySem L2
abbrev s_nexts_of : Stmt := top 33
abbrev s_rests_from : Stmt := top 32
def nextsD : RowD → List Int
  | .ask _ ns => ns
  | _ => []
def targets : RowD → List Int
  | .ask _ ns => ns
  | .go k => [k]
  | .fin _ => []
/-- all rows lead to rows -/
def Fit (rs : List RowD) : Prop := ∀ (i : Nat) (d : RowD), rs[i]? = some d → ∀ n ∈ targets d, 0 ≤ n ∧ n < rs.length
theorem Fit.go {rs : List RowD} (f : Fit rs) : GoOk rs := fun i k e => f i _ e k List.mem_cons_self
theorem Fit.nexts {rs : List RowD} (f : Fit rs) {i : Nat} {d : RowD} (e : rs[i]? = some d) {n : Int} (h : n ∈ nextsD d) : 0 ≤ n ∧ n < rs.length := f i d e n (by cases d <;> first | exact h | exact nomatch h)
def addTo (m : List Nat) (i : Nat) : List Nat := if i ∈ m then m else m ++ [i]
def grow (rs : List RowD) (m : List Nat) (ns : List Int) : List Nat := ns.foldl (fun m n => addTo m (stp rs n.toNat)) m
def metS (rs : List RowD) (m : List Nat) (d : Nat) : List Nat := match m[d]? with
  | some i => grow rs m (match rs[i]? with | some r => nextsD r | none => [])
  | none => m
def metAt (rs : List RowD) (b : Nat) : Nat → List Nat
  | 0 => [stp rs b]
  | d + 1 => metS rs (metAt rs b d) d
/-- the rows of rest that a run can come to, breadth first -/
def metOf (rs : List RowD) (b : Nat) : List Nat := metAt rs b rs.length
theorem stp_lt {rs : List RowD} (h : GoOk rs) {i : Nat} (hi : i < rs.length) : stp rs i < rs.length := Mach.stop_lt (nxt_lt h) hi
/-- no double, all below -/
def Few (n : Nat) (m : List Nat) : Prop := m.Nodup ∧ ∀ x ∈ m, x < n
theorem Few.len {n : Nat} {m : List Nat} (f : Few n m) : m.length ≤ n := Mach.pigeon n m f.1 f.2
theorem Few.add {n i : Nat} {m : List Nat} (f : Few n m) (h : i < n) : Few n (addTo m i) := by
  unfold addTo
  by_cases e : i ∈ m
  · rw [if_pos e]
    exact f
  · rw [if_neg e]
    refine ⟨?_, fun x hx => (List.mem_append.mp hx).elim (f.2 x) fun z => by rw [List.mem_singleton.mp z]; exact h⟩
    rw [List.nodup_append]
    exact ⟨f.1, by simp, fun x hx y hy z => by rw [List.mem_singleton.mp hy] at z; exact e (z ▸ hx)⟩
theorem grow_few {rs : List RowD} (ok : GoOk rs) : ∀ {ns : List Int} {m : List Nat}, Few rs.length m → (∀ n ∈ ns, 0 ≤ n ∧ n < rs.length) → Few rs.length (grow rs m ns)
  | [], _, f, _ => f
  | n :: ns, m, f, h => grow_few ok (ns := ns) (f.add (stp_lt ok (by have := h n List.mem_cons_self; omega))) fun x hx => h x (List.mem_cons_of_mem _ hx)
theorem add_len {m : List Nat} {i : Nat} : m.length ≤ (addTo m i).length := by
  unfold addTo
  split
  · exact Nat.le_refl _
  · rw [List.length_append]
    exact Nat.le_add_right _ _
theorem grow_len {rs : List RowD} : ∀ {ns : List Int} {m : List Nat}, m.length ≤ (grow rs m ns).length
  | [], _ => Nat.le_refl _
  | n :: ns, m => Nat.le_trans add_len (grow_len (ns := ns))
theorem metAt_few {rs : List RowD} (f : Fit rs) {b : Nat} (hb : b < rs.length) : ∀ d, Few rs.length (metAt rs b d)
  | 0 => ⟨by show [stp rs b].Nodup; simp, fun x hx => by rw [List.mem_singleton.mp hx]; exact stp_lt f.go hb⟩
  | d + 1 => by
    have ih := metAt_few f hb d
    show Few _ (metS rs (metAt rs b d) d)
    unfold metS
    split
    · rename_i i e
      refine grow_few f.go ih fun n hn => ?_
      split at hn
      · rename_i r er
        exact f.nexts er hn
      · exact nomatch hn
    · exact ih
theorem metAt_over {rs : List RowD} {b d : Nat} (h : (metAt rs b d).length ≤ d) : ∀ k, metAt rs b (d + k) = metAt rs b d
  | 0 => rfl
  | k + 1 => by
    have ih := metAt_over h k
    show metS rs (metAt rs b (d + k)) (d + k) = _
    rw [ih]
    unfold metS
    rw [List.getElem?_eq_none (by omega)]
theorem metAt_end {rs : List RowD} {b d : Nat} (hd : d ≤ rs.length) (h : (metAt rs b d).length ≤ d) : metAt rs b d = metOf rs b := by
  have := metAt_over h (rs.length - d)
  rw [show d + (rs.length - d) = rs.length by omega] at this
  exact this.symm
theorem metAt_step {rs : List RowD} {b d i : Nat} {r : RowD} (h : (metAt rs b d)[d]? = some i) (hr : rs[i]? = some r) : metAt rs b (d + 1) = grow rs (metAt rs b d) (nextsD r) := by
  show metS rs (metAt rs b d) d = _
  unfold metS
  rw [h]
  show grow rs _ (match rs[i]? with | some r => nextsD r | none => []) = _
  rw [hr]
def natsV (m : List Nat) : List V := m.map fun (i : Nat) => V.int (i : Int)
def knK (m : List Nat) : List (Key × V) := m.map fun (i : Nat) => (Sum.inl (i : Int), V.bl true)
theorem val_kn (m : List Nat) (j : Nat) : (valV (knK m) (.inl (j : Int))).isSome = decide (j ∈ m) := by
  induction m with
  | nil => rfl
  | cons i m ih =>
    by_cases h : i = j
    · subst h
      unfold knK
      rw [List.map_cons, valV_pos rfl]
      simp
    · have h2 : ¬ (Sum.inl (i : Int) : Key) = Sum.inl (j : Int) := fun z => h (by have := Sum.inl.inj z; omega)
      unfold knK at ih ⊢
      rw [List.map_cons, valV_neg h2, ih]
      by_cases q : j ∈ m
      · rw [decide_eq_true q, decide_eq_true (List.mem_cons_of_mem _ q)]
      · rw [decide_eq_false q, decide_eq_false (fun z => (List.mem_cons.mp z).elim (fun y => h y.symm) q)]
/-- both lists of what was met stand there -/
structure MetI (H0 : Hp) (ma ka : Addr) (m : List Nat) (H : Hp) : Prop where
  same : Same H0 H
  em : H ma = some (.lst (natsV m))
  ek : H ka = some (.dK (knK m))
  nm : H0 ma = none
  nk : H0 ka = none
  ne : ma ≠ ka
theorem MetI.go {H0 H H' : Hp} {ma ka : Addr} {m : List Nat} (t : MetI H0 ma ka m H) (s : Same H H') : MetI H0 ma ka m H' := ⟨t.same.trans s, s _ _ t.em, s _ _ t.ek, t.nm, t.nk, t.ne⟩
theorem MetI.put {H0 H : Hp} {ma ka : Addr} {m : List Nat} {i : Nat} (t : MetI H0 ma ka m H) (h : i ∉ m) : MetI H0 ma ka (addTo m i) (upd (upd H ka (.dK (putK (knK m) (.inl (i : Int)) (.bl true)))) ma (.lst (natsV m ++ [.int (i : Int)]))) := by
  have e : addTo m i = m ++ [i] := if_neg h
  refine ⟨same_updN (same_updN t.same t.nk) t.nm, ?_, ?_, t.nm, t.nk, t.ne⟩
  · rw [upd_same, e]
    unfold natsV
    rw [List.map_append]
    rfl
  · rw [upd_ne (Ne.symm t.ne), upd_same, putK_new, e]
    · unfold knK
      rw [List.map_append]
      rfl
    · have := val_kn m i
      rw [decide_eq_false h] at this
      cases q : valV (knK m) (.inl (i : Int)) with
      | none => rfl
      | some v =>
        rw [q] at this
        cases this
def spNextsOf : Sp := fun vs H Q _ => ∃ (q : Addr) (d : RowD), vs = [.ref q] ∧ TRow H (.ref q) d ∧ ∀ (t : Addr) (H' : Hp), Same H H' → H' t = some (.tup ((nextsD d).map V.int)) → Q (.ref t) H'
def spRests : Sp := fun vs H Q _ => ∃ (a sa : Addr) (xs : List V) (rs : List RowD) (b : Nat), vs = [.ref a, .ref sa, .int b] ∧ H a = some (.lst xs) ∧ Rows H xs rs ∧ Fit rs ∧ H sa = some (.lst (fl rs.length fun i => (stp rs i : Int))) ∧ b < rs.length ∧ rs.length ≤ 100000 ∧ New H (.lst (natsV (metOf rs b))) Q
section
variable {P : Program} {w : World} {K : PySem.W.Frag} {mg : Str → Option Value} {base : Heap}
variable {fII fIW a_nexts : Addr}
theorem sc_nexts_of : FnScope ["line"] ["line"] (defScope s_nexts_of) := ⟨rfl, rfl, rfl, by decide +kernel, rfl, by decide +kernel, by decide +kernel⟩
theorem ok_nexts_of {f : Addr} {fd : FuncData} (F : Fun K "nexts_of" "nexts_of" s_nexts_of f fd) : FnOk P w K mg base CX0 1 f fd ["line"] spNextsOf := by
  refine F.ok sc_nexts_of (fun vs H Q E h => ?_) (fun cdv A outer s H vs Q E hr h => ?_)
  · obtain ⟨q, d, rfl, _⟩ := h
    rfl
  · obtain ⟨q, d, rfl, row, k⟩ := h
    refine ⟨_, (pss_cons (ps_if (pt_cmpR op_eq (pe_ix ix_tup (pv 0) pe_int (fun _ _ => rfl)) pe_str (nomark _)) (pss_one (ps_ret (pe_ix ix_tup (pv 0) pe_int (fun _ _ => rfl)))) pss_nil)
      (pss_one (ps_ret (pe_tupG pa_nil)))), ?_⟩
    cases d with
    | ask op ns =>
      obtain ⟨a, t, e, h1, h2⟩ := row
      cases e
      refine ⟨_, rfl, _, _, _, _, rfl, rfl, .inl (.inl h1), at0', rfl, _, rfl, ?_⟩
      rw [strEq]
      refine iteT ?_
      exact ⟨_, rfl, _, _, _, _, rfl, rfl, .inl (.inl h1), at2', k t H (Same.refl _) h2⟩
    | go n =>
      obtain ⟨a, e, h1⟩ := row
      cases e
      refine ⟨_, rfl, _, _, _, _, rfl, rfl, .inl (.inl h1), at0', rfl, _, rfl, ?_⟩
      rw [strNe go_ask]
      refine iteF ?_
      exact ⟨Nat.zero_le _, fun t H' n s e => k t H' s e⟩
    | fin x =>
      obtain ⟨a, e, h1⟩ := row
      cases e
      refine ⟨_, rfl, _, _, _, _, rfl, rfl, .inl (.inl h1), at0', rfl, _, rfl, ?_⟩
      rw [strNe end_ask]
      refine iteF ?_
      exact ⟨Nat.zero_le _, fun t H' n s e => k t H' s e⟩
theorem sc_rests_from : FnScope ["lines", "stops", "begin", "met", "known", "done", "index"] ["lines", "stops", "begin"] (defScope s_rests_from) := ⟨rfl, rfl, rfl, by decide +kernel, rfl, by decide +kernel, by decide +kernel⟩
theorem ok_rests_from {f : Addr} {fd fd_nexts : FuncData} (F : Fun K "rests_from" "rests_from" s_rests_from f fd) (T : TxtF K mg fII fIW)
    (GN : FnOk P w K mg base CX0 1 a_nexts fd_nexts ["line"] spNextsOf) (b_nexts : Binds K fd_nexts ["line"] []) (g_nexts : mg "nexts_of" = some (.ref a_nexts)) (k_nexts : PySem.W.keepIn K (.ref a_nexts) = true) : FnOk P w K mg base CX0 2 f fd ["lines", "stops", "begin"] spRests := by
  refine F.ok sc_rests_from (fun vs H Q E h => ?_) (fun cdv A outer s H vs Q E hr h => ?_)
  · obtain ⟨a, sa, xs, rs, b, rfl, _⟩ := h
    rfl
  · obtain ⟨a, sa, xs, rs, b, rfl, ha, rows, fit, hs, hb, big, k⟩ := h
    refine ⟨_, (pss_cons (ps_set (i := 3) sc_rests_from.nd rfl (Or.inl rfl) (pe_lstG (pa_cons (pe_ix ix_list (pv 1) (pv 2) (fun _ _ => rfl)) pa_nil)))
      (pss_cons (ps_set (i := 4) sc_rests_from.nd rfl (Or.inl rfl) (pe_disp (pps_cons (pe_ix ix_list (pv 1) (pv 2) (fun _ _ => rfl)) pe_bl pps_nil) rfl rfl (fun z => by cases z) (by show 1 ≤ 15; decide)))
      (pss_cons (ps_set (i := 5) sc_rests_from.nd rfl (Or.inl rfl) pe_int)
      (pss_cons (ps_while PassesOwn.never (pt_cmpR op_lt (pv 5) (pe_callB call_len_seq (by rfl) T.b_len PySem.boot_len (pa_cons (pv 3) pa_nil)) (nomark _)) (pss_cons (ps_for PassesOwn.never rfl (pi_tup (pe_call GN (hr.mono (by decide)) (by rfl) g_nexts k_nexts b_nexts .nil pass0 (pa_cons (pe_ix ix_list (pv 0) (pe_ix ix_list (pv 3) (pv 5) (fun _ _ => rfl)) (fun _ _ => rfl)) pa_nil))) (pg_name (i := 6) sc_rests_from.nd rfl (Or.inl rfl)) (pss_one (ps_if (pt_cmp (pc_dnotin (hu_of hr) (pe_ix ix_list (pv 1) (pv 6) (fun _ _ => rfl)) (pv 4)) rfl) (pss_cons (ps_asg pe_bl (pg_sub (pv 4) (pe_ix ix_list (pv 1) (pv 6) (fun _ _ => rfl)) (set_dict (hu_of hr))))
      (pss_one (ps_expr (pe_bm PySem.F.plainAttrs_list PySem.F.slot_list_append PySem.F.type_list_append mt_append (pv 3) (pa_cons (pe_ix ix_list (pv 1) (pv 6) (fun _ _ => rfl)) pa_nil))))) pss_nil)))
      (pss_one (ps_aug (i := 5) sc_rests_from.nd rfl (Or.inl rfl) pe_int ip_add))))
      (pss_one (ps_ret (pv 3))))))), ?_⟩
    have one : ∀ v : V, [v].length ≤ sizeLine := fun v => by rw [sizeLine_eq]; exact Nat.succ_le_of_lt (by decide)
    refine ⟨_, rfl, _, rfl, sa, _, _, _, rfl, rfl, SqL.of hs, fl_at hb, one _, fun ma H1 n1 s1 e1 => ?_⟩
    refine fun ka nk => ?_
    have e2 : upd H1 ka (.dK []) sa = some (.lst (fl rs.length fun i => (stp rs i : Int))) := sameNew nk _ _ _ (s1 _ _ hs)
    refine ⟨_, rfl, _, rfl, sa, _, _, _, rfl, rfl, SqL.of e2, fl_at hb, ?_⟩
    refine ⟨upd_same, [(.inl (stp rs b : Int), .bl true)], rfl, by show 1 ≤ 15; decide, ?_⟩
    have mi : MetI H ma ka [stp rs b] (upd (upd H1 ka (.dK [])) ka (.dK (mergeK [] [(.inl (stp rs b : Int), .bl true)]))) := by
      have ne : ma ≠ ka := fun z => by
        rw [← z, e1] at nk
        cases nk
      refine ⟨?_, ?_, ?_, n1, none_of s1 nk, ne⟩
      · exact same_updN (same_updN s1 (none_of s1 nk)) (none_of s1 nk)
      · rw [upd_ne ne, upd_ne ne]
        exact e1
      · rw [upd_same]
        rfl
    refine ⟨fun m σ H' => ∃ (d : Nat) (v6 : Option V), m = rs.length - d ∧ σ = [some (.ref a), some (.ref sa), some (.int b), some (.ref ma), some (.ref ka), some (.int (d : Int)), v6] ∧ MetI H ma ka (metAt rs b d) H' ∧ d ≤ (metAt rs b d).length, ⟨_, 0, none, rfl, rfl, mi, Nat.zero_le _⟩, ?_⟩
    rintro m σ H' ⟨d, v6, rfl, rfl, t, hd⟩
    have few := metAt_few fit hb d
    have fl1 := few.len
    have nl : ∀ m : List Nat, (natsV m).length = m.length := fun m => List.length_map _
    refine ⟨_, rfl, _, rfl, ma, _, rfl, .inl (SqL.of t.em), _, _, rfl, rfl, _, rfl, ?_⟩
    rw [nl]
    refine ite2 (fun h1 => ?_) (fun h1 => ?_)
    · have hlt : d < (metAt rs b d).length := by
        have := of_decide_eq_true h1
        omega
      obtain ⟨i, ei⟩ : ∃ i, (metAt rs b d)[d]? = some i := ⟨_, List.getElem?_eq_getElem hlt⟩
      have hi : i < rs.length := few.2 _ (List.mem_of_getElem? ei)
      obtain ⟨q, zs, dd, ed, hx, row, hq⟩ := rows.at hi
      have st := metAt_step ei ed
      refine ⟨fun σ' H'' => ∃ v6, σ' = [some (.ref a), some (.ref sa), some (.int b), some (.ref ma), some (.ref ka), some (.int ((d + 1 : Nat) : Int)), v6] ∧ MetI H ma ka (metAt rs b (d + 1)) H'', fun σ' H'' ⟨v6, z1, z2⟩ => ⟨rs.length - (d + 1), by omega, d + 1, v6, rfl, z1, z2, by rw [st]; exact Nat.le_trans hlt grow_len⟩, ?_⟩
      have en : (natsV (metAt rs b d))[d]? = some (.int (i : Int)) := by
        unfold natsV
        rw [List.getElem?_map, ei]
        rfl
      refine ⟨_, rfl, _, rfl, _, rfl, ma, _, _, _, rfl, rfl, SqL.of t.em, atI_nat en, a, xs, _, _, rfl, rfl, SqL.of (t.same _ _ ha), atI_nat hx, q, dd, rfl, row.same t.same, fun tt H2 s2 et => ?_⟩
      refine ⟨tt, rfl, ⟨_, .inl (.inl et)⟩, for_tup (K := K) (a := tt) (xs := (nextsD dd).map V.int) (fun j σ H3 => ∃ v6, σ = [some (.ref a), some (.ref sa), some (.int b), some (.ref ma), some (.ref ka), some (.int (d : Int)), v6] ∧ MetI H ma ka (grow rs (metAt rs b d) ((nextsD dd).take j)) H3 ∧ H3 tt = some (.tup ((nextsD dd).map V.int))) ⟨_, rfl, t.go s2, et⟩ (fun j σ H3 _ z => by obtain ⟨_, _, _, z⟩ := z; exact .inl (.inl z)) (fun j x σ H3 hx z => ?_) (fun σ H3 z => ?_)⟩
      · obtain ⟨w6, rfl, t3, et3⟩ := z
        have hj : j < (nextsD dd).length := by
          have := (List.getElem?_eq_some_iff.mp hx).1
          rw [List.length_map] at this
          exact this
        have ej : (nextsD dd)[j]? = some (nextsD dd)[j] := List.getElem?_eq_getElem hj
        generalize (nextsD dd)[j] = n at ej
        rw [List.getElem?_map, ej] at hx
        have hx2 : V.int n = x := Option.some.inj hx
        subst hx2
        have mem := List.mem_of_getElem? ej
        obtain ⟨n0, n1⟩ := fit.nexts ed mem
        have e0 : n = (n.toNat : Int) := by omega
        have hn : n.toNat < rs.length := by omega
        have atS : atI (fl rs.length fun i => (stp rs i : Int)) n = some (V.int (stp rs n.toNat : Int)) := by
          conv => lhs; rw [e0]
          exact fl_at hn
        have few3 : Few rs.length (grow rs (metAt rs b d) ((nextsD dd).take j)) := grow_few fit.go few fun x hx => fit.nexts ed (List.mem_of_mem_take hx)
        have len3 := few3.len
        have tk : grow rs (metAt rs b d) ((nextsD dd).take (j + 1)) = addTo (grow rs (metAt rs b d) ((nextsD dd).take j)) (stp rs n.toNat) := by
          unfold grow
          rw [List.take_succ, ej, List.foldl_append]
          rfl
        refine ⟨_, rfl, _, rfl, sa, _, _, _, rfl, rfl, SqL.of (t3.same _ _ hs), atS, _, rfl, ka, _, rfl, .inl ⟨_, .inl (stp rs n.toNat : Int), .inl t3.ek, rfl, rfl⟩, _, rfl, ?_⟩
        rw [val_kn]
        refine ite2 (fun h2 => ?_) (fun h2 => ?_)
        · have nin : stp rs n.toNat ∉ grow rs (metAt rs b d) ((nextsD dd).take j) := fun z => by
            rw [decide_eq_true z] at h2
            cases h2
          have kl : (knK (grow rs (metAt rs b d) ((nextsD dd).take j))).length < sizeLine := by
            unfold knK
            rw [List.length_map, sizeLine_eq]
            omega
          refine ⟨_, rfl, _, rfl, _, rfl, sa, _, _, _, rfl, rfl, SqL.of (t3.same _ _ hs), atS, ka, _, rfl, .inl ⟨_, .inl (stp rs n.toNat : Int), t3.ek, rfl, kl, rfl⟩, ?_⟩
          have s4 : Same H (upd H3 ka (.dK (putK (knK (grow rs (metAt rs b d) ((nextsD dd).take j))) (.inl (stp rs n.toNat : Int)) (.bl true)))) := same_updN t3.same t3.nk
          have em4 : upd H3 ka (.dK (putK (knK (grow rs (metAt rs b d) ((nextsD dd).take j))) (.inl (stp rs n.toNat : Int)) (.bl true))) ma = some (.lst (natsV (grow rs (metAt rs b d) ((nextsD dd).take j)))) := by
            rw [upd_ne t3.ne]
            exact t3.em
          refine ⟨_, rfl, .inl ⟨rfl, _, SqL.of em4⟩, _, rfl, _, rfl, sa, _, _, _, rfl, rfl, SqL.of (s4 _ _ hs), atS, ma, _, _, rfl, rfl, em4, by rw [nl, sizeLine_eq]; omega, ?_⟩
          refine ⟨_, rfl, by rw [tk]; exact t3.put nin, ?_⟩
          have a1 : tt ≠ ma := fun z => by
            rw [z, t3.em] at et3
            cases et3
          have a2 : tt ≠ ka := fun z => by
            rw [z, t3.ek] at et3
            cases et3
          rw [upd_ne a1, upd_ne a2]
          exact et3
        · have yin : stp rs n.toNat ∈ grow rs (metAt rs b d) ((nextsD dd).take j) := by
            by_cases z : stp rs n.toNat ∈ grow rs (metAt rs b d) ((nextsD dd).take j)
            · exact z
            · rw [decide_eq_false z] at h2
              exact absurd rfl h2
          have ad : addTo (grow rs (metAt rs b d) ((nextsD dd).take j)) (stp rs n.toNat) = grow rs (metAt rs b d) ((nextsD dd).take j) := if_pos yin
          exact ⟨_, rfl, by rw [tk, ad]; exact t3, et3⟩
      · obtain ⟨w6, rfl, t3, et3⟩ := z
        refine ⟨_, rfl, _, _, rfl, rfl, _, rfl, ?_⟩
        rw [List.length_map, List.take_length, ← st] at t3
        exact t3
    · have hge : (metAt rs b d).length ≤ d := by
        by_cases z : (metAt rs b d).length ≤ d
        · exact z
        · exact absurd (decide_eq_true (by omega)) h1
      exact ⟨_, rfl, k ma H' t.nm t.same (by rw [t.em, metAt_end (by omega) hge])⟩
end
end Mine

set_option maxRecDepth 100000
set_option maxHeartbeats 4000000
namespace L2
open PySem PySem.Spec PyProof.Rows
/-- a dict comprehension over a list that stays -/
theorem dc_list {K : PySem.W.Frag} {a : Addr} {xs : List V} {g : TG} {tt : TT} {tk tv : TE} {vs : List Nat} {σ : St} {H1 : Hp} {D : Addr} {Qd : Hp → Prop} (Pv : Nat → Hp → Prop) (h0 : Pv 0 (upd H1 D (.dK []))) (hl : ∀ i H, i ≤ xs.length → Pv i H → SqL K H a xs)
    (hs : ∀ i x H, xs[i]? = some x → Pv i H → g x (wipe σ vs) H fun σ2 H2 => wipe σ2 vs = wipe σ vs ∧ tt σ2 H2 fun b H3 =>
      if b = true then tk σ2 H3 fun y H4 => tv σ2 H4 fun z H5 => ∃ kvs k, y = kV k ∧ H5 D = some (.dK kvs) ∧ kvs.length < sizeLine ∧ Pv (i + 1) (upd H5 D (.dK (putK kvs k z))) else Pv (i + 1) H3) (hd : ∀ H, Pv xs.length H → Qd H) :
    ∃ W : Nat → Nat → Hp → Prop, (∃ m, W 0 m (upd H1 D (.dK []))) ∧ ∀ i m H, W i m H →
      ((Itl K a).stop i H ∧ Qd H) ∨ ((Itl K a).go i H ∧ ∃ Nx : Hp → Prop, (∀ H', Nx H' → ∃ m', m' < m ∧ W (i + 1) m' H') ∧ ∀ x H', (Itl K a).yld i H x H' → g x (wipe σ vs) H' fun σ2 H2 => wipe σ2 vs = wipe σ vs ∧ tt σ2 H2 fun b H3 =>
        if b = true then tk σ2 H3 fun y H4 => tv σ2 H4 fun z H5 => ∃ kvs k, y = kV k ∧ H5 D = some (.dK kvs) ∧ kvs.length < sizeLine ∧ Nx (upd H5 D (.dK (putK kvs k z))) else Nx H3) := by
  refine ⟨fun i m H => m = xs.length - i ∧ i ≤ xs.length ∧ Pv i H, ⟨xs.length, by simp, Nat.zero_le _, h0⟩, ?_⟩
  rintro i m H ⟨rfl, hi, p⟩
  have q := hl i H hi p
  by_cases hlt : i < xs.length
  · refine .inr ⟨⟨xs, xs[i], q, by simp [hlt]⟩, Pv (i + 1), fun H' p' => ⟨xs.length - (i + 1), by omega, rfl, hlt, p'⟩, fun x H' y => ?_⟩
    obtain ⟨e, y⟩ := y
    subst e
    exact hs i x _ (y xs q) p
  · have e : i = xs.length := by omega
    subst e
    exact .inl ⟨⟨xs, q, Nat.le_refl _⟩, hd H p⟩
end L2
namespace Mine
open PySem L2
abbrev s_in_order : Stmt := top 23
abbrev s_firsts_of : Stmt := top 35
theorem Rd.same {H H' : Hp} {a : Addr} {o : HO} (s : Same H H') (h : Rd H a o) : Rd H' a o := h.elim (fun z => .inl (s _ _ z)) fun ⟨od, z⟩ => .inr ⟨od, s _ _ z⟩
/-- the number of a name -/
def lookI (o : Ops) (x : Str) : Int := (opLook o x).getD 0
theorem look_mem : ∀ {o : Ops}, (o.map (·.1)).Nodup → ∀ p ∈ o, opLook o p.1 = some p.2
  | p0 :: o, nd, p, h => by
    rw [List.map_cons, List.nodup_cons] at nd
    rcases List.mem_cons.mp h with e | h
    · subst e
      simp [opLook]
    · have ne : p0.1 ≠ p.1 := fun z => nd.1 (z ▸ List.mem_map_of_mem h)
      have ih := look_mem nd.2 p h
      unfold opLook at ih ⊢
      rw [List.find?_cons, decide_eq_false ne]
      exact ih
theorem look_some {o : Ops} (nd : (o.map (·.1)).Nodup) {x : Str} (h : x ∈ o.map (·.1)) : opLook o x = some (lookI o x) := by
  obtain ⟨p, hp, rfl⟩ := List.mem_map.mp h
  unfold lookI
  rw [look_mem nd p hp]
  rfl
def pick (o : Ops) (ys : List Str) : Ops := ys.map fun y => (y, lookI o y)
theorem pick_perm {o : Ops} (nd : (o.map (·.1)).Nodup) {ys : List Str} (p : ys.Perm (o.map (·.1))) : (pick o ys).Perm o := by
  have e : o = pick o (o.map (·.1)) := by
    unfold pick
    rw [List.map_map]
    refine (List.map_id o).symm.trans (List.map_congr_left fun q hq => ?_)
    show q = (q.1, lookI o q.1)
    unfold lookI
    rw [look_mem nd q hq]
    rfl
  conv => rhs; rw [e]
  exact p.map _
theorem pick_names {o : Ops} {ys : List Str} : (pick o ys).map (·.1) = ys := by
  unfold pick
  rw [List.map_map]
  exact List.map_id ys
theorem opsK_keys (o : Ops) : (opsK o).map (·.1) = (o.map (·.1)).map Sum.inr := by
  unfold opsK
  rw [List.map_map, List.map_map]
  rfl
theorem opsK_len (o : Ops) : (opsK o).length = o.length := List.length_map _
/-- the same operations, sorted -/
def Ordered (o o' : Ops) : Prop := o'.Perm o ∧ PyProof.Rows.sortedS (o'.map (·.1)) = true
def spOrder : Sp := fun vs H Q _ => ∃ (t : Addr) (o : Ops), vs = [.ref t] ∧ Rd H t (.dK (opsK o)) ∧ (o.map (·.1)).Nodup ∧ o.length < 64 ∧ ∀ o', Ordered o o' → New H (.dK (opsK o')) Q
theorem val_new {o : Ops} {ys : List Str} {i : Nat} {y : Str} (nd : ys.Nodup) (h : ys[i]? = some y) : valV (opsK (pick o (ys.take i))) (.inr y) = none := by
  rw [val_ops]
  have : opLook (pick o (ys.take i)) y = none := by
    unfold opLook
    rw [List.find?_eq_none.mpr]
    · rfl
    · intro p hp
      unfold pick at hp
      obtain ⟨z, hz, rfl⟩ := List.mem_map.mp hp
      intro q
      have e : z = y := of_decide_eq_true q
      subst e
      obtain ⟨j, hj⟩ := List.mem_iff_getElem?.mp hz
      rw [List.getElem?_take] at hj
      split at hj
      · rename_i lt
        have hjl := (List.getElem?_eq_some_iff.mp hj).1
        have hil := (List.getElem?_eq_some_iff.mp h).1
        have := (List.getElem?_inj hjl nd).mp (hj.trans h.symm)
        omega
      · cases hj
  rw [this]
  rfl
section
variable {P : Program} {w : World} {K : PySem.W.Frag} {mg : Str → Option Value} {base : Heap}
theorem sc_in_order : FnScope ["table", "name"] ["table"] (defScope s_in_order) := ⟨rfl, rfl, rfl, by decide +kernel, rfl, by decide +kernel, by decide +kernel⟩
theorem ok_in_order {f : Addr} {fd : FuncData} (F : Fun K "in_order" "in_order" s_in_order f fd) (h_sorted : mg "sorted" = none) : FnOk P w K mg base CX0 1 f fd ["table"] spOrder := by
  refine F.ok sc_in_order (fun vs H Q E h => ?_) (fun cdv A outer s H vs Q E hr h => ?_)
  · obtain ⟨t, o, rfl, _⟩ := h
    rfl
  · obtain ⟨t, o, rfl, ht, nd, few, k⟩ := h
    refine ⟨_, (pss_one (ps_ret (pe_dc (own := [("name", 1)]) (g := gName 1) (tt := tYes) rfl sc_in_order.nd (pi_list (pe_callB (call_sortedD rfl) (by rfl) h_sorted (by decide +kernel) (pa_cons (pv 0) pa_nil))) (blkOk_by (own := [("name", 1)]) (N := ["table", "name"]) (sc := defScope s_in_order) (by decide +kernel)) (fun _ _ _ _ _ => pg_name (i := 1) sc_in_order.nd rfl (Or.inl rfl)) (fun _ _ _ _ _ => pts_nil) (fun _ _ _ _ _ => pv 1) (fun _ _ _ _ _ => pe_dget (hu_of hr) (pv 0) (pv 1) (fun _ _ => rfl))))), ?_⟩
    refine ⟨_, rfl, t, _, o.map (·.1), rfl, ht, opsK_keys o, by rw [List.length_map]; exact few, fun ys p perm srt np => ?_⟩
    have nd2 : ys.Nodup := perm.nodup_iff.mpr nd
    have yl : ys.length < 64 := by
      have := perm.length_eq
      rw [List.length_map] at this
      omega
    refine ⟨p, rfl, ⟨_, SqL.of upd_same⟩, fun D nD => dc_list (xs := ys.map V.str) (fun i Hx => Same H Hx ∧ Hx p = some (.lst (ys.map V.str)) ∧ H D = none ∧ Hx D = some (.dK (opsK (pick o (ys.take i))))) ?_ (fun i Hx _ z => SqL.of z.2.1) (fun i x Hx hx z => ?_) (fun Hx z => ?_)⟩
    · have nD0 : H D = none := none_of (sameNew np _) nD
      have ne : p ≠ D := fun z => by
        rw [← z, upd_same] at nD
        cases nD
      refine ⟨same_updN (sameNew np _) nD0, ?_, nD0, upd_same⟩
      rw [upd_ne ne, upd_same]
    · obtain ⟨z1, z2, z3, z4⟩ := z
      have hi : i < ys.length := by
        have := (List.getElem?_eq_some_iff.mp hx).1
        rw [List.length_map] at this
        exact this
      have ey : ys[i]? = some ys[i] := List.getElem?_eq_getElem hi
      generalize ys[i] = y at ey
      rw [List.getElem?_map, ey] at hx
      have hx2 : V.str y = x := Option.some.inj hx
      subst hx2
      have my : y ∈ o.map (·.1) := perm.mem_iff.mp (List.mem_of_getElem? ey)
      refine ⟨rfl, ?_⟩
      unfold tYes
      simp only [↓reduceIte]
      refine ⟨_, rfl, _, rfl, _, rfl, t, _, rfl, .inl ⟨opsK o, .inr y, Rd.same z1 ht, rfl, (by rw [val_ops, look_some nd my]; rfl)⟩, _, .inr y, rfl, z4, ?_, same_updN z1 z3, ?_, z3, ?_⟩
      · rw [opsK_len, sizeLine_eq]
        unfold pick
        rw [List.length_map, List.length_take]
        omega
      · have ne : p ≠ D := fun z => by
          rw [← z] at z4
          rw [z4] at z2
          cases z2
        rw [upd_ne ne]
        exact z2
      · rw [upd_same, putK_new _ (val_new nd2 ey)]
        unfold pick
        rw [List.take_succ, ey, List.map_append]
        unfold opsK
        rw [List.map_append]
        rfl
    · obtain ⟨z1, z2, z3, z4⟩ := z
      rw [List.length_map, List.take_length] at z4
      exact k _ ⟨pick_perm nd perm, by rw [pick_names]; exact srt⟩ D Hx z3 z1 z4
end
def nameOf : RowD → Str
  | .ask op _ => op
  | .go _ => ""
  | .fin x => x
def addStr (m : List Str) (t : Str) : List Str := if t ∈ m then m else m ++ [t]
def takeIn (x : Str) (m : List Str) (d : RowD) : List Str := if wordOf d = x then addStr m (nameOf d) else m
/-- what stands behind the word, each once -/
def distinct (x : Str) (ds : List RowD) : List Str := ds.foldl (takeIn x) []
def tks (m : List Str) : List (Key × V) := m.map fun t => (Sum.inr t, V.bl true)
theorem val_tks (m : List Str) (t : Str) : (valV (tks m) (.inr t)).isSome = decide (t ∈ m) := by
  induction m with
  | nil => simp [tks, valV_nil]
  | cons y m ih =>
    by_cases h : y = t
    · subst h
      unfold tks
      rw [List.map_cons, valV_pos rfl]
      simp
    · have h2 : ¬ (Sum.inr y : Key) = Sum.inr t := fun z => h (Sum.inr.inj z)
      unfold tks at ih ⊢
      rw [List.map_cons, valV_neg h2, ih]
      by_cases q : t ∈ m
      · rw [decide_eq_true q, decide_eq_true (List.mem_cons_of_mem _ q)]
      · rw [decide_eq_false q, decide_eq_false (fun z => (List.mem_cons.mp z).elim (fun y => h y.symm) q)]
theorem put_tks (m : List Str) (t : Str) : putK (tks m) (.inr t) (.bl true) = tks (addStr m t) := by
  unfold addStr
  by_cases q : t ∈ m
  · rw [if_pos q]
    unfold putK
    have := val_tks m t
    rw [valV_any, this, decide_eq_true q, if_pos rfl]
    unfold tks
    rw [List.map_map]
    refine List.map_congr_left fun y _ => ?_
    show (if (Sum.inr y : Key) = Sum.inr t then ((Sum.inr y : Key), V.bl true) else (Sum.inr y, V.bl true)) = _
    split <;> rfl
  · rw [if_neg q]
    have := val_tks m t
    rw [decide_eq_false q] at this
    cases e : valV (tks m) (.inr t) with
    | none =>
      rw [putK_new _ e]
      unfold tks
      rw [List.map_append]
      rfl
    | some v =>
      rw [e] at this
      cases this
theorem addStr_len (m : List Str) (t : Str) : (addStr m t).length ≤ m.length + 1 := by
  unfold addStr
  split
  · omega
  · rw [List.length_append]
    exact Nat.le_refl _
theorem fold_len (x : Str) : ∀ (ds : List RowD) (m : List Str), (ds.foldl (takeIn x) m).length ≤ m.length + ds.length
  | [], _ => Nat.le_refl _
  | d :: ds, m => by
    have h := fold_len x ds (takeIn x m d)
    have h2 : (takeIn x m d).length ≤ m.length + 1 := by
      unfold takeIn
      split
      · exact addStr_len _ _
      · omega
    show (ds.foldl (takeIn x) (takeIn x m d)).length ≤ m.length + (ds.length + 1)
    omega
theorem distinct_len (x : Str) (ds : List RowD) : (distinct x ds).length ≤ ds.length := by
  have := fold_len x ds []
  rw [List.length_nil, Nat.zero_add] at this
  exact this
theorem distinct_snoc {x : Str} {ds : List RowD} {i : Nat} {d : RowD} (h : ds[i]? = some d) : distinct x (ds.take (i + 1)) = takeIn x (distinct x (ds.take i)) d := by
  unfold distinct
  rw [List.take_succ, h, List.foldl_append]
  rfl
def IsFirsts (x : Str) (ds : List RowD) (ys : List Str) : Prop := ys.Perm (distinct x ds) ∧ PyProof.Rows.sortedS ys = true
def spFirsts : Sp := fun vs H Q _ => ∃ (l : Addr) (xs : List V) (ds : List RowD) (x : Str), vs = [.ref l, .str x] ∧ x ≠ "go" ∧ H l = some (.lst xs) ∧ Rows H xs ds ∧ ds.length ≤ 100000 ∧ (distinct x ds).length < 64 ∧ ∀ ys, IsFirsts x ds ys → New H (.lst (ys.map V.str)) Q
theorem TRow.name {H : Hp} {v : V} {d : RowD} (h : TRow H v d) (g : wordOf d ≠ "go") : ∃ (a : Addr) (zs : List V), v = .ref a ∧ H a = some (.tup (.str (wordOf d) :: .str (nameOf d) :: zs)) := by
  cases d with
  | ask op ns =>
    obtain ⟨a, t, e, h1, _⟩ := h
    exact ⟨a, _, e, h1⟩
  | go n => exact absurd rfl g
  | fin x =>
    obtain ⟨a, e, h1⟩ := h
    exact ⟨a, _, e, h1⟩
section
variable {P : Program} {w : World} {K : PySem.W.Frag} {mg : Str → Option Value} {base : Heap}
theorem sc_firsts_of : FnScope ["lines", "word", "line"] ["lines", "word"] (defScope s_firsts_of) := ⟨rfl, rfl, rfl, by decide +kernel, rfl, by decide +kernel, by decide +kernel⟩
theorem ok_firsts_of {f : Addr} {fd : FuncData} (F : Fun K "firsts_of" "firsts_of" s_firsts_of f fd) (h_sorted : mg "sorted" = none) : FnOk P w K mg base CX0 1 f fd ["lines", "word"] spFirsts := by
  refine F.ok sc_firsts_of (fun vs H Q E h => ?_) (fun cdv A outer s H vs Q E hr h => ?_)
  · obtain ⟨l, xs, ds, x, rfl, _⟩ := h
    rfl
  · obtain ⟨l, xs, ds, x, rfl, ng, hl, rows, big, few, k⟩ := h
    refine ⟨_, (pss_one (ps_ret (pe_callB (call_sortedD rfl) (by rfl) h_sorted (by decide +kernel) (pa_cons (pe_dc (own := [("line", 2)]) (g := gName 2) rfl sc_firsts_of.nd (pi_list (pv 0)) (blkOk_by (own := [("line", 2)]) (N := ["lines", "word", "line"]) (sc := defScope s_firsts_of) (by decide +kernel)) (fun _ _ _ _ _ => pg_name (i := 2) sc_firsts_of.nd rfl (Or.inl rfl)) (fun _ _ _ _ _ => pts_one (pt_cmpR op_eq (pe_ix (show IxR _ (rIxT K) from ix_tup) (pv 2) pe_int (fun _ _ => rfl)) (pv 1) (nomark _))) (fun _ _ _ _ _ => (pe_ix (show IxR _ (rIxT K) from ix_tup) (pv 2) pe_int (fun _ _ => rfl))) (fun _ _ _ _ _ => pe_bl)) pa_nil)))), ?_⟩
    refine ⟨_, rfl, l, rfl, ⟨_, SqL.of hl⟩, fun D nD => dc_list (xs := xs) (fun i Hx => Same H Hx ∧ Hx D = some (.dK (tks (distinct x (ds.take i))))) ⟨sameNew nD _, upd_same⟩ (fun i Hx _ z => SqL.of (z.1 _ _ hl)) (fun i y Hx hy z => ?_) (fun Hx z => ?_)⟩
    · obtain ⟨z1, z2⟩ := z
      have hi : i < ds.length := by
        have := (List.getElem?_eq_some_iff.mp hy).1
        have := rows.1
        omega
      obtain ⟨q, zs, d, ed, hx, row, hq⟩ := rows.at hi
      rw [hy] at hx
      cases hx
      refine ⟨rfl, ?_⟩
      refine ⟨_, rfl, _, _, _, _, rfl, rfl, .inl (.inl (z1 _ _ hq)), at0', _, rfl, rfl, _, rfl, ?_⟩
      by_cases hw : wordOf d = x
      · rw [hw, strEq]
        simp only [↓reduceIte]
        obtain ⟨q2, zs2, e2, hq2⟩ := row.name (by rw [hw]; exact ng)
        cases e2
        refine ⟨_, rfl, _, _, _, _, rfl, rfl, .inl (.inl (z1 _ _ hq2)), at1', _, .inr (nameOf d), rfl, z2, ?_, same_updN z1 nD, ?_⟩
        · have := distinct_len x (ds.take i)
          rw [List.length_take] at this
          unfold tks
          rw [List.length_map, sizeLine_eq]
          omega
        · rw [upd_same, put_tks, distinct_snoc ed]
          unfold takeIn
          rw [if_pos hw]
      · rw [strNe hw]
        simp only [Bool.false_eq_true, ↓reduceIte]
        refine ⟨z1, ?_⟩
        rw [distinct_snoc ed]
        unfold takeIn
        rw [if_neg hw]
        exact z2
    · obtain ⟨z1, z2⟩ := z
      rw [rows.1, List.take_length] at z2
      refine ⟨D, _, distinct x ds, rfl, .inl z2, ?_, few, fun ys p perm srt np => ?_⟩
      · unfold tks
        rw [List.map_map]
        rfl
      · exact k ys ⟨perm, srt⟩ p _ (none_of z1 np) (same_updN z1 (none_of z1 np)) upd_same
end
end Mine

set_option maxRecDepth 100000
set_option maxHeartbeats 4000000
namespace L2
open PySem PySem.Spec PyProof.Rows
/-- a list comprehension whose element leaves the heap -/
theorem lc_pure {K : PySem.W.Frag} {a D : Addr} {xs ys : List V} {te : TE} {i : Nat} {vs : List Nat} {σ : St} {H1 : Hp} {Qd : Hp → Prop} (hl : H1 a = some (.lst xs)) (nD : H1 D = none) (len : ys.length = xs.length) (big : xs.length ≤ 1000000)
    (hw : ∀ x, wipe ((wipe σ vs).set i (some x)) vs = wipe σ vs) (hs : ∀ (j : Nat) (x y : V) (Ha : Hp) (Qe : VK), xs[j]? = some x → ys[j]? = some y → Same H1 Ha → Qe y Ha → te ((wipe σ vs).set i (some x)) Ha Qe)
    (hd : ∀ Hx, Same H1 Hx → Hx D = some (.lst ys) → Qd Hx) :
    ∃ W : Nat → Nat → Hp → Prop, (∃ m, W 0 m (upd H1 D (.lst []))) ∧ ∀ i2 m H, W i2 m H →
      ((Itl K a).stop i2 H ∧ Qd H) ∨ ((Itl K a).go i2 H ∧ ∃ Nx : Hp → Prop, (∀ H', Nx H' → ∃ m', m' < m ∧ W (i2 + 1) m' H') ∧ ∀ x H', (Itl K a).yld i2 H x H' → gName i x (wipe σ vs) H' fun σ2 H2 => wipe σ2 vs = wipe σ vs ∧ tYes σ2 H2 fun b H3 =>
        if b = true then te σ2 H3 fun y H4 => ∃ acc, H4 D = some (.lst acc) ∧ acc.length < sizeLine ∧ Nx (upd H4 D (.lst (acc ++ [y]))) else Nx H3) := by
  refine lc_it (walk_list (xs := xs)) (fun k Hx => Same H1 Hx ∧ Hx D = some (.lst (ys.take k))) ⟨sameNew nD _, upd_same⟩ (fun k Hx _ z => SqL.of (z.1 _ _ hl)) (fun k x Ha Hb hk z1 z2 => ?_) (fun Hx z => hd Hx z.1 (by rw [z.2, ← len, List.take_length]))
  obtain ⟨rfl, hx⟩ := z2
  obtain ⟨s1, e1⟩ := z1
  have ey : ys[k]? = some ys[k] := List.getElem?_eq_getElem (by omega)
  refine ⟨hw x, ?_⟩
  unfold tYes
  simp only [↓reduceIte]
  refine hs k x _ _ _ hx ey s1 ⟨_, e1, ?_, Mine.same_updN s1 nD, ?_⟩
  · rw [List.length_take, sizeLine_eq]
    omega
  · rw [upd_same, List.take_succ, ey]
    rfl
end L2
namespace Mine
open PySem L2
abbrev s_mach : Stmt := inClass (top 28) 0
def SameX (m : Addr) (H H' : Hp) : Prop := ∀ b o, b ≠ m → H b = some o → H' b = some o
theorem SameX.upd {m : Addr} {H H' : Hp} {o : HO} (x : SameX m H H') : SameX m H (upd H' m o) := fun b u n e => by
  rw [upd_ne n]
  exact x b u n e
theorem SameX.go {m : Addr} {H H' H'' : Hp} (x : SameX m H H') (s : Same H' H'') : SameX m H H'' := fun b u n e => s _ _ (x b u n e)
theorem SameX.at {m : Addr} {H H' : Hp} {C dx b : Addr} {fs : List (Str × V)} {o : HO} (x : SameX m H H') (hm : H m = some (.ins C dx fs)) (e : H b = some o) (n : o ≠ .ins C dx fs) : H' b = some o :=
  x b o (fun z => by rw [z, hm] at e; exact n (Option.some.inj e).symm) e
theorem SameX.trow {m : Addr} {H H' : Hp} {C dx : Addr} {fs : List (Str × V)} {v : V} {d : RowD} (x : SameX m H H') (hm : H m = some (.ins C dx fs)) (r : TRow H v d) : TRow H' v d := by
  cases d with
  | ask op ns =>
    obtain ⟨a, t, e, h1, h2⟩ := r
    exact ⟨a, t, e, x.at hm h1 (fun z => nomatch z), x.at hm h2 (fun z => nomatch z)⟩
  | go n =>
    obtain ⟨a, e, h1⟩ := r
    exact ⟨a, e, x.at hm h1 (fun z => nomatch z)⟩
  | fin w =>
    obtain ⟨a, e, h1⟩ := r
    exact ⟨a, e, x.at hm h1 (fun z => nomatch z)⟩
theorem SameX.rows {m : Addr} {H H' : Hp} {C dx : Addr} {fs : List (Str × V)} {xs : List V} {rs : List RowD} (x : SameX m H H') (hm : H m = some (.ins C dx fs)) (r : Rows H xs rs) : Rows H' xs rs := ⟨r.1, fun i d e => by
  obtain ⟨v, h1, h2⟩ := r.2 i d e
  exact ⟨v, h1, x.trow hm h2⟩⟩
/-- the rows of rest that are met -/
def restD (rs : List RowD) (b : Nat) : List RowD := (metOf rs b).map fun i => rs.getD i (.fin "")
def restV (rs : List RowD) (b : Nat) (xs : List V) : List V := (metOf rs b).map fun i => xs.getD i .non
theorem rest_rows {H : Hp} {rs : List RowD} {b : Nat} {xs : List V} (f : Fit rs) (hb : b < rs.length) (r : Rows H xs rs) : Rows H (restV rs b xs) (restD rs b) := by
  refine ⟨by unfold restV restD; rw [List.length_map, List.length_map], fun j d e => ?_⟩
  unfold restD at e
  rw [List.getElem?_map] at e
  cases q : (metOf rs b)[j]? with
  | none => rw [q] at e; cases e
  | some i =>
    rw [q] at e
    have hi : i < rs.length := (metAt_few f hb rs.length).2 i (List.mem_of_getElem? q)
    have e2 : rs.getD i (.fin "") = d := Option.some.inj e
    have e3 : rs[i]? = some d := by
      rw [List.getD_eq_getElem?_getD, List.getElem?_eq_getElem hi] at e2
      rw [List.getElem?_eq_getElem hi]
      exact congrArg some e2
    obtain ⟨x, h1, h2⟩ := r.2 i d e3
    refine ⟨x, ?_, h2⟩
    unfold restV
    rw [List.getElem?_map, q]
    show some (xs.getD i .non) = some x
    rw [List.getD_eq_getElem?_getD, h1]
    rfl
/-- whether a run hangs -/
def endlessD (rs : List RowD) (b : Nat) : Bool := inV (.str "go") ((restD rs b).map fun d => .str (wordOf d))
/-- the fields of a machine, and what stands there -/
structure MachFs (H : Hp) (fs : List (Str × V)) (t l : Addr) (b : Nat) (rs : List RowD) (sa aa ea : Addr) (as es : List Str) : Prop where
  counts : fs.lookup ("counts" : Str) = some (.ref t)
  lines : fs.lookup ("lines" : Str) = some (.ref l)
  begin : fs.lookup ("begin" : Str) = some (.int b)
  stops : fs.lookup ("stops" : Str) = some (.ref sa)
  asks : fs.lookup ("asks" : Str) = some (.ref aa)
  endings : fs.lookup ("endings" : Str) = some (.ref ea)
  endless : fs.lookup ("endless" : Str) = some (.bl (endlessD rs b))
  hs : H sa = some (.lst (fl rs.length fun i => (stp rs i : Int)))
  ha : H aa = some (.lst (as.map V.str))
  he : H ea = some (.lst (es.map V.str))
  fa : IsFirsts "ask" (restD rs b) as
  fe : IsFirsts "end" (restD rs b) es
theorem SameX.off {m a : Addr} {H H' : Hp} (x : SameX m H H') (n : H' a = none) (ne : a ≠ m) : H a = none := by
  cases e : H a with
  | none => rfl
  | some u =>
    rw [x a u ne e] at n
    cases n
def spMach (C : Addr) : Sp := fun vs H Q _ => ∃ (m t l dx : Addr) (xs : List V) (rs : List RowD) (b : Nat), vs = [.ref m, .ref t, .ref l, .int b] ∧ H m = some (.ins C dx []) ∧ H l = some (.lst xs) ∧ Rows H xs rs ∧ Fit rs ∧ b < rs.length ∧ rs.length ≤ 100000 ∧
  (distinct "ask" (restD rs b)).length < 64 ∧ (distinct "end" (restD rs b)).length < 64 ∧ ∀ (fs : List (Str × V)) (H' : Hp) (sa aa ea : Addr) (as es : List Str), H sa = none → H aa = none → H ea = none → SameX m H H' → H' m = some (.ins C dx fs) → MachFs H' fs t l b rs sa aa ea as es → Q .non H'
/-- what is told of the class -/
structure MachC (K : PySem.W.Frag) (C : Addr) : Prop where
  cl : Cls K C
  n_counts : NoAttr K C "counts"
  n_lines : NoAttr K C "lines"
  n_begin : NoAttr K C "begin"
  n_stops : NoAttr K C "stops"
  n_asks : NoAttr K C "asks"
  n_endings : NoAttr K C "endings"
  n_endless : NoAttr K C "endless"
section
variable {P : Program} {w : World} {K : PySem.W.Frag} {mg : Str → Option Value} {base : Heap}
variable {a_rests a_stops a_firsts C : Addr}
theorem sc_mach : FnScope ["self", "counts", "lines", "begin", "rests", "stop", "line"] ["self", "counts", "lines", "begin"] (defScope s_mach) := ⟨rfl, rfl, rfl, by decide +kernel, rfl, by decide +kernel, by decide +kernel⟩
theorem putF_len {fs : List (Str × V)} {f : Str} {v : V} {n : Nat} (h : fs.length ≤ n) : (putF f v fs).length ≤ n + 1 := Nat.le_trans (length_putF f v fs) (Nat.succ_le_succ h)
theorem ok_mach {f : Addr} {fd fd_rests fd_stops fd_firsts : FuncData} (F : Fun K "__init__" "Machine.__init__" s_mach f fd) (TM : MachC K C)
    (GR : FnOk P w K mg base CX0 2 a_rests fd_rests ["lines", "stops", "begin"] spRests) (b_rests : Binds K fd_rests ["lines", "stops", "begin"] []) (g_rests : mg "rests_from" = some (.ref a_rests)) (k_rests : PySem.W.keepIn K (.ref a_rests) = true)
    (GS : FnOk P w K mg base CX0 2 a_stops fd_stops ["lines"] spStops) (b_stops : Binds K fd_stops ["lines"] []) (g_stops : mg "stops_of" = some (.ref a_stops)) (k_stops : PySem.W.keepIn K (.ref a_stops) = true)
    (GF : FnOk P w K mg base CX0 1 a_firsts fd_firsts ["lines", "word"] spFirsts) (b_firsts : Binds K fd_firsts ["lines", "word"] []) (g_firsts : mg "firsts_of" = some (.ref a_firsts)) (k_firsts : PySem.W.keepIn K (.ref a_firsts) = true) : FnOk P w K mg base CX0 3 f fd ["self", "counts", "lines", "begin"] (spMach C) := by
  refine F.ok sc_mach (fun vs H Q E h => ?_) (fun cdv A outer s H vs Q E hr h => ?_)
  · obtain ⟨m, t, l, dx, xs, rs, b, rfl, _⟩ := h
    rfl
  · obtain ⟨m, t, l, dx, xs, rs, b, rfl, hm, hl, rows, fit, hb, big, few1, few2, k⟩ := h
    refine ⟨_, (pss_cons (ps_fld (pv 0) (pv 1) rfl)
      (pss_cons (ps_fld (pv 0) (pv 2) rfl)
      (pss_cons (ps_fld (pv 0) (pv 3) rfl)
      (pss_cons (ps_fld (pv 0) (pe_call GS (hr.mono (by decide)) (by rfl) g_stops k_stops b_stops .nil pass0 (pa_cons (pv 2) pa_nil)) rfl)
      (pss_cons (ps_setLc (i := 4) (own := [("stop", 5)]) (g := gName 5) (tt := tYes) rfl sc_mach.nd rfl rfl (sw_true rfl rfl rfl rfl) (pi_list (pe_call GR (hr.mono (by decide)) (by rfl) g_rests k_rests b_rests .nil pass0 (pa_cons (pv 2) (pa_cons (pe_fld (pv 0) rfl) (pa_cons (pv 3) pa_nil))))) (blkOk_by (own := [("stop", 5)]) (N := ["self", "counts", "lines", "begin", "rests", "stop", "line"]) (sc := defScope s_mach) (by decide +kernel)) (fun _ _ _ _ _ => pg_name (i := 5) sc_mach.nd rfl (Or.inl rfl)) (fun _ _ _ _ _ => pts_nil) (fun _ _ _ _ _ => pe_ix (show IxR _ (rIxL K) from ix_list) (pv 2) (pv 5) (fun _ _ => rfl)))
      (pss_cons (ps_fld (pv 0) (pe_call GF (hr.mono (by decide)) (by rfl) g_firsts k_firsts b_firsts .nil pass0 (pa_cons (pv 4) (pa_cons pe_str pa_nil))) rfl)
      (pss_cons (ps_fld (pv 0) (pe_call GF (hr.mono (by decide)) (by rfl) g_firsts k_firsts b_firsts .nil pass0 (pa_cons (pv 4) (pa_cons pe_str pa_nil))) rfl)
      (pss_one (ps_fld (pv 0) (pe_cmpR op_in_seq pe_str (pe_lc (own := [("line", 6)]) (g := gName 6) (tt := tYes) rfl sc_mach.nd (pi_list (pv 4)) (blkOk_by (own := [("line", 6)]) (N := ["self", "counts", "lines", "begin", "rests", "stop", "line"]) (sc := defScope s_mach) (by decide +kernel)) (fun _ _ _ _ _ => pg_name (i := 6) sc_mach.nd rfl (Or.inl rfl)) (fun _ _ _ _ _ => pts_nil) (fun _ _ _ _ _ => pe_ix (show IxR _ (rIxT K) from ix_tup) (pv 6) pe_int (fun _ _ => rfl))) (by rfl)) rfl))))))))), ?_⟩
    have L0 : ([] : List (Str × V)).length ≤ 0 := Nat.le_refl _
    have L1 := putF_len (f := "counts") (v := .ref t) L0
    have L2 := putF_len (f := "lines") (v := .ref l) L1
    have L3 := putF_len (f := "begin") (v := .int b) L2
    refine ⟨_, rfl, _, rfl, m, C, dx, _, rfl, hm, TM.cl, TM.n_counts, Nat.lt_of_le_of_lt L0 (by decide), ?_⟩
    refine ⟨_, rfl, _, rfl, m, C, dx, _, rfl, upd_same, TM.cl, TM.n_lines, Nat.lt_of_le_of_lt L1 (by decide), ?_⟩
    refine ⟨_, rfl, _, rfl, m, C, dx, _, rfl, upd_same, TM.cl, TM.n_begin, Nat.lt_of_le_of_lt L2 (by decide), ?_⟩
    rw [upd_upd, upd_upd]
    have x3 : SameX m H (upd H m (.ins C dx (putF "begin" (.int b) (putF "lines" (.ref l) (putF "counts" (.ref t) []))))) := SameX.upd fun _ _ _ e => e
    have m3 : upd H m (.ins C dx (putF "begin" (.int b) (putF "lines" (.ref l) (putF "counts" (.ref t) [])))) m = some (.ins C dx (putF "begin" (.int b) (putF "lines" (.ref l) (putF "counts" (.ref t) [])))) := upd_same
    have q1 : (putF ("begin" : Str) (.int b) (putF "lines" (.ref l) (putF "counts" (.ref t) []))).lookup ("counts" : Str) = some (.ref t) := by
      rw [lookup_putF, if_neg (by decide +kernel), lookup_putF, if_neg (by decide +kernel), lookup_putF, if_pos rfl]
    have q2 : (putF ("begin" : Str) (.int b) (putF "lines" (.ref l) (putF "counts" (.ref t) []))).lookup ("lines" : Str) = some (.ref l) := by
      rw [lookup_putF, if_neg (by decide +kernel), lookup_putF, if_pos rfl]
    have q3 : (putF ("begin" : Str) (.int b) (putF "lines" (.ref l) (putF "counts" (.ref t) []))).lookup ("begin" : Str) = some (.int b) := by
      rw [lookup_putF, if_pos rfl]
    generalize (upd H m (.ins C dx (putF "begin" (.int b) (putF "lines" (.ref l) (putF "counts" (.ref t) []))))) = H3 at x3 m3 ⊢
    generalize putF ("begin" : Str) (.int b) (putF "lines" (.ref l) (putF "counts" (.ref t) [])) = f3 at m3 L3 q1 q2 q3
    have l3 : H3 l = some (.lst xs) := x3.at hm hl (fun z => nomatch z)
    refine ⟨_, rfl, l, xs, rs, rfl, l3, x3.rows hm rows, fit.go, big, fun sa H4 n4 s4 e4 => ?_⟩
    refine ⟨_, rfl, m, C, dx, _, rfl, s4 _ _ m3, TM.cl, TM.n_stops, Nat.lt_of_le_of_lt L3 (by decide), ?_⟩
    have L4 := putF_len (f := "stops") (v := .ref sa) L3
    have sm : sa ≠ m := fun z => by
      rw [z, m3] at n4
      cases n4
    have nsa : H sa = none := x3.off n4 sm
    have x4 : SameX m H (upd H4 m (.ins C dx (putF "stops" (.ref sa) f3))) := (x3.go s4).upd
    have m4 : upd H4 m (.ins C dx (putF "stops" (.ref sa) f3)) m = some (.ins C dx (putF "stops" (.ref sa) f3)) := upd_same
    have e5 : upd H4 m (.ins C dx (putF "stops" (.ref sa) f3)) sa = some (.lst (fl rs.length fun i => (stp rs i : Int))) := by
      rw [upd_ne sm]
      exact e4
    have q4 : (putF ("stops" : Str) (.ref sa) f3).lookup ("stops" : Str) = some (.ref sa) := by rw [lookup_putF, if_pos rfl]
    have q1' : (putF ("stops" : Str) (.ref sa) f3).lookup ("counts" : Str) = some (.ref t) := by rw [lookup_putF, if_neg (by decide +kernel)]; exact q1
    have q2' : (putF ("stops" : Str) (.ref sa) f3).lookup ("lines" : Str) = some (.ref l) := by rw [lookup_putF, if_neg (by decide +kernel)]; exact q2
    have q3' : (putF ("stops" : Str) (.ref sa) f3).lookup ("begin" : Str) = some (.int b) := by rw [lookup_putF, if_neg (by decide +kernel)]; exact q3
    clear q1 q2 q3
    generalize (upd H4 m (.ins C dx (putF "stops" (.ref sa) f3))) = H5 at x4 m4 e5 ⊢
    generalize putF ("stops" : Str) (.ref sa) f3 = f4 at m4 L4 q1' q2' q3' q4
    have l5 : H5 l = some (.lst xs) := x4.at hm hl (fun z => nomatch z)
    have rows5 := x4.rows hm rows
    refine ⟨_, rfl, _, rfl, m, C, dx, _, _, rfl, m4, TM.cl, TM.n_stops, q4, _, rfl, l, sa, xs, rs, b, rfl, l5, rows5, fit, e5, hb, big, fun ma H6 n6 s6 e6 => ?_⟩
    have few := metAt_few fit hb rs.length
    have flen := few.len
    have nl : (natsV (metOf rs b)).length = (metOf rs b).length := List.length_map _
    have rvl : (restV rs b xs).length = (metOf rs b).length := List.length_map _
    have fl2 : (metOf rs b).length ≤ rs.length := flen
    refine ⟨ma, rfl, ⟨_, SqL.of e6⟩, fun D nD => lc_pure (ys := restV rs b xs) e6 nD (by rw [nl, rvl]) (by rw [nl]; omega) (fun _ => rfl) (fun j x y Ha Qe hx hy sa6 qe => ?_) (fun H7 s7 e7 => ?_)⟩
    · unfold natsV at hx
      rw [List.getElem?_map] at hx
      unfold restV at hy
      rw [List.getElem?_map] at hy
      cases q : (metOf rs b)[j]? with
      | none => rw [q] at hx; cases hx
      | some i =>
        rw [q] at hx hy
        have hx2 : V.int (i : Int) = x := Option.some.inj hx
        have hy2 : xs.getD i .non = y := Option.some.inj hy
        have hi : i < xs.length := by
          rw [rows.1]
          exact few.2 i (List.mem_of_getElem? q)
        subst hx2
        have ey : xs[i]? = some y := by
          rw [List.getD_eq_getElem?_getD, List.getElem?_eq_getElem hi] at hy2
          rw [List.getElem?_eq_getElem hi]
          exact congrArg some hy2
        exact ⟨_, rfl, _, rfl, l, xs, _, y, rfl, rfl, SqL.of (sa6 _ _ (s6 _ _ l5)), atI_nat ey, qe⟩
    · have s57 : Same H5 H7 := s6.trans s7
      have rr : Rows H7 (restV rs b xs) (restD rs b) := rest_rows fit hb (rows5.same s57)
      have rdl : (restD rs b).length ≤ 100000 := by
        unfold restD
        rw [List.length_map]
        omega
      refine ⟨_, rfl, D, _, _, "ask", rfl, by decide +kernel, e7, rr, rdl, few1, fun as fas aa H8 n8 s8 e8 => ?_⟩
      have m8 : H8 m = some (.ins C dx f4) := s8 _ _ (s57 _ _ m4)
      refine ⟨_, rfl, m, C, dx, _, rfl, m8, TM.cl, TM.n_asks, Nat.lt_of_le_of_lt L4 (by decide), ?_⟩
      have L5 := putF_len (f := "asks") (v := .ref aa) L4
      have am : aa ≠ m := fun z => by
        rw [z, s57 _ _ m4] at n8
        cases n8
      have naa : H aa = none := SameX.off (fun b o n e => s57 _ _ (x4 _ _ n e)) n8 am
      have x9 : SameX m H5 (upd H8 m (.ins C dx (putF "asks" (.ref aa) f4))) := SameX.upd fun b o _ e => s8 _ _ (s57 _ _ e)
      have x79 : SameX m H7 (upd H8 m (.ins C dx (putF "asks" (.ref aa) f4))) := SameX.upd fun b o _ e => s8 _ _ e
      have m9 : upd H8 m (.ins C dx (putF "asks" (.ref aa) f4)) m = some (.ins C dx (putF "asks" (.ref aa) f4)) := upd_same
      have e9 : upd H8 m (.ins C dx (putF "asks" (.ref aa) f4)) aa = some (.lst (as.map V.str)) := by
        rw [upd_ne am]
        exact e8
      have p5 : (putF ("asks" : Str) (.ref aa) f4).lookup ("asks" : Str) = some (.ref aa) := by rw [lookup_putF, if_pos rfl]
      have p1 : (putF ("asks" : Str) (.ref aa) f4).lookup ("counts" : Str) = some (.ref t) := by rw [lookup_putF, if_neg (by decide +kernel)]; exact q1'
      have p2 : (putF ("asks" : Str) (.ref aa) f4).lookup ("lines" : Str) = some (.ref l) := by rw [lookup_putF, if_neg (by decide +kernel)]; exact q2'
      have p3 : (putF ("asks" : Str) (.ref aa) f4).lookup ("begin" : Str) = some (.int b) := by rw [lookup_putF, if_neg (by decide +kernel)]; exact q3'
      have p4 : (putF ("asks" : Str) (.ref aa) f4).lookup ("stops" : Str) = some (.ref sa) := by rw [lookup_putF, if_neg (by decide +kernel)]; exact q4
      have m7 : H7 m = some (.ins C dx f4) := s57 _ _ m4
      generalize (upd H8 m (.ins C dx (putF "asks" (.ref aa) f4))) = H9 at x9 x79 m9 e9 ⊢
      generalize putF ("asks" : Str) (.ref aa) f4 = f5 at m9 L5 p1 p2 p3 p4 p5
      have d9 : H9 D = some (.lst (restV rs b xs)) := x79.at m7 e7 (fun z => nomatch z)
      have rr9 : Rows H9 (restV rs b xs) (restD rs b) := x79.rows m7 rr
      refine ⟨_, rfl, D, _, _, "end", rfl, by decide +kernel, d9, rr9, rdl, few2, fun es fes ea H10 n10 s10 e10 => ?_⟩
      refine ⟨_, rfl, m, C, dx, _, rfl, s10 _ _ m9, TM.cl, TM.n_endings, Nat.lt_of_le_of_lt L5 (by decide), ?_⟩
      have L6 := putF_len (f := "endings") (v := .ref ea) L5
      have em : ea ≠ m := fun z => by
        rw [z, m9] at n10
        cases n10
      have nea : H ea = none := SameX.off (fun b o n e => x9 _ _ n (x4 _ _ n e)) n10 em
      have x11 : SameX m H9 (upd H10 m (.ins C dx (putF "endings" (.ref ea) f5))) := SameX.upd fun b o _ e => s10 _ _ e
      have m11 : upd H10 m (.ins C dx (putF "endings" (.ref ea) f5)) m = some (.ins C dx (putF "endings" (.ref ea) f5)) := upd_same
      have e11 : upd H10 m (.ins C dx (putF "endings" (.ref ea) f5)) ea = some (.lst (es.map V.str)) := by
        rw [upd_ne em]
        exact e10
      have r6 : (putF ("endings" : Str) (.ref ea) f5).lookup ("endings" : Str) = some (.ref ea) := by rw [lookup_putF, if_pos rfl]
      have r1 : (putF ("endings" : Str) (.ref ea) f5).lookup ("counts" : Str) = some (.ref t) := by rw [lookup_putF, if_neg (by decide +kernel)]; exact p1
      have r2 : (putF ("endings" : Str) (.ref ea) f5).lookup ("lines" : Str) = some (.ref l) := by rw [lookup_putF, if_neg (by decide +kernel)]; exact p2
      have r3 : (putF ("endings" : Str) (.ref ea) f5).lookup ("begin" : Str) = some (.int b) := by rw [lookup_putF, if_neg (by decide +kernel)]; exact p3
      have r4 : (putF ("endings" : Str) (.ref ea) f5).lookup ("stops" : Str) = some (.ref sa) := by rw [lookup_putF, if_neg (by decide +kernel)]; exact p4
      have r5 : (putF ("endings" : Str) (.ref ea) f5).lookup ("asks" : Str) = some (.ref aa) := by rw [lookup_putF, if_neg (by decide +kernel)]; exact p5
      generalize (upd H10 m (.ins C dx (putF "endings" (.ref ea) f5))) = H11 at x11 m11 e11 ⊢
      generalize putF ("endings" : Str) (.ref ea) f5 = f6 at m11 L6 r1 r2 r3 r4 r5 r6
      have d11 : H11 D = some (.lst (restV rs b xs)) := x11.at m9 d9 (fun z => nomatch z)
      have rr11 : Rows H11 (restV rs b xs) (restD rs b) := x11.rows m9 rr9
      have rdv : (restD rs b).length = (restV rs b xs).length := rr11.1.symm
      refine ⟨_, rfl, D, rfl, ⟨_, SqL.of d11⟩, fun G nG => lc_pure (ys := (restD rs b).map fun d => .str (wordOf d)) d11 nG (by rw [List.length_map, rdv]) (by rw [← rdv]; omega) (fun _ => rfl) (fun j x y Ha Qe hx hy sa11 qe => ?_) (fun H12 s12 e12 => ?_)⟩
      · have hj : j < (restD rs b).length := by
          have := (List.getElem?_eq_some_iff.mp hx).1
          omega
        obtain ⟨z, zs, d, ed, hx2, row, hz⟩ := rr11.at hj
        rw [hx2] at hx
        cases hx
        rw [List.getElem?_map, ed] at hy
        cases hy
        exact ⟨_, rfl, _, _, _, _, rfl, rfl, .inl (.inl (sa11 _ _ hz)), at0', qe⟩
      · refine ⟨G, _, rfl, .inl (SqL.of e12), rfl, ?_, ?_⟩
        · rw [List.all_map]
          exact List.all_eq_true.mpr fun _ _ => rfl
        · refine ⟨_, rfl, m, C, dx, _, rfl, s12 _ _ m11, TM.cl, TM.n_endless, Nat.lt_of_le_of_lt L6 (by decide), ?_⟩
          have x12 : SameX m H11 (upd H12 m (.ins C dx (putF "endless" (.bl (endlessD rs b)) f6))) := SameX.upd fun b o _ e => s12 _ _ e
          refine k (putF "endless" (.bl (endlessD rs b)) f6) (upd H12 m (.ins C dx (putF "endless" (.bl (endlessD rs b)) f6))) sa aa ea as es nsa naa nea (fun b o n e => x12 _ _ n (x11 _ _ n (x9 _ _ n (x4 _ _ n e)))) upd_same ⟨?_, ?_, ?_, ?_, ?_, ?_, ?_, x12 _ _ sm (x11 _ _ sm (x9 _ _ sm e5)), x12 _ _ am (x11 _ _ am e9), x12 _ _ em e11, fas, fes⟩
          · rw [lookup_putF, if_neg (by decide +kernel)]
            exact r1
          · rw [lookup_putF, if_neg (by decide +kernel)]
            exact r2
          · rw [lookup_putF, if_neg (by decide +kernel)]
            exact r3
          · rw [lookup_putF, if_neg (by decide +kernel)]
            exact r4
          · rw [lookup_putF, if_neg (by decide +kernel)]
            exact r5
          · rw [lookup_putF, if_neg (by decide +kernel)]
            exact r6
          · rw [lookup_putF, if_pos rfl]
end
end Mine

set_option maxRecDepth 100000
set_option maxHeartbeats 4000000
namespace Mine
open PySem L2
abbrev s_lines_read : Stmt := top 53
theorem ps_no {X : Cx} {st : Stmt} : PS X st (fun _ _ _ => False) := ⟨fun _ _ _ _ _ _ h => h.elim⟩
/-- the rows stand there, in lists or tuples -/
def RowsIn (H : Hp) (xs : List V) (rs : List RowD) : Prop := xs.length = rs.length ∧ ∀ (i : Nat) (d : RowD), rs[i]? = some d → ∃ x, xs[i]? = some x ∧ RowAt H x d
def OkRows (o : Ops) (rs : List RowD) : Prop := ∀ (i : Nat) (d : RowD), rs[i]? = some d → OkRow o rs.length d
theorem OkRows.fit {o : Ops} {rs : List RowD} (h : OkRows o rs) : Fit rs := fun i d e n hn => by
  have := h i d e
  cases d with
  | ask op ns => exact this.2.2 n hn
  | go k =>
    rw [List.mem_singleton.mp hn]
    exact this
  | fin w => exact nomatch hn
def spRead : Sp := fun vs H Q _ => ∃ (r d : Addr) (xs : List V) (rs : List RowD) (o : Ops), vs = [.ref r, .ref d] ∧ SqA H r xs ∧ RowsIn H xs rs ∧ Rd H d (.dK (opsK o)) ∧ 1 ≤ rs.length ∧ rs.length ≤ 400 ∧ OkRows o rs ∧
  ∀ (p : Addr) (ys : List V) (H' : Hp), H p = none → Same H H' → H' p = some (.lst ys) → Rows H' ys rs → Q (.ref p) H'
theorem TRow.other {H : Hp} {D : Addr} {ys : List V} {o : HO} {v : V} {d : RowD} (h : TRow H v d) (e : H D = some (.lst ys)) : TRow (upd H D o) v d := by
  have ne : ∀ {a : Addr} {zs : List V}, H a = some (.tup zs) → upd H D o a = some (.tup zs) := fun {a zs} h1 => by
    rw [upd_ne (fun z => by rw [z, e] at h1; cases h1)]
    exact h1
  cases d with
  | ask op ns =>
    obtain ⟨a, t, e, h1, h2⟩ := h
    exact ⟨a, t, e, ne h1, ne h2⟩
  | go n =>
    obtain ⟨a, e, h1⟩ := h
    exact ⟨a, e, ne h1⟩
  | fin w =>
    obtain ⟨a, e, h1⟩ := h
    exact ⟨a, e, ne h1⟩
/-- the first kk rows stand in the new list -/
structure Grown (Hn : Hp) (D : Addr) (rs : List RowD) (kk : Nat) (Hx : Hp) : Prop where
  same : Same Hn Hx
  at_ : ∃ ys : List V, ys.length = kk ∧ Hx D = some (.lst ys) ∧ ∀ (j : Nat) (dj : RowD), j < kk → rs[j]? = some dj → ∃ y, ys[j]? = some y ∧ TRow Hx y dj
section
variable {P : Program} {w : World} {K : PySem.W.Frag} {mg : Str → Option Value} {base : Heap}
variable {fII fIW a_is_row a_is_index a_is_name a_is_text_in a_are_counts a_word_of a_are_nexts a_is_line a_line_of a_are_operations : Addr}
theorem sc_lines_read : FnScope ["rows", "counts", "index", "row"] ["rows", "counts"] (defScope s_lines_read) := ⟨rfl, rfl, rfl, by decide +kernel, rfl, by decide +kernel, by decide +kernel⟩
theorem ok_lines_read {f : Addr} {fd fd_is_row fd_is_line fd_line_of : FuncData} (F : Fun K "lines_read" "lines_read" s_lines_read f fd) (T : TxtF K mg fII fIW) (TG : TxtG K mg a_is_row a_is_index a_is_name a_is_text_in a_are_counts a_word_of a_are_nexts a_is_line a_line_of a_are_operations)
    (h_enum : mg "enumerate" = none) {tm : Tok} (h_most : mg "MOST_ROWS" = some (.int 400 tm))
    (GRw : FnOk P w K mg base CX0 1 a_is_row fd_is_row ["thing"] (spIsRow K)) (b_is_row : Binds K fd_is_row ["thing"] [])
    (GL : FnOk P w K mg base CX0 5 a_is_line fd_is_line ["row", "counts", "many"] spIsLine) (b_is_line : Binds K fd_is_line ["row", "counts", "many"] [])
    (GLo : FnOk P w K mg base CX0 1 a_line_of fd_line_of ["row"] spLineOf) (b_line_of : Binds K fd_line_of ["row"] []) : FnOk P w K mg base CX0 6 f fd ["rows", "counts"] spRead := by
  refine F.ok sc_lines_read (fun vs H Q E h => ?_) (fun cdv A outer s H vs Q E hr h => ?_)
  · obtain ⟨r, d, xs, rs, o, rfl, _⟩ := h
    rfl
  · obtain ⟨r, d, xs, rs, o, rfl, hx, rows, hd, lo, hi, ok, k⟩ := h
    refine ⟨_, (pss_cons (ps_if (PW.pt (pw_or (pt_not (pt_val (pe_call GRw (hr.mono (by decide)) (by rfl) TG.g_is_row TG.k_is_row b_is_row .nil pass0 (pa_cons (pv 0) pa_nil)))) (pw_or1 (pt_not (pt_chain op_le op_le pe_int (pe_callB call_len_seq (by rfl) T.b_len PySem.boot_len (pa_cons (pv 0) pa_nil)) (pe_glob (v := .int 400) rfl h_most ⟨_, rfl⟩)))))) (pss_one ps_no) pss_nil)
      (pss_cons (ps_for PassesOwn.never rfl (pi_or (pi_enum (by rfl) h_enum (pa_cons (pv 0) pa_nil)) (pi_enumT (by rfl) h_enum (pa_cons (pv 0) pa_nil))) (pg_tup rfl (pgs_cons (pg_name (i := 2) sc_lines_read.nd rfl (Or.inl rfl)) (pgs_cons (pg_name (i := 3) sc_lines_read.nd rfl (Or.inl rfl)) pgs_nil)))
        (pss_one (ps_if (pt_not (pt_val (pe_call GL (hr.mono (by decide)) (by rfl) TG.g_is_line TG.k_is_line b_is_line .nil pass0 (pa_cons (pv 3) (pa_cons (pv 1) (pa_cons (pe_callB call_len_seq (by rfl) T.b_len PySem.boot_len (pa_cons (pv 0) pa_nil)) pa_nil)))))) (pss_one ps_no) pss_nil)))
      (pss_one (ps_ret (pe_lc (own := [("row", 3)]) (g := gName 3) (tt := tYes) (wi := iSeq K (tVar 0)) rfl sc_lines_read.nd (pi_seq (pv 0)) (blkOk_by (own := [("row", 3)]) (N := ["rows", "counts", "index", "row"]) (sc := defScope s_lines_read) (by decide +kernel)) (fun _ _ _ _ _ => pg_name (i := 3) sc_lines_read.nd rfl (Or.inl rfl)) (fun _ _ _ _ _ => pts_nil) (fun _ _ _ _ _ => (pe_call GLo (hr.mono (by decide)) (by rfl) TG.g_line_of TG.k_line_of b_line_of .nil pass0 (pa_cons (pv 3) pa_nil)))))))), ?_⟩
    obtain ⟨ty, b, e⟩ := btSeq (K := K) hx
    refine ⟨_, rfl, _, ty, rfl, b, fun H1 s1 => ⟨_, rfl, ?_⟩⟩
    rw [e]
    refine iteF ?_
    have hx1 := s1.sqa hx
    have len : (xs.length : Int) = rs.length := by rw [rows.1]
    refine ⟨_, rfl, r, _, rfl, hx1.sq, _, _, rfl, rfl, _, rfl, ?_⟩
    rw [len, decide_eq_true (show (1 : Int) ≤ (rs.length : Int) by omega)]
    refine iteT ?_
    refine ⟨_, _, rfl, rfl, _, rfl, ?_⟩
    rw [decide_eq_true (show (rs.length : Int) ≤ 400 by omega)]
    refine iteF ?_
    have body : ∀ (i : Nat) (x : V) (Ha : Hp), xs[i]? = some x → Same H1 Ha → ∃ dd : RowD, RowAt Ha x dd ∧ OkRow o (rs.length : Int) dd ∧ rs[i]? = some dd := fun i x Ha hxi sa => by
      have hi2 : i < rs.length := by
        have := (List.getElem?_eq_some_iff.mp hxi).1
        have := rows.1
        omega
      obtain ⟨x2, h1, h2⟩ := rows.2 i _ (List.getElem?_eq_getElem hi2)
      rw [hxi] at h1
      cases h1
      exact ⟨_, h2.same (s1.trans sa), ok i _ (List.getElem?_eq_getElem hi2), List.getElem?_eq_getElem hi2⟩
    have elem : ∀ (Hn Ha : Hp) (D : Addr) (kk : Nat) (x : V), Same H1 Hn → Hn D = none → xs[kk]? = some x → Grown Hn D rs kk Ha → ∃ dd : RowD, RowAt Ha x dd ∧ ∀ (v' : V) (H' : Hp), Same Ha H' → TRow H' v' dd → ∃ acc, H' D = some (.lst acc) ∧ acc.length < sizeLine ∧ Grown Hn D rs (kk + 1) (upd H' D (.lst (acc ++ [v']))) := fun Hn Ha D kk x sn nD hxk gr => by
      obtain ⟨dd, b1, _, b3⟩ := body kk x Ha hxk (sn.trans gr.same)
      refine ⟨dd, b1, fun v' H' sa tr => ?_⟩
      obtain ⟨sx, ys, yl, ye, ya⟩ := gr
      have hk : kk < rs.length := (List.getElem?_eq_some_iff.mp b3).1
      have eD := sa _ _ ye
      refine ⟨ys, eD, by rw [yl, sizeLine_eq]; omega, ⟨same_updN (sx.trans sa) nD, ys ++ [v'], by rw [List.length_append, yl]; rfl, upd_same, fun j dj hj ej => ?_⟩⟩
      by_cases z : j < kk
      · obtain ⟨y, h1, h2⟩ := ya j dj z ej
        exact ⟨y, by rw [List.getElem?_append_left (by omega)]; exact h1, (h2.same sa).other eD⟩
      · have zj : j = kk := by omega
        subst zj
        rw [b3] at ej
        cases ej
        exact ⟨v', by rw [List.getElem?_append_right (by omega), yl, Nat.sub_self]; rfl, tr.other eD⟩
    have fin : ∀ (Hn Hx : Hp) (D : Addr), Same H1 Hn → Hn D = none → Grown Hn D rs xs.length Hx → Q (.ref D) Hx := fun Hn Hx D sn nD gr => by
      obtain ⟨sx, ys, yl, ye, ya⟩ := gr
      rw [rows.1] at yl ya
      exact k D ys Hx (none_of (s1.trans sn) nD) (s1.trans (sn.trans sx)) ye ⟨yl, fun i dd e => ya i dd (List.getElem?_eq_some_iff.mp e).1 e⟩
    rcases hx1 with hx1 | hx1
    · refine .inl ⟨_, rfl, r, xs, rfl, SqL.of hx1, for_enumL (K := K) (a := r) (xs := xs) (fun i σ H' => ∃ v2 v3 : Option V, σ = [some (.ref r), some (.ref d), v2, v3] ∧ Same H1 H') ⟨_, _, rfl, Same.refl _⟩ (fun i σ H' _ z => by obtain ⟨_, _, _, s⟩ := z; exact SqL.of (s _ _ hx1)) ?_ ?_⟩
      · rintro i x σ Ha T Hb hxi ⟨v2, v3, rfl, sa⟩ nT sT eT
        obtain ⟨dd, b1, b2, _⟩ := body i x Hb hxi (sa.trans sT)
        refine ⟨T, _, rfl, .inl (.inl eT), rfl, _, _, rfl, _, _, rfl, rfl, ?_⟩
        refine ⟨_, rfl, _, rfl, _, rfl, r, _, rfl, .inl (SqL.of ((sa.trans sT) _ _ hx1)), ?_⟩
        rw [len]
        refine ⟨x, d, o, _, dd, rfl, b1, Rd.same (s1.trans (sa.trans sT)) hd, b2, fun Hc sc => ⟨_, rfl, ?_⟩⟩
        refine iteF ?_
        exact ⟨_, _, rfl, (sa.trans sT).trans sc⟩
      · rintro σ Hn ⟨v2, v3, rfl, sn⟩
        refine .inl ⟨_, rfl, r, rfl, ⟨_, SqL.of (sn _ _ hx1)⟩, fun D nD => lc_it (walk_list (xs := xs)) (fun kk Hx => Grown Hn D rs kk Hx) ⟨sameNew nD _, [], rfl, upd_same, fun j _ hj => absurd hj (Nat.not_lt_zero j)⟩ (fun kk Hx _ z => SqL.of (z.same _ _ (sn _ _ hx1))) (fun kk x Ha Hb hk z1 z2 => ?_) fun Hx z => fin Hn Hx D sn nD z⟩
        obtain ⟨rfl, hxk⟩ := z2
        obtain ⟨dd, b1, q⟩ := elem Hn _ D kk x sn nD hxk z1
        exact ⟨rfl, _, rfl, x, dd, rfl, b1, q⟩
    · refine .inr ⟨_, rfl, r, xs, rfl, .inl (.inl hx1), for_enumT (K := K) (a := r) (xs := xs) (fun i σ H' => ∃ v2 v3 : Option V, σ = [some (.ref r), some (.ref d), v2, v3] ∧ Same H1 H') ⟨_, _, rfl, Same.refl _⟩ (fun i σ H' _ z => by obtain ⟨_, _, _, s⟩ := z; exact .inl (.inl (s _ _ hx1))) ?_ ?_⟩
      · rintro i x σ Ha T Hb hxi ⟨v2, v3, rfl, sa⟩ nT sT eT
        obtain ⟨dd, b1, b2, _⟩ := body i x Hb hxi (sa.trans sT)
        refine ⟨T, _, rfl, .inl (.inl eT), rfl, _, _, rfl, _, _, rfl, rfl, ?_⟩
        refine ⟨_, rfl, _, rfl, _, rfl, r, _, rfl, .inr (.inl (.inl ((sa.trans sT) _ _ hx1))), ?_⟩
        rw [len]
        refine ⟨x, d, o, _, dd, rfl, b1, Rd.same (s1.trans (sa.trans sT)) hd, b2, fun Hc sc => ⟨_, rfl, ?_⟩⟩
        refine iteF ?_
        exact ⟨_, _, rfl, (sa.trans sT).trans sc⟩
      · rintro σ Hn ⟨v2, v3, rfl, sn⟩
        refine .inr ⟨_, rfl, r, rfl, ⟨_, .inl (.inl (sn _ _ hx1))⟩, fun D nD => lc_it (walk_tup (xs := xs)) (fun kk Hx => Grown Hn D rs kk Hx) ⟨sameNew nD _, [], rfl, upd_same, fun j _ hj => absurd hj (Nat.not_lt_zero j)⟩ (fun kk Hx _ z => .inl (.inl (z.same _ _ (sn _ _ hx1)))) (fun kk x Ha Hb hk z1 z2 => ?_) fun Hx z => fin Hn Hx D sn nD z⟩
        obtain ⟨rfl, hxk⟩ := z2
        obtain ⟨dd, b1, q⟩ := elem Hn _ D kk x sn nD hxk z1
        exact ⟨rfl, _, rfl, x, dd, rfl, b1, q⟩
end
end Mine

set_option maxRecDepth 100000
set_option maxHeartbeats 4000000
namespace Mine
open PySem L2
abbrev s_body : Stmt := inClass (top 52) 0
theorem MachFs.x {m : Addr} {H H' : Hp} {C dx : Addr} {fx : List (Str × V)} {fs : List (Str × V)} {t l : Addr} {b : Nat} {rs : List RowD} {sa aa ea : Addr} {as es : List Str} (x : SameX m H H') (hm : H m = some (.ins C dx fx)) (f : MachFs H fs t l b rs sa aa ea as es) : MachFs H' fs t l b rs sa aa ea as es :=
  ⟨f.counts, f.lines, f.begin, f.stops, f.asks, f.endings, f.endless, x.at hm f.hs (fun z => nomatch z), x.at hm f.ha (fun z => nomatch z), x.at hm f.he (fun z => nomatch z), f.fa, f.fe⟩
theorem MachFs.same {H H' : Hp} {fs : List (Str × V)} {t l : Addr} {b : Nat} {rs : List RowD} {sa aa ea : Addr} {as es : List Str} (s : Same H H') (f : MachFs H fs t l b rs sa aa ea as es) : MachFs H' fs t l b rs sa aa ea as es :=
  ⟨f.counts, f.lines, f.begin, f.stops, f.asks, f.endings, f.endless, s _ _ f.hs, s _ _ f.ha, s _ _ f.he, f.fa, f.fe⟩
/-- a body stands there -/
structure BodyP (CB CM : Addr) (H : Hp) (bd : Addr) (o : Ops) (rs : List RowD) (b : Nat) (m t l sa aa ea : Addr) (o' : Ops) (xs : List V) (as es : List Str) : Prop where
  hb : ∃ dx fb, H bd = some (.ins CB dx fb) ∧ fb.lookup ("machine" : Str) = some (.ref m)
  hm : ∃ dm fm, H m = some (.ins CM dm fm) ∧ MachFs H fm t l b rs sa aa ea as es
  ht : H t = some (.dK (opsK o'))
  ord : Ordered o o'
  hl : H l = some (.lst xs)
  rows : Rows H xs rs
  lt : b < rs.length
  own : ∃ dx, H bd = some (.ins CB dx [("machine", .ref m)])
def BodyAt (CB CM : Addr) (H : Hp) (bd : Addr) (o : Ops) (rs : List RowD) (b : Nat) : Prop := ∃ m t l sa aa ea o' xs as es, BodyP CB CM H bd o rs b m t l sa aa ea o' xs as es
/-- a new body: its parts are new, but for the rows' tuples -/
def BodyN (CB CM : Addr) (H0 H : Hp) (bd : Addr) (o : Ops) (rs : List RowD) (b : Nat) : Prop := ∃ m t l sa aa ea o' xs as es, BodyP CB CM H bd o rs b m t l sa aa ea o' xs as es ∧ H0 m = none ∧ H0 t = none ∧ H0 l = none ∧ H0 sa = none ∧ H0 aa = none ∧ H0 ea = none
theorem BodyN.at {CB CM : Addr} {H0 H : Hp} {bd : Addr} {o : Ops} {rs : List RowD} {b : Nat} (h : BodyN CB CM H0 H bd o rs b) : BodyAt CB CM H bd o rs b := by
  obtain ⟨m, t, l, sa, aa, ea, o', xs, as, es, h, _⟩ := h
  exact ⟨m, t, l, sa, aa, ea, o', xs, as, es, h⟩
/-- what is new, or a tuple, stays: then the body stays -/
theorem BodyN.off {CB CM : Addr} {H0 H H' : Hp} {bd : Addr} {o : Ops} {rs : List RowD} {b : Nat} (h : BodyN CB CM H0 H bd o rs b) (nb : H0 bd = none) (k : ∀ a u, H a = some u → (H0 a = none ∨ ∃ zs, u = .tup zs) → H' a = some u) : BodyAt CB CM H' bd o rs b := by
  obtain ⟨m, t, l, sa, aa, ea, o', xs, as, es, ⟨⟨dx, fb, h1, h2⟩, ⟨dm, fm, h3, h4⟩, h5, h6, h7, h8, h9, dw, hw⟩, n1, n2, n3, n4, n5, n6⟩ := h
  have ku : ∀ {q : Addr} {us : List V}, H q = some (.tup us) → H' q = some (.tup us) := fun e => k _ _ e (.inr ⟨_, rfl⟩)
  refine ⟨m, t, l, sa, aa, ea, o', xs, as, es, ⟨dx, fb, k _ _ h1 (.inl nb), h2⟩, ⟨dm, fm, k _ _ h3 (.inl n1), ⟨h4.counts, h4.lines, h4.begin, h4.stops, h4.asks, h4.endings, h4.endless, k _ _ h4.hs (.inl n4), k _ _ h4.ha (.inl n5), k _ _ h4.he (.inl n6), h4.fa, h4.fe⟩⟩, k _ _ h5 (.inl n2), h6, k _ _ h7 (.inl n3), ⟨h8.1, fun i d e => ?_⟩, h9, dw, k _ _ hw (.inl nb)⟩
  obtain ⟨x, x1, x2⟩ := h8.2 i d e
  refine ⟨x, x1, ?_⟩
  cases d with
  | ask op ns =>
    obtain ⟨q, t', e1, k1, k2⟩ := x2
    exact ⟨q, t', e1, ku k1, ku k2⟩
  | go n =>
    obtain ⟨q, e1, k1⟩ := x2
    exact ⟨q, e1, ku k1⟩
  | fin n =>
    obtain ⟨q, e1, k1⟩ := x2
    exact ⟨q, e1, ku k1⟩
theorem BodyP.same {CB CM : Addr} {H H' : Hp} {bd : Addr} {o : Ops} {rs : List RowD} {b : Nat} {m t l sa aa ea : Addr} {o' : Ops} {xs : List V} {as es : List Str} (s : Same H H') (h : BodyP CB CM H bd o rs b m t l sa aa ea o' xs as es) : BodyP CB CM H' bd o rs b m t l sa aa ea o' xs as es := by
  obtain ⟨⟨dx, fb, h1, h2⟩, ⟨dm, fm, h3, h4⟩, h5, h6, h7, h8, h9, dw, hw⟩ := h
  exact ⟨⟨dx, fb, s _ _ h1, h2⟩, ⟨dm, fm, s _ _ h3, h4.same s⟩, s _ _ h5, h6, s _ _ h7, h8.same s, h9, dw, s _ _ hw⟩
theorem BodyAt.same {CB CM : Addr} {H H' : Hp} {bd : Addr} {o : Ops} {rs : List RowD} {b : Nat} (s : Same H H') (h : BodyAt CB CM H bd o rs b) : BodyAt CB CM H' bd o rs b := by
  obtain ⟨m, t, l, sa, aa, ea, o', xs, as, es, h⟩ := h
  exact ⟨m, t, l, sa, aa, ea, o', xs, as, es, h.same s⟩
theorem RowsIn.same {H H' : Hp} {xs : List V} {rs : List RowD} (s : Same H H') (h : RowsIn H xs rs) : RowsIn H' xs rs := ⟨h.1, fun i d e => by
  obtain ⟨x, h1, h2⟩ := h.2 i d e
  exact ⟨x, h1, h2.same s⟩⟩
def spBody (CB CM : Addr) : Sp := fun vs H Q _ => ∃ (bd d r dx : Addr) (xs : List V) (rs : List RowD) (o : Ops) (b : Nat), vs = [.ref bd, .ref d, .ref r, .int b] ∧ H bd = some (.ins CB dx []) ∧ H d = some (.dK (opsK o)) ∧ OkOps o ∧ SqA H r xs ∧ RowsIn H xs rs ∧ 1 ≤ rs.length ∧ rs.length ≤ 400 ∧ OkRows o rs ∧ b < rs.length ∧
  (distinct "ask" (restD rs b)).length < 64 ∧ (distinct "end" (restD rs b)).length < 64 ∧ ∀ H', SameX bd H H' → BodyN CB CM H H' bd o rs b → Q .non H'
structure BodyC (K : PySem.W.Frag) (C : Addr) : Prop where
  cl : Cls K C
  n_machine : NoAttr K C "machine"
section
variable {P : Program} {w : World} {K : PySem.W.Frag} {mg : Str → Option Value} {base : Heap}
variable {fII fIW a_is_row a_is_index a_is_name a_is_text_in a_are_counts a_word_of a_are_nexts a_is_line a_line_of a_are_operations a_lines_read a_in_order f_mach CB CM : Addr}
theorem sc_body : FnScope ["self", "operations", "rows", "start", "lines"] ["self", "operations", "rows", "start"] (defScope s_body) := ⟨rfl, rfl, rfl, by decide +kernel, rfl, by decide +kernel, by decide +kernel⟩
theorem ok_body {f : Addr} {fd fd_are_operations fd_lines_read fd_is_index fd_in_order fd_mach : FuncData} (F : Fun K "__init__" "Body.__init__" s_body f fd) (T : TxtF K mg fII fIW) (TG : TxtG K mg a_is_row a_is_index a_is_name a_is_text_in a_are_counts a_word_of a_are_nexts a_is_line a_line_of a_are_operations) (TB : BodyC K CB)
    (GO : FnOk P w K mg base CX0 4 a_are_operations fd_are_operations ["thing"] spOps) (b_are_operations : Binds K fd_are_operations ["thing"] [])
    (GLR : FnOk P w K mg base CX0 6 a_lines_read fd_lines_read ["rows", "counts"] spRead) (b_lines_read : Binds K fd_lines_read ["rows", "counts"] []) (g_lines_read : mg "lines_read" = some (.ref a_lines_read)) (k_lines_read : PySem.W.keepIn K (.ref a_lines_read) = true)
    (GIx : FnOk P w K mg base CX0 3 a_is_index fd_is_index ["thing", "many"] (spIndex K)) (b_is_index : Binds K fd_is_index ["thing", "many"] [])
    (GIO : FnOk P w K mg base CX0 1 a_in_order fd_in_order ["table"] spOrder) (b_in_order : Binds K fd_in_order ["table"] []) (g_in_order : mg "in_order" = some (.ref a_in_order)) (k_in_order : PySem.W.keepIn K (.ref a_in_order) = true)
    (MM : Mk K CM f_mach) (GM : FnOk P w K mg base CX0 3 f_mach fd_mach ["self", "counts", "lines", "begin"] (spMach CM)) (b_Machine : Binds K fd_mach ["self", "counts", "lines", "begin"] []) (g_Machine : mg "Machine" = some (.ref CM)) : FnOk P w K mg base CX0 7 f fd ["self", "operations", "rows", "start"] (spBody CB CM) := by
  refine F.ok sc_body (fun vs H Q E h => ?_) (fun cdv A outer s H vs Q E hr h => ?_)
  · obtain ⟨bd, d, r, dx, xs, rs, o, b, rfl, _⟩ := h
    rfl
  · obtain ⟨bd, d, r, dx, xs, rs, o, b, rfl, hbd, hd, oko, hx, rows, lo, hi, ok, hb, few1, few2, k⟩ := h
    refine ⟨_, (pss_cons (ps_if (pt_not (pt_val (pe_call GO (hr.mono (by decide)) (by rfl) TG.g_are_operations TG.k_are_operations b_are_operations .nil pass0 (pa_cons (pv 1) pa_nil)))) (pss_one ps_no) pss_nil)
      (pss_cons (ps_set (i := 4) sc_body.nd rfl (Or.inl rfl) (pe_call GLR (hr.mono (by decide)) (by rfl) g_lines_read k_lines_read b_lines_read .nil pass0 (pa_cons (pv 2) (pa_cons (pv 1) pa_nil))))
      (pss_cons (ps_if (pt_not (pt_val (pe_call GIx (hr.mono (by decide)) (by rfl) TG.g_is_index TG.k_is_index b_is_index .nil pass0 (pa_cons (pv 3) (pa_cons (pe_callB call_len_seq (by rfl) T.b_len PySem.boot_len (pa_cons (pv 4) pa_nil)) pa_nil))))) (pss_one ps_no) pss_nil)
      (pss_one (ps_fld (pv 0) (pe_make MM GM (hr.mono (by decide)) (by rfl) g_Machine b_Machine .nil pass0 (pa_cons (pe_call GIO (hr.mono (by decide)) (by rfl) g_in_order k_in_order b_in_order .nil pass0 (pa_cons (pv 1) pa_nil)) (pa_cons (pv 4) (pa_cons (pv 3) pa_nil)))) rfl))))), ?_⟩
    refine ⟨_, rfl, d, o, rfl, hd, oko, fun H1 s1 => ⟨_, rfl, ?_⟩⟩
    refine iteF ?_
    refine ⟨_, rfl, _, rfl, r, d, xs, rs, o, rfl, s1.sqa hx, rows.same s1, .inl (s1 _ _ hd), lo, hi, ok, fun l ys H2 n2 s2 e2 rr => ?_⟩
    refine ⟨_, rfl, _, rfl, l, _, rfl, .inl (SqL.of e2), .int b, "int", _, rfl, btInt _, _, rfl, ?_⟩
    rw [inW_int (show (0 : Int) ≤ b by omega) (by rw [rr.1]; omega)]
    refine iteF ?_
    refine ⟨_, rfl, d, o, rfl, .inl (s2 _ _ (s1 _ _ hd)), oko.nd, by have := oko.few; omega, fun o' ord t H3 n3 s3 e3 => ?_⟩
    refine ⟨_, rfl, _, rfl, fun m dm nm ndm ne => ?_⟩
    have sm : Same H3 (upd (upd H3 dm (.own m)) m (.ins CM dm [])) := same_updN (same_updN (Same.refl _) ndm) nm
    refine ⟨m, t, l, dm, ys, rs, b, rfl, upd_same, sm _ _ (s3 _ _ e2), rr.same (s3.trans sm), ok.fit, hb, by omega, few1, few2, fun fs H5 sa aa ea as es nsa naa nea x5 m5 mf => ⟨rfl, ?_⟩⟩
    have hbd3 : H3 bd = some (.ins CB dx []) := s3 _ _ (s2 _ _ (s1 _ _ hbd))
    have nbm : bd ≠ m := ne_of_none hbd3 nm
    have hbd5 : H5 bd = some (.ins CB dx []) := x5 bd _ nbm (sm _ _ hbd3)
    refine ⟨_, rfl, bd, CB, dx, _, rfl, hbd5, TB.cl, TB.n_machine, by decide, ?_⟩
    have x6 : SameX bd H5 (upd H5 bd (.ins CB dx (putF "machine" (.ref m) []))) := SameX.upd fun _ _ _ e => e
    have up : ∀ {b2 : Addr} {u : HO}, b2 ≠ bd → H b2 = some u → upd H5 bd (.ins CB dx (putF "machine" (.ref m) [])) b2 = some u := fun {b2 u} nb e => by
      have e3' : H3 b2 = some u := s3 _ _ (s2 _ _ (s1 _ _ e))
      exact x6 b2 u nb (x5 b2 u (ne_of_none e3' nm) (sm _ _ e3'))
    have up3 : ∀ {b2 : Addr} {u : HO}, H3 b2 = some u → b2 ≠ bd → upd H5 bd (.ins CB dx (putF "machine" (.ref m) [])) b2 = some u := fun {b2 u} e nb => x6 b2 u nb (x5 b2 u (ne_of_none e nm) (sm _ _ e))
    have rows6 : Rows (upd H5 bd (.ins CB dx (putF "machine" (.ref m) []))) ys rs := SameX.rows x6 hbd5 (SameX.rows x5 upd_same (rr.same (s3.trans sm)))
    have s12 : Same H H2 := s1.trans s2
    have s13 : Same H H3 := s12.trans s3
    refine k _ (fun b2 u nb e => up nb e) ⟨m, t, l, sa, aa, ea, o', ys, as, es, ⟨⟨dx, _, upd_same, by rw [lookup_putF, if_pos rfl]⟩, ⟨dm, fs, x6 m _ (Ne.symm nbm) m5, mf.x x6 hbd5⟩, up3 e3 (fun z => by rw [z, hbd3] at e3; cases e3), ord, up3 (s3 _ _ e2) (fun z => by rw [z] at e2; rw [s2 _ _ (s1 _ _ hbd)] at e2; cases e2), rows6, hb, dx, upd_same⟩, none_of s13 nm, none_of s12 n3, none_of s1 n2, none_of s13 (none_of sm nsa), none_of s13 (none_of sm naa), none_of s13 (none_of sm nea)⟩
end
end Mine

set_option maxRecDepth 100000
set_option maxHeartbeats 4000000
namespace Mine
open PySem L2
abbrev sSrc : Stmt := top 62
abbrev sNext : Stmt := top 63
abbrev sOne : Stmt := top 64
/-- the source of the draws: three ints -/
def SrcAt (H : Hp) (a : Addr) : Prop := ∃ x y z : Int, H a = some (.lst [.int x, .int y, .int z])
/-- all but what stands at a is as it was -/
def But (H H' : Hp) (a : Addr) : Prop := ∀ b o, b ≠ a → H b = some o → H' b = some o
theorem but_upd {H : Hp} {a : Addr} (o : HO) : But H (upd H a o) a := fun b u ne e => by
  rw [upd_ne ne]
  exact e
theorem But.trans {H H1 H2 : Hp} {a : Addr} (s : But H H1 a) (t : But H1 H2 a) : But H H2 a := fun b o ne e => t b o ne (s b o ne e)
theorem But.same {H H1 H2 : Hp} {a : Addr} (s : Same H H1) (t : But H1 H2 a) (n : H a = none) : Same H H2 := fun b o e => t b o (ne_of_none e n) (s b o e)
def spSrc : Sp := fun vs H Q _ => ∃ c : Int, vs = [.int c] ∧ ∀ (x y z : Int), New H (.lst [.int x, .int y, .int z]) Q
def spNext : Sp := fun vs H Q _ => ∃ (a : Addr) (m x y z : Int), vs = [.ref a, .int m] ∧ 0 < m ∧ m.natAbs < 2 ^ 200 ∧ H a = some (.lst [.int x, .int y, .int z]) ∧
  ∀ (n x' y' z' : Int) (H' : Hp), 0 ≤ n → n < m → But H H' a → H' a = some (.lst [.int x', .int y', .int z']) → Q (.int n) H'
/-- one of the things in a list -/
def spOne : Sp := fun vs H Q _ => ∃ (a b : Addr) (xs : List V) (x y z : Int), vs = [.ref a, .ref b] ∧ H a = some (.lst [.int x, .int y, .int z]) ∧ H b = some (.lst xs) ∧ 0 < xs.length ∧ xs.length ≤ 1000 ∧ a ≠ b ∧
  ∀ (v : V) (x' y' z' : Int) (H' : Hp), v ∈ xs → But H H' a → H' a = some (.lst [.int x', .int y', .int z']) → Q v H'
structure TxtD (K : PySem.W.Frag) (mg : Str → Option Value) (fN : Addr) : Prop where
  int : mg "int" = none
  len : mg "len" = none
  gN : mg "_law_draw" = some (.ref fN)
  kN : PySem.W.keepIn K (.ref fN) = true
theorem at0 {α : Type} {a : α} {l : List α} : atI (a :: l) 0 = some a := atI_nat (j := 0) rfl
theorem at1 {α : Type} {a b : α} {l : List α} : atI (a :: b :: l) 1 = some b := atI_nat (j := 1) rfl
theorem at2 {α : Type} {a b c : α} {l : List α} : atI (a :: b :: c :: l) 2 = some c := atI_nat (j := 2) rfl
theorem ix0 {n : Nat} : ixN (n + 1) 0 = some 0 := by
  unfold ixN
  rw [if_pos (Int.le_refl _), if_pos (by omega)]
  rfl
theorem ix2 {n : Nat} : ixN (n + 3) 2 = some 2 := by
  unfold ixN
  rw [if_pos (by decide), if_pos (by omega)]
  rfl
theorem modM {m : Int} (h : 0 < m) (u : Int) : 0 ≤ u % m ∧ u % m < m := ⟨Int.emod_nonneg _ (by omega), Int.emod_lt_of_pos _ h⟩
section
variable {P : Program} {w : World} {K : PySem.W.Frag} {mg : Str → Option Value} {base : Heap}
variable {fN : Addr}
theorem sc__law_source : FnScope ["_law_cell", "_law_number"] ["_law_cell"] (defScope sSrc) := ⟨rfl, rfl, rfl, by decide +kernel, rfl, by decide +kernel, by decide +kernel⟩
theorem ok_src {f : Addr} {fd : FuncData} (F : Fun K "_law_source" "_law_source" sSrc f fd) (T : TxtD K mg fN) : FnOk P w K mg base CX0 1 f fd ["_law_cell"] spSrc := by
  refine F.ok sc__law_source (fun vs H Q E h => ?_) (fun cdv A outer s H vs Q E hr h => ?_)
  · obtain ⟨c, rfl, _⟩ := h
    rfl
  · obtain ⟨c, rfl, k⟩ := h
    refine ⟨_, (pss_cons (ps_set (i := 1) sc__law_source.nd rfl (Or.inl rfl) (pe_ifExp (pt_cmpR op_ge (pv 0) pe_int (nomark _)) (pv 0) (pe_op op_sub (pe_op op_sub pe_int (pe_op op_mul pe_int (pv 0))) pe_int)))
      (pss_one (ps_ret (pe_lstG (pa_cons (pe_op op_mul (pv 1) (pe_callTy call_int1 (by rfl) T.int (by decide +kernel) (pa_cons (pe_cmpR op_ge (pv 1) (pe_op op_pow pe_int pe_int) (nomark _)) pa_nil))) (pa_cons (pe_op op_mod (pe_callTy call_int1 (by rfl) T.int (by decide +kernel) (pa_cons (pv 1) pa_nil)) pe_int) (pa_cons pe_int pa_nil))))))), ?_⟩
    refine ⟨_, rfl, _, _, rfl, rfl, _, rfl, ?_⟩
    refine ite2 (fun _ => ?_) (fun _ => ?_)
    · refine ⟨_, rfl, _, rfl, _, rfl, _, _, rfl, rfl, ⟨by decide, by decide, by decide⟩, _, _, rfl, rfl, .inr ⟨_, rfl, _, _, rfl, rfl, .inr (by split <;> decide), ?_⟩⟩
      refine ⟨_, rfl, .inl ⟨_, rfl, _, _, rfl, rfl, (by show (0 : Int) < 2147483629; decide), ?_⟩⟩
      exact ⟨by show 3 ≤ sizeLine; decide, fun p H' n s e => k _ _ _ p H' n s e⟩
    · refine ⟨_, rfl, _, _, rfl, rfl, .inl (by decide), _, _, rfl, rfl, _, _, rfl, rfl, ?_⟩
      refine ⟨_, rfl, _, rfl, _, _, rfl, rfl, ⟨by decide, by decide, by decide⟩, _, _, rfl, rfl, .inr ⟨_, rfl, _, _, rfl, rfl, .inr (by split <;> decide), ?_⟩⟩
      refine ⟨_, rfl, .inl ⟨_, rfl, _, _, rfl, rfl, (by show (0 : Int) < 2147483629; decide), ?_⟩⟩
      exact ⟨by show 3 ≤ sizeLine; decide, fun p H' n s e => k _ _ _ p H' n s e⟩
theorem divOk {i m : Int} (h0 : 0 < m) (h : m.natAbs < 2 ^ 200) : CDivW i m := wide_div (i := i) h0 h (by decide) (by decide)
theorem sc__law_draw : FnScope ["_law_well", "_law_many", "_law_found", "_law_number"] ["_law_well", "_law_many"] (defScope sNext) := ⟨rfl, rfl, rfl, by decide +kernel, rfl, by decide +kernel, by decide +kernel⟩
theorem ok_next {f : Addr} {fd : FuncData} (F : Fun K "_law_draw" "_law_draw" sNext f fd) (T : TxtD K mg fN) : FnOk P w K mg base CX0 1 f fd ["_law_well", "_law_many"] spNext := by
  refine F.ok sc__law_draw (fun vs H Q E h => ?_) (fun cdv A outer s H vs Q E hr h => ?_)
  · obtain ⟨a, m, x, y, z, rfl, _⟩ := h
    rfl
  · obtain ⟨a, m, x, y, z, rfl, m0, m1, ha, k⟩ := h
    refine ⟨_, (pss_cons (ps_if (pt_cmpR op_gt (pe_ix ix_list (pv 0) pe_int (fun _ _ => rfl)) pe_int (nomark _)) (pss_cons (ps_set (i := 2) sc__law_draw.nd rfl (Or.inl rfl) (pe_op op_mod (pe_callTy call_int1 (by rfl) T.int (by decide +kernel) (pa_cons (pe_ix ix_list (pv 0) pe_int (fun _ _ => rfl)) pa_nil)) (pv 1)))
      (pss_cons (ps_asg (pe_op op_fdivW (pe_ix ix_list (pv 0) pe_int (fun _ _ => rfl)) (pv 1)) (pg_sub (pv 0) pe_int set_list))
      (pss_one (ps_ret (pv 2))))) pss_nil)
      (pss_cons (ps_asg (pe_op op_add (pe_ix ix_list (pv 0) pe_int (fun _ _ => rfl)) pe_int) (pg_sub (pv 0) pe_int set_list))
      (pss_cons (ps_set (i := 3) sc__law_draw.nd rfl (Or.inl rfl) (pe_op op_mod (pe_callTy call_int1 (by rfl) T.int (by decide +kernel) (pa_cons (pe_op op_mul (pe_op op_add (pe_op op_add (pe_ix ix_list (pv 0) pe_int (fun _ _ => rfl)) (pe_op op_mul pe_int (pe_ix ix_list (pv 0) pe_int (fun _ _ => rfl)))) pe_int) pe_int) pa_nil)) pe_int))
      (pss_cons (ps_set (i := 3) sc__law_draw.nd rfl (Or.inl rfl) (pe_op op_mod (pe_callTy call_int1 (by rfl) T.int (by decide +kernel) (pa_cons (pe_op op_mul (pv 3) (pe_op op_add (pe_op op_add (pe_op op_fdiv (pv 3) pe_int) pe_int) (pe_ix ix_list (pv 0) pe_int (fun _ _ => rfl)))) pa_nil)) pe_int))
      (pss_one (ps_ret (pe_op op_mod (pe_callTy call_int1 (by rfl) T.int (by decide +kernel) (pa_cons (pe_op op_fdiv (pe_op op_mod (pe_callTy call_int1 (by rfl) T.int (by decide +kernel) (pa_cons (pe_op op_mul (pv 3) (pe_op op_add (pe_op op_fdiv (pv 3) pe_int) pe_int)) pa_nil)) pe_int) pe_int) pa_nil)) (pv 1)))))))), ?_⟩
    refine ⟨_, rfl, _, _, _, _, rfl, rfl, SqL.of ha, at0, _, _, rfl, rfl, _, rfl, ?_⟩
    refine ite2 (fun _ => ?_) (fun _ => ?_)
    · refine ⟨_, rfl, _, _, _, _, rfl, rfl, SqL.of ha, at0, .inl ⟨_, rfl, _, rfl, _, _, rfl, rfl, m0, ?_⟩⟩
      refine ⟨_, rfl, _, _, _, _, rfl, rfl, SqL.of ha, at0, _, rfl, _, _, rfl, rfl, divOk m0 m1, _, rfl, _, _, _, 0, rfl, rfl, ha, ix0, ?_⟩
      exact ⟨_, rfl, k _ _ y z _ (modM m0 _).1 (modM m0 _).2 (but_upd _) upd_same⟩
    · refine ⟨_, rfl, _, _, _, _, rfl, rfl, SqL.of ha, at2, _, _, rfl, rfl, _, rfl, _, _, _, 2, rfl, rfl, ha, ix2, ?_⟩
      have bd : ∀ u : Int, (-(2 ^ 64) < u % 2147483647 ∧ u % 2147483647 < 2 ^ 64) := fun u => by
        have := modM (show (0 : Int) < 2147483647 by decide) u
        omega
      have bd2 : ∀ u : Int, (-(2 ^ 64) < u % 2147483587 ∧ u % 2147483587 < 2 ^ 64) := fun u => by
        have := modM (show (0 : Int) < 2147483587 by decide) u
        omega
      refine ⟨_, rfl, _, _, _, _, rfl, rfl, SqL.of upd_same, at1, _, rfl, _, _, _, _, rfl, rfl, SqL.of upd_same, at2, _, _, rfl, rfl, .inl (by decide), _, _, rfl, rfl, _, _, rfl, rfl, _, _, rfl, rfl, .inr (by decide), .inl ⟨_, rfl, _, _, rfl, rfl, (by show (0 : Int) < 2147483647; decide), ?_⟩⟩
      refine ⟨_, rfl, _, rfl, _, _, rfl, rfl, ⟨by decide, by decide⟩, _, _, rfl, rfl, _, rfl, _, _, _, _, rfl, rfl, SqL.of upd_same, at2, _, _, rfl, rfl, _, _, rfl, rfl, .inl (bd _), .inl ⟨_, rfl, _, _, rfl, rfl, (by show (0 : Int) < 2147483587; decide), ?_⟩⟩
      refine ⟨_, rfl, _, rfl, _, _, rfl, rfl, ⟨by decide, by decide⟩, _, _, rfl, rfl, _, _, rfl, rfl, .inl (bd2 _), .inl ⟨_, rfl, _, _, rfl, rfl, (by show (0 : Int) < 2147483563; decide), ?_⟩⟩
      refine ⟨_, _, rfl, rfl, ⟨by decide, by decide⟩, .inl ⟨_, rfl, _, rfl, _, _, rfl, rfl, m0, ?_⟩⟩
      exact k _ x y _ _ (modM m0 _).1 (modM m0 _).2 (but_upd _) upd_same
theorem scOne : FnScope ["_law_well", "_law_some"] ["_law_well", "_law_some"] (defScope sOne) := ⟨rfl, rfl, rfl, by decide +kernel, rfl, by decide +kernel, by decide +kernel⟩
theorem ok_one {f : Addr} {fd fdN : FuncData} (F : Fun K "_law_pick" "_law_pick" sOne f fd) (T : TxtD K mg fN) (FN : Fun K "_law_draw" "_law_draw" sNext fN fdN) (bN : Binds K fdN ["_law_well", "_law_many"] []) : FnOk P w K mg base CX0 2 f fd ["_law_well", "_law_some"] spOne := by
  have GN : FnOk P w K mg base CX0 1 fN fdN ["_law_well", "_law_many"] spNext := ok_next FN T
  refine F.ok scOne (fun vs H Q E h => ?_) (fun cdv A outer s H vs Q E hr h => ?_)
  · obtain ⟨a, b, xs, x, y, z, rfl, _⟩ := h
    rfl
  · obtain ⟨a, b, xs, x, y, z, rfl, ha, hb, l0, l1, ne, k⟩ := h
    have hr1 : Room 1 _ := hr.mono (by decide)
    refine ⟨_, (pss_one (ps_ret (pe_ix ix_list (pv 1) (pe_call GN hr1 (by rfl) T.gN T.kN bN .nil pass0 (pa_cons (pv 0) (pa_cons (pe_callB call_len_seq (by rfl) T.len PySem.boot_len (pa_cons (pv 1) pa_nil)) pa_nil))) (fun _ _ => rfl)))), ?_⟩
    refine ⟨_, rfl, _, rfl, _, rfl, _, _, rfl, .inl (SqL.of hb), a, _, x, y, z, rfl, by omega, ?_, ha, fun n x' y' z' H' n0 n1 bt he => ?_⟩
    · have : (((xs.length : Nat) : Int)).natAbs = xs.length := rfl
      rw [this]
      exact Nat.lt_of_le_of_lt l1 (by decide)
    · have hn : n.toNat < xs.length := by omega
      have ei : xs[n.toNat]? = some xs[n.toNat] := List.getElem?_eq_getElem hn
      have e2 : ((n.toNat : Nat) : Int) = n := Int.toNat_of_nonneg n0
      have ea : atI xs ((n.toNat : Nat) : Int) = some xs[n.toNat] := atI_nat ei
      rw [e2] at ea
      exact ⟨_, _, _, _, rfl, rfl, SqL.of (bt _ _ ne.symm hb), ea, k _ _ _ _ _ (List.getElem_mem hn) bt he⟩
end
end Mine

set_option maxRecDepth 100000
set_option maxHeartbeats 4000000
/-! things in groups: each leads to another of its group, the last one to itself. Plain mathematics -/
namespace Wk
def put (ls : Nat → Nat) (k v : Nat) : Nat → Nat := fun i => if i = k then v else ls i
theorem put_same (ls : Nat → Nat) (k v : Nat) : put ls k v k = v := if_pos rfl
theorem put_ne {ls : Nat → Nat} {k v i : Nat} (h : i ≠ k) : put ls k v i = ls i := if_neg h
structure Rep (n : Nat) (ls rank rep : Nat → Nat) : Prop where
  lt : ∀ i, i < n → ls i < n
  rlt : ∀ i, i < n → rep i < n
  up : ∀ i, i < n → rep (ls i) = rep i
  own : ∀ i, i < n → ls i = i → rep i = i
  dn : ∀ i, i < n → ls i ≠ i → rank (ls i) < rank i
theorem Rep.root {n : Nat} {ls rank rep : Nat → Nat} (r : Rep n ls rank rep) : ∀ (m i : Nat), rank i ≤ m → i < n → ls (rep i) = rep i ∧ rep (rep i) = rep i
  | m, i, hm, hi => by
    by_cases h : ls i = i
    · have := r.own i hi h
      rw [this]
      exact ⟨h, this⟩
    · have d := r.dn i hi h
      cases m with
      | zero => omega
      | succ m =>
        have := Rep.root r m (ls i) (by omega) (r.lt i hi)
        rw [r.up i hi] at this
        exact this
theorem Rep.root' {n : Nat} {ls rank rep : Nat → Nat} (r : Rep n ls rank rep) {i : Nat} (hi : i < n) : ls (rep i) = rep i ∧ rep (rep i) = rep i := r.root _ i (Nat.le_refl _) hi
theorem Rep.half {n : Nat} {ls rank rep : Nat → Nat} (r : Rep n ls rank rep) {i : Nat} (hi : i < n) (h : ls i ≠ i) :
    Rep n (put ls i (ls (ls i))) rank rep ∧ rank (ls (ls i)) < rank i ∧ rep (ls (ls i)) = rep i := by
  have h1 := r.dn i hi h
  have hl := r.lt i hi
  have h2 : rank (ls (ls i)) < rank i := by
    by_cases z : ls (ls i) = ls i
    · rw [z]
      exact h1
    · have := r.dn _ hl z
      omega
  have h3 : rep (ls (ls i)) = rep i := by rw [r.up _ hl, r.up i hi]
  refine ⟨⟨fun j hj => ?_, r.rlt, fun j hj => ?_, fun j hj e => ?_, fun j hj e => ?_⟩, h2, h3⟩
  · by_cases z : j = i
    · subst z
      rw [put_same]
      exact r.lt _ hl
    · rw [put_ne z]
      exact r.lt j hj
  · by_cases z : j = i
    · subst z
      rw [put_same]
      exact h3
    · rw [put_ne z]
      exact r.up j hj
  · by_cases z : j = i
    · subst z
      rw [put_same] at e
      rw [e] at h2
      omega
    · rw [put_ne z] at e
      exact r.own j hj e
  · by_cases z : j = i
    · subst z
      rw [put_same]
      exact h2
    · rw [put_ne z] at e ⊢
      exact r.dn j hj e
def joinR (rep : Nat → Nat) (a b : Nat) : Nat → Nat := fun i => if rep i = b then a else rep i
theorem Rep.join {n : Nat} {ls rank rep : Nat → Nat} (r : Rep n ls rank rep) {a b : Nat} (ha : a < n) (hb : b < n) (ea : rep a = a) (eb : rep b = b) : ∃ rank', Rep n (put ls b a) rank' (joinR rep a b) := by
  by_cases ab : a = b
  · subst ab
    have l : ls a = a := by
      have := (r.root' ha).1
      rw [ea] at this
      exact this
    have e1 : put ls a a = ls := by
      funext i
      unfold put
      split
      · rename_i z
        rw [z, l]
      · rfl
    have e2 : joinR rep a a = rep := by
      funext i
      unfold joinR
      split
      · rename_i z
        exact z.symm
      · rfl
    rw [e1, e2]
    exact ⟨rank, r⟩
  · have ra : joinR rep a b a = a := by
      unfold joinR
      rw [ea, if_neg ab]
    have rb : joinR rep a b b = a := by
      unfold joinR
      rw [eb, if_pos rfl]
    refine ⟨fun i => if rep i = b then rank i + rank a + 1 else rank i, ⟨fun j hj => ?_, fun j hj => ?_, fun j hj => ?_, fun j hj e => ?_, fun j hj e => ?_⟩⟩
    · by_cases z : j = b
      · subst z
        rw [put_same]
        exact ha
      · rw [put_ne z]
        exact r.lt j hj
    · unfold joinR
      split
      · exact ha
      · exact r.rlt j hj
    · by_cases z : j = b
      · subst z
        rw [put_same, ra, rb]
      · rw [put_ne z]
        unfold joinR
        rw [r.up j hj]
    · by_cases z : j = b
      · subst z
        rw [put_same] at e
        exact absurd e ab
      · rw [put_ne z] at e
        have := r.own j hj e
        unfold joinR
        rw [this, if_neg z]
    · by_cases z : j = b
      · subst z
        rw [put_same]
        show (if rep a = j then rank a + rank a + 1 else rank a) < (if rep j = j then rank j + rank a + 1 else rank j)
        rw [ea, if_neg ab, eb, if_pos rfl]
        omega
      · rw [put_ne z] at e ⊢
        have d := r.dn j hj e
        show (if rep (ls j) = b then rank (ls j) + rank a + 1 else rank (ls j)) < (if rep j = b then rank j + rank a + 1 else rank j)
        rw [r.up j hj]
        split <;> omega
/-- how many groups there are -/
def groups (n : Nat) (rep : Nat → Nat) : Nat := (List.range n).countP fun i => decide (rep i = i)
theorem groups_le (n : Nat) (rep : Nat → Nat) : groups n rep ≤ n := by
  have := List.countP_le_length (p := fun i => decide (rep i = i)) (l := List.range n)
  rw [List.length_range] at this
  exact this
theorem count_less {b : Nat} {p q : Nat → Bool} (hb : p b = true) (hq : q b = false) (he : ∀ i, i ≠ b → q i = p i) : ∀ l : List Nat, l.Nodup → b ∈ l → l.countP q + 1 = l.countP p
  | [], _, h => nomatch h
  | x :: l, nd, h => by
    rw [List.nodup_cons] at nd
    have out : ∀ m : List Nat, b ∉ m → m.countP q = m.countP p := fun m hm => List.countP_congr fun y hy => by rw [he y (fun z => hm (z ▸ hy))]
    by_cases z : x = b
    · subst z
      rw [List.countP_cons_of_pos hb, List.countP_cons_of_neg (by rw [hq]; simp), out l nd.1]
    · have hm : b ∈ l := (List.mem_cons.mp h).elim (fun y => absurd y.symm z) id
      have ih := count_less hb hq he l nd.2 hm
      rw [List.countP_cons, List.countP_cons, he x z]
      omega
theorem groups_join {n : Nat} {ls rank rep : Nat → Nat} (r : Rep n ls rank rep) {a b : Nat} (hb : b < n) (ea : rep a = a) (eb : rep b = b) (ab : a ≠ b) : groups n (joinR rep a b) + 1 = groups n rep := by
  refine count_less (b := b) (decide_eq_true eb) ?_ (fun i hi => ?_) _ List.nodup_range (List.mem_range.mpr hb)
  · refine decide_eq_false ?_
    unfold joinR
    rw [eb, if_pos rfl]
    exact ab
  · refine decide_eq_decide.mpr ?_
    unfold joinR
    by_cases z : rep i = b
    · rw [if_pos z]
      constructor
      · intro y
        rw [← y, ea] at z
        exact absurd z ab
      · intro y
        rw [z] at y
        exact absurd y.symm hi
    · rw [if_neg z]
theorem Rep.start (n : Nat) : Rep n (fun i => i) (fun _ => 0) (fun i => i) := ⟨fun _ h => h, fun _ h => h, fun _ _ => rfl, fun _ _ _ => rfl, fun _ _ h => absurd rfl h⟩
end Wk

set_option maxRecDepth 100000
set_option maxHeartbeats 4000000
namespace Mine
open PySem L2
def rowStr : RowD → Str
  | .ask op _ => op
  | .go _ => "go"
  | .fin w => w
/-! where a walk lands that goes on at most so often -/
theorem stp_at {rs : List RowD} (ok : GoOk rs) {i : Nat} (hi : i < rs.length) (t : Nat) (h : isGo rs (way rs t i) = false) : stp rs i = way rs t i := by
  have lt : way rs t i < rs.length := Mach.itr_lt (nxt_lt ok) t i hi
  rw [← stp_way ok t i hi]
  exact Mach.stop_fix (nxt_lt ok) lt (nxt_fix h)
theorem all_go {rs : List RowD} (ok : GoOk rs) {i : Nat} (hi : i < rs.length) (h : ∀ t, t ≤ rs.length → isGo rs (way rs t i) = true) : ∀ t, isGo rs (way rs t i) = true := by
  obtain ⟨a, b, ab, bn, e⟩ := Mach.again (nxt_lt ok) hi
  intro t
  induction t using Nat.strongRecOn with
  | _ t ih =>
    by_cases z : t ≤ rs.length
    · exact h t z
    · have e1 : way rs t i = way rs (t - (b - a)) i := by
        have h1 : way rs t i = Mach.itr (nxt rs) (t - b) (way rs b i) := by
          have := Mach.itr_add (nxt rs) b (t - b) i
          rw [show b + (t - b) = t by omega] at this
          exact this
        have h2 : way rs (t - (b - a)) i = Mach.itr (nxt rs) (t - b) (way rs a i) := by
          have := Mach.itr_add (nxt rs) a (t - b) i
          rw [show a + (t - b) = t - (b - a) by omega] at this
          exact this
        rw [h1, h2]
        show Mach.itr _ _ (Mach.itr _ _ _) = Mach.itr _ _ (Mach.itr _ _ _)
        rw [e]
      rw [e1]
      exact ih _ (by omega)
theorem stp_go {rs : List RowD} (ok : GoOk rs) {i : Nat} (hi : i < rs.length) (h : ∀ t, t ≤ rs.length → isGo rs (way rs t i) = true) : isGo rs (stp rs i) = true := by
  obtain ⟨k, e⟩ := Mach.stop_mem (nxt rs) rs.length i
  have : stp rs i = way rs (rs.length + k) i := by
    show Mach.stopAt _ _ _ = Mach.itr _ _ _
    rw [e, Mach.itr_add]
  rw [this]
  exact all_go ok hi h _
/-- the row at which it lands, None in a ring -/
def landV (rs : List RowD) (i : Nat) : V := if isGo rs (stp rs i) then .non else .int (stp rs i : Int)
/-- what is shown there -/
def showD : RowD → List Str
  | .ask op _ => ["ask", op]
  | .go _ => ["hang"]
  | .fin w => ["end", w]
def showAt (rs : List RowD) (j : Nat) : List Str := match rs[j]? with
  | some d => showD d
  | none => []
def stepsAt (rs : List RowD) (j : Nat) : List Int := match rs[j]? with
  | some d => nextsD d
  | none => []
theorem showAt_of {rs : List RowD} {j : Nat} {d : RowD} (e : rs[j]? = some d) : showAt rs j = showD d := by
  unfold showAt
  rw [e]
theorem stepsAt_of {rs : List RowD} {j : Nat} {d : RowD} (e : rs[j]? = some d) : stepsAt rs j = nextsD d := by
  unfold stepsAt
  rw [e]
def landD (d : RowD) (j : Nat) : V := match d with
  | .go _ => .non
  | _ => .int (j : Int)
theorem landV_of {rs : List RowD} {i : Nat} {d : RowD} (e : rs[stp rs i]? = some d) : landV rs i = landD d (stp rs i) := by
  unfold landV isGo
  rw [e]
  cases d <;> rfl
theorem one_ok (v : V) : [v].length ≤ sizeLine := by rw [sizeLine_eq]; exact Nat.succ_le_of_lt (by decide)
theorem two_ok (v u : V) : [v, u].length ≤ sizeLine := by rw [sizeLine_eq]; exact Nat.le_trans (show 2 ≤ 2 from Nat.le_refl 2) (by decide)
end Mine

set_option maxRecDepth 100000
set_option maxHeartbeats 4000000
namespace L2
open PySem PySem.Spec PyProof.Rows
/-- {k: v}, the key a tuple; the new dict stands empty while the pair is made -/
def tDisp1T (tk tv : TE) : TE := fun σ H Q => ∀ p, H p = none → tk σ (upd H p (.dT [])) fun x H1 => tv σ H1 fun y H2 => H2 p = some (.dT []) ∧
  ∃ (b : Addr) (ks : List Key), x = .ref b ∧ H2 b = some (.tup (ks.map kV)) ∧ Q (.ref p) (upd H2 p (.dT [(ks, y)]))
theorem pe_disp1T {X : Cx} {pos : Pos} {k v : Expr} {tk tv : TE} (hu : X.A.units + 1 < cLine) (hk : PE X k tk) (hv : PE X v tv) : PE X (.Dict [some k] [v] pos) (tDisp1T tk tv) := by
  refine ⟨fun pins s σ H Q I q => ?_⟩
  have hn := I.hok.fresh (Nat.le_refl s.heap.objs.size)
  have I1 := I.laid (a := s.heap.objs.size) (o := .dT []) (h' := s.heap.push { cls := .type "dict", data := .dict #[] }) (t' := s.toks) (fun _ _ q => Heap.get?_push_of_some _ q) (Nat.le_refl _) (dt_empty s.heap I.big)
  rw [arm_eval_Dict, zip_pairTrees [some k] [v] X.env pos (by simp) rfl, dictDisplay_pairs _ (by simp [pairTrees]) (by simp [pairTrees])]
  refine wpAny_bind (wpAny_standAt (wpAny_bind ?_))
  unfold subDict
  refine wpAny_bind (wpAny_alloc ?_)
  refine wpAny_bind (wpAny_holding ?_)
  rw [if_pos (by simp [pairTrees])]
  refine wpAny_bind (pairTrees_cons_walk (thn (hk.run pins _ σ _ _ I1 (q _ hn)) fun u s1 ⟨x, H1, I2, rx, q1⟩ => thn (hv.run pins s1 σ H1 _ I2 q1) fun w2 s2 ⟨y, H2, I3, ry, e, b, ks, ex, eb, q2⟩ => pairTrees_nil_walk ?_))
  subst ex
  cases (show u = Value.ref b from rx)
  obtain ⟨z, hd, xs, rel, dd⟩ := dt_of I3.hok e
  have x0 : xs = [] := by
    have := Paired.length rel
    exact List.length_eq_zero_iff.mp this.symm
  subst x0
  refine wpAny_holding ?_
  rw [List.forIn_cons]
  refine wpAny_bind (wpAny_bind (wpAny_bind (wpAny_dictSet_heap (hsz := Nat.zero_le _) (show (tupleKind (mixKind X.prog X.w)).room X.A from by show X.A.units < cLine; omega) (key_of I3.hok eb) dd fun h' dd' hs => wpAny_pure ?_)))
  show wpAny _ _ (forIn [] PUnit.unit _) _ _ _
  rw [List.forIn_nil]
  refine wpAny_pure (wpAny_pure (wpAny_pure (wpAny_pure ⟨.ref s.heap.objs.size, _, ?_, rfl, q2⟩)))
  obtain ⟨qo, es, ep, hq, h2, h3, h4, _, h5⟩ := dd'
  refine d_write I3 (by rw [e]; exact True.intro) hs ⟨qo, hq⟩ ⟨by rw [sizeLine_eq]; show 1 ≤ _; omega, hd, _, (KT.put rel ks eb ry).keeps fun c ys ec => ?_, qo, es, ep, hq, h2, h3, h4, h5⟩
  rw [upd_ne (ne_of ec e (fun z => nomatch z))]
  exact ec
end L2

set_option maxRecDepth 100000
set_option maxHeartbeats 4000000
namespace Mine
open PySem L2
abbrev s_shows_of : Stmt := top 34
abbrev s_leader_of : Stmt := top 43
abbrev s_are_led_together : Stmt := top 42
theorem But.refl (H : Hp) (a : Addr) : But H H a := fun _ _ _ e => e
def flN (n : Nat) (ls : Nat → Nat) : List V := fl n fun i => (ls i : Int)
theorem flN_at {n k : Nat} {ls : Nat → Nat} (h : k < n) : atI (flN n ls) (k : Int) = some (V.int (ls k : Int)) := fl_at h
theorem flN_len {n : Nat} {ls : Nat → Nat} : (flN n ls).length = n := fl_len
theorem flN_set {n k v : Nat} {ls : Nat → Nat} (h : k < n) : (flN n ls).set k (V.int (v : Int)) = flN n (Wk.put ls k v) := by
  unfold flN
  rw [fl_set h]
  congr 1
  funext i
  unfold Wk.put
  by_cases z : i = k
  · rw [if_pos z, if_pos z]
  · rw [if_neg z, if_neg z]
def spShows : Sp := fun vs H Q _ => ∃ (q : Addr) (d : RowD), vs = [.ref q] ∧ TRow H (.ref q) d ∧ ∀ (t : Addr) (H' : Hp), Same H H' → H' t = some (.tup ((showD d).map V.str)) → Q (.ref t) H'
def spLeader : Sp := fun vs H Q _ => ∃ (la : Addr) (n t : Nat) (ls rank rep : Nat → Nat), vs = [.ref la, .int (t : Int)] ∧ H la = some (.lst (flN n ls)) ∧ Wk.Rep n ls rank rep ∧ t < n ∧
  ∀ (ls' : Nat → Nat) (H' : Hp), Wk.Rep n ls' rank rep → But H H' la → H' la = some (.lst (flN n ls')) → Q (.int (rep t : Int)) H'
def spLed : Sp := fun vs H Q _ => ∃ (la : Addr) (n a b : Nat) (ls rank rep : Nat → Nat), vs = [.ref la, .int (a : Int), .int (b : Int)] ∧ H la = some (.lst (flN n ls)) ∧ Wk.Rep n ls rank rep ∧ a < n ∧ b < n ∧
  ∀ (ls' rank' : Nat → Nat) (H' : Hp), Wk.Rep n ls' rank' (Wk.joinR rep (rep a) (rep b)) → But H H' la → H' la = some (.lst (flN n ls')) → Q (.bl (decide (rep a = rep b))) H'
theorem natDec (a b : Nat) : decide (V.int (a : Int) = V.int (b : Int)) = decide (a = b) := by
  by_cases h : a = b
  · subst h
    simp
  · rw [decide_eq_false h]
    exact decide_eq_false fun z => h (by have := V.int.inj z; omega)
section
variable {P : Program} {w : World} {K : PySem.W.Frag} {mg : Str → Option Value} {base : Heap}
variable {fII fIW a_leader : Addr}
theorem sc_shows_of : FnScope ["line"] ["line"] (defScope s_shows_of) := ⟨rfl, rfl, rfl, by decide +kernel, rfl, by decide +kernel, by decide +kernel⟩
theorem ok_shows_of {f : Addr} {fd : FuncData} (F : Fun K "shows_of" "shows_of" s_shows_of f fd) : FnOk P w K mg base CX0 1 f fd ["line"] spShows := by
  refine F.ok sc_shows_of (fun vs H Q E h => ?_) (fun cdv A outer s H vs Q E hr h => ?_)
  · obtain ⟨q, d, rfl, _⟩ := h
    rfl
  · obtain ⟨q, d, rfl, row, k⟩ := h
    refine ⟨_, (pss_cons (ps_if (pt_cmpR op_eq (pe_ix ix_tup (pv 0) pe_int (fun _ _ => rfl)) pe_str (nomark _)) (pss_one (ps_ret (pe_tupG (pa_cons pe_str pa_nil)))) pss_nil)
      (pss_one (ps_ret (pe_tupG (pa_cons (pe_ix ix_tup (pv 0) pe_int (fun _ _ => rfl)) (pa_cons (pe_ix ix_tup (pv 0) pe_int (fun _ _ => rfl)) pa_nil)))))), ?_⟩
    have one : ∀ v : V, [v].length ≤ sizeLine := fun v => by rw [sizeLine_eq]; exact Nat.succ_le_of_lt (by decide)
    have two : ∀ v u : V, [v, u].length ≤ sizeLine := fun v u => by rw [sizeLine_eq]; exact Nat.le_trans (show 2 ≤ 2 from Nat.le_refl 2) (by decide)
    cases d with
    | ask op ns =>
      obtain ⟨a, t, e, h1, h2⟩ := row
      cases e
      refine ⟨_, rfl, _, _, _, _, rfl, rfl, .inl (.inl h1), at0', rfl, _, rfl, ?_⟩
      rw [strNe (show ("ask" : Str) ≠ "go" by decide +kernel)]
      refine iteF ?_
      exact ⟨_, rfl, _, _, _, _, rfl, rfl, .inl (.inl h1), at0', _, rfl, _, _, _, _, rfl, rfl, .inl (.inl h1), at1', two _ _, fun t H' n s e => k t H' s e⟩
    | go n =>
      obtain ⟨a, e, h1⟩ := row
      cases e
      refine ⟨_, rfl, _, _, _, _, rfl, rfl, .inl (.inl h1), at0', rfl, _, rfl, ?_⟩
      rw [strEq]
      refine iteT ?_
      exact ⟨one _, fun t H' n s e => k t H' s e⟩
    | fin x =>
      obtain ⟨a, e, h1⟩ := row
      cases e
      refine ⟨_, rfl, _, _, _, _, rfl, rfl, .inl (.inl h1), at0', rfl, _, rfl, ?_⟩
      rw [strNe (show ("end" : Str) ≠ "go" by decide +kernel)]
      refine iteF ?_
      exact ⟨_, rfl, _, _, _, _, rfl, rfl, .inl (.inl h1), at0', _, rfl, _, _, _, _, rfl, rfl, .inl (.inl h1), at1', two _ _, fun t H' n s e => k t H' s e⟩
theorem sc_leader_of : FnScope ["leaders", "thing"] ["leaders", "thing"] (defScope s_leader_of) := ⟨rfl, rfl, rfl, by decide +kernel, rfl, by decide +kernel, by decide +kernel⟩
theorem ok_leader_of {f : Addr} {fd : FuncData} (F : Fun K "leader_of" "leader_of" s_leader_of f fd) : FnOk P w K mg base CX0 1 f fd ["leaders", "thing"] spLeader := by
  refine F.ok sc_leader_of (fun vs H Q E h => ?_) (fun cdv A outer s H vs Q E hr h => ?_)
  · obtain ⟨la, n, t, ls, rank, rep, rfl, _⟩ := h
    rfl
  · obtain ⟨la, n, t, ls, rank, rep, rfl, hl, r, ht, k⟩ := h
    refine ⟨_, (pss_cons (ps_while PassesOwn.never (pt_cmpR op_ne (pe_ix ix_list (pv 0) (pv 1) (fun _ _ => rfl)) (pv 1) (nomark _)) (pss_cons (ps_asg (pe_ix ix_list (pv 0) (pe_ix ix_list (pv 0) (pv 1) (fun _ _ => rfl)) (fun _ _ => rfl)) (pg_sub (pv 0) (pv 1) set_list))
      (pss_one (ps_set (i := 1) sc_leader_of.nd rfl (Or.inl rfl) (pe_ix ix_list (pv 0) (pv 1) (fun _ _ => rfl))))))
      (pss_one (ps_ret (pv 1)))), ?_⟩
    refine ⟨fun m σ H' => ∃ (ls' : Nat → Nat) (u : Nat), m = rank u ∧ σ = [some (.ref la), some (.int (u : Int))] ∧ Wk.Rep n ls' rank rep ∧ u < n ∧ rep u = rep t ∧ But H H' la ∧ H' la = some (.lst (flN n ls')), ⟨_, ls, t, rfl, rfl, r, ht, rfl, But.refl _ _, hl⟩, ?_⟩
    rintro m σ H' ⟨ls', u, rfl, rfl, r', hu, eu, bt, e⟩
    refine ⟨_, rfl, _, rfl, la, _, _, _, rfl, rfl, SqL.of e, flN_at hu, _, rfl, rfl, _, rfl, ?_⟩
    rw [natDec]
    by_cases h1 : ls' u = u
    · rw [decide_eq_true h1]
      refine iteF ?_
      refine ⟨_, rfl, ?_⟩
      have := r'.own u hu h1
      rw [eu] at this
      rw [← this]
      exact k ls' H' r' bt e
    · rw [decide_eq_false h1]
      refine iteT ?_
      obtain ⟨r2, d2, p2⟩ := r'.half hu h1
      refine ⟨fun σ' H'' => ∃ (ls2 : Nat → Nat) (u2 : Nat), rank u2 < rank u ∧ σ' = [some (.ref la), some (.int (u2 : Int))] ∧ Wk.Rep n ls2 rank rep ∧ u2 < n ∧ rep u2 = rep t ∧ But H H'' la ∧ H'' la = some (.lst (flN n ls2)), fun σ' H'' ⟨ls2, u2, z1, z2, z3, z4, z5, z6, z7⟩ => ⟨_, z1, ls2, u2, rfl, z2, z3, z4, z5, z6, z7⟩, ?_⟩
      refine ⟨_, rfl, _, rfl, _, rfl, la, _, _, _, rfl, rfl, SqL.of e, flN_at hu, la, _, _, _, rfl, rfl, SqL.of e, flN_at (r'.lt u hu), _, rfl, _, rfl, la, _, _, u, rfl, rfl, e, by rw [flN_len]; exact ixn hu, ?_⟩
      rw [flN_set hu]
      have at2 := flN_at (ls := Wk.put ls' u (ls' (ls' u))) hu
      rw [Wk.put_same] at at2
      exact ⟨_, rfl, _, rfl, la, _, _, _, rfl, rfl, SqL.of upd_same, at2, _, _, d2, rfl, r2, r'.lt _ (r'.lt u hu), by rw [p2, eu], fun b o nb eb => by rw [upd_ne nb]; exact bt b o nb eb, upd_same⟩
theorem sc_are_led_together : FnScope ["leaders", "one", "other", "first", "second"] ["leaders", "one", "other"] (defScope s_are_led_together) := ⟨rfl, rfl, rfl, by decide +kernel, rfl, by decide +kernel, by decide +kernel⟩
theorem ok_led {f : Addr} {fd fd_leader : FuncData} (F : Fun K "are_led_together" "are_led_together" s_are_led_together f fd)
    (GL : FnOk P w K mg base CX0 1 a_leader fd_leader ["leaders", "thing"] spLeader) (b_leader_of : Binds K fd_leader ["leaders", "thing"] []) (g_leader_of : mg "leader_of" = some (.ref a_leader)) (k_leader_of : PySem.W.keepIn K (.ref a_leader) = true) : FnOk P w K mg base CX0 2 f fd ["leaders", "one", "other"] spLed := by
  refine F.ok sc_are_led_together (fun vs H Q E h => ?_) (fun cdv A outer s H vs Q E hr h => ?_)
  · obtain ⟨la, n, a, b, ls, rank, rep, rfl, _⟩ := h
    rfl
  · obtain ⟨la, n, a, b, ls, rank, rep, rfl, hl, r, ha, hb, k⟩ := h
    refine ⟨_, (pss_cons (ps_par (i := 3) (j := 4) rfl sc_are_led_together.nd rfl rfl (by decide) rfl rfl (pa_cons (pe_call GL (hr.mono (by decide)) (by rfl) g_leader_of k_leader_of b_leader_of .nil pass0 (pa_cons (pv 0) (pa_cons (pv 1) pa_nil))) (pa_cons (pe_call GL (hr.mono (by decide)) (by rfl) g_leader_of k_leader_of b_leader_of .nil pass0 (pa_cons (pv 0) (pa_cons (pv 2) pa_nil))) pa_nil)) rfl)
      (pss_cons (ps_asg (pv 3) (pg_sub (pv 0) (pv 4) set_list))
      (pss_one (ps_ret (pe_cmpR op_eq (pv 3) (pv 4) (nomark _)))))), ?_⟩
    refine ⟨_, rfl, _, rfl, la, n, a, ls, rank, rep, rfl, hl, r, ha, fun ls1 H1 r1 bt1 e1 => ?_⟩
    refine ⟨_, rfl, _, rfl, la, n, b, ls1, rank, rep, rfl, e1, r1, hb, fun ls2 H2 r2 bt2 e2 => ?_⟩
    refine ⟨_, _, rfl, ?_⟩
    refine ⟨_, rfl, _, rfl, _, rfl, la, _, _, rep b, rfl, rfl, e2, by rw [flN_len]; exact ixn (r.rlt b hb), ?_⟩
    rw [flN_set (r.rlt b hb)]
    obtain ⟨rank', r3⟩ := r2.join (r.rlt a ha) (r.rlt b hb) (r.root' ha).2 (r.root' hb).2
    refine ⟨_, rfl, _, rfl, rfl, ?_⟩
    rw [natDec]
    exact k _ rank' _ r3 (fun c o nc ec => by rw [upd_ne nc]; exact bt2 c o nc (bt1 c o nc ec)) upd_same
end
end Mine

set_option maxRecDepth 100000
set_option maxHeartbeats 4000000
namespace L2
open PySem PySem.Spec PyProof.Rows
section
variable {K : PySem.W.Frag} {a b : Addr} {xs ys : List V}
theorem walk_zipT {n : Nat} (hn : n = min xs.length ys.length) : Walk (RZ.ItzT K a b) n (fun H => SqT K H a xs ∧ SqT K H b ys) (YPair (fun i => xs[i]?) (fun i => ys[i]?)) := by
  subst hn
  refine ⟨fun i _ hi q => ?_, fun _ q => ⟨xs, ys, q.1, q.2, by omega⟩, fun i H v H' _ q y => ?_⟩
  · have h1 : i < xs.length := by omega
    have h2 : i < ys.length := by omega
    exact ⟨xs, ys, xs[i], ys[i], q.1, q.2, by simp [h1], by simp [h2]⟩
  · obtain ⟨T, x, z, h1, h2, h3, h4, h5⟩ := y
    exact ⟨T, x, z, h1, h2, h3, h4 xs q.1, h5 ys q.2⟩
end
end L2
namespace Mine
open PySem L2
abbrev s_begin_of : Stmt := top 38
abbrev s_both_shown : Stmt := top 39
abbrev s_pairs_behind : Stmt := top 40
/-- a machine stands there -/
structure MachP (CM : Addr) (H : Hp) (m : Addr) (o : Ops) (rs : List RowD) (b : Nat) (dm : Addr) (fm : List (Str × V)) (t l sa aa ea : Addr) (o' : Ops) (xs : List V) (as es : List Str) : Prop where
  hm : H m = some (.ins CM dm fm)
  fs : MachFs H fm t l b rs sa aa ea as es
  ht : H t = some (.dK (opsK o'))
  ord : Ordered o o'
  hl : H l = some (.lst xs)
  rows : Rows H xs rs
  lt : b < rs.length
def MachV (CM : Addr) (H : Hp) (m : Addr) (o : Ops) (rs : List RowD) (b : Nat) : Prop := ∃ dm fm t l sa aa ea o' xs as es, MachP CM H m o rs b dm fm t l sa aa ea o' xs as es
theorem MachV.same {CM : Addr} {H H' : Hp} {m : Addr} {o : Ops} {rs : List RowD} {b : Nat} (s : Same H H') (h : MachV CM H m o rs b) : MachV CM H' m o rs b := by
  obtain ⟨dm, fm, t, l, sa, aa, ea, o', xs, as, es, h⟩ := h
  exact ⟨dm, fm, t, l, sa, aa, ea, o', xs, as, es, s _ _ h.hm, h.fs.same s, s _ _ h.ht, h.ord, s _ _ h.hl, h.rows.same s, h.lt⟩
theorem BodyAt.mach {CB CM : Addr} {H : Hp} {bd : Addr} {o : Ops} {rs : List RowD} {b : Nat} (h : BodyAt CB CM H bd o rs b) : ∃ m dx fb, H bd = some (.ins CB dx fb) ∧ fb.lookup ("machine" : Str) = some (.ref m) ∧ MachV CM H m o rs b := by
  obtain ⟨m, t, l, sa, aa, ea, o', xs, as, es, ⟨dx, fb, h1, h2⟩, ⟨dm, fm, h3, h4⟩, h5, h6, h7, h8, h9, _⟩ := h
  exact ⟨m, dx, fb, h1, h2, dm, fm, t, l, sa, aa, ea, o', xs, as, es, h3, h4, h5, h6, h7, h8, h9⟩
abbrev Prw := Nat × Nat
/-- the tuple of a pair of rows -/
def PairT (H : Hp) (q : Addr) (p : Prw) : Prop := H q = some (.tup [.int (p.1 : Int), .int (p.2 : Int)])
def Prs (H : Hp) (vs : List V) (ps : List Prw) : Prop := vs.length = ps.length ∧ ∀ (k : Nat) (p : Prw), ps[k]? = some p → ∃ q, vs[k]? = some (.ref q) ∧ PairT H q p
theorem Prs.same {H H' : Hp} {vs : List V} {ps : List Prw} (s : Same H H') (h : Prs H vs ps) : Prs H' vs ps := ⟨h.1, fun k p e => by
  obtain ⟨q, h1, h2⟩ := h.2 k p e
  exact ⟨q, h1, s _ _ h2⟩⟩
theorem Prs.nil (H : Hp) : Prs H [] [] := ⟨rfl, fun k p e => by simp at e⟩
theorem Prs.snoc {H : Hp} {vs : List V} {ps : List Prw} {q : Addr} {p : Prw} (h : Prs H vs ps) (e : PairT H q p) : Prs H (vs ++ [.ref q]) (ps ++ [p]) := by
  refine ⟨by rw [List.length_append, List.length_append, h.1]; rfl, fun k r er => ?_⟩
  by_cases z : k < ps.length
  · rw [List.getElem?_append_left z] at er
    obtain ⟨q', h1, h2⟩ := h.2 k r er
    exact ⟨q', by rw [List.getElem?_append_left (by rw [h.1]; exact z)]; exact h1, h2⟩
  · have hk : k = ps.length := by
      have := (List.getElem?_eq_some_iff.mp er).1
      rw [List.length_append] at this
      simp at this
      omega
    subst hk
    rw [List.getElem?_append_right (Nat.le_refl _), Nat.sub_self] at er
    have er2 : p = r := Option.some.inj er
    subst er2
    exact ⟨q, by rw [List.getElem?_append_right (by rw [h.1]; exact Nat.le_refl _), h.1, Nat.sub_self]; rfl, e⟩
theorem PairT.other {H : Hp} {D q : Addr} {p : Prw} {ys : List V} {o : HO} (e : H D = some (.lst ys)) (h : PairT H q p) : PairT (upd H D o) q p := by
  unfold PairT at h ⊢
  rw [upd_ne (fun z => by rw [z, e] at h; cases h)]
  exact h
theorem Prs.other {H : Hp} {D : Addr} {vs ys : List V} {ps : List Prw} {o : HO} (e : H D = some (.lst ys)) (h : Prs H vs ps) : Prs (upd H D o) vs ps := ⟨h.1, fun k p ek => by
  obtain ⟨q, h1, h2⟩ := h.2 k p ek
  exact ⟨q, h1, h2.other e⟩⟩
/-- where both go on, by the answers -/
def behind (rs1 rs2 : List RowD) (d1 d2 : RowD) : List Prw := List.zipWith (fun (a b : Int) => (stp rs1 a.toNat, stp rs2 b.toNat)) (nextsD d1) (nextsD d2)
def spBegin (CM : Addr) : Sp := fun vs H Q _ => ∃ (m1 m2 : Addr) (o1 o2 : Ops) (rs1 rs2 : List RowD) (b1 b2 : Nat), vs = [.ref m1, .ref m2] ∧ MachV CM H m1 o1 rs1 b1 ∧ MachV CM H m2 o2 rs2 b2 ∧
  ∀ (t : Addr) (H' : Hp), H t = none → Same H H' → PairT H' t (stp rs1 b1, stp rs2 b2) → Q (.ref t) H'
def spBoth (CM : Addr) : Sp := fun vs H Q _ => ∃ (m1 m2 t : Addr) (o1 o2 : Ops) (rs1 rs2 : List RowD) (b1 b2 : Nat) (p : Prw) (d1 d2 : RowD), vs = [.ref m1, .ref m2, .ref t] ∧ MachV CM H m1 o1 rs1 b1 ∧ MachV CM H m2 o2 rs2 b2 ∧ PairT H t p ∧ rs1[p.1]? = some d1 ∧ rs2[p.2]? = some d2 ∧
  ∀ (u s1 s2 : Addr) (H' : Hp), Same H H' → H' u = some (.tup [.ref s1, .ref s2]) → H' s1 = some (.tup ((showD d1).map V.str)) → H' s2 = some (.tup ((showD d2).map V.str)) → Q (.ref u) H'
def spBehind (CM : Addr) : Sp := fun vs H Q _ => ∃ (m1 m2 t : Addr) (o1 o2 : Ops) (rs1 rs2 : List RowD) (b1 b2 : Nat) (p : Prw) (d1 d2 : RowD), vs = [.ref m1, .ref m2, .ref t] ∧ MachV CM H m1 o1 rs1 b1 ∧ MachV CM H m2 o2 rs2 b2 ∧ PairT H t p ∧ rs1[p.1]? = some d1 ∧ rs2[p.2]? = some d2 ∧ Fit rs1 ∧ Fit rs2 ∧ (nextsD d1).length ≤ 1000 ∧
  ∀ (D : Addr) (us : List V) (H' : Hp), H D = none → Same H H' → H' D = some (.lst us) → Prs H' us (behind rs1 rs2 d1 d2) → Q (.ref D) H'
section
variable {P : Program} {w : World} {K : PySem.W.Frag} {mg : Str → Option Value} {base : Heap}
variable {fII fIW CM a_nexts a_shows : Addr}
theorem sc_begin_of : FnScope ["one", "other"] ["one", "other"] (defScope s_begin_of) := ⟨rfl, rfl, rfl, by decide +kernel, rfl, by decide +kernel, by decide +kernel⟩
theorem ok_begin_of {f : Addr} {fd : FuncData} (F : Fun K "begin_of" "begin_of" s_begin_of f fd) (TM : MachC K CM) : FnOk P w K mg base CX0 1 f fd ["one", "other"] (spBegin CM) := by
  refine F.ok sc_begin_of (fun vs H Q E h => ?_) (fun cdv A outer s H vs Q E hr h => ?_)
  · obtain ⟨m1, m2, o1, o2, rs1, rs2, b1, b2, rfl, _⟩ := h
    rfl
  · obtain ⟨m1, m2, o1, o2, rs1, rs2, b1, b2, rfl, ⟨dm1, fm1, t1, l1, sa1, aa1, ea1, o1', xs1, as1, es1, p1⟩, ⟨dm2, fm2, t2, l2, sa2, aa2, ea2, o2', xs2, as2, es2, p2⟩, k⟩ := h
    refine ⟨_, (pss_one (ps_ret (pe_tupG (pa_cons (pe_ix ix_list (pe_fld (pv 0) rfl) (pe_fld (pv 0) rfl) (fun _ _ => rfl)) (pa_cons (pe_ix ix_list (pe_fld (pv 1) rfl) (pe_fld (pv 1) rfl) (fun _ _ => rfl)) pa_nil))))), ?_⟩
    refine ⟨_, rfl, m1, CM, dm1, fm1, _, rfl, p1.hm, TM.cl, TM.n_stops, p1.fs.stops, _, rfl, m1, CM, dm1, fm1, _, rfl, p1.hm, TM.cl, TM.n_begin, p1.fs.begin, sa1, _, _, _, rfl, rfl, SqL.of p1.fs.hs, fl_at p1.lt, ?_⟩
    refine ⟨_, rfl, m2, CM, dm2, fm2, _, rfl, p2.hm, TM.cl, TM.n_stops, p2.fs.stops, _, rfl, m2, CM, dm2, fm2, _, rfl, p2.hm, TM.cl, TM.n_begin, p2.fs.begin, sa2, _, _, _, rfl, rfl, SqL.of p2.fs.hs, fl_at p2.lt, ?_⟩
    exact ⟨two_ok _ _, fun t H' n s e => k t H' n s e⟩
theorem sc_both_shown : FnScope ["one", "other", "pair"] ["one", "other", "pair"] (defScope s_both_shown) := ⟨rfl, rfl, rfl, by decide +kernel, rfl, by decide +kernel, by decide +kernel⟩
theorem ok_both_shown {f : Addr} {fd fd_shows : FuncData} (F : Fun K "both_shown" "both_shown" s_both_shown f fd) (TM : MachC K CM)
    (GS : FnOk P w K mg base CX0 1 a_shows fd_shows ["line"] spShows) (b_shows_of : Binds K fd_shows ["line"] []) (g_shows_of : mg "shows_of" = some (.ref a_shows)) (k_shows_of : PySem.W.keepIn K (.ref a_shows) = true) : FnOk P w K mg base CX0 2 f fd ["one", "other", "pair"] (spBoth CM) := by
  refine F.ok sc_both_shown (fun vs H Q E h => ?_) (fun cdv A outer s H vs Q E hr h => ?_)
  · obtain ⟨m1, m2, t, o1, o2, rs1, rs2, b1, b2, p, d1, d2, rfl, _⟩ := h
    rfl
  · obtain ⟨m1, m2, t, o1, o2, rs1, rs2, b1, b2, p, d1, d2, rfl, ⟨dm1, fm1, t1, l1, sa1, aa1, ea1, o1', xs1, as1, es1, p1⟩, ⟨dm2, fm2, t2, l2, sa2, aa2, ea2, o2', xs2, as2, es2, p2⟩, ht, e1, e2, k⟩ := h
    refine ⟨_, (pss_one (ps_ret (pe_tupG (pa_cons (pe_call GS (hr.mono (by decide)) (by rfl) g_shows_of k_shows_of b_shows_of .nil pass0 (pa_cons (pe_ix ix_list (pe_fld (pv 0) rfl) (pe_ix ix_tup (pv 2) pe_int (fun _ _ => rfl)) (fun _ _ => rfl)) pa_nil)) (pa_cons (pe_call GS (hr.mono (by decide)) (by rfl) g_shows_of k_shows_of b_shows_of .nil pass0 (pa_cons (pe_ix ix_list (pe_fld (pv 1) rfl) (pe_ix ix_tup (pv 2) pe_int (fun _ _ => rfl)) (fun _ _ => rfl)) pa_nil)) pa_nil))))), ?_⟩
    obtain ⟨q1, _, d1', ed1, x1, row1, _⟩ := p1.rows.at (List.getElem?_eq_some_iff.mp e1).1
    rw [e1] at ed1
    cases ed1
    obtain ⟨q2, _, d2', ed2, x2, row2, _⟩ := p2.rows.at (List.getElem?_eq_some_iff.mp e2).1
    rw [e2] at ed2
    cases ed2
    refine ⟨_, rfl, m1, CM, dm1, fm1, _, rfl, p1.hm, TM.cl, TM.n_lines, p1.fs.lines, _, rfl, _, _, _, _, rfl, rfl, .inl (.inl ht), at0', l1, _, _, _, rfl, rfl, SqL.of p1.hl, atI_nat x1, q1, d1, rfl, row1, fun u1 H1 s1 c1 => ?_⟩
    refine ⟨_, rfl, m2, CM, dm2, fm2, _, rfl, s1 _ _ p2.hm, TM.cl, TM.n_lines, p2.fs.lines, _, rfl, _, _, _, _, rfl, rfl, .inl (.inl (s1 _ _ ht)), at1', l2, _, _, _, rfl, rfl, SqL.of (s1 _ _ p2.hl), atI_nat x2, q2, d2, rfl, row2.same s1, fun u2 H2 s2 c2 => ?_⟩
    exact ⟨two_ok _ _, fun u H3 n3 s3 c3 => k u u1 u2 H3 (s1.trans (s2.trans s3)) c3 (s3 _ _ (s2 _ _ c1)) (s3 _ _ c2)⟩
theorem sc_pairs_behind : FnScope ["one", "other", "pair", "nexts", "other_nexts", "index", "other_index"] ["one", "other", "pair"] (defScope s_pairs_behind) := ⟨rfl, rfl, rfl, by decide +kernel, rfl, by decide +kernel, by decide +kernel⟩
theorem ok_pairs_behind {f : Addr} {fd fd_nexts : FuncData} (F : Fun K "pairs_behind" "pairs_behind" s_pairs_behind f fd) (TM : MachC K CM) (h_zip : mg "zip" = none)
    (GN : FnOk P w K mg base CX0 1 a_nexts fd_nexts ["line"] spNextsOf) (b_nexts_of : Binds K fd_nexts ["line"] []) (g_nexts_of : mg "nexts_of" = some (.ref a_nexts)) (k_nexts_of : PySem.W.keepIn K (.ref a_nexts) = true) : FnOk P w K mg base CX0 2 f fd ["one", "other", "pair"] (spBehind CM) := by
  refine F.ok sc_pairs_behind (fun vs H Q E h => ?_) (fun cdv A outer s H vs Q E hr h => ?_)
  · obtain ⟨m1, m2, t, o1, o2, rs1, rs2, b1, b2, p, d1, d2, rfl, _⟩ := h
    rfl
  · obtain ⟨m1, m2, t, o1, o2, rs1, rs2, b1, b2, p, d1, d2, rfl, ⟨dm1, fm1, t1, l1, sa1, aa1, ea1, o1', xs1, as1, es1, p1⟩, ⟨dm2, fm2, t2, l2, sa2, aa2, ea2, o2', xs2, as2, es2, p2⟩, ht, e1, e2, fit1, fit2, few, k⟩ := h
    refine ⟨_, (pss_cons (ps_par (i := 3) (j := 4) rfl sc_pairs_behind.nd rfl rfl (by decide) rfl rfl (pa_cons (pe_call GN (hr.mono (by decide)) (by rfl) g_nexts_of k_nexts_of b_nexts_of .nil pass0 (pa_cons (pe_ix ix_list (pe_fld (pv 0) rfl) (pe_ix ix_tup (pv 2) pe_int (fun _ _ => rfl)) (fun _ _ => rfl)) pa_nil)) (pa_cons (pe_call GN (hr.mono (by decide)) (by rfl) g_nexts_of k_nexts_of b_nexts_of .nil pass0 (pa_cons (pe_ix ix_list (pe_fld (pv 1) rfl) (pe_ix ix_tup (pv 2) pe_int (fun _ _ => rfl)) (fun _ _ => rfl)) pa_nil)) pa_nil)) rfl)
      (pss_one (ps_ret (pe_lc (own := [("index", 5), ("other_index", 6)]) (g := gTup K 2 (gCons (gName 5) (gCons (gName 6) gNil))) (tt := tYes) rfl sc_pairs_behind.nd (RZ.pi_zipA (by rfl) h_zip (pa_cons (pv 3) (pa_cons (pv 4) pa_nil))) (blkOk_by (own := [("index", 5), ("other_index", 6)]) (N := ["one", "other", "pair", "nexts", "other_nexts", "index", "other_index"]) (sc := defScope s_pairs_behind) (by decide +kernel)) (fun _ _ _ _ _ => pg_tup rfl (pgs_cons (pg_name (i := 5) sc_pairs_behind.nd rfl (Or.inl rfl)) (pgs_cons (pg_name (i := 6) sc_pairs_behind.nd rfl (Or.inl rfl)) pgs_nil))) (fun _ _ _ _ _ => pts_nil) (fun _ _ _ _ _ => (pe_tupG (pa_cons (pe_ix (show IxR _ (rIxL K) from ix_list) (show PE _ _ (tFld K (tVar 0) "stops") from pe_fld (pv 0) rfl) (pv 5) (fun _ _ => rfl)) (pa_cons (pe_ix (show IxR _ (rIxL K) from ix_list) (show PE _ _ (tFld K (tVar 1) "stops") from pe_fld (pv 1) rfl) (pv 6) (fun _ _ => rfl)) pa_nil)))))))), ?_⟩
    obtain ⟨q1, _, d1', ed1, x1, row1, _⟩ := p1.rows.at (List.getElem?_eq_some_iff.mp e1).1
    rw [e1] at ed1
    cases ed1
    obtain ⟨q2, _, d2', ed2, x2, row2, _⟩ := p2.rows.at (List.getElem?_eq_some_iff.mp e2).1
    rw [e2] at ed2
    cases ed2
    refine ⟨_, rfl, m1, CM, dm1, fm1, _, rfl, p1.hm, TM.cl, TM.n_lines, p1.fs.lines, _, rfl, _, _, _, _, rfl, rfl, .inl (.inl ht), at0', l1, _, _, _, rfl, rfl, SqL.of p1.hl, atI_nat x1, q1, d1, rfl, row1, fun u1 H1 s1 c1 => ?_⟩
    refine ⟨_, rfl, m2, CM, dm2, fm2, _, rfl, s1 _ _ p2.hm, TM.cl, TM.n_lines, p2.fs.lines, _, rfl, _, _, _, _, rfl, rfl, .inl (.inl (s1 _ _ ht)), at1', l2, _, _, _, rfl, rfl, SqL.of (s1 _ _ p2.hl), atI_nat x2, q2, d2, rfl, row2.same s1, fun u2 H2 s2 c2 => ?_⟩
    refine ⟨_, _, rfl, ?_⟩
    have c1' := s2 _ _ c1
    have s12 : Same H H2 := s1.trans s2
    refine ⟨_, rfl, _, rfl, u1, u2, _, _, rfl, .inr ⟨.inl (.inl c1'), .inl (.inl c2), fun D nD => ?_⟩⟩
    refine lc_it (walk_zipT (xs := (nextsD d1).map V.int) (ys := (nextsD d2).map V.int) rfl) (fun j Hx => Same H2 Hx ∧ ∃ vs, Hx D = some (.lst vs) ∧ Prs Hx vs ((behind rs1 rs2 d1 d2).take j)) ⟨sameNew nD _, [], upd_same, Prs.nil _⟩ (fun j Hx _ z => ⟨.inl (.inl (z.1 _ _ c1')), .inl (.inl (z.1 _ _ c2))⟩) (fun j x Ha Hb hj z1 z2 => ?_) (fun Hx z => ?_)
    · obtain ⟨sx, vs, ev, pv⟩ := z1
      obtain ⟨T', x, y, rfl, nT, rfl, h1, h2⟩ := z2
      rw [List.length_map, List.length_map] at hj
      have hj1 : j < (nextsD d1).length := by omega
      have hj2 : j < (nextsD d2).length := by omega
      have g1 : (nextsD d1)[j]? = some (nextsD d1)[j] := List.getElem?_eq_getElem hj1
      have g2 : (nextsD d2)[j]? = some (nextsD d2)[j] := List.getElem?_eq_getElem hj2
      generalize (nextsD d1)[j] = n1 at g1
      generalize (nextsD d2)[j] = n2 at g2
      dsimp only at h1 h2
      rw [List.getElem?_map, g1] at h1
      rw [List.getElem?_map, g2] at h2
      have h1' : V.int n1 = x := Option.some.inj h1
      have h2' : V.int n2 = y := Option.some.inj h2
      subst h1' h2'
      obtain ⟨a0, a1⟩ := fit1.nexts e1 (List.mem_of_getElem? g1)
      obtain ⟨b0, b1'⟩ := fit2.nexts e2 (List.mem_of_getElem? g2)
      have at1 : atI (fl rs1.length fun i => (stp rs1 i : Int)) n1 = some (V.int (stp rs1 n1.toNat : Int)) := by
        conv => lhs; rw [show n1 = (n1.toNat : Int) by omega]
        exact fl_at (by omega)
      have at2 : atI (fl rs2.length fun i => (stp rs2 i : Int)) n2 = some (V.int (stp rs2 n2.toNat : Int)) := by
        conv => lhs; rw [show n2 = (n2.toNat : Int) by omega]
        exact fl_at (by omega)
      have gb : (behind rs1 rs2 d1 d2)[j]? = some (stp rs1 n1.toNat, stp rs2 n2.toNat) := by
        unfold behind
        rw [List.getElem?_zipWith, g1, g2]
      have sT : Same H2 (upd Ha T' (.tup [.int n1, .int n2])) := fun b o e => by
        rw [upd_ne (ne_of_none (sx _ _ e) nT)]
        exact sx _ _ e
      refine ⟨T', _, rfl, .inl (.inl upd_same), rfl, _, _, rfl, _, _, rfl, rfl, rfl, ?_⟩
      refine ⟨_, rfl, m1, CM, dm1, fm1, _, rfl, sT _ _ (s12 _ _ p1.hm), TM.cl, TM.n_stops, p1.fs.stops, _, rfl, sa1, _, _, _, rfl, rfl, SqL.of (sT _ _ (s12 _ _ p1.fs.hs)), at1, ?_⟩
      refine ⟨_, rfl, m2, CM, dm2, fm2, _, rfl, sT _ _ (s12 _ _ p2.hm), TM.cl, TM.n_stops, p2.fs.stops, _, rfl, sa2, _, _, _, rfl, rfl, SqL.of (sT _ _ (s12 _ _ p2.fs.hs)), at2, ?_⟩
      have lk : vs.length ≤ j := by
        rw [pv.1, List.length_take]
        omega
      have sTa : Same Ha (upd Ha T' (.tup [.int n1, .int n2])) := sameNew nT _
      refine ⟨two_ok _ _, fun p3 H3 n3 s3 c3 => ⟨vs, s3 _ _ (sTa _ _ ev), by rw [sizeLine_eq]; omega, fun b o e => ?_, vs ++ [.ref p3], upd_same, ?_⟩⟩
      · rw [upd_ne (ne_of_none e nD)]
        exact s3 _ _ (sT _ _ e)
      · rw [List.take_succ, gb]
        exact ((pv.same (sTa.trans s3)).snoc (p := (stp rs1 n1.toNat, stp rs2 n2.toNat)) (show PairT H3 p3 _ from c3)).other (s3 _ _ (sTa _ _ ev))
    · obtain ⟨sx, vs, ev, pv⟩ := z
      have le : ((behind rs1 rs2 d1 d2)).length = min ((nextsD d1).map V.int).length ((nextsD d2).map V.int).length := by
        unfold behind
        rw [List.length_zipWith, List.length_map, List.length_map]
      rw [← le, List.take_length] at pv
      exact k D vs Hx (none_of s12 nD) (s12.trans sx) ev pv
end
end Mine

set_option maxRecDepth 100000
set_option maxHeartbeats 4000000
namespace Mine
open PySem L2
abbrev s_walk_init : Stmt := inClass (top 37) 0
abbrev s_walk_take : Stmt := inClass (top 37) 1
structure WalkC (K : PySem.W.Frag) (C : Addr) : Prop where
  cl : Cls K C
  n_one : NoAttr K C "one"
  n_other : NoAttr K C "other"
  n_met : NoAttr K C "met"
  n_origins : NoAttr K C "origins"
structure WalkF (fs : List (Str × V)) (m1 m2 ma oa : Addr) : Prop where
  one : fs.lookup ("one" : Str) = some (.ref m1)
  other : fs.lookup ("other" : Str) = some (.ref m2)
  met : fs.lookup ("met" : Str) = some (.ref ma)
  origins : fs.lookup ("origins" : Str) = some (.ref oa)
  take : fs.lookup ("take" : Str) = none
/-- where each pair came from: the number of the pair ahead, the answer -/
abbrev Org := Int × Int
def OrgT (H : Hp) (q : Addr) (p : Org) : Prop := H q = some (.tup [.int p.1, .int p.2])
def Orgs (H : Hp) (vs : List V) (ps : List Org) : Prop := vs.length = ps.length ∧ ∀ (k : Nat) (p : Org), ps[k]? = some p → ∃ q, vs[k]? = some (.ref q) ∧ OrgT H q p
theorem Orgs.same {H H' : Hp} {vs : List V} {ps : List Org} (s : Same H H') (h : Orgs H vs ps) : Orgs H' vs ps := ⟨h.1, fun k p e => by
  obtain ⟨q, h1, h2⟩ := h.2 k p e
  exact ⟨q, h1, s _ _ h2⟩⟩
theorem Orgs.nil (H : Hp) : Orgs H [] [] := ⟨rfl, fun k p e => by simp at e⟩
theorem Orgs.snoc {H : Hp} {vs : List V} {ps : List Org} {q : Addr} {p : Org} (h : Orgs H vs ps) (e : OrgT H q p) : Orgs H (vs ++ [.ref q]) (ps ++ [p]) := by
  refine ⟨by rw [List.length_append, List.length_append, h.1]; rfl, fun k r er => ?_⟩
  by_cases z : k < ps.length
  · rw [List.getElem?_append_left z] at er
    obtain ⟨q', h1, h2⟩ := h.2 k r er
    exact ⟨q', by rw [List.getElem?_append_left (by rw [h.1]; exact z)]; exact h1, h2⟩
  · have hk : k = ps.length := by
      have := (List.getElem?_eq_some_iff.mp er).1
      rw [List.length_append] at this
      simp at this
      omega
    subst hk
    rw [List.getElem?_append_right (Nat.le_refl _), Nat.sub_self] at er
    have er2 : p = r := Option.some.inj er
    subst er2
    exact ⟨q, by rw [List.getElem?_append_right (by rw [h.1]; exact Nat.le_refl _), h.1, Nat.sub_self]; rfl, e⟩
theorem Orgs.other {H : Hp} {D : Addr} {vs ys : List V} {ps : List Org} {o : HO} (e : H D = some (.lst ys)) (h : Orgs H vs ps) : Orgs (upd H D o) vs ps := ⟨h.1, fun k p ek => by
  obtain ⟨q, h1, h2⟩ := h.2 k p ek
  refine ⟨q, h1, ?_⟩
  unfold OrgT at h2 ⊢
  rw [upd_ne (fun z => by rw [z, e] at h2; cases h2)]
  exact h2⟩
/-- a walk stands there; what stood at H0 is as it was -/
structure WalkP (CW : Addr) (H0 H : Hp) (wk m1 m2 ma oa : Addr) (met : List Prw) (org : List Org) : Prop where
  hw : ∃ dx fs, H wk = some (.ins CW dx fs) ∧ WalkF fs m1 m2 ma oa
  em : ∃ vs, H ma = some (.lst vs) ∧ Prs H vs met
  eo : ∃ vs, H oa = some (.lst vs) ∧ Orgs H vs org
  ne : ma ≠ oa
  same : Same H0 H
  nm : H0 ma = none
  no : H0 oa = none
theorem WalkP.go {CW : Addr} {H0 H H' : Hp} {wk m1 m2 ma oa : Addr} {met : List Prw} {org : List Org} (h : WalkP CW H0 H wk m1 m2 ma oa met org) (s : Same H H') : WalkP CW H0 H' wk m1 m2 ma oa met org := by
  obtain ⟨⟨dx, fs, h1, h2⟩, ⟨vs, h3, h4⟩, ⟨us, h5, h6⟩, h7, h8, h9, h10⟩ := h
  exact ⟨⟨dx, fs, s _ _ h1, h2⟩, ⟨vs, s _ _ h3, h4.same s⟩, ⟨us, s _ _ h5, h6.same s⟩, h7, h8.trans s, h9, h10⟩
/-- another list is changed -/
theorem WalkP.but {CW : Addr} {H0 H H' : Hp} {wk m1 m2 ma oa la : Addr} {met : List Prw} {org : List Org} {ls : List V} (h : WalkP CW H0 H wk m1 m2 ma oa met org) (s : But H H' la) (el : H la = some (.lst ls)) (n0 : H0 la = none) (a1 : ma ≠ la) (a2 : oa ≠ la) : WalkP CW H0 H' wk m1 m2 ma oa met org := by
  obtain ⟨⟨dx, fs, h1, h2⟩, ⟨vs, h3, h4⟩, ⟨us, h5, h6⟩, h7, h8, h9, h10⟩ := h
  refine ⟨⟨dx, fs, s _ _ (fun z => by rw [z, el] at h1; cases h1) h1, h2⟩, ⟨vs, s _ _ a1 h3, h4.1, fun k p e => ?_⟩, ⟨us, s _ _ a2 h5, h6.1, fun k p e => ?_⟩, h7, fun b o e => s _ _ (ne_of_none e n0) (h8 _ _ e), h9, h10⟩
  · obtain ⟨q, k1, k2⟩ := h4.2 k p e
    exact ⟨q, k1, s _ _ (fun z => by unfold PairT at k2; rw [z, el] at k2; cases k2) k2⟩
  · obtain ⟨q, k1, k2⟩ := h6.2 k p e
    exact ⟨q, k1, s _ _ (fun z => by unfold OrgT at k2; rw [z, el] at k2; cases k2) k2⟩
def spWInit (CW : Addr) : Sp := fun vs H Q _ => ∃ (wk m1 m2 q dx : Addr) (p : Prw), vs = [.ref wk, .ref m1, .ref m2, .ref q] ∧ H wk = some (.ins CW dx []) ∧ PairT H q p ∧
  ∀ (fs : List (Str × V)) (ma oa t : Addr) (H' : Hp), H ma = none → H oa = none → ma ≠ oa → SameX wk H H' → H' wk = some (.ins CW dx fs) → WalkF fs m1 m2 ma oa → H' ma = some (.lst [.ref q]) → H' oa = some (.lst [.ref t]) → OrgT H' t (-1, -1) → Q .non H'
def spTake (CW : Addr) : Sp := fun vs H Q _ => ∃ (H0 : Hp) (wk m1 m2 ma oa q : Addr) (n a : Int) (p : Prw) (met : List Prw) (org : List Org), vs = [.ref wk, .ref q, .int n, .int a] ∧ WalkP CW H0 H wk m1 m2 ma oa met org ∧ PairT H q p ∧ met.length ≤ 1000000 ∧ org.length ≤ 1000000 ∧
  ∀ H' : Hp, WalkP CW H0 H' wk m1 m2 ma oa (met ++ [p]) (org ++ [(n, a)]) → (∀ b o, b ≠ ma → b ≠ oa → H b = some o → H' b = some o) → Q .non H'
section
variable {P : Program} {w : World} {K : PySem.W.Frag} {mg : Str → Option Value} {base : Heap}
variable {CW : Addr}
theorem sc_walk_init : FnScope ["self", "one", "other", "begin"] ["self", "one", "other", "begin"] (defScope s_walk_init) := ⟨rfl, rfl, rfl, by decide +kernel, rfl, by decide +kernel, by decide +kernel⟩
theorem ok_walk_init {f : Addr} {fd : FuncData} (F : Fun K "__init__" "Walk.__init__" s_walk_init f fd) (TW : WalkC K CW) : FnOk P w K mg base CX0 1 f fd ["self", "one", "other", "begin"] (spWInit CW) := by
  refine F.ok sc_walk_init (fun vs H Q E h => ?_) (fun cdv A outer s H vs Q E hr h => ?_)
  · obtain ⟨wk, m1, m2, q, dx, p, rfl, _⟩ := h
    rfl
  · obtain ⟨wk, m1, m2, q, dx, p, rfl, hw, hq, k⟩ := h
    refine ⟨_, (pss_cons (ps_fld (pv 0) (pv 1) rfl)
      (pss_cons (ps_fld (pv 0) (pv 2) rfl)
      (pss_cons (ps_fld (pv 0) (pe_lstG (pa_cons (pv 3) pa_nil)) rfl)
      (pss_one (ps_fld (pv 0) (pe_lstG (pa_cons (pe_tupG (pa_cons (pe_un un_neg pe_int) (pa_cons (pe_un un_neg pe_int) pa_nil))) pa_nil)) rfl))))), ?_⟩
    have L0 : ([] : List (Str × V)).length ≤ 0 := Nat.le_refl _
    have L1 := putF_len (f := "one") (v := .ref m1) L0
    have L2 := putF_len (f := "other") (v := .ref m2) L1
    refine ⟨_, rfl, _, rfl, wk, CW, dx, _, rfl, hw, TW.cl, TW.n_one, Nat.lt_of_le_of_lt L0 (by decide), ?_⟩
    refine ⟨_, rfl, _, rfl, wk, CW, dx, _, rfl, upd_same, TW.cl, TW.n_other, Nat.lt_of_le_of_lt L1 (by decide), ?_⟩
    rw [upd_upd]
    have x2 : SameX wk H (upd H wk (.ins CW dx (putF "other" (.ref m2) (putF "one" (.ref m1) [])))) := SameX.upd fun _ _ _ e => e
    have e2 : upd H wk (.ins CW dx (putF "other" (.ref m2) (putF "one" (.ref m1) []))) wk = some (.ins CW dx (putF "other" (.ref m2) (putF "one" (.ref m1) []))) := upd_same
    generalize upd H wk (.ins CW dx (putF "other" (.ref m2) (putF "one" (.ref m1) []))) = H2 at x2 e2 ⊢
    have L3 : ∀ ma : Addr, (putF ("met" : Str) (V.ref ma) (putF "other" (.ref m2) (putF "one" (.ref m1) []))).length ≤ 0 + 1 + 1 + 1 := fun ma => putF_len L2
    refine ⟨_, rfl, one_ok _, fun ma H3 n3 s3 e3 => ?_⟩
    refine ⟨_, rfl, wk, CW, dx, _, rfl, s3 _ _ e2, TW.cl, TW.n_met, Nat.lt_of_le_of_lt L2 (by decide), ?_⟩
    have nmw : ma ≠ wk := fun z => by
      rw [z, e2] at n3
      cases n3
    have e4 : upd H3 wk (.ins CW dx (putF "met" (.ref ma) (putF "other" (.ref m2) (putF "one" (.ref m1) [])))) wk = some (.ins CW dx (putF "met" (.ref ma) (putF "other" (.ref m2) (putF "one" (.ref m1) [])))) := upd_same
    have e4m : upd H3 wk (.ins CW dx (putF "met" (.ref ma) (putF "other" (.ref m2) (putF "one" (.ref m1) [])))) ma = some (.lst [.ref q]) := by
      rw [upd_ne nmw]
      exact e3
    have x4 : SameX wk H2 (upd H3 wk (.ins CW dx (putF "met" (.ref ma) (putF "other" (.ref m2) (putF "one" (.ref m1) []))))) := SameX.upd fun b o _ e => s3 b o e
    generalize upd H3 wk (.ins CW dx (putF "met" (.ref ma) (putF "other" (.ref m2) (putF "one" (.ref m1) [])))) = H4 at e4 e4m x4 ⊢
    refine ⟨_, rfl, _, rfl, two_ok _ _, fun t H5 n5 s5 e5 => ⟨one_ok _, fun oa H6 n6 s6 e6 => ?_⟩⟩
    refine ⟨_, rfl, wk, CW, dx, _, rfl, s6 _ _ (s5 _ _ e4), TW.cl, TW.n_origins, Nat.lt_of_le_of_lt (L3 ma) (by decide), ?_⟩
    have now : oa ≠ wk := fun z => by
      rw [z, s5 _ _ e4] at n6
      cases n6
    have nom : ma ≠ oa := fun z => by
      rw [← z, s5 _ _ e4m] at n6
      cases n6
    have x6 : SameX wk H (upd H6 wk (.ins CW dx (putF "origins" (.ref oa) (putF "met" (.ref ma) (putF "other" (.ref m2) (putF "one" (.ref m1) [])))))) := SameX.upd fun b o nb e => s6 _ _ (s5 _ _ (x4 _ _ nb (x2 _ _ nb e)))
    have off : ∀ {a : Addr}, a ≠ wk → H2 a = none → H a = none := fun {a} na n => SameX.off x2 n na
    refine k _ ma oa t _ (off nmw n3) (off now (SameX.off x4 (none_of s5 n6) now)) nom x6 upd_same ⟨?_, ?_, ?_, ?_, ?_⟩ ?_ ?_ ?_
    · rw [lookup_putF, if_neg (by decide +kernel), lookup_putF, if_neg (by decide +kernel), lookup_putF, if_neg (by decide +kernel), lookup_putF, if_pos rfl]
    · rw [lookup_putF, if_neg (by decide +kernel), lookup_putF, if_neg (by decide +kernel), lookup_putF, if_pos rfl]
    · rw [lookup_putF, if_neg (by decide +kernel), lookup_putF, if_pos rfl]
    · rw [lookup_putF, if_pos rfl]
    · rw [lookup_putF, if_neg (by decide +kernel), lookup_putF, if_neg (by decide +kernel), lookup_putF, if_neg (by decide +kernel), lookup_putF, if_neg (by decide +kernel)]
      rfl
    · rw [upd_ne nmw]
      exact s6 _ _ (s5 _ _ e4m)
    · rw [upd_ne now]
      exact e6
    · unfold OrgT
      have e5' := s6 _ _ e5
      rw [upd_ne (fun z => by rw [z, s6 _ _ (s5 _ _ e4)] at e5'; cases e5')]
      exact e5'
theorem sc_walk_take : FnScope ["self", "pair", "number", "answer"] ["self", "pair", "number", "answer"] (defScope s_walk_take) := ⟨rfl, rfl, rfl, by decide +kernel, rfl, by decide +kernel, by decide +kernel⟩
theorem ok_walk_take {f : Addr} {fd : FuncData} (F : Fun K "take" "Walk.take" s_walk_take f fd) (TW : WalkC K CW) : FnOk P w K mg base CX0 1 f fd ["self", "pair", "number", "answer"] (spTake CW) := by
  refine F.ok sc_walk_take (fun vs H Q E h => ?_) (fun cdv A outer s H vs Q E hr h => ?_)
  · obtain ⟨H0, wk, m1, m2, ma, oa, q, n, a, p, met, org, rfl, _⟩ := h
    rfl
  · obtain ⟨H0, wk, m1, m2, ma, oa, q, n, a, p, met, org, rfl, W, hq, few, few2, k⟩ := h
    refine ⟨_, (pss_cons (ps_expr (pe_bm PySem.F.plainAttrs_list PySem.F.slot_list_append PySem.F.type_list_append mt_append (pe_fld (pv 0) rfl) (pa_cons (pv 1) pa_nil)))
      (pss_one (ps_expr (pe_bm PySem.F.plainAttrs_list PySem.F.slot_list_append PySem.F.type_list_append mt_append (pe_fld (pv 0) rfl) (pa_cons (pe_tupG (pa_cons (pv 2) (pa_cons (pv 3) pa_nil))) pa_nil))))), ?_⟩
    obtain ⟨⟨dx, fs, hw, wf⟩, ⟨vs, em, pm⟩, ⟨us, eo, lo⟩, ne, same, nm, no⟩ := W
    refine ⟨_, rfl, wk, CW, dx, fs, _, rfl, hw, TW.cl, TW.n_met, wf.met, .inl ⟨rfl, _, SqL.of em⟩, _, rfl, ma, _, _, rfl, rfl, em, by rw [pm.1, sizeLine_eq]; omega, ?_⟩
    have nwm : wk ≠ ma := fun z => by
      rw [z, em] at hw
      cases hw
    have hw1 : upd H ma (.lst (vs ++ [.ref q])) wk = some (.ins CW dx fs) := by
      rw [upd_ne nwm]
      exact hw
    have eo1 : upd H ma (.lst (vs ++ [.ref q])) oa = some (.lst us) := by
      rw [upd_ne (Ne.symm ne)]
      exact eo
    have em1 : upd H ma (.lst (vs ++ [.ref q])) ma = some (.lst (vs ++ [.ref q])) := upd_same
    have pm1 : Prs (upd H ma (.lst (vs ++ [.ref q]))) (vs ++ [.ref q]) (met ++ [p]) := (pm.snoc hq).other em
    have po1 : Orgs (upd H ma (.lst (vs ++ [.ref q]))) us org := lo.other em
    have x1 : ∀ b o, b ≠ ma → H b = some o → upd H ma (.lst (vs ++ [.ref q])) b = some o := fun b o nb e => by
      rw [upd_ne nb]
      exact e
    generalize upd H ma (.lst (vs ++ [.ref q])) = H1 at hw1 eo1 em1 pm1 po1 x1 ⊢
    refine ⟨_, rfl, wk, CW, dx, fs, _, rfl, hw1, TW.cl, TW.n_origins, wf.origins, .inl ⟨rfl, _, SqL.of eo1⟩, _, rfl, _, rfl, two_ok _ _, fun t H2 n2 s2 e2 => ?_⟩
    refine ⟨oa, _, _, rfl, rfl, s2 _ _ eo1, by rw [lo.1, sizeLine_eq]; omega, ?_⟩
    have nwo : wk ≠ oa := fun z => by
      rw [z, eo1] at hw1
      cases hw1
    refine k _ ⟨⟨dx, fs, by rw [upd_ne nwo]; exact s2 _ _ hw1, wf⟩, ⟨_, by rw [upd_ne ne]; exact s2 _ _ em1, (pm1.same s2).other (s2 _ _ eo1)⟩, ⟨_, upd_same, ((po1.same s2).snoc (p := (n, a)) (show OrgT H2 t (n, a) from e2)).other (s2 _ _ eo1)⟩, ne, fun b o e => ?_, nm, no⟩ (fun b o nb1 nb2 e => ?_)
    · rw [upd_ne (ne_of_none e no)]
      exact s2 _ _ (x1 _ _ (ne_of_none e nm) (same _ _ e))
    · rw [upd_ne nb2]
      exact s2 _ _ (x1 _ _ nb1 e)
end
end Mine

set_option maxRecDepth 100000
set_option maxHeartbeats 4000000
/-! breadth first: what is found first is reached by the least word. Words are rows of answers below B; num: the shorter first, then by their order. Plain mathematics -/
namespace Wk
def num (B : Nat) (w : List Nat) : Nat := w.foldl (fun n k => n * B + k) 1
theorem fold_app (B : Nat) : ∀ (s : List Nat) (a b : Nat), a ≤ b → s.foldl (fun n k => n * B + k) a ≤ s.foldl (fun n k => n * B + k) b
  | [], _, _, h => h
  | k :: s, a, b, h => fold_app B s _ _ (Nat.add_le_add_right (Nat.mul_le_mul_right B h) k)
theorem num_app (B : Nat) (w s : List Nat) : num B (w ++ s) = s.foldl (fun n k => n * B + k) (num B w) := List.foldl_append ..
theorem num_mono {B : Nat} {a b : List Nat} (h : num B a ≤ num B b) (s : List Nat) : num B (a ++ s) ≤ num B (b ++ s) := by
  rw [num_app, num_app]
  exact fold_app B s _ _ h
theorem fold_ge {B : Nat} (hB : 1 ≤ B) : ∀ (s : List Nat) (a : Nat), a ≤ s.foldl (fun n k => n * B + k) a
  | [], a => Nat.le_refl a
  | k :: s, a => by
    refine Nat.le_trans ?_ (fold_ge hB s (a * B + k))
    have := Nat.mul_le_mul_left a hB
    omega
theorem num_le {B : Nat} (hB : 1 ≤ B) (w s : List Nat) : num B w ≤ num B (w ++ s) := by
  rw [num_app]
  exact fold_ge hB s _
theorem num_pre {B : Nat} (hB : 1 ≤ B) (w : List Nat) {s t : List Nat} (h : s <+: t) : num B (w ++ s) ≤ num B (w ++ t) := by
  obtain ⟨u, rfl⟩ := h
  rw [← List.append_assoc]
  exact num_le hB _ _
theorem num_snoc (B : Nat) (w : List Nat) (k : Nat) : num B (w ++ [k]) = num B w * B + k := by
  rw [num_app]
  rfl
theorem fold_lo {B : Nat} : ∀ (s : List Nat) (a : Nat), a * B ^ s.length ≤ s.foldl (fun n k => n * B + k) a
  | [], a => by simp
  | k :: s, a => by
    refine Nat.le_trans ?_ (fold_lo s (a * B + k))
    rw [List.length_cons, Nat.pow_succ, Nat.mul_comm (B ^ s.length) B, ← Nat.mul_assoc]
    exact Nat.mul_le_mul_right _ (Nat.le_add_right _ _)
theorem fold_hi {B : Nat} : ∀ (s : List Nat) (a : Nat), (∀ k ∈ s, k < B) → s.foldl (fun n k => n * B + k) a < (a + 1) * B ^ s.length
  | [], a, _ => by simp
  | k :: s, a, h => by
    have h1 := fold_hi s (a * B + k) fun x hx => h x (List.mem_cons_of_mem _ hx)
    have hk := h k List.mem_cons_self
    refine Nat.lt_of_lt_of_le h1 ?_
    rw [List.length_cons, Nat.pow_succ, Nat.mul_comm (B ^ s.length) B, ← Nat.mul_assoc]
    refine Nat.mul_le_mul_right _ ?_
    rw [Nat.add_mul]
    omega
/-- a longer word is greater -/
theorem num_len {B : Nat} (hB : 2 ≤ B) {w v : List Nat} (hw : ∀ k ∈ w, k < B) (h : w.length < v.length) : num B w < num B v := by
  have h1 := fold_hi w 1 hw
  have h2 := fold_lo (B := B) v 1
  have h3 : B ^ (w.length + 1) ≤ B ^ v.length := Nat.pow_le_pow_right (by omega) h
  rw [Nat.pow_succ] at h3
  have h4 : (1 + 1) * B ^ w.length ≤ B ^ w.length * B := by
    rw [Nat.mul_comm (B ^ w.length) B]
    exact Nat.mul_le_mul_right _ hB
  show w.foldl _ 1 < v.foldl _ 1
  omega
theorem len_of_num {B : Nat} (hB : 2 ≤ B) {w v : List Nat} (hv : ∀ k ∈ v, k < B) (h : num B w ≤ num B v) : w.length ≤ v.length := by
  by_cases z : w.length ≤ v.length
  · exact z
  · have := num_len hB hv (show v.length < w.length by omega)
    omega
theorem num_inj {B : Nat} (hB : 2 ≤ B) : ∀ (n : Nat) (w v : List Nat), w.length = n → (∀ k ∈ w, k < B) → (∀ k ∈ v, k < B) → num B w = num B v → w = v
  | 0, w, v, hl, hw, hv, e => by
    have w0 : w = [] := List.length_eq_zero_iff.mp hl
    subst w0
    have := len_of_num hB hw (Nat.le_of_eq e.symm)
    exact (List.length_eq_zero_iff.mp (by simpa using this)).symm
  | n + 1, w, v, hl, hw, hv, e => by
    have l1 := len_of_num hB hw (Nat.le_of_eq e.symm)
    have l2 := len_of_num hB hv (Nat.le_of_eq e)
    have ll : v.length = w.length := by omega
    have hw0 : w ≠ [] := fun z => by rw [z] at hl; simp at hl
    have hv0 : v ≠ [] := fun z => by rw [z] at ll; simp at ll; omega
    have dw := List.dropLast_concat_getLast hw0
    have dv := List.dropLast_concat_getLast hv0
    have bw := hw _ (List.getLast_mem hw0)
    have bv := hv _ (List.getLast_mem hv0)
    generalize w.getLast hw0 = k at dw bw
    generalize v.getLast hv0 = l at dv bv
    rw [← dw, ← dv, num_snoc, num_snoc] at e
    have e1 : num B w.dropLast = num B v.dropLast := by
      have h1 : (num B w.dropLast * B + k) / B = num B w.dropLast := by
        rw [Nat.mul_comm, Nat.mul_add_div (by omega), Nat.div_eq_of_lt bw, Nat.add_zero]
      have h2 : (num B v.dropLast * B + l) / B = num B v.dropLast := by
        rw [Nat.mul_comm, Nat.mul_add_div (by omega), Nat.div_eq_of_lt bv, Nat.add_zero]
      rw [← h1, ← h2, e]
    rw [e1] at e
    have e2 : k = l := by omega
    have := num_inj hB n w.dropLast v.dropLast (by rw [List.length_dropLast]; omega) (fun x hx => hw x (List.dropLast_subset _ hx)) (fun x hx => hv x (List.dropLast_subset _ hx)) e1
    rw [← dw, ← dv, this, e2]
section
variable {S : Type} (suc : S → Nat → Option S) (bad : S → Prop)
/-- behind this word, and not ahead, things are bad -/
def Diff : S → List Nat → Prop
  | p, [] => bad p
  | p, k :: s => ¬ bad p ∧ ∃ c, suc p k = some c ∧ Diff c s
variable {suc bad}
theorem Diff.digits {B : Nat} (hS : ∀ p k c, suc p k = some c → k < B) : ∀ {s : List Nat} {p : S}, Diff suc bad p s → ∀ k ∈ s, k < B
  | [], _, _, _, h => nomatch h
  | k :: s, p, ⟨_, c, e, d⟩, x, hx => by
    rcases List.mem_cons.mp hx with z | z
    · rw [z]
      exact hS _ _ _ e
    · exact Diff.digits hS d x z
/-- the things that are met, each with the word that led to it; those ahead of d are gone through -/
structure Bfs (B : Nat) (suc : S → Nat → Option S) (bad : S → Prop) (p0 : S) (cap : Nat) (met : List S) (acc : List (List Nat)) (d m : Nat) : Prop where
  len : acc.length = met.length
  at0 : met[0]? = some p0 ∧ acc[0]? = some []
  dig : ∀ w ∈ acc, ∀ k ∈ w, k < B
  run : ∀ (i : Nat) (p : S) (w : List Nat), met[i]? = some p → acc[i]? = some w → ∀ s, Diff suc bad p s → Diff suc bad p0 (w ++ s)
  inc : ∀ (i j : Nat) (w v : List Nat), i < j → acc[i]? = some w → acc[j]? = some v → num B w < num B v
  bnd : ∀ (i : Nat) (w v : List Nat), acc[i]? = some w → acc[d]? = some v → num B w < num B v * B + m
  ok : ∀ (i : Nat) (p : S), i < d → met[i]? = some p → ¬ bad p
  cov : ∀ (i : Nat) (p : S) (w : List Nat) (k : Nat) (c : S), (i < d ∨ (i = d ∧ k < m)) → met[i]? = some p → acc[i]? = some w → suc p k = some c → w.length < cap → ∀ s, Diff suc bad c s →
    ∃ (j : Nat) (q : S) (v s' : List Nat), met[j]? = some q ∧ acc[j]? = some v ∧ num B v ≤ num B (w ++ [k]) ∧ Diff suc bad q s' ∧ s' <+: s
variable {B cap d m : Nat} {p0 : S} {met : List S} {acc : List (List Nat)}
theorem Bfs.start (hB : 2 ≤ B) : Bfs B suc bad p0 cap [p0] [[]] 0 0 where
  len := rfl
  at0 := ⟨rfl, rfl⟩
  dig := fun w hw k hk => by rw [List.mem_singleton.mp hw] at hk; exact nomatch hk
  run := fun i p w h1 h2 s h => by
    match i with
    | 0 =>
      have e1 := Option.some.inj h1
      have e2 := Option.some.inj h2
      subst e1 e2
      exact h
    | i + 1 => simp at h1
  inc := fun i j w v hij _ h2 => by
    match j with
    | 0 => omega
    | j + 1 => simp at h2
  bnd := fun i w v h1 h2 => by
    match i with
    | 0 =>
      have e1 := Option.some.inj h1
      have e2 := Option.some.inj h2
      subst e1 e2
      show 1 < 1 * B + 0
      omega
    | i + 1 => simp at h1
  ok := fun i p h => absurd h (Nat.not_lt_zero i)
  cov := fun i p w k c h => by omega
/-- a thing that is new is taken -/
theorem Bfs.push (h : Bfs B suc bad p0 cap met acc d m) {p c : S} {w : List Nat} (ep : met[d]? = some p) (ew : acc[d]? = some w) (np : ¬ bad p) (es : suc p m = some c) (hm : m < B) : Bfs B suc bad p0 cap (met ++ [c]) (acc ++ [w ++ [m]]) d (m + 1) := by
  have hd : d < met.length := (List.getElem?_eq_some_iff.mp ep).1
  have hl := h.len
  have old : ∀ {i : Nat} {x : S}, i < met.length → ((met ++ [c])[i]? = some x ↔ met[i]? = some x) := fun {i x} hi => by rw [List.getElem?_append_left hi]
  have olda : ∀ {i : Nat} {x : List Nat}, i < met.length → ((acc ++ [w ++ [m]])[i]? = some x ↔ acc[i]? = some x) := fun {i x} hi => by rw [List.getElem?_append_left (by omega)]
  have lt : ∀ {i : Nat} {x : List Nat}, (acc ++ [w ++ [m]])[i]? = some x → i < met.length ∨ (i = met.length ∧ x = w ++ [m]) := fun {i x} e => by
    by_cases z : i < met.length
    · exact .inl z
    · have := (List.getElem?_eq_some_iff.mp e).1
      rw [List.length_append] at this
      have hi : i = met.length := by
        simp at this
        omega
      subst hi
      rw [← hl, List.getElem?_append_right (Nat.le_refl _), Nat.sub_self] at e
      exact .inr ⟨rfl, (Option.some.inj e).symm⟩
  have newm : (met ++ [c])[met.length]? = some c := by rw [List.getElem?_append_right (Nat.le_refl _), Nat.sub_self]; rfl
  have newa : (acc ++ [w ++ [m]])[met.length]? = some (w ++ [m]) := by rw [← hl, List.getElem?_append_right (Nat.le_refl _), Nat.sub_self]; rfl
  have code : num B (w ++ [m]) = num B w * B + m := num_snoc B w m
  refine ⟨by rw [List.length_append, List.length_append, hl]; rfl, ⟨(old (by omega)).mpr h.at0.1, (olda (by omega)).mpr h.at0.2⟩, fun x hx k hk => ?_, fun i q v e1 e2 s ds => ?_, fun i j x y hij e1 e2 => ?_, fun i x y e1 e2 => ?_, fun i q hi e => h.ok i q hi ((old (by omega)).mp e), fun i q v k c' hi e1 e2 ec hc s ds => ?_⟩
  · rcases List.mem_append.mp hx with z | z
    · exact h.dig x z k hk
    · rw [List.mem_singleton.mp z] at hk
      rcases List.mem_append.mp hk with y | y
      · exact h.dig w (List.mem_of_getElem? ew) k y
      · rw [List.mem_singleton.mp y]
        exact hm
  · rcases lt e2 with z | ⟨z, rfl⟩
    · exact h.run i q v ((old z).mp e1) ((olda z).mp e2) s ds
    · subst z
      rw [newm] at e1
      have := Option.some.inj e1
      subst this
      rw [List.append_assoc]
      exact h.run d p w ep ew (m :: s) ⟨np, c, es, ds⟩
  · rcases lt e2 with z | ⟨z, rfl⟩
    · exact h.inc i j x y hij ((olda (by omega)).mp e1) ((olda z).mp e2)
    · subst z
      rw [code]
      exact h.bnd i x w ((olda hij).mp e1) ew
  · have e2' := (olda hd).mp e2
    rw [ew] at e2'
    have := Option.some.inj e2'
    subst this
    rcases lt e1 with z | ⟨z, rfl⟩
    · have := h.bnd i x w ((olda z).mp e1) ew
      omega
    · rw [code]
      omega
  · have hi' : i < met.length := by omega
    have e1' := (old hi').mp e1
    have e2' := (olda hi').mp e2
    by_cases z : i = d ∧ k = m
    · obtain ⟨rfl, rfl⟩ := z
      rw [ep] at e1'
      rw [ew] at e2'
      have := Option.some.inj e1'
      subst this
      have := Option.some.inj e2'
      subst this
      rw [es] at ec
      have := Option.some.inj ec
      subst this
      exact ⟨_, _, _, s, newm, newa, Nat.le_refl _, ds, List.prefix_refl s⟩
    · obtain ⟨j, q', v', s', k1, k2, k3, k4, k5⟩ := h.cov i q v k c' (by omega) e1' e2' ec hc s ds
      have hj : j < met.length := (List.getElem?_eq_some_iff.mp k1).1
      exact ⟨j, q', v', s', (old hj).mpr k1, (olda hj).mpr k2, k3, k4, k5⟩
/-- a thing is left out, since what parts it parts something met, too -/
theorem Bfs.skip (h : Bfs B suc bad p0 cap met acc d m) {p : S} {w : List Nat} (ep : met[d]? = some p) (ew : acc[d]? = some w)
    (hc : ∀ c, suc p m = some c → w.length < cap → ∀ s, Diff suc bad c s → ∃ (j : Nat) (q : S) (s' : List Nat), met[j]? = some q ∧ Diff suc bad q s' ∧ s' <+: s) : Bfs B suc bad p0 cap met acc d (m + 1) := by
  refine ⟨h.len, h.at0, h.dig, h.run, h.inc, fun i x y e1 e2 => by have := h.bnd i x y e1 e2; omega, h.ok, fun i q v k c' hi e1 e2 ec hcap s ds => ?_⟩
  by_cases z : i = d ∧ k = m
  · obtain ⟨rfl, rfl⟩ := z
    rw [ep] at e1
    rw [ew] at e2
    have := Option.some.inj e1
    subst this
    have := Option.some.inj e2
    subst this
    obtain ⟨j, q', s', k1, k2, k3⟩ := hc c' ec hcap s ds
    have hj : j < acc.length := by
      rw [h.len]
      exact (List.getElem?_eq_some_iff.mp k1).1
    have ej : acc[j]? = some acc[j] := List.getElem?_eq_getElem hj
    refine ⟨j, q', _, s', k1, ej, ?_, k2, k3⟩
    rw [num_snoc]
    exact Nat.le_of_lt (h.bnd j _ _ ej ew)
  · exact h.cov i q v k c' (by omega) e1 e2 ec hcap s ds
/-- all its answers are gone through -/
theorem Bfs.next (hB : 2 ≤ B) (h : Bfs B suc bad p0 cap met acc d m) {p : S} {w : List Nat} (ep : met[d]? = some p) (ew : acc[d]? = some w) (np : ¬ bad p) (hm : m ≤ B)
    (hs : ∀ k c, m ≤ k → suc p k = some c → cap ≤ w.length) : Bfs B suc bad p0 cap met acc (d + 1) 0 := by
  refine ⟨h.len, h.at0, h.dig, h.run, h.inc, fun i x y e1 e2 => ?_, fun i q hi e => ?_, fun i q v k c' hi e1 e2 ec hcap s ds => ?_⟩
  · have b1 := h.bnd i x w e1 ew
    have b2 := h.inc d (d + 1) w y (Nat.lt_succ_self d) ew e2
    have b3 : (num B w + 1) * B ≤ num B y * B := Nat.mul_le_mul_right B b2
    rw [Nat.add_mul] at b3
    omega
  · by_cases z : i = d
    · subst z
      rw [ep] at e
      have := Option.some.inj e
      subst this
      exact np
    · exact h.ok i q (by omega) e
  · by_cases z : i = d
    · subst z
      rw [ep] at e1
      rw [ew] at e2
      have := Option.some.inj e1
      subst this
      have := Option.some.inj e2
      subst this
      by_cases km : k < m
      · exact h.cov i p w k c' (.inr ⟨rfl, km⟩) ep ew ec hcap s ds
      · have := hs k c' (by omega) ec
        omega
    · exact h.cov i q v k c' (.inl (by omega)) e1 e2 ec hcap s ds
/-- what is bad first is reached by the least word -/
theorem Bfs.least (hB : 2 ≤ B) (hS : ∀ p k c, suc p k = some c → k < B) (h : Bfs B suc bad p0 cap met acc d m) {q : S} {v : List Nat} (eq : met[d]? = some q) (ev : acc[d]? = some v) (hq : bad q) (hv : v.length ≤ cap) :
    Diff suc bad p0 v ∧ ∀ u, Diff suc bad p0 u → num B v ≤ num B u := by
  have dv : ∀ k ∈ v, k < B := h.dig v (List.mem_of_getElem? ev)
  have main : ∀ (n : Nat) (s : List Nat) (j : Nat) (p : S) (w : List Nat), s.length ≤ n → met[j]? = some p → acc[j]? = some w → Diff suc bad p s → num B v ≤ num B (w ++ s) := by
    intro n
    induction n with
    | zero =>
      intro s j p w hn ep ew ds
      have : s = [] := List.length_eq_zero_iff.mp (by omega)
      subst this
      rw [List.append_nil]
      by_cases z : j < d
      · exact absurd ds (h.ok j p z ep)
      · by_cases y : j = d
        · subst y
          rw [ev] at ew
          have := Option.some.inj ew
          rw [this]
          exact Nat.le_refl _
        · exact Nat.le_of_lt (h.inc d j v w (by omega) ev ew)
    | succ n ih =>
      intro s j p w hn ep ew ds
      match s, ds with
      | [], ds => exact ih [] j p w (by simp) ep ew ds
      | k :: s, ⟨np, c, ec, dc⟩ =>
        by_cases z : j < d
        · by_cases hc : w.length < cap
          · obtain ⟨j', q', v', s', k1, k2, k3, k4, k5⟩ := h.cov j p w k c (.inl z) ep ew ec hc s dc
            have l5 := k5.length_le
            have := ih s' j' q' v' (by simp at hn; omega) k1 k2 k4
            refine Nat.le_trans this (Nat.le_trans (num_mono k3 s') ?_)
            have e : w ++ k :: s = (w ++ [k]) ++ s := by simp
            rw [e]
            exact num_pre (by omega) _ k5
          · refine Nat.le_of_lt (num_len hB dv ?_)
            rw [List.length_append, List.length_cons]
            omega
        · refine Nat.le_trans ?_ (num_le (by omega) w (k :: s))
          by_cases y : j = d
          · subst y
            rw [ev] at ew
            have := Option.some.inj ew
            rw [this]
            exact Nat.le_refl _
          · exact Nat.le_of_lt (h.inc d j v w (by omega) ev ew)
  refine ⟨?_, fun u du => ?_⟩
  · have := h.run d q v eq ev [] hq
    rw [List.append_nil] at this
    exact this
  · exact main u.length u 0 p0 [] (Nat.le_refl _) h.at0.1 h.at0.2 du
/-- where nothing is bad, nothing is within so many answers -/
theorem Bfs.none (hB : 2 ≤ B) (hS : ∀ p k c, suc p k = some c → k < B) (h : Bfs B suc bad p0 cap met acc met.length m) : ∀ u, Diff suc bad p0 u → cap < u.length := by
  have main : ∀ (n : Nat) (s : List Nat) (j : Nat) (p : S) (w : List Nat), s.length ≤ n → met[j]? = some p → acc[j]? = some w → Diff suc bad p s → cap < (w ++ s).length := by
    intro n
    induction n with
    | zero =>
      intro s j p w hn ep ew ds
      have : s = [] := List.length_eq_zero_iff.mp (by omega)
      subst this
      exact absurd ds (h.ok j p (List.getElem?_eq_some_iff.mp ep).1 ep)
    | succ n ih =>
      intro s j p w hn ep ew ds
      match s, ds with
      | [], ds => exact ih [] j p w (by simp) ep ew ds
      | k :: s, ⟨np, c, ec, dc⟩ =>
        rw [List.length_append, List.length_cons]
        by_cases hc : w.length < cap
        · obtain ⟨j', q', v', s', k1, k2, k3, k4, k5⟩ := h.cov j p w k c (.inl (List.getElem?_eq_some_iff.mp ep).1) ep ew ec hc s dc
          have l5 := k5.length_le
          have := ih s' j' q' v' (by simp at hn; omega) k1 k2 k4
          rw [List.length_append] at this
          have hk : ∀ x ∈ w ++ [k], x < B := fun x hx => by
            rcases List.mem_append.mp hx with z | z
            · exact h.dig w (List.mem_of_getElem? ew) x z
            · rw [List.mem_singleton.mp z]
              exact hS _ _ _ ec
          have l3 := len_of_num hB hk k3
          rw [List.length_append] at l3
          simp at l3
          omega
        · omega
  exact fun u du => by simpa using main u.length u 0 p0 [] (Nat.le_refl _) h.at0.1 h.at0.2 du
end
end Wk

set_option maxRecDepth 100000
set_option maxHeartbeats 4000000
namespace Mine
open PySem L2
/-! what parts two machines, from a pair of rows of rest on. Plain mathematics -/
abbrev BASE : Nat := 1001
theorem base2 : 2 ≤ BASE := by decide
def behindAt (rs1 rs2 : List RowD) (p : Prw) : List Prw := match rs1[p.1]?, rs2[p.2]? with
  | some d1, some d2 => behind rs1 rs2 d1 d2
  | _, _ => []
def sucP (rs1 rs2 : List RowD) (p : Prw) (k : Nat) : Option Prw := (behindAt rs1 rs2 p)[k]?
def badP (rs1 rs2 : List RowD) (p : Prw) : Prop := showAt rs1 p.1 ≠ showAt rs2 p.2
abbrev DiffP (rs1 rs2 : List RowD) : Prw → List Nat → Prop := Wk.Diff (sucP rs1 rs2) (badP rs1 rs2)
def InP (rs1 rs2 : List RowD) (p : Prw) : Prop := p.1 < rs1.length ∧ p.2 < rs2.length
/-- what shows the same has as many nexts -/
def Even (rs1 rs2 : List RowD) : Prop := ∀ (i j : Nat) (d1 d2 : RowD), rs1[i]? = some d1 → rs2[j]? = some d2 → showD d1 = showD d2 → (nextsD d1).length = (nextsD d2).length
theorem InP.rows {rs1 rs2 : List RowD} {p : Prw} (h : InP rs1 rs2 p) : ∃ d1 d2, rs1[p.1]? = some d1 ∧ rs2[p.2]? = some d2 := ⟨_, _, List.getElem?_eq_getElem h.1, List.getElem?_eq_getElem h.2⟩
theorem behindAt_of {rs1 rs2 : List RowD} {p : Prw} {d1 d2 : RowD} (e1 : rs1[p.1]? = some d1) (e2 : rs2[p.2]? = some d2) : behindAt rs1 rs2 p = behind rs1 rs2 d1 d2 := by
  unfold behindAt
  rw [e1, e2]
theorem sucP_of {rs1 rs2 : List RowD} {p c : Prw} {k : Nat} (h : sucP rs1 rs2 p k = some c) : ∃ d1 d2 a b, rs1[p.1]? = some d1 ∧ rs2[p.2]? = some d2 ∧ (nextsD d1)[k]? = some a ∧ (nextsD d2)[k]? = some b ∧ c = (stp rs1 a.toNat, stp rs2 b.toNat) := by
  unfold sucP behindAt at h
  cases e1 : rs1[p.1]? with
  | none => rw [e1] at h; simp at h
  | some d1 =>
    cases e2 : rs2[p.2]? with
    | none => rw [e1, e2] at h; simp at h
    | some d2 =>
      rw [e1, e2] at h
      have h : (behind rs1 rs2 d1 d2)[k]? = some c := h
      unfold behind at h
      rw [List.getElem?_zipWith] at h
      cases g1 : (nextsD d1)[k]? with
      | none => rw [g1] at h; simp at h
      | some a =>
        cases g2 : (nextsD d2)[k]? with
        | none => rw [g1, g2] at h; simp at h
        | some b =>
          rw [g1, g2] at h
          exact ⟨d1, d2, a, b, rfl, rfl, g1, g2, (Option.some.inj h).symm⟩
theorem sucP_mk {rs1 rs2 : List RowD} {p : Prw} {k : Nat} {d1 d2 : RowD} {a b : Int} (e1 : rs1[p.1]? = some d1) (e2 : rs2[p.2]? = some d2) (g1 : (nextsD d1)[k]? = some a) (g2 : (nextsD d2)[k]? = some b) : sucP rs1 rs2 p k = some (stp rs1 a.toNat, stp rs2 b.toNat) := by
  unfold sucP
  rw [behindAt_of e1 e2]
  unfold behind
  rw [List.getElem?_zipWith, g1, g2]
theorem sucP_in {rs1 rs2 : List RowD} (f1 : Fit rs1) (f2 : Fit rs2) {p c : Prw} {k : Nat} (h : sucP rs1 rs2 p k = some c) : InP rs1 rs2 c := by
  obtain ⟨d1, d2, a, b, e1, e2, g1, g2, rfl⟩ := sucP_of h
  obtain ⟨a0, a1⟩ := f1.nexts e1 (List.mem_of_getElem? g1)
  obtain ⟨b0, b1⟩ := f2.nexts e2 (List.mem_of_getElem? g2)
  exact ⟨stp_lt f1.go (by omega), stp_lt f2.go (by omega)⟩
theorem sucP_lt {rs1 rs2 : List RowD} (few : ∀ d ∈ rs1, (nextsD d).length ≤ 1000) : ∀ (p : Prw) (k : Nat) (c : Prw), sucP rs1 rs2 p k = some c → k < BASE := fun p k c h => by
  obtain ⟨d1, d2, a, b, e1, e2, g1, g2, rfl⟩ := sucP_of h
  have h1 := (List.getElem?_eq_some_iff.mp g1).1
  have h2 := few d1 (List.mem_of_getElem? e1)
  show k < 1001
  omega
def opAt (rs : List RowD) (i : Nat) : Str := match rs[i]? with
  | some (.ask op _) => op
  | _ => ""
def runPr (rs1 rs2 : List RowD) : Prw → List Nat → Option Prw
  | p, [] => some p
  | p, k :: s => match sucP rs1 rs2 p k with
    | some c => runPr rs1 rs2 c s
    | none => none
def histP (rs1 rs2 : List RowD) : Prw → List Nat → List (Str × Nat)
  | _, [] => []
  | p, k :: s => (opAt rs1 p.1, k) :: match sucP rs1 rs2 p k with
    | some c => histP rs1 rs2 c s
    | none => []
theorem runPr_snoc {rs1 rs2 : List RowD} : ∀ {w : List Nat} {p q c : Prw} {k : Nat}, runPr rs1 rs2 p w = some q → sucP rs1 rs2 q k = some c → runPr rs1 rs2 p (w ++ [k]) = some c
  | [], p, q, c, k, h, e => by
    have : p = q := Option.some.inj h
    subst this
    show (match sucP rs1 rs2 p k with | some c => runPr rs1 rs2 c [] | none => none) = some c
    rw [e]
    rfl
  | l :: w, p, q, c, k, h, e => by
    show (match sucP rs1 rs2 p l with | some c => runPr rs1 rs2 c (w ++ [k]) | none => none) = some c
    have h : (match sucP rs1 rs2 p l with | some c => runPr rs1 rs2 c w | none => none) = some q := h
    cases z : sucP rs1 rs2 p l with
    | none => rw [z] at h; cases h
    | some y =>
      rw [z] at h
      exact runPr_snoc (w := w) h e
theorem histP_snoc {rs1 rs2 : List RowD} : ∀ {w : List Nat} {p q : Prw} {k : Nat}, runPr rs1 rs2 p w = some q → histP rs1 rs2 p (w ++ [k]) = histP rs1 rs2 p w ++ [(opAt rs1 q.1, k)]
  | [], p, q, k, h => by
    have : p = q := Option.some.inj h
    subst this
    show (opAt rs1 p.1, k) :: (match sucP rs1 rs2 p k with | some c => histP rs1 rs2 c [] | none => []) = [(opAt rs1 p.1, k)]
    cases sucP rs1 rs2 p k <;> rfl
  | l :: w, p, q, k, h => by
    have h : (match sucP rs1 rs2 p l with | some c => runPr rs1 rs2 c w | none => none) = some q := h
    show (opAt rs1 p.1, l) :: (match sucP rs1 rs2 p l with | some c => histP rs1 rs2 c (w ++ [k]) | none => []) = ((opAt rs1 p.1, l) :: (match sucP rs1 rs2 p l with | some c => histP rs1 rs2 c w | none => [])) ++ [(opAt rs1 q.1, k)]
    cases z : sucP rs1 rs2 p l with
    | none => rw [z] at h; cases h
    | some y =>
      rw [z] at h
      show _ = (opAt rs1 p.1, l) :: (histP rs1 rs2 y w ++ [(opAt rs1 q.1, k)])
      rw [← histP_snoc (w := w) h]
theorem runPr_inv {rs1 rs2 : List RowD} : ∀ {w : List Nat} {p q c : Prw} {k : Nat}, runPr rs1 rs2 p w = some q → runPr rs1 rs2 p (w ++ [k]) = some c → sucP rs1 rs2 q k = some c
  | [], p, q, c, k, h, e => by
    have : p = q := Option.some.inj h
    subst this
    have e : (match sucP rs1 rs2 p k with | some c => runPr rs1 rs2 c [] | none => none) = some c := e
    cases z : sucP rs1 rs2 p k with
    | none => rw [z] at e; cases e
    | some y => rw [z] at e; exact e
  | l :: w, p, q, c, k, h, e => by
    have e : (match sucP rs1 rs2 p l with | some c => runPr rs1 rs2 c (w ++ [k]) | none => none) = some c := e
    have h : (match sucP rs1 rs2 p l with | some c => runPr rs1 rs2 c w | none => none) = some q := h
    cases z : sucP rs1 rs2 p l with
    | none => rw [z] at h; cases h
    | some y =>
      rw [z] at h e
      exact runPr_inv (w := w) h e
/-- what a row of either machine shows behind answers -/
def outU (rs1 rs2 : List RowD) (x : Nat) : List Str := if x < rs1.length then showAt rs1 x else showAt rs2 (x - rs1.length)
def nxU (rs1 rs2 : List RowD) (x k : Nat) : Option Nat := if x < rs1.length then (stepsAt rs1 x)[k]?.map fun a => stp rs1 a.toNat else (stepsAt rs2 (x - rs1.length))[k]?.map fun a => rs1.length + stp rs2 a.toNat
def beh (rs1 rs2 : List RowD) : Nat → List Nat → List Str
  | x, [] => outU rs1 rs2 x
  | x, k :: s => match nxU rs1 rs2 x k with
    | some y => beh rs1 rs2 y s
    | none => []
theorem out_one {rs1 rs2 : List RowD} {p : Prw} (h : InP rs1 rs2 p) : outU rs1 rs2 p.1 = showAt rs1 p.1 := if_pos h.1
theorem out_two {rs1 rs2 : List RowD} {j : Nat} : outU rs1 rs2 (rs1.length + j) = showAt rs2 j := by
  unfold outU
  rw [if_neg (by omega), Nat.add_sub_cancel_left]
theorem nx_one {rs1 rs2 : List RowD} {i k : Nat} {d : RowD} (e : rs1[i]? = some d) : nxU rs1 rs2 i k = (nextsD d)[k]?.map fun a => stp rs1 a.toNat := by
  unfold nxU
  rw [if_pos (List.getElem?_eq_some_iff.mp e).1, stepsAt_of e]
theorem nx_two {rs1 rs2 : List RowD} {j k : Nat} {d : RowD} (e : rs2[j]? = some d) : nxU rs1 rs2 (rs1.length + j) k = (nextsD d)[k]?.map fun a => rs1.length + stp rs2 a.toNat := by
  unfold nxU
  rw [if_neg (by omega), Nat.add_sub_cancel_left, stepsAt_of e]
theorem diff_beh {rs1 rs2 : List RowD} (f1 : Fit rs1) (f2 : Fit rs2) : ∀ {s : List Nat} {p : Prw}, InP rs1 rs2 p → DiffP rs1 rs2 p s → beh rs1 rs2 p.1 s ≠ beh rs1 rs2 (rs1.length + p.2) s
  | [], p, hp, h => by
    show outU rs1 rs2 p.1 ≠ outU rs1 rs2 (rs1.length + p.2)
    rw [out_one hp, out_two]
    exact h
  | k :: s, p, hp, ⟨_, c, ec, dc⟩ => by
    obtain ⟨d1, d2, a, b, e1, e2, g1, g2, rfl⟩ := sucP_of ec
    have ih := diff_beh f1 f2 (sucP_in f1 f2 ec) dc
    show (match nxU rs1 rs2 p.1 k with | some y => beh rs1 rs2 y s | none => []) ≠ (match nxU rs1 rs2 (rs1.length + p.2) k with | some y => beh rs1 rs2 y s | none => [])
    rw [nx_one e1, nx_two e2, g1, g2]
    exact ih
theorem beh_same {rs1 rs2 : List RowD} (f1 : Fit rs1) (f2 : Fit rs2) (ev : Even rs1 rs2) : ∀ {s : List Nat} {p : Prw}, InP rs1 rs2 p → (∀ s', s' <+: s → ¬ DiffP rs1 rs2 p s') → beh rs1 rs2 p.1 s = beh rs1 rs2 (rs1.length + p.2) s
  | [], p, hp, h => by
    show outU rs1 rs2 p.1 = outU rs1 rs2 (rs1.length + p.2)
    rw [out_one hp, out_two]
    exact Classical.byContradiction fun z => h [] (List.prefix_refl _) z
  | k :: s, p, hp, h => by
    have np : ¬ badP rs1 rs2 p := h [] (List.nil_prefix)
    have eqs : showAt rs1 p.1 = showAt rs2 p.2 := Classical.byContradiction np
    obtain ⟨d1, d2, e1, e2⟩ := hp.rows
    have le : (nextsD d1).length = (nextsD d2).length := ev _ _ d1 d2 e1 e2 (by rw [← showAt_of e1, ← showAt_of e2]; exact eqs)
    show (match nxU rs1 rs2 p.1 k with | some y => beh rs1 rs2 y s | none => []) = (match nxU rs1 rs2 (rs1.length + p.2) k with | some y => beh rs1 rs2 y s | none => [])
    rw [nx_one e1, nx_two e2]
    by_cases hk : k < (nextsD d1).length
    · have g1 : (nextsD d1)[k]? = some (nextsD d1)[k] := List.getElem?_eq_getElem hk
      have g2 : (nextsD d2)[k]? = some (nextsD d2)[k] := List.getElem?_eq_getElem (by omega)
      have ec := sucP_mk e1 e2 g1 g2
      rw [g1, g2]
      exact beh_same f1 f2 ev (sucP_in f1 f2 ec) fun s' hs' hd => h (k :: s') (List.cons_prefix_cons.mpr ⟨rfl, hs'⟩) ⟨np, _, ec, hd⟩
    · rw [List.getElem?_eq_none (by omega), List.getElem?_eq_none (by omega)]
      rfl
/-- the groups are those that the pairs make -/
def Gen (n n1 : Nat) (met : List Prw) (rep : Nat → Nat) : Prop := ∀ S : Nat → Nat → Prop, (∀ x, S x x) → (∀ x y, S x y → S y x) → (∀ x y z, S x y → S y z → S x z) → (∀ p ∈ met, S p.1 (n1 + p.2)) → ∀ x y, x < n → y < n → rep x = rep y → S x y
theorem Gen.start (n n1 : Nat) : Gen n n1 [] (fun i => i) := fun S h1 _ _ _ x y _ _ e => by
  have : x = y := e
  rw [this]
  exact h1 y
theorem Gen.join {n n1 : Nat} {met : List Prw} {rep : Nat → Nat} (g : Gen n n1 met rep) {p : Prw} (h1 : p.1 < n) (h2 : n1 + p.2 < n) : Gen n n1 (met ++ [p]) (Wk.joinR rep (rep p.1) (rep (n1 + p.2))) := by
  intro S r s t hm x y hx hy e
  have old : ∀ u v, u < n → v < n → rep u = rep v → S u v := g S r s t fun q hq => hm q (List.mem_append_left _ hq)
  have link : S p.1 (n1 + p.2) := hm p (List.mem_append_right _ (List.mem_singleton.mpr rfl))
  unfold Wk.joinR at e
  by_cases zx : rep x = rep (n1 + p.2)
  · by_cases zy : rep y = rep (n1 + p.2)
    · exact old x y hx hy (by rw [zx, zy])
    · rw [if_pos zx, if_neg zy] at e
      exact t _ _ _ (old x _ hx h2 zx) (t _ _ _ (s _ _ link) (old _ y h1 hy e))
  · by_cases zy : rep y = rep (n1 + p.2)
    · rw [if_neg zx, if_pos zy] at e
      exact t _ _ _ (old x _ hx h1 e) (t _ _ _ link (old _ y h2 hy zy.symm))
    · rw [if_neg zx, if_neg zy] at e
      exact old x y hx hy e
theorem Gen.cover {rs1 rs2 : List RowD} (f1 : Fit rs1) (f2 : Fit rs2) (ev : Even rs1 rs2) {n : Nat} {met : List Prw} {rep : Nat → Nat} (g : Gen n rs1.length met rep) (hm : ∀ p ∈ met, InP rs1 rs2 p) {c : Prw} (hc : InP rs1 rs2 c) (h1 : c.1 < n) (h2 : rs1.length + c.2 < n)
    (e : rep c.1 = rep (rs1.length + c.2)) {s : List Nat} (d : DiffP rs1 rs2 c s) : ∃ (j : Nat) (q : Prw) (s' : List Nat), met[j]? = some q ∧ DiffP rs1 rs2 q s' ∧ s' <+: s := by
  refine Classical.byContradiction fun no => diff_beh f1 f2 hc d ?_
  refine g (fun x y => beh rs1 rs2 x s = beh rs1 rs2 y s) (fun _ => rfl) (fun _ _ h => h.symm) (fun _ _ _ a b => a.trans b) (fun q hq => ?_) _ _ h1 h2 e
  obtain ⟨j, hj, ej⟩ := List.mem_iff_getElem.mp hq
  exact beh_same f1 f2 ev (hm q hq) fun s' hs' hd => no ⟨j, q, s', by rw [List.getElem?_eq_getElem hj, ej], hd, hs'⟩
/-- where the pairs came from, by the words that led to them -/
structure OrgOk (org : List Org) (acc : List (List Nat)) : Prop where
  len : org.length = acc.length
  at0 : org[0]? = some (-1, -1)
  a0 : acc[0]? = some []
  up : ∀ (i : Nat) (o : Org), 0 < i → org[i]? = some o → ∃ (j k : Nat) (w : List Nat), o = ((j : Int), (k : Int)) ∧ j < i ∧ acc[j]? = some w ∧ acc[i]? = some (w ++ [k])
theorem OrgOk.push {org : List Org} {acc : List (List Nat)} (h : OrgOk org acc) (h0 : 0 < acc.length) {d k : Nat} {w : List Nat} (ew : acc[d]? = some w) : OrgOk (org ++ [((d : Int), (k : Int))]) (acc ++ [w ++ [k]]) := by
  have hd := (List.getElem?_eq_some_iff.mp ew).1
  refine ⟨by rw [List.length_append, List.length_append, h.len]; rfl, by rw [List.getElem?_append_left (by rw [h.len]; exact h0)]; exact h.at0, by rw [List.getElem?_append_left h0]; exact h.a0, fun i o hi e => ?_⟩
  by_cases z : i < org.length
  · rw [List.getElem?_append_left z] at e
    obtain ⟨j, l, v, e1, e2, e3, e4⟩ := h.up i o hi e
    exact ⟨j, l, v, e1, e2, by rw [List.getElem?_append_left (List.getElem?_eq_some_iff.mp e3).1]; exact e3, by rw [List.getElem?_append_left (List.getElem?_eq_some_iff.mp e4).1]; exact e4⟩
  · have hi2 : i = org.length := by
      have := (List.getElem?_eq_some_iff.mp e).1
      rw [List.length_append] at this
      simp at this
      omega
    subst hi2
    rw [List.getElem?_append_right (Nat.le_refl _), Nat.sub_self] at e
    have e := (Option.some.inj e).symm
    subst e
    exact ⟨d, k, w, rfl, by rw [h.len]; exact hd, by rw [List.getElem?_append_left hd]; exact ew, by rw [h.len, List.getElem?_append_right (Nat.le_refl _), Nat.sub_self]; rfl⟩
/-- each word leads to its pair -/
def Runs (rs1 rs2 : List RowD) (p0 : Prw) (met : List Prw) (acc : List (List Nat)) : Prop := ∀ (i : Nat) (w : List Nat), acc[i]? = some w → runPr rs1 rs2 p0 w = met[i]?
theorem Runs.push {rs1 rs2 : List RowD} {p0 : Prw} {met : List Prw} {acc : List (List Nat)} (h : Runs rs1 rs2 p0 met acc) (hl : acc.length = met.length) {d k : Nat} {p c : Prw} {w : List Nat} (ep : met[d]? = some p) (ew : acc[d]? = some w) (ec : sucP rs1 rs2 p k = some c) : Runs rs1 rs2 p0 (met ++ [c]) (acc ++ [w ++ [k]]) := by
  intro i v e
  by_cases z : i < acc.length
  · rw [List.getElem?_append_left z] at e
    rw [List.getElem?_append_left (by omega)]
    exact h i v e
  · have hi2 : i = acc.length := by
      have := (List.getElem?_eq_some_iff.mp e).1
      rw [List.length_append] at this
      simp at this
      omega
    subst hi2
    rw [List.getElem?_append_right (Nat.le_refl _), Nat.sub_self] at e
    have e := (Option.some.inj e).symm
    subst e
    rw [hl, List.getElem?_append_right (Nat.le_refl _), Nat.sub_self]
    exact runPr_snoc ((h d w ew).trans ep) ec
end Mine

set_option maxRecDepth 100000
set_option maxHeartbeats 4000000
namespace Mine
open PySem L2
abbrev s_parting_place : Stmt := top 41
/-- what is shown, as data -/
def showP (d : RowD) : PyData := .tuple ((showD d).map PyData.str)
def TxOk (rs : List RowD) : Prop := ∀ d ∈ rs, PyData.strOk (rowStr d) = true
theorem showS_ok {d : RowD} (h : PyData.strOk (rowStr d) = true) : ∀ t ∈ showD d, PyData.strOk t = true := by
  intro t ht
  cases d with
  | ask op ns =>
    rcases List.mem_cons.mp ht with z | z
    · rw [z]
      exact strOk_of "ask"
    · rw [List.mem_singleton.mp z]
      exact h
  | go n =>
    rw [List.mem_singleton.mp ht]
    exact strOk_of "hang"
  | fin w =>
    rcases List.mem_cons.mp ht with z | z
    · rw [z]
      exact strOk_of "end"
    · rw [List.mem_singleton.mp z]
      exact h
theorem strs_all {K : PySem.W.Frag} {H : Hp} : ∀ ts : List Str, DpAll K H (ts.map V.str) (ts.map PyData.str)
  | [] => .nil
  | t :: ts => .cons (.str t) (strs_all ts)
theorem show_dp {K : PySem.W.Frag} {H : Hp} {q : Addr} {d : RowD} (h : H q = some (.tup ((showD d).map V.str))) : Dp K H (.ref q) (showP d) := .tup (.inl (.inl h)) (strs_all _)
theorem strs_dep : ∀ ts : List Str, PyData.depthAll (ts.map PyData.str) = 0
  | [] => by simp [PyData.depthAll]
  | t :: ts => by simp [PyData.depthAll, PyData.depth, strs_dep ts]
theorem show_lay {d : RowD} (h : PyData.strOk (rowStr d) = true) : (showP d).canLay0 = true := by
  show PyData.canLayAll0 _ = true
  exact strs_lay _ (showS_ok h)
theorem show_shaped {d : RowD} (h : PyData.strOk (rowStr d) = true) : SeqAt.shaped (showP d) = true := by
  show (PyData.canLay0 _ && decide (PyData.depth _ ≤ 64)) = true
  rw [Bool.and_eq_true]
  refine ⟨show_lay h, decide_eq_true ?_⟩
  unfold showP
  simp only [PyData.depth]
  rw [strs_dep]
  decide
theorem strs_eqv : ∀ ns ms : List Str, (PyData.eqvAll (ns.map PyData.str) (ms.map PyData.str) = true) ↔ ns = ms
  | [], [] => by simp [PyData.eqvAll]
  | [], _ :: _ => by simp [PyData.eqvAll]
  | _ :: _, [] => by simp [PyData.eqvAll]
  | n :: ns, m :: ms => by
    have ih := strs_eqv ns ms
    simp [PyData.eqvAll, PyData.eqv, ih]
theorem show_eqv (d1 d2 : RowD) : (PyData.eqv (showP d1) (showP d2) = true) ↔ showD d1 = showD d2 := by
  unfold showP
  rw [PyData.eqv]
  exact strs_eqv _ _
theorem rgV_nat (n : Nat) : rgV 0 (n : Int) = flN n fun i => i := by
  unfold rgV flN fl
  rw [show ((n : Int) - 0).toNat = n by omega]
  refine List.map_congr_left fun i _ => ?_
  rw [Int.zero_add]
theorem joinR_self (rep : Nat → Nat) (x : Nat) : Wk.joinR rep x x = rep := by
  funext i
  unfold Wk.joinR
  split
  · rename_i z
    exact z.symm
  · rfl
/-- ahead of a turn -/
structure PartJ (CW : Addr) (H0 : Hp) (wk m1 m2 ma oa la : Addr) (n : Nat) (rs1 rs2 : List RowD) (p0 : Prw) (met : List Prw) (org : List Org) (acc : List (List Nat)) (ls rank rep : Nat → Nat) (d m : Nat) (H : Hp) : Prop where
  w : WalkP CW H0 H wk m1 m2 ma oa met org
  el : H la = some (.lst (flN n ls))
  n0 : H0 la = none
  a1 : ma ≠ la
  a2 : oa ≠ la
  r : Wk.Rep n ls rank rep
  all : ∀ p ∈ met, InP rs1 rs2 p
  gen : Gen n rs1.length met rep
  bfs : ∀ cap, Wk.Bfs BASE (sucP rs1 rs2) (badP rs1 rs2) p0 cap met acc d m
  org : OrgOk org acc
  runs : Runs rs1 rs2 p0 met acc
theorem PartJ.go {CW : Addr} {H0 H H' : Hp} {wk m1 m2 ma oa la : Addr} {n : Nat} {rs1 rs2 : List RowD} {p0 : Prw} {met : List Prw} {org : List Org} {acc : List (List Nat)} {ls rank rep : Nat → Nat} {d m : Nat} (h : PartJ CW H0 wk m1 m2 ma oa la n rs1 rs2 p0 met org acc ls rank rep d m H) (s : Same H H') : PartJ CW H0 wk m1 m2 ma oa la n rs1 rs2 p0 met org acc ls rank rep d m H' :=
  ⟨h.w.go s, s _ _ h.el, h.n0, h.a1, h.a2, h.r, h.all, h.gen, h.bfs, h.org, h.runs⟩
theorem bad_row {rs1 rs2 : List RowD} {p : Prw} {d1 d2 : RowD} (e1 : rs1[p.1]? = some d1) (e2 : rs2[p.2]? = some d2) : badP rs1 rs2 p ↔ showD d1 ≠ showD d2 := by
  unfold badP
  rw [showAt_of e1, showAt_of e2]
def spPartF (CW CM : Addr) : Sp := fun vs H Q _ => ∃ (H0 : Hp) (wk m1 m2 ma oa : Addr) (o1 o2 : Ops) (rs1 rs2 : List RowD) (b1 b2 : Nat) (p0 : Prw), vs = [.ref wk] ∧ WalkP CW H0 H wk m1 m2 ma oa [p0] [(-1, -1)] ∧ MachV CM H0 m1 o1 rs1 b1 ∧ MachV CM H0 m2 o2 rs2 b2 ∧
  Fit rs1 ∧ Fit rs2 ∧ rs1.length ≤ 100000 ∧ rs2.length ≤ 100000 ∧ TxOk rs1 ∧ TxOk rs2 ∧ (∀ d ∈ rs1, (nextsD d).length ≤ 1000) ∧ Even rs1 rs2 ∧ InP rs1 rs2 p0 ∧
  (∀ (met : List Prw) (org : List Org) (H' : Hp), WalkP CW H0 H' wk m1 m2 ma oa met org → (∀ u, ¬ DiffP rs1 rs2 p0 u) → Q (.int (-1)) H') ∧
  (∀ (met : List Prw) (org : List Org) (acc : List (List Nat)) (d : Nat) (q : Prw) (v : List Nat) (H' : Hp), WalkP CW H0 H' wk m1 m2 ma oa met org → met.length ≤ 200001 → acc.length = met.length → OrgOk org acc → Runs rs1 rs2 p0 met acc → met[d]? = some q → acc[d]? = some v → InP rs1 rs2 q → badP rs1 rs2 q →
    DiffP rs1 rs2 p0 v → (∀ u, DiffP rs1 rs2 p0 u → Wk.num BASE v ≤ Wk.num BASE u) → Q (.int (d : Int)) H')
section
variable {P : Program} {w : World} {K : PySem.W.Frag} {mg : Str → Option Value} {base : Heap}
variable {fII fIW CW CM a_led a_both a_behind f_take : Addr}
theorem sc_parting_place : FnScope ["walk", "many", "leaders", "done", "first", "second", "behind", "answer", "pair"] ["walk"] (defScope s_parting_place) := ⟨rfl, rfl, rfl, by decide +kernel, rfl, by decide +kernel, by decide +kernel⟩
theorem ok_parting_place {f : Addr} {fd fd_led fd_both fd_behind fd_take : FuncData} (F : Fun K "parting_place" "parting_place" s_parting_place f fd) (T : TxtF K mg fII fIW) (TM : MachC K CM) (TW : WalkC K CW) (h_range : mg "range" = none) (h_enum : mg "enumerate" = none)
    (GD : FnOk P w K mg base CX0 2 a_led fd_led ["leaders", "one", "other"] spLed) (b_led : Binds K fd_led ["leaders", "one", "other"] []) (g_led : mg "are_led_together" = some (.ref a_led)) (k_led : PySem.W.keepIn K (.ref a_led) = true)
    (GB : FnOk P w K mg base CX0 2 a_both fd_both ["one", "other", "pair"] (spBoth CM)) (b_both : Binds K fd_both ["one", "other", "pair"] []) (g_both : mg "both_shown" = some (.ref a_both)) (k_both : PySem.W.keepIn K (.ref a_both) = true)
    (GH : FnOk P w K mg base CX0 2 a_behind fd_behind ["one", "other", "pair"] (spBehind CM)) (b_behind : Binds K fd_behind ["one", "other", "pair"] []) (g_behind : mg "pairs_behind" = some (.ref a_behind)) (k_behind : PySem.W.keepIn K (.ref a_behind) = true)
    (GT : FnOk P w K mg base CX0 1 f_take fd_take ["self", "pair", "number", "answer"] (spTake CW)) (b_take : Binds K fd_take ["self", "pair", "number", "answer"] []) (m_take : Meth K CW "take" f_take) : FnOk P w K mg base CX0 3 f fd ["walk"] (spPartF CW CM) := by
  refine F.ok sc_parting_place (fun vs H Q E h => ?_) (fun cdv A outer s H vs Q E hr h => ?_)
  · obtain ⟨H0, wk, m1, m2, ma, oa, o1, o2, rs1, rs2, b1, b2, p0, rfl, _⟩ := h
    rfl
  · obtain ⟨H0, wk, m1, m2, ma, oa, o1, o2, rs1, rs2, b1, b2, p0, rfl, W, M1, M2, fit1, fit2, big1, big2, tx1, tx2, few, ev, in0, kN, kS⟩ := h
    refine ⟨_, (pss_cons (ps_set (i := 1) sc_parting_place.nd rfl (Or.inl rfl) (pe_callB call_len_seq (by rfl) T.b_len PySem.boot_len (pa_cons (pe_fld (pe_fld (pv 0) rfl) rfl) pa_nil)))
      (pss_cons (ps_set (i := 2) sc_parting_place.nd rfl (Or.inl rfl) (pe_listRg rfl (by rfl) T.b_list (prg_1 (by rfl) h_range (pe_op op_add (pv 1) (pe_callB call_len_seq (by rfl) T.b_len PySem.boot_len (pa_cons (pe_fld (pe_fld (pv 0) rfl) rfl) pa_nil))))))
      (pss_cons (ps_expr (pe_call GD (hr.mono (by decide)) (by rfl) g_led k_led b_led .nil pass0 (pa_cons (pv 2) (pa_cons (pe_ix ix_tup (pe_ix ix_list (pe_fld (pv 0) rfl) pe_int (fun _ _ => rfl)) pe_int (fun _ _ => rfl)) (pa_cons (pe_op op_add (pv 1) (pe_ix ix_tup (pe_ix ix_list (pe_fld (pv 0) rfl) pe_int (fun _ _ => rfl)) pe_int (fun _ _ => rfl))) pa_nil)))))
      (pss_cons (ps_set (i := 3) sc_parting_place.nd rfl (Or.inl rfl) pe_int)
      (pss_cons (ps_while PassesOwn.never (pt_cmpR op_lt (pv 3) (pe_callB call_len_seq (by rfl) T.b_len PySem.boot_len (pa_cons (pe_fld (pv 0) rfl) pa_nil)) (nomark _)) (pss_cons (ps_asg (pe_call GB (hr.mono (by decide)) (by rfl) g_both k_both b_both .nil pass0 (pa_cons (pe_fld (pv 0) rfl) (pa_cons (pe_fld (pv 0) rfl) (pa_cons (pe_ix ix_list (pe_fld (pv 0) rfl) (pv 3) (fun _ _ => rfl)) pa_nil)))) (pg_tup rfl (pgs_cons (pg_name (i := 4) sc_parting_place.nd rfl (Or.inl rfl)) (pgs_cons (pg_name (i := 5) sc_parting_place.nd rfl (Or.inl rfl)) pgs_nil))))
      (pss_cons (ps_if (pt_cmpR (op_neD hr.units) (pv 4) (pv 5) (nomark _)) (pss_one (ps_ret (pv 3))) pss_nil)
      (pss_cons (ps_set (i := 6) sc_parting_place.nd rfl (Or.inl rfl) (pe_call GH (hr.mono (by decide)) (by rfl) g_behind k_behind b_behind .nil pass0 (pa_cons (pe_fld (pv 0) rfl) (pa_cons (pe_fld (pv 0) rfl) (pa_cons (pe_ix ix_list (pe_fld (pv 0) rfl) (pv 3) (fun _ _ => rfl)) pa_nil)))))
      (pss_cons (ps_for PassesOwn.never rfl (pi_enum (by rfl) h_enum (pa_cons (pv 6) pa_nil)) (pg_tup rfl (pgs_cons (pg_name (i := 7) sc_parting_place.nd rfl (Or.inl rfl)) (pgs_cons (pg_name (i := 8) sc_parting_place.nd rfl (Or.inl rfl)) pgs_nil))) (pss_one (ps_if (pt_not (pt_val (pe_call GD (hr.mono (by decide)) (by rfl) g_led k_led b_led .nil pass0 (pa_cons (pv 2) (pa_cons (pe_ix ix_tup (pv 8) pe_int (fun _ _ => rfl)) (pa_cons (pe_op op_add (pv 1) (pe_ix ix_tup (pv 8) pe_int (fun _ _ => rfl))) pa_nil)))))) (pss_one (ps_expr (pe_meth (pv 0) TW.cl m_take GT (hr.mono (by decide)) b_take .nil pass0 (pa_cons (pv 8) (pa_cons (pv 3) (pa_cons (pv 7) pa_nil)))))) pss_nil)))
      (pss_one (ps_aug (i := 3) sc_parting_place.nd rfl (Or.inl rfl) pe_int ip_add)))))))
      (pss_one (ps_ret (pe_un un_neg pe_int)))))))), ?_⟩
    obtain ⟨⟨dx, fs, hw, wf⟩, ⟨vs0, em, pm⟩, _⟩ := id W
    have M1' := M1
    have M2' := M2
    obtain ⟨dm1, fm1, t1, l1, sa1, aa1, ea1, o1', xs1, as1, es1, p1⟩ := M1'
    obtain ⟨dm2, fm2, t2, l2, sa2, aa2, ea2, o2', xs2, as2, es2, p2⟩ := M2'
    have lt1 : p0.1 < rs1.length := in0.1
    have lt2 : p0.2 < rs2.length := in0.2
    refine ⟨_, rfl, wk, CW, dx, fs, _, rfl, hw, TW.cl, TW.n_one, wf.one, m1, CM, dm1, fm1, _, rfl, W.same _ _ p1.hm, TM.cl, TM.n_lines, p1.fs.lines, l1, _, rfl, .inl (SqL.of (W.same _ _ p1.hl)), ?_⟩
    refine ⟨_, rfl, _, rfl, wk, CW, dx, fs, _, rfl, hw, TW.cl, TW.n_other, wf.other, m2, CM, dm2, fm2, _, rfl, W.same _ _ p2.hm, TM.cl, TM.n_lines, p2.fs.lines, l2, _, rfl, .inl (SqL.of (W.same _ _ p2.hl)), _, _, rfl, rfl, _, rfl, ?_⟩
    rw [p1.rows.1, p2.rows.1]
    have en : (rs1.length : Int) + (rs2.length : Int) = ((rs1.length + rs2.length : Nat) : Int) := by omega
    rw [en]
    refine ⟨RgOk.of_le (Int.le_refl _) (by omega) (by omega) (by omega), fun la nla => ?_⟩
    rw [rgV_nat]
    have en1 : rs1.length + rs2.length ≤ 200000 := by omega
    generalize hn : rs1.length + rs2.length = n at en1
    have sl := sameNew nla (.lst (flN n fun i => i))
    have W1 := W.go sl
    have el1 : upd H la (.lst (flN n fun i => i)) la = some (.lst (flN n fun i => i)) := upd_same
    generalize upd H la (.lst (flN n fun i => i)) = H1 at sl W1 el1 ⊢
    have nma : ma ≠ la := ne_of_none em nla
    have noa : oa ≠ la := by
      obtain ⟨_, eo, _⟩ := W.eo
      exact ne_of_none eo nla
    have n0 : H0 la = none := none_of W.same nla
    obtain ⟨q0, v0, pq0⟩ := pm.2 0 p0 rfl
    have a00 : atI vs0 0 = some (.ref q0) := atI_nat (j := 0) v0
    have eadd : ∀ j : Nat, (rs1.length : Int) + (j : Int) = ((rs1.length + j : Nat) : Int) := fun j => by omega
    have evl : ∀ (a j : Nat), ([.ref la, .int (a : Int), .int ((rs1.length : Int) + (j : Int))] : List V) = [.ref la, .int (a : Int), .int ((rs1.length + j : Nat) : Int)] := fun a j => by rw [eadd]
    refine ⟨_, rfl, _, rfl, wk, CW, dx, fs, _, rfl, sl _ _ hw, TW.cl, TW.n_met, wf.met, ma, _, _, _, rfl, rfl, SqL.of (sl _ _ em), a00, _, _, _, _, rfl, rfl, .inl (.inl (sl _ _ pq0)), at0', ?_⟩
    refine ⟨_, rfl, _, rfl, wk, CW, dx, fs, _, rfl, sl _ _ hw, TW.cl, TW.n_met, wf.met, ma, _, _, _, rfl, rfl, SqL.of (sl _ _ em), a00, _, _, _, _, rfl, rfl, .inl (.inl (sl _ _ pq0)), at1', _, _, rfl, rfl, ?_⟩
    refine ⟨la, n, p0.1, rs1.length + p0.2, _, _, _, evl _ _, el1, Wk.Rep.start n, by omega, by omega, fun ls2 rank2 H2 r2 bt2 e2 => ?_⟩
    have W2 := W1.but bt2 el1 n0 nma noa
    have sum2 : Wk.groups n (Wk.joinR (fun i => i) p0.1 (rs1.length + p0.2)) + [p0].length ≤ n + 1 := by
      have := Wk.groups_le n (Wk.joinR (fun i => i) p0.1 (rs1.length + p0.2))
      show _ + 1 ≤ n + 1
      omega
    have gen2 : Gen n rs1.length [p0] (Wk.joinR (fun i => i) p0.1 (rs1.length + p0.2)) := (Gen.start n rs1.length).join (p := p0) (by omega) (by omega)
    have runs2 : Runs rs1 rs2 p0 [p0] [[]] := fun i w e => by
      match i with
      | 0 =>
        have := Option.some.inj e
        subst this
        rfl
      | i + 1 => simp at e
    have org2 : OrgOk [(-1, -1)] [[]] := ⟨rfl, rfl, rfl, fun i o hi e => by
      match i with
      | 0 => omega
      | i + 1 => simp at e⟩
    refine ⟨fun m σ H' => ∃ (d : Nat) (met : List Prw) (org : List Org) (acc : List (List Nat)) (ls rank rep : Nat → Nat) (v4 v5 v6 v7 v8 : Option V), m = Wk.groups n rep + met.length - d ∧ σ = [some (.ref wk), some (.int (rs1.length : Int)), some (.ref la), some (.int (d : Int)), v4, v5, v6, v7, v8] ∧ PartJ CW H0 wk m1 m2 ma oa la n rs1 rs2 p0 met org acc ls rank rep d 0 H' ∧ d ≤ met.length ∧ Wk.groups n rep + met.length ≤ n + 1, ⟨_, 0, [p0], [(-1, -1)], [[]], ls2, rank2, _, none, none, none, none, none, rfl, rfl, ⟨W2, e2, n0, nma, noa, r2, fun p hp => by rw [List.mem_singleton.mp hp]; exact in0, gen2, fun cap => Wk.Bfs.start base2, org2, runs2⟩, Nat.zero_le _, sum2⟩, ?_⟩
    rintro m σ H' ⟨d, met, org, acc, ls, rank, rep, v4, v5, v6, v7, v8, rfl, rfl, I, hd, sum⟩
    obtain ⟨⟨dx', fs', hw', wf'⟩, ⟨vs', em', pm'⟩, _⟩ := id I.w
    have lacc : acc.length = met.length := (I.bfs 0).len
    refine ⟨_, rfl, _, rfl, wk, CW, dx', fs', _, rfl, hw', TW.cl, TW.n_met, wf'.met, ma, _, rfl, .inl (SqL.of em'), _, _, rfl, rfl, _, rfl, ?_⟩
    rw [pm'.1]
    refine ite2 (fun h1 => ?_) (fun h1 => ?_)
    · have hlt : d < met.length := by
        have := of_decide_eq_true h1
        omega
      obtain ⟨p, ep⟩ : ∃ p, met[d]? = some p := ⟨_, List.getElem?_eq_getElem hlt⟩
      obtain ⟨wd, ewd⟩ : ∃ wd, acc[d]? = some wd := ⟨_, List.getElem?_eq_getElem (by omega)⟩
      have inp := I.all p (List.mem_of_getElem? ep)
      obtain ⟨d1, d2, g1, g2⟩ := inp.rows
      obtain ⟨qd, vd, pqd⟩ := pm'.2 d p ep
      have s0 := I.w.same
      refine ⟨fun σ' H'' => ∃ (met' : List Prw) (org' : List Org) (acc' : List (List Nat)) (ls' rank' rep' : Nat → Nat) (v4 v5 v6 v7 v8 : Option V), σ' = [some (.ref wk), some (.int (rs1.length : Int)), some (.ref la), some (.int ((d + 1 : Nat) : Int)), v4, v5, v6, v7, v8] ∧ PartJ CW H0 wk m1 m2 ma oa la n rs1 rs2 p0 met' org' acc' ls' rank' rep' (d + 1) 0 H'' ∧ met.length ≤ met'.length ∧ Wk.groups n rep' + met'.length = Wk.groups n rep + met.length, fun σ' H'' ⟨met', org', acc', ls', rank', rep', v4, v5, v6, v7, v8, z1, z2, z3, z4⟩ => ⟨Wk.groups n rep + met.length - (d + 1), by omega, d + 1, met', org', acc', ls', rank', rep', v4, v5, v6, v7, v8, by rw [z4], z1, z2, by omega, by omega⟩, ?_⟩
      refine ⟨_, rfl, wk, CW, dx', fs', _, rfl, hw', TW.cl, TW.n_one, wf'.one, _, rfl, wk, CW, dx', fs', _, rfl, hw', TW.cl, TW.n_other, wf'.other, _, rfl, wk, CW, dx', fs', _, rfl, hw', TW.cl, TW.n_met, wf'.met, _, rfl, ma, _, _, _, rfl, rfl, SqL.of em', atI_nat vd, ?_⟩
      refine ⟨m1, m2, qd, o1, o2, rs1, rs2, b1, b2, p, d1, d2, rfl, M1.same s0, M2.same s0, pqd, g1, g2, fun u s1 s2 H3 s3 eu es1 es2 => ?_⟩
      refine ⟨u, _, rfl, .inl (.inl eu), rfl, _, _, rfl, _, _, rfl, rfl, ?_⟩
      have ok1 := tx1 _ (List.mem_of_getElem? g1)
      have ok2 := tx2 _ (List.mem_of_getElem? g2)
      refine ⟨_, rfl, _, rfl, showP d1, showP d2, show_dp es1, show_dp es2, show_shaped ok1, show_shaped ok2, _, rfl, ?_⟩
      have I3 := I.go s3
      by_cases same : showD d1 = showD d2
      · rw [(show_eqv d1 d2).mpr same]
        refine iteF ?_
        have nbad : ¬ badP rs1 rs2 p := fun z => (bad_row g1 g2).mp z same
        refine ⟨_, rfl, wk, CW, dx', fs', _, rfl, s3 _ _ hw', TW.cl, TW.n_one, wf'.one, _, rfl, wk, CW, dx', fs', _, rfl, s3 _ _ hw', TW.cl, TW.n_other, wf'.other, _, rfl, wk, CW, dx', fs', _, rfl, s3 _ _ hw', TW.cl, TW.n_met, wf'.met, _, rfl, ma, _, _, _, rfl, rfl, SqL.of (s3 _ _ em'), atI_nat vd, ?_⟩
        refine ⟨m1, m2, qd, o1, o2, rs1, rs2, b1, b2, p, d1, d2, rfl, M1.same (s0.trans s3), M2.same (s0.trans s3), s3 _ _ pqd, g1, g2, fit1, fit2, few _ (List.mem_of_getElem? g1), fun D us H4 nD s4 eD pD => ?_⟩
        have I4 := I3.go s4
        have nDl : D ≠ la := fun z => by
          rw [z, I3.el] at nD
          cases nD
        have nDm : D ≠ ma := fun z => by
          rw [z, s3 _ _ em'] at nD
          cases nD
        have nDo : D ≠ oa := fun z => by
          obtain ⟨_, eo, _⟩ := I3.w.eo
          rw [z, eo] at nD
          cases nD
        refine ⟨_, rfl, D, us, rfl, SqL.of eD, for_enumL (K := K) (a := D) (xs := us) (fun j σ H5 => ∃ (met' : List Prw) (org' : List Org) (acc' : List (List Nat)) (ls' rank' rep' : Nat → Nat) (v7 v8 : Option V), σ = [some (.ref wk), some (.int (rs1.length : Int)), some (.ref la), some (.int (d : Int)), some (.ref s1), some (.ref s2), some (.ref D), v7, v8] ∧ PartJ CW H0 wk m1 m2 ma oa la n rs1 rs2 p0 met' org' acc' ls' rank' rep' d j H5 ∧ H5 D = some (.lst us) ∧ Prs H5 us (behind rs1 rs2 d1 d2) ∧ met.length ≤ met'.length ∧ Wk.groups n rep' + met'.length = Wk.groups n rep + met.length ∧ met'[d]? = some p ∧ acc'[d]? = some wd) ⟨met, org, acc, ls, rank, rep, _, _, rfl, I4, eD, pD, Nat.le_refl _, rfl, ep, ewd⟩ (fun j σ H5 _ z => by obtain ⟨_, _, _, _, _, _, _, _, _, _, z, _⟩ := z; exact SqL.of z) ?_ ?_⟩
        · rintro j x σ Ha T' Hb hxj ⟨met', org', acc', ls', rank', rep', w7, w8, rfl, Ia, eDa, pDa, ge, sm, epd, ewd'⟩ nT sT eT
          have hj : j < (behind rs1 rs2 d1 d2).length := by
            have := (List.getElem?_eq_some_iff.mp hxj).1
            rw [← pD.1]
            exact this
          obtain ⟨pj, epj⟩ : ∃ pj, (behind rs1 rs2 d1 d2)[j]? = some pj := ⟨_, List.getElem?_eq_getElem hj⟩
          obtain ⟨qj, vj, pqj⟩ := pDa.2 j pj epj
          rw [hxj] at vj
          cases vj
          have sc : sucP rs1 rs2 p j = some pj := by
            unfold sucP
            rw [behindAt_of g1 g2]
            exact epj
          have inj := sucP_in fit1 fit2 sc
          have lj1 : pj.1 < rs1.length := inj.1
          have lj2 : pj.2 < rs2.length := inj.2
          have jB : j < BASE := sucP_lt few p j pj sc
          have Ib := Ia.go sT
          refine ⟨T', _, rfl, .inl (.inl eT), rfl, _, _, rfl, _, _, rfl, rfl, ?_⟩
          refine ⟨_, rfl, _, rfl, _, _, _, _, rfl, rfl, .inl (.inl (sT _ _ pqj)), at0', ?_⟩
          refine ⟨_, rfl, _, rfl, _, _, _, _, rfl, rfl, .inl (.inl (sT _ _ pqj)), at1', _, _, rfl, rfl, ?_⟩
          refine ⟨la, n, pj.1, rs1.length + pj.2, _, _, _, evl _ _, Ib.el, Ib.r, by omega, by omega, fun ls6 rank6 H6 r6 bt6 e6 => ⟨_, rfl, ?_⟩⟩
          have W6 := Ib.w.but bt6 Ib.el Ib.n0 Ib.a1 Ib.a2
          have eD6 : H6 D = some (.lst us) := bt6 _ _ nDl (sT _ _ eDa)
          have pD6 : Prs H6 us (behind rs1 rs2 d1 d2) := ⟨pDa.1, fun kk pp ee => by
            obtain ⟨qq, k1, k2⟩ := pDa.2 kk pp ee
            have k3 := sT _ _ k2
            exact ⟨qq, k1, bt6 _ _ (fun z => by rw [z, Ib.el] at k3; cases k3) k3⟩⟩
          have pq6 := (pD6.2 j pj epj)
          rw [hxj] at pq6
          obtain ⟨_, c6, pq6⟩ := pq6
          cases c6
          have len' : acc'.length = met'.length := (Ia.bfs 0).len
          by_cases hab : rep' pj.1 = rep' (rs1.length + pj.2)
          · rw [decide_eq_true hab]
            refine iteF ?_
            have r6' := r6
            rw [hab, joinR_self] at r6'
            refine ⟨met', org', acc', ls6, rank6, rep', _, _, rfl, ⟨W6, e6, Ib.n0, Ib.a1, Ib.a2, r6', Ib.all, Ib.gen, fun cap => (Ib.bfs cap).skip epd ewd' fun c ec _ s ds => ?_, Ib.org, Ib.runs⟩, eD6, pD6, ge, sm, epd, ewd'⟩
            rw [sc] at ec
            have ec := Option.some.inj ec
            subst ec
            exact Ib.gen.cover fit1 fit2 ev Ib.all inj (by omega) (by omega) hab ds
          · rw [decide_eq_false hab]
            refine iteT ?_
            have gj := Wk.groups_join Ib.r (a := rep' pj.1) (b := rep' (rs1.length + pj.2)) (Ib.r.rlt _ (by omega)) (Ib.r.root' (by omega)).2 (Ib.r.root' (by omega)).2 hab
            obtain ⟨dx6, fs6, hw6, wf6⟩ := W6.hw
            have lorg : org'.length = met'.length := by rw [Ib.org.len, len']
            refine ⟨_, rfl, wk, dx6, fs6, rfl, hw6, wf6.take, _, rfl, _, rfl, _, rfl, H0, wk, m1, m2, ma, oa, qj, (d : Int), ((j : Nat) : Int), pj, met', org', rfl, W6, pq6, by omega, by omega, fun H7 W7 off => ?_⟩
            have el7 := off la _ (Ne.symm Ib.a1) (Ne.symm Ib.a2) e6
            have eD7 := off D _ nDm nDo eD6
            have hd' : d < met'.length := (List.getElem?_eq_some_iff.mp epd).1
            refine ⟨met' ++ [pj], org' ++ [((d : Int), (j : Int))], acc' ++ [wd ++ [j]], ls6, rank6, _, _, _, rfl, ⟨W7, el7, Ib.n0, Ib.a1, Ib.a2, r6, fun y hy => (List.mem_append.mp hy).elim (Ib.all y) fun z => by rw [List.mem_singleton.mp z]; exact inj, Ib.gen.join (by omega) (by omega), fun cap => (Ib.bfs cap).push epd ewd' nbad sc jB, Ib.org.push (by omega) ewd', Ib.runs.push len' epd ewd' sc⟩, eD7, ⟨pD6.1, fun kk pp ee => ?_⟩, by rw [List.length_append]; omega, by rw [List.length_append]; show _ + (met'.length + 1) = _; omega, by rw [List.getElem?_append_left hd']; exact epd, by rw [List.getElem?_append_left (by omega)]; exact ewd'⟩
            obtain ⟨qq, k1, k2⟩ := pD6.2 kk pp ee
            refine ⟨qq, k1, off _ _ (fun z => ?_) (fun z => ?_) k2⟩
            · obtain ⟨_, em6, _⟩ := W6.em
              unfold PairT at k2
              rw [z, em6] at k2
              cases k2
            · obtain ⟨_, eo6, _⟩ := W6.eo
              unfold PairT at k2
              rw [z, eo6] at k2
              cases k2
        · rintro σ H5 ⟨met', org', acc', ls', rank', rep', w7, w8, rfl, I5, _, pD5, ge, sm, epd, ewd'⟩
          have le : us.length ≤ BASE := by
            rw [pD5.1]
            unfold behind
            rw [List.length_zipWith]
            have := few _ (List.mem_of_getElem? g1)
            show _ ≤ 1001
            omega
          refine ⟨_, rfl, _, _, rfl, rfl, met', org', acc', ls', rank', rep', _, _, _, _, _, rfl, ⟨I5.w, I5.el, I5.n0, I5.a1, I5.a2, I5.r, I5.all, I5.gen, fun cap => (I5.bfs cap).next base2 epd ewd' nbad le fun k c hk ec => ?_, I5.org, I5.runs⟩, ge, sm⟩
          unfold sucP at ec
          rw [behindAt_of g1 g2] at ec
          have := (List.getElem?_eq_some_iff.mp ec).1
          rw [← pD5.1] at this
          omega
      · have ne : PyData.eqv (showP d1) (showP d2) = false := Bool.eq_false_iff.mpr fun z => same ((show_eqv d1 d2).mp z)
        rw [ne]
        refine iteT ?_
        have hb : badP rs1 rs2 p := (bad_row g1 g2).mpr same
        obtain ⟨dv, lv⟩ := (I.bfs wd.length).least base2 (sucP_lt few) ep ewd hb (Nat.le_refl _)
        exact ⟨_, rfl, kS met org acc d p wd H3 I3.w (by omega) lacc I.org I.runs ep ewd inp hb dv lv⟩
    · have hge : d = met.length := by
        by_cases z : d < met.length
        · exact absurd (decide_eq_true (by omega)) h1
        · omega
      subst hge
      refine ⟨_, rfl, kN met org H' I.w fun u du => ?_⟩
      have := (I.bfs u.length).none base2 (sucP_lt few) u du
      omega
end
end Mine

set_option maxRecDepth 100000
set_option maxHeartbeats 4000000
namespace Mine
open PySem L2
abbrev s_told_of : Stmt := top 44
abbrev s_joined : Stmt := top 26
abbrev s_walk_of : Stmt := top 60
abbrev s_parted : Stmt := top 59
theorem opLook_mem {o : Ops} {x : Str} {m : Int} (h : opLook o x = some m) : (x, m) ∈ o := by
  unfold opLook at h
  cases e : o.find? fun p => decide (p.1 = x) with
  | none => rw [e] at h; cases h
  | some p =>
    rw [e] at h
    have h2 := List.find?_some e
    have h3 : p.1 = x := of_decide_eq_true h2
    have h4 : p.2 = m := Option.some.inj h
    rw [← h3, ← h4]
    exact List.mem_of_find?_eq_some e
theorem opLook_none {o : Ops} {x : Str} (h : opLook o x = none) : x ∉ o.map (·.1) := fun z => by
  obtain ⟨p, hp, e⟩ := List.mem_map.mp z
  unfold opLook at h
  have := List.find?_eq_none.mp (Option.map_eq_none_iff.mp h) p hp
  exact this (decide_eq_true e)

/-- a history's pairs stand there -/
def HPs (H : Hp) (vs : List V) (ws : List (Str × Nat)) : Prop := vs.length = ws.length ∧ ∀ (k : Nat) (p : Str × Nat), ws[k]? = some p → ∃ q, vs[k]? = some (.ref q) ∧ H q = some (.tup [.str p.1, .int (p.2 : Int)])
theorem HPs.same {H H' : Hp} {vs : List V} {ws : List (Str × Nat)} (s : Same H H') (h : HPs H vs ws) : HPs H' vs ws := ⟨h.1, fun k p e => by
  obtain ⟨q, h1, h2⟩ := h.2 k p e
  exact ⟨q, h1, s _ _ h2⟩⟩
theorem HPs.nil (H : Hp) : HPs H [] [] := ⟨rfl, fun k p e => by simp at e⟩
theorem HPs.snoc {H : Hp} {vs : List V} {ws : List (Str × Nat)} {q : Addr} {p : Str × Nat} (h : HPs H vs ws) (e : H q = some (.tup [.str p.1, .int (p.2 : Int)])) : HPs H (vs ++ [.ref q]) (ws ++ [p]) := by
  refine ⟨by rw [List.length_append, List.length_append, h.1]; rfl, fun k r er => ?_⟩
  by_cases z : k < ws.length
  · rw [List.getElem?_append_left z] at er
    obtain ⟨q', h1, h2⟩ := h.2 k r er
    exact ⟨q', by rw [List.getElem?_append_left (by rw [h.1]; exact z)]; exact h1, h2⟩
  · have hk : k = ws.length := by
      have := (List.getElem?_eq_some_iff.mp er).1
      rw [List.length_append] at this
      simp at this
      omega
    subst hk
    rw [List.getElem?_append_right (Nat.le_refl _), Nat.sub_self] at er
    have er2 : p = r := Option.some.inj er
    subst er2
    exact ⟨q, by rw [List.getElem?_append_right (by rw [h.1]; exact Nat.le_refl _), h.1, Nat.sub_self]; rfl, e⟩
theorem HPs.other {H : Hp} {D : Addr} {vs ys : List V} {ws : List (Str × Nat)} {o : HO} (e : H D = some (.lst ys)) (h : HPs H vs ws) : HPs (upd H D o) vs ws := ⟨h.1, fun k p ek => by
  obtain ⟨q, h1, h2⟩ := h.2 k p ek
  exact ⟨q, h1, by rw [upd_ne (fun z => by rw [z, e] at h2; cases h2)]; exact h2⟩⟩
theorem HPs.rev {H : Hp} {vs : List V} {ws : List (Str × Nat)} (h : HPs H vs ws) : HPs H vs.reverse ws.reverse := by
  refine ⟨by rw [List.length_reverse, List.length_reverse, h.1], fun k p e => ?_⟩
  have hk : k < ws.length := by
    have := (List.getElem?_eq_some_iff.mp e).1
    rw [List.length_reverse] at this
    exact this
  rw [List.getElem?_reverse hk] at e
  rw [List.getElem?_reverse (by rw [h.1]; exact hk), h.1]
  exact h.2 _ _ e
def HistT (H : Hp) (h : Addr) (ws : List (Str × Nat)) : Prop := ∃ vs, H h = some (.tup vs) ∧ HPs H vs ws
theorem HistT.same {H H' : Hp} {h : Addr} {ws : List (Str × Nat)} (s : Same H H') (t : HistT H h ws) : HistT H' h ws := by
  obtain ⟨vs, h1, h2⟩ := t
  exact ⟨vs, s _ _ h1, h2.same s⟩
/-- what parts two bodies: the history, what both show behind it -/
def ToldT (H : Hp) (t : Addr) (ws : List (Str × Nat)) (u v : List Str) : Prop := ∃ h a b, H t = some (.tup [.ref h, .ref a, .ref b]) ∧ HistT H h ws ∧ H a = some (.tup (u.map V.str)) ∧ H b = some (.tup (v.map V.str))
theorem ToldT.same {H H' : Hp} {t : Addr} {ws : List (Str × Nat)} {u v : List Str} (s : Same H H') (h : ToldT H t ws u v) : ToldT H' t ws u v := by
  obtain ⟨x, a, b, h1, h2, h3, h4⟩ := h
  exact ⟨x, a, b, s _ _ h1, h2.same s, s _ _ h3, s _ _ h4⟩
theorem ne_of_some2 {H : Hp} {a b : Addr} {xs : List V} {ys : List V} (e : H a = some (.lst xs)) (h : H b = some (.tup ys)) : b ≠ a := fun z => by
  rw [z, e] at h
  cases h
theorem three_ok (v u t : V) : [v, u, t].length ≤ sizeLine := by rw [sizeLine_eq]; exact Nat.le_trans (show 3 ≤ 3 from Nat.le_refl 3) (by decide)
/-- the operations of several dicts go together -/
def spJoined : Sp := fun vs H Q _ => ∃ (a : Addr) (ts : List (Addr × Ops)) (g : Str → Option Int), vs = [.ref a] ∧ H a = some (.lst (ts.map fun t => V.ref t.1)) ∧ (∀ t ∈ ts, H t.1 = some (.dK (opsK t.2)) ∧ ∀ p ∈ t.2, g p.1 = some p.2) ∧
  (ts.map fun t => t.2.length).sum < 64 ∧ ∀ (q : Addr) (H' : Hp), Same H H' → Q (.ref q) H'
/-- what was gathered so far -/
structure JoinI (ka ua : Addr) (g : Str → Option Int) (n : Nat) (acc : Ops) (Hx : Hp) : Prop where
  ek : Hx ka = some (.dK (opsK acc))
  eu : Hx ua = some (.lst [])
  nd : (acc.map (·.1)).Nodup
  ok : ∀ p ∈ acc, g p.1 = some p.2
  few : acc.length ≤ n

def spToldF (CW CM : Addr) : Sp := fun vs H Q _ => (∃ (v : V) (n : Int), vs = [v, .int n] ∧ n < 0 ∧ Q .non H) ∨
  (∃ (H0 : Hp) (wk m1 m2 ma oa : Addr) (o1 o2 : Ops) (rs1 rs2 : List RowD) (b1 b2 : Nat) (p0 : Prw) (met : List Prw) (org : List Org) (acc : List (List Nat)) (d : Nat) (q : Prw) (v : List Nat), vs = [.ref wk, .int (d : Int)] ∧ WalkP CW H0 H wk m1 m2 ma oa met org ∧ MachV CM H0 m1 o1 rs1 b1 ∧ MachV CM H0 m2 o2 rs2 b2 ∧
    met.length ≤ 200001 ∧ acc.length = met.length ∧ OrgOk org acc ∧ Runs rs1 rs2 p0 met acc ∧ met[d]? = some q ∧ acc[d]? = some v ∧ InP rs1 rs2 q ∧
    ∀ (t : Addr) (H' : Hp), Same H H' → ToldT H' t (histP rs1 rs2 p0 v) (showAt rs1 q.1) (showAt rs2 q.2) → Q (.ref t) H')
section
variable {P : Program} {w : World} {K : PySem.W.Frag} {mg : Str → Option Value} {base : Heap}
variable {fII fIW CB CM CW a_in_order a_joined a_begin a_part a_both a_walk a_told f_walk : Addr}
theorem sc_told_of : FnScope ["walk", "number", "first", "second", "history", "answer"] ["walk", "number"] (defScope s_told_of) := ⟨rfl, rfl, rfl, by decide +kernel, rfl, by decide +kernel, by decide +kernel⟩
theorem ok_told_of {f : Addr} {fd fd_both : FuncData} (F : Fun K "told_of" "told_of" s_told_of f fd) (T : TxtF K mg fII fIW) (TM : MachC K CM) (TW : WalkC K CW)
    (GB : FnOk P w K mg base CX0 2 a_both fd_both ["one", "other", "pair"] (spBoth CM)) (b_both : Binds K fd_both ["one", "other", "pair"] []) (g_both : mg "both_shown" = some (.ref a_both)) (k_both : PySem.W.keepIn K (.ref a_both) = true) : FnOk P w K mg base CX0 3 f fd ["walk", "number"] (spToldF CW CM) := by
  refine F.ok sc_told_of (fun vs H Q E h => ?_) (fun cdv A outer s H vs Q E hr h => ?_)
  · rcases h with ⟨v, n, rfl, _⟩ | ⟨H0, wk, m1, m2, ma, oa, o1, o2, rs1, rs2, b1, b2, p0, met, org, acc, d, q, v, rfl, _⟩ <;> rfl
  · refine ⟨_, (pss_cons (ps_if (pt_cmpR op_lt (pv 1) pe_int (nomark _)) (pss_one (ps_ret pe_non)) pss_nil)
      (pss_cons (ps_asg (pe_call GB (hr.mono (by decide)) (by rfl) g_both k_both b_both .nil pass0 (pa_cons (pe_fld (pv 0) rfl) (pa_cons (pe_fld (pv 0) rfl) (pa_cons (pe_ix ix_list (pe_fld (pv 0) rfl) (pv 1) (fun _ _ => rfl)) pa_nil)))) (pg_tup rfl (pgs_cons (pg_name (i := 2) sc_told_of.nd rfl (Or.inl rfl)) (pgs_cons (pg_name (i := 3) sc_told_of.nd rfl (Or.inl rfl)) pgs_nil))))
      (pss_cons (ps_set (i := 4) sc_told_of.nd rfl (Or.inl rfl) (pe_lstG pa_nil))
      (pss_cons (ps_while PassesOwn.never (pt_cmpR op_ge (pe_ix ix_tup (pe_ix ix_list (pe_fld (pv 0) rfl) (pv 1) (fun _ _ => rfl)) pe_int (fun _ _ => rfl)) pe_int (nomark _)) (pss_cons (ps_asg (pe_ix ix_list (pe_fld (pv 0) rfl) (pv 1) (fun _ _ => rfl)) (pg_tup rfl (pgs_cons (pg_name (i := 1) sc_told_of.nd rfl (Or.inl rfl)) (pgs_cons (pg_name (i := 5) sc_told_of.nd rfl (Or.inl rfl)) pgs_nil))))
      (pss_one (ps_expr (pe_bm PySem.F.plainAttrs_list PySem.F.slot_list_append PySem.F.type_list_append mt_append (pv 4) (pa_cons (pe_tupG (pa_cons (pe_ix ix_tup (pe_ix ix_list (pe_fld (pe_fld (pv 0) rfl) rfl) (pe_ix ix_tup (pe_ix ix_list (pe_fld (pv 0) rfl) (pv 1) (fun _ _ => rfl)) pe_int (fun _ _ => rfl)) (fun _ _ => rfl)) pe_int (fun _ _ => rfl)) (pa_cons (pv 5) pa_nil))) pa_nil))))))
      (pss_one (ps_ret (pe_tupG (pa_cons (pe_callTy call_tupleG (by rfl) T.b_tuple (by decide +kernel) (pa_cons (pe_revL (pv 4)) pa_nil)) (pa_cons (pv 2) (pa_cons (pv 3) pa_nil)))))))))), ?_⟩
    rcases h with ⟨v, n, rfl, hn, k⟩ | ⟨H0, wk, m1, m2, ma, oa, o1, o2, rs1, rs2, b1, b2, p0, met, org, acc, d, q, v, rfl, W, M1, M2, few, lam, OO, RR, ed, ev, inq, k⟩
    · refine ⟨_, rfl, _, _, rfl, rfl, _, rfl, ?_⟩
      rw [decide_eq_true hn]
      exact iteT k
    · refine ⟨_, rfl, _, _, rfl, rfl, _, rfl, ?_⟩
      rw [decide_eq_false (by omega)]
      refine iteF ?_
      obtain ⟨⟨dx, fs, hw, wf⟩, ⟨vs0, em, pm⟩, ⟨us0, eo, lo⟩, nmo, s0, nm, no⟩ := id W
      obtain ⟨d1, d2, g1, g2⟩ := inq.rows
      obtain ⟨qd, vd, pqd⟩ := pm.2 d q ed
      have M1' := M1
      obtain ⟨dm1, fm1, t1, l1, sa1, aa1, ea1, o1', xs1, as1, es1, p1⟩ := M1'
      refine ⟨_, rfl, wk, CW, dx, fs, _, rfl, hw, TW.cl, TW.n_one, wf.one, _, rfl, wk, CW, dx, fs, _, rfl, hw, TW.cl, TW.n_other, wf.other, _, rfl, wk, CW, dx, fs, _, rfl, hw, TW.cl, TW.n_met, wf.met, _, rfl, ma, _, _, _, rfl, rfl, SqL.of em, atI_nat vd, ?_⟩
      refine ⟨m1, m2, qd, o1, o2, rs1, rs2, b1, b2, q, d1, d2, rfl, M1.same s0, M2.same s0, pqd, g1, g2, fun u s1 s2 H3 s3 eu es1 es2 => ?_⟩
      refine ⟨u, _, rfl, .inl (.inl eu), rfl, _, _, rfl, _, _, rfl, rfl, ?_⟩
      rw [← showAt_of g1] at es1
      rw [← showAt_of g2] at es2
      refine ⟨Nat.zero_le _, fun la H4 n4 s4 e4 => ?_⟩
      refine ⟨fun m σ H' => ∃ (i : Nat) (wi : List Nat) (hs : List V) (ds : List (Str × Nat)) (v5 : Option V), m = i ∧ σ = [some (.ref wk), some (.int (i : Int)), some (.ref s1), some (.ref s2), some (.ref la), v5] ∧ (∀ b o, b ≠ la → H4 b = some o → H' b = some o) ∧ H' la = some (.lst hs) ∧ HPs H' hs ds ∧ acc[i]? = some wi ∧ i + ds.length ≤ d ∧ histP rs1 rs2 p0 v = histP rs1 rs2 p0 wi ++ ds.reverse, ⟨_, d, v, [], [], none, rfl, rfl, fun _ _ _ e => e, e4, HPs.nil _, ev, Nat.le_refl _, by simp⟩, ?_⟩
      rintro i σ H' ⟨_, wi, hs, ds, v5, rfl, rfl, sk, el, ph, ei, le, hq⟩
      have s04 : Same H H4 := s3.trans s4
      have nla : H la = none := none_of s3 n4
      have s0' : Same H H' := fun b o e => sk b o (ne_of_none e nla) (s04 b o e)
      have hw' := s0' _ _ hw
      have eo' := s0' _ _ eo
      have em' := s0' _ _ em
      have hi : i < acc.length := (List.getElem?_eq_some_iff.mp ei).1
      obtain ⟨oi, eoi⟩ : ∃ oi, org[i]? = some oi := ⟨_, List.getElem?_eq_getElem (by rw [OO.len]; exact hi)⟩
      obtain ⟨qo, vo, po⟩ := lo.2 i oi eoi
      refine ⟨_, rfl, wk, CW, dx, fs, _, rfl, hw', TW.cl, TW.n_origins, wf.origins, _, rfl, oa, _, _, _, rfl, rfl, SqL.of eo', atI_nat vo, _, _, _, _, rfl, rfl, .inl (.inl (s0' _ _ po)), at0', _, _, rfl, rfl, _, rfl, ?_⟩
      by_cases zi : i = 0
      · subst zi
        rw [OO.at0] at eoi
        cases eoi
        rw [OO.a0] at ei
        cases ei
        refine iteF ?_
        have hq : histP rs1 rs2 p0 v = ds.reverse := hq
        refine ⟨_, rfl, la, _, rfl, SqL.of el, fun r nr => ?_⟩
        have sr := sameNew nr (.lst hs.reverse)
        have er : upd H' r (.lst hs.reverse) r = some (.lst hs.reverse) := upd_same
        have pr := ph.rev.same sr
        have a1 := sk _ _ (ne_of_some2 e4 (s4 _ _ es1)) (s4 _ _ es1)
        have a2 := sk _ _ (ne_of_some2 e4 (s4 _ _ es2)) (s4 _ _ es2)
        have b1 := sr _ _ a1
        have b2 := sr _ _ a2
        have s0r := s0'.trans sr
        generalize upd H' r (.lst hs.reverse) = H5 at sr er pr b1 b2 s0r ⊢
        refine ⟨r, _, rfl, .inl er, fun x H6 s6 e6 => ⟨_, rfl, _, rfl, three_ok _ _ _, fun t H7 n7 s7 e7 => ?_⟩⟩
        have s57 := s6.trans s7
        rw [hq] at k
        exact k t H7 (s0r.trans s57) ⟨x, s1, s2, e7, ⟨_, s7 _ _ e6, pr.same s57⟩, s57 _ _ b1, s57 _ _ b2⟩
      · obtain ⟨j, kk, wj, rfl, lt, ej, ei2⟩ := OO.up i oi (by omega) eoi
        rw [ei2] at ei
        have ei := (Option.some.inj ei).symm
        subst ei
        rw [decide_eq_true (show (0 : Int) ≤ ((j : Int), (kk : Int)).1 from by show (0 : Int) ≤ (j : Int); omega)]
        refine iteT ?_
        obtain ⟨pj, epj⟩ : ∃ pj, met[j]? = some pj := ⟨_, List.getElem?_eq_getElem (by omega)⟩
        obtain ⟨pi, epi⟩ : ∃ pi, met[i]? = some pi := ⟨_, List.getElem?_eq_getElem (by omega)⟩
        have sc := runPr_inv ((RR j wj ej).trans epj) ((RR i _ ei2).trans epi)
        obtain ⟨c1, c2, x1, x2, h1, h2, h3, h4, _⟩ := sucP_of sc
        rw [histP_snoc ((RR j wj ej).trans epj)] at hq
        refine ⟨fun σ' H'' => ∃ (hs : List V) (v5 : Option V), σ' = [some (.ref wk), some (.int (j : Int)), some (.ref s1), some (.ref s2), some (.ref la), v5] ∧ (∀ b o, b ≠ la → H4 b = some o → H'' b = some o) ∧ H'' la = some (.lst hs) ∧ HPs H'' hs (ds ++ [(opAt rs1 pj.1, kk)]), fun σ' H'' ⟨hs, v5, z1, z2, z3, z4⟩ => ⟨j, lt, j, wj, hs, _, v5, rfl, z1, z2, z3, z4, ej, by rw [List.length_append]; show j + (ds.length + 1) ≤ d; omega, by rw [hq, List.reverse_append, List.append_assoc]; rfl⟩, ?_⟩
        refine ⟨_, rfl, wk, CW, dx, fs, _, rfl, hw', TW.cl, TW.n_origins, wf.origins, _, rfl, oa, _, _, _, rfl, rfl, SqL.of eo', atI_nat vo, ?_⟩
        refine ⟨qo, _, rfl, .inl (.inl (s0' _ _ po)), rfl, _, _, rfl, _, _, rfl, rfl, ?_⟩
        have s00 : Same H0 H' := s0.trans s0'
        obtain ⟨qj, vj, pqj⟩ := pm.2 j pj epj
        have pqj' := s0' _ _ pqj
        obtain ⟨x, hx1, hx2⟩ := p1.rows.2 _ _ h1
        obtain ⟨opx, nsx, ec1⟩ : ∃ op ns, c1 = .ask op ns := by
          cases c1 with
          | ask op ns => exact ⟨op, ns, rfl⟩
          | go n => simp [nextsD] at h3
          | fin u => simp [nextsD] at h3
        subst ec1
        obtain ⟨ra, rt, rfl, hr1, hr2⟩ := hx2
        have eop : opAt rs1 pj.1 = opx := by
          unfold opAt
          rw [h1]
        rw [eop]
        refine ⟨_, rfl, .inl ⟨rfl, _, SqL.of el⟩, ?_⟩
        refine ⟨_, rfl, wk, CW, dx, fs, _, rfl, hw', TW.cl, TW.n_one, wf.one, m1, CM, dm1, fm1, _, rfl, s00 _ _ p1.hm, TM.cl, TM.n_lines, p1.fs.lines, ?_⟩
        refine ⟨_, rfl, wk, CW, dx, fs, _, rfl, hw', TW.cl, TW.n_met, wf.met, _, rfl, ma, _, _, _, rfl, rfl, SqL.of em', atI_nat vj, _, _, _, _, rfl, rfl, .inl (.inl pqj'), at0', ?_⟩
        refine ⟨l1, _, _, _, rfl, rfl, SqL.of (s00 _ _ p1.hl), atI_nat hx1, _, _, _, _, rfl, rfl, .inl (.inl (s00 _ _ hr1)), at1', _, rfl, two_ok _ _, fun tt H6 n6 s6 e6 => ?_⟩
        have el6 := s6 _ _ el
        have nl6 := s6 _ _ el
        refine ⟨la, _, _, rfl, rfl, el6, by rw [ph.1, sizeLine_eq]; have := (List.getElem?_eq_some_iff.mp ed).1; omega, _, _, rfl, fun b o nb e => ?_, upd_same, ((ph.same s6).snoc (p := (opx, kk)) e6).other el6⟩
        rw [upd_ne nb]
        exact s6 _ _ (sk _ _ nb e)
theorem sc_joined : FnScope ["tables", "counts", "unlike", "table", "operation", "many"] ["tables"] (defScope s_joined) := ⟨rfl, rfl, rfl, by decide +kernel, rfl, by decide +kernel, by decide +kernel⟩
theorem ok_joined {f : Addr} {fd fd_in_order : FuncData} (F : Fun K "joined" "joined" s_joined f fd)
    (GIO : FnOk P w K mg base CX0 1 a_in_order fd_in_order ["table"] spOrder) (b_in_order : Binds K fd_in_order ["table"] []) (g_in_order : mg "in_order" = some (.ref a_in_order)) (k_in_order : PySem.W.keepIn K (.ref a_in_order) = true) : FnOk P w K mg base CX0 2 f fd ["tables"] spJoined := by
  refine F.ok sc_joined (fun vs H Q E h => ?_) (fun cdv A outer s H vs Q E hr h => ?_)
  · obtain ⟨a, ts, g, rfl, _⟩ := h
    rfl
  · obtain ⟨a, ts, g, rfl, ha, each, few, k⟩ := h
    refine ⟨_, (pss_cons (ps_set (i := 1) sc_joined.nd rfl (Or.inl rfl) pe_dnewK)
      (pss_cons (ps_set (i := 2) sc_joined.nd rfl (Or.inl rfl) (pe_lstG pa_nil))
      (pss_cons (ps_for PassesOwn.never rfl (pi_list (pv 0)) (pg_name (i := 3) sc_joined.nd rfl (Or.inl rfl))
        (pss_one (ps_lock (ps_for PassesOwn.never rfl (pi_items (pv 3)) (pg_tup rfl (pgs_cons (pg_name (i := 4) sc_joined.nd rfl (Or.inl rfl)) (pgs_cons (pg_name (i := 5) sc_joined.nd rfl (Or.inl rfl)) pgs_nil)))
          (pss_one (ps_if (pt_cmpR op_ne (pe_dsetd (pv 1) (pv 4) (pv 5) ⟨by rfl, by rfl, by rfl, by rfl⟩) (pv 5) (nomark _)) (pss_one ps_no) pss_nil))))))
      (pss_cons (ps_if (pt_truth (pv 2) (by intro _; rfl)) (pss_one ps_no) pss_nil)
      (pss_one (ps_ret (pe_call GIO (hr.mono (by decide)) (by rfl) g_in_order k_in_order b_in_order .nil pass0 (pa_cons (pv 1) pa_nil)))))))), ?_⟩
    refine fun ka nka => ?_
    have s1 := sameNew nka (.dK [])
    have ek1 : upd H ka (.dK []) ka = some (.dK (opsK [])) := upd_same
    generalize upd H ka (.dK []) = H1 at s1 ek1 ⊢
    refine ⟨Nat.zero_le _, fun ua H2 n2 s2 e2 => ?_⟩
    have nua : H ua = none := none_of s1 n2
    have neku : ka ≠ ua := fun z => by
      rw [← z, ek1] at n2
      cases n2
    have s12 : Same H H2 := s1.trans s2
    refine ⟨_, rfl, a, rfl, ⟨_, SqL.of (s12 _ _ ha)⟩, for_list (K := K) (a := a) (xs := ts.map fun t => V.ref t.1) (fun i σ H' => ∃ (acc : Ops) (v3 v4 v5 : Option V), σ = [some (.ref a), some (.ref ka), some (.ref ua), v3, v4, v5] ∧ Same H H' ∧ JoinI ka ua g (((ts.take i).map fun t => t.2.length).sum) acc H') ⟨[], _, _, _, rfl, s12, s2 _ _ ek1, e2, List.nodup_nil, (fun _ h => nomatch h), Nat.zero_le _⟩ (fun i σ H' _ z => by obtain ⟨_, _, _, _, _, z, _⟩ := z; exact SqL.of (z _ _ ha)) ?_ ?_⟩
    · rintro i x σ Hc hxi ⟨acc, v3, v4, v5, rfl, sc, J⟩
      have hi : i < ts.length := by
        have := (List.getElem?_eq_some_iff.mp hxi).1
        rw [List.length_map] at this
        exact this
      obtain ⟨t, et⟩ : ∃ t, ts[i]? = some t := ⟨_, List.getElem?_eq_getElem hi⟩
      rw [List.getElem?_map, et] at hxi
      have hx2 : V.ref t.1 = x := Option.some.inj hxi
      subst hx2
      obtain ⟨ht, gt⟩ := each t (List.mem_of_getElem? et)
      have ntk : ka ≠ t.1 := fun z => by
        rw [← z, nka] at ht
        cases ht
      have ntu : ua ≠ t.1 := fun z => by
        rw [← z, nua] at ht
        cases ht
      have lk : (opsK t.2).length = t.2.length := List.length_map ..
      have tot : (((ts.take (i + 1)).map fun t => t.2.length).sum) = (((ts.take i).map fun t => t.2.length).sum) + t.2.length := by
        rw [List.take_succ, et, List.map_append, List.sum_append]
        simp
      have le63 : (((ts.take (i + 1)).map fun t => t.2.length).sum) < 64 := by
        have h1 : (ts.map fun t => t.2.length).sum = (((ts.take (i + 1)).map fun t => t.2.length).sum) + (((ts.drop (i + 1)).map fun t => t.2.length).sum) := by
          rw [← List.sum_append, ← List.map_append, List.take_append_drop]
        omega
      refine ⟨t.1, _, sc _ _ ht, trivial, fun od => ⟨_, rfl, t.1, od, opsK t.2, rfl, upd_same, for_it walk_items (fun j σ Hx => ∃ (acc : Ops) (v4 v5 : Option V), σ = [some (.ref a), some (.ref ka), some (.ref ua), some (.ref t.1), v4, v5] ∧ Same (upd H t.1 (.frz od (.dK (opsK t.2)))) Hx ∧ JoinI ka ua g ((((ts.take i).map fun t => t.2.length).sum) + j) acc Hx) ⟨acc, _, _, rfl, fun b o e => ?_, ?_, ?_, J.nd, J.ok, J.few⟩ (fun j σ Hx _ z => by obtain ⟨_, _, _, _, z, _⟩ := z; exact z _ _ upd_same) ?_ ?_⟩⟩
      · by_cases z : b = t.1
        · subst z
          rw [upd_same] at e ⊢
          exact e
        · rw [upd_ne z] at e ⊢
          exact sc _ _ e
      · rw [upd_ne ntk]
        exact J.ek
      · rw [upd_ne ntu]
        exact J.eu
      · rintro j x σ Ha Hb hj ⟨acc, v4, v5, rfl, sa, J⟩ z2
        obtain ⟨T', x, y, rfl, nT, rfl, h1, h2⟩ := z2
        have hj2 : j < t.2.length := by rw [← lk]; exact hj
        obtain ⟨p, ep⟩ : ∃ p, t.2[j]? = some p := ⟨_, List.getElem?_eq_getElem hj2⟩
        have e1 : (opsK t.2)[j]? = some (Sum.inr p.1, V.int p.2) := by
          unfold opsK
          rw [List.getElem?_map, ep]
          rfl
        dsimp only at h1 h2
        rw [e1] at h1 h2
        have h1' : V.str p.1 = x := Option.some.inj h1
        have h2' : V.int p.2 = y := Option.some.inj h2
        subst h1' h2'
        have gp := gt p (List.mem_of_getElem? ep)
        have sT := sameNew nT (.tup [V.str p.1, V.int p.2])
        have eT : upd Ha T' (.tup [V.str p.1, V.int p.2]) T' = some (.tup [V.str p.1, V.int p.2]) := upd_same
        generalize upd Ha T' (.tup [V.str p.1, V.int p.2]) = Hb at sT eT ⊢
        have ekb := sT _ _ J.ek
        refine ⟨T', _, rfl, .inl (.inl eT), rfl, _, _, rfl, _, _, rfl, rfl, ?_⟩
        have lt : (opsK acc).length < sizeLine := by
          unfold opsK
          rw [List.length_map, sizeLine_eq]
          have := J.few
          omega
        refine ⟨_, rfl, ka, rfl, .inl ⟨_, .inl ekb⟩, _, rfl, _, rfl, opsK acc, .inr p.1, ekb, rfl, lt, fun v ev => ?_, fun en => ?_⟩
        · rw [val_ops] at ev
          cases el : opLook acc p.1 with
          | none => rw [el] at ev; cases ev
          | some m =>
            rw [el] at ev
            have ev2 : V.int m = v := Option.some.inj ev
            subst ev2
            have := J.ok _ (opLook_mem el)
            rw [gp] at this
            cases this
            refine ⟨_, rfl, rfl, _, rfl, ?_⟩
            rw [intEq]
            refine iteF ?_
            exact ⟨acc, _, _, rfl, fun b o e => sT _ _ (sa _ _ e), ekb, sT _ _ J.eu, J.nd, J.ok, by have := J.few; omega⟩
        · refine ⟨_, rfl, rfl, _, rfl, ?_⟩
          rw [intEq]
          refine iteF ?_
          have en2 := en
          rw [val_ops, Option.map_eq_none_iff] at en2
          rw [putK_new _ en]
          have ea : opsK acc ++ [(Sum.inr p.1, V.int p.2)] = opsK (acc ++ [p]) := by
            unfold opsK
            rw [List.map_append]
            rfl
          rw [ea]
          refine ⟨acc ++ [p], _, _, rfl, fun b o e => ?_, upd_same, ?_, ?_, fun q hq => (List.mem_append.mp hq).elim (J.ok q) fun z => by rw [List.mem_singleton.mp z]; exact gp, ?_⟩
          · by_cases z : b = ka
            · subst z
              rw [upd_ne ntk, nka] at e
              cases e
            · rw [upd_ne z]
              exact sT _ _ (sa _ _ e)
          · rw [upd_ne (Ne.symm neku)]
            exact sT _ _ J.eu
          · rw [List.map_append, List.nodup_append]
            refine ⟨J.nd, by simp, fun x hx y hy z => ?_⟩
            have hy2 : y = p.1 := List.mem_singleton.mp hy
            rw [z, hy2] at hx
            exact opLook_none en2 hx
          · rw [List.length_append]
            have := J.few
            show acc.length + 1 ≤ _
            omega
      · rintro σ Hx ⟨acc, v4, v5, rfl, sx, J⟩
        refine ⟨sx _ _ upd_same, acc, _, _, _, rfl, same_unlock ht sx, ?_, ?_, J.nd, J.ok, ?_⟩
        · rw [upd_ne ntk]
          exact J.ek
        · rw [upd_ne ntu]
          exact J.eu
        · have := J.few
          rw [lk] at this
          rw [tot]
          exact this
    · rintro σ Hc ⟨acc, v3, v4, v5, rfl, sc, J⟩
      refine ⟨_, rfl, false, .inl ⟨[], SqL.of J.eu, rfl⟩, ?_⟩
      refine iteF ?_
      have := J.few
      rw [List.length_map, List.take_length] at this
      exact ⟨_, rfl, ka, acc, rfl, .inl J.ek, J.nd, by omega, fun o' ord q H5 n5 s5 e5 => k q H5 (sc.trans s5)⟩
end
end Mine

set_option maxRecDepth 100000
set_option maxHeartbeats 4000000
namespace Mine
open PySem L2
/-- two bodies whose operations go together -/
structure TwoB (CB CM : Addr) (H : Hp) (bd1 bd2 : Addr) (o1 o2 : Ops) (rs1 rs2 : List RowD) (b1 b2 : Nat) : Prop where
  B1 : BodyAt CB CM H bd1 o1 rs1 b1
  B2 : BodyAt CB CM H bd2 o2 rs2 b2
  f1 : o1.length ≤ 8
  f2 : o2.length ≤ 8
  go : ∃ g : Str → Option Int, (∀ p ∈ o1, g p.1 = some p.2) ∧ ∀ p ∈ o2, g p.1 = some p.2
theorem TwoB.same {CB CM : Addr} {H H' : Hp} {bd1 bd2 : Addr} {o1 o2 : Ops} {rs1 rs2 : List RowD} {b1 b2 : Nat} (h : TwoB CB CM H bd1 bd2 o1 o2 rs1 rs2 b1 b2) (s : Same H H') : TwoB CB CM H' bd1 bd2 o1 o2 rs1 rs2 b1 b2 := ⟨h.B1.same s, h.B2.same s, h.f1, h.f2, h.go⟩
def spWalkOf (CB CM CW : Addr) : Sp := fun vs H Q _ => ∃ (bd1 bd2 : Addr) (o1 o2 : Ops) (rs1 rs2 : List RowD) (b1 b2 : Nat), vs = [.ref bd1, .ref bd2] ∧ TwoB CB CM H bd1 bd2 o1 o2 rs1 rs2 b1 b2 ∧
  ∀ (wk m1 m2 ma oa : Addr) (H' : Hp), MachV CM H m1 o1 rs1 b1 → MachV CM H m2 o2 rs2 b2 → WalkP CW H H' wk m1 m2 ma oa [(stp rs1 b1, stp rs2 b2)] [(-1, -1)] → Q (.ref wk) H'
/-- two tables that go together -/
structure TwoR (rs1 rs2 : List RowD) (b1 b2 : Nat) : Prop where
  fit1 : Fit rs1
  fit2 : Fit rs2
  big1 : rs1.length ≤ 1000
  big2 : rs2.length ≤ 1000
  tx1 : TxOk rs1
  tx2 : TxOk rs2
  few : ∀ d ∈ rs1, (nextsD d).length ≤ 1000
  even : Even rs1 rs2
  lt1 : b1 < rs1.length
  lt2 : b2 < rs2.length
theorem TwoR.beg {rs1 rs2 : List RowD} {b1 b2 : Nat} (h : TwoR rs1 rs2 b1 b2) : InP rs1 rs2 (stp rs1 b1, stp rs2 b2) := ⟨stp_lt h.fit1.go h.lt1, stp_lt h.fit2.go h.lt2⟩
abbrev startP (rs1 rs2 : List RowD) (b1 b2 : Nat) : Prw := (stp rs1 b1, stp rs2 b2)
/-- the least word that parts them, and where it leads -/
structure LeastP (rs1 rs2 : List RowD) (p0 : Prw) (v : List Nat) (q : Prw) : Prop where
  run : runPr rs1 rs2 p0 v = some q
  inq : InP rs1 rs2 q
  bad : badP rs1 rs2 q
  diff : DiffP rs1 rs2 p0 v
  least : ∀ u, DiffP rs1 rs2 p0 u → Wk.num BASE v ≤ Wk.num BASE u
def spPartedF (CB CM : Addr) : Sp := fun vs H Q _ => ∃ (bd1 bd2 : Addr) (o1 o2 : Ops) (rs1 rs2 : List RowD) (b1 b2 : Nat), vs = [.ref bd1, .ref bd2] ∧ TwoB CB CM H bd1 bd2 o1 o2 rs1 rs2 b1 b2 ∧ TwoR rs1 rs2 b1 b2 ∧
  (∀ H' : Hp, Same H H' → (∀ u, ¬ DiffP rs1 rs2 (startP rs1 rs2 b1 b2) u) → Q .non H') ∧
  (∀ (t : Addr) (v : List Nat) (q : Prw) (H' : Hp), Same H H' → LeastP rs1 rs2 (startP rs1 rs2 b1 b2) v q → ToldT H' t (histP rs1 rs2 (startP rs1 rs2 b1 b2) v) (showAt rs1 q.1) (showAt rs2 q.2) → Q (.ref t) H')
section
variable {P : Program} {w : World} {K : PySem.W.Frag} {mg : Str → Option Value} {base : Heap}
variable {fII fIW CB CM CW a_joined a_begin a_part a_walk a_told f_walk : Addr}
theorem sc_walk_of : FnScope ["one", "other"] ["one", "other"] (defScope s_walk_of) := ⟨rfl, rfl, rfl, by decide +kernel, rfl, by decide +kernel, by decide +kernel⟩
theorem ok_walk_of {f : Addr} {fd fd_joined fd_begin fd_walk : FuncData} (F : Fun K "walk_of" "walk_of" s_walk_of f fd) (TB : BodyC K CB) (TM : MachC K CM)
    (GJ : FnOk P w K mg base CX0 2 a_joined fd_joined ["tables"] spJoined) (b_joined : Binds K fd_joined ["tables"] []) (g_joined : mg "joined" = some (.ref a_joined)) (k_joined : PySem.W.keepIn K (.ref a_joined) = true)
    (GBe : FnOk P w K mg base CX0 1 a_begin fd_begin ["one", "other"] (spBegin CM)) (b_begin_of : Binds K fd_begin ["one", "other"] []) (g_begin_of : mg "begin_of" = some (.ref a_begin)) (k_begin_of : PySem.W.keepIn K (.ref a_begin) = true)
    (MW : Mk K CW f_walk) (GW : FnOk P w K mg base CX0 1 f_walk fd_walk ["self", "one", "other", "begin"] (spWInit CW)) (b_Walk : Binds K fd_walk ["self", "one", "other", "begin"] []) (g_Walk : mg "Walk" = some (.ref CW)) : FnOk P w K mg base CX0 3 f fd ["one", "other"] (spWalkOf CB CM CW) := by
  refine F.ok sc_walk_of (fun vs H Q E h => ?_) (fun cdv A outer s H vs Q E hr h => ?_)
  · obtain ⟨bd1, bd2, o1, o2, rs1, rs2, b1, b2, rfl, _⟩ := h
    rfl
  · obtain ⟨bd1, bd2, o1, o2, rs1, rs2, b1, b2, rfl, ⟨B1, B2, f1, f2, g, ga, gb⟩, k⟩ := h
    refine ⟨_, (pss_cons (ps_expr (pe_call GJ (hr.mono (by decide)) (by rfl) g_joined k_joined b_joined .nil pass0 (pa_cons (pe_lstG (pa_cons (pe_fld (pe_fld (pv 0) rfl) rfl) (pa_cons (pe_fld (pe_fld (pv 1) rfl) rfl) pa_nil))) pa_nil)))
      (pss_one (ps_ret (pe_make MW GW (hr.mono (by decide)) (by rfl) g_Walk b_Walk .nil pass0 (pa_cons (pe_fld (pv 0) rfl) (pa_cons (pe_fld (pv 1) rfl) (pa_cons (pe_call GBe (hr.mono (by decide)) (by rfl) g_begin_of k_begin_of b_begin_of .nil pass0 (pa_cons (pe_fld (pv 0) rfl) (pa_cons (pe_fld (pv 1) rfl) pa_nil))) pa_nil))))))), ?_⟩
    obtain ⟨m1, dx1, fb1, hb1, lb1, M1⟩ := B1.mach
    obtain ⟨m2, dx2, fb2, hb2, lb2, M2⟩ := B2.mach
    have M1' := M1
    have M2' := M2
    obtain ⟨dm1, fm1, t1, l1, sa1, aa1, ea1, o1', xs1, as1, es1, p1⟩ := M1'
    obtain ⟨dm2, fm2, t2, l2, sa2, aa2, ea2, o2', xs2, as2, es2, p2⟩ := M2'
    refine ⟨_, rfl, bd1, CB, dx1, fb1, _, rfl, hb1, TB.cl, TB.n_machine, lb1, m1, CM, dm1, fm1, _, rfl, p1.hm, TM.cl, TM.n_counts, p1.fs.counts, ?_⟩
    refine ⟨_, rfl, bd2, CB, dx2, fb2, _, rfl, hb2, TB.cl, TB.n_machine, lb2, m2, CM, dm2, fm2, _, rfl, p2.hm, TM.cl, TM.n_counts, p2.fs.counts, ?_⟩
    refine ⟨two_ok _ _, fun a H1 n1 s1 e1 => ?_⟩
    refine ⟨a, [(t1, o1'), (t2, o2')], g, rfl, e1, fun t ht => ?_, ?_, fun q H2 s2 => ?_⟩
    · rcases List.mem_cons.mp ht with z | z
      · subst z
        exact ⟨s1 _ _ p1.ht, fun p hp => ga p (p1.ord.1.mem_iff.mp hp)⟩
      · rw [List.mem_singleton.mp z]
        exact ⟨s1 _ _ p2.ht, fun p hp => gb p (p2.ord.1.mem_iff.mp hp)⟩
    · have h1 := p1.ord.1.length_eq
      have h2 := p2.ord.1.length_eq
      show o1'.length + (o2'.length + 0) < 64
      omega
    · have s02 : Same H H2 := s1.trans s2
      refine ⟨_, rfl, bd1, CB, dx1, fb1, _, rfl, s02 _ _ hb1, TB.cl, TB.n_machine, lb1, _, rfl, bd2, CB, dx2, fb2, _, rfl, s02 _ _ hb2, TB.cl, TB.n_machine, lb2, ?_⟩
      refine ⟨_, rfl, bd1, CB, dx1, fb1, _, rfl, s02 _ _ hb1, TB.cl, TB.n_machine, lb1, _, rfl, bd2, CB, dx2, fb2, _, rfl, s02 _ _ hb2, TB.cl, TB.n_machine, lb2, ?_⟩
      refine ⟨m1, m2, o1, o2, rs1, rs2, b1, b2, rfl, M1.same s02, M2.same s02, fun t H3 n3 s3 e3 => ?_⟩
      refine fun wk dx nwk ndx nex => ?_
      have sm : Same H3 (upd (upd H3 dx (.own wk)) wk (.ins CW dx [])) := same_updN (same_updN (Same.refl _) ndx) nwk
      have ew : upd (upd H3 dx (.own wk)) wk (.ins CW dx []) wk = some (.ins CW dx []) := upd_same
      generalize upd (upd H3 dx (.own wk)) wk (.ins CW dx []) = H4 at sm ew ⊢
      have e4 : PairT H4 t (stp rs1 b1, stp rs2 b2) := sm _ _ e3
      refine ⟨wk, m1, m2, t, dx, (stp rs1 b1, stp rs2 b2), rfl, ew, e4, fun fs ma oa tt H5 nma noa neo x5 e5 wf em eo eot => ⟨rfl, ?_⟩⟩
      have s04 : Same H H4 := s02.trans (s3.trans sm)
      have nwH : H wk = none := none_of (s02.trans s3) nwk
      have s05 : Same H H5 := fun b o e => x5 b o (fun z => by rw [z, nwH] at e; cases e) (s04 b o e)
      have ntw : t ≠ wk := fun z => by
        unfold PairT at e4
        rw [z, ew] at e4
        cases e4
      have e5t : PairT H5 t (stp rs1 b1, stp rs2 b2) := x5 _ _ ntw e4
      exact k wk m1 m2 ma oa H5 M1 M2 ⟨⟨dx, fs, e5, wf⟩, ⟨_, em, (Prs.nil H5).snoc e5t⟩, ⟨_, eo, (Orgs.nil H5).snoc eot⟩, neo, s05, none_of s04 nma, none_of s04 noa⟩
theorem sc_parted : FnScope ["one", "other", "walk"] ["one", "other"] (defScope s_parted) := ⟨rfl, rfl, rfl, by decide +kernel, rfl, by decide +kernel, by decide +kernel⟩
theorem ok_parted {f : Addr} {fd fd_walk fd_part fd_told : FuncData} (F : Fun K "parted" "parted" s_parted f fd)
    (GWo : FnOk P w K mg base CX0 3 a_walk fd_walk ["one", "other"] (spWalkOf CB CM CW)) (b_walk_of : Binds K fd_walk ["one", "other"] []) (g_walk_of : mg "walk_of" = some (.ref a_walk)) (k_walk_of : PySem.W.keepIn K (.ref a_walk) = true)
    (GP : FnOk P w K mg base CX0 3 a_part fd_part ["walk"] (spPartF CW CM)) (b_parting_place : Binds K fd_part ["walk"] []) (g_parting_place : mg "parting_place" = some (.ref a_part)) (k_parting_place : PySem.W.keepIn K (.ref a_part) = true)
    (GTo : FnOk P w K mg base CX0 3 a_told fd_told ["walk", "number"] (spToldF CW CM)) (b_told_of : Binds K fd_told ["walk", "number"] []) (g_told_of : mg "told_of" = some (.ref a_told)) (k_told_of : PySem.W.keepIn K (.ref a_told) = true) : FnOk P w K mg base CX0 4 f fd ["one", "other"] (spPartedF CB CM) := by
  refine F.ok sc_parted (fun vs H Q E h => ?_) (fun cdv A outer s H vs Q E hr h => ?_)
  · obtain ⟨bd1, bd2, o1, o2, rs1, rs2, b1, b2, rfl, _⟩ := h
    rfl
  · obtain ⟨bd1, bd2, o1, o2, rs1, rs2, b1, b2, rfl, two, al, kN, kS⟩ := h
    refine ⟨_, (pss_cons (ps_set (i := 2) sc_parted.nd rfl (Or.inl rfl) (pe_call GWo (hr.mono (by decide)) (by rfl) g_walk_of k_walk_of b_walk_of .nil pass0 (pa_cons (pv 0) (pa_cons (pv 1) pa_nil))))
      (pss_one (ps_ret (pe_call GTo (hr.mono (by decide)) (by rfl) g_told_of k_told_of b_told_of .nil pass0 (pa_cons (pv 2) (pa_cons (pe_call GP (hr.mono (by decide)) (by rfl) g_parting_place k_parting_place b_parting_place .nil pass0 (pa_cons (pv 2) pa_nil)) pa_nil)))))), ?_⟩
    refine ⟨_, rfl, _, rfl, bd1, bd2, o1, o2, rs1, rs2, b1, b2, rfl, two, fun wk m1 m2 ma oa H1 M1 M2 W => ?_⟩
    have l1 := al.big1
    have l2 := al.big2
    refine ⟨_, rfl, _, rfl, H, wk, m1, m2, ma, oa, o1, o2, rs1, rs2, b1, b2, _, rfl, W, M1, M2, al.fit1, al.fit2, by omega, by omega, al.tx1, al.tx2, al.few, al.even, al.beg, fun met org H2 W2 no => ?_, fun met org acc d q v H2 W2 few lam OO RR ed ev inq bad df ls => ?_⟩
    · exact .inl ⟨_, -1, rfl, by decide, kN H2 W2.same no⟩
    · exact .inr ⟨H, wk, m1, m2, ma, oa, o1, o2, rs1, rs2, b1, b2, _, met, org, acc, d, q, v, rfl, W2, M1, M2, few, lam, OO, RR, ed, ev, inq, fun t H3 s3 tt => kS t v q H3 (W2.same.trans s3) ⟨(RR d v ev).trans ed, inq, bad, df, ls⟩ tt⟩
end
end Mine

set_option maxRecDepth 100000
set_option maxHeartbeats 4000000
namespace Mine
open PySem L2
abbrev s_can_come : Stmt := top 57
abbrev s_shown : Stmt := top 56
theorem opLook_perm {o o' : Ops} (nd : (o.map (·.1)).Nodup) (p : o'.Perm o) {x : Str} {m : Int} (h : opLook o x = some m) : opLook o' x = some m :=
  look_mem ((p.map (·.1)).nodup_iff.mpr nd) (x, m) (p.mem_iff.mpr (opLook_mem h))
/-- where a history leads, from a row of rest on -/
def goTo (rs : List RowD) : Nat → List (Str × Nat) → Option Nat
  | i, [] => some i
  | i, (op, k) :: ws => match rs[i]? with
    | some (.ask op' ns) => if op = op' then (match ns[k]? with
      | some a => goTo rs (stp rs a.toNat) ws
      | none => none) else none
    | _ => none
theorem goTo_cons {rs : List RowD} {i j : Nat} {op : Str} {k : Nat} {ws : List (Str × Nat)} (h : goTo rs i ((op, k) :: ws) = some j) : ∃ ns a, rs[i]? = some (.ask op ns) ∧ ns[k]? = some a ∧ goTo rs (stp rs a.toNat) ws = some j := by
  unfold goTo at h
  cases e : rs[i]? with
  | none => rw [e] at h; cases h
  | some d =>
    rw [e] at h
    cases d with
    | go n => cases h
    | fin u => cases h
    | ask op' ns =>
      dsimp only at h
      by_cases z : op = op'
      · rw [if_pos z] at h
        subst z
        cases g : ns[k]? with
        | none => rw [g] at h; cases h
        | some a =>
          rw [g] at h
          exact ⟨ns, a, rfl, g, h⟩
      · rw [if_neg z] at h
        cases h
def AskOk (o : Ops) (rs : List RowD) : Prop := ∀ (i : Nat) (op : Str) (ns : List Int), rs[i]? = some (.ask op ns) → opLook o op = some (ns.length : Int)
def spCanCome : Sp := fun vs H Q _ => ∃ (t : Addr) (ln : V) (c : Addr) (op : Str) (k : Nat) (ns : List Int) (o : Ops), vs = [.ref t, ln, .ref c] ∧ H t = some (.tup [.str op, .int (k : Int)]) ∧ TRow H ln (.ask op ns) ∧ H c = some (.dK (opsK o)) ∧ opLook o op = some (ns.length : Int) ∧ k < ns.length ∧
  ∀ H' : Hp, Same H H' → Q (.bl true) H'
def spShown (CB CM : Addr) : Sp := fun vs H Q _ => ∃ (bd h : Addr) (o : Ops) (rs : List RowD) (b : Nat) (ws : List (Str × Nat)) (j : Nat), vs = [.ref bd, .ref h] ∧ BodyAt CB CM H bd o rs b ∧ HistT H h ws ∧ (o.map (·.1)).Nodup ∧ AskOk o rs ∧ Fit rs ∧ goTo rs (stp rs b) ws = some j ∧
  ∀ (t : Addr) (H' : Hp), Same H H' → H' t = some (.tup ((showAt rs j).map V.str)) → Q (.ref t) H'
section
variable {P : Program} {w : World} {K : PySem.W.Frag} {mg : Str → Option Value} {base : Heap}
variable {fII fIW CB CM a_is_row a_is_index a_is_name a_is_text_in a_are_counts a_word_of a_are_nexts a_is_line a_line_of a_are_operations a_can_come a_shows : Addr}
theorem sc_can_come : FnScope ["told", "line", "counts"] ["told", "line", "counts"] (defScope s_can_come) := ⟨rfl, rfl, rfl, by decide +kernel, rfl, by decide +kernel, by decide +kernel⟩
theorem ok_can_come {f : Addr} {fd fd_is_row fd_is_index : FuncData} (F : Fun K "can_come" "can_come" s_can_come f fd) (T : TxtF K mg fII fIW) (TG : TxtG K mg a_is_row a_is_index a_is_name a_is_text_in a_are_counts a_word_of a_are_nexts a_is_line a_line_of a_are_operations)
    (GRw : FnOk P w K mg base CX0 1 a_is_row fd_is_row ["thing"] (spIsRow K)) (b_is_row : Binds K fd_is_row ["thing"] [])
    (GIx : FnOk P w K mg base CX0 3 a_is_index fd_is_index ["thing", "many"] (spIndex K)) (b_is_index : Binds K fd_is_index ["thing", "many"] []) : FnOk P w K mg base CX0 4 f fd ["told", "line", "counts"] spCanCome := by
  refine F.ok sc_can_come (fun vs H Q E h => ?_) (fun cdv A outer s H vs Q E hr h => ?_)
  · obtain ⟨t, ln, c, op, k, ns, o, rfl, _⟩ := h
    rfl
  · obtain ⟨t, ln, c, op, m, ns, o, rfl, ht, row, hc, look, lt, k⟩ := h
    refine ⟨_, (pss_cons (ps_if (PW.pt (pw_or (pt_cmpR op_ne (pe_ix ix_tup (pv 1) pe_int (fun _ _ => rfl)) pe_str (nomark _)) (pw_or (pt_not (pt_val (pe_call GRw (hr.mono (by decide)) (by rfl) TG.g_is_row TG.k_is_row b_is_row .nil pass0 (pa_cons (pv 0) pa_nil)))) (pw_or1 (pt_cmpR op_ne (pe_callB call_len_seq (by rfl) T.b_len PySem.boot_len (pa_cons (pv 0) pa_nil)) pe_int (nomark _)))))) (pss_one (ps_ret pe_bl)) pss_nil)
      (pss_one (ps_ret (pe_and (pe_callB call_isi (by rfl) T.b_isinstance (by decide +kernel) (pa_cons (pe_ix ix_seq (pv 0) pe_int (fun _ _ => rfl)) (pa_cons (pe_bltn (v := .ty "str") rfl T.b_str (by decide +kernel) rfl) pa_nil))) (pe_and (pe_cmpR op_eq (pe_ix ix_seq (pv 0) pe_int (fun _ _ => rfl)) (pe_ix ix_tup (pv 1) pe_int (fun _ _ => rfl)) (nomark _)) (pe_one (pe_call GIx (hr.mono (by decide)) (by rfl) TG.g_is_index TG.k_is_index b_is_index .nil pass0 (pa_cons (pe_ix ix_seq (pv 0) pe_int (fun _ _ => rfl)) (pa_cons (pe_dget (hu_of hr) (pv 2) (pe_ix ix_tup (pv 1) pe_int (fun _ _ => rfl)) (fun _ _ => rfl)) pa_nil))))))))), ?_⟩
    obtain ⟨ra, rt, rfl, hr1, hr2⟩ := row
    refine ⟨_, rfl, _, _, _, _, rfl, rfl, .inl (.inl hr1), at0', rfl, _, rfl, ?_⟩
    rw [strEq]
    refine iteF ?_
    have ha : SqA H t [V.str op, V.int (m : Int)] := .inr ht
    obtain ⟨ty, b, e⟩ := btSeq (K := K) ha
    refine ⟨_, rfl, _, ty, rfl, b, fun H1 s1 => ⟨_, rfl, ?_⟩⟩
    rw [e]
    refine iteF ?_
    have ha1 := s1.sqa ha
    refine ⟨_, rfl, t, _, rfl, ha1.sq, rfl, _, rfl, ?_⟩
    refine iteF ?_
    refine ⟨_, rfl, ha1.ix at0' ⟨_, _, _, _, _, rfl, .ty _, (btStr (K := K) (H := H1) op).ty, (btStr (K := K) (H := H1) op).kit (u := "str") (by decide), _, rfl, ?_⟩⟩
    refine iteT ?_
    refine ⟨_, rfl, ha1.ix at0' ⟨_, rfl, _, _, _, _, rfl, rfl, .inl (.inl (s1 _ _ hr1)), at1', rfl, _, rfl, ?_⟩⟩
    rw [strEq]
    refine iteT ?_
    refine ⟨_, rfl, ha1.ix at1' ⟨_, rfl, _, rfl, _, _, _, _, rfl, rfl, .inl (.inl (s1 _ _ hr1)), at1', c, _, rfl, .inl ⟨opsK o, .inr op, .inl (s1 _ _ hc), rfl, by rw [val_ops, look]; rfl⟩, _, _, _, rfl, btInt _, ?_⟩⟩
    rw [inW_int (by omega) (by omega)]
    exact k _ s1
theorem sc_shown : FnScope ["body", "history", "machine", "at", "index", "told"] ["body", "history"] (defScope s_shown) := ⟨rfl, rfl, rfl, by decide +kernel, rfl, by decide +kernel, by decide +kernel⟩
theorem ok_shown {f : Addr} {fd fd_is_row fd_can_come fd_shows : FuncData} (F : Fun K "shown" "shown" s_shown f fd) (T : TxtF K mg fII fIW) (TG : TxtG K mg a_is_row a_is_index a_is_name a_is_text_in a_are_counts a_word_of a_are_nexts a_is_line a_line_of a_are_operations) (TB : BodyC K CB) (TM : MachC K CM) (h_enum : mg "enumerate" = none)
    (GRw : FnOk P w K mg base CX0 1 a_is_row fd_is_row ["thing"] (spIsRow K)) (b_is_row : Binds K fd_is_row ["thing"] [])
    (GC : FnOk P w K mg base CX0 4 a_can_come fd_can_come ["told", "line", "counts"] spCanCome) (b_can_come : Binds K fd_can_come ["told", "line", "counts"] []) (g_can_come : mg "can_come" = some (.ref a_can_come)) (k_can_come : PySem.W.keepIn K (.ref a_can_come) = true)
    (GS : FnOk P w K mg base CX0 1 a_shows fd_shows ["line"] spShows) (b_shows_of : Binds K fd_shows ["line"] []) (g_shows_of : mg "shows_of" = some (.ref a_shows)) (k_shows_of : PySem.W.keepIn K (.ref a_shows) = true) : FnOk P w K mg base CX0 5 f fd ["body", "history"] (spShown CB CM) := by
  refine F.ok sc_shown (fun vs H Q E h => ?_) (fun cdv A outer s H vs Q E hr h => ?_)
  · obtain ⟨bd, h, o, rs, b, ws, j, rfl, _⟩ := h
    rfl
  · obtain ⟨bd, h, o, rs, b, ws, jend, rfl, B, ⟨hv, hh, ph⟩, nd, askok, fit, go, k⟩ := h
    refine ⟨_, (pss_cons (ps_set (i := 2) sc_shown.nd rfl (Or.inl rfl) (pe_fld (pv 0) rfl))
      (pss_cons (ps_if (pt_not (pt_val (pe_call GRw (hr.mono (by decide)) (by rfl) TG.g_is_row TG.k_is_row b_is_row .nil pass0 (pa_cons (pv 1) pa_nil)))) (pss_one ps_no) pss_nil)
      (pss_cons (ps_set (i := 3) sc_shown.nd rfl (Or.inl rfl) (pe_ix ix_list (pe_fld (pv 2) rfl) (pe_fld (pv 2) rfl) (fun _ _ => rfl)))
      (pss_cons (ps_for PassesOwn.never rfl (pi_enumT (by rfl) h_enum (pa_cons (pv 1) pa_nil)) (pg_tup rfl (pgs_cons (pg_name (i := 4) sc_shown.nd rfl (Or.inl rfl)) (pgs_cons (pg_name (i := 5) sc_shown.nd rfl (Or.inl rfl)) pgs_nil))) (pss_cons (ps_if (pt_not (pt_val (pe_call GC (hr.mono (by decide)) (by rfl) g_can_come k_can_come b_can_come .nil pass0 (pa_cons (pv 5) (pa_cons (pe_ix ix_list (pe_fld (pv 2) rfl) (pv 3) (fun _ _ => rfl)) (pa_cons (pe_fld (pv 2) rfl) pa_nil)))))) (pss_one ps_no) pss_nil) (pss_one (ps_set (i := 3) sc_shown.nd rfl (Or.inl rfl) (pe_ix ix_list (pe_fld (pv 2) rfl) (pe_ix ix_tup (pe_ix ix_tup (pe_ix ix_list (pe_fld (pv 2) rfl) (pv 3) (fun _ _ => rfl)) pe_int (fun _ _ => rfl)) (pe_ix ix_tup (pv 5) pe_int (fun _ _ => rfl)) (fun _ _ => rfl)) (fun _ _ => rfl))))))
      (pss_one (ps_ret (pe_call GS (hr.mono (by decide)) (by rfl) g_shows_of k_shows_of b_shows_of .nil pass0 (pa_cons (pe_ix ix_list (pe_fld (pv 2) rfl) (pv 3) (fun _ _ => rfl)) pa_nil)))))))), ?_⟩
    obtain ⟨m, t, l, sa, aa, ea, o', xs, as, es, ⟨⟨dx, fb, hb, lb⟩, ⟨dm, fm, hm, mf⟩, htab, ord, hl, rows, blt, _⟩⟩ := B
    refine ⟨_, rfl, bd, CB, dx, fb, _, rfl, hb, TB.cl, TB.n_machine, lb, ?_⟩
    have hha : SqA H h hv := .inr hh
    obtain ⟨ty, bt, e⟩ := btSeq (K := K) hha
    refine ⟨_, rfl, _, ty, rfl, bt, fun H1 s1 => ⟨_, rfl, ?_⟩⟩
    rw [e]
    refine iteF ?_
    refine ⟨_, rfl, m, CM, dm, fm, _, rfl, s1 _ _ hm, TM.cl, TM.n_stops, mf.stops, _, rfl, m, CM, dm, fm, _, rfl, s1 _ _ hm, TM.cl, TM.n_begin, mf.begin, ?_⟩
    refine ⟨sa, _, _, _, rfl, rfl, SqL.of (s1 _ _ mf.hs), fl_at blt, ?_⟩
    have go0 : stp rs b < rs.length := stp_lt fit.go blt
    refine ⟨_, rfl, h, hv, rfl, .inl (.inl (s1 _ _ hh)), for_enumT (K := K) (a := h) (xs := hv) (fun i σ H' => ∃ (a : Nat) (v4 v5 : Option V), σ = [some (.ref bd), some (.ref h), some (.ref m), some (.int (a : Int)), v4, v5] ∧ Same H1 H' ∧ a < rs.length ∧ goTo rs a (ws.drop i) = some jend) ⟨stp rs b, none, none, rfl, Same.refl _, go0, go⟩ (fun i σ H' _ z => by obtain ⟨_, _, _, _, z, _⟩ := z; exact .inl (.inl (z _ _ (s1 _ _ hh)))) ?_ ?_⟩
    · rintro i x σ Ha T' Hb hxi ⟨a, v4, v5, rfl, sa', lt', go'⟩ nT sT eT
      have hi : i < ws.length := by
        have := (List.getElem?_eq_some_iff.mp hxi).1
        rw [← ph.1]
        exact this
      obtain ⟨p, ep⟩ : ∃ p, ws[i]? = some p := ⟨_, List.getElem?_eq_getElem hi⟩
      obtain ⟨q, vq, hq⟩ := ph.2 i p ep
      rw [hxi] at vq
      cases vq
      have ed : ws.drop i = p :: ws.drop (i + 1) := by
        rw [List.drop_eq_getElem_cons hi]
        have := List.getElem?_eq_getElem hi
        rw [ep] at this
        rw [← Option.some.inj this]
      rw [ed] at go'
      obtain ⟨ns, z, er, ez, go2⟩ := goTo_cons go'
      obtain ⟨x, hx1, hx2⟩ := rows.2 _ _ er
      have s0b : Same H Hb := s1.trans (sa'.trans sT)
      have ltk := (List.getElem?_eq_some_iff.mp ez).1
      refine ⟨T', _, rfl, .inl (.inl eT), rfl, _, _, rfl, _, _, rfl, rfl, ?_⟩
      refine ⟨_, rfl, _, rfl, m, CM, dm, fm, _, rfl, s0b _ _ hm, TM.cl, TM.n_lines, mf.lines, _, rfl, l, _, _, _, rfl, rfl, SqL.of (s0b _ _ hl), atI_nat hx1, ?_⟩
      refine ⟨_, rfl, m, CM, dm, fm, _, rfl, s0b _ _ hm, TM.cl, TM.n_counts, mf.counts, ?_⟩
      refine ⟨q, x, t, p.1, p.2, ns, o', rfl, s0b _ _ hq, hx2.same s0b, s0b _ _ htab, opLook_perm nd ord.1 (askok _ _ _ er), ltk, fun H2 s2 => ⟨_, rfl, ?_⟩⟩
      refine iteF ?_
      have s02 := s0b.trans s2
      obtain ⟨ra, rt, rfl, hr1, hr2⟩ := hx2
      obtain ⟨z0, z1⟩ := fit.nexts er (show z ∈ nextsD (.ask p.1 ns) from List.mem_of_getElem? ez)
      obtain ⟨zn, rfl⟩ : ∃ zn : Nat, z = (zn : Int) := ⟨z.toNat, by omega⟩
      have zlt : zn < rs.length := by omega
      have go3 : goTo rs (stp rs zn) (ws.drop (i + 1)) = some jend := go2
      have ezv : atI (ns.map V.int) ((p.2 : Nat) : Int) = some (V.int (zn : Int)) := atI_nat (by rw [List.getElem?_map, ez]; rfl)
      refine ⟨_, rfl, m, CM, dm, fm, _, rfl, s02 _ _ hm, TM.cl, TM.n_stops, mf.stops, ?_⟩
      refine ⟨_, rfl, m, CM, dm, fm, _, rfl, s02 _ _ hm, TM.cl, TM.n_lines, mf.lines, _, rfl, l, _, _, _, rfl, rfl, SqL.of (s02 _ _ hl), atI_nat hx1, ?_⟩
      refine ⟨_, _, _, _, rfl, rfl, .inl (.inl (s02 _ _ hr1)), at2', ?_⟩
      refine ⟨_, rfl, _, _, _, _, rfl, rfl, .inl (.inl (s02 _ _ hq)), at1', ?_⟩
      refine ⟨_, _, _, _, rfl, rfl, .inl (.inl (s02 _ _ hr2)), ezv, ?_⟩
      refine ⟨sa, _, _, _, rfl, rfl, SqL.of (s02 _ _ mf.hs), fl_at zlt, ?_⟩
      exact ⟨_, _, _, rfl, sa'.trans (sT.trans s2), stp_lt fit.go zlt, go3⟩
    · rintro σ Hb ⟨a, v4, v5, rfl, sa', lt', go'⟩
      rw [ph.1, List.drop_length] at go'
      have ea : a = jend := Option.some.inj go'
      subst ea
      have s0b : Same H Hb := s1.trans sa'
      obtain ⟨d, ed⟩ : ∃ d, rs[a]? = some d := ⟨_, List.getElem?_eq_getElem lt'⟩
      obtain ⟨x, hx1, hx2⟩ := rows.2 _ _ ed
      rw [showAt_of ed] at k
      have hx3 := hx2.same s0b
      obtain ⟨q, rfl⟩ : ∃ q, x = .ref q := by
        cases d with
        | ask op ns => obtain ⟨q, _, e, _⟩ := hx2; exact ⟨q, e⟩
        | go n => obtain ⟨q, e, _⟩ := hx2; exact ⟨q, e⟩
        | fin u => obtain ⟨q, e, _⟩ := hx2; exact ⟨q, e⟩
      exact ⟨_, rfl, m, CM, dm, fm, _, rfl, s0b _ _ hm, TM.cl, TM.n_lines, mf.lines, _, rfl, l, _, _, _, rfl, rfl, SqL.of (s0b _ _ hl), atI_nat hx1, q, d, rfl, hx3, fun t' H' s' e' => k t' H' (s0b.trans s') e'⟩
end
end Mine

set_option maxRecDepth 100000
set_option maxHeartbeats 4000000
/-! sorted(xs), xs a list of data that can be compared place by place -/
namespace L2
open PySem PySem.Spec PyProof.Rows
/-- the order of such data -/
abbrev leD : V × PyData → V × PyData → Bool := PySem.W.dataLe false (fun z : V × PyData => z.2)
abbrev leP : PyData → PyData → Bool := PySem.W.dataLe false (fun z : PyData => z)
def rSortedD (K : PySem.W.Frag) : List V → Hp → VK → Prop := fun vs H Q => ∃ (a : Addr) (zs : List (V × PyData)), vs = [V.ref a] ∧ SqL K H a (zs.map (·.1)) ∧ (∀ z ∈ zs, Dp K H z.1 z.2 ∧ ∃ t, z.1 = V.ref t) ∧ PySem.W.AllAlike (zs.map (·.2)) ∧ PySem.W.Sortable (zs.map (·.2)) ∧ (∀ z ∈ zs, z.2.depth ≤ 60) ∧
  ∀ p, H p = none → Q (.ref p) (upd H p (.lst ((zs.mergeSort leD).map (·.1))))
theorem each_of {α β : Type} {R : α → β → Prop} {S : β → α → Prop} : ∀ {xs : List α} {ys : List β}, Paired R xs ys → (∀ x y, R x y → S y x) → PySem.W.EachIs S ys xs
  | _, _, .nil, _ => .nil
  | _, _, .cons h t, k => .cons (k _ _ h) (each_of t k)
theorem each_zip {R : V → Value → Prop} : ∀ {zs : List (V × PyData)} {ys : List Value}, Paired R (zs.map (·.1)) ys → PySem.W.EachIs (fun v z => z ∈ zs ∧ R z.1 v) ys zs
  | [], _, h => by
    cases h
    exact .nil
  | z :: zs, _, h => by
    cases h with
    | cons h1 h2 => exact .cons ⟨List.mem_cons_self, h1⟩ ((each_zip h2).mono fun v b ⟨m, r⟩ => ⟨List.mem_cons_of_mem _ m, r⟩)
theorem vals_of_each : ∀ {out : List Value} {zs : List (V × PyData)}, PySem.W.EachIs (fun v z => RelV z.1 v) out zs → Vals (zs.map (·.1)) out
  | _, _, .nil => .nil
  | _, _, .cons h t => .cons h (vals_of_each t)
section
variable {X : Cx}
theorem cr_sortedD (hu : X.A.units + 64 < cLine) : CallR X (.builtin "sorted") (rSortedD X.K) := by
  intro pins s σ H vs us Q I r h
  obtain ⟨a, zs, rfl, hs, hx, al, so, dep, q⟩ := h
  obtain ⟨its, rv, hl, hz⟩ := I.list hs
  obtain ⟨u, rfl, ru⟩ := vals1 r
  obtain rfl : u = Value.ref a := ru
  have e := each_zip rv
  have hz2 : zs.length ≤ sizeLine := by rw [← List.length_map (f := fun z : V × PyData => z.1) (as := zs)]; exact hz
  refine PySem.W.sorted_data (R := fun v z => RelV z.1 v) (vs := its) (bs := zs) (enc := fun z : V × PyData => z.2) hl.isList (e.mono fun v z h => h.2) (e.mono fun v z h => Dp.reads I _ _ _ (hx z h.1).1 h.2) al so hz2 (fun z m => ?_) fun out ho he => ?_
  · have := dep z m
    omega
  · have rv2 := vals_of_each he
    obtain ⟨n, hn⟩ := sortedAll_at s.heap its (List.toArray out)
    have hd : s.heap.objs.size ≤ s.heap.objs.size + 1 := Nat.le_succ _
    refine ⟨.ref (s.heap.objs.size + 1), upd H (s.heap.objs.size + 1) (.lst ((zs.mergeSort leD).map (·.1))), I.laid (t' := s.toks) (fun b o q => sortedAll_old q) hd ⟨?_, out, n, rv2, hn⟩, rfl, q _ (I.hok.fresh hd)⟩
    rw [List.length_map, List.length_mergeSort]
    exact hz2
end
/-! two rearrangements of alike data are sorted into lists that are == -/
theorem toks_eq : ∀ {x y : PyData}, PySem.W.alike x y = true → PySem.W.keyToks x = PySem.W.keyToks y → PyData.eqv x y = true := by
  intro x y al e
  cases h : PyData.eqv x y with
  | true => rfl
  | false =>
    have q := (PySem.W.toks_eqv x y al).2 h [] [.inl 0]
    rw [e, List.append_nil, PyProof.Rows.lex_irrefl (O := PyProof.Rows.itemOrd)] at q
    have z : ∀ l : List (Int ⊕ List Nat), PyProof.Rows.lexLt PyProof.Rows.itemOrd l (l ++ [.inl 0]) = true := by
      intro l
      have := PySem.W.lex_pre l [] [.inl 0]
      rw [List.append_nil] at this
      rw [this]
      rfl
    rw [z] at q
    cases q
abbrev leT : List (Int ⊕ List Nat) → List (Int ⊕ List Nat) → Bool := PySem.W.sortLe (PyProof.Rows.listOrd PyProof.Rows.itemOrd) false (fun z => z)
theorem leT_anti (x y : List (Int ⊕ List Nat)) (h1 : leT x y = true) (h2 : leT y x = true) : x = y := by
  refine (PyProof.Rows.listOrd PyProof.Rows.itemOrd).total x y ?_ ?_
  · have : (!(PyProof.Rows.listOrd PyProof.Rows.itemOrd).blt x y) = true := h2
    simpa using this
  · have : (!(PyProof.Rows.listOrd PyProof.Rows.itemOrd).blt y x) = true := h1
    simpa using this
theorem sort_toks {l m : List PyData} (p : l.Perm m) : (l.mergeSort leP).map PySem.W.keyToks = (m.mergeSort leP).map PySem.W.keyToks := by
  have tot := PySem.W.sortLe_total (PyProof.Rows.listOrd PyProof.Rows.itemOrd) false (fun z : List (Int ⊕ List Nat) => z)
  have one : ∀ l : List PyData, (l.mergeSort leP).map PySem.W.keyToks = (l.map PySem.W.keyToks).mergeSort leT := fun l => PySem.W.sort_maps PySem.W.keyToks fun _ _ _ _ => rfl
  rw [one, one]
  refine PySem.W.Srt.the_of_perm leT tot.trans (fun x y => by simpa using tot.total x y) leT_anti ((List.mergeSort_perm _ _).trans (p.map _)) ?_
  exact List.pairwise_mergeSort tot.trans (fun x y => by simpa using tot.total x y) _
theorem eqv_all_of : ∀ {l m : List PyData}, l.map PySem.W.keyToks = m.map PySem.W.keyToks → (∀ x ∈ l, ∀ y ∈ m, PySem.W.alike x y = true) → PyData.eqvAll l m = true
  | [], [], _, _ => by simp [PyData.eqvAll]
  | [], _ :: _, e, _ => by simp at e
  | _ :: _, [], e, _ => by simp at e
  | x :: l, y :: m, e, al => by
    rw [List.map_cons, List.map_cons] at e
    injection e with e1 e2
    rw [PySem.W.eqv_all_cons, toks_eq (al x List.mem_cons_self y List.mem_cons_self) e1, eqv_all_of e2 fun a ha b hb => al a (List.mem_cons_of_mem _ ha) b (List.mem_cons_of_mem _ hb)]
    rfl
theorem sorts_eqv {l m : List PyData} (p : l.Perm m) (al : PySem.W.AllAlike l) : PyData.eqvAll (l.mergeSort leP) (m.mergeSort leP) = true :=
  eqv_all_of (sort_toks p) fun x hx y hy => al x ((List.mergeSort_perm _ _).mem_iff.mp hx) y (p.mem_iff.mpr ((List.mergeSort_perm _ _).mem_iff.mp hy))
theorem sortD_snd (zs : List (V × PyData)) : (zs.mergeSort leD).map (·.2) = (zs.map (·.2)).mergeSort leP := PySem.W.sort_maps (fun z : V × PyData => z.2) fun _ _ _ _ => rfl
theorem sortD_mem {zs : List (V × PyData)} {z : V × PyData} : z ∈ zs.mergeSort leD ↔ z ∈ zs := (List.mergeSort_perm _ _).mem_iff
end L2

set_option maxRecDepth 100000
set_option maxHeartbeats 4000000
namespace Mine
open PySem L2
abbrev s_stand_init : Stmt := inClass (top 46) 0
abbrev s_stand_shows : Stmt := inClass (top 46) 1
abbrev s_stand_past : Stmt := inClass (top 46) 2
abbrev s_stand_call : Stmt := inClass (top 46) 3
abbrev s_stand_len : Stmt := inClass (top 46) 4
abbrev s_stand_at : Stmt := top 47
abbrev s_is_answer_to : Stmt := top 48
abbrev s_alike_from : Stmt := top 49
structure StandC (K : PySem.W.Frag) (C : Addr) : Prop where
  cl : Cls K C
  n_body : NoAttr K C "body"
  n_at : NoAttr K C "at"
  n_history : NoAttr K C "history"
structure StandF (fs : List (Str × V)) (bd : Addr) (j : Nat) (ht : Addr) : Prop where
  body : fs.lookup ("body" : Str) = some (.ref bd)
  at_ : fs.lookup ("at" : Str) = some (.int (j : Int))
  history : fs.lookup ("history" : Str) = some (.ref ht)
/-- a stand is there: of this body, at this row of rest, behind this history -/
def StandAt (CS : Addr) (H : Hp) (sd bd : Addr) (j : Nat) (ws : List (Str × Nat)) : Prop := ∃ dx fs ht, H sd = some (.ins CS dx fs) ∧ StandF fs bd j ht ∧ HistT H ht ws
theorem StandAt.same {CS : Addr} {H H' : Hp} {sd bd : Addr} {j : Nat} {ws : List (Str × Nat)} (s : Same H H') (h : StandAt CS H sd bd j ws) : StandAt CS H' sd bd j ws := by
  obtain ⟨dx, fs, ht, h1, h2, h3⟩ := h
  exact ⟨dx, fs, ht, s _ _ h1, h2, h3.same s⟩
theorem StandAt.but {CS : Addr} {H H' : Hp} {a sd bd : Addr} {xs : List V} {j : Nat} {ws : List (Str × Nat)} (s : But H H' a) (ha : H a = some (.lst xs)) (h : StandAt CS H sd bd j ws) : StandAt CS H' sd bd j ws := by
  obtain ⟨dx, fs, ht, h1, h2, vs, h3, h4, h5⟩ := h
  refine ⟨dx, fs, ht, s _ _ (fun z => by rw [z, ha] at h1; cases h1) h1, h2, vs, s _ _ (fun z => by rw [z, ha] at h3; cases h3) h3, h4, fun k p e => ?_⟩
  obtain ⟨q, e1, e2⟩ := h5 k p e
  exact ⟨q, e1, s _ _ (fun z => by rw [z, ha] at e2; cases e2) e2⟩
def spSInit (CB CM CS : Addr) : Sp := fun vs H Q _ => ∃ (sd bd dx : Addr) (o : Ops) (rs : List RowD) (b : Nat), vs = [.ref sd, .ref bd] ∧ H sd = some (.ins CS dx []) ∧ sd ≠ bd ∧ BodyAt CB CM H bd o rs b ∧ Fit rs ∧
  ∀ (fs : List (Str × V)) (ht : Addr) (H' : Hp), H ht = none → ht ≠ sd → SameX sd H H' → H' sd = some (.ins CS dx fs) → StandF fs bd (stp rs b) ht → fs.length ≤ 3 → H' ht = some (.tup []) → Q .non H'
def spStandAt (CB CM CS : Addr) : Sp := fun vs H Q _ => ∃ (bd ht : Addr) (o : Ops) (rs : List RowD) (b j : Nat) (ws : List (Str × Nat)), vs = [.ref bd, .int (j : Int), .ref ht] ∧ BodyAt CB CM H bd o rs b ∧ Fit rs ∧ HistT H ht ws ∧
  ∀ (sd : Addr) (H' : Hp), Same H H' → H sd = none → StandAt CS H' sd bd j ws → Q (.ref sd) H'
def spStand (CS : Addr) : Sp := fun vs H Q E => ∃ (sd bd : Addr) (j : Nat) (ws : List (Str × Nat)), vs = [.ref sd] ∧ StandAt CS H sd bd j ws ∧ ∀ ht, HistT H ht ws → Q (.ref ht) H
def spSLen (CS : Addr) : Sp := fun vs H Q E => ∃ (sd bd : Addr) (j : Nat) (ws : List (Str × Nat)), vs = [.ref sd] ∧ StandAt CS H sd bd j ws ∧ Q (.int (ws.length : Int)) H
def spSShows (CB CM CS : Addr) : Sp := fun vs H Q E => ∃ (sd bd : Addr) (o : Ops) (rs : List RowD) (b j : Nat) (ws : List (Str × Nat)), vs = [.ref sd] ∧ StandAt CS H sd bd j ws ∧ BodyAt CB CM H bd o rs b ∧ j < rs.length ∧
  ∀ (t : Addr) (H' : Hp), Same H H' → H' t = some (.tup ((showAt rs j).map V.str)) → Q (.ref t) H'
def spAnswer : Sp := fun vs H Q _ => ∃ (ln : V) (op : Str) (ns : List Int) (k : Nat), vs = [ln, .int (k : Int)] ∧ TRow H ln (.ask op ns) ∧ k < ns.length ∧ ∀ H' : Hp, Same H H' → Q (.bl true) H'
def spSCall (CB CM CS : Addr) : Sp := fun vs H Q _ => ∃ (sd bd : Addr) (o : Ops) (rs : List RowD) (b j k : Nat) (ws : List (Str × Nat)) (op : Str) (ns : List Int) (z : Int), vs = [.ref sd, .int (k : Int)] ∧ StandAt CS H sd bd j ws ∧ BodyAt CB CM H bd o rs b ∧ Fit rs ∧ rs[j]? = some (.ask op ns) ∧ ns[k]? = some z ∧ ws.length ≤ 1000 ∧
  ∀ (t : Addr) (H' : Hp), Same H H' → H t = none → StandAt CS H' t bd (stp rs z.toNat) (ws ++ [(op, k)]) → Q (.ref t) H'
def spAlikeFrom (CB CM CS : Addr) : Sp := fun vs H Q _ => ∃ (s1 s2 bd : Addr) (o : Ops) (rs : List RowD) (b i j : Nat) (ws1 ws2 : List (Str × Nat)), vs = [.ref s1, .ref s2] ∧ StandAt CS H s1 bd i ws1 ∧ StandAt CS H s2 bd j ws2 ∧ BodyAt CB CM H bd o rs b ∧ o.length ≤ 8 ∧ (o.map (·.1)).Nodup ∧ Fit rs ∧ rs.length ≤ 1000 ∧ TxOk rs ∧ (∀ d ∈ rs, (nextsD d).length ≤ 1000) ∧ Even rs rs ∧ i < rs.length ∧ j < rs.length ∧
  ∀ (v : Bool) (H' : Hp), Same H H' → (v = true ↔ ∀ u, ¬ DiffP rs rs (i, j) u) → Q (.bl v) H'
section
variable {P : Program} {w : World} {K : PySem.W.Frag} {mg : Str → Option Value} {base : Heap}
variable {fII fIW CB CM CS CW a_is_row a_is_index a_is_name a_is_text_in a_are_counts a_word_of a_are_nexts a_is_line a_line_of a_are_operations a_shows a_answer a_stand_at f_stand a_joined a_part f_walk : Addr}
theorem sc_stand_init : FnScope ["self", "body"] ["self", "body"] (defScope s_stand_init) := ⟨rfl, rfl, rfl, by decide +kernel, rfl, by decide +kernel, by decide +kernel⟩
theorem ok_stand_init {f : Addr} {fd : FuncData} (F : Fun K "__init__" "Stand.__init__" s_stand_init f fd) (TB : BodyC K CB) (TM : MachC K CM) (TS : StandC K CS) : FnOk P w K mg base CX0 1 f fd ["self", "body"] (spSInit CB CM CS) := by
  refine F.ok sc_stand_init (fun vs H Q E h => ?_) (fun cdv A outer s H vs Q E hr h => ?_)
  · obtain ⟨sd, bd, dx, o, rs, b, rfl, _⟩ := h
    rfl
  · obtain ⟨sd, bd, dx, o, rs, b, rfl, hs, ne, B, fit, k⟩ := h
    refine ⟨_, (pss_cons (ps_fld (pv 0) (pv 1) rfl)
      (pss_cons (ps_fld (pv 0) (pe_ix ix_list (pe_fld (pe_fld (pv 1) rfl) rfl) (pe_fld (pe_fld (pv 1) rfl) rfl) (fun _ _ => rfl)) rfl)
      (pss_one (ps_fld (pv 0) (pe_tupG pa_nil) rfl)))), ?_⟩
    obtain ⟨m, t, l, sa, aa, ea, o', xs, as, es, ⟨⟨dxb, fb, hb, lb⟩, ⟨dm, fm, hm, mf⟩, htab, ord, hl, rows, blt, _⟩⟩ := B
    have L0 : ([] : List (Str × V)).length ≤ 0 := Nat.le_refl _
    have L1 := putF_len (f := "body") (v := .ref bd) L0
    have L2 := putF_len (f := "at") (v := .int ((stp rs b : Nat) : Int)) L1
    refine ⟨_, rfl, _, rfl, sd, CS, dx, _, rfl, hs, TS.cl, TS.n_body, Nat.lt_of_le_of_lt L0 (by decide), ?_⟩
    have e1 : upd H sd (.ins CS dx (putF "body" (.ref bd) [])) sd = some (.ins CS dx (putF "body" (.ref bd) [])) := upd_same
    have x1 : SameX sd H (upd H sd (.ins CS dx (putF "body" (.ref bd) []))) := SameX.upd fun _ _ _ e => e
    generalize upd H sd (.ins CS dx (putF "body" (.ref bd) [])) = H1 at e1 x1 ⊢
    have nm : m ≠ sd := fun z => by
      rw [z, hs] at hm
      injection hm with hm
      injection hm with _ _ hm
      subst hm
      exact nomatch mf.stops
    have hb1 := x1 _ _ ne.symm hb
    have hm1 := x1 _ _ nm hm
    have hs1 : H1 sa = _ := x1.at hs mf.hs (fun z => nomatch z)
    refine ⟨_, rfl, bd, CB, dxb, fb, _, rfl, hb1, TB.cl, TB.n_machine, lb, m, CM, dm, fm, _, rfl, hm1, TM.cl, TM.n_stops, mf.stops, ?_⟩
    refine ⟨_, rfl, bd, CB, dxb, fb, _, rfl, hb1, TB.cl, TB.n_machine, lb, m, CM, dm, fm, _, rfl, hm1, TM.cl, TM.n_begin, mf.begin, ?_⟩
    refine ⟨sa, _, _, _, rfl, rfl, SqL.of hs1, fl_at blt, ?_⟩
    refine ⟨_, rfl, sd, CS, dx, _, rfl, e1, TS.cl, TS.n_at, Nat.lt_of_le_of_lt L1 (by decide), ?_⟩
    have e2 : upd H1 sd (.ins CS dx (putF "at" (.int ((stp rs b : Nat) : Int)) (putF "body" (.ref bd) []))) sd = some (.ins CS dx (putF "at" (.int ((stp rs b : Nat) : Int)) (putF "body" (.ref bd) []))) := upd_same
    have x2 : SameX sd H (upd H1 sd (.ins CS dx (putF "at" (.int ((stp rs b : Nat) : Int)) (putF "body" (.ref bd) [])))) := SameX.upd x1
    generalize upd H1 sd (.ins CS dx (putF "at" (.int ((stp rs b : Nat) : Int)) (putF "body" (.ref bd) []))) = H2 at e2 x2 ⊢
    refine ⟨Nat.zero_le _, fun ht H3 n3 s3 e3 => ?_⟩
    refine ⟨_, rfl, sd, CS, dx, _, rfl, s3 _ _ e2, TS.cl, TS.n_history, Nat.lt_of_le_of_lt L2 (by decide), ?_⟩
    have nts : ht ≠ sd := fun z => by
      rw [z, e2] at n3
      cases n3
    refine k _ ht _ (SameX.off x2 n3 nts) nts (SameX.upd fun b o nb e => s3 _ _ (x2 b o nb e)) upd_same ⟨?_, ?_, ?_⟩ (putF_len L2) ?_
    · rw [lookup_putF, if_neg (by decide +kernel), lookup_putF, if_neg (by decide +kernel), lookup_putF, if_pos rfl]
    · rw [lookup_putF, if_neg (by decide +kernel), lookup_putF, if_pos rfl]
    · rw [lookup_putF, if_pos rfl]
    · rw [upd_ne nts]
      exact e3
theorem sc_stand_shows : FnScope ["self"] ["self"] (defScope s_stand_shows) := ⟨rfl, rfl, rfl, by decide +kernel, rfl, by decide +kernel, by decide +kernel⟩
theorem ok_stand_shows {f : Addr} {fd fd_shows : FuncData} (F : Fun K "shows" "Stand.shows" s_stand_shows f fd) (TB : BodyC K CB) (TM : MachC K CM) (TS : StandC K CS)
    (GS : FnOk P w K mg base CX0 1 a_shows fd_shows ["line"] spShows) (b_shows_of : Binds K fd_shows ["line"] []) (g_shows_of : mg "shows_of" = some (.ref a_shows)) (k_shows_of : PySem.W.keepIn K (.ref a_shows) = true) : FnOk P w K mg base CX0 2 f fd ["self"] (spSShows CB CM CS) := by
  refine F.ok sc_stand_shows (fun vs H Q E h => ?_) (fun cdv A outer s H vs Q E hr h => ?_)
  · obtain ⟨sd, bd, o, rs, b, j, ws, rfl, _⟩ := h
    rfl
  · obtain ⟨sd, bd, o, rs, b, j, ws, rfl, S, B, hj, k⟩ := h
    refine ⟨_, (pss_one (ps_ret (pe_call GS (hr.mono (by decide)) (by rfl) g_shows_of k_shows_of b_shows_of .nil pass0 (pa_cons (pe_ix ix_list (pe_fld (pe_fld (pe_fld (pv 0) rfl) rfl) rfl) (pe_fld (pv 0) rfl) (fun _ _ => rfl)) pa_nil)))), ?_⟩
    obtain ⟨m, t, l, sa, aa, ea, o', xs, as, es, ⟨⟨dxb, fb, hb, lb⟩, ⟨dm, fm, hm, mf⟩, htab, ord, hl, rows, blt, _⟩⟩ := B
    obtain ⟨dx, fs, ht, hs, sf, hh⟩ := S
    obtain ⟨d, ed⟩ : ∃ d, rs[j]? = some d := ⟨_, List.getElem?_eq_getElem hj⟩
    obtain ⟨x, hx1, hx2⟩ := rows.2 _ _ ed
    rw [showAt_of ed] at k
    refine ⟨_, rfl, sd, CS, dx, fs, _, rfl, hs, TS.cl, TS.n_body, sf.body, bd, CB, dxb, fb, _, rfl, hb, TB.cl, TB.n_machine, lb, m, CM, dm, fm, _, rfl, hm, TM.cl, TM.n_lines, mf.lines, ?_⟩
    refine ⟨_, rfl, sd, CS, dx, fs, _, rfl, hs, TS.cl, TS.n_at, sf.at_, ?_⟩
    have hx3 := hx2
    obtain ⟨q, rfl⟩ : ∃ q, x = .ref q := by
      cases d with
      | ask op ns => obtain ⟨q, _, e, _⟩ := hx2; exact ⟨q, e⟩
      | go n => obtain ⟨q, e, _⟩ := hx2; exact ⟨q, e⟩
      | fin u => obtain ⟨q, e, _⟩ := hx2; exact ⟨q, e⟩
    exact ⟨l, _, _, _, rfl, rfl, SqL.of hl, atI_nat hx1, q, d, rfl, hx3, fun t' H' s' e' => k t' H' s' e'⟩
theorem sc_stand_past : FnScope ["self"] ["self"] (defScope s_stand_past) := ⟨rfl, rfl, rfl, by decide +kernel, rfl, by decide +kernel, by decide +kernel⟩
theorem ok_stand_past {f : Addr} {fd : FuncData} (F : Fun K "past" "Stand.past" s_stand_past f fd) (TS : StandC K CS) : FnOk P w K mg base CX0 1 f fd ["self"] (spStand CS) := by
  refine F.ok sc_stand_past (fun vs H Q E h => ?_) (fun cdv A outer s H vs Q E hr h => ?_)
  · obtain ⟨sd, bd, j, ws, rfl, _⟩ := h
    rfl
  · obtain ⟨sd, bd, j, ws, rfl, ⟨dx, fs, ht, hs, sf, hh⟩, k⟩ := h
    refine ⟨_, (pss_one (ps_ret (pe_fld (pv 0) rfl))), ?_⟩
    exact ⟨_, rfl, sd, CS, dx, fs, _, rfl, hs, TS.cl, TS.n_history, sf.history, k ht hh⟩
theorem sc_stand_len : FnScope ["self"] ["self"] (defScope s_stand_len) := ⟨rfl, rfl, rfl, by decide +kernel, rfl, by decide +kernel, by decide +kernel⟩
theorem ok_stand_len {f : Addr} {fd : FuncData} (F : Fun K "__len__" "Stand.__len__" s_stand_len f fd) (T : TxtF K mg fII fIW) (TS : StandC K CS) : FnOk P w K mg base CX0 1 f fd ["self"] (spSLen CS) := by
  refine F.ok sc_stand_len (fun vs H Q E h => ?_) (fun cdv A outer s H vs Q E hr h => ?_)
  · obtain ⟨sd, bd, j, ws, rfl, _⟩ := h
    rfl
  · obtain ⟨sd, bd, j, ws, rfl, ⟨dx, fs, ht, hs, sf, hv, hh, ph⟩, k⟩ := h
    refine ⟨_, (pss_one (ps_ret (pe_callB call_len_seq (by rfl) T.b_len PySem.boot_len (pa_cons (pe_fld (pv 0) rfl) pa_nil)))), ?_⟩
    rw [← ph.1] at k
    exact ⟨_, rfl, sd, CS, dx, fs, _, rfl, hs, TS.cl, TS.n_history, sf.history, ht, _, rfl, .inr (.inl (.inl hh)), k⟩
theorem sc_is_answer_to : FnScope ["line", "answer"] ["line", "answer"] (defScope s_is_answer_to) := ⟨rfl, rfl, rfl, by decide +kernel, rfl, by decide +kernel, by decide +kernel⟩
theorem ok_is_answer_to {f : Addr} {fd : FuncData} (F : Fun K "is_answer_to" "is_answer_to" s_is_answer_to f fd) (T : TxtF K mg fII fIW) (TG : TxtG K mg a_is_row a_is_index a_is_name a_is_text_in a_are_counts a_word_of a_are_nexts a_is_line a_line_of a_are_operations)
    {fd_is_index : FuncData} (GIx : FnOk P w K mg base CX0 3 a_is_index fd_is_index ["thing", "many"] (spIndex K)) (b_is_index : Binds K fd_is_index ["thing", "many"] []) : FnOk P w K mg base CX0 4 f fd ["line", "answer"] spAnswer := by
  refine F.ok sc_is_answer_to (fun vs H Q E h => ?_) (fun cdv A outer s H vs Q E hr h => ?_)
  · obtain ⟨ln, op, ns, k, rfl, _⟩ := h
    rfl
  · obtain ⟨ln, op, ns, kk, rfl, row, lt, k⟩ := h
    refine ⟨_, (pss_one (ps_ret (pe_and (pe_cmpR op_eq (pe_ix ix_tup (pv 0) pe_int (fun _ _ => rfl)) pe_str (nomark _)) (pe_one (pe_call GIx (hr.mono (by decide)) (by rfl) TG.g_is_index TG.k_is_index b_is_index .nil pass0 (pa_cons (pv 1) (pa_cons (pe_callB call_len_seq (by rfl) T.b_len PySem.boot_len (pa_cons (pe_ix ix_tup (pv 0) pe_int (fun _ _ => rfl)) pa_nil)) pa_nil))))))), ?_⟩
    obtain ⟨ra, rt, rfl, hr1, hr2⟩ := row
    refine ⟨_, rfl, _, _, _, _, rfl, rfl, .inl (.inl hr1), at0', rfl, _, rfl, ?_⟩
    rw [strEq]
    refine iteT ?_
    refine ⟨_, rfl, _, rfl, _, _, _, _, rfl, rfl, .inl (.inl hr1), at2', rt, _, rfl, .inr (.inl (.inl hr2)), ?_⟩
    refine ⟨_, _, _, rfl, btInt _, ?_⟩
    rw [List.length_map, inW_int (by omega) (by omega)]
    exact k _ (Same.refl _)
theorem sc_stand_at : FnScope ["body", "at", "history", "stand"] ["body", "at", "history"] (defScope s_stand_at) := ⟨rfl, rfl, rfl, by decide +kernel, rfl, by decide +kernel, by decide +kernel⟩
theorem ok_stand_at {f : Addr} {fd fd_stand : FuncData} (F : Fun K "stand_at" "stand_at" s_stand_at f fd) (TS : StandC K CS) (MS : Mk K CS f_stand) (GSI : FnOk P w K mg base CX0 1 f_stand fd_stand ["self", "body"] (spSInit CB CM CS)) (b_Stand : Binds K fd_stand ["self", "body"] []) (g_Stand : mg "Stand" = some (.ref CS)) : FnOk P w K mg base CX0 3 f fd ["body", "at", "history"] (spStandAt CB CM CS) := by
  refine F.ok sc_stand_at (fun vs H Q E h => ?_) (fun cdv A outer s H vs Q E hr h => ?_)
  · obtain ⟨bd, ht, o, rs, b, j, ws, rfl, _⟩ := h
    rfl
  · obtain ⟨bd, ht, o, rs, b, j, ws, rfl, B, fit, hh, k⟩ := h
    refine ⟨_, (pss_cons (ps_set (i := 3) sc_stand_at.nd rfl (Or.inl rfl) (pe_make MS GSI (hr.mono (by decide)) (by rfl) g_Stand b_Stand .nil pass0 (pa_cons (pv 0) pa_nil)))
      (pss_cons (ps_fld (pv 3) (pv 1) rfl)
      (pss_cons (ps_fld (pv 3) (pv 2) rfl)
      (pss_one (ps_ret (pv 3)))))), ?_⟩
    refine ⟨_, rfl, fun sd dx nsd ndx nex => ?_⟩
    have sm : Same H (upd (upd H dx (.own sd)) sd (.ins CS dx [])) := same_updN (same_updN (Same.refl _) ndx) nsd
    have es : upd (upd H dx (.own sd)) sd (.ins CS dx []) sd = some (.ins CS dx []) := upd_same
    generalize upd (upd H dx (.own sd)) sd (.ins CS dx []) = H1 at sm es ⊢
    have hbd : ∃ u, H bd = some u := by
      obtain ⟨m, t, l, sa, aa, ea, o', xs, as, es, ⟨⟨dxb, fb, hb, lb⟩, _⟩⟩ := B
      exact ⟨_, hb⟩
    have nsb : sd ≠ bd := fun z => by
      obtain ⟨u, e⟩ := hbd
      rw [z, e] at nsd
      cases nsd
    refine ⟨sd, bd, dx, o, rs, b, rfl, es, nsb, B.same sm, fit, fun fs h0 H2 n2 nn x2 e2 sf fl eh => ⟨rfl, ?_⟩⟩
    have s2 : Same H H2 := fun b' u e => x2 b' u (fun z => by rw [z, nsd] at e; cases e) (sm b' u e)
    refine ⟨_, rfl, _, rfl, sd, CS, dx, _, rfl, e2, TS.cl, TS.n_at, Nat.lt_of_le_of_lt fl (by decide), ?_⟩
    refine ⟨_, rfl, _, rfl, sd, CS, dx, _, rfl, upd_same, TS.cl, TS.n_history, Nat.lt_of_le_of_lt (putF_len fl) (by decide), ?_⟩
    rw [upd_upd]
    have s3 : ∀ u, Same H (upd H2 sd u) := fun u b' v e => by
      rw [upd_ne (fun z => by rw [z, nsd] at e; cases e)]
      exact s2 _ _ e
    refine ⟨_, rfl, k sd _ (s3 _) nsd ⟨dx, _, ht, upd_same, ⟨?_, ?_, ?_⟩, hh.same (s3 _)⟩⟩
    · rw [lookup_putF, if_neg (by decide +kernel), lookup_putF, if_neg (by decide +kernel)]
      exact sf.body
    · rw [lookup_putF, if_neg (by decide +kernel), lookup_putF, if_pos rfl]
    · rw [lookup_putF, if_pos rfl]
theorem sc_stand_call : FnScope ["self", "answer", "line"] ["self", "answer"] (defScope s_stand_call) := ⟨rfl, rfl, rfl, by decide +kernel, rfl, by decide +kernel, by decide +kernel⟩
theorem ok_stand_call {f : Addr} {fd fd_answer fd_stand_at : FuncData} (F : Fun K "__call__" "Stand.__call__" s_stand_call f fd) (TB : BodyC K CB) (TM : MachC K CM) (TS : StandC K CS)
    (GIA : FnOk P w K mg base CX0 4 a_answer fd_answer ["line", "answer"] spAnswer) (b_is_answer : Binds K fd_answer ["line", "answer"] []) (g_is_answer : mg "is_answer_to" = some (.ref a_answer)) (k_is_answer : PySem.W.keepIn K (.ref a_answer) = true)
    (GSA : FnOk P w K mg base CX0 3 a_stand_at fd_stand_at ["body", "at", "history"] (spStandAt CB CM CS)) (b_stand_at : Binds K fd_stand_at ["body", "at", "history"] []) (g_stand_at : mg "stand_at" = some (.ref a_stand_at)) (k_stand_at : PySem.W.keepIn K (.ref a_stand_at) = true) : FnOk P w K mg base CX0 5 f fd ["self", "answer"] (spSCall CB CM CS) := by
  refine F.ok sc_stand_call (fun vs H Q E h => ?_) (fun cdv A outer s H vs Q E hr h => ?_)
  · obtain ⟨sd, bd, o, rs, b, j, k, ws, op, ns, z, rfl, _⟩ := h
    rfl
  · obtain ⟨sd, bd, o, rs, b, j, kk, ws, op, ns, z, rfl, S, B, fit, er, ez, few, k⟩ := h
    refine ⟨_, (pss_cons (ps_set (i := 2) sc_stand_call.nd rfl (Or.inl rfl) (pe_ix ix_list (pe_fld (pe_fld (pe_fld (pv 0) rfl) rfl) rfl) (pe_fld (pv 0) rfl) (fun _ _ => rfl)))
      (pss_cons (ps_if (pt_not (pt_val (pe_call GIA (hr.mono (by decide)) (by rfl) g_is_answer k_is_answer b_is_answer .nil pass0 (pa_cons (pv 2) (pa_cons (pv 1) pa_nil))))) (pss_one ps_no) pss_nil)
      (pss_one (ps_ret (pe_call GSA (hr.mono (by decide)) (by rfl) g_stand_at k_stand_at b_stand_at .nil pass0 (pa_cons (pe_fld (pv 0) rfl) (pa_cons (pe_ix ix_list (pe_fld (pe_fld (pe_fld (pv 0) rfl) rfl) rfl) (pe_ix ix_tup (pe_ix ix_tup (pv 2) pe_int (fun _ _ => rfl)) (pv 1) (fun _ _ => rfl)) (fun _ _ => rfl)) (pa_cons (pe_op op_catA (pe_fld (pv 0) rfl) (pe_tupG (pa_cons (pe_tupG (pa_cons (pe_ix ix_tup (pv 2) pe_int (fun _ _ => rfl)) (pa_cons (pv 1) pa_nil))) pa_nil))) pa_nil)))))))), ?_⟩
    have B0 := B
    obtain ⟨m, t, l, sa, aa, ea, o', xs, as, es, ⟨⟨dxb, fb, hb, lb⟩, ⟨dm, fm, hm, mf⟩, htab, ord, hl, rows, blt, _⟩⟩ := B
    obtain ⟨dx, fs, ht, hs, sf, hv, hh, ph⟩ := S
    obtain ⟨x, hx1, hx2⟩ := rows.2 _ _ er
    have row := hx2
    obtain ⟨ra, rt, rfl, hr1, hr2⟩ := hx2
    have ltk := (List.getElem?_eq_some_iff.mp ez).1
    refine ⟨_, rfl, sd, CS, dx, fs, _, rfl, hs, TS.cl, TS.n_body, sf.body, bd, CB, dxb, fb, _, rfl, hb, TB.cl, TB.n_machine, lb, m, CM, dm, fm, _, rfl, hm, TM.cl, TM.n_lines, mf.lines, ?_⟩
    refine ⟨_, rfl, sd, CS, dx, fs, _, rfl, hs, TS.cl, TS.n_at, sf.at_, ?_⟩
    refine ⟨l, _, _, _, rfl, rfl, SqL.of hl, atI_nat hx1, ?_⟩
    refine ⟨_, rfl, _, rfl, _, op, ns, kk, rfl, row, ltk, fun H1 s1 => ⟨_, rfl, ?_⟩⟩
    refine iteF ?_
    obtain ⟨z0, z1⟩ := fit.nexts er (show z ∈ nextsD (.ask op ns) from List.mem_of_getElem? ez)
    obtain ⟨zn, rfl⟩ : ∃ zn : Nat, z = (zn : Int) := ⟨z.toNat, by omega⟩
    have zlt : zn < rs.length := by omega
    have ezv : atI (ns.map V.int) ((kk : Nat) : Int) = some (V.int (zn : Int)) := atI_nat (by rw [List.getElem?_map, ez]; rfl)
    refine ⟨_, rfl, sd, CS, dx, fs, _, rfl, s1 _ _ hs, TS.cl, TS.n_body, sf.body, ?_⟩
    refine ⟨_, rfl, sd, CS, dx, fs, _, rfl, s1 _ _ hs, TS.cl, TS.n_body, sf.body, bd, CB, dxb, fb, _, rfl, s1 _ _ hb, TB.cl, TB.n_machine, lb, m, CM, dm, fm, _, rfl, s1 _ _ hm, TM.cl, TM.n_stops, mf.stops, ?_⟩
    refine ⟨_, rfl, _, _, _, _, rfl, rfl, .inl (.inl (s1 _ _ hr1)), at2', _, rfl, _, _, _, _, rfl, rfl, .inl (.inl (s1 _ _ hr2)), ezv, sa, _, _, _, rfl, rfl, SqL.of (s1 _ _ mf.hs), fl_at zlt, ?_⟩
    refine ⟨_, rfl, sd, CS, dx, fs, _, rfl, s1 _ _ hs, TS.cl, TS.n_history, sf.history, ?_⟩
    refine ⟨_, rfl, _, _, _, _, rfl, rfl, .inl (.inl (s1 _ _ hr1)), at1', _, rfl, two_ok _ _, fun q H2 n2 s2 e2 => ⟨one_ok _, fun u H3 n3 s3 e3 => ?_⟩⟩
    have s13 := s1.trans (s2.trans s3)
    have fin : ∀ (u' : Addr) (H4 : Hp), Same H3 H4 → HistT H4 u' (ws ++ [(op, kk)]) → spStandAt CB CM CS [.ref bd, .int ((stp rs zn : Nat) : Int), .ref u'] H4 Q E := fun u' H4 s4 hist =>
      ⟨bd, u', o, rs, b, stp rs zn, ws ++ [(op, kk)], rfl, B0.same (s13.trans s4), fit, hist, fun t' H' s' n' st => k t' H' ((s13.trans s4).trans s') (none_of (s13.trans s4) n') st⟩
    refine ⟨ht, u, hv, [.ref q], rfl, rfl, .inl (.inl (s13 _ _ hh)), .inl (.inl e3), ?_, fun zz => ?_, fun _ zz => (nomatch zz), fun nz _ p np => ?_⟩
    · rw [ph.1, sizeLine_eq]
      show ws.length + 1 ≤ _
      omega
    · have : ws = [] := List.length_eq_zero_iff.mp (by rw [← ph.1, zz]; rfl)
      subst this
      exact fin u H3 (Same.refl _) ⟨[.ref q], e3, (HPs.nil H3).snoc (s3 _ _ e2)⟩
    · exact fin p _ (sameNew np _) ⟨_, upd_same, ((ph.same s13).snoc (p := (op, kk)) (s3 _ _ e2)).same (sameNew np _)⟩
theorem sc_alike_from : FnScope ["one", "other", "machine", "other_machine"] ["one", "other"] (defScope s_alike_from) := ⟨rfl, rfl, rfl, by decide +kernel, rfl, by decide +kernel, by decide +kernel⟩
theorem ok_alike_from {f : Addr} {fd fd_joined fd_part fd_walk : FuncData} (F : Fun K "alike_from" "alike_from" s_alike_from f fd) (TB : BodyC K CB) (TM : MachC K CM) (TS : StandC K CS)
    (GJ : FnOk P w K mg base CX0 2 a_joined fd_joined ["tables"] spJoined) (b_joined : Binds K fd_joined ["tables"] []) (g_joined : mg "joined" = some (.ref a_joined)) (k_joined : PySem.W.keepIn K (.ref a_joined) = true)
    (GP : FnOk P w K mg base CX0 3 a_part fd_part ["walk"] (spPartF CW CM)) (b_parting_place : Binds K fd_part ["walk"] []) (g_parting_place : mg "parting_place" = some (.ref a_part)) (k_parting_place : PySem.W.keepIn K (.ref a_part) = true)
    (MW : Mk K CW f_walk) (GW : FnOk P w K mg base CX0 1 f_walk fd_walk ["self", "one", "other", "begin"] (spWInit CW)) (b_Walk : Binds K fd_walk ["self", "one", "other", "begin"] []) (g_Walk : mg "Walk" = some (.ref CW)) : FnOk P w K mg base CX0 4 f fd ["one", "other"] (spAlikeFrom CB CM CS) := by
  refine F.ok sc_alike_from (fun vs H Q E h => ?_) (fun cdv A outer s H vs Q E hr h => ?_)
  · obtain ⟨s1, s2, bd, o, rs, b, i, j, ws1, ws2, rfl, _⟩ := h
    rfl
  · obtain ⟨sd1, sd2, bd, o, rs, b, i, j, ws1, ws2, rfl, S1, S2, B, ol, ond, fit, big, tx, fw, ev, hi, hj, k⟩ := h
    refine ⟨_, (pss_cons (ps_par (i := 2) (j := 3) rfl sc_alike_from.nd rfl rfl (by decide) rfl rfl (pa_cons (pe_fld (pe_fld (pv 0) rfl) rfl) (pa_cons (pe_fld (pe_fld (pv 1) rfl) rfl) pa_nil)) rfl)
      (pss_cons (ps_expr (pe_call GJ (hr.mono (by decide)) (by rfl) g_joined k_joined b_joined .nil pass0 (pa_cons (pe_lstG (pa_cons (pe_fld (pv 2) rfl) (pa_cons (pe_fld (pv 3) rfl) pa_nil))) pa_nil)))
      (pss_one (ps_ret (pe_cmpR op_lt (pe_call GP (hr.mono (by decide)) (by rfl) g_parting_place k_parting_place b_parting_place .nil pass0 (pa_cons (pe_make MW GW (hr.mono (by decide)) (by rfl) g_Walk b_Walk .nil pass0 (pa_cons (pv 2) (pa_cons (pv 3) (pa_cons (pe_tupG (pa_cons (pe_fld (pv 0) rfl) (pa_cons (pe_fld (pv 1) rfl) pa_nil))) pa_nil)))) pa_nil)) pe_int (nomark _)))))), ?_⟩
    obtain ⟨dx1, fs1, ht1, hs1, sf1, _⟩ := S1
    obtain ⟨dx2, fs2, ht2, hs2, sf2, _⟩ := S2
    obtain ⟨m, dxb, fb, hb, lb, M⟩ := B.mach
    have M' := M
    obtain ⟨dm, fm, t, l, sa, aa, ea, o', xs, as, es, p⟩ := M'
    refine ⟨_, rfl, sd1, CS, dx1, fs1, _, rfl, hs1, TS.cl, TS.n_body, sf1.body, bd, CB, dxb, fb, _, rfl, hb, TB.cl, TB.n_machine, lb, ?_⟩
    refine ⟨_, rfl, sd2, CS, dx2, fs2, _, rfl, hs2, TS.cl, TS.n_body, sf2.body, bd, CB, dxb, fb, _, rfl, hb, TB.cl, TB.n_machine, lb, _, _, rfl, ?_⟩
    refine ⟨_, rfl, m, CM, dm, fm, _, rfl, p.hm, TM.cl, TM.n_counts, p.fs.counts, _, rfl, m, CM, dm, fm, _, rfl, p.hm, TM.cl, TM.n_counts, p.fs.counts, two_ok _ _, fun a H1 n1 s1 e1 => ?_⟩
    refine ⟨a, [(t, o'), (t, o')], opLook o, rfl, e1, fun tt htt => ?_, ?_, fun q H2 s2 => ?_⟩
    · have : tt = (t, o') := by
        rcases List.mem_cons.mp htt with z | z
        · exact z
        · exact List.mem_singleton.mp z
      subst this
      exact ⟨s1 _ _ p.ht, fun pp hpp => look_mem ond pp (p.ord.1.mem_iff.mp hpp)⟩
    · have h1 := p.ord.1.length_eq
      show o'.length + (o'.length + 0) < 64
      omega
    have s02 := s1.trans s2
    refine ⟨_, rfl, _, rfl, _, rfl, sd1, CS, dx1, fs1, _, rfl, s02 _ _ hs1, TS.cl, TS.n_at, sf1.at_, _, rfl, sd2, CS, dx2, fs2, _, rfl, s02 _ _ hs2, TS.cl, TS.n_at, sf2.at_, two_ok _ _, fun t3 H3 n3 s3 e3 => ?_⟩
    refine fun wk dx nwk ndx nex => ?_
    have sm : Same H3 (upd (upd H3 dx (.own wk)) wk (.ins CW dx [])) := same_updN (same_updN (Same.refl _) ndx) nwk
    have ew : upd (upd H3 dx (.own wk)) wk (.ins CW dx []) wk = some (.ins CW dx []) := upd_same
    generalize upd (upd H3 dx (.own wk)) wk (.ins CW dx []) = H4 at sm ew ⊢
    have e4 : PairT H4 t3 (i, j) := sm _ _ e3
    refine ⟨wk, m, m, t3, dx, (i, j), rfl, ew, e4, fun fs ma oa tt H5 nma noa neo x5 e5 wf em eo eot => ⟨rfl, ?_⟩⟩
    have s04 : Same H H4 := s02.trans (s3.trans sm)
    have nwH : H wk = none := none_of (s02.trans s3) nwk
    have s05 : Same H H5 := fun b o e => x5 b o (fun z => by rw [z, nwH] at e; cases e) (s04 b o e)
    have ntw : t3 ≠ wk := fun z => by
      unfold PairT at e4
      rw [z, ew] at e4
      cases e4
    have e5t : PairT H5 t3 (i, j) := x5 _ _ ntw e4
    refine ⟨H, wk, m, m, ma, oa, o, o, rs, rs, b, b, (i, j), rfl, ⟨⟨dx, fs, e5, wf⟩, ⟨_, em, (Prs.nil H5).snoc e5t⟩, ⟨_, eo, (Orgs.nil H5).snoc eot⟩, neo, s05, none_of s04 nma, none_of s04 noa⟩, M, M, fit, fit, by omega, by omega, tx, tx, fw, ev, ⟨hi, hj⟩, fun met org H6 W6 no => ?_, fun met org acc d q v H6 W6 few lam OO RR ed ev inq bad df ls => ?_⟩
    · exact ⟨_, _, rfl, rfl, k _ _ W6.same ⟨fun _ => no, fun _ => by decide⟩⟩
    · exact ⟨_, _, rfl, rfl, k _ _ W6.same ⟨fun h => absurd (of_decide_eq_true h) (by omega), fun h => absurd df (h v)⟩⟩
end
end Mine

set_option maxRecDepth 100000
set_option maxHeartbeats 4000000
namespace Mine
open PySem L2
abbrev s_nextL : Stmt := top 69
abbrev s_showL : Stmt := top 70
abbrev s_behindL : Stmt := top 71
def goD : RowD → Bool
  | .go _ => true
  | _ => false
theorem isGo_of {rs : List RowD} {i : Nat} {d : RowD} (e : rs[i]? = some d) : isGo rs i = goD d := by
  unfold isGo
  rw [e]
  cases d <;> rfl
/-- what a walk has seen so far -/
structure SeenW (rs : List RowD) (i t : Nat) : Prop where
  go : ∀ u, u < t → isGo rs (way rs u i) = true
  new : ∀ u v, u < v → v < t → way rs u i ≠ way rs v i
def wayL (rs : List RowD) (i t : Nat) : List Int := (List.range t).map fun j => (way rs j i : Int)
theorem wayL_get {rs : List RowD} {i t j : Nat} (h : j < t) : (wayL rs i t)[j]? = some (way rs j i : Int) := by
  unfold wayL
  rw [List.getElem?_map, List.getElem?_range h]
  rfl
theorem wayL_mem {rs : List RowD} {i t : Nat} {x : Int} : x ∈ wayL rs i t ↔ ∃ j, j < t ∧ x = (way rs j i : Int) := by
  unfold wayL
  rw [List.mem_map]
  exact ⟨fun ⟨j, h1, h2⟩ => ⟨j, List.mem_range.mp h1, h2.symm⟩, fun ⟨j, h1, h2⟩ => ⟨j, List.mem_range.mpr h1, h2.symm⟩⟩
theorem wayL_len {rs : List RowD} {i t : Nat} : (wayL rs i t).length = t := by
  unfold wayL
  rw [List.length_map, List.length_range]
theorem SeenW.le {rs : List RowD} {i t : Nat} (ok : GoOk rs) (hi : i < rs.length) (h : SeenW rs i t) : t ≤ rs.length := by
  have q := Mach.pigeon rs.length ((List.range t).map fun j => way rs j i) (by
    rw [List.Nodup, List.pairwise_map]
    refine List.Pairwise.imp_of_mem (fun {a b} ma mb ab => ?_) (List.pairwise_lt_range)
    exact h.new a b ab (List.mem_range.mp mb)) (fun x hx => by
    obtain ⟨j, _, rfl⟩ := List.mem_map.mp hx
    exact Mach.itr_lt (nxt_lt ok) j i hi)
  rw [List.length_map, List.length_range] at q
  exact q
theorem SeenW.step {rs : List RowD} {i t : Nat} (h : SeenW rs i t) (g : isGo rs (way rs t i) = true) (n : ((way rs t i : Nat) : Int) ∉ wayL rs i t) : SeenW rs i (t + 1) := by
  refine ⟨fun u hu => ?_, fun u v uv hv => ?_⟩
  · by_cases z : u = t
    · rw [z]
      exact g
    · exact h.go u (by omega)
  · by_cases z : v = t
    · subst z
      exact fun e => n (wayL_mem.mpr ⟨u, uv, by rw [e]⟩)
    · exact h.new u v uv (by omega)
theorem SeenW.ring {rs : List RowD} {i t j s : Nat} (ok : GoOk rs) (hi : i < rs.length) (jt : j < t) (e : way rs t i = way rs j i) (h1 : ∃ u, j ≤ u ∧ u < t ∧ s = way rs u i) (h2 : ∀ u, j ≤ u → u < t → s ≤ way rs u i) : stp rs i = s := by
  have lt : way rs j i < rs.length := Mach.itr_lt (nxt_lt ok) j i hi
  rw [← stp_way ok j i hi]
  have add : ∀ k, Mach.itr (nxt rs) k (way rs j i) = way rs (j + k) i := fun k => (Mach.itr_add (nxt rs) j k i).symm
  refine Mach.stop_ring (nxt_lt ok) lt (m := t - j) (by omega) ?_ ?_ (fun k hk => ?_)
  · rw [add, show j + (t - j) = t by omega, e]
  · obtain ⟨u, u1, u2, u3⟩ := h1
    refine ⟨u - j, by omega, ?_⟩
    rw [add, show j + (u - j) = u by omega, u3]
  · rw [add]
    exact h2 _ (by omega) (by omega)
def spNextL : Sp := fun vs H Q _ => ∃ (r : Addr) (xs : List V) (rs : List RowD) (i : Nat), vs = [.ref r, .int (i : Int)] ∧ H r = some (.lst xs) ∧ Rows H xs rs ∧ GoOk rs ∧ i < rs.length ∧ rs.length ≤ 100000 ∧
  ∀ H' : Hp, Same H H' → Q (.int (stp rs i : Int)) H'
def spShowL : Sp := fun vs H Q _ => ∃ (r : Addr) (xs : List V) (rs : List RowD) (i : Nat), vs = [.ref r, .int (i : Int)] ∧ H r = some (.lst xs) ∧ Rows H xs rs ∧ i < rs.length ∧
  ∀ (t : Addr) (H' : Hp), Same H H' → H' t = some (.tup ((showAt rs i).map V.str)) → Q (.ref t) H'
def spBehindL : Sp := fun vs H Q _ => ∃ (r h : Addr) (xs : List V) (rs : List RowD) (b j : Nat) (ws : List (Str × Nat)), vs = [.ref r, .int (b : Int), .ref h] ∧ H r = some (.lst xs) ∧ Rows H xs rs ∧ Fit rs ∧ b < rs.length ∧ rs.length ≤ 100000 ∧ HistT H h ws ∧ goTo rs (stp rs b) ws = some j ∧
  ∀ H' : Hp, Same H H' → Q (.int (j : Int)) H'
section
variable {P : Program} {w : World} {K : PySem.W.Frag} {mg : Str → Option Value} {base : Heap}
variable {fII fIW a_nextL : Addr}
theorem sc__law_next : FnScope ["_law_rows_here", "_law_at", "_law_seen_so"] ["_law_rows_here", "_law_at"] (defScope s_nextL) := ⟨rfl, rfl, rfl, by decide +kernel, rfl, by decide +kernel, by decide +kernel⟩
theorem ok_nextL {f : Addr} {fd : FuncData} (F : Fun K "_law_next" "_law_next" s_nextL f fd) (h_min : mg "min" = none) : FnOk P w K mg base CX0 1 f fd ["_law_rows_here", "_law_at"] spNextL := by
  refine F.ok sc__law_next (fun vs H Q E h => ?_) (fun cdv A outer s H vs Q E hr h => ?_)
  · obtain ⟨r, xs, rs, i, rfl, _⟩ := h
    rfl
  · obtain ⟨r, xs, rs, i, rfl, hr0, rows, ok, hi, big, k⟩ := h
    refine ⟨_, (pss_cons (ps_set (i := 2) sc__law_next.nd rfl (Or.inl rfl) (pe_lstG pa_nil))
      (pss_cons (ps_while PassesOwn.never (PW.pt (pw_and (pt_cmpR op_eq (pe_ix ix_tup (pe_ix ix_list (pv 0) (pv 1) (fun _ _ => rfl)) pe_int (fun _ _ => rfl)) pe_str (nomark _)) (pw_and1 (pt_cmpR op_notIn_seq (pv 1) (pv 2) (by rfl))))) (pss_cons (ps_expr (pe_bm PySem.F.plainAttrs_list PySem.F.slot_list_append PySem.F.type_list_append mt_append (pv 2) (pa_cons (pv 1) pa_nil)))
      (pss_one (ps_set (i := 1) sc__law_next.nd rfl (Or.inl rfl) (pe_ix ix_tup (pe_ix ix_list (pv 0) (pv 1) (fun _ _ => rfl)) pe_int (fun _ _ => rfl))))))
      (pss_one (ps_ret (pe_ifExp (pt_cmpR op_ne (pe_ix ix_tup (pe_ix ix_list (pv 0) (pv 1) (fun _ _ => rfl)) pe_int (fun _ _ => rfl)) pe_str (nomark _)) (pv 1) (pe_callB (cr_min rfl) (by rfl) h_min (by decide +kernel) (pa_cons (pe_slice sl_listG (pv 2) (po_some (pe_bm PySem.F.plainAttrs_list PySem.F.slot_list_index PySem.F.type_list_index mt_index (pv 2) (pa_cons (pv 1) pa_nil))) po_none) pa_nil))))))), ?_⟩
    refine ⟨Nat.zero_le _, fun sa H1 n1 s1 e1 => ?_⟩
    have lt : ∀ t, way rs t i < rs.length := fun t => Mach.itr_lt (nxt_lt ok) t i hi
    refine ⟨fun m σ H' => ∃ t, m = rs.length - t ∧ σ = [some (.ref r), some (.int (way rs t i : Int)), some (.ref sa)] ∧ Same H H' ∧ H' sa = some (.lst ((wayL rs i t).map V.int)) ∧ SeenW rs i t, ⟨_, 0, rfl, rfl, s1, e1, ⟨fun u hu => absurd hu (Nat.not_lt_zero u), fun u v _ hv => absurd hv (Nat.not_lt_zero v)⟩⟩, ?_⟩
    rintro m σ H' ⟨t, rfl, rfl, sa', es, sw⟩
    obtain ⟨q, zs, d, ed, hx, row, hq⟩ := rows.at (lt t)
    refine ⟨_, rfl, _, rfl, r, xs, _, _, rfl, rfl, SqL.of (sa' _ _ hr0), atI_nat hx, _, _, _, _, rfl, rfl, .inl (.inl (sa' _ _ hq)), at0', rfl, _, rfl, ?_⟩
    rw [go_dec ed]
    by_cases g : isGo rs (way rs t i) = true
    · rw [g]
      refine iteT ?_
      refine ⟨_, rfl, _, rfl, sa, _, rfl, .inl (SqL.of es), rfl, flat_ints _, _, rfl, ?_⟩
      show if (!inV (.int (way rs t i : Int)) ((wayL rs i t).map V.int)) = true then _ else _
      rw [inV_ints]
      by_cases mem : ((way rs t i : Nat) : Int) ∈ wayL rs i t
      · rw [decide_eq_true mem]
        refine iteF ?_
        refine ⟨_, rfl, _, rfl, r, xs, _, _, rfl, rfl, SqL.of (sa' _ _ hr0), atI_nat hx, _, _, _, _, rfl, rfl, .inl (.inl (sa' _ _ hq)), at0', rfl, _, rfl, ?_⟩
        rw [go_dec ed, g]
        refine iteF ?_
        obtain ⟨j, hj, ej⟩ := wayL_mem.mp mem
        have ej2 : way rs t i = way rs j i := by omega
        refine ⟨_, rfl, _, rfl, .inl ⟨rfl, _, SqL.of es⟩, _, rfl, sa, _, _, j, .int (way rs t i : Int), rfl, rfl, SqL.of es, rfl, flat_ints _, by rw [List.getElem?_map, wayL_get hj, ej2]; rfl, by show (((way rs t i : Nat) : Int) == _) = true; exact beq_self_eq_true _, fun m z hm hz => ?_, ?_⟩
        · rw [List.getElem?_map, wayL_get (by omega)] at hz
          have e2 : V.int (way rs m i : Int) = z := Option.some.inj hz
          subst e2
          show (((way rs m i : Nat) : Int) == ((way rs t i : Nat) : Int)) = false
          refine beq_eq_false_iff_ne.mpr fun y => sw.new m j hm hj (by omega)
        · refine ⟨_, rfl, sa, _, rfl, SqL.of es, fun q1 H2 n2 s2 e2 => ?_⟩
          have e3 : cutV ((wayL rs i t).map V.int) (some (j : Int)) none = ((wayL rs i t).drop j).map V.int := by
            unfold cutV
            rw [HT.sIx_nat, HT.sIx_none, List.length_map, wayL_len, Nat.min_eq_left (by omega), List.map_drop]
            exact List.take_of_length_le (by rw [List.length_drop, List.length_map, wayL_len]; omega)
          rw [e3] at e2
          have dm : ∀ y, y ∈ (wayL rs i t).drop j ↔ ∃ u, j ≤ u ∧ u < t ∧ y = (way rs u i : Int) := fun y => by
            constructor
            · intro hy
              obtain ⟨n, hn⟩ := List.mem_iff_getElem?.mp hy
              rw [List.getElem?_drop] at hn
              have hl := (List.getElem?_eq_some_iff.mp hn).1
              rw [wayL_len] at hl
              rw [wayL_get hl] at hn
              exact ⟨j + n, by omega, hl, (Option.some.inj hn).symm⟩
            · rintro ⟨u, u1, u2, rfl⟩
              refine List.mem_iff_getElem?.mpr ⟨u - j, ?_⟩
              rw [List.getElem?_drop, show j + (u - j) = u by omega]
              exact wayL_get u2
          refine ⟨q1, (wayL rs i t).drop j, rfl, SqL.of e2, by rw [List.length_drop, wayL_len]; omega, fun m h2 h3 => ?_⟩
          obtain ⟨u, u1, u2, rfl⟩ := (dm m).mp h2
          have es2 := SeenW.ring (s := way rs u i) ok hi hj ej2 ⟨u, u1, u2, rfl⟩ fun v v1 v2 => by
            have := h3 _ ((dm _).mpr ⟨v, v1, v2, rfl⟩)
            omega
          rw [← es2]
          exact k _ (sa'.trans s2)
      · rw [decide_eq_false mem]
        refine iteT ?_
        have sw2 := sw.step g mem
        have le2 := sw2.le ok hi
        obtain ⟨n, en⟩ := isGo_row g
        obtain ⟨x, hx1, hx2⟩ := rows.2 _ _ en
        obtain ⟨q', rfl, hq'⟩ := hx2
        have e1 : n = (way rs (t + 1) i : Int) := by
          have : way rs (t + 1) i = nxt rs (way rs t i) := Mach.itr_succ _ _ _
          rw [this]
          unfold nxt
          rw [en]
          have := ok _ _ en
          show n = (n.toNat : Int)
          omega
        refine ⟨fun σ' H'' => σ' = [some (.ref r), some (.int (way rs (t + 1) i : Int)), some (.ref sa)] ∧ Same H H'' ∧ H'' sa = some (.lst ((wayL rs i (t + 1)).map V.int)), fun σ' H'' ⟨z1, z2, z3⟩ => ⟨rs.length - (t + 1), by omega, t + 1, rfl, z1, z2, z3, sw2⟩, ?_⟩
        refine ⟨_, rfl, .inl ⟨rfl, _, SqL.of es⟩, _, rfl, sa, _, _, rfl, rfl, es, by rw [List.length_map, wayL_len, sizeLine_eq]; omega, ?_⟩
        have nsa : H sa = none := n1
        have up : ∀ {b o}, H b = some o → upd H' sa (.lst ((wayL rs i t).map V.int ++ [.int (way rs t i : Int)])) b = some o := fun {b o} e => by
          rw [upd_ne (ne_of_none e nsa)]
          exact sa' _ _ e
        refine ⟨_, rfl, _, rfl, r, xs, _, _, rfl, rfl, SqL.of (up hr0), atI_nat hx1, _, _, _, _, rfl, rfl, .inl (.inl (up hq')), at1', ?_⟩
        refine ⟨by rw [e1]; rfl, fun b o e => up e, ?_⟩
        rw [upd_same]
        congr 2
        unfold wayL
        rw [List.range_succ, List.map_append, List.map_append]
        rfl
    · have g := Bool.eq_false_iff.mpr g
      rw [g]
      refine iteF ?_
      refine ⟨_, rfl, _, rfl, r, xs, _, _, rfl, rfl, SqL.of (sa' _ _ hr0), atI_nat hx, _, _, _, _, rfl, rfl, .inl (.inl (sa' _ _ hq)), at0', rfl, _, rfl, ?_⟩
      rw [go_dec ed, g]
      refine iteT ?_
      refine ⟨_, rfl, ?_⟩
      rw [← stp_at ok hi t g]
      exact k _ sa'
theorem sc__law_show : FnScope ["_law_rows_here", "_law_at"] ["_law_rows_here", "_law_at"] (defScope s_showL) := ⟨rfl, rfl, rfl, by decide +kernel, rfl, by decide +kernel, by decide +kernel⟩
theorem ok_showL {f : Addr} {fd : FuncData} (F : Fun K "_law_show" "_law_show" s_showL f fd) (T : TxtF K mg fII fIW) : FnOk P w K mg base CX0 1 f fd ["_law_rows_here", "_law_at"] spShowL := by
  refine F.ok sc__law_show (fun vs H Q E h => ?_) (fun cdv A outer s H vs Q E hr h => ?_)
  · obtain ⟨r, xs, rs, i, rfl, _⟩ := h
    rfl
  · obtain ⟨r, xs, rs, i, rfl, hr0, rows, hi, k⟩ := h
    refine ⟨_, (pss_one (ps_ret (pe_ifExp (pt_cmpR op_eq (pe_ix ix_tup (pe_ix ix_list (pv 0) (pv 1) (fun _ _ => rfl)) pe_int (fun _ _ => rfl)) pe_str (nomark _)) (pe_tupG (pa_cons pe_str pa_nil)) (pe_callTy call_tupleG (by rfl) T.b_tuple (by decide +kernel) (pa_cons (pe_slice sl_tupA (pe_ix ix_list (pv 0) (pv 1) (fun _ _ => rfl)) po_none (po_some pe_int)) pa_nil))))), ?_⟩
    obtain ⟨q, zs, d, ed, hx, row, hq⟩ := rows.at hi
    rw [showAt_of ed] at k
    refine ⟨_, rfl, _, rfl, r, xs, _, _, rfl, rfl, SqL.of hr0, atI_nat hx, _, _, _, _, rfl, rfl, .inl (.inl hq), at0', rfl, _, rfl, ?_⟩
    rw [go_dec ed]
    rw [isGo_of ed]
    cases d with
    | ask op ns =>
      refine iteF ?_
      obtain ⟨a, t, e, h1, h2⟩ := row
      cases e
      refine ⟨_, rfl, _, rfl, r, xs, _, _, rfl, rfl, SqL.of hr0, atI_nat hx, 2, rfl, q, _, rfl, .inl (.inl h1), fun z => absurd z.2 (show ¬ HT.sIx 3 3 (some 2) = 3 by decide), fun _ p np => ?_⟩
      exact ⟨p, _, rfl, .inr upd_same, fun t' H' s' e' => k t' H' ((sameNew np _).trans s') e'⟩
    | go n =>
      refine iteT ?_
      exact ⟨one_ok _, fun t H' n s e => k t H' s e⟩
    | fin x =>
      refine iteF ?_
      obtain ⟨a, e, h1⟩ := row
      cases e
      refine ⟨_, rfl, _, rfl, r, xs, _, _, rfl, rfl, SqL.of hr0, atI_nat hx, 2, rfl, q, _, rfl, .inl (.inl h1), fun _ => ⟨q, _, rfl, .inr h1, fun t' H' s' e' => k t' H' s' e'⟩, fun z => absurd ⟨rfl, rfl⟩ z⟩
theorem sc__law_behind : FnScope ["_law_rows_here", "_law_begun", "_law_history", "_law_at", "_law_name", "_law_answer"] ["_law_rows_here", "_law_begun", "_law_history"] (defScope s_behindL) := ⟨rfl, rfl, rfl, by decide +kernel, rfl, by decide +kernel, by decide +kernel⟩
theorem ok_behindL {f : Addr} {fd fd_nextL : FuncData} (F : Fun K "_law_behind" "_law_behind" s_behindL f fd) (T : TxtF K mg fII fIW)
    (GNx : FnOk P w K mg base CX0 1 a_nextL fd_nextL ["_law_rows_here", "_law_at"] spNextL) (b_nextL : Binds K fd_nextL ["_law_rows_here", "_law_at"] []) (g_nextL : mg "_law_next" = some (.ref a_nextL)) (k_nextL : PySem.W.keepIn K (.ref a_nextL) = true) : FnOk P w K mg base CX0 2 f fd ["_law_rows_here", "_law_begun", "_law_history"] spBehindL := by
  refine F.ok sc__law_behind (fun vs H Q E h => ?_) (fun cdv A outer s H vs Q E hr h => ?_)
  · obtain ⟨r, h, xs, rs, b, j, ws, rfl, _⟩ := h
    rfl
  · obtain ⟨r, h, xs, rs, b, jend, ws, rfl, hr0, rows, fit, hb, big, ⟨hv, hh, ph⟩, go, k⟩ := h
    refine ⟨_, (pss_cons (ps_set (i := 3) sc__law_behind.nd rfl (Or.inl rfl) (pe_call GNx (hr.mono (by decide)) (by rfl) g_nextL k_nextL b_nextL .nil pass0 (pa_cons (pv 0) (pa_cons (pv 1) pa_nil))))
      (pss_cons (ps_for PassesOwn.never rfl (pi_tup (pv 2)) (pg_tup rfl (pgs_cons (pg_name (i := 4) sc__law_behind.nd rfl (Or.inl rfl)) (pgs_cons (pg_name (i := 5) sc__law_behind.nd rfl (Or.inl rfl)) pgs_nil))) (pss_cons (ps_if (PW.pt (pw_or (pt_cmpR op_ne (pe_ix ix_tup (pe_ix ix_list (pv 0) (pv 3) (fun _ _ => rfl)) pe_int (fun _ _ => rfl)) pe_str (nomark _)) (pw_or (pt_cmpR op_ne (pe_ix ix_tup (pe_ix ix_list (pv 0) (pv 3) (fun _ _ => rfl)) pe_int (fun _ _ => rfl)) (pv 4) (nomark _)) (pw_or1 (pt_not (pt_chain op_le op_lt pe_int (pv 5) (pe_callB call_len_seq (by rfl) T.b_len PySem.boot_len (pa_cons (pe_ix ix_tup (pe_ix ix_list (pv 0) (pv 3) (fun _ _ => rfl)) pe_int (fun _ _ => rfl)) pa_nil)))))))) (pss_one (ps_ret pe_non)) pss_nil)
      (pss_one (ps_set (i := 3) sc__law_behind.nd rfl (Or.inl rfl) (pe_call GNx (hr.mono (by decide)) (by rfl) g_nextL k_nextL b_nextL .nil pass0 (pa_cons (pv 0) (pa_cons (pe_ix ix_tup (pe_ix ix_tup (pe_ix ix_list (pv 0) (pv 3) (fun _ _ => rfl)) pe_int (fun _ _ => rfl)) (pv 5) (fun _ _ => rfl)) pa_nil)))))))
      (pss_one (ps_ret (pv 3))))), ?_⟩
    refine ⟨_, rfl, _, rfl, r, xs, rs, b, rfl, hr0, rows, fit.go, hb, big, fun H1 s1 => ?_⟩
    refine ⟨_, rfl, h, rfl, ⟨_, .inl (.inl (s1 _ _ hh))⟩, for_tup (K := K) (a := h) (xs := hv) (fun i σ H' => ∃ (a : Nat) (v4 v5 : Option V), σ = [some (.ref r), some (.int (b : Int)), some (.ref h), some (.int (a : Int)), v4, v5] ∧ Same H H' ∧ a < rs.length ∧ goTo rs a (ws.drop i) = some jend) ⟨stp rs b, none, none, rfl, s1, stp_lt fit.go hb, go⟩ (fun i σ H' _ z => by obtain ⟨_, _, _, _, z, _⟩ := z; exact .inl (.inl (z _ _ hh))) ?_ ?_⟩
    · rintro i x σ H2 hxi ⟨a, v4, v5, rfl, s2, lt', go'⟩
      have hi : i < ws.length := by
        have := (List.getElem?_eq_some_iff.mp hxi).1
        rw [← ph.1]
        exact this
      obtain ⟨p, ep⟩ : ∃ p, ws[i]? = some p := ⟨_, List.getElem?_eq_getElem hi⟩
      obtain ⟨q, vq, hq⟩ := ph.2 i p ep
      rw [hxi] at vq
      cases vq
      have ed : ws.drop i = p :: ws.drop (i + 1) := by
        rw [List.drop_eq_getElem_cons hi]
        have := List.getElem?_eq_getElem hi
        rw [ep] at this
        rw [← Option.some.inj this]
      rw [ed] at go'
      obtain ⟨ns, z, er, ez, go2⟩ := goTo_cons go'
      obtain ⟨x, hx1, hx2⟩ := rows.2 _ _ er
      obtain ⟨ra, rt, rfl, hr1, hr2⟩ := hx2
      have ltk := (List.getElem?_eq_some_iff.mp ez).1
      obtain ⟨z0, z1⟩ := fit.nexts er (show z ∈ nextsD (.ask p.1 ns) from List.mem_of_getElem? ez)
      obtain ⟨zn, rfl⟩ : ∃ zn : Nat, z = (zn : Int) := ⟨z.toNat, by omega⟩
      have zlt : zn < rs.length := by omega
      have ezv : atI (ns.map V.int) ((p.2 : Nat) : Int) = some (V.int (zn : Int)) := atI_nat (by rw [List.getElem?_map, ez]; rfl)
      refine ⟨q, _, rfl, .inl (.inl (s2 _ _ hq)), rfl, _, _, rfl, _, _, rfl, rfl, ?_⟩
      refine ⟨_, rfl, _, rfl, r, xs, _, _, rfl, rfl, SqL.of (s2 _ _ hr0), atI_nat hx1, _, _, _, _, rfl, rfl, .inl (.inl (s2 _ _ hr1)), at0', rfl, _, rfl, ?_⟩
      rw [strEq]
      refine iteF ?_
      refine ⟨_, rfl, _, rfl, r, xs, _, _, rfl, rfl, SqL.of (s2 _ _ hr0), atI_nat hx1, _, _, _, _, rfl, rfl, .inl (.inl (s2 _ _ hr1)), at1', _, rfl, rfl, _, rfl, ?_⟩
      rw [strEq]
      refine iteF ?_
      refine ⟨_, rfl, _, _, rfl, rfl, _, rfl, ?_⟩
      rw [decide_eq_true (show (0 : Int) ≤ (p.2 : Int) by omega)]
      refine iteT ?_
      refine ⟨_, rfl, _, rfl, r, xs, _, _, rfl, rfl, SqL.of (s2 _ _ hr0), atI_nat hx1, _, _, _, _, rfl, rfl, .inl (.inl (s2 _ _ hr1)), at2', rt, _, rfl, .inr (.inl (.inl (s2 _ _ hr2))), _, _, rfl, rfl, _, rfl, ?_⟩
      rw [decide_eq_true (show ((p.2 : Nat) : Int) < ((ns.map V.int).length : Int) by rw [List.length_map]; omega)]
      refine iteF ?_
      refine ⟨_, rfl, _, rfl, _, rfl, r, xs, _, _, rfl, rfl, SqL.of (s2 _ _ hr0), atI_nat hx1, _, _, _, _, rfl, rfl, .inl (.inl (s2 _ _ hr1)), at2', _, rfl, _, _, _, _, rfl, rfl, .inl (.inl (s2 _ _ hr2)), ezv, ?_⟩
      refine ⟨r, xs, rs, zn, rfl, s2 _ _ hr0, rows.same s2, fit.go, zlt, big, fun H3 s3 => ?_⟩
      exact ⟨_, _, _, rfl, s2.trans s3, stp_lt fit.go zlt, go2⟩
    · rintro σ H2 ⟨a, v4, v5, rfl, s2, lt', go'⟩
      rw [ph.1, List.drop_length] at go'
      have ea : a = jend := Option.some.inj go'
      subst ea
      exact ⟨_, rfl, k _ s2⟩
end
end Mine

set_option maxRecDepth 100000
set_option maxHeartbeats 4000000
namespace Mine
open PySem L2
abbrev s_allL : Stmt := top 72
theorem pe_imp {X : Cx} {e : Expr} {t t' : TE} (h : PE X e t) (m : ∀ σ H Q, t' σ H Q → t σ H Q) : PE X e t' := ⟨fun pins s σ H Q I q => h.run pins s σ H Q I (m σ H Q q)⟩
/-- t + (z,) -/
def rSnoc : R2 := fun x y H Q => ∃ (a b : Addr) (xs : List V) (z : V), x = .ref a ∧ y = .ref b ∧ H a = some (.tup xs) ∧ H b = some (.tup [z]) ∧ xs.length + 1 ≤ sizeLine ∧ ∀ (u : Addr) (H' : Hp), Same H H' → H' u = some (.tup (xs ++ [z])) → Q (.ref u) H'
theorem op_snoc {X : Cx} : OpR X (binaryOp .Add) rSnoc := fun pins s σ H x y v u Q I rx ry ⟨a, b, xs, z, e1, e2, h1, h2, l, k⟩ =>
  op_catA pins s σ H x y v u Q I rx ry ⟨a, b, xs, [z], e1, e2, .inl (.inl h1), .inl (.inl h2), l, fun e => k b H (Same.refl _) (by rw [e]; exact h2), (fun _ e => nomatch e), fun _ _ p np => k p _ (sameNew np _) upd_same⟩
/-! histories with the row that they lead to -/
abbrev HJ := List (Str × Nat) × Nat
def TupS (H H' : Hp) : Prop := ∀ (q : Addr) (zs : List V), H q = some (.tup zs) → H' q = some (.tup zs)
theorem TupS.of {H H' : Hp} (s : Same H H') : TupS H H' := fun q _ e => s q _ e
theorem TupS.trans {H H1 H2 : Hp} (s : TupS H H1) (t : TupS H1 H2) : TupS H H2 := fun q zs e => t q zs (s q zs e)
theorem TupS.upd {H : Hp} {a : Addr} {ys : List V} {o : HO} (e : H a = some (.lst ys)) : TupS H (upd H a o) := fun q zs h => by
  rw [upd_ne (fun z => by rw [z, e] at h; cases h)]
  exact h
theorem TupS.but {H H' : Hp} {a : Addr} {ys : List V} (s : But H H' a) (e : H a = some (.lst ys)) : TupS H H' := fun q zs h => s q _ (fun z => by rw [z, e] at h; cases h) h
theorem HistT.tupS {H H' : Hp} {h : Addr} {ws : List (Str × Nat)} (s : TupS H H') (t : HistT H h ws) : HistT H' h ws := by
  obtain ⟨vs, h1, h2, h3⟩ := t
  refine ⟨vs, s _ _ h1, h2, fun k p e => ?_⟩
  obtain ⟨q, e1, e2⟩ := h3 k p e
  exact ⟨q, e1, s _ _ e2⟩
def ItemV (H : Hp) (v : V) (x : HJ) : Prop := ∃ (q h : Addr), v = .ref q ∧ H q = some (.tup [.ref h, .int (x.2 : Int)]) ∧ HistT H h x.1
theorem ItemV.tupS {H H' : Hp} {v : V} {x : HJ} (s : TupS H H') (t : ItemV H v x) : ItemV H' v x := by
  obtain ⟨q, h, e, h1, h2⟩ := t
  exact ⟨q, h, e, s _ _ h1, h2.tupS s⟩
def AllI (H : Hp) (ps : List (V × HJ)) : Prop := ∀ p ∈ ps, ItemV H p.1 p.2
theorem AllI.tupS {H H' : Hp} {ps : List (V × HJ)} (s : TupS H H') (h : AllI H ps) : AllI H' ps := fun p m => (h p m).tupS s
theorem AllI.snoc {H : Hp} {ps : List (V × HJ)} {p : V × HJ} (h : AllI H ps) (t : ItemV H p.1 p.2) : AllI H (ps ++ [p]) := fun q m => by
  rcases List.mem_append.mp m with m | m
  · exact h q m
  · rw [List.mem_singleton.mp m]
    exact t
def kids (rs : List RowD) (x : HJ) : List HJ := (stepsAt rs x.2).zipIdx.map fun p => (x.1 ++ [(opAt rs x.2, p.2)], stp rs p.1.toNat)
theorem kids_get {rs : List RowD} {x : HJ} {k : Nat} : (kids rs x)[k]? = (stepsAt rs x.2)[k]?.map fun a => (x.1 ++ [(opAt rs x.2, k)], stp rs a.toNat) := by
  unfold kids
  rw [List.getElem?_map, List.getElem?_zipIdx]
  cases (stepsAt rs x.2)[k]? with
  | none => rfl
  | some a => simp
theorem kids_len {rs : List RowD} {x : HJ} : (kids rs x).length = (stepsAt rs x.2).length := by
  unfold kids
  rw [List.length_map, List.length_zipIdx]
def lev (rs : List RowD) (j0 : Nat) : Nat → List HJ
  | 0 => [([], j0)]
  | n + 1 => (lev rs j0 n).flatMap (kids rs)
theorem goTo_snoc {rs : List RowD} {op : Str} {ns : List Int} {k : Nat} {a : Int} : ∀ {ws : List (Str × Nat)} {i j : Nat}, goTo rs i ws = some j → rs[j]? = some (.ask op ns) → ns[k]? = some a → goTo rs i (ws ++ [(op, k)]) = some (stp rs a.toNat)
  | [], i, j, h, e, e2 => by
    have : i = j := Option.some.inj h
    subst this
    show goTo rs i [(op, k)] = _
    unfold goTo
    rw [e]
    dsimp only
    rw [if_pos rfl, e2]
    rfl
  | (o', k') :: ws, i, j, h, e, e2 => by
    obtain ⟨ns', a', h1, h2, h3⟩ := goTo_cons h
    show goTo rs i ((o', k') :: (ws ++ [(op, k)])) = _
    unfold goTo
    rw [h1]
    dsimp only
    rw [if_pos rfl, h2]
    exact goTo_snoc h3 e e2
/-- a history that can come, of this length, and where it leads -/
structure GoodI (rs : List RowD) (j0 n : Nat) (x : HJ) : Prop where
  go : goTo rs j0 x.1 = some x.2
  lt : x.2 < rs.length
  len : x.1.length = n
theorem steps_ask {rs : List RowD} {j k : Nat} {a : Int} (h : (stepsAt rs j)[k]? = some a) : ∃ op ns, rs[j]? = some (.ask op ns) ∧ ns[k]? = some a ∧ opAt rs j = op := by
  unfold stepsAt at h
  cases e : rs[j]? with
  | none => rw [e] at h; simp at h
  | some d =>
    rw [e] at h
    cases d with
    | ask op ns => exact ⟨op, ns, rfl, h, by unfold opAt; rw [e]⟩
    | go n => simp [nextsD] at h
    | fin w => simp [nextsD] at h
theorem kids_good {rs : List RowD} {j0 n : Nat} {x y : HJ} (fit : Fit rs) (h : GoodI rs j0 n x) (m : y ∈ kids rs x) : GoodI rs j0 (n + 1) y := by
  obtain ⟨k, e⟩ := List.mem_iff_getElem?.mp m
  rw [kids_get] at e
  cases ea : (stepsAt rs x.2)[k]? with
  | none => rw [ea] at e; cases e
  | some a =>
    rw [ea] at e
    obtain rfl := Option.some.inj e
    obtain ⟨op, ns, e1, e2, e3⟩ := steps_ask ea
    obtain ⟨z0, z1⟩ := fit.nexts e1 (show a ∈ nextsD (.ask op ns) from List.mem_of_getElem? e2)
    refine ⟨?_, stp_lt fit.go (by omega), ?_⟩
    · rw [e3]
      exact goTo_snoc h.go e1 e2
    · show (x.1 ++ _).length = _
      rw [List.length_append, h.len]
      rfl
theorem lev_good {rs : List RowD} {j0 : Nat} (fit : Fit rs) (hj : j0 < rs.length) : ∀ (n : Nat) (x : HJ), x ∈ lev rs j0 n → GoodI rs j0 n x
  | 0, x, m => by
    rw [List.mem_singleton.mp m]
    exact ⟨rfl, hj, rfl⟩
  | n + 1, x, m => by
    obtain ⟨y, m1, m2⟩ := List.mem_flatMap.mp m
    exact kids_good fit (lev_good fit hj n y m1) m2
def FewN (rs : List RowD) : Prop := ∀ d ∈ rs, (nextsD d).length ≤ 3
theorem FewN.at {rs : List RowD} (h : FewN rs) (x : HJ) : (kids rs x).length ≤ 3 := by
  rw [kids_len]
  unfold stepsAt
  cases e : rs[x.2]? with
  | none => exact Nat.zero_le _
  | some d => exact h d (List.mem_of_getElem? e)
theorem FewN.flat {rs : List RowD} (h : FewN rs) : ∀ l : List HJ, (l.flatMap (kids rs)).length ≤ 3 * l.length
  | [] => Nat.zero_le _
  | x :: l => by
    rw [List.flatMap_cons, List.length_append, List.length_cons]
    have := h.at x
    have := h.flat l
    omega
theorem FewN.lev {rs : List RowD} (h : FewN rs) (j0 : Nat) : ∀ n, (lev rs j0 n).length ≤ 3 ^ n
  | 0 => Nat.le_refl _
  | n + 1 => by
    have h1 := h.flat (Mine.lev rs j0 n)
    have h2 := h.lev j0 n
    show ((Mine.lev rs j0 n).flatMap (kids rs)).length ≤ _
    rw [Nat.pow_succ]
    omega
/-! .. as data -/
def dHist (ws : List (Str × Nat)) : PyData := .tuple (ws.map fun p => .tuple [.str p.1, .int (p.2 : Int)])
def dItem (x : HJ) : PyData := .tuple [dHist x.1, .int (x.2 : Int)]
theorem dHist_dp {K : PySem.W.Frag} {H : Hp} {h : Addr} {ws : List (Str × Nat)} (t : HistT H h ws) : Dp K H (.ref h) (dHist ws) := by
  obtain ⟨vs, h1, h2, h3⟩ := t
  refine .tup (.inl (.inl h1)) ?_
  clear h1
  induction ws generalizing vs with
  | nil =>
    have : vs = [] := List.length_eq_zero_iff.mp h2
    subst this
    exact .nil
  | cons p ws ih =>
    cases vs with
    | nil => cases h2
    | cons v vs =>
      obtain ⟨q, e1, e2⟩ := h3 0 p rfl
      have : v = .ref q := Option.some.inj e1
      subst this
      exact .cons (.tup (.inl (.inl e2)) (.cons (.str _) (.cons (.int _) .nil))) (ih vs (by simpa using h2) fun k r e => h3 (k + 1) r e)
theorem hist_alike : ∀ ws us : List (Str × Nat), PySem.W.alikeAll (ws.map fun p => PyData.tuple [.str p.1, .int (p.2 : Int)]) (us.map fun p => PyData.tuple [.str p.1, .int (p.2 : Int)]) = true
  | [], _ => by simp [PySem.W.alikeAll]
  | _ :: _, [] => by simp [PySem.W.alikeAll]
  | p :: ws, q :: us => by
    rw [List.map_cons, List.map_cons, PySem.W.alikeAll, hist_alike ws us]
    simp [PySem.W.alike, PySem.W.alikeAll]
theorem item_alike (x y : HJ) : PySem.W.alike (dItem x) (dItem y) = true := by
  simp [dItem, dHist, PySem.W.alike, PySem.W.alikeAll, hist_alike]
theorem hist_deep : ∀ ws : List (Str × Nat), PyData.depthAll (ws.map fun p => PyData.tuple [.str p.1, .int (p.2 : Int)]) ≤ 1
  | [] => by simp [PyData.depthAll]
  | p :: ws => by
    have := hist_deep ws
    simp only [List.map_cons, PyData.depthAll, PyData.depth]
    omega
theorem dHist_deep (ws : List (Str × Nat)) : (dHist ws).depth ≤ 2 := by
  have := hist_deep ws
  simp only [dHist, PyData.depth]
  omega
theorem item_deep (x : HJ) : (dItem x).depth ≤ 60 := by
  have := dHist_deep x.1
  simp only [dItem, PyData.depth, PyData.depthAll]
  omega
abbrev pdI (p : V × HJ) : V × PyData := (p.1, dItem p.2)
abbrev leI (a b : V × HJ) : Bool := leD (pdI a) (pdI b)
theorem sortI (ps : List (V × HJ)) : ((ps.map pdI).mergeSort leD).map (·.1) = (ps.mergeSort leI).map (·.1) := by
  have e : (ps.mergeSort leI).map pdI = (ps.map pdI).mergeSort leD := PySem.W.sort_maps pdI fun _ _ _ _ => rfl
  rw [← e, List.map_map]
  rfl
theorem zipIdx_take_kids {rs : List RowD} {x y : HJ} {k : Nat} (h : (kids rs x)[k]? = some y) : (kids rs x).take (k + 1) = (kids rs x).take k ++ [y] := by
  rw [List.take_add_one, h]
  rfl
/-- the nexts of a row, none if it doesn't ask -/
def tSome : TE := fun σ H Q => ∃ (r : Addr) (xs : List V) (rs : List RowD) (j : Nat), σ[0]? = some (some (.ref r)) ∧ σ[7]? = some (some (.int (j : Int))) ∧ H r = some (.lst xs) ∧ Rows H xs rs ∧ j < rs.length ∧
  ∀ (t : Addr) (H' : Hp), Same H H' → H' t = some (.tup ((stepsAt rs j).map V.int)) → Q (.ref t) H'
def spAllL : Sp := fun vs H Q _ => ∃ (r : Addr) (xs : List V) (rs : List RowD) (b m : Nat), vs = [.ref r, .int (b : Int), .int (m : Int)] ∧ H r = some (.lst xs) ∧ Rows H xs rs ∧ Fit rs ∧ b < rs.length ∧ rs.length ≤ 100000 ∧ FewN rs ∧ m ≤ 4 ∧
  ∀ (p : Addr) (ps : List (V × HJ)) (H' : Hp), Same H H' → H p = none → H' p = some (.lst (ps.map (·.1))) → AllI H' ps → (ps.map (·.2)).Perm (lev rs (stp rs b) m) → Q (.ref p) H'
theorem pow_few {t : Nat} (h : t ≤ 4) : 3 ^ t ≤ 81 := Nat.pow_le_pow_right (by decide) h
section
variable {P : Program} {w : World} {K : PySem.W.Frag} {mg : Str → Option Value} {base : Heap}
variable {fII fIW a_nextL : Addr}
theorem sc__law_all : FnScope ["_law_rows_here", "_law_begun", "_law_many", "_law_found", "_law_turn", "_law_later", "_law_history", "_law_at", "_law_some", "_law_k", "_law_one"] ["_law_rows_here", "_law_begun", "_law_many"] (defScope s_allL) := ⟨rfl, rfl, rfl, by decide +kernel, rfl, by decide +kernel, by decide +kernel⟩
theorem ok_allL {f : Addr} {fd fd_nextL : FuncData} (F : Fun K "_law_all" "_law_all" s_allL f fd) (h_range : mg "range" = none) (h_enum : mg "enumerate" = none) (h_sorted : mg "sorted" = none)
    (GNx : FnOk P w K mg base CX0 1 a_nextL fd_nextL ["_law_rows_here", "_law_at"] spNextL) (b_nextL : Binds K fd_nextL ["_law_rows_here", "_law_at"] []) (g_nextL : mg "_law_next" = some (.ref a_nextL)) (k_nextL : PySem.W.keepIn K (.ref a_nextL) = true) : FnOk P w K mg base CX0 2 f fd ["_law_rows_here", "_law_begun", "_law_many"] spAllL := by
  refine F.ok sc__law_all (fun vs H Q E h => ?_) (fun cdv A outer s H vs Q E hr h => ?_)
  · obtain ⟨r, xs, rs, b, m, rfl, _⟩ := h
    rfl
  · obtain ⟨r, xs, rs, b, m, rfl, hr0, rows, fit, hb, big, few, hm, k⟩ := h
    refine ⟨_, (pss_cons (ps_set (i := 3) sc__law_all.nd rfl (Or.inl rfl) (pe_lstG (pa_cons (pe_tupG (pa_cons (pe_tupG pa_nil) (pa_cons (pe_call GNx (hr.mono (by decide)) (by rfl) g_nextL k_nextL b_nextL .nil pass0 (pa_cons (pv 0) (pa_cons (pv 1) pa_nil))) pa_nil))) pa_nil)))
      (pss_cons (ps_for PassesOwn.never rfl (pi_range1 (by rfl) h_range (pa_cons (pv 2) pa_nil)) (pg_name (i := 4) sc__law_all.nd rfl (Or.inl rfl)) (pss_cons (ps_set (i := 5) sc__law_all.nd rfl (Or.inl rfl) (pe_lstG pa_nil))
      (pss_cons (ps_for PassesOwn.never rfl (pi_list (pv 3)) (pg_tup rfl (pgs_cons (pg_name (i := 6) sc__law_all.nd rfl (Or.inl rfl)) (pgs_cons (pg_name (i := 7) sc__law_all.nd rfl (Or.inl rfl)) pgs_nil))) (pss_cons (ps_set (i := 8) sc__law_all.nd rfl (Or.inl rfl) (pe_imp (t' := tSome) (pe_ifExp (pt_cmpR op_eq (pe_ix ix_tup (pe_ix ix_list (pv 0) (pv 7) (fun _ _ => rfl)) pe_int (fun _ _ => rfl)) pe_str (nomark _)) (pe_ix ix_tup (pe_ix ix_list (pv 0) (pv 7) (fun _ _ => rfl)) pe_int (fun _ _ => rfl)) (pe_tupG pa_nil)) (fun σ H Q z => by
        obtain ⟨r, xs, rs, j, v0, v7, hr0, rows, lt, k⟩ := z
        obtain ⟨q, zs, d, ed, hx, row, hq⟩ := rows.at lt
        refine ⟨_, v0, _, v7, r, xs, _, _, rfl, rfl, SqL.of hr0, atI_nat hx, _, _, _, _, rfl, rfl, .inl (.inl hq), at0', rfl, _, rfl, ?_⟩
        rw [stepsAt_of ed] at k
        cases d with
        | ask op ns =>
          obtain ⟨a, t, e, h1, h2⟩ := row
          cases e
          rw [show decide (V.str (wordOf (RowD.ask op ns)) = V.str "ask") = true from strEq _]
          refine iteT ?_
          exact ⟨_, v0, _, v7, r, xs, _, _, rfl, rfl, SqL.of hr0, atI_nat hx, _, _, _, _, rfl, rfl, .inl (.inl h1), at2', k t H (Same.refl _) h2⟩
        | go n =>
          rw [show decide (V.str (wordOf (RowD.go n)) = V.str "ask") = false from strNe (show ("go" : Str) ≠ "ask" by decide +kernel)]
          refine iteF ?_
          exact ⟨Nat.zero_le _, fun p H1 n1 s1 e1 => k p H1 s1 e1⟩
        | fin x =>
          rw [show decide (V.str (wordOf (RowD.fin x)) = V.str "ask") = false from strNe (show ("end" : Str) ≠ "ask" by decide +kernel)]
          refine iteF ?_
          exact ⟨Nat.zero_le _, fun p H1 n1 s1 e1 => k p H1 s1 e1⟩)))
      (pss_one (ps_for PassesOwn.never rfl (pi_enumT (by rfl) h_enum (pa_cons (pv 8) pa_nil)) (pg_tup rfl (pgs_cons (pg_name (i := 9) sc__law_all.nd rfl (Or.inl rfl)) (pgs_cons (pg_name (i := 10) sc__law_all.nd rfl (Or.inl rfl)) pgs_nil))) (pss_one (ps_expr (pe_bm PySem.F.plainAttrs_list PySem.F.slot_list_append PySem.F.type_list_append mt_append (pv 5) (pa_cons (pe_tupG (pa_cons (pe_op op_snoc (pv 6) (pe_tupG (pa_cons (pe_tupG (pa_cons (pe_ix ix_tup (pe_ix ix_list (pv 0) (pv 7) (fun _ _ => rfl)) pe_int (fun _ _ => rfl)) (pa_cons (pv 9) pa_nil))) pa_nil))) (pa_cons (pe_call GNx (hr.mono (by decide)) (by rfl) g_nextL k_nextL b_nextL .nil pass0 (pa_cons (pv 0) (pa_cons (pv 10) pa_nil))) pa_nil))) pa_nil))))))))
      (pss_one (ps_set (i := 3) sc__law_all.nd rfl (Or.inl rfl) (pv 5))))))
      (pss_one (ps_ret (pe_callB (cr_sortedD hr.units) (by rfl) h_sorted (by decide +kernel) (pa_cons (pv 3) pa_nil)))))), ?_⟩
    refine ⟨Nat.zero_le _, fun h0 H1 n1 s1 e1 => ⟨_, rfl, _, rfl, r, xs, rs, b, rfl, s1 _ _ hr0, rows.same s1, fit.go, hb, big, fun H2 s2 => ⟨two_ok _ _, fun q0 H3 n3 s3 e3 => ⟨one_ok _, fun fa H4 n4 s4 e4 => ?_⟩⟩⟩⟩
    have hj0 := stp_lt fit.go hb
    have s04 : Same H H4 := s1.trans (s2.trans (s3.trans s4))
    refine ⟨_, rfl, (m : Int), rfl, by omega, by omega, for_range (n := m) (fun t σ H' => ∃ (fa : Addr) (ps : List (V × HJ)) (v4 v5 v6 v7 v8 v9 v10 : Option V), σ = [some (.ref r), some (.int (b : Int)), some (.int (m : Int)), some (.ref fa), v4, v5, v6, v7, v8, v9, v10] ∧ Same H H' ∧ H fa = none ∧ H' fa = some (.lst (ps.map (·.1))) ∧ AllI H' ps ∧ ps.map (·.2) = lev rs (stp rs b) t) ⟨fa, [(.ref q0, ([], stp rs b))], _, _, _, _, _, _, _, rfl, s04, none_of (s1.trans (s2.trans s3)) n4, e4, fun p mp => ?_, rfl⟩ (fun t σ H' ht z => ?_) (fun σ H' z => ?_)⟩
    · rw [List.mem_singleton.mp mp]
      exact ⟨q0, h0, rfl, s4 _ _ e3, [], (s2.trans (s3.trans s4)) _ _ e1, HPs.nil _⟩
    · obtain ⟨fa, ps, v4, v5, v6, v7, v8, v9, v10, rfl, sH, nfa, efa, all, lv⟩ := z
      have psl : ps.length ≤ 81 := by
        have h1 := congrArg List.length lv
        rw [List.length_map] at h1
        rw [h1]
        exact Nat.le_trans (few.lev _ t) (pow_few (by omega))
      refine ⟨Nat.zero_le _, fun la H5 n5 s5 e5 => ?_⟩
      have nla : H la = none := none_of sH n5
      refine ⟨_, rfl, fa, rfl, ⟨_, SqL.of (s5 _ _ efa)⟩, for_list (K := K) (a := fa) (xs := ps.map (·.1)) (fun i σ H'' => ∃ (qs : List (V × HJ)) (v6 v7 v8 v9 v10 : Option V), σ = [some (.ref r), some (.int (b : Int)), some (.int (m : Int)), some (.ref fa), some (.int (0 + (t : Int))), some (.ref la), v6, v7, v8, v9, v10] ∧ Same H' H'' ∧ H'' la = some (.lst (qs.map (·.1))) ∧ AllI H'' qs ∧ qs.map (·.2) = ((ps.map (·.2)).take i).flatMap (kids rs)) ⟨[], _, _, _, _, _, rfl, s5, e5, fun p mp => (nomatch mp), rfl⟩ (fun i σ H'' _ z => by obtain ⟨_, _, _, _, _, _, _, z, _⟩ := z; exact SqL.of (z _ _ efa)) ?_ ?_⟩
      · rintro i x σ H6 hxi ⟨qs, v6, v7, v8, v9, v10, rfl, s6, e6, all6, lv6⟩
        rw [List.getElem?_map] at hxi
        cases ep : ps[i]? with
        | none => rw [ep] at hxi; cases hxi
        | some p =>
          rw [ep] at hxi
          obtain rfl : p.1 = x := Option.some.inj hxi
          obtain ⟨q, ht, ev, hq, hist⟩ := all p (List.mem_of_getElem? ep)
          have g : GoodI rs (stp rs b) t p.2 := lev_good fit hj0 t p.2 (by rw [← lv]; exact List.mem_map.mpr ⟨p, List.mem_of_getElem? ep, rfl⟩)
          rw [ev]
          refine ⟨q, _, rfl, .inl (.inl (s6 _ _ hq)), rfl, _, _, rfl, _, _, rfl, rfl, ?_⟩
          have s06 : Same H H6 := sH.trans s6
          refine ⟨r, xs, rs, p.2.2, rfl, rfl, s06 _ _ hr0, rows.same s06, g.lt, fun tt H7 s7 e7 => ?_⟩
          have nla6 : H' la = none := n5
          have tk : ∀ {y : HJ}, (ps.map (·.2))[i]? = some p.2 := fun {y} => by rw [List.getElem?_map, ep]; rfl
          refine ⟨_, rfl, tt, _, rfl, .inl (.inl e7), for_enumT (K := K) (a := tt) (xs := (stepsAt rs p.2.2).map V.int) (fun kk σ H'' => ∃ (qs : List (V × HJ)) (v9 v10 : Option V), σ = [some (.ref r), some (.int (b : Int)), some (.int (m : Int)), some (.ref fa), some (.int (0 + (t : Int))), some (.ref la), some (.ref ht), some (.int (p.2.2 : Int)), some (.ref tt), v9, v10] ∧ Same H' H'' ∧ H'' la = some (.lst (qs.map (·.1))) ∧ AllI H'' qs ∧ qs.map (·.2) = ((ps.map (·.2)).take i).flatMap (kids rs) ++ (kids rs p.2).take kk ∧ H'' tt = some (.tup ((stepsAt rs p.2.2).map V.int))) ⟨qs, _, _, rfl, s6.trans s7, s7 _ _ e6, all6.tupS (.of s7), by rw [lv6, List.take_zero, List.append_nil], e7⟩ (fun kk σ H'' _ z => by obtain ⟨_, _, _, _, _, _, _, _, z⟩ := z; exact .inl (.inl z)) ?_ ?_⟩
          · rintro kk x σ Ha T' Hb hxi ⟨qs, v9, v10, rfl, s8, e8, all8, lv8, e8t⟩ nT sT eT
            rw [List.getElem?_map] at hxi
            cases ea : (stepsAt rs p.2.2)[kk]? with
            | none => rw [ea] at hxi; cases hxi
            | some a =>
              rw [ea] at hxi
              obtain rfl : V.int a = x := Option.some.inj hxi
              obtain ⟨op, ns, er, en, eo⟩ := steps_ask ea
              obtain ⟨z0, z1⟩ := fit.nexts er (show a ∈ nextsD (.ask op ns) from List.mem_of_getElem? en)
              obtain ⟨an, rfl⟩ : ∃ an : Nat, a = (an : Int) := ⟨a.toNat, by omega⟩
              have alt : an < rs.length := by omega
              have sb : Same H' Hb := s8.trans sT
              have s0b : Same H Hb := sH.trans sb
              obtain ⟨x, hx1, hx2⟩ := rows.2 _ _ er
              obtain ⟨ra, rt, rfl, hr1, hr2⟩ := hx2
              obtain ⟨hv, hh, ph⟩ := hist
              refine ⟨T', _, rfl, .inl (.inl eT), rfl, _, _, rfl, _, _, rfl, rfl, ?_⟩
              refine ⟨_, rfl, .inl ⟨rfl, _, SqL.of (sT _ _ e8)⟩, _, rfl, _, rfl, _, rfl, r, xs, _, _, rfl, rfl, SqL.of (s0b _ _ hr0), atI_nat hx1, _, _, _, _, rfl, rfl, .inl (.inl (s0b _ _ hr1)), at1', _, rfl, two_ok _ _, fun q1 H9 n9 s9 e9 => ⟨one_ok _, fun u1 H10 n10 s10 e10 => ?_⟩⟩
              have sb10 : Same Hb H10 := s9.trans s10
              refine ⟨ht, u1, hv, .ref q1, rfl, rfl, sb10 _ _ (sb _ _ hh), e10, ?_, fun u H11 s11 e11 => ?_⟩
              · rw [ph.1, g.len, sizeLine_eq]
                omega
              have sb11 : Same Hb H11 := sb10.trans s11
              refine ⟨_, rfl, _, rfl, r, xs, rs, an, rfl, sb11 _ _ (s0b _ _ hr0), rows.same (s0b.trans sb11), fit.go, alt, big, fun H12 s12 => ⟨two_ok _ _, fun q2 H13 n13 s13 e13 => ?_⟩⟩
              have sb13 : Same Hb H13 := sb11.trans (s12.trans s13)
              have e13l := sb13 _ _ (sT _ _ e8)
              have qsl : qs.length ≤ 300 := by
                have h1 := congrArg List.length lv8
                rw [List.length_map, List.length_append] at h1
                have h2 := few.flat ((ps.map (·.2)).take i)
                have h3 := few.at p.2
                have h4 : ((kids rs p.2).take kk).length ≤ (kids rs p.2).length := List.length_take_le' _ _
                have h5 : ((ps.map (·.2)).take i).length ≤ (ps.map (·.2)).length := List.length_take_le' _ _
                rw [List.length_map] at h5
                omega
              refine ⟨la, _, _, rfl, rfl, e13l, by rw [List.length_map, sizeLine_eq]; omega, ?_⟩
              have it : ItemV H13 (.ref q2) (p.2.1 ++ [(opAt rs p.2.2, kk)], stp rs ((an : Nat) : Int).toNat) := by
                refine ⟨q2, u, rfl, e13, hv ++ [.ref q1], (s12.trans s13) _ _ e11, ?_⟩
                rw [eo]
                exact (ph.same (sb.trans sb13)).snoc (p := (op, kk)) (((s10.trans s11).trans (s12.trans s13)) _ _ e9)
              have ts : TupS H13 (upd H13 la (.lst (qs.map (·.1) ++ [.ref q2]))) := .upd e13l
              have ek : (kids rs p.2)[kk]? = some (p.2.1 ++ [(opAt rs p.2.2, kk)], stp rs ((an : Nat) : Int).toNat) := by
                rw [kids_get, ea]
                rfl
              refine ⟨qs ++ [(.ref q2, (p.2.1 ++ [(opAt rs p.2.2, kk)], stp rs ((an : Nat) : Int).toNat))], _, _, rfl, fun b' o' e' => ?_, ?_, ?_, ?_, ?_⟩
              · rw [upd_ne (ne_of_none e' nla6)]
                exact sb13 _ _ (sb _ _ e')
              · rw [upd_same, List.map_append]
                rfl
              · exact ((all8.tupS (.of (sT.trans sb13))).tupS ts).snoc (it.tupS ts)
              · rw [List.map_append, lv8, zipIdx_take_kids ek, List.append_assoc]
                rfl
              · exact ts _ _ (sb13 _ _ (sT _ _ e8t))
          · rintro σ H8 ⟨qs, v9, v10, rfl, s8, e8, all8, lv8, e8t⟩
            refine ⟨qs, _, _, _, _, _, rfl, s8, e8, all8, ?_⟩
            rw [List.length_map, ← kids_len, List.take_length] at lv8
            rw [lv8, List.take_add_one, tk (y := p.2), List.flatMap_append]
            show _ = _ ++ [p.2].flatMap (kids rs)
            rw [List.flatMap_cons, List.flatMap_nil, List.append_nil]
      · rintro σ H6 ⟨qs, v6, v7, v8, v9, v10, rfl, s6, e6, all6, lv6⟩
        refine ⟨_, rfl, la, qs, _, _, _, _, _, _, _, rfl, sH.trans s6, nla, e6, all6, ?_⟩
        rw [List.length_map, ← List.length_map (f := fun p : V × HJ => p.2), List.take_length, lv] at lv6
        exact lv6
    · obtain ⟨fa, ps, v4, v5, v6, v7, v8, v9, v10, rfl, sH, nfa, efa, all, lv⟩ := z
      refine ⟨_, rfl, fa, ps.map pdI, rfl, SqL.of ?_, ?_, ?_, ?_, ?_, fun p np => ?_⟩
      · rw [efa, List.map_map]
        rfl
      · intro z mz
        obtain ⟨p, mp, rfl⟩ := List.mem_map.mp mz
        obtain ⟨q, ht, ev, hq, hist⟩ := all p mp
        exact ⟨by
          show Dp K H' p.1 (dItem p.2)
          rw [ev]
          exact .tup (.inl (.inl hq)) (.cons (dHist_dp hist) (.cons (.int _) .nil)), q, ev⟩
      · intro d hd d' hd'
        obtain ⟨z, mz, rfl⟩ := List.mem_map.mp hd
        obtain ⟨z', mz', rfl⟩ := List.mem_map.mp hd'
        obtain ⟨p, _, rfl⟩ := List.mem_map.mp mz
        obtain ⟨p', _, rfl⟩ := List.mem_map.mp mz'
        exact item_alike _ _
      · refine .inl fun d hd => ?_
        obtain ⟨z, mz, rfl⟩ := List.mem_map.mp hd
        obtain ⟨p, _, rfl⟩ := List.mem_map.mp mz
        exact ⟨_, _, rfl⟩
      · intro z mz
        obtain ⟨p, _, rfl⟩ := List.mem_map.mp mz
        exact item_deep _
      · rw [sortI]
        have sn : Same H' (upd H' p (.lst ((ps.mergeSort leI).map (·.1)))) := sameNew np _
        refine k p (ps.mergeSort leI) _ (sH.trans sn) (none_of sH np) upd_same (fun q mq => ?_) ?_
        · exact (all q ((List.mergeSort_perm _ _).mem_iff.mp mq)).tupS (.of sn)
        · rw [← lv]
          exact (List.mergeSort_perm _ _).map _
end
end Mine

set_option maxRecDepth 100000
set_option maxHeartbeats 4000000
namespace Mine
open PySem L2
abbrev s_numbers : Stmt := top 65
theorem paired_imp {α β : Type} {R S : α → β → Prop} (h : ∀ x y, R x y → S x y) : ∀ {xs : List α} {ys : List β}, Paired R xs ys → Paired S xs ys
  | _, _, .nil => .nil
  | _, _, .cons a b => .cons (h _ _ a) (paired_imp h b)
theorem paired_snoc {α β : Type} {R : α → β → Prop} {x : α} {y : β} (h : R x y) : ∀ {xs : List α} {ys : List β}, Paired R xs ys → Paired R (xs ++ [x]) (ys ++ [y])
  | _, _, .nil => .cons h .nil
  | _, _, .cons a b => .cons a (paired_snoc h b)
theorem merge_new : ∀ (more kvs : List (Key × V)), (more.map (·.1)).Nodup → (∀ k ∈ more.map (·.1), valV kvs k = none) → mergeK kvs more = kvs ++ more
  | [], kvs, _, _ => by rw [List.append_nil]; rfl
  | p :: more, kvs, nd, h => by
    rw [List.map_cons, List.nodup_cons] at nd
    show mergeK (putK kvs p.1 p.2) more = _
    have hp := h p.1 (by rw [List.map_cons]; exact List.mem_cons_self)
    rw [merge_new more _ nd.2 fun k hk => by
      rw [valV_put, if_neg (fun z : k = p.1 => nd.1 (by rw [← z]; exact hk))]
      exact h k (by rw [List.map_cons]; exact List.mem_cons_of_mem _ hk), putK_new _ hp, List.append_assoc]
    rfl
theorem merge_ops {o : Ops} (nd : (o.map (·.1)).Nodup) : mergeK [] (opsK o) = opsK o := by
  have := merge_new (opsK o) [] (by
    rw [opsK_keys, List.Nodup, List.pairwise_map]
    exact List.Pairwise.imp (fun h z => h (Sum.inr.inj z)) nd) (fun _ _ => rfl)
  rw [this]
  rfl
def names6 : List Str := ["coin", "dice", "read", "fail", "tell", "flip"]
def ops6 : Ops := [("coin", 2), ("dice", 3), ("read", 1), ("fail", 0), ("tell", 1), ("flip", 2)]
def opsT (t : Nat) : Ops := (List.range 4).map fun k => ops6.getD ((t + k) % 6) ("", 0)
def opsOk (t : Nat) : Bool := decide ((opsT t).length = 4) && decide ((opsT t).map (·.1)).Nodup && (opsT t).all fun q => PyData.strOk q.1 && isNm q.1 && decide (0 ≤ q.2) && decide (q.2 ≤ 3) && decide (q.1.length ≤ 8)
theorem opsT_all : ∀ t, t < 6 → opsOk t = true := by decide +kernel
structure OpsG (o : Ops) : Prop where
  len : o.length = 4
  nd : (o.map (·.1)).Nodup
  each : ∀ q ∈ o, PyData.strOk q.1 = true ∧ isNm q.1 = true ∧ 0 ≤ q.2 ∧ q.2 ≤ 3 ∧ q.1.length ≤ 8
theorem opsT_ok {t : Nat} (h : t < 6) : OpsG (opsT t) := by
  have q := opsT_all t h
  unfold opsOk at q
  rw [Bool.and_eq_true, Bool.and_eq_true] at q
  obtain ⟨⟨q1, q2⟩, q3⟩ := q
  refine ⟨of_decide_eq_true q1, of_decide_eq_true q2, fun x hx => ?_⟩
  have := List.all_eq_true.mp q3 x hx
  simp only [Bool.and_eq_true, decide_eq_true_eq] at this
  obtain ⟨⟨⟨⟨a, b⟩, c⟩, d⟩, e⟩ := this
  exact ⟨a, b, c, d, e⟩
theorem six_at : ∀ i, i < 6 → (names6[i]? = some (ops6.getD i ("", 0)).1 ∧ opLook ops6 (ops6.getD i ("", 0)).1 = some (ops6.getD i ("", 0)).2) := by decide +kernel
def spNumbers : Sp := fun vs H Q _ => ∃ (a : Addr) (x y z : Int), vs = [.ref a] ∧ H a = some (.lst [.int x, .int y, .int z]) ∧
  ∀ (p : Addr) (t : Nat) (x' y' z' : Int) (H' : Hp), H p = none → t < 6 → But H H' a → H' a = some (.lst [.int x', .int y', .int z']) → H' p = some (.dK (opsK (opsT t))) → Q (.ref p) H'
section
variable {P : Program} {w : World} {K : PySem.W.Frag} {mg : Str → Option Value} {base : Heap}
variable {fII fIW fN : Addr}
theorem sc__law_numbers : FnScope ["_law_well", "_law_some", "_law_names", "_law_turn", "_law_k"] ["_law_well"] (defScope s_numbers) := ⟨rfl, rfl, rfl, by decide +kernel, rfl, by decide +kernel, by decide +kernel⟩
theorem ok_numbers {f : Addr} {fd fdN : FuncData} (F : Fun K "_law_numbers" "_law_numbers" s_numbers f fd) (T : TxtF K mg fII fIW) (h_range : mg "range" = none)
    (GN : FnOk P w K mg base CX0 1 fN fdN ["_law_well", "_law_many"] spNext) (b_next : Binds K fdN ["_law_well", "_law_many"] []) (g_next : mg "_law_draw" = some (.ref fN)) (k_next : PySem.W.keepIn K (.ref fN) = true) : FnOk P w K mg base CX0 2 f fd ["_law_well"] spNumbers := by
  refine F.ok sc__law_numbers (fun vs H Q E h => ?_) (fun cdv A outer s H vs Q E hr h => ?_)
  · obtain ⟨a, x, y, z, rfl, _⟩ := h
    rfl
  · obtain ⟨a, x, y, z, rfl, ha, k⟩ := h
    refine ⟨_, (pss_cons (ps_set (i := 1) sc__law_numbers.nd rfl (Or.inr rfl) (pe_disp (pps_cons pe_str pe_int (pps_cons pe_str pe_int (pps_cons pe_str pe_int (pps_cons pe_str pe_int (pps_cons pe_str pe_int (pps_cons pe_str pe_int pps_nil)))))) rfl rfl (fun z => by cases z) (by show 6 ≤ 15; decide)))
      (pss_cons (ps_set (i := 2) sc__law_numbers.nd rfl (Or.inr rfl) (pe_lstG (pa_cons pe_str (pa_cons pe_str (pa_cons pe_str (pa_cons pe_str (pa_cons pe_str (pa_cons pe_str pa_nil))))))))
      (pss_cons (ps_set (i := 3) sc__law_numbers.nd rfl (Or.inr rfl) (pe_call GN (hr.mono (by decide)) (by rfl) g_next k_next b_next .nil pass0 (pa_cons (pv 0) (pa_cons pe_int pa_nil))))
      (pss_one (ps_ret (pe_callTy (call_dictP rfl) (by rfl) T.b_dict (by decide +kernel) (pa_cons (pe_lc (own := [("_law_k", 4)]) (g := gName 4) (tt := tYes) rfl sc__law_numbers.nd (pi_range1 (by rfl) h_range (pa_cons pe_int pa_nil)) (blkOk_by (own := [("_law_k", 4)]) (N := ["_law_well", "_law_some", "_law_names", "_law_turn", "_law_k"]) (sc := defScope s_numbers) (by decide +kernel)) (fun _ _ _ _ _ => pg_name (i := 4) sc__law_numbers.nd rfl (Or.inl rfl)) (fun _ _ _ _ _ => pts_nil) (fun _ _ _ _ _ => pe_tupG (pa_cons (pe_ix (show IxR _ (rIxL K) from ix_list) (pv 2) (pe_op op_mod (pe_callTy call_int1 (by rfl) T.b_int (by decide +kernel) (pa_cons (pe_op op_add (pv 3) (pv 4)) pa_nil)) pe_int) (fun _ _ => rfl)) (pa_cons (pe_dget (hu_of hr) (pv 1) (pe_ix (show IxR _ (rIxL K) from ix_list) (pv 2) (pe_op op_mod (pe_callTy call_int1 (by rfl) T.b_int (by decide +kernel) (pa_cons (pe_op op_add (pv 3) (pv 4)) pa_nil)) pe_int) (fun _ _ => rfl)) (fun _ _ => rfl)) pa_nil)))) pa_nil))))))), ?_⟩
    refine fun p1 n1 => ⟨upd_same, [(.inr "coin", .int 2), (.inr "dice", .int 3), (.inr "read", .int 1), (.inr "fail", .int 0), (.inr "tell", .int 1), (.inr "flip", .int 2)], rfl, by decide, ?_⟩
    rw [upd_upd]
    have em : mergeK [] [((.inr "coin" : Key), V.int 2), (.inr "dice", .int 3), (.inr "read", .int 1), (.inr "fail", .int 0), (.inr "tell", .int 1), (.inr "flip", .int 2)] = opsK ops6 := merge_ops (o := ops6) (by decide +kernel)
    rw [em]
    have s1 : Same H (upd H p1 (.dK (opsK ops6))) := sameNew n1 _
    have e1 : upd H p1 (.dK (opsK ops6)) p1 = some (.dK (opsK ops6)) := upd_same
    generalize upd H p1 (.dK (opsK ops6)) = H1 at s1 e1 ⊢
    refine ⟨by rw [sizeLine_eq]; exact Nat.le_trans (show 6 ≤ 6 from Nat.le_refl 6) (by decide), fun p2 H2 n2 s2 e2 => ?_⟩
    have nea : p1 ≠ a := fun z => by rw [z, ha] at n1; cases n1
    have nea2 : p2 ≠ a := fun z => by rw [z, s1 _ _ ha] at n2; cases n2
    refine ⟨_, rfl, a, 6, x, y, z, rfl, by decide, by decide, s2 _ _ (s1 _ _ ha), fun tn x' y' z' H3 t0 t1 bt e3 => ?_⟩
    obtain ⟨t, rfl⟩ : ∃ t : Nat, tn = (t : Int) := ⟨tn.toNat, by omega⟩
    have t6 : t < 6 := by omega
    have d3 : H3 p1 = some (.dK (opsK ops6)) := bt _ _ nea (s2 _ _ e1)
    have l3 : H3 p2 = some (.lst (names6.map V.str)) := bt _ _ nea2 e2
    refine ⟨4, rfl, by decide, by decide, fun D nD => ?_⟩
    refine lc_it (walk_range (lo := 0) (n := 4)) (fun i Hx => Same H3 Hx ∧ ∃ ps : List Addr, Hx D = some (.lst (ps.map V.ref)) ∧ Paired (fun p kv => Hx p = some (.tup [kV kv.1, kv.2])) ps (opsK ((opsT t).take i)) ∧ ps.length = i) ⟨sameNew nD _, [], upd_same, .nil, rfl⟩ (fun _ _ _ _ => trivial) (fun i xx Ha Hb hi z1 z2 => ?_) (fun Hx z => ?_)
    · obtain ⟨sx, ps, q1, q4, q5⟩ := z1
      obtain ⟨rfl, rfl⟩ := z2
      have hx : ((t : Int) + (0 + (i : Int))) % 6 = (((t + i) % 6 : Nat) : Int) := by omega
      obtain ⟨a1, a2⟩ := six_at ((t + i) % 6) (Nat.mod_lt _ (by decide))
      have a1' : atI (names6.map V.str) (((t : Int) + (0 + (i : Int))) % 6) = some (V.str (ops6.getD ((t + i) % 6) ("", 0)).1) := by
        rw [hx]
        exact atI_nat (by rw [List.getElem?_map, a1]; rfl)
      refine ⟨rfl, _, rfl, _, rfl, _, rfl, _, _, rfl, rfl, .inl ⟨_, rfl, _, _, rfl, rfl, (by show (0 : Int) < 6; decide), ?_⟩⟩
      refine ⟨p2, _, _, _, rfl, rfl, SqL.of (sx _ _ l3), a1', _, rfl, _, rfl, _, rfl, _, rfl, _, _, rfl, rfl, .inl ⟨_, rfl, _, _, rfl, rfl, (by show (0 : Int) < 6; decide), ?_⟩⟩
      refine ⟨p2, _, _, _, rfl, rfl, SqL.of (sx _ _ l3), a1', p1, _, rfl, .inl ⟨opsK ops6, .inr _, .inl (sx _ _ d3), rfl, (by rw [val_ops, a2]; rfl)⟩, two_ok _ _, fun T' H6 n6 s6 e6 => ?_⟩
      refine ⟨_, s6 _ _ q1, by rw [List.length_map, q5, sizeLine_eq]; omega, fun b o e => ?_, ps ++ [T'], ?_, ?_, by rw [List.length_append, q5]; rfl⟩
      · rw [upd_ne (ne_of_none e nD)]
        exact s6 _ _ (sx _ _ e)
      · rw [upd_same, List.map_append]
        rfl
      · have hD6 := s6 _ _ q1
        have up : ∀ {p : Addr} {us : List V}, H6 p = some (.tup us) → upd H6 D (.lst (ps.map V.ref ++ [.ref T'])) p = some (.tup us) := fun {p us} e => by
          rw [upd_ne (fun z => by rw [z, hD6] at e; cases e)]
          exact e
        have e8 : opsK ((opsT t).take (i + 1)) = opsK ((opsT t).take i) ++ [(Sum.inr (ops6.getD ((t + i) % 6) ("", 0)).1, V.int (ops6.getD ((t + i) % 6) ("", 0)).2)] := by
          have : (opsT t)[i]? = some (ops6.getD ((t + i) % 6) ("", 0)) := by
            unfold opsT
            rw [List.getElem?_map, List.getElem?_range (by omega)]
            rfl
          rw [List.take_add_one, this]
          unfold opsK
          rw [List.map_append]
          rfl
        rw [e8]
        exact paired_snoc (R := fun (p : Addr) (kv : Key × V) => upd H6 D (.lst (ps.map V.ref ++ [.ref T'])) p = some (.tup [kV kv.1, kv.2])) (x := T') (y := ((Sum.inr (ops6.getD ((t + i) % 6) ("", 0)).1, V.int (ops6.getD ((t + i) % 6) ("", 0)).2) : Key × V)) (up e6) (paired_imp (fun p kv e => up (s6 _ _ e)) q4)
    · obtain ⟨sx, ps, q1, q4, q5⟩ := z
      have g := opsT_ok t6
      have e4 : (opsT t).take 4 = opsT t := List.take_of_length_le (by rw [g.len]; decide)
      rw [e4] at q4
      refine ⟨D, ps, opsK (opsT t), rfl, SqL.of q1, paired_imp (fun _ _ e => .inl (.inl e)) q4, fun p np => ?_⟩
      rw [merge_ops g.nd]
      have bt0 : But H Hx a := fun b o nb e => sx _ _ (bt _ _ nb (s2 _ _ (s1 _ _ e)))
      have npH : H p = none := by
        cases e : H p with
        | none => rfl
        | some u =>
          by_cases z : p = a
          · rw [z, sx _ _ e3] at np
            cases np
          · rw [bt0 _ _ z e] at np
            cases np
      refine k p t x' y' z' _ npH t6 (fun b u nb e => ?_) ?_ upd_same
      · rw [upd_ne (ne_of_none e npH)]
        exact bt0 _ _ nb e
      · rw [upd_ne (fun z => by rw [← z, ha] at npH; cases npH)]
        exact sx _ _ e3
end
end Mine

set_option maxRecDepth 100000
set_option maxHeartbeats 4000000
namespace Mine
open PySem L2
abbrev s_rows : Stmt := top 68
def words2 : List Str := ["good", "bad"]
def RowFine (dd : RowD) : Prop := PyData.strOk (rowStr dd) = true
def spDrawRows : Sp := fun vs H Q _ => ∃ (a d wd : Addr) (o : Ops) (n : Nat) (x y z : Int), vs = [.ref a, .ref d, .ref wd, .int (n : Int)] ∧ H a = some (.lst [.int x, .int y, .int z]) ∧ H d = some (.dK (opsK o)) ∧ H wd = some (.lst (words2.map V.str)) ∧ a ≠ wd ∧ (o.map (·.1)).Nodup ∧ o.length < 64 ∧ 0 < o.length ∧ (∀ q ∈ o, PyData.strOk q.1 = true ∧ 0 ≤ q.2 ∧ q.2 ≤ 3) ∧ 1 ≤ n ∧ n ≤ 400 ∧
  ∀ (p : Addr) (xs : List V) (rs : List RowD) (x' y' z' : Int) (H' : Hp), H p = none → rs.length = n → OkRows o rs → (∀ dd ∈ rs, RowFine dd) → But H H' a → H' a = some (.lst [.int x', .int y', .int z']) → H' p = some (.lst xs) → Rows H' xs rs → Q (.ref p) H'
structure FixR (H : Hp) (a p p3 : Addr) : Prop where
  ha : ∃ x y z : Int, H a = some (.lst [.int x, .int y, .int z])
  np : H p = none
  np3 : H p3 = none
  ne : p ≠ p3
theorem FixR.pa {H : Hp} {a p p3 : Addr} (f : FixR H a p p3) : p ≠ a := fun z => by
  obtain ⟨_, _, _, e⟩ := f.ha
  have := f.np
  rw [z, e] at this
  cases this
theorem FixR.p3a {H : Hp} {a p p3 : Addr} (f : FixR H a p p3) : p3 ≠ a := fun z => by
  obtain ⟨_, _, _, e⟩ := f.ha
  have := f.np3
  rw [z, e] at this
  cases this
structure RowsI (H : Hp) (a p p3 : Addr) (ys : List Str) (o : Ops) (n j : Nat) (H' : Hp) : Prop where
  but : But H H' a
  src : SrcAt H' a
  nm : H' p3 = some (.lst (ys.map V.str))
  made : ∃ xs rs, H' p = some (.lst xs) ∧ rs.length = j ∧ Rows H' xs rs ∧ ∀ dd ∈ rs, OkRow o n dd ∧ RowFine dd
theorem RowsI.go {H H' H'' : Hp} {a p p3 : Addr} {ys : List Str} {o : Ops} {n j : Nat} (r : RowsI H a p p3 ys o n j H') (s : Same H' H'') : RowsI H a p p3 ys o n j H'' := by
  obtain ⟨b, ⟨x, y, z, e⟩, c, xs, rs, d1, d2, d3, d4⟩ := r
  exact ⟨fun q u nq e => s _ _ (b q u nq e), ⟨x, y, z, s _ _ e⟩, s _ _ c, xs, rs, s _ _ d1, d2, d3.same s, d4⟩
theorem RowsI.draw {H H' H'' : Hp} {a p p3 : Addr} {ys : List Str} {o : Ops} {n j : Nat} (f : FixR H a p p3) (r : RowsI H a p p3 ys o n j H') (s : But H' H'' a) (e2 : SrcAt H'' a) : RowsI H a p p3 ys o n j H'' := by
  obtain ⟨b, ⟨x, y, z, e⟩, c, xs, rs, d1, d2, d3, d4⟩ := r
  refine ⟨b.trans s, e2, s _ _ f.p3a c, xs, rs, s _ _ f.pa d1, d2, ⟨d3.1, fun i dd ed => ?_⟩, d4⟩
  obtain ⟨v, h1, h2⟩ := d3.2 i dd ed
  have up : ∀ {q : Addr} {us : List V}, H' q = some (.tup us) → H'' q = some (.tup us) := fun {q us} eq => s _ _ (fun z => by rw [z, e] at eq; cases eq) eq
  refine ⟨v, h1, ?_⟩
  cases dd with
  | ask op ns =>
    obtain ⟨q, t, e1, k1, k2⟩ := h2
    exact ⟨q, t, e1, up k1, up k2⟩
  | go m =>
    obtain ⟨q, e1, k1⟩ := h2
    exact ⟨q, e1, up k1⟩
  | fin m =>
    obtain ⟨q, e1, k1⟩ := h2
    exact ⟨q, e1, up k1⟩
theorem RowsI.put {H H' : Hp} {a p p3 : Addr} {ys : List Str} {o : Ops} {n j : Nat} (f : FixR H a p p3) (r : RowsI H a p p3 ys o n j H') : ∃ xs, H' p = some (.lst xs) ∧ xs.length = j ∧ ∀ (T : Addr) (dd : RowD), TRow H' (.ref T) dd → OkRow o n dd → RowFine dd → RowsI H a p p3 ys o n (j + 1) (upd H' p (.lst (xs ++ [.ref T]))) := by
  obtain ⟨b, ⟨x, y, z, e⟩, c, xs, rs, d1, d2, d3, d4⟩ := r
  refine ⟨xs, d1, by rw [d3.1, d2], fun T dd t1 t2 t3 => ⟨fun q u nq eq => ?_, ⟨x, y, z, ?_⟩, ?_, xs ++ [.ref T], rs ++ [dd], upd_same, by rw [List.length_append, d2]; rfl, ⟨by rw [List.length_append, List.length_append, d3.1]; rfl, fun i di ei => ?_⟩, fun q hq => ?_⟩⟩
  · rw [upd_ne (ne_of_none eq f.np)]
    exact b q u nq eq
  · rw [upd_ne (Ne.symm f.pa)]
    exact e
  · rw [upd_ne (Ne.symm f.ne)]
    exact c
  · by_cases hi : i < rs.length
    · rw [List.getElem?_append_left hi] at ei
      obtain ⟨v, h1, h2⟩ := d3.2 i di ei
      exact ⟨v, by rw [List.getElem?_append_left (by rw [d3.1]; exact hi)]; exact h1, h2.other d1⟩
    · rw [List.getElem?_append_right (by omega)] at ei
      have hz : i - rs.length = 0 := by
        have := (List.getElem?_eq_some_iff.mp ei).1
        rw [List.length_singleton] at this
        omega
      rw [hz] at ei
      cases ei
      exact ⟨.ref T, by rw [List.getElem?_append_right (by rw [d3.1]; omega), d3.1, hz]; rfl, t1.other d1⟩
  · rcases List.mem_append.mp hq with h | h
    · exact d4 q h
    · rw [List.mem_singleton.mp h]
      exact ⟨t2, t3⟩
theorem words2_raw : ∀ t ∈ words2, isNm t = true ∧ t.length ≤ 8 ∧ PyData.strOk t = true := by decide +kernel
theorem go_ok : PyData.strOk ("go" : Str) = true := by decide +kernel
def tElse : TS := fun D σ H' => ∃ (H : Hp) (a p p3 d wd : Addr) (ys : List Str) (o : Ops) (n j : Nat) (way : Int) (v6 v8 v9 : Option V), σ = [some (.ref a), some (.ref d), some (.ref wd), some (.int (n : Int)), some (.ref p), some (.ref p3), v6, some (.int way), v8, v9] ∧ FixR H a p p3 ∧ RowsI H a p p3 ys o n j H' ∧ H wd = some (.lst (words2.map V.str)) ∧ a ≠ wd ∧ 1 ≤ n ∧ n ≤ 400 ∧ j ≤ 400 ∧
  ∀ H'', RowsI H a p p3 ys o n (j + 1) H'' → D.nx σ H''
section
variable {P : Program} {w : World} {K : PySem.W.Frag} {mg : Str → Option Value} {base : Heap}
variable {fII fIW fN fO : Addr}
theorem sc__law_rows : FnScope ["_law_well", "_law_numbers_here", "_law_words", "_law_size", "_law_rows_here", "_law_names", "_law_k", "_law_way", "_law_name", "_law_j"] ["_law_well", "_law_numbers_here", "_law_words", "_law_size"] (defScope s_rows) := ⟨rfl, rfl, rfl, by decide +kernel, rfl, by decide +kernel, by decide +kernel⟩
theorem ok_draw_rows {f : Addr} {fd fdN fdO : FuncData} (F : Fun K "_law_rows" "_law_rows" s_rows f fd) (T : TxtF K mg fII fIW) (h_range : mg "range" = none) (h_sorted : mg "sorted" = none)
    (GN : FnOk P w K mg base CX0 1 fN fdN ["_law_well", "_law_many"] spNext) (b_next : Binds K fdN ["_law_well", "_law_many"] []) (g_next : mg "_law_draw" = some (.ref fN)) (k_next : PySem.W.keepIn K (.ref fN) = true)
    (GO : FnOk P w K mg base CX0 2 fO fdO ["_law_well", "_law_some"] spOne) (b_one : Binds K fdO ["_law_well", "_law_some"] []) (g_one : mg "_law_pick" = some (.ref fO)) (k_one : PySem.W.keepIn K (.ref fO) = true) : FnOk P w K mg base CX0 3 f fd ["_law_well", "_law_numbers_here", "_law_words", "_law_size"] spDrawRows := by
  refine F.ok sc__law_rows (fun vs H Q E h => ?_) (fun cdv A outer s H vs Q E hr h => ?_)
  · obtain ⟨a, d, wd, o, n, x, y, z, rfl, _⟩ := h
    rfl
  · obtain ⟨a, d, wd, o, n, x, y, z, rfl, ha, hd, hwd, naw, nd, few, pos, okn, n1, n2, k⟩ := h
    refine ⟨_, (pss_cons (ps_par (i := 4) (j := 5) rfl sc__law_rows.nd rfl rfl (by decide) rfl rfl (pa_cons (pe_lstG pa_nil) (pa_cons (pe_callB (call_sortedD rfl) (by rfl) h_sorted (by decide +kernel) (pa_cons (pv 1) pa_nil)) pa_nil)) rfl)
      (pss_cons (ps_for PassesOwn.never rfl (pi_range1 (by rfl) h_range (pa_cons (pv 3) pa_nil)) (pg_name (i := 6) sc__law_rows.nd rfl (Or.inl rfl))
        (pss_cons (ps_set (i := 7) sc__law_rows.nd rfl (Or.inl rfl) (pe_call GN (hr.mono (by decide)) (by rfl) g_next k_next b_next .nil pass0 (pa_cons (pv 0) (pa_cons pe_int pa_nil))))
        (pss_cons (ps_set (i := 8) sc__law_rows.nd rfl (Or.inl rfl) (pe_call GO (hr.mono (by decide)) (by rfl) g_one k_one b_one .nil pass0 (pa_cons (pv 0) (pa_cons (pv 5) pa_nil))))
        (pss_one (ps_if (pt_cmpR op_lt (pv 7) pe_int (nomark _)) (pss_one (ps_expr (pe_bm PySem.F.plainAttrs_list PySem.F.slot_list_append PySem.F.type_list_append mt_append (pv 4) (pa_cons (pe_tupG (pa_cons pe_str (pa_cons (pv 8) (pa_cons (pe_callTy call_tupleG (by rfl) T.b_tuple (by decide +kernel) (pa_cons (pe_lc (own := [("_law_j", 9)]) (g := gName 9) (tt := tYes) rfl sc__law_rows.nd (pi_range1 (by rfl) h_range (pa_cons (pe_dget (hu_of hr) (pv 1) (pv 8) (fun _ _ => rfl)) pa_nil)) (blkOk_by (own := [("_law_j", 9)]) (N := ["_law_well", "_law_numbers_here", "_law_words", "_law_size", "_law_rows_here", "_law_names", "_law_k", "_law_way", "_law_name", "_law_j"]) (sc := defScope s_rows) (by decide +kernel)) (fun _ _ _ _ _ => pg_name (i := 9) sc__law_rows.nd rfl (Or.inl rfl)) (fun _ _ _ _ _ => pts_nil) (fun _ _ _ _ _ => (pe_call GN (hr.mono (by decide)) (by rfl) g_next k_next b_next .nil pass0 (pa_cons (pv 0) (pa_cons (pv 3) pa_nil))))) pa_nil)) pa_nil)))) pa_nil))))
          (pss_one (ps_imp (t' := tElse) (ps_if (pt_cmpR op_eq (pv 7) pe_int (nomark _)) (pss_one (ps_expr (pe_bm PySem.F.plainAttrs_list PySem.F.slot_list_append PySem.F.type_list_append mt_append (pv 4) (pa_cons (pe_tupG (pa_cons pe_str (pa_cons (pe_call GN (hr.mono (by decide)) (by rfl) g_next k_next b_next .nil pass0 (pa_cons (pv 0) (pa_cons (pv 3) pa_nil))) pa_nil))) pa_nil)))) (pss_one (ps_expr (pe_bm PySem.F.plainAttrs_list PySem.F.slot_list_append PySem.F.type_list_append mt_append (pv 4) (pa_cons (pe_tupG (pa_cons pe_str (pa_cons (pe_call GO (hr.mono (by decide)) (by rfl) g_one k_one b_one .nil pass0 (pa_cons (pv 0) (pa_cons (pv 2) pa_nil))) pa_nil))) pa_nil))))) (fun D σ H' q => by
        obtain ⟨H, a, p, p3, d, wd, ys, o, n, j, way, v6, v8, v9, rfl, fx, ri, hwd, naw, n1, n2, j2, kk⟩ := q
        have two : ∀ v u : V, [v, u].length ≤ sizeLine := fun v u => by rw [sizeLine_eq]; exact Nat.le_trans (show 2 ≤ 2 from Nat.le_refl 2) (by decide)
        obtain ⟨x, y, z, src⟩ := ri.src
        obtain ⟨xs0, q0, _, _⟩ := ri.put fx
        refine ⟨_, rfl, rfl, _, rfl, ?_⟩
        refine ite2 (fun _ => ?_) (fun _ => ?_)
        · refine ⟨_, rfl, .inl ⟨rfl, _, SqL.of q0⟩, _, rfl, _, rfl, a, (n : Int), x, y, z, rfl, by omega, ?_, src, fun k u1 u2 u3 H4 k0 k1 bt e4 => ?_⟩
          · rw [Int.natAbs_natCast]
            exact Nat.lt_of_le_of_lt n2 (by decide)
          · refine ⟨two _ _, fun T H5 nT s5 e5 => ?_⟩
            have r5 := (ri.draw fx bt ⟨u1, u2, u3, e4⟩).go s5
            obtain ⟨xs, q1, q2, q3⟩ := r5.put fx
            exact ⟨p, xs, .ref T, rfl, rfl, q1, by rw [q2, sizeLine_eq]; omega, kk _ (q3 T (.go k) ⟨T, rfl, e5⟩ ⟨k0, k1⟩ go_ok)⟩
        · have hw2 := ri.but _ _ (Ne.symm naw) hwd
          refine ⟨_, rfl, .inl ⟨rfl, _, SqL.of q0⟩, _, rfl, _, rfl, a, wd, _, x, y, z, rfl, src, hw2, by show 0 < 2; decide, by show 2 ≤ 1000; decide, naw, fun v x1 y1 z1 H4 mv bt e4 => ?_⟩
          obtain ⟨t, ht, rfl⟩ := List.mem_map.mp mv
          refine ⟨two _ _, fun T H5 nT s5 e5 => ?_⟩
          have r5 := (ri.draw fx bt ⟨x1, y1, z1, e4⟩).go s5
          obtain ⟨xs, q1, q2, q3⟩ := r5.put fx
          obtain ⟨w1, w2, w3⟩ := words2_raw t ht
          exact ⟨p, xs, .ref T, rfl, rfl, q1, by rw [q2, sizeLine_eq]; omega, kk _ (q3 T (.fin t) ⟨T, rfl, e5⟩ ⟨w1, w2⟩ w3)⟩))))))))
      (pss_one (ps_ret (pv 4))))), ?_⟩
    refine ⟨Nat.zero_le _, fun p H1 np s1 e1 => ?_⟩
    have keys : (opsK o).map (fun kv => kv.1) = (o.map (·.1)).map Sum.inr := by
      unfold opsK
      rw [List.map_map, List.map_map]
      rfl
    refine ⟨_, rfl, d, opsK o, o.map (·.1), rfl, .inl (s1 _ _ hd), keys, by rw [List.length_map]; exact few, fun ys p3 perm srt np3 => ⟨_, _, rfl, ?_⟩⟩
    have s13 : Same H1 (upd H1 p3 (.lst (ys.map V.str))) := sameNew np3 _
    have fx : FixR H a p p3 := ⟨⟨x, y, z, ha⟩, np, none_of s1 np3, fun q => by
      rw [q, np3] at e1
      cases e1⟩
    have ri0 : RowsI H a p p3 ys o n 0 (upd H1 p3 (.lst (ys.map V.str))) :=
      ⟨fun q u _ e => s13 _ _ (s1 _ _ e), ⟨x, y, z, s13 _ _ (s1 _ _ ha)⟩, upd_same, [], [], s13 _ _ e1, rfl, ⟨rfl, fun i dd e => by simp at e⟩, fun dd h => (nomatch h)⟩
    have da : d ≠ a := fun q => by
      rw [q, ha] at hd
      cases hd
    have inN : ∀ t ∈ ys, ∃ c, opLook o t = some c ∧ 0 ≤ c ∧ c ≤ 3 ∧ PyData.strOk t = true := fun t ht => by
      obtain ⟨q, hq, rfl⟩ := List.mem_map.mp (perm.mem_iff.mp ht)
      obtain ⟨a1, a2, a3⟩ := okn q hq
      exact ⟨q.2, look_mem nd q hq, a2, a3, a1⟩
    have yl : ys.length < 64 ∧ 0 < ys.length := by
      have := perm.length_eq
      rw [List.length_map] at this
      omega
    refine ⟨_, rfl, (n : Int), rfl, by omega, by omega, for_range (n := n) (fun j σ H' => ∃ v6 v7 v8 v9 : Option V, σ = [some (.ref a), some (.ref d), some (.ref wd), some (.int (n : Int)), some (.ref p), some (.ref p3), v6, v7, v8, v9] ∧ RowsI H a p p3 ys o n j H') ⟨_, _, _, _, rfl, ri0⟩ (fun j σ H' hj z => ?_) (fun σ H' z => ?_)⟩
    · obtain ⟨v6, v7, v8, v9, rfl, ri⟩ := z
      obtain ⟨x1, y1, z1, src⟩ := ri.src
      refine ⟨_, rfl, a, 8, x1, y1, z1, rfl, by decide, by decide, src, fun way u1 u2 u3 H4 w0 w1 bt e4 => ?_⟩
      have r4 := ri.draw fx bt ⟨u1, u2, u3, e4⟩
      refine ⟨_, rfl, _, rfl, a, p3, _, u1, u2, u3, rfl, e4, r4.nm, by rw [List.length_map]; exact yl.2, by rw [List.length_map]; omega, Ne.symm fx.p3a, fun v x6 y6 z6 H6 mv bt6 e6 => ?_⟩
      obtain ⟨t, ht, rfl⟩ := List.mem_map.mp mv
      obtain ⟨c, c1, c2, c3, c4⟩ := inN t ht
      have r6 := r4.draw fx bt6 ⟨x6, y6, z6, e6⟩
      refine ⟨_, rfl, _, _, rfl, rfl, _, rfl, ?_⟩
      refine ite2 (fun _ => ?_) (fun _ => ?_)
      · obtain ⟨xs0, q0, _, _⟩ := r6.put fx
        refine ⟨_, rfl, .inl ⟨rfl, _, SqL.of q0⟩, _, rfl, _, rfl, _, rfl, d, _, rfl, .inl ⟨opsK o, .inr t, .inl (r6.but _ _ da hd), rfl, (by rw [val_ops, c1]; rfl)⟩, c, rfl, by omega, by omega, fun D nD => ?_⟩
        have Da : D ≠ a := fun q => by
          rw [q, e6] at nD
          cases nD
        refine lc_it (walk_range (lo := 0) (n := c.toNat)) (fun i Hx => But H6 Hx a ∧ SrcAt Hx a ∧ ∃ ns : List Int, Hx D = some (.lst (ns.map V.int)) ∧ ns.length = i ∧ ∀ m ∈ ns, 0 ≤ m ∧ m < (n : Int)) ⟨fun q u _ e => ?_, ⟨x6, y6, z6, ?_⟩, [], upd_same, rfl, fun _ h => (nomatch h)⟩ (fun _ _ _ _ => trivial) (fun i xx Ha Hb hi z1 z2 => ?_) (fun Hx z => ?_)
        · rw [upd_ne (ne_of_none e nD)]
          exact e
        · rw [upd_ne (Ne.symm Da)]
          exact e6
        · obtain ⟨b1, ⟨x7, y7, z7, e7⟩, ns, b2, b3, b4⟩ := z1
          obtain ⟨rfl, rfl⟩ := z2
          refine ⟨rfl, _, rfl, _, rfl, a, (n : Int), x7, y7, z7, rfl, by omega, ?_, e7, fun m u7 u8 u9 H8 m0 m1 bt8 e8 => ?_⟩
          · rw [Int.natAbs_natCast]
            exact Nat.lt_of_le_of_lt n2 (by decide)
          · refine ⟨_, bt8 _ _ Da b2, by rw [List.length_map, b3, sizeLine_eq]; omega, fun q u nq e => ?_, ⟨u7, u8, u9, ?_⟩, ns ++ [m], ?_, by rw [List.length_append, b3]; rfl, fun k hk => ?_⟩
            · rw [upd_ne (ne_of_none e nD)]
              exact bt8 _ _ nq (b1 _ _ nq e)
            · rw [upd_ne (Ne.symm Da)]
              exact e8
            · rw [upd_same, List.map_append]
              rfl
            · rcases List.mem_append.mp hk with h | h
              · exact b4 k h
              · rw [List.mem_singleton.mp h]
                exact ⟨m0, m1⟩
        · obtain ⟨b1, b5, ns, b2, b3, b4⟩ := z
          have r7 := r6.draw fx b1 b5
          refine ⟨D, _, rfl, .inl b2, fun tt H8 s8 e8 => ?_⟩
          refine ⟨by rw [sizeLine_eq]; exact Nat.le_trans (show 3 ≤ 3 from Nat.le_refl 3) (by decide), fun T H9 nT s9 e9 => ?_⟩
          have r9 := (r7.go s8).go s9
          obtain ⟨xs, q1, q2, q3⟩ := r9.put fx
          refine ⟨p, xs, .ref T, rfl, rfl, q1, by rw [q2, sizeLine_eq]; omega, ?_⟩
          exact ⟨_, _, _, _, rfl, q3 T (.ask t ns) ⟨T, tt, rfl, e9, s9 _ _ e8⟩ ⟨by rw [c1, b3]; congr 1; omega, by omega, b4⟩ c4⟩
      · exact ⟨H, a, p, p3, d, wd, ys, o, n, j, way, _, _, _, rfl, fx, r6, hwd, naw, n1, n2, by omega, fun H'' rr => ⟨_, _, _, _, rfl, rr⟩⟩
    · obtain ⟨v6, v7, v8, v9, rfl, bu, ⟨x1, y1, z1, src⟩, nm, xs, rs, d1, d2, d3, d4⟩ := z
      refine ⟨_, rfl, k p xs rs x1 y1 z1 H' np d2 (fun i dd e => ?_) (fun dd h => (d4 dd h).2) bu src d1 d3⟩
      rw [d2]
      exact (d4 dd (List.mem_of_getElem? e)).1
end
end Mine

set_option maxRecDepth 100000
set_option maxHeartbeats 4000000
namespace L2
open PySem PySem.Spec PyProof.Rows
/-- a list != [] -/
def rNeNil : R2 := fun x y H Q => ∃ (a b : Addr) (xs : List V), x = .ref a ∧ y = .ref b ∧ H a = some (.lst xs) ∧ H b = some (.lst []) ∧ Q (.bl (!xs.isEmpty)) H
theorem op_neNil {X : Cx} (hu : X.A.units < cLine) : OpR X (compareOp .NotEq) rNeNil := by
  intro pins s σ H x y v u Q I rx ry h
  obtain ⟨a, b, xs, rfl, rfl, ha, hb, q⟩ := h
  obtain rfl : v = Value.ref a := rx
  obtain rfl : u = Value.ref b := ry
  obtain ⟨its, r1, l1, _⟩ := I.list (SqL.of ha)
  obtain ⟨its2, r2, l2, _⟩ := I.list (SqL.of hb)
  cases r2
  cases xs with
  | nil =>
    cases r1
    exact SeqAt.RcNeAt.lists (A := X.A) (s := s) (e := fun _ => true) l1.isList l2.isList rfl hu (fun j h1 _ => absurd h1 (Nat.not_lt_zero j)) X.prog X.w X.xe _ ⟨.bl _, H, I, rfl, q⟩
  | cons z zs =>
    have hl : its.length = (z :: zs).length := r1.length.symm
    exact SeqAt.RcNeAt.lists_lengths (A := X.A) (s := s) l1.isList l2.isList (by
      rw [List.size_toArray, hl]
      rfl) hu X.prog X.w X.xe _ ⟨.bl _, H, I, rfl, q⟩
end L2
namespace Mine
open PySem L2
theorem flat_congr {α β : Type} {f g : α → List β} : ∀ {l : List α}, (∀ x ∈ l, f x = g x) → l.flatMap f = l.flatMap g
  | [], _ => rfl
  | x :: l, h => by rw [List.flatMap_cons, List.flatMap_cons, h x List.mem_cons_self, flat_congr fun y m => h y (List.mem_cons_of_mem _ m)]
/-! all histories up to a length, one way and the other -/
def sub (rs : List RowD) : Nat → HJ → List HJ
  | 0, x => [x]
  | d + 1, x => x :: (kids rs x).flatMap (sub rs d)
def levL (rs : List RowD) (l : List HJ) : Nat → List HJ
  | 0 => l
  | n + 1 => (levL rs l n).flatMap (kids rs)
theorem lev_levL (rs : List RowD) (j0 : Nat) : ∀ n, lev rs j0 n = levL rs [([], j0)] n
  | 0 => rfl
  | n + 1 => by
    show (lev rs j0 n).flatMap (kids rs) = (levL rs _ n).flatMap (kids rs)
    rw [lev_levL rs j0 n]
theorem levL_step (rs : List RowD) (l : List HJ) : ∀ n, levL rs (l.flatMap (kids rs)) n = levL rs l (n + 1)
  | 0 => rfl
  | n + 1 => by
    show (levL rs (l.flatMap (kids rs)) n).flatMap (kids rs) = (levL rs l (n + 1)).flatMap (kids rs)
    rw [levL_step rs l n]
theorem flat_cons_perm (f : HJ → List HJ) : ∀ l : List HJ, (l.flatMap fun x => x :: f x).Perm (l ++ l.flatMap f)
  | [] => .refl _
  | x :: l => by
    rw [List.flatMap_cons, List.flatMap_cons, List.cons_append, List.cons_append]
    refine List.Perm.cons x ?_
    refine ((flat_cons_perm f l).append_left (f x)).trans ?_
    rw [← List.append_assoc, ← List.append_assoc]
    exact List.Perm.append_right _ List.perm_append_comm
theorem sub_levs (rs : List RowD) : ∀ (d : Nat) (l : List HJ), (l.flatMap (sub rs d)).Perm ((List.range (d + 1)).flatMap (levL rs l))
  | 0, l => by
    have : l.flatMap (sub rs 0) = l := by
      induction l with
      | nil => rfl
      | cons x l ih => rw [List.flatMap_cons, ih]; rfl
    rw [this]
    show l.Perm ([0].flatMap (levL rs l))
    rw [List.flatMap_cons, List.flatMap_nil, List.append_nil]
    exact .refl _
  | d + 1, l => by
    have h1 : (l.flatMap (sub rs (d + 1))).Perm (l ++ l.flatMap fun x => (kids rs x).flatMap (sub rs d)) := flat_cons_perm (fun x => (kids rs x).flatMap (sub rs d)) l
    refine h1.trans ?_
    rw [List.range_succ_eq_map, List.flatMap_cons]
    refine List.Perm.append_left _ ?_
    rw [← List.flatMap_assoc]
    refine (sub_levs rs d (l.flatMap (kids rs))).trans ?_
    rw [List.flatMap_map]
    refine .of_eq (flat_congr fun n _ => levL_step rs l n)
def levs (rs : List RowD) (j0 n : Nat) : List HJ := (List.range n).flatMap (lev rs j0)
theorem levs_succ (rs : List RowD) (j0 n : Nat) : levs rs j0 (n + 1) = levs rs j0 n ++ lev rs j0 n := by
  unfold levs
  rw [List.range_succ, List.flatMap_append, List.flatMap_cons, List.flatMap_nil, List.append_nil]
theorem tree_levs (rs : List RowD) (j0 : Nat) : (sub rs 4 ([], j0)).Perm (levs rs j0 5) := by
  have h := sub_levs rs 4 [([], j0)]
  rw [List.flatMap_cons, List.flatMap_nil, List.append_nil] at h
  refine h.trans (.of_eq ?_)
  unfold levs
  exact flat_congr fun n _ => (lev_levL rs j0 n).symm
theorem levs_few {rs : List RowD} (few : FewN rs) (j0 : Nat) : ∀ n, n ≤ 5 → (levs rs j0 n).length ≤ 121 := by
  have h := few.lev j0
  have h0 := h 0
  have h1 := h 1
  have h2 := h 2
  have h3 := h 3
  have h4 := h 4
  have e : (levs rs j0 5).length ≤ 121 := by
    rw [levs_succ, levs_succ, levs_succ, levs_succ, levs_succ]
    simp only [List.length_append]
    have : (levs rs j0 0).length = 0 := rfl
    omega
  have mono : ∀ n k, (levs rs j0 n).length ≤ (levs rs j0 (n + k)).length := fun n k => by
    induction k with
    | zero => exact Nat.le_refl _
    | succ k ih =>
      rw [← Nat.add_assoc, levs_succ, List.length_append]
      omega
  intro n hn
  have := mono n (5 - n)
  rw [show n + (5 - n) = 5 by omega] at this
  omega
theorem levs_good {rs : List RowD} {j0 : Nat} (fit : Fit rs) (hj : j0 < rs.length) {n : Nat} {x : HJ} (m : x ∈ levs rs j0 n) : ∃ k, k < n ∧ GoodI rs j0 k x := by
  obtain ⟨k, m1, m2⟩ := List.mem_flatMap.mp m
  exact ⟨k, List.mem_range.mp m1, lev_good fit hj k x m2⟩
/-- what is left to be visited -/
def todo (rs : List RowD) (ls : List HJ) : List HJ := ls.flatMap fun x => sub rs (4 - x.1.length) x
theorem perm_flat {f : HJ → List HJ} {l m : List HJ} (p : l.Perm m) : (l.flatMap f).Perm (m.flatMap f) := p.flatMap_right f
theorem sub_pos (rs : List RowD) : ∀ (d : Nat) (x : HJ), sub rs d x = x :: (match d with | 0 => [] | d + 1 => (kids rs x).flatMap (sub rs d))
  | 0, _ => rfl
  | _ + 1, _ => rfl
theorem todo_len (rs : List RowD) : ∀ ls : List HJ, ls.length ≤ (todo rs ls).length
  | [] => Nat.le_refl _
  | x :: ls => by
    have h := todo_len rs ls
    show ls.length + 1 ≤ (sub rs (4 - x.1.length) x ++ todo rs ls).length
    rw [List.length_append, sub_pos]
    simp only [List.length_cons]
    omega
/-- one is taken, what comes behind it is put to the others -/
theorem todo_step {rs : List RowD} {ss ls ls' : List HJ} {x : HJ} {root : List HJ} (h : (ss ++ todo rs ls).Perm root) (p : (x :: ls').Perm ls) (lx : x.1.length ≤ 4) {new : List HJ} (hn : new = if x.1.length < 4 then kids rs x else []) (hk : ∀ y ∈ kids rs x, y.1.length = x.1.length + 1) :
    (ss ++ [x] ++ todo rs (ls' ++ new)).Perm root ∧ (todo rs (ls' ++ new)).length + 1 = (todo rs ls).length := by
  have e : (sub rs (4 - x.1.length) x) = x :: todo rs new := by
    subst hn
    by_cases c : x.1.length < 4
    · rw [if_pos c]
      obtain ⟨d, ed⟩ : ∃ d, 4 - x.1.length = d + 1 := ⟨3 - x.1.length, by omega⟩
      rw [ed]
      show x :: (kids rs x).flatMap (sub rs d) = _
      congr 1
      unfold todo
      refine flat_congr fun y hy => ?_
      rw [hk y hy, show 4 - (x.1.length + 1) = d by omega]
    · rw [if_neg c, show 4 - x.1.length = 0 by omega]
      rfl
  have p2 : (todo rs ls).Perm (x :: (todo rs new ++ todo rs ls')) := by
    refine (perm_flat (f := fun x => sub rs (4 - x.1.length) x) p.symm).trans (.of_eq ?_)
    show sub rs (4 - x.1.length) x ++ todo rs ls' = _
    rw [e]
    rfl
  have e2 : todo rs (ls' ++ new) = todo rs ls' ++ todo rs new := List.flatMap_append
  constructor
  · refine List.Perm.trans ?_ h
    rw [List.append_assoc, e2]
    refine List.Perm.append_left _ ?_
    refine List.Perm.trans ?_ p2.symm
    show (x :: (todo rs ls' ++ todo rs new)).Perm _
    exact List.Perm.cons x List.perm_append_comm
  · rw [e2, List.length_append, p2.length_eq, List.length_cons, List.length_append]
    omega
/-! .. as data -/
theorem goTo_txt {rs : List RowD} (tx : TxOk rs) : ∀ {ws : List (Str × Nat)} {i j : Nat}, goTo rs i ws = some j → ∀ p ∈ ws, PyData.strOk p.1 = true
  | [], _, _, _, p, m => nomatch m
  | (o, k) :: ws, i, j, h, p, m => by
    obtain ⟨ns, a, h1, _, h3⟩ := goTo_cons h
    rcases List.mem_cons.mp m with rfl | m
    · exact tx _ (List.mem_of_getElem? h1)
    · exact goTo_txt tx h3 p m
def dDue (rs : List RowD) (x : HJ) : PyData := .tuple [dHist x.1, .tuple ((showAt rs x.2).map PyData.str)]
def DueV (rs : List RowD) (H : Hp) (v : V) (x : HJ) : Prop := ∃ (q h t : Addr), v = .ref q ∧ H q = some (.tup [.ref h, .ref t]) ∧ HistT H h x.1 ∧ H t = some (.tup ((showAt rs x.2).map V.str))
theorem DueV.tupS {rs : List RowD} {H H' : Hp} {v : V} {x : HJ} (s : TupS H H') (d : DueV rs H v x) : DueV rs H' v x := by
  obtain ⟨q, h, t, e, h1, h2, h3⟩ := d
  exact ⟨q, h, t, e, s _ _ h1, h2.tupS s, s _ _ h3⟩
def AllD (rs : List RowD) (H : Hp) (ps : List (V × HJ)) : Prop := ∀ p ∈ ps, DueV rs H p.1 p.2
theorem AllD.tupS {rs : List RowD} {H H' : Hp} {ps : List (V × HJ)} (s : TupS H H') (h : AllD rs H ps) : AllD rs H' ps := fun p m => (h p m).tupS s
theorem AllD.app {rs : List RowD} {H : Hp} {ps qs : List (V × HJ)} (h : AllD rs H ps) (k : AllD rs H qs) : AllD rs H (ps ++ qs) := fun p m => (List.mem_append.mp m).elim (h p) (k p)
theorem DueV.dp {rs : List RowD} {K : PySem.W.Frag} {H : Hp} {v : V} {x : HJ} (d : DueV rs H v x) : Dp K H v (dDue rs x) ∧ ∃ t, v = V.ref t := by
  obtain ⟨q, h, t, rfl, h1, h2, h3⟩ := d
  exact ⟨.tup (.inl (.inl h1)) (.cons (dHist_dp h2) (.cons (.tup (.inl (.inl h3)) (strs_all _)) .nil)), q, rfl⟩
theorem strs_alike : ∀ ts us : List Str, PySem.W.alikeAll (ts.map PyData.str) (us.map PyData.str) = true
  | [], _ => by simp [PySem.W.alikeAll]
  | _ :: _, [] => by simp [PySem.W.alikeAll]
  | t :: ts, u :: us => by
    rw [List.map_cons, List.map_cons, PySem.W.alikeAll, strs_alike ts us]
    simp [PySem.W.alike]
theorem due_alike (rs : List RowD) (x y : HJ) : PySem.W.alike (dDue rs x) (dDue rs y) = true := by
  simp [dDue, dHist, PySem.W.alike, PySem.W.alikeAll, hist_alike, strs_alike]
theorem due_deep (rs : List RowD) (x : HJ) : (dDue rs x).depth ≤ 4 := by
  have h1 := dHist_deep x.1
  have h2 := strs_dep (showAt rs x.2)
  simp only [dDue, PyData.depth, PyData.depthAll]
  omega
theorem hist_can : ∀ {ws : List (Str × Nat)}, (∀ p ∈ ws, PyData.strOk p.1 = true) → PyData.canLayAll0 (ws.map fun p => PyData.tuple [.str p.1, .int (p.2 : Int)]) = true
  | [], _ => by simp [PyData.canLayAll0]
  | p :: ws, h => by
    rw [List.map_cons]
    simp [PyData.canLayAll0, PyData.canLay0, h p List.mem_cons_self, hist_can fun q m => h q (List.mem_cons_of_mem _ m)]
theorem strs_can : ∀ {ts : List Str}, (∀ t ∈ ts, PyData.strOk t = true) → PyData.canLayAll0 (ts.map PyData.str) = true
  | [], _ => by simp [PyData.canLayAll0]
  | t :: ts, h => by
    rw [List.map_cons]
    simp [PyData.canLayAll0, PyData.canLay0, h t List.mem_cons_self, strs_can fun q m => h q (List.mem_cons_of_mem _ m)]
theorem show_txt {rs : List RowD} (tx : TxOk rs) {j : Nat} (h : j < rs.length) : ∀ t ∈ showAt rs j, PyData.strOk t = true := by
  rw [showAt_of (List.getElem?_eq_getElem h)]
  exact showS_ok (tx _ (List.getElem_mem h))
theorem due_can {rs : List RowD} (tx : TxOk rs) {x : HJ} {i n : Nat} (g : GoodI rs i n x) : (dDue rs x).canLay0 = true := by
  simp [dDue, dHist, PyData.canLay0, PyData.canLayAll0, hist_can (goTo_txt tx g.go), strs_can (show_txt tx g.lt)]
theorem list_can : ∀ {ds : List PyData}, (∀ d ∈ ds, d.canLay0 = true) → PyData.canLayAll0 ds = true
  | [], _ => by simp [PyData.canLayAll0]
  | d :: ds, h => by simp [PyData.canLayAll0, h d List.mem_cons_self, list_can fun q m => h q (List.mem_cons_of_mem _ m)]
theorem list_deep {n : Nat} : ∀ {ds : List PyData}, (∀ d ∈ ds, d.depth ≤ n) → PyData.depthAll ds ≤ n
  | [], _ => by simp [PyData.depthAll]
  | d :: ds, h => by
    have h1 := h d List.mem_cons_self
    have h2 := list_deep fun q m => h q (List.mem_cons_of_mem _ m)
    simp only [PyData.depthAll]
    omega
theorem list_shaped {ds : List PyData} {n : Nat} (hn : n ≤ 50) (h1 : ∀ d ∈ ds, d.canLay0 = true) (h2 : ∀ d ∈ ds, d.depth ≤ n) : SeqAt.shaped (.list ds) = true := by
  show (PyData.canLay0 (.list ds) && decide (PyData.depth (.list ds) ≤ 64)) = true
  rw [Bool.and_eq_true]
  refine ⟨by simp only [PyData.canLay0]; exact list_can h1, decide_eq_true ?_⟩
  have := list_deep h2
  simp only [PyData.depth]
  omega
abbrev pdD (rs : List RowD) (p : V × HJ) : V × PyData := (p.1, dDue rs p.2)
theorem dps_all {K : PySem.W.Frag} {H : Hp} : ∀ {zs : List (V × PyData)}, (∀ z ∈ zs, Dp K H z.1 z.2) → DpAll K H (zs.map (·.1)) (zs.map (·.2))
  | [], _ => .nil
  | z :: zs, h => .cons (h z List.mem_cons_self) (dps_all fun q m => h q (List.mem_cons_of_mem _ m))
/-- what sorted() asks of such a list -/
theorem due_sort {rs : List RowD} {K : PySem.W.Frag} {H : Hp} {ps : List (V × HJ)} (h : AllD rs H ps) : (∀ z ∈ ps.map (pdD rs), Dp K H z.1 z.2 ∧ ∃ t, z.1 = V.ref t) ∧ PySem.W.AllAlike ((ps.map (pdD rs)).map (·.2)) ∧ PySem.W.Sortable ((ps.map (pdD rs)).map (·.2)) ∧ ∀ z ∈ ps.map (pdD rs), z.2.depth ≤ 60 := by
  refine ⟨fun z mz => ?_, fun d hd d' hd' => ?_, .inl fun d hd => ?_, fun z mz => ?_⟩
  · obtain ⟨p, mp, rfl⟩ := List.mem_map.mp mz
    exact (h p mp).dp
  · obtain ⟨z, mz, rfl⟩ := List.mem_map.mp hd
    obtain ⟨z', mz', rfl⟩ := List.mem_map.mp hd'
    obtain ⟨p, _, rfl⟩ := List.mem_map.mp mz
    obtain ⟨p', _, rfl⟩ := List.mem_map.mp mz'
    exact due_alike rs _ _
  · obtain ⟨z, mz, rfl⟩ := List.mem_map.mp hd
    obtain ⟨p, _, rfl⟩ := List.mem_map.mp mz
    exact ⟨_, _, rfl⟩
  · obtain ⟨p, _, rfl⟩ := List.mem_map.mp mz
    exact Nat.le_trans (due_deep rs p.2) (by decide)
/-- two such lists with the same histories are sorted into lists that are == -/
theorem due_sorted {rs : List RowD} {ps qs : List (V × HJ)} (p : (ps.map (·.2)).Perm (qs.map (·.2))) : PyData.eqvAll (((ps.map (pdD rs)).mergeSort leD).map (·.2)) (((qs.map (pdD rs)).mergeSort leD).map (·.2)) = true := by
  rw [sortD_snd, sortD_snd]
  have e : ∀ l : List (V × HJ), (l.map (pdD rs)).map (·.2) = (l.map (·.2)).map (dDue rs) := fun l => by
    rw [List.map_map, List.map_map]
    rfl
  rw [e, e]
  refine sorts_eqv (p.map _) fun d hd d' hd' => ?_
  obtain ⟨x, _, rfl⟩ := List.mem_map.mp hd
  obtain ⟨y, _, rfl⟩ := List.mem_map.mp hd'
  exact due_alike rs x y
end Mine

set_option maxRecDepth 100000
set_option maxHeartbeats 4000000
namespace L2
open PySem PySem.Spec PyProof.Rows
section
variable {X : Cx} {es : List Expr} {kws : List Keyword} {t : TA}
theorem PA.mono (h : PA X es t) : PA X es (fun σ H R => ∃ R', t σ H R' ∧ ∀ vs H1, R' vs H1 → R vs H1) := ⟨fun pos pins s σ H R I ⟨R', h1, h2⟩ => thn (h.run pos pins s σ H R' I h1) fun us s1 ⟨vs, H1, I1, r, q⟩ => ⟨vs, H1, I1, r, h2 _ _ q⟩⟩
theorem PK.mono (h : PK X kws t) : PK X kws (fun σ H R => ∃ R', t σ H R' ∧ ∀ vs H1, R' vs H1 → R vs H1) := ⟨fun pos pins s σ H R I ⟨R', h1, h2⟩ => thn (h.run pos pins s σ H R' I h1) fun us s1 ⟨vs, H1, I1, r, q⟩ => ⟨vs, H1, I1, r, h2 _ _ q⟩⟩
end
end L2
namespace Mine
open PySem L2
/-- the parts of a right body of fewer than 64 rows -/
structure OkB (o : Ops) (rs : List RowD) (b : Nat) : Prop where
  ops : OkOps o
  lo : 1 ≤ rs.length
  hi : rs.length < 64
  rows : OkRows o rs
  lt : b < rs.length
theorem OkB.few {o : Ops} {rs : List RowD} {b : Nat} (h : OkB o rs b) (x : Str) : (distinct x (restD rs b)).length < 64 := by
  have h1 := distinct_len x (restD rs b)
  have h2 : (restD rs b).length ≤ rs.length := by
    unfold restD
    rw [List.length_map]
    exact (metAt_few h.rows.fit h.lt rs.length).len
  have := h.hi
  omega
/-- Body(d, r, start=b), as it is told here -/
def tBody (CB CM : Addr) (t tk : TA) : TE := fun σ H Q => t σ H fun vs H1 => tk σ H1 fun zs H2 => ∃ (d r : Addr) (xs : List V) (rs : List RowD) (o : Ops) (b : Nat), vs = [.ref d, .ref r] ∧ zs = [.int b] ∧ H2 d = some (.dK (opsK o)) ∧ SqA H2 r xs ∧ RowsIn H2 xs rs ∧ OkB o rs b ∧
  ∀ bd H3, H2 bd = none → Same H2 H3 → BodyN CB CM H2 H3 bd o rs b → Q (.ref bd) H3
abbrev KS : List Str := ["start"]
abbrev PB : List Str := ["self", "operations", "rows", "start"]
theorem bindB {K : PySem.W.Frag} {fd : FuncData} (h : ∀ (a b c d : Value), bindArgs fd ⟨[a, b, c], [(("start" : Str), d)]⟩ = pure ([(("self" : Str), a), ("operations", b), ("rows", c), ("start", d)] : List (Str × Value))) : KBn K fd PB (2 + 1) KS (fun us ws => us ++ ws) (fun vs zs => vs ++ zs) where
  to := fun s us ws _ l1 l2 => match us, ws, l1, l2 with
    | [a, b, c], [d], _, _ => .of_eq (h a b c d)
  rel := fun r rz => r.append rz
section
variable {X : Cx} {CB CM f : Addr} {fd : FuncData} {x : Str} {p pos : Pos} {e : Expr} {es : List Expr} {kws : List Keyword} {t tk : TA}
theorem body_end {H2 : Hp} {Q : VK} {E : XK} {d r : Addr} {xs : List V} {rs : List RowD} {o : Ops} {b : Nat} (hd : H2 d = some (.dK (opsK o))) (hx : SqA H2 r xs) (rows : RowsIn H2 xs rs) (ok : OkB o rs b) (k : ∀ bd H3, H2 bd = none → Same H2 H3 → BodyN CB CM H2 H3 bd o rs b → Q (.ref bd) H3)
    (bd dx : Addr) (nb : H2 bd = none) (nd : H2 dx = none) (ne : dx ≠ bd) : spBody CB CM [.ref bd, .ref d, .ref r, .int b] (upd (upd H2 dx (.own bd)) bd (.ins CB dx [])) (fun v H3 => v = .non ∧ Q (.ref bd) H3) E := by
  have sm : Same H2 (upd (upd H2 dx (.own bd)) bd (.ins CB dx [])) := same_updN (same_updN (Same.refl _) nd) nb
  exact ⟨bd, d, r, dx, xs, rs, o, b, rfl, upd_same, sm _ _ hd, ok.ops, sm.sqa hx, rows.same sm, ok.lo, by have := ok.hi; omega, ok.rows, ok.lt, ok.few "ask", ok.few "end", fun H' s' B => ⟨rfl, k bd H' nb (fun b2 u e => s' b2 u (ne_of_none e nb) (sm _ _ e)) (by
    obtain ⟨m, t, l, sa, aa, ea, o', xs, as, es, h, n1, n2, n3, n4, n5, n6⟩ := B
    exact ⟨m, t, l, sa, aa, ea, o', xs, as, es, h, none_of sm n1, none_of sm n2, none_of sm n3, none_of sm n4, none_of sm n5, none_of sm n6⟩)⟩⟩
theorem pe_body (M : Mk X.K CB f) (F : FnOk X.prog X.w X.K X.mg X.base CX0 7 f fd PB (spBody CB CM)) (hr : Room 8 X.A) (hg : Gl X x) (hm : X.mg x = some (.ref CB)) (hb : KBn X.K fd PB (2 + 1) KS (fun us ws => us ++ ws) (fun vs zs => vs ++ zs)) (ha : PA X (e :: es) t) (hkw : PK X kws tk)
    (hall : (backToKw pos (keywordEach kws X.env)).all (·.1.isSome) = true := by rfl) (hks : (backToKw pos (keywordEach kws X.env)).filterMap (·.1) = KS := by rfl) (hdb : (x == ("__debug__" : Str)) = false := by decide)
    (he : starEach (e :: es) X.env = (false, eval e X.env) :: starEach es X.env := by rfl) (hpl : ((backTo pos (starEach (e :: es) X.env)).any (·.1) || (backToKw pos (keywordEach kws X.env)).any (·.1.isNone)) = false := by rfl) :
    PE X (.Call (.Name x p) (e :: es) kws pos) (tBody CB CM t tk) := by
  refine pe_imp (pe_makeK (E := E0) M F hr hg hm hb pass0 ha.mono hkw.mono hall hks hdb he hpl) fun σ H Q q => ?_
  refine ⟨_, q, fun vs H1 q1 => ⟨_, q1, fun zs H2 q2 => ?_⟩⟩
  obtain ⟨d, r, xs, rs, o, b, rfl, rfl, hd, hx, rows, ok, k⟩ := q2
  exact ⟨rfl, rfl, fun bd dx nb nd ne => body_end hd hx rows ok k bd dx nb nd ne⟩
end
theorem rows_in {H : Hp} {xs : List V} {rs : List RowD} (h : Rows H xs rs) : RowsIn H xs rs := ⟨h.1, fun i d e => by
  obtain ⟨v, h1, h2⟩ := h.2 i d e
  refine ⟨v, h1, ?_⟩
  cases d with
  | ask op ns =>
    obtain ⟨q, t, e1, k1, k2⟩ := h2
    exact ⟨q, t, e1, .inr k1, .inr k2⟩
  | go n =>
    obtain ⟨q, e1, k1⟩ := h2
    exact ⟨q, e1, .inr k1⟩
  | fin u =>
    obtain ⟨q, e1, k1⟩ := h2
    exact ⟨q, e1, .inr k1⟩⟩
theorem ask_ok {o : Ops} {rs : List RowD} (h : OkRows o rs) : AskOk o rs := fun i op ns e => (h i _ e).1
theorem even_of {o : Ops} {rs1 rs2 : List RowD} (h1 : OkRows o rs1) (h2 : OkRows o rs2) : Even rs1 rs2 := by
  intro i j d1 d2 e1 e2 same
  cases d1 with
  | ask op ns =>
    cases d2 with
    | ask op2 ns2 =>
      have q1 : ([("ask" : Str), op] : List Str) = [("ask" : Str), op2] := same
      have q2 := (List.cons.inj (List.cons.inj q1).2).1
      subst q2
      have a := (h1 i _ e1).1
      have b := (h2 j _ e2).1
      rw [a] at b
      have := Option.some.inj b
      show ns.length = ns2.length
      omega
    | go n => simp [showD] at same
    | fin u =>
      have q1 : ([("ask" : Str), op] : List Str) = [("end" : Str), u] := same
      exact absurd (List.cons.inj q1).1.symm end_ask
  | go n =>
    cases d2 with
    | ask op2 ns2 => simp [showD] at same
    | go n => rfl
    | fin u => simp [showD] at same
  | fin u =>
    cases d2 with
    | ask op2 ns2 => 
      have q1 : ([("end" : Str), u] : List Str) = [("ask" : Str), op2] := same
      exact absurd (List.cons.inj q1).1 end_ask
    | go n => simp [showD] at same
    | fin u => rfl
theorem few_of {o : Ops} {rs : List RowD} (h : OkRows o rs) : ∀ d ∈ rs, (nextsD d).length ≤ 1000 := fun d hd => by
  obtain ⟨i, hi, e⟩ := List.mem_iff_getElem.mp hd
  have := h i d (by rw [List.getElem?_eq_getElem hi, e])
  cases d with
  | ask op ns => exact this.2.1
  | go n => exact Nat.zero_le _
  | fin u => exact Nat.zero_le _
theorem go_ops {o : Ops} (nd : (o.map (·.1)).Nodup) : ∃ g : Str → Option Int, (∀ p ∈ o, g p.1 = some p.2) ∧ ∀ p ∈ o, g p.1 = some p.2 := ⟨fun x => opLook o x, fun p hp => look_mem nd p hp, fun p hp => look_mem nd p hp⟩
theorem two_of {o : Ops} {rs1 rs2 : List RowD} {b1 b2 : Nat} (h1 : OkRows o rs1) (h2 : OkRows o rs2) (f1 : TxOk rs1) (f2 : TxOk rs2) (l1 : rs1.length ≤ 1000) (l2 : rs2.length ≤ 1000) (t1 : b1 < rs1.length) (t2 : b2 < rs2.length) : TwoR rs1 rs2 b1 b2 :=
  ⟨h1.fit, h2.fit, l1, l2, f1, f2, few_of h1, even_of h1 h2, t1, t2⟩
/-- what the drawn table is -/
structure TabOk (o : Ops) (rs : List RowD) : Prop where
  og : OpsG o
  ok : OkRows o rs
  tx : TxOk rs
  lo : 1 ≤ rs.length
  hi : rs.length ≤ 8
theorem TabOk.ops {o : Ops} {rs : List RowD} (h : TabOk o rs) : OkOps o := ⟨by rw [h.og.len]; decide, fun q hq => by
  obtain ⟨_, a, b, c, _⟩ := h.og.each q hq
  exact ⟨a, b, by omega⟩, h.og.nd⟩
theorem TabOk.few {o : Ops} {rs : List RowD} (h : TabOk o rs) : FewN rs := fun d hd => by
  obtain ⟨i, hi, e⟩ := List.mem_iff_getElem.mp hd
  have := h.ok i d (by rw [List.getElem?_eq_getElem hi, e])
  cases d with
  | ask op ns =>
    obtain ⟨_, _, _, q, _⟩ := h.og.each _ (opLook_mem this.1)
    show ns.length ≤ 3
    have q2 : (ns.length : Int) ≤ 3 := q
    omega
  | go n => exact Nat.zero_le _
  | fin u => exact Nat.zero_le _
theorem TabOk.okB {o : Ops} {rs : List RowD} (h : TabOk o rs) {b : Nat} (hb : b < rs.length) : OkB o rs b := ⟨h.ops, h.lo, by have := h.hi; omega, h.ok, hb⟩
theorem Rows.tupS {H H' : Hp} {xs : List V} {rs : List RowD} (s : TupS H H') (h : Rows H xs rs) : Rows H' xs rs := ⟨h.1, fun i d e => by
  obtain ⟨v, h1, h2⟩ := h.2 i d e
  refine ⟨v, h1, ?_⟩
  cases d with
  | ask op ns =>
    obtain ⟨q, t, e1, k1, k2⟩ := h2
    exact ⟨q, t, e1, s _ _ k1, s _ _ k2⟩
  | go m =>
    obtain ⟨q, e1, k1⟩ := h2
    exact ⟨q, e1, s _ _ k1⟩
  | fin m =>
    obtain ⟨q, e1, k1⟩ := h2
    exact ⟨q, e1, s _ _ k1⟩⟩
theorem BodyN.same {CB CM : Addr} {H0 H H' : Hp} {bd : Addr} {o : Ops} {rs : List RowD} {b : Nat} (s : Same H H') (h : BodyN CB CM H0 H bd o rs b) : BodyN CB CM H0 H' bd o rs b := by
  obtain ⟨m, t, l, sa, aa, ea, o', xs, as, es, h, n⟩ := h
  exact ⟨m, t, l, sa, aa, ea, o', xs, as, es, h.same s, n⟩
/-- what stands when the body has been made: the source of the draws, the table, the body -/
structure Wd (CB CM : Addr) (Hb : Hp) (pw pn rr bd : Addr) (xs : List V) (o : Ops) (rs : List RowD) : Prop where
  tab : TabOk o rs
  src : SrcAt Hb pw
  hn : Hb pn = some (.dK (opsK o))
  hr : Hb rr = some (.lst xs)
  rows : Rows Hb xs rs
  body : ∃ H0, BodyN CB CM H0 Hb bd o rs 0 ∧ H0 bd = none ∧ SrcAt H0 pw
  nrw : rr ≠ pw
section
variable {CB CM : Addr} {Hb H : Hp} {pw pn rr bd : Addr} {xs : List V} {o : Ops} {rs : List RowD}
theorem Wd.same (h : Wd CB CM Hb pw pn rr bd xs o rs) (s : Same Hb H) : Wd CB CM H pw pn rr bd xs o rs := by
  obtain ⟨t, ⟨x, y, z, e⟩, hn, hr, rows, ⟨H0, b1, b2, b3⟩, n⟩ := h
  exact ⟨t, ⟨x, y, z, s _ _ e⟩, s _ _ hn, s _ _ hr, rows.same s, ⟨H0, b1.same s, b2, b3⟩, n⟩
theorem Wd.tupS (h : Wd CB CM Hb pw pn rr bd xs o rs) (b : But Hb H pw) : TupS Hb H := by
  obtain ⟨x, y, z, e⟩ := h.src
  exact .but b e
theorem Wd.rowsAt (h : Wd CB CM Hb pw pn rr bd xs o rs) (b : But Hb H pw) : Rows H xs rs := h.rows.tupS (h.tupS b)
theorem Wd.rrAt (h : Wd CB CM Hb pw pn rr bd xs o rs) (b : But Hb H pw) : H rr = some (.lst xs) := b _ _ h.nrw h.hr
theorem Wd.pnAt (h : Wd CB CM Hb pw pn rr bd xs o rs) (b : But Hb H pw) : H pn = some (.dK (opsK o)) := b _ _ (fun z => by
  obtain ⟨x, y, z', e⟩ := h.src
  have := h.hn
  rw [z, e] at this
  cases this) h.hn
theorem Wd.bodyAt (h : Wd CB CM Hb pw pn rr bd xs o rs) (b : But Hb H pw) : BodyAt CB CM H bd o rs 0 := by
  obtain ⟨H0, b1, b2, ⟨x, y, z, e⟩⟩ := h.body
  obtain ⟨x', y', z', e'⟩ := h.src
  refine b1.off b2 fun a u ea q => b _ _ (fun hz => ?_) ea
  subst hz
  rcases q with q | ⟨zs, q⟩
  · rw [e] at q
    cases q
  · rw [e', q] at ea
    cases ea
theorem Wd.lt0 (h : Wd CB CM Hb pw pn rr bd xs o rs) : 0 < rs.length := h.tab.lo
theorem Wd.j0 (h : Wd CB CM Hb pw pn rr bd xs o rs) : stp rs 0 < rs.length := stp_lt h.tab.ok.fit.go h.lt0
theorem but_same {H1 H2 : Hp} {a : Addr} (b : But Hb H1 a) (s : Same H1 H2) : But Hb H2 a := fun q u n e => s _ _ (b q u n e)
end
/-- a list of stands -/
def AllS (CS bd : Addr) (H : Hp) (ps : List (V × HJ)) : Prop := ∀ p ∈ ps, ∃ sd, p.1 = V.ref sd ∧ StandAt CS H sd bd p.2.2 p.2.1
theorem AllS.same {CS bd : Addr} {H H' : Hp} {ps : List (V × HJ)} (s : Same H H') (h : AllS CS bd H ps) : AllS CS bd H' ps := fun p m => by
  obtain ⟨sd, e, t⟩ := h p m
  exact ⟨sd, e, t.same s⟩
theorem AllS.but {CS bd a : Addr} {H H' : Hp} {ps : List (V × HJ)} {ys : List V} (s : But H H' a) (e : H a = some (.lst ys)) (h : AllS CS bd H ps) : AllS CS bd H' ps := fun p m => by
  obtain ⟨sd, e1, t⟩ := h p m
  exact ⟨sd, e1, t.but s e⟩
end Mine

set_option maxRecDepth 100000
set_option maxHeartbeats 4000000
/-! len(o), o[i], ==, != of an own class with its own __len__, __getitem__, __eq__ -/
namespace PySem
open PySem.W PySem.Calls PyProof.Rows Builtin
section
variable {prog : Program} {w : World} {A : Around} {E : Value → Shared → Prop} {s : Shared} {K : Frag} {x C L f : Addr} {h₀ : Heap} {m : Str → Option Value} {ox : Obj} {od : Option Obj} {b tb : Value}
theorem my_objNe (hu : A.units < cLine) (X : K.In s.heap) (I : InstAt s.heap x ox C od) (hs : findIn K (.ref C) "__eq__" = some (some (.ref f))) (hf : isFn K (.ref f) = true) {Q : Fin → Shared → Prop}
    (hcall : wpAny (model prog w) A (call (.ref f) [.ref x, b]) (fun v s' => ∃ r, v = .bool r ∧ Q (.done (.ret (.bool (!r)))) s') E s) : wpAny (model prog w) A (Builtin.«object.__ne__» ⟨[.ref x, b], []⟩) Q E s := by
  unfold Builtin.«object.__ne__»
  repeat (first
    | with_reducible refine wpAny_cRoomFor hu ?_
    | (refine wpAny_bind (m := callSpecialIfBound? (.ref x) (Str.ofString "__eq__") [b])
        (ifBound_K X I hs hf (wpAny_mono hcall (fun r s' hr => by
          obtain ⟨b, rfl, hq⟩ := hr
          repeat (first | exact hq | exact wpAny_pure hq | exact wpAny_truthy_bool hq | (refine wpAny_bind (m := truthy (.bool _)) (wpAny_truthy_bool ?_)) | wp_step)) fun _ _ e => e)))
    | wp_step)
theorem my_ifBoundB {M : Model} {name : Str} {id : String} {args : List Value} {Q : Option Value → Shared → Prop} (X : K.In s.heap) (I : InstAt s.heap x ox C od) (hs : findIn K (.ref C) name = some (some (.builtin id))) (S : Slot "object" name id)
    (h : wpAny M A (call (.builtin id) (.ref x :: args)) (fun v => Q (some v)) E s) : wpAny M A (callSpecialIfBound? (.ref x) name args) Q E s := by
  simp only [callSpecialIfBound?, bindSpecialIfBound?]
  refine wpAny_holding (wpAny_bind (wpAny_bind (wpAny_bind (I.type.here ((looks_findIn X hs).here ?_)))))
  simp only [S.bind]
  refine wpAny_bind (wpAny_askSetting (wpAny_ite ?_))
  have fin : wpAny M A (call (.builtin id) ([.ref x] ++ args) >>= fun v => pure (some v)) Q E s := wpAny_bind (wpAny_mono h (fun v s' h' => wpAny_pure h') fun _ _ h' => h')
  split
  · exact wpAny_bind (wpAny_pure (wpAny_pure fin))
  · exact wpAny_tryCatch (wpAny_bind (wpAny_pure (wpAny_pure fin)))
theorem my_ne {Q : Value → Shared → Prop} (hu : A.units + 1 < cLine) (F : Fr h₀ L s.heap m) (X₀ : K.In h₀) (I : InstAt s.heap x ox C od) (hb : Looks (model prog w) s.heap (typeOf b) tb) (hn : notFirst K C tb = true)
    (hne : findIn K (.ref C) "__ne__" = some (some (.builtin "object.__ne__"))) (hob : subIn K (.ref C) (.type "object") = some true) (hs : findIn K (.ref C) "__eq__" = some (some (.ref f))) (hf : isFn K (.ref f) = true)
    (h : wpAny (model prog w) A.in1 (call (.ref f) [.ref x, b]) (fun v s' => ∃ r, v = .bool r ∧ Q (.bool (!r)) s') E s) : wpAny (model prog w) A (richCompare .NotEq (.ref x) b) Q E s := by
  have X := X₀.keeps F.keep
  have one : wpAny (model prog w) A (tryCompare (.ref x) "__ne__" b) (fun r s' => ∃ v, r = some v ∧ Q v s') E s := by
    unfold tryCompare
    refine wpAny_bind (my_ifBoundB X I hne PySem.F.cmp_object.ne (wpAny_call (codeAny_call_builtin PySem.F.cmp_object.ne.plain PySem.F.cmpEntry_ne (check_slot PySem.F.cmpKind_ne PySem.F.cmpSplit_ne (I.type.andThen (looks_subIn X hob)) (PySem.F.cmpArgs_ne _ _) (my_objNe (A := A.in1) (by show A.units + 1 < cLine; exact hu) X I hs hf (wpAny_mono h (fun v s' hv => ?_) fun _ _ e => e))))))
    obtain ⟨b, rfl, hq⟩ := hv
    first | exact ⟨b, rfl, wpAny_pure ⟨_, rfl, hq⟩⟩ | exact ⟨b, rfl, wpAny_pure (wpAny_pure ⟨_, rfl, hq⟩)⟩ | exact ⟨b, rfl, _, rfl, hq⟩
  unfold richCompare
  simp only [oneThing_ref]
  refine wpAny_holding (wpAny_bind (wpAny_cRoomFor (Nat.lt_of_succ_lt hu) ?_))
  rw [cmpInfo_NotEq]
  dsimp only
  refine wpAny_bind (I.type.here (wpAny_bind (hb.here ?_)))
  split
  · rename_i q
    have e : subIn K tb (.ref C) = some false := by
      rcases Bool.or_eq_true_iff.mp hn with e | e
      · rw [beq_iff_eq.mp e] at q; simp at q
      · exact beq_iff_eq.mp e
    refine wpAny_bind ((looks_subIn X e).here ?_)
    simp only [Bool.false_eq_true, if_false]
    refine wpAny_bind (wpAny_mono one (fun r s' z => ?_) fun _ _ e => e)
    obtain ⟨v, rfl, hq⟩ := z
    exact wpAny_pure hq
  · refine wpAny_bind (wpAny_pure ?_)
    simp only [Bool.false_eq_true, if_false]
    refine wpAny_bind (wpAny_mono one (fun r s' z => ?_) fun _ _ e => e)
    obtain ⟨v, rfl, hq⟩ := z
    exact wpAny_pure hq
end
end PySem
namespace L2
open PySem PySem.Spec PyProof.Rows
section
variable {X : Cx} {CX : CXT} {k : Nat} {C f : Addr} {fd : FuncData} {ps : List Str} {sp : Sp} {E : XK}
theorem run_own1 {pins : List (Addr × Obj)} {σ : St} {H : Hp} {s : Shared} {Q : VK} {us : List Value} {vs : List V} (F : FnOk X.prog X.w X.K X.mg X.base CX k f fd ps sp) (hr : Room (k + 1) X.A) (hb : Binds X.K fd ps []) (hx : Passes CX X E)
    (I : Inv X pins σ H s) (r : Vals vs us) (h : sp vs H Q E) : wpAny (model X.prog X.w) X.A.in1 (call (.ref f) us) (EP X pins σ Q) X.xe s := by
  have hl : us.length = ps.length := by rw [← r.length]; exact F.len _ _ _ _ h
  have hb2 := hb s us I.kIn (by simpa using hl)
  rw [List.append_nil] at hb2
  refine wpAny_call (codeAny_mono (F.run X.A.in1 X.stack s H ⟨us, []⟩ us vs Q E hr.in1 I.env0.in1 hb2 r h) fun r s' hq => ?_)
  cases r with
  | error e => exact hx pins σ H s e s' I hq
  | ok fl =>
    cases fl with
    | ret u => exact I.after hq
    | next => exact False.elim hq
    | brk => exact False.elim hq
    | cont => exact False.elim hq
theorem call_lenO (F : FnOk X.prog X.w X.K X.mg X.base CX k f fd ps sp) (hr : Room (k + 1) X.A) (hb : Binds X.K fd ps []) (hx : Passes CX X E) (hs : PySem.W.findIn X.K (.ref C) "__len__" = some (some (.ref f))) (hf : PySem.W.isFn X.K (.ref f) = true) :
    CallR X (.builtin "len") (fun xs H Q => ∃ (a dx : Addr) (fs : List (Str × V)), xs = [.ref a] ∧ H a = some (.ins C dx fs) ∧ sp [.ref a] H (fun v H' => ∃ n : Int, v = .int n ∧ 0 ≤ n ∧ n < 2 ^ 63 ∧ Q (.int n) H') E) := by
  intro pins s σ H xs us Q I r h
  obtain ⟨a, dx, fs, rfl, ha, h⟩ := h
  obtain rfl := Vals.ref1 r
  obtain ⟨mA, J, _⟩ := ins_get I.hok ha
  obtain ⟨od, J, _⟩ := J.look
  obtain ⟨m, hF⟩ := I.fr
  refine PySem.W.len_K hF I.ok.mod.kin J hs hf (wpAny_mono (run_own1 F hr hb hx I (vs := [.ref a]) (.cons rfl .nil) h) (fun r s' z => ?_) fun _ _ y => y)
  obtain ⟨v, H', I', rv, n, rfl, h0, h1, q⟩ := z
  obtain ⟨t, rfl⟩ := rv
  exact ⟨⟨h0, h1⟩, .int n, H', I'.tok _, ⟨_, rfl⟩, q⟩
/-- o[i] -/
def tIxO (C : Addr) (sp : Sp) (E : XK) (ta tb : TE) : TE := fun σ H Q => ta σ H fun x H1 => tb σ H1 fun y H2 => ∃ (a dx : Addr) (fs : List (Str × V)), x = .ref a ∧ H2 a = some (.ins C dx fs) ∧ sp [.ref a, y] H2 Q E
theorem pe_ixO {o i : Expr} {ta tb : TE} {pos : Pos} (F : FnOk X.prog X.w X.K X.mg X.base CX k f fd ps sp) (hr : Room (k + 1) X.A) (hb : Binds X.K fd ps []) (hx : Passes CX X E) (hs : PySem.W.findIn X.K (.ref C) "__getitem__" = some (some (.ref f))) (hf : PySem.W.fnIn X.K f = true) (hfn : PySem.W.isFn X.K (.ref f) = true)
    (ha : PE X o ta) (hi : PE X i tb) (hsl : ∀ ov iv, subscripted i true ov iv = runValue (.builtin "lifetime.subscript" ⟨[ov, iv], []⟩)) : PE X (.Subscript o i pos) (tIxO C sp E ta tb) := by
  refine ⟨fun pins s σ H Q I h => ?_⟩
  refine Subscript_ (thn (ha.run pins s σ H _ I h) fun v s1 ⟨x, H1, I1, r1, q1⟩ => thn (hi.run pins s1 σ H1 _ I1 q1) fun u s2 ⟨y, H2, I2, r2, q2⟩ => ?_)
  obtain ⟨a, dx, fs, rfl, e, q⟩ := q2
  obtain rfl : v = Value.ref a := r1
  obtain ⟨mA, J, _⟩ := ins_get I2.hok e
  obtain ⟨od, J, _⟩ := J.look
  obtain ⟨m, hF⟩ := I2.fr
  exact PySem.W.sub_K hF I2.ok.mod.kin J hs hf hfn (run_own1 F hr hb hx I2 (vs := [.ref a, y]) (.cons rfl (.cons r2 .nil)) q) (hsl _ _)
/-- a == b by a's own __eq__ -/
def rEqO (K : PySem.W.Frag) (C : Addr) (sp : Sp) (E : XK) : R2 := fun x y H Q => ∃ (a dx : Addr) (fs : List (Str × V)) (t : Value), x = .ref a ∧ H a = some (.ins C dx fs) ∧ TyX K H y t ∧ PySem.W.notFirst K C t = true ∧ sp [.ref a, y] H (fun v H' => ∃ b, v = .bl b ∧ Q (.bl b) H') E
theorem op_eqO (F : FnOk X.prog X.w X.K X.mg X.base CX k f fd ps sp) (hr : Room k X.A) (hb : Binds X.K fd ps []) (hx : Passes CX X E) (hs : PySem.W.findIn X.K (.ref C) "__eq__" = some (some (.ref f))) (hf : PySem.W.isFn X.K (.ref f) = true) : OpR X (compareOp .Eq) (rEqO X.K C sp E) := by
  intro pins s σ H x y v u Q I rx ry h
  obtain ⟨a, dx, fs, t, rfl, ha, ty, nf, h⟩ := h
  obtain rfl : v = Value.ref a := rx
  obtain ⟨P, kx, hp, _⟩ := kit_of I ry ty
  obtain ⟨mA, J, _⟩ := ins_get I.hok ha
  obtain ⟨od, J, _⟩ := J.look
  obtain ⟨m, hF⟩ := I.fr
  show wpAny (model X.prog X.w) X.A (richCompare .Eq (.ref a) u) _ _ _
  refine PySem.W.cmp_K (op := .Eq) hr.units0 hF I.ok.mod.kin J (kx.ty _ _ I.kIn hp) nf hs hf (wpAny_mono (run_fn F hr hb .nil hx I (us := [.ref a, u]) (vs := [.ref a, y]) (.cons rfl (.cons ry .nil)) h) (fun r s' z => ?_) fun _ _ e => e)
  obtain ⟨v, H', I', rv, b, rfl, q⟩ := z
  cases rv
  exact ⟨.bl b, H', I', rfl, q⟩
/-- a != b by a's own __eq__ -/
def rNeO (K : PySem.W.Frag) (C : Addr) (sp : Sp) (E : XK) : R2 := fun x y H Q => ∃ (a dx : Addr) (fs : List (Str × V)) (t : Value), x = .ref a ∧ H a = some (.ins C dx fs) ∧ TyX K H y t ∧ PySem.W.notFirst K C t = true ∧ sp [.ref a, y] H (fun v H' => ∃ b, v = .bl b ∧ Q (.bl (!b)) H') E
theorem op_neO (F : FnOk X.prog X.w X.K X.mg X.base CX k f fd ps sp) (hr : Room (k + 1) X.A) (hb : Binds X.K fd ps []) (hx : Passes CX X E) (hs : PySem.W.findIn X.K (.ref C) "__eq__" = some (some (.ref f))) (hf : PySem.W.isFn X.K (.ref f) = true)
    (hne : PySem.W.findIn X.K (.ref C) "__ne__" = some (some (.builtin "object.__ne__"))) (hob : PySem.W.subIn X.K (.ref C) (.type "object") = some true) (hu : X.A.units + 1 < cLine) : OpR X (compareOp .NotEq) (rNeO X.K C sp E) := by
  intro pins s σ H x y v u Q I rx ry h
  obtain ⟨a, dx, fs, t, rfl, ha, ty, nf, h⟩ := h
  obtain rfl : v = Value.ref a := rx
  obtain ⟨P, kx, hp, _⟩ := kit_of I ry ty
  obtain ⟨mA, J, _⟩ := ins_get I.hok ha
  obtain ⟨od, J, _⟩ := J.look
  obtain ⟨m, hF⟩ := I.fr
  show wpAny (model X.prog X.w) X.A (richCompare .NotEq (.ref a) u) _ _ _
  refine PySem.my_ne hu hF I.ok.mod.kin J (kx.ty _ _ I.kIn hp) nf hne hob hs hf (wpAny_mono (run_own1 F hr hb hx I (us := [.ref a, u]) (vs := [.ref a, y]) (.cons rfl (.cons ry .nil)) h) (fun r s' z => ?_) fun _ _ e => e)
  obtain ⟨v, H', I', rv, b, rfl, q⟩ := z
  cases rv
  exact ⟨b, rfl, .bl (!b), H', I', rfl, q⟩
end
section
variable {X : Cx} {CX : CXT} {k : Nat} {C f : Addr} {fd : FuncData} {ps : List Str} {sp : Sp} {E : St → XK}
theorem run_own1S {pins : List (Addr × Obj)} {σ : St} {H : Hp} {s : Shared} {Q : VK} {us : List Value} {vs : List V} (F : FnOk X.prog X.w X.K X.mg X.base CX k f fd ps sp) (hr : Room (k + 1) X.A) (hb : Binds X.K fd ps []) (hx : PassesAt CX X σ (E σ))
    (I : Inv X pins σ H s) (r : Vals vs us) (h : sp vs H Q (E σ)) : wpAny (model X.prog X.w) X.A.in1 (call (.ref f) us) (EP X pins σ Q) X.xe s := by
  have hl : us.length = ps.length := by rw [← r.length]; exact F.len _ _ _ _ h
  have hb2 := hb s us I.kIn (by simpa using hl)
  rw [List.append_nil] at hb2
  refine wpAny_call (codeAny_mono (F.run X.A.in1 X.stack s H ⟨us, []⟩ us vs Q (E σ) hr.in1 I.env0.in1 hb2 r h) fun r s' hq => ?_)
  cases r with
  | error e => exact hx pins H s e s' I hq
  | ok fl =>
    cases fl with
    | ret u => exact I.after hq
    | next => exact False.elim hq
    | brk => exact False.elim hq
    | cont => exact False.elim hq
/-- o[i], what it lets out told at the slots -/
def tIxOS (C : Addr) (sp : Sp) (E : St → XK) (ta tb : TE) : TE := fun σ H Q => ta σ H fun x H1 => tb σ H1 fun y H2 => ∃ (a dx : Addr) (fs : List (Str × V)), x = .ref a ∧ H2 a = some (.ins C dx fs) ∧ sp [.ref a, y] H2 Q (E σ)
theorem pe_ixOS {o i : Expr} {ta tb : TE} {pos : Pos} (F : FnOk X.prog X.w X.K X.mg X.base CX k f fd ps sp) (hr : Room (k + 1) X.A) (hb : Binds X.K fd ps []) (hx : ∀ σ, PassesAt CX X σ (E σ)) (hs : PySem.W.findIn X.K (.ref C) "__getitem__" = some (some (.ref f))) (hf : PySem.W.fnIn X.K f = true) (hfn : PySem.W.isFn X.K (.ref f) = true)
    (ha : PE X o ta) (hi : PE X i tb) (hsl : ∀ ov iv, subscripted i true ov iv = runValue (.builtin "lifetime.subscript" ⟨[ov, iv], []⟩)) : PE X (.Subscript o i pos) (tIxOS C sp E ta tb) := by
  refine ⟨fun pins s σ H Q I h => ?_⟩
  refine Subscript_ (thn (ha.run pins s σ H _ I h) fun v s1 ⟨x, H1, I1, r1, q1⟩ => thn (hi.run pins s1 σ H1 _ I1 q1) fun u s2 ⟨y, H2, I2, r2, q2⟩ => ?_)
  obtain ⟨a, dx, fs, rfl, e, q⟩ := q2
  obtain rfl : v = Value.ref a := r1
  obtain ⟨mA, J, _⟩ := ins_get I2.hok e
  obtain ⟨od, J, _⟩ := J.look
  obtain ⟨m, hF⟩ := I2.fr
  exact PySem.W.sub_K hF I2.ok.mod.kin J hs hf hfn (run_own1S F hr hb (hx σ) I2 (vs := [.ref a, y]) (.cons rfl (.cons r2 .nil)) q) (hsl _ _)
end
end L2

set_option maxRecDepth 100000
set_option maxHeartbeats 4000000
namespace L2
open PySem PySem.Spec PyProof.Rows
/-- f(e, ..), f a name that holds an instance of C -/
def tCallI (i : Nat) (C : Addr) (sp : Sp) (E : XK) (t : TA) : TE := fun σ H Q => ∃ a : Addr, σ[i]? = some (some (.ref a)) ∧ t σ H fun vs H2 => (∃ dx fs, H2 a = some (.ins C dx fs)) ∧ sp (V.ref a :: vs) H2 Q E
theorem pe_callI {X : Cx} {CX : CXT} {k : Nat} {C g : Addr} {sp : Sp} {E : XK} {fe e : Expr} {es : List Expr} {t : TA} {pos : Pos} {i : Nat} (hf : PE X fe (tVar i)) (c : StX.CallO X.K C g) (F : FnR X.prog X.w X.K X.mg X.base CX k g sp) (hr : Room k X.A) (hx : Passes CX X E) (ha : PA X (e :: es) t)
    (ht : eval (.Call fe (e :: es) [] pos) X.env = (do callWith pos (← eval fe X.env) [] (backTo pos (starEach (e :: es) X.env)) (backToKw pos (keywordEach [] X.env))) := by rfl)
    (he : starEach (e :: es) X.env = (false, eval e X.env) :: starEach es X.env := by rfl) (hpl : (backTo pos (starEach es X.env)).any (·.1) = false := by rfl) : PE X (.Call fe (e :: es) [] pos) (tCallI i C sp E t) := by
  have q := StX.pe_callO (t := fun σ H R => ∃ R', t σ H R' ∧ ∀ vs H1, R' vs H1 → R vs H1) hf c F hr hx ha.mono ht he hpl
  refine Mine.pe_imp q fun σ H Q h => ?_
  obtain ⟨a, e1, h2⟩ := h
  exact ⟨_, e1, a, rfl, _, h2, fun vs H1 ⟨z1, z2⟩ => ⟨.inr z1, z2⟩⟩
end L2
namespace Mine
open PySem L2
abbrev s_law : Stmt := top 73
def forBody : Stmt → List Stmt
  | .For _ _ b _ _ => b
  | _ => []
def lawBody : List Stmt := match defBody s_law with
  | x :: _ => forBody x
  | [] => []
abbrev NSL : List Str := ["_law_script", "_law_cell", "_law_well", "_law_numbers_here", "_law_words", "_law_rows_here", "_law_body", "_law_due", "_law_many", "_law_history", "_law_at", "_law_left", "_law_stands", "_law_stand", "_law_k", "_law_turn", "_law_one", "_law_two", "_law_spots", "_law_first", "_law_second", "_law_spot"]
theorem sc_law : FnScope NSL ["_law_script"] (defScope s_law) := ⟨rfl, rfl, rfl, by decide +kernel, rfl, by decide +kernel, by decide +kernel⟩
/-- what the proof knows of stands -/
structure StandFac (P : Program) (w : World) (K : PySem.W.Frag) (mg : Str → Option Value) (base : Heap) (CB CM CS : Addr) : Prop where
  TS : StandC K CS
  sh : ∃ (p g : Addr) (fd : FuncData), PropOf K CS "shows" p g ∧ FnOk P w K mg base CX0 2 g fd ["self"] (spSShows CB CM CS) ∧ Binds K fd ["self"] []
  pa : ∃ (p g : Addr) (fd : FuncData), PropOf K CS "past" p g ∧ FnOk P w K mg base CX0 1 g fd ["self"] (spStand CS) ∧ Binds K fd ["self"] []
  ln : ∃ (g : Addr) (fd : FuncData), PySem.W.findIn K (.ref CS) "__len__" = some (some (.ref g)) ∧ PySem.W.isFn K (.ref g) = true ∧ FnOk P w K mg base CX0 1 g fd ["self"] (spSLen CS) ∧ Binds K fd ["self"] []
  ca : ∃ (g : Addr) (fd : FuncData), StX.CallO K CS g ∧ FnOk P w K mg base CX0 5 g fd ["self", "answer"] (spSCall CB CM CS) ∧ Binds K fd ["self", "answer"] []
/-- for many in range(5): due = due + [..] -/
def tDueS (CB CM : Addr) : TS := fun D σ H => ∃ (Hb : Hp) (pw pn rr bd pd : Addr) (xs : List V) (o : Ops) (rs : List RowD) (v0 v1 v4 v8 v9 v10 v11 v12 v13 v14 v15 v16 v17 v18 v19 v20 v21 : Option V), σ = [v0, v1, some (.ref pw), some (.ref pn), v4, some (.ref rr), some (.ref bd), some (.ref pd), v8, v9, v10, v11, v12, v13, v14, v15, v16, v17, v18, v19, v20, v21] ∧ Wd CB CM Hb pw pn rr bd xs o rs ∧ Same Hb H ∧ H pd = some (.lst []) ∧
  ∀ (pd' : Addr) (ds : List (V × HJ)) (w8 : Option V) (H' : Hp), Same H H' → H' pd' = some (.lst (ds.map (·.1))) → pd' ≠ pw → AllD rs H' ds → (ds.map (·.2)).Perm (levs rs (stp rs 0) 5) → D.nx [v0, v1, some (.ref pw), some (.ref pn), v4, some (.ref rr), some (.ref bd), some (.ref pd'), w8, v9, v10, v11, v12, v13, v14, v15, v16, v17, v18, v19, v20, v21] H'
/-- the visit of all stands -/
def tWh (CB CM CS : Addr) : TS := fun D σ H => ∃ (Hb : Hp) (pw pn rr bd pd la sa s0 : Addr) (xs : List V) (o : Ops) (rs : List RowD) (v0 v1 v4 v8 v9 v10 v13 v14 v15 v16 v17 v18 v19 v20 v21 : Option V), σ = [v0, v1, some (.ref pw), some (.ref pn), v4, some (.ref rr), some (.ref bd), some (.ref pd), v8, v9, v10, some (.ref la), some (.ref sa), v13, v14, v15, v16, v17, v18, v19, v20, v21] ∧ Wd CB CM Hb pw pn rr bd xs o rs ∧ Same Hb H ∧ Hb la = none ∧ Hb sa = none ∧ la ≠ sa ∧ H la = some (.lst [.ref s0]) ∧ H sa = some (.lst []) ∧ StandAt CS H s0 bd (stp rs 0) [] ∧
  ∀ (ss : List (V × HJ)) (w13 : Option V) (H' : Hp), But Hb H' pw → SrcAt H' pw → H' sa = some (.lst (ss.map (·.1))) → AllS CS bd H' ss → (ss.map (·.2)).Perm (levs rs (stp rs 0) 5) → D.nx [v0, v1, some (.ref pw), some (.ref pn), v4, some (.ref rr), some (.ref bd), some (.ref pd), v8, v9, v10, some (.ref la), some (.ref sa), w13, v14, v15, v16, v17, v18, v19, v20, v21] H'
/-- both lists are there -/
structure Both (CB CM CS : Addr) (Hb H : Hp) (pw pn rr bd pd sa : Addr) (xs : List V) (o : Ops) (rs : List RowD) (ds ss : List (V × HJ)) : Prop where
  wd : Wd CB CM Hb pw pn rr bd xs o rs
  but : But Hb H pw
  src : SrcAt H pw
  due : H pd = some (.lst (ds.map (·.1)))
  all : AllD rs H ds
  perm : (ds.map (·.2)).Perm (levs rs (stp rs 0) 5)
  sts : H sa = some (.lst (ss.map (·.1)))
  sall : AllS CS bd H ss
  sperm : (ss.map (·.2)).Perm (levs rs (stp rs 0) 5)
  npd : pd ≠ pw
  nsa : sa ≠ pw
theorem Both.same {CB CM CS : Addr} {Hb H H' : Hp} {pw pn rr bd pd sa : Addr} {xs : List V} {o : Ops} {rs : List RowD} {ds ss : List (V × HJ)} (h : Both CB CM CS Hb H pw pn rr bd pd sa xs o rs ds ss) (s : Same H H') : Both CB CM CS Hb H' pw pn rr bd pd sa xs o rs ds ss := by
  obtain ⟨a, b, ⟨x, y, z, c⟩, d, e, f, g, i, j, k, l⟩ := h
  exact ⟨a, but_same b s, ⟨x, y, z, s _ _ c⟩, s _ _ d, e.tupS (.of s), f, s _ _ g, i.same s, j, k, l⟩
theorem Both.draw {CB CM CS : Addr} {Hb H H' : Hp} {pw pn rr bd pd sa : Addr} {xs : List V} {o : Ops} {rs : List RowD} {ds ss : List (V × HJ)} (h : Both CB CM CS Hb H pw pn rr bd pd sa xs o rs ds ss) (s : But H H' pw) (c' : SrcAt H' pw) : Both CB CM CS Hb H' pw pn rr bd pd sa xs o rs ds ss := by
  obtain ⟨a, b, ⟨x, y, z, c⟩, d, e, f, g, i, j, k, l⟩ := h
  exact ⟨a, b.trans s, c', s _ _ k d, e.tupS (.but s c), f, s _ _ l g, i.but s c, j, k, l⟩
def tSame (CB CM CS : Addr) : TS := fun D σ H => ∃ (Hb : Hp) (pw pn rr bd pd sa : Addr) (xs : List V) (o : Ops) (rs : List RowD) (ds ss : List (V × HJ)) (v0 v1 v4 v8 v9 v10 v11 v13 v14 v15 v16 v17 v18 v19 v20 v21 : Option V), σ = [v0, v1, some (.ref pw), some (.ref pn), v4, some (.ref rr), some (.ref bd), some (.ref pd), v8, v9, v10, v11, some (.ref sa), v13, v14, v15, v16, v17, v18, v19, v20, v21] ∧ Both CB CM CS Hb H pw pn rr bd pd sa xs o rs ds ss ∧ ∀ H', Same H H' → D.nx σ H'
def tTurns (CB CM CS : Addr) : TS := fun D σ H => ∃ (Hb : Hp) (pw pn rr bd pd sa : Addr) (xs : List V) (o : Ops) (rs : List RowD) (ds ss : List (V × HJ)) (v0 v1 v4 v8 v9 v10 v11 v13 v14 v15 v16 v17 v18 v19 v20 v21 : Option V), σ = [v0, v1, some (.ref pw), some (.ref pn), v4, some (.ref rr), some (.ref bd), some (.ref pd), v8, v9, v10, v11, some (.ref sa), v13, v14, v15, v16, v17, v18, v19, v20, v21] ∧ Both CB CM CS Hb H pw pn rr bd pd sa xs o rs ds ss ∧
  ∀ (w15 w16 w17 w18 w19 w20 w21 : Option V) (H' : Hp), But H H' pw → D.nx [v0, v1, some (.ref pw), some (.ref pn), v4, some (.ref rr), some (.ref bd), some (.ref pd), v8, v9, v10, v11, some (.ref sa), v13, v14, w15, w16, w17, w18, w19, w20, w21] H'
theorem Both.goodS {CB CM CS : Addr} {Hb H : Hp} {pw pn rr bd pd sa : Addr} {xs : List V} {o : Ops} {rs : List RowD} {ds ss : List (V × HJ)} (h : Both CB CM CS Hb H pw pn rr bd pd sa xs o rs ds ss) {p : V × HJ} (m : p ∈ ss) : ∃ k, k < 5 ∧ GoodI rs (stp rs 0) k p.2 :=
  levs_good h.wd.tab.ok.fit h.wd.j0 (h.sperm.mem_iff.mp (List.mem_map.mpr ⟨p, m, rfl⟩))
theorem Both.goodD {CB CM CS : Addr} {Hb H : Hp} {pw pn rr bd pd sa : Addr} {xs : List V} {o : Ops} {rs : List RowD} {ds ss : List (V × HJ)} (h : Both CB CM CS Hb H pw pn rr bd pd sa xs o rs ds ss) {p : V × HJ} (m : p ∈ ds) : ∃ k, k < 5 ∧ GoodI rs (stp rs 0) k p.2 :=
  levs_good h.wd.tab.ok.fit h.wd.j0 (h.perm.mem_iff.mp (List.mem_map.mpr ⟨p, m, rfl⟩))
theorem Both.few {CB CM CS : Addr} {Hb H : Hp} {pw pn rr bd pd sa : Addr} {xs : List V} {o : Ops} {rs : List RowD} {ds ss : List (V × HJ)} (h : Both CB CM CS Hb H pw pn rr bd pd sa xs o rs ds ss) : ss.length ≤ 121 ∧ ds.length ≤ 121 := by
  have a := levs_few h.wd.tab.few (stp rs 0) 5 (Nat.le_refl 5)
  have b := h.perm.length_eq
  have c := h.sperm.length_eq
  rw [List.length_map] at b c
  omega
end Mine

set_option maxRecDepth 100000
set_option maxHeartbeats 4000000
namespace Mine
open PySem L2
section
variable {P : Program} {w : World} {K : PySem.W.Frag} {mg : Str → Option Value} {base : Heap}
variable {fII fIW CB CM CS CW f a_allL a_showL a_draw a_pick a_behindL a_shown a_parted a_alike fB fN : Addr}
variable {cdv : Value} {A : Around} {outer : List Env} {s : Shared} {H0 : Hp} {E : XK}
theorem chk_due (hr : Room 8 (A.deeper (PyProof.Rows.envOfC "law" (defScope s_law) s.heap.objs.size f cdv))) (h_range : mg "range" = none)
    {fd_allL : FuncData} (GAl : FnOk P w K mg base CX0 2 a_allL fd_allL ["_law_rows_here", "_law_begun", "_law_many"] spAllL) (b_allL : Binds K fd_allL ["_law_rows_here", "_law_begun", "_law_many"] []) (g_allL : mg "_law_all" = some (.ref a_allL)) (k_allL : PySem.W.keepIn K (.ref a_allL) = true)
    {fd_showL : FuncData} (GSh : FnOk P w K mg base CX0 1 a_showL fd_showL ["_law_rows_here", "_law_at"] spShowL) (b_showL : Binds K fd_showL ["_law_rows_here", "_law_at"] []) (g_showL : mg "_law_show" = some (.ref a_showL)) (k_showL : PySem.W.keepIn K (.ref a_showL) = true) : PS (cxOf CX0 P w K mg base NSL "law" (defScope s_law) f cdv A outer s H0 E).nox (lawBody.getD 4 s_law) (tDueS CB CM) := by
  refine ps_imp (ps_for PassesOwn.never rfl (pi_range1 (by rfl) h_range (pa_cons pe_int pa_nil)) (pg_name (i := 8) sc_law.nd rfl (Or.inl rfl)) (pss_one (ps_set (i := 7) sc_law.nd rfl (Or.inl rfl) (pe_op op_catG (pv 7) (pe_lc (own := [("_law_history", 9), ("_law_at", 10)]) (g := gTup K 2 (gCons (gName 9) (gCons (gName 10) gNil))) (tt := tYes) rfl sc_law.nd (pi_list (pe_call GAl (hr.mono (by decide)) (by rfl) g_allL k_allL b_allL .nil pass0 (pa_cons (pv 5) (pa_cons pe_int (pa_cons (pv 8) pa_nil))))) (blkOk_by (own := [("_law_history", 9), ("_law_at", 10)]) (N := NSL) (sc := defScope s_law) (by decide +kernel)) (fun _ _ _ _ _ => pg_tup rfl (pgs_cons (pg_name (i := 9) sc_law.nd rfl (Or.inl rfl)) (pgs_cons (pg_name (i := 10) sc_law.nd rfl (Or.inl rfl)) pgs_nil))) (fun _ _ _ _ _ => pts_nil) (fun _ _ _ _ _ => (pe_tupG (pa_cons (pv 9) (pa_cons (pe_call GSh (hr.mono (by decide)) (by rfl) g_showL k_showL b_showL .nil pass0 (pa_cons (pv 5) (pa_cons (pv 10) pa_nil))) pa_nil))))))))) fun D σ H q => ?_
  obtain ⟨Hb, pw, pn, rr, bd, pd, xs, o, rs, v0, v1, v4, v8, v9, v10, v11, v12, v13, v14, v15, v16, v17, v18, v19, v20, v21, rfl, W, sb, epd, k⟩ := q
  have fit := W.tab.ok.fit
  have hpw : ∃ u, H pw = some u := by
    obtain ⟨x, y, z, e⟩ := W.src
    exact ⟨_, sb _ _ e⟩
  have npd : pd ≠ pw ∨ True := .inr trivial
  have ne_pw : ∀ {H1 : Hp} {q : Addr}, Same H H1 → H1 q = none → q ≠ pw := fun s n z => by
    obtain ⟨u, e⟩ := hpw
    rw [z, s _ _ e] at n
    cases n
  refine ⟨5, rfl, by decide, by decide, for_range (n := 5) (fun t σ H' => ∃ (pd' : Addr) (ds : List (V × HJ)) (w8 : Option V), σ = [v0, v1, some (.ref pw), some (.ref pn), v4, some (.ref rr), some (.ref bd), some (.ref pd'), w8, v9, v10, v11, v12, v13, v14, v15, v16, v17, v18, v19, v20, v21] ∧ Same H H' ∧ H' pd' = some (.lst (ds.map (·.1))) ∧ (0 < t → pd' ≠ pw) ∧ AllD rs H' ds ∧ (ds.map (·.2)).Perm (levs rs (stp rs 0) t)) ⟨pd, [], _, rfl, Same.refl _, epd, fun z => absurd z (Nat.lt_irrefl 0), fun p m => (nomatch m), .refl _⟩ (fun t σ H' ht z => ?_) (fun σ H' z => ?_)⟩
  · obtain ⟨pd', ds, w8, rfl, sH, epd', npd', all, pm⟩ := z
    have sbH := sb.trans sH
    refine ⟨_, rfl, _, rfl, _, rfl, rr, xs, rs, 0, t, (by simp), sbH _ _ W.hr, W.rows.same sbH, fit, W.lt0, by have := W.tab.hi; omega, W.tab.few, by omega, fun p ps Hq sq np ep ai pmp => ⟨p, rfl, ⟨_, SqL.of ep⟩, fun D nD => ?_⟩⟩
    have sbq := sbH.trans sq
    refine lc_it (walk_list (xs := ps.map (·.1))) (fun i Hx => Same Hq Hx ∧ ∃ es : List (V × HJ), Hx D = some (.lst (es.map (·.1))) ∧ AllD rs Hx es ∧ es.map (·.2) = (ps.map (·.2)).take i) ⟨sameNew nD _, [], upd_same, fun p m => (nomatch m), rfl⟩ (fun i Hx _ z => SqL.of (z.1 _ _ ep)) (fun i x Ha Hc hi z1 z2 => ?_) (fun Hx z => ?_)
    · obtain ⟨rfl, hx⟩ := z2
      obtain ⟨sx, es, e1, e2, e3⟩ := z1
      rw [List.getElem?_map] at hx
      cases eq : ps[i]? with
      | none => rw [eq] at hx; cases hx
      | some pp =>
        rw [eq] at hx
        obtain rfl : pp.1 = x := Option.some.inj hx
        have mpp := List.mem_of_getElem? eq
        obtain ⟨q, h, ev, hq, hist⟩ := ai pp mpp
        rw [ev]
        have g : GoodI rs (stp rs 0) t pp.2 := lev_good fit W.j0 t pp.2 (pmp.mem_iff.mp (List.mem_map.mpr ⟨pp, mpp, rfl⟩))
        refine ⟨q, _, rfl, .inl (.inl (sx _ _ hq)), rfl, _, _, rfl, _, _, rfl, rfl, rfl, ?_⟩
        have sbx := sbq.trans sx
        refine ⟨_, rfl, _, rfl, _, rfl, rr, xs, rs, pp.2.2, rfl, sbx _ _ W.hr, W.rows.same sbx, g.lt, fun t1 H1 s1 f1 => ⟨two_ok _ _, fun q2 H2 n2 s2 f2 => ?_⟩⟩
        have s12 : Same Hc H2 := s1.trans s2
        have eD2 := s12 _ _ e1
        have esl : es.length ≤ 100 := by
          have h1 := congrArg List.length e3
          have h2 := pmp.length_eq
          have h3 := W.tab.few.lev (stp rs 0) t
          have h4 := pow_few (show t ≤ 4 by omega)
          rw [List.length_map] at h2
          rw [List.length_map, List.length_take, List.length_map] at h1
          omega
        have ts : TupS H2 (upd H2 D (.lst (es.map (·.1) ++ [.ref q2]))) := .upd eD2
        refine ⟨_, eD2, by rw [List.length_map, sizeLine_eq]; omega, same_updN (sx.trans s12) nD, es ++ [(.ref q2, pp.2)], ?_, ?_, ?_⟩
        · rw [upd_same, List.map_append]
          rfl
        · refine ((e2.tupS (.of s12)).tupS ts).app fun p m => ?_
          rw [List.mem_singleton.mp m]
          exact DueV.tupS ts ⟨q2, h, t1, rfl, f2, (hist.same sx).same s12, s2 _ _ f1⟩
        · have e4 : (ps.map (·.2))[i]? = some pp.2 := by rw [List.getElem?_map, eq]; rfl
          rw [List.map_append, e3, List.take_add_one, e4]
          rfl
    · obtain ⟨sx, es, e1, e2, e3⟩ := z
      rw [List.length_map, ← List.length_map (f := fun p : V × HJ => p.2), List.take_length] at e3
      have sHx := sq.trans sx
      have dsl : ds.length ≤ 121 := by
        have := pm.length_eq
        rw [List.length_map] at this
        rw [this]
        exact levs_few W.tab.few _ t (by omega)
      have esl : es.length ≤ 121 := by
        have h1 := congrArg List.length e3
        have h2 := pmp.length_eq
        have h3 := W.tab.few.lev (stp rs 0) t
        have h4 := pow_few (show t ≤ 4 by omega)
        rw [List.length_map, List.length_map] at h1
        rw [List.length_map] at h2
        omega
      refine ⟨pd', D, _, _, rfl, rfl, sHx _ _ epd', e1, by rw [List.length_map, List.length_map, sizeLine_eq]; omega, fun p3 H3 n3 s3 f3 => ?_⟩
      have sH3 : Same H H3 := sH.trans (sHx.trans s3)
      refine ⟨p3, ds ++ es, _, rfl, sH3, by rw [f3, List.map_append], fun _ => ne_pw (sH.trans sHx) n3, ?_, ?_⟩
      · exact ((all.tupS (.of sHx)).tupS (.of s3)).app (e2.tupS (.of s3))
      · rw [levs_succ, List.map_append, e3]
        exact pm.append pmp
  · obtain ⟨pd', ds, w8, rfl, sH, epd', npd', all, pm⟩ := z
    exact k pd' ds w8 H' sH epd' (npd' (by decide)) all pm
end
end Mine

set_option maxRecDepth 100000
set_option maxHeartbeats 4000000
namespace Mine
open PySem L2
theorem erase_perm {α : Type} : ∀ (l : List α) (k : Nat) (y : α), l[k]? = some y → (y :: l.eraseIdx k).Perm l ∧ (l.eraseIdx k).length + 1 = l.length
  | [], k, y, h => by simp at h
  | x :: l, 0, y, h => by
    have e : x = y := Option.some.inj h
    subst e
    exact ⟨.refl _, rfl⟩
  | x :: l, k + 1, y, h => by
    obtain ⟨p, e⟩ := erase_perm l k y (by simpa using h)
    exact ⟨(List.Perm.swap x y _).trans (p.cons x), by show (l.eraseIdx k).length + 1 + 1 = l.length + 1; rw [e]⟩
theorem seq_at {n : Nat} {i : Int} (h0 : 0 ≤ i) (h : i < n) : seqIndex? i n = some i.toNat := (ixN_seq (by unfold ixN; rw [if_pos h0, if_pos h])).1
theorem erase_map {α β : Type} (f : α → β) : ∀ (l : List α) (k : Nat), (l.map f).eraseIdx k = (l.eraseIdx k).map f
  | [], _ => rfl
  | _ :: _, 0 => rfl
  | x :: l, k + 1 => by
    show f x :: (l.map f).eraseIdx k = f x :: (l.eraseIdx k).map f
    rw [erase_map f l k]
/-- ahead of a turn -/
structure WhI (CS : Addr) (Hb H : Hp) (pw la sa bd : Addr) (rs : List RowD) (ls ss : List (V × HJ)) : Prop where
  but : But Hb H pw
  src : SrcAt H pw
  el : H la = some (.lst (ls.map (·.1)))
  es : H sa = some (.lst (ss.map (·.1)))
  al : AllS CS bd H ls
  as : AllS CS bd H ss
  perm : (ss.map (·.2) ++ todo rs (ls.map (·.2))).Perm (sub rs 4 ([], stp rs 0))
theorem todo_mem {rs : List RowD} {ls : List HJ} {x : HJ} (m : x ∈ ls) : x ∈ todo rs ls := by
  refine List.mem_flatMap.mpr ⟨x, m, ?_⟩
  rw [sub_pos]
  exact List.mem_cons_self
theorem root_good {rs : List RowD} (fit : Fit rs) (h0 : stp rs 0 < rs.length) {x : HJ} (m : x ∈ sub rs 4 ([], stp rs 0)) : ∃ k, k < 5 ∧ GoodI rs (stp rs 0) k x :=
  levs_good fit h0 ((tree_levs rs (stp rs 0)).mem_iff.mp m)
theorem WhI.good {CS : Addr} {Hb H : Hp} {pw la sa bd : Addr} {rs : List RowD} {ls ss : List (V × HJ)} (h : WhI CS Hb H pw la sa bd rs ls ss) (fit : Fit rs) (h0 : stp rs 0 < rs.length) {p : V × HJ} (m : p ∈ ls) : ∃ k, k < 5 ∧ GoodI rs (stp rs 0) k p.2 :=
  root_good fit h0 (h.perm.mem_iff.mp (List.mem_append_right _ (todo_mem (List.mem_map.mpr ⟨p, m, rfl⟩))))
theorem WhI.few {CS : Addr} {Hb H : Hp} {pw la sa bd : Addr} {rs : List RowD} {ls ss : List (V × HJ)} (h : WhI CS Hb H pw la sa bd rs ls ss) (few : FewN rs) : ss.length + ls.length ≤ 121 := by
  have h1 := (h.perm.trans (tree_levs rs (stp rs 0))).length_eq
  have h2 := levs_few few (stp rs 0) 5 (Nat.le_refl 5)
  have h3 := todo_len rs (ls.map (·.2))
  rw [List.length_append, List.length_map] at h1
  rw [List.length_map] at h3
  omega
theorem kids_none {rs : List RowD} {x : HJ} {d : RowD} (e : rs[x.2]? = some d) (h : nextsD d = []) : kids rs x = [] := by
  have : (kids rs x).length = 0 := by
    rw [kids_len, stepsAt_of e, h]
    rfl
  exact List.length_eq_zero_iff.mp this
theorem kids_long {rs : List RowD} {x : HJ} : ∀ y ∈ kids rs x, y.1.length = x.1.length + 1 := fun y m => by
  unfold kids at m
  obtain ⟨p, _, rfl⟩ := List.mem_map.mp m
  show (x.1 ++ _).length = _
  rw [List.length_append]
  rfl
end Mine
namespace Mine
open PySem L2
section
variable {P : Program} {w : World} {K : PySem.W.Frag} {mg : Str → Option Value} {base : Heap}
variable {fII fIW CB CM CS CW f a_allL a_showL a_draw a_pick a_behindL a_shown a_parted a_alike fB fN : Addr}
variable {cdv : Value} {A : Around} {outer : List Env} {s : Shared} {H0 : Hp} {E : XK}
set_option maxHeartbeats 8000000 in
theorem chk_wh (hr : Room 8 (A.deeper (PyProof.Rows.envOfC "law" (defScope s_law) s.heap.objs.size f cdv))) (T : TxtF K mg fII fIW) (h_range : mg "range" = none) (SF : StandFac P w K mg base CB CM CS)
    {fd_draw : FuncData} (GN : FnOk P w K mg base CX0 1 a_draw fd_draw ["_law_well", "_law_many"] spNext) (b_draw : Binds K fd_draw ["_law_well", "_law_many"] []) (g_draw : mg "_law_draw" = some (.ref a_draw)) (k_draw : PySem.W.keepIn K (.ref a_draw) = true) : PS (cxOf CX0 P w K mg base NSL "law" (defScope s_law) f cdv A outer s H0 E).nox (lawBody.getD 6 s_law) (tWh CB CM CS) := by
  obtain ⟨q_sh, g_sh, fd_sh, p_sh, G_sh, b_sh⟩ := SF.sh
  obtain ⟨g_ln, fd_ln, at_ln, fn_ln, G_ln, b_ln⟩ := SF.ln
  obtain ⟨g_ca, fd_ca, C_ca, G_ca, b_ca⟩ := SF.ca
  refine ps_imp (ps_while PassesOwn.never (pt_cmpR (op_neNil hr.units0) (pv 11) (pe_lstG pa_nil) (nomark _))
    (pss_cons (ps_set (i := 13) sc_law.nd rfl (Or.inr rfl) (pe_bm PySem.F.plainAttrs_list PySem.F.slot_list_pop PySem.F.type_list_pop mt_popAt (pv 11) (pa_cons (pe_call GN (hr.mono (by decide)) (by rfl) g_draw k_draw b_draw .nil pass0 (pa_cons (pv 2) (pa_cons (pe_callB call_len_seq (by rfl) T.b_len PySem.boot_len (pa_cons (pv 11) pa_nil)) pa_nil))) pa_nil)))
    (pss_cons (ps_expr (pe_bm PySem.F.plainAttrs_list PySem.F.slot_list_append PySem.F.type_list_append mt_append (pv 12) (pa_cons (pv 13) pa_nil)))
    (pss_one (ps_if (PW.pt (pw_and (pt_cmpR op_eq (pe_ix ix_tup (pe_prop (pv 13) SF.TS.cl p_sh G_sh (hr.mono (by decide)) b_sh .nil pass0 (by rfl)) pe_int (fun _ _ => rfl)) pe_str (nomark _)) (pw_and1 (pt_cmpR op_lt (pe_callB (call_lenO G_ln (hr.mono (by decide)) b_ln pass0 at_ln fn_ln) (by rfl) T.b_len PySem.boot_len (pa_cons (pv 13) pa_nil)) pe_int (nomark _))))) (pss_one (ps_expr (pe_bm PySem.F.plainAttrs_list PySem.F.slot_list_extend PySem.F.type_list_extend mt_extend (pv 11) (pa_cons (pe_lc (own := [("_law_k", 14)]) (g := gName 14) (tt := tYes) rfl sc_law.nd (pi_range1 (by rfl) h_range (pa_cons (pe_dget (hu_of hr) (pv 3) (pe_ix ix_tup (pe_prop (pv 13) SF.TS.cl p_sh G_sh (hr.mono (by decide)) b_sh .nil pass0 (by rfl)) pe_int (fun _ _ => rfl)) (fun _ _ => rfl)) pa_nil)) (blkOk_by (own := [("_law_k", 14)]) (N := NSL) (sc := defScope s_law) (by decide +kernel)) (fun _ _ _ _ _ => pg_name (i := 14) sc_law.nd rfl (Or.inl rfl)) (fun _ _ _ _ _ => pts_nil) (fun _ _ _ _ _ => (pe_callI (pv 13) C_ca (G_ca.raw b_ca .nil) (hr.mono (by decide)) pass0 (pa_cons (pv 14) pa_nil)))) pa_nil)))) pss_nil))))) fun D σ H q => ?_
  obtain ⟨Hb, pw, pn, rr, bd, pd, la, sa, s0, xs, o, rs, v0, v1, v4, v8, v9, v10, v13, v14, v15, v16, v17, v18, v19, v20, v21, rfl, W, sb, nla, nsa, nls, ela, esa, st0, k⟩ := q
  have fit := W.tab.ok.fit
  have h0 := W.j0
  obtain ⟨x0, y0, z0, src0⟩ := W.src
  have lpw : la ≠ pw := fun z => by rw [z, src0] at nla; cases nla
  have spw : sa ≠ pw := fun z => by rw [z, src0] at nsa; cases nsa
  refine ⟨fun m σ H' => ∃ (ls ss : List (V × HJ)) (w13 : Option V), m = (todo rs (ls.map (·.2))).length ∧ σ = [v0, v1, some (.ref pw), some (.ref pn), v4, some (.ref rr), some (.ref bd), some (.ref pd), v8, v9, v10, some (.ref la), some (.ref sa), w13, v14, v15, v16, v17, v18, v19, v20, v21] ∧ WhI CS Hb H' pw la sa bd rs ls ss, ⟨_, [(.ref s0, ([], stp rs 0))], [], _, rfl, rfl, ⟨fun b u _ e => sb _ _ e, ⟨x0, y0, z0, sb _ _ src0⟩, ela, esa, fun p m => ?_, fun p m => (nomatch m), ?_⟩⟩, ?_⟩
  · rw [List.mem_singleton.mp m]
    exact ⟨s0, rfl, st0⟩
  · show (todo rs [([], stp rs 0)]).Perm _
    unfold todo
    rw [List.flatMap_cons, List.flatMap_nil, List.append_nil]
    exact .refl _
  · rintro m σ H1 ⟨ls, ss, w13, rfl, rfl, wi⟩
    have cnt := wi.few W.tab.few
    refine ⟨_, rfl, Nat.zero_le _, fun e0 H2 n2 s2 e2 => ?_⟩
    refine ⟨la, e0, _, rfl, rfl, s2 _ _ wi.el, e2, _, rfl, ?_⟩
    obtain ⟨x1, y1, z1, src1⟩ := wi.src
    cases ls with
    | nil =>
      refine iteF ?_
      refine k ss w13 H2 (but_same wi.but s2) ⟨x1, y1, z1, s2 _ _ src1⟩ (s2 _ _ wi.es) (wi.as.same s2) ?_
      have := wi.perm
      rw [show todo rs (([] : List (V × HJ)).map (·.2)) = [] from rfl, List.append_nil] at this
      exact this.trans (tree_levs rs (stp rs 0))
    | cons p0 ls0 =>
      refine iteT ?_
      have wi2 : WhI CS Hb H2 pw la sa bd rs (p0 :: ls0) ss := ⟨but_same wi.but s2, ⟨x1, y1, z1, s2 _ _ src1⟩, s2 _ _ wi.el, s2 _ _ wi.es, wi.al.same s2, wi.as.same s2, wi.perm⟩
      generalize hls : p0 :: ls0 = ls at wi wi2 cnt
      have lpos : 0 < ls.length := by rw [← hls]; exact Nat.succ_pos _
      refine ⟨fun σ' H'' => ∃ (ls' ss' : List (V × HJ)) (w13 : Option V), (todo rs (ls'.map (·.2))).length < (todo rs (ls.map (·.2))).length ∧ σ' = [v0, v1, some (.ref pw), some (.ref pn), v4, some (.ref rr), some (.ref bd), some (.ref pd), v8, v9, v10, some (.ref la), some (.ref sa), w13, v14, v15, v16, v17, v18, v19, v20, v21] ∧ WhI CS Hb H'' pw la sa bd rs ls' ss', fun σ' H'' ⟨ls', ss', w', z1, z2, z3⟩ => ⟨_, z1, ls', ss', w', rfl, z2, z3⟩, ?_⟩
      refine ⟨_, rfl, .inl ⟨rfl, _, SqL.of wi2.el⟩, _, rfl, _, rfl, la, _, rfl, .inl (SqL.of wi2.el), pw, _, x1, y1, z1, rfl, ?_, ?_, s2 _ _ src1, fun n u1 u2 u3 H3 n0 n1 bt e3 => ?_⟩
      · rw [List.length_map]
        omega
      · rw [List.length_map, Int.natAbs_natCast]
        exact Nat.lt_of_le_of_lt (show ls.length ≤ 121 by omega) (by decide)
      rw [List.length_map] at n1
      have hk : n.toNat < ls.length := by omega
      obtain ⟨p, ep⟩ : ∃ p, ls[n.toNat]? = some p := ⟨_, List.getElem?_eq_getElem hk⟩
      obtain ⟨pe, le⟩ := erase_perm _ _ _ ep
      have el3 : H3 la = some (.lst (ls.map (·.1))) := bt _ _ lpw wi2.el
      have es3 : H3 sa = some (.lst (ss.map (·.1))) := bt _ _ spw wi2.es
      have al3 : AllS CS bd H3 ls := wi2.al.but bt (s2 _ _ src1)
      have as3 : AllS CS bd H3 ss := wi2.as.but bt (s2 _ _ src1)
      have bt3 : But Hb H3 pw := wi2.but.trans bt
      refine ⟨la, ls.map (·.1), n, n.toNat, p.1, rfl, rfl, el3, by omega, by omega, by rw [List.length_map]; exact seq_at n0 n1, by rw [List.getElem?_map, ep]; rfl, ?_⟩
      have eer : (ls.map (·.1)).eraseIdx n.toNat = (ls.eraseIdx n.toNat).map (·.1) := erase_map _ _ _
      rw [eer]
      generalize ls.eraseIdx n.toNat = ls' at pe le
      obtain ⟨sd, evp, sta⟩ := al3 p (List.mem_of_getElem? ep)
      rw [evp]
      -- the list without it
      have b4 : But Hb (upd H3 la (.lst (ls'.map (·.1)))) pw := fun b u nb e => by
        rw [upd_ne (ne_of_none e nla)]
        exact bt3 _ _ nb e
      have src4 : upd H3 la (.lst (ls'.map (·.1))) pw = some (.lst [.int u1, .int u2, .int u3]) := by
        rw [upd_ne (Ne.symm lpw)]
        exact e3
      have el4 : upd H3 la (.lst (ls'.map (·.1))) la = some (.lst (ls'.map (·.1))) := upd_same
      have es4 : upd H3 la (.lst (ls'.map (·.1))) sa = some (.lst (ss.map (·.1))) := by
        rw [upd_ne (Ne.symm nls)]
        exact es3
      have al4 : AllS CS bd (upd H3 la (.lst (ls'.map (·.1)))) ls' := fun q m => (al3.but (but_upd _) el3) q (pe.mem_iff.mp (List.mem_cons_of_mem _ m))
      have as4 : AllS CS bd (upd H3 la (.lst (ls'.map (·.1)))) ss := as3.but (but_upd _) el3
      have st4 : StandAt CS (upd H3 la (.lst (ls'.map (·.1)))) sd bd p.2.2 p.2.1 := sta.but (but_upd _) el3
      generalize upd H3 la (.lst (ls'.map (·.1))) = H4 at b4 src4 el4 es4 al4 as4 st4 ⊢
      refine ⟨_, rfl, .inl ⟨rfl, _, SqL.of es4⟩, _, rfl, sa, _, _, rfl, rfl, es4, by rw [List.length_map, sizeLine_eq]; omega, ?_⟩
      have b5 : But Hb (upd H4 sa (.lst (ss.map (·.1) ++ [.ref sd]))) pw := fun b u nb e => by
        rw [upd_ne (ne_of_none e nsa)]
        exact b4 _ _ nb e
      have src5 : upd H4 sa (.lst (ss.map (·.1) ++ [.ref sd])) pw = some (.lst [.int u1, .int u2, .int u3]) := by
        rw [upd_ne (Ne.symm spw)]
        exact src4
      have el5 : upd H4 sa (.lst (ss.map (·.1) ++ [.ref sd])) la = some (.lst (ls'.map (·.1))) := by
        rw [upd_ne nls]
        exact el4
      have es5 : upd H4 sa (.lst (ss.map (·.1) ++ [.ref sd])) sa = some (.lst ((ss ++ [p]).map (·.1))) := by
        rw [upd_same, List.map_append, ← evp]
        rfl
      have al5 : AllS CS bd (upd H4 sa (.lst (ss.map (·.1) ++ [.ref sd]))) ls' := al4.but (but_upd _) es4
      have st5 : StandAt CS (upd H4 sa (.lst (ss.map (·.1) ++ [.ref sd]))) sd bd p.2.2 p.2.1 := st4.but (but_upd _) es4
      have as5 : AllS CS bd (upd H4 sa (.lst (ss.map (·.1) ++ [.ref sd]))) (ss ++ [p]) := fun q m => by
        rcases List.mem_append.mp m with m | m
        · exact (as4.but (but_upd _) es4) q m
        · rw [List.mem_singleton.mp m]
          exact ⟨sd, evp, st5⟩
      generalize upd H4 sa (.lst (ss.map (·.1) ++ [.ref sd])) = H5 at b5 src5 el5 es5 al5 st5 as5 ⊢
      obtain ⟨kk, k5, g⟩ := wi2.good fit h0 (List.mem_of_getElem? ep)
      have wl4 : p.2.1.length ≤ 4 := by rw [g.len]; omega
      have fin : ∀ (Hn : Hp) (nw : List (V × HJ)), But Hb Hn pw → SrcAt Hn pw → Hn la = some (.lst ((ls' ++ nw).map (·.1))) → Hn sa = some (.lst ((ss ++ [p]).map (·.1))) → AllS CS bd Hn ls' → AllS CS bd Hn (ss ++ [p]) → AllS CS bd Hn nw → nw.map (·.2) = (if p.2.1.length < 4 then kids rs p.2 else []) →
          ∃ (lz sz : List (V × HJ)) (w13 : Option V), (todo rs (lz.map (·.2))).length < (todo rs (ls.map (·.2))).length ∧ [v0, v1, some (.ref pw), some (.ref pn), v4, some (.ref rr), some (.ref bd), some (.ref pd), v8, v9, v10, some (.ref la), some (.ref sa), some (.ref sd), v14, v15, v16, v17, v18, v19, v20, v21] = [v0, v1, some (.ref pw), some (.ref pn), v4, some (.ref rr), some (.ref bd), some (.ref pd), v8, v9, v10, some (.ref la), some (.ref sa), w13, v14, v15, v16, v17, v18, v19, v20, v21] ∧ WhI CS Hb Hn pw la sa bd rs lz sz := by
        intro Hn nw c1 c2 c3 c4 c5 c6 c7 c8
        obtain ⟨t1, t2⟩ := todo_step (x := p.2) (ls' := ls'.map fun q : V × HJ => q.2) (new := nw.map fun q : V × HJ => q.2) wi2.perm (pe.map fun q : V × HJ => q.2) wl4 c8 kids_long
        refine ⟨ls' ++ nw, ss ++ [p], some (.ref sd), ?_, rfl, c1, c2, c3, c4, fun q m => (List.mem_append.mp m).elim (c5 q) (c7 q), c6, ?_⟩
        · rw [List.map_append]
          omega
        · rw [List.map_append, List.map_append]
          exact t1
      have none_fin : ∀ (Hn : Hp), Same H5 Hn → (if p.2.1.length < 4 then kids rs p.2 else []) = [] → ∃ (lz sz : List (V × HJ)) (w13 : Option V), (todo rs (lz.map (·.2))).length < (todo rs (ls.map (·.2))).length ∧ [v0, v1, some (.ref pw), some (.ref pn), v4, some (.ref rr), some (.ref bd), some (.ref pd), v8, v9, v10, some (.ref la), some (.ref sa), some (.ref sd), v14, v15, v16, v17, v18, v19, v20, v21] = [v0, v1, some (.ref pw), some (.ref pn), v4, some (.ref rr), some (.ref bd), some (.ref pd), v8, v9, v10, some (.ref la), some (.ref sa), w13, v14, v15, v16, v17, v18, v19, v20, v21] ∧ WhI CS Hb Hn pw la sa bd rs lz sz := fun Hn sn e =>
        fin Hn [] (but_same b5 sn) ⟨u1, u2, u3, sn _ _ src5⟩ (by rw [List.append_nil]; exact sn _ _ el5) (sn _ _ es5) (al5.same sn) (as5.same sn) (fun q m => (nomatch m)) e.symm
      obtain ⟨dx, fs, hta, hs5, sf5, hist5⟩ := id st5
      obtain ⟨d, ed⟩ : ∃ d, rs[p.2.2]? = some d := ⟨_, List.getElem?_eq_getElem g.lt⟩
      refine ⟨_, rfl, sd, dx, fs, rfl, hs5, sd, bd, o, rs, 0, p.2.2, p.2.1, rfl, st5, W.bodyAt b5, g.lt, fun t1 H6 s6 e6 => ?_⟩
      rw [showAt_of ed] at e6
      cases d with
      | go n' =>
        refine ⟨_, _, _, _, rfl, rfl, .inl (.inl e6), at0', rfl, _, rfl, ?_⟩
        rw [strNe (show ("hang" : Str) ≠ "ask" by decide +kernel)]
        refine iteF ?_
        exact none_fin H6 s6 (by rw [kids_none ed rfl]; exact ite_self _)
      | fin w' =>
        refine ⟨_, _, _, _, rfl, rfl, .inl (.inl e6), at0', rfl, _, rfl, ?_⟩
        rw [strNe (show ("end" : Str) ≠ "ask" by decide +kernel)]
        refine iteF ?_
        exact none_fin H6 s6 (by rw [kids_none ed rfl]; exact ite_self _)
      | ask op ns =>
        refine ⟨_, _, _, _, rfl, rfl, .inl (.inl e6), at0', rfl, _, rfl, ?_⟩
        rw [strEq]
        refine iteT ?_
        refine ⟨_, rfl, sd, dx, fs, rfl, s6 _ _ hs5, sd, bd, p.2.2, p.2.1, rfl, st5.same s6, (p.2.1.length : Int), rfl, by omega, by omega, _, _, rfl, rfl, _, rfl, ?_⟩
        by_cases lt4 : p.2.1.length < 4
        · rw [decide_eq_true (show (p.2.1.length : Int) < 4 by omega)]
          refine iteT ?_
          have look := (W.tab.ok _ _ ed).1
          have b6 : But Hb H6 pw := but_same b5 s6
          refine ⟨_, rfl, .inl ⟨rfl, _, SqL.of (s6 _ _ el5)⟩, _, rfl, _, rfl, sd, dx, fs, rfl, s6 _ _ hs5, sd, bd, o, rs, 0, p.2.2, p.2.1, rfl, st5.same s6, W.bodyAt b6, g.lt, fun t2 H7 s7 e7 => ?_⟩
          rw [showAt_of ed] at e7
          have s57 := s6.trans s7
          have b7 : But Hb H7 pw := but_same b6 s7
          have len3 : ns.length ≤ 3 := W.tab.few _ (List.mem_of_getElem? ed)
          refine ⟨_, _, _, _, rfl, rfl, .inl (.inl e7), at1', pn, _, rfl, .inl ⟨opsK o, .inr op, .inl (W.pnAt b7), rfl, (by rw [val_ops, look]; rfl)⟩, (ns.length : Int), rfl, by omega, by omega, fun D nD => ?_⟩
          refine lc_it (walk_range (lo := 0) (n := (ns.length : Int).toNat)) (fun i Hx => Same H7 Hx ∧ ∃ ks : List (V × HJ), Hx D = some (.lst (ks.map (·.1))) ∧ AllS CS bd Hx ks ∧ ks.map (·.2) = (kids rs p.2).take i) ⟨sameNew nD _, [], upd_same, fun q m => (nomatch m), rfl⟩ (fun _ _ _ _ => trivial) (fun i xx Ha Hc hi z1 z2 => ?_) (fun Hx z => ?_)
          · obtain ⟨sx, ks, k1, k2, k3⟩ := z1
            obtain ⟨rfl, rfl⟩ := z2
            have hi2 : i < ns.length := by omega
            obtain ⟨z, ez⟩ : ∃ z, ns[i]? = some z := ⟨_, List.getElem?_eq_getElem hi2⟩
            have s5x := s57.trans sx
            have ksl : ks.length ≤ 3 := by
              have h1 := congrArg List.length k3
              have h2 := W.tab.few.at p.2
              rw [List.length_map, List.length_take] at h1
              omega
            refine ⟨rfl, sd, rfl, _, rfl, ⟨dx, fs, s5x _ _ hs5⟩, sd, bd, o, rs, 0, p.2.2, i, p.2.1, op, ns, z, (by simp), st5.same s5x, W.bodyAt (but_same b7 sx), fit, ed, ez, by omega, fun t3 H8 s8 n8 st8 => ?_⟩
            have eD8 := s8 _ _ k1
            have ek : (kids rs p.2)[i]? = some (p.2.1 ++ [(opAt rs p.2.2, i)], stp rs z.toNat) := by
              rw [kids_get, stepsAt_of ed, show (nextsD (.ask op ns))[i]? = some z from ez]
              rfl
            have eo : opAt rs p.2.2 = op := by
              unfold opAt
              rw [ed]
            refine ⟨_, eD8, by rw [List.length_map, sizeLine_eq]; omega, same_updN (sx.trans s8) nD, ks ++ [(.ref t3, (p.2.1 ++ [(opAt rs p.2.2, i)], stp rs z.toNat))], ?_, fun q m => ?_, ?_⟩
            · rw [upd_same, List.map_append]
              rfl
            · rcases List.mem_append.mp m with m | m
              · exact ((k2.same s8).but (but_upd _) eD8) q m
              · rw [List.mem_singleton.mp m, eo]
                exact ⟨t3, rfl, st8.but (but_upd _) eD8⟩
            · rw [List.map_append, k3, zipIdx_take_kids ek]
              rfl
          · obtain ⟨sx, ks, k1, k2, k3⟩ := z
            have s5x := s57.trans sx
            have ek : (kids rs p.2).take (ns.length : Int).toNat = kids rs p.2 := List.take_of_length_le (by
              rw [kids_len, stepsAt_of ed]
              show ns.length ≤ _
              omega)
            rw [ek] at k3
            have ksl : ks.length ≤ 3 := by
              have h1 := congrArg List.length k3
              have h2 := W.tab.few.at p.2
              rw [List.length_map] at h1
              omega
            have elx := s5x _ _ el5
            refine ⟨la, D, _, _, rfl, rfl, elx, k1, by rw [List.length_map, List.length_map, sizeLine_eq]; omega, ?_⟩
            refine fin _ ks ?_ ?_ ?_ ?_ ?_ ?_ ?_ ?_
            · intro b u nb e
              rw [upd_ne (ne_of_none e nla)]
              exact s5x _ _ (b5 _ _ nb e)
            · refine ⟨u1, u2, u3, ?_⟩
              rw [upd_ne (Ne.symm lpw)]
              exact s5x _ _ src5
            · rw [upd_same, List.map_append]
            · rw [upd_ne (Ne.symm nls)]
              exact s5x _ _ es5
            · exact (al5.same s5x).but (but_upd _) elx
            · exact (as5.same s5x).but (but_upd _) elx
            · exact k2.but (but_upd _) elx
            · rw [k3, if_pos lt4]
        · rw [decide_eq_false (show ¬ (p.2.1.length : Int) < 4 by omega)]
          refine iteF ?_
          exact none_fin H6 s6 (if_neg lt4)
end
end Mine

set_option maxRecDepth 100000
set_option maxHeartbeats 4000000
namespace Mine
open PySem L2
section
variable {P : Program} {w : World} {K : PySem.W.Frag} {mg : Str → Option Value} {base : Heap}
variable {fII fIW CB CM CS CW f a_allL a_showL a_draw a_pick a_behindL a_shown a_parted a_alike fB fN : Addr}
variable {cdv : Value} {A : Around} {outer : List Env} {s : Shared} {H0 : Hp} {E : XK}
theorem chk_cmp (hr : Room 8 (A.deeper (PyProof.Rows.envOfC "law" (defScope s_law) s.heap.objs.size f cdv))) (h_sorted : mg "sorted" = none) (SF : StandFac P w K mg base CB CM CS) : PS (cxOf CX0 P w K mg base NSL "law" (defScope s_law) f cdv A outer s H0 E).nox (lawBody.getD 7 s_law) (tSame CB CM CS) := by
  obtain ⟨q_sh, g_sh, fd_sh, p_sh, G_sh, b_sh⟩ := SF.sh
  obtain ⟨q_pa, g_pa, fd_pa, p_pa, G_pa, b_pa⟩ := SF.pa
  refine ps_imp (ps_if (pt_cmpR (op_neD hr.units) (pe_callB (cr_sortedD hr.units) (by rfl) h_sorted (by decide +kernel) (pa_cons (pe_lc (own := [("_law_stand", 13)]) (g := gName 13) (tt := tYes) rfl sc_law.nd (pi_list (pv 12)) (blkOk_by (own := [("_law_stand", 13)]) (N := NSL) (sc := defScope s_law) (by decide +kernel)) (fun _ _ _ _ _ => pg_name (i := 13) sc_law.nd rfl (Or.inl rfl)) (fun _ _ _ _ _ => pts_nil) (fun _ _ _ _ _ => (pe_tupG (pa_cons (pe_prop (pv 13) SF.TS.cl p_pa G_pa (hr.mono (by decide)) b_pa .nil pass0 (by rfl)) (pa_cons (pe_prop (pv 13) SF.TS.cl p_sh G_sh (hr.mono (by decide)) b_sh .nil pass0 (by rfl)) pa_nil))))) pa_nil)) (pe_callB (cr_sortedD hr.units) (by rfl) h_sorted (by decide +kernel) (pa_cons (pv 7) pa_nil)) (nomark _)) (pss_one (ps_ret pe_bl)) pss_nil) fun D σ H q => ?_
  obtain ⟨Hb, pw, pn, rr, bd, pd, sa, xs, o, rs, ds, ss, v0, v1, v4, v8, v9, v10, v11, v13, v14, v15, v16, v17, v18, v19, v20, v21, rfl, B, k⟩ := q
  have few := B.few
  refine ⟨_, rfl, sa, rfl, ⟨_, SqL.of B.sts⟩, fun D1 nD => ?_⟩
  refine lc_it (walk_list (xs := ss.map (·.1))) (fun i Hx => Same H Hx ∧ ∃ es : List (V × HJ), Hx D1 = some (.lst (es.map (·.1))) ∧ AllD rs Hx es ∧ es.map (·.2) = (ss.map (·.2)).take i) ⟨sameNew nD _, [], upd_same, fun p m => (nomatch m), rfl⟩ (fun i Hx _ z => SqL.of (z.1 _ _ B.sts)) (fun i x Ha Hc hi z1 z2 => ?_) (fun Hx z => ?_)
  · obtain ⟨rfl, hx⟩ := z2
    obtain ⟨sx, es, e1, e2, e3⟩ := z1
    rw [List.getElem?_map] at hx
    cases eq : ss[i]? with
    | none => rw [eq] at hx; cases hx
    | some pp =>
      rw [eq] at hx
      obtain rfl : pp.1 = x := Option.some.inj hx
      have mpp := List.mem_of_getElem? eq
      obtain ⟨kk, k5, g⟩ := B.goodS mpp
      obtain ⟨sd, ev, sta0⟩ := B.sall pp mpp
      have sta := sta0.same sx
      obtain ⟨dx, fs, hta, hs, _, _⟩ := id sta
      have bx := but_same B.but sx
      rw [ev]
      refine ⟨rfl, _, rfl, sd, dx, fs, rfl, hs, sd, bd, pp.2.2, pp.2.1, rfl, sta, fun ht hh => ⟨_, rfl, sd, dx, fs, rfl, hs, sd, bd, o, rs, 0, pp.2.2, pp.2.1, rfl, sta, B.wd.bodyAt bx, g.lt, fun t1 H1 s1 f1 => ⟨two_ok _ _, fun q2 H2 n2 s2 f2 => ?_⟩⟩⟩
      have s12 : Same Hc H2 := s1.trans s2
      have eD2 := s12 _ _ e1
      have esl : es.length ≤ 121 := by
        have h1 := congrArg List.length e3
        rw [List.length_map, List.length_take, List.length_map] at h1
        omega
      have ts : TupS H2 (upd H2 D1 (.lst (es.map (·.1) ++ [.ref q2]))) := .upd eD2
      refine ⟨_, eD2, by rw [List.length_map, sizeLine_eq]; omega, same_updN (sx.trans s12) nD, es ++ [(.ref q2, pp.2)], ?_, ?_, ?_⟩
      · rw [upd_same, List.map_append]
        rfl
      · refine ((e2.tupS (.of s12)).tupS ts).app fun p m => ?_
        rw [List.mem_singleton.mp m]
        exact DueV.tupS ts ⟨q2, ht, t1, rfl, f2, hh.same s12, s2 _ _ f1⟩
      · have e4 : (ss.map (·.2))[i]? = some pp.2 := by rw [List.getElem?_map, eq]; rfl
        rw [List.map_append, e3, List.take_add_one, e4]
        rfl
  · obtain ⟨sx, es, e1, e2, e3⟩ := z
    rw [List.length_map, ← List.length_map (f := fun p : V × HJ => p.2), List.take_length] at e3
    have dallx : AllD rs Hx ds := B.all.tupS (.of sx)
    obtain ⟨a1, a2, a3, a4⟩ := due_sort (K := K) e2
    have emap : ∀ l : List (V × HJ), (l.map (pdD rs)).map (·.1) = l.map (·.1) := fun l => by
      rw [List.map_map]
      rfl
    refine ⟨D1, es.map (pdD rs), rfl, SqL.of (by rw [emap]; exact e1), a1, a2, a3, a4, fun p1 n1 => ?_⟩
    have s1 : Same Hx (upd Hx p1 (.lst (((es.map (pdD rs)).mergeSort leD).map (·.1)))) := sameNew n1 _
    have f1 : upd Hx p1 (.lst (((es.map (pdD rs)).mergeSort leD).map (·.1))) p1 = some (.lst (((es.map (pdD rs)).mergeSort leD).map (·.1))) := upd_same
    generalize upd Hx p1 (.lst (((es.map (pdD rs)).mergeSort leD).map (·.1))) = H1 at s1 f1 ⊢
    obtain ⟨b1, b2, b3, b4⟩ := due_sort (K := K) (dallx.tupS (.of s1))
    refine ⟨_, rfl, pd, ds.map (pdD rs), rfl, SqL.of (by rw [emap]; exact s1 _ _ (sx _ _ B.due)), b1, b2, b3, b4, fun p2 n2 => ?_⟩
    have s2 : Same H1 (upd H1 p2 (.lst (((ds.map (pdD rs)).mergeSort leD).map (·.1)))) := sameNew n2 _
    have f2 : upd H1 p2 (.lst (((ds.map (pdD rs)).mergeSort leD).map (·.1))) p2 = some (.lst (((ds.map (pdD rs)).mergeSort leD).map (·.1))) := upd_same
    generalize upd H1 p2 (.lst (((ds.map (pdD rs)).mergeSort leD).map (·.1))) = H2 at s2 f2 ⊢
    have c1 := (due_sort (K := K) ((e2.tupS (.of s1)).tupS (.of s2))).1
    have c2 := (due_sort (K := K) ((dallx.tupS (.of s1)).tupS (.of s2))).1
    have can1 : ∀ d ∈ ((es.map (pdD rs)).mergeSort leD).map (·.2), d.canLay0 = true ∧ d.depth ≤ 4 := fun d hd => by
      obtain ⟨z, mz, rfl⟩ := List.mem_map.mp hd
      obtain ⟨p, mp, rfl⟩ := List.mem_map.mp (sortD_mem.mp mz)
      have : p.2 ∈ ss.map (·.2) := by
        rw [← e3]
        exact List.mem_map.mpr ⟨p, mp, rfl⟩
      obtain ⟨p', mp', ep'⟩ := List.mem_map.mp this
      obtain ⟨_, _, g⟩ := B.goodS mp'
      rw [ep'] at g
      exact ⟨due_can B.wd.tab.tx g, due_deep rs p.2⟩
    have can2 : ∀ d ∈ ((ds.map (pdD rs)).mergeSort leD).map (·.2), d.canLay0 = true ∧ d.depth ≤ 4 := fun d hd => by
      obtain ⟨z, mz, rfl⟩ := List.mem_map.mp hd
      obtain ⟨p, mp, rfl⟩ := List.mem_map.mp (sortD_mem.mp mz)
      obtain ⟨_, _, g⟩ := B.goodD mp
      exact ⟨due_can B.wd.tab.tx g, due_deep rs p.2⟩
    refine ⟨.list (((es.map (pdD rs)).mergeSort leD).map fun z : V × PyData => z.2), .list (((ds.map (pdD rs)).mergeSort leD).map fun z : V × PyData => z.2), .lst (SqL.of (s2 _ _ f1)) (dps_all fun z m => (c1 z (sortD_mem.mp m)).1), .lst (SqL.of f2) (dps_all fun z m => (c2 z (sortD_mem.mp m)).1), list_shaped (n := 4) (by decide) (fun d hd => (can1 d hd).1) (fun d hd => (can1 d hd).2), list_shaped (n := 4) (by decide) (fun d hd => (can2 d hd).1) (fun d hd => (can2 d hd).2), _, rfl, ?_⟩
    have ev : PyData.eqv (.list (((es.map (pdD rs)).mergeSort leD).map (·.2))) (.list (((ds.map (pdD rs)).mergeSort leD).map (·.2))) = true := by
      rw [PyData.eqv]
      refine due_sorted ?_
      rw [e3]
      exact B.sperm.trans B.perm.symm
    rw [ev]
    exact iteF (k H2 (sx.trans (s1.trans s2)))
theorem chk_shw (hr : Room 8 (A.deeper (PyProof.Rows.envOfC "law" (defScope s_law) s.heap.objs.size f cdv))) (SF : StandFac P w K mg base CB CM CS)
    {fd_shown : FuncData} (GSn : FnOk P w K mg base CX0 5 a_shown fd_shown ["body", "history"] (spShown CB CM)) (b_shown : Binds K fd_shown ["body", "history"] []) (g_shown : mg "shown" = some (.ref a_shown)) (k_shown : PySem.W.keepIn K (.ref a_shown) = true) : PS (cxOf CX0 P w K mg base NSL "law" (defScope s_law) f cdv A outer s H0 E).nox (lawBody.getD 8 s_law) (tSame CB CM CS) := by
  obtain ⟨q_sh, g_sh, fd_sh, p_sh, G_sh, b_sh⟩ := SF.sh
  obtain ⟨q_pa, g_pa, fd_pa, p_pa, G_pa, b_pa⟩ := SF.pa
  refine ps_imp (ps_if (pt_cmpR (op_neNil hr.units0) (pe_lc (own := [("_law_stand", 13)]) (g := gName 13) rfl sc_law.nd (pi_list (pv 12)) (blkOk_by (own := [("_law_stand", 13)]) (N := NSL) (sc := defScope s_law) (by decide +kernel)) (fun _ _ _ _ _ => pg_name (i := 13) sc_law.nd rfl (Or.inl rfl)) (fun _ _ _ _ _ => pts_one (pt_cmpR (show OpR _ _ (rNeD K) from op_neD hr.units) (pe_call GSn (hr.mono (by decide)) (by rfl) g_shown k_shown b_shown .nil pass0 (pa_cons (pv 6) (pa_cons (pe_prop (pv 13) SF.TS.cl p_pa G_pa (hr.mono (by decide)) b_pa .nil pass0 (by rfl)) pa_nil))) (pe_prop (pv 13) SF.TS.cl p_sh G_sh (hr.mono (by decide)) b_sh .nil pass0 (by rfl)) (nomark _))) (fun _ _ _ _ _ => pe_int)) (pe_lstG pa_nil) (nomark _)) (pss_one (ps_ret pe_bl)) pss_nil) fun D σ H q => ?_
  obtain ⟨Hb, pw, pn, rr, bd, pd, sa, xs, o, rs, ds, ss, v0, v1, v4, v8, v9, v10, v11, v13, v14, v15, v16, v17, v18, v19, v20, v21, rfl, B, k⟩ := q
  refine ⟨_, rfl, sa, rfl, ⟨_, SqL.of B.sts⟩, fun D1 nD => ?_⟩
  refine lc_it (walk_list (xs := ss.map (·.1))) (fun i Hx => Same H Hx ∧ Hx D1 = some (.lst [])) ⟨sameNew nD _, upd_same⟩ (fun i Hx _ z => SqL.of (z.1 _ _ B.sts)) (fun i x Ha Hc hi z1 z2 => ?_) (fun Hx z => ?_)
  · obtain ⟨rfl, hx⟩ := z2
    obtain ⟨sx, e1⟩ := z1
    rw [List.getElem?_map] at hx
    cases eq : ss[i]? with
    | none => rw [eq] at hx; cases hx
    | some pp =>
      rw [eq] at hx
      obtain rfl : pp.1 = x := Option.some.inj hx
      have mpp := List.mem_of_getElem? eq
      obtain ⟨kk, k5, g⟩ := B.goodS mpp
      obtain ⟨sd, ev, sta0⟩ := B.sall pp mpp
      have sta := sta0.same sx
      obtain ⟨dx, fs, hta, hs, _, _⟩ := id sta
      have bx := but_same B.but sx
      obtain ⟨d, ed⟩ : ∃ d, rs[pp.2.2]? = some d := ⟨_, List.getElem?_eq_getElem g.lt⟩
      have tx := B.wd.tab.tx d (List.mem_of_getElem? ed)
      rw [ev]
      refine ⟨rfl, _, rfl, _, rfl, sd, dx, fs, rfl, hs, sd, bd, pp.2.2, pp.2.1, rfl, sta, fun ht hh => ?_⟩
      refine ⟨bd, ht, o, rs, 0, pp.2.1, pp.2.2, rfl, B.wd.bodyAt bx, hh, B.wd.tab.og.nd, ask_ok B.wd.tab.ok, B.wd.tab.ok.fit, g.go, fun t H1 s1 f1 => ?_⟩
      refine ⟨_, rfl, sd, dx, fs, rfl, s1 _ _ hs, sd, bd, o, rs, 0, pp.2.2, pp.2.1, rfl, sta.same s1, B.wd.bodyAt (but_same bx s1), g.lt, fun t2 H2 s2 f2 => ?_⟩
      rw [showAt_of ed] at f1 f2
      refine ⟨showP d, showP d, show_dp (s2 _ _ f1), show_dp f2, show_shaped tx, show_shaped tx, _, rfl, ?_⟩
      rw [(show_eqv d d).mpr rfl]
      refine iteF ?_
      exact ⟨sx.trans (s1.trans s2), s2 _ _ (s1 _ _ e1)⟩
  · obtain ⟨sx, e1⟩ := z
    refine ⟨Nat.zero_le _, fun e0 H2 n2 s2 f2 => ?_⟩
    refine ⟨D1, e0, [], rfl, rfl, s2 _ _ e1, f2, _, rfl, ?_⟩
    exact iteF (k H2 (sx.trans s2))
end
end Mine

set_option maxRecDepth 100000
set_option maxHeartbeats 4000000
namespace Mine
open PySem L2
theorem stp_stp {rs : List RowD} (ok : GoOk rs) {i : Nat} (hi : i < rs.length) : stp rs (stp rs i) = stp rs i := by
  obtain ⟨k, e⟩ := Mach.stop_mem (nxt rs) rs.length i
  have : stp rs i = way rs (rs.length + k) i := by
    show Mach.stopAt _ _ _ = Mach.itr _ _ _
    rw [e, Mach.itr_add]
  have h2 := stp_way ok (rs.length + k) i hi
  rw [← this] at h2
  exact h2
theorem goTo_rest {rs : List RowD} (fit : Fit rs) : ∀ {ws : List (Str × Nat)} {i j : Nat}, stp rs i = i → goTo rs i ws = some j → stp rs j = j
  | [], i, j, e, h => by
    have : i = j := Option.some.inj h
    subst this
    exact e
  | (op, k) :: ws, i, j, e, h => by
    obtain ⟨ns, a, h1, h2, h3⟩ := goTo_cons h
    obtain ⟨z0, z1⟩ := fit.nexts h1 (show a ∈ nextsD (.ask op ns) from List.mem_of_getElem? h2)
    exact goTo_rest fit (stp_stp fit.go (show a.toNat < rs.length by omega)) h3
abbrev upd' (H : Hp) (a : Addr) (o : HO) : Hp := L2.upd H a o
theorem BodyN.upd {CB CM : Addr} {H0 H : Hp} {bd : Addr} {o : Ops} {rs : List RowD} {b : Nat} (h : BodyN CB CM H0 H bd o rs b) (nb : H0 bd = none) {D : Addr} {us vs : List V} (hD : H0 D = some (.lst us)) (hD2 : H D = some (.lst vs)) (u : HO) : BodyN CB CM H0 (upd H D u) bd o rs b := by
  obtain ⟨m, t, l, sa, aa, ea, o', xs, as, es, ⟨⟨dx, fb, h1, h2⟩, ⟨dm, fm, h3, h4⟩, h5, h6, h7, h8, h9, dw, hw⟩, n1, n2, n3, n4, n5, n6⟩ := h
  have k : ∀ (a : Addr) (v : HO), H0 a = none → H a = some v → Mine.upd' H D u a = some v := fun a v n e => by
    unfold Mine.upd'
    rw [upd_ne (fun z => by rw [z, hD] at n; cases n)]
    exact e
  exact ⟨m, t, l, sa, aa, ea, o', xs, as, es, ⟨⟨dx, fb, k _ _ nb h1, h2⟩, ⟨dm, fm, k _ _ n1 h3, ⟨h4.counts, h4.lines, h4.begin, h4.stops, h4.asks, h4.endings, h4.endless, k _ _ n4 h4.hs, k _ _ n5 h4.ha, k _ _ n6 h4.he, h4.fa, h4.fe⟩⟩, k _ _ n2 h5, h6, k _ _ n3 h7, h8.tupS (.upd hD2), h9, dw, k _ _ nb hw⟩, n1, n2, n3, n4, n5, n6⟩
theorem BodyN.base {CB CM : Addr} {H0 H1 H : Hp} {bd : Addr} {o : Ops} {rs : List RowD} {b : Nat} (h : BodyN CB CM H1 H bd o rs b) (k : ∀ a, H1 a = none → H0 a = none) : BodyN CB CM H0 H bd o rs b := by
  obtain ⟨m, t, l, sa, aa, ea, o', xs, as, es, h, n1, n2, n3, n4, n5, n6⟩ := h
  exact ⟨m, t, l, sa, aa, ea, o', xs, as, es, h, k _ n1, k _ n2, k _ n3, k _ n4, k _ n5, k _ n6⟩
theorem ne_nonD {a : Addr} : decide (V.ref a = V.non) = false := decide_eq_false fun z => nomatch z
end Mine
namespace Mine
open PySem L2
section
variable {P : Program} {w : World} {K : PySem.W.Frag} {mg : Str → Option Value} {base : Heap}
variable {fII fIW CB CM CS CW f a_allL a_showL a_draw a_pick a_behindL a_shown a_parted a_alike fB fN : Addr}
variable {cdv : Value} {A : Around} {outer : List Env} {s : Shared} {H0 : Hp} {E : XK}
set_option maxHeartbeats 8000000 in
theorem chk_turns (hr : Room 8 (A.deeper (PyProof.Rows.envOfC "law" (defScope s_law) s.heap.objs.size f cdv))) (h_range : mg "range" = none) (SF : StandFac P w K mg base CB CM CS)
    {fd_pick : FuncData} (GO : FnOk P w K mg base CX0 2 a_pick fd_pick ["_law_well", "_law_some"] spOne) (b_pick : Binds K fd_pick ["_law_well", "_law_some"] []) (g_pick : mg "_law_pick" = some (.ref a_pick)) (k_pick : PySem.W.keepIn K (.ref a_pick) = true)
    {fd_behindL : FuncData} (GBh : FnOk P w K mg base CX0 2 a_behindL fd_behindL ["_law_rows_here", "_law_begun", "_law_history"] spBehindL) (b_behindL : Binds K fd_behindL ["_law_rows_here", "_law_begun", "_law_history"] []) (g_behindL : mg "_law_behind" = some (.ref a_behindL)) (k_behindL : PySem.W.keepIn K (.ref a_behindL) = true)
    {fd_alike : FuncData} (GAf : FnOk P w K mg base CX0 4 a_alike fd_alike ["one", "other"] (spAlikeFrom CB CM CS)) (b_alike : Binds K fd_alike ["one", "other"] []) (g_alike : mg "alike_from" = some (.ref a_alike)) (k_alike : PySem.W.keepIn K (.ref a_alike) = true)
    {fd_parted : FuncData} (GPa : FnOk P w K mg base CX0 4 a_parted fd_parted ["one", "other"] (spPartedF CB CM)) (b_parted : Binds K fd_parted ["one", "other"] []) (g_parted : mg "parted" = some (.ref a_parted)) (k_parted : PySem.W.keepIn K (.ref a_parted) = true)
    {fdB : FuncData} (MB : Mk K CB fB) (GB : FnOk P w K mg base CX0 7 fB fdB PB (spBody CB CM)) (kB : KBn K fdB PB (2 + 1) KS (fun us ws => us ++ ws) (fun vs zs => vs ++ zs)) (g_Body : mg "Body" = some (.ref CB)) : PS (cxOf CX0 P w K mg base NSL "law" (defScope s_law) f cdv A outer s H0 E).nox (lawBody.getD 9 s_law) (tTurns CB CM CS) := by
  obtain ⟨q_pa, g_pa, fd_pa, p_pa, G_pa, b_pa⟩ := SF.pa
  refine ps_imp (ps_for PassesOwn.never rfl (pi_range1 (by rfl) h_range (pa_cons pe_int pa_nil)) (pg_name (i := 15) sc_law.nd rfl (Or.inl rfl))
    (pss_cons (ps_par (i := 16) (j := 17) rfl sc_law.nd rfl rfl (by decide) rfl rfl (pa_cons (pe_call GO (hr.mono (by decide)) (by rfl) g_pick k_pick b_pick .nil pass0 (pa_cons (pv 2) (pa_cons (pv 12) pa_nil))) (pa_cons (pe_call GO (hr.mono (by decide)) (by rfl) g_pick k_pick b_pick .nil pass0 (pa_cons (pv 2) (pa_cons (pv 12) pa_nil))) pa_nil)) rfl)
    (pss_cons (ps_setLc (i := 18) (own := [("_law_stand", 13)]) (g := gName 13) (tt := tYes) rfl sc_law.nd rfl rfl (sw_true rfl rfl rfl (by decide +kernel)) (pi_tup (pe_tupG (pa_cons (pv 16) (pa_cons (pv 17) pa_nil)))) (blkOk_by (own := [("_law_stand", 13)]) (N := NSL) (sc := defScope s_law) (by decide +kernel)) (fun _ _ _ _ _ => pg_name (i := 13) sc_law.nd rfl (Or.inl rfl)) (fun _ _ _ _ _ => pts_nil) (fun _ _ _ _ _ => (pe_call GBh (hr.mono (by decide)) (by rfl) g_behindL k_behindL b_behindL .nil pass0 (pa_cons (pv 5) (pa_cons pe_int (pa_cons (pe_prop (pv 13) SF.TS.cl p_pa G_pa (hr.mono (by decide)) b_pa .nil pass0 (by rfl)) pa_nil))))))
    (pss_cons (ps_asg (pe_lc (own := [("_law_spot", 21)]) (g := gName 21) (tt := tYes) rfl sc_law.nd (pi_list (pv 18)) (blkOk_by (own := [("_law_spot", 21)]) (N := NSL) (sc := defScope s_law) (by decide +kernel)) (fun _ _ _ _ _ => pg_name (i := 21) sc_law.nd rfl (Or.inl rfl)) (fun _ _ _ _ _ => pts_nil) (fun _ _ _ _ _ => (pe_body MB GB (hr.mono (by decide)) (by rfl) g_Body kB (pa_cons (pv 3) (pa_cons (pv 5) pa_nil)) (pk_cons (pv 21) pk_nil)))) (pg_unl rfl (pgs_cons (pg_name (i := 19) sc_law.nd rfl (Or.inl rfl)) (pgs_cons (pg_name (i := 20) sc_law.nd rfl (Or.inl rfl)) pgs_nil))))
    (pss_one (ps_if (pt_cmpR op_ne (pe_call GAf (hr.mono (by decide)) (by rfl) g_alike k_alike b_alike .nil pass0 (pa_cons (pv 16) (pa_cons (pv 17) pa_nil))) (pe_cmpR op_isN (pe_call GPa (hr.mono (by decide)) (by rfl) g_parted k_parted b_parted .nil pass0 (pa_cons (pv 19) (pa_cons (pv 20) pa_nil))) pe_non (nomark _)) (nomark _)) (pss_one (ps_ret pe_bl)) pss_nil)))))) fun D σ H q => ?_
  obtain ⟨Hb, pw, pn, rr, bd, pd, sa, xs, o, rs, ds, ss, v0, v1, v4, v8, v9, v10, v11, v13, v14, v15, v16, v17, v18, v19, v20, v21, rfl, B0, k⟩ := q
  have fit := B0.wd.tab.ok.fit
  have j0 := B0.wd.j0
  have hi8 := B0.wd.tab.hi
  have spos : 0 < ss.length := by
    have h1 := B0.sperm.length_eq
    rw [List.length_map] at h1
    rw [h1]
    have : ([], stp rs 0) ∈ levs rs (stp rs 0) 5 := List.mem_flatMap.mpr ⟨0, List.mem_range.mpr (by decide), List.mem_singleton.mpr rfl⟩
    exact List.length_pos_iff.mpr (List.ne_nil_of_mem this)
  have cnt := B0.few
  have rest : ∀ {p : V × HJ}, p ∈ ss → ∃ g : GoodI rs (stp rs 0) p.2.1.length p.2, stp rs p.2.2 = p.2.2 := fun m => by
    obtain ⟨kk, _, g⟩ := B0.goodS m
    exact ⟨⟨g.go, g.lt, rfl⟩, goTo_rest fit (stp_stp fit.go B0.wd.lt0) g.go⟩
  refine ⟨4, rfl, by decide, by decide, for_range (n := 4) (fun t σ H' => ∃ (w15 w16 w17 w18 w19 w20 w21 : Option V), σ = [v0, v1, some (.ref pw), some (.ref pn), v4, some (.ref rr), some (.ref bd), some (.ref pd), v8, v9, v10, v11, some (.ref sa), v13, v14, w15, w16, w17, w18, w19, w20, w21] ∧ But H H' pw ∧ Both CB CM CS Hb H' pw pn rr bd pd sa xs o rs ds ss) ⟨_, _, _, _, _, _, _, rfl, fun b u _ e => e, B0⟩ (fun t σ H' ht z => ?_) (fun σ H' z => ?_)⟩
  · obtain ⟨u15, u16, u17, u18, u19, u20, u21, rfl, bH, B⟩ := z
    obtain ⟨x1, y1, z1, src1⟩ := B.src
    refine ⟨_, rfl, _, rfl, pw, sa, _, x1, y1, z1, rfl, src1, B.sts, by rw [List.length_map]; exact spos, by rw [List.length_map]; omega, Ne.symm B.nsa, fun va x2 y2 z2 H1 ma b1 e1 => ?_⟩
    have B1 := B.draw b1 ⟨x2, y2, z2, e1⟩
    refine ⟨_, rfl, _, rfl, pw, sa, _, x2, y2, z2, rfl, e1, B1.sts, by rw [List.length_map]; exact spos, by rw [List.length_map]; omega, Ne.symm B.nsa, fun vb x3 y3 z3 H2 mb b2 e2 => ⟨_, _, rfl, ?_⟩⟩
    have B2 := B1.draw b2 ⟨x3, y3, z3, e2⟩
    obtain ⟨p1, m1, rfl⟩ := List.mem_map.mp ma
    obtain ⟨p2, m2, rfl⟩ := List.mem_map.mp mb
    obtain ⟨s1, ev1, st1⟩ := B2.sall p1 m1
    obtain ⟨s2, ev2, st2⟩ := B2.sall p2 m2
    obtain ⟨g1, r1⟩ := rest m1
    obtain ⟨g2, r2⟩ := rest m2
    rw [ev1, ev2]
    have bt2 : But H H2 pw := bH.trans (b1.trans b2)
    have all2 : ∀ p ∈ ([p1, p2] : List (V × HJ)), p ∈ ss := fun p m => by
      rcases List.mem_cons.mp m with rfl | m
      · exact m1
      · rw [List.mem_singleton.mp m]
        exact m2
    -- where they stand
    refine ⟨_, rfl, _, rfl, two_ok _ _, fun tt H3 n3 s3 e3 => ⟨tt, rfl, ⟨_, .inl (.inl e3)⟩, fun D1 nD => ?_⟩⟩
    have B3 := B2.same s3
    refine lc_it (walk_tup (xs := [V.ref s1, V.ref s2])) (fun i Hx => Same H3 Hx ∧ Hx D1 = some (.lst (([p1, p2].map fun p : V × HJ => V.int (p.2.2 : Int)).take i))) ⟨sameNew nD _, upd_same⟩ (fun i Hx _ z => .inl (.inl (z.1 _ _ e3))) (fun i x Ha Hc hi z1 z2 => ?_) (fun Hx z => ?_)
    · obtain ⟨rfl, hx⟩ := z2
      obtain ⟨sx, eD⟩ := z1
      obtain ⟨pp, epp, mpp, sd, ev⟩ : ∃ pp, ([p1, p2] : List (V × HJ))[i]? = some pp ∧ pp ∈ ss ∧ ∃ sd, x = .ref sd ∧ StandAt CS H2 sd bd pp.2.2 pp.2.1 := by
        have hi : i < 2 := hi
        match i, hi with
        | 0, _ => exact ⟨p1, rfl, m1, s1, (Option.some.inj hx).symm, st1⟩
        | 1, _ => exact ⟨p2, rfl, m2, s2, (Option.some.inj hx).symm, st2⟩
      obtain ⟨rfl, st⟩ := ev
      obtain ⟨g, r⟩ := rest mpp
      have sta := (st.same s3).same sx
      obtain ⟨dx, fs, hta, hs, _, _⟩ := id sta
      have bx := but_same B3.but sx
      refine ⟨rfl, _, rfl, _, rfl, sd, dx, fs, rfl, hs, sd, bd, pp.2.2, pp.2.1, rfl, sta, fun ht hh => ?_⟩
      refine ⟨rr, ht, xs, rs, 0, pp.2.2, pp.2.1, rfl, B3.wd.rrAt bx, B3.wd.rowsAt bx, fit, B3.wd.lt0, by omega, hh, g.go, fun H4 s4 => ?_⟩
      refine ⟨_, s4 _ _ eD, ?_, same_updN (sx.trans s4) nD, ?_⟩
      · rw [List.length_take, sizeLine_eq]
        have : ([p1, p2].map fun p : V × HJ => V.int (p.2.2 : Int)).length = 2 := rfl
        omega
      · rw [upd_same, List.take_add_one, List.getElem?_map, epp]
        rfl
    · obtain ⟨sx, eD⟩ := z
      have B4 := B3.same sx
      have eD : Hx D1 = some (.lst [.int (p1.2.2 : Int), .int (p2.2.2 : Int)]) := eD
      -- their bodies
      refine ⟨_, rfl, D1, rfl, ⟨_, SqL.of eD⟩, fun D2 nD2 => ?_⟩
      obtain ⟨HD, hHDe⟩ : ∃ HD : Hp, HD = upd Hx D2 (.lst []) := ⟨_, rfl⟩
      have hHD : HD D2 = some (.lst []) := by rw [hHDe]; exact upd_same
      refine lc_it (walk_list (xs := [V.int (p1.2.2 : Int), V.int (p2.2.2 : Int)])) (fun i Hy => Same Hx Hy ∧ ∃ bs : List Addr, Hy D2 = some (.lst (bs.map V.ref)) ∧ bs.length = i ∧ ∀ (n : Nat) (b : Addr) (p : V × HJ), bs[n]? = some b → ([p1, p2] : List (V × HJ))[n]? = some p → HD b = none ∧ BodyN CB CM HD Hy b o rs p.2.2) ⟨sameNew nD2 _, [], upd_same, rfl, fun n b p e => by simp at e⟩ (fun i Hy _ z => SqL.of (z.1 _ _ eD)) (fun i x Ha Hc hi z1 z2 => ?_) (fun Hy z => ?_)
      · obtain ⟨rfl, hx⟩ := z2
        obtain ⟨sy, bs, f1, f2, f3⟩ := z1
        obtain ⟨pp, epp, mpp, rfl⟩ : ∃ pp, ([p1, p2] : List (V × HJ))[i]? = some pp ∧ pp ∈ ss ∧ x = .int (pp.2.2 : Int) := by
          have hi : i < 2 := hi
          match i, hi with
          | 0, _ => exact ⟨p1, rfl, m1, (Option.some.inj hx).symm⟩
          | 1, _ => exact ⟨p2, rfl, m2, (Option.some.inj hx).symm⟩
        have hi2 : i < 2 := hi
        obtain ⟨g, r⟩ := rest mpp
        have by_ := but_same B4.but sy
        refine ⟨rfl, _, rfl, _, rfl, _, rfl, pn, rr, xs, rs, o, pp.2.2, rfl, rfl, B4.wd.pnAt by_, .inl (B4.wd.rrAt by_), rows_in (B4.wd.rowsAt by_), B4.wd.tab.okB g.lt, fun nb H5 nnb s5 BN => ?_⟩
        have eD5 := s5 _ _ f1
        have down : ∀ a, Hc a = none → HD a = none := fun a n => by
          have na : a ≠ D2 := fun z => by rw [z, f1] at n; cases n
          rw [hHDe, upd_ne na]
          exact none_of sy n
        have BN' := BN.base down
        refine ⟨_, eD5, by rw [List.length_map, f2, sizeLine_eq]; omega, same_updN (sy.trans s5) nD2, bs ++ [nb], by rw [upd_same, List.map_append]; rfl, by rw [List.length_append, f2]; rfl, fun n b p eb ep => ?_⟩
        by_cases hn : n < bs.length
        · rw [List.getElem?_append_left hn] at eb
          obtain ⟨c1, c2⟩ := f3 n b p eb ep
          exact ⟨c1, (c2.same s5).upd c1 hHD eD5 _⟩
        · have hn2 : n = bs.length := by
            have := (List.getElem?_eq_some_iff.mp eb).1
            rw [List.length_append] at this
            simp at this
            omega
          rw [hn2, List.getElem?_append_right (Nat.le_refl _), Nat.sub_self] at eb
          obtain rfl : nb = b := Option.some.inj eb
          rw [hn2, f2, epp] at ep
          obtain rfl := Option.some.inj ep
          exact ⟨down _ nnb, BN'.upd (down _ nnb) hHD eD5 _⟩
      · obtain ⟨sy, bs, f1, f2, f3⟩ := z
        obtain ⟨c1, c2, rfl⟩ : ∃ c1 c2, bs = [c1, c2] := by
          match bs, f2 with
          | [c1, c2], _ => exact ⟨c1, c2, rfl⟩
        have BA1 : BodyAt CB CM Hy c1 o rs p1.2.2 := (f3 0 c1 p1 rfl rfl).2.at
        have BA2 : BodyAt CB CM Hy c2 o rs p2.2.2 := (f3 1 c2 p2 rfl rfl).2.at
        have B5 := B4.same sy
        have f1 : Hy D2 = some (.lst [.ref c1, .ref c2]) := f1
        refine ⟨D2, [.ref c1, .ref c2], rfl, SqL.of f1, rfl, _, _, rfl, _, _, rfl, rfl, ?_⟩
        have s2y := s3.trans (sx.trans sy)
        have tab := B5.wd.tab
        have o8 : o.length ≤ 8 := by rw [tab.og.len]; decide
        have next : ∀ (Hz : Hp), Same Hy Hz → ∃ (w15 w16 w17 w18 w19 w20 w21 : Option V), [v0, v1, some (.ref pw), some (.ref pn), v4, some (.ref rr), some (.ref bd), some (.ref pd), v8, v9, v10, v11, some (.ref sa), v13, v14, some (.int (0 + (t : Int))), some (.ref s1), some (.ref s2), some (.ref D1), some (.ref c1), some (.ref c2), u21] = [v0, v1, some (.ref pw), some (.ref pn), v4, some (.ref rr), some (.ref bd), some (.ref pd), v8, v9, v10, v11, some (.ref sa), v13, v14, w15, w16, w17, w18, w19, w20, w21] ∧ But H Hz pw ∧ Both CB CM CS Hb Hz pw pn rr bd pd sa xs o rs ds ss := fun Hz sz =>
          ⟨_, _, _, _, _, _, _, rfl, but_same bt2 (s2y.trans sz), B5.same sz⟩
        refine ⟨_, rfl, _, rfl, s1, s2, bd, o, rs, 0, p1.2.2, p2.2.2, p1.2.1, p2.2.1, rfl, st1.same s2y, st2.same s2y, B5.wd.bodyAt B5.but, o8, tab.og.nd, fit, by omega, tab.tx, few_of tab.ok, even_of tab.ok tab.ok, g1.lt, g2.lt, fun va H6 s6 iff => ?_⟩
        have two : TwoB CB CM H6 c1 c2 o o rs rs p1.2.2 p2.2.2 := ⟨BA1.same s6, BA2.same s6, o8, o8, go_ops tab.og.nd⟩
        have sP : startP rs rs p1.2.2 p2.2.2 = (p1.2.2, p2.2.2) := by
          show (stp rs p1.2.2, stp rs p2.2.2) = _
          rw [r1, r2]
        refine ⟨_, rfl, _, rfl, c1, c2, o, o, rs, rs, p1.2.2, p2.2.2, rfl, two, two_of tab.ok tab.ok tab.tx tab.tx (by omega) (by omega) g1.lt g2.lt, fun H7 s7 no => ?_, fun t v q H7 s7 lp tt => ?_⟩
        · rw [sP] at no
          have : va = true := iff.mpr no
          subst this
          refine ⟨rfl, rfl, _, rfl, ?_⟩
          exact iteF (next H7 (s6.trans s7))
        · have : va = false := by
            cases va with
            | false => rfl
            | true => exact absurd lp.diff (by rw [sP]; exact iff.mp rfl v)
          subst this
          refine ⟨rfl, rfl, _, rfl, ?_⟩
          rw [ne_nonD]
          exact iteF (next H7 (s6.trans s7))
  · obtain ⟨u15, u16, u17, u18, u19, u20, u21, rfl, bH, B⟩ := z
    exact k _ _ _ _ _ _ _ H' bH
end
end Mine

set_option maxRecDepth 100000
set_option maxHeartbeats 4000000
namespace Mine
open PySem L2
theorem body_endN {CB CM : Addr} {H2 : Hp} {R : Hp → Prop} {E : XK} {d r : Addr} {xs : List V} {rs : List RowD} {o : Ops} {b : Nat} (hd : H2 d = some (.dK (opsK o))) (hx : SqA H2 r xs) (rows : RowsIn H2 xs rs) (ok : OkB o rs b)
    (bd dx : Addr) (nb : H2 bd = none) (nd : H2 dx = none) (ne : dx ≠ bd) (k : ∀ H3, Same H2 H3 → BodyN CB CM H2 H3 bd o rs b → R H3) : spBody CB CM [.ref bd, .ref d, .ref r, .int b] (upd (upd H2 dx (.own bd)) bd (.ins CB dx [])) (fun v H3 => v = .non ∧ R H3) E :=
  by
  have sm : Same H2 (upd (upd H2 dx (.own bd)) bd (.ins CB dx [])) := same_updN (same_updN (Same.refl _) nd) nb
  exact ⟨bd, d, r, dx, xs, rs, o, b, rfl, upd_same, sm _ _ hd, ok.ops, sm.sqa hx, rows.same sm, ok.lo, by have := ok.hi; omega, ok.rows, ok.lt, ok.few "ask", ok.few "end", fun H' s' B => ⟨rfl, k H' (fun b2 u e => s' b2 u (ne_of_none e nb) (sm _ _ e)) (B.base fun a n => none_of sm n)⟩⟩
def spLaw (K : PySem.W.Frag) : Sp := fun vs H Q _ => ∃ (a : Addr) (ns : List Int), vs = [.ref a] ∧ SqL K H a (ns.map V.int) ∧ ns.length ≤ 63 ∧ ∀ H', Q (.bl true) H'
section
variable {P : Program} {w : World} {K : PySem.W.Frag} {mg : Str → Option Value} {base : Heap}
variable {fII fIW CB CM CS CW a_allL a_showL a_draw a_pick a_behindL a_shown a_parted a_alike a_src a_numbers a_rows fB f_stand : Addr}
set_option maxHeartbeats 8000000 in
theorem ok_law {f : Addr} {fd : FuncData} {ds0 : List Value} (F : Fun K "law" "law" s_law f fd) (T : TxtF K mg fII fIW) (h_range : mg "range" = none) (h_sorted : mg "sorted" = none) (SF : StandFac P w K mg base CB CM CS)
    {fd_src : FuncData} (GSr : FnOk P w K mg base CX0 1 a_src fd_src ["_law_cell"] spSrc) (b_src : Binds K fd_src ["_law_cell"] []) (g_src : mg "_law_source" = some (.ref a_src)) (k_src : PySem.W.keepIn K (.ref a_src) = true)
    {fd_numbers : FuncData} (GNu : FnOk P w K mg base CX0 2 a_numbers fd_numbers ["_law_well"] spNumbers) (b_numbers : Binds K fd_numbers ["_law_well"] []) (g_numbers : mg "_law_numbers" = some (.ref a_numbers)) (k_numbers : PySem.W.keepIn K (.ref a_numbers) = true)
    {fd_rows : FuncData} (GRo : FnOk P w K mg base CX0 3 a_rows fd_rows ["_law_well", "_law_numbers_here", "_law_words", "_law_size"] spDrawRows) (b_rows : Binds K fd_rows ["_law_well", "_law_numbers_here", "_law_words", "_law_size"] []) (g_rows : mg "_law_rows" = some (.ref a_rows)) (k_rows : PySem.W.keepIn K (.ref a_rows) = true)
    {fd_draw : FuncData} (GN : FnOk P w K mg base CX0 1 a_draw fd_draw ["_law_well", "_law_many"] spNext) (b_draw : Binds K fd_draw ["_law_well", "_law_many"] []) (g_draw : mg "_law_draw" = some (.ref a_draw)) (k_draw : PySem.W.keepIn K (.ref a_draw) = true)
    {fd_pick : FuncData} (GO : FnOk P w K mg base CX0 2 a_pick fd_pick ["_law_well", "_law_some"] spOne) (b_pick : Binds K fd_pick ["_law_well", "_law_some"] []) (g_pick : mg "_law_pick" = some (.ref a_pick)) (k_pick : PySem.W.keepIn K (.ref a_pick) = true)
    {fd_allL : FuncData} (GAl : FnOk P w K mg base CX0 2 a_allL fd_allL ["_law_rows_here", "_law_begun", "_law_many"] spAllL) (b_allL : Binds K fd_allL ["_law_rows_here", "_law_begun", "_law_many"] []) (g_allL : mg "_law_all" = some (.ref a_allL)) (k_allL : PySem.W.keepIn K (.ref a_allL) = true)
    {fd_showL : FuncData} (GSh : FnOk P w K mg base CX0 1 a_showL fd_showL ["_law_rows_here", "_law_at"] spShowL) (b_showL : Binds K fd_showL ["_law_rows_here", "_law_at"] []) (g_showL : mg "_law_show" = some (.ref a_showL)) (k_showL : PySem.W.keepIn K (.ref a_showL) = true)
    {fd_behindL : FuncData} (GBh : FnOk P w K mg base CX0 2 a_behindL fd_behindL ["_law_rows_here", "_law_begun", "_law_history"] spBehindL) (b_behindL : Binds K fd_behindL ["_law_rows_here", "_law_begun", "_law_history"] []) (g_behindL : mg "_law_behind" = some (.ref a_behindL)) (k_behindL : PySem.W.keepIn K (.ref a_behindL) = true)
    {fd_shown : FuncData} (GSn : FnOk P w K mg base CX0 5 a_shown fd_shown ["body", "history"] (spShown CB CM)) (b_shown : Binds K fd_shown ["body", "history"] []) (g_shown : mg "shown" = some (.ref a_shown)) (k_shown : PySem.W.keepIn K (.ref a_shown) = true)
    {fd_alike : FuncData} (GAf : FnOk P w K mg base CX0 4 a_alike fd_alike ["one", "other"] (spAlikeFrom CB CM CS)) (b_alike : Binds K fd_alike ["one", "other"] []) (g_alike : mg "alike_from" = some (.ref a_alike)) (k_alike : PySem.W.keepIn K (.ref a_alike) = true)
    {fd_parted : FuncData} (GPa : FnOk P w K mg base CX0 4 a_parted fd_parted ["one", "other"] (spPartedF CB CM)) (b_parted : Binds K fd_parted ["one", "other"] []) (g_parted : mg "parted" = some (.ref a_parted)) (k_parted : PySem.W.keepIn K (.ref a_parted) = true)
    {fdB : FuncData} (MB : Mk K CB fB) (GB : FnOk P w K mg base CX0 7 fB fdB PB (spBody CB CM)) (kB : KBn K fdB PB (2 + 1) KS (fun us ws => us ++ ws) (fun vs zs => vs ++ zs)) (g_Body : mg "Body" = some (.ref CB)) (hds : Vals [V.int 0] ds0) (bB : Binds K fdB PB ds0)
    {fd_stand : FuncData} (MS : Mk K CS f_stand) (GSI : FnOk P w K mg base CX0 1 f_stand fd_stand ["self", "body"] (spSInit CB CM CS)) (b_Stand : Binds K fd_stand ["self", "body"] []) (g_Stand : mg "Stand" = some (.ref CS)) : FnOk P w K mg base CX0 9 f fd ["_law_script"] (spLaw K) := by
  refine F.ok sc_law (fun vs H Q E h => ?_) (fun cdv A outer s H vs Q E hr h => ?_)
  · obtain ⟨a, ns, rfl, _⟩ := h
    rfl
  · obtain ⟨a, ns, rfl, hS, hlen, k⟩ := h
    refine ⟨_, (pss_cons (ps_for PassesOwn.never rfl (pi_list (pe_op op_catG (pe_slice sl_listG (pv 0) po_none (po_some pe_int)) (pe_lstG (pa_cons pe_int pa_nil)))) (pg_name (i := 1) sc_law.nd rfl (Or.inl rfl)) (pss_cons (ps_set (i := 2) sc_law.nd rfl (Or.inl rfl) (pe_call GSr (hr.mono (by decide)) (by rfl) g_src k_src b_src .nil pass0 (pa_cons (pv 1) pa_nil)))
      (pss_cons (ps_asg (pe_tupG (pa_cons (pe_call GNu (hr.mono (by decide)) (by rfl) g_numbers k_numbers b_numbers .nil pass0 (pa_cons (pv 2) pa_nil)) (pa_cons (pe_lstG (pa_cons pe_str (pa_cons pe_str pa_nil))) pa_nil))) (pg_tup rfl (pgs_cons (pg_name (i := 3) sc_law.nd rfl (Or.inr rfl)) (pgs_cons (pg_name (i := 4) sc_law.nd rfl (Or.inl rfl)) pgs_nil))))
      (pss_cons (ps_set (i := 5) sc_law.nd rfl (Or.inr rfl) (pe_call GRo (hr.mono (by decide)) (by rfl) g_rows k_rows b_rows .nil pass0 (pa_cons (pv 2) (pa_cons (pv 3) (pa_cons (pv 4) (pa_cons (pe_op op_add pe_int (pe_call GN (hr.mono (by decide)) (by rfl) g_draw k_draw b_draw .nil pass0 (pa_cons (pv 2) (pa_cons pe_int pa_nil)))) pa_nil))))))
      (pss_cons (ps_asg (pe_tupG (pa_cons (pe_make (dvs := [V.int 0]) MB GB (hr.mono (by decide)) (by rfl) g_Body bB hds pass0 (pa_cons (pv 3) (pa_cons (pv 5) pa_nil))) (pa_cons (pe_lstG pa_nil) pa_nil))) (pg_tup rfl (pgs_cons (pg_name (i := 6) sc_law.nd rfl (Or.inr rfl)) (pgs_cons (pg_name (i := 7) sc_law.nd rfl (Or.inl rfl)) pgs_nil))))
      (pss_cons (chk_due (CB := CB) (CM := CM) hr h_range GAl b_allL g_allL k_allL GSh b_showL g_showL k_showL)
      (pss_cons (ps_par (i := 11) (j := 12) rfl sc_law.nd rfl rfl (by decide) rfl rfl (pa_cons (pe_lstG (pa_cons (pe_make MS GSI (hr.mono (by decide)) (by rfl) g_Stand b_Stand .nil pass0 (pa_cons (pv 6) pa_nil)) pa_nil)) (pa_cons (pe_lstG pa_nil) pa_nil)) rfl)
      (pss_cons (chk_wh hr T h_range SF GN b_draw g_draw k_draw)
      (pss_cons (chk_cmp hr h_sorted SF)
      (pss_cons (chk_shw hr SF GSn b_shown g_shown k_shown)
      (pss_one (chk_turns hr h_range SF GO b_pick g_pick k_pick GBh b_behindL g_behindL k_behindL GAf b_alike g_alike k_alike GPa b_parted g_parted k_parted MB GB kB g_Body))))))))))))
      (pss_one (ps_ret pe_bl))), ?_⟩
    refine ⟨_, rfl, 4, rfl, a, _, rfl, hS, fun p1 H1 n1 s1 e1 => ?_⟩
    refine ⟨one_ok _, fun p2 H2 n2 s2 e2 => ?_⟩
    refine ⟨p1, p2, _, _, rfl, rfl, s2 _ _ e1, e2, ?_, fun p3 H3 n3 s3 e3 => ?_⟩
    · have := ints_cut_len (lo := none) (hi := some 4) hlen
      show _ + 1 ≤ sizeLine
      rw [sizeLine_eq]
      omega
    refine ⟨p3, rfl, ⟨_, SqL.of e3⟩, for_list (K := K) (a := p3) (xs := cutV (ns.map V.int) none (some 4) ++ [.int 0]) (fun i σ H' => ∃ (v1 v2 v3 v4 v5 v6 v7 v8 v9 v10 v11 v12 v13 v14 v15 v16 v17 v18 v19 v20 v21 : Option V), σ = [some (.ref a), v1, v2, v3, v4, v5, v6, v7, v8, v9, v10, v11, v12, v13, v14, v15, v16, v17, v18, v19, v20, v21] ∧ Same H3 H') ⟨_, _, _, _, _, _, _, _, _, _, _, _, _, _, _, _, _, _, _, _, _, rfl, Same.refl _⟩ (fun i σ H' _ z => by obtain ⟨v1, v2, v3, v4, v5, v6, v7, v8, v9, v10, v11, v12, v13, v14, v15, v16, v17, v18, v19, v20, v21, _, s⟩ := z; exact s.seq (SqL.of e3)) ?_ ?_⟩
    · rintro i y σ Hc hi ⟨v1, v2, v3, v4, v5, v6, v7, v8, v9, v10, v11, v12, v13, v14, v15, v16, v17, v18, v19, v20, v21, rfl, sc⟩
      obtain ⟨c, rfl⟩ := ints_cut hi
      refine ⟨_, rfl, c, rfl, fun x0 y0 z0 pw H4 n4 s4 e4 => ?_⟩
      -- operations, words
      refine ⟨_, rfl, pw, x0, y0, z0, rfl, e4, fun pn t x1 y1 z1 H5 n5 t6 b5 e5 f5 => ?_⟩
      refine ⟨two_ok _ _, fun wd H6 n6 s6 e6 => ⟨two_ok _ _, fun T7 H7 n7 s7 e7 => ⟨T7, _, rfl, .inl (.inl e7), rfl, _, _, rfl, _, _, rfl, rfl, ?_⟩⟩⟩
      have npn : pn ≠ pw := fun z => by rw [z, e4] at n5; cases n5
      have nwd : pw ≠ wd := fun z => by rw [← z, e5] at n6; cases n6
      -- rows
      refine ⟨_, rfl, _, rfl, _, rfl, ⟨_, rfl, pw, 7, x1, y1, z1, rfl, by decide, by decide, s7 _ _ (s6 _ _ e5), fun n x2 y2 z2 H8 n0 n1' b8 e8 => ?_⟩⟩
      obtain ⟨n, rfl⟩ : ∃ m : Nat, n = (m : Int) := ⟨n.toNat, by omega⟩
      refine ⟨_, _, rfl, rfl, ?_⟩
      have og := opsT_ok t6
      have f8 := b8 _ _ npn (s7 _ _ (s6 _ _ f5))
      have w8 := b8 _ _ (Ne.symm nwd) (s7 _ _ e6)
      refine ⟨pw, pn, wd, opsT t, 1 + n, x2, y2, z2, (show [V.ref pw, V.ref pn, V.ref wd, V.int ((1 : Int) + (n : Int))] = [V.ref pw, V.ref pn, V.ref wd, V.int ((1 + n : Nat) : Int)] by rw [show ((1 + n : Nat) : Int) = 1 + (n : Int) by omega]), e8, f8, w8, nwd, og.nd, by rw [og.len]; decide, by rw [og.len]; decide, fun q hq => ?_, by omega, by omega, fun rr xs rs x3 y3 z3 H9 nrr rl okr fine b9 e9 err rows => ?_⟩
      · obtain ⟨q1, _, q2, q3, _⟩ := og.each q hq
        exact ⟨q1, q2, q3⟩
      have nrw : rr ≠ pw := fun z => by rw [z, e8] at nrr; cases nrr
      have tab : TabOk (opsT t) rs := ⟨og, okr, fine, by omega, by omega⟩
      have f9 := b9 _ _ npn f8
      -- the body
      refine ⟨_, rfl, _, rfl, fun bd dx nb nd ne => ?_⟩
      refine body_endN (CB := CB) (CM := CM) (b := 0) f9 (.inl err) (rows_in rows) (tab.okB tab.lo) bd dx nb nd ne (fun H10 s10 BN => ?_)
      refine ⟨Nat.zero_le _, fun pd H11 n11 s11 e11 => ⟨two_ok _ _, fun T12 H12 n12 s12 e12 => ⟨T12, _, rfl, .inl (.inl e12), rfl, _, _, rfl, _, _, rfl, rfl, ?_⟩⟩⟩
      have W12 : Wd CB CM H12 pw pn rr bd xs (opsT t) rs := Wd.same (Hb := H10) ⟨tab, ⟨x3, y3, z3, s10 _ _ e9⟩, s10 _ _ f9, s10 _ _ err, rows.same s10, ⟨H9, BN, nb, ⟨x3, y3, z3, e9⟩⟩, nrw⟩ (s11.trans s12)
      refine ⟨H12, pw, pn, rr, bd, pd, xs, opsT t, rs, _, _, _, _, _, _, _, _, _, _, _, _, _, _, _, _, _, rfl, W12, Same.refl _, s12 _ _ e11, fun pd' dl w13 H13 s13 e13 npd all pm => ?_⟩
      have W13 := W12.same s13
      -- the first stand
      refine ⟨_, rfl, fun s0 dx0 ns0 ndx0 nex0 => ?_⟩
      have sm : Same H13 (upd (upd H13 dx0 (.own s0)) s0 (.ins CS dx0 [])) := same_updN (same_updN (Same.refl _) ndx0) ns0
      have es : upd (upd H13 dx0 (.own s0)) s0 (.ins CS dx0 []) s0 = some (.ins CS dx0 []) := upd_same
      generalize upd (upd H13 dx0 (.own s0)) s0 (.ins CS dx0 []) = H14 at sm es ⊢
      have nsb : s0 ≠ bd := fun z => by
        obtain ⟨m, t, l, sa, aa, ea, o', xs, as, es, ⟨⟨dxb, fb, hb, lb⟩, _⟩⟩ := W13.bodyAt (fun b u _ e => e)
        rw [z, hb] at ns0
        cases ns0
      refine ⟨s0, bd, dx0, opsT t, rs, 0, rfl, es, nsb, (W13.same sm).bodyAt (fun b u _ e => e), tab.ok.fit, fun fs0 ht0 H15 nht nhs x15 e15 sf0 fl0 eht => ⟨rfl, one_ok _, fun la H16 n16 s16 e16 => ⟨Nat.zero_le _, fun sa H17 n17 s17 e17 => ⟨_, _, rfl, ?_⟩⟩⟩⟩
      have s15 : Same H13 H15 := fun b u e => x15 b u (fun z => by rw [z, ns0] at e; cases e) (sm b u e)
      have s17' : Same H13 H17 := s15.trans (s16.trans s17)
      have nls : la ≠ sa := fun z => by rw [← z, e16] at n17; cases n17
      have nla : H13 la = none := none_of s15 n16
      have nsa : H13 sa = none := none_of (s15.trans s16) n17
      have st0 : StandAt CS H17 s0 bd (stp rs 0) [] := ⟨dx0, fs0, ht0, s17 _ _ (s16 _ _ e15), sf0, [], s17 _ _ (s16 _ _ eht), HPs.nil _⟩
      refine ⟨H13, pw, pn, rr, bd, pd', la, sa, s0, xs, opsT t, rs, _, _, _, _, _, _, _, _, _, _, _, _, _, _, _, rfl, W13, s17', nla, nsa, nls, s17 _ _ e16, e17, st0, fun ss w13' H18 b18 src18 esa sall sp => ?_⟩
      have nsw : sa ≠ pw := fun z => by
        obtain ⟨_, _, _, e⟩ := W13.src
        rw [z, e] at nsa
        cases nsa
      have B18 : Both CB CM CS H13 H18 pw pn rr bd pd' sa xs (opsT t) rs dl ss := ⟨W13, b18, src18, b18 _ _ npd e13, all.tupS (W13.tupS b18), pm, esa, sall, sp, npd, nsw⟩
      refine ⟨H13, pw, pn, rr, bd, pd', sa, xs, opsT t, rs, dl, ss, _, _, _, _, _, _, _, _, _, _, _, _, _, _, _, _, rfl, B18, fun H19 s19 => ?_⟩
      have B19 := B18.same s19
      refine ⟨H13, pw, pn, rr, bd, pd', sa, xs, opsT t, rs, dl, ss, _, _, _, _, _, _, _, _, _, _, _, _, _, _, _, _, rfl, B19, fun H20 s20 => ?_⟩
      have B20 := B19.same s20
      refine ⟨H13, pw, pn, rr, bd, pd', sa, xs, opsT t, rs, dl, ss, _, _, _, _, _, _, _, _, _, _, _, _, _, _, _, _, rfl, B20, fun w15 w16 w17 w18 w19 w20 w21 H21 b21 => ?_⟩
      have c1 : But H4 H9 pw := (((but_same b5 (s6.trans s7)).trans b8)).trans b9
      have c2 : But H4 H13 pw := but_same c1 (s10.trans (s11.trans (s12.trans s13)))
      have c3 : But H4 H20 pw := but_same (c2.trans b18) (s19.trans s20)
      have c4 : But H4 H21 pw := c3.trans b21
      exact ⟨_, _, _, _, _, _, _, _, _, _, _, _, _, _, _, _, _, _, _, _, _, rfl, sc.trans (But.same s4 c4 n4)⟩
    · rintro σ Hc ⟨v1, v2, v3, v4, v5, v6, v7, v8, v9, v10, v11, v12, v13, v14, v15, v16, v17, v18, v19, v20, v21, rfl, sc⟩
      exact k _
end
end Mine

set_option maxRecDepth 100000
set_option maxHeartbeats 4000000
namespace Mine
open PySem L2
theorem all_mk {l : PySem.W.OpenLaw} {w : World} {K : PySem.W.Frag} {h : Heap} {mg : Str → Option Value} {fa a_is_integer a_is_within a_is_index a_is_row a_is_name a_is_text_in a_are_counts a_are_operations a_in_order a_word_of a_are_nexts a_joined a_stops_of a_rest_of a_rests_from a_nexts_of a_shows_of a_firsts_of a_lines_read a_is_line a_line_of a_begin_of a_both_shown a_pairs_behind a_parting_place a_are_led_together a_leader_of a_told_of a_parted a_walk_of a_can_come a_shown a_stand_at a_is_answer_to a_alike_from a_law_source a_law_draw a_law_pick a_law_numbers a_law_rows a_law_next a_law_show a_law_behind a_law_all a_law fM fB fW f_take CB CM CW DK CS fS m_shows m_past m_len m_call p_shows p_past : Addr} {fd_is_integer fd_is_within fd_is_index fd_is_row fd_is_name fd_is_text_in fd_are_counts fd_are_operations fd_in_order fd_word_of fd_are_nexts fd_joined fd_stops_of fd_rest_of fd_rests_from fd_nexts_of fd_shows_of fd_firsts_of fd_lines_read fd_is_line fd_line_of fd_begin_of fd_both_shown fd_pairs_behind fd_parting_place fd_are_led_together fd_leader_of fd_told_of fd_parted fd_walk_of fd_can_come fd_shown fd_stand_at fd_is_answer_to fd_alike_from fd_law_source fd_law_draw fd_law_pick fd_law_numbers fd_law_rows fd_law_next fd_law_show fd_law_behind fd_law_all fd_law fdM fdB fdW fd_take fdS fdm_shows fdm_past fdm_len fdm_call : FuncData} {tD tL t1 t2 t3 t4 : Tok} {rest0 rest1 : List Value} (X : K.In h) (G : h.Ns mainGlobals mg) (hfa : mg "law" = some (.ref fa))
    (g_is_integer : PySem.W.nsIn K mainGlobals "is_integer" = some (some (.ref a_is_integer)))
    (F_is_integer : Fun K "is_integer" "is_integer" s_is_integer a_is_integer fd_is_integer)
    (g_is_within : PySem.W.nsIn K mainGlobals "is_within" = some (some (.ref a_is_within)))
    (F_is_within : Fun K "is_within" "is_within" s_is_within a_is_within fd_is_within)
    (g_is_index : PySem.W.nsIn K mainGlobals "is_index" = some (some (.ref a_is_index)))
    (F_is_index : Fun K "is_index" "is_index" s_is_index a_is_index fd_is_index)
    (g_is_row : PySem.W.nsIn K mainGlobals "is_row" = some (some (.ref a_is_row)))
    (F_is_row : Fun K "is_row" "is_row" s_is_row a_is_row fd_is_row)
    (g_is_name : PySem.W.nsIn K mainGlobals "is_name" = some (some (.ref a_is_name)))
    (F_is_name : Fun K "is_name" "is_name" s_is_name a_is_name fd_is_name)
    (g_is_text_in : PySem.W.nsIn K mainGlobals "is_text_in" = some (some (.ref a_is_text_in)))
    (F_is_text_in : Fun K "is_text_in" "is_text_in" s_is_text_in a_is_text_in fd_is_text_in)
    (g_are_counts : PySem.W.nsIn K mainGlobals "are_counts" = some (some (.ref a_are_counts)))
    (F_are_counts : Fun K "are_counts" "are_counts" s_are_counts a_are_counts fd_are_counts)
    (g_are_operations : PySem.W.nsIn K mainGlobals "are_operations" = some (some (.ref a_are_operations)))
    (F_are_operations : Fun K "are_operations" "are_operations" s_are_operations a_are_operations fd_are_operations)
    (g_in_order : PySem.W.nsIn K mainGlobals "in_order" = some (some (.ref a_in_order)))
    (F_in_order : Fun K "in_order" "in_order" s_in_order a_in_order fd_in_order)
    (g_word_of : PySem.W.nsIn K mainGlobals "word_of" = some (some (.ref a_word_of)))
    (F_word_of : Fun K "word_of" "word_of" s_word_of a_word_of fd_word_of)
    (g_are_nexts : PySem.W.nsIn K mainGlobals "are_nexts" = some (some (.ref a_are_nexts)))
    (F_are_nexts : Fun K "are_nexts" "are_nexts" s_are_nexts a_are_nexts fd_are_nexts)
    (g_joined : PySem.W.nsIn K mainGlobals "joined" = some (some (.ref a_joined)))
    (F_joined : Fun K "joined" "joined" s_joined a_joined fd_joined)
    (g_stops_of : PySem.W.nsIn K mainGlobals "stops_of" = some (some (.ref a_stops_of)))
    (F_stops_of : Fun K "stops_of" "stops_of" s_stops_of a_stops_of fd_stops_of)
    (g_rest_of : PySem.W.nsIn K mainGlobals "rest_of" = some (some (.ref a_rest_of)))
    (F_rest_of : Fun K "rest_of" "rest_of" s_rest_of a_rest_of fd_rest_of)
    (g_rests_from : PySem.W.nsIn K mainGlobals "rests_from" = some (some (.ref a_rests_from)))
    (F_rests_from : Fun K "rests_from" "rests_from" s_rests_from a_rests_from fd_rests_from)
    (g_nexts_of : PySem.W.nsIn K mainGlobals "nexts_of" = some (some (.ref a_nexts_of)))
    (F_nexts_of : Fun K "nexts_of" "nexts_of" s_nexts_of a_nexts_of fd_nexts_of)
    (g_shows_of : PySem.W.nsIn K mainGlobals "shows_of" = some (some (.ref a_shows_of)))
    (F_shows_of : Fun K "shows_of" "shows_of" s_shows_of a_shows_of fd_shows_of)
    (g_firsts_of : PySem.W.nsIn K mainGlobals "firsts_of" = some (some (.ref a_firsts_of)))
    (F_firsts_of : Fun K "firsts_of" "firsts_of" s_firsts_of a_firsts_of fd_firsts_of)
    (g_lines_read : PySem.W.nsIn K mainGlobals "lines_read" = some (some (.ref a_lines_read)))
    (F_lines_read : Fun K "lines_read" "lines_read" s_lines_read a_lines_read fd_lines_read)
    (g_is_line : PySem.W.nsIn K mainGlobals "is_line" = some (some (.ref a_is_line)))
    (F_is_line : Fun K "is_line" "is_line" s_is_line a_is_line fd_is_line)
    (g_line_of : PySem.W.nsIn K mainGlobals "line_of" = some (some (.ref a_line_of)))
    (F_line_of : Fun K "line_of" "line_of" s_line_of a_line_of fd_line_of)
    (g_begin_of : PySem.W.nsIn K mainGlobals "begin_of" = some (some (.ref a_begin_of)))
    (F_begin_of : Fun K "begin_of" "begin_of" s_begin_of a_begin_of fd_begin_of)
    (g_both_shown : PySem.W.nsIn K mainGlobals "both_shown" = some (some (.ref a_both_shown)))
    (F_both_shown : Fun K "both_shown" "both_shown" s_both_shown a_both_shown fd_both_shown)
    (g_pairs_behind : PySem.W.nsIn K mainGlobals "pairs_behind" = some (some (.ref a_pairs_behind)))
    (F_pairs_behind : Fun K "pairs_behind" "pairs_behind" s_pairs_behind a_pairs_behind fd_pairs_behind)
    (g_parting_place : PySem.W.nsIn K mainGlobals "parting_place" = some (some (.ref a_parting_place)))
    (F_parting_place : Fun K "parting_place" "parting_place" s_parting_place a_parting_place fd_parting_place)
    (g_are_led_together : PySem.W.nsIn K mainGlobals "are_led_together" = some (some (.ref a_are_led_together)))
    (F_are_led_together : Fun K "are_led_together" "are_led_together" s_are_led_together a_are_led_together fd_are_led_together)
    (g_leader_of : PySem.W.nsIn K mainGlobals "leader_of" = some (some (.ref a_leader_of)))
    (F_leader_of : Fun K "leader_of" "leader_of" s_leader_of a_leader_of fd_leader_of)
    (g_told_of : PySem.W.nsIn K mainGlobals "told_of" = some (some (.ref a_told_of)))
    (F_told_of : Fun K "told_of" "told_of" s_told_of a_told_of fd_told_of)
    (g_parted : PySem.W.nsIn K mainGlobals "parted" = some (some (.ref a_parted)))
    (F_parted : Fun K "parted" "parted" s_parted a_parted fd_parted)
    (g_walk_of : PySem.W.nsIn K mainGlobals "walk_of" = some (some (.ref a_walk_of)))
    (F_walk_of : Fun K "walk_of" "walk_of" s_walk_of a_walk_of fd_walk_of)
    (g_can_come : PySem.W.nsIn K mainGlobals "can_come" = some (some (.ref a_can_come)))
    (F_can_come : Fun K "can_come" "can_come" s_can_come a_can_come fd_can_come)
    (g_shown : PySem.W.nsIn K mainGlobals "shown" = some (some (.ref a_shown)))
    (F_shown : Fun K "shown" "shown" s_shown a_shown fd_shown)
    (g_stand_at : PySem.W.nsIn K mainGlobals "stand_at" = some (some (.ref a_stand_at)))
    (F_stand_at : Fun K "stand_at" "stand_at" s_stand_at a_stand_at fd_stand_at)
    (g_is_answer_to : PySem.W.nsIn K mainGlobals "is_answer_to" = some (some (.ref a_is_answer_to)))
    (F_is_answer_to : Fun K "is_answer_to" "is_answer_to" s_is_answer_to a_is_answer_to fd_is_answer_to)
    (g_alike_from : PySem.W.nsIn K mainGlobals "alike_from" = some (some (.ref a_alike_from)))
    (F_alike_from : Fun K "alike_from" "alike_from" s_alike_from a_alike_from fd_alike_from)
    (g_law_source : PySem.W.nsIn K mainGlobals "_law_source" = some (some (.ref a_law_source)))
    (F_law_source : Fun K "_law_source" "_law_source" sSrc a_law_source fd_law_source)
    (g_law_draw : PySem.W.nsIn K mainGlobals "_law_draw" = some (some (.ref a_law_draw)))
    (F_law_draw : Fun K "_law_draw" "_law_draw" sNext a_law_draw fd_law_draw)
    (g_law_pick : PySem.W.nsIn K mainGlobals "_law_pick" = some (some (.ref a_law_pick)))
    (F_law_pick : Fun K "_law_pick" "_law_pick" sOne a_law_pick fd_law_pick)
    (g_law_numbers : PySem.W.nsIn K mainGlobals "_law_numbers" = some (some (.ref a_law_numbers)))
    (F_law_numbers : Fun K "_law_numbers" "_law_numbers" s_numbers a_law_numbers fd_law_numbers)
    (g_law_rows : PySem.W.nsIn K mainGlobals "_law_rows" = some (some (.ref a_law_rows)))
    (F_law_rows : Fun K "_law_rows" "_law_rows" s_rows a_law_rows fd_law_rows)
    (g_law_next : PySem.W.nsIn K mainGlobals "_law_next" = some (some (.ref a_law_next)))
    (F_law_next : Fun K "_law_next" "_law_next" s_nextL a_law_next fd_law_next)
    (g_law_show : PySem.W.nsIn K mainGlobals "_law_show" = some (some (.ref a_law_show)))
    (F_law_show : Fun K "_law_show" "_law_show" s_showL a_law_show fd_law_show)
    (g_law_behind : PySem.W.nsIn K mainGlobals "_law_behind" = some (some (.ref a_law_behind)))
    (F_law_behind : Fun K "_law_behind" "_law_behind" s_behindL a_law_behind fd_law_behind)
    (g_law_all : PySem.W.nsIn K mainGlobals "_law_all" = some (some (.ref a_law_all)))
    (F_law_all : Fun K "_law_all" "_law_all" s_allL a_law_all fd_law_all)
    (g_law : PySem.W.nsIn K mainGlobals "law" = some (some (.ref a_law)))
    (F_law : Fun K "law" "law" s_law a_law fd_law)
    (gc_Body : PySem.W.nsIn K mainGlobals "Body" = some (some (.ref CB)))
    (gc_Machine : PySem.W.nsIn K mainGlobals "Machine" = some (some (.ref CM)))
    (gc_Walk : PySem.W.nsIn K mainGlobals "Walk" = some (some (.ref CW)))
    (gc_Stand : PySem.W.nsIn K mainGlobals "Stand" = some (some (.ref CS)))
    (clB : Cls K CB)
    (mkB : PySem.W.makesIn K CB = true)
    (inB : PySem.W.findIn K (.ref CB) "__init__" = some (some (.ref fB)))
    (fnB : PySem.W.isFn K (.ref fB) = true)
    (kpB : PySem.W.keepIn K (.ref CB) = true)
    (clM : Cls K CM)
    (mkM : PySem.W.makesIn K CM = true)
    (inM : PySem.W.findIn K (.ref CM) "__init__" = some (some (.ref fM)))
    (fnM : PySem.W.isFn K (.ref fM) = true)
    (kpM : PySem.W.keepIn K (.ref CM) = true)
    (clW : Cls K CW)
    (mkW : PySem.W.makesIn K CW = true)
    (inW : PySem.W.findIn K (.ref CW) "__init__" = some (some (.ref fW)))
    (fnW : PySem.W.isFn K (.ref fW) = true)
    (kpW : PySem.W.keepIn K (.ref CW) = true)
    (clS : Cls K CS)
    (mkS : PySem.W.makesIn K CS = true)
    (inS : PySem.W.findIn K (.ref CS) "__init__" = some (some (.ref fS)))
    (fnS : PySem.W.isFn K (.ref fS) = true)
    (kpS : PySem.W.keepIn K (.ref CS) = true)
    (FM : Fun K "__init__" "Machine.__init__" s_mach fM fdM)
    (FW : Fun K "__init__" "Walk.__init__" s_walk_init fW fdW)
    (at_take : PySem.W.findIn K (.ref CW) "take" = some (some (.ref f_take)))
    (FT : Fun K "take" "Walk.take" s_walk_take f_take fd_take)
    (fn_take : PySem.W.isFn K (.ref f_take) = true)
    (FB : ∃ (oc : Value) (od : Option Addr) (doc pm : Value) (an : Option Addr) (cdv ct : Value) (osl : Array (Option Value)), fdB = PySem.W.fnOf "__init__" "Body.__init__" (defArgs s_body) (defBody s_body) (defScope s_body) .none (.ref DK) doc pm an cdv ct ∧ K.lookup fB = some ⟨oc, od, .func fdB, osl⟩ ∧ PySem.W.codeIn K cdv "Body.__init__" = true)
    (kfB : PySem.W.keepIn K (.ref fB) = true)
    (nsD : PySem.W.nsIn K DK "start" = some (some (.int 0 tD)))
    (nm_counts : NoAttr K CM "counts")
    (nm_lines : NoAttr K CM "lines")
    (nm_begin : NoAttr K CM "begin")
    (nm_stops : NoAttr K CM "stops")
    (nm_asks : NoAttr K CM "asks")
    (nm_endings : NoAttr K CM "endings")
    (nm_endless : NoAttr K CM "endless")
    (nb_machine : NoAttr K CB "machine")
    (nw_one : NoAttr K CW "one")
    (nw_other : NoAttr K CW "other")
    (nw_met : NoAttr K CW "met")
    (nw_origins : NoAttr K CW "origins")
    (FS : Fun K "__init__" "Stand.__init__" s_stand_init fS fdS)
    (ns_body : NoAttr K CS "body")
    (ns_at : NoAttr K CS "at")
    (ns_history : NoAttr K CS "history")
    (at_len : PySem.W.findIn K (.ref CS) "__len__" = some (some (.ref m_len)))
    (fn_len : PySem.W.isFn K (.ref m_len) = true)
    (FM_len : Fun K "__len__" "Stand.__len__" s_stand_len m_len fdm_len)
    (at_call : PySem.W.findIn K (.ref CS) "__call__" = some (some (.ref m_call)))
    (fn_call : PySem.W.isFn K (.ref m_call) = true)
    (FM_call : Fun K "__call__" "Stand.__call__" s_stand_call m_call fdm_call)
    (fi_call : PySem.W.fnIn K m_call = true)
    (at_shows : PySem.W.findIn K (.ref CS) "shows" = some (some (.ref p_shows)))
    (get_shows : PySem.W.specialIn K (.ref p_shows) "__get__" = some (some (.builtin "property.__get__")))
    (tak_shows : PySem.W.takesIn K (.ref p_shows) = some true)
    (rec_shows : PySem.W.recIn K p_shows "property" = some (.ref m_shows :: rest0))
    (FM_shows : Fun K "shows" "Stand.shows" s_stand_shows m_shows fdm_shows)
    (at_past : PySem.W.findIn K (.ref CS) "past" = some (some (.ref p_past)))
    (get_past : PySem.W.specialIn K (.ref p_past) "__get__" = some (some (.builtin "property.__get__")))
    (tak_past : PySem.W.takesIn K (.ref p_past) = some true)
    (rec_past : PySem.W.recIn K p_past "property" = some (.ref m_past :: rest1))
    (FM_past : Fun K "past" "Stand.past" s_stand_past m_past fdm_past)
    (z_int : PySem.W.nsIn K mainGlobals "int" = some none)
    (z_isinstance : PySem.W.nsIn K mainGlobals "isinstance" = some none)
    (z_bool : PySem.W.nsIn K mainGlobals "bool" = some none)
    (z_str : PySem.W.nsIn K mainGlobals "str" = some none)
    (z_list : PySem.W.nsIn K mainGlobals "list" = some none)
    (z_tuple : PySem.W.nsIn K mainGlobals "tuple" = some none)
    (z_dict : PySem.W.nsIn K mainGlobals "dict" = some none)
    (z_len : PySem.W.nsIn K mainGlobals "len" = some none)
    (z_all : PySem.W.nsIn K mainGlobals "all" = some none)
    (z_range : PySem.W.nsIn K mainGlobals "range" = some none)
    (z_sorted : PySem.W.nsIn K mainGlobals "sorted" = some none)
    (z_min : PySem.W.nsIn K mainGlobals "min" = some none)
    (z_enumerate : PySem.W.nsIn K mainGlobals "enumerate" = some none)
    (z_zip : PySem.W.nsIn K mainGlobals "zip" = some none)
    (cLET : PySem.W.nsIn K mainGlobals "LETTERS" = some (some (.str lettersS tL)))
    (c_LONGEST_NAME : PySem.W.nsIn K mainGlobals "LONGEST_NAME" = some (some (.int 8 t1)))
    (c_MOST_OPERATIONS : PySem.W.nsIn K mainGlobals "MOST_OPERATIONS" = some (some (.int 8 t2)))
    (c_MOST_ANSWERS : PySem.W.nsIn K mainGlobals "MOST_ANSWERS" = some (some (.int 6 t3)))
    (c_MOST_ROWS : PySem.W.nsIn K mainGlobals "MOST_ROWS" = some (some (.int 400 t4)))
    : ∃ fd : FuncData, (∀ (s : Shared) (v : Value), BindsTo s fd ⟨[v], []⟩ [("_law_script", v)]) ∧ ∀ base : Heap, K.In base → base.Ns mainGlobals mg → FnOk l.prog w K mg base CX0 9 fa fd ["_law_script"] (spLaw K) := by
  have e := hfa.symm.trans (PySem.W.mg_of X G g_law)
  cases e
  obtain ⟨oc, od, doc, pm, an, cdv, ct, osl, eB, lB, cB⟩ := FB
  have FB1 : Fun K "__init__" "Body.__init__" s_body fB fdB := ⟨⟨oc, od, .ref DK, doc, pm, an, cdv, ct, osl, eB, lB, cB⟩, kfB⟩
  have FDB : FunD K "__init__" "Body.__init__" (defArgs s_body) (defBody s_body) (defScope s_body) [] [("start", V.int 0)] fB fdB := ⟨⟨oc, od, .none, .ref DK, doc, pm, an, cdv, ct, osl, eB, lB, cB, .inl ⟨rfl, rfl⟩, .inr ⟨DK, rfl, fun q hq => by
    rw [List.mem_singleton.mp hq]
    exact ⟨_, nsD, ⟨_, rfl⟩⟩⟩⟩, kfB⟩
  obtain ⟨ds, hds, bB0⟩ := FDB.binds0 (ps := PB) 3 (by simp) rfl fun D doc pm an cdv ct us ks l1 l2 => match us, ks, l1, l2 with | [_, _, _], [_], _, _ => ⟨_, _, _, _, _, _, rfl, rfl, rfl⟩
  have kB : KBn K fdB PB (2 + 1) KS (fun us ws => us ++ ws) (fun vs zs => vs ++ zs) := bindB fun a b c d => by
    rw [eB]
    rfl
  have T : TxtF K mg a_is_integer a_is_within := ⟨(PySem.W.mg_none_of X G z_isinstance), (PySem.W.mg_none_of X G z_int), (PySem.W.mg_none_of X G z_bool), (PySem.W.mg_none_of X G z_str), (PySem.W.mg_none_of X G z_list), (PySem.W.mg_none_of X G z_tuple), (PySem.W.mg_none_of X G z_dict), (PySem.W.mg_none_of X G z_len), (PySem.W.mg_none_of X G z_all), ⟨_, PySem.W.mg_of X G cLET⟩, ⟨_, PySem.W.mg_of X G c_LONGEST_NAME⟩, (PySem.W.mg_of X G g_is_integer), F_is_integer.kp, (PySem.W.mg_of X G g_is_within), F_is_within.kp⟩
  have TG : TxtG K mg a_is_row a_is_index a_is_name a_is_text_in a_are_counts a_word_of a_are_nexts a_is_line a_line_of a_are_operations := ⟨⟨_, PySem.W.mg_of X G c_MOST_OPERATIONS⟩, ⟨_, PySem.W.mg_of X G c_MOST_ANSWERS⟩, (PySem.W.mg_of X G g_is_row), F_is_row.kp, (PySem.W.mg_of X G g_is_index), F_is_index.kp, (PySem.W.mg_of X G g_is_name), F_is_name.kp, (PySem.W.mg_of X G g_is_text_in), F_is_text_in.kp, (PySem.W.mg_of X G g_are_counts), F_are_counts.kp, (PySem.W.mg_of X G g_word_of), F_word_of.kp, (PySem.W.mg_of X G g_are_nexts), F_are_nexts.kp, (PySem.W.mg_of X G g_is_line), F_is_line.kp, (PySem.W.mg_of X G g_line_of), F_line_of.kp, (PySem.W.mg_of X G g_are_operations), F_are_operations.kp⟩
  have TD : TxtD K mg a_law_draw := ⟨(PySem.W.mg_none_of X G z_int), (PySem.W.mg_none_of X G z_len), (PySem.W.mg_of X G g_law_draw), F_law_draw.kp⟩
  have TM : MachC K CM := ⟨clM, nm_counts, nm_lines, nm_begin, nm_stops, nm_asks, nm_endings, nm_endless⟩
  have TB : BodyC K CB := ⟨clB, nb_machine⟩
  have TW : WalkC K CW := ⟨clW, nw_one, nw_other, nw_met, nw_origins⟩
  have TS : StandC K CS := ⟨clS, ns_body, ns_at, ns_history⟩
  refine ⟨fd_law, fun s v => ?_, fun base _ _ => ?_⟩
  · obtain ⟨_, _, _, _, _, _, _, _, _, rfl, _, _⟩ := F_law.ex
    exact .of_eq rfl
  · skip
    have G_is_integer : FnOk l.prog w K mg base CX0 1 a_is_integer fd_is_integer ["thing"] (spInt K) := ok_is_integer F_is_integer T
    have G_is_index : FnOk l.prog w K mg base CX0 3 a_is_index fd_is_index ["thing", "many"] (spIndex K) := ok_is_index F_is_index T F_is_integer (F_is_integer.binds (ps := ["thing"]) fun _ _ _ _ _ _ us hl => match us, hl with | [_], _ => rfl) F_is_within (F_is_within.binds (ps := ["thing", "low", "high"]) fun _ _ _ _ _ _ us hl => match us, hl with | [_, _, _], _ => rfl)
    have G_is_row : FnOk l.prog w K mg base CX0 1 a_is_row fd_is_row ["thing"] (spIsRow K) := ok_is_row F_is_row T
    have G_is_name : FnOk l.prog w K mg base CX0 1 a_is_name fd_is_name ["thing"] (spName K) := ok_is_name F_is_name T
    have G_is_text_in : FnOk l.prog w K mg base CX0 1 a_is_text_in fd_is_text_in ["thing", "table"] (spTextIn K) := ok_is_text_in F_is_text_in T
    have G_are_counts : FnOk l.prog w K mg base CX0 3 a_are_counts fd_are_counts ["thing", "most", "low", "high"] spCounts := ok_are_counts F_are_counts T TG F_is_name (F_is_name.binds (ps := ["thing"]) fun _ _ _ _ _ _ us hl => match us, hl with | [_], _ => rfl) F_is_integer (F_is_integer.binds (ps := ["thing"]) fun _ _ _ _ _ _ us hl => match us, hl with | [_], _ => rfl) F_is_within (F_is_within.binds (ps := ["thing", "low", "high"]) fun _ _ _ _ _ _ us hl => match us, hl with | [_, _, _], _ => rfl)
    have G_are_operations : FnOk l.prog w K mg base CX0 4 a_are_operations fd_are_operations ["thing"] spOps := ok_are_operations F_are_operations TG G_are_counts (F_are_counts.binds (ps := ["thing", "most", "low", "high"]) fun _ _ _ _ _ _ us hl => match us, hl with | [_, _, _, _], _ => rfl)
    have G_word_of : FnOk l.prog w K mg base CX0 2 a_word_of fd_word_of ["row"] spWord := ok_word_of F_word_of T TG G_is_row (F_is_row.binds (ps := ["thing"]) fun _ _ _ _ _ _ us hl => match us, hl with | [_], _ => rfl)
    have G_are_nexts : FnOk l.prog w K mg base CX0 4 a_are_nexts fd_are_nexts ["nexts", "operation", "counts", "many"] spNexts := ok_are_nexts F_are_nexts T TG G_is_row (F_is_row.binds (ps := ["thing"]) fun _ _ _ _ _ _ us hl => match us, hl with | [_], _ => rfl) G_is_index (F_is_index.binds (ps := ["thing", "many"]) fun _ _ _ _ _ _ us hl => match us, hl with | [_, _], _ => rfl)
    have G_is_line : FnOk l.prog w K mg base CX0 5 a_is_line fd_is_line ["row", "counts", "many"] spIsLine := ok_is_line F_is_line T TG G_word_of (F_word_of.binds (ps := ["row"]) fun _ _ _ _ _ _ us hl => match us, hl with | [_], _ => rfl) G_is_text_in (F_is_text_in.binds (ps := ["thing", "table"]) fun _ _ _ _ _ _ us hl => match us, hl with | [_, _], _ => rfl) G_are_nexts (F_are_nexts.binds (ps := ["nexts", "operation", "counts", "many"]) fun _ _ _ _ _ _ us hl => match us, hl with | [_, _, _, _], _ => rfl) G_is_name (F_is_name.binds (ps := ["thing"]) fun _ _ _ _ _ _ us hl => match us, hl with | [_], _ => rfl) G_is_index (F_is_index.binds (ps := ["thing", "many"]) fun _ _ _ _ _ _ us hl => match us, hl with | [_, _], _ => rfl)
    have G_line_of : FnOk l.prog w K mg base CX0 1 a_line_of fd_line_of ["row"] spLineOf := ok_line_of F_line_of T
    have G_rest_of : FnOk l.prog w K mg base CX0 1 a_rest_of fd_rest_of ["trail", "at"] (spRest K) := ok_rest_of F_rest_of (PySem.W.mg_none_of X G z_min)
    have G_stops_of : FnOk l.prog w K mg base CX0 2 a_stops_of fd_stops_of ["lines"] spStops := ok_stops_of F_stops_of T (PySem.W.mg_none_of X G z_range) G_rest_of (F_rest_of.binds (ps := ["trail", "at"]) fun _ _ _ _ _ _ us hl => match us, hl with | [_, _], _ => rfl) (PySem.W.mg_of X G g_rest_of) F_rest_of.kp
    have G_nexts_of : FnOk l.prog w K mg base CX0 1 a_nexts_of fd_nexts_of ["line"] spNextsOf := ok_nexts_of F_nexts_of
    have G_rests_from : FnOk l.prog w K mg base CX0 2 a_rests_from fd_rests_from ["lines", "stops", "begin"] spRests := ok_rests_from F_rests_from T G_nexts_of (F_nexts_of.binds (ps := ["line"]) fun _ _ _ _ _ _ us hl => match us, hl with | [_], _ => rfl) (PySem.W.mg_of X G g_nexts_of) F_nexts_of.kp
    have G_in_order : FnOk l.prog w K mg base CX0 1 a_in_order fd_in_order ["table"] spOrder := ok_in_order F_in_order (PySem.W.mg_none_of X G z_sorted)
    have G_firsts_of : FnOk l.prog w K mg base CX0 1 a_firsts_of fd_firsts_of ["lines", "word"] spFirsts := ok_firsts_of F_firsts_of (PySem.W.mg_none_of X G z_sorted)
    have G_mach : FnOk l.prog w K mg base CX0 3 fM fdM ["self", "counts", "lines", "begin"] (spMach CM) := ok_mach FM TM G_rests_from (F_rests_from.binds (ps := ["lines", "stops", "begin"]) fun _ _ _ _ _ _ us hl => match us, hl with | [_, _, _], _ => rfl) (PySem.W.mg_of X G g_rests_from) F_rests_from.kp G_stops_of (F_stops_of.binds (ps := ["lines"]) fun _ _ _ _ _ _ us hl => match us, hl with | [_], _ => rfl) (PySem.W.mg_of X G g_stops_of) F_stops_of.kp G_firsts_of (F_firsts_of.binds (ps := ["lines", "word"]) fun _ _ _ _ _ _ us hl => match us, hl with | [_, _], _ => rfl) (PySem.W.mg_of X G g_firsts_of) F_firsts_of.kp
    have G_lines_read : FnOk l.prog w K mg base CX0 6 a_lines_read fd_lines_read ["rows", "counts"] spRead := ok_lines_read F_lines_read T TG (PySem.W.mg_none_of X G z_enumerate) (PySem.W.mg_of X G c_MOST_ROWS) G_is_row (F_is_row.binds (ps := ["thing"]) fun _ _ _ _ _ _ us hl => match us, hl with | [_], _ => rfl) G_is_line (F_is_line.binds (ps := ["row", "counts", "many"]) fun _ _ _ _ _ _ us hl => match us, hl with | [_, _, _], _ => rfl) G_line_of (F_line_of.binds (ps := ["row"]) fun _ _ _ _ _ _ us hl => match us, hl with | [_], _ => rfl)
    have MM : Mk K CM fM := ⟨mkM, inM, fnM, kpM⟩
    have MB : Mk K CB fB := ⟨mkB, inB, fnB, kpB⟩
    have MW : Mk K CW fW := ⟨mkW, inW, fnW, kpW⟩
    have GB : FnOk l.prog w K mg base CX0 7 fB fdB PB (spBody CB CM) := ok_body FB1 T TG TB G_are_operations (F_are_operations.binds (ps := ["thing"]) fun _ _ _ _ _ _ us hl => match us, hl with | [_], _ => rfl) G_lines_read (F_lines_read.binds (ps := ["rows", "counts"]) fun _ _ _ _ _ _ us hl => match us, hl with | [_, _], _ => rfl) (PySem.W.mg_of X G g_lines_read) F_lines_read.kp G_is_index (F_is_index.binds (ps := ["thing", "many"]) fun _ _ _ _ _ _ us hl => match us, hl with | [_, _], _ => rfl) G_in_order (F_in_order.binds (ps := ["table"]) fun _ _ _ _ _ _ us hl => match us, hl with | [_], _ => rfl) (PySem.W.mg_of X G g_in_order) F_in_order.kp MM G_mach (FM.binds (ps := ["self", "counts", "lines", "begin"]) fun _ _ _ _ _ _ us hl => match us, hl with | [_, _, _, _], _ => rfl) (PySem.W.mg_of X G gc_Machine)
    have G_law_source : FnOk l.prog w K mg base CX0 1 a_law_source fd_law_source ["_law_cell"] spSrc := ok_src F_law_source TD
    have G_law_draw : FnOk l.prog w K mg base CX0 1 a_law_draw fd_law_draw ["_law_well", "_law_many"] spNext := ok_next F_law_draw TD
    have G_law_pick : FnOk l.prog w K mg base CX0 2 a_law_pick fd_law_pick ["_law_well", "_law_some"] spOne := ok_one F_law_pick TD F_law_draw (F_law_draw.binds (ps := ["_law_well", "_law_many"]) fun _ _ _ _ _ _ us hl => match us, hl with | [_, _], _ => rfl)
    have G_law_numbers : FnOk l.prog w K mg base CX0 2 a_law_numbers fd_law_numbers ["_law_well"] spNumbers := ok_numbers F_law_numbers T (PySem.W.mg_none_of X G z_range) G_law_draw (F_law_draw.binds (ps := ["_law_well", "_law_many"]) fun _ _ _ _ _ _ us hl => match us, hl with | [_, _], _ => rfl) (PySem.W.mg_of X G g_law_draw) F_law_draw.kp
    have G_law_rows : FnOk l.prog w K mg base CX0 3 a_law_rows fd_law_rows ["_law_well", "_law_numbers_here", "_law_words", "_law_size"] spDrawRows := ok_draw_rows F_law_rows T (PySem.W.mg_none_of X G z_range) (PySem.W.mg_none_of X G z_sorted) G_law_draw (F_law_draw.binds (ps := ["_law_well", "_law_many"]) fun _ _ _ _ _ _ us hl => match us, hl with | [_, _], _ => rfl) (PySem.W.mg_of X G g_law_draw) F_law_draw.kp G_law_pick (F_law_pick.binds (ps := ["_law_well", "_law_some"]) fun _ _ _ _ _ _ us hl => match us, hl with | [_, _], _ => rfl) (PySem.W.mg_of X G g_law_pick) F_law_pick.kp
    have G_law_next : FnOk l.prog w K mg base CX0 1 a_law_next fd_law_next ["_law_rows_here", "_law_at"] spNextL := ok_nextL F_law_next (PySem.W.mg_none_of X G z_min)
    have G_law_show : FnOk l.prog w K mg base CX0 1 a_law_show fd_law_show ["_law_rows_here", "_law_at"] spShowL := ok_showL F_law_show T
    have G_law_behind : FnOk l.prog w K mg base CX0 2 a_law_behind fd_law_behind ["_law_rows_here", "_law_begun", "_law_history"] spBehindL := ok_behindL F_law_behind T G_law_next (F_law_next.binds (ps := ["_law_rows_here", "_law_at"]) fun _ _ _ _ _ _ us hl => match us, hl with | [_, _], _ => rfl) (PySem.W.mg_of X G g_law_next) F_law_next.kp
    have G_law_all : FnOk l.prog w K mg base CX0 2 a_law_all fd_law_all ["_law_rows_here", "_law_begun", "_law_many"] spAllL := ok_allL F_law_all (PySem.W.mg_none_of X G z_range) (PySem.W.mg_none_of X G z_enumerate) (PySem.W.mg_none_of X G z_sorted) G_law_next (F_law_next.binds (ps := ["_law_rows_here", "_law_at"]) fun _ _ _ _ _ _ us hl => match us, hl with | [_, _], _ => rfl) (PySem.W.mg_of X G g_law_next) F_law_next.kp
    have G_shows_of : FnOk l.prog w K mg base CX0 1 a_shows_of fd_shows_of ["line"] spShows := ok_shows_of F_shows_of
    have G_leader_of : FnOk l.prog w K mg base CX0 1 a_leader_of fd_leader_of ["leaders", "thing"] spLeader := ok_leader_of F_leader_of
    have G_are_led_together : FnOk l.prog w K mg base CX0 2 a_are_led_together fd_are_led_together ["leaders", "one", "other"] spLed := ok_led F_are_led_together G_leader_of (F_leader_of.binds (ps := ["leaders", "thing"]) fun _ _ _ _ _ _ us hl => match us, hl with | [_, _], _ => rfl) (PySem.W.mg_of X G g_leader_of) F_leader_of.kp
    have G_begin_of : FnOk l.prog w K mg base CX0 1 a_begin_of fd_begin_of ["one", "other"] (spBegin CM) := ok_begin_of F_begin_of TM
    have G_both_shown : FnOk l.prog w K mg base CX0 2 a_both_shown fd_both_shown ["one", "other", "pair"] (spBoth CM) := ok_both_shown F_both_shown TM G_shows_of (F_shows_of.binds (ps := ["line"]) fun _ _ _ _ _ _ us hl => match us, hl with | [_], _ => rfl) (PySem.W.mg_of X G g_shows_of) F_shows_of.kp
    have G_pairs_behind : FnOk l.prog w K mg base CX0 2 a_pairs_behind fd_pairs_behind ["one", "other", "pair"] (spBehind CM) := ok_pairs_behind F_pairs_behind TM (PySem.W.mg_none_of X G z_zip) G_nexts_of (F_nexts_of.binds (ps := ["line"]) fun _ _ _ _ _ _ us hl => match us, hl with | [_], _ => rfl) (PySem.W.mg_of X G g_nexts_of) F_nexts_of.kp
    have GW : FnOk l.prog w K mg base CX0 1 fW fdW ["self", "one", "other", "begin"] (spWInit CW) := ok_walk_init FW TW
    have GT : FnOk l.prog w K mg base CX0 1 f_take fd_take ["self", "pair", "number", "answer"] (spTake CW) := ok_walk_take FT TW
    have G_parting_place : FnOk l.prog w K mg base CX0 3 a_parting_place fd_parting_place ["walk"] (spPartF CW CM) := ok_parting_place F_parting_place T TM TW (PySem.W.mg_none_of X G z_range) (PySem.W.mg_none_of X G z_enumerate) G_are_led_together (F_are_led_together.binds (ps := ["leaders", "one", "other"]) fun _ _ _ _ _ _ us hl => match us, hl with | [_, _, _], _ => rfl) (PySem.W.mg_of X G g_are_led_together) F_are_led_together.kp G_both_shown (F_both_shown.binds (ps := ["one", "other", "pair"]) fun _ _ _ _ _ _ us hl => match us, hl with | [_, _, _], _ => rfl) (PySem.W.mg_of X G g_both_shown) F_both_shown.kp G_pairs_behind (F_pairs_behind.binds (ps := ["one", "other", "pair"]) fun _ _ _ _ _ _ us hl => match us, hl with | [_, _, _], _ => rfl) (PySem.W.mg_of X G g_pairs_behind) F_pairs_behind.kp GT (FT.binds (ps := ["self", "pair", "number", "answer"]) fun _ _ _ _ _ _ us hl => match us, hl with | [_, _, _, _], _ => rfl) ⟨at_take, fn_take, FT.kp⟩
    have G_told_of : FnOk l.prog w K mg base CX0 3 a_told_of fd_told_of ["walk", "number"] (spToldF CW CM) := ok_told_of F_told_of T TM TW G_both_shown (F_both_shown.binds (ps := ["one", "other", "pair"]) fun _ _ _ _ _ _ us hl => match us, hl with | [_, _, _], _ => rfl) (PySem.W.mg_of X G g_both_shown) F_both_shown.kp
    have G_joined : FnOk l.prog w K mg base CX0 2 a_joined fd_joined ["tables"] spJoined := ok_joined F_joined G_in_order (F_in_order.binds (ps := ["table"]) fun _ _ _ _ _ _ us hl => match us, hl with | [_], _ => rfl) (PySem.W.mg_of X G g_in_order) F_in_order.kp
    have G_walk_of : FnOk l.prog w K mg base CX0 3 a_walk_of fd_walk_of ["one", "other"] (spWalkOf CB CM CW) := ok_walk_of F_walk_of TB TM G_joined (F_joined.binds (ps := ["tables"]) fun _ _ _ _ _ _ us hl => match us, hl with | [_], _ => rfl) (PySem.W.mg_of X G g_joined) F_joined.kp G_begin_of (F_begin_of.binds (ps := ["one", "other"]) fun _ _ _ _ _ _ us hl => match us, hl with | [_, _], _ => rfl) (PySem.W.mg_of X G g_begin_of) F_begin_of.kp MW GW (FW.binds (ps := ["self", "one", "other", "begin"]) fun _ _ _ _ _ _ us hl => match us, hl with | [_, _, _, _], _ => rfl) (PySem.W.mg_of X G gc_Walk)
    have G_parted : FnOk l.prog w K mg base CX0 4 a_parted fd_parted ["one", "other"] (spPartedF CB CM) := ok_parted F_parted G_walk_of (F_walk_of.binds (ps := ["one", "other"]) fun _ _ _ _ _ _ us hl => match us, hl with | [_, _], _ => rfl) (PySem.W.mg_of X G g_walk_of) F_walk_of.kp G_parting_place (F_parting_place.binds (ps := ["walk"]) fun _ _ _ _ _ _ us hl => match us, hl with | [_], _ => rfl) (PySem.W.mg_of X G g_parting_place) F_parting_place.kp G_told_of (F_told_of.binds (ps := ["walk", "number"]) fun _ _ _ _ _ _ us hl => match us, hl with | [_, _], _ => rfl) (PySem.W.mg_of X G g_told_of) F_told_of.kp
    have G_can_come : FnOk l.prog w K mg base CX0 4 a_can_come fd_can_come ["told", "line", "counts"] spCanCome := ok_can_come F_can_come T TG G_is_row (F_is_row.binds (ps := ["thing"]) fun _ _ _ _ _ _ us hl => match us, hl with | [_], _ => rfl) G_is_index (F_is_index.binds (ps := ["thing", "many"]) fun _ _ _ _ _ _ us hl => match us, hl with | [_, _], _ => rfl)
    have G_shown : FnOk l.prog w K mg base CX0 5 a_shown fd_shown ["body", "history"] (spShown CB CM) := ok_shown F_shown T TG TB TM (PySem.W.mg_none_of X G z_enumerate) G_is_row (F_is_row.binds (ps := ["thing"]) fun _ _ _ _ _ _ us hl => match us, hl with | [_], _ => rfl) G_can_come (F_can_come.binds (ps := ["told", "line", "counts"]) fun _ _ _ _ _ _ us hl => match us, hl with | [_, _, _], _ => rfl) (PySem.W.mg_of X G g_can_come) F_can_come.kp G_shows_of (F_shows_of.binds (ps := ["line"]) fun _ _ _ _ _ _ us hl => match us, hl with | [_], _ => rfl) (PySem.W.mg_of X G g_shows_of) F_shows_of.kp
    have MS : Mk K CS fS := ⟨mkS, inS, fnS, kpS⟩
    have GSI : FnOk l.prog w K mg base CX0 1 fS fdS ["self", "body"] (spSInit CB CM CS) := ok_stand_init FS TB TM TS
    have GM_shows : FnOk l.prog w K mg base CX0 2 m_shows fdm_shows ["self"] (spSShows CB CM CS) := ok_stand_shows FM_shows TB TM TS G_shows_of (F_shows_of.binds (ps := ["line"]) fun _ _ _ _ _ _ us hl => match us, hl with | [_], _ => rfl) (PySem.W.mg_of X G g_shows_of) F_shows_of.kp
    have GM_past : FnOk l.prog w K mg base CX0 1 m_past fdm_past ["self"] (spStand CS) := ok_stand_past FM_past TS
    have GM_len : FnOk l.prog w K mg base CX0 1 m_len fdm_len ["self"] (spSLen CS) := ok_stand_len FM_len T TS
    have G_is_answer_to : FnOk l.prog w K mg base CX0 4 a_is_answer_to fd_is_answer_to ["line", "answer"] spAnswer := ok_is_answer_to F_is_answer_to T TG G_is_index (F_is_index.binds (ps := ["thing", "many"]) fun _ _ _ _ _ _ us hl => match us, hl with | [_, _], _ => rfl)
    have G_stand_at : FnOk l.prog w K mg base CX0 3 a_stand_at fd_stand_at ["body", "at", "history"] (spStandAt CB CM CS) := ok_stand_at F_stand_at TS MS GSI (FS.binds (ps := ["self", "body"]) fun _ _ _ _ _ _ us hl => match us, hl with | [_, _], _ => rfl) (PySem.W.mg_of X G gc_Stand)
    have GM_call : FnOk l.prog w K mg base CX0 5 m_call fdm_call ["self", "answer"] (spSCall CB CM CS) := ok_stand_call FM_call TB TM TS G_is_answer_to (F_is_answer_to.binds (ps := ["line", "answer"]) fun _ _ _ _ _ _ us hl => match us, hl with | [_, _], _ => rfl) (PySem.W.mg_of X G g_is_answer_to) F_is_answer_to.kp G_stand_at (F_stand_at.binds (ps := ["body", "at", "history"]) fun _ _ _ _ _ _ us hl => match us, hl with | [_, _, _], _ => rfl) (PySem.W.mg_of X G g_stand_at) F_stand_at.kp
    have G_alike_from : FnOk l.prog w K mg base CX0 4 a_alike_from fd_alike_from ["one", "other"] (spAlikeFrom CB CM CS) := ok_alike_from F_alike_from TB TM TS G_joined (F_joined.binds (ps := ["tables"]) fun _ _ _ _ _ _ us hl => match us, hl with | [_], _ => rfl) (PySem.W.mg_of X G g_joined) F_joined.kp G_parting_place (F_parting_place.binds (ps := ["walk"]) fun _ _ _ _ _ _ us hl => match us, hl with | [_], _ => rfl) (PySem.W.mg_of X G g_parting_place) F_parting_place.kp MW GW (FW.binds (ps := ["self", "one", "other", "begin"]) fun _ _ _ _ _ _ us hl => match us, hl with | [_, _, _, _], _ => rfl) (PySem.W.mg_of X G gc_Walk)
    have SF : StandFac l.prog w K mg base CB CM CS := ⟨TS, ⟨_, _, _, ⟨at_shows, get_shows, tak_shows, _, rec_shows⟩, GM_shows, (FM_shows.binds (ps := ["self"]) fun _ _ _ _ _ _ us hl => match us, hl with | [_], _ => rfl)⟩, ⟨_, _, _, ⟨at_past, get_past, tak_past, _, rec_past⟩, GM_past, (FM_past.binds (ps := ["self"]) fun _ _ _ _ _ _ us hl => match us, hl with | [_], _ => rfl)⟩, ⟨_, _, at_len, fn_len, GM_len, (FM_len.binds (ps := ["self"]) fun _ _ _ _ _ _ us hl => match us, hl with | [_], _ => rfl)⟩, ⟨_, _, ⟨at_call, fn_call, fi_call⟩, GM_call, (FM_call.binds (ps := ["self", "answer"]) fun _ _ _ _ _ _ us hl => match us, hl with | [_, _], _ => rfl)⟩⟩
    exact ok_law F_law T (PySem.W.mg_none_of X G z_range) (PySem.W.mg_none_of X G z_sorted) SF G_law_source (F_law_source.binds (ps := ["_law_cell"]) fun _ _ _ _ _ _ us hl => match us, hl with | [_], _ => rfl) (PySem.W.mg_of X G g_law_source) F_law_source.kp G_law_numbers (F_law_numbers.binds (ps := ["_law_well"]) fun _ _ _ _ _ _ us hl => match us, hl with | [_], _ => rfl) (PySem.W.mg_of X G g_law_numbers) F_law_numbers.kp G_law_rows (F_law_rows.binds (ps := ["_law_well", "_law_numbers_here", "_law_words", "_law_size"]) fun _ _ _ _ _ _ us hl => match us, hl with | [_, _, _, _], _ => rfl) (PySem.W.mg_of X G g_law_rows) F_law_rows.kp G_law_draw (F_law_draw.binds (ps := ["_law_well", "_law_many"]) fun _ _ _ _ _ _ us hl => match us, hl with | [_, _], _ => rfl) (PySem.W.mg_of X G g_law_draw) F_law_draw.kp G_law_pick (F_law_pick.binds (ps := ["_law_well", "_law_some"]) fun _ _ _ _ _ _ us hl => match us, hl with | [_, _], _ => rfl) (PySem.W.mg_of X G g_law_pick) F_law_pick.kp G_law_all (F_law_all.binds (ps := ["_law_rows_here", "_law_begun", "_law_many"]) fun _ _ _ _ _ _ us hl => match us, hl with | [_, _, _], _ => rfl) (PySem.W.mg_of X G g_law_all) F_law_all.kp G_law_show (F_law_show.binds (ps := ["_law_rows_here", "_law_at"]) fun _ _ _ _ _ _ us hl => match us, hl with | [_, _], _ => rfl) (PySem.W.mg_of X G g_law_show) F_law_show.kp G_law_behind (F_law_behind.binds (ps := ["_law_rows_here", "_law_begun", "_law_history"]) fun _ _ _ _ _ _ us hl => match us, hl with | [_, _, _], _ => rfl) (PySem.W.mg_of X G g_law_behind) F_law_behind.kp G_shown (F_shown.binds (ps := ["body", "history"]) fun _ _ _ _ _ _ us hl => match us, hl with | [_, _], _ => rfl) (PySem.W.mg_of X G g_shown) F_shown.kp G_alike_from (F_alike_from.binds (ps := ["one", "other"]) fun _ _ _ _ _ _ us hl => match us, hl with | [_, _], _ => rfl) (PySem.W.mg_of X G g_alike_from) F_alike_from.kp G_parted (F_parted.binds (ps := ["one", "other"]) fun _ _ _ _ _ _ us hl => match us, hl with | [_, _], _ => rfl) (PySem.W.mg_of X G g_parted) F_parted.kp MB GB kB (PySem.W.mg_of X G gc_Body) hds bB0 MS GSI (FS.binds (ps := ["self", "body"]) fun _ _ _ _ _ _ us hl => match us, hl with | [_, _], _ => rfl) (PySem.W.mg_of X G gc_Stand)
theorem walk {l : PySem.W.OpenLaw} {q : Program} {loose : List Str} {XP : (Str → Option Value) → Heap → Prop} {YP : World → Heap → Prop} {d : DefRec} {K : Params → PySem.W.Frag} (hn : l.most = some 63) (hdf : d.params.defaults = [])
    (hY : ∀ (w : World) (h : Heap), YP w h → (K w.params).In h)
    (F : ∀ (w : World) (mg : Str → Option Value) (fa : Addr) (h : Heap), (K w.params).In h → h.Ns mainGlobals mg → mg d.name = some (.ref fa) →
      ∃ fd : FuncData, (∀ (s : Shared) (u : Value), BindsTo s fd ⟨[u], []⟩ [("_law_script", u)]) ∧ ∀ base : Heap, (K w.params).In base → base.Ns mainGlobals mg → FnOk l.prog w (K w.params) mg base CX0 9 fa fd ["_law_script"] (spLaw (K w.params))) :
    PySem.W.WalkO q loose XP YP l.row.toRowW d [] (fun f vs => PySem.call f vs) :=
  L2.walk_of (n := 63) (k := 9) (x := "_law_script") (CX := fun _ => CX0) (sp := fun w => spLaw (K w.params)) hn (by decide) hdf ⟨rfl, by decide, by decide⟩ hY F (fun _ _ a ns hl _ hS => ⟨a, ns, rfl, hS, hl, fun _ => rfl⟩) fun _ _ _ _ _ z => z
end Mine

set_option maxRecDepth 100000
set_option maxHeartbeats 4000000
open PySem PySem.W PyProof.Rows
set_option maxRecDepth 100000 in
set_option maxHeartbeats 0 in
theorem PySem.Challenge.cw_askfurther_k59_whole_stands_led_on_every_holds : PySem.Challenge.rw_askfurther_k59_whole_stands_led_on_every.Holds := by
  w_on; o_law; k_head; (case hw => w_witness2)
  k_fill
  refine Mine.walk (l := PySem.Challenge.rw_askfurther_k59_whole_stands_led_on_every) rfl rfl (fun w h Y => PySem.W.kIn_of Y) ?F
  case F =>
    intro w mg fa h KX G hmg
    refine' Mine.all_mk KX G hmg ?g_is_integer ?F_is_integer ?g_is_within ?F_is_within ?g_is_index ?F_is_index ?g_is_row ?F_is_row ?g_is_name ?F_is_name ?g_is_text_in ?F_is_text_in ?g_are_counts ?F_are_counts ?g_are_operations ?F_are_operations ?g_in_order ?F_in_order ?g_word_of ?F_word_of ?g_are_nexts ?F_are_nexts ?g_joined ?F_joined ?g_stops_of ?F_stops_of ?g_rest_of ?F_rest_of ?g_rests_from ?F_rests_from ?g_nexts_of ?F_nexts_of ?g_shows_of ?F_shows_of ?g_firsts_of ?F_firsts_of ?g_lines_read ?F_lines_read ?g_is_line ?F_is_line ?g_line_of ?F_line_of ?g_begin_of ?F_begin_of ?g_both_shown ?F_both_shown ?g_pairs_behind ?F_pairs_behind ?g_parting_place ?F_parting_place ?g_are_led_together ?F_are_led_together ?g_leader_of ?F_leader_of ?g_told_of ?F_told_of ?g_parted ?F_parted ?g_walk_of ?F_walk_of ?g_can_come ?F_can_come ?g_shown ?F_shown ?g_stand_at ?F_stand_at ?g_is_answer_to ?F_is_answer_to ?g_alike_from ?F_alike_from ?g_law_source ?F_law_source ?g_law_draw ?F_law_draw ?g_law_pick ?F_law_pick ?g_law_numbers ?F_law_numbers ?g_law_rows ?F_law_rows ?g_law_next ?F_law_next ?g_law_show ?F_law_show ?g_law_behind ?F_law_behind ?g_law_all ?F_law_all ?g_law ?F_law ?gc_Body ?gc_Machine ?gc_Walk ?gc_Stand ?clB ?mkB ?inB ?fnB ?kpB ?clM ?mkM ?inM ?fnM ?kpM ?clW ?mkW ?inW ?fnW ?kpW ?clS ?mkS ?inS ?fnS ?kpS ?FM ?FW ?at_take ?FT ?fn_take ?FB ?kfB ?nsD ?nm_counts ?nm_lines ?nm_begin ?nm_stops ?nm_asks ?nm_endings ?nm_endless ?nb_machine ?nw_one ?nw_other ?nw_met ?nw_origins ?FS ?ns_body ?ns_at ?ns_history ?at_len ?fn_len ?FM_len ?at_call ?fn_call ?FM_call ?fi_call ?at_shows ?get_shows ?tak_shows ?rec_shows ?FM_shows ?at_past ?get_past ?tak_past ?rec_past ?FM_past ?z_int ?z_isinstance ?z_bool ?z_str ?z_list ?z_tuple ?z_dict ?z_len ?z_all ?z_range ?z_sorted ?z_min ?z_enumerate ?z_zip ?cLET ?c_LONGEST_NAME ?c_MOST_OPERATIONS ?c_MOST_ANSWERS ?c_MOST_ROWS
    (case g_is_integer => k_is)
    (case F_is_integer => exact ⟨⟨_, _, _, _, _, _, _, _, _, rfl, by k_is, by k_is⟩, by k_is⟩)
    (case g_is_within => k_is)
    (case F_is_within => exact ⟨⟨_, _, _, _, _, _, _, _, _, rfl, by k_is, by k_is⟩, by k_is⟩)
    (case g_is_index => k_is)
    (case F_is_index => exact ⟨⟨_, _, _, _, _, _, _, _, _, rfl, by k_is, by k_is⟩, by k_is⟩)
    (case g_is_row => k_is)
    (case F_is_row => exact ⟨⟨_, _, _, _, _, _, _, _, _, rfl, by k_is, by k_is⟩, by k_is⟩)
    (case g_is_name => k_is)
    (case F_is_name => exact ⟨⟨_, _, _, _, _, _, _, _, _, rfl, by k_is, by k_is⟩, by k_is⟩)
    (case g_is_text_in => k_is)
    (case F_is_text_in => exact ⟨⟨_, _, _, _, _, _, _, _, _, rfl, by k_is, by k_is⟩, by k_is⟩)
    (case g_are_counts => k_is)
    (case F_are_counts => exact ⟨⟨_, _, _, _, _, _, _, _, _, rfl, by k_is, by k_is⟩, by k_is⟩)
    (case g_are_operations => k_is)
    (case F_are_operations => exact ⟨⟨_, _, _, _, _, _, _, _, _, rfl, by k_is, by k_is⟩, by k_is⟩)
    (case g_in_order => k_is)
    (case F_in_order => exact ⟨⟨_, _, _, _, _, _, _, _, _, rfl, by k_is, by k_is⟩, by k_is⟩)
    (case g_word_of => k_is)
    (case F_word_of => exact ⟨⟨_, _, _, _, _, _, _, _, _, rfl, by k_is, by k_is⟩, by k_is⟩)
    (case g_are_nexts => k_is)
    (case F_are_nexts => exact ⟨⟨_, _, _, _, _, _, _, _, _, rfl, by k_is, by k_is⟩, by k_is⟩)
    (case g_joined => k_is)
    (case F_joined => exact ⟨⟨_, _, _, _, _, _, _, _, _, rfl, by k_is, by k_is⟩, by k_is⟩)
    (case g_stops_of => k_is)
    (case F_stops_of => exact ⟨⟨_, _, _, _, _, _, _, _, _, rfl, by k_is, by k_is⟩, by k_is⟩)
    (case g_rest_of => k_is)
    (case F_rest_of => exact ⟨⟨_, _, _, _, _, _, _, _, _, rfl, by k_is, by k_is⟩, by k_is⟩)
    (case g_rests_from => k_is)
    (case F_rests_from => exact ⟨⟨_, _, _, _, _, _, _, _, _, rfl, by k_is, by k_is⟩, by k_is⟩)
    (case g_nexts_of => k_is)
    (case F_nexts_of => exact ⟨⟨_, _, _, _, _, _, _, _, _, rfl, by k_is, by k_is⟩, by k_is⟩)
    (case g_shows_of => k_is)
    (case F_shows_of => exact ⟨⟨_, _, _, _, _, _, _, _, _, rfl, by k_is, by k_is⟩, by k_is⟩)
    (case g_firsts_of => k_is)
    (case F_firsts_of => exact ⟨⟨_, _, _, _, _, _, _, _, _, rfl, by k_is, by k_is⟩, by k_is⟩)
    (case g_lines_read => k_is)
    (case F_lines_read => exact ⟨⟨_, _, _, _, _, _, _, _, _, rfl, by k_is, by k_is⟩, by k_is⟩)
    (case g_is_line => k_is)
    (case F_is_line => exact ⟨⟨_, _, _, _, _, _, _, _, _, rfl, by k_is, by k_is⟩, by k_is⟩)
    (case g_line_of => k_is)
    (case F_line_of => exact ⟨⟨_, _, _, _, _, _, _, _, _, rfl, by k_is, by k_is⟩, by k_is⟩)
    (case g_begin_of => k_is)
    (case F_begin_of => exact ⟨⟨_, _, _, _, _, _, _, _, _, rfl, by k_is, by k_is⟩, by k_is⟩)
    (case g_both_shown => k_is)
    (case F_both_shown => exact ⟨⟨_, _, _, _, _, _, _, _, _, rfl, by k_is, by k_is⟩, by k_is⟩)
    (case g_pairs_behind => k_is)
    (case F_pairs_behind => exact ⟨⟨_, _, _, _, _, _, _, _, _, rfl, by k_is, by k_is⟩, by k_is⟩)
    (case g_parting_place => k_is)
    (case F_parting_place => exact ⟨⟨_, _, _, _, _, _, _, _, _, rfl, by k_is, by k_is⟩, by k_is⟩)
    (case g_are_led_together => k_is)
    (case F_are_led_together => exact ⟨⟨_, _, _, _, _, _, _, _, _, rfl, by k_is, by k_is⟩, by k_is⟩)
    (case g_leader_of => k_is)
    (case F_leader_of => exact ⟨⟨_, _, _, _, _, _, _, _, _, rfl, by k_is, by k_is⟩, by k_is⟩)
    (case g_told_of => k_is)
    (case F_told_of => exact ⟨⟨_, _, _, _, _, _, _, _, _, rfl, by k_is, by k_is⟩, by k_is⟩)
    (case g_parted => k_is)
    (case F_parted => exact ⟨⟨_, _, _, _, _, _, _, _, _, rfl, by k_is, by k_is⟩, by k_is⟩)
    (case g_walk_of => k_is)
    (case F_walk_of => exact ⟨⟨_, _, _, _, _, _, _, _, _, rfl, by k_is, by k_is⟩, by k_is⟩)
    (case g_can_come => k_is)
    (case F_can_come => exact ⟨⟨_, _, _, _, _, _, _, _, _, rfl, by k_is, by k_is⟩, by k_is⟩)
    (case g_shown => k_is)
    (case F_shown => exact ⟨⟨_, _, _, _, _, _, _, _, _, rfl, by k_is, by k_is⟩, by k_is⟩)
    (case g_stand_at => k_is)
    (case F_stand_at => exact ⟨⟨_, _, _, _, _, _, _, _, _, rfl, by k_is, by k_is⟩, by k_is⟩)
    (case g_is_answer_to => k_is)
    (case F_is_answer_to => exact ⟨⟨_, _, _, _, _, _, _, _, _, rfl, by k_is, by k_is⟩, by k_is⟩)
    (case g_alike_from => k_is)
    (case F_alike_from => exact ⟨⟨_, _, _, _, _, _, _, _, _, rfl, by k_is, by k_is⟩, by k_is⟩)
    (case g_law_source => k_is)
    (case F_law_source => exact ⟨⟨_, _, _, _, _, _, _, _, _, rfl, by k_is, by k_is⟩, by k_is⟩)
    (case g_law_draw => k_is)
    (case F_law_draw => exact ⟨⟨_, _, _, _, _, _, _, _, _, rfl, by k_is, by k_is⟩, by k_is⟩)
    (case g_law_pick => k_is)
    (case F_law_pick => exact ⟨⟨_, _, _, _, _, _, _, _, _, rfl, by k_is, by k_is⟩, by k_is⟩)
    (case g_law_numbers => k_is)
    (case F_law_numbers => exact ⟨⟨_, _, _, _, _, _, _, _, _, rfl, by k_is, by k_is⟩, by k_is⟩)
    (case g_law_rows => k_is)
    (case F_law_rows => exact ⟨⟨_, _, _, _, _, _, _, _, _, rfl, by k_is, by k_is⟩, by k_is⟩)
    (case g_law_next => k_is)
    (case F_law_next => exact ⟨⟨_, _, _, _, _, _, _, _, _, rfl, by k_is, by k_is⟩, by k_is⟩)
    (case g_law_show => k_is)
    (case F_law_show => exact ⟨⟨_, _, _, _, _, _, _, _, _, rfl, by k_is, by k_is⟩, by k_is⟩)
    (case g_law_behind => k_is)
    (case F_law_behind => exact ⟨⟨_, _, _, _, _, _, _, _, _, rfl, by k_is, by k_is⟩, by k_is⟩)
    (case g_law_all => k_is)
    (case F_law_all => exact ⟨⟨_, _, _, _, _, _, _, _, _, rfl, by k_is, by k_is⟩, by k_is⟩)
    (case g_law => k_is)
    (case F_law => exact ⟨⟨_, _, _, _, _, _, _, _, _, rfl, by k_is, by k_is⟩, by k_is⟩)
    (case gc_Body => k_is)
    (case gc_Machine => k_is)
    (case gc_Walk => k_is)
    (case gc_Stand => k_is)
    (case clB => exact ⟨by k_is, by k_is, by k_is, by k_is⟩)
    (case mkB => k_is)
    (case inB => k_is)
    (case fnB => k_is)
    (case kpB => k_is)
    (case clM => exact ⟨by k_is, by k_is, by k_is, by k_is⟩)
    (case mkM => k_is)
    (case inM => k_is)
    (case fnM => k_is)
    (case kpM => k_is)
    (case clW => exact ⟨by k_is, by k_is, by k_is, by k_is⟩)
    (case mkW => k_is)
    (case inW => k_is)
    (case fnW => k_is)
    (case kpW => k_is)
    (case clS => exact ⟨by k_is, by k_is, by k_is, by k_is⟩)
    (case mkS => k_is)
    (case inS => k_is)
    (case fnS => k_is)
    (case kpS => k_is)
    (case FM => exact ⟨⟨_, _, _, _, _, _, _, _, _, rfl, by k_is, by k_is⟩, by k_is⟩)
    (case FW => exact ⟨⟨_, _, _, _, _, _, _, _, _, rfl, by k_is, by k_is⟩, by k_is⟩)
    (case at_take => k_is)
    (case FT => exact ⟨⟨_, _, _, _, _, _, _, _, _, rfl, by k_is, by k_is⟩, by k_is⟩)
    (case fn_take => k_is)
    (case FB => exact ⟨_, _, _, _, _, _, _, _, rfl, by k_is, by k_is⟩)
    (case kfB => k_is)
    (case nsD => k_is)
    (case nm_counts => (show PySem.W.findIn _ _ _ = _); k_is)
    (case nm_lines => (show PySem.W.findIn _ _ _ = _); k_is)
    (case nm_begin => (show PySem.W.findIn _ _ _ = _); k_is)
    (case nm_stops => (show PySem.W.findIn _ _ _ = _); k_is)
    (case nm_asks => (show PySem.W.findIn _ _ _ = _); k_is)
    (case nm_endings => (show PySem.W.findIn _ _ _ = _); k_is)
    (case nm_endless => (show PySem.W.findIn _ _ _ = _); k_is)
    (case nb_machine => (show PySem.W.findIn _ _ _ = _); k_is)
    (case nw_one => (show PySem.W.findIn _ _ _ = _); k_is)
    (case nw_other => (show PySem.W.findIn _ _ _ = _); k_is)
    (case nw_met => (show PySem.W.findIn _ _ _ = _); k_is)
    (case nw_origins => (show PySem.W.findIn _ _ _ = _); k_is)
    (case FS => exact ⟨⟨_, _, _, _, _, _, _, _, _, rfl, by k_is, by k_is⟩, by k_is⟩)
    (case ns_body => (show PySem.W.findIn _ _ _ = _); k_is)
    (case ns_at => (show PySem.W.findIn _ _ _ = _); k_is)
    (case ns_history => (show PySem.W.findIn _ _ _ = _); k_is)
    (case at_len => k_is)
    (case fn_len => k_is)
    (case FM_len => exact ⟨⟨_, _, _, _, _, _, _, _, _, rfl, by k_is, by k_is⟩, by k_is⟩)
    (case at_call => k_is)
    (case fn_call => k_is)
    (case FM_call => exact ⟨⟨_, _, _, _, _, _, _, _, _, rfl, by k_is, by k_is⟩, by k_is⟩)
    (case fi_call => k_is)
    (case at_shows => k_is)
    (case get_shows => k_is)
    (case tak_shows => k_is)
    (case rec_shows => k_is)
    (case FM_shows => exact ⟨⟨_, _, _, _, _, _, _, _, _, rfl, by k_is, by k_is⟩, by k_is⟩)
    (case at_past => k_is)
    (case get_past => k_is)
    (case tak_past => k_is)
    (case rec_past => k_is)
    (case FM_past => exact ⟨⟨_, _, _, _, _, _, _, _, _, rfl, by k_is, by k_is⟩, by k_is⟩)
    (case z_int => k_is)
    (case z_isinstance => k_is)
    (case z_bool => k_is)
    (case z_str => k_is)
    (case z_list => k_is)
    (case z_tuple => k_is)
    (case z_dict => k_is)
    (case z_len => k_is)
    (case z_all => k_is)
    (case z_range => k_is)
    (case z_sorted => k_is)
    (case z_min => k_is)
    (case z_enumerate => k_is)
    (case z_zip => k_is)
    (case cLET => k_is)
    (case c_LONGEST_NAME => k_is)
    (case c_MOST_OPERATIONS => k_is)
    (case c_MOST_ANSWERS => k_is)
    (case c_MOST_ROWS => k_is)
