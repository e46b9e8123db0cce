import PyProof.Rows.All
import Wide.All
import OpenK.AllK
import Wide.FinOn
import HandS.ForMost
import HandS.Exc
import HandS.ExcInit
import HandS.ExcIs
import HandS.IsInst
import HandS.Wide
import HandS.Defaults
import HandS.ExcValue
import HandS.ExcOwn
import PyProof.EnumMake
import KE.GoesMore
import KE.GoesEnum
import HandS.DictComp
import HandS.Walk
import HandS.Ends
import HandS.Small
import HandS.More
import HandS.Lambda
import HandS.Nested
import KE.KDflt
import HandS.EndTab
import HandS.EndOwn
import HandS.NestedK
import HandS.Words
import HandS.Head0
import HandS.Head1
import HandS.Head2
import HandS.HeadEnd
import HandS.HeadHook1
import HandS.HeadHook2
import HandS.HeadHook3
import HandS.HeadHook4
import HandS.HeadWalk
import HandS.Text
import HandS.FStr
import HandS.RaiseMore
import KE.KDictCopyH
import KE.KDictMeth
import HandS.Dict
import HandS.DictSubView0
import HandS.DictSubView
import KE.KDictWalk
import HandS.TupLen
import HandS.Conv
import HandS.SetKeys
import HandS.Style
import HandS.WordsExc
import PyProof.ExcBaseAll.ValueError
import HandS.SetFor
import HandS.MakeKwOnly
import PyProof.StrOps2
import HandS.ListItems
import HandS.ExcField
import PySem.Challenge.RW_askfurther_k36_texts_that_are_no_bodies
set_option Elab.async false
set_option linter.all false
set_option maxRecDepth 100000
set_option maxHeartbeats 4000000
/-! Own error classes over ValueError, made as values: with keywords, without an own __init__; what isinstance says of them; their fields. -/
namespace PySem
namespace ExoX
open PySem.HandSPX
open Builtin Builtin.ObjectAttr
section
variable {prog : Program} {w : World} {A : Around} {R : Result → Shared → Prop} {Er : Value → Shared → Prop}
variable {hp : Heap} {gs : Array GenState} {dr : Drawn} {tk : Nat} {os : OsState} {kw : List (Str × Value)} {rs : List Value}
variable {nm qn : Str} {Cl Nm : Addr} {bss bm bB sb : List Value} {hd ab : Bool} {sl : List Str} {cl : Option Bool} {dd : Option Addr} {y0 y1 y2 y3 y5 : Option Value} {Bs nI iI : String}
abbrev cobj (nm qn : Str) (Cl Nm : Addr) (bss bm : List Value) (hd : Bool) (sl : List Str) (sb : List Value) (ab : Bool) (cl : Option Bool) (dd : Option Addr) (y0 y1 y2 y3 y5 : Option Value) (nI : String) : Obj :=
  excClassObj nm qn Cl Nm bss bm hd sl sb ab cl dd y0 y1 y2 y3 y5 nI
/-- the check ahead of __new__, with keywords -/
theorem checkNewKw (F : ExcBaseFacts Bs nI iI bB) (hc : ∀ T : String, bm.contains (.type T) = bB.contains (.type T)) {Q : Unit → Shared → Prop}
    (ho : hp.get? Cl = some (cobj nm qn Cl Nm bss bm hd sl sb ab cl dd y0 y1 y2 y3 y5 nI)) (q : Q () ⟨hp, gs, dr, tk, os⟩) :
    wpAny (model prog w) A (checkBuiltinCall nI ⟨.ref Cl :: rs, kw⟩) Q Er ⟨hp, gs, dr, tk, os⟩ := by
  have c1 : (Value.ref Cl :: bm).contains (.type Bs) = true := by
    rw [List.contains_cons, hc, F.hasB, Bool.or_true]
  have c2 := F.noStar
  simp only [checkBuiltinCall, F.newKind, F.newSplit, F.newRow]
  repeat (first
    | refine wpAny_loadPart_at ho ?_
    | (refine wpAny_isSubtype_exc ho ?_; rw [c1])
    | refine wpAny_staticBase_exc ho ?_
    | refine wpAny_madeBy_exc ho ?_
    | simp only [bne_self_eq_false, Bool.false_eq_true, if_false]
    | wp_step)
  exact q
end
section
variable {prog : Program} {w : World} {A : Around} {R : Result → Shared → Prop} {Er : Value → Shared → Prop}
variable {hp : Heap} {gs : Array GenState} {dr : Drawn} {tk : Nat} {os : OsState} {kw : List (Str × Value)} {rs : List Value}
variable {nm qn : Str} {Cl Nm fI : Addr} {bss bm bB sb : List Value} {hd ab : Bool} {sl : List Str} {cl : Option Bool} {dd : Option Addr} {y0 y1 y2 y3 y5 : Option Value} {Bs nI iI : String}
/-- the two objects that __new__ lays -/
abbrev laid (hp : Heap) (rs : List Value) (Cl : Addr) : Heap := (hp.push (PySem.W.kdv_tup rs)).push (excO Cl hp.objs.size)
theorem newKw (F : ExcBaseFacts Bs nI iI bB) (hc : ∀ T : String, bm.contains (.type T) = bB.contains (.type T))
    (ho : hp.get? Cl = some (cobj nm qn Cl Nm bss bm hd sl sb ab cl dd y0 y1 y2 y3 y5 nI)) (hl : rs.length ≤ sizeLine)
    (q : R (.ok (.ret (.ref (hp.objs.size + 1)))) ⟨laid hp rs Cl, gs, dr, tk, os⟩) :
    codeAny (model prog w) A (.builtin nI ⟨.ref Cl :: rs, kw⟩) R ⟨hp, gs, dr, tk, os⟩ := by
  have c0 := F.ends
  have c1 : (Value.ref Cl :: bm).contains (.type Bs) = true := by
    rw [List.contains_cons, hc, F.hasB, Bool.or_true]
  have c2 : (Value.ref Cl :: bm).contains (.type "AttributeError") = false := by
    rw [List.contains_cons, hc, F.noAttr]
    rfl
  have c3 : (Value.ref Cl :: bm).contains (.type "NameError") = false := by
    rw [List.contains_cons, hc, F.noName]
    rfl
  refine codeAny_builtinAt F.entry ?_
  unfold Builtin.«BaseException.__new__»
  refine wpAt_bind ?_
  show wpAt _ _ _ (stack >>= _) _ _ _
  refine wpAt_bind (wpAt_stack fun p below => wpAt_of_wpAny ?_)
  wp_walk
  refine wpAt_of_wpAny ?_
  rw [F.owner]
  repeat (first
    | with_reducible refine wpAny_madeHere_exc F.canon ho ?_
    | with_reducible refine wpAny_loadPart_at ho ?_
    | (with_reducible refine wpAny_isSubtype_exc ho ?_; first | rw [c1] | rw [c2] | rw [c3])
    | wp_step)
  show R _ _
  rw [Heap.size_push]
  exact q
theorem typeCallKw (F : ExcBaseFacts Bs nI iI bB) (hc : ∀ T : String, bm.contains (.type T) = bB.contains (.type T)) {Q : Fin → Shared → Prop}
    (ho : hp.get? Cl = some (cobj nm qn Cl Nm bss bm hd sl sb ab cl dd y0 y1 y2 y3 y5 nI))
    (li : PySem.W.Looks (model prog w) hp (typeLookup (.ref Cl) "__init__") (some (.ref fI)))
    (lb : ∀ self, PySem.W.Looks (model prog w) hp (bindSpecial (.ref fI) self) (.ref fI, [self])) (hl : rs.length ≤ sizeLine)
    (q : codeAny (model prog w) A (.call (.ref fI) ⟨.ref (hp.objs.size + 1) :: rs, kw⟩)
      (fun r s' => match r with | .ok (.ret v) => v = .none ∧ Q (.done (.ret (.ref (hp.objs.size + 1)))) s' | .ok _ => False | .error e => Er e s')
      ⟨laid hp rs Cl, gs, dr, tk, os⟩) :
    wpAny (model prog w) A (Builtin.«type.__call__» ⟨.ref Cl :: rs, kw⟩) Q Er ⟨hp, gs, dr, tk, os⟩ := by
  repeat (first
    | with_reducible refine wpAny_loadPart_at ho ?_
    | with_reducible refine wpAny_madeBy_exc ho ?_
    | wp_step)
  refine codeAny_call_builtin_code (Code.quiet_builtin _ F.quiet) (checkNewKw F hc ho ?_)
  refine newKw F hc ho hl ?_
  show wpAny _ _ _ _ _ _
  have kp : ∀ b o, hp.get? b = some o → (laid hp rs Cl).get? b = some o := fun b o e =>
    Heap.get?_push_of_some _ (Heap.get?_push_of_some _ e)
  have ho1 := kp _ _ ho
  have hx : (laid hp rs Cl).get? (hp.objs.size + 1) = some (excO Cl hp.objs.size) := by heap_get
  have cc : (Value.ref Cl :: bm).contains (.ref Cl) = true := by simp
  have li1 := li.keeps kp
  have lb1 := (lb (.ref (hp.objs.size + 1))).keeps kp
  unfold isInstance
  repeat (first
    | with_reducible refine wpAny_loadPart_at hx ?_
    | (with_reducible refine wpAny_isSubtype_exc ho1 ?_; rw [cc])
    | wp_step)
  show wpAny _ _ (typeLookup (.ref Cl) _) _ _ _
  refine li1.at ?_
  refine wpAny_holding (wpAny_bind (lb1.at ?_))
  refine wpAny_bind (wpAny_call (codeAny_mono q fun r s' z => ?_))
  rcases r with e | (v | _ | _ | _) <;> first | exact z | exact z.elim | skip
  obtain ⟨rfl, z⟩ := z
  first
    | exact wpAny_pure (wpAny_pure z)
    | (wp_walk; exact z)
/-- C(.., k = v ..): the object is laid, then C's own __init__ runs -/
theorem callKw (F : ExcBaseFacts Bs nI iI bB) (hc : ∀ T : String, bm.contains (.type T) = bB.contains (.type T))
    (ho : hp.get? Cl = some (cobj nm qn Cl Nm bss bm hd sl sb ab cl dd y0 y1 y2 y3 y5 nI))
    (li : PySem.W.Looks (model prog w) hp (typeLookup (.ref Cl) "__init__") (some (.ref fI)))
    (lb : ∀ self, PySem.W.Looks (model prog w) hp (bindSpecial (.ref fI) self) (.ref fI, [self])) (hl : rs.length ≤ sizeLine)
    (q : codeAny (model prog w) (A.under (.builtin "type.__call__" ⟨.ref Cl :: rs, kw⟩)) (.call (.ref fI) ⟨.ref (hp.objs.size + 1) :: rs, kw⟩)
      (PySem.W.InitBack (hp.objs.size + 1) R) ⟨laid hp rs Cl, gs, dr, tk, os⟩) :
    codeAny (model prog w) A (.call (.ref Cl) ⟨rs, kw⟩) R ⟨hp, gs, dr, tk, os⟩ := by
  have f1 := tc_lookup
  have f2 := tc_bind (.ref Cl)
  have hty : (⟨hp, gs, dr, tk, os⟩ : Shared).TypeIs (.ref Cl) "type" := ⟨_, ho, rfl⟩
  refine codeAny_of_tree ?_
  show wpAny _ _ (callAny (.ref Cl) _) _ _ _
  repeat (any_goals (first
    | assumption
    | with_reducible refine wpAny_loadPart_at ho ?_
    | wp_step))
  refine ⟨rfl, ?_⟩
  refine codeAny_call_builtin_at (Code.quiet_builtin _ (by decide +kernel)) entry_typeCall (wpAny_check_type_call_sub ho (typeCallKw F hc ho li lb hl ?_))
  refine codeAny_mono q fun r s' z => ?_
  rcases r with e | (v | _ | _ | _) <;> exact z
end
end ExoX
end PySem

set_option maxRecDepth 100000
set_option maxHeartbeats 4000000
namespace L2
open PySem PySem.Spec PyProof.Rows
section
variable {X : Cx} {CX : CXT} {k n : Nat} {fI C : Addr} {fd : FuncData} {ps ks : List Str} {sp : Sp} {E : XK} {g : List Value → List Value → List Value} {gV : List V → List V → List V}
variable {pins : List (Addr × Obj)} {σ : St} {H : Hp} {s : Shared} {x : Str} {p pos : Pos} {e : Expr} {es : List Expr} {kws : List Keyword} {t tk : TA}
/-- the object is laid, C's own __init__ keeps sp -/
theorem run_exo {Q : VK} {us ws : List Value} {vs zs : List V} (T : OexC X.K C) (iC : PySem.W.findIn X.K (.ref C) "__init__" = some (some (.ref fI)))
    (tI : PySem.W.typeIn X.K (.ref fI) = some (.type "function")) (F : FnOk X.prog X.w X.K X.mg X.base CX k fI fd ps sp) (hr : Room (k + 1) X.A)
    (hb : KBn X.K fd ps (n + 1) ks g gV) (hx : Passes CX X E) (I : Inv X pins σ H s) (r : Vals vs us) (rz : Vals zs ws) (l1 : vs.length = n) (l2 : zs.length = ks.length) (l3 : n ≤ 1000)
    (h : ∀ a, H a = none → sp (gV (.ref a :: vs) zs) (upd H a (exo a C none)) (fun v H2 => v = .non ∧ Q (.ref a) H2) E) :
    wpAny (model X.prog X.w) X.A (call (.ref C) us (ks.zip ws)) (EP X pins σ Q) X.xe s := by
  obtain ⟨nm, q, N, bs, bm, sn, sub, ab, col, dd, k0, k1, k2, k3, k5, hC, hbm⟩ := T.cls
  obtain ⟨hp, gs, dr, t0, os⟩ := s
  have up : hp.objs.size ≤ hp.objs.size + 1 := Nat.le_succ _
  have hq := h (hp.objs.size + 1) (I.hok.fresh up)
  have kk : ∀ b o, hp.get? b = some o → (PySem.ExoX.laid hp us C).get? b = some o := fun b o z =>
    Heap.get?_push_of_some _ (Heap.get?_push_of_some _ z)
  have hg : (PySem.ExoX.laid hp us C).get? (hp.objs.size + 1) = some (PySem.HandSPX.excO C hp.objs.size) := by heap_get
  have I2 : Inv X pins σ (upd H (hp.objs.size + 1) (exo (hp.objs.size + 1) C none)) ⟨PySem.ExoX.laid hp us C, gs, dr, t0, os⟩ :=
    I.laid (t' := t0) (a := hp.objs.size + 1) (o := exo (hp.objs.size + 1) C none) (h' := PySem.ExoX.laid hp us C) kk up (exo_ok hg)
  have r1 : Vals (V.ref (hp.objs.size + 1) :: vs) (Value.ref (hp.objs.size + 1) :: us) := .cons rfl r
  have r2 := hb.rel r1 rz
  have e1 : (Value.ref (hp.objs.size + 1) :: us).length = n + 1 := r1.length.symm.trans (congrArg Nat.succ l1)
  have e2 : ws.length = ks.length := rz.length.symm.trans l2
  have hus : us.length ≤ sizeLine := by
    rw [← r.length, l1, sizeLine_eq]
    omega
  refine wpAny_call (PySem.ExoX.callKw PySem.F.excBase_ValueError (fun Y => PySem.HandSPX.refsVE_contains Y bm hbm) (I.kIn _ _ hC) (PySem.W.looks_findIn I.kIn iC) (fun self => PySem.W.bind_fn I.kIn self tI) hus ?_)
  refine codeAny_mono (F.run _ X.stack _ _ ⟨Value.ref (hp.objs.size + 1) :: us, ks.zip ws⟩ (g (Value.ref (hp.objs.size + 1) :: us) ws) _ _ E (hr.make C us (ks.zip ws)) (I2.env0.make C us (ks.zip ws)) (hb.to _ (Value.ref (hp.objs.size + 1) :: us) ws I2.kIn e1 e2) r2 hq) fun r s' hq' => ?_
  cases r with
  | error er => exact hx pins σ _ _ er s' I2 hq'
  | ok fl =>
    cases fl with
    | ret u =>
      obtain ⟨v, H', I3, rv, ev, q3⟩ := I2.after hq'
      subst ev
      exact ⟨rv, ⟨V.ref (hp.objs.size + 1), H', I3, rfl, q3⟩⟩
    | next => exact False.elim hq'
    | brk => exact False.elim hq'
    | cont => exact False.elim hq'
/-- C(e, .., k = v, ..) as a value -/
def tExoN (C : Addr) (n m : Nat) (sp : Sp) (gV : List V → List V → List V) (E : XK) (t tk : TA) : TE := fun σ H Q => t σ H fun vs H1 => tk σ H1 fun zs H2 => vs.length = n ∧ zs.length = m ∧
  ∀ a, H2 a = none → sp (gV (.ref a :: vs) zs) (upd H2 a (exo a C none)) (fun v H3 => v = .non ∧ Q (.ref a) H3) E
theorem pe_exo1 (T : OexC X.K C) (iC : PySem.W.findIn X.K (.ref C) "__init__" = some (some (.ref fI))) (tI : PySem.W.typeIn X.K (.ref fI) = some (.type "function"))
    (F : FnOk X.prog X.w X.K X.mg X.base CX k fI fd ps sp) (hr : Room (k + 1) X.A) (hg : Gl X x) (hm : X.mg x = some (.ref C)) (hb : KBn X.K fd ps (n + 1) [] g gV) (hx : Passes CX X E) (l3 : n ≤ 1000)
    (ha : PA X (e :: es) t) (hdb : (x == ("__debug__" : Str)) = false := by decide) (he : starEach (e :: es) X.env = (false, eval e X.env) :: starEach es X.env := by rfl)
    (hpl : (backTo pos (starEach es X.env)).any (·.1) = false := by rfl) :
    PE X (.Call (.Name x p) (e :: es) [] pos) (tExoN C n 0 sp gV E t tNil) := by
  refine ⟨fun pins s σ H Q I h => ?_⟩
  refine wpAny_Call_Name_kw (ld_glob I hg hm ?_ hdb)
  refine PySem.W.callWith_K (h₀ := X.base) I.ok.mod.kin T.kC (thn (ha.run pos pins s σ H _ I h) fun us s1 ⟨vs, H1, I1, r, l1, l2, q⟩ => ⟨I1.kIn, ?_⟩) he hpl
  exact run_exo (ks := []) (ws := []) (zs := []) T iC tI F hr hb hx I1 r .nil l1 rfl l3 q
/-- keywords alone -/
theorem pe_exoK (T : OexC X.K C) (iC : PySem.W.findIn X.K (.ref C) "__init__" = some (some (.ref fI))) (tI : PySem.W.typeIn X.K (.ref fI) = some (.type "function"))
    (F : FnOk X.prog X.w X.K X.mg X.base CX k fI fd ps sp) (hr : Room (k + 1) X.A) (hg : Gl X x) (hm : X.mg x = some (.ref C)) (hb : KBn X.K fd ps (0 + 1) ks g gV) (hx : Passes CX X E)
    (hkw : PK X kws tk) (hall : (backToKw pos (keywordEach kws X.env)).all (·.1.isSome) = true := by rfl) (hks : (backToKw pos (keywordEach kws X.env)).filterMap (·.1) = ks := by rfl)
    (hdb : (x == ("__debug__" : Str)) = false := by decide)
    (hpl : ((backTo pos (starEach [] X.env)).any (·.1) || (backToKw pos (keywordEach kws X.env)).any (·.1.isNone)) = false := by rfl) :
    PE X (.Call (.Name x p) [] kws pos) (tExoN C 0 ks.length sp gV E tNil tk) := by
  refine ⟨fun pins s σ H Q I h => ?_⟩
  refine wpAny_Call_Name_kw (ld_glob I hg hm ?_ hdb)
  refine PySem.W.callWith_KW0 (h₀ := X.base) I.ok.mod.kin T.kC hall (thn (hkw.run pos pins s σ H _ I h) fun ws s2 ⟨zs, H2, I2, rz, l1, l2, q2⟩ => ⟨I2.kIn, ?_⟩) hpl
  rw [hks]
  exact run_exo (us := []) (vs := []) T iC tI F hr hb hx I2 .nil rz l1 l2 (Nat.zero_le _) q2
/-- C(), a class without an own __init__ -/
def tExo0 (C : Addr) : TE := fun _ H Q => ∀ a, H a = none → Q (.ref a) (upd H a (exo a C none))
theorem pe_exo0 (q : PySem.W.excIn X.K C [.type "ValueError", .type "Exception", .type "BaseException", .type "object"] "ValueError.__new__" = true) (kC : PySem.W.keepIn X.K (.ref C) = true) (hg : Gl X x) (hm : X.mg x = some (.ref C))
    (hdb : (x == ("__debug__" : Str)) = false := by decide) : PE X (.Call (.Name x p) [] [] pos) (tExo0 C) := by
  refine ⟨fun pins s σ H Q I h => ?_⟩
  refine wpAny_Call_Name_kw (ld_glob I hg hm ?_ hdb)
  refine PySem.W.callWith_K0 I.kIn kC ?_
  show wpAny _ _ (call (.ref C) []) _ _ _
  obtain ⟨bm, N, nm, qn, bs, hdct, sn, sub, ab, col, dd, k0, k1, k2, k3, k5, mN, hC, hN, hni, T⟩ := exc_obj I.kIn q
  refine wpAny_call_exc_subT PySem.F.excBase_ValueError T hC hN hni (fun h' a hm => ?_) (by show 0 ≤ sizeLine; rw [sizeLine_eq]; omega)
  have hn : H a = none := I.hok.gone hm.new
  obtain ⟨t, ht, _, _⟩ := hm.there
  exact ⟨.ref a, upd H a (exo a C none), I.laidN hm.keeps hm.new hn (exo_ok ht), rfl, h a hn⟩
end
end L2

set_option maxRecDepth 100000
set_option maxHeartbeats 4000000
namespace PySem.ExoX
open PySem PySem.W PySem.Calls PyProof.Rows PySem.Spec
section
variable {prog : Program} {w : World} {A : Around} {Er : Value → Shared → Prop} {s : Shared} {K : Frag} {x D : Addr} {ob : Obj} {own : Option Obj}
/-- a class's own attribute that takes what is read off an instance, whatever the instance's dict holds -/
theorem find_data {nm : Str} {a g : Value} (c0 : (clsIn K D).isSome = true) (c1 : findIn K (.ref D) nm = some (some a)) (c2 : specialIn K a "__get__" = some (some g)) (c3 : takesIn K a = some true) :
    findObj K D own nm = some (.bind g a) := by
  obtain ⟨cd, c0⟩ := Option.isSome_iff_exists.mp c0
  unfold findObj
  rw [c0, Option.bind_some, c1, Option.bind_some]
  simp [c2, c3]
/-- e.__class__ of such an error, with or without a dict -/
theorem class_of {Q : Option Value → Shared → Prop} (T : L2.ExcC K D) (X : K.In s.heap) (I : InstAt s.heap x ob D own) (q : Q (some (.ref D)) { s with toks := s.toks + 1 }) :
    wpAny (model prog w) A (getAttr? (.ref x) "__class__") Q Er s := by
  have fd : findObj K D own "__class__" = some (.bind (.builtin "getset_descriptor.__get__") (.builtin "object.__class__")) :=
    find_data (by
      obtain ⟨cd, z, _⟩ := any_some T.hd
      rw [z]
      rfl) T.ha T.hn T.ht
  obtain ⟨hh, gg, dd, tt, oo⟩ := s
  have l0 := I.type (M := model prog w)
  have l1 := looks_findIn (M := model prog w) X T.hg
  have l2 := looks_findIn (M := model prog w) X T.hk
  have l3 := looks_find (M := model prog w) X I fd
  have l4 : Looks (model prog w) hh (isInstance (.ref x) (.type "BaseException")) true := l0.andThen (looks_subIn X T.hs)
  have n0 : (false && onTheHeap (Value.builtin "BaseException.__getattribute__")) = false := rfl
  have n2 : (Value.builtin "BaseException.__getattribute__" == Value.builtin "object.__getattribute__") = false := by
    decide +kernel
  have n1 : (onTheHeap (Value.ref D) && Value.builtin "BaseException.__getattribute__" == Value.builtin "object.__getattribute__") = false := by
    rw [n2]
    rfl
  unfold getAttr? getAttrBy? getAttrBy
  refine wpAny_bind (wpAny_mkText (wpAny_bind (wpAny_attempt (wpAny_holding (wpAny_bind (l0.at (wpAny_bind (l1.at ?_))))))))
  show wpAny _ _ (if (onTheHeap (Value.ref D) && Value.builtin "BaseException.__getattribute__" == Value.builtin "object.__getattribute__") = true then _ else _) _ _ _
  rw [n1, if_neg Bool.false_ne_true]
  unfold getAttrByItsOwn hookBefore
  refine wpAny_bind ?_
  rw [if_pos (show onTheHeap (Value.ref D) = true from rfl)]
  refine l2.at ?_
  refine wpAny_bind (wpAny_attempt (wpAny_holding ?_))
  unfold callGetattribute
  rw [n0, if_neg Bool.false_ne_true]
  unfold boundAndCalled
  rw [PySem.F.excAttr_ValueError.ga.bind (.ref x)]
  refine wpAny_bind (wpAny_pure ?_)
  show wpAny _ _ (call (.builtin "BaseException.__getattribute__") [.ref x, .str "__class__" tt]) _ _ _
  refine wpAny_call (codeAny_call_builtin PySem.F.excAttr_ValueError.ga.plain PySem.F.entry_bexc_ga ?_)
  refine @check_slot (model prog w) _ _ ⟨hh, gg, dd, tt + 1, oo⟩ "BaseException.__getattribute__" "BaseException" "__getattribute__" (.ref x) [.str "__class__" tt] [] _
    (by decide +kernel) (by decide +kernel) l4 (PySem.F.args_bexc_ga (.ref x) (.str "__class__" tt)) ?_
  unfold Builtin.«object.__getattribute__»
  refine wpAny_bind (wpAny_of_eq (a := ((Value.ref x : Value), [Value.str "__class__" tt])) (by first | rfl | (simp only [slotArgs]; rfl)) ?_)
  refine wpAny_bind (wpAny_pure (wpAny_bind (l0.at (wpAny_bind (l3.at ?_)))))
  show wpAny _ _ (holding [Value.builtin "object.__class__"] (call (.builtin "getset_descriptor.__get__") [.builtin "object.__class__", .ref x, .ref D]) >>= ret) _ _ _
  refine wpAny_bind (wpAny_holding (wpAny_call (class_get (s := ⟨hh, gg, dd, tt + 1, oo⟩) (ox := ob) (od := own) X I T.hm ?_)))
  refine wpAny_pure ?_
  show wpAny _ _ (handedOut (.ref D)) _ _ _
  rw [handedOut_of (v := .ref D) rfl]
  first
    | exact wpAny_pure (wpAny_pure q)
    | exact wpAny_pure q
    | exact wpAny_pure (wpAny_bind (wpAny_pure (wpAny_pure q)))
theorem kitExo (T : L2.ExcC K D) : KitX K (.ref x) (.ref D) (fun h => ∃ ob own, InstAt h x ob D own) where
  ty := fun _ _ _ ⟨_, _, I⟩ => I.type
  it := fun _ _ X _ => by
    obtain ⟨cd, z, _⟩ := any_some T.hd
    unfold clsIn at z
    split at z
    · rename_i c1 c2 c3 c4 lk
      intro A' Q' E' s' kp q
      unfold isType loadHead
      exact wpAny_bind (wpAny_loadPart (kp _ _ (X _ _ lk)) (wpAny_pure q))
    · cases z
  ne := fun h tp dd its n sl X lk2 => by
    obtain ⟨cd, z, _⟩ := any_some T.hd
    refine Bool.eq_false_iff.mpr fun q => ?_
    have e : D = tp := Value.ref.inj (beq_iff_eq.mp q)
    subst e
    unfold clsIn at z
    split at z
    · rename_i c1 c2 c3 c4 lk
      have y := (X _ _ lk).symm.trans lk2
      cases y
    · cases z
  ca := fun X ⟨_, _, I⟩ q => class_of T X I q
end
end PySem.ExoX
namespace L2
open PySem PySem.Spec PyProof.Rows
/-- an error of the class at C stands at a, with no dict or with its own -/
def ErrAt (H : Hp) (a C : Addr) : Prop := H a = some (exo a C none) ∨ ∃ dx fs, H a = some (exo a C (some dx)) ∧ H dx = some (exd dx fs)
theorem inst_exo {X : Cx} {pins : List (Addr × Obj)} {σ : St} {H : Hp} {s : Shared} {a C : Addr} (I : Inv X pins σ H s) (e : ErrAt H a C) : ∃ ob own, PySem.W.InstAt s.heap a ob C own := by
  rcases e with e | ⟨dx, fs, e, ed⟩
  · obtain ⟨t, ho⟩ := exo_at I.hok e
    exact ⟨_, none, ho, rfl, rfl, trivial⟩
  · obtain ⟨t, ho⟩ := exo_at I.hok e
    obtain ⟨mA, hns, _⟩ := exd_at I.hok ed
    obtain ⟨o, _, _, ho2, _⟩ := hns
    exact ⟨_, some o, ho, rfl, rfl, ho2⟩
def rIsExo (K : PySem.W.Frag) : List V → Hp → VK → Prop := fun xs H Q => ∃ (a C : Addr) (c : V) (u : Value) (b : Bool), xs = [.ref a, c] ∧ ErrAt H a C ∧ ClsV c u ∧ ExcC K C ∧ PySem.W.kitOne K (.ref C) u = some b ∧ Q (.bl b) H
theorem call_isExo {X : Cx} : CallR X (.builtin "isinstance") (rIsExo X.K) := by
  intro pins s σ H xs us Q I r h
  obtain ⟨a, C, c, u, b, rfl, ea, k, T, e, q⟩ := h
  obtain ⟨u1, u2, rfl, r1, r2⟩ := vals2 r
  cases (show u1 = Value.ref a from r1)
  have e2 := k.eq r2
  subst e2
  exact PySem.W.kia_one (PySem.ExoX.kitExo T) I.kIn (inst_exo I ea) e (fun z => nomatch z) fun tk => ⟨.bl b, H, I.tok tk, rfl, q⟩
/-- e.f of such an error -/
def tExoF (K : PySem.W.Frag) (te : TE) (f : Str) : TE := fun σ H Q => te σ H fun x H1 => ∃ (a C dx : Addr) (fs : List (Str × V)) (v : V), x = .ref a ∧ H1 a = some (exo a C (some dx)) ∧ H1 dx = some (exd dx fs) ∧
  ExcC K C ∧ PySem.W.findIn K (.ref C) f = some none ∧ fs.lookup f = some v ∧ Q v H1
theorem pe_exoF {X : Cx} {e : Expr} {te : TE} {f : Str} {pos : Pos} (he : PE X e te) (hb : attributeBase e f X.env (eval e X.env) = eval e X.env := by rfl) : PE X (.Attribute e f pos) (tExoF X.K te f) := by
  refine ⟨fun pins s σ H Q I h => ?_⟩
  refine attr_of hb (thn (he.run pins s σ H _ I h) fun u s1 ⟨x, H1, I1, rx, a, C, dx, fs, v, ex, ea, ed, T, hno, lf, q⟩ => ?_)
  subst ex
  obtain rfl : u = Value.ref a := rx
  obtain ⟨t, ho⟩ := exo_at I1.hok ea
  obtain ⟨mA, hns, hr⟩ := exd_at I1.hok ed
  obtain ⟨od, ho2, hl⟩ := lookIn_ns hns
  obtain ⟨u, hu, ru⟩ := RelO.some_of (v := v) (o := mA f) (by rw [← lf]; exact hr f)
  have J : PySem.W.InstAt s1.heap a _ C (some od) := ⟨ho, rfl, rfl, ho2⟩
  exact HandSPX.exc_get I1.kIn J T.hg T.hk T.hs (PySem.W.findObj_own T.hd hno rfl (by rw [hl, hu])) (handed_of ru) ⟨v, H1, I1.tok _, ru, q⟩
end L2

set_option maxRecDepth 100000
set_option maxHeartbeats 4000000
/-! Rules whose reading hands on a heap by what is true of it: all that was tracked stands, the new thing is there. -/
namespace L2
open PySem PySem.Spec PyProof.Rows
theorem sameNew {H : Hp} {p : Addr} (n : H p = none) (o : HO) : Same H (upd H p o) := fun b u e => by
  rw [upd_ne (ne_of_none e n)]
  exact e
section
variable {X : Cx} {es : List Expr} {t : TA} {pos : Pos}
/-- a new thing at p -/
def New (H : Hp) (o : HO) (Q : VK) : Prop := ∀ (p : Addr) (H' : Hp), H p = none → Same H H' → H' p = some o → Q (.ref p) H'
theorem New.at {H : Hp} {o : HO} {Q : VK} (h : New H o Q) {p : Addr} (n : H p = none) : Q (.ref p) (upd H p o) := h p _ n (sameNew n o) upd_same
def gLstN (t : TA) : TE := fun σ H Q => t σ H fun xs H1 => xs.length ≤ sizeLine ∧ New H1 (.lst xs) Q
def gTup' (t : TA) : TE := fun σ H Q => t σ H fun xs H1 => xs.length ≤ sizeLine ∧ New H1 (.tup xs) Q
theorem PA.imp {t' : TA} (h : PA X es t) (m : ∀ σ H Q, t' σ H Q → t σ H Q) : PA X es t' := ⟨fun pos pins s σ H Q I q => h.run pos pins s σ H Q I (m σ H Q q)⟩
/-- what is asked behind a list of arguments may be read in a weaker way -/
theorem pe_lstG (h : PA X es t) : PE X (.List es pos) (gLstN t) := by
  have z : PE X (.List es pos) (tLst fun σ H R => ∃ R', t σ H R' ∧ ∀ xs H1, R' xs H1 → R xs H1) := by
    refine pe_lst ⟨fun pos pins s σ H R I ⟨R', h1, h2⟩ => ?_⟩
    refine thn (h.run pos pins s σ H R' I h1) fun us s1 ⟨vs, H1, I1, r, q⟩ => ⟨vs, H1, I1, r, h2 _ _ q⟩
  exact ⟨fun pins s σ H Q I q => z.run pins s σ H Q I ⟨_, q, fun xs H1 ⟨l, k⟩ => ⟨l, fun p n => k.at n⟩⟩⟩
theorem pe_tupG {x1} (h : PA X es t) : PE X (.Tuple es x1 pos) (gTup' t) := by
  have z : PE X (.Tuple es x1 pos) (tTup fun σ H R => ∃ R', t σ H R' ∧ ∀ xs H1, R' xs H1 → R xs H1) := by
    refine pe_tup ⟨fun pos pins s σ H R I ⟨R', h1, h2⟩ => ?_⟩
    refine thn (h.run pos pins s σ H R' I h1) fun us s1 ⟨vs, H1, I1, r, q⟩ => ⟨vs, H1, I1, r, h2 _ _ q⟩
  exact ⟨fun pins s σ H Q I q => z.run pins s σ H Q I ⟨_, q, fun xs H1 ⟨l, k⟩ => ⟨l, fun p n => k.at n⟩⟩⟩
def rCatG : R2 := fun x y H Q => ∃ l b xs zs, x = .ref l ∧ y = .ref b ∧ H l = some (.lst xs) ∧ H b = some (.lst zs) ∧ xs.length + zs.length ≤ sizeLine ∧ New H (.lst (xs ++ zs)) Q
theorem op_catG : OpR X (binaryOp .Add) rCatG := fun pins s σ H x y v u Q I rx ry ⟨l, b, xs, zs, e1, e2, e3, e4, e5, k⟩ => op_cat pins s σ H x y v u Q I rx ry ⟨l, b, xs, zs, e1, e2, e3, e4, e5, fun p n => k.at n⟩
def rSlLG (K : PySem.W.Frag) : V → Option Int → Option Int → Hp → VK → Prop := fun x lo hi H Q => ∃ a xs, x = .ref a ∧ SqL K H a xs ∧ New H (.lst (cutV xs lo hi)) Q
theorem sl_listG : SlR X (rSlLG X.K) := fun pins s σ H x v vl vu lo hi sl Q I rx hs pl pu ⟨a, xs, e, hx, k⟩ => sl_list pins s σ H x v vl vu lo hi sl Q I rx hs pl pu ⟨a, xs, e, hx, fun p n => k.at n⟩
end
theorem pe_imp {X : Cx} {e : Expr} {t t' : TE} (h : PE X e t) (m : ∀ σ H Q, t' σ H Q → t σ H Q) : PE X e t' := ⟨fun pins s σ H Q I q => h.run pins s σ H Q I (m σ H Q q)⟩
theorem Same.err {H H' : Hp} {a C : Addr} (s : Same H H') (e : ErrAt H a C) : ErrAt H' a C := by
  rcases e with e | ⟨dx, fs, e, ed⟩
  · exact .inl (s _ _ e)
  · exact .inr ⟨dx, fs, s _ _ e, s _ _ ed⟩
/-- the field is kept: __init__(self, f) -/
def spInit (C : Addr) (fld : Str) : Sp := fun vs H Q _ => ∃ (a : Addr) (v : V), vs = [.ref a, v] ∧ H a = some (exo a C none) ∧
  ∀ (dx : Addr) (H' : Hp), (∀ b o, b ≠ a → H b = some o → H' b = some o) → H' a = some (exo a C (some dx)) → H' dx = some (exd dx [(fld, v)]) → Q .non H'
/-- a new error with a field -/
def NewE (C : Addr) (fld : Str) (v : V) (H : Hp) (Q : VK) : Prop := ∀ (a dx : Addr) (H' : Hp), H a = none → Same H H' → H' a = some (exo a C (some dx)) → H' dx = some (exd dx [(fld, v)]) → Q (.ref a) H'
section
variable {X : Cx} {CX : CXT} {k : Nat} {fI C : Addr} {fd : FuncData} {fld : Str} {E : XK} {x : Str} {p pos : Pos} {e : Expr} {te : TE} {nm : Option Str} {kpos : Pos}
theorem bind1 {K : PySem.W.Frag} {n : Str} (h : ∀ (a b : Value), bindArgs fd ⟨[a], [(n, b)]⟩ = pure ([(("self" : Str), a), (n, b)] : List (Str × Value))) : KBn K fd ["self", n] (0 + 1) [n] (fun us ws => us ++ ws) (fun vs zs => vs ++ zs) where
  to := fun s us ws _ l1 l2 => match us, ws, l1, l2 with
    | [a], [b], _, _ => .of_eq (h a b)
  rel := fun r rz => r.append rz
theorem bind2 {K : PySem.W.Frag} {n : Str} (h : ∀ (a b : Value), bindArgs fd ⟨[a, b], []⟩ = pure ([(("self" : Str), a), (n, b)] : List (Str × Value))) : KBn K fd ["self", n] (1 + 1) [] (fun us ws => us ++ ws) (fun vs zs => vs ++ zs) where
  to := fun s us ws _ l1 l2 => match us, ws, l1, l2 with
    | [a, b], [], _, _ => .of_eq (h a b)
  rel := fun r rz => r.append rz
/-- C(f = e) -/
def gExoK (C : Addr) (fld : Str) (te : TE) : TE := fun σ H Q => te σ H fun v H1 => NewE C fld v H1 Q
theorem exo_end {v : V} {H1 : Hp} {Q : VK} {E : XK} (q : NewE C fld v H1 Q) (a : Addr) (n : H1 a = none) : spInit C fld [.ref a, v] (upd H1 a (exo a C none)) (fun u H3 => u = .non ∧ Q (.ref a) H3) E :=
  ⟨a, v, rfl, upd_same, fun dx H' s e1 e2 => ⟨rfl, q a dx H' n (fun b o hb => s b o (ne_of_none hb n) (by rw [upd_ne (ne_of_none hb n)]; exact hb)) e1 e2⟩⟩
theorem pe_exoKG (T : OexC X.K C) (iC : PySem.W.findIn X.K (.ref C) "__init__" = some (some (.ref fI))) (tI : PySem.W.typeIn X.K (.ref fI) = some (.type "function"))
    (F : FnOk X.prog X.w X.K X.mg X.base CX k fI fd ["self", fld] (spInit C fld)) (hr : Room (k + 1) X.A) (hg : Gl X x) (hm : X.mg x = some (.ref C)) (hb : ∀ (a b : Value), bindArgs fd ⟨[a], [(fld, b)]⟩ = pure ([(("self" : Str), a), (fld, b)] : List (Str × Value))) (hx : Passes CX X E)
    (he : PE X e te) (hall : (backToKw pos (keywordEach [⟨nm, e, kpos⟩] X.env)).all (·.1.isSome) = true := by rfl) (hks : (backToKw pos (keywordEach [⟨nm, e, kpos⟩] X.env)).filterMap (·.1) = [fld] := by rfl)
    (hdb : (x == ("__debug__" : Str)) = false := by decide)
    (hpl : ((backTo pos (starEach [] X.env)).any (·.1) || (backToKw pos (keywordEach [⟨nm, e, kpos⟩] X.env)).any (·.1.isNone)) = false := by rfl) :
    PE X (.Call (.Name x p) [] [⟨nm, e, kpos⟩] pos) (gExoK C fld te) := by
  have z : PE X e (fun σ H R => ∃ R', te σ H R' ∧ ∀ v H1, R' v H1 → R v H1) := ⟨fun pins s σ H R I ⟨R', h1, h2⟩ => thn (he.run pins s σ H R' I h1) fun us s1 ⟨v, H1, I1, r, q⟩ => ⟨v, H1, I1, r, h2 _ _ q⟩⟩
  refine pe_imp (pe_exoK (E := E) T iC tI F hr hg hm (bind1 (K := X.K) hb) hx (pk_cons z pk_nil) hall hks hdb hpl) fun σ H Q q => ?_
  exact ⟨_, q, fun v H1 q1 => ⟨rfl, rfl, fun a n => exo_end q1 a n⟩⟩
theorem pe_exoPG (T : OexC X.K C) (iC : PySem.W.findIn X.K (.ref C) "__init__" = some (some (.ref fI))) (tI : PySem.W.typeIn X.K (.ref fI) = some (.type "function"))
    (F : FnOk X.prog X.w X.K X.mg X.base CX k fI fd ["self", fld] (spInit C fld)) (hr : Room (k + 1) X.A) (hg : Gl X x) (hm : X.mg x = some (.ref C)) (hb : ∀ (a b : Value), bindArgs fd ⟨[a, b], []⟩ = pure ([(("self" : Str), a), (fld, b)] : List (Str × Value))) (hx : Passes CX X E)
    (he : PE X e te) (hdb : (x == ("__debug__" : Str)) = false := by decide) (hs : starEach [e] X.env = (false, eval e X.env) :: starEach [] X.env := by rfl)
    (hpl : (backTo pos (starEach [] X.env)).any (·.1) = false := by rfl) :
    PE X (.Call (.Name x p) [e] [] pos) (gExoK C fld te) := by
  have z : PE X e (fun σ H R => ∃ R', te σ H R' ∧ ∀ v H1, R' v H1 → R v H1) := ⟨fun pins s σ H R I ⟨R', h1, h2⟩ => thn (he.run pins s σ H R' I h1) fun us s1 ⟨v, H1, I1, r, q⟩ => ⟨v, H1, I1, r, h2 _ _ q⟩⟩
  refine pe_imp (pe_exo1 (E := E) T iC tI F hr hg hm (bind2 (K := X.K) hb) hx (by decide) (pa_cons z pa_nil hs) hdb hs hpl) fun σ H Q q => ?_
  exact ⟨_, q, fun v H1 q1 => ⟨rfl, rfl, fun a n => exo_end q1 a n⟩⟩
/-- C(), no __init__ of its own -/
def gExo0 (C : Addr) : TE := fun _ H Q => New0 H C Q where New0 (H : Hp) (C : Addr) (Q : VK) : Prop := ∀ (a : Addr) (H' : Hp), H a = none → Same H H' → H' a = some (exo a C none) → Q (.ref a) H'
theorem pe_exo0G (q : PySem.W.excIn X.K C [.type "ValueError", .type "Exception", .type "BaseException", .type "object"] "ValueError.__new__" = true) (kC : PySem.W.keepIn X.K (.ref C) = true) (hg : Gl X x) (hm : X.mg x = some (.ref C))
    (hdb : (x == ("__debug__" : Str)) = false := by decide) : PE X (.Call (.Name x p) [] [] pos) (gExo0 C) :=
  pe_imp (pe_exo0 q kC hg hm hdb) fun σ H Q k a n => k a _ n (sameNew n _) upd_same
end
end L2

set_option maxRecDepth 100000
set_option maxHeartbeats 4000000
namespace L2
open PySem PySem.Spec PyProof.Rows
/-- over enumerate(a list that stands) -/
theorem for_enumL {K : PySem.W.Frag} {a : Addr} {xs : List V} {g : TG} {tb : TS} {D : Ends} {σ : St} {H : Hp} (Pv : Nat → St → Hp → Prop) (h0 : Pv 0 σ H) (hl : ∀ i σ H, i ≤ xs.length → Pv i σ H → SqL K H a xs)
    (hs : ∀ i x σ H T H', xs[i]? = some x → Pv i σ H → H T = none → Same H H' → H' T = some (.tup [.int (i : Nat), x]) → g (.ref T) σ H' fun σ2 H2 => tb { D with nx := Pv (i + 1), ct := Pv (i + 1), bk := D.nx } σ2 H2)
    (hd : ∀ σ H, Pv xs.length σ H → D.nx σ H) :
    ∃ W : Nat → Nat → St → Hp → Prop, (∃ m, W 0 m σ H) ∧ ∀ i m σ H, W i m σ H →
      ((Ite K a).stop i H ∧ D.nx σ H) ∨ ((Ite K a).go i H ∧ ∃ N : St → Hp → Prop, (∀ σ' H', N σ' H' → ∃ m', m' < m ∧ W (i + 1) m' σ' H') ∧ ∀ x H', (Ite K a).yld i H x H' → g x σ H' fun σ2 H2 => tb { D with nx := N, ct := N, bk := D.nx } σ2 H2) := by
  refine ⟨fun i m σ H => m = xs.length - i ∧ i ≤ xs.length ∧ Pv i σ H, ⟨xs.length, by simp, Nat.zero_le _, h0⟩, ?_⟩
  rintro i m σ H ⟨rfl, hi, p⟩
  have q := hl i σ H hi p
  by_cases hlt : i < xs.length
  · refine .inr ⟨⟨xs, xs[i], q, by simp [hlt]⟩, Pv (i + 1), fun σ' H' p' => ⟨xs.length - (i + 1), by omega, rfl, hlt, p'⟩, fun v H' y => ?_⟩
    obtain ⟨T, x, e, n, e2, y⟩ := y
    subst e e2
    exact hs i x σ H T _ (y xs q) p n (sameNew n _) upd_same
  · have e : i = xs.length := by omega
    subst e
    exact .inl ⟨⟨xs, q, Nat.le_refl _⟩, hd σ H p⟩
/-! lists of truth values as data -/
theorem bools_lay : ∀ bs : List Bool, PyData.canLayAll0 (bs.map PyData.bool) = true
  | [] => rfl
  | b :: bs => by
    show (PyData.canLay0 (.bool b) && PyData.canLayAll0 (bs.map PyData.bool)) = true
    rw [bools_lay bs]
    rfl
theorem bools_flat : ∀ bs : List Bool, PyData.depthAll (bs.map PyData.bool) = 0
  | [] => rfl
  | b :: bs => by
    show max (PyData.depth (.bool b)) (PyData.depthAll (bs.map PyData.bool)) = 0
    rw [bools_flat bs]
    rfl
theorem bools_shaped (bs : List Bool) : SeqAt.shaped (.list (bs.map PyData.bool)) = true := by
  have h1 : PyData.canLay0 (.list (bs.map PyData.bool)) = true := bools_lay bs
  have h2 : PyData.depth (.list (bs.map PyData.bool)) = 1 := by
    show PyData.depthAll (bs.map PyData.bool) + 1 = 1
    rw [bools_flat bs]
  unfold SeqAt.shaped
  rw [h1, h2]
  rfl
theorem bools_all {K : PySem.W.Frag} {H : Hp} : ∀ bs : List Bool, DpAll K H (bs.map V.bl) (bs.map PyData.bool)
  | [] => .nil
  | b :: bs => .cons (.bl b) (bools_all bs)
theorem bools_dp {K : PySem.W.Frag} {H : Hp} {p : Addr} {bs : List Bool} (h : H p = some (.lst (bs.map V.bl))) : Dp K H (.ref p) (.list (bs.map PyData.bool)) := .lst (SqL.of h) (bools_all bs)
theorem bools_same (bs : List Bool) : PyData.eqv (.list (bs.map PyData.bool)) (.list (bs.map PyData.bool)) = true := SeqAt.eqv_refl _ (bools_lay bs)
/-- a display of one entry, text to value -/
def gDict1 (k : Str) (te : TE) : TE := fun σ H Q => ∀ p : Addr, H p = none → te σ (upd H p (.dK [])) fun v H2 => H2 p = some (.dK []) ∧ Q (.ref p) (upd H2 p (.dK [(.inr k, v)]))
theorem pe_disp1 {X : Cx} {pos p1 : Pos} {v : Expr} {k : Str} {j : Nat} {te : TE} (hv : PE X v te) : PE X (.Dict [some (.Constant (.str k) j p1)] [v] pos) (gDict1 k te) := by
  have z : PE X v (fun σ H R => ∃ R', te σ H R' ∧ ∀ v H1, R' v H1 → R v H1) := ⟨fun pins s σ H R I ⟨R', h1, h2⟩ => thn (hv.run pins s σ H R' I h1) fun us s1 ⟨v, H1, I1, r, q⟩ => ⟨v, H1, I1, r, h2 _ _ q⟩⟩
  refine pe_imp (pe_disp (pps_cons pe_str z pps_nil) rfl rfl (fun z => by cases z) (by show 1 ≤ 15; decide)) fun σ H Q q p n => ?_
  exact ⟨_, q p n, fun u H2 ⟨e, k2⟩ => ⟨e, [(.inr k, u)], rfl, by show 1 ≤ 15; decide, k2⟩⟩
/-- the cut and what is put behind it -/
theorem ints_cut {ns : List Int} {lo hi : Option Int} {i : Nat} {y : V} (h : (cutV (ns.map V.int) lo hi ++ [.int 0])[i]? = some y) : ∃ c : Int, y = .int c := by
  have m := List.mem_of_getElem? h
  rcases List.mem_append.mp m with m | m
  · unfold cutV at m
    have m2 := List.mem_of_mem_drop (List.mem_of_mem_take m)
    obtain ⟨c, _, e⟩ := List.mem_map.mp m2
    exact ⟨c, e.symm⟩
  · exact ⟨0, by simpa using m⟩
theorem ints_cut_len {ns : List Int} {lo hi : Option Int} (h : ns.length ≤ 63) : (cutV (ns.map V.int) lo hi).length ≤ 63 := by
  have := cutV_length (ns.map V.int) lo hi
  rw [List.length_map] at this
  omega
end L2

set_option maxRecDepth 100000
set_option maxHeartbeats 4000000
/-! for .. in enumerate(a tuple), as the hand layer has it for a list -/
namespace PySem
open Sem (wp)
open AutoSeq1 (wpAny_loadPart')
theorem my_enumerate_newT (l : Addr) (items : Array Value) (n : Nat) (dct : Option Addr) (sl : Array (Option Value)) :
    Meets (Builtin.«enumerate.__new__» ⟨[.type "enumerate", .ref l], []⟩) (fun _ R s => s.heap.get? l = some { cls := .type "tuple", dict := dct, data := .seq items n, slots := sl } ∧
      R (.ok (.ret (.ref (s.heap.push { cls := .type "tuple_iterator", data := .fields #[.ref l, .int 0 0] }).objs.size)))
        { s with heap := (s.heap.push { cls := .type "tuple_iterator", data := .fields #[.ref l, .int 0 0] }).push { cls := .type "enumerate", data := .fields #[.none, .bool false, .ref s.heap.objs.size, rawInt 0, .none, .none] } }) :=
  .of_wp fun prog w A R s h => by
    obtain ⟨hp, g, d, tk, os⟩ := s; obtain ⟨hl, h⟩ := h
    have hsub := sub_enumerate
    have hL : Heap.IsTuple (Shared.heap ⟨hp, g, d, tk, os⟩) l items := ⟨_, hl, rfl, n, rfl⟩
    wp_walk using wpAny_loadPart' hl
    refine wpAny_stack_any fun st => wpAny_pure ?_
    split
    · rename_i c _ _ _ _ _
      cases (c == Value.type "enumerate")
      · wp_walk using wpAny_loadPart' hl, wpAny_pyIter_tuple hL
        exact ⟨_, rfl, h⟩
      · wp_walk using wpAny_loadPart' hl, wpAny_pyIter_tuple hL
        exact ⟨_, rfl, h⟩
    · wp_walk using wpAny_loadPart' hl, wpAny_pyIter_tuple hL
      exact ⟨_, rfl, h⟩
section
variable {prog : Program} {w : World} {A : Around} {E : Value → Shared → Prop} {s : Shared}
theorem my_enumerate_tuple {l : Addr} {items : Array Value} {Q : Value → Shared → Prop} (hL : s.heap.IsTuple l items)
    (h : ∀ h', IsEnum h' (s.heap.objs.size + 1) s.heap.objs.size 0 .none → h'.IsTupleIter s.heap.objs.size l 0 → h'.objs.size = s.heap.objs.size + 2 →
      (∀ b o, s.heap.get? b = some o → h'.get? b = some o) → Q (.ref (s.heap.objs.size + 1)) { s with heap := h' }) :
    wpAny (model prog w) A (call (.type "enumerate") [.ref l]) Q E s := by
  obtain ⟨⟨c, dct, dt, sl⟩, hl, hc, n, hd⟩ := hL
  replace hc : c = .type "tuple" := hc
  replace hd : dt = .seq items n := hd
  subst hc hd
  refine callType_new F.called_enumerate (by decide) (F.typeCall_enumerate_1 _) (F.newCall_enumerate_1 _) (fun obj => F.args_object_init_2 obj _) F.entry_enumerate_new
    (my_enumerate_newT l items n dct sl) ⟨hl, ?_⟩
  have hz : (s.heap.push { cls := .type "tuple_iterator", data := .fields #[.ref l, .int 0 0] }).objs.size = s.heap.objs.size + 1 := Heap.size_push ..
  show _ ∧ _
  rw [hz]
  have he : IsEnum ((s.heap.push { cls := .type "tuple_iterator", data := .fields #[.ref l, .int 0 0] }).push
      { cls := .type "enumerate", data := .fields #[.none, .bool false, .ref s.heap.objs.size, rawInt 0, .none, .none] }) (s.heap.objs.size + 1) s.heap.objs.size 0 .none := by
    have := Heap.get?_push_size (s.heap.push { cls := .type "tuple_iterator", data := .fields #[.ref l, .int 0 0] })
      (o := { cls := .type "enumerate", data := .fields #[.none, .bool false, .ref s.heap.objs.size, rawInt 0, .none, .none] }) rfl
    rw [hz] at this; exact this
  refine ⟨⟨_, he, rfl⟩, h _ he ⟨_, Heap.get?_push_of_some _ (Heap.get?_push_size _ rfl), rfl, rfl⟩ (by rw [Heap.size_push, hz]) fun b o x => Heap.get?_push_of_some _ (Heap.get?_push_of_some _ x)⟩
end
end PySem
namespace L2
open PySem PySem.Spec PyProof.Rows
/-- the tuple at a, each item in a new pair -/
def IteT (K : PySem.W.Frag) (a : Addr) : It :=
  ⟨fun i H => ∃ (xs : List V) (x : V), SqT K H a xs ∧ xs[i]? = some x, fun i H v H' => ∃ T x, v = .ref T ∧ H T = none ∧ H' = upd H T (.tup [.int (i : Nat), x]) ∧ ∀ xs, SqT K H a xs → xs[i]? = some x, fun i H => ∃ xs : List V, SqT K H a xs ∧ xs.length = i⟩
theorem turn_enumT {P : Program} {w : World} {K : PySem.W.Frag} {elts : List Expr} {kk : Nat} {tpos : Pos} (a e it : Addr) (nae : a ≠ e) (nai : a ≠ it) :
    Turn P w K (.Tuple elts kk tpos) (IteT K a) [e, it] e (fun i h => (∃ old, IsEnum h e it ((i : Nat) : Int) old) ∧ h.IsTupleIter it a i ∧ e ≠ it) where
  mem := by simp
  obj := fun i h st b hb => by
    obtain ⟨⟨old, he⟩, ⟨o, ho, hc, hd⟩, _⟩ := st
    have e' : b = e ∨ b = it := by simpa using hb
    rcases e' with z | z
    · rw [z]; exact ⟨_, he, fun v q => nomatch q⟩
    · rw [z]; exact ⟨o, ho, fun v q => by rw [hd] at q; cases q⟩
  keep := fun i h h' st k => by
    obtain ⟨⟨old, he⟩, ⟨o, ho, r⟩, hne⟩ := st
    exact ⟨⟨old, k e (by simp) _ he⟩, ⟨o, k it (by simp) o ho, r⟩, hne⟩
  item := by
    intro X hP hw hK hc i pins s σ H E I hf st hg
    subst hP hw hK
    obtain ⟨⟨old, he⟩, hit, hne⟩ := st
    obtain ⟨xs, x, hq, hx⟩ := hg
    obtain ⟨its, rv, p, hz⟩ := I.tuple hq
    obtain ⟨u, hu, ru⟩ := rv.get hx
    have hel : e < s.heap.objs.size := Heap.lt_size he
    have hil : it < s.heap.objs.size := by obtain ⟨_, q, _⟩ := hit; exact Heap.lt_size q
    have hi : i < its.toArray.size := by
      have := (List.getElem?_eq_some_iff.mp hu).1
      simpa using this
    refine wpAny_pyNext_enum_itemD (Draws.tuple (prog := X.prog) (w := X.w) (A := X.A.in1) (I.ok.hd hc) it a nai its.toArray) he ⟨hit, show s.heap.IsTuple a its.toArray from p⟩ hi hne (by simp [Ne.symm nae, hne]) fun x2 h' tk hx2 ho hit' hT hsz hk => ?_
    have ex : x2 = u := by
      have e1 : its.toArray[i]? = some u := by simpa using hu
      rw [e1] at hx2
      exact (Option.some.inj hx2).symm
    subst ex
    refine ⟨_, rfl, wpAny_letOwnedTupleGo_enum (s := { s with heap := h', toks := tk + 1 }) ho fun h'' he' sb => ?_⟩
    have hT2 : h''.get? s.heap.objs.size = some { cls := .type "tuple", data := .seq #[.int i tk, x2] } := (sb.2 _ (Nat.ne_of_gt hel)).trans hT
    have new : ObjOk X.prog X.w (upd H s.heap.objs.size (.tup [.int (i : Nat), x])) h'' s.heap.objs.size (.tup [.int (i : Nat), x]) :=
      ⟨by show 2 ≤ sizeLine; decide, [.int i tk, x2], .cons ⟨_, rfl⟩ (.cons ru .nil), ⟨_, hT2, rfl, _, rfl⟩⟩
    have I1 : Inv X pins σ (upd H s.heap.objs.size (.tup [.int (i : Nat), x])) { s with heap := h'', toks := tk + 1 } :=
      I.turnedNew (ch := [e, it]) (fun b ob hb q => (sb.2 b (fun z => hb (by simp [z]))).trans (hk b ob (fun z => hb (by simp [z])) (fun z => hb (by simp [z])) q)) hf (Nat.le_refl _) new
    refine ⟨.ref s.heap.objs.size, _, I1, rfl, ⟨_, x, rfl, I.hok.fresh (Nat.le_refl _), rfl, fun ys hy => by rw [I.tuple_inj hy hq]; exact hx⟩, ⟨⟨x2, ?_⟩, ?_, hne⟩, fun b hb => ?_⟩
    · have e1 : ((i + 1 : Nat) : Int) = (i : Int) + 1 := by omega
      rw [e1]; exact he'
    · obtain ⟨o, ho2, r⟩ := hit'.1
      exact ⟨o, (sb.2 it (Ne.symm hne)).trans ho2, r⟩
    · have hb' : b < s.heap.objs.size := by
        have e' : b = e ∨ b = it := by simpa using hb
        rcases e' with z | z
        · rw [z]; exact hel
        · rw [z]; exact hil
      rw [upd_ne (Nat.ne_of_lt hb')]
      exact (hf b hb).1
  done := by
    intro X hP hw hK hc i pins s σ H E I hf st hg
    subst hP hw hK
    obtain ⟨⟨old, he⟩, hit, hne⟩ := st
    obtain ⟨xs, hq, hx⟩ := hg
    obtain ⟨its, rv, p, hz⟩ := I.tuple hq
    obtain ⟨f0, f1, f2, f3, f4, f5⟩ := hf it (by simp)
    have hl := rv.length
    have ei : i = its.toArray.size := by simp; omega
    subst ei
    exact wpAny_pyNext_enum_endD (Draws.tuple (prog := X.prog) (w := X.w) (A := X.A.in1) (I.ok.hd hc) it a nai its.toArray) he ⟨hit, show s.heap.IsTuple a its.toArray from p⟩ fun h' eb => ⟨rfl, I.turned (t' := s.toks) (fun b o hb q => eb b o hb q) f0 f1 f3 f4 f5⟩
  self := fun A i s Q E st h => let ⟨⟨_, he⟩, _⟩ := st; wpAny_pyIter_enum he h
def iEnumT (K : PySem.W.Frag) (ta : TA) : TI := fun σ H R => ta σ H fun vs H1 => ∃ a xs, vs = [.ref a] ∧ SqT K H1 a xs ∧ R (IteT K a) H1
theorem pi_enumT {X : Cx} {e : Expr} {ta : TA} {p pos tpos : Pos} {elts : List Expr} {kk : Nat} (hg : Gl X "enumerate") (hm : X.mg "enumerate" = none) (ha : PA X [e] ta) (hs : starEach [e] X.env = [(false, eval e X.env)] := by rfl) :
    PI X (.Tuple elts kk tpos) (.Call (.Name "enumerate" p) [e] [] pos) (iEnumT X.K ta) := by
  refine ⟨fun pins s σ H R I h => ?_⟩
  refine Call_ (ld_blt I hg hm boot_enumerate (PyProof.Rows.callWith_type1 (thn (ha.run pos pins s σ H _ I h) fun us s1 ⟨vs, H1, I1, r1, q1⟩ => ?_) hs rfl))
  obtain ⟨a, xs, ex, hq, q⟩ := q1
  subst ex
  cases r1 with
  | cons r rr =>
    cases rr
    cases r
    obtain ⟨its, rv, p', hz⟩ := I1.tuple hq
    have hal : a < s1.heap.objs.size := by obtain ⟨o, ho, _⟩ := p'; exact Heap.lt_size ho
    refine my_enumerate_tuple (show s1.heap.IsTuple a its.toArray from p') fun h' he hit hsz hk => wpAny_pyIter_enum he ?_
    have I2 : Inv X pins σ H1 { s1 with heap := h' } := I1.kept (t' := s1.toks) hk
    refine ⟨s1.heap.objs.size + 1, [s1.heap.objs.size + 1, s1.heap.objs.size], _, _, H1, rfl, I2, turn_enumT a (s1.heap.objs.size + 1) s1.heap.objs.size (Nat.ne_of_lt (Nat.lt_succ_of_lt hal)) (Nat.ne_of_lt hal), ⟨⟨.none, he⟩, hit, Nat.succ_ne_self _⟩, fun b hb => ?_, q⟩
    have e' : b = s1.heap.objs.size + 1 ∨ b = s1.heap.objs.size := by simpa using hb
    have hle : s1.heap.objs.size ≤ b := by
      rcases e' with z | z
      · rw [z]; exact Nat.le_add_right _ _
      · rw [z]; exact Nat.le_refl _
    exact I1.fpOk hle (I1.hok.fresh hle)
/-- over enumerate(a tuple that stands) -/
theorem for_enumT {K : PySem.W.Frag} {a : Addr} {xs : List V} {g : TG} {tb : TS} {D : Ends} {σ : St} {H : Hp} (Pv : Nat → St → Hp → Prop) (h0 : Pv 0 σ H) (hl : ∀ i σ H, i ≤ xs.length → Pv i σ H → SqT K H a xs)
    (hs : ∀ i x σ H T H', xs[i]? = some x → Pv i σ H → H T = none → Same H H' → H' T = some (.tup [.int (i : Nat), x]) → g (.ref T) σ H' fun σ2 H2 => tb { D with nx := Pv (i + 1), ct := Pv (i + 1), bk := D.nx } σ2 H2)
    (hd : ∀ σ H, Pv xs.length σ H → D.nx σ H) :
    ∃ W : Nat → Nat → St → Hp → Prop, (∃ m, W 0 m σ H) ∧ ∀ i m σ H, W i m σ H →
      ((IteT K a).stop i H ∧ D.nx σ H) ∨ ((IteT K a).go i H ∧ ∃ N : St → Hp → Prop, (∀ σ' H', N σ' H' → ∃ m', m' < m ∧ W (i + 1) m' σ' H') ∧ ∀ x H', (IteT K a).yld i H x H' → g x σ H' fun σ2 H2 => tb { D with nx := N, ct := N, bk := D.nx } σ2 H2) := by
  refine ⟨fun i m σ H => m = xs.length - i ∧ i ≤ xs.length ∧ Pv i σ H, ⟨xs.length, by simp, Nat.zero_le _, h0⟩, ?_⟩
  rintro i m σ H ⟨rfl, hi, p⟩
  have q := hl i σ H hi p
  by_cases hlt : i < xs.length
  · refine .inr ⟨⟨xs, xs[i], q, by simp [hlt]⟩, Pv (i + 1), fun σ' H' p' => ⟨xs.length - (i + 1), by omega, rfl, hlt, p'⟩, fun v H' y => ?_⟩
    obtain ⟨T, x, e, n, e2, y⟩ := y
    subst e e2
    exact hs i x σ H T _ (y xs q) p n (sameNew n _) upd_same
  · have e : i = xs.length := by omega
    subst e
    exact .inl ⟨⟨xs, q, rfl⟩, hd σ H p⟩
end L2

set_option maxRecDepth 100000
set_option maxHeartbeats 4000000
namespace Mine
open PySem L2
def top (i : Nat) : Stmt := PySem.Challenge.pw_askfurther_k36_texts_that_are_no_bodies.main.body.getD i (.Pass ⟨0, 0, 0, 0⟩)
abbrev s_is_integer : Stmt := top 13
abbrev s_is_within : Stmt := top 14
abbrev s_is_index : Stmt := top 15
abbrev s_is_row : Stmt := top 16
abbrev s_is_name : Stmt := top 17
abbrev s_is_text_in : Stmt := top 18
/-- the built-in types whose things are passed -/
def bts : List String := ["NoneType", "bool", "int", "str", "float", "list", "tuple", "dict", "bytes", "set"]
def kb (t u : String) : Bool := t == u || (t == "bool" && u == "int")
theorem kit_b : ∀ t ∈ bts, ∀ u ∈ bts, kitB t u = some (kb t u) := by decide +kernel
/-- a thing of a built-in type -/
structure Bt (K : PySem.W.Frag) (H : Hp) (v : V) (t : String) : Prop where
  ty : TyX K H v (.type t)
  m : t ∈ bts
theorem Bt.kit {K : PySem.W.Frag} {H : Hp} {v : V} {t u : String} (b : Bt K H v t) (hu : u ∈ bts) : PySem.W.kitOne K (.type t) (.type u) = some (kb t u) := kit_ty (kit_b t b.m u hu)
theorem Bt.int {K : PySem.W.Frag} {H : Hp} {v : V} {t : String} (b : Bt K H v t) (h : (t == "int") = true) : ∃ i : Int, v = .int i := by
  cases b.ty with
  | base z => cases z <;> first | exact ⟨_, rfl⟩ | (exact absurd h (by decide))
  | _ => exact absurd h (by decide)
theorem Bt.str {K : PySem.W.Frag} {H : Hp} {v : V} {t : String} (b : Bt K H v t) (h : (t == "str") = true) : ∃ x : Str, v = .str x := by
  cases b.ty with
  | base z => cases z <;> first | exact ⟨_, rfl⟩ | (exact absurd h (by decide))
  | _ => exact absurd h (by decide)
theorem Bt.same {K : PySem.W.Frag} {H H' : Hp} {v : V} {t : String} (s : Same H H') (b : Bt K H v t) : Bt K H' v t := by
  refine ⟨?_, b.m⟩
  cases b.ty with
  | base h =>
    cases h with
    | non => exact .base .non
    | bl x => exact .base (.bl x)
    | int i => exact .base (.int i)
    | str x => exact .base (.str x)
    | flt x => exact .base (.flt x)
    | lst e => exact .base (.lst (s _ _ e))
    | frz e => exact .base (.frz (s _ _ e))
    | tup e => exact .base (.tup (s _ _ e))
    | dK e => exact .base (.dK (s _ _ e))
    | dT e => exact .base (.dT (s _ _ e))
  | byt x => exact .byt x
  | set e => exact .set (s _ _ e)
  | kList e c => exact .kList e c
  | kTuple e c => exact .kTuple e c
  | kDict e c => exact .kDict e c
  | fTuple e => exact .fTuple (s _ _ e)
  | fDict e => exact .fDict (s _ _ e)
/-- an integer in bounds; a name; what else is none -/
def inW (v : V) (lo hi : Int) : Bool := match v with
  | .int i => decide (lo ≤ i) && decide (i ≤ hi)
  | _ => false
def lettersS : Str := "abcdefghijklmnopqrstuvwxyz"
def isNm (x : Str) : Bool := decide (1 ≤ x.length) && decide (x.length ≤ 8) && x.cps.toList.all fun c => decide (c ∈ lettersS.cps.toList)
def nameV (v : V) : Bool := match v with
  | .str x => isNm x
  | _ => false
theorem inW_of {K : PySem.W.Frag} {H : Hp} {v : V} {t : String} (b : Bt K H v t) (h : (t == "int") = false) (lo hi : Int) : inW v lo hi = false := by
  cases b.ty with
  | base z => cases z <;> first | rfl | (exact absurd h (by decide))
  | _ => rfl
theorem nameV_of {K : PySem.W.Frag} {H : Hp} {v : V} {t : String} (b : Bt K H v t) (h : (t == "str") = false) : nameV v = false := by
  cases b.ty with
  | base z => cases z <;> first | rfl | (exact absurd h (by decide))
  | _ => rfl
def spInt (K : PySem.W.Frag) : Sp := fun vs H Q _ => ∃ (v : V) (t : String), vs = [v] ∧ Bt K H v t ∧ Q (.bl (t == "int")) H
def spWithin (K : PySem.W.Frag) : Sp := fun vs H Q _ => ∃ (v : V) (t : String) (lo hi : Int), vs = [v, .int lo, .int hi] ∧ Bt K H v t ∧ Q (.bl (inW v lo hi)) H
def spIndex (K : PySem.W.Frag) : Sp := fun vs H Q _ => ∃ (v : V) (t : String) (m : Int), vs = [v, .int m] ∧ Bt K H v t ∧ Q (.bl (inW v 0 (m - 1))) H
def spIsRow (K : PySem.W.Frag) : Sp := fun vs H Q _ => ∃ (v : V) (t : String), vs = [v] ∧ Bt K H v t ∧ ∀ H', Same H H' → Q (.bl (t == "list" || t == "tuple")) H'
def spName (K : PySem.W.Frag) : Sp := fun vs H Q _ => ∃ (v : V) (t : String), vs = [v] ∧ Bt K H v t ∧ (∀ x, v = .str x → x.length ≤ sizeLine) ∧ ∀ H', Same H H' → Q (.bl (nameV v)) H'
/-- a text's place in a dict of texts -/
def hasT (kvs : List (Key × V)) (v : V) : Bool := match v with
  | .str x => (valV kvs (.inr x)).isSome
  | _ => false
def spTextIn (K : PySem.W.Frag) : Sp := fun vs H Q _ => ∃ (v : V) (t : String) (d : Addr) (kvs : List (Key × V)), vs = [v, .ref d] ∧ Bt K H v t ∧ Rd H d (.dK kvs) ∧ Q (.bl (hasT kvs v)) H
structure TxtF (K : PySem.W.Frag) (mg : Str → Option Value) (fII fIW : Addr) : Prop where
  b_isinstance : mg "isinstance" = none
  b_int : mg "int" = none
  b_bool : mg "bool" = none
  b_str : mg "str" = none
  b_list : mg "list" = none
  b_tuple : mg "tuple" = none
  b_dict : mg "dict" = none
  b_len : mg "len" = none
  b_all : mg "all" = none
  c_LETTERS : ∃ t, mg "LETTERS" = some (.str lettersS t)
  c_LONGEST_NAME : ∃ t, mg "LONGEST_NAME" = some (.int 8 t)
  g_is_integer : mg "is_integer" = some (.ref fII)
  k_is_integer : PySem.W.keepIn K (.ref fII) = true
  g_is_within : mg "is_within" = some (.ref fIW)
  k_is_within : PySem.W.keepIn K (.ref fIW) = true
section
variable {P : Program} {w : World} {K : PySem.W.Frag} {mg : Str → Option Value} {base : Heap}
variable {fII fIW : Addr} {fdII fdIW : FuncData}
theorem sc_is_integer : FnScope ["thing"] ["thing"] (defScope s_is_integer) := ⟨rfl, rfl, rfl, by decide +kernel, rfl, by decide +kernel, by decide +kernel⟩
theorem ok_is_integer {f : Addr} {fd : FuncData} (F : Fun K "is_integer" "is_integer" s_is_integer f fd) (T : TxtF K mg fII fIW) : FnOk P w K mg base CX0 1 f fd ["thing"] (spInt K) := by
  refine F.ok sc_is_integer (fun vs H Q E h => ?_) (fun cdv A outer s H vs Q E hr h => ?_)
  · obtain ⟨v, t, rfl, _⟩ := h
    rfl
  · obtain ⟨v, t, rfl, b, k⟩ := h
    refine ⟨_, (pss_one (ps_ret (pe_and (pe_callB call_isi (by rfl) T.b_isinstance (by decide +kernel) (pa_cons (pv 0) (pa_cons (pe_bltn (v := .ty "int") rfl T.b_int (by decide +kernel) rfl) pa_nil))) (pe_one (pe_not (pe_callB call_isi (by rfl) T.b_isinstance (by decide +kernel) (pa_cons (pv 0) (pa_cons (pe_bltn (v := .ty "bool") rfl T.b_bool (by decide +kernel) rfl) pa_nil)))))))), ?_⟩
    refine ⟨_, rfl, v, _, _, _, _, rfl, .ty _, b.ty, b.kit (u := "int") (by decide), _, rfl, ?_⟩
    refine ite2 (fun h1 => ?_) (fun h1 => ?_)
    · refine ⟨_, rfl, v, _, _, _, _, rfl, .ty _, b.ty, b.kit (u := "bool") (by decide), _, rfl, ?_⟩
      have e : (!kb t "bool") = (t == "int") := by
        have := b.m
        revert h1
        simp only [bts, List.mem_cons, List.not_mem_nil, or_false] at this
        rcases this with rfl | rfl | rfl | rfl | rfl | rfl | rfl | rfl | rfl | rfl <;> decide
      rw [e]
      exact k
    · have e : (t == "int") = false := by
        have := b.m
        revert h1
        simp only [bts, List.mem_cons, List.not_mem_nil, or_false] at this
        rcases this with rfl | rfl | rfl | rfl | rfl | rfl | rfl | rfl | rfl | rfl <;> decide
      rw [e] at k
      exact k
theorem sc_is_within : FnScope ["thing", "low", "high"] ["thing", "low", "high"] (defScope s_is_within) := ⟨rfl, rfl, rfl, by decide +kernel, rfl, by decide +kernel, by decide +kernel⟩
theorem ok_is_within {f : Addr} {fd : FuncData} (F : Fun K "is_within" "is_within" s_is_within f fd) (T : TxtF K mg fII fIW) (FI : Fun K "is_integer" "is_integer" s_is_integer fII fdII) (bI : Binds K fdII ["thing"] []) : FnOk P w K mg base CX0 2 f fd ["thing", "low", "high"] (spWithin K) := by
  have GI : FnOk P w K mg base CX0 1 fII fdII ["thing"] (spInt K) := ok_is_integer FI T
  refine F.ok sc_is_within (fun vs H Q E h => ?_) (fun cdv A outer s H vs Q E hr h => ?_)
  · obtain ⟨v, t, lo, hi, rfl, _⟩ := h
    rfl
  · obtain ⟨v, t, lo, hi, rfl, b, k⟩ := h
    refine ⟨_, (pss_one (ps_ret (pe_and (pe_call GI hr (by rfl) T.g_is_integer T.k_is_integer bI .nil pass0 (pa_cons (pv 0) pa_nil)) (pe_one (pe_chain op_le op_le (pv 1) (pv 0) (pv 2)))))), ?_⟩
    refine ⟨_, rfl, v, t, rfl, b, _, rfl, ?_⟩
    refine ite2 (fun h1 => ?_) (fun h1 => ?_)
    · obtain ⟨i, rfl⟩ := b.int h1
      refine ⟨_, rfl, _, rfl, _, _, rfl, rfl, _, rfl, ?_⟩
      refine ite2 (fun h2 => ?_) (fun h2 => ?_)
      · refine ⟨_, rfl, _, _, rfl, rfl, ?_⟩
        have e : inW (.int i) lo hi = decide (i ≤ hi) := by
          show (decide (lo ≤ i) && decide (i ≤ hi)) = _
          rw [h2, Bool.true_and]
        show Q (.bl (decide (i ≤ hi))) H
        rw [← e]
        exact k
      · have e : inW (.int i) lo hi = false := by
          show (decide (lo ≤ i) && decide (i ≤ hi)) = _
          rw [Bool.eq_false_iff.mpr h2, Bool.false_and]
        rw [e] at k
        exact k
    · rw [inW_of b (Bool.eq_false_iff.mpr h1)] at k
      exact k
theorem sc_is_index : FnScope ["thing", "many"] ["thing", "many"] (defScope s_is_index) := ⟨rfl, rfl, rfl, by decide +kernel, rfl, by decide +kernel, by decide +kernel⟩
theorem ok_is_index {f : Addr} {fd : FuncData} (F : Fun K "is_index" "is_index" s_is_index f fd) (T : TxtF K mg fII fIW) (FI : Fun K "is_integer" "is_integer" s_is_integer fII fdII) (bI : Binds K fdII ["thing"] [])
    (FW : Fun K "is_within" "is_within" s_is_within fIW fdIW) (bW : Binds K fdIW ["thing", "low", "high"] []) : FnOk P w K mg base CX0 3 f fd ["thing", "many"] (spIndex K) := by
  have GW : FnOk P w K mg base CX0 2 fIW fdIW ["thing", "low", "high"] (spWithin K) := ok_is_within FW T FI bI
  refine F.ok sc_is_index (fun vs H Q E h => ?_) (fun cdv A outer s H vs Q E hr h => ?_)
  · obtain ⟨v, t, m, rfl, _⟩ := h
    rfl
  · obtain ⟨v, t, m, rfl, b, k⟩ := h
    refine ⟨_, (pss_one (ps_ret (pe_call GW hr (by rfl) T.g_is_within T.k_is_within bW .nil pass0 (pa_cons (pv 0) (pa_cons pe_int (pa_cons (pe_op op_sub (pv 1) pe_int) pa_nil)))))), ?_⟩
    exact ⟨_, rfl, _, rfl, _, _, rfl, rfl, v, t, 0, m - 1, rfl, b, k⟩
theorem sc_is_row : FnScope ["thing"] ["thing"] (defScope s_is_row) := ⟨rfl, rfl, rfl, by decide +kernel, rfl, by decide +kernel, by decide +kernel⟩
theorem ok_is_row {f : Addr} {fd : FuncData} (F : Fun K "is_row" "is_row" s_is_row f fd) (T : TxtF K mg fII fIW) : FnOk P w K mg base CX0 1 f fd ["thing"] (spIsRow K) := by
  refine F.ok sc_is_row (fun vs H Q E h => ?_) (fun cdv A outer s H vs Q E hr h => ?_)
  · obtain ⟨v, t, rfl, _⟩ := h
    rfl
  · obtain ⟨v, t, rfl, b, k⟩ := h
    refine ⟨_, (pss_one (ps_ret (pe_callB call_isiT (by rfl) T.b_isinstance (by decide +kernel) (pa_cons (pv 0) (pa_cons (pe_tupG (pa_cons (pe_bltn (v := .ty "list") rfl T.b_list (by decide +kernel) rfl) (pa_cons (pe_bltn (v := .ty "tuple") rfl T.b_tuple (by decide +kernel) rfl) pa_nil))) pa_nil))))), ?_⟩
    refine ⟨_, rfl, by show 2 ≤ sizeLine; decide, fun p H1 n1 s1 e1 => ?_⟩
    have b1 := b.same s1
    have kk : PySem.W.kitAny K (.type t) [.type "list", .type "tuple"] = some (t == "list" || t == "tuple") := by
      have h1 : kb t "list" = (t == "list") := by simp [kb]
      have h2 : kb t "tuple" = (t == "tuple") := by simp [kb]
      refine kitAny_cons (b1.kit (u := "list") (by decide)) (fun z => ?_) (fun z => ?_)
      · rw [h1] at z
        refine kitAny_cons (b1.kit (u := "tuple") (by decide)) (fun y => ?_) (fun y => ?_)
        · rw [h2] at y
          rw [z, y]
          exact kitAny_nil
        · rw [h2] at y
          rw [y, Bool.or_true]
      · rw [h1] at z
        rw [z, Bool.true_or]
    exact ⟨v, p, _, _, _, _, rfl, e1, .cons (.ty _) (.cons (.ty _) .nil), b1.ty, kk, k _ s1⟩
end
end Mine

set_option maxRecDepth 100000
set_option maxHeartbeats 4000000
namespace Mine
open PySem L2
abbrev s_are_counts : Stmt := top 19
abbrev s_are_operations : Stmt := top 20
abbrev s_word_of : Stmt := top 22
abbrev s_are_nexts : Stmt := top 23
abbrev s_line_of : Stmt := top 37
abbrev s_is_line : Stmt := top 36
structure TxtG (K : PySem.W.Frag) (mg : Str → Option Value) (a_is_row a_is_index a_is_name a_is_text_in a_are_counts a_word_of a_are_nexts a_is_line a_line_of a_are_operations : Addr) : Prop where
  c_MOST_OPERATIONS : ∃ t, mg "MOST_OPERATIONS" = some (.int 8 t)
  c_MOST_ANSWERS : ∃ t, mg "MOST_ANSWERS" = some (.int 6 t)
  g_is_row : mg "is_row" = some (.ref a_is_row)
  k_is_row : PySem.W.keepIn K (.ref a_is_row) = true
  g_is_index : mg "is_index" = some (.ref a_is_index)
  k_is_index : PySem.W.keepIn K (.ref a_is_index) = true
  g_is_name : mg "is_name" = some (.ref a_is_name)
  k_is_name : PySem.W.keepIn K (.ref a_is_name) = true
  g_is_text_in : mg "is_text_in" = some (.ref a_is_text_in)
  k_is_text_in : PySem.W.keepIn K (.ref a_is_text_in) = true
  g_are_counts : mg "are_counts" = some (.ref a_are_counts)
  k_are_counts : PySem.W.keepIn K (.ref a_are_counts) = true
  g_word_of : mg "word_of" = some (.ref a_word_of)
  k_word_of : PySem.W.keepIn K (.ref a_word_of) = true
  g_are_nexts : mg "are_nexts" = some (.ref a_are_nexts)
  k_are_nexts : PySem.W.keepIn K (.ref a_are_nexts) = true
  g_is_line : mg "is_line" = some (.ref a_is_line)
  k_is_line : PySem.W.keepIn K (.ref a_is_line) = true
  g_line_of : mg "line_of" = some (.ref a_line_of)
  k_line_of : PySem.W.keepIn K (.ref a_line_of) = true
  g_are_operations : mg "are_operations" = some (.ref a_are_operations)
  k_are_operations : PySem.W.keepIn K (.ref a_are_operations) = true
theorem globI {X : Cx} {x : Str} {i : Int} {pos : Pos} (hg : Gl X x) (h : ∃ t, X.mg x = some (.int i t)) (hd : (x == ("__debug__" : Str)) = false := by decide) : PE X (.Name x pos) (tC (.int i)) := by
  obtain ⟨t, e⟩ := h
  exact pe_glob hg e ⟨t, rfl⟩ hd
theorem globS {X : Cx} {x y : Str} {pos : Pos} (hg : Gl X x) (h : ∃ t, X.mg x = some (.str y t)) (hd : (x == ("__debug__" : Str)) = false := by decide) : PE X (.Name x pos) (tC (.str y)) := by
  obtain ⟨t, e⟩ := h
  exact pe_glob hg e ⟨t, rfl⟩ hd
/-- the letters of a text are looked at one by one -/
def lets (x : Str) (i : Nat) : List Bool := (x.cps.toList.take i).map fun c => decide (c ∈ lettersS.cps.toList)
theorem lets_succ {x : Str} {i c : Nat} (h : x.cps[i]? = some c) : lets x (i + 1) = lets x i ++ [decide (c ∈ lettersS.cps.toList)] := by
  have h' : x.cps.toList[i]? = some c := by rw [← h]; simp
  unfold lets
  rw [List.take_add_one, h', List.map_append]
  rfl
theorem lets_all (x : Str) : (lets x x.cps.size).all id = x.cps.toList.all fun c => decide (c ∈ lettersS.cps.toList) := by
  unfold lets
  rw [show x.cps.size = x.cps.toList.length by simp, List.take_length, List.all_map]
  rfl
section
variable {P : Program} {w : World} {K : PySem.W.Frag} {mg : Str → Option Value} {base : Heap}
variable {fII fIW : Addr}
theorem sc_is_name : FnScope ["thing", "letter"] ["thing"] (defScope s_is_name) := ⟨rfl, rfl, rfl, by decide +kernel, rfl, by decide +kernel, by decide +kernel⟩
theorem ok_is_name {f : Addr} {fd : FuncData} (F : Fun K "is_name" "is_name" s_is_name f fd) (T : TxtF K mg fII fIW) : FnOk P w K mg base CX0 1 f fd ["thing"] (spName K) := by
  refine F.ok sc_is_name (fun vs H Q E h => ?_) (fun cdv A outer s H vs Q E hr h => ?_)
  · obtain ⟨v, t, rfl, _⟩ := h
    rfl
  · obtain ⟨v, t, rfl, b, sz, k⟩ := h
    refine ⟨_, (pss_cons (ps_if (PW.pt (pw_or (pt_not (pt_val (pe_callB call_isi (by rfl) T.b_isinstance (by decide +kernel) (pa_cons (pv 0) (pa_cons (pe_bltn (v := .ty "str") rfl T.b_str (by decide +kernel) rfl) pa_nil))))) (pw_or1 (pt_not (pt_chain op_le op_le pe_int (pe_callB call_len_str (by rfl) T.b_len PySem.boot_len (pa_cons (pv 0) pa_nil)) (globI rfl T.c_LONGEST_NAME)))))) (pss_one (ps_ret pe_bl)) pss_nil)
      (pss_one (ps_ret (pe_callB (cr_all rfl) (by rfl) T.b_all (by decide +kernel) (pa_cons (pe_lc (own := [("letter", 1)]) (g := gName 1) (tt := tYes) rfl sc_is_name.nd (pi_str (pv 0)) (blkOk_by (own := [("letter", 1)]) (N := ["thing", "letter"]) (sc := defScope s_is_name) (by decide +kernel)) (fun _ _ _ _ _ => pg_name (i := 1) sc_is_name.nd rfl (Or.inl rfl)) (fun _ _ _ _ _ => pts_nil) (fun _ _ _ _ _ => (pe_cmpR op_in_sign (pv 1) (globS rfl T.c_LETTERS) (by rfl)))) pa_nil))))), ?_⟩
    have hk : ∀ t', (kb t' "str") = (t' == "str") := fun t' => by simp [kb]
    refine ⟨_, rfl, v, _, _, _, _, rfl, .ty _, b.ty, b.kit (u := "str") (by decide), _, rfl, ?_⟩
    rw [hk]
    by_cases h1 : (t == "str") = true
    · obtain ⟨x, rfl⟩ := b.str h1
      rw [h1]
      refine iteF ?_
      refine ⟨_, rfl, ?_⟩
      refine ⟨x, rfl, sz x rfl, _, _, rfl, rfl, _, rfl, ?_⟩
      have bad : ¬ (1 ≤ x.length ∧ x.length ≤ 8) → isNm x = false := fun z => by
        unfold isNm
        by_cases y : 1 ≤ x.length
        · rw [decide_eq_true y, decide_eq_false (fun u => z ⟨y, u⟩)]
          rfl
        · rw [decide_eq_false y]
          rfl
      by_cases h2 : 1 ≤ x.length
      · rw [decide_eq_true (show (1 : Int) ≤ (x.length : Int) by omega)]
        refine iteT ?_
        refine ⟨_, _, rfl, rfl, _, rfl, ?_⟩
        by_cases h3 : x.length ≤ 8
        · rw [decide_eq_true (show (x.length : Int) ≤ 8 by omega)]
          refine iteF ?_
          refine ⟨_, rfl, x, rfl, fun D nD => lc_it walk_str (fun i Hx => Same H Hx ∧ Hx D = some (.lst ((lets x i).map V.bl))) ⟨sameNew nD _, upd_same⟩ (fun _ _ _ _ => trivial) (fun i y Ha Hb hi z1 z2 => ?_) fun Hx z => ?_⟩
          · obtain ⟨sx, ex⟩ := z1
            obtain ⟨rfl, c, hc, rfl⟩ := z2
            refine ⟨rfl, _, rfl, c, lettersS, rfl, rfl, _, ex, ?_, fun b o e => ?_, ?_⟩
            · rw [List.length_map]
              show ((x.cps.toList.take i).map _).length < _
              rw [List.length_map, List.length_take, sizeLine_eq]
              have : x.cps.toList.length ≤ 8 := by
                have : x.length = x.cps.toList.length := by simp [Str.length]
                omega
              omega
            · rw [upd_ne (ne_of_none e nD)]
              exact sx _ _ e
            · rw [lets_succ hc, List.map_append]
              exact upd_same
          · obtain ⟨sx, ex⟩ := z
            refine ⟨D, _, rfl, SqL.of ex, ?_⟩
            rw [lets_all]
            have e : nameV (.str x) = x.cps.toList.all fun c => decide (c ∈ lettersS.cps.toList) := by
              show isNm x = _
              unfold isNm
              rw [decide_eq_true h2, decide_eq_true h3, Bool.true_and, Bool.true_and]
            rw [← e]
            exact k _ sx
        · rw [decide_eq_false (show ¬ (x.length : Int) ≤ 8 by omega)]
          refine iteT ?_
          have e : nameV (.str x) = false := bad fun z => h3 z.2
          rw [e] at k
          exact k _ (Same.refl _)
      · rw [decide_eq_false (show ¬ (1 : Int) ≤ (x.length : Int) by omega)]
        refine iteF ?_
        refine ⟨_, rfl, ?_⟩
        refine iteT ?_
        have e : nameV (.str x) = false := bad fun z => h2 z.1
        rw [e] at k
        exact k _ (Same.refl _)
    · rw [Bool.eq_false_iff.mpr h1]
      refine iteT ?_
      have e := nameV_of b (Bool.eq_false_iff.mpr h1)
      rw [e] at k
      exact k _ (Same.refl _)
end
end Mine

set_option maxRecDepth 100000
set_option maxHeartbeats 4000000
namespace L2
open PySem PySem.Spec PyProof.Rows
/-- a list or a tuple -/
def SqA (H : Hp) (a : Addr) (xs : List V) : Prop := H a = some (.lst xs) ∨ H a = some (.tup xs)
theorem Same.sqa {H H' : Hp} {a : Addr} {xs : List V} (s : Same H H') (h : SqA H a xs) : SqA H' a xs := h.elim (fun h => .inl (s _ _ h)) fun h => .inr (s _ _ h)
theorem SqA.ix {K : PySem.W.Frag} {H : Hp} {a : Addr} {xs : List V} {i : Int} {v : V} {Q : VK} (h : SqA H a xs) (e : atI xs i = some v) (q : Q v H) : rIx K (.ref a) (.int i) H Q := by
  rcases h with h | h
  · exact .inl ⟨a, xs, i, v, rfl, rfl, SqL.of h, e, q⟩
  · exact .inr (.inl ⟨a, xs, i, v, rfl, rfl, .inl (.inl h), e, q⟩)
theorem SqA.sq {K : PySem.W.Frag} {H : Hp} {a : Addr} {xs : List V} (h : SqA H a xs) : SqL K H a xs ∨ SqT K H a xs := h.elim (fun h => .inl (SqL.of h)) fun h => .inr (.inl (.inl h))
theorem pi_or {X : Cx} {tg iter : Expr} {w1 w2 : TI} (h1 : PI X tg iter w1) (h2 : PI X tg iter w2) : PI X tg iter (fun σ H R => w1 σ H R ∨ w2 σ H R) :=
  ⟨fun pins s σ H R I h => h.elim (h1.run pins s σ H R I) (h2.run pins s σ H R I)⟩
def iSeq (K : PySem.W.Frag) (tl : TE) : TI := fun σ H R => iList K tl σ H R ∨ iTup K tl σ H R
theorem pi_seq {X : Cx} {tg l : Expr} {tl : TE} (hl : PE X l tl) : PI X tg l (iSeq X.K tl) := pi_or (pi_list hl) (pi_tup hl)
theorem same_unlock {H Hx : Hp} {a : Addr} {u : HO} {od : Obj} (e : H a = some u) (s : Same (upd H a (.frz od u)) Hx) : Same H (upd Hx a u) := fun b o h => by
  by_cases z : b = a
  · subst z
    rw [e] at h
    rw [upd_same, h]
  · rw [upd_ne z]
    exact s b o (by rw [upd_ne z]; exact h)
end L2
namespace Mine
open PySem L2
abbrev Ops := List (Str × Int)
def opsK (o : Ops) : List (Key × V) := o.map fun p => (Sum.inr p.1, V.int p.2)
def opLook (o : Ops) (x : Str) : Option Int := (o.find? fun p => decide (p.1 = x)).map (·.2)
theorem val_ops (o : Ops) (x : Str) : valV (opsK o) (.inr x) = (opLook o x).map V.int := by
  unfold valV opsK opLook
  induction o with
  | nil => rfl
  | cons p o ih =>
    by_cases h : p.1 = x
    · simp [h]
    · have h2 : ¬ (Sum.inr p.1 : Key) = Sum.inr x := fun z => h (Sum.inr.inj z)
      simp only [List.map_cons, List.find?_cons, decide_eq_false h, decide_eq_false h2]
      exact ih
/-- operations that are right -/
structure OkOps (o : Ops) : Prop where
  few : o.length ≤ 8
  each : ∀ p ∈ o, isNm p.1 = true ∧ 0 ≤ p.2 ∧ p.2 ≤ 6
  nd : (o.map (·.1)).Nodup
def spCounts : Sp := fun vs H Q _ => ∃ (a : Addr) (o : Ops) (most lo hi : Int), vs = [.ref a, .int most, .int lo, .int hi] ∧ H a = some (.dK (opsK o)) ∧ (o.length : Int) ≤ most ∧ o.length ≤ 1000 ∧ (∀ p ∈ o, isNm p.1 = true ∧ lo ≤ p.2 ∧ p.2 ≤ hi) ∧ ∀ H', Same H H' → Q (.bl true) H'
def spOps : Sp := fun vs H Q _ => ∃ (a : Addr) (o : Ops), vs = [.ref a] ∧ H a = some (.dK (opsK o)) ∧ OkOps o ∧ ∀ H', Same H H' → Q (.bl true) H'
/-- what a row of a body says -/
inductive RowD where
  | ask (op : Str) (ns : List Int)
  | go (n : Int)
  | fin (w : Str)
/-- the row stands there, in lists or tuples -/
def RowAt (H : Hp) (v : V) : RowD → Prop
  | .ask op ns => ∃ a t, v = .ref a ∧ SqA H a [.str "ask", .str op, .ref t] ∧ SqA H t (ns.map V.int)
  | .go n => ∃ a, v = .ref a ∧ SqA H a [.str "go", .int n]
  | .fin w => ∃ a, v = .ref a ∧ SqA H a [.str "end", .str w]
/-- .. in tuples -/
def TRow (H : Hp) (v : V) : RowD → Prop
  | .ask op ns => ∃ a t, v = .ref a ∧ H a = some (.tup [.str "ask", .str op, .ref t]) ∧ H t = some (.tup (ns.map V.int))
  | .go n => ∃ a, v = .ref a ∧ H a = some (.tup [.str "go", .int n])
  | .fin w => ∃ a, v = .ref a ∧ H a = some (.tup [.str "end", .str w])
theorem RowAt.same {H H' : Hp} {v : V} {r : RowD} (s : Same H H') (h : RowAt H v r) : RowAt H' v r := by
  cases r with
  | ask op ns =>
    obtain ⟨a, t, e, h1, h2⟩ := h
    exact ⟨a, t, e, s.sqa h1, s.sqa h2⟩
  | go n =>
    obtain ⟨a, e, h1⟩ := h
    exact ⟨a, e, s.sqa h1⟩
  | fin w =>
    obtain ⟨a, e, h1⟩ := h
    exact ⟨a, e, s.sqa h1⟩
theorem TRow.same {H H' : Hp} {v : V} {r : RowD} (s : Same H H') (h : TRow H v r) : TRow H' v r := by
  cases r with
  | ask op ns =>
    obtain ⟨a, t, e, h1, h2⟩ := h
    exact ⟨a, t, e, s _ _ h1, s _ _ h2⟩
  | go n =>
    obtain ⟨a, e, h1⟩ := h
    exact ⟨a, e, s _ _ h1⟩
  | fin w =>
    obtain ⟨a, e, h1⟩ := h
    exact ⟨a, e, s _ _ h1⟩
theorem TRow.row {H : Hp} {v : V} {r : RowD} (h : TRow H v r) : RowAt H v r := by
  cases r with
  | ask op ns =>
    obtain ⟨a, t, e, h1, h2⟩ := h
    exact ⟨a, t, e, .inr h1, .inr h2⟩
  | go n =>
    obtain ⟨a, e, h1⟩ := h
    exact ⟨a, e, .inr h1⟩
  | fin w =>
    obtain ⟨a, e, h1⟩ := h
    exact ⟨a, e, .inr h1⟩
/-- the row is one of a body with these operations and so many rows -/
def OkRow (o : Ops) (many : Int) : RowD → Prop
  | .ask op ns => opLook o op = some (ns.length : Int) ∧ ns.length ≤ 1000 ∧ ∀ n ∈ ns, 0 ≤ n ∧ n < many
  | .go n => 0 ≤ n ∧ n < many
  | .fin w => isNm w = true ∧ w.length ≤ 8
def spWord : Sp := fun vs H Q _ => ∃ (a : Addr) (x : Str) (xs : List V), vs = [.ref a] ∧ SqA H a (.str x :: xs) ∧ ∀ H', Same H H' → Q (.str x) H'
def spNexts : Sp := fun vs H Q _ => ∃ (t d : Addr) (ns : List Int) (op : Str) (o : Ops) (many : Int), vs = [.ref t, .str op, .ref d, .int many] ∧ SqA H t (ns.map V.int) ∧ Rd H d (.dK (opsK o)) ∧
  opLook o op = some (ns.length : Int) ∧ ns.length ≤ 1000 ∧ (∀ n ∈ ns, 0 ≤ n ∧ n < many) ∧ ∀ H', Same H H' → Q (.bl true) H'
def spIsLine : Sp := fun vs H Q _ => ∃ (v : V) (d : Addr) (o : Ops) (many : Int) (r : RowD), vs = [v, .ref d, .int many] ∧ RowAt H v r ∧ Rd H d (.dK (opsK o)) ∧ OkRow o many r ∧ ∀ H', Same H H' → Q (.bl true) H'
def spLineOf : Sp := fun vs H Q _ => ∃ (v : V) (r : RowD), vs = [v] ∧ RowAt H v r ∧ ∀ (v' : V) (H' : Hp), Same H H' → TRow H' v' r → Q v' H'
theorem inW_int {i lo hi : Int} (h1 : lo ≤ i) (h2 : i ≤ hi) : inW (.int i) lo hi = true := by
  show (decide (lo ≤ i) && decide (i ≤ hi)) = true
  rw [decide_eq_true h1, decide_eq_true h2]
  rfl
theorem btInt {K : PySem.W.Frag} {H : Hp} (i : Int) : Bt K H (.int i) "int" := ⟨.base (.int i), by decide⟩
theorem btStr {K : PySem.W.Frag} {H : Hp} (x : Str) : Bt K H (.str x) "str" := ⟨.base (.str x), by decide⟩
theorem btSeq {K : PySem.W.Frag} {H : Hp} {a : Addr} {xs : List V} (h : SqA H a xs) : ∃ t, Bt K H (.ref a) t ∧ (t == "list" || t == "tuple") = true := by
  rcases h with h | h
  · exact ⟨"list", ⟨.base (.lst h), by decide⟩, by decide⟩
  · exact ⟨"tuple", ⟨.base (.tup h), by decide⟩, by decide⟩
theorem nm_len {x : Str} (h : isNm x = true) : x.length ≤ 8 := by
  unfold isNm at h
  rw [Bool.and_eq_true, Bool.and_eq_true] at h
  exact of_decide_eq_true h.1.2
theorem trues_all (n : Nat) : (List.replicate n true).all id = true := by simp
theorem trues_map (n : Nat) : (List.replicate n true).map V.bl = List.replicate n (V.bl true) := by simp
section
variable {P : Program} {w : World} {K : PySem.W.Frag} {mg : Str → Option Value} {base : Heap}
variable {fII fIW a_is_row a_is_index a_is_name a_is_text_in a_are_counts a_word_of a_are_nexts a_is_line a_line_of a_are_operations : Addr}
theorem sc_is_text_in : FnScope ["thing", "table"] ["thing", "table"] (defScope s_is_text_in) := ⟨rfl, rfl, rfl, by decide +kernel, rfl, by decide +kernel, by decide +kernel⟩
theorem ok_is_text_in {f : Addr} {fd : FuncData} (F : Fun K "is_text_in" "is_text_in" s_is_text_in f fd) (T : TxtF K mg fII fIW) : FnOk P w K mg base CX0 1 f fd ["thing", "table"] (spTextIn K) := by
  refine F.ok sc_is_text_in (fun vs H Q E h => ?_) (fun cdv A outer s H vs Q E hr h => ?_)
  · obtain ⟨v, t, d, kvs, rfl, _⟩ := h
    rfl
  · obtain ⟨v, t, d, kvs, rfl, b, hd, k⟩ := h
    refine ⟨_, (pss_one (ps_ret (pe_and (pe_callB call_isi (by rfl) T.b_isinstance (by decide +kernel) (pa_cons (pv 0) (pa_cons (pe_bltn (v := .ty "str") rfl T.b_str (by decide +kernel) rfl) pa_nil))) (pe_one (pe_cmp (pc_din (hu_of hr) (pv 0) (pv 1)) rfl))))), ?_⟩
    have hk : (kb t "str") = (t == "str") := by simp [kb]
    refine ⟨_, rfl, v, _, _, _, _, rfl, .ty _, b.ty, b.kit (u := "str") (by decide), _, rfl, ?_⟩
    rw [hk]
    by_cases h1 : (t == "str") = true
    · obtain ⟨x, rfl⟩ := b.str h1
      rw [h1]
      refine iteT ?_
      exact ⟨_, rfl, _, rfl, d, _, rfl, .inl ⟨kvs, .inr x, hd, rfl, rfl⟩, k⟩
    · rw [Bool.eq_false_iff.mpr h1]
      refine iteF ?_
      have e : hasT kvs v = false := by
        cases b.ty with
        | base z => cases z <;> first | rfl | (exact absurd (by decide) h1)
        | _ => rfl
      rw [e] at k
      exact k
theorem sc_are_counts : FnScope ["thing", "most", "low", "high", "name", "many"] ["thing", "most", "low", "high"] (defScope s_are_counts) := ⟨rfl, rfl, rfl, by decide +kernel, rfl, by decide +kernel, by decide +kernel⟩
theorem ok_are_counts {f : Addr} {fd fd_is_name fd_is_integer fd_is_within : FuncData} (F : Fun K "are_counts" "are_counts" s_are_counts f fd) (T : TxtF K mg fII fIW) (TG : TxtG K mg a_is_row a_is_index a_is_name a_is_text_in a_are_counts a_word_of a_are_nexts a_is_line a_line_of a_are_operations)
    (F_is_name : Fun K "is_name" "is_name" s_is_name a_is_name fd_is_name) (b_is_name : Binds K fd_is_name ["thing"] []) (FI : Fun K "is_integer" "is_integer" s_is_integer fII fd_is_integer) (bI : Binds K fd_is_integer ["thing"] [])
    (FW : Fun K "is_within" "is_within" s_is_within fIW fd_is_within) (b_is_within : Binds K fd_is_within ["thing", "low", "high"] []) : FnOk P w K mg base CX0 3 f fd ["thing", "most", "low", "high"] spCounts := by
  have GN : FnOk P w K mg base CX0 1 a_is_name fd_is_name ["thing"] (spName K) := ok_is_name F_is_name T
  have GW : FnOk P w K mg base CX0 2 fIW fd_is_within ["thing", "low", "high"] (spWithin K) := ok_is_within FW T FI bI
  refine F.ok sc_are_counts (fun vs H Q E h => ?_) (fun cdv A outer s H vs Q E hr h => ?_)
  · obtain ⟨a, o, most, lo, hi, rfl, _⟩ := h
    rfl
  · obtain ⟨a, o, most, lo, hi, rfl, ha, l1, l2, all, k⟩ := h
    refine ⟨_, (pss_cons (ps_if (PW.pt (pw_or (pt_not (pt_val (pe_callB call_isi (by rfl) T.b_isinstance (by decide +kernel) (pa_cons (pv 0) (pa_cons (pe_bltn (v := .ty "dict") rfl T.b_dict (by decide +kernel) rfl) pa_nil))))) (pw_or1 (pt_cmpR op_gt (pe_callB call_lenD (by rfl) T.b_len PySem.boot_len (pa_cons (pv 0) pa_nil)) (pv 1) (nomark _))))) (pss_one (ps_ret pe_bl)) pss_nil)
      (pss_one (ps_ret (pe_callB (cr_all rfl) (by rfl) T.b_all (by decide +kernel) (pa_cons (pe_lock (pe_lc (own := [("name", 4), ("many", 5)]) (g := gTup K 2 (gCons (gName 4) (gCons (gName 5) gNil))) (tt := tYes) rfl sc_are_counts.nd (pi_items (pv 0)) (blkOk_by (own := [("name", 4), ("many", 5)]) (N := ["thing", "most", "low", "high", "name", "many"]) (sc := defScope s_are_counts) (by decide +kernel)) (fun _ _ _ _ _ => pg_tup rfl (pgs_cons (pg_name (i := 4) sc_are_counts.nd rfl (Or.inl rfl)) (pgs_cons (pg_name (i := 5) sc_are_counts.nd rfl (Or.inl rfl)) pgs_nil))) (fun _ _ _ _ _ => pts_nil) (fun _ _ _ _ _ => (pe_and (pe_call GN (hr.mono (by decide)) (by rfl) TG.g_is_name TG.k_is_name b_is_name .nil pass0 (pa_cons (pv 4) pa_nil)) (pe_one (pe_call GW hr (by rfl) T.g_is_within T.k_is_within b_is_within .nil pass0 (pa_cons (pv 5) (pa_cons (pv 2) (pa_cons (pv 3) pa_nil))))))))) pa_nil))))), ?_⟩
    have bD : Bt K H (.ref a) "dict" := ⟨.base (.dK ha), by decide⟩
    refine ⟨_, rfl, _, _, _, _, _, rfl, .ty _, bD.ty, bD.kit (u := "dict") (by decide), _, rfl, ?_⟩
    refine iteF ?_
    refine ⟨_, rfl, a, _, rfl, ha, _, rfl, _, _, rfl, rfl, _, rfl, ?_⟩
    have lk : (opsK o).length = o.length := List.length_map ..
    rw [lk, decide_eq_false (show ¬ most < (o.length : Int) by omega)]
    refine iteF ?_
    refine ⟨a, _, ha, trivial, fun od => ⟨_, rfl, a, od, opsK o, rfl, upd_same, fun D nD => lc_it walk_items (fun i Hx => Same (upd H a (.frz od (.dK (opsK o)))) Hx ∧ Hx D = some (.lst (List.replicate i (V.bl true)))) ⟨sameNew nD _, upd_same⟩ (fun i Hx _ z => z.1 _ _ upd_same) (fun i y Ha Hb hi' z1 z2 => ?_) fun Hx z => ?_⟩⟩
    · obtain ⟨sx, ex⟩ := z1
      obtain ⟨T', x, y, rfl, nT, rfl, h1, h2⟩ := z2
      have hi2 : i < o.length := by rw [← lk]; exact hi'
      have e1 : (opsK o)[i]? = some (Sum.inr (o[i]).1, V.int (o[i]).2) := by
        unfold opsK
        rw [List.getElem?_map, List.getElem?_eq_getElem hi2]
        rfl
      dsimp only at h1 h2
      rw [e1] at h1 h2
      have h1' : V.str (o[i]).1 = x := Option.some.inj h1
      have h2' : V.int (o[i]).2 = y := Option.some.inj h2
      subst h1' h2'
      obtain ⟨g1, g2, g3⟩ := all _ (List.getElem_mem hi2)
      refine ⟨T', _, rfl, .inl (.inl upd_same), rfl, _, _, rfl, _, _, rfl, rfl, rfl, ?_⟩
      refine ⟨_, rfl, _, _, rfl, btStr _, fun x' e' => ?_, fun Hy sy => ⟨_, rfl, ?_⟩⟩
      · have e2 : (o[i]).1 = x' := V.str.inj e'
        rw [← e2]
        have := nm_len g1
        rw [sizeLine_eq]
        omega
      · rw [show nameV (.str (o[i]).1) = true from g1]
        refine iteT ?_
        refine ⟨_, rfl, _, rfl, _, rfl, _, _, _, _, rfl, btInt _, ?_⟩
        rw [inW_int g2 g3]
        have exy := sy _ _ (show upd Ha T' _ D = _ by rw [upd_ne (ne_of_none ex nT)]; exact ex)
        refine ⟨_, exy, ?_, fun b u e => ?_, ?_⟩
        · rw [List.length_replicate, sizeLine_eq]
          omega
        · have nb : b ≠ D := fun z => by
            rw [z] at e
            exact absurd (e.symm.trans nD) (by simp)
          rw [upd_ne nb]
          exact sy _ _ (by rw [upd_ne (ne_of_none (sx _ _ e) nT)]; exact sx _ _ e)
        · rw [List.replicate_succ']
          exact upd_same
    · obtain ⟨sx, ex⟩ := z
      have nDa : D ≠ a := fun z => by
        rw [z, upd_same] at nD
        cases nD
      refine ⟨sx _ _ upd_same, D, List.replicate (opsK o).length true, rfl, SqL.of (by rw [upd_ne nDa, trues_map]; exact ex), ?_⟩
      rw [trues_all]
      exact k _ (same_unlock ha sx)
end
end Mine

set_option maxRecDepth 100000
set_option maxHeartbeats 4000000
namespace Mine
open PySem L2
theorem at0' {α : Type} {a : α} {l : List α} : atI (a :: l) 0 = some a := atI_nat (j := 0) rfl
theorem at1' {α : Type} {a b : α} {l : List α} : atI (a :: b :: l) 1 = some b := atI_nat (j := 1) rfl
theorem at2' {α : Type} {a b c : α} {l : List α} : atI (a :: b :: c :: l) 2 = some c := atI_nat (j := 2) rfl
theorem nx_all {ns : List Int} {t : Addr} : (ns.map V.int).length = ns.length := List.length_map ..
section
variable {P : Program} {w : World} {K : PySem.W.Frag} {mg : Str → Option Value} {base : Heap}
variable {fII fIW a_is_row a_is_index a_is_name a_is_text_in a_are_counts a_word_of a_are_nexts a_is_line a_line_of a_are_operations : Addr}
theorem sc_are_operations : FnScope ["thing"] ["thing"] (defScope s_are_operations) := ⟨rfl, rfl, rfl, by decide +kernel, rfl, by decide +kernel, by decide +kernel⟩
theorem ok_are_operations {f : Addr} {fd fd_are_counts : FuncData} (F : Fun K "are_operations" "are_operations" s_are_operations f fd) (TG : TxtG K mg a_is_row a_is_index a_is_name a_is_text_in a_are_counts a_word_of a_are_nexts a_is_line a_line_of a_are_operations)
    (GC : FnOk P w K mg base CX0 3 a_are_counts fd_are_counts ["thing", "most", "low", "high"] spCounts) (b_are_counts : Binds K fd_are_counts ["thing", "most", "low", "high"] []) : FnOk P w K mg base CX0 4 f fd ["thing"] spOps := by
  refine F.ok sc_are_operations (fun vs H Q E h => ?_) (fun cdv A outer s H vs Q E hr h => ?_)
  · obtain ⟨a, o, rfl, _⟩ := h
    rfl
  · obtain ⟨a, o, rfl, ha, ok, k⟩ := h
    refine ⟨_, (pss_one (ps_ret (pe_call GC (hr.mono (by decide)) (by rfl) TG.g_are_counts TG.k_are_counts b_are_counts .nil pass0 (pa_cons (pv 0) (pa_cons (globI rfl TG.c_MOST_OPERATIONS) (pa_cons pe_int (pa_cons (globI rfl TG.c_MOST_ANSWERS) pa_nil))))))), ?_⟩
    have := ok.few
    exact ⟨_, rfl, a, o, 8, 0, 6, rfl, ha, by omega, by omega, ok.each, k⟩
theorem sc_word_of : FnScope ["row"] ["row"] (defScope s_word_of) := ⟨rfl, rfl, rfl, by decide +kernel, rfl, by decide +kernel, by decide +kernel⟩
theorem ok_word_of {f : Addr} {fd fd_is_row : FuncData} (F : Fun K "word_of" "word_of" s_word_of f fd) (T : TxtF K mg fII fIW) (TG : TxtG K mg a_is_row a_is_index a_is_name a_is_text_in a_are_counts a_word_of a_are_nexts a_is_line a_line_of a_are_operations)
    (GR : FnOk P w K mg base CX0 1 a_is_row fd_is_row ["thing"] (spIsRow K)) (b_is_row : Binds K fd_is_row ["thing"] []) : FnOk P w K mg base CX0 2 f fd ["row"] spWord := by
  refine F.ok sc_word_of (fun vs H Q E h => ?_) (fun cdv A outer s H vs Q E hr h => ?_)
  · obtain ⟨a, x, xs, rfl, _⟩ := h
    rfl
  · obtain ⟨a, x, xs, rfl, ha, k⟩ := h
    refine ⟨_, (pss_cons (ps_if (PW.pt (pw_and (pt_val (pe_call GR (hr.mono (by decide)) (by rfl) TG.g_is_row TG.k_is_row b_is_row .nil pass0 (pa_cons (pv 0) pa_nil))) (pw_and (pt_cmpR op_gt (pe_callB call_len_seq (by rfl) T.b_len PySem.boot_len (pa_cons (pv 0) pa_nil)) pe_int (nomark _)) (pw_and1 (pt_val (pe_callB call_isi (by rfl) T.b_isinstance (by decide +kernel) (pa_cons (pe_ix ix_seq (pv 0) pe_int (fun _ _ => rfl)) (pa_cons (pe_bltn (v := .ty "str") rfl T.b_str (by decide +kernel) rfl) pa_nil)))))))) (pss_one (ps_ret (pe_ix ix_seq (pv 0) pe_int (fun _ _ => rfl)))) pss_nil)
      (pss_one (ps_ret pe_str))), ?_⟩
    obtain ⟨t, b, e⟩ := btSeq (K := K) ha
    refine ⟨_, rfl, _, t, rfl, b, fun H1 s1 => ⟨_, rfl, ?_⟩⟩
    rw [e]
    refine iteT ?_
    have ha1 := s1.sqa ha
    refine ⟨_, rfl, a, _, rfl, ha1.sq, _, _, rfl, rfl, _, rfl, ?_⟩
    rw [decide_eq_true (show (0 : Int) < (((V.str x :: xs).length : Nat) : Int) by rw [List.length_cons]; omega)]
    refine iteT ?_
    refine ⟨_, rfl, ha1.ix at0' ?_⟩
    refine ⟨_, _, _, _, _, rfl, .ty _, (btStr (K := K) (H := H1) x).ty, (btStr (K := K) (H := H1) x).kit (u := "str") (by decide), _, rfl, ?_⟩
    refine iteT ?_
    exact ⟨_, rfl, ha1.ix at0' (k _ s1)⟩
theorem sc_are_nexts : FnScope ["nexts", "operation", "counts", "many", "index"] ["nexts", "operation", "counts", "many"] (defScope s_are_nexts) := ⟨rfl, rfl, rfl, by decide +kernel, rfl, by decide +kernel, by decide +kernel⟩
theorem ok_are_nexts {f : Addr} {fd fd_is_row fd_is_index : FuncData} (F : Fun K "are_nexts" "are_nexts" s_are_nexts f fd) (T : TxtF K mg fII fIW) (TG : TxtG K mg a_is_row a_is_index a_is_name a_is_text_in a_are_counts a_word_of a_are_nexts a_is_line a_line_of a_are_operations)
    (GR : FnOk P w K mg base CX0 1 a_is_row fd_is_row ["thing"] (spIsRow K)) (b_is_row : Binds K fd_is_row ["thing"] [])
    (GI : FnOk P w K mg base CX0 3 a_is_index fd_is_index ["thing", "many"] (spIndex K)) (b_is_index : Binds K fd_is_index ["thing", "many"] []) : FnOk P w K mg base CX0 4 f fd ["nexts", "operation", "counts", "many"] spNexts := by
  refine F.ok sc_are_nexts (fun vs H Q E h => ?_) (fun cdv A outer s H vs Q E hr h => ?_)
  · obtain ⟨t, d, ns, op, o, many, rfl, _⟩ := h
    rfl
  · obtain ⟨t, d, ns, op, o, many, rfl, ht, hd, hl, l2, all, k⟩ := h
    refine ⟨_, (pss_cons (ps_if (PW.pt (pw_or (pt_not (pt_val (pe_call GR (hr.mono (by decide)) (by rfl) TG.g_is_row TG.k_is_row b_is_row .nil pass0 (pa_cons (pv 0) pa_nil)))) (pw_or1 (pt_cmpR op_ne (pe_callB call_len_seq (by rfl) T.b_len PySem.boot_len (pa_cons (pv 0) pa_nil)) (pe_dget (hu_of hr) (pv 2) (pv 1) (fun _ _ => rfl)) (nomark _))))) (pss_one (ps_ret pe_bl)) pss_nil)
      (pss_one (ps_ret (pe_callB (cr_all rfl) (by rfl) T.b_all (by decide +kernel) (pa_cons (pe_lc (own := [("index", 4)]) (g := gName 4) (tt := tYes) (wi := iSeq K (tVar 0)) rfl sc_are_nexts.nd (pi_seq (pv 0)) (blkOk_by (own := [("index", 4)]) (N := ["nexts", "operation", "counts", "many", "index"]) (sc := defScope s_are_nexts) (by decide +kernel)) (fun _ _ _ _ _ => pg_name (i := 4) sc_are_nexts.nd rfl (Or.inl rfl)) (fun _ _ _ _ _ => pts_nil) (fun _ _ _ _ _ => (pe_call GI (hr.mono (by decide)) (by rfl) TG.g_is_index TG.k_is_index b_is_index .nil pass0 (pa_cons (pv 4) (pa_cons (pv 3) pa_nil))))) pa_nil))))), ?_⟩
    obtain ⟨ty, b, e⟩ := btSeq (K := K) ht
    refine ⟨_, rfl, _, ty, rfl, b, fun H1 s1 => ⟨_, rfl, ?_⟩⟩
    rw [e]
    refine iteF ?_
    have ht1 := s1.sqa ht
    have hd1 : Rd H1 d (.dK (opsK o)) := hd.elim (fun z => .inl (s1 _ _ z)) fun ⟨od, z⟩ => .inr ⟨od, s1 _ _ z⟩
    refine ⟨_, rfl, t, _, rfl, ht1.sq, _, rfl, _, rfl, d, _, rfl, .inl ⟨opsK o, .inr op, hd1, rfl, (by rw [val_ops, hl]; rfl)⟩, rfl, _, rfl, ?_⟩
    rw [List.length_map, decide_eq_true (show V.int (ns.length : Int) = V.int (ns.length : Int) from rfl)]
    refine iteF ?_
    have turn : ∀ (Hf : Hp) (D : Addr), Same H1 Hf → Hf D = none → ∀ i (y : V) Ha, i < (ns.map V.int).length → (Same Hf Ha ∧ Ha D = some (.lst (List.replicate i (V.bl true)))) → (ns.map V.int)[i]? = some y →
        inW y 0 (many - 1) = true ∧ (∃ z : Int, y = .int z) ∧ Ha D = some (.lst (List.replicate i (V.bl true))) ∧ (List.replicate i (V.bl true)).length < sizeLine ∧ (Same Hf (upd Ha D (.lst (List.replicate i (V.bl true) ++ [.bl true]))) ∧ upd Ha D (.lst (List.replicate i (V.bl true) ++ [.bl true])) D = some (.lst (List.replicate (i + 1) (V.bl true)))) := by
      intro Hf D sf nD i y Ha hi ⟨sx, ex⟩ hy
      rw [List.getElem?_map] at hy
      rw [List.length_map] at hi
      rw [List.getElem?_eq_getElem hi] at hy
      have e1 : V.int ns[i] = y := Option.some.inj hy
      subst e1
      obtain ⟨b1, b2⟩ := all _ (List.getElem_mem hi)
      refine ⟨inW_int b1 (by omega), ⟨_, rfl⟩, ex, ?_, fun b u e => ?_, ?_⟩
      · rw [List.length_replicate, sizeLine_eq]
        omega
      · have nb : b ≠ D := fun z => by
          rw [z] at e
          exact absurd (e.symm.trans nD) (by simp)
        rw [upd_ne nb]
        exact sx _ _ e
      · rw [List.replicate_succ']
        exact upd_same
    have fin : ∀ (D : Addr) (Hx : Hp), H1 D = none → (Same H1 Hx ∧ Hx D = some (.lst (List.replicate (ns.map V.int).length (V.bl true)))) → rAll K [.ref D] Hx fun v H' => Q v H' := by
      intro D Hx nD ⟨sx, ex⟩
      refine ⟨D, List.replicate (ns.map V.int).length true, rfl, SqL.of (by rw [trues_map]; exact ex), ?_⟩
      rw [trues_all]
      exact k _ (s1.trans sx)
    rcases ht1 with ht1 | ht1
    · refine .inl ⟨_, rfl, t, rfl, ⟨_, SqL.of ht1⟩, fun D nD => lc_it walk_list (fun i Hx => Same H1 Hx ∧ Hx D = some (.lst (List.replicate i (V.bl true)))) ⟨sameNew nD _, upd_same⟩ (fun i Hx _ z => SqL.of (z.1 _ _ ht1)) (fun i y Ha Hb hi z1 z2 => ?_) fun Hx z => fin D Hx nD z⟩
      obtain ⟨rfl, hy⟩ := z2
      obtain ⟨w1, ⟨z, rfl⟩, w3, w4, w5⟩ := turn H1 D (Same.refl _) nD i y _ hi z1 hy
      refine ⟨rfl, _, rfl, _, rfl, _, _, many, rfl, btInt z, ?_⟩
      rw [w1]
      exact ⟨_, w3, w4, w5⟩
    · refine .inr ⟨_, rfl, t, rfl, ⟨_, .inl (.inl ht1)⟩, fun D nD => lc_it walk_tup (fun i Hx => Same H1 Hx ∧ Hx D = some (.lst (List.replicate i (V.bl true)))) ⟨sameNew nD _, upd_same⟩ (fun i Hx _ z => .inl (.inl (z.1 _ _ ht1))) (fun i y Ha Hb hi z1 z2 => ?_) fun Hx z => fin D Hx nD z⟩
      obtain ⟨rfl, hy⟩ := z2
      obtain ⟨w1, ⟨z, rfl⟩, w3, w4, w5⟩ := turn H1 D (Same.refl _) nD i y _ hi z1 hy
      refine ⟨rfl, _, rfl, _, rfl, _, _, many, rfl, btInt z, ?_⟩
      rw [w1]
      exact ⟨_, w3, w4, w5⟩
end
end Mine

set_option maxRecDepth 100000
set_option maxHeartbeats 4000000
namespace L2
open PySem PySem.Spec PyProof.Rows
/-- tuple(x), x a list or a tuple: some tuple of the same things -/
def rTupG : List V → Hp → VK → Prop := fun xs H Q => ∃ p ys, xs = [.ref p] ∧ SqA H p ys ∧ ∀ (q : Addr) (H' : Hp), Same H H' → H' q = some (.tup ys) → Q (.ref q) H'
theorem call_tupleG {X : Cx} : CallR X (.type "tuple") rTupG := fun pins s σ H xs us Q I r ⟨p, ys, e, h, k⟩ => call_tuple_of pins s σ H xs us Q I r ⟨p, ys, e, h.elim (fun h => .inl ⟨SqL.of h, fun l hl => k l _ (sameNew hl _) upd_same⟩) fun h => .inr ⟨.inl (.inl h), k p H (Same.refl _) h⟩⟩
/-- list(x): a new list of the same things -/
def rLstG : List V → Hp → VK → Prop := fun xs H Q => ∃ p ys, xs = [.ref p] ∧ SqA H p ys ∧ New H (.lst ys) Q
theorem call_listG {X : Cx} : CallR X (.type "list") rLstG := fun pins s σ H xs us Q I r ⟨p, ys, e, h, k⟩ => call_list_of pins s σ H xs us Q I r ⟨p, ys, e, h.sq, fun l hl => k.at hl⟩
end L2
namespace Mine
open PySem L2
theorem strNe {x y : Str} (h : x ≠ y) : decide (V.str x = V.str y) = false := decide_eq_false fun z => h (V.str.inj z)
theorem strEq (x : Str) : decide (V.str x = V.str x) = true := decide_eq_true rfl
theorem intEq (i : Int) : decide (V.int i = V.int i) = true := decide_eq_true rfl
theorem ask_end : ("ask" : Str) ≠ "end" := by decide +kernel
theorem end_ask : ("end" : Str) ≠ "ask" := by decide +kernel
theorem go_ask : ("go" : Str) ≠ "ask" := by decide +kernel
theorem go_end : ("go" : Str) ≠ "end" := by decide +kernel
section
variable {P : Program} {w : World} {K : PySem.W.Frag} {mg : Str → Option Value} {base : Heap}
variable {fII fIW a_is_row a_is_index a_is_name a_is_text_in a_are_counts a_word_of a_are_nexts a_is_line a_line_of a_are_operations : Addr}
theorem sc_is_line : FnScope ["row", "counts", "many", "word"] ["row", "counts", "many"] (defScope s_is_line) := ⟨rfl, rfl, rfl, by decide +kernel, rfl, by decide +kernel, by decide +kernel⟩
theorem ok_is_line {f : Addr} {fd fd_word_of fd_is_text_in fd_are_nexts fd_is_name fd_is_index : FuncData} (F : Fun K "is_line" "is_line" s_is_line f fd) (T : TxtF K mg fII fIW) (TG : TxtG K mg a_is_row a_is_index a_is_name a_is_text_in a_are_counts a_word_of a_are_nexts a_is_line a_line_of a_are_operations)
    (GWo : FnOk P w K mg base CX0 2 a_word_of fd_word_of ["row"] spWord) (b_word_of : Binds K fd_word_of ["row"] [])
    (GT : FnOk P w K mg base CX0 1 a_is_text_in fd_is_text_in ["thing", "table"] (spTextIn K)) (b_is_text_in : Binds K fd_is_text_in ["thing", "table"] [])
    (GX : FnOk P w K mg base CX0 4 a_are_nexts fd_are_nexts ["nexts", "operation", "counts", "many"] spNexts) (b_are_nexts : Binds K fd_are_nexts ["nexts", "operation", "counts", "many"] [])
    (GNm : FnOk P w K mg base CX0 1 a_is_name fd_is_name ["thing"] (spName K)) (b_is_name : Binds K fd_is_name ["thing"] [])
    (GI : FnOk P w K mg base CX0 3 a_is_index fd_is_index ["thing", "many"] (spIndex K)) (b_is_index : Binds K fd_is_index ["thing", "many"] []) : FnOk P w K mg base CX0 5 f fd ["row", "counts", "many"] spIsLine := by
  refine F.ok sc_is_line (fun vs H Q E h => ?_) (fun cdv A outer s H vs Q E hr h => ?_)
  · obtain ⟨v, d, o, many, r, rfl, _⟩ := h
    rfl
  · obtain ⟨v, d, o, many, r, rfl, hv, hd, ok, k⟩ := h
    refine ⟨_, (pss_cons (ps_set (i := 3) sc_is_line.nd rfl (Or.inl rfl) (pe_call GWo (hr.mono (by decide)) (by rfl) TG.g_word_of TG.k_word_of b_word_of .nil pass0 (pa_cons (pv 0) pa_nil)))
      (pss_cons (ps_if (pt_cmpR op_eq (pv 3) pe_str (nomark _)) (pss_one (ps_ret (pe_and (pe_cmpR op_eq (pe_callB call_len_seq (by rfl) T.b_len PySem.boot_len (pa_cons (pv 0) pa_nil)) pe_int (nomark _)) (pe_and (pe_call GT (hr.mono (by decide)) (by rfl) TG.g_is_text_in TG.k_is_text_in b_is_text_in .nil pass0 (pa_cons (pe_ix ix_seq (pv 0) pe_int (fun _ _ => rfl)) (pa_cons (pv 1) pa_nil))) (pe_one (pe_call GX (hr.mono (by decide)) (by rfl) TG.g_are_nexts TG.k_are_nexts b_are_nexts .nil pass0 (pa_cons (pe_ix ix_seq (pv 0) pe_int (fun _ _ => rfl)) (pa_cons (pe_ix ix_seq (pv 0) pe_int (fun _ _ => rfl)) (pa_cons (pv 1) (pa_cons (pv 2) pa_nil)))))))))) pss_nil)
      (pss_cons (ps_if (pt_cmpR op_eq (pv 3) pe_str (nomark _)) (pss_one (ps_ret (pe_and (pe_cmpR op_eq (pe_callB call_len_seq (by rfl) T.b_len PySem.boot_len (pa_cons (pv 0) pa_nil)) pe_int (nomark _)) (pe_one (pe_call GNm (hr.mono (by decide)) (by rfl) TG.g_is_name TG.k_is_name b_is_name .nil pass0 (pa_cons (pe_ix ix_seq (pv 0) pe_int (fun _ _ => rfl)) pa_nil)))))) pss_nil)
      (pss_one (ps_ret (pe_and (pe_cmpR op_eq (pv 3) pe_str (nomark _)) (pe_and (pe_cmpR op_eq (pe_callB call_len_seq (by rfl) T.b_len PySem.boot_len (pa_cons (pv 0) pa_nil)) pe_int (nomark _)) (pe_one (pe_call GI (hr.mono (by decide)) (by rfl) TG.g_is_index TG.k_is_index b_is_index .nil pass0 (pa_cons (pe_ix ix_seq (pv 0) pe_int (fun _ _ => rfl)) (pa_cons (pv 2) pa_nil))))))))))), ?_⟩
    have rd : ∀ {H' : Hp}, Same H H' → Rd H' d (.dK (opsK o)) := fun s => hd.elim (fun z => .inl (s _ _ z)) fun ⟨od, z⟩ => .inr ⟨od, s _ _ z⟩
    cases r with
    | ask op ns =>
      obtain ⟨a, t, rfl, ha, ht⟩ := hv
      obtain ⟨o1, o2, o3⟩ := ok
      refine ⟨_, rfl, a, _, _, rfl, ha, fun H1 s1 => ?_⟩
      have ha1 := s1.sqa ha
      refine ⟨_, rfl, rfl, _, rfl, ?_⟩
      rw [strEq]
      refine iteT ?_
      refine ⟨_, rfl, a, _, rfl, ha1.sq, rfl, _, rfl, ?_⟩
      refine iteT ?_
      refine ⟨_, rfl, ha1.ix at1' ⟨_, rfl, _, _, d, _, rfl, btStr _, rd s1, _, rfl, ?_⟩⟩
      have hh : hasT (opsK o) (.str op) = true := by
        show (valV (opsK o) (.inr op)).isSome = true
        rw [val_ops, o1]
        rfl
      rw [hh]
      refine iteT ?_
      refine ⟨_, rfl, ha1.ix at2' ⟨_, rfl, ha1.ix at1' ⟨_, rfl, _, rfl, t, d, ns, op, o, many, rfl, s1.sqa ht, rd s1, o1, o2, o3, fun H2 s2 => k _ (s1.trans s2)⟩⟩⟩
    | fin x =>
      obtain ⟨a, rfl, ha⟩ := hv
      refine ⟨_, rfl, a, _, _, rfl, ha, fun H1 s1 => ?_⟩
      have ha1 := s1.sqa ha
      refine ⟨_, rfl, rfl, _, rfl, ?_⟩
      rw [strNe end_ask]
      refine iteF ?_
      refine ⟨_, rfl, rfl, _, rfl, ?_⟩
      rw [strEq]
      refine iteT ?_
      refine ⟨_, rfl, a, _, rfl, ha1.sq, rfl, _, rfl, ?_⟩
      refine iteT ?_
      refine ⟨_, rfl, ha1.ix at1' ⟨_, _, rfl, btStr _, fun x' e' => ?_, fun H2 s2 => ?_⟩⟩
      · have e2 : x = x' := V.str.inj e'
        rw [← e2, sizeLine_eq]
        have := ok.2
        omega
      · rw [show nameV (.str x) = true from ok.1]
        exact k _ (s1.trans s2)
    | go n =>
      obtain ⟨a, rfl, ha⟩ := hv
      refine ⟨_, rfl, a, _, _, rfl, ha, fun H1 s1 => ?_⟩
      have ha1 := s1.sqa ha
      refine ⟨_, rfl, rfl, _, rfl, ?_⟩
      rw [strNe go_ask]
      refine iteF ?_
      refine ⟨_, rfl, rfl, _, rfl, ?_⟩
      rw [strNe go_end]
      refine iteF ?_
      refine ⟨_, rfl, rfl, _, rfl, ?_⟩
      rw [strEq]
      refine iteT ?_
      refine ⟨_, rfl, a, _, rfl, ha1.sq, rfl, _, rfl, ?_⟩
      refine iteT ?_
      refine ⟨_, rfl, ha1.ix at1' ⟨_, rfl, _, _, many, rfl, btInt n, ?_⟩⟩
      rw [inW_int ok.1 (by have := ok.2; omega)]
      exact k _ s1
theorem sc_line_of : FnScope ["row"] ["row"] (defScope s_line_of) := ⟨rfl, rfl, rfl, by decide +kernel, rfl, by decide +kernel, by decide +kernel⟩
theorem ok_line_of {f : Addr} {fd : FuncData} (F : Fun K "line_of" "line_of" s_line_of f fd) (T : TxtF K mg fII fIW) : FnOk P w K mg base CX0 1 f fd ["row"] spLineOf := by
  refine F.ok sc_line_of (fun vs H Q E h => ?_) (fun cdv A outer s H vs Q E hr h => ?_)
  · obtain ⟨v, r, rfl, _⟩ := h
    rfl
  · obtain ⟨v, r, rfl, hv, k⟩ := h
    refine ⟨_, (pss_cons (ps_if (pt_cmpR op_eq (pe_ix ix_seq (pv 0) pe_int (fun _ _ => rfl)) pe_str (nomark _)) (pss_one (ps_ret (pe_tupG (pa_cons pe_str (pa_cons (pe_ix ix_seq (pv 0) pe_int (fun _ _ => rfl)) (pa_cons (pe_callTy call_tupleG (by rfl) T.b_tuple (by decide +kernel) (pa_cons (pe_ix ix_seq (pv 0) pe_int (fun _ _ => rfl)) pa_nil)) pa_nil)))))) pss_nil)
      (pss_one (ps_ret (pe_callTy call_tupleG (by rfl) T.b_tuple (by decide +kernel) (pa_cons (pv 0) pa_nil))))), ?_⟩
    cases r with
    | ask op ns =>
      obtain ⟨a, t, rfl, ha, ht⟩ := hv
      refine ⟨_, rfl, ha.ix at0' ⟨rfl, _, rfl, ?_⟩⟩
      rw [strEq]
      refine iteT ?_
      refine ⟨_, rfl, ha.ix at1' ⟨_, rfl, ha.ix at2' ⟨t, _, rfl, ht, fun p H1 s1 e1 => ?_⟩⟩⟩
      refine ⟨by show 3 ≤ sizeLine; decide, fun p2 H2 n2 s2 e2 => ?_⟩
      exact k _ _ (s1.trans s2) ⟨p2, p, rfl, e2, s2 _ _ e1⟩
    | fin x =>
      obtain ⟨a, rfl, ha⟩ := hv
      refine ⟨_, rfl, ha.ix at0' ⟨rfl, _, rfl, ?_⟩⟩
      rw [strNe end_ask]
      refine iteF ?_
      exact ⟨_, rfl, a, _, rfl, ha, fun p H1 s1 e1 => k _ _ s1 ⟨p, rfl, e1⟩⟩
    | go n =>
      obtain ⟨a, rfl, ha⟩ := hv
      refine ⟨_, rfl, ha.ix at0' ⟨rfl, _, rfl, ?_⟩⟩
      rw [strNe go_ask]
      refine iteF ?_
      exact ⟨_, rfl, a, _, rfl, ha, fun p H1 s1 e1 => k _ _ s1 ⟨p, rfl, e1⟩⟩
end
end Mine

/-! Where a walk along a function of the numbers below n comes to rest: plain mathematics. -/
namespace Mach
def itr (f : Nat → Nat) : Nat → Nat → Nat
  | 0, i => i
  | k + 1, i => itr f k (f i)
theorem itr_add (f : Nat → Nat) : ∀ a b i, itr f (a + b) i = itr f b (itr f a i)
  | 0, b, i => by rw [Nat.zero_add]; rfl
  | a + 1, b, i => by
    rw [Nat.succ_add]
    exact itr_add f a b (f i)
theorem itr_succ (f : Nat → Nat) (k i : Nat) : itr f (k + 1) i = f (itr f k i) := by
  rw [itr_add f k 1 i]
  rfl
theorem itr_lt {f : Nat → Nat} {n : Nat} (hf : ∀ i, i < n → f i < n) : ∀ k i, i < n → itr f k i < n
  | 0, _, h => h
  | k + 1, i, h => itr_lt hf k (f i) (hf i h)
theorem pigeon : ∀ (n : Nat) (l : List Nat), l.Nodup → (∀ x ∈ l, x < n) → l.length ≤ n
  | 0, [], _, _ => Nat.le_refl _
  | 0, x :: _, _, h => absurd (h x List.mem_cons_self) (Nat.not_lt_zero _)
  | n + 1, l, nd, h => by
    by_cases m : n ∈ l
    · have e := List.length_erase_of_mem m
      have ih := pigeon n (l.erase n) (nd.erase n) (fun x hx => by
        have h1 := (nd.mem_erase_iff).mp hx
        have h2 := h x h1.2
        have h3 := h1.1
        omega)
      omega
    · have ih := pigeon n l nd (fun x hx => by
        have h2 := h x hx
        have h3 : x ≠ n := fun z => m (z ▸ hx)
        omega)
      omega
/-- two places of the way are the same -/
theorem again {f : Nat → Nat} {n i : Nat} (hf : ∀ i, i < n → f i < n) (hi : i < n) : ∃ a b, a < b ∧ b ≤ n ∧ itr f a i = itr f b i := by
  by_cases h : ∃ a b, a < b ∧ b ≤ n ∧ itr f a i = itr f b i
  · exact h
  · have nd : ((List.range (n + 1)).map fun k => itr f k i).Nodup := by
      rw [List.Nodup, List.pairwise_map]
      refine List.Pairwise.imp_of_mem (fun {a b} ha hb lt e => h ⟨a, b, lt, ?_, e⟩) List.pairwise_lt_range
      have := List.mem_range.mp hb
      omega
    have := pigeon n _ nd (fun x hx => by
      obtain ⟨k, _, e⟩ := List.mem_map.mp hx
      rw [← e]
      exact itr_lt hf k i hi)
    rw [List.length_map, List.length_range] at this
    omega
/-- behind n steps a walk is on its ring -/
theorem ring_of {f : Nat → Nat} {n i : Nat} (hf : ∀ i, i < n → f i < n) (hi : i < n) : ∃ p, 0 < p ∧ itr f p (itr f n i) = itr f n i := by
  obtain ⟨a, b, lt, le, e⟩ := again hf hi
  refine ⟨b - a, by omega, ?_⟩
  have e1 : itr f n i = itr f (n - a) (itr f a i) := by
    rw [← itr_add]
    congr 1
    omega
  have e2 : itr f (b - a) (itr f a i) = itr f b i := by
    rw [← itr_add]
    congr 1
    omega
  rw [e1, ← itr_add, Nat.add_comm, itr_add, e2, ← e]
theorem ring_many {f : Nat → Nat} {p j : Nat} (h : itr f p j = j) : ∀ t, itr f (p * t) j = j
  | 0 => rfl
  | t + 1 => by
    rw [Nat.mul_succ, itr_add, ring_many h t, h]
theorem foldl_min : ∀ (l : List Nat) (a : Nat), (l.foldl Nat.min a = a ∨ l.foldl Nat.min a ∈ l) ∧ l.foldl Nat.min a ≤ a ∧ ∀ x ∈ l, l.foldl Nat.min a ≤ x
  | [], a => ⟨.inl rfl, Nat.le_refl _, fun _ h => nomatch h⟩
  | y :: l, a => by
    obtain ⟨h1, h2, h3⟩ := foldl_min l (Nat.min a y)
    refine ⟨?_, ?_, ?_⟩
    · rcases h1 with h1 | h1
      · by_cases q : a ≤ y
        · left
          show l.foldl Nat.min (Nat.min a y) = a
          rw [h1]
          exact Nat.min_eq_left q
        · right
          show l.foldl Nat.min (Nat.min a y) ∈ y :: l
          rw [h1, show Nat.min a y = y from Nat.min_eq_right (by omega)]
          exact List.mem_cons_self
      · exact .inr (List.mem_cons_of_mem _ h1)
    · exact Nat.le_trans h2 (Nat.min_le_left _ _)
    · intro x hx
      rcases List.mem_cons.mp hx with e | hx
      · rw [e]
        exact Nat.le_trans h2 (Nat.min_le_right _ _)
      · exact h3 x hx
/-- where a walk rests: the least number on the ring to which it comes (a fixed one is a ring by itself) -/
def stopAt (f : Nat → Nat) (n i : Nat) : Nat := ((List.range n).map fun k => itr f k (itr f n i)).foldl Nat.min (itr f n i)
theorem stop_mem (f : Nat → Nat) (n i : Nat) : ∃ k, stopAt f n i = itr f k (itr f n i) := by
  obtain ⟨h, _⟩ := foldl_min ((List.range n).map fun k => itr f k (itr f n i)) (itr f n i)
  rcases h with h | h
  · exact ⟨0, h⟩
  · obtain ⟨k, _, e⟩ := List.mem_map.mp h
    exact ⟨k, e.symm⟩
theorem stop_lt {f : Nat → Nat} {n i : Nat} (hf : ∀ i, i < n → f i < n) (hi : i < n) : stopAt f n i < n := by
  obtain ⟨k, e⟩ := stop_mem f n i
  rw [e]
  exact itr_lt hf k _ (itr_lt hf n i hi)
/-- from a place on the ring each place of the ring is met within n steps -/
theorem ring_short {f : Nat → Nat} {n j : Nat} (hf : ∀ i, i < n → f i < n) (hj : j < n) (k : Nat) : ∃ k', k' < n ∧ itr f k' j = itr f k j := by
  induction k using Nat.strongRecOn with
  | ind k ih =>
    by_cases h : k < n
    · exact ⟨k, h, rfl⟩
    · obtain ⟨a, b, lt, le, e⟩ := again hf hj
      have e2 : itr f k j = itr f (k - (b - a)) j := by
        have h1 : k = b + (k - b) := by omega
        have h2 : k - (b - a) = a + (k - b) := by omega
        rw [h2, itr_add, e, ← itr_add, ← h1]
      obtain ⟨k', h1, h2⟩ := ih (k - (b - a)) (by omega)
      exact ⟨k', h1, h2.trans e2.symm⟩
theorem stop_le {f : Nat → Nat} {n i : Nat} (hf : ∀ i, i < n → f i < n) (hi : i < n) (k : Nat) : stopAt f n i ≤ itr f k (itr f n i) := by
  obtain ⟨_, _, h⟩ := foldl_min ((List.range n).map fun k => itr f k (itr f n i)) (itr f n i)
  obtain ⟨k', lt, e⟩ := ring_short hf (itr_lt hf n i hi) k
  rw [← e]
  exact h _ (List.mem_map.mpr ⟨k', List.mem_range.mpr lt, rfl⟩)
theorem stop_unique {f : Nat → Nat} {n i s : Nat} (hf : ∀ i, i < n → f i < n) (hi : i < n) (h1 : ∃ k, s = itr f k (itr f n i)) (h2 : ∀ k, s ≤ itr f k (itr f n i)) : stopAt f n i = s := by
  obtain ⟨k, e⟩ := h1
  obtain ⟨k', e'⟩ := stop_mem f n i
  have a1 := stop_le hf hi k
  have a2 := h2 k'
  omega
theorem stop_step {f : Nat → Nat} {n i : Nat} (hf : ∀ i, i < n → f i < n) (hi : i < n) : stopAt f n (f i) = stopAt f n i := by
  have e : itr f n (f i) = f (itr f n i) := itr_succ f n i
  obtain ⟨p, p0, hp⟩ := ring_of hf hi
  refine stop_unique hf (hf i hi) ?_ fun k => ?_
  · obtain ⟨k, ek⟩ := stop_mem f n i
    refine ⟨k + p - 1, ?_⟩
    rw [ek, e]
    show _ = itr f (k + p - 1 + 1) (itr f n i)
    rw [show k + p - 1 + 1 = p + k by omega, itr_add, hp]
  · rw [e]
    exact stop_le hf hi (k + 1)
/-- on a ring that is written out: the least of it -/
theorem stop_ring {f : Nat → Nat} {n j m s : Nat} (hf : ∀ i, i < n → f i < n) (hj : j < n) (m0 : 0 < m) (h : itr f m j = j) (h1 : ∃ k, k < m ∧ s = itr f k j) (h2 : ∀ k, k < m → s ≤ itr f k j) : stopAt f n j = s := by
  have all : ∀ k, ∃ k', k' < m ∧ itr f k j = itr f k' j := fun k => by
    refine ⟨k % m, Nat.mod_lt _ m0, ?_⟩
    have e : k = m * (k / m) + k % m := (Nat.div_add_mod k m).symm
    conv => lhs; rw [e]
    rw [itr_add, ring_many h]
  refine stop_unique hf hj ?_ fun k => ?_
  · obtain ⟨k, _, e⟩ := h1
    refine ⟨k + (m * n - n), ?_⟩
    rw [e, ← itr_add]
    have hn : n ≤ m * n := Nat.le_mul_of_pos_left n m0
    rw [show n + (k + (m * n - n)) = m * n + k by omega, itr_add, ring_many h]
  · rw [← itr_add]
    obtain ⟨k', lt, e⟩ := all (n + k)
    rw [e]
    exact h2 k' lt
theorem stop_fix {f : Nat → Nat} {n j : Nat} (hf : ∀ i, i < n → f i < n) (hj : j < n) (h : f j = j) : stopAt f n j = j :=
  stop_ring hf hj (m := 1) (by decide) h ⟨0, by decide, rfl⟩ fun k hk => by
    have : k = 0 := by omega
    subst this
    exact Nat.le_refl _
end Mach

set_option maxRecDepth 100000
set_option maxHeartbeats 4000000
/-! Defs that are run where nothing is being shown (repr of containers asks for it): the same promise, at such places alone. -/
namespace L2
open PySem PySem.Spec PyProof.Rows
def Bare (A : Around) : Prop := A.guards = some []
theorem Bare.deeper {A : Around} (h : Bare A) (env : Env) : Bare (A.deeper env) := h
structure FnG (P : Program) (w : World) (K : PySem.W.Frag) (mg : Str → Option Value) (base : Heap) (CX : CXT) (k : Nat) (f : Addr) (fd : FuncData) (ps : List Str) (sp : Sp) : Prop where
  len : ∀ vs H Q E, sp vs H Q E → vs.length = ps.length
  run : ∀ (A : Around) (outer : List Env) (s : Shared) (H : Hp) (args : Args) (us : List Value) (vs : List V) (Q : VK) (E : XK), Bare A → Room k A → Env0 P w K mg base A outer s H → BindsTo s fd args (ps.zip us) → Vals vs us → sp vs H Q E →
    codeAny (model P w) A (.call (.ref f) args) (CR CX outer P w H s Q E) s
theorem FnOk.toG {P : Program} {w : World} {K : PySem.W.Frag} {mg : Str → Option Value} {base : Heap} {CX : CXT} {k : Nat} {f : Addr} {fd : FuncData} {ps : List Str} {sp : Sp} (F : FnOk P w K mg base CX k f fd ps sp) : FnG P w K mg base CX k f fd ps sp :=
  ⟨F.len, fun A outer s H args us vs Q E _ => F.run A outer s H args us vs Q E⟩
section
variable {P : Program} {w : World} {K : PySem.W.Frag} {mg : Str → Option Value} {base : Heap} {CX : CXT} {k : Nat} {f : Addr} {x qual : Str} {st : Stmt} {fd : FuncData} {N ps : List Str} {sp : Sp}
/-- a def by its body, at places where nothing is being shown -/
theorem Fun.okGX (F : Fun K x qual st f fd) (S : FnScope N ps (defScope st)) (len : ∀ vs H Q E, sp vs H Q E → vs.length = ps.length)
    (hbody : ∀ (cdv : Value) (A : Around) (outer : List Env) (s : Shared) (H : Hp) (vs : List V) (Q : VK) (E : XK), Bare A → Room k (A.deeper (envOfC qual (defScope st) s.heap.objs.size f cdv)) → sp vs H Q E →
      ∃ t, PSs (cxOf CX P w K mg base N qual (defScope st) f cdv A outer s H E) (defBody st) t ∧ t { nx := fun _ H' => Q .non H', rt := Q } (start N vs) H) : FnG P w K mg base CX (k + 1) f fd ps sp := by
  obtain ⟨oc, od, kV, doc, pm, an, cdv, ct, osl, rfl, lk, hcd⟩ := F.ex
  refine ⟨len, fun A outer s H args us vs Q E bare hr e0 hb r hsp => ?_⟩
  have same : ∀ b o, base.get? b = some o → s.heap.get? b = some o := fun b o e => (e0.bs b o e).1
  have KX : K.In s.heap := e0.mod.kin.keeps same
  have hkind : ∀ y ∈ ps.zip us, (defScope st).names.lookup y.1 = some .local ∨ ((defScope st).names.lookup y.1 = some .cell ∧ ((cellsFrom (s.heap.objs.size + 1) (defScope st).names []).lookup y.1).isSome = true) := by
    rintro ⟨n, v⟩ hy
    rcases S.par n (List.of_mem_zip hy).1 with q | q
    · exact .inl q
    · exact .inr ⟨q, PySem.W.cellsFrom_some _ _ _ (.inl q)⟩
  refine codeAny_call_function hr.depth (KX _ _ lk) rfl S.co S.gen rfl (PySem.W.codeRec_of KX hcd) (hb _ _ _ _ ?_)
  refine wpAny_newFunctionEnv_cells S.kind hkind fun env he s1 ic => ?_
  subst he
  refine ⟨(e0.mod.nolimit.keeps same).keeps ic.toInCall.keep, codeAny_func ?_⟩
  obtain ⟨t, ht, hq⟩ := hbody cdv A outer s H vs Q E bare (hr.deeper _) hsp
  have I := inv_start (CX := CX) (E := E) S hr.hd e0 (len _ _ _ _ hsp) r ic
  refine wpAny_mono (ht.run [] s1 (start N vs) H _ I hq) (fun fl s' hs => ?_) fun e s' hs => hs
  cases fl with
  | ret u =>
    obtain ⟨v, σ', H', J, rv, q⟩ := hs
    exact ⟨v, H', J.os, J.bare, J.base, J.hok, rv, q⟩
  | next =>
    obtain ⟨σ', H', J, q⟩ := hs
    exact ⟨V.non, H', J.os, J.bare, J.base, J.hok, rfl, q⟩
  | brk =>
    obtain ⟨_, _, _, q⟩ := hs
    exact False.elim q
  | cont =>
    obtain ⟨_, _, _, q⟩ := hs
    exact False.elim q
/-- the same for a def that lets nothing out -/
theorem Fun.okG (F : Fun K x qual st f fd) (S : FnScope N ps (defScope st)) (len : ∀ vs H Q E, sp vs H Q E → vs.length = ps.length)
    (hbody : ∀ (cdv : Value) (A : Around) (outer : List Env) (s : Shared) (H : Hp) (vs : List V) (Q : VK) (E : XK), Bare A → Room k (A.deeper (envOfC qual (defScope st) s.heap.objs.size f cdv)) → sp vs H Q E →
      ∃ t, PSs (cxOf CX0 P w K mg base N qual (defScope st) f cdv A outer s H E).nox (defBody st) t ∧ t { nx := fun _ H' => Q .non H', rt := Q } (start N vs) H) : FnG P w K mg base CX0 (k + 1) f fd ps sp :=
  F.okGX S len fun cdv A outer s H vs Q E hA hr h => by
    obtain ⟨t, h1, h2⟩ := hbody cdv A outer s H vs Q E hA hr h
    exact ⟨t, h1.nox, h2⟩
end
section
variable {X : Cx} {CX : CXT} {k : Nat} {f : Addr} {fd : FuncData} {ps : List Str} {sp : Sp} {dvs : List V} {ds : List Value} {E : XK} {x : Str} {p pos : Pos} {e : Expr} {es : List Expr} {t : TA}
theorem run_fnG {pins : List (Addr × Obj)} {σ : St} {H : Hp} {s : Shared} {Q : VK} {us : List Value} {vs : List V} (F : FnG X.prog X.w X.K X.mg X.base CX k f fd ps sp) (hA : Bare X.A) (hr : Room k X.A) (hb : Binds X.K fd ps ds) (hd : Vals dvs ds) (hx : Passes CX X E)
    (I : Inv X pins σ H s) (r : Vals vs us) (h : sp (vs ++ dvs) H Q E) : wpAny (model X.prog X.w) X.A (call (.ref f) us) (EP X pins σ Q) X.xe s := by
  have r2 : Vals (vs ++ dvs) (us ++ ds) := r.append hd
  have hl : (us ++ ds).length = ps.length := by
    rw [← r2.length]
    exact F.len _ _ _ _ h
  refine wpAny_call (codeAny_mono (F.run X.A X.stack s H ⟨us, []⟩ (us ++ ds) (vs ++ dvs) Q E hA hr I.env0 (hb s us I.kIn hl) r2 h) fun r s' hq => ?_)
  cases r with
  | error er => exact hx pins σ H s er s' I hq
  | ok fl =>
    cases fl with
    | ret u => exact I.after hq
    | next => exact False.elim hq
    | brk => exact False.elim hq
    | cont => exact False.elim hq
theorem pe_callG (F : FnG X.prog X.w X.K X.mg X.base CX k f fd ps sp) (hA : Bare X.A) (hr : Room k X.A) (hg : Gl X x) (hm : X.mg x = some (.ref f)) (hk : PySem.W.keepIn X.K (.ref f) = true) (hb : Binds X.K fd ps ds) (hd : Vals dvs ds) (hx : Passes CX X E)
    (ha : PA X (e :: es) t) (hdb : (x == ("__debug__" : Str)) = false := by decide) (he : starEach (e :: es) X.env = (false, eval e X.env) :: starEach es X.env := by rfl) (hpl : (backTo pos (starEach es X.env)).any (·.1) = false := by rfl) :
    PE X (.Call (.Name x p) (e :: es) [] pos) (tCall sp dvs E t) := by
  refine ⟨fun pins s σ H Q I h => ?_⟩
  refine wpAny_Call_Name_kw (ld_glob I hg hm ?_ hdb)
  exact PySem.W.callWith_K (h₀ := X.base) I.ok.mod.kin hk (thn (ha.run pos pins s σ H _ I h) fun us s1 ⟨vs, H1, I1, r, q⟩ => ⟨I1.kIn, run_fnG F hA hr hb hd hx I1 r q⟩) he hpl
end
/-! ### what repr says -/
def keyD : Key → PyData
  | .inl i => .int i
  | .inr x => .str x
/-- x, shown as d: data without dicts, or a dict of ints -/
def Shw (K : PySem.W.Frag) (H : Hp) (x : V) (d : PyData) : Prop :=
  (Dp K H x d ∧ d.hasDict = false) ∨ ∃ (a : Addr) (kvs : List (Key × Int)), x = .ref a ∧ H a = some (.dK (kvs.map fun kv => (kv.1, V.int kv.2))) ∧ d = .dict (kvs.map fun kv => (keyD kv.1, .int kv.2))
theorem reads_dict {P : Program} {w : World} {h : Heap} : ∀ {es : List DictEntry} {vs : List (Key × Value)} {kvs : List (Key × Int)}, Pairs (mixKind P w) es vs → KV (kvs.map fun kv => (kv.1, V.int kv.2)) vs →
    ReadsAll h (es.map (·.key)) ((kvs.map fun kv => (keyD kv.1, PyData.int kv.2)).map (·.1)) [] ∧ ReadsAll h (es.map (·.val)) ((kvs.map fun kv => (keyD kv.1, PyData.int kv.2)).map (·.2)) []
  | [], vs, [], _, _ => ⟨.nil, .nil⟩
  | [], vs, k :: kvs, p, r => by
    cases p
    cases r
  | e :: es, vs, [], p, r => by
    cases r
    cases p
  | e :: es, vs, k :: kvs, p, r => by
    cases r with
    | cons r1 rr =>
      cases p with
      | cons q1 q2 pr =>
        obtain ⟨h1, h2⟩ := reads_dict (h := h) pr rr
        obtain ⟨e1, t, e2⟩ := r1
        refine ⟨ReadsAll.cons (as := []) (bs := []) ?_ h1, ReadsAll.cons (as := []) (bs := []) ?_ h2⟩
        · have z : keyIs k.1 e.key = true := by
            have e1' : k.1 = _ := e1
            rw [e1']
            exact q1
          rcases keyIs_shape z with ⟨i, t', e3, e4⟩ | ⟨y, t', e3, e4⟩
          · show Reads h e.key (keyD k.1) []
            rw [e3, e4]
            exact Reads.int i t'
          · show Reads h e.key (keyD k.1) []
            rw [e3, e4]
            exact Reads.str y t'
        · show Reads h e.val (.int k.2) []
          rw [q2, e2]
          exact Reads.int _ t
theorem shw_reads {X : Cx} {pins : List (Addr × Obj)} {σ : St} {H : Hp} {s : Shared} {x : V} {u : Value} {d : PyData} (I : Inv X pins σ H s) (h : Shw X.K H x d) (r : RelV x u) : ∃ as, Reads s.heap u d as ∧ (d.hasDict = true → sysModules ∉ as) := by
  rcases h with ⟨h, nd⟩ | ⟨a, kvs, rfl, e, rfl⟩
  · obtain ⟨as, q⟩ := Dp.reads I d x u h r
    exact ⟨as, q, fun z => by rw [nd] at z; cases z⟩
  · cases (show u = Value.ref a from r)
    obtain ⟨_, ns, vs, rk, o, es, ep, ho, hx, hd, _, hp, _⟩ := (show ObjOk X.prog X.w H s.heap a (.dK _) from I.hok a _ e)
    obtain ⟨h1, h2⟩ := reads_dict (h := s.heap) hp rk
    refine ⟨_, Reads.dict ho hx.1 hd h1 h2, fun _ m => ?_⟩
    have : sysModules = a := by simpa using m
    rw [this] at ns
    simp at ns
def rRepr (K : PySem.W.Frag) : List V → Hp → VK → Prop := fun xs H Q => ∃ (x : V) (d : PyData), xs = [x] ∧ Shw K H x d ∧ d.showable = true ∧ d.depth ≤ 60 ∧ d.shown.length ≤ sizeLine ∧ Q (.str d.shown) H
theorem call_repr {X : Cx} (hA : Bare X.A) (hu : X.A.units + 64 < cLine) : CallR X (.builtin "repr") (rRepr X.K) := by
  intro pins s σ H xs us Q I r h
  obtain ⟨x, d, rfl, hs, sh, dp, sz, q⟩ := h
  obtain ⟨u, rfl, rx⟩ := vals1 r
  obtain ⟨as, rd, nsys⟩ := shw_reads I hs rx
  cases rd with
  | none => exact PySem.P.repr_of_none ⟨.str "None", H, I.tok _, ⟨_, rfl⟩, q⟩
  | bool b => exact PySem.P.repr_of_bool ⟨.str (if b then "True" else "False"), H, I.tok _, ⟨_, rfl⟩, q⟩
  | int i t => exact PySem.P.repr_of_int (of_decide_eq_true sh) ⟨.str (toString i), H, I.tok _, ⟨_, rfl⟩, q⟩
  | str y t => exact PySem.P.repr_of_str ⟨.str (reprText y), H, I.tok _, ⟨_, rfl⟩, q⟩ sz
  | list h1 h2 h3 h4 =>
    exact repr_of_reads' (Reads.list h1 h2 h3 h4) sh nsys hA (by omega) (fun b o e => e) (fun h' u tk k => ⟨.str _, H, I.kept (t' := tk) k, ⟨_, rfl⟩, q⟩) sz
  | tuple h1 h2 h3 h4 =>
    exact repr_of_reads' (Reads.tuple h1 h2 h3 h4) sh nsys hA (by omega) (fun b o e => e) (fun h' u tk k => ⟨.str _, H, I.kept (t' := tk) k, ⟨_, rfl⟩, q⟩) sz
  | dict h1 h2 h3 h4 h5 =>
    exact repr_of_reads' (Reads.dict h1 h2 h3 h4 h5) sh nsys hA (by omega) (fun b o e => e) (fun h' u tk k => ⟨.str _, H, I.kept (t' := tk) k, ⟨_, rfl⟩, q⟩) sz
end L2

set_option maxRecDepth 100000
set_option maxHeartbeats 4000000
/-! The end of a law row for a promise that holds where nothing is being shown: the claim's caller shows nothing. -/
namespace L2
open PySem PySem.Spec PyProof.Rows
section
variable {P : Program} {w : World} {K : PySem.W.Frag} {mg mb : Str → Option Value} {CX : CXT} {k : Nat} {fa sc : Addr} {fd : FuncData} {x : Str} {sp : Sp} {st : Shared} {its : List Value} {ns : List Int}
/-- from an abstract heap in which at most the script is tracked -/
theorem callG_at (KX : K.In st.heap) (gN : st.heap.Ns mainGlobals mg) (bN : st.heap.Ns builtinsNs mb) (bb : ∀ x : Str, x ≠ "__name__" → mb x = bootBuiltins x) (nl : st.heap.NoLimit) (gz : st.gens = #[])
    (hs : st.heap.get? sc = some { cls := .type "list", data := .seq its.toArray }) (hr : Room k callerA)
    (F : ∀ base : Heap, K.In base → base.Ns mainGlobals mg → FnG P w K mg base CX k fa fd [x] sp) (hb : ∀ (s : Shared) (u : Value), BindsTo s fd ⟨[u], []⟩ [(x, u)])
    (noX : ∀ H e s', CX [] H st (fun _ _ _ => False) e s' → False) (H : Hp) (hO : Only H) (hsp : sp [.ref sc] H (fun v _ => v = .bl true) fun _ _ _ => False)
    (ok : HOk P w H st.heap) (one : ∀ b, H b ≠ none → b = sc) (hK : H sc ≠ none → K.lookup sc = none) :
    codeAny (model P w) callerA (.call (.ref fa) ⟨[.ref sc], []⟩) (fun r s' => r = .ok (.ret (.bool true)) ∧ OldK st.heap s'.heap ∧ s'.os = st.os ∧ AllBare s'.gens) st := by
  have low : ∀ {b : Addr} {o : Obj}, st.heap.get? b = some o → H b = none → (hidT st.heap H).get? b = some o := fun e n => hidT_get e n
  have isSc : ∀ {b : Addr}, (∃ u, H b = some u) → b = sc := fun {b} ⟨u, q⟩ => one b (by rw [q]; simp)
  have free : ∀ {b : Addr}, b ≠ sc → H b = none := fun {b} ne => by
    cases q : H b with
    | none => rfl
    | some u => exact absurd (isSc ⟨u, q⟩) ne
  have notDict : ∀ {b : Addr} {o : Obj} {es : Array DictEntry} {ep : Nat}, st.heap.get? b = some o → o.data = .dict es ep → H b = none := fun {b o es ep} e d => by
    refine free fun z => ?_
    rw [z, hs] at e
    have e2 := Option.some.inj e
    subst e2
    have d2 : Data.seq its.toArray _ = Data.dict es ep := d
    cases d2
  have nsLow : ∀ {b : Addr} {m : Str → Option Value}, st.heap.Ns b m → (hidT st.heap H).Ns b m := fun {b m} z => by
    obtain ⟨o, es, ep, e, d, r⟩ := z
    exact ⟨o, es, ep, low e (notDict e d), d, r⟩
  have KL : K.In (hidT st.heap H) := fun b o e => low (KX b o e) (by
    cases q : H b with
    | none => rfl
    | some u =>
      have z := isSc ⟨u, q⟩
      subst z
      rw [hK (by rw [q]; simp)] at e
      cases e)
  obtain ⟨mc, l1, l2⟩ := nl
  have M : Mod K mg (hidT st.heap H) := ⟨KL, nsLow gN, ⟨mb, nsLow bN, bb⟩, ⟨mc, nsLow l1, l2⟩⟩
  have e0 : Env0 P w K mg (hidT st.heap H) callerA [] st H := ⟨rfl, M, fun b o e => of_hidT e, Nat.le_of_eq (hidT_size _ _), trivial, fun b hb => absurd (show b ∈ ([] : List Addr) from hb) (by simp), ok, .of_eq gz⟩
  refine codeAny_mono ((F _ KL (nsLow gN)).run callerA [] st H ⟨[.ref sc], []⟩ [.ref sc] [.ref sc] _ _ rfl hr e0 (hb st (.ref sc)) (.cons rfl .nil) hsp) fun r s' h => ?_
  cases r with
  | error e => exact (noX H e s' h).elim
  | ok fl =>
    cases fl with
    | next => exact False.elim h
    | brk => exact False.elim h
    | cont => exact False.elim h
    | ret u =>
      obtain ⟨v, H', os, bare, un, ok', r', q⟩ := h
      have q' : v = .bl true := q
      subst q'
      obtain rfl : u = Value.bool true := r'
      refine ⟨rfl, OldK.of_keep fun b o e => ?_, os, bare⟩
      rcases hO b with z | ⟨ob, xs, z⟩
      · exact un.keep b o e z (fun z => absurd (show b ∈ ([] : List Addr) from z) (by simp)) (by simp)
      · obtain ⟨e1, _⟩ := ok b _ z
        obtain ⟨e2, _⟩ := ok' b _ (un.frzs b ob _ z)
        rw [e] at e1
        cases e1
        exact e2
theorem law_callG (KX : K.In st.heap) (gN : st.heap.Ns mainGlobals mg) (bN : st.heap.Ns builtinsNs mb) (bb : ∀ x : Str, x ≠ "__name__" → mb x = bootBuiltins x) (nl : st.heap.NoLimit) (gz : st.gens = #[])
    (hs : st.heap.get? sc = some { cls := .type "list", data := .seq its.toArray }) (hi : IntsAre its ns) (hl : ns.length ≤ sizeLine) (hr : Room k callerA)
    (F : ∀ base : Heap, K.In base → base.Ns mainGlobals mg → FnG P w K mg base CX k fa fd [x] sp) (hb : ∀ (s : Shared) (u : Value), BindsTo s fd ⟨[u], []⟩ [(x, u)])
    (hsp : ∀ H : Hp, Only H → SqL K H sc (ns.map V.int) → sp [.ref sc] H (fun v _ => v = .bl true) fun _ _ _ => False) (noX : ∀ H e s', CX [] H st (fun _ _ _ => False) e s' → False) :
    codeAny (model P w) callerA (.call (.ref fa) ⟨[.ref sc], []⟩) (fun r s' => r = .ok (.ret (.bool true)) ∧ OldK st.heap s'.heap ∧ s'.os = st.os ∧ AllBare s'.gens) st := by
  have rv := vals_ints hi
  cases hk : K.lookup sc with
  | some o =>
    have e := KX sc o hk
    rw [hs] at e
    cases e
    have only : Only (fun _ => none) := fun _ => .inl rfl
    refine callG_at KX gN bN bb nl gz hs hr F hb noX (fun _ => none) only (hsp _ only (.inr ⟨_, its.toArray, _, hk, rfl, rfl, rfl, by rw [List.size_toArray, hi.length]; exact hl, by simpa using rv⟩)) (fun b u z => nomatch z) (fun b z => absurd rfl z) fun z => absurd rfl z
  | none =>
    let H : Hp := fun b => if b = sc then some (.frz { cls := .type "list", data := .seq its.toArray } (.lst (ns.map V.int))) else none
    have at' : H sc = some (.frz { cls := .type "list", data := .seq its.toArray } (.lst (ns.map V.int))) := if_pos rfl
    have off : ∀ {b : Addr}, b ≠ sc → H b = none := fun ne => if_neg ne
    have only : Only H := fun b => by
      by_cases z : b = sc
      · rw [z]
        exact .inr ⟨_, _, at'⟩
      · exact .inl (off z)
    refine callG_at KX gN bN bb nl gz hs hr F hb noX H only (hsp H only (.inl (.inr ⟨_, at'⟩))) (fun b u z => ?_) (fun b z => ?_) fun _ => hk
    · by_cases q : b = sc
      · subst q
        rw [at'] at z
        cases z
        exact ⟨hs, by rw [List.length_map]; exact hl, its, _, rv, hs⟩
      · rw [off q] at z
        cases z
    · by_cases q : b = sc
      · exact q
      · exact absurd (off q) z
end
theorem walk_ofG {l : PySem.W.OpenLaw} {n k : Nat} {q : Program} {loose : List Str} {XP : (Str → Option Value) → Heap → Prop} {YP : World → Heap → Prop} {d : DefRec} {K : Params → PySem.W.Frag} {CX : World → CXT} {sp : World → Sp} {x : Str}
    (hn : l.most = some n) (hn2 : n ≤ sizeLine) (hdf : d.params.defaults = []) (hr : Room k callerA) (hY : ∀ (w : World) (h : Heap), YP w h → (K w.params).In h)
    (F : ∀ (w : World) (mg : Str → Option Value) (fa : Addr) (h : Heap), (K w.params).In h → h.Ns mainGlobals mg → mg d.name = some (.ref fa) →
      ∃ fd : FuncData, (∀ (s : Shared) (u : Value), BindsTo s fd ⟨[u], []⟩ [(x, u)]) ∧ ∀ base : Heap, (K w.params).In base → base.Ns mainGlobals mg → FnG l.prog w (K w.params) mg base (CX w) k fa fd [x] (sp w))
    (hsp : ∀ (w : World) (H : Hp) (a : Addr) (ns : List Int), ns.length ≤ n → Only H → SqL (K w.params) H a (ns.map V.int) → sp w [.ref a] H (fun v _ => v = .bl true) fun _ _ _ => False)
    (hCX : ∀ (w : World) (H : Hp) (s : Shared) (e : Value) (s' : Shared), CX w [] H s (fun _ _ _ => False) e s' → False) :
    PySem.W.WalkO q loose XP YP l.row.toRowW d [] (fun f vs => PySem.call f vs) := by
  refine Att.attach_call hn hdf fun w s₀ s₁ mg mb fa o pm cd doc a vs ns G Y ho hd hcd hmg hobj hints hlen hg => ?_
  have KX := hY w _ Y
  obtain ⟨fd, hb, hF⟩ := F w mg fa _ KX G.T.g hmg
  exact law_callG KX G.T.g G.T.b G.T.builtins G.T.nolimit hg hobj hints (Nat.le_trans hlen hn2) hr hF hb (fun H hO hS => hsp w H a ns hlen hO hS) fun H e s' => hCX w H s₁ e s'
end L2

set_option maxRecDepth 100000
set_option maxHeartbeats 4000000
/-! Things that are shown by repr: what is kept of them in later heaps. -/
namespace L2
open PySem PySem.Spec PyProof.Rows
theorem Same.seqT {K : PySem.W.Frag} {H H' : Hp} {a : Addr} {xs : List V} (s : Same H H') (h : SqT K H a xs) : SqT K H' a xs := by
  rcases h with (h | ⟨o, h⟩) | h
  · exact .inl (.inl (s _ _ h))
  · exact .inl (.inr ⟨o, s _ _ h⟩)
  · exact .inr h
mutual
theorem Dp.same {K : PySem.W.Frag} {H H' : Hp} (s : Same H H') : ∀ (d : PyData) (v : V), Dp K H v d → Dp K H' v d
  | .none, _, h => by
    cases h
    exact .non
  | .bool b, _, h => by
    cases h
    exact .bl b
  | .int i, _, h => by
    cases h
    exact .int i
  | .str x, _, h => by
    cases h
    exact .str x
  | .list ds, _, h => by
    cases h with
    | lst q ha => exact .lst (s.seq q) (DpAll.same s ds _ ha)
  | .tuple ds, _, h => by
    cases h with
    | tup q ha => exact .tup (s.seqT q) (DpAll.same s ds _ ha)
  | .dict _, _, h => by cases h
theorem DpAll.same {K : PySem.W.Frag} {H H' : Hp} (s : Same H H') : ∀ (ds : List PyData) (vs : List V), DpAll K H vs ds → DpAll K H' vs ds
  | [], _, h => by
    cases h
    exact .nil
  | d :: ds, _, h => by
    cases h with
    | cons h1 h2 => exact .cons (Dp.same s d _ h1) (DpAll.same s ds _ h2)
end
theorem Shw.same {K : PySem.W.Frag} {H H' : Hp} {x : V} {d : PyData} (s : Same H H') (h : Shw K H x d) : Shw K H' x d := by
  rcases h with ⟨h, n⟩ | ⟨a, kvs, e1, e2, e3⟩
  · exact .inl ⟨h.same s d x, n⟩
  · exact .inr ⟨a, kvs, e1, s _ _ e2, e3⟩
/-- what is asked of a thing that is shown -/
structure Fine (d : PyData) : Prop where
  sh : d.showable = true
  dp : d.depth ≤ 60
  sz : d.shown.length ≤ sizeLine
  ok : PyData.strOk d.shown = true
def Good (K : PySem.W.Frag) (H : Hp) (v : V) : Prop := ∃ d, Shw K H v d ∧ Fine d
theorem Good.same {K : PySem.W.Frag} {H H' : Hp} {v : V} (s : Same H H') (h : Good K H v) : Good K H' v := by
  obtain ⟨d, a, b⟩ := h
  exact ⟨d, a.same s, b⟩
theorem strOk_of (s : String) : PyData.strOk (Str.ofString s) = true := by
  unfold PyData.strOk
  rw [Str.ofString_eq_toList]
  simp only [List.all_toArray, List.all_map, List.all_eq_true, Function.comp, decide_eq_true_eq]
  intro c _
  have := c.valid
  show c.toNat < 0x110000
  have z : c.val.toNat < 0x110000 := by
    rcases this with h | ⟨_, h⟩
    · have h' : c.val.toNat < 0xd800 := h
      omega
    · exact h
  exact z
theorem fine_int {n : Int} (h0 : 0 ≤ n) (h : n < 10 ^ 30) : Fine (.int n) := by
  have l : n.natAbs < 2 ^ 100 := by
    have : (n.natAbs : Int) = n := by omega
    have h2 : (n.natAbs : Int) < 10 ^ 30 := by omega
    have h3 : n.natAbs < 10 ^ 30 := by exact_mod_cast h2
    exact Nat.lt_trans h3 (by decide)
  have l2 : n.natAbs.log2 < 1920 := Nat.lt_trans (PySem.Flt.log2_lt_of (by decide) l) (by decide)
  exact ⟨decide_eq_true l2, Nat.zero_le _, int_text_fits l2, strOk_of _⟩
/-! lists of texts as data -/
theorem strs_lay : ∀ ts : List Str, (∀ t ∈ ts, PyData.strOk t = true) → PyData.canLayAll0 (ts.map PyData.str) = true
  | [], _ => rfl
  | t :: ts, h => by
    show (PyData.strOk t && PyData.canLayAll0 (ts.map PyData.str)) = true
    rw [strs_lay ts fun u m => h u (List.mem_cons_of_mem _ m), h t List.mem_cons_self]
    rfl
theorem strs_flat : ∀ ts : List Str, PyData.depthAll (ts.map PyData.str) = 0
  | [] => rfl
  | t :: ts => by
    show max (PyData.depth (.str t)) (PyData.depthAll (ts.map PyData.str)) = 0
    rw [strs_flat ts]
    rfl
theorem strs_shaped (ts : List Str) (h : ∀ t ∈ ts, PyData.strOk t = true) : SeqAt.shaped (.list (ts.map PyData.str)) = true := by
  have h1 : PyData.canLay0 (.list (ts.map PyData.str)) = true := strs_lay ts h
  have h2 : PyData.depth (.list (ts.map PyData.str)) = 1 := by
    show PyData.depthAll (ts.map PyData.str) + 1 = 1
    rw [strs_flat ts]
  unfold SeqAt.shaped
  rw [h1, h2]
  rfl
theorem strs_all {K : PySem.W.Frag} {H : Hp} : ∀ ts : List Str, DpAll K H (ts.map V.str) (ts.map PyData.str)
  | [] => .nil
  | t :: ts => .cons (.str t) (strs_all ts)
theorem strs_dp {K : PySem.W.Frag} {H : Hp} {p : Addr} {ts : List Str} (h : H p = some (.lst (ts.map V.str))) : Dp K H (.ref p) (.list (ts.map PyData.str)) := .lst (SqL.of h) (strs_all ts)
theorem strs_same (ts : List Str) (h : ∀ t ∈ ts, PyData.strOk t = true) : PyData.eqv (.list (ts.map PyData.str)) (.list (ts.map PyData.str)) = true := SeqAt.eqv_refl _ (strs_lay ts h)
def rRepG : R2 := fun x y H Q => ∃ l k xs, x = .ref l ∧ y = .int k ∧ H l = some (.lst xs) ∧ -(2 ^ 63) ≤ k ∧ k < 2 ^ 63 ∧ xs.length * k.toNat ≤ sizeLine ∧ New H (.lst (List.replicate k.toNat xs).flatten) Q
theorem op_repG {X : Cx} : OpR X (binaryOp .Mult) rRepG := fun pins s σ H x y v u Q I rx ry ⟨l, k, xs, e1, e2, e3, e4, e5, e6, q⟩ => op_rep pins s σ H x y v u Q I rx ry ⟨l, k, xs, e1, e2, e3, e4, e5, e6, fun p n => q.at n⟩
end L2

set_option maxRecDepth 100000
set_option maxHeartbeats 4000000
namespace Mine
open PySem L2
abbrev s_rest_of : Stmt := top 28
abbrev s_stops_of : Stmt := top 27
theorem inV_ints {a : Int} : ∀ {ts : List Int}, inV (.int a) (ts.map V.int) = decide (a ∈ ts)
  | [] => by simp [inV]
  | t :: ts => by
    have ih := inV_ints (a := a) (ts := ts)
    unfold inV at ih ⊢
    rw [List.map_cons, List.any_cons, ih]
    show (t == a || decide (a ∈ ts)) = _
    by_cases h : t = a
    · subst h
      simp
    · have h2 : (t == a) = false := beq_eq_false_iff_ne.mpr h
      rw [h2, Bool.false_or]
      by_cases m : a ∈ ts
      · rw [decide_eq_true m, decide_eq_true (List.mem_cons_of_mem _ m)]
      · rw [decide_eq_false m, decide_eq_false (fun z => (List.mem_cons.mp z).elim (fun y => h y.symm) m)]
theorem flat_ints (ts : List Int) : (ts.map V.int).all flatV = true := by
  rw [List.all_map]
  exact List.all_eq_true.mpr fun _ _ => rfl
/-- min of the trail from where `at` stands, or `at` -/
def RestIs (ts : List Int) (a m : Int) : Prop := (a ∉ ts → m = a) ∧ ∀ j, ts[j]? = some a → (∀ i, i < j → ts[i]? ≠ some a) → m ∈ ts.drop j ∧ ∀ x ∈ ts.drop j, m ≤ x
def spRest (K : PySem.W.Frag) : Sp := fun vs H Q _ => ∃ (p : Addr) (ts : List Int) (a : Int), vs = [.ref p, .int a] ∧ H p = some (.lst (ts.map V.int)) ∧ ∀ (m : Int) (H' : Hp), Same H H' → RestIs ts a m → Q (.int m) H'
theorem first_at {a : Int} : ∀ {ts : List Int}, a ∈ ts → ∃ j : Nat, ts[j]? = some a ∧ ∀ i : Nat, i < j → ts[i]? ≠ some a
  | [], h => nomatch h
  | t :: ts, h => by
    by_cases e : t = a
    · exact ⟨0, by rw [e]; rfl, fun i hi => absurd hi (Nat.not_lt_zero i)⟩
    · obtain ⟨j, h1, h2⟩ := first_at (a := a) (ts := ts) ((List.mem_cons.mp h).elim (fun z => absurd z.symm e) id)
      refine ⟨j + 1, by simpa using h1, fun i hi => ?_⟩
      cases i with
      | zero => simpa using e
      | succ i => simpa using h2 i (by omega)
section
variable {P : Program} {w : World} {K : PySem.W.Frag} {mg : Str → Option Value} {base : Heap}
variable {fII fIW a_is_row a_is_index a_is_name a_is_text_in a_are_counts a_word_of a_are_nexts a_is_line a_line_of a_are_operations : Addr}
theorem sc_rest_of : FnScope ["trail", "at"] ["trail", "at"] (defScope s_rest_of) := ⟨rfl, rfl, rfl, by decide +kernel, rfl, by decide +kernel, by decide +kernel⟩
theorem ok_rest_of {f : Addr} {fd : FuncData} (F : Fun K "rest_of" "rest_of" s_rest_of f fd) (hmin : mg "min" = none) : FnOk P w K mg base CX0 1 f fd ["trail", "at"] (spRest K) := by
  refine F.ok sc_rest_of (fun vs H Q E h => ?_) (fun cdv A outer s H vs Q E hr h => ?_)
  · obtain ⟨p, ts, a, rfl, _⟩ := h
    rfl
  · obtain ⟨p, ts, a, rfl, hp, k⟩ := h
    refine ⟨_, (pss_cons (ps_if (pt_cmpR op_in_seq (pv 1) (pv 0) (by rfl)) (pss_one (ps_ret (pe_callB (cr_min rfl) (by rfl) hmin (by decide +kernel) (pa_cons (pe_slice sl_listG (pv 0) (po_some (pe_bm PySem.F.plainAttrs_list PySem.F.slot_list_index PySem.F.type_list_index mt_index (pv 0) (pa_cons (pv 1) pa_nil))) po_none) pa_nil)))) pss_nil)
      (pss_one (ps_ret (pv 1)))), ?_⟩
    refine ⟨_, rfl, _, rfl, p, _, rfl, .inl (SqL.of hp), rfl, flat_ints ts, _, rfl, ?_⟩
    show if inV (.int a) (ts.map V.int) = true then _ else _
    rw [inV_ints]
    refine ite2 (fun h1 => ?_) (fun h1 => ?_)
    · obtain ⟨j, hj, hf⟩ := first_at (of_decide_eq_true h1)
      have hjl : j < ts.length := (List.getElem?_eq_some_iff.mp hj).1
      refine ⟨_, rfl, _, rfl, .inl ⟨rfl, _, SqL.of hp⟩, _, rfl, p, _, _, j, .int a, rfl, rfl, SqL.of hp, rfl, flat_ints ts, by rw [List.getElem?_map, hj]; rfl, by show (a == a) = true; exact beq_self_eq_true a, fun m z hm hz => ?_, ?_⟩
      · rw [List.getElem?_map] at hz
        cases e : ts[m]? with
        | none => rw [e] at hz; cases hz
        | some b =>
          rw [e] at hz
          have e2 : V.int b = z := Option.some.inj hz
          subst e2
          show (b == a) = false
          exact beq_eq_false_iff_ne.mpr fun y => hf m hm (by rw [e, y])
      · refine ⟨_, rfl, p, _, rfl, SqL.of hp, fun q1 H1 n1 s1 e1 => ?_⟩
        have e2 : cutV (ts.map V.int) (some (j : Int)) none = (ts.drop j).map V.int := by
          unfold cutV
          rw [HT.sIx_nat, HT.sIx_none, List.length_map, Nat.min_eq_left (by omega), List.map_drop]
          exact List.take_of_length_le (by rw [List.length_drop, List.length_map]; omega)
        rw [e2] at e1
        refine ⟨q1, ts.drop j, rfl, SqL.of e1, by rw [List.length_drop]; omega, fun m h2 h3 => k m _ s1 ⟨fun z => absurd (of_decide_eq_true h1) z, fun j' hj' hf' => ?_⟩⟩
        have : j' = j := by
          by_cases lt : j' < j
          · exact absurd hj' (hf j' lt)
          · by_cases lt2 : j < j'
            · exact absurd hj (hf' j lt2)
            · omega
        subst this
        exact ⟨h2, h3⟩
    · exact ⟨_, rfl, k a _ (Same.refl _) ⟨fun _ => rfl, fun j hj _ => absurd (decide_eq_true (List.mem_of_getElem? hj)) h1⟩⟩
end
end Mine

set_option maxRecDepth 100000
set_option maxHeartbeats 4000000
namespace Mine
open PySem L2
def nxt (rs : List RowD) (i : Nat) : Nat := match rs[i]? with
  | some (.go k) => k.toNat
  | _ => i
def isGo (rs : List RowD) (i : Nat) : Bool := match rs[i]? with
  | some (.go _) => true
  | _ => false
def GoOk (rs : List RowD) : Prop := ∀ (i : Nat) (k : Int), rs[i]? = some (.go k) → 0 ≤ k ∧ k < rs.length
theorem nxt_lt {rs : List RowD} (h : GoOk rs) (i : Nat) (hi : i < rs.length) : nxt rs i < rs.length := by
  unfold nxt
  split
  · rename_i k e
    have := h i k e
    omega
  · exact hi
theorem nxt_fix {rs : List RowD} {i : Nat} (h : isGo rs i = false) : nxt rs i = i := by
  unfold isGo at h
  unfold nxt
  split
  · rename_i k e
    rw [e] at h
    cases h
  · rfl
abbrev way (rs : List RowD) (k i : Nat) : Nat := Mach.itr (nxt rs) k i
def stp (rs : List RowD) (i : Nat) : Nat := Mach.stopAt (nxt rs) rs.length i
theorem stp_way {rs : List RowD} (h : GoOk rs) : ∀ (k i : Nat), i < rs.length → stp rs (way rs k i) = stp rs i
  | 0, _, _ => rfl
  | k + 1, i, hi => by
    show stp rs (way rs k (nxt rs i)) = _
    rw [stp_way h k _ (nxt_lt h i hi)]
    exact Mach.stop_step (nxt_lt h) hi
/-- a list of ints by its places -/
def fl (n : Nat) (g : Nat → Int) : List V := (List.range n).map fun i => V.int (g i)
theorem fl_len {n : Nat} {g : Nat → Int} : (fl n g).length = n := by
  unfold fl
  rw [List.length_map, List.length_range]
theorem fl_get {n k : Nat} {g : Nat → Int} (h : k < n) : (fl n g)[k]? = some (V.int (g k)) := by
  unfold fl
  rw [List.getElem?_map, List.getElem?_range h]
  rfl
theorem fl_at {n k : Nat} {g : Nat → Int} (h : k < n) : atI (fl n g) (k : Int) = some (V.int (g k)) := atI_nat (fl_get h)
theorem fl_set {n k : Nat} {g : Nat → Int} {v : Int} (h : k < n) : (fl n g).set k (V.int v) = fl n (fun i => if i = k then v else g i) := by
  apply List.ext_getElem?
  intro i
  by_cases hi : i < n
  · rw [fl_get hi]
    by_cases e : i = k
    · subst e
      rw [List.getElem?_set_self (by rw [fl_len]; exact hi), if_pos rfl]
    · rw [List.getElem?_set_ne (Ne.symm e), fl_get hi, if_neg e]
  · rw [List.getElem?_eq_none (by rw [List.length_set, fl_len]; omega), List.getElem?_eq_none (by rw [fl_len]; omega)]
theorem fl_rep (n : Nat) : (List.replicate n [V.int (-1)]).flatten = fl n fun _ => -1 := by
  apply List.ext_getElem?
  intro i
  have e : (List.replicate n [V.int (-1)]).flatten = List.replicate n (V.int (-1)) := by simp
  rw [e]
  by_cases hi : i < n
  · rw [fl_get hi, List.getElem?_replicate, if_pos hi]
  · rw [List.getElem?_eq_none (by rw [List.length_replicate]; omega), List.getElem?_eq_none (by rw [fl_len]; omega)]
theorem ixn {n k : Nat} (h : k < n) : ixN n (k : Int) = some k := by
  unfold ixN
  rw [if_pos (by omega), if_pos (by omega)]
  simp
/-- the rows stand there as tuples -/
def Rows (H : Hp) (xs : List V) (rs : List RowD) : Prop := xs.length = rs.length ∧ ∀ (i : Nat) (r : RowD), rs[i]? = some r → ∃ x, xs[i]? = some x ∧ TRow H x r
theorem Rows.same {H H' : Hp} {xs : List V} {rs : List RowD} (s : Same H H') (h : Rows H xs rs) : Rows H' xs rs := ⟨h.1, fun i r e => by
  obtain ⟨x, h1, h2⟩ := h.2 i r e
  exact ⟨x, h1, h2.same s⟩⟩
def wordOf : RowD → Str
  | .ask _ _ => "ask"
  | .go _ => "go"
  | .fin _ => "end"
theorem TRow.head {H : Hp} {v : V} {r : RowD} (h : TRow H v r) : ∃ a xs, v = .ref a ∧ H a = some (.tup (.str (wordOf r) :: xs)) := by
  cases r with
  | ask op ns =>
    obtain ⟨a, t, e, h1, _⟩ := h
    exact ⟨a, _, e, h1⟩
  | go n =>
    obtain ⟨a, e, h1⟩ := h
    exact ⟨a, _, e, h1⟩
  | fin w =>
    obtain ⟨a, e, h1⟩ := h
    exact ⟨a, _, e, h1⟩
def spStops : Sp := fun vs H Q _ => ∃ (a : Addr) (xs : List V) (rs : List RowD), vs = [.ref a] ∧ H a = some (.lst xs) ∧ Rows H xs rs ∧ GoOk rs ∧ rs.length ≤ 100000 ∧ New H (.lst (fl rs.length fun i => (stp rs i : Int))) Q
/-- what holds ahead of the turn b of stops_of -/
structure StB (rs : List RowD) (b : Nat) (ss ws : Nat → Int) : Prop where
  any : ∀ i, i < rs.length → ss i = -1 ∨ ss i = stp rs i
  done : ∀ i, i < b → ss i = stp rs i
  ws : ∀ i, i < rs.length → ws i < b
/-- what holds within the walk from b, behind k steps -/
structure InW (rs : List RowD) (b k : Nat) (ss ws : Nat → Int) : Prop where
  go : ∀ j, j < k → isGo rs (way rs j b) = true
  new : ∀ j, j < k → ss (way rs j b) = -1
  mark : ∀ i, i < rs.length → (ws i = b ↔ ∃ j, j < k ∧ way rs j b = i)
  le : ∀ i, i < rs.length → ws i ≤ b
  ne : ∀ j j', j < j' → j' < k → way rs j b ≠ way rs j' b
/-- the walk's test -/
def goOn (rs : List RowD) (b k : Nat) (ss ws : Nat → Int) : Bool := decide (ss (way rs k b) < 0) && (!decide (ws (way rs k b) = b) && isGo rs (way rs k b))
theorem InW.room {rs : List RowD} {b k : Nat} {ss ws : Nat → Int} (ok : GoOk rs) (hb : b < rs.length) (w : InW rs b k ss ws) (h : ws (way rs k b) ≠ b) : k < rs.length := by
  have lt : ∀ j, way rs j b < rs.length := fun j => Mach.itr_lt (nxt_lt ok) j b hb
  have nd : ((List.range (k + 1)).map fun j => way rs j b).Nodup := by
    rw [List.Nodup, List.pairwise_map]
    refine List.Pairwise.imp_of_mem (fun {i j} hi hj l e => ?_) List.pairwise_lt_range
    have hj' := List.mem_range.mp hj
    by_cases q : j = k
    · subst q
      exact h (((w.mark _ (lt _)).mpr ⟨i, l, e⟩))
    · exact w.ne i j l (by omega) e
  have := Mach.pigeon _ _ nd (fun x hx => by
    obtain ⟨j, _, e⟩ := List.mem_map.mp hx
    rw [← e]
    exact lt j)
  rw [List.length_map, List.length_range] at this
  omega
theorem InW.more {rs : List RowD} {b k : Nat} {ss ws : Nat → Int} (ok : GoOk rs) (hb : b < rs.length) (w : InW rs b k ss ws) (h0 : ss (way rs k b) = -1) (h1 : ws (way rs k b) ≠ b) (h2 : isGo rs (way rs k b) = true) :
    InW rs b (k + 1) ss (fun i => if i = way rs k b then (b : Int) else ws i) := by
  have lt : ∀ j, way rs j b < rs.length := fun j => Mach.itr_lt (nxt_lt ok) j b hb
  refine ⟨fun j hj => ?_, fun j hj => ?_, fun i hi => ?_, fun i hi => ?_, fun j j' l hj e => ?_⟩
  · by_cases q : j = k
    · rw [q]
      exact h2
    · exact w.go j (by omega)
  · by_cases q : j = k
    · rw [q]
      exact h0
    · exact w.new j (by omega)
  · by_cases q : i = way rs k b
    · rw [if_pos q]
      exact ⟨fun _ => ⟨k, by omega, q.symm⟩, fun _ => rfl⟩
    · rw [if_neg q, w.mark i hi]
      constructor
      · rintro ⟨j, hj, e⟩
        exact ⟨j, by omega, e⟩
      · rintro ⟨j, hj, e⟩
        refine ⟨j, ?_, e⟩
        by_cases z : j = k
        · rw [z] at e
          exact absurd e.symm q
        · omega
  · show (if i = way rs k b then (b : Int) else ws i) ≤ b
    split
    · exact Int.le_refl _
    · exact w.le i hi
  · by_cases q : j' = k
    · subst q
      exact h1 (((w.mark _ (lt _)).mpr ⟨j, l, e⟩))
    · exact w.ne j j' l (by omega) e
/-- where the walk ends, what rest_of hands back is where it rests -/
theorem InW.rest {rs : List RowD} {b k : Nat} {ss ws : Nat → Int} (ok : GoOk rs) (hb : b < rs.length) (w : InW rs b k ss ws) (any : ∀ i, i < rs.length → ss i = -1 ∨ ss i = stp rs i) (hend : goOn rs b k ss ws = false) (neg : ss (way rs k b) < 0) {m : Int}
    (h : RestIs ((List.range k).map fun j => (way rs j b : Int)) (way rs k b : Int) m) : m = stp rs (way rs k b) := by
  have lt : ∀ j, way rs j b < rs.length := fun j => Mach.itr_lt (nxt_lt ok) j b hb
  by_cases mk : ws (way rs k b) = b
  · obtain ⟨j, hj, e⟩ := (w.mark _ (lt k)).mp mk
    have hget : ∀ i, i < k → ((List.range k).map fun j => (way rs j b : Int))[i]? = some (way rs i b : Int) := fun i hi => by
      rw [List.getElem?_map, List.getElem?_range hi]
      rfl
    obtain ⟨h1, h2⟩ := h.2 j (by rw [hget j hj, e]) (fun i hi z => by
      rw [hget i (by omega)] at z
      have z2 : (way rs i b : Int) = (way rs k b : Int) := Option.some.inj z
      exact w.ne i j hi hj (by omega))
    have hmem : ∀ x, x ∈ ((List.range k).map fun j => (way rs j b : Int)).drop j ↔ ∃ i, i < k - j ∧ x = (way rs i (way rs k b) : Int) := fun x => by
      have ee : ∀ i, way rs (j + i) b = way rs i (way rs k b) := fun i => by
        rw [← e]
        exact Mach.itr_add _ j i b
      constructor
      · intro hx
        obtain ⟨i, hi⟩ := List.mem_iff_getElem?.mp hx
        rw [List.getElem?_drop] at hi
        have hik : j + i < k := by
          have := (List.getElem?_eq_some_iff.mp hi).1
          simpa using this
        rw [hget _ hik] at hi
        have z : (way rs (j + i) b : Int) = x := Option.some.inj hi
        refine ⟨i, by omega, ?_⟩
        rw [← ee i]
        exact z.symm
      · rintro ⟨i, hi, rfl⟩
        refine List.mem_iff_getElem?.mpr ⟨i, ?_⟩
        rw [List.getElem?_drop, hget _ (by omega), ee i]
    obtain ⟨i0, hi0, e0⟩ := (hmem m).mp h1
    have st : stp rs (way rs k b) = way rs i0 (way rs k b) := by
      refine Mach.stop_ring (nxt_lt ok) (lt k) (m := k - j) (by omega) ?_ ⟨i0, hi0, rfl⟩ fun i hi => ?_
      · show way rs (k - j) (way rs k b) = way rs k b
        conv => lhs; rw [← e]
        show Mach.itr (nxt rs) (k - j) (Mach.itr (nxt rs) j b) = Mach.itr (nxt rs) k b
        rw [← Mach.itr_add]
        congr 1
        omega
      · have := h2 _ ((hmem _).mpr ⟨i, hi, rfl⟩)
        rw [e0] at this
        exact Int.ofNat_le.mp this
    rw [st]
    exact e0
  · have ng : isGo rs (way rs k b) = false := by
      unfold goOn at hend
      rw [decide_eq_true neg, decide_eq_false mk, Bool.true_and] at hend
      simpa using hend
    have hn : (way rs k b : Int) ∉ ((List.range k).map fun j => (way rs j b : Int)) := fun hx => by
      obtain ⟨j, hj, e⟩ := List.mem_map.mp hx
      have e2 : way rs j b = way rs k b := by omega
      have g := w.go j (List.mem_range.mp hj)
      rw [e2, ng] at g
      cases g
    rw [h.1 hn]
    have : stp rs (way rs k b) = way rs k b := Mach.stop_fix (nxt_lt ok) (lt k) (nxt_fix ng)
    rw [this]
end Mine

set_option maxRecDepth 100000
set_option maxHeartbeats 4000000
namespace Mine
open PySem L2
/-- both lists of marks stand there -/
structure At (H0 : Hp) (sa wa : Addr) (n : Nat) (ss ws : Nat → Int) (H : Hp) : Prop where
  same : Same H0 H
  s : H sa = some (.lst (fl n ss))
  w : H wa = some (.lst (fl n ws))
  ns : H0 sa = none
  nw : H0 wa = none
  ne : sa ≠ wa
theorem same_updN {H H' : Hp} {p : Addr} {o : HO} (s : Same H H') (n : H p = none) : Same H (upd H' p o) := fun b u e => by
  rw [upd_ne (ne_of_none e n)]
  exact s b u e
theorem At.go {H0 H H' : Hp} {sa wa : Addr} {n : Nat} {ss ws : Nat → Int} (t : At H0 sa wa n ss ws H) (s : Same H H') : At H0 sa wa n ss ws H' := ⟨t.same.trans s, s _ _ t.s, s _ _ t.w, t.ns, t.nw, t.ne⟩
def set1 (f : Nat → Int) (k : Nat) (v : Int) : Nat → Int := fun i => if i = k then v else f i
theorem At.setW {H0 H : Hp} {sa wa : Addr} {n k : Nat} {ss ws : Nat → Int} {v : Int} (t : At H0 sa wa n ss ws H) (h : k < n) : At H0 sa wa n ss (set1 ws k v) (upd H wa (.lst ((fl n ws).set k (V.int v)))) := by
  refine ⟨same_updN t.same t.nw, ?_, ?_, t.ns, t.nw, t.ne⟩
  · rw [upd_ne t.ne]
    exact t.s
  · rw [upd_same, fl_set h]
    rfl
theorem At.setS {H0 H : Hp} {sa wa : Addr} {n k : Nat} {ss ws : Nat → Int} {v : Int} (t : At H0 sa wa n ss ws H) (h : k < n) : At H0 sa wa n (set1 ss k v) ws (upd H sa (.lst ((fl n ss).set k (V.int v)))) := by
  refine ⟨same_updN t.same t.ns, ?_, ?_, t.ns, t.nw, t.ne⟩
  · rw [upd_same, fl_set h]
    rfl
  · rw [upd_ne (Ne.symm t.ne)]
    exact t.w
/-- a third list, made behind both -/
theorem At.other {H0 H : Hp} {sa wa ta : Addr} {n : Nat} {ss ws : Nat → Int} {o : HO} (t : At H0 sa wa n ss ws H) (h0 : H0 ta = none) (h1 : ta ≠ sa) (h2 : ta ≠ wa) : At H0 sa wa n ss ws (upd H ta o) := by
  refine ⟨same_updN t.same h0, ?_, ?_, t.ns, t.nw, t.ne⟩
  · rw [upd_ne (Ne.symm h1)]
    exact t.s
  · rw [upd_ne (Ne.symm h2)]
    exact t.w
theorem none_of {H H' : Hp} {p : Addr} (s : Same H H') (h : H' p = none) : H p = none := by
  cases e : H p with
  | none => rfl
  | some u =>
    rw [s _ _ e] at h
    cases h
def Up (rs : List RowD) (ss ss' : Nat → Int) : Prop := ∀ i, i < rs.length → ss' i = ss i ∨ ss' i = stp rs i
theorem Up.refl (rs : List RowD) (ss : Nat → Int) : Up rs ss ss := fun _ _ => .inl rfl
theorem Up.set {rs : List RowD} {ss ss' : Nat → Int} (u : Up rs ss ss') (k : Nat) : Up rs ss (set1 ss' k (stp rs k)) := fun i hi => by
  unfold set1
  by_cases e : i = k
  · rw [if_pos e, e]
    exact .inr rfl
  · rw [if_neg e]
    exact u i hi
theorem set1_same (f : Nat → Int) (k : Nat) (v : Int) : set1 f k v k = v := if_pos rfl
theorem Up.done {rs : List RowD} {ss ss' : Nat → Int} (u : Up rs ss ss') {i : Nat} (hi : i < rs.length) (h : ss i = stp rs i) : ss' i = stp rs i := (u i hi).elim (fun e => e.trans h) id
theorem Up.any {rs : List RowD} {ss ss' : Nat → Int} (u : Up rs ss ss') {i : Nat} (hi : i < rs.length) (h : ss i = -1 ∨ ss i = stp rs i) : ss' i = -1 ∨ ss' i = stp rs i := (u i hi).elim (fun e => by rw [e]; exact h) .inr
theorem set1_done {rs : List RowD} {ss : Nat → Int} {i : Nat} (h : ss i = stp rs i) (k : Nat) : set1 ss k (stp rs k) i = stp rs i := by
  unfold set1
  by_cases e : i = k
  · rw [if_pos e, e]
  · rw [if_neg e]
    exact h
theorem ask_go : ("ask" : Str) ≠ "go" := by decide +kernel
theorem end_go : ("end" : Str) ≠ "go" := by decide +kernel
theorem go_dec {rs : List RowD} {i : Nat} {r : RowD} (e : rs[i]? = some r) : decide (V.str (wordOf r) = V.str "go") = isGo rs i := by
  unfold isGo
  rw [e]
  cases r with
  | ask op ns => exact strNe ask_go
  | go k => exact strEq _
  | fin x => exact strNe end_go
theorem isGo_row {rs : List RowD} {i : Nat} (h : isGo rs i = true) : ∃ k, rs[i]? = some (.go k) := by
  unfold isGo at h
  split at h
  · rename_i k e
    exact ⟨k, e⟩
  · cases h
theorem InW.start {rs : List RowD} {b : Nat} {ss ws : Nat → Int} (t : StB rs b ss ws) : InW rs b 0 ss ws :=
  ⟨fun j hj => absurd hj (Nat.not_lt_zero _), fun j hj => absurd hj (Nat.not_lt_zero _), fun i hi => ⟨fun e => by have := t.ws i hi; omega, fun ⟨j, hj, _⟩ => absurd hj (Nat.not_lt_zero _)⟩, fun i hi => Int.le_of_lt (t.ws i hi), fun j j' _ hj => absurd hj (Nat.not_lt_zero _)⟩
theorem di {i j : Int} : decide (V.int i = V.int j) = decide (i = j) := by
  by_cases h : i = j
  · rw [decide_eq_true h, h]
    exact decide_eq_true rfl
  · rw [decide_eq_false h]
    exact decide_eq_false fun z => h (V.int.inj z)
theorem range_snoc (f : Nat → V) (k : Nat) : (List.range (k + 1)).map f = (List.range k).map f ++ [f k] := by
  rw [List.range_succ, List.map_append]
  rfl
theorem pt_imp {X : Cx} {e : Expr} {t t' : TT} (h : PT X e t) (m : ∀ σ H Q, t' σ H Q → t σ H Q) : PT X e t' := ⟨fun pins s σ H Q I q => h.run pins s σ H Q I (m σ H Q q)⟩
theorem ps_imp {X : Cx} {e : Stmt} {t t' : TS} (h : PS X e t) (m : ∀ D σ H, t' D σ H → t D σ H) : PS X e t' := ⟨fun pins s σ H D I q => h.run pins s σ H D I (m D σ H q)⟩
/-- the walk's test, as it is read -/
def tOn : TT := fun σ H Q => ∃ (a sa wa : Addr) (xs : List V) (rs : List RowD) (b k : Nat) (ss ws : Nat → Int) (v4 v6 : Option V), σ = [some (.ref a), some (.ref sa), some (.ref wa), some (.int b), v4, some (.int (way rs k b : Int)), v6] ∧
  H a = some (.lst xs) ∧ Rows H xs rs ∧ H sa = some (.lst (fl rs.length ss)) ∧ H wa = some (.lst (fl rs.length ws)) ∧ way rs k b < rs.length ∧ Q (goOn rs b k ss ws) H
theorem Rows.at {H : Hp} {xs : List V} {rs : List RowD} (r : Rows H xs rs) {i : Nat} (hi : i < rs.length) : ∃ (q : Addr) (zs : List V) (d : RowD), rs[i]? = some d ∧ xs[i]? = some (.ref q) ∧ TRow H (.ref q) d ∧ H q = some (.tup (.str (wordOf d) :: zs)) := by
  obtain ⟨x, h1, h2⟩ := r.2 i _ (List.getElem?_eq_getElem hi)
  obtain ⟨q, zs, rfl, h3⟩ := h2.head
  exact ⟨q, zs, _, List.getElem?_eq_getElem hi, h1, h2, h3⟩
/-- where the walk rests is set, if it is not known -/
def tSettle : TS := fun D σ H => ∃ (H0 : Hp) (sa wa ta : Addr) (rs : List RowD) (b k : Nat) (ss ws : Nat → Int) (v0 v6 : Option V), σ = [v0, some (.ref sa), some (.ref wa), some (.int b), some (.ref ta), some (.int (way rs k b : Int)), v6] ∧
  GoOk rs ∧ b < rs.length ∧ At H0 sa wa rs.length ss ws H ∧ ta ≠ sa ∧ H ta = some (.lst ((List.range k).map fun j => V.int (way rs j b : Int))) ∧ (∀ i, i < rs.length → ss i = -1 ∨ ss i = stp rs i) ∧ InW rs b k ss ws ∧ goOn rs b k ss ws = false ∧
  ∀ (ss' : Nat → Int) (H' : Hp), At H0 sa wa rs.length ss' ws H' → H' ta = some (.lst ((List.range k).map fun j => V.int (way rs j b : Int))) → Up rs ss ss' → ss' (way rs k b) = stp rs (way rs k b) → D.nx σ H'
section
variable {P : Program} {w : World} {K : PySem.W.Frag} {mg : Str → Option Value} {base : Heap}
variable {fII fIW a_rest : Addr}
theorem sc_stops_of : FnScope ["lines", "stops", "walks", "begin", "trail", "at", "passed"] ["lines"] (defScope s_stops_of) := ⟨rfl, rfl, rfl, by decide +kernel, rfl, by decide +kernel, by decide +kernel⟩
theorem ok_stops_of {f : Addr} {fd fd_rest : FuncData} (F : Fun K "stops_of" "stops_of" s_stops_of f fd) (T : TxtF K mg fII fIW) (h_range : mg "range" = none)
    (GR : FnOk P w K mg base CX0 1 a_rest fd_rest ["trail", "at"] (spRest K)) (b_rest : Binds K fd_rest ["trail", "at"] []) (g_rest : mg "rest_of" = some (.ref a_rest)) (k_rest : PySem.W.keepIn K (.ref a_rest) = true) : FnOk P w K mg base CX0 2 f fd ["lines"] spStops := by
  refine F.ok sc_stops_of (fun vs H Q E h => ?_) (fun cdv A outer s H vs Q E hr h => ?_)
  · obtain ⟨a, xs, rs, rfl, _⟩ := h
    rfl
  · obtain ⟨a, xs, rs, rfl, ha, rows, ok, big, k⟩ := h
    refine ⟨_, (pss_cons (ps_set (i := 1) sc_stops_of.nd rfl (Or.inl rfl) (pe_op op_repG (pe_lstG (pa_cons (pe_un un_neg pe_int) pa_nil)) (pe_callB call_len_seq (by rfl) T.b_len PySem.boot_len (pa_cons (pv 0) pa_nil))))
      (pss_cons (ps_set (i := 2) sc_stops_of.nd rfl (Or.inl rfl) (pe_op op_repG (pe_lstG (pa_cons (pe_un un_neg pe_int) pa_nil)) (pe_callB call_len_seq (by rfl) T.b_len PySem.boot_len (pa_cons (pv 0) pa_nil))))
      (pss_cons (ps_for PassesOwn.never rfl (pi_range1 (by rfl) h_range (pa_cons (pe_callB call_len_seq (by rfl) T.b_len PySem.boot_len (pa_cons (pv 0) pa_nil)) pa_nil)) (pg_name (i := 3) sc_stops_of.nd rfl (Or.inl rfl)) (pss_cons (ps_set (i := 4) sc_stops_of.nd rfl (Or.inl rfl) (pe_lstG pa_nil))
      (pss_cons (ps_set (i := 5) sc_stops_of.nd rfl (Or.inl rfl) (pv 3))
      (pss_cons (ps_while PassesOwn.never (pt_imp (t' := tOn) (PW.pt (pw_and (pt_cmpR op_lt (pe_ix ix_list (pv 1) (pv 5) (fun _ _ => rfl)) pe_int (nomark _)) (pw_and (pt_cmpR op_ne (pe_ix ix_list (pv 2) (pv 5) (fun _ _ => rfl)) (pv 3) (nomark _)) (pw_and1 (pt_cmpR op_eq (pe_ix ix_tup (pe_ix ix_list (pv 0) (pv 5) (fun _ _ => rfl)) pe_int (fun _ _ => rfl)) pe_str (nomark _)))))) (fun σ H Q q => by
      obtain ⟨a, sa, wa, xs, rs, b, k, ss, ws, v4, v6, rfl, ha, rows, hs, hw, lt, q⟩ := q
      obtain ⟨p, zs, d, ed, hx, _, hp⟩ := rows.at lt
      refine ⟨_, rfl, _, rfl, sa, _, _, _, rfl, rfl, SqL.of hs, fl_at lt, _, _, rfl, rfl, _, rfl, ?_⟩
      refine ite2 (fun h1 => ?_) (fun h1 => ?_)
      · refine ⟨_, rfl, _, rfl, wa, _, _, _, rfl, rfl, SqL.of hw, fl_at lt, _, rfl, rfl, _, rfl, ?_⟩
        rw [di]
        refine ite2 (fun h2 => ?_) (fun h2 => ?_)
        · refine ⟨_, rfl, _, rfl, a, xs, _, _, rfl, rfl, SqL.of ha, atI_nat hx, p, _, _, _, rfl, rfl, .inl (.inl hp), at0', rfl, _, rfl, ?_⟩
          rw [go_dec ed]
          have e : goOn rs b k ss ws = isGo rs (way rs k b) := by
            unfold goOn
            rw [h1, h2]
            rfl
          rw [e] at q
          exact q
        · have e : goOn rs b k ss ws = false := by
            unfold goOn
            rw [h1, Bool.eq_false_iff.mpr h2]
            rfl
          rw [e] at q
          exact q
      · have e : goOn rs b k ss ws = false := by
          unfold goOn
          rw [Bool.eq_false_iff.mpr h1]
          rfl
        rw [e] at q
        exact q)) (pss_cons (ps_asg (pv 3) (pg_sub (pv 2) (pv 5) set_list))
      (pss_cons (ps_expr (pe_bm PySem.F.plainAttrs_list PySem.F.slot_list_append PySem.F.type_list_append mt_append (pv 4) (pa_cons (pv 5) pa_nil)))
      (pss_one (ps_set (i := 5) sc_stops_of.nd rfl (Or.inl rfl) (pe_ix ix_tup (pe_ix ix_list (pv 0) (pv 5) (fun _ _ => rfl)) pe_int (fun _ _ => rfl)))))))
      (pss_cons (ps_imp (t' := tSettle) (ps_if (pt_cmpR op_lt (pe_ix ix_list (pv 1) (pv 5) (fun _ _ => rfl)) pe_int (nomark _)) (pss_one (ps_asg (pe_call GR (hr.mono (by decide)) (by rfl) g_rest k_rest b_rest .nil pass0 (pa_cons (pv 4) (pa_cons (pv 5) pa_nil))) (pg_sub (pv 1) (pv 5) set_list))) pss_nil) (fun D σ H q => by
      obtain ⟨H0, sa, wa, ta, rs, b, k, ss, ws, v0, v6, rfl, ok, hb, t, tas, et, any, iw, ge, kk⟩ := q
      have lt : way rs k b < rs.length := Mach.itr_lt (nxt_lt ok) k b hb
      refine ⟨_, rfl, _, rfl, sa, _, _, _, rfl, rfl, SqL.of t.s, fl_at lt, _, _, rfl, rfl, _, rfl, ?_⟩
      refine ite2 (fun h1 => ?_) (fun h1 => ?_)
      · refine ⟨_, rfl, _, rfl, ta, (List.range k).map fun j => (way rs j b : Int), _, rfl, by rw [et, List.map_map]; rfl, fun m H' s1 rest => ?_⟩
        refine ⟨_, rfl, _, rfl, sa, _, _, way rs k b, rfl, rfl, s1 _ _ t.s, by rw [fl_len]; exact ixn lt, ?_⟩
        have e := iw.rest ok hb any ge (of_decide_eq_true h1) rest
        subst e
        exact kk _ _ ((t.go s1).setS lt) (by rw [upd_ne tas]; exact s1 _ _ et) ((Up.refl _ _).set _) (set1_same _ _ _)
      · exact kk ss H t et (Up.refl _ _) ((any _ lt).elim (fun z => absurd (decide_eq_true (by omega)) h1) id)))
      (pss_one (ps_for PassesOwn.never rfl (pi_list (pv 4)) (pg_name (i := 6) sc_stops_of.nd rfl (Or.inl rfl)) (pss_one (ps_asg (pe_ix ix_list (pv 1) (pv 5) (fun _ _ => rfl)) (pg_sub (pv 1) (pv 6) set_list))))))))))
      (pss_one (ps_ret (pv 1)))))), ?_⟩
    have hl : (xs.length : Int) = rs.length := by rw [rows.1]
    have one : ∀ v : V, [v].length ≤ sizeLine := fun v => by rw [sizeLine_eq]; exact Nat.succ_le_of_lt (by decide)
    refine ⟨_, rfl, one _, fun p0 H1 n0 s1 e0 => ?_⟩
    have room : ∀ v : V, [v].length * (xs.length : Int).toNat ≤ sizeLine := fun v => by
      rw [sizeLine_eq, Int.toNat_natCast]
      have := rows.1
      show 1 * xs.length ≤ _
      omega
    refine ⟨_, rfl, a, xs, rfl, .inl (SqL.of (s1 _ _ ha)), ?_⟩
    refine ⟨p0, _, _, rfl, rfl, e0, by omega, by omega, room _, fun sa H2 n2 s2 e2 => ?_⟩
    refine ⟨_, rfl, one _, fun p1 H3 n3 s3 e3 => ?_⟩
    refine ⟨_, rfl, a, xs, rfl, .inl (SqL.of (s3 _ _ (s2 _ _ (s1 _ _ ha)))), ?_⟩
    refine ⟨p1, _, _, rfl, rfl, e3, by omega, by omega, room _, fun wa H4 n4 s4 e4 => ?_⟩
    have nsa : H sa = none := none_of s1 n2
    have nwa : H wa = none := none_of (s1.trans (s2.trans s3)) n4
    have nea : sa ≠ wa := fun z => by
      rw [← z, s3 _ _ e2] at n4
      cases n4
    have at0 : At H sa wa rs.length (fun _ => -1) (fun _ => -1) H4 := by
      refine ⟨s1.trans (s2.trans (s3.trans s4)), ?_, ?_, nsa, nwa, nea⟩
      · rw [s4 _ _ (s3 _ _ e2), Int.toNat_natCast, rows.1]
        exact congrArg (fun z => some (HO.lst z)) (fl_rep _)
      · rw [e4, Int.toNat_natCast, rows.1]
        exact congrArg (fun z => some (HO.lst z)) (fl_rep _)
    refine ⟨_, rfl, a, xs, rfl, .inl (SqL.of (s4 _ _ (s3 _ _ (s2 _ _ (s1 _ _ ha))))), ?_⟩
    rw [rows.1]
    refine ⟨_, rfl, by omega, by omega, for_range (n := rs.length) (fun b σ H' => ∃ (ss ws : Nat → Int) (v3 v4 v5 v6 : Option V), σ = [some (.ref a), some (.ref sa), some (.ref wa), v3, v4, v5, v6] ∧ At H sa wa rs.length ss ws H' ∧ StB rs b ss ws) ?_ (fun b σ H' hb z => ?_) (fun σ H' z => ?_)⟩
    · exact ⟨_, _, _, _, _, _, rfl, at0, fun _ _ => .inl rfl, fun i hi => absurd hi (Nat.not_lt_zero _), fun i hi => by show (-1 : Int) < 0; decide⟩
    · obtain ⟨ss, ws, v3, v4, v5, v6, rfl, t, stb⟩ := z
      have lt : ∀ j, way rs j b < rs.length := fun j => Mach.itr_lt (nxt_lt ok) j b hb
      have rowsIn : ∀ {H''}, Same H H'' → Rows H'' xs rs := fun s => rows.same s
      rw [Int.zero_add]
      refine ⟨Nat.zero_le _, fun ta H5 n5 s5 e5 => ?_⟩
      have t5 := t.go s5
      have nta : H ta = none := none_of t.same n5
      have tas : ta ≠ sa := fun z => by
        rw [z, t.s] at n5
        cases n5
      have taw : ta ≠ wa := fun z => by
        rw [z, t.w] at n5
        cases n5
      refine ⟨_, rfl, ?_⟩
      refine ⟨fun m σ H' => ∃ (k : Nat) (ws' : Nat → Int), m = rs.length - k ∧ σ = [some (.ref a), some (.ref sa), some (.ref wa), some (.int b), some (.ref ta), some (.int (way rs k b : Int)), v6] ∧ At H sa wa rs.length ss ws' H' ∧ H' ta = some (.lst ((List.range k).map fun j => V.int (way rs j b : Int))) ∧ InW rs b k ss ws', ⟨_, 0, ws, rfl, rfl, t5, e5, InW.start stb⟩, ?_⟩
      rintro m σ H' ⟨k', ws', rfl, rfl, t', et, iw⟩
      refine ⟨a, sa, wa, xs, rs, b, k', ss, ws', _, _, rfl, t'.same _ _ ha, rowsIn t'.same, t'.s, t'.w, lt k', ?_⟩
      refine ite2 (fun g => ?_) (fun g => ?_)
      · have g1 : ws' (way rs k' b) ≠ b ∧ isGo rs (way rs k' b) = true ∧ ss (way rs k' b) < 0 := by
          unfold goOn at g
          simp only [Bool.and_eq_true, decide_eq_true_eq, Bool.not_eq_true', decide_eq_false_iff_not] at g
          exact ⟨g.2.1, g.2.2, g.1⟩
        obtain ⟨g1, g2, g3⟩ := g1
        have g4 : ss (way rs k' b) = -1 := (stb.any _ (lt k')).elim id fun z => by omega
        obtain ⟨kk, hkk⟩ := isGo_row g2
        refine ⟨fun σ' H'' => ∃ ws'', σ' = [some (.ref a), some (.ref sa), some (.ref wa), some (.int b), some (.ref ta), some (.int (way rs (k' + 1) b : Int)), v6] ∧ At H sa wa rs.length ss ws'' H'' ∧ H'' ta = some (.lst ((List.range (k' + 1)).map fun j => V.int (way rs j b : Int))) ∧ InW rs b (k' + 1) ss ws'', fun σ' H'' ⟨ws'', z1, z2, z3, z4⟩ => ⟨rs.length - (k' + 1), by have := iw.room ok hb g1; omega, k' + 1, ws'', rfl, z1, z2, z3, z4⟩, ?_⟩
        refine ⟨_, rfl, _, rfl, _, rfl, wa, _, _, way rs k' b, rfl, rfl, t'.w, by rw [fl_len]; exact ixn (lt k'), ?_⟩
        have t2 := t'.setW (v := (b : Int)) (lt k')
        have et2 : upd H' wa (.lst ((fl rs.length ws').set (way rs k' b) (V.int b))) ta = some (.lst ((List.range k').map fun j => V.int (way rs j b : Int))) := by
          rw [upd_ne taw]
          exact et
        refine ⟨_, rfl, .inl ⟨rfl, _, SqL.of et2⟩, _, rfl, ta, _, _, rfl, rfl, et2, by rw [List.length_map, List.length_range, sizeLine_eq]; have := iw.room ok hb g1; omega, ?_⟩
        have t3 := t2.other (o := .lst ((List.range k').map (fun j => V.int (way rs j b : Int)) ++ [V.int (way rs k' b : Int)])) nta tas taw
        obtain ⟨x, hx1, hx2⟩ := rows.2 _ _ hkk
        obtain ⟨q, rfl, hq⟩ := hx2
        refine ⟨_, rfl, _, rfl, a, xs, _, _, rfl, rfl, SqL.of (t3.same _ _ ha), atI_nat hx1, q, _, _, _, rfl, rfl, .inl (.inl (t3.same _ _ hq)), at1', ?_⟩
        have e1 : kk = (way rs (k' + 1) b : Int) := by
          have : way rs (k' + 1) b = nxt rs (way rs k' b) := Mach.itr_succ _ _ _
          rw [this]
          unfold nxt
          rw [hkk]
          have := ok _ _ hkk
          show kk = (kk.toNat : Int)
          omega
        refine ⟨_, ?_, t3, ?_, iw.more ok hb g4 g1 g2⟩
        · rw [e1]
          rfl
        · rw [upd_same, range_snoc]
      · refine ⟨H, sa, wa, ta, rs, b, k', ss, ws', _, _, rfl, ok, hb, t', tas, et, stb.any, iw, Bool.eq_false_iff.mpr g, fun ss1 H6 t6 et6 up6 st6 => ?_⟩
        have stw : ∀ i, stp rs (way rs i b) = stp rs b := fun i => stp_way ok i b hb
        refine ⟨_, rfl, ta, rfl, ⟨_, SqL.of et6⟩, for_list (K := K) (a := ta) (xs := (List.range k').map fun j => V.int (way rs j b : Int)) (fun j σ H7 => ∃ (ss2 : Nat → Int) (v6 : Option V), σ = [some (.ref a), some (.ref sa), some (.ref wa), some (.int b), some (.ref ta), some (.int (way rs k' b : Int)), v6] ∧ At H sa wa rs.length ss2 ws' H7 ∧ H7 ta = some (.lst ((List.range k').map fun j => V.int (way rs j b : Int))) ∧ Up rs ss ss2 ∧ ss2 (way rs k' b) = stp rs b ∧ ∀ i, i < j → ss2 (way rs i b) = stp rs b)
          ⟨ss1, _, rfl, t6, et6, up6, by rw [st6, stw], fun i hi => absurd hi (Nat.not_lt_zero _)⟩ (fun i σ H7 _ z => by obtain ⟨_, _, _, _, z, _⟩ := z; exact SqL.of z) (fun j x σ H7 hx z => ?_) (fun σ H7 z => ?_)⟩
        · obtain ⟨ss2, w6, rfl, t7, et7, up7, st7, dn7⟩ := z
          have hj : j < k' := by
            have := (List.getElem?_eq_some_iff.mp hx).1
            rw [List.length_map, List.length_range] at this
            exact this
          rw [List.getElem?_map, List.getElem?_range hj] at hx
          have hx2 : V.int (way rs j b : Int) = x := Option.some.inj hx
          subst hx2
          refine ⟨_, rfl, _, rfl, sa, _, _, _, rfl, rfl, SqL.of t7.s, fl_at (lt k'), _, rfl, _, rfl, sa, _, _, way rs j b, rfl, rfl, t7.s, by rw [fl_len]; exact ixn (lt j), ?_⟩
          rw [st7]
          refine ⟨set1 ss2 (way rs j b) (stp rs b), _, rfl, t7.setS (lt j), ?_, ?_, ?_, fun i hi => ?_⟩
          · rw [upd_ne tas]
            exact et7
          · have := up7.set (way rs j b)
            rw [stw] at this
            exact this
          · have := set1_done (rs := rs) (ss := ss2) (i := way rs k' b) (by rw [st7, stw]) (way rs j b)
            rw [stw, stw] at this
            exact this
          · by_cases z : i = j
            · rw [z]
              exact set1_same _ _ _
            · have := set1_done (rs := rs) (ss := ss2) (i := way rs i b) (by rw [dn7 i (by omega), stw]) (way rs j b)
              rw [stw, stw] at this
              exact this
        · obtain ⟨ss2, w6, rfl, t7, et7, up7, st7, dn7⟩ := z
          refine ⟨ss2, ws', _, _, _, _, rfl, t7, fun i hi => up7.any hi (stb.any i hi), fun i hi => ?_, fun i hi => ?_⟩
          · by_cases z : i = b
            · subst z
              by_cases k0 : k' = 0
              · subst k0
                exact st7
              · exact dn7 0 (by rw [List.length_map, List.length_range]; omega)
            · exact up7.done (by omega) (stb.done i (by omega))
          · have := iw.le i hi
            omega
    · obtain ⟨ss, ws, v3, v4, v5, v6, rfl, t, stb⟩ := z
      have e : (fl rs.length ss) = fl rs.length fun i => (stp rs i : Int) := List.map_congr_left fun i hi => by rw [stb.done i (List.mem_range.mp hi)]
      exact ⟨_, rfl, k sa H' nsa t.same (by rw [t.s, e])⟩
end
end Mine

set_option maxRecDepth 100000
set_option maxHeartbeats 4000000
namespace Mine
open PySem L2
abbrev s_nexts_of : Stmt := top 30
abbrev s_rests_from : Stmt := top 29
def nextsD : RowD → List Int
  | .ask _ ns => ns
  | _ => []
def targets : RowD → List Int
  | .ask _ ns => ns
  | .go k => [k]
  | .fin _ => []
/-- all rows lead to rows -/
def Fit (rs : List RowD) : Prop := ∀ (i : Nat) (d : RowD), rs[i]? = some d → ∀ n ∈ targets d, 0 ≤ n ∧ n < rs.length
theorem Fit.go {rs : List RowD} (f : Fit rs) : GoOk rs := fun i k e => f i _ e k List.mem_cons_self
theorem Fit.nexts {rs : List RowD} (f : Fit rs) {i : Nat} {d : RowD} (e : rs[i]? = some d) {n : Int} (h : n ∈ nextsD d) : 0 ≤ n ∧ n < rs.length := f i d e n (by cases d <;> first | exact h | exact nomatch h)
def addTo (m : List Nat) (i : Nat) : List Nat := if i ∈ m then m else m ++ [i]
def grow (rs : List RowD) (m : List Nat) (ns : List Int) : List Nat := ns.foldl (fun m n => addTo m (stp rs n.toNat)) m
def metS (rs : List RowD) (m : List Nat) (d : Nat) : List Nat := match m[d]? with
  | some i => grow rs m (match rs[i]? with | some r => nextsD r | none => [])
  | none => m
def metAt (rs : List RowD) (b : Nat) : Nat → List Nat
  | 0 => [stp rs b]
  | d + 1 => metS rs (metAt rs b d) d
/-- the rows of rest that a run can come to, breadth first -/
def metOf (rs : List RowD) (b : Nat) : List Nat := metAt rs b rs.length
theorem stp_lt {rs : List RowD} (h : GoOk rs) {i : Nat} (hi : i < rs.length) : stp rs i < rs.length := Mach.stop_lt (nxt_lt h) hi
/-- no double, all below -/
def Few (n : Nat) (m : List Nat) : Prop := m.Nodup ∧ ∀ x ∈ m, x < n
theorem Few.len {n : Nat} {m : List Nat} (f : Few n m) : m.length ≤ n := Mach.pigeon n m f.1 f.2
theorem Few.add {n i : Nat} {m : List Nat} (f : Few n m) (h : i < n) : Few n (addTo m i) := by
  unfold addTo
  by_cases e : i ∈ m
  · rw [if_pos e]
    exact f
  · rw [if_neg e]
    refine ⟨?_, fun x hx => (List.mem_append.mp hx).elim (f.2 x) fun z => by rw [List.mem_singleton.mp z]; exact h⟩
    rw [List.nodup_append]
    exact ⟨f.1, by simp, fun x hx y hy z => by rw [List.mem_singleton.mp hy] at z; exact e (z ▸ hx)⟩
theorem grow_few {rs : List RowD} (ok : GoOk rs) : ∀ {ns : List Int} {m : List Nat}, Few rs.length m → (∀ n ∈ ns, 0 ≤ n ∧ n < rs.length) → Few rs.length (grow rs m ns)
  | [], _, f, _ => f
  | n :: ns, m, f, h => grow_few ok (ns := ns) (f.add (stp_lt ok (by have := h n List.mem_cons_self; omega))) fun x hx => h x (List.mem_cons_of_mem _ hx)
theorem add_len {m : List Nat} {i : Nat} : m.length ≤ (addTo m i).length := by
  unfold addTo
  split
  · exact Nat.le_refl _
  · rw [List.length_append]
    exact Nat.le_add_right _ _
theorem grow_len {rs : List RowD} : ∀ {ns : List Int} {m : List Nat}, m.length ≤ (grow rs m ns).length
  | [], _ => Nat.le_refl _
  | n :: ns, m => Nat.le_trans add_len (grow_len (ns := ns))
theorem metAt_few {rs : List RowD} (f : Fit rs) {b : Nat} (hb : b < rs.length) : ∀ d, Few rs.length (metAt rs b d)
  | 0 => ⟨by show [stp rs b].Nodup; simp, fun x hx => by rw [List.mem_singleton.mp hx]; exact stp_lt f.go hb⟩
  | d + 1 => by
    have ih := metAt_few f hb d
    show Few _ (metS rs (metAt rs b d) d)
    unfold metS
    split
    · rename_i i e
      refine grow_few f.go ih fun n hn => ?_
      split at hn
      · rename_i r er
        exact f.nexts er hn
      · exact nomatch hn
    · exact ih
theorem metAt_over {rs : List RowD} {b d : Nat} (h : (metAt rs b d).length ≤ d) : ∀ k, metAt rs b (d + k) = metAt rs b d
  | 0 => rfl
  | k + 1 => by
    have ih := metAt_over h k
    show metS rs (metAt rs b (d + k)) (d + k) = _
    rw [ih]
    unfold metS
    rw [List.getElem?_eq_none (by omega)]
theorem metAt_end {rs : List RowD} {b d : Nat} (hd : d ≤ rs.length) (h : (metAt rs b d).length ≤ d) : metAt rs b d = metOf rs b := by
  have := metAt_over h (rs.length - d)
  rw [show d + (rs.length - d) = rs.length by omega] at this
  exact this.symm
theorem metAt_step {rs : List RowD} {b d i : Nat} {r : RowD} (h : (metAt rs b d)[d]? = some i) (hr : rs[i]? = some r) : metAt rs b (d + 1) = grow rs (metAt rs b d) (nextsD r) := by
  show metS rs (metAt rs b d) d = _
  unfold metS
  rw [h]
  show grow rs _ (match rs[i]? with | some r => nextsD r | none => []) = _
  rw [hr]
def natsV (m : List Nat) : List V := m.map fun (i : Nat) => V.int (i : Int)
def knK (m : List Nat) : List (Key × V) := m.map fun (i : Nat) => (Sum.inl (i : Int), V.bl true)
theorem val_kn (m : List Nat) (j : Nat) : (valV (knK m) (.inl (j : Int))).isSome = decide (j ∈ m) := by
  induction m with
  | nil => rfl
  | cons i m ih =>
    by_cases h : i = j
    · subst h
      unfold knK
      rw [List.map_cons, valV_pos rfl]
      simp
    · have h2 : ¬ (Sum.inl (i : Int) : Key) = Sum.inl (j : Int) := fun z => h (by have := Sum.inl.inj z; omega)
      unfold knK at ih ⊢
      rw [List.map_cons, valV_neg h2, ih]
      by_cases q : j ∈ m
      · rw [decide_eq_true q, decide_eq_true (List.mem_cons_of_mem _ q)]
      · rw [decide_eq_false q, decide_eq_false (fun z => (List.mem_cons.mp z).elim (fun y => h y.symm) q)]
/-- both lists of what was met stand there -/
structure MetI (H0 : Hp) (ma ka : Addr) (m : List Nat) (H : Hp) : Prop where
  same : Same H0 H
  em : H ma = some (.lst (natsV m))
  ek : H ka = some (.dK (knK m))
  nm : H0 ma = none
  nk : H0 ka = none
  ne : ma ≠ ka
theorem MetI.go {H0 H H' : Hp} {ma ka : Addr} {m : List Nat} (t : MetI H0 ma ka m H) (s : Same H H') : MetI H0 ma ka m H' := ⟨t.same.trans s, s _ _ t.em, s _ _ t.ek, t.nm, t.nk, t.ne⟩
theorem MetI.put {H0 H : Hp} {ma ka : Addr} {m : List Nat} {i : Nat} (t : MetI H0 ma ka m H) (h : i ∉ m) : MetI H0 ma ka (addTo m i) (upd (upd H ka (.dK (putK (knK m) (.inl (i : Int)) (.bl true)))) ma (.lst (natsV m ++ [.int (i : Int)]))) := by
  have e : addTo m i = m ++ [i] := if_neg h
  refine ⟨same_updN (same_updN t.same t.nk) t.nm, ?_, ?_, t.nm, t.nk, t.ne⟩
  · rw [upd_same, e]
    unfold natsV
    rw [List.map_append]
    rfl
  · rw [upd_ne (Ne.symm t.ne), upd_same, putK_new, e]
    · unfold knK
      rw [List.map_append]
      rfl
    · have := val_kn m i
      rw [decide_eq_false h] at this
      cases q : valV (knK m) (.inl (i : Int)) with
      | none => rfl
      | some v =>
        rw [q] at this
        cases this
def spNextsOf : Sp := fun vs H Q _ => ∃ (q : Addr) (d : RowD), vs = [.ref q] ∧ TRow H (.ref q) d ∧ ∀ (t : Addr) (H' : Hp), Same H H' → H' t = some (.tup ((nextsD d).map V.int)) → Q (.ref t) H'
def spRests : Sp := fun vs H Q _ => ∃ (a sa : Addr) (xs : List V) (rs : List RowD) (b : Nat), vs = [.ref a, .ref sa, .int b] ∧ H a = some (.lst xs) ∧ Rows H xs rs ∧ Fit rs ∧ H sa = some (.lst (fl rs.length fun i => (stp rs i : Int))) ∧ b < rs.length ∧ rs.length ≤ 100000 ∧ New H (.lst (natsV (metOf rs b))) Q
section
variable {P : Program} {w : World} {K : PySem.W.Frag} {mg : Str → Option Value} {base : Heap}
variable {fII fIW a_nexts : Addr}
theorem sc_nexts_of : FnScope ["line"] ["line"] (defScope s_nexts_of) := ⟨rfl, rfl, rfl, by decide +kernel, rfl, by decide +kernel, by decide +kernel⟩
theorem ok_nexts_of {f : Addr} {fd : FuncData} (F : Fun K "nexts_of" "nexts_of" s_nexts_of f fd) : FnOk P w K mg base CX0 1 f fd ["line"] spNextsOf := by
  refine F.ok sc_nexts_of (fun vs H Q E h => ?_) (fun cdv A outer s H vs Q E hr h => ?_)
  · obtain ⟨q, d, rfl, _⟩ := h
    rfl
  · obtain ⟨q, d, rfl, row, k⟩ := h
    refine ⟨_, (pss_cons (ps_if (pt_cmpR op_eq (pe_ix ix_tup (pv 0) pe_int (fun _ _ => rfl)) pe_str (nomark _)) (pss_one (ps_ret (pe_ix ix_tup (pv 0) pe_int (fun _ _ => rfl)))) pss_nil)
      (pss_one (ps_ret (pe_tupG pa_nil)))), ?_⟩
    cases d with
    | ask op ns =>
      obtain ⟨a, t, e, h1, h2⟩ := row
      cases e
      refine ⟨_, rfl, _, _, _, _, rfl, rfl, .inl (.inl h1), at0', rfl, _, rfl, ?_⟩
      rw [strEq]
      refine iteT ?_
      exact ⟨_, rfl, _, _, _, _, rfl, rfl, .inl (.inl h1), at2', k t H (Same.refl _) h2⟩
    | go n =>
      obtain ⟨a, e, h1⟩ := row
      cases e
      refine ⟨_, rfl, _, _, _, _, rfl, rfl, .inl (.inl h1), at0', rfl, _, rfl, ?_⟩
      rw [strNe go_ask]
      refine iteF ?_
      exact ⟨Nat.zero_le _, fun t H' n s e => k t H' s e⟩
    | fin x =>
      obtain ⟨a, e, h1⟩ := row
      cases e
      refine ⟨_, rfl, _, _, _, _, rfl, rfl, .inl (.inl h1), at0', rfl, _, rfl, ?_⟩
      rw [strNe end_ask]
      refine iteF ?_
      exact ⟨Nat.zero_le _, fun t H' n s e => k t H' s e⟩
theorem sc_rests_from : FnScope ["lines", "stops", "begin", "met", "known", "done", "index"] ["lines", "stops", "begin"] (defScope s_rests_from) := ⟨rfl, rfl, rfl, by decide +kernel, rfl, by decide +kernel, by decide +kernel⟩
theorem ok_rests_from {f : Addr} {fd fd_nexts : FuncData} (F : Fun K "rests_from" "rests_from" s_rests_from f fd) (T : TxtF K mg fII fIW)
    (GN : FnOk P w K mg base CX0 1 a_nexts fd_nexts ["line"] spNextsOf) (b_nexts : Binds K fd_nexts ["line"] []) (g_nexts : mg "nexts_of" = some (.ref a_nexts)) (k_nexts : PySem.W.keepIn K (.ref a_nexts) = true) : FnOk P w K mg base CX0 2 f fd ["lines", "stops", "begin"] spRests := by
  refine F.ok sc_rests_from (fun vs H Q E h => ?_) (fun cdv A outer s H vs Q E hr h => ?_)
  · obtain ⟨a, sa, xs, rs, b, rfl, _⟩ := h
    rfl
  · obtain ⟨a, sa, xs, rs, b, rfl, ha, rows, fit, hs, hb, big, k⟩ := h
    refine ⟨_, (pss_cons (ps_set (i := 3) sc_rests_from.nd rfl (Or.inl rfl) (pe_lstG (pa_cons (pe_ix ix_list (pv 1) (pv 2) (fun _ _ => rfl)) pa_nil)))
      (pss_cons (ps_set (i := 4) sc_rests_from.nd rfl (Or.inl rfl) (pe_disp (pps_cons (pe_ix ix_list (pv 1) (pv 2) (fun _ _ => rfl)) pe_bl pps_nil) rfl rfl (fun z => by cases z) (by show 1 ≤ 15; decide)))
      (pss_cons (ps_set (i := 5) sc_rests_from.nd rfl (Or.inl rfl) pe_int)
      (pss_cons (ps_while PassesOwn.never (pt_cmpR op_lt (pv 5) (pe_callB call_len_seq (by rfl) T.b_len PySem.boot_len (pa_cons (pv 3) pa_nil)) (nomark _)) (pss_cons (ps_for PassesOwn.never rfl (pi_tup (pe_call GN (hr.mono (by decide)) (by rfl) g_nexts k_nexts b_nexts .nil pass0 (pa_cons (pe_ix ix_list (pv 0) (pe_ix ix_list (pv 3) (pv 5) (fun _ _ => rfl)) (fun _ _ => rfl)) pa_nil))) (pg_name (i := 6) sc_rests_from.nd rfl (Or.inl rfl)) (pss_one (ps_if (pt_cmp (pc_dnotin (hu_of hr) (pe_ix ix_list (pv 1) (pv 6) (fun _ _ => rfl)) (pv 4)) rfl) (pss_cons (ps_asg pe_bl (pg_sub (pv 4) (pe_ix ix_list (pv 1) (pv 6) (fun _ _ => rfl)) (set_dict (hu_of hr))))
      (pss_one (ps_expr (pe_bm PySem.F.plainAttrs_list PySem.F.slot_list_append PySem.F.type_list_append mt_append (pv 3) (pa_cons (pe_ix ix_list (pv 1) (pv 6) (fun _ _ => rfl)) pa_nil))))) pss_nil)))
      (pss_one (ps_aug (i := 5) sc_rests_from.nd rfl (Or.inl rfl) pe_int ip_add))))
      (pss_one (ps_ret (pv 3))))))), ?_⟩
    have one : ∀ v : V, [v].length ≤ sizeLine := fun v => by rw [sizeLine_eq]; exact Nat.succ_le_of_lt (by decide)
    refine ⟨_, rfl, _, rfl, sa, _, _, _, rfl, rfl, SqL.of hs, fl_at hb, one _, fun ma H1 n1 s1 e1 => ?_⟩
    refine fun ka nk => ?_
    have e2 : upd H1 ka (.dK []) sa = some (.lst (fl rs.length fun i => (stp rs i : Int))) := sameNew nk _ _ _ (s1 _ _ hs)
    refine ⟨_, rfl, _, rfl, sa, _, _, _, rfl, rfl, SqL.of e2, fl_at hb, ?_⟩
    refine ⟨upd_same, [(.inl (stp rs b : Int), .bl true)], rfl, by show 1 ≤ 15; decide, ?_⟩
    have mi : MetI H ma ka [stp rs b] (upd (upd H1 ka (.dK [])) ka (.dK (mergeK [] [(.inl (stp rs b : Int), .bl true)]))) := by
      have ne : ma ≠ ka := fun z => by
        rw [← z, e1] at nk
        cases nk
      refine ⟨?_, ?_, ?_, n1, none_of s1 nk, ne⟩
      · exact same_updN (same_updN s1 (none_of s1 nk)) (none_of s1 nk)
      · rw [upd_ne ne, upd_ne ne]
        exact e1
      · rw [upd_same]
        rfl
    refine ⟨fun m σ H' => ∃ (d : Nat) (v6 : Option V), m = rs.length - d ∧ σ = [some (.ref a), some (.ref sa), some (.int b), some (.ref ma), some (.ref ka), some (.int (d : Int)), v6] ∧ MetI H ma ka (metAt rs b d) H' ∧ d ≤ (metAt rs b d).length, ⟨_, 0, none, rfl, rfl, mi, Nat.zero_le _⟩, ?_⟩
    rintro m σ H' ⟨d, v6, rfl, rfl, t, hd⟩
    have few := metAt_few fit hb d
    have fl1 := few.len
    have nl : ∀ m : List Nat, (natsV m).length = m.length := fun m => List.length_map _
    refine ⟨_, rfl, _, rfl, ma, _, rfl, .inl (SqL.of t.em), _, _, rfl, rfl, _, rfl, ?_⟩
    rw [nl]
    refine ite2 (fun h1 => ?_) (fun h1 => ?_)
    · have hlt : d < (metAt rs b d).length := by
        have := of_decide_eq_true h1
        omega
      obtain ⟨i, ei⟩ : ∃ i, (metAt rs b d)[d]? = some i := ⟨_, List.getElem?_eq_getElem hlt⟩
      have hi : i < rs.length := few.2 _ (List.mem_of_getElem? ei)
      obtain ⟨q, zs, dd, ed, hx, row, hq⟩ := rows.at hi
      have st := metAt_step ei ed
      refine ⟨fun σ' H'' => ∃ v6, σ' = [some (.ref a), some (.ref sa), some (.int b), some (.ref ma), some (.ref ka), some (.int ((d + 1 : Nat) : Int)), v6] ∧ MetI H ma ka (metAt rs b (d + 1)) H'', fun σ' H'' ⟨v6, z1, z2⟩ => ⟨rs.length - (d + 1), by omega, d + 1, v6, rfl, z1, z2, by rw [st]; exact Nat.le_trans hlt grow_len⟩, ?_⟩
      have en : (natsV (metAt rs b d))[d]? = some (.int (i : Int)) := by
        unfold natsV
        rw [List.getElem?_map, ei]
        rfl
      refine ⟨_, rfl, _, rfl, _, rfl, ma, _, _, _, rfl, rfl, SqL.of t.em, atI_nat en, a, xs, _, _, rfl, rfl, SqL.of (t.same _ _ ha), atI_nat hx, q, dd, rfl, row.same t.same, fun tt H2 s2 et => ?_⟩
      refine ⟨tt, rfl, ⟨_, .inl (.inl et)⟩, for_tup (K := K) (a := tt) (xs := (nextsD dd).map V.int) (fun j σ H3 => ∃ v6, σ = [some (.ref a), some (.ref sa), some (.int b), some (.ref ma), some (.ref ka), some (.int (d : Int)), v6] ∧ MetI H ma ka (grow rs (metAt rs b d) ((nextsD dd).take j)) H3 ∧ H3 tt = some (.tup ((nextsD dd).map V.int))) ⟨_, rfl, t.go s2, et⟩ (fun j σ H3 _ z => by obtain ⟨_, _, _, z⟩ := z; exact .inl (.inl z)) (fun j x σ H3 hx z => ?_) (fun σ H3 z => ?_)⟩
      · obtain ⟨w6, rfl, t3, et3⟩ := z
        have hj : j < (nextsD dd).length := by
          have := (List.getElem?_eq_some_iff.mp hx).1
          rw [List.length_map] at this
          exact this
        have ej : (nextsD dd)[j]? = some (nextsD dd)[j] := List.getElem?_eq_getElem hj
        generalize (nextsD dd)[j] = n at ej
        rw [List.getElem?_map, ej] at hx
        have hx2 : V.int n = x := Option.some.inj hx
        subst hx2
        have mem := List.mem_of_getElem? ej
        obtain ⟨n0, n1⟩ := fit.nexts ed mem
        have e0 : n = (n.toNat : Int) := by omega
        have hn : n.toNat < rs.length := by omega
        have atS : atI (fl rs.length fun i => (stp rs i : Int)) n = some (V.int (stp rs n.toNat : Int)) := by
          conv => lhs; rw [e0]
          exact fl_at hn
        have few3 : Few rs.length (grow rs (metAt rs b d) ((nextsD dd).take j)) := grow_few fit.go few fun x hx => fit.nexts ed (List.mem_of_mem_take hx)
        have len3 := few3.len
        have tk : grow rs (metAt rs b d) ((nextsD dd).take (j + 1)) = addTo (grow rs (metAt rs b d) ((nextsD dd).take j)) (stp rs n.toNat) := by
          unfold grow
          rw [List.take_succ, ej, List.foldl_append]
          rfl
        refine ⟨_, rfl, _, rfl, sa, _, _, _, rfl, rfl, SqL.of (t3.same _ _ hs), atS, _, rfl, ka, _, rfl, .inl ⟨_, .inl (stp rs n.toNat : Int), .inl t3.ek, rfl, rfl⟩, _, rfl, ?_⟩
        rw [val_kn]
        refine ite2 (fun h2 => ?_) (fun h2 => ?_)
        · have nin : stp rs n.toNat ∉ grow rs (metAt rs b d) ((nextsD dd).take j) := fun z => by
            rw [decide_eq_true z] at h2
            cases h2
          have kl : (knK (grow rs (metAt rs b d) ((nextsD dd).take j))).length < sizeLine := by
            unfold knK
            rw [List.length_map, sizeLine_eq]
            omega
          refine ⟨_, rfl, _, rfl, _, rfl, sa, _, _, _, rfl, rfl, SqL.of (t3.same _ _ hs), atS, ka, _, rfl, .inl ⟨_, .inl (stp rs n.toNat : Int), t3.ek, rfl, kl, rfl⟩, ?_⟩
          have s4 : Same H (upd H3 ka (.dK (putK (knK (grow rs (metAt rs b d) ((nextsD dd).take j))) (.inl (stp rs n.toNat : Int)) (.bl true)))) := same_updN t3.same t3.nk
          have em4 : upd H3 ka (.dK (putK (knK (grow rs (metAt rs b d) ((nextsD dd).take j))) (.inl (stp rs n.toNat : Int)) (.bl true))) ma = some (.lst (natsV (grow rs (metAt rs b d) ((nextsD dd).take j)))) := by
            rw [upd_ne t3.ne]
            exact t3.em
          refine ⟨_, rfl, .inl ⟨rfl, _, SqL.of em4⟩, _, rfl, _, rfl, sa, _, _, _, rfl, rfl, SqL.of (s4 _ _ hs), atS, ma, _, _, rfl, rfl, em4, by rw [nl, sizeLine_eq]; omega, ?_⟩
          refine ⟨_, rfl, by rw [tk]; exact t3.put nin, ?_⟩
          have a1 : tt ≠ ma := fun z => by
            rw [z, t3.em] at et3
            cases et3
          have a2 : tt ≠ ka := fun z => by
            rw [z, t3.ek] at et3
            cases et3
          rw [upd_ne a1, upd_ne a2]
          exact et3
        · have yin : stp rs n.toNat ∈ grow rs (metAt rs b d) ((nextsD dd).take j) := by
            by_cases z : stp rs n.toNat ∈ grow rs (metAt rs b d) ((nextsD dd).take j)
            · exact z
            · rw [decide_eq_false z] at h2
              exact absurd rfl h2
          have ad : addTo (grow rs (metAt rs b d) ((nextsD dd).take j)) (stp rs n.toNat) = grow rs (metAt rs b d) ((nextsD dd).take j) := if_pos yin
          exact ⟨_, rfl, by rw [tk, ad]; exact t3, et3⟩
      · obtain ⟨w6, rfl, t3, et3⟩ := z
        refine ⟨_, rfl, _, _, rfl, rfl, _, rfl, ?_⟩
        rw [List.length_map, List.take_length, ← st] at t3
        exact t3
    · have hge : (metAt rs b d).length ≤ d := by
        by_cases z : (metAt rs b d).length ≤ d
        · exact z
        · exact absurd (decide_eq_true (by omega)) h1
      exact ⟨_, rfl, k ma H' t.nm t.same (by rw [t.em, metAt_end (by omega) hge])⟩
end
end Mine

set_option maxRecDepth 100000
set_option maxHeartbeats 4000000
namespace L2
open PySem PySem.Spec PyProof.Rows
/-- a dict comprehension over a list that stays -/
theorem dc_list {K : PySem.W.Frag} {a : Addr} {xs : List V} {g : TG} {tt : TT} {tk tv : TE} {vs : List Nat} {σ : St} {H1 : Hp} {D : Addr} {Qd : Hp → Prop} (Pv : Nat → Hp → Prop) (h0 : Pv 0 (upd H1 D (.dK []))) (hl : ∀ i H, i ≤ xs.length → Pv i H → SqL K H a xs)
    (hs : ∀ i x H, xs[i]? = some x → Pv i H → g x (wipe σ vs) H fun σ2 H2 => wipe σ2 vs = wipe σ vs ∧ tt σ2 H2 fun b H3 =>
      if b = true then tk σ2 H3 fun y H4 => tv σ2 H4 fun z H5 => ∃ kvs k, y = kV k ∧ H5 D = some (.dK kvs) ∧ kvs.length < sizeLine ∧ Pv (i + 1) (upd H5 D (.dK (putK kvs k z))) else Pv (i + 1) H3) (hd : ∀ H, Pv xs.length H → Qd H) :
    ∃ W : Nat → Nat → Hp → Prop, (∃ m, W 0 m (upd H1 D (.dK []))) ∧ ∀ i m H, W i m H →
      ((Itl K a).stop i H ∧ Qd H) ∨ ((Itl K a).go i H ∧ ∃ Nx : Hp → Prop, (∀ H', Nx H' → ∃ m', m' < m ∧ W (i + 1) m' H') ∧ ∀ x H', (Itl K a).yld i H x H' → g x (wipe σ vs) H' fun σ2 H2 => wipe σ2 vs = wipe σ vs ∧ tt σ2 H2 fun b H3 =>
        if b = true then tk σ2 H3 fun y H4 => tv σ2 H4 fun z H5 => ∃ kvs k, y = kV k ∧ H5 D = some (.dK kvs) ∧ kvs.length < sizeLine ∧ Nx (upd H5 D (.dK (putK kvs k z))) else Nx H3) := by
  refine ⟨fun i m H => m = xs.length - i ∧ i ≤ xs.length ∧ Pv i H, ⟨xs.length, by simp, Nat.zero_le _, h0⟩, ?_⟩
  rintro i m H ⟨rfl, hi, p⟩
  have q := hl i H hi p
  by_cases hlt : i < xs.length
  · refine .inr ⟨⟨xs, xs[i], q, by simp [hlt]⟩, Pv (i + 1), fun H' p' => ⟨xs.length - (i + 1), by omega, rfl, hlt, p'⟩, fun x H' y => ?_⟩
    obtain ⟨e, y⟩ := y
    subst e
    exact hs i x _ (y xs q) p
  · have e : i = xs.length := by omega
    subst e
    exact .inl ⟨⟨xs, q, Nat.le_refl _⟩, hd H p⟩
end L2
namespace Mine
open PySem L2
abbrev s_in_order : Stmt := top 21
abbrev s_firsts_of : Stmt := top 31
theorem Rd.same {H H' : Hp} {a : Addr} {o : HO} (s : Same H H') (h : Rd H a o) : Rd H' a o := h.elim (fun z => .inl (s _ _ z)) fun ⟨od, z⟩ => .inr ⟨od, s _ _ z⟩
/-- the number of a name -/
def lookI (o : Ops) (x : Str) : Int := (opLook o x).getD 0
theorem look_mem : ∀ {o : Ops}, (o.map (·.1)).Nodup → ∀ p ∈ o, opLook o p.1 = some p.2
  | p0 :: o, nd, p, h => by
    rw [List.map_cons, List.nodup_cons] at nd
    rcases List.mem_cons.mp h with e | h
    · subst e
      simp [opLook]
    · have ne : p0.1 ≠ p.1 := fun z => nd.1 (z ▸ List.mem_map_of_mem h)
      have ih := look_mem nd.2 p h
      unfold opLook at ih ⊢
      rw [List.find?_cons, decide_eq_false ne]
      exact ih
theorem look_some {o : Ops} (nd : (o.map (·.1)).Nodup) {x : Str} (h : x ∈ o.map (·.1)) : opLook o x = some (lookI o x) := by
  obtain ⟨p, hp, rfl⟩ := List.mem_map.mp h
  unfold lookI
  rw [look_mem nd p hp]
  rfl
def pick (o : Ops) (ys : List Str) : Ops := ys.map fun y => (y, lookI o y)
theorem pick_perm {o : Ops} (nd : (o.map (·.1)).Nodup) {ys : List Str} (p : ys.Perm (o.map (·.1))) : (pick o ys).Perm o := by
  have e : o = pick o (o.map (·.1)) := by
    unfold pick
    rw [List.map_map]
    refine (List.map_id o).symm.trans (List.map_congr_left fun q hq => ?_)
    show q = (q.1, lookI o q.1)
    unfold lookI
    rw [look_mem nd q hq]
    rfl
  conv => rhs; rw [e]
  exact p.map _
theorem pick_names {o : Ops} {ys : List Str} : (pick o ys).map (·.1) = ys := by
  unfold pick
  rw [List.map_map]
  exact List.map_id ys
theorem opsK_keys (o : Ops) : (opsK o).map (·.1) = (o.map (·.1)).map Sum.inr := by
  unfold opsK
  rw [List.map_map, List.map_map]
  rfl
theorem opsK_len (o : Ops) : (opsK o).length = o.length := List.length_map _
/-- the same operations, sorted -/
def Ordered (o o' : Ops) : Prop := o'.Perm o ∧ PyProof.Rows.sortedS (o'.map (·.1)) = true
def spOrder : Sp := fun vs H Q _ => ∃ (t : Addr) (o : Ops), vs = [.ref t] ∧ Rd H t (.dK (opsK o)) ∧ (o.map (·.1)).Nodup ∧ o.length < 64 ∧ ∀ o', Ordered o o' → New H (.dK (opsK o')) Q
theorem val_new {o : Ops} {ys : List Str} {i : Nat} {y : Str} (nd : ys.Nodup) (h : ys[i]? = some y) : valV (opsK (pick o (ys.take i))) (.inr y) = none := by
  rw [val_ops]
  have : opLook (pick o (ys.take i)) y = none := by
    unfold opLook
    rw [List.find?_eq_none.mpr]
    · rfl
    · intro p hp
      unfold pick at hp
      obtain ⟨z, hz, rfl⟩ := List.mem_map.mp hp
      intro q
      have e : z = y := of_decide_eq_true q
      subst e
      obtain ⟨j, hj⟩ := List.mem_iff_getElem?.mp hz
      rw [List.getElem?_take] at hj
      split at hj
      · rename_i lt
        have hjl := (List.getElem?_eq_some_iff.mp hj).1
        have hil := (List.getElem?_eq_some_iff.mp h).1
        have := (List.getElem?_inj hjl nd).mp (hj.trans h.symm)
        omega
      · cases hj
  rw [this]
  rfl
section
variable {P : Program} {w : World} {K : PySem.W.Frag} {mg : Str → Option Value} {base : Heap}
theorem sc_in_order : FnScope ["table", "name"] ["table"] (defScope s_in_order) := ⟨rfl, rfl, rfl, by decide +kernel, rfl, by decide +kernel, by decide +kernel⟩
theorem ok_in_order {f : Addr} {fd : FuncData} (F : Fun K "in_order" "in_order" s_in_order f fd) (h_sorted : mg "sorted" = none) : FnOk P w K mg base CX0 1 f fd ["table"] spOrder := by
  refine F.ok sc_in_order (fun vs H Q E h => ?_) (fun cdv A outer s H vs Q E hr h => ?_)
  · obtain ⟨t, o, rfl, _⟩ := h
    rfl
  · obtain ⟨t, o, rfl, ht, nd, few, k⟩ := h
    refine ⟨_, (pss_one (ps_ret (pe_dc (own := [("name", 1)]) (g := gName 1) (tt := tYes) rfl sc_in_order.nd (pi_list (pe_callB (call_sortedD rfl) (by rfl) h_sorted (by decide +kernel) (pa_cons (pv 0) pa_nil))) (blkOk_by (own := [("name", 1)]) (N := ["table", "name"]) (sc := defScope s_in_order) (by decide +kernel)) (fun _ _ _ _ _ => pg_name (i := 1) sc_in_order.nd rfl (Or.inl rfl)) (fun _ _ _ _ _ => pts_nil) (fun _ _ _ _ _ => pv 1) (fun _ _ _ _ _ => pe_dget (hu_of hr) (pv 0) (pv 1) (fun _ _ => rfl))))), ?_⟩
    refine ⟨_, rfl, t, _, o.map (·.1), rfl, ht, opsK_keys o, by rw [List.length_map]; exact few, fun ys p perm srt np => ?_⟩
    have nd2 : ys.Nodup := perm.nodup_iff.mpr nd
    have yl : ys.length < 64 := by
      have := perm.length_eq
      rw [List.length_map] at this
      omega
    refine ⟨p, rfl, ⟨_, SqL.of upd_same⟩, fun D nD => dc_list (xs := ys.map V.str) (fun i Hx => Same H Hx ∧ Hx p = some (.lst (ys.map V.str)) ∧ H D = none ∧ Hx D = some (.dK (opsK (pick o (ys.take i))))) ?_ (fun i Hx _ z => SqL.of z.2.1) (fun i x Hx hx z => ?_) (fun Hx z => ?_)⟩
    · have nD0 : H D = none := none_of (sameNew np _) nD
      have ne : p ≠ D := fun z => by
        rw [← z, upd_same] at nD
        cases nD
      refine ⟨same_updN (sameNew np _) nD0, ?_, nD0, upd_same⟩
      rw [upd_ne ne, upd_same]
    · obtain ⟨z1, z2, z3, z4⟩ := z
      have hi : i < ys.length := by
        have := (List.getElem?_eq_some_iff.mp hx).1
        rw [List.length_map] at this
        exact this
      have ey : ys[i]? = some ys[i] := List.getElem?_eq_getElem hi
      generalize ys[i] = y at ey
      rw [List.getElem?_map, ey] at hx
      have hx2 : V.str y = x := Option.some.inj hx
      subst hx2
      have my : y ∈ o.map (·.1) := perm.mem_iff.mp (List.mem_of_getElem? ey)
      refine ⟨rfl, ?_⟩
      unfold tYes
      simp only [↓reduceIte]
      refine ⟨_, rfl, _, rfl, _, rfl, t, _, rfl, .inl ⟨opsK o, .inr y, Rd.same z1 ht, rfl, (by rw [val_ops, look_some nd my]; rfl)⟩, _, .inr y, rfl, z4, ?_, same_updN z1 z3, ?_, z3, ?_⟩
      · rw [opsK_len, sizeLine_eq]
        unfold pick
        rw [List.length_map, List.length_take]
        omega
      · have ne : p ≠ D := fun z => by
          rw [← z] at z4
          rw [z4] at z2
          cases z2
        rw [upd_ne ne]
        exact z2
      · rw [upd_same, putK_new _ (val_new nd2 ey)]
        unfold pick
        rw [List.take_succ, ey, List.map_append]
        unfold opsK
        rw [List.map_append]
        rfl
    · obtain ⟨z1, z2, z3, z4⟩ := z
      rw [List.length_map, List.take_length] at z4
      exact k _ ⟨pick_perm nd perm, by rw [pick_names]; exact srt⟩ D Hx z3 z1 z4
end
def nameOf : RowD → Str
  | .ask op _ => op
  | .go _ => ""
  | .fin x => x
def addStr (m : List Str) (t : Str) : List Str := if t ∈ m then m else m ++ [t]
def takeIn (x : Str) (m : List Str) (d : RowD) : List Str := if wordOf d = x then addStr m (nameOf d) else m
/-- what stands behind the word, each once -/
def distinct (x : Str) (ds : List RowD) : List Str := ds.foldl (takeIn x) []
def tks (m : List Str) : List (Key × V) := m.map fun t => (Sum.inr t, V.bl true)
theorem val_tks (m : List Str) (t : Str) : (valV (tks m) (.inr t)).isSome = decide (t ∈ m) := by
  induction m with
  | nil => simp [tks, valV_nil]
  | cons y m ih =>
    by_cases h : y = t
    · subst h
      unfold tks
      rw [List.map_cons, valV_pos rfl]
      simp
    · have h2 : ¬ (Sum.inr y : Key) = Sum.inr t := fun z => h (Sum.inr.inj z)
      unfold tks at ih ⊢
      rw [List.map_cons, valV_neg h2, ih]
      by_cases q : t ∈ m
      · rw [decide_eq_true q, decide_eq_true (List.mem_cons_of_mem _ q)]
      · rw [decide_eq_false q, decide_eq_false (fun z => (List.mem_cons.mp z).elim (fun y => h y.symm) q)]
theorem put_tks (m : List Str) (t : Str) : putK (tks m) (.inr t) (.bl true) = tks (addStr m t) := by
  unfold addStr
  by_cases q : t ∈ m
  · rw [if_pos q]
    unfold putK
    have := val_tks m t
    rw [valV_any, this, decide_eq_true q, if_pos rfl]
    unfold tks
    rw [List.map_map]
    refine List.map_congr_left fun y _ => ?_
    show (if (Sum.inr y : Key) = Sum.inr t then ((Sum.inr y : Key), V.bl true) else (Sum.inr y, V.bl true)) = _
    split <;> rfl
  · rw [if_neg q]
    have := val_tks m t
    rw [decide_eq_false q] at this
    cases e : valV (tks m) (.inr t) with
    | none =>
      rw [putK_new _ e]
      unfold tks
      rw [List.map_append]
      rfl
    | some v =>
      rw [e] at this
      cases this
theorem addStr_len (m : List Str) (t : Str) : (addStr m t).length ≤ m.length + 1 := by
  unfold addStr
  split
  · omega
  · rw [List.length_append]
    exact Nat.le_refl _
theorem fold_len (x : Str) : ∀ (ds : List RowD) (m : List Str), (ds.foldl (takeIn x) m).length ≤ m.length + ds.length
  | [], _ => Nat.le_refl _
  | d :: ds, m => by
    have h := fold_len x ds (takeIn x m d)
    have h2 : (takeIn x m d).length ≤ m.length + 1 := by
      unfold takeIn
      split
      · exact addStr_len _ _
      · omega
    show (ds.foldl (takeIn x) (takeIn x m d)).length ≤ m.length + (ds.length + 1)
    omega
theorem distinct_len (x : Str) (ds : List RowD) : (distinct x ds).length ≤ ds.length := by
  have := fold_len x ds []
  rw [List.length_nil, Nat.zero_add] at this
  exact this
theorem distinct_snoc {x : Str} {ds : List RowD} {i : Nat} {d : RowD} (h : ds[i]? = some d) : distinct x (ds.take (i + 1)) = takeIn x (distinct x (ds.take i)) d := by
  unfold distinct
  rw [List.take_succ, h, List.foldl_append]
  rfl
def IsFirsts (x : Str) (ds : List RowD) (ys : List Str) : Prop := ys.Perm (distinct x ds) ∧ PyProof.Rows.sortedS ys = true
def spFirsts : Sp := fun vs H Q _ => ∃ (l : Addr) (xs : List V) (ds : List RowD) (x : Str), vs = [.ref l, .str x] ∧ x ≠ "go" ∧ H l = some (.lst xs) ∧ Rows H xs ds ∧ ds.length ≤ 100000 ∧ (distinct x ds).length < 64 ∧ ∀ ys, IsFirsts x ds ys → New H (.lst (ys.map V.str)) Q
theorem TRow.name {H : Hp} {v : V} {d : RowD} (h : TRow H v d) (g : wordOf d ≠ "go") : ∃ (a : Addr) (zs : List V), v = .ref a ∧ H a = some (.tup (.str (wordOf d) :: .str (nameOf d) :: zs)) := by
  cases d with
  | ask op ns =>
    obtain ⟨a, t, e, h1, _⟩ := h
    exact ⟨a, _, e, h1⟩
  | go n => exact absurd rfl g
  | fin x =>
    obtain ⟨a, e, h1⟩ := h
    exact ⟨a, _, e, h1⟩
section
variable {P : Program} {w : World} {K : PySem.W.Frag} {mg : Str → Option Value} {base : Heap}
theorem sc_firsts_of : FnScope ["lines", "word", "line"] ["lines", "word"] (defScope s_firsts_of) := ⟨rfl, rfl, rfl, by decide +kernel, rfl, by decide +kernel, by decide +kernel⟩
theorem ok_firsts_of {f : Addr} {fd : FuncData} (F : Fun K "firsts_of" "firsts_of" s_firsts_of f fd) (h_sorted : mg "sorted" = none) : FnOk P w K mg base CX0 1 f fd ["lines", "word"] spFirsts := by
  refine F.ok sc_firsts_of (fun vs H Q E h => ?_) (fun cdv A outer s H vs Q E hr h => ?_)
  · obtain ⟨l, xs, ds, x, rfl, _⟩ := h
    rfl
  · obtain ⟨l, xs, ds, x, rfl, ng, hl, rows, big, few, k⟩ := h
    refine ⟨_, (pss_one (ps_ret (pe_callB (call_sortedD rfl) (by rfl) h_sorted (by decide +kernel) (pa_cons (pe_dc (own := [("line", 2)]) (g := gName 2) rfl sc_firsts_of.nd (pi_list (pv 0)) (blkOk_by (own := [("line", 2)]) (N := ["lines", "word", "line"]) (sc := defScope s_firsts_of) (by decide +kernel)) (fun _ _ _ _ _ => pg_name (i := 2) sc_firsts_of.nd rfl (Or.inl rfl)) (fun _ _ _ _ _ => pts_one (pt_cmpR op_eq (pe_ix (show IxR _ (rIxT K) from ix_tup) (pv 2) pe_int (fun _ _ => rfl)) (pv 1) (nomark _))) (fun _ _ _ _ _ => (pe_ix (show IxR _ (rIxT K) from ix_tup) (pv 2) pe_int (fun _ _ => rfl))) (fun _ _ _ _ _ => pe_bl)) pa_nil)))), ?_⟩
    refine ⟨_, rfl, l, rfl, ⟨_, SqL.of hl⟩, fun D nD => dc_list (xs := xs) (fun i Hx => Same H Hx ∧ Hx D = some (.dK (tks (distinct x (ds.take i))))) ⟨sameNew nD _, upd_same⟩ (fun i Hx _ z => SqL.of (z.1 _ _ hl)) (fun i y Hx hy z => ?_) (fun Hx z => ?_)⟩
    · obtain ⟨z1, z2⟩ := z
      have hi : i < ds.length := by
        have := (List.getElem?_eq_some_iff.mp hy).1
        have := rows.1
        omega
      obtain ⟨q, zs, d, ed, hx, row, hq⟩ := rows.at hi
      rw [hy] at hx
      cases hx
      refine ⟨rfl, ?_⟩
      refine ⟨_, rfl, _, _, _, _, rfl, rfl, .inl (.inl (z1 _ _ hq)), at0', _, rfl, rfl, _, rfl, ?_⟩
      by_cases hw : wordOf d = x
      · rw [hw, strEq]
        simp only [↓reduceIte]
        obtain ⟨q2, zs2, e2, hq2⟩ := row.name (by rw [hw]; exact ng)
        cases e2
        refine ⟨_, rfl, _, _, _, _, rfl, rfl, .inl (.inl (z1 _ _ hq2)), at1', _, .inr (nameOf d), rfl, z2, ?_, same_updN z1 nD, ?_⟩
        · have := distinct_len x (ds.take i)
          rw [List.length_take] at this
          unfold tks
          rw [List.length_map, sizeLine_eq]
          omega
        · rw [upd_same, put_tks, distinct_snoc ed]
          unfold takeIn
          rw [if_pos hw]
      · rw [strNe hw]
        simp only [Bool.false_eq_true, ↓reduceIte]
        refine ⟨z1, ?_⟩
        rw [distinct_snoc ed]
        unfold takeIn
        rw [if_neg hw]
        exact z2
    · obtain ⟨z1, z2⟩ := z
      rw [rows.1, List.take_length] at z2
      refine ⟨D, _, distinct x ds, rfl, .inl z2, ?_, few, fun ys p perm srt np => ?_⟩
      · unfold tks
        rw [List.map_map]
        rfl
      · exact k ys ⟨perm, srt⟩ p _ (none_of z1 np) (same_updN z1 (none_of z1 np)) upd_same
end
end Mine

set_option maxRecDepth 100000
set_option maxHeartbeats 4000000
namespace L2
open PySem PySem.Spec PyProof.Rows
/-- a list comprehension whose element leaves the heap -/
theorem lc_pure {K : PySem.W.Frag} {a D : Addr} {xs ys : List V} {te : TE} {i : Nat} {vs : List Nat} {σ : St} {H1 : Hp} {Qd : Hp → Prop} (hl : H1 a = some (.lst xs)) (nD : H1 D = none) (len : ys.length = xs.length) (big : xs.length ≤ 1000000)
    (hw : ∀ x, wipe ((wipe σ vs).set i (some x)) vs = wipe σ vs) (hs : ∀ (j : Nat) (x y : V) (Ha : Hp) (Qe : VK), xs[j]? = some x → ys[j]? = some y → Same H1 Ha → Qe y Ha → te ((wipe σ vs).set i (some x)) Ha Qe)
    (hd : ∀ Hx, Same H1 Hx → Hx D = some (.lst ys) → Qd Hx) :
    ∃ W : Nat → Nat → Hp → Prop, (∃ m, W 0 m (upd H1 D (.lst []))) ∧ ∀ i2 m H, W i2 m H →
      ((Itl K a).stop i2 H ∧ Qd H) ∨ ((Itl K a).go i2 H ∧ ∃ Nx : Hp → Prop, (∀ H', Nx H' → ∃ m', m' < m ∧ W (i2 + 1) m' H') ∧ ∀ x H', (Itl K a).yld i2 H x H' → gName i x (wipe σ vs) H' fun σ2 H2 => wipe σ2 vs = wipe σ vs ∧ tYes σ2 H2 fun b H3 =>
        if b = true then te σ2 H3 fun y H4 => ∃ acc, H4 D = some (.lst acc) ∧ acc.length < sizeLine ∧ Nx (upd H4 D (.lst (acc ++ [y]))) else Nx H3) := by
  refine lc_it (walk_list (xs := xs)) (fun k Hx => Same H1 Hx ∧ Hx D = some (.lst (ys.take k))) ⟨sameNew nD _, upd_same⟩ (fun k Hx _ z => SqL.of (z.1 _ _ hl)) (fun k x Ha Hb hk z1 z2 => ?_) (fun Hx z => hd Hx z.1 (by rw [z.2, ← len, List.take_length]))
  obtain ⟨rfl, hx⟩ := z2
  obtain ⟨s1, e1⟩ := z1
  have ey : ys[k]? = some ys[k] := List.getElem?_eq_getElem (by omega)
  refine ⟨hw x, ?_⟩
  unfold tYes
  simp only [↓reduceIte]
  refine hs k x _ _ _ hx ey s1 ⟨_, e1, ?_, Mine.same_updN s1 nD, ?_⟩
  · rw [List.length_take, sizeLine_eq]
    omega
  · rw [upd_same, List.take_succ, ey]
    rfl
end L2
namespace Mine
open PySem L2
abbrev s_mach : Stmt := inClass (top 25) 0
def SameX (m : Addr) (H H' : Hp) : Prop := ∀ b o, b ≠ m → H b = some o → H' b = some o
theorem SameX.upd {m : Addr} {H H' : Hp} {o : HO} (x : SameX m H H') : SameX m H (upd H' m o) := fun b u n e => by
  rw [upd_ne n]
  exact x b u n e
theorem SameX.go {m : Addr} {H H' H'' : Hp} (x : SameX m H H') (s : Same H' H'') : SameX m H H'' := fun b u n e => s _ _ (x b u n e)
theorem SameX.at {m : Addr} {H H' : Hp} {C dx b : Addr} {fs : List (Str × V)} {o : HO} (x : SameX m H H') (hm : H m = some (.ins C dx fs)) (e : H b = some o) (n : o ≠ .ins C dx fs) : H' b = some o :=
  x b o (fun z => by rw [z, hm] at e; exact n (Option.some.inj e).symm) e
theorem SameX.trow {m : Addr} {H H' : Hp} {C dx : Addr} {fs : List (Str × V)} {v : V} {d : RowD} (x : SameX m H H') (hm : H m = some (.ins C dx fs)) (r : TRow H v d) : TRow H' v d := by
  cases d with
  | ask op ns =>
    obtain ⟨a, t, e, h1, h2⟩ := r
    exact ⟨a, t, e, x.at hm h1 (fun z => nomatch z), x.at hm h2 (fun z => nomatch z)⟩
  | go n =>
    obtain ⟨a, e, h1⟩ := r
    exact ⟨a, e, x.at hm h1 (fun z => nomatch z)⟩
  | fin w =>
    obtain ⟨a, e, h1⟩ := r
    exact ⟨a, e, x.at hm h1 (fun z => nomatch z)⟩
theorem SameX.rows {m : Addr} {H H' : Hp} {C dx : Addr} {fs : List (Str × V)} {xs : List V} {rs : List RowD} (x : SameX m H H') (hm : H m = some (.ins C dx fs)) (r : Rows H xs rs) : Rows H' xs rs := ⟨r.1, fun i d e => by
  obtain ⟨v, h1, h2⟩ := r.2 i d e
  exact ⟨v, h1, x.trow hm h2⟩⟩
/-- the rows of rest that are met -/
def restD (rs : List RowD) (b : Nat) : List RowD := (metOf rs b).map fun i => rs.getD i (.fin "")
def restV (rs : List RowD) (b : Nat) (xs : List V) : List V := (metOf rs b).map fun i => xs.getD i .non
theorem rest_rows {H : Hp} {rs : List RowD} {b : Nat} {xs : List V} (f : Fit rs) (hb : b < rs.length) (r : Rows H xs rs) : Rows H (restV rs b xs) (restD rs b) := by
  refine ⟨by unfold restV restD; rw [List.length_map, List.length_map], fun j d e => ?_⟩
  unfold restD at e
  rw [List.getElem?_map] at e
  cases q : (metOf rs b)[j]? with
  | none => rw [q] at e; cases e
  | some i =>
    rw [q] at e
    have hi : i < rs.length := (metAt_few f hb rs.length).2 i (List.mem_of_getElem? q)
    have e2 : rs.getD i (.fin "") = d := Option.some.inj e
    have e3 : rs[i]? = some d := by
      rw [List.getD_eq_getElem?_getD, List.getElem?_eq_getElem hi] at e2
      rw [List.getElem?_eq_getElem hi]
      exact congrArg some e2
    obtain ⟨x, h1, h2⟩ := r.2 i d e3
    refine ⟨x, ?_, h2⟩
    unfold restV
    rw [List.getElem?_map, q]
    show some (xs.getD i .non) = some x
    rw [List.getD_eq_getElem?_getD, h1]
    rfl
/-- whether a run hangs -/
def endlessD (rs : List RowD) (b : Nat) : Bool := inV (.str "go") ((restD rs b).map fun d => .str (wordOf d))
/-- the fields of a machine, and what stands there -/
structure MachFs (H : Hp) (fs : List (Str × V)) (t l : Addr) (b : Nat) (rs : List RowD) (sa aa ea : Addr) (as es : List Str) : Prop where
  counts : fs.lookup ("counts" : Str) = some (.ref t)
  lines : fs.lookup ("lines" : Str) = some (.ref l)
  begin : fs.lookup ("begin" : Str) = some (.int b)
  stops : fs.lookup ("stops" : Str) = some (.ref sa)
  asks : fs.lookup ("asks" : Str) = some (.ref aa)
  endings : fs.lookup ("endings" : Str) = some (.ref ea)
  endless : fs.lookup ("endless" : Str) = some (.bl (endlessD rs b))
  hs : H sa = some (.lst (fl rs.length fun i => (stp rs i : Int)))
  ha : H aa = some (.lst (as.map V.str))
  he : H ea = some (.lst (es.map V.str))
  fa : IsFirsts "ask" (restD rs b) as
  fe : IsFirsts "end" (restD rs b) es
theorem SameX.off {m a : Addr} {H H' : Hp} (x : SameX m H H') (n : H' a = none) (ne : a ≠ m) : H a = none := by
  cases e : H a with
  | none => rfl
  | some u =>
    rw [x a u ne e] at n
    cases n
def spMach (C : Addr) : Sp := fun vs H Q _ => ∃ (m t l dx : Addr) (xs : List V) (rs : List RowD) (b : Nat), vs = [.ref m, .ref t, .ref l, .int b] ∧ H m = some (.ins C dx []) ∧ H l = some (.lst xs) ∧ Rows H xs rs ∧ Fit rs ∧ b < rs.length ∧ rs.length ≤ 100000 ∧
  (distinct "ask" (restD rs b)).length < 64 ∧ (distinct "end" (restD rs b)).length < 64 ∧ ∀ (fs : List (Str × V)) (H' : Hp) (sa aa ea : Addr) (as es : List Str), H sa = none → H aa = none → H ea = none → SameX m H H' → H' m = some (.ins C dx fs) → MachFs H' fs t l b rs sa aa ea as es → Q .non H'
/-- what is told of the class -/
structure MachC (K : PySem.W.Frag) (C : Addr) : Prop where
  cl : Cls K C
  n_counts : NoAttr K C "counts"
  n_lines : NoAttr K C "lines"
  n_begin : NoAttr K C "begin"
  n_stops : NoAttr K C "stops"
  n_asks : NoAttr K C "asks"
  n_endings : NoAttr K C "endings"
  n_endless : NoAttr K C "endless"
section
variable {P : Program} {w : World} {K : PySem.W.Frag} {mg : Str → Option Value} {base : Heap}
variable {a_rests a_stops a_firsts C : Addr}
theorem sc_mach : FnScope ["self", "counts", "lines", "begin", "rests", "stop", "line"] ["self", "counts", "lines", "begin"] (defScope s_mach) := ⟨rfl, rfl, rfl, by decide +kernel, rfl, by decide +kernel, by decide +kernel⟩
theorem putF_len {fs : List (Str × V)} {f : Str} {v : V} {n : Nat} (h : fs.length ≤ n) : (putF f v fs).length ≤ n + 1 := Nat.le_trans (length_putF f v fs) (Nat.succ_le_succ h)
theorem ok_mach {f : Addr} {fd fd_rests fd_stops fd_firsts : FuncData} (F : Fun K "__init__" "Machine.__init__" s_mach f fd) (TM : MachC K C)
    (GR : FnOk P w K mg base CX0 2 a_rests fd_rests ["lines", "stops", "begin"] spRests) (b_rests : Binds K fd_rests ["lines", "stops", "begin"] []) (g_rests : mg "rests_from" = some (.ref a_rests)) (k_rests : PySem.W.keepIn K (.ref a_rests) = true)
    (GS : FnOk P w K mg base CX0 2 a_stops fd_stops ["lines"] spStops) (b_stops : Binds K fd_stops ["lines"] []) (g_stops : mg "stops_of" = some (.ref a_stops)) (k_stops : PySem.W.keepIn K (.ref a_stops) = true)
    (GF : FnOk P w K mg base CX0 1 a_firsts fd_firsts ["lines", "word"] spFirsts) (b_firsts : Binds K fd_firsts ["lines", "word"] []) (g_firsts : mg "firsts_of" = some (.ref a_firsts)) (k_firsts : PySem.W.keepIn K (.ref a_firsts) = true) : FnOk P w K mg base CX0 3 f fd ["self", "counts", "lines", "begin"] (spMach C) := by
  refine F.ok sc_mach (fun vs H Q E h => ?_) (fun cdv A outer s H vs Q E hr h => ?_)
  · obtain ⟨m, t, l, dx, xs, rs, b, rfl, _⟩ := h
    rfl
  · obtain ⟨m, t, l, dx, xs, rs, b, rfl, hm, hl, rows, fit, hb, big, few1, few2, k⟩ := h
    refine ⟨_, (pss_cons (ps_fld (pv 0) (pv 1) rfl)
      (pss_cons (ps_fld (pv 0) (pv 2) rfl)
      (pss_cons (ps_fld (pv 0) (pv 3) rfl)
      (pss_cons (ps_fld (pv 0) (pe_call GS (hr.mono (by decide)) (by rfl) g_stops k_stops b_stops .nil pass0 (pa_cons (pv 2) pa_nil)) rfl)
      (pss_cons (ps_setLc (i := 4) (own := [("stop", 5)]) (g := gName 5) (tt := tYes) rfl sc_mach.nd rfl rfl (sw_true rfl rfl rfl rfl) (pi_list (pe_call GR (hr.mono (by decide)) (by rfl) g_rests k_rests b_rests .nil pass0 (pa_cons (pv 2) (pa_cons (pe_fld (pv 0) rfl) (pa_cons (pv 3) pa_nil))))) (blkOk_by (own := [("stop", 5)]) (N := ["self", "counts", "lines", "begin", "rests", "stop", "line"]) (sc := defScope s_mach) (by decide +kernel)) (fun _ _ _ _ _ => pg_name (i := 5) sc_mach.nd rfl (Or.inl rfl)) (fun _ _ _ _ _ => pts_nil) (fun _ _ _ _ _ => pe_ix (show IxR _ (rIxL K) from ix_list) (pv 2) (pv 5) (fun _ _ => rfl)))
      (pss_cons (ps_fld (pv 0) (pe_call GF (hr.mono (by decide)) (by rfl) g_firsts k_firsts b_firsts .nil pass0 (pa_cons (pv 4) (pa_cons pe_str pa_nil))) rfl)
      (pss_cons (ps_fld (pv 0) (pe_call GF (hr.mono (by decide)) (by rfl) g_firsts k_firsts b_firsts .nil pass0 (pa_cons (pv 4) (pa_cons pe_str pa_nil))) rfl)
      (pss_one (ps_fld (pv 0) (pe_cmpR op_in_seq pe_str (pe_lc (own := [("line", 6)]) (g := gName 6) (tt := tYes) rfl sc_mach.nd (pi_list (pv 4)) (blkOk_by (own := [("line", 6)]) (N := ["self", "counts", "lines", "begin", "rests", "stop", "line"]) (sc := defScope s_mach) (by decide +kernel)) (fun _ _ _ _ _ => pg_name (i := 6) sc_mach.nd rfl (Or.inl rfl)) (fun _ _ _ _ _ => pts_nil) (fun _ _ _ _ _ => pe_ix (show IxR _ (rIxT K) from ix_tup) (pv 6) pe_int (fun _ _ => rfl))) (by rfl)) rfl))))))))), ?_⟩
    have L0 : ([] : List (Str × V)).length ≤ 0 := Nat.le_refl _
    have L1 := putF_len (f := "counts") (v := .ref t) L0
    have L2 := putF_len (f := "lines") (v := .ref l) L1
    have L3 := putF_len (f := "begin") (v := .int b) L2
    refine ⟨_, rfl, _, rfl, m, C, dx, _, rfl, hm, TM.cl, TM.n_counts, Nat.lt_of_le_of_lt L0 (by decide), ?_⟩
    refine ⟨_, rfl, _, rfl, m, C, dx, _, rfl, upd_same, TM.cl, TM.n_lines, Nat.lt_of_le_of_lt L1 (by decide), ?_⟩
    refine ⟨_, rfl, _, rfl, m, C, dx, _, rfl, upd_same, TM.cl, TM.n_begin, Nat.lt_of_le_of_lt L2 (by decide), ?_⟩
    rw [upd_upd, upd_upd]
    have x3 : SameX m H (upd H m (.ins C dx (putF "begin" (.int b) (putF "lines" (.ref l) (putF "counts" (.ref t) []))))) := SameX.upd fun _ _ _ e => e
    have m3 : upd H m (.ins C dx (putF "begin" (.int b) (putF "lines" (.ref l) (putF "counts" (.ref t) [])))) m = some (.ins C dx (putF "begin" (.int b) (putF "lines" (.ref l) (putF "counts" (.ref t) [])))) := upd_same
    have q1 : (putF ("begin" : Str) (.int b) (putF "lines" (.ref l) (putF "counts" (.ref t) []))).lookup ("counts" : Str) = some (.ref t) := by
      rw [lookup_putF, if_neg (by decide +kernel), lookup_putF, if_neg (by decide +kernel), lookup_putF, if_pos rfl]
    have q2 : (putF ("begin" : Str) (.int b) (putF "lines" (.ref l) (putF "counts" (.ref t) []))).lookup ("lines" : Str) = some (.ref l) := by
      rw [lookup_putF, if_neg (by decide +kernel), lookup_putF, if_pos rfl]
    have q3 : (putF ("begin" : Str) (.int b) (putF "lines" (.ref l) (putF "counts" (.ref t) []))).lookup ("begin" : Str) = some (.int b) := by
      rw [lookup_putF, if_pos rfl]
    generalize (upd H m (.ins C dx (putF "begin" (.int b) (putF "lines" (.ref l) (putF "counts" (.ref t) []))))) = H3 at x3 m3 ⊢
    generalize putF ("begin" : Str) (.int b) (putF "lines" (.ref l) (putF "counts" (.ref t) [])) = f3 at m3 L3 q1 q2 q3
    have l3 : H3 l = some (.lst xs) := x3.at hm hl (fun z => nomatch z)
    refine ⟨_, rfl, l, xs, rs, rfl, l3, x3.rows hm rows, fit.go, big, fun sa H4 n4 s4 e4 => ?_⟩
    refine ⟨_, rfl, m, C, dx, _, rfl, s4 _ _ m3, TM.cl, TM.n_stops, Nat.lt_of_le_of_lt L3 (by decide), ?_⟩
    have L4 := putF_len (f := "stops") (v := .ref sa) L3
    have sm : sa ≠ m := fun z => by
      rw [z, m3] at n4
      cases n4
    have nsa : H sa = none := x3.off n4 sm
    have x4 : SameX m H (upd H4 m (.ins C dx (putF "stops" (.ref sa) f3))) := (x3.go s4).upd
    have m4 : upd H4 m (.ins C dx (putF "stops" (.ref sa) f3)) m = some (.ins C dx (putF "stops" (.ref sa) f3)) := upd_same
    have e5 : upd H4 m (.ins C dx (putF "stops" (.ref sa) f3)) sa = some (.lst (fl rs.length fun i => (stp rs i : Int))) := by
      rw [upd_ne sm]
      exact e4
    have q4 : (putF ("stops" : Str) (.ref sa) f3).lookup ("stops" : Str) = some (.ref sa) := by rw [lookup_putF, if_pos rfl]
    have q1' : (putF ("stops" : Str) (.ref sa) f3).lookup ("counts" : Str) = some (.ref t) := by rw [lookup_putF, if_neg (by decide +kernel)]; exact q1
    have q2' : (putF ("stops" : Str) (.ref sa) f3).lookup ("lines" : Str) = some (.ref l) := by rw [lookup_putF, if_neg (by decide +kernel)]; exact q2
    have q3' : (putF ("stops" : Str) (.ref sa) f3).lookup ("begin" : Str) = some (.int b) := by rw [lookup_putF, if_neg (by decide +kernel)]; exact q3
    clear q1 q2 q3
    generalize (upd H4 m (.ins C dx (putF "stops" (.ref sa) f3))) = H5 at x4 m4 e5 ⊢
    generalize putF ("stops" : Str) (.ref sa) f3 = f4 at m4 L4 q1' q2' q3' q4
    have l5 : H5 l = some (.lst xs) := x4.at hm hl (fun z => nomatch z)
    have rows5 := x4.rows hm rows
    refine ⟨_, rfl, _, rfl, m, C, dx, _, _, rfl, m4, TM.cl, TM.n_stops, q4, _, rfl, l, sa, xs, rs, b, rfl, l5, rows5, fit, e5, hb, big, fun ma H6 n6 s6 e6 => ?_⟩
    have few := metAt_few fit hb rs.length
    have flen := few.len
    have nl : (natsV (metOf rs b)).length = (metOf rs b).length := List.length_map _
    have rvl : (restV rs b xs).length = (metOf rs b).length := List.length_map _
    have fl2 : (metOf rs b).length ≤ rs.length := flen
    refine ⟨ma, rfl, ⟨_, SqL.of e6⟩, fun D nD => lc_pure (ys := restV rs b xs) e6 nD (by rw [nl, rvl]) (by rw [nl]; omega) (fun _ => rfl) (fun j x y Ha Qe hx hy sa6 qe => ?_) (fun H7 s7 e7 => ?_)⟩
    · unfold natsV at hx
      rw [List.getElem?_map] at hx
      unfold restV at hy
      rw [List.getElem?_map] at hy
      cases q : (metOf rs b)[j]? with
      | none => rw [q] at hx; cases hx
      | some i =>
        rw [q] at hx hy
        have hx2 : V.int (i : Int) = x := Option.some.inj hx
        have hy2 : xs.getD i .non = y := Option.some.inj hy
        have hi : i < xs.length := by
          rw [rows.1]
          exact few.2 i (List.mem_of_getElem? q)
        subst hx2
        have ey : xs[i]? = some y := by
          rw [List.getD_eq_getElem?_getD, List.getElem?_eq_getElem hi] at hy2
          rw [List.getElem?_eq_getElem hi]
          exact congrArg some hy2
        exact ⟨_, rfl, _, rfl, l, xs, _, y, rfl, rfl, SqL.of (sa6 _ _ (s6 _ _ l5)), atI_nat ey, qe⟩
    · have s57 : Same H5 H7 := s6.trans s7
      have rr : Rows H7 (restV rs b xs) (restD rs b) := rest_rows fit hb (rows5.same s57)
      have rdl : (restD rs b).length ≤ 100000 := by
        unfold restD
        rw [List.length_map]
        omega
      refine ⟨_, rfl, D, _, _, "ask", rfl, by decide +kernel, e7, rr, rdl, few1, fun as fas aa H8 n8 s8 e8 => ?_⟩
      have m8 : H8 m = some (.ins C dx f4) := s8 _ _ (s57 _ _ m4)
      refine ⟨_, rfl, m, C, dx, _, rfl, m8, TM.cl, TM.n_asks, Nat.lt_of_le_of_lt L4 (by decide), ?_⟩
      have L5 := putF_len (f := "asks") (v := .ref aa) L4
      have am : aa ≠ m := fun z => by
        rw [z, s57 _ _ m4] at n8
        cases n8
      have naa : H aa = none := SameX.off (fun b o n e => s57 _ _ (x4 _ _ n e)) n8 am
      have x9 : SameX m H5 (upd H8 m (.ins C dx (putF "asks" (.ref aa) f4))) := SameX.upd fun b o _ e => s8 _ _ (s57 _ _ e)
      have x79 : SameX m H7 (upd H8 m (.ins C dx (putF "asks" (.ref aa) f4))) := SameX.upd fun b o _ e => s8 _ _ e
      have m9 : upd H8 m (.ins C dx (putF "asks" (.ref aa) f4)) m = some (.ins C dx (putF "asks" (.ref aa) f4)) := upd_same
      have e9 : upd H8 m (.ins C dx (putF "asks" (.ref aa) f4)) aa = some (.lst (as.map V.str)) := by
        rw [upd_ne am]
        exact e8
      have p5 : (putF ("asks" : Str) (.ref aa) f4).lookup ("asks" : Str) = some (.ref aa) := by rw [lookup_putF, if_pos rfl]
      have p1 : (putF ("asks" : Str) (.ref aa) f4).lookup ("counts" : Str) = some (.ref t) := by rw [lookup_putF, if_neg (by decide +kernel)]; exact q1'
      have p2 : (putF ("asks" : Str) (.ref aa) f4).lookup ("lines" : Str) = some (.ref l) := by rw [lookup_putF, if_neg (by decide +kernel)]; exact q2'
      have p3 : (putF ("asks" : Str) (.ref aa) f4).lookup ("begin" : Str) = some (.int b) := by rw [lookup_putF, if_neg (by decide +kernel)]; exact q3'
      have p4 : (putF ("asks" : Str) (.ref aa) f4).lookup ("stops" : Str) = some (.ref sa) := by rw [lookup_putF, if_neg (by decide +kernel)]; exact q4
      have m7 : H7 m = some (.ins C dx f4) := s57 _ _ m4
      generalize (upd H8 m (.ins C dx (putF "asks" (.ref aa) f4))) = H9 at x9 x79 m9 e9 ⊢
      generalize putF ("asks" : Str) (.ref aa) f4 = f5 at m9 L5 p1 p2 p3 p4 p5
      have d9 : H9 D = some (.lst (restV rs b xs)) := x79.at m7 e7 (fun z => nomatch z)
      have rr9 : Rows H9 (restV rs b xs) (restD rs b) := x79.rows m7 rr
      refine ⟨_, rfl, D, _, _, "end", rfl, by decide +kernel, d9, rr9, rdl, few2, fun es fes ea H10 n10 s10 e10 => ?_⟩
      refine ⟨_, rfl, m, C, dx, _, rfl, s10 _ _ m9, TM.cl, TM.n_endings, Nat.lt_of_le_of_lt L5 (by decide), ?_⟩
      have L6 := putF_len (f := "endings") (v := .ref ea) L5
      have em : ea ≠ m := fun z => by
        rw [z, m9] at n10
        cases n10
      have nea : H ea = none := SameX.off (fun b o n e => x9 _ _ n (x4 _ _ n e)) n10 em
      have x11 : SameX m H9 (upd H10 m (.ins C dx (putF "endings" (.ref ea) f5))) := SameX.upd fun b o _ e => s10 _ _ e
      have m11 : upd H10 m (.ins C dx (putF "endings" (.ref ea) f5)) m = some (.ins C dx (putF "endings" (.ref ea) f5)) := upd_same
      have e11 : upd H10 m (.ins C dx (putF "endings" (.ref ea) f5)) ea = some (.lst (es.map V.str)) := by
        rw [upd_ne em]
        exact e10
      have r6 : (putF ("endings" : Str) (.ref ea) f5).lookup ("endings" : Str) = some (.ref ea) := by rw [lookup_putF, if_pos rfl]
      have r1 : (putF ("endings" : Str) (.ref ea) f5).lookup ("counts" : Str) = some (.ref t) := by rw [lookup_putF, if_neg (by decide +kernel)]; exact p1
      have r2 : (putF ("endings" : Str) (.ref ea) f5).lookup ("lines" : Str) = some (.ref l) := by rw [lookup_putF, if_neg (by decide +kernel)]; exact p2
      have r3 : (putF ("endings" : Str) (.ref ea) f5).lookup ("begin" : Str) = some (.int b) := by rw [lookup_putF, if_neg (by decide +kernel)]; exact p3
      have r4 : (putF ("endings" : Str) (.ref ea) f5).lookup ("stops" : Str) = some (.ref sa) := by rw [lookup_putF, if_neg (by decide +kernel)]; exact p4
      have r5 : (putF ("endings" : Str) (.ref ea) f5).lookup ("asks" : Str) = some (.ref aa) := by rw [lookup_putF, if_neg (by decide +kernel)]; exact p5
      generalize (upd H10 m (.ins C dx (putF "endings" (.ref ea) f5))) = H11 at x11 m11 e11 ⊢
      generalize putF ("endings" : Str) (.ref ea) f5 = f6 at m11 L6 r1 r2 r3 r4 r5 r6
      have d11 : H11 D = some (.lst (restV rs b xs)) := x11.at m9 d9 (fun z => nomatch z)
      have rr11 : Rows H11 (restV rs b xs) (restD rs b) := x11.rows m9 rr9
      have rdv : (restD rs b).length = (restV rs b xs).length := rr11.1.symm
      refine ⟨_, rfl, D, rfl, ⟨_, SqL.of d11⟩, fun G nG => lc_pure (ys := (restD rs b).map fun d => .str (wordOf d)) d11 nG (by rw [List.length_map, rdv]) (by rw [← rdv]; omega) (fun _ => rfl) (fun j x y Ha Qe hx hy sa11 qe => ?_) (fun H12 s12 e12 => ?_)⟩
      · have hj : j < (restD rs b).length := by
          have := (List.getElem?_eq_some_iff.mp hx).1
          omega
        obtain ⟨z, zs, d, ed, hx2, row, hz⟩ := rr11.at hj
        rw [hx2] at hx
        cases hx
        rw [List.getElem?_map, ed] at hy
        cases hy
        exact ⟨_, rfl, _, _, _, _, rfl, rfl, .inl (.inl (sa11 _ _ hz)), at0', qe⟩
      · refine ⟨G, _, rfl, .inl (SqL.of e12), rfl, ?_, ?_⟩
        · rw [List.all_map]
          exact List.all_eq_true.mpr fun _ _ => rfl
        · refine ⟨_, rfl, m, C, dx, _, rfl, s12 _ _ m11, TM.cl, TM.n_endless, Nat.lt_of_le_of_lt L6 (by decide), ?_⟩
          have x12 : SameX m H11 (upd H12 m (.ins C dx (putF "endless" (.bl (endlessD rs b)) f6))) := SameX.upd fun b o _ e => s12 _ _ e
          refine k (putF "endless" (.bl (endlessD rs b)) f6) (upd H12 m (.ins C dx (putF "endless" (.bl (endlessD rs b)) f6))) sa aa ea as es nsa naa nea (fun b o n e => x12 _ _ n (x11 _ _ n (x9 _ _ n (x4 _ _ n e)))) upd_same ⟨?_, ?_, ?_, ?_, ?_, ?_, ?_, x12 _ _ sm (x11 _ _ sm (x9 _ _ sm e5)), x12 _ _ am (x11 _ _ am e9), x12 _ _ em e11, fas, fes⟩
          · rw [lookup_putF, if_neg (by decide +kernel)]
            exact r1
          · rw [lookup_putF, if_neg (by decide +kernel)]
            exact r2
          · rw [lookup_putF, if_neg (by decide +kernel)]
            exact r3
          · rw [lookup_putF, if_neg (by decide +kernel)]
            exact r4
          · rw [lookup_putF, if_neg (by decide +kernel)]
            exact r5
          · rw [lookup_putF, if_neg (by decide +kernel)]
            exact r6
          · rw [lookup_putF, if_pos rfl]
end
end Mine

set_option maxRecDepth 100000
set_option maxHeartbeats 4000000
namespace Mine
open PySem L2
abbrev s_lines_read : Stmt := top 35
theorem ps_no {X : Cx} {st : Stmt} : PS X st (fun _ _ _ => False) := ⟨fun _ _ _ _ _ _ h => h.elim⟩
/-- the rows stand there, in lists or tuples -/
def RowsIn (H : Hp) (xs : List V) (rs : List RowD) : Prop := xs.length = rs.length ∧ ∀ (i : Nat) (d : RowD), rs[i]? = some d → ∃ x, xs[i]? = some x ∧ RowAt H x d
def OkRows (o : Ops) (rs : List RowD) : Prop := ∀ (i : Nat) (d : RowD), rs[i]? = some d → OkRow o rs.length d
theorem OkRows.fit {o : Ops} {rs : List RowD} (h : OkRows o rs) : Fit rs := fun i d e n hn => by
  have := h i d e
  cases d with
  | ask op ns => exact this.2.2 n hn
  | go k =>
    rw [List.mem_singleton.mp hn]
    exact this
  | fin w => exact nomatch hn
def spRead : Sp := fun vs H Q _ => ∃ (r d : Addr) (xs : List V) (rs : List RowD) (o : Ops), vs = [.ref r, .ref d] ∧ SqA H r xs ∧ RowsIn H xs rs ∧ Rd H d (.dK (opsK o)) ∧ 1 ≤ rs.length ∧ rs.length ≤ 400 ∧ OkRows o rs ∧
  ∀ (p : Addr) (ys : List V) (H' : Hp), H p = none → Same H H' → H' p = some (.lst ys) → Rows H' ys rs → Q (.ref p) H'
theorem TRow.other {H : Hp} {D : Addr} {ys : List V} {o : HO} {v : V} {d : RowD} (h : TRow H v d) (e : H D = some (.lst ys)) : TRow (upd H D o) v d := by
  have ne : ∀ {a : Addr} {zs : List V}, H a = some (.tup zs) → upd H D o a = some (.tup zs) := fun {a zs} h1 => by
    rw [upd_ne (fun z => by rw [z, e] at h1; cases h1)]
    exact h1
  cases d with
  | ask op ns =>
    obtain ⟨a, t, e, h1, h2⟩ := h
    exact ⟨a, t, e, ne h1, ne h2⟩
  | go n =>
    obtain ⟨a, e, h1⟩ := h
    exact ⟨a, e, ne h1⟩
  | fin w =>
    obtain ⟨a, e, h1⟩ := h
    exact ⟨a, e, ne h1⟩
/-- the first kk rows stand in the new list -/
structure Grown (Hn : Hp) (D : Addr) (rs : List RowD) (kk : Nat) (Hx : Hp) : Prop where
  same : Same Hn Hx
  at_ : ∃ ys : List V, ys.length = kk ∧ Hx D = some (.lst ys) ∧ ∀ (j : Nat) (dj : RowD), j < kk → rs[j]? = some dj → ∃ y, ys[j]? = some y ∧ TRow Hx y dj
section
variable {P : Program} {w : World} {K : PySem.W.Frag} {mg : Str → Option Value} {base : Heap}
variable {fII fIW a_is_row a_is_index a_is_name a_is_text_in a_are_counts a_word_of a_are_nexts a_is_line a_line_of a_are_operations : Addr}
theorem sc_lines_read : FnScope ["rows", "counts", "index", "row"] ["rows", "counts"] (defScope s_lines_read) := ⟨rfl, rfl, rfl, by decide +kernel, rfl, by decide +kernel, by decide +kernel⟩
theorem ok_lines_read {f : Addr} {fd fd_is_row fd_is_line fd_line_of : FuncData} (F : Fun K "lines_read" "lines_read" s_lines_read f fd) (T : TxtF K mg fII fIW) (TG : TxtG K mg a_is_row a_is_index a_is_name a_is_text_in a_are_counts a_word_of a_are_nexts a_is_line a_line_of a_are_operations)
    (h_enum : mg "enumerate" = none) {tm : Tok} (h_most : mg "MOST_ROWS" = some (.int 400 tm))
    (GRw : FnOk P w K mg base CX0 1 a_is_row fd_is_row ["thing"] (spIsRow K)) (b_is_row : Binds K fd_is_row ["thing"] [])
    (GL : FnOk P w K mg base CX0 5 a_is_line fd_is_line ["row", "counts", "many"] spIsLine) (b_is_line : Binds K fd_is_line ["row", "counts", "many"] [])
    (GLo : FnOk P w K mg base CX0 1 a_line_of fd_line_of ["row"] spLineOf) (b_line_of : Binds K fd_line_of ["row"] []) : FnOk P w K mg base CX0 6 f fd ["rows", "counts"] spRead := by
  refine F.ok sc_lines_read (fun vs H Q E h => ?_) (fun cdv A outer s H vs Q E hr h => ?_)
  · obtain ⟨r, d, xs, rs, o, rfl, _⟩ := h
    rfl
  · obtain ⟨r, d, xs, rs, o, rfl, hx, rows, hd, lo, hi, ok, k⟩ := h
    refine ⟨_, (pss_cons (ps_if (PW.pt (pw_or (pt_not (pt_val (pe_call GRw (hr.mono (by decide)) (by rfl) TG.g_is_row TG.k_is_row b_is_row .nil pass0 (pa_cons (pv 0) pa_nil)))) (pw_or1 (pt_not (pt_chain op_le op_le pe_int (pe_callB call_len_seq (by rfl) T.b_len PySem.boot_len (pa_cons (pv 0) pa_nil)) (pe_glob (v := .int 400) rfl h_most ⟨_, rfl⟩)))))) (pss_one ps_no) pss_nil)
      (pss_cons (ps_for PassesOwn.never rfl (pi_or (pi_enum (by rfl) h_enum (pa_cons (pv 0) pa_nil)) (pi_enumT (by rfl) h_enum (pa_cons (pv 0) pa_nil))) (pg_tup rfl (pgs_cons (pg_name (i := 2) sc_lines_read.nd rfl (Or.inl rfl)) (pgs_cons (pg_name (i := 3) sc_lines_read.nd rfl (Or.inl rfl)) pgs_nil)))
        (pss_one (ps_if (pt_not (pt_val (pe_call GL (hr.mono (by decide)) (by rfl) TG.g_is_line TG.k_is_line b_is_line .nil pass0 (pa_cons (pv 3) (pa_cons (pv 1) (pa_cons (pe_callB call_len_seq (by rfl) T.b_len PySem.boot_len (pa_cons (pv 0) pa_nil)) pa_nil)))))) (pss_one ps_no) pss_nil)))
      (pss_one (ps_ret (pe_lc (own := [("row", 3)]) (g := gName 3) (tt := tYes) (wi := iSeq K (tVar 0)) rfl sc_lines_read.nd (pi_seq (pv 0)) (blkOk_by (own := [("row", 3)]) (N := ["rows", "counts", "index", "row"]) (sc := defScope s_lines_read) (by decide +kernel)) (fun _ _ _ _ _ => pg_name (i := 3) sc_lines_read.nd rfl (Or.inl rfl)) (fun _ _ _ _ _ => pts_nil) (fun _ _ _ _ _ => (pe_call GLo (hr.mono (by decide)) (by rfl) TG.g_line_of TG.k_line_of b_line_of .nil pass0 (pa_cons (pv 3) pa_nil)))))))), ?_⟩
    obtain ⟨ty, b, e⟩ := btSeq (K := K) hx
    refine ⟨_, rfl, _, ty, rfl, b, fun H1 s1 => ⟨_, rfl, ?_⟩⟩
    rw [e]
    refine iteF ?_
    have hx1 := s1.sqa hx
    have len : (xs.length : Int) = rs.length := by rw [rows.1]
    refine ⟨_, rfl, r, _, rfl, hx1.sq, _, _, rfl, rfl, _, rfl, ?_⟩
    rw [len, decide_eq_true (show (1 : Int) ≤ (rs.length : Int) by omega)]
    refine iteT ?_
    refine ⟨_, _, rfl, rfl, _, rfl, ?_⟩
    rw [decide_eq_true (show (rs.length : Int) ≤ 400 by omega)]
    refine iteF ?_
    have body : ∀ (i : Nat) (x : V) (Ha : Hp), xs[i]? = some x → Same H1 Ha → ∃ dd : RowD, RowAt Ha x dd ∧ OkRow o (rs.length : Int) dd ∧ rs[i]? = some dd := fun i x Ha hxi sa => by
      have hi2 : i < rs.length := by
        have := (List.getElem?_eq_some_iff.mp hxi).1
        have := rows.1
        omega
      obtain ⟨x2, h1, h2⟩ := rows.2 i _ (List.getElem?_eq_getElem hi2)
      rw [hxi] at h1
      cases h1
      exact ⟨_, h2.same (s1.trans sa), ok i _ (List.getElem?_eq_getElem hi2), List.getElem?_eq_getElem hi2⟩
    have elem : ∀ (Hn Ha : Hp) (D : Addr) (kk : Nat) (x : V), Same H1 Hn → Hn D = none → xs[kk]? = some x → Grown Hn D rs kk Ha → ∃ dd : RowD, RowAt Ha x dd ∧ ∀ (v' : V) (H' : Hp), Same Ha H' → TRow H' v' dd → ∃ acc, H' D = some (.lst acc) ∧ acc.length < sizeLine ∧ Grown Hn D rs (kk + 1) (upd H' D (.lst (acc ++ [v']))) := fun Hn Ha D kk x sn nD hxk gr => by
      obtain ⟨dd, b1, _, b3⟩ := body kk x Ha hxk (sn.trans gr.same)
      refine ⟨dd, b1, fun v' H' sa tr => ?_⟩
      obtain ⟨sx, ys, yl, ye, ya⟩ := gr
      have hk : kk < rs.length := (List.getElem?_eq_some_iff.mp b3).1
      have eD := sa _ _ ye
      refine ⟨ys, eD, by rw [yl, sizeLine_eq]; omega, ⟨same_updN (sx.trans sa) nD, ys ++ [v'], by rw [List.length_append, yl]; rfl, upd_same, fun j dj hj ej => ?_⟩⟩
      by_cases z : j < kk
      · obtain ⟨y, h1, h2⟩ := ya j dj z ej
        exact ⟨y, by rw [List.getElem?_append_left (by omega)]; exact h1, (h2.same sa).other eD⟩
      · have zj : j = kk := by omega
        subst zj
        rw [b3] at ej
        cases ej
        exact ⟨v', by rw [List.getElem?_append_right (by omega), yl, Nat.sub_self]; rfl, tr.other eD⟩
    have fin : ∀ (Hn Hx : Hp) (D : Addr), Same H1 Hn → Hn D = none → Grown Hn D rs xs.length Hx → Q (.ref D) Hx := fun Hn Hx D sn nD gr => by
      obtain ⟨sx, ys, yl, ye, ya⟩ := gr
      rw [rows.1] at yl ya
      exact k D ys Hx (none_of (s1.trans sn) nD) (s1.trans (sn.trans sx)) ye ⟨yl, fun i dd e => ya i dd (List.getElem?_eq_some_iff.mp e).1 e⟩
    rcases hx1 with hx1 | hx1
    · refine .inl ⟨_, rfl, r, xs, rfl, SqL.of hx1, for_enumL (K := K) (a := r) (xs := xs) (fun i σ H' => ∃ v2 v3 : Option V, σ = [some (.ref r), some (.ref d), v2, v3] ∧ Same H1 H') ⟨_, _, rfl, Same.refl _⟩ (fun i σ H' _ z => by obtain ⟨_, _, _, s⟩ := z; exact SqL.of (s _ _ hx1)) ?_ ?_⟩
      · rintro i x σ Ha T Hb hxi ⟨v2, v3, rfl, sa⟩ nT sT eT
        obtain ⟨dd, b1, b2, _⟩ := body i x Hb hxi (sa.trans sT)
        refine ⟨T, _, rfl, .inl (.inl eT), rfl, _, _, rfl, _, _, rfl, rfl, ?_⟩
        refine ⟨_, rfl, _, rfl, _, rfl, r, _, rfl, .inl (SqL.of ((sa.trans sT) _ _ hx1)), ?_⟩
        rw [len]
        refine ⟨x, d, o, _, dd, rfl, b1, Rd.same (s1.trans (sa.trans sT)) hd, b2, fun Hc sc => ⟨_, rfl, ?_⟩⟩
        refine iteF ?_
        exact ⟨_, _, rfl, (sa.trans sT).trans sc⟩
      · rintro σ Hn ⟨v2, v3, rfl, sn⟩
        refine .inl ⟨_, rfl, r, rfl, ⟨_, SqL.of (sn _ _ hx1)⟩, fun D nD => lc_it (walk_list (xs := xs)) (fun kk Hx => Grown Hn D rs kk Hx) ⟨sameNew nD _, [], rfl, upd_same, fun j _ hj => absurd hj (Nat.not_lt_zero j)⟩ (fun kk Hx _ z => SqL.of (z.same _ _ (sn _ _ hx1))) (fun kk x Ha Hb hk z1 z2 => ?_) fun Hx z => fin Hn Hx D sn nD z⟩
        obtain ⟨rfl, hxk⟩ := z2
        obtain ⟨dd, b1, q⟩ := elem Hn _ D kk x sn nD hxk z1
        exact ⟨rfl, _, rfl, x, dd, rfl, b1, q⟩
    · refine .inr ⟨_, rfl, r, xs, rfl, .inl (.inl hx1), for_enumT (K := K) (a := r) (xs := xs) (fun i σ H' => ∃ v2 v3 : Option V, σ = [some (.ref r), some (.ref d), v2, v3] ∧ Same H1 H') ⟨_, _, rfl, Same.refl _⟩ (fun i σ H' _ z => by obtain ⟨_, _, _, s⟩ := z; exact .inl (.inl (s _ _ hx1))) ?_ ?_⟩
      · rintro i x σ Ha T Hb hxi ⟨v2, v3, rfl, sa⟩ nT sT eT
        obtain ⟨dd, b1, b2, _⟩ := body i x Hb hxi (sa.trans sT)
        refine ⟨T, _, rfl, .inl (.inl eT), rfl, _, _, rfl, _, _, rfl, rfl, ?_⟩
        refine ⟨_, rfl, _, rfl, _, rfl, r, _, rfl, .inr (.inl (.inl ((sa.trans sT) _ _ hx1))), ?_⟩
        rw [len]
        refine ⟨x, d, o, _, dd, rfl, b1, Rd.same (s1.trans (sa.trans sT)) hd, b2, fun Hc sc => ⟨_, rfl, ?_⟩⟩
        refine iteF ?_
        exact ⟨_, _, rfl, (sa.trans sT).trans sc⟩
      · rintro σ Hn ⟨v2, v3, rfl, sn⟩
        refine .inr ⟨_, rfl, r, rfl, ⟨_, .inl (.inl (sn _ _ hx1))⟩, fun D nD => lc_it (walk_tup (xs := xs)) (fun kk Hx => Grown Hn D rs kk Hx) ⟨sameNew nD _, [], rfl, upd_same, fun j _ hj => absurd hj (Nat.not_lt_zero j)⟩ (fun kk Hx _ z => .inl (.inl (z.same _ _ (sn _ _ hx1)))) (fun kk x Ha Hb hk z1 z2 => ?_) fun Hx z => fin Hn Hx D sn nD z⟩
        obtain ⟨rfl, hxk⟩ := z2
        obtain ⟨dd, b1, q⟩ := elem Hn _ D kk x sn nD hxk z1
        exact ⟨rfl, _, rfl, x, dd, rfl, b1, q⟩
end
end Mine

set_option maxRecDepth 100000
set_option maxHeartbeats 4000000
namespace Mine
open PySem L2
abbrev s_body : Stmt := inClass (top 34) 0
theorem MachFs.x {m : Addr} {H H' : Hp} {C dx : Addr} {fx : List (Str × V)} {fs : List (Str × V)} {t l : Addr} {b : Nat} {rs : List RowD} {sa aa ea : Addr} {as es : List Str} (x : SameX m H H') (hm : H m = some (.ins C dx fx)) (f : MachFs H fs t l b rs sa aa ea as es) : MachFs H' fs t l b rs sa aa ea as es :=
  ⟨f.counts, f.lines, f.begin, f.stops, f.asks, f.endings, f.endless, x.at hm f.hs (fun z => nomatch z), x.at hm f.ha (fun z => nomatch z), x.at hm f.he (fun z => nomatch z), f.fa, f.fe⟩
theorem MachFs.same {H H' : Hp} {fs : List (Str × V)} {t l : Addr} {b : Nat} {rs : List RowD} {sa aa ea : Addr} {as es : List Str} (s : Same H H') (f : MachFs H fs t l b rs sa aa ea as es) : MachFs H' fs t l b rs sa aa ea as es :=
  ⟨f.counts, f.lines, f.begin, f.stops, f.asks, f.endings, f.endless, s _ _ f.hs, s _ _ f.ha, s _ _ f.he, f.fa, f.fe⟩
/-- a body stands there -/
structure BodyP (CB CM : Addr) (H : Hp) (bd : Addr) (o : Ops) (rs : List RowD) (b : Nat) (m t l sa aa ea : Addr) (o' : Ops) (xs : List V) (as es : List Str) : Prop where
  hb : ∃ dx fb, H bd = some (.ins CB dx fb) ∧ fb.lookup ("machine" : Str) = some (.ref m)
  hm : ∃ dm fm, H m = some (.ins CM dm fm) ∧ MachFs H fm t l b rs sa aa ea as es
  ht : H t = some (.dK (opsK o'))
  ord : Ordered o o'
  hl : H l = some (.lst xs)
  rows : Rows H xs rs
  lt : b < rs.length
  own : ∃ dx, H bd = some (.ins CB dx [("machine", .ref m)])
def BodyAt (CB CM : Addr) (H : Hp) (bd : Addr) (o : Ops) (rs : List RowD) (b : Nat) : Prop := ∃ m t l sa aa ea o' xs as es, BodyP CB CM H bd o rs b m t l sa aa ea o' xs as es
/-- a new body: its parts are new, but for the rows' tuples -/
def BodyN (CB CM : Addr) (H0 H : Hp) (bd : Addr) (o : Ops) (rs : List RowD) (b : Nat) : Prop := ∃ m t l sa aa ea o' xs as es, BodyP CB CM H bd o rs b m t l sa aa ea o' xs as es ∧ H0 m = none ∧ H0 t = none ∧ H0 l = none ∧ H0 sa = none ∧ H0 aa = none ∧ H0 ea = none
theorem BodyN.at {CB CM : Addr} {H0 H : Hp} {bd : Addr} {o : Ops} {rs : List RowD} {b : Nat} (h : BodyN CB CM H0 H bd o rs b) : BodyAt CB CM H bd o rs b := by
  obtain ⟨m, t, l, sa, aa, ea, o', xs, as, es, h, _⟩ := h
  exact ⟨m, t, l, sa, aa, ea, o', xs, as, es, h⟩
/-- what is new, or a tuple, stays: then the body stays -/
theorem BodyN.off {CB CM : Addr} {H0 H H' : Hp} {bd : Addr} {o : Ops} {rs : List RowD} {b : Nat} (h : BodyN CB CM H0 H bd o rs b) (nb : H0 bd = none) (k : ∀ a u, H a = some u → (H0 a = none ∨ ∃ zs, u = .tup zs) → H' a = some u) : BodyAt CB CM H' bd o rs b := by
  obtain ⟨m, t, l, sa, aa, ea, o', xs, as, es, ⟨⟨dx, fb, h1, h2⟩, ⟨dm, fm, h3, h4⟩, h5, h6, h7, h8, h9, dw, hw⟩, n1, n2, n3, n4, n5, n6⟩ := h
  have ku : ∀ {q : Addr} {us : List V}, H q = some (.tup us) → H' q = some (.tup us) := fun e => k _ _ e (.inr ⟨_, rfl⟩)
  refine ⟨m, t, l, sa, aa, ea, o', xs, as, es, ⟨dx, fb, k _ _ h1 (.inl nb), h2⟩, ⟨dm, fm, k _ _ h3 (.inl n1), ⟨h4.counts, h4.lines, h4.begin, h4.stops, h4.asks, h4.endings, h4.endless, k _ _ h4.hs (.inl n4), k _ _ h4.ha (.inl n5), k _ _ h4.he (.inl n6), h4.fa, h4.fe⟩⟩, k _ _ h5 (.inl n2), h6, k _ _ h7 (.inl n3), ⟨h8.1, fun i d e => ?_⟩, h9, dw, k _ _ hw (.inl nb)⟩
  obtain ⟨x, x1, x2⟩ := h8.2 i d e
  refine ⟨x, x1, ?_⟩
  cases d with
  | ask op ns =>
    obtain ⟨q, t', e1, k1, k2⟩ := x2
    exact ⟨q, t', e1, ku k1, ku k2⟩
  | go n =>
    obtain ⟨q, e1, k1⟩ := x2
    exact ⟨q, e1, ku k1⟩
  | fin n =>
    obtain ⟨q, e1, k1⟩ := x2
    exact ⟨q, e1, ku k1⟩
theorem BodyP.same {CB CM : Addr} {H H' : Hp} {bd : Addr} {o : Ops} {rs : List RowD} {b : Nat} {m t l sa aa ea : Addr} {o' : Ops} {xs : List V} {as es : List Str} (s : Same H H') (h : BodyP CB CM H bd o rs b m t l sa aa ea o' xs as es) : BodyP CB CM H' bd o rs b m t l sa aa ea o' xs as es := by
  obtain ⟨⟨dx, fb, h1, h2⟩, ⟨dm, fm, h3, h4⟩, h5, h6, h7, h8, h9, dw, hw⟩ := h
  exact ⟨⟨dx, fb, s _ _ h1, h2⟩, ⟨dm, fm, s _ _ h3, h4.same s⟩, s _ _ h5, h6, s _ _ h7, h8.same s, h9, dw, s _ _ hw⟩
theorem BodyAt.same {CB CM : Addr} {H H' : Hp} {bd : Addr} {o : Ops} {rs : List RowD} {b : Nat} (s : Same H H') (h : BodyAt CB CM H bd o rs b) : BodyAt CB CM H' bd o rs b := by
  obtain ⟨m, t, l, sa, aa, ea, o', xs, as, es, h⟩ := h
  exact ⟨m, t, l, sa, aa, ea, o', xs, as, es, h.same s⟩
theorem RowsIn.same {H H' : Hp} {xs : List V} {rs : List RowD} (s : Same H H') (h : RowsIn H xs rs) : RowsIn H' xs rs := ⟨h.1, fun i d e => by
  obtain ⟨x, h1, h2⟩ := h.2 i d e
  exact ⟨x, h1, h2.same s⟩⟩
def spBody (CB CM : Addr) : Sp := fun vs H Q _ => ∃ (bd d r dx : Addr) (xs : List V) (rs : List RowD) (o : Ops) (b : Nat), vs = [.ref bd, .ref d, .ref r, .int b] ∧ H bd = some (.ins CB dx []) ∧ H d = some (.dK (opsK o)) ∧ OkOps o ∧ SqA H r xs ∧ RowsIn H xs rs ∧ 1 ≤ rs.length ∧ rs.length ≤ 400 ∧ OkRows o rs ∧ b < rs.length ∧
  (distinct "ask" (restD rs b)).length < 64 ∧ (distinct "end" (restD rs b)).length < 64 ∧ ∀ H', SameX bd H H' → BodyN CB CM H H' bd o rs b → Q .non H'
structure BodyC (K : PySem.W.Frag) (C : Addr) : Prop where
  cl : Cls K C
  n_machine : NoAttr K C "machine"
section
variable {P : Program} {w : World} {K : PySem.W.Frag} {mg : Str → Option Value} {base : Heap}
variable {fII fIW a_is_row a_is_index a_is_name a_is_text_in a_are_counts a_word_of a_are_nexts a_is_line a_line_of a_are_operations a_lines_read a_in_order f_mach CB CM : Addr}
theorem sc_body : FnScope ["self", "operations", "rows", "start", "lines"] ["self", "operations", "rows", "start"] (defScope s_body) := ⟨rfl, rfl, rfl, by decide +kernel, rfl, by decide +kernel, by decide +kernel⟩
theorem ok_body {f : Addr} {fd fd_are_operations fd_lines_read fd_is_index fd_in_order fd_mach : FuncData} (F : Fun K "__init__" "Body.__init__" s_body f fd) (T : TxtF K mg fII fIW) (TG : TxtG K mg a_is_row a_is_index a_is_name a_is_text_in a_are_counts a_word_of a_are_nexts a_is_line a_line_of a_are_operations) (TB : BodyC K CB)
    (GO : FnOk P w K mg base CX0 4 a_are_operations fd_are_operations ["thing"] spOps) (b_are_operations : Binds K fd_are_operations ["thing"] [])
    (GLR : FnOk P w K mg base CX0 6 a_lines_read fd_lines_read ["rows", "counts"] spRead) (b_lines_read : Binds K fd_lines_read ["rows", "counts"] []) (g_lines_read : mg "lines_read" = some (.ref a_lines_read)) (k_lines_read : PySem.W.keepIn K (.ref a_lines_read) = true)
    (GIx : FnOk P w K mg base CX0 3 a_is_index fd_is_index ["thing", "many"] (spIndex K)) (b_is_index : Binds K fd_is_index ["thing", "many"] [])
    (GIO : FnOk P w K mg base CX0 1 a_in_order fd_in_order ["table"] spOrder) (b_in_order : Binds K fd_in_order ["table"] []) (g_in_order : mg "in_order" = some (.ref a_in_order)) (k_in_order : PySem.W.keepIn K (.ref a_in_order) = true)
    (MM : Mk K CM f_mach) (GM : FnOk P w K mg base CX0 3 f_mach fd_mach ["self", "counts", "lines", "begin"] (spMach CM)) (b_Machine : Binds K fd_mach ["self", "counts", "lines", "begin"] []) (g_Machine : mg "Machine" = some (.ref CM)) : FnOk P w K mg base CX0 7 f fd ["self", "operations", "rows", "start"] (spBody CB CM) := by
  refine F.ok sc_body (fun vs H Q E h => ?_) (fun cdv A outer s H vs Q E hr h => ?_)
  · obtain ⟨bd, d, r, dx, xs, rs, o, b, rfl, _⟩ := h
    rfl
  · obtain ⟨bd, d, r, dx, xs, rs, o, b, rfl, hbd, hd, oko, hx, rows, lo, hi, ok, hb, few1, few2, k⟩ := h
    refine ⟨_, (pss_cons (ps_if (pt_not (pt_val (pe_call GO (hr.mono (by decide)) (by rfl) TG.g_are_operations TG.k_are_operations b_are_operations .nil pass0 (pa_cons (pv 1) pa_nil)))) (pss_one ps_no) pss_nil)
      (pss_cons (ps_set (i := 4) sc_body.nd rfl (Or.inl rfl) (pe_call GLR (hr.mono (by decide)) (by rfl) g_lines_read k_lines_read b_lines_read .nil pass0 (pa_cons (pv 2) (pa_cons (pv 1) pa_nil))))
      (pss_cons (ps_if (pt_not (pt_val (pe_call GIx (hr.mono (by decide)) (by rfl) TG.g_is_index TG.k_is_index b_is_index .nil pass0 (pa_cons (pv 3) (pa_cons (pe_callB call_len_seq (by rfl) T.b_len PySem.boot_len (pa_cons (pv 4) pa_nil)) pa_nil))))) (pss_one ps_no) pss_nil)
      (pss_one (ps_fld (pv 0) (pe_make MM GM (hr.mono (by decide)) (by rfl) g_Machine b_Machine .nil pass0 (pa_cons (pe_call GIO (hr.mono (by decide)) (by rfl) g_in_order k_in_order b_in_order .nil pass0 (pa_cons (pv 1) pa_nil)) (pa_cons (pv 4) (pa_cons (pv 3) pa_nil)))) rfl))))), ?_⟩
    refine ⟨_, rfl, d, o, rfl, hd, oko, fun H1 s1 => ⟨_, rfl, ?_⟩⟩
    refine iteF ?_
    refine ⟨_, rfl, _, rfl, r, d, xs, rs, o, rfl, s1.sqa hx, rows.same s1, .inl (s1 _ _ hd), lo, hi, ok, fun l ys H2 n2 s2 e2 rr => ?_⟩
    refine ⟨_, rfl, _, rfl, l, _, rfl, .inl (SqL.of e2), .int b, "int", _, rfl, btInt _, _, rfl, ?_⟩
    rw [inW_int (show (0 : Int) ≤ b by omega) (by rw [rr.1]; omega)]
    refine iteF ?_
    refine ⟨_, rfl, d, o, rfl, .inl (s2 _ _ (s1 _ _ hd)), oko.nd, by have := oko.few; omega, fun o' ord t H3 n3 s3 e3 => ?_⟩
    refine ⟨_, rfl, _, rfl, fun m dm nm ndm ne => ?_⟩
    have sm : Same H3 (upd (upd H3 dm (.own m)) m (.ins CM dm [])) := same_updN (same_updN (Same.refl _) ndm) nm
    refine ⟨m, t, l, dm, ys, rs, b, rfl, upd_same, sm _ _ (s3 _ _ e2), rr.same (s3.trans sm), ok.fit, hb, by omega, few1, few2, fun fs H5 sa aa ea as es nsa naa nea x5 m5 mf => ⟨rfl, ?_⟩⟩
    have hbd3 : H3 bd = some (.ins CB dx []) := s3 _ _ (s2 _ _ (s1 _ _ hbd))
    have nbm : bd ≠ m := ne_of_none hbd3 nm
    have hbd5 : H5 bd = some (.ins CB dx []) := x5 bd _ nbm (sm _ _ hbd3)
    refine ⟨_, rfl, bd, CB, dx, _, rfl, hbd5, TB.cl, TB.n_machine, by decide, ?_⟩
    have x6 : SameX bd H5 (upd H5 bd (.ins CB dx (putF "machine" (.ref m) []))) := SameX.upd fun _ _ _ e => e
    have up : ∀ {b2 : Addr} {u : HO}, b2 ≠ bd → H b2 = some u → upd H5 bd (.ins CB dx (putF "machine" (.ref m) [])) b2 = some u := fun {b2 u} nb e => by
      have e3' : H3 b2 = some u := s3 _ _ (s2 _ _ (s1 _ _ e))
      exact x6 b2 u nb (x5 b2 u (ne_of_none e3' nm) (sm _ _ e3'))
    have up3 : ∀ {b2 : Addr} {u : HO}, H3 b2 = some u → b2 ≠ bd → upd H5 bd (.ins CB dx (putF "machine" (.ref m) [])) b2 = some u := fun {b2 u} e nb => x6 b2 u nb (x5 b2 u (ne_of_none e nm) (sm _ _ e))
    have rows6 : Rows (upd H5 bd (.ins CB dx (putF "machine" (.ref m) []))) ys rs := SameX.rows x6 hbd5 (SameX.rows x5 upd_same (rr.same (s3.trans sm)))
    have s12 : Same H H2 := s1.trans s2
    have s13 : Same H H3 := s12.trans s3
    refine k _ (fun b2 u nb e => up nb e) ⟨m, t, l, sa, aa, ea, o', ys, as, es, ⟨⟨dx, _, upd_same, by rw [lookup_putF, if_pos rfl]⟩, ⟨dm, fs, x6 m _ (Ne.symm nbm) m5, mf.x x6 hbd5⟩, up3 e3 (fun z => by rw [z, hbd3] at e3; cases e3), ord, up3 (s3 _ _ e2) (fun z => by rw [z] at e2; rw [s2 _ _ (s1 _ _ hbd)] at e2; cases e2), rows6, hb, dx, upd_same⟩, none_of s13 nm, none_of s12 n3, none_of s1 n2, none_of s13 (none_of sm nsa), none_of s13 (none_of sm naa), none_of s13 (none_of sm nea)⟩
end
end Mine

set_option maxRecDepth 100000
set_option maxHeartbeats 4000000
/-! == of two dicts whose values are whole numbers, equal or not -/
namespace L2
open PySem PySem.Spec PyProof.Rows
def hitB (ls : List (Key × V)) : List (Key × V) → Bool
  | [] => true
  | p :: r => match valV ls p.1 with
    | none => false
    | some y => decide (p.2 = y) && hitB ls r
def IntsD (ks : List (Key × V)) : Prop := ∀ p ∈ ks, ∃ i : Int, p.2 = .int i
theorem IntsD.val {ls : List (Key × V)} (h : IntsD ls) {k : Key} {y : V} (e : valV ls k = some y) : ∃ i : Int, y = .int i := by
  unfold valV at e
  cases q : ls.find? fun kv => decide (kv.1 = k) with
  | none => rw [q] at e; cases e
  | some p =>
    rw [q] at e
    have e2 : p.2 = y := Option.some.inj e
    rw [← e2]
    exact h p (List.mem_of_find?_eq_some q)
theorem hits_ints {A : Around} {s : Shared} {ls : List (Key × V)} {vb : List (Key × Value)} (rb : KV ls vb) (il : IntsD ls) {ks : List (Key × V)} {va : List (Key × Value)} (ra : KV ks va) :
    IntsD ks → PySem.W.KeqHits A s vb va (hitB ls ks) := by
  unfold KV at ra
  induction ra with
  | nil => intro _; exact .nil
  | @cons p q ps qs h t ih =>
    intro hp
    obtain ⟨h1, h2⟩ := h
    obtain ⟨k, v⟩ := q
    have h1' : p.1 = k := h1
    have rr := rb.val p.1
    obtain ⟨i, ei⟩ := hp p List.mem_cons_self
    cases e : valV ls p.1 with
    | none =>
      rw [e] at rr
      have hn := RelO.none_of rr
      rw [h1'] at hn
      have z : hitB ls (p :: ps) = false := by
        unfold hitB
        rw [e]
      rw [z]
      exact .miss hn
    | some y =>
      rw [e] at rr
      obtain ⟨y', hy, ry⟩ := rr.some_of
      rw [h1'] at hy
      obtain ⟨j, ej⟩ := il.val e
      have z : hitB ls (p :: ps) = (decide (p.2 = y) && hitB ls ps) := by
        conv => lhs; unfold hitB
        rw [e]
      rw [z]
      refine .hit hy ?_ (ih fun p' hm => hp p' (List.mem_cons_of_mem _ hm))
      subst ej
      rw [ei] at h2 ⊢
      obtain ⟨t1, rfl⟩ := (show ∃ t, v = Value.int i t from h2)
      obtain ⟨t2, rfl⟩ := (show ∃ t, y' = Value.int j t from ry)
      rw [dec_int]
      exact SeqAt.EqAt.int_int i t1 j t2
section
variable {X : Cx}
def rEqDI : R2 := fun x y H Q => ∃ a b ks ls, x = .ref a ∧ y = .ref b ∧ H a = some (.dK ks) ∧ H b = some (.dK ls) ∧ IntsD ks ∧ IntsD ls ∧ Q (.bl (ks.length == ls.length && hitB ls ks)) H
def rNeDI : R2 := fun x y H Q => ∃ a b ks ls, x = .ref a ∧ y = .ref b ∧ H a = some (.dK ks) ∧ H b = some (.dK ls) ∧ IntsD ks ∧ IntsD ls ∧ Q (.bl (!(ks.length == ls.length && hitB ls ks))) H
theorem op_eq_dictI (hu : X.A.units < cLine) : OpR X (compareOp .Eq) rEqDI := by
  intro pins s σ H x y v u Q I rx ry h
  obtain ⟨a, b, ks, ls, rfl, rfl, ea, eb, ia, ib, q⟩ := h
  obtain rfl : v = Value.ref a := rx
  obtain rfl : u = Value.ref b := ry
  obtain ⟨_, ya, va, ra, da⟩ := (show ObjOk X.prog X.w H s.heap a (.dK ks) from I.hok a _ ea)
  obtain ⟨_, yb, vb, rb, db⟩ := (show ObjOk X.prog X.w H s.heap b (.dK ls) from I.hok b _ eb)
  exact PySem.W.keq_eq (knd := mixKind X.prog X.w) ya yb da db hu (fun _ => hits_ints rb ib ra ia) (fin_bl I q (by rw [ra.length, rb.length]))
theorem op_ne_dictI (hu : X.A.units < cLine) : OpR X (compareOp .NotEq) rNeDI := by
  intro pins s σ H x y v u Q I rx ry h
  obtain ⟨a, b, ks, ls, rfl, rfl, ea, eb, ia, ib, q⟩ := h
  obtain rfl : v = Value.ref a := rx
  obtain rfl : u = Value.ref b := ry
  obtain ⟨_, ya, va, ra, da⟩ := (show ObjOk X.prog X.w H s.heap a (.dK ks) from I.hok a _ ea)
  obtain ⟨_, yb, vb, rb, db⟩ := (show ObjOk X.prog X.w H s.heap b (.dK ls) from I.hok b _ eb)
  exact PySem.W.keq_ne (knd := mixKind X.prog X.w) ya yb da db hu (fun _ => hits_ints rb ib ra ia) (fin_bl I q (by rw [ra.length, rb.length]))
end
end L2

set_option maxRecDepth 100000
set_option maxHeartbeats 4000000
namespace Mine
open PySem L2
/-! rows as data -/
def rowP : RowD → PyData
  | .ask op ns => .tuple [.str "ask", .str op, .tuple (ns.map PyData.int)]
  | .go n => .tuple [.str "go", .int n]
  | .fin w => .tuple [.str "end", .str w]
def rowStr : RowD → Str
  | .ask op _ => op
  | .go _ => "go"
  | .fin w => w
theorem ints_all {K : PySem.W.Frag} {H : Hp} : ∀ ns : List Int, DpAll K H (ns.map V.int) (ns.map PyData.int)
  | [] => .nil
  | n :: ns => .cons (.int n) (ints_all ns)
theorem TRow.dp {K : PySem.W.Frag} {H : Hp} {v : V} {d : RowD} (h : TRow H v d) : Dp K H v (rowP d) := by
  cases d with
  | ask op ns =>
    obtain ⟨a, t, rfl, h1, h2⟩ := h
    exact .tup (.inl (.inl h1)) (.cons (.str _) (.cons (.str _) (.cons (.tup (.inl (.inl h2)) (ints_all ns)) .nil)))
  | go n =>
    obtain ⟨a, rfl, h1⟩ := h
    exact .tup (.inl (.inl h1)) (.cons (.str _) (.cons (.int _) .nil))
  | fin w =>
    obtain ⟨a, rfl, h1⟩ := h
    exact .tup (.inl (.inl h1)) (.cons (.str _) (.cons (.str _) .nil))
theorem dpAll_of {K : PySem.W.Frag} {H : Hp} : ∀ {xs : List V} {rs : List RowD}, xs.length = rs.length → (∀ (i : Nat) (d : RowD), rs[i]? = some d → ∃ x, xs[i]? = some x ∧ TRow H x d) → DpAll K H xs (rs.map rowP)
  | [], [], _, _ => .nil
  | x :: xs, d :: rs, l, h => by
    obtain ⟨y, h1, h2⟩ := h 0 d rfl
    have e : x = y := Option.some.inj h1
    subst e
    exact .cons h2.dp (dpAll_of (by simpa using l) fun i d' e => by simpa using h (i + 1) d' (by simpa using e))
  | [], _ :: _, l, _ => by simp at l
  | _ :: _, [], l, _ => by simp at l
theorem Rows.dp {K : PySem.W.Frag} {H : Hp} {xs : List V} {rs : List RowD} {l : Addr} (h : Rows H xs rs) (e : H l = some (.lst xs)) : Dp K H (.ref l) (.list (rs.map rowP)) := .lst (SqL.of e) (dpAll_of h.1 h.2)
theorem ints_lay : ∀ ns : List Int, PyData.canLayAll0 (ns.map PyData.int) = true
  | [] => by simp [PyData.canLayAll0]
  | n :: ns => by simp [PyData.canLayAll0, PyData.canLay0, ints_lay ns]
theorem ints_dep : ∀ ns : List Int, PyData.depthAll (ns.map PyData.int) = 0
  | [] => by simp [PyData.depthAll]
  | n :: ns => by simp [PyData.depthAll, PyData.depth, ints_dep ns]
theorem row_lay {d : RowD} (h : PyData.strOk (rowStr d) = true) : (rowP d).canLay0 = true := by
  have a1 : PyData.strOk ("ask" : Str) = true := strOk_of "ask"
  have a2 : PyData.strOk ("go" : Str) = true := strOk_of "go"
  have a3 : PyData.strOk ("end" : Str) = true := strOk_of "end"
  cases d with
  | ask op ns =>
    have h' : PyData.strOk op = true := h
    simp [rowP, PyData.canLay0, PyData.canLayAll0, a1, h', ints_lay ns]
  | go n => simp [rowP, PyData.canLay0, PyData.canLayAll0, a2]
  | fin w =>
    have h' : PyData.strOk w = true := h
    simp [rowP, PyData.canLay0, PyData.canLayAll0, a3, h']
theorem row_dep (d : RowD) : (rowP d).depth ≤ 2 := by
  cases d with
  | ask op ns =>
    have := ints_dep ns
    simp [rowP, PyData.depth, PyData.depthAll, this]
  | go n => simp [rowP, PyData.depth, PyData.depthAll]
  | fin w => simp [rowP, PyData.depth, PyData.depthAll]
def StrsOk (rs : List RowD) : Prop := ∀ d ∈ rs, PyData.strOk (rowStr d) = true
theorem rows_lay : ∀ {rs : List RowD}, StrsOk rs → PyData.canLayAll0 (rs.map rowP) = true
  | [], _ => by simp [PyData.canLayAll0]
  | d :: rs, h => by
    have h1 := row_lay (h d List.mem_cons_self)
    have h2 := rows_lay (rs := rs) fun x hx => h x (List.mem_cons_of_mem _ hx)
    simp [PyData.canLayAll0, h1, h2]
theorem rows_dep : ∀ rs : List RowD, PyData.depthAll (rs.map rowP) ≤ 2
  | [] => by simp [PyData.depthAll]
  | d :: rs => by
    have h1 := row_dep d
    have h2 := rows_dep rs
    simp only [List.map_cons, PyData.depthAll]
    omega
theorem rows_shaped {rs : List RowD} (h : StrsOk rs) : SeqAt.shaped (.list (rs.map rowP)) = true := by
  have h1 := rows_dep rs
  have h2 : PyData.depth (.list (rs.map rowP)) ≤ 64 := by
    simp only [PyData.depth]
    omega
  show (PyData.canLay0 (.list (rs.map rowP)) && decide (PyData.depth (.list (rs.map rowP)) ≤ 64)) = true
  rw [Bool.and_eq_true]
  exact ⟨by simp only [PyData.canLay0]; exact rows_lay h, decide_eq_true h2⟩
theorem ints_eqv : ∀ ns ms : List Int, (PyData.eqvAll (ns.map PyData.int) (ms.map PyData.int) = true) ↔ ns = ms
  | [], [] => by simp [PyData.eqvAll]
  | [], _ :: _ => by simp [PyData.eqvAll]
  | _ :: _, [] => by simp [PyData.eqvAll]
  | n :: ns, m :: ms => by
    have ih := ints_eqv ns ms
    simp [PyData.eqvAll, PyData.eqv, ih]
theorem row_eqv (d e : RowD) : (PyData.eqv (rowP d) (rowP e) = true) ↔ d = e := by
  have n1 : (("ask" : Str) == ("go" : Str)) = false := by decide +kernel
  have n2 : (("ask" : Str) == ("end" : Str)) = false := by decide +kernel
  have n3 : (("go" : Str) == ("ask" : Str)) = false := by decide +kernel
  have n4 : (("go" : Str) == ("end" : Str)) = false := by decide +kernel
  have n5 : (("end" : Str) == ("ask" : Str)) = false := by decide +kernel
  have n6 : (("end" : Str) == ("go" : Str)) = false := by decide +kernel
  cases d with
  | ask op ns => cases e with
    | ask op2 ms =>
      have := ints_eqv ns ms
      simp [rowP, PyData.eqv, PyData.eqvAll, this]
    | go n => simp [rowP, PyData.eqv, PyData.eqvAll, n1]
    | fin w => simp [rowP, PyData.eqv, PyData.eqvAll, n2]
  | go n => cases e with
    | ask op2 ms => simp [rowP, PyData.eqv, PyData.eqvAll, n3]
    | go m => simp [rowP, PyData.eqv, PyData.eqvAll]
    | fin w => simp [rowP, PyData.eqv, PyData.eqvAll, n4]
  | fin w => cases e with
    | ask op2 ms => simp [rowP, PyData.eqv, PyData.eqvAll, n5]
    | go m => simp [rowP, PyData.eqv, PyData.eqvAll, n6]
    | fin w2 => simp [rowP, PyData.eqv, PyData.eqvAll]
theorem rows_eqv : ∀ rs qs : List RowD, (PyData.eqv (.list (rs.map rowP)) (.list (qs.map rowP)) = true) ↔ rs = qs
  | [], [] => by simp [PyData.eqv, PyData.eqvAll]
  | [], _ :: _ => by simp [PyData.eqv, PyData.eqvAll]
  | _ :: _, [] => by simp [PyData.eqv, PyData.eqvAll]
  | d :: rs, e :: qs => by
    have ih := rows_eqv rs qs
    have h := row_eqv d e
    simp only [PyData.eqv] at ih
    simp only [List.map_cons, PyData.eqv, PyData.eqvAll, Bool.and_eq_true, List.cons.injEq]
    rw [h, ih]
end Mine

set_option maxRecDepth 100000
set_option maxHeartbeats 4000000
namespace Mine
open PySem L2
abbrev s_are_equal : Stmt := top 26
abbrev s_b_eq : Stmt := inClass (top 34) 12
def MachP (CM : Addr) (H : Hp) (m : Addr) (o : Ops) (rs : List RowD) (b : Nat) : Prop := ∃ dm fm t l sa aa ea xs as es, H m = some (.ins CM dm fm) ∧ MachFs H fm t l b rs sa aa ea as es ∧ H t = some (.dK (opsK o)) ∧ H l = some (.lst xs) ∧ Rows H xs rs
def eqO (o p : Ops) : Bool := (opsK o).length == (opsK p).length && hitB (opsK p) (opsK o)
def eqM (o1 : Ops) (r1 : List RowD) (b1 : Nat) (o2 : Ops) (r2 : List RowD) (b2 : Nat) : Bool := if eqO o1 o2 = true then (if PyData.eqv (.list (r1.map rowP)) (.list (r2.map rowP)) = true then decide (V.int (b1 : Int) = V.int (b2 : Int)) else false) else false
theorem opsK_ints (o : Ops) : IntsD (opsK o) := fun p hp => by
  unfold opsK at hp
  obtain ⟨q, _, rfl⟩ := List.mem_map.mp hp
  exact ⟨q.2, rfl⟩
def spAreEq (CM : Addr) : Sp := fun vs H Q _ => ∃ (m1 m2 : Addr) (o1 o2 : Ops) (r1 r2 : List RowD) (b1 b2 : Nat), vs = [.ref m1, .ref m2] ∧ MachP CM H m1 o1 r1 b1 ∧ MachP CM H m2 o2 r2 b2 ∧ StrsOk r1 ∧ StrsOk r2 ∧ Q (.bl (eqM o1 r1 b1 o2 r2 b2)) H
section
variable {P : Program} {w : World} {K : PySem.W.Frag} {mg : Str → Option Value} {base : Heap}
variable {fII fIW CB CM a_are_equal : Addr}
theorem sc_are_equal : FnScope ["one", "other"] ["one", "other"] (defScope s_are_equal) := ⟨rfl, rfl, rfl, by decide +kernel, rfl, by decide +kernel, by decide +kernel⟩
theorem ok_are_equal {f : Addr} {fd : FuncData} (F : Fun K "are_equal" "are_equal" s_are_equal f fd) (TM : MachC K CM) : FnOk P w K mg base CX0 1 f fd ["one", "other"] (spAreEq CM) := by
  refine F.ok sc_are_equal (fun vs H Q E h => ?_) (fun cdv A outer s H vs Q E hr h => ?_)
  · obtain ⟨m1, m2, o1, o2, r1, r2, b1, b2, rfl, _⟩ := h
    rfl
  · obtain ⟨m1, m2, o1, o2, r1, r2, b1, b2, rfl, ⟨dm, fm, t, l, sa, aa, ea, xs, as, es, h1, h2, h3, h4, h5⟩, ⟨dm', fm', t', l', sa', aa', ea', xs', as', es', h1', h2', h3', h4', h5'⟩, k1, k2, k⟩ := h
    refine ⟨_, (pss_one (ps_ret (pe_and (pe_cmpR (op_eq_dictI hr.units0) (pe_fld (pv 0) rfl) (pe_fld (pv 1) rfl) (nomark _)) (pe_and (pe_cmpR (op_eqD hr.units) (pe_fld (pv 0) rfl) (pe_fld (pv 1) rfl) (nomark _)) (pe_one (pe_cmpR op_eq (pe_fld (pv 0) rfl) (pe_fld (pv 1) rfl) (nomark _))))))), ?_⟩
    refine ⟨_, rfl, m1, CM, dm, fm, _, rfl, h1, TM.cl, TM.n_counts, h2.counts, _, rfl, m2, CM, dm', fm', _, rfl, h1', TM.cl, TM.n_counts, h2'.counts, t, t', _, _, rfl, rfl, h3, h3', opsK_ints _, opsK_ints _, _, rfl, ?_⟩
    show if eqO o1 o2 = true then _ else _
    refine ite2 (fun e1 => ?_) (fun e1 => ?_)
    · refine ⟨_, rfl, m1, CM, dm, fm, _, rfl, h1, TM.cl, TM.n_lines, h2.lines, _, rfl, m2, CM, dm', fm', _, rfl, h1', TM.cl, TM.n_lines, h2'.lines, _, _, h5.dp h4, h5'.dp h4', rows_shaped k1, rows_shaped k2, _, rfl, ?_⟩
      refine ite2 (fun e2 => ?_) (fun e2 => ?_)
      · refine ⟨_, rfl, m1, CM, dm, fm, _, rfl, h1, TM.cl, TM.n_begin, h2.begin, _, rfl, m2, CM, dm', fm', _, rfl, h1', TM.cl, TM.n_begin, h2'.begin, rfl, ?_⟩
        unfold eqM at k
        rw [if_pos e1, if_pos e2] at k
        exact k
      · unfold eqM at k
        rw [if_pos e1, if_neg e2] at k
        exact k
    · unfold eqM at k
      rw [if_neg e1] at k
      exact k
/-- what is told of the class, for isinstance -/
structure BodyI (K : PySem.W.Frag) (C : Addr) : Prop where
  ha : PySem.W.findIn K (.ref C) "__class__" = some (some (.builtin "object.__class__"))
  hn : PySem.W.specialIn K (.builtin "object.__class__") "__get__" = some (some (.builtin "getset_descriptor.__get__"))
  ht : PySem.W.takesIn K (.builtin "object.__class__") = some true
  hm : PySem.W.mroIn K C (.type "object") = some true
  kit : PySem.W.kitOne K (.ref C) (.ref C) = some true
/-- a body compared: with a body, or with a thing that is none -/
def spBEq (K : PySem.W.Frag) (CB CM : Addr) : Sp := fun vs H Q _ => ∃ (bd : Addr) (o : Ops) (rs : List RowD) (b : Nat) (y : V) (m t l sa aa ea : Addr) (o' : Ops) (xs : List V) (as es : List Str), vs = [.ref bd, y] ∧ BodyP CB CM H bd o rs b m t l sa aa ea o' xs as es ∧
  ((∃ (bd2 : Addr) (o2 : Ops) (rs2 : List RowD) (b2 : Nat) (m2 t2 l2 sa2 aa2 ea2 : Addr) (o2' : Ops) (xs2 : List V) (as2 es2 : List Str), y = .ref bd2 ∧ BodyP CB CM H bd2 o2 rs2 b2 m2 t2 l2 sa2 aa2 ea2 o2' xs2 as2 es2 ∧ StrsOk rs ∧ StrsOk rs2 ∧ Q (.bl (eqM o' rs b o2' rs2 b2)) H) ∨
   ∃ ty, TyX K H y ty ∧ PySem.W.kitOne K ty (.ref CB) = some false ∧ Q (.bl false) H)
theorem sc_b_eq : FnScope ["self", "other"] ["self", "other"] (defScope s_b_eq) := ⟨rfl, rfl, rfl, by decide +kernel, rfl, by decide +kernel, by decide +kernel⟩
theorem ok_b_eq {f : Addr} {fd fd_ae : FuncData} (F : Fun K "__eq__" "Body.__eq__" s_b_eq f fd) (T : TxtF K mg fII fIW) (TB : BodyC K CB) (TI : BodyI K CB) (TM : MachC K CM) (g_Body : mg "Body" = some (.ref CB))
    (GE : FnOk P w K mg base CX0 1 a_are_equal fd_ae ["one", "other"] (spAreEq CM)) (b_are_equal : Binds K fd_ae ["one", "other"] []) (g_are_equal : mg "are_equal" = some (.ref a_are_equal)) (k_are_equal : PySem.W.keepIn K (.ref a_are_equal) = true) : FnOk P w K mg base CX0 2 f fd ["self", "other"] (spBEq K CB CM) := by
  refine F.ok sc_b_eq (fun vs H Q E h => ?_) (fun cdv A outer s H vs Q E hr h => ?_)
  · obtain ⟨bd, o, rs, b, y, m, t, l, sa, aa, ea, o', xs, as, es, rfl, _⟩ := h
    rfl
  · obtain ⟨bd, o, rs, b, y, m, t, l, sa, aa, ea, o', xs, as, es, rfl, h, k⟩ := h
    refine ⟨_, (pss_one (ps_ret (pe_and (pe_callB call_isi (by rfl) T.b_isinstance (by decide +kernel) (pa_cons (pv 1) (pa_cons (pe_glob (v := .ref CB) rfl g_Body rfl) pa_nil))) (pe_one (pe_call GE (hr.mono (by decide)) (by rfl) g_are_equal k_are_equal b_are_equal .nil pass0 (pa_cons (pe_fld (pv 0) rfl) (pa_cons (pe_fld (pv 1) rfl) pa_nil))))))), ?_⟩
    obtain ⟨dx, fb, h1, h2⟩ := h.hb
    obtain ⟨dm, fm, h3, mf⟩ := h.hm
    rcases k with ⟨bd2, o2, rs2, b2, m2, t2, l2, sa2, aa2, ea2, o2', xs2, as2, es2, rfl, g, k1, k2, k⟩ | ⟨ty, tx, kt, k⟩
    · obtain ⟨dx2, fb2, g1, g2⟩ := g.hb
      obtain ⟨dm2, fm2, g3, mf2⟩ := g.hm
      refine ⟨_, rfl, _, _, _, _, _, rfl, .own CB, .base (.ins g1 TB.cl TI.ha TI.hn TI.ht TI.hm), TI.kit, _, rfl, ?_⟩
      refine iteT ?_
      exact ⟨_, rfl, bd, CB, dx, fb, _, rfl, h1, TB.cl, TB.n_machine, h2, _, rfl, bd2, CB, dx2, fb2, _, rfl, g1, TB.cl, TB.n_machine, g2, m, m2, o', o2', rs, rs2, b, b2, rfl, ⟨dm, fm, t, l, sa, aa, ea, xs, as, es, h3, mf, h.ht, h.hl, h.rows⟩, ⟨dm2, fm2, t2, l2, sa2, aa2, ea2, xs2, as2, es2, g3, mf2, g.ht, g.hl, g.rows⟩, k1, k2, k⟩
    · refine ⟨_, rfl, _, _, _, _, _, rfl, .own CB, tx, kt, _, rfl, ?_⟩
      exact iteF k
end
end Mine

set_option maxRecDepth 100000
set_option maxHeartbeats 4000000
namespace Mine
open PySem L2
theorem hit_ops (p : Ops) : ∀ o : Ops, (hitB (opsK p) (opsK o) = true) ↔ ∀ q ∈ o, opLook p q.1 = some q.2
  | [] => by simp [opsK, hitB]
  | q :: o => by
    have ih := hit_ops p o
    have e : opsK (q :: o) = (Sum.inr q.1, V.int q.2) :: opsK o := rfl
    rw [e]
    unfold hitB
    have v : valV (opsK p) (Sum.inr q.1 : Key) = (opLook p q.1).map V.int := val_ops p q.1
    cases h : opLook p q.1 with
    | none =>
      rw [h] at v
      rw [show valV (opsK p) ((Sum.inr q.1, V.int q.2) : Key × V).1 = none from v]
      constructor
      · intro z
        cases z
      · intro z
        have := z q List.mem_cons_self
        rw [h] at this
        cases this
    | some n =>
      rw [h] at v
      rw [show valV (opsK p) ((Sum.inr q.1, V.int q.2) : Key × V).1 = some (V.int n) from v]
      show (decide (V.int q.2 = V.int n) && hitB (opsK p) (opsK o)) = true ↔ _
      rw [Bool.and_eq_true, ih, di, decide_eq_true_eq]
      constructor
      · rintro ⟨a, b⟩ x hx
        rcases List.mem_cons.mp hx with e | hx
        · rw [e, h, a]
        · exact b x hx
      · intro z
        have := z q List.mem_cons_self
        rw [h] at this
        exact ⟨(Option.some.inj this).symm, fun x hx => z x (List.mem_cons_of_mem _ hx)⟩
theorem eqO_iff (o p : Ops) : (eqO o p = true) ↔ o.length = p.length ∧ ∀ q ∈ o, opLook p q.1 = some q.2 := by
  unfold eqO
  rw [Bool.and_eq_true, hit_ops, opsK_len, opsK_len, beq_iff_eq]
/-- the same operations, in whatever order -/
theorem eqO_perm {o p : Ops} (nd : (p.map (·.1)).Nodup) (h : o.Perm p) : eqO o p = true :=
  (eqO_iff o p).mpr ⟨h.length_eq, fun q hq => look_mem nd q (h.mem_iff.mp hq)⟩
theorem eqO_len {o p : Ops} (h : o.length ≠ p.length) : eqO o p = false := by
  cases e : eqO o p with
  | false => rfl
  | true => exact absurd ((eqO_iff o p).mp e).1 h
theorem eqM_same {o1 o2 : Ops} (nd : (o2.map (·.1)).Nodup) (h : o1.Perm o2) (rs : List RowD) (b : Nat) : eqM o1 rs b o2 rs b = true := by
  unfold eqM
  rw [if_pos (eqO_perm nd h), if_pos ((rows_eqv rs rs).mpr rfl)]
  exact decide_eq_true rfl
theorem eqM_ops {o1 o2 : Ops} {r1 r2 : List RowD} {b1 b2 : Nat} (h : o1.length ≠ o2.length) : eqM o1 r1 b1 o2 r2 b2 = false := by
  unfold eqM
  rw [if_neg (by rw [eqO_len h]; exact Bool.false_ne_true)]
theorem eqM_rows {o1 o2 : Ops} {r1 r2 : List RowD} {b1 b2 : Nat} (h : r1 ≠ r2) : eqM o1 r1 b1 o2 r2 b2 = false := by
  unfold eqM
  split
  · rw [if_neg fun z => h ((rows_eqv r1 r2).mp z)]
  · rfl
theorem eqM_start {o1 o2 : Ops} {r1 r2 : List RowD} {b1 b2 : Nat} (h : b1 ≠ b2) : eqM o1 r1 b1 o2 r2 b2 = false := by
  unfold eqM
  split
  · split
    · exact decide_eq_false fun z => h (by have := V.int.inj z; omega)
    · rfl
  · rfl
end Mine

set_option maxRecDepth 100000
set_option maxHeartbeats 4000000
namespace Mine
open PySem L2
abbrev sSrc : Stmt := top 49
abbrev sNext : Stmt := top 50
abbrev sOne : Stmt := top 51
/-- the source of the draws: three ints -/
def SrcAt (H : Hp) (a : Addr) : Prop := ∃ x y z : Int, H a = some (.lst [.int x, .int y, .int z])
/-- all but what stands at a is as it was -/
def But (H H' : Hp) (a : Addr) : Prop := ∀ b o, b ≠ a → H b = some o → H' b = some o
theorem but_upd {H : Hp} {a : Addr} (o : HO) : But H (upd H a o) a := fun b u ne e => by
  rw [upd_ne ne]
  exact e
theorem But.trans {H H1 H2 : Hp} {a : Addr} (s : But H H1 a) (t : But H1 H2 a) : But H H2 a := fun b o ne e => t b o ne (s b o ne e)
theorem But.same {H H1 H2 : Hp} {a : Addr} (s : Same H H1) (t : But H1 H2 a) (n : H a = none) : Same H H2 := fun b o e => t b o (ne_of_none e n) (s b o e)
def spSrc : Sp := fun vs H Q _ => ∃ c : Int, vs = [.int c] ∧ ∀ (x y z : Int), New H (.lst [.int x, .int y, .int z]) Q
def spNext : Sp := fun vs H Q _ => ∃ (a : Addr) (m x y z : Int), vs = [.ref a, .int m] ∧ 0 < m ∧ m.natAbs < 2 ^ 200 ∧ H a = some (.lst [.int x, .int y, .int z]) ∧
  ∀ (n x' y' z' : Int) (H' : Hp), 0 ≤ n → n < m → But H H' a → H' a = some (.lst [.int x', .int y', .int z']) → Q (.int n) H'
/-- one of the things in a list -/
def spOne : Sp := fun vs H Q _ => ∃ (a b : Addr) (xs : List V) (x y z : Int), vs = [.ref a, .ref b] ∧ H a = some (.lst [.int x, .int y, .int z]) ∧ H b = some (.lst xs) ∧ 0 < xs.length ∧ xs.length ≤ 1000 ∧ a ≠ b ∧
  ∀ (v : V) (x' y' z' : Int) (H' : Hp), v ∈ xs → But H H' a → H' a = some (.lst [.int x', .int y', .int z']) → Q v H'
structure TxtD (K : PySem.W.Frag) (mg : Str → Option Value) (fN : Addr) : Prop where
  int : mg "int" = none
  len : mg "len" = none
  gN : mg "_law_next" = some (.ref fN)
  kN : PySem.W.keepIn K (.ref fN) = true
theorem at0 {α : Type} {a : α} {l : List α} : atI (a :: l) 0 = some a := atI_nat (j := 0) rfl
theorem at1 {α : Type} {a b : α} {l : List α} : atI (a :: b :: l) 1 = some b := atI_nat (j := 1) rfl
theorem at2 {α : Type} {a b c : α} {l : List α} : atI (a :: b :: c :: l) 2 = some c := atI_nat (j := 2) rfl
theorem ix0 {n : Nat} : ixN (n + 1) 0 = some 0 := by
  unfold ixN
  rw [if_pos (Int.le_refl _), if_pos (by omega)]
  rfl
theorem ix2 {n : Nat} : ixN (n + 3) 2 = some 2 := by
  unfold ixN
  rw [if_pos (by decide), if_pos (by omega)]
  rfl
theorem modM {m : Int} (h : 0 < m) (u : Int) : 0 ≤ u % m ∧ u % m < m := ⟨Int.emod_nonneg _ (by omega), Int.emod_lt_of_pos _ h⟩
section
variable {P : Program} {w : World} {K : PySem.W.Frag} {mg : Str → Option Value} {base : Heap}
variable {fN : Addr}
theorem scSrc : FnScope ["_law_cell"] ["_law_cell"] (defScope sSrc) := ⟨rfl, rfl, rfl, by decide +kernel, rfl, by decide +kernel, by decide +kernel⟩
theorem ok_src {f : Addr} {fd : FuncData} (F : Fun K "_law_source_of" "_law_source_of" sSrc f fd) (T : TxtD K mg fN) : FnOk P w K mg base CX0 1 f fd ["_law_cell"] spSrc := by
  refine F.ok scSrc (fun vs H Q E h => ?_) (fun cdv A outer s H vs Q E hr h => ?_)
  · obtain ⟨c, rfl, _⟩ := h
    rfl
  · obtain ⟨c, rfl, k⟩ := h
    refine ⟨_, (pss_cons (ps_set (i := 0) scSrc.nd rfl (Or.inl rfl) (pe_ifExp (pt_cmpR op_ge (pv 0) pe_int (nomark _)) (pv 0) (pe_op op_sub (pe_op op_sub pe_int (pe_op op_mul pe_int (pv 0))) pe_int)))
      (pss_one (ps_ret (pe_lstG (pa_cons (pe_op op_mul (pv 0) (pe_callTy call_int1 (by rfl) T.int (by decide +kernel) (pa_cons (pe_cmpR op_ge (pv 0) (pe_op op_pow pe_int pe_int) (nomark _)) pa_nil))) (pa_cons (pe_op op_mod (pe_callTy call_int1 (by rfl) T.int (by decide +kernel) (pa_cons (pv 0) pa_nil)) pe_int) (pa_cons pe_int pa_nil))))))), ?_⟩
    refine ⟨_, rfl, _, _, rfl, rfl, _, rfl, ?_⟩
    refine ite2 (fun _ => ?_) (fun _ => ?_)
    · refine ⟨_, rfl, _, rfl, _, rfl, _, _, rfl, rfl, ⟨by decide, by decide, by decide⟩, _, _, rfl, rfl, .inr ⟨_, rfl, _, _, rfl, rfl, .inr (by split <;> decide), ?_⟩⟩
      refine ⟨_, rfl, .inl ⟨_, rfl, _, _, rfl, rfl, (by show (0 : Int) < 2147483647; decide), ?_⟩⟩
      exact ⟨by show 3 ≤ sizeLine; decide, fun p H' n s e => k _ _ _ p H' n s e⟩
    · refine ⟨_, rfl, _, _, rfl, rfl, .inl (by decide), _, _, rfl, rfl, _, _, rfl, rfl, ?_⟩
      refine ⟨_, rfl, _, rfl, _, _, rfl, rfl, ⟨by decide, by decide, by decide⟩, _, _, rfl, rfl, .inr ⟨_, rfl, _, _, rfl, rfl, .inr (by split <;> decide), ?_⟩⟩
      refine ⟨_, rfl, .inl ⟨_, rfl, _, _, rfl, rfl, (by show (0 : Int) < 2147483647; decide), ?_⟩⟩
      exact ⟨by show 3 ≤ sizeLine; decide, fun p H' n s e => k _ _ _ p H' n s e⟩
theorem scNext : FnScope ["_law_source", "_law_many", "_law_found", "_law_number"] ["_law_source", "_law_many"] (defScope sNext) := ⟨rfl, rfl, rfl, by decide +kernel, rfl, by decide +kernel, by decide +kernel⟩
theorem divOk {i m : Int} (h0 : 0 < m) (h : m.natAbs < 2 ^ 200) : CDivW i m := wide_div (i := i) h0 h (by decide) (by decide)
theorem ok_next {f : Addr} {fd : FuncData} (F : Fun K "_law_next" "_law_next" sNext f fd) (T : TxtD K mg fN) : FnOk P w K mg base CX0 1 f fd ["_law_source", "_law_many"] spNext := by
  refine F.ok scNext (fun vs H Q E h => ?_) (fun cdv A outer s H vs Q E hr h => ?_)
  · obtain ⟨a, m, x, y, z, rfl, _⟩ := h
    rfl
  · obtain ⟨a, m, x, y, z, rfl, m0, m1, ha, k⟩ := h
    refine ⟨_, (pss_cons (ps_if (pt_cmpR op_gt (pe_ix ix_list (pv 0) pe_int (fun _ _ => rfl)) pe_int (nomark _)) (pss_cons (ps_set (i := 2) scNext.nd rfl (Or.inl rfl) (pe_op op_mod (pe_callTy call_int1 (by rfl) T.int (by decide +kernel) (pa_cons (pe_ix ix_list (pv 0) pe_int (fun _ _ => rfl)) pa_nil)) (pv 1)))
      (pss_cons (ps_asg (pe_op op_fdivW (pe_ix ix_list (pv 0) pe_int (fun _ _ => rfl)) (pv 1)) (pg_sub (pv 0) pe_int set_list))
      (pss_one (ps_ret (pv 2))))) pss_nil)
      (pss_cons (ps_asg (pe_op op_add (pe_ix ix_list (pv 0) pe_int (fun _ _ => rfl)) pe_int) (pg_sub (pv 0) pe_int set_list))
      (pss_cons (ps_set (i := 3) scNext.nd rfl (Or.inl rfl) (pe_op op_mod (pe_callTy call_int1 (by rfl) T.int (by decide +kernel) (pa_cons (pe_op op_add (pe_op op_add (pe_ix ix_list (pv 0) pe_int (fun _ _ => rfl)) (pe_op op_mul pe_int (pe_ix ix_list (pv 0) pe_int (fun _ _ => rfl)))) pe_int) pa_nil)) pe_int))
      (pss_cons (ps_set (i := 3) scNext.nd rfl (Or.inl rfl) (pe_op op_mod (pe_callTy call_int1 (by rfl) T.int (by decide +kernel) (pa_cons (pe_op op_mul (pv 3) pe_int) pa_nil)) pe_int))
      (pss_cons (ps_set (i := 3) scNext.nd rfl (Or.inl rfl) (pe_op op_mod (pe_callTy call_int1 (by rfl) T.int (by decide +kernel) (pa_cons (pe_op op_mul (pv 3) (pe_op op_add (pe_op op_fdiv (pv 3) pe_int) pe_int)) pa_nil)) pe_int))
      (pss_cons (ps_set (i := 3) scNext.nd rfl (Or.inl rfl) (pe_op op_mod (pe_callTy call_int1 (by rfl) T.int (by decide +kernel) (pa_cons (pe_op op_mul (pv 3) (pe_op op_add (pe_op op_fdiv (pv 3) pe_int) pe_int)) pa_nil)) pe_int))
      (pss_one (ps_ret (pe_op op_mod (pe_callTy call_int1 (by rfl) T.int (by decide +kernel) (pa_cons (pe_op op_fdiv (pv 3) pe_int) pa_nil)) (pv 1)))))))))), ?_⟩
    refine ⟨_, rfl, _, _, _, _, rfl, rfl, SqL.of ha, at0, _, _, rfl, rfl, _, rfl, ?_⟩
    refine ite2 (fun _ => ?_) (fun _ => ?_)
    · refine ⟨_, rfl, _, _, _, _, rfl, rfl, SqL.of ha, at0, .inl ⟨_, rfl, _, rfl, _, _, rfl, rfl, m0, ?_⟩⟩
      refine ⟨_, rfl, _, _, _, _, rfl, rfl, SqL.of ha, at0, _, rfl, _, _, rfl, rfl, divOk m0 m1, _, rfl, _, _, _, 0, rfl, rfl, ha, ix0, ?_⟩
      exact ⟨_, rfl, k _ _ y z _ (modM m0 _).1 (modM m0 _).2 (but_upd _) upd_same⟩
    · refine ⟨_, rfl, _, _, _, _, rfl, rfl, SqL.of ha, at2, _, _, rfl, rfl, _, rfl, _, _, _, 2, rfl, rfl, ha, ix2, ?_⟩
      have bd : ∀ u : Int, (-(2 ^ 64) < u % 2147483647 ∧ u % 2147483647 < 2 ^ 64) := fun u => by
        have := modM (show (0 : Int) < 2147483647 by decide) u
        omega
      refine ⟨_, rfl, _, _, _, _, rfl, rfl, SqL.of upd_same, at1, _, rfl, _, _, _, _, rfl, rfl, SqL.of upd_same, at2, _, _, rfl, rfl, .inl (by decide), _, _, rfl, rfl, _, _, rfl, rfl, .inl ⟨_, rfl, _, _, rfl, rfl, (by show (0 : Int) < 2147483647; decide), ?_⟩⟩
      refine ⟨_, rfl, _, _, rfl, rfl, .inr (by decide), .inl ⟨_, rfl, _, _, rfl, rfl, (by show (0 : Int) < 2147483647; decide), ?_⟩⟩
      refine ⟨_, rfl, _, rfl, _, _, rfl, rfl, ⟨by decide, by decide⟩, _, _, rfl, rfl, _, _, rfl, rfl, .inl (bd _), .inl ⟨_, rfl, _, _, rfl, rfl, (by show (0 : Int) < 2147483647; decide), ?_⟩⟩
      refine ⟨_, rfl, _, rfl, _, _, rfl, rfl, ⟨by decide, by decide⟩, _, _, rfl, rfl, _, _, rfl, rfl, .inl (bd _), .inl ⟨_, rfl, _, _, rfl, rfl, (by show (0 : Int) < 2147483399; decide), ?_⟩⟩
      refine ⟨_, rfl, _, _, rfl, rfl, ⟨by decide, by decide⟩, .inl ⟨_, rfl, _, rfl, _, _, rfl, rfl, m0, ?_⟩⟩
      exact k _ x y _ _ (modM m0 _).1 (modM m0 _).2 (but_upd _) upd_same
theorem scOne : FnScope ["_law_source", "_law_some"] ["_law_source", "_law_some"] (defScope sOne) := ⟨rfl, rfl, rfl, by decide +kernel, rfl, by decide +kernel, by decide +kernel⟩
theorem ok_one {f : Addr} {fd fdN : FuncData} (F : Fun K "_law_one" "_law_one" sOne f fd) (T : TxtD K mg fN) (FN : Fun K "_law_next" "_law_next" sNext fN fdN) (bN : Binds K fdN ["_law_source", "_law_many"] []) : FnOk P w K mg base CX0 2 f fd ["_law_source", "_law_some"] spOne := by
  have GN : FnOk P w K mg base CX0 1 fN fdN ["_law_source", "_law_many"] spNext := ok_next FN T
  refine F.ok scOne (fun vs H Q E h => ?_) (fun cdv A outer s H vs Q E hr h => ?_)
  · obtain ⟨a, b, xs, x, y, z, rfl, _⟩ := h
    rfl
  · obtain ⟨a, b, xs, x, y, z, rfl, ha, hb, l0, l1, ne, k⟩ := h
    have hr1 : Room 1 _ := hr.mono (by decide)
    refine ⟨_, (pss_one (ps_ret (pe_ix ix_list (pv 1) (pe_call GN hr1 (by rfl) T.gN T.kN bN .nil pass0 (pa_cons (pv 0) (pa_cons (pe_callB call_len_seq (by rfl) T.len PySem.boot_len (pa_cons (pv 1) pa_nil)) pa_nil))) (fun _ _ => rfl)))), ?_⟩
    refine ⟨_, rfl, _, rfl, _, rfl, _, _, rfl, .inl (SqL.of hb), a, _, x, y, z, rfl, by omega, ?_, ha, fun n x' y' z' H' n0 n1 bt he => ?_⟩
    · have : (((xs.length : Nat) : Int)).natAbs = xs.length := rfl
      rw [this]
      exact Nat.lt_of_le_of_lt l1 (by decide)
    · have hn : n.toNat < xs.length := by omega
      have ei : xs[n.toNat]? = some xs[n.toNat] := List.getElem?_eq_getElem hn
      have e2 : ((n.toNat : Nat) : Int) = n := Int.toNat_of_nonneg n0
      have ea : atI xs ((n.toNat : Nat) : Int) = some xs[n.toNat] := atI_nat ei
      rw [e2] at ea
      exact ⟨_, _, _, _, rfl, rfl, SqL.of (bt _ _ ne.symm hb), ea, k _ _ _ _ _ (List.getElem_mem hn) bt he⟩
end
end Mine

set_option maxRecDepth 100000
set_option maxHeartbeats 4000000
namespace Mine
open PySem L2
abbrev s_mixed : Stmt := top 52
/-- a text, or a pair of a text and a number -/
def El (H : Hp) (v : V) : Prop := (∃ t : Str, v = .str t ∧ PyData.strOk t = true) ∨ ∃ (q : Addr) (t : Str) (i : Int), v = .ref q ∧ H q = some (.tup [.str t, .int i]) ∧ PyData.strOk t = true
def TupStay (H H' : Hp) : Prop := ∀ (q : Addr) (zs : List V), H q = some (.tup zs) → H' q = some (.tup zs)
theorem El.stay {H H' : Hp} {v : V} (s : TupStay H H') (e : El H v) : El H' v := e.elim .inl fun ⟨q, t, i, h1, h2, h3⟩ => .inr ⟨q, t, i, h1, s _ _ h2, h3⟩
theorem El.dp {K : PySem.W.Frag} {H : Hp} {v : V} (e : El H v) : ∃ d : PyData, Dp K H v d ∧ d.canLay0 = true ∧ d.depth ≤ 1 := by
  rcases e with ⟨t, rfl, h⟩ | ⟨q, t, i, rfl, h, h3⟩
  · exact ⟨_, .str t, by simp [PyData.canLay0, h], by simp [PyData.depth]⟩
  · exact ⟨_, .tup (.inl (.inl h)) (.cons (.str t) (.cons (.int i) .nil)), by simp [PyData.canLay0, PyData.canLayAll0, h3], by simp [PyData.depth, PyData.depthAll]⟩
theorem Els.dp {K : PySem.W.Frag} {H : Hp} : ∀ {vs : List V}, (∀ v ∈ vs, El H v) → ∃ ds : List PyData, DpAll K H vs ds ∧ PyData.canLayAll0 ds = true ∧ PyData.depthAll ds ≤ 1 ∧ ds.length = vs.length
  | [], _ => ⟨[], .nil, by simp [PyData.canLayAll0], by simp [PyData.depthAll], rfl⟩
  | v :: vs, h => by
    obtain ⟨d, h1, h2, h3⟩ := (h v List.mem_cons_self).dp (K := K)
    obtain ⟨ds, k1, k2, k3, k4⟩ := Els.dp (K := K) (vs := vs) fun x hx => h x (List.mem_cons_of_mem _ hx)
    refine ⟨d :: ds, .cons h1 k1, by simp [PyData.canLayAll0, h2, k2], ?_, by rw [List.length_cons, k4]; rfl⟩
    simp only [PyData.depthAll]
    omega
def spMixed : Sp := fun vs H Q _ => ∃ (a b : Addr) (xs : List V) (x y z : Int), vs = [.ref a, .ref b] ∧ H a = some (.lst [.int x, .int y, .int z]) ∧ SqA H b xs ∧ xs.length ≤ 1000 ∧ (∀ v ∈ xs, El H v) ∧
  ∀ (p : Addr) (ys : List V) (x' y' z' : Int) (H' : Hp), H p = none → ys.Perm xs → But H H' a → H' a = some (.lst [.int x', .int y', .int z']) → H' p = some (.lst ys) → Q (.ref p) H'
/-- ahead of a turn -/
structure MixI (H : Hp) (a la fa : Addr) (xs lf ff : List V) (H' : Hp) : Prop where
  but : But H H' a
  src : SrcAt H' a
  l : H' la = some (.lst lf)
  f : H' fa = some (.lst ff)
  nl : H la = none
  nf : H fa = none
  ne : la ≠ fa
  perm : (lf ++ ff).Perm xs
theorem erase_perm {α : Type} : ∀ (l : List α) (k : Nat) (y : α), l[k]? = some y → (y :: l.eraseIdx k).Perm l ∧ (l.eraseIdx k).length + 1 = l.length
  | [], k, y, h => by simp at h
  | x :: l, 0, y, h => by
    have e : x = y := Option.some.inj h
    subst e
    exact ⟨.refl _, rfl⟩
  | x :: l, k + 1, y, h => by
    obtain ⟨p, e⟩ := erase_perm l k y (by simpa using h)
    exact ⟨(List.Perm.swap x y _).trans (p.cons x), by show (l.eraseIdx k).length + 1 + 1 = l.length + 1; rw [e]⟩
theorem seq_at {n : Nat} {i : Int} (h0 : 0 ≤ i) (h : i < n) : seqIndex? i n = some i.toNat := (ixN_seq (by unfold ixN; rw [if_pos h0, if_pos h])).1
section
variable {P : Program} {w : World} {K : PySem.W.Frag} {mg : Str → Option Value} {base : Heap}
variable {fII fIW fN : Addr}
theorem sc_mixed : FnScope ["_law_source", "_law_some", "_law_left", "_law_found"] ["_law_source", "_law_some"] (defScope s_mixed) := ⟨rfl, rfl, rfl, by decide +kernel, rfl, by decide +kernel, by decide +kernel⟩
theorem ok_mixed {f : Addr} {fd fdN : FuncData} (F : Fun K "_law_mixed" "_law_mixed" s_mixed f fd) (T : TxtF K mg fII fIW)
    (GN : FnOk P w K mg base CX0 1 fN fdN ["_law_source", "_law_many"] spNext) (b_next : Binds K fdN ["_law_source", "_law_many"] []) (g_next : mg "_law_next" = some (.ref fN)) (k_next : PySem.W.keepIn K (.ref fN) = true) : FnOk P w K mg base CX0 2 f fd ["_law_source", "_law_some"] spMixed := by
  refine F.ok sc_mixed (fun vs H Q E h => ?_) (fun cdv A outer s H vs Q E hr h => ?_)
  · obtain ⟨a, b, xs, x, y, z, rfl, _⟩ := h
    rfl
  · obtain ⟨a, b, xs, x, y, z, rfl, ha, hb, few, els, k⟩ := h
    refine ⟨_, (pss_cons (ps_par (i := 2) (j := 3) rfl sc_mixed.nd rfl rfl (by decide) rfl rfl (pa_cons (pe_callTy call_listG (by rfl) T.b_list (by decide +kernel) (pa_cons (pv 1) pa_nil)) (pa_cons (pe_lstG pa_nil) pa_nil)) rfl)
      (pss_cons (ps_while PassesOwn.never (pt_cmpR (op_neD hr.units) (pv 2) (pe_lstG pa_nil) (nomark _)) (pss_one (ps_expr (pe_bm PySem.F.plainAttrs_list PySem.F.slot_list_append PySem.F.type_list_append mt_append (pv 3) (pa_cons (pe_bm PySem.F.plainAttrs_list PySem.F.slot_list_pop PySem.F.type_list_pop mt_popAt (pv 2) (pa_cons (pe_call GN (hr.mono (by decide)) (by rfl) g_next k_next b_next .nil pass0 (pa_cons (pv 0) (pa_cons (pe_callB call_len_seq (by rfl) T.b_len PySem.boot_len (pa_cons (pv 2) pa_nil)) pa_nil))) pa_nil)) pa_nil)))))
      (pss_one (ps_ret (pv 3))))), ?_⟩
    refine ⟨_, rfl, b, _, rfl, hb, fun la H1 n1 s1 e1 => ⟨Nat.zero_le _, fun fa H2 n2 s2 e2 => ⟨_, _, rfl, ?_⟩⟩⟩
    have nla : la ≠ fa := fun z => by
      rw [← z, e1] at n2
      cases n2
    have start : MixI H a la fa xs xs [] H2 := ⟨fun b2 o _ e => s2 _ _ (s1 _ _ e), ⟨x, y, z, s2 _ _ (s1 _ _ ha)⟩, s2 _ _ e1, e2, n1, none_of s1 n2, nla, by rw [List.append_nil]⟩
    refine ⟨fun m σ H' => ∃ lf ff, m = lf.length ∧ σ = [some (.ref a), some (.ref b), some (.ref la), some (.ref fa)] ∧ MixI H a la fa xs lf ff H', ⟨_, xs, [], rfl, rfl, start⟩, ?_⟩
    rintro m σ H' ⟨lf, ff, rfl, rfl, mi⟩
    have nal : la ≠ a := fun z => by
      have := mi.nl
      rw [z, ha] at this
      cases this
    have naf : fa ≠ a := fun z => by
      have := mi.nf
      rw [z, ha] at this
      cases this
    have tup : ∀ {H'' : Hp}, But H H'' a → TupStay H H'' := fun bt q zs e => bt q _ (fun z => by rw [z, ha] at e; cases e) e
    have len : lf.length + ff.length = xs.length := by
      have := mi.perm.length_eq
      rw [List.length_append] at this
      exact this
    refine ⟨_, rfl, Nat.zero_le _, fun e0 H3 n3 s3 ee => ?_⟩
    have bt3 : But H H3 a := fun b2 o nb e => s3 _ _ (mi.but b2 o nb e)
    obtain ⟨ds, d1, d2, d3, d4⟩ := Els.dp (K := K) (H := H3) (vs := lf) fun v hv => (els v (mi.perm.mem_iff.mp (List.mem_append_left _ hv))).stay (tup bt3)
    have sh : SeqAt.shaped (.list ds) = true := by
      show (PyData.canLay0 (.list ds) && decide (PyData.depth (.list ds) ≤ 64)) = true
      rw [Bool.and_eq_true]
      refine ⟨by simp only [PyData.canLay0]; exact d2, decide_eq_true ?_⟩
      simp only [PyData.depth]
      omega
    refine ⟨.list ds, .list [], .lst (SqL.of (s3 _ _ mi.l)) d1, .lst (SqL.of ee) .nil, sh, by decide +kernel, _, rfl, ?_⟩
    cases lf with
    | nil =>
      have : ds = [] := List.length_eq_zero_iff.mp d4
      subst this
      have e : (!PyData.eqv (.list []) (.list [])) = false := by simp [PyData.eqv, PyData.eqvAll]
      rw [e]
      refine iteF ?_
      obtain ⟨x', y', z', es⟩ := mi.src
      exact ⟨_, rfl, k fa ff x' y' z' H3 mi.nf (by simpa using mi.perm) bt3 (s3 _ _ es) (s3 _ _ mi.f)⟩
    | cons v0 l0 =>
      have e : (!PyData.eqv (.list ds) (.list [])) = true := by
        cases ds with
        | nil => simp at d4
        | cons d ds => simp [PyData.eqv, PyData.eqvAll]
      rw [e]
      refine iteT ?_
      refine ⟨fun σ' H'' => ∃ lf' ff', lf'.length < (v0 :: l0).length ∧ σ' = [some (.ref a), some (.ref b), some (.ref la), some (.ref fa)] ∧ MixI H a la fa xs lf' ff' H'', fun σ' H'' ⟨lf', ff', z1, z2, z3⟩ => ⟨_, z1, lf', ff', rfl, z2, z3⟩, ?_⟩
      obtain ⟨x', y', z', es⟩ := mi.src
      refine ⟨_, rfl, .inl ⟨rfl, _, SqL.of (s3 _ _ mi.f)⟩, _, rfl, .inl ⟨rfl, _, SqL.of (s3 _ _ mi.l)⟩, _, rfl, _, rfl, la, _, rfl, .inl (SqL.of (s3 _ _ mi.l)), a, _, x', y', z', rfl, ?_, ?_, s3 _ _ es, fun n u1 u2 u3 H4 n0 n1' bt4 e4 => ?_⟩
      · show (0 : Int) < ((v0 :: l0).length : Int)
        simp
      · have h1 : (v0 :: l0).length ≤ 1000 := by omega
        rw [Int.natAbs_natCast]
        exact Nat.lt_of_le_of_lt h1 (by decide)
      · have n1' : n < ((v0 :: l0).length : Int) := n1'
        have h1 : (v0 :: l0).length ≤ 1000 := by omega
        have el := bt4 _ _ nal (s3 _ _ mi.l)
        have ef := bt4 _ _ naf (s3 _ _ mi.f)
        have hk : n.toNat < (v0 :: l0).length := by omega
        have ey : (v0 :: l0)[n.toNat]? = some (v0 :: l0)[n.toNat] := List.getElem?_eq_getElem hk
        obtain ⟨pe, le⟩ := erase_perm _ _ _ ey
        generalize (v0 :: l0)[n.toNat] = y at ey pe
        generalize hl2 : (v0 :: l0).eraseIdx n.toNat = l2 at pe le
        refine ⟨la, v0 :: l0, n, n.toNat, y, rfl, rfl, el, by omega, by omega, seq_at n0 n1', ey, ?_⟩
        rw [hl2]
        have ef2 : upd H4 la (.lst l2) fa = some (.lst ff) := by
          rw [upd_ne (Ne.symm nla)]
          exact ef
        refine ⟨fa, ff, y, rfl, rfl, ef2, by rw [sizeLine_eq]; omega, l2, ff ++ [y], by omega, rfl, ?_⟩
        have ne : ∀ {b2 : Addr} {o : HO}, H b2 = some o → b2 ≠ la ∧ b2 ≠ fa := fun {b2 o} e => ⟨fun z => absurd (by rw [← e, z, mi.nl]) (fun q : (none : Option HO) = some o => nomatch q), fun z => absurd (by rw [← e, z, mi.nf]) (fun q : (none : Option HO) = some o => nomatch q)⟩
        refine ⟨fun b2 o nb e => ?_, ⟨u1, u2, u3, ?_⟩, ?_, upd_same, mi.nl, mi.nf, nla, ?_⟩
        · rw [upd_ne (ne e).2, upd_ne (ne e).1]
          exact bt4 _ _ nb (bt3 _ _ nb e)
        · rw [upd_ne (Ne.symm naf), upd_ne (Ne.symm nal)]
          exact e4
        · rw [upd_ne nla, upd_same]
        · have q1 : (l2 ++ (ff ++ [y])).Perm (y :: l2 ++ ff) := by
            rw [← List.append_assoc]
            exact (List.perm_append_comm (l₁ := l2 ++ ff) (l₂ := [y]))
          exact (q1.trans (pe.append_right ff)).trans mi.perm
end
end Mine

set_option maxRecDepth 100000
set_option maxHeartbeats 4000000
namespace Mine
open PySem L2
abbrev s_ops : Stmt := top 53
def names8 : List Str := ["coin", "ask", "tell", "go", "end", "fail", "x", "open"]
def spDrawOps : Sp := fun vs H Q _ => ∃ (a : Addr) (m : Nat) (x y z : Int), vs = [.ref a, .int (m : Int)] ∧ H a = some (.lst [.int x, .int y, .int z]) ∧ m ≤ 8 ∧
  ∀ (p : Addr) (o : Ops) (x' y' z' : Int) (H' : Hp), H p = none → o.length = m → (∀ q ∈ o, q.1 ∈ names8 ∧ 0 ≤ q.2 ∧ q.2 ≤ 3) → (o.map (·.1)).Nodup → But H H' a → H' a = some (.lst [.int x', .int y', .int z']) → H' p = some (.dK (opsK o)) → Q (.ref p) H'
theorem names8_ok : ∀ t ∈ names8, isNm t = true := by decide +kernel
theorem names8_nd : names8.Nodup := by decide +kernel
theorem names8_str : ∀ t ∈ names8, PyData.strOk t = true := by decide +kernel
def unS : V → Str
  | .str t => t
  | _ => ""
theorem perm_strs {ys : List V} {ns : List Str} (h : ys.Perm (ns.map V.str)) : ∃ zs : List Str, zs.Perm ns ∧ ys = zs.map V.str := by
  refine ⟨ys.map unS, ?_, ?_⟩
  · have := h.map unS
    rw [List.map_map] at this
    have e : ns.map (unS ∘ V.str) = ns := (List.map_congr_left fun _ _ => rfl).trans (List.map_id ns)
    rw [e] at this
    exact this
  · rw [List.map_map]
    refine (List.map_id ys).symm.trans (List.map_congr_left fun v hv => ?_)
    obtain ⟨t, _, rfl⟩ := List.mem_map.mp (h.mem_iff.mp hv)
    rfl
theorem paired_imp {α β : Type} {R S : α → β → Prop} (h : ∀ x y, R x y → S x y) : ∀ {xs : List α} {ys : List β}, Paired R xs ys → Paired S xs ys
  | _, _, .nil => .nil
  | _, _, .cons a b => .cons (h _ _ a) (paired_imp h b)
theorem paired_snoc {α β : Type} {R : α → β → Prop} {x : α} {y : β} (h : R x y) : ∀ {xs : List α} {ys : List β}, Paired R xs ys → Paired R (xs ++ [x]) (ys ++ [y])
  | _, _, .nil => .cons h .nil
  | _, _, .cons a b => .cons a (paired_snoc h b)
theorem low8 : ∀ n ∈ ([0, 1, 1, 2, 2, 2, 3, 2] : List Int), 0 ≤ n ∧ n ≤ 3 := by decide
/-- the pairs that are made so far -/
structure PairI (Hn : Hp) (a D : Addr) (zs : List Str) (j : Nat) (Hx : Hp) : Prop where
  but : But Hn Hx a
  src : SrcAt Hx a
  made : ∃ (ps : List Addr) (o : Ops), Hx D = some (.lst (ps.map V.ref)) ∧ o.map (·.1) = zs.take j ∧ (∀ q ∈ o, 0 ≤ q.2 ∧ q.2 ≤ 3) ∧ Paired (fun p kv => Hx p = some (.tup [kV kv.1, kv.2])) ps (opsK o) ∧ ps.length = j
theorem merge_new : ∀ (more kvs : List (Key × V)), (more.map (·.1)).Nodup → (∀ k ∈ more.map (·.1), valV kvs k = none) → mergeK kvs more = kvs ++ more
  | [], kvs, _, _ => by rw [List.append_nil]; rfl
  | p :: more, kvs, nd, h => by
    rw [List.map_cons, List.nodup_cons] at nd
    show mergeK (putK kvs p.1 p.2) more = _
    have hp := h p.1 (by rw [List.map_cons]; exact List.mem_cons_self)
    rw [merge_new more _ nd.2 fun k hk => by
      rw [valV_put, if_neg (fun z : k = p.1 => nd.1 (by rw [← z]; exact hk))]
      exact h k (by rw [List.map_cons]; exact List.mem_cons_of_mem _ hk), putK_new _ hp, List.append_assoc]
    rfl
theorem merge_ops {o : Ops} (nd : (o.map (·.1)).Nodup) : mergeK [] (opsK o) = opsK o := by
  have := merge_new (opsK o) [] (by
    rw [opsK_keys, List.Nodup, List.pairwise_map]
    exact List.Pairwise.imp (fun h z => h (Sum.inr.inj z)) nd) (fun _ _ => rfl)
  rw [this]
  rfl
section
variable {P : Program} {w : World} {K : PySem.W.Frag} {mg : Str → Option Value} {base : Heap}
variable {fII fIW fM fO : Addr}
theorem sc_ops : FnScope ["_law_source", "_law_many", "_law_names", "_law_name"] ["_law_source", "_law_many"] (defScope s_ops) := ⟨rfl, rfl, rfl, by decide +kernel, rfl, by decide +kernel, by decide +kernel⟩
theorem ok_draw_ops {f : Addr} {fd fdM fdO : FuncData} (F : Fun K "_law_operations" "_law_operations" s_ops f fd) (T : TxtF K mg fII fIW)
    (GM : FnOk P w K mg base CX0 2 fM fdM ["_law_source", "_law_some"] spMixed) (b_mixed : Binds K fdM ["_law_source", "_law_some"] []) (g_mixed : mg "_law_mixed" = some (.ref fM)) (k_mixed : PySem.W.keepIn K (.ref fM) = true)
    (GO : FnOk P w K mg base CX0 2 fO fdO ["_law_source", "_law_some"] spOne) (b_one : Binds K fdO ["_law_source", "_law_some"] []) (g_one : mg "_law_one" = some (.ref fO)) (k_one : PySem.W.keepIn K (.ref fO) = true) : FnOk P w K mg base CX0 3 f fd ["_law_source", "_law_many"] spDrawOps := by
  refine F.ok sc_ops (fun vs H Q E h => ?_) (fun cdv A outer s H vs Q E hr h => ?_)
  · obtain ⟨a, m, x, y, z, rfl, _⟩ := h
    rfl
  · obtain ⟨a, m, x, y, z, rfl, ha, hm, k⟩ := h
    refine ⟨_, (pss_cons (ps_set (i := 2) sc_ops.nd rfl (Or.inl rfl) (pe_slice sl_listG (pe_call GM (hr.mono (by decide)) (by rfl) g_mixed k_mixed b_mixed .nil pass0 (pa_cons (pv 0) (pa_cons (pe_lstG (pa_cons pe_str (pa_cons pe_str (pa_cons pe_str (pa_cons pe_str (pa_cons pe_str (pa_cons pe_str (pa_cons pe_str (pa_cons pe_str pa_nil))))))))) pa_nil))) po_none (po_some (pv 1))))
      (pss_one (ps_ret (pe_callTy (call_dictP rfl) (by rfl) T.b_dict (by decide +kernel) (pa_cons (pe_lc (own := [("_law_name", 3)]) (g := gName 3) (tt := tYes) rfl sc_ops.nd (pi_list (pv 2)) (blkOk_by (own := [("_law_name", 3)]) (N := ["_law_source", "_law_many", "_law_names", "_law_name"]) (sc := defScope s_ops) (by decide +kernel)) (fun _ _ _ _ _ => pg_name (i := 3) sc_ops.nd rfl (Or.inl rfl)) (fun _ _ _ _ _ => pts_nil) (fun _ _ _ _ _ => pe_tupG (pa_cons (pv 3) (pa_cons (pe_call GO (hr.mono (by decide)) (by rfl) g_one k_one b_one .nil pass0 (pa_cons (pv 0) (pa_cons (pe_lstG (pa_cons pe_int (pa_cons pe_int (pa_cons pe_int (pa_cons pe_int (pa_cons pe_int (pa_cons pe_int (pa_cons pe_int (pa_cons pe_int pa_nil))))))))) pa_nil))) pa_nil)))) pa_nil))))), ?_⟩
    have nl : ∀ n : Nat, n ≤ 8 → n ≤ sizeLine := fun n h => by rw [sizeLine_eq]; omega
    refine ⟨_, rfl, nl _ (by decide), fun p1 H1 n1 s1 e1 => ?_⟩
    refine ⟨a, p1, _, x, y, z, rfl, s1 _ _ ha, .inl e1, by show 8 ≤ 1000; decide, ?_, fun p2 ys x' y' z' H2 n2 perm bt e2 e3 => ?_⟩
    · intro v hv
      have hv : v ∈ names8.map V.str := hv
      obtain ⟨t, ht, rfl⟩ := List.mem_map.mp hv
      exact .inl ⟨t, rfl, names8_str t ht⟩
    · obtain ⟨zs, pz, rfl⟩ := perm_strs (ns := names8) perm
      have zl : zs.length = 8 := pz.length_eq
      refine ⟨_, rfl, _, rfl, p2, _, rfl, SqL.of e3, fun p3 H3 n3 s3 e4 => ?_⟩
      have ec : cutV (zs.map V.str) none (some (m : Int)) = (zs.take m).map V.str := by
        unfold cutV
        rw [HT.sIx_none, HT.sIx_nat, List.length_map, List.drop_zero, List.map_take, Nat.sub_zero, Nat.min_eq_left (by omega)]
      rw [ec] at e4
      have p2a : p3 ≠ a := fun z => by
        rw [z, e2] at n3
        cases n3
      refine ⟨_, rfl, p3, rfl, ⟨_, SqL.of e4⟩, fun D nD => ?_⟩
      have nDa : D ≠ a := fun z => by
        rw [z, s3 _ _ e2] at nD
        cases nD
      have e2' := s3 _ _ e2
      refine lc_it (walk_list (xs := (zs.take m).map V.str)) (fun j Hx => PairI H3 a D (zs.take m) j Hx) ⟨fun b o _ e => ?_, ⟨x', y', z', ?_⟩, [], [], upd_same, rfl, fun _ h => (nomatch h), .nil, rfl⟩ (fun j Hx _ z => SqL.of (z.but _ _ p2a e4)) (fun j x Ha Hb hj z1 z2 => ?_) (fun Hx z => ?_)
      · rw [upd_ne (ne_of_none e nD)]
        exact e
      · rw [upd_ne (Ne.symm nDa)]
        exact e2'
      · obtain ⟨rfl, hx⟩ := z2
        obtain ⟨but, ⟨x1, y1, z1', src⟩, ps, o, q1, q2, q3, q4, q5⟩ := z1
        rw [List.length_map] at hj
        have et : (zs.take m)[j]? = some (zs.take m)[j] := List.getElem?_eq_getElem hj
        generalize (zs.take m)[j] = t at et
        rw [List.getElem?_map, et] at hx
        have hx2 : V.str t = x := Option.some.inj hx
        subst hx2
        refine ⟨rfl, _, rfl, _, rfl, nl _ (by decide), fun p4 H4 n4 s4 e5 => ?_⟩
        refine ⟨a, p4, _, x1, y1, z1', rfl, s4 _ _ src, e5, by show 0 < 8; decide, by show 8 ≤ 1000; decide, ne_of_none src n4, fun v x5 y5 z5 H5 mv bt5 e6 => ?_⟩
        have mv : v ∈ ([0, 1, 1, 2, 2, 2, 3, 2] : List Int).map V.int := mv
        obtain ⟨n, hn, rfl⟩ := List.mem_map.mp mv
        have tl : (zs.take m).length ≤ 8 := by rw [List.length_take]; omega
        refine ⟨nl _ (by show 2 ≤ 8; decide), fun T H6 n6 s6 e7 => ⟨_, s6 _ _ (bt5 _ _ nDa (s4 _ _ q1)), by rw [List.length_map, q5, sizeLine_eq]; omega, ?_⟩⟩
        have hD6 := s6 _ _ (bt5 _ _ nDa (s4 _ _ q1))
        refine ⟨fun b o nb e => ?_, ⟨x5, y5, z5, ?_⟩, ps ++ [T], o ++ [(t, n)], ?_, ?_, fun q hq => ?_, ?_, by rw [List.length_append, q5]; rfl⟩
        · rw [upd_ne (ne_of_none e nD)]
          exact s6 _ _ (bt5 _ _ nb (s4 _ _ (but _ _ nb e)))
        · rw [upd_ne (Ne.symm nDa)]
          exact s6 _ _ e6
        · rw [upd_same, List.map_append]
          rfl
        · rw [List.map_append, q2, List.take_succ, et]
          rfl
        · rcases List.mem_append.mp hq with h | h
          · exact q3 q h
          · rw [List.mem_singleton.mp h]
            exact low8 n hn
        · have up : ∀ {p : Addr} {us : List V}, H6 p = some (.tup us) → upd H6 D (.lst (ps.map V.ref ++ [.ref T])) p = some (.tup us) := fun {p us} e => by
            rw [upd_ne (fun z => by rw [z, hD6] at e; cases e)]
            exact e
          have e8 : opsK (o ++ [(t, n)]) = opsK o ++ [(Sum.inr t, V.int n)] := by
            unfold opsK
            rw [List.map_append]
            rfl
          rw [e8]
          refine paired_snoc (R := fun (p : Addr) (kv : Key × V) => upd H6 D (.lst (ps.map V.ref ++ [.ref T])) p = some (.tup [kV kv.1, kv.2])) (x := T) (y := ((Sum.inr t, V.int n) : Key × V)) (up e7) (paired_imp (fun p kv e => up (s6 _ _ (bt5 _ _ (fun z => ?_) (s4 _ _ e)))) q4)
          rw [z, src] at e
          cases e
      · obtain ⟨but, ⟨x1, y1, z1', src⟩, ps, o, q1, q2, q3, q4, q5⟩ := z
        rw [List.length_map, List.take_length] at q2
        have nd : (o.map (·.1)).Nodup := by
          rw [q2]
          exact (pz.nodup_iff.mpr names8_nd).sublist (List.take_sublist _ _)
        have hin : ∀ q ∈ o, q.1 ∈ names8 := fun q hq => by
          have : q.1 ∈ o.map (·.1) := List.mem_map_of_mem hq
          rw [q2] at this
          exact pz.mem_iff.mp (List.mem_of_mem_take this)
        have ol : o.length = m := by
          have := congrArg List.length q2
          rw [List.length_map, List.length_take] at this
          omega
        refine ⟨D, ps, opsK o, rfl, SqL.of q1, paired_imp (fun _ _ e => .inl (.inl e)) q4, fun p np => ?_⟩
        rw [merge_ops nd]
        have bt0 : But H Hx a := fun b o nb e => but _ _ nb (s3 _ _ (bt _ _ nb (s1 _ _ e)))
        have npH : H p = none := by
          cases e : H p with
          | none => rfl
          | some u =>
            by_cases z : p = a
            · rw [z, src] at np
              cases np
            · rw [bt0 _ _ z e] at np
              cases np
        refine k p o x1 y1 z1' _ npH ol (fun q hq => ⟨hin q hq, q3 q hq⟩) nd (fun b u nb e => ?_) ?_ upd_same
        · rw [upd_ne (ne_of_none e npH)]
          exact bt0 _ _ nb e
        · rw [upd_ne (fun z => by rw [← z, src] at np; cases np)]
          exact src
end
end Mine

set_option maxRecDepth 100000
set_option maxHeartbeats 4000000
namespace Mine
open PySem L2
abbrev s_rows : Stmt := top 54
def RowFine (dd : RowD) : Prop := PyData.strOk (rowStr dd) = true ∧ dd ≠ .fin "zz"
def spDrawRows : Sp := fun vs H Q _ => ∃ (a d : Addr) (o : Ops) (n : Nat) (x y z : Int), vs = [.ref a, .ref d, .int (n : Int)] ∧ H a = some (.lst [.int x, .int y, .int z]) ∧ H d = some (.dK (opsK o)) ∧ (o.map (·.1)).Nodup ∧ o.length < 64 ∧ (∀ q ∈ o, q.1 ∈ names8 ∧ 0 ≤ q.2 ∧ q.2 ≤ 3) ∧ 1 ≤ n ∧ n ≤ 400 ∧
  ∀ (p : Addr) (xs : List V) (rs : List RowD) (x' y' z' : Int) (H' : Hp), H p = none → rs.length = n → OkRows o rs → (∀ dd ∈ rs, RowFine dd) → But H H' a → H' a = some (.lst [.int x', .int y', .int z']) → H' p = some (.lst xs) → Rows H' xs rs → Q (.ref p) H'
structure FixR (H : Hp) (a p p3 : Addr) : Prop where
  ha : ∃ x y z : Int, H a = some (.lst [.int x, .int y, .int z])
  np : H p = none
  np3 : H p3 = none
  ne : p ≠ p3
theorem FixR.pa {H : Hp} {a p p3 : Addr} (f : FixR H a p p3) : p ≠ a := fun z => by
  obtain ⟨_, _, _, e⟩ := f.ha
  have := f.np
  rw [z, e] at this
  cases this
theorem FixR.p3a {H : Hp} {a p p3 : Addr} (f : FixR H a p p3) : p3 ≠ a := fun z => by
  obtain ⟨_, _, _, e⟩ := f.ha
  have := f.np3
  rw [z, e] at this
  cases this
structure RowsI (H : Hp) (a p p3 : Addr) (ys : List Str) (o : Ops) (n j : Nat) (H' : Hp) : Prop where
  but : But H H' a
  src : SrcAt H' a
  nm : H' p3 = some (.lst (ys.map V.str))
  made : ∃ xs rs, H' p = some (.lst xs) ∧ rs.length = j ∧ Rows H' xs rs ∧ ∀ dd ∈ rs, OkRow o n dd ∧ RowFine dd
theorem RowsI.go {H H' H'' : Hp} {a p p3 : Addr} {ys : List Str} {o : Ops} {n j : Nat} (r : RowsI H a p p3 ys o n j H') (s : Same H' H'') : RowsI H a p p3 ys o n j H'' := by
  obtain ⟨b, ⟨x, y, z, e⟩, c, xs, rs, d1, d2, d3, d4⟩ := r
  exact ⟨fun q u nq e => s _ _ (b q u nq e), ⟨x, y, z, s _ _ e⟩, s _ _ c, xs, rs, s _ _ d1, d2, d3.same s, d4⟩
theorem RowsI.draw {H H' H'' : Hp} {a p p3 : Addr} {ys : List Str} {o : Ops} {n j : Nat} (f : FixR H a p p3) (r : RowsI H a p p3 ys o n j H') (s : But H' H'' a) (e2 : SrcAt H'' a) : RowsI H a p p3 ys o n j H'' := by
  obtain ⟨b, ⟨x, y, z, e⟩, c, xs, rs, d1, d2, d3, d4⟩ := r
  refine ⟨b.trans s, e2, s _ _ f.p3a c, xs, rs, s _ _ f.pa d1, d2, ⟨d3.1, fun i dd ed => ?_⟩, d4⟩
  obtain ⟨v, h1, h2⟩ := d3.2 i dd ed
  have up : ∀ {q : Addr} {us : List V}, H' q = some (.tup us) → H'' q = some (.tup us) := fun {q us} eq => s _ _ (fun z => by rw [z, e] at eq; cases eq) eq
  refine ⟨v, h1, ?_⟩
  cases dd with
  | ask op ns =>
    obtain ⟨q, t, e1, k1, k2⟩ := h2
    exact ⟨q, t, e1, up k1, up k2⟩
  | go m =>
    obtain ⟨q, e1, k1⟩ := h2
    exact ⟨q, e1, up k1⟩
  | fin m =>
    obtain ⟨q, e1, k1⟩ := h2
    exact ⟨q, e1, up k1⟩
theorem RowsI.put {H H' : Hp} {a p p3 : Addr} {ys : List Str} {o : Ops} {n j : Nat} (f : FixR H a p p3) (r : RowsI H a p p3 ys o n j H') : ∃ xs, H' p = some (.lst xs) ∧ xs.length = j ∧ ∀ (T : Addr) (dd : RowD), TRow H' (.ref T) dd → OkRow o n dd → RowFine dd → RowsI H a p p3 ys o n (j + 1) (upd H' p (.lst (xs ++ [.ref T]))) := by
  obtain ⟨b, ⟨x, y, z, e⟩, c, xs, rs, d1, d2, d3, d4⟩ := r
  refine ⟨xs, d1, by rw [d3.1, d2], fun T dd t1 t2 t3 => ⟨fun q u nq eq => ?_, ⟨x, y, z, ?_⟩, ?_, xs ++ [.ref T], rs ++ [dd], upd_same, by rw [List.length_append, d2]; rfl, ⟨by rw [List.length_append, List.length_append, d3.1]; rfl, fun i di ei => ?_⟩, fun q hq => ?_⟩⟩
  · rw [upd_ne (ne_of_none eq f.np)]
    exact b q u nq eq
  · rw [upd_ne (Ne.symm f.pa)]
    exact e
  · rw [upd_ne (Ne.symm f.ne)]
    exact c
  · by_cases hi : i < rs.length
    · rw [List.getElem?_append_left hi] at ei
      obtain ⟨v, h1, h2⟩ := d3.2 i di ei
      exact ⟨v, by rw [List.getElem?_append_left (by rw [d3.1]; exact hi)]; exact h1, h2.other d1⟩
    · rw [List.getElem?_append_right (by omega)] at ei
      have hz : i - rs.length = 0 := by
        have := (List.getElem?_eq_some_iff.mp ei).1
        rw [List.length_singleton] at this
        omega
      rw [hz] at ei
      cases ei
      exact ⟨.ref T, by rw [List.getElem?_append_right (by rw [d3.1]; omega), d3.1, hz]; rfl, t1.other d1⟩
  · rcases List.mem_append.mp hq with h | h
    · exact d4 q h
    · rw [List.mem_singleton.mp h]
      exact ⟨t2, t3⟩
def words4 : List Str := ["good", "bad", "done", "x"]
theorem words4_raw : ∀ t ∈ words4, isNm t = true ∧ t.length ≤ 8 ∧ PyData.strOk t = true ∧ t ≠ "zz" := by decide +kernel
theorem words4_ok (t : Str) (h : t ∈ words4) : isNm t = true ∧ t.length ≤ 8 ∧ RowFine (.fin t) := by
  obtain ⟨a, b, c, d⟩ := words4_raw t h
  exact ⟨a, b, c, fun z => d (RowD.fin.inj z)⟩
theorem go_ok : PyData.strOk ("go" : Str) = true := by decide +kernel
def tElse : TS := fun D σ H' => ∃ (H : Hp) (a p p3 : Addr) (ys : List Str) (o : Ops) (n j : Nat) (way : Int) (v1 v5 v7 v8 : Option V), σ = [some (.ref a), v1, some (.int (n : Int)), some (.ref p), some (.ref p3), v5, some (.int way), v7, v8] ∧ FixR H a p p3 ∧ RowsI H a p p3 ys o n j H' ∧ 1 ≤ n ∧ n ≤ 400 ∧ j ≤ 400 ∧
  ∀ H'', RowsI H a p p3 ys o n (j + 1) H'' → D.nx σ H''
section
variable {P : Program} {w : World} {K : PySem.W.Frag} {mg : Str → Option Value} {base : Heap}
variable {fII fIW fN fO : Addr}
theorem sc_rows : FnScope ["_law_source", "_law_operations_here", "_law_many", "_law_rows_here", "_law_names", "_law_k", "_law_way", "_law_name", "_law_j"] ["_law_source", "_law_operations_here", "_law_many"] (defScope s_rows) := ⟨rfl, rfl, rfl, by decide +kernel, rfl, by decide +kernel, by decide +kernel⟩
theorem ok_draw_rows {f : Addr} {fd fdN fdO : FuncData} (F : Fun K "_law_rows" "_law_rows" s_rows f fd) (T : TxtF K mg fII fIW) (h_range : mg "range" = none) (h_sorted : mg "sorted" = none)
    (GN : FnOk P w K mg base CX0 1 fN fdN ["_law_source", "_law_many"] spNext) (b_next : Binds K fdN ["_law_source", "_law_many"] []) (g_next : mg "_law_next" = some (.ref fN)) (k_next : PySem.W.keepIn K (.ref fN) = true)
    (GO : FnOk P w K mg base CX0 2 fO fdO ["_law_source", "_law_some"] spOne) (b_one : Binds K fdO ["_law_source", "_law_some"] []) (g_one : mg "_law_one" = some (.ref fO)) (k_one : PySem.W.keepIn K (.ref fO) = true) : FnOk P w K mg base CX0 3 f fd ["_law_source", "_law_operations_here", "_law_many"] spDrawRows := by
  refine F.ok sc_rows (fun vs H Q E h => ?_) (fun cdv A outer s H vs Q E hr h => ?_)
  · obtain ⟨a, d, o, n, x, y, z, rfl, _⟩ := h
    rfl
  · obtain ⟨a, d, o, n, x, y, z, rfl, ha, hd, nd, few, okn, n1, n2, k⟩ := h
    refine ⟨_, (pss_cons (ps_par (i := 3) (j := 4) rfl sc_rows.nd rfl rfl (by decide) rfl rfl (pa_cons (pe_lstG pa_nil) (pa_cons (pe_callB cr_sortedS (by rfl) h_sorted (by decide +kernel) (pa_cons (pe_callTy (call_listD rfl) (by rfl) T.b_list (by decide +kernel) (pa_cons (pv 1) pa_nil)) pa_nil)) pa_nil)) rfl)
      (pss_cons (ps_for PassesOwn.never rfl (pi_range1 (by rfl) h_range (pa_cons (pv 2) pa_nil)) (pg_name (i := 5) sc_rows.nd rfl (Or.inl rfl))
        (pss_cons (ps_set (i := 6) sc_rows.nd rfl (Or.inl rfl) (pe_call GN (hr.mono (by decide)) (by rfl) g_next k_next b_next .nil pass0 (pa_cons (pv 0) (pa_cons pe_int pa_nil))))
        (pss_one (ps_if (PW.pt (pw_and (pt_cmpR op_lt (pv 6) pe_int (nomark _)) (pw_and1 (pt_cmpR (op_neD hr.units) (pv 4) (pe_lstG pa_nil) (nomark _)))))
          (pss_cons (ps_set (i := 7) sc_rows.nd rfl (Or.inl rfl) (pe_call GO (hr.mono (by decide)) (by rfl) g_one k_one b_one .nil pass0 (pa_cons (pv 0) (pa_cons (pv 4) pa_nil)))) (pss_one (ps_expr (pe_bm PySem.F.plainAttrs_list PySem.F.slot_list_append PySem.F.type_list_append mt_append (pv 3) (pa_cons (pe_tupG (pa_cons pe_str (pa_cons (pv 7) (pa_cons (pe_callTy call_tupleG (by rfl) T.b_tuple (by decide +kernel) (pa_cons (pe_lc (own := [("_law_j", 8)]) (g := gName 8) (tt := tYes) rfl sc_rows.nd (pi_range1 (by rfl) h_range (pa_cons (pe_dget (hu_of hr) (pv 1) (pv 7) (fun _ _ => rfl)) pa_nil)) (blkOk_by (own := [("_law_j", 8)]) (N := ["_law_source", "_law_operations_here", "_law_many", "_law_rows_here", "_law_names", "_law_k", "_law_way", "_law_name", "_law_j"]) (sc := defScope s_rows) (by decide +kernel)) (fun _ _ _ _ _ => pg_name (i := 8) sc_rows.nd rfl (Or.inl rfl)) (fun _ _ _ _ _ => pts_nil) (fun _ _ _ _ _ => (pe_call GN (hr.mono (by decide)) (by rfl) g_next k_next b_next .nil pass0 (pa_cons (pv 0) (pa_cons (pv 2) pa_nil))))) pa_nil)) pa_nil)))) pa_nil)))))
          (pss_one (ps_imp (t' := tElse) (ps_if (pt_cmpR op_eq (pv 6) pe_int (nomark _)) (pss_one (ps_expr (pe_bm PySem.F.plainAttrs_list PySem.F.slot_list_append PySem.F.type_list_append mt_append (pv 3) (pa_cons (pe_tupG (pa_cons pe_str (pa_cons (pe_call GN (hr.mono (by decide)) (by rfl) g_next k_next b_next .nil pass0 (pa_cons (pv 0) (pa_cons (pv 2) pa_nil))) pa_nil))) pa_nil)))) (pss_one (ps_expr (pe_bm PySem.F.plainAttrs_list PySem.F.slot_list_append PySem.F.type_list_append mt_append (pv 3) (pa_cons (pe_tupG (pa_cons pe_str (pa_cons (pe_call GO (hr.mono (by decide)) (by rfl) g_one k_one b_one .nil pass0 (pa_cons (pv 0) (pa_cons (pe_lstG (pa_cons pe_str (pa_cons pe_str (pa_cons pe_str (pa_cons pe_str pa_nil))))) pa_nil))) pa_nil))) pa_nil))))) (fun D σ H' q => by
        obtain ⟨H, a, p, p3, ys, o, n, j, way, v1, v5, v7, v8, rfl, fx, ri, n1, n2, j2, kk⟩ := q
        have two : ∀ v u : V, [v, u].length ≤ sizeLine := fun v u => by rw [sizeLine_eq]; exact Nat.le_trans (show 2 ≤ 2 from Nat.le_refl 2) (by decide)
        obtain ⟨x, y, z, src⟩ := ri.src
        obtain ⟨xs0, q0, _, _⟩ := ri.put fx
        refine ⟨_, rfl, rfl, _, rfl, ?_⟩
        refine ite2 (fun _ => ?_) (fun _ => ?_)
        · refine ⟨_, rfl, .inl ⟨rfl, _, SqL.of q0⟩, _, rfl, _, rfl, a, (n : Int), x, y, z, rfl, by omega, ?_, src, fun k u1 u2 u3 H4 k0 k1 bt e4 => ?_⟩
          · rw [Int.natAbs_natCast]
            exact Nat.lt_of_le_of_lt n2 (by decide)
          · refine ⟨two _ _, fun T H5 nT s5 e5 => ?_⟩
            have r5 := (ri.draw fx bt ⟨u1, u2, u3, e4⟩).go s5
            obtain ⟨xs, q1, q2, q3⟩ := r5.put fx
            exact ⟨p, xs, .ref T, rfl, rfl, q1, by rw [q2, sizeLine_eq]; omega, kk _ (q3 T (.go k) ⟨T, rfl, e5⟩ ⟨k0, k1⟩ ⟨go_ok, fun z => nomatch z⟩)⟩
        · refine ⟨_, rfl, .inl ⟨rfl, _, SqL.of q0⟩, _, rfl, Nat.le_trans (show 4 ≤ 4 from Nat.le_refl 4) (by rw [sizeLine_eq]; decide), fun p4 H3 n3 s3 e3 => ?_⟩
          refine ⟨a, p4, _, x, y, z, rfl, s3 _ _ src, e3, by show 0 < 4; decide, by show 4 ≤ 1000; decide, ne_of_none src n3, fun v x1 y1 z1 H4 mv bt e4 => ?_⟩
          have mv : v ∈ words4.map V.str := mv
          obtain ⟨t, ht, rfl⟩ := List.mem_map.mp mv
          refine ⟨two _ _, fun T H5 nT s5 e5 => ?_⟩
          have r5 := ((ri.go s3).draw fx bt ⟨x1, y1, z1, e4⟩).go s5
          obtain ⟨xs, q1, q2, q3⟩ := r5.put fx
          obtain ⟨w1, w2, w3⟩ := words4_ok t ht
          exact ⟨p, xs, .ref T, rfl, rfl, q1, by rw [q2, sizeLine_eq]; omega, kk _ (q3 T (.fin t) ⟨T, rfl, e5⟩ ⟨w1, w2⟩ w3)⟩)))))))
      (pss_one (ps_ret (pv 3))))), ?_⟩
    refine ⟨Nat.zero_le _, fun p H1 np s1 e1 => ?_⟩
    refine ⟨_, rfl, d, _, rfl, .inl (s1 _ _ hd), fun p2 np2 => ?_⟩
    have keys : ((opsK o).map fun kv => kV kv.1) = (o.map (·.1)).map V.str := by
      unfold opsK
      rw [List.map_map, List.map_map]
      rfl
    refine ⟨p2, o.map (·.1), rfl, SqL.of (by rw [upd_same, keys]), by rw [List.length_map]; exact few, fun ys p3 perm srt np3 => ⟨_, _, rfl, ?_⟩⟩
    have s2 : Same H1 (upd H1 p2 (.lst ((opsK o).map fun kv => kV kv.1))) := sameNew np2 _
    have s13 : Same H1 (upd (upd H1 p2 (.lst ((opsK o).map fun kv => kV kv.1))) p3 (.lst (ys.map V.str))) := same_updN s2 (none_of s2 np3)
    have fx : FixR H a p p3 := ⟨⟨x, y, z, ha⟩, np, none_of s1 (none_of s2 np3), fun q => by
      have := s2 _ _ e1
      rw [q, np3] at this
      cases this⟩
    have ri0 : RowsI H a p p3 ys o n 0 (upd (upd H1 p2 (.lst ((opsK o).map fun kv => kV kv.1))) p3 (.lst (ys.map V.str))) :=
      ⟨fun q u _ e => s13 _ _ (s1 _ _ e), ⟨x, y, z, s13 _ _ (s1 _ _ ha)⟩, upd_same, [], [], s13 _ _ e1, rfl, ⟨rfl, fun i dd e => by simp at e⟩, fun dd h => (nomatch h)⟩
    have da : d ≠ a := fun q => by
      rw [q, ha] at hd
      cases hd
    have inN : ∀ t ∈ ys, ∃ c, opLook o t = some c ∧ 0 ≤ c ∧ c ≤ 3 ∧ t ∈ names8 := fun t ht => by
      obtain ⟨q, hq, rfl⟩ := List.mem_map.mp (perm.mem_iff.mp ht)
      obtain ⟨a1, a2, a3⟩ := okn q hq
      exact ⟨q.2, look_mem nd q hq, a2, a3, a1⟩
    have yl : ys.length < 64 := by
      have := perm.length_eq
      rw [List.length_map] at this
      omega
    refine ⟨_, rfl, (n : Int), rfl, by omega, by omega, for_range (n := n) (fun j σ H' => ∃ v5 v6 v7 v8 : Option V, σ = [some (.ref a), some (.ref d), some (.int (n : Int)), some (.ref p), some (.ref p3), v5, v6, v7, v8] ∧ RowsI H a p p3 ys o n j H') ⟨_, _, _, _, rfl, ri0⟩ (fun j σ H' hj z => ?_) (fun σ H' z => ?_)⟩
    · obtain ⟨v5, v6, v7, v8, rfl, ri⟩ := z
      obtain ⟨x1, y1, z1, src⟩ := ri.src
      refine ⟨_, rfl, a, 9, x1, y1, z1, rfl, by decide, by decide, src, fun way u1 u2 u3 H4 w0 w1 bt e4 => ?_⟩
      have r4 := ri.draw fx bt ⟨u1, u2, u3, e4⟩
      refine ⟨_, rfl, _, _, rfl, rfl, _, rfl, ?_⟩
      refine ite2 (fun _ => ?_) (fun _ => ?_)
      · refine ⟨_, rfl, Nat.zero_le _, fun p5 H5 n5 s5 e5 => ?_⟩
        have r5 := r4.go s5
        refine ⟨.list (ys.map PyData.str), .list [], strs_dp r5.nm, .lst (SqL.of e5) .nil, strs_shaped ys (fun t ht => names8_str t (inN t ht).choose_spec.2.2.2), by decide +kernel, _, rfl, ?_⟩
        by_cases hy : ys = []
        · have e : (!PyData.eqv (.list (ys.map PyData.str)) (.list [])) = false := by rw [hy]; simp [PyData.eqv, PyData.eqvAll]
          rw [e]
          refine iteF ?_
          exact ⟨H, a, p, p3, ys, o, n, j, way, _, _, _, _, rfl, fx, r5, n1, n2, by omega, fun H'' rr => ⟨_, _, _, _, rfl, rr⟩⟩
        · have e : (!PyData.eqv (.list (ys.map PyData.str)) (.list [])) = true := by
            cases ys with
            | nil => exact absurd rfl hy
            | cons t ts => simp [PyData.eqv, PyData.eqvAll]
          rw [e]
          refine iteT ?_
          obtain ⟨x5, y5, z5, src5⟩ := r5.src
          have yp : 0 < ys.length := List.length_pos_iff.mpr hy
          refine ⟨_, rfl, _, rfl, a, p3, _, x5, y5, z5, rfl, src5, r5.nm, by rw [List.length_map]; exact yp, by rw [List.length_map]; omega, Ne.symm fx.p3a, fun v x6 y6 z6 H6 mv bt6 e6 => ?_⟩
          obtain ⟨t, ht, rfl⟩ := List.mem_map.mp mv
          obtain ⟨c, c1, c2, c3, c4⟩ := inN t ht
          have r6 := r5.draw fx bt6 ⟨x6, y6, z6, e6⟩
          obtain ⟨xs0, q0, _, _⟩ := r6.put fx
          refine ⟨_, rfl, .inl ⟨rfl, _, SqL.of q0⟩, _, rfl, _, rfl, _, rfl, d, _, rfl, .inl ⟨opsK o, .inr t, .inl (r6.but _ _ da hd), rfl, (by rw [val_ops, c1]; rfl)⟩, c, rfl, by omega, by omega, fun D nD => ?_⟩
          have Da : D ≠ a := fun q => by
            rw [q, e6] at nD
            cases nD
          refine lc_it (walk_range (lo := 0) (n := c.toNat)) (fun i Hx => But H6 Hx a ∧ SrcAt Hx a ∧ ∃ ns : List Int, Hx D = some (.lst (ns.map V.int)) ∧ ns.length = i ∧ ∀ m ∈ ns, 0 ≤ m ∧ m < (n : Int)) ⟨fun q u _ e => ?_, ⟨x6, y6, z6, ?_⟩, [], upd_same, rfl, fun _ h => (nomatch h)⟩ (fun _ _ _ _ => trivial) (fun i xx Ha Hb hi z1 z2 => ?_) (fun Hx z => ?_)
          · rw [upd_ne (ne_of_none e nD)]
            exact e
          · rw [upd_ne (Ne.symm Da)]
            exact e6
          · obtain ⟨b1, ⟨x7, y7, z7, e7⟩, ns, b2, b3, b4⟩ := z1
            obtain ⟨rfl, rfl⟩ := z2
            refine ⟨rfl, _, rfl, _, rfl, a, (n : Int), x7, y7, z7, rfl, by omega, ?_, e7, fun m u7 u8 u9 H8 m0 m1 bt8 e8 => ?_⟩
            · rw [Int.natAbs_natCast]
              exact Nat.lt_of_le_of_lt n2 (by decide)
            · refine ⟨_, bt8 _ _ Da b2, by rw [List.length_map, b3, sizeLine_eq]; omega, fun q u nq e => ?_, ⟨u7, u8, u9, ?_⟩, ns ++ [m], ?_, by rw [List.length_append, b3]; rfl, fun k hk => ?_⟩
              · rw [upd_ne (ne_of_none e nD)]
                exact bt8 _ _ nq (b1 _ _ nq e)
              · rw [upd_ne (Ne.symm Da)]
                exact e8
              · rw [upd_same, List.map_append]
                rfl
              · rcases List.mem_append.mp hk with h | h
                · exact b4 k h
                · rw [List.mem_singleton.mp h]
                  exact ⟨m0, m1⟩
          · obtain ⟨b1, b5, ns, b2, b3, b4⟩ := z
            have r7 := r6.draw fx b1 b5
            refine ⟨D, _, rfl, .inl b2, fun tt H8 s8 e8 => ?_⟩
            refine ⟨by rw [sizeLine_eq]; exact Nat.le_trans (show 3 ≤ 3 from Nat.le_refl 3) (by decide), fun T H9 nT s9 e9 => ?_⟩
            have r9 := (r7.go s8).go s9
            obtain ⟨xs, q1, q2, q3⟩ := r9.put fx
            refine ⟨p, xs, .ref T, rfl, rfl, q1, by rw [q2, sizeLine_eq]; omega, ?_⟩
            exact ⟨_, _, _, _, rfl, q3 T (.ask t ns) ⟨T, tt, rfl, e9, s9 _ _ e8⟩ ⟨by rw [c1, b3]; congr 1; omega, by omega, b4⟩ ⟨names8_str t c4, fun z => nomatch z⟩⟩
      · exact ⟨H, a, p, p3, ys, o, n, j, way, _, _, _, _, rfl, fx, r4, n1, n2, by omega, fun H'' rr => ⟨_, _, _, _, rfl, rr⟩⟩
    · obtain ⟨v5, v6, v7, v8, rfl, bu, ⟨x1, y1, z1, src⟩, nm, xs, rs, d1, d2, d3, d4⟩ := z
      refine ⟨_, rfl, k p xs rs x1 y1 z1 H' np d2 (fun i dd e => ?_) (fun dd h => (d4 dd h).2) bu src d1 d3⟩
      rw [d2]
      exact (d4 dd (List.mem_of_getElem? e)).1
end
end Mine

set_option maxRecDepth 100000
set_option maxHeartbeats 2000000
/-! lambdas as values: made, kept, called by whoever holds them. The captured cells stand in a ground that is wider than the law's -/
namespace LamB
open PySem PySem.Spec PyProof.Rows L2 LamX NdefX
/-- a lambda: its words, its cells, its code object, its defaults -/
structure LF where
  qual : Str
  params : Arguments
  body : Expr
  scope : Scope
  cl : List (Str × Addr)
  c : Addr
  dV : Value
abbrev LF.obj (F : LF) (doc pm ctv : Value) : Obj := { cls := .type "function", data := .func (PySem.W.kdv_fn "<lambda>" F.qual F.params (.expr F.body) F.scope F.cl F.dV doc pm (.ref F.c) ctv) }
abbrev LF.nf (F : LF) : NF := ⟨"<lambda>", F.qual, F.params, [], F.scope, F.cl, F.c⟩
def LamO (f : Addr) (F : LF) : HO := .ext fun h => ∃ doc pm ctv : Value, h.get? f = some (F.obj doc pm ctv)
theorem lamO_at {P : Program} {w : World} {H : Hp} {h : Heap} {f : Addr} {F : LF} (ok : HOk P w H h) (e : H f = some (LamO f F)) : ∃ doc pm ctv : Value, h.get? f = some (F.obj doc pm ctv) := (ok f _ e).1
/-! ### a wider ground -/
structure Up (B B' : Heap) : Prop where
  keep : ∀ a o, B.get? a = some o → B'.get? a = some o
  size : B.objs.size ≤ B'.objs.size
theorem Up.refl (B : Heap) : Up B B := ⟨fun _ _ e => e, Nat.le_refl _⟩
theorem none_down {B B' : Heap} (u : Up B B') {L : Addr} (e : B'.get? L = none) : B.get? L = none := by
  cases q : B.get? L with
  | none => rfl
  | some o =>
    rw [u.keep L o q] at e
    cases e
theorem frames_down {B B' : Heap} (u : Up B B') {h : Heap} : ∀ {l : List Env}, h.FunFrames B' l → h.FunFrames B l
  | [], _ => trivial
  | env :: l, ⟨k, ⟨L, o, e1, e2, e3, e4⟩, r⟩ => ⟨k, ⟨L, o, e1, none_down u e2, e3, e4⟩, frames_down u r⟩
section
variable {P : Program} {w : World} {K : PySem.W.Frag} {mg : Str → Option Value} {B B' : Heap}
theorem Mod.up (m : Mod K mg B) (u : Up B B') : Mod K mg B' :=
  ⟨m.kin.keeps u.keep, m.glob.keeps u.keep, m.blt.elim fun mb q => ⟨mb, q.1.keeps u.keep, q.2⟩, m.nolimit.keeps u.keep⟩
theorem env_down {A : Around} {outer : List Env} {s : Shared} {H : Hp} (e : Env0 P w K mg B' A outer s H) (u : Up B B') (m : Mod K mg B) : Env0 P w K mg B A outer s H :=
  ⟨e.frames, m, fun b o q => e.bs b o (u.keep b o q), Nat.le_trans u.size e.bsz, frames_down u e.funs, e.frf, e.hok, e.bare⟩
theorem FnOk_up {CX : CXT} {k : Nat} {f : Addr} {fd : FuncData} {ps : List Str} {sp : Sp} (F : FnOk P w K mg B CX k f fd ps sp) (u : Up B B') (m : Mod K mg B) : FnOk P w K mg B' CX k f fd ps sp :=
  ⟨F.len, fun A outer s H args us vs Q E hr e => F.run A outer s H args us vs Q E hr (env_down e u m)⟩
end
/-- what captured cells hold, in the ground -/
structure CB (B : Heap) (cl : List (Str × Addr)) (fr : List Str) (ws : List (Option V)) : Prop where
  len : ws.length = fr.length
  all : ∀ y c, cl.lookup y = some c → ∃ v, B.IsCell c v
  inj : ∀ x y c, cl.lookup x = some c → cl.lookup y = some c → x = y
  has : ∀ (i : Nat) (y : Str), fr[i]? = some y → ∃ c, cl.lookup y = some c ∧ ∀ v, ws[i]? = some (some v) → ∃ u, L2.RelV v u ∧ B.IsCell c (some u)
theorem CB.at {B h : Heap} {H : Hp} {cl : List (Str × Addr)} {fr : List Str} {ws : List (Option V)} (C : CB B cl fr ws) (bs : ∀ b o, B.get? b = some o → h.get? b = some o ∧ H b = none) : CellsAt cl fr ws h H :=
  ⟨C.len, fun y c e => by
    obtain ⟨v, o, e1, e2⟩ := C.all y c e
    exact ⟨(bs c o e1).2, v, o, (bs c o e1).1, e2⟩, C.inj, fun i y e => by
    obtain ⟨c, e1, e2⟩ := C.has i y e
    refine ⟨c, e1, fun v q => ?_⟩
    obtain ⟨u, r, o, e3, e4⟩ := e2 v q
    exact ⟨u, r, o, (bs c o e3).1, e4⟩⟩
/-- the value at f answers a call by the promise sp, wherever G is true of the heap -/
structure Acts (P : Program) (w : World) (K : PySem.W.Frag) (mg : Str → Option Value) (B : Heap) (CX : CXT) (k : Nat) (f : Addr) (G : Hp → Prop) (sp : Sp) : Prop where
  fn : ∀ (H : Hp) (h : Heap), HOk P w H h → G H → PySem.W.FnAt f h
  run : ∀ (A : Around) (outer : List Env) (s : Shared) (H : Hp) (us : List Value) (vs : List V) (Q : VK) (E : XK), Room k A → Env0 P w K mg B A outer s H → G H → Vals vs us → sp vs H Q E →
    codeAny (model P w) A (.call (.ref f) ⟨us, []⟩) (CR CX outer P w H s Q E) s
/-- the heap holds the lambda, its code and its defaults -/
def LamH (f : Addr) (F : LF) (D : Hp → Prop) (H : Hp) : Prop := H f = some (LamO f F) ∧ H F.c = some (CodeO F.c F.qual) ∧ D H
section
variable {CX : CXT} {P : Program} {w : World} {K : PySem.W.Frag} {mg : Str → Option Value} {B : Heap} {N ps fr : List Str} {F : LF} {f : Addr} {k n : Nat} {ws : List (Option V)} {dvs : List V} {D : Hp → Prop} {tb : XK → TE}
/-- THE RULE: a lambda by its body -/
theorem acts_of (S : NScope N ps fr F.scope) (C : CB B F.cl fr ws) (hn : n + dvs.length = ps.length)
    (hb : ∀ (doc pm ctv : Value) (s : Shared) (H : Hp) (us : List Value), HOk P w H s.heap → D H → us.length = n → ∃ ds, Vals dvs ds ∧ BindsTo s (PySem.W.kdv_fn "<lambda>" F.qual F.params (.expr F.body) F.scope F.cl F.dV doc pm (.ref F.c) ctv) ⟨us, []⟩ (ps.zip (us ++ ds)))
    (hbody : ∀ (A : Around) (outer : List Env) (s : Shared) (H : Hp) (E : XK), Room k (A.deeper (envF F.nf f s.heap.objs.size)) → PE (ncx CX P w K mg B N F.nf f A outer s H E) F.body (tb E)) :
    Acts P w K mg B CX (k + 1) f (LamH f F D) (fun vs H Q E => vs.length = n ∧ tb E (startF N (vs ++ dvs) ws) H Q) := by
  refine ⟨fun H h ok g => ?_, fun A outer s H us vs Q E hr e0 g r sp => ?_⟩
  · obtain ⟨doc, pm, ctv, e⟩ := lamO_at ok g.1
    exact ⟨_, _, _, _, e⟩
  · obtain ⟨hl, ht⟩ := sp
    obtain ⟨doc, pm, ctv, e⟩ := lamO_at e0.hok g.1
    have noLim : s.heap.NoLimit := e0.mod.nolimit.keeps fun b o q => (e0.bs b o q).1
    obtain ⟨ds, rd, bd⟩ := hb doc pm ctv s H us e0.hok g.2.2 (r.length.symm.trans hl)
    have r2 : Vals (vs ++ dvs) (us ++ ds) := r.append rd
    have hlen : (vs ++ dvs).length = ps.length := by rw [List.length_append, hl]; exact hn
    refine PySem.W.kla_callFunE hr.depth e rfl S.co S.gen rfl (codeO_at e0.hok g.2.1) ?_
    refine bd _ _ _ _ ?_
    refine wpAny_newFunctionEnv S.nocell (fun ⟨y, _⟩ hy => S.par y (List.of_mem_zip hy).1) (fun h₁ ns sb => ⟨noLim.fresh _ sb, ?_⟩) S.kind
    show codeAny _ _ (.expr F.body (envF F.nf f s.heap.objs.size)) _ _
    have kp : ∀ b o, s.heap.get? b = some o → h₁.get? b = some o := fun b o q => sb.extBut b o (Nat.ne_of_lt (Heap.lt_size q)) (Heap.get?_push_of_some _ q)
    have J : Inv (ncx CX P w K mg B N F.nf f A outer s H E) [] (startF N (vs ++ dvs) ws) H { s with heap := h₁, toks := s.toks + (ps.zip (us ++ ds)).length } := inv_startN (F := F.nf) S hr.hd e0 hlen r2 (C.at e0.bs) ns kp
    refine PySem.W.kla_codeExpr (wpAny_mono ((hbody A outer s H E (hr.deeper _)).run [] _ _ H Q J ht) (fun v s' q => ?_) fun _ _ q => q)
    obtain ⟨x, H', J', rv, q⟩ := q
    exact ⟨x, H', J'.os, J'.bare, J'.base, J'.hok, rv, q⟩
end
/-! ### the call -/
/-- x(..), the i-th slot holding something that acts -/
def tAct (P : Program) (w : World) (K : PySem.W.Frag) (mg : Str → Option Value) (B : Heap) (CX : CXT) (k i : Nat) (E : XK) (t : TA) : TE := fun σ H Q => ∃ (f : Addr) (G : Hp → Prop) (sp : Sp), σ[i]? = some (some (.ref f)) ∧ Acts P w K mg B CX k f G sp ∧ G H ∧
  t σ H fun vs H1 => G H1 ∧ sp vs H1 Q E
section
variable {X : Cx} {CX : CXT} {i j k : Nat} {x : Str} {E : XK} {t : TA} {e : Expr} {es : List Expr} {p pos : Pos} {pins : List (Addr × Obj)} {σ : L2.St} {H : Hp} {s : Shared}
theorem run_act {Q : VK} {f : Addr} {G : Hp → Prop} {sp : Sp} {us : List Value} {vs : List V} (a : Acts X.prog X.w X.K X.mg X.base CX k f G sp) (hr : Room k X.A) (hx : Passes CX X E) (I : Inv X pins σ H s) (g : G H) (r : Vals vs us) (q : sp vs H Q E) :
    wpAny (model X.prog X.w) X.A (call (.ref f) us) (EP X pins σ Q) X.xe s := by
  refine wpAny_call (codeAny_mono (a.run X.A X.stack s H us vs Q E hr I.env0 g r q) fun res s' z => ?_)
  match res, z with
  | .error _, z => exact hx pins σ H s _ s' I z
  | .ok (.ret _), z => exact I.after z
theorem pe_act (hr : Room k X.A) (hx : Passes CX X E) (hN : X.N[i]? = some x) (hv : Vis X.env.scope x) (ha : PA X (e :: es) t)
    (hd : (x == ("__debug__" : Str)) = false := by decide) (hcd : (x == ("__classdict__" : Str)) = false := by decide)
    (he : starEach (e :: es) X.env = (false, eval e X.env) :: starEach es X.env := by rfl) (hpl : (backTo pos (starEach es X.env)).any (·.1) = false := by rfl) :
    PE X (.Call (.Name x p) (e :: es) [] pos) (tAct X.prog X.w X.K X.mg X.base CX k i E t) := by
  refine ⟨fun pins s σ H Q I ⟨f, G, sp, hs, a, g, ht⟩ => ?_⟩
  refine wpAny_Call_Name_kw (thn ((pe_var (pos := p) hN hv hd hcd).run pins s σ H (fun v H1 => v = .ref f ∧ H1 = H) I ⟨.ref f, hs, rfl, rfl⟩) fun u s1 ⟨v, H1, I1, r1, z⟩ => ?_)
  obtain ⟨z1, z2⟩ := z
  subst z1
  rw [z2] at I1
  obtain rfl : u = Value.ref f := r1
  refine PySem.W.callWith_F (first := []) (a.fn H _ I1.hok g) (thn (ha.run pos pins s1 σ H _ I1 ht) fun us s2 ⟨vs, H2, I2, r, g2, q⟩ => ⟨a.fn H2 _ I2.hok g2, ?_⟩) he hpl
  exact run_act a hr hx I2 g2 r q
theorem pe_act0 (hr : Room k X.A) (hx : Passes CX X E) (hN : X.N[i]? = some x) (hv : Vis X.env.scope x)
    (hd : (x == ("__debug__" : Str)) = false := by decide) (hcd : (x == ("__classdict__" : Str)) = false := by decide) :
    PE X (.Call (.Name x p) [] [] pos) (tAct X.prog X.w X.K X.mg X.base CX k i E tNil) := by
  refine ⟨fun pins s σ H Q I ⟨f, G, sp, hs, a, g, g2, q⟩ => ?_⟩
  refine wpAny_Call_Name_kw (thn ((pe_var (pos := p) hN hv hd hcd).run pins s σ H (fun v H1 => v = .ref f ∧ H1 = H) I ⟨.ref f, hs, rfl, rfl⟩) fun u s1 ⟨v, H1, I1, r1, z⟩ => ?_)
  obtain ⟨z1, z2⟩ := z
  subst z1
  rw [z2] at I1
  obtain rfl : u = Value.ref f := r1
  refine PySem.W.callWith_F0 (first := []) (a.fn H _ I1.hok g) ?_
  exact run_act a hr hx I1 g2 .nil q
end
/-- .. in a try: what is wanted of an exception hangs on the slots -/
def tActS (P : Program) (w : World) (K : PySem.W.Frag) (mg : Str → Option Value) (B : Heap) (CX : CXT) (k i : Nat) (E : L2.St → XK) : TE := fun σ H Q => ∃ (f : Addr) (G : Hp → Prop) (sp : Sp), σ[i]? = some (some (.ref f)) ∧ Acts P w K mg B CX k f G sp ∧ G H ∧ sp [] H Q (E σ)
section
variable {X : Cx} {CX : CXT} {i j k : Nat} {x : Str} {E : L2.St → XK} {p pos : Pos}
theorem pe_actS (hr : Room k X.A) (hx : ∀ σ, PassesAt CX X σ (E σ)) (hN : X.N[i]? = some x) (hv : Vis X.env.scope x)
    (hd : (x == ("__debug__" : Str)) = false := by decide) (hcd : (x == ("__classdict__" : Str)) = false := by decide) :
    PE X (.Call (.Name x p) [] [] pos) (tActS X.prog X.w X.K X.mg X.base CX k i E) := by
  refine ⟨fun pins s σ H Q I ⟨f, G, sp, hs, a, g, q⟩ => ?_⟩
  refine wpAny_Call_Name_kw (thn ((pe_var (pos := p) hN hv hd hcd).run pins s σ H (fun v H1 => v = .ref f ∧ H1 = H) I ⟨.ref f, hs, rfl, rfl⟩) fun u s1 ⟨v, H1, I1, r1, z⟩ => ?_)
  obtain ⟨z1, z2⟩ := z
  subst z1
  rw [z2] at I1
  obtain rfl : u = Value.ref f := r1
  refine PySem.W.callWith_F0 (first := []) (a.fn H _ I1.hok g) ?_
  refine wpAny_call (codeAny_mono (a.run X.A X.stack s1 H [] [] Q (E σ) hr I1.env0 g .nil q) fun res s' z => ?_)
  match res, z with
  | .error _, z => exact hx σ _ _ _ _ _ I1 z
  | .ok (.ret _), z => exact I1.after z
end
/-! ### the making -/
section
variable {X : Cx} {pins : List (Addr × Obj)} {σ : L2.St} {H : Hp} {s : Shared}
theorem inv_lam {F : LF} {t' : Nat} {doc pm ctv : Value} (I : Inv X pins σ H s) :
    Inv X pins σ (upd H s.heap.objs.size (LamO s.heap.objs.size F)) { s with heap := s.heap.push (F.obj doc pm ctv), toks := t' } := by
  have e : (s.heap.push (F.obj doc pm ctv)).get? s.heap.objs.size = some (F.obj doc pm ctv) := Heap.get?_push_size _ rfl
  exact I.laid (a := s.heap.objs.size) (fun b u q => Heap.get?_push_of_some _ q) (Nat.le_refl _) ⟨⟨doc, pm, ctv, e⟩, ⟨_, e⟩, fun h1 h2 ⟨a, b, c, z⟩ st => ⟨a, b, c, st _ z⟩⟩
/-- all but the object at P stays -/
def ButT (P : Addr) (H H' : Hp) : Prop := ∀ b o, b ≠ P → H b = some o → H' b = some o
theorem ButT.refl (P : Addr) (H : Hp) : ButT P H H := fun _ _ _ e => e
theorem ButT.trans {P : Addr} {H H1 H2 : Hp} (a : ButT P H H1) (b : ButT P H1 H2) : ButT P H H2 := fun c o n e => b c o n (a c o n e)
theorem ButT.of {P : Addr} {H H' : Hp} (s : Same H H') : ButT P H H' := fun b o _ e => s b o e
theorem lam_tail {T : List (Addr × Str)} {c P : Addr} {params : Arguments} {body : Expr} {scope : Scope} {pos : Pos} {dV : Value} {E Q : Value → Shared → Prop} (I : Inv X pins σ H s) (TB : TabB X.base X.mg c P) (hcode : X.env.code = .ref c)
    (hm : (P, X.env.qual ++ "<lambda>") ∈ T) (hu : ∀ p ∈ T, p.1 = P → p.2 = X.env.qual ++ "<lambda>") (hT : Tabs T H) (hfree : ∀ y ∈ scope.names, y.2 = .free → ∃ c, X.env.cells.lookup y.1 = some c)
    (go : ∀ (f c' : Addr) (H1 : Hp) (s' : Shared), Inv X pins σ H1 s' → ButT P H H1 → Tabs T H1 → H f = none → H1 f = some (LamO f ⟨X.env.qual ++ "<lambda>", params, body, scope, cloFrom X.env.cells scope.names [], c', dV⟩) → H1 c' = some (CodeO c' (X.env.qual ++ "<lambda>")) → Q (.ref f) s') :
    wpAny (model X.prog X.w) X.A (makeTail "<lambda>" (X.env.qual ++ "<lambda>") params (.expr body) scope X.env dV .none none pos pos.line) Q E s := by
  obtain ⟨qs, tabP, trip, names⟩ := hT _ hm
  have bP : s.heap.BuiltinsAt X.mg P := TB.bm.keeps I.bk
  have atP : s.heap.get? P = some { cls := .none, data := .fields qs } := I.hok P _ tabP
  cases hc : codeAmong pos qs.toList with
  | none =>
    refine PySem.W.kdv_makeTail (mg := X.mg) (c := c) (P := P) (ps := qs) (closure_ok hfree) I.ok.glob (I.mod.glob.keeps I.bk) hcode (TB.code.keeps I.bk) atP trip hc TB.gP bP fun c' ctv doc h' tk ext ge lt rec tab => ?_
    obtain ⟨c2, oc, fs, tq, e2, e3, e4, e5⟩ := rec
    cases e2
    have newC : H c' = none := I.hok.fresh ge
    have J1 := inv_table (t' := tk) (more := #[rawInt pos.line, rawInt pos.col, .ref c']) (h' := h') I tabP (fun b o nb q => ext b o nb q) tab ge ⟨oc, fs, tq, e3, e4, e5⟩
    generalize hG : upd (upd H P (.tbl (qs ++ #[rawInt pos.line, rawInt pos.col, .ref c']))) c' (CodeO c' (X.env.qual ++ "<lambda>")) = G at J1
    have out : ExtN H G := fun b o q nt => by
      rw [← hG, upd_ne (ne_of_none q newC), upd_ne (fun z => nt qs (Option.some.inj (q.symm.trans (by rw [z]; exact tabP))))]
      exact q
    have outP : ButT P H G := fun b o nb q => by
      rw [← hG, upd_ne (ne_of_none q newC), upd_ne nb]
      exact q
    have atC : G c' = some (CodeO c' (X.env.qual ++ "<lambda>")) := by rw [← hG]; exact upd_same
    have tabs : Tabs T G := fun p hp => by
      by_cases hb : p.1 = P
      · rw [hu p hp hb, hb]
        refine ⟨_, by rw [← hG, upd_ne (ne_of_none tabP newC), upd_same], by rw [Array.toList_append]; exact PySem.TriplesOk_snoc _ _ _ _ trip, fun p' cv q => ?_⟩
        rw [Array.toList_append] at q
        rcases among_app _ trip q with z | z
        · obtain ⟨c0, z1, z2⟩ := names p' cv z
          exact ⟨c0, z1, out _ _ z2 codeO_ne⟩
        · exact ⟨c', z, atC⟩
      · obtain ⟨qs', z1, z2, z3⟩ := hT p hp
        refine ⟨qs', by rw [← hG, upd_ne (ne_of_none z1 newC), upd_ne hb]; exact z1, z2, fun p' cv q => ?_⟩
        obtain ⟨c0, y1, y2⟩ := z3 p' cv q
        exact ⟨c0, y1, out _ _ y2 codeO_ne⟩
    have newF := J1.hok.fresh (Nat.le_refl _)
    have J2 := inv_lam (F := ⟨X.env.qual ++ "<lambda>", params, body, scope, cloFrom X.env.cells scope.names [], c', dV⟩) (t' := tk) (doc := doc) (pm := (X.mg "__name__").getD .none) (ctv := ctv) J1
    exact go h'.objs.size c' _ _ J2 (fun b o nb q => (upd_ne (ne_of_none (outP b o nb q) newF)).trans (outP b o nb q)) (tabs.ext fun b o q => (upd_ne (ne_of_none q newF)).trans q)
      (I.hok.fresh (Nat.le_trans ge (Nat.le_of_lt lt))) upd_same ((upd_ne (Nat.ne_of_lt lt)).trans atC)
  | some cv =>
    obtain ⟨c', e, atC⟩ := names pos cv hc
    subst e
    refine PySem.W.kdv_makeTailHit (mg := X.mg) (c := c) (P := P) (ps := qs) (closure_ok hfree) I.ok.glob (I.mod.glob.keeps I.bk) hcode (TB.code.keeps I.bk) atP trip hc bP fun ctv doc h' tk ext sz => ?_
    have J1 : Inv X pins σ H { s with heap := h', toks := tk } := I.kept ext
    have newF : H h'.objs.size = none := J1.hok.fresh (Nat.le_refl _)
    have J2 := inv_lam (F := ⟨X.env.qual ++ "<lambda>", params, body, scope, cloFrom X.env.cells scope.names [], c', dV⟩) (t' := tk) (doc := doc) (pm := (X.mg "__name__").getD .none) (ctv := ctv) J1
    exact go h'.objs.size c' _ _ J2 (fun b o _ q => (upd_ne (ne_of_none q newF)).trans q) (hT.ext fun b o q => (upd_ne (ne_of_none q newF)).trans q) newF upd_same ((upd_ne (ne_of_none atC newF)).trans atC)
/-- a lambda without defaults -/
def tLamV (P : Addr) (T : List (Addr × Str)) (mk : Addr → LF) : TE := fun _ H Q => Tabs T H ∧ ∀ (f c' : Addr) (H1 : Hp), ButT P H H1 → Tabs T H1 → H f = none → H1 f = some (LamO f (mk c')) → H1 c' = some (CodeO c' (mk c').qual) → Q (.ref f) H1
theorem pe_lamV {T : List (Addr × Str)} {c P : Addr} {params : Arguments} {body : Expr} {scope : Scope} {pos : Pos} (TB : TabB X.base X.mg c P) (hcode : X.env.code = .ref c)
    (hm : (P, X.env.qual ++ "<lambda>") ∈ T) (hu : ∀ p ∈ T, p.1 = P → p.2 = X.env.qual ++ "<lambda>") (L : ∀ y ∈ scope.names, y.2 = .free → X.env.scope.names.lookup y.1 = some .cell ∨ X.env.scope.names.lookup y.1 = some .free) (hdef : defaultsOf params X.env = ([], [])) :
    PE X (.Lambda params body scope pos) (tLamV P T fun c' => ⟨X.env.qual ++ "<lambda>", params, body, scope, cloFrom X.env.cells scope.names [], c', .none⟩) := by
  refine ⟨fun pins s σ H Q I ⟨hT, h⟩ => ?_⟩
  refine PySem.W.kla_eval hdef ?_
  rw [makeFunction_eq]
  simp only [List.zip_nil_right, List.filterMap_nil, List.isEmpty_nil, if_true, pure_bind]
  exact lam_tail I TB hcode hm hu hT (fun y hy z => (L y hy z).elim (fun q => I.ok.has _ (.inl q)) fun q => I.ok.has _ (.inr q)) fun f c' H1 s' J x1 x2 x3 x4 x5 => ⟨.ref f, H1, J, rfl, h f c' H1 x1 x2 x3 x4 x5⟩
/-- a lambda with one default -/
def tLamD (P : Addr) (T : List (Addr × Str)) (te : TE) (mk : Addr → Addr → LF) : TE := fun σ H Q => te σ H fun v H0 => Tabs T H0 ∧ ∀ (f c' t : Addr) (H1 : Hp), ButT P H0 H1 → Tabs T H1 → H0 t = none → H1 t = some (.tup [v]) → H0 f = none → H1 f = some (LamO f (mk t c')) → H1 c' = some (CodeO c' (mk t c').qual) → Q (.ref f) H1
theorem pe_lamD {T : List (Addr × Str)} {c P : Addr} {params : Arguments} {body e : Expr} {scope : Scope} {pos : Pos} {te : TE} (TB : TabB X.base X.mg c P) (hcode : X.env.code = .ref c)
    (hm : (P, X.env.qual ++ "<lambda>") ∈ T) (hu : ∀ p ∈ T, p.1 = P → p.2 = X.env.qual ++ "<lambda>") (L : ∀ y ∈ scope.names, y.2 = .free → X.env.scope.names.lookup y.1 = some .cell ∨ X.env.scope.names.lookup y.1 = some .free) (hd : params.defaults = [e]) (hk : params.kw_defaults = []) (he : PE X e te) :
    PE X (.Lambda params body scope pos) (tLamD P T te fun t c' => ⟨X.env.qual ++ "<lambda>", params, body, scope, cloFrom X.env.cells scope.names [], c', .ref t⟩) := by
  refine ⟨fun pins s σ H Q I h => ?_⟩
  refine PySem.W.kdv_lam (by rw [hd]; rfl) hk ?_
  rw [hd]
  refine PySem.W.kdv_all1 (thn (he.run pins s σ H _ I h) fun u s1 ⟨v, H0, J, r, hT, q⟩ => PySem.W.kdv_all0 ?_)
  rw [makeFunction_eq]
  simp only [List.zip_nil_right, List.filterMap_nil, List.isEmpty_nil, List.isEmpty_cons, if_true, pure_bind, Bool.false_eq_true, if_false]
  refine wpAny_bind (wpAny_newTextTuple ?_)
  have newT : H0 s1.heap.objs.size = none := J.hok.fresh (Nat.le_refl _)
  have atT : (s1.heap.push ({ cls := .type "tuple", data := .seq [u].toArray } : Obj)).get? s1.heap.objs.size = some ({ cls := .type "tuple", data := .seq [u].toArray } : Obj) := Heap.get?_push_size _ rfl
  have J1 : Inv X pins σ (upd H0 s1.heap.objs.size (.tup [v])) { s1 with heap := s1.heap.push ({ cls := .type "tuple", data := .seq [u].toArray } : Obj), toks := s1.toks } :=
    J.laid (t' := s1.toks) (fun b o q => Heap.get?_push_of_some _ q) (Nat.le_refl _) ⟨by show 1 ≤ sizeLine; decide, [u], .cons r .nil, _, atT, rfl, _, rfl⟩
  have grow : ∀ b o, H0 b = some o → upd H0 s1.heap.objs.size (.tup [v]) b = some o := fun b o q => (upd_ne (ne_of_none q newT)).trans q
  refine lam_tail J1 TB hcode hm hu (hT.ext grow) (fun y hy z => (L y hy z).elim (fun q => I.ok.has _ (.inl q)) fun q => I.ok.has _ (.inr q)) fun f c' H1 s' J2 x1 x2 x3 x4 x5 => ⟨.ref f, H1, J2, rfl, q f c' _ H1 (fun b o nb z => x1 b o nb (grow b o z)) x2 newT (x1 _ _ ?_ upd_same) ?_ x4 x5⟩
  · intro z
    obtain ⟨qs, z1, _⟩ := hT _ hm
    have z1 : H0 P = some (.tbl qs) := z1
    rw [← z, newT] at z1
    cases z1
  · cases z : H0 f with
    | none => rfl
    | some o =>
      rw [grow f o z] at x3
      cases x3
end
end LamB

set_option maxRecDepth 100000
set_option maxHeartbeats 2000000
/-! a list comprehension whose element knows the state at which the block begins (what cells hold that the block itself doesn't name) -/
namespace LamB
open PySem PySem.Spec PyProof.Rows L2 LamX NdefX
abbrev blkCells (X : Cx) (s : Shared) (scope : Scope) : List (Str × Addr) := cellsFrom (s.heap.objs.size + 1) scope.names (cloFrom X.env.cells scope.names [])
/-- the block's context when it begins at s -/
abbrev blkI (X : Cx) (s : Shared) (H : Hp) (scope : Scope) (C : Addr) (fp : List Addr) : Cx := X.blk s H scope (compEnvC scope (blkCells X s scope) C X.env) fp
theorem pe_lcI {X : Cx} {elt tg iter : Expr} {scope : Scope} {own : List (Str × Nat)} {pos : Pos} {wi : TI} {g : TG} {te : L2.St → TE} (hc : X.calm = true) (hN : X.N.Nodup) (hi : PI X tg iter wi) (ok : BlkOk X.N X.env.scope scope own)
    (hg : ∀ (s : Shared) (H : Hp) (C : Addr) (cl : List (Str × Addr)) (fp : List Addr), PG (X.blk s H scope (compEnvC scope cl C X.env) fp) tg g)
    (he : ∀ (pins : List (Addr × Obj)) (σ : L2.St) (s : Shared) (H : Hp) (C : Addr) (fp : List Addr), Inv X pins σ H s → (∀ b ∈ fp, FpOk X pins H b) → PE (blkI X s H scope C fp) elt (te σ)) (hs : ∀ x, foldedSetIterable iter X.env x = pure x := by intro _; rfl) :
    PE X (.ListComp elt [⟨tg, iter, [], 0⟩] scope pos) (fun σ H Q => tLc wi g tYes (te σ) (own.map (·.2)) σ H Q) := by
  refine ⟨fun pins s σ H Q I0 reading => ?_⟩
  rw [eval_ListComp]
  have frees : ∀ y ∈ scope.names, y.2 = .free → ∃ c, X.env.cells.lookup y.1 = some c := fun y hy z => (ok.free y hy z).elim (fun q => I0.ok.has _ (.inl q)) fun q => I0.ok.has _ (.inr q)
  refine wpAny_comprehension_free (use := none) rfl hs (closure_ok frees) ok.kind (fun y hy z => by rw [ok.uniq y hy, z]) (thn (hi.run pins s σ H _ I0 reading) fun _ sa ha => thn ha fun _ sb hb => ?_)
  obtain ⟨it, fp, tn, J, Hb, rfl, Ib, TT, stb, fpb, rest⟩ := hb
  refine wpAny_newObj_type (newEnv_comp ?_) (Nat.zero_le _)
  obtain ⟨L, hL⟩ : ∃ L, L = sb.heap.objs.size := ⟨_, rfl⟩
  have freshL : Hb L = none := Ib.hok.fresh (Nat.le_of_eq hL.symm)
  obtain ⟨W, ⟨m0, wBegin⟩, turns⟩ := rest L freshL
  rw [← hL]
  obtain ⟨sc, hsc⟩ : ∃ sc : Shared, sc = { sb with heap := sb.heap.push { cls := .type "list", data := .seq ([] : List Value).toArray } } := ⟨_, rfl⟩
  have heapC : sc.heap = sb.heap.push { cls := .type "list", data := .seq ([] : List Value).toArray } := by rw [hsc]
  have more : ∀ b o, sb.heap.get? b = some o → sc.heap.get? b = some o := fun b o q => by rw [heapC]; exact Heap.get?_push_of_some _ q
  obtain ⟨Hc, hHc⟩ : ∃ Hc, Hc = upd Hb L (.lst []) := ⟨_, rfl⟩
  have Ic : Inv X pins σ Hc sc := by
    rw [hHc, hsc]
    exact Ib.laid (t' := sb.toks) (fun b o q => Heap.get?_push_of_some _ q) (Nat.le_of_eq hL.symm) ⟨Nat.zero_le _, [], 0, .nil, by rw [hL]; exact Heap.get?_push_size _ rfl⟩
  rw [← hHc] at wBegin
  have small : ∀ b ∈ fp, b < sb.heap.objs.size := fun b hb => (TT.obj _ _ stb b hb).elim fun o q => Heap.lt_size q.1
  have fpc : ∀ b ∈ fp, FpOk X pins Hc b ∧ b < sc.heap.objs.size := fun b hb =>
    ⟨⟨by rw [hHc, upd_ne (by rw [hL]; exact Nat.ne_of_lt (small b hb))]; exact (fpb b hb).1, (fpb b hb).2⟩, by rw [heapC, Heap.size_push]; exact Nat.lt_succ_of_lt (small b hb)⟩
  have stc : tn 0 sc.heap := TT.keep _ _ _ stb fun b _ o q => more b o q
  have Id := block_start Ic ok hN fpc
  have pg := hg sc Hc sc.heap.objs.size (blkCells X sc scope) fp
  have pe := he pins σ sc Hc sc.heap.objs.size fp Ic fun b hb => (fpc b hb).1
  show codeAny _ _ (.compStart (.ListComp elt [⟨tg, iter, [], 0⟩] scope pos) 0 (.ref it) (.ref L) (compEnvC scope (cellsFrom (({ sb with heap := sb.heap.push { cls := .type "list", data := .seq ([] : List Value).toArray } } : Shared).heap.objs.size + 1) scope.names (cloFrom X.env.cells scope.names [])) _ X.env)) _ _
  rw [← hsc]
  obtain ⟨ce, hce⟩ : ∃ ce, ce = compEnvC scope (blkCells X sc scope) sc.heap.objs.size X.env := ⟨_, rfl⟩
  have ceL : ce.locals = sc.heap.objs.size := by rw [hce]; rfl
  rw [← hce] at Id pg
  rw [show blkI X sc Hc scope sc.heap.objs.size fp = X.blk sc Hc scope ce fp by rw [hce]] at pe
  show codeAny _ _ (.compStart (.ListComp elt [⟨tg, iter, [], 0⟩] scope pos) 0 (.ref it) (.ref L) (compEnvC scope (blkCells X sc scope) sc.heap.objs.size X.env)) (compPost (model X.prog X.w) X.A X.xe none _ (.ref L) sc.heap.objs.size) { sc with heap := pushCells (sc.heap.push { cls := .type "dict", data := .dict #[] }) scope.names }
  rw [← hce]
  obtain ⟨sd, hsd⟩ : ∃ sd : Shared, sd = { sc with heap := pushCells (sc.heap.push { cls := .type "dict", data := .dict #[] }) scope.names } := ⟨_, rfl⟩
  rw [← hsd] at Id ⊢
  have std : tn 0 sd.heap := TT.keep _ _ _ stc fun b _ o q => by rw [hsd]; exact pushCells_keeps _ _ _ _ (Heap.get?_push_of_some _ q)
  have still : ∀ {σ' : L2.St} {H' : Hp} {s' : Shared}, Inv (X.blk sc Hc scope ce fp) [] σ' H' s' → (∀ b ∈ fp, H' b = none) → ∀ b ∈ fp, FpOk (X.blk sc Hc scope ce fp) [] H' b := fun J no b hb =>
    ⟨no b hb, (J.ok.exf b hb).1, J.ok.exfs b hb, .inl hb, fun y c q => (J.ok.exf b hb).2 y c q, fun p hp => absurd (show p ∈ ([] : List (Addr × Obj)) ++ [] from hp) (by simp)⟩
  have whole : codeAny (model X.prog X.w) X.A (.compLoop (.ListComp elt [⟨tg, iter, [], 0⟩] scope pos) 0 (.ref it) (.ref L) ce) (compPost (model X.prog X.w) X.A X.xe none (EP X pins σ Q) (.ref L) sc.heap.objs.size) sd := by
    refine compLoop_any (fun n s' => ∃ i H', Inv (X.blk sc Hc scope ce fp) [] (wipe σ (own.map (·.2))) H' s' ∧ tn i s'.heap ∧ (∀ b ∈ fp, H' b = none) ∧ W i n H') (fun n s1 ⟨i, H1, I1, st1, no1, w1⟩ => ?_) m0 ⟨0, Hc, Id, std, fun b hb => (fpc b hb).1.1, wBegin⟩
    rcases turns i n H1 w1 with ⟨stop, qEnd⟩ | ⟨goes, Nx, later, step⟩
    · refine thnF (TT.done (X.blk sc Hc scope ce fp) rfl rfl rfl hc i [] s1 _ H1 (fun _ _ => False) I1 (still I1 no1) st1 stop) fun r s2 ⟨hr, I2⟩ => ?_
      subst hr
      have back : Inv X pins σ H1 s2 := Ic.call' (ch := fp) I2.os I2.base I2.hok I2.bare fun b hb => ⟨(fpc b hb).1.2.2.2.1, (fpc b hb).1.2.1, (fpc b hb).1.2.2.2.2.1, (fpc b hb).1.2.2.2.2.2⟩
      have noC : H1 sc.heap.objs.size = none := by
        rw [← ceL]
        exact I2.free
      obtain ⟨m, ns, _⟩ := I2.loc
      have ns : s2.heap.Ns ce.locals m := ns
      rw [ceL] at ns
      obtain ⟨f0, f1, f2, f3, f4, f5⟩ := Ic.fpOk (Nat.le_refl _) noC
      exact ⟨m, ns, fun h' sb' => ⟨.ref L, H1, back.turned (t' := s2.toks) (fun b o nb q => (sb'.2 b nb).trans q) f0 f1 f3 f4 f5, rfl, qEnd⟩⟩
    · refine thnF (TT.item (X.blk sc Hc scope ce fp) rfl rfl rfl hc i [] s1 _ H1 (fun _ _ => False) I1 (still I1 no1) st1 goes) fun r s2 ⟨u, hr, h2⟩ => ?_
      subst hr
      refine thnF h2 fun _ s3 ⟨x, H3, I3, r3, y3, st3, no3⟩ => ?_
      refine thnF (pg.run _ s3 _ H3 x u _ (I3.pinned (still I3 no3) (TT.obj _ _ st3)) r3 (step x H3 y3)) fun _ s4 ⟨σ4, H4, I4, same, q4⟩ => ?_
      refine wpAny_tests_nil ?_
      simp only [if_true]
      have q4 : (if true = true then te σ σ4 H4 _ else Nx H4) := q4
      simp only [if_true] at q4
      refine thnF (pe.run _ s4 σ4 H4 _ I4 q4) fun z s5 ⟨y, H5, I5, r5, acc, atL, few, nx⟩ => ?_
      refine app_ok (X := X.blk sc Hc scope ce fp) I5 atL few r5 fun s6 I6 => ?_
      obtain ⟨m', less, w'⟩ := later _ nx
      have keep : ∀ b ∈ fp, ∀ o, s3.heap.get? b = some o → s6.heap.get? b = some o ∧ upd H5 L (.lst (acc ++ [y])) b = none := fun b hb o q =>
        have z := I6.pin (b, o) (List.mem_append_right _ (List.mem_append_right _ (mem_pinsAt hb q)))
        ⟨z.1, z.2.1⟩
      refine ⟨m', less, i + 1, _, (I6.unpinned (pins := [])).weak (by rw [← same, wipe_length]) (fun j v q => ?_), TT.keep _ _ _ st3 fun b hb o q => (keep b hb o q).1, fun b hb => ?_, w'⟩
      · rw [← same] at q
        exact (wipe_some q).1
      · obtain ⟨o, q, _⟩ := TT.obj _ _ st3 b hb
        exact (keep b hb o q).2
  exact codeAny_compStart_list whole (TT.self X.A 0 _ _ _ std whole)
end LamB

set_option maxRecDepth 100000
set_option maxHeartbeats 2000000
/-! the wider ground: what is written, and the cells of a frame as they stand -/
namespace LamB
open PySem PySem.Spec PyProof.Rows L2 LamX NdefX
def ground (h : Heap) (p : Addr → Bool) : Heap := PySem.W.hideAll h ((List.range h.objs.size).filter fun b => !p b)
theorem ground_size (h : Heap) (p : Addr → Bool) : (ground h p).objs.size = h.objs.size := PySem.W.hideAll_size _ _
theorem ground_get {h : Heap} {p : Addr → Bool} {b : Addr} {o : Obj} (e : h.get? b = some o) (hp : p b = true) : (ground h p).get? b = some o :=
  PySem.W.hideAll_get _ e fun z => by
    have := (List.mem_filter.mp z).2
    rw [hp] at this
    cases this
theorem ground_of {h : Heap} {p : Addr → Bool} {b : Addr} {o : Obj} (e : (ground h p).get? b = some o) : h.get? b = some o ∧ p b = true := by
  have q := PySem.W.of_hideAll _ e
  refine ⟨q, ?_⟩
  cases hp : p b with
  | true => rfl
  | false =>
    have z := PySem.W.hideAll_none (h := h) ((List.range h.objs.size).filter fun b => !p b) (b := b) (List.mem_filter.mpr ⟨List.mem_range.mpr (Heap.lt_size q), by rw [hp]; rfl⟩)
    have e : (PySem.W.hideAll h ((List.range h.objs.size).filter fun b => !p b)).get? b = some o := e
    rw [z] at e
    cases e
/-- what is written, and the cells -/
def isGr (X : Cx) (b : Addr) : Bool := (X.base.get? b).isSome || X.env.cells.any fun q => q.2 == b
abbrev grOf (X : Cx) (s : Shared) : Heap := ground s.heap (isGr X)
/-- the cells lie apart from all frames -/
def Far (X : Cx) : Prop := ∀ b, (∃ y, (y, b) ∈ X.env.cells) → b ∉ frs X.stack
section
variable {X : Cx} {pins : List (Addr × Obj)} {σ : L2.St} {H : Hp} {s : Shared}
theorem isGr_or {b : Addr} (h : isGr X b = true) : (∃ o, X.base.get? b = some o) ∨ ∃ y, (y, b) ∈ X.env.cells := by
  unfold isGr at h
  rw [Bool.or_eq_true] at h
  refine h.imp (fun z => Option.isSome_iff_exists.mp z) fun z => ?_
  obtain ⟨q, hq, e⟩ := List.any_eq_true.mp z
  have e : q.2 = b := by simpa using e
  exact ⟨q.1, by rw [← e]; exact hq⟩
theorem up_gr (I : Inv X pins σ H s) : Up X.base (grOf X s) :=
  ⟨fun b o q => ground_get (I.bk b o q) (by unfold isGr; rw [q]; rfl), by rw [ground_size]; exact Nat.le_trans I.ok.bsz I.sz⟩
/-- no cell bears two names, each is told by look-up -/
def Told (X : Cx) : Prop := ∀ y c, (y, c) ∈ X.env.cells → X.env.cells.lookup y = some c
theorem fr_gr (I : Inv X pins σ H s) (far : Far X) : ∀ L ∈ frs X.stack, (grOf X s).get? L = none := fun L hL => by
  cases q : (grOf X s).get? L with
  | none => rfl
  | some o =>
    rcases isGr_or (ground_of q).2 with ⟨o', z⟩ | z
    · have := (I.env0.funs.mem hL).1
      rw [z] at this
      cases this
    · exact absurd hL (far L z)
theorem env_gr (I : Inv X pins σ H s) (far : Far X) (told : Told X) : Env0 X.prog X.w X.K X.mg (grOf X s) X.A X.stack s H := by
  have e := I.env0
  refine ⟨e.frames, Mod.up e.mod (up_gr I), fun b o q => ?_, Nat.le_of_eq (ground_size _ _), funFrames_none e.funs (fr_gr I far), e.frf, e.hok, e.bare⟩
  obtain ⟨z1, z2⟩ := ground_of q
  refine ⟨z1, ?_⟩
  rcases isGr_or z2 with ⟨o', z⟩ | ⟨y, z⟩
  · exact (e.bs b o' z).2
  · exact I.freeC y b (told y b z)
/-- .. within a block that began at s -/
theorem env_blk {scope : Scope} {C : Addr} {fp : List Addr} {pins' : List (Addr × Obj)} {σ' : L2.St} {H' : Hp} {s' : Shared} (I : Inv X pins σ H s) (far : Far X) (told : Told X) (hfp : ∀ b ∈ fp, FpOk X pins H b) (J : Inv (blkI X s H scope C fp) pins' σ' H' s') :
    Env0 X.prog X.w X.K X.mg (grOf X s) X.A X.stack s' H' := by
  have e := J.env0
  refine ⟨e.frames, Mod.up e.mod (up_gr I), fun b o q => ?_, by rw [ground_size]; exact J.sz, funFrames_none e.funs (fr_gr I far), e.frf, e.hok, e.bare⟩
  obtain ⟨z1, z2⟩ := ground_of q
  by_cases hb : ∃ y, (y, b) ∈ X.env.cells
  · obtain ⟨y, z⟩ := hb
    have no : b ∉ fp := fun hm => ((hfp b hm).2.2.2.2.1 y b (told y b z)) rfl
    exact ⟨J.base.keep b o z1 (I.freeC y b (told y b z)) (far b ⟨y, z⟩) no, J.base.free b o z1 (I.freeC y b (told y b z)) no⟩
  · rcases isGr_or z2 with ⟨o', z⟩ | z
    · have q2 := I.bk b o' z
      rw [z1] at q2
      cases q2
      exact e.bs b o z
    · exact absurd z hb
/-- what a function made here captures, in the ground -/
theorem cb_gr {cl : List (Str × Addr)} {fr : List Str} {js : List Nat} (I : Inv X pins σ H s) (cp : Caps X cl fr js) : CB (grOf X s) cl fr (js.map (slotAt σ)) := by
  have C := cells_of I cp
  have up : ∀ {y c v}, cl.lookup y = some c → s.heap.IsCell c v → (grOf X s).IsCell c v := fun {y c v} e ⟨o, e1, e2⟩ =>
    ⟨o, ground_get e1 (by
      unfold isGr
      rw [Bool.or_eq_true]
      exact .inr (List.any_eq_true.mpr ⟨(y, c), PySem.mem_of_lookup (cp.sub y c e), by simp⟩)), e2⟩
  refine ⟨C.len, fun y c e => (C.all y c e).2.elim fun v z => ⟨v, up e z⟩, C.inj, fun i y e => ?_⟩
  obtain ⟨c, e1, e2⟩ := C.has i y e
  exact ⟨c, e1, fun v q => (e2 v q).elim fun u z => ⟨u, z.1, up e1 z.2⟩⟩
/-- the cells of a def's own frame -/
theorem far_own (I : Inv X pins σ H s) (told : Told X) (hfn : ∀ x, X.fn x = true) (hst : X.stack = X.env :: X.outer) (hfr : X.env.frame = some X.env.locals) : Far X := fun b ⟨y, hy⟩ hb => by
  have e := told y b hy
  rw [hst] at hb
  have hb : b ∈ (X.env :: X.outer).filterMap (·.frame) := hb
  rw [List.filterMap_cons, hfr] at hb
  rcases List.mem_cons.mp hb with z | z
  · exact I.cne y b e z
  · obtain ⟨_, o, ho, _⟩ := I.ok.funs.mem z
    exact absurd (Nat.lt_of_lt_of_le (Heap.lt_size ho) (I.ok.cab y b (hfn y) e)) (Nat.lt_irrefl _)
end
/-! ### calls over a wider ground -/
section
variable {X : Cx} {CX : CXT} {k : Nat} {f : Addr} {fd : FuncData} {ps : List Str} {sp : Sp} {dvs : List V} {ds : List Value} {E : XK} {x : Str} {p pos : Pos} {e : Expr} {es : List Expr} {t : TA} {B : Heap}
theorem run_wide {pins : List (Addr × Obj)} {σ : L2.St} {H : Hp} {s : Shared} {Q : VK} {us : List Value} {vs : List V} (hw : Env0 X.prog X.w X.K X.mg B X.A X.stack s H) (F : FnOk X.prog X.w X.K X.mg B CX k f fd ps sp) (hr : Room k X.A) (hb : Binds X.K fd ps ds) (hd : Vals dvs ds) (hx : Passes CX X E)
    (I : Inv X pins σ H s) (r : Vals vs us) (h : sp (vs ++ dvs) H Q E) : wpAny (model X.prog X.w) X.A (call (.ref f) us) (EP X pins σ Q) X.xe s := by
  have r2 := r.append hd
  have len2 : (us ++ ds).length = ps.length := r2.length.symm.trans (F.len _ _ _ _ h)
  refine wpAny_call (codeAny_mono (F.run X.A X.stack s H ⟨us, []⟩ _ _ Q E hr hw (hb s us I.kIn len2) r2 h) fun res s' z => ?_)
  match res, z with
  | .error _, z => exact hx pins σ H s _ s' I z
  | .ok (.ret _), z => exact I.after z
theorem pe_callW (hw : ∀ (pins : List (Addr × Obj)) (σ : L2.St) (H : Hp) (s : Shared), Inv X pins σ H s → Env0 X.prog X.w X.K X.mg B X.A X.stack s H) (F : FnOk X.prog X.w X.K X.mg B CX k f fd ps sp) (hr : Room k X.A) (hg : Gl X x) (hm : X.mg x = some (.ref f)) (hk : PySem.W.keepIn X.K (.ref f) = true)
    (hb : Binds X.K fd ps ds) (hd : Vals dvs ds) (hx : Passes CX X E) (ha : PA X (e :: es) t) (hdb : (x == ("__debug__" : Str)) = false := by decide) (he : starEach (e :: es) X.env = (false, eval e X.env) :: starEach es X.env := by rfl) (hpl : (backTo pos (starEach es X.env)).any (·.1) = false := by rfl) :
    PE X (.Call (.Name x p) (e :: es) [] pos) (tCall sp dvs E t) := by
  refine ⟨fun pins s σ H Q I h => wpAny_Call_Name_kw (ld_glob I hg hm ?_ hdb)⟩
  exact PySem.W.callWith_K (h₀ := X.base) I.ok.mod.kin hk (thn (ha.run pos pins s σ H _ I h) fun us s1 ⟨vs, H1, J, r, q⟩ => ⟨J.kIn, run_wide (hw _ _ _ _ J) F hr hb hd hx J r q⟩) he hpl
end
/-! ### what is known of a def's context when its body is read -/
theorem pss_ok {X : Cx} {ss : List Stmt} {t : TS} (h : (∃ (pins : List (Addr × Obj)) (σ : L2.St) (H : Hp) (s : Shared), Inv X pins σ H s) → PSs X ss t) : PSs X ss t := ⟨fun pins s σ H D I => (h ⟨pins, σ, H, s, I⟩).run pins s σ H D I⟩
theorem pe_ok {X : Cx} {e : Expr} {t : TE} (h : (∃ (pins : List (Addr × Obj)) (σ : L2.St) (H : Hp) (s : Shared), Inv X pins σ H s) → PE X e t) : PE X e t := ⟨fun pins s σ H Q I => (h ⟨pins, σ, H, s, I⟩).run pins s σ H Q I⟩
end LamB

set_option maxRecDepth 100000
set_option maxHeartbeats 2000000
/-! defs whose code objects have tables: the fact, the rule, the end of a row -/
namespace LamB
open PySem PySem.Spec PyProof.Rows L2 LamX
/-- a def as it stands behind the top, its code object at c -/
structure FunC (K : PySem.W.Frag) (x qual : Str) (st : Stmt) (f : Addr) (fd : FuncData) (c : Addr) : Prop where
  ex : ∃ (oc : Value) (od : Option Addr) (kV doc pm : Value) (an : Option Addr) (ct : Value) (osl : Array (Option Value)),
    fd = PySem.W.fnOf x qual (defArgs st) (defBody st) (defScope st) .none kV doc pm an (.ref c) ct ∧ K.lookup f = some ⟨oc, od, .func fd, osl⟩ ∧ PySem.W.codeIn K (.ref c) qual = true
  kp : PySem.W.keepIn K (.ref f) = true
theorem FunC.fn {K : PySem.W.Frag} {x qual : Str} {st : Stmt} {f c : Addr} {fd : FuncData} (F : FunC K x qual st f fd c) : Fun K x qual st f fd := by
  obtain ⟨⟨oc, od, kV, doc, pm, an, ct, osl, e1, e2, e3⟩, kp⟩ := F
  exact ⟨⟨oc, od, kV, doc, pm, an, _, ct, osl, e1, e2, e3⟩, kp⟩
section
variable {P : Program} {w : World} {K : PySem.W.Frag} {mg : Str → Option Value} {base : Heap}
theorem FunC.ok {x qual : Str} {st : Stmt} {f c : Addr} {fd : FuncData} {N ps : List Str} {k : Nat} {sp : Sp} (F : FunC K x qual st f fd c) (S : FnScope N ps (defScope st)) (len : ∀ vs H Q E, sp vs H Q E → vs.length = ps.length)
    (body : ∀ (A : Around) (outer : List Env) (s : Shared) (H : Hp) (vs : List V) (Q : VK) (E : XK), Room k (A.deeper (envOfC qual (defScope st) s.heap.objs.size f (.ref c))) → sp vs H Q E →
      ∃ t, PSs (cxOf CX0 P w K mg base N qual (defScope st) f (.ref c) A outer s H E).nox (defBody st) t ∧ t { nx := fun _ H' => Q .non H', rt := Q } (L2.start N vs) H) : FnOk P w K mg base CX0 (k + 1) f fd ps sp := by
  obtain ⟨oc, od, kV, doc, pm, an, ct, osl, rfl, lk, cd⟩ := F.ex
  refine fn_of lk cd S len fun A outer s H vs Q E hr h => ?_
  obtain ⟨t, ht, q⟩ := body A outer s H vs Q E hr h
  exact ⟨t, ht.nox, q⟩
end
/-- the tables of these defs are empty -/
def DefTabs (K : PySem.W.Frag) (mg : Str → Option Value) (names : List Str) (h : Heap) : Prop := ∀ nm ∈ names, ∀ (a c P : Addr) (o : Obj) (fd : FuncData), mg nm = some (.ref a) → K.lookup a = some o → o.data = .func fd → fd.code = .ref c → PySem.W.codeHdIn K c P = true →
  h.get? P = some { cls := .none, data := .fields #[] }
theorem codeHd_uniq {h : Heap} {c P P' : Addr} (a : PySem.W.CodeHd h c P) (b : h.TableAt c P' #[]) : P = P' := by
  obtain ⟨o, vs, _, _, _, _, _, _, _, a1, _, a3, a4, _⟩ := a
  obtain ⟨⟨o', vs', b1, _, b3, b4⟩, _⟩ := b
  rw [a1] at b1
  cases b1
  rw [a3] at b3
  cases b3
  rw [a4] at b4
  cases b4
  rfl
theorem walk_ofDefs {l : PySem.W.OpenLaw} {n k : Nat} {q : Program} {loose : List Str} {XP : (Str → Option Value) → Heap → Prop} {YP : World → Heap → Prop} {d : DefRec} {K : Params → PySem.W.Frag} {CX : World → CXT} {x : Str} {names : List Str}
    (hn : l.most = some n) (hn2 : n ≤ sizeLine) (hdf : d.params.defaults = []) (hr : Room k callerA) (hrec : (names.all fun nm => (recsOf q).any fun e => e.name == nm) = true) (hY : ∀ (w : World) (h : Heap), YP w h → (K w.params).In h)
    (F : ∀ (w : World) (mg : Str → Option Value) (fa : Addr) (h : Heap), YP w h → (K w.params).In h → h.Ns mainGlobals mg → mg d.name = some (.ref fa) → DefTabs (K w.params) mg names h → LawAtS l w (K w.params) (CX w) k n x mg fa h)
    (hCX : ∀ (w : World) (H : Hp) (s : Shared) (e : Value) (s' : Shared), CX w [] H s (fun _ _ _ => False) e s' → False) :
    PySem.W.WalkO q loose XP YP l.row.toRowW d [] (fun f vs => PySem.call f vs) := by
  refine Att.attach_callB hn hdf fun w s₀ s₁ mg mb fa o pm cd doc a vs ns G Y ho hd hcd hmg hobj hints hlen hbits hg => ?_
  have KX := hY w _ Y
  have tabs : DefTabs (K w.params) mg names s₁.heap := fun nm hnm a1 c P o1 fd1 k1 k2 k3 k4 k5 => by
    obtain ⟨dL, hm, hn1⟩ := List.any_eq_true.mp (List.all_eq_true.mp hrec nm hnm)
    have e1 : dL.name = nm := beq_iff_eq.mp hn1
    obtain ⟨a', o', fd', c', P', h1, h2, h3, h4, h5, h6⟩ := G.T.tab dL hm
    rw [e1, k1] at h1
    cases h1
    have g1 := KX _ _ k2
    rw [g1] at h2
    cases h2
    rw [k3] at h3
    cases h3
    rw [k4] at h4
    cases h4
    have e2 := codeHd_uniq (PySem.W.codeHd_of_K KX k5) h6
    subst e2
    exact h6.2
  obtain ⟨fd, cs, sp, hT, nT, C, hb, hsp, hF⟩ := F w mg fa _ Y KX G.T.g hmg tabs
  exact law_callTs KX G.T.g G.T.b G.T.builtins G.T.nolimit hg hT nT C G.T.bmain hobj hints (Nat.le_trans hlen hn2) hr hF hb (fun H hH hS => hsp H a ns hlen hbits hH hS) fun H e s' => hCX w H s₁ e s'
end LamB

set_option maxRecDepth 100000
set_option maxHeartbeats 2000000
/-! what a lambda answers that was made here, wherever it is called while this frame waits -/
namespace LamB
open PySem PySem.Spec PyProof.Rows L2 LamX NdefX
theorem cells_keys : ∀ (names : List (Str × NameKind)) (n m : Nat) (a b : List (Str × Addr)), a.map (·.1) = b.map (·.1) → (cellsFrom n names a).map (·.1) = (cellsFrom m names b).map (·.1)
  | [], _, _, _, _, h => h
  | (x, k) :: names, n, m, a, b, h => by
    cases k <;> first
      | exact cells_keys names _ _ _ _ h
      | exact cells_keys names _ _ _ _ (by simp [h])
theorem look_nodup : ∀ {l : List (Str × Addr)}, (l.map (·.1)).Nodup → ∀ {y : Str} {c : Addr}, (y, c) ∈ l → l.lookup y = some c
  | [], _, _, _, h => nomatch h
  | (x, d) :: l, nd, y, c, h => by
    rw [List.map_cons, List.nodup_cons] at nd
    rcases List.mem_cons.mp h with z | z
    · cases z
      simp [List.lookup]
    · have ne : (y == x) = false := by
        rw [beq_eq_false_iff_ne]
        intro e
        exact nd.1 (List.mem_map.mpr ⟨(y, c), z, e⟩)
      rw [List.lookup_cons, ne]
      exact look_nodup nd.2 z
/-- the cells of a def's own frame are told by their names -/
theorem told_own {X : Cx} {n : Nat} {names : List (Str × NameKind)} (e : X.env.cells = cellsFrom n names []) (nd : ((cellsFrom 0 names []).map (·.1)).Nodup) : Told X := fun y c h => by
  rw [e] at h ⊢
  exact look_nodup (by rw [cells_keys names n 0 [] [] rfl]; exact nd) h
/-- what functions made here capture, in the ground B -/
def CBall (X : Cx) (B : Heap) (σ : L2.St) : Prop := ∀ (scope : Scope) (fr : List Str) (js : List Nat), (∀ y ∈ scope.names, y.2 = .free → X.env.scope.names.lookup y.1 = some .cell ∨ X.env.scope.names.lookup y.1 = some .free) → (∀ y ∈ fr, (y, NameKind.free) ∈ scope.names) → js.map (fun j => X.N[j]?) = fr.map some →
  CB B (cloFrom X.env.cells scope.names []) fr (js.map (slotAt σ))
theorem cball {X : Cx} {pins : List (Addr × Obj)} {σ : L2.St} {H : Hp} {s : Shared} (I : Inv X pins σ H s) : CBall X (grOf X s) σ := fun _ _ _ h1 h2 h3 => cb_gr I (Caps.made I.ok h1 h2 h3)
/-- the value at f: R tells from which wish (of a value, of an error) on it may be called with no argument -/
def Answers (X : Cx) (CX : CXT) (k : Nat) (σ : L2.St) (H : Hp) (f : Addr) (R : Hp → VK → XK → Prop) : Prop := ∀ B : Heap, Up X.base B → Mod X.K X.mg X.base → CBall X B σ →
  ∃ (G : Hp → Prop) (sp : Sp), Acts X.prog X.w X.K X.mg B CX k f G sp ∧ ∀ H2, Same H H2 → G H2 ∧ ∀ Q E, R H2 Q E → sp [] H2 Q E
theorem Answers.same {X : Cx} {CX : CXT} {k : Nat} {σ : L2.St} {H H' : Hp} {f : Addr} {R : Hp → VK → XK → Prop} (h : Answers X CX k σ H f R) (s : Same H H') : Answers X CX k σ H' f R := fun B u m c => by
  obtain ⟨G, sp, a, q⟩ := h B u m c
  exact ⟨G, sp, a, fun H2 s2 => q H2 (s.trans s2)⟩
theorem answers_of {X : Cx} {CX : CXT} {k : Nat} {σ : L2.St} {H : Hp} {f : Addr} {R : Hp → VK → XK → Prop} {qual : Str} {params : Arguments} {body : Expr} {scope : Scope} {c' : Addr} {dV : Value} {N ps fr : List Str} {js : List Nat} {dvs : List V} {D : Hp → Prop} {tb : XK → TE}
    (hL : H f = some (LamO f ⟨qual, params, body, scope, cloFrom X.env.cells scope.names [], c', dV⟩)) (hc : H c' = some (CodeO c' qual)) (hD : ∀ H2, Same H H2 → D H2) (S : NScope N ps fr scope)
    (h1 : ∀ y ∈ scope.names, y.2 = .free → X.env.scope.names.lookup y.1 = some .cell ∨ X.env.scope.names.lookup y.1 = some .free) (h2 : ∀ y ∈ fr, (y, NameKind.free) ∈ scope.names) (h3 : js.map (fun j => X.N[j]?) = fr.map some) (hn : 0 + dvs.length = ps.length)
    (hb : ∀ (doc pm ctv : Value) (s : Shared) (H : Hp) (us : List Value), HOk X.prog X.w H s.heap → D H → us.length = 0 → ∃ ds, Vals dvs ds ∧ BindsTo s (PySem.W.kdv_fn "<lambda>" qual params (.expr body) scope (cloFrom X.env.cells scope.names []) dV doc pm (.ref c') ctv) ⟨us, []⟩ (ps.zip (us ++ ds)))
    (hbody : ∀ (B : Heap), Up X.base B → Mod X.K X.mg X.base → ∀ (A : Around) (outer : List Env) (s : Shared) (H : Hp) (E : XK), Room k (A.deeper (envF (LF.nf ⟨qual, params, body, scope, cloFrom X.env.cells scope.names [], c', dV⟩) f s.heap.objs.size)) →
      PE (ncx CX X.prog X.w X.K X.mg B N (LF.nf ⟨qual, params, body, scope, cloFrom X.env.cells scope.names [], c', dV⟩) f A outer s H E) body (tb E))
    (hr : ∀ H2, Same H H2 → ∀ Q E, R H2 Q E → tb E (startF N dvs (js.map (slotAt σ))) H2 Q) : Answers X CX (k + 1) σ H f R := fun B u m c =>
  ⟨_, _, acts_of (F := ⟨qual, params, body, scope, cloFrom X.env.cells scope.names [], c', dV⟩) (n := 0) (D := D) S (c scope fr js h1 h2 h3) hn hb (hbody B u m), fun H2 s2 => ⟨⟨s2 _ _ hL, s2 _ _ hc, hD H2 s2⟩, fun Q E r => ⟨rfl, hr H2 s2 Q E r⟩⟩⟩
/-- the defaults stand in a tuple -/
theorem binds_dflt {P : Program} {w : World} {H : Hp} {s : Shared} {t : Addr} {v : V} {fd : FuncData} {p : Str} {us : List Value} {k : Option (Array Value) → Sem (List (Str × Value))} (ok : HOk P w H s.heap) (h : H t = some (.tup [v])) (hu : us.length = 0) (hd : fd.defaults = .ref t)
    (b1 : bindArgs fd ⟨[], []⟩ = seqItems? fd.defaults >>= k) (b2 : ∀ u, k (some [u].toArray) = pure [(p, u)]) : ∃ ds, Vals [v] ds ∧ BindsTo s fd ⟨us, []⟩ ([p].zip (us ++ ds)) := by
  obtain ⟨_, its, r, o, ho, _, n, hdata⟩ := ok t _ h
  obtain ⟨u, rfl, ru⟩ := vals1 r
  have e : us = [] := List.eq_nil_of_length_eq_zero hu
  subst e
  exact ⟨[u], r, BindsTo.of_defaults hd ho hdata b1 (b2 u)⟩
end LamB

set_option maxRecDepth 100000
set_option maxHeartbeats 2000000
/-! a parameter that is called: by a lambda made here, or by a def of the module; the call over a ground chosen when it is made -/
namespace LamB
open PySem PySem.Spec PyProof.Rows L2 LamX NdefX
/-- as Acts, what the value at f is told by the whole environment -/
structure Acts2 (P : Program) (w : World) (K : PySem.W.Frag) (mg : Str → Option Value) (B : Heap) (CX : CXT) (k : Nat) (f : Addr) (G : Hp → Prop) (sp : Sp) : Prop where
  fn : ∀ (A : Around) (outer : List Env) (s : Shared) (H : Hp), Env0 P w K mg B A outer s H → G H → PySem.W.FnAt f s.heap
  run : ∀ (A : Around) (outer : List Env) (s : Shared) (H : Hp) (us : List Value) (vs : List V) (Q : VK) (E : XK), Room k A → Env0 P w K mg B A outer s H → G H → Vals vs us → sp vs H Q E →
    codeAny (model P w) A (.call (.ref f) ⟨us, []⟩) (CR CX outer P w H s Q E) s
section
variable {P : Program} {w : World} {K : PySem.W.Frag} {mg : Str → Option Value} {B : Heap} {CX : CXT} {k : Nat} {f : Addr} {G : Hp → Prop} {sp : Sp}
theorem acts2_of (a : Acts P w K mg B CX k f G sp) : Acts2 P w K mg B CX k f G sp := ⟨fun _ _ _ H e g => a.fn H _ e.hok g, a.run⟩
theorem kin_env {A : Around} {outer : List Env} {s : Shared} {H : Hp} (e : Env0 P w K mg B A outer s H) : K.In s.heap := fun b o q => (e.bs b o (e.mod.kin _ _ q)).1
/-- a def of the module -/
theorem acts2_fun {x q : Str} {st : Stmt} {fd : FuncData} {ps : List Str} (F : Fun K x q st f fd) (O : FnOk P w K mg B CX k f fd ps sp) (hb : Binds K fd ps []) : Acts2 P w K mg B CX k f (fun _ => True) sp := by
  refine ⟨fun A outer s H e _ => ?_, fun A outer s H us vs Q E hr e _ r h => ?_⟩
  · obtain ⟨oc, od, kV, doc, pm, an, cdv, ct, osl, rfl, lk, cd⟩ := F.ex
    exact ⟨_, _, _, _, kin_env e _ _ lk⟩
  · have len := O.len _ _ _ _ h
    have z := hb s us (kin_env e) (by rw [List.append_nil]; exact r.length.symm.trans len)
    rw [List.append_nil] at z
    exact O.run A outer s H ⟨us, []⟩ us vs Q E hr e z r h
end
/-- x(..), the i-th slot holding something that acts -/
def tAct2 (P : Program) (w : World) (K : PySem.W.Frag) (mg : Str → Option Value) (B : Heap) (CX : CXT) (k i : Nat) (E : XK) (t : TA) : TE := fun σ H Q => ∃ (f : Addr) (G : Hp → Prop) (sp : Sp), σ[i]? = some (some (.ref f)) ∧ Acts2 P w K mg B CX k f G sp ∧
  G H ∧ t σ H fun vs H1 => G H1 ∧ sp vs H1 Q E
section
variable {X : Cx} {CX : CXT} {i j k : Nat} {x : Str} {E : XK} {t : TA} {e : Expr} {es : List Expr} {p pos : Pos} {pins : List (Addr × Obj)} {σ : L2.St} {H : Hp} {s : Shared}
theorem run_act2 {Q : VK} {f : Addr} {G : Hp → Prop} {sp : Sp} {us : List Value} {vs : List V} (a : Acts2 X.prog X.w X.K X.mg X.base CX k f G sp) (hr : Room k X.A) (hx : Passes CX X E) (I : Inv X pins σ H s) (g : G H) (r : Vals vs us) (q : sp vs H Q E) :
    wpAny (model X.prog X.w) X.A (call (.ref f) us) (EP X pins σ Q) X.xe s := by
  refine wpAny_call (codeAny_mono (a.run X.A X.stack s H us vs Q E hr I.env0 g r q) fun res s' z => ?_)
  match res, z with
  | .error _, z => exact hx pins σ H s _ s' I z
  | .ok (.ret _), z => exact I.after z
theorem pe_act2 (hr : Room k X.A) (hx : Passes CX X E) (hN : X.N[i]? = some x) (hv : Vis X.env.scope x) (ha : PA X (e :: es) t)
    (hd : (x == ("__debug__" : Str)) = false := by decide) (hcd : (x == ("__classdict__" : Str)) = false := by decide)
    (he : starEach (e :: es) X.env = (false, eval e X.env) :: starEach es X.env := by rfl) (hpl : (backTo pos (starEach es X.env)).any (·.1) = false := by rfl) :
    PE X (.Call (.Name x p) (e :: es) [] pos) (tAct2 X.prog X.w X.K X.mg X.base CX k i E t) := by
  refine ⟨fun pins s σ H Q I ⟨f, G, sp, hs, a, g, ht⟩ => ?_⟩
  refine wpAny_Call_Name_kw (thn ((pe_var (pos := p) hN hv hd hcd).run pins s σ H (fun v H1 => v = .ref f ∧ H1 = H) I ⟨.ref f, hs, rfl, rfl⟩) fun u s1 ⟨v, H1, I1, r1, z⟩ => ?_)
  obtain ⟨z1, z2⟩ := z
  subst z1
  rw [z2] at I1
  obtain rfl : u = Value.ref f := r1
  refine PySem.W.callWith_F (first := []) (a.fn _ _ _ H I1.env0 g) (thn (ha.run pos pins s1 σ H _ I1 ht) fun us s2 ⟨vs, H2, I2, r, g2, q⟩ => ⟨a.fn _ _ _ H2 I2.env0 g2, ?_⟩) he hpl
  exact run_act2 a hr hx I2 g2 r q
/-- a call over the ground as it stands then -/
def tCallGr (X : Cx) (sp : Heap → Sp) (E : XK) (t : TA) : TE := fun σ H Q => t σ H fun vs H1 => ∀ B : Heap, Up X.base B → Mod X.K X.mg X.base → CBall X B σ → sp B vs H1 Q E
theorem pe_callGr {f : Addr} {fd : FuncData} {ps : List Str} {sp : Heap → Sp} (far : Far X) (told : Told X) (F : ∀ B, Up X.base B → FnOk X.prog X.w X.K X.mg B CX k f fd ps (sp B)) (hr : Room k X.A) (hg : Gl X x) (hm : X.mg x = some (.ref f)) (hk : PySem.W.keepIn X.K (.ref f) = true)
    (hb : Binds X.K fd ps []) (hx : Passes CX X E) (ha : PA X (e :: es) t) (hdb : (x == ("__debug__" : Str)) = false := by decide) (he : starEach (e :: es) X.env = (false, eval e X.env) :: starEach es X.env := by rfl) (hpl : (backTo pos (starEach es X.env)).any (·.1) = false := by rfl) :
    PE X (.Call (.Name x p) (e :: es) [] pos) (tCallGr X sp E t) := by
  refine ⟨fun pins s σ H Q I h => wpAny_Call_Name_kw (ld_glob I hg hm ?_ hdb)⟩
  exact PySem.W.callWith_K (h₀ := X.base) I.ok.mod.kin hk (thn (ha.run pos pins s σ H _ I h) fun us s1 ⟨vs, H1, J, r, q⟩ => ⟨J.kIn, run_wide (B := grOf X s1) (dvs := []) (ds := []) (env_gr J far told) (F _ (up_gr J)) hr hb .nil hx J r (by
    rw [List.append_nil]
    exact q _ (up_gr J) J.ok.mod (cball J))⟩) he hpl
end
end LamB
namespace LamB
open PySem PySem.Spec PyProof.Rows L2 LamX NdefX
theorem far_ex {X : Cx} (h : ∃ (pins : List (Addr × Obj)) (σ : L2.St) (H : Hp) (s : Shared), Inv X pins σ H s) (told : Told X) (hfn : ∀ x, X.fn x = true) (hst : X.stack = X.env :: X.outer) (hfr : X.env.frame = some X.env.locals) : Far X := by
  obtain ⟨pins, σ, H, s, I⟩ := h
  exact far_own I told hfn hst hfr
end LamB
namespace LamB
open PySem PySem.Spec PyProof.Rows L2 LamX NdefX
/-- a lambda without defaults that was made here acts over the ground of now -/
theorem acts_mk {X : Cx} {B : Heap} {CX : CXT} {k : Nat} {σ : L2.St} {H : Hp} {f c' : Addr} {qual : Str} {params : Arguments} {body : Expr} {scope : Scope} {N ps fr : List Str} {js : List Nat} {n : Nat} {tb : XK → TE}
    (hL : H f = some (LamO f ⟨qual, params, body, scope, cloFrom X.env.cells scope.names [], c', .none⟩)) (hc : H c' = some (CodeO c' qual)) (cb : CBall X B σ) (S : NScope N ps fr scope)
    (h1 : ∀ y ∈ scope.names, y.2 = .free → X.env.scope.names.lookup y.1 = some .cell ∨ X.env.scope.names.lookup y.1 = some .free) (h2 : ∀ y ∈ fr, (y, NameKind.free) ∈ scope.names) (h3 : js.map (fun j => X.N[j]?) = fr.map some) (hn : n = ps.length)
    (hb : ∀ (doc pm ctv : Value) (s : Shared) (us : List Value), us.length = n → BindsTo s (PySem.W.kdv_fn "<lambda>" qual params (.expr body) scope (cloFrom X.env.cells scope.names []) .none doc pm (.ref c') ctv) ⟨us, []⟩ (ps.zip (us ++ [])))
    (hbody : ∀ (A : Around) (outer : List Env) (s : Shared) (H : Hp) (E : XK), Room k (A.deeper (envF (LF.nf ⟨qual, params, body, scope, cloFrom X.env.cells scope.names [], c', .none⟩) f s.heap.objs.size)) →
      PE (ncx CX X.prog X.w X.K X.mg B N (LF.nf ⟨qual, params, body, scope, cloFrom X.env.cells scope.names [], c', .none⟩) f A outer s H E) body (tb E)) :
    ∃ G : Hp → Prop, G H ∧ Acts2 X.prog X.w X.K X.mg B CX (k + 1) f G (fun vs H Q E => vs.length = n ∧ tb E (startF N (vs ++ []) (js.map (slotAt σ))) H Q) :=
  ⟨LamH f ⟨qual, params, body, scope, cloFrom X.env.cells scope.names [], c', .none⟩ (fun _ => True), ⟨hL, hc, trivial⟩, acts2_of (acts_of (F := ⟨qual, params, body, scope, cloFrom X.env.cells scope.names [], c', .none⟩) (n := n) (dvs := []) (D := fun _ => True) S (cb scope fr js h1 h2 h3) (by rw [hn]; rfl) (fun doc pm ctv s _ us _ _ hu => ⟨[], .nil, hb doc pm ctv s us hu⟩) hbody)⟩
end LamB

set_option maxRecDepth 100000
set_option maxHeartbeats 2000000
/-! a head by facts for a program of many defs: what is looked at is reached by few steps, no address is asked twice -/
namespace He2
open PySem PySem.Spec PyProof.Rows L2
/-- what is followed: a namespace's values, a def's code and its keyword defaults, a class's namespace -/
def refs1 (o : Obj) : List Addr := match o.data with
  | .dict es _ => es.toList.flatMap fun e => He.refV e.val
  | .func fd => He.refV fd.code ++ He.refV fd.kwdefaults
  | .cls cd => [cd.ns]
  | _ => []
def nxt (g : Addr → Option Obj) (as : List Addr) : List Addr := as.flatMap fun a => match g a with
  | some o => refs1 o
  | none => []
def reach (g : Addr → Option Obj) : List Addr := [mainGlobals] ++ (nxt g [mainGlobals] ++ (nxt g (nxt g [mainGlobals]) ++ (nxt g (nxt g (nxt g [mainGlobals])) ++ nxt g (nxt g (nxt g (nxt g [mainGlobals]))))))
structure SaysY (fa : List He.Fa) (fn : List He.DefD) (tf : List He.Defn) (ex : PySem.W.Frag → Bool) (h : Heap) (K : PySem.W.Frag) : Prop where
  d : He.SaysD fa fn K
  more : ex K = true
  hd : ∀ p ∈ tf, PySem.W.codeHdIn K (He.cT K p).1 (He.cT K p).2 = true
  out : ∀ p ∈ tf, K.lookup (He.cT K p).2 = none
  empty : ∀ p ∈ tf, h.get? (He.cT K p).2 = some { cls := .none, data := .fields #[] }
abbrev AlY : Type := He.AlD × Bool
def obsK (fa : List He.Fa) (fn : List He.DefD) (tf : List He.Defn) (ex : PySem.W.Frag → Bool) (g : Addr → Option Obj) (K : PySem.W.Frag) : AlY := (He.obsD fa fn K, ex K && He.tabsB g tf K)
def obsY (fa : List He.Fa) (fn : List He.DefD) (tf : List He.Defn) (ex : PySem.W.Frag → Bool) (g : Addr → Option Obj) : AlY := obsK fa fn tf ex g (He.frT g (reach g))
def valY (fn : List He.DefD) : AlY := (He.valD fn, true)
theorem saysY_of {fa : List He.Fa} {fn : List He.DefD} {tf : List He.Defn} {ex : PySem.W.Frag → Bool} {h : Heap} (e : obsY fa fn tf ex h.get? = valY fn) : SaysY fa fn tf ex h (He.frT h.get? (reach h.get?)) := by
  have e1 : He.obsD fa fn (He.frT h.get? (reach h.get?)) = He.valD fn := congrArg (fun z : AlY => z.1) e
  have e2 : (ex (He.frT h.get? (reach h.get?)) && He.tabsB h.get? tf (He.frT h.get? (reach h.get?))) = true := congrArg (fun z : AlY => z.2) e
  obtain ⟨h1, h2⟩ := He.ba e2
  have key : ∀ p ∈ tf, PySem.W.codeHdIn (He.frT h.get? (reach h.get?)) (He.cT (He.frT h.get? (reach h.get?)) p).1 (He.cT (He.frT h.get? (reach h.get?)) p).2 = true ∧ ∃ o, h.get? (He.cT (He.frT h.get? (reach h.get?)) p).2 = some o ∧ He.emptyTab o = true := fun p hp => by
    obtain ⟨h3, h4⟩ := He.ba (List.all_eq_true.mp h2 p hp)
    refine ⟨h3, ?_⟩
    cases q : h.get? (He.cT (He.frT h.get? (reach h.get?)) p).2 with
    | none =>
      rw [q] at h4
      cases h4
    | some o =>
      rw [q] at h4
      exact ⟨o, rfl, h4⟩
  exact ⟨e1, h1, fun p hp => (key p hp).1, fun p hp => by
    obtain ⟨_, o, q, z⟩ := key p hp
    exact He.frT_none q z, fun p hp => by
    obtain ⟨_, o, q, z⟩ := key p hp
    rw [q, He.emptyTab_eq z]⟩
def hookY (fa : List He.Fa) (fn : List He.DefD) (tf : List He.Defn) (ex : PySem.W.Frag → Bool) : PySem.W.Hook where
  α := AlY
  obs := fun s => obsY fa fn tf ex s.heap.get?
  val := fun _ => valY fn
  says := fun _ h => ∃ K : PySem.W.Frag, K.In h ∧ SaysY fa fn tf ex h K
  of := fun _ _ e => ⟨_, He.frT_in, saysY_of e⟩
  keeps := fun _ _ _ ⟨K, hK, c⟩ k => ⟨K, PySem.W.Frag.In.keeps hK k, ⟨c.d, c.more, c.hd, c.out, fun p hp => k _ _ (c.empty p hp)⟩⟩
theorem obsY_eq {fa : List He.Fa} {fn : List He.DefD} {tf : List He.Defn} {ex : PySem.W.Frag → Bool} {g : Addr → Option Obj} {s : Shared} (h : ∀ a, g a = s.heap.get? a) : obsY fa fn tf ex g = (hookY fa fn tf ex).obs s := by
  have e : g = s.heap.get? := funext h
  rw [e] <;> rfl
end He2

set_option maxRecDepth 100000
namespace Mine
open PySem PySem.Spec L2
def leS (a b : Str) : Prop := ltCps b.cps.toList a.cps.toList = false
theorem leS_iff {a b : Str} : leS a b ↔ ¬ (b.cps.toList < a.cps.toList) := by
  unfold leS
  rw [PyProof.Rows.ltCps_eq]
  exact decide_eq_false_iff_not
theorem leS_trans {a b c : Str} (h1 : leS a b) (h2 : leS b c) : leS a c := by
  rw [leS_iff] at *
  exact List.not_lt.mpr (List.le_trans (List.not_lt.mp h1) (List.not_lt.mp h2))
theorem leS_antisymm {a b : Str} (h1 : leS a b) (h2 : leS b a) : a = b := by
  rw [leS_iff] at *
  have e : a.cps.toList = b.cps.toList := List.le_antisymm (List.not_lt.mp h1) (List.not_lt.mp h2)
  cases a
  cases b
  simp only at e
  congr 1
  exact Array.toList_inj.mp e
theorem rising_le : ∀ (p : Str) (l : List Str), PyProof.Rows.risingS p l = true → ∀ x ∈ l, leS p x
  | p, [], _, x, h => nomatch h
  | p, y :: r, h, x, hx => by
    have h : (!ltCps y.cps.toList p.cps.toList && PyProof.Rows.risingS y r) = true := h
    obtain ⟨h1, h2⟩ := Bool.and_eq_true_iff.mp h
    have hy : leS p y := by simpa [leS] using h1
    rcases List.mem_cons.mp hx with z | z
    · rw [z]; exact hy
    · exact leS_trans hy (rising_le y r h2 x z)
theorem sortedS_pairwise : ∀ l : List Str, PyProof.Rows.sortedS l = true → l.Pairwise leS
  | [], _ => .nil
  | p :: l, h => by
    have h : PyProof.Rows.risingS p l = true := h
    refine List.pairwise_cons.mpr ⟨rising_le p l h, ?_⟩
    cases l with
    | nil => exact .nil
    | cons y r =>
      have h : (!ltCps y.cps.toList p.cps.toList && PyProof.Rows.risingS y r) = true := h
      exact sortedS_pairwise (y :: r) (Bool.and_eq_true_iff.mp h).2
theorem perm_leS : ∀ {l1 l2 : List Str}, l1.Perm l2 → l1.Pairwise leS → l2.Pairwise leS → l1 = l2
  | [], l2, h, _, _ => (List.eq_nil_of_length_eq_zero (by simpa using h.length_eq.symm)).symm
  | a :: l1, [], h, _, _ => by
    have := h.length_eq
    simp at this
  | a :: l1, b :: l2, h, s1, s2 => by
    obtain ⟨a1, a2⟩ := List.pairwise_cons.mp s1
    obtain ⟨b1, b2⟩ := List.pairwise_cons.mp s2
    have e : a = b := by
      have ha : a ∈ b :: l2 := h.mem_iff.mp List.mem_cons_self
      have hb : b ∈ a :: l1 := h.mem_iff.mpr List.mem_cons_self
      rcases List.mem_cons.mp ha with z | z
      · exact z
      · rcases List.mem_cons.mp hb with y | y
        · exact y.symm
        · exact leS_antisymm (a1 b y) (b1 a z)
    subst e
    rw [perm_leS h.cons_inv a2 b2]
/-- texts in order, each once, are told by what stands among them -/
theorem sorted_one {l1 l2 : List Str} (n1 : l1.Nodup) (n2 : l2.Nodup) (m : ∀ x, x ∈ l1 ↔ x ∈ l2) (s1 : PyProof.Rows.sortedS l1 = true) (s2 : PyProof.Rows.sortedS l2 = true) : l1 = l2 :=
  perm_leS ((List.perm_ext_iff_of_nodup n1 n2).mpr m) (sortedS_pairwise _ s1) (sortedS_pairwise _ s2)
theorem addStr_nd {m : List Str} {t : Str} (h : m.Nodup) : (addStr m t).Nodup := by
  unfold addStr
  split
  · exact h
  · rename_i n
    exact List.nodup_append.mpr ⟨h, by simp, fun a ha b hb e => n (by rw [← List.mem_singleton.mp hb, ← e]; exact ha)⟩
theorem addStr_mem {m : List Str} {t x : Str} : x ∈ addStr m t ↔ x ∈ m ∨ x = t := by
  unfold addStr
  by_cases h : t ∈ m
  · rw [if_pos h]
    exact ⟨.inl, fun z => z.elim id fun e => e ▸ h⟩
  · rw [if_neg h, List.mem_append, List.mem_singleton]
theorem fold_take (w : Str) : ∀ (ds : List RowD) (m : List Str), m.Nodup → (ds.foldl (takeIn w) m).Nodup ∧ ∀ x, x ∈ ds.foldl (takeIn w) m ↔ x ∈ m ∨ ∃ d ∈ ds, wordOf d = w ∧ nameOf d = x
  | [], m, h => ⟨h, fun x => by simp⟩
  | d :: ds, m, h => by
    have key : (takeIn w m d).Nodup ∧ ∀ x, x ∈ takeIn w m d ↔ x ∈ m ∨ (wordOf d = w ∧ nameOf d = x) := by
      unfold takeIn
      by_cases e : wordOf d = w
      · rw [if_pos e]
        refine ⟨addStr_nd h, fun x => ?_⟩
        rw [addStr_mem]
        exact ⟨fun z => z.imp id fun z => ⟨e, z.symm⟩, fun z => z.imp id fun z => z.2.symm⟩
      · rw [if_neg e]
        exact ⟨h, fun x => ⟨.inl, fun z => z.elim id fun z => absurd z.1 e⟩⟩
    obtain ⟨n1, m1⟩ := fold_take w ds (takeIn w m d) key.1
    refine ⟨n1, fun x => ?_⟩
    show x ∈ ds.foldl (takeIn w) (takeIn w m d) ↔ _
    rw [m1, key.2]
    constructor
    · rintro ((z | z) | ⟨c, hc, z⟩)
      · exact .inl z
      · exact .inr ⟨d, List.mem_cons_self, z⟩
      · exact .inr ⟨c, List.mem_cons_of_mem _ hc, z⟩
    · rintro (z | ⟨c, hc, z⟩)
      · exact .inl (.inl z)
      · rcases List.mem_cons.mp hc with y | y
        · exact .inl (.inr (by rw [← y]; exact z))
        · exact .inr ⟨c, y, z⟩
/-- what a machine tells of the words behind a word -/
theorem IsFirsts.mem {w : Str} {ds : List RowD} {as : List Str} (h : IsFirsts w ds as) (x : Str) : x ∈ as ↔ ∃ d ∈ ds, wordOf d = w ∧ nameOf d = x := by
  rw [h.1.mem_iff, show distinct w ds = ds.foldl (takeIn w) [] from rfl, (fold_take w ds [] .nil).2 x]
  exact ⟨fun z => z.elim (fun z => nomatch z) id, .inr⟩
theorem IsFirsts.nd {w : Str} {ds : List RowD} {as : List Str} (h : IsFirsts w ds as) : as.Nodup := h.1.nodup_iff.mpr (fold_take w ds [] .nil).1
end Mine

set_option maxRecDepth 100000
set_option maxHeartbeats 4000000
namespace Mine
open PySem L2 TL
def num (i : Int) : Str := Str.ofString (toString i)
theorem tl_num0 (n : Nat) : tl (num (n : Int)) = numL n := tl_num n
def Small (i : Int) : Prop := 0 ≤ i ∧ i < 1000
theorem num_len {i : Int} (h : Small i) : (num i).length ≤ 3 := by
  obtain ⟨n, rfl⟩ := Int.eq_ofNat_of_zero_le h.1
  rw [len_tl, tl_num0]
  exact numL_len (by decide) (by have := h.2; omega)
theorem num_free {i : Int} {s : Nat} (h0 : 0 ≤ i) (h : s < 48 ∨ 57 < s) : s ∉ tl (num i) := by
  obtain ⟨n, rfl⟩ := Int.eq_ofNat_of_zero_le h0
  rw [tl_num0]
  exact numL_free h
theorem num_log {i : Int} (h : Small i) : i.natAbs.log2 < 1920 := by
  obtain ⟨n, rfl⟩ := Int.eq_ofNat_of_zero_le h.1
  have h2 : n < 1024 := by have := h.2; omega
  show n.log2 < 1920
  by_cases z : n = 0
  · subst z
    decide
  · have : n.log2 < 10 := (Nat.log2_lt z).mpr (by omega)
    omega
theorem numL_head : ∀ n : Nat, 1 ≤ n → (numL n).headD 0 ≠ 48 := by
  intro n
  induction n using Nat.strongRecOn with
  | _ n ih =>
    intro h1
    by_cases h : n < 10
    · rw [numL_lt h]
      show 48 + n ≠ 48
      omega
    · rw [numL_step (by omega)]
      have := ih (n / 10) (by omega) (by omega)
      cases e : numL (n / 10) with
      | nil => exact absurd e (numL_ne _)
      | cons c r =>
        rw [e] at this
        exact this
def figS : Str := "0123456789"
/-- a number's text: at most 30 figures, no 0 ahead -/
def isNumT (x : Str) : Bool := decide (1 ≤ x.length) && (decide (x.length ≤ 30) && (x.cps.toList.all (fun c => decide (c ∈ figS.cps.toList)) && (decide (V.str x = V.str "0") || !decide (V.str (⟨#[x.cps.toList.headD 0]⟩ : Str) = V.str "0"))))
theorem fig_all : ∀ c : Nat, 48 ≤ c → c ≤ 57 → c ∈ figS.cps.toList := by
  intro c h1 h2
  have : c = 48 ∨ c = 49 ∨ c = 50 ∨ c = 51 ∨ c = 52 ∨ c = 53 ∨ c = 54 ∨ c = 55 ∨ c = 56 ∨ c = 57 := by omega
  rcases this with rfl | rfl | rfl | rfl | rfl | rfl | rfl | rfl | rfl | rfl <;> decide +kernel
theorem num_isNum {i : Int} (h : Small i) : isNumT (num i) = true := by
  have hl := num_len h
  obtain ⟨n, rfl⟩ := Int.eq_ofNat_of_zero_le h.1
  have hne : (numL n) ≠ [] := numL_ne n
  have h1 : 1 ≤ (num (n : Int)).length := by
    rw [len_tl, tl_num0]
    exact List.length_pos_iff.mpr hne
  unfold isNumT
  rw [decide_eq_true h1, decide_eq_true (by omega), Bool.true_and, Bool.true_and]
  rw [show (num (n : Int)).cps.toList = numL n from tl_num0 n]
  rw [show ((numL n).all fun c => decide (c ∈ figS.cps.toList)) = true from List.all_eq_true.mpr fun c hc => decide_eq_true (by
    have := numL_digits n c hc
    exact fig_all c this.1 this.2), Bool.true_and]
  by_cases z : n = 0
  · subst z
    rw [decide_eq_true (show V.str (num ((0 : Nat) : Int)) = V.str "0" by congr 1 <;> decide +kernel)]
    rfl
  · have := numL_head n (by omega)
    rw [decide_eq_false (show ¬ V.str (⟨#[(numL n).headD 0]⟩ : Str) = V.str "0" from fun q => this (by
      have q2 := V.str.inj q
      have q3 : tl (⟨#[(numL n).headD 0]⟩ : Str) = tl "0" := congrArg tl q2
      have q4 : [(numL n).headD 0] = [48] := q3
      exact List.cons.inj q4 |>.1))]
    simp
theorem num_int {i : Int} (h : Small i) : PySem.intText? (num i) = some i := by
  have hl := num_len h
  obtain ⟨n, rfl⟩ := Int.eq_ofNat_of_zero_le h.1
  refine int_num ?_
  rw [← tl_num0, ← len_tl]
  omega
theorem num_inj {i j : Int} (hi : 0 ≤ i) (hj : 0 ≤ j) (h : num i = num j) : i = j := by
  obtain ⟨n, rfl⟩ := Int.eq_ofNat_of_zero_le hi
  obtain ⟨m, rfl⟩ := Int.eq_ofNat_of_zero_le hj
  have : numL n = numL m := by rw [← tl_num0, ← tl_num0, h]
  rw [numL_inj this]
theorem letters_b : ∀ c ∈ lettersS.cps.toList, 97 ≤ c ∧ c ≤ 122 := by decide +kernel
theorem nm_let {s : Str} (h : isNm s = true) : (∀ c ∈ tl s, 97 ≤ c ∧ c ≤ 122) ∧ 1 ≤ s.length ∧ s.length ≤ 8 := by
  unfold isNm at h
  simp only [Bool.and_eq_true, decide_eq_true_eq, List.all_eq_true] at h
  obtain ⟨h1, h2⟩ := h
  exact ⟨fun c hc => letters_b c (by simpa using h2 c hc), by omega, by omega⟩
theorem nm_free {s : Str} (h : isNm s = true) {c : Nat} (hc : c < 97) : c ∉ tl s := fun z => by
  have := (nm_let h).1 c z
  omega
/-- an operation in the line of operations -/
def opT (p : Str × Int) : Str := p.1 ++ " " ++ num p.2
def opsL (w : Str) (o : Ops) : Str := if o = [] then w else w ++ " " ++ Txt.join ", " (o.map opT)
def rowParts : RowD → List Str
  | .ask op ns => "ask" :: op :: ns.map num
  | .go n => ["go", num n]
  | .fin w => ["end", w]
/-- a row that is fit to be told as a text -/
def RowT : RowD → Prop
  | .ask op ns => isNm op = true ∧ ns.length ≤ 6 ∧ ∀ n ∈ ns, Small n
  | .go n => Small n
  | .fin w => isNm w = true
def OpT (p : Str × Int) : Prop := isNm p.1 = true ∧ Small p.2
def rowS (d : RowD) : Str := Txt.join " " (rowParts d)
def rowL (i : Int) (d : RowD) : Str := Txt.join " " (num i :: rowParts d)
theorem join_cons {y x z : Str} {r : List Str} : Txt.join y (x :: z :: r) = x ++ y ++ Txt.join y (z :: r) := by rw [join_eq, join_eq]; rfl
theorem join_one {y x : Str} : Txt.join y [x] = x := by rw [join_eq]; rfl
theorem row_parts_ne (d : RowD) : ∃ z r, rowParts d = z :: r := by cases d <;> exact ⟨_, _, rfl⟩
theorem rowL_eq (i : Int) (d : RowD) : rowL i d = num i ++ " " ++ rowS d := by
  obtain ⟨z, r, e⟩ := row_parts_ne d
  unfold rowL rowS
  rw [e, join_cons]
theorem join_len (y : Str) : ∀ xs : List Str, (Txt.join y xs).length ≤ (xs.map (·.length)).sum + xs.length * y.length
  | [] => by rw [join_eq]; exact Nat.zero_le _
  | [x] => by
    rw [join_one]
    simp
  | x :: z :: r => by
    have ih := join_len y (z :: r)
    rw [join_cons]
    rw [len_tl, tl_append, tl_append, List.length_append, List.length_append, ← len_tl, ← len_tl, ← len_tl, List.map_cons, List.sum_cons, List.length_cons, Nat.succ_mul]
    omega
theorem sum_le {xs : List Str} {k : Nat} (h : ∀ x ∈ xs, x.length ≤ k) : (xs.map (·.length)).sum ≤ xs.length * k := by
  induction xs with
  | nil => simp
  | cons x r ih =>
    rw [List.map_cons, List.sum_cons, List.length_cons, Nat.succ_mul]
    have h1 := h x List.mem_cons_self
    have h2 := ih fun z hz => h z (List.mem_cons_of_mem _ hz)
    omega
theorem tl_sp : tl (" " : Str) = [32] := by decide +kernel
theorem tl_comma : tl (", " : Str) = 44 :: [32] := by decide +kernel
theorem tl_lf : tl ("\n" : Str) = [10] := by decide +kernel
theorem part_ok {d : RowD} (h : RowT d) : ∀ p ∈ rowParts d, p.length ≤ 8 ∧ ∀ c ∈ tl p, (48 ≤ c ∧ c ≤ 57) ∨ (97 ≤ c ∧ c ≤ 122) := by
  have one : ∀ {s : Str}, isNm s = true → s.length ≤ 8 ∧ ∀ c ∈ tl s, (48 ≤ c ∧ c ≤ 57) ∨ (97 ≤ c ∧ c ≤ 122) := fun z => ⟨(nm_let z).2.2, fun c hc => .inr ((nm_let z).1 c hc)⟩
  have two : ∀ {i : Int}, Small i → (num i).length ≤ 8 ∧ ∀ c ∈ tl (num i), (48 ≤ c ∧ c ≤ 57) ∨ (97 ≤ c ∧ c ≤ 122) := fun {i} z => ⟨Nat.le_trans (num_len z) (by decide), fun c hc => .inl (by
    apply Classical.byContradiction
    intro q
    exact num_free z.1 (by omega) hc)⟩
  intro p hp
  cases d with
  | ask op ns =>
    rcases List.mem_cons.mp hp with rfl | hp
    · exact one (by decide +kernel)
    rcases List.mem_cons.mp hp with rfl | hp
    · exact one h.1
    · obtain ⟨n, hn, rfl⟩ := List.mem_map.mp hp
      exact two (h.2.2 n hn)
  | go n =>
    rcases List.mem_cons.mp hp with rfl | hp
    · exact one (by decide +kernel)
    · rw [List.mem_singleton.mp hp]
      exact two h
  | fin w =>
    rcases List.mem_cons.mp hp with rfl | hp
    · exact one (by decide +kernel)
    · rw [List.mem_singleton.mp hp]
      exact one h
theorem num_ok {i : Int} (h : Small i) : ∀ c ∈ tl (num i), (48 ≤ c ∧ c ≤ 57) := fun c hc => by
  apply Classical.byContradiction
  intro q
  exact num_free h.1 (by omega) hc
theorem parts_len {d : RowD} (h : RowT d) : (rowParts d).length ≤ 8 := by
  cases d with
  | ask op ns =>
    show (ns.map num).length + 1 + 1 ≤ 8
    rw [List.length_map]
    have := h.2.1
    omega
  | go n => show 2 ≤ 8; decide
  | fin w => show 2 ≤ 8; decide
theorem rowS_len {d : RowD} (h : RowT d) : (rowS d).length ≤ 72 := by
  have a := join_len " " (rowParts d)
  have b := sum_le (xs := rowParts d) (k := 8) fun p hp => (part_ok h p hp).1
  have c := parts_len h
  have e : (" " : Str).length = 1 := by decide +kernel
  rw [e] at a
  unfold rowS
  omega
theorem rowL_len {i : Int} {d : RowD} (hi : Small i) (h : RowT d) : (rowL i d).length ≤ 76 := by
  rw [rowL_eq, len_tl, tl_append, tl_append, List.length_append, List.length_append, ← len_tl, ← len_tl, ← len_tl]
  have a := rowS_len h
  have b := num_len hi
  have e : (" " : Str).length = 1 := by decide +kernel
  omega
/-- the words of a row's line -/
theorem row_split {i : Int} {d : RowD} (hi : Small i) (h : RowT d) : Txt.split (rowL i d) " " = num i :: rowParts d := by
  unfold rowL
  refine split_join (s := 32) (S := []) tl_sp (by decide +kernel) (by simp) fun p hp => ?_
  rcases List.mem_cons.mp hp with rfl | hp
  · exact fun z => by have := num_ok hi _ z; omega
  · exact fun z => by have := (part_ok h p hp).2 _ z; omega
theorem op_split {p : Str × Int} (h : OpT p) : Txt.split (opT p) " " = [p.1, num p.2] := by
  have e : opT p = Txt.join " " [p.1, num p.2] := by rw [join_cons, join_one]; rfl
  rw [e]
  refine split_join (s := 32) (S := []) tl_sp (by decide +kernel) (by simp) fun q hq => ?_
  rcases List.mem_cons.mp hq with rfl | hq
  · exact nm_free h.1 (by omega)
  · rw [List.mem_singleton.mp hq]
    exact fun z => by have := num_ok h.2 _ z; omega
theorem op_ok {p : Str × Int} (h : OpT p) : (opT p).length ≤ 12 ∧ ∀ c ∈ tl (opT p), c = 32 ∨ (48 ≤ c ∧ c ≤ 57) ∨ (97 ≤ c ∧ c ≤ 122) := by
  have e : (" " : Str).length = 1 := by decide +kernel
  constructor
  · unfold opT
    rw [len_tl, tl_append, tl_append, List.length_append, List.length_append, ← len_tl, ← len_tl, ← len_tl]
    have a := (nm_let h.1).2.2
    have b := num_len h.2
    omega
  · intro c hc
    unfold opT at hc
    rw [tl_append, tl_append, tl_sp] at hc
    rcases List.mem_append.mp hc with hc | hc
    · rcases List.mem_append.mp hc with hc | hc
      · exact .inr (.inr ((nm_let h.1).1 c hc))
      · exact .inl (List.mem_singleton.mp hc)
    · exact .inr (.inl (num_ok h.2 c hc))
theorem ops_split {o : Ops} (ne : o ≠ []) (h : ∀ p ∈ o, OpT p) : Txt.split (Txt.join ", " (o.map opT)) ", " = o.map opT := by
  refine split_join (s := 44) (S := [32]) tl_comma (by decide +kernel) (by simpa using ne) fun q hq => ?_
  obtain ⟨p, hp, rfl⟩ := List.mem_map.mp hq
  exact fun z => by have := (op_ok (h p hp)).2 _ z; omega
/-- lines in one text -/
def textOf (ls : List Str) : Str := Txt.join "" (ls.map fun l => l ++ "\n")
theorem tl_textOf : ∀ ls : List Str, tl (textOf ls) = (ls.map fun l => tl l ++ [10]).flatten
  | [] => by unfold textOf; rw [join_eq]; rfl
  | [l] => by
    unfold textOf
    rw [List.map_cons, List.map_nil, join_one, tl_append, tl_lf]
    simp
  | l :: m :: r => by
    have ih := tl_textOf (m :: r)
    unfold textOf at ih ⊢
    rw [List.map_cons, List.map_cons, join_cons, tl_append, tl_append, tl_append, tl_lf]
    rw [List.map_cons] at ih
    rw [ih]
    rw [show tl ("" : Str) = [] by decide +kernel]
    simp
theorem textOf_join (ls : List Str) : textOf ls = Txt.join "\n" (ls ++ [("" : Str)]) := by
  refine ext_tl ?_
  rw [tl_textOf, join_eq, tl_join, tl_lf]
  have key : ∀ l : List Str, joinL [10] ((l ++ [("" : Str)]).map tl) = (l.map fun l => tl l ++ [10]).flatten := by
    intro l
    induction l with
    | nil => show tl ("" : Str) = []; decide +kernel
    | cons x r ih =>
      rw [List.cons_append, List.map_cons, List.map_cons, List.flatten_cons, ← ih]
      cases e : (r ++ [("" : Str)]) with
      | nil => simp at e
      | cons y s =>
        rw [List.map_cons]
        show tl x ++ ([10] ++ joinL [10] (tl y :: s.map tl)) = _
        rw [List.append_assoc]
  exact (key ls).symm
theorem text_split {ls : List Str} (h : ∀ l ∈ ls, 10 ∉ tl l) : Txt.split (textOf ls) "\n" = ls ++ [("" : Str)] := by
  rw [textOf_join]
  refine split_join (s := 10) (S := []) tl_lf (by decide +kernel) (by simp) fun p hp => ?_
  rcases List.mem_append.mp hp with z | z
  · exact h p z
  · rw [List.mem_singleton.mp z]
    decide +kernel
/-- without the last line feed -/
theorem text_cut {ls : List Str} (ne : ls ≠ []) : cutS (textOf ls) none (some (-1)) = Txt.join "\n" ls := by
  have key : ∀ l : List Str, l ≠ [] → (l.map fun l => tl l ++ [10]).flatten = joinL [10] (l.map tl) ++ [10] := by
    intro l
    induction l with
    | nil => exact fun z => absurd rfl z
    | cons x r ih =>
      intro _
      cases r with
      | nil => simp [joinL]
      | cons y s =>
        rw [List.map_cons, List.flatten_cons, ih (by simp)]
        show _ = (tl x ++ ([10] ++ joinL [10] (tl y :: s.map tl))) ++ [10]
        simp
  refine ext_tl ?_
  have e : tl (textOf ls) = joinL [10] (ls.map tl) ++ [10] := by rw [tl_textOf, key ls ne]
  have len : (textOf ls).length = (joinL [10] (ls.map tl)).length + 1 := by rw [len_tl, e]; simp
  rw [join_eq, tl_join, tl_lf]
  show (((tl (textOf ls)).drop (HT.sIx (textOf ls).length 0 none)).take (HT.sIx (textOf ls).length (textOf ls).length (some (-1)) - HT.sIx (textOf ls).length 0 none)) = _
  rw [e, len]
  have s1 : HT.sIx ((joinL [10] (ls.map tl)).length + 1) 0 none = 0 := rfl
  have s2 : HT.sIx ((joinL [10] (ls.map tl)).length + 1) ((joinL [10] (ls.map tl)).length + 1) (some (-1)) = (joinL [10] (ls.map tl)).length := by
    unfold HT.sIx
    simp
    omega
  rw [s1, s2, List.drop_zero, Nat.sub_zero, List.take_left']
  rfl
theorem text_split2 {ls : List Str} (ne : ls ≠ []) (h : ∀ l ∈ ls, 10 ∉ tl l) : Txt.split (cutS (textOf ls) none (some (-1))) "\n" = ls := by
  rw [text_cut ne]
  exact split_join (s := 10) (S := []) tl_lf (by decide +kernel) ne h
/-- one element of a block of texts -/
theorem str_step {H Hx H2 : Hp} {D : Addr} {ss : List Str} {i : Nat} {s : Str} (nD : H D = none) (sx : Same H Hx) (ex : Hx D = some (.lst ((ss.take i).map V.str))) (s2 : Same Hx H2) (hs : ss[i]? = some s) (few : ss.length ≤ 100000) :
    ∃ acc, H2 D = some (.lst acc) ∧ acc.length < sizeLine ∧ Same H (upd H2 D (.lst (acc ++ [.str s]))) ∧ upd H2 D (.lst (acc ++ [.str s])) D = some (.lst ((ss.take (i + 1)).map V.str)) := by
  refine ⟨_, s2 _ _ ex, ?_, fun b o e => ?_, ?_⟩
  · rw [List.length_map, List.length_take, sizeLine_eq]
    omega
  · rw [upd_ne (ne_of_none e nD)]
    exact s2 _ _ (sx _ _ e)
  · rw [upd_same, List.take_add_one, hs, List.map_append]
    rfl
/-- an f-string by a named reading -/
def tJoined (ts : List TE) : TE := fun σ H Q => tJs ts Str.empty σ H fun out H1 => Q (.str out) H1
theorem pe_joinedN {X : Cx} {v1 v2 : Expr} {rest : List Expr} {ts : List TE} {pos : Pos} (h : PJ X (v1 :: v2 :: rest) ts) : PE X (.JoinedStr (v1 :: v2 :: rest) pos) (tJoined ts) := pe_joined h
end Mine

set_option maxRecDepth 100000
set_option maxHeartbeats 4000000
namespace Mine
open PySem L2 TL
abbrev s_is_number : Stmt := top 45
def spTextOf : Sp := fun vs H Q _ => ∃ (a : Addr) (ls : List Str), vs = [.ref a] ∧ H a = some (.lst (ls.map V.str)) ∧ ls.length ≤ 10000 ∧ (∀ l ∈ ls, l.length ≤ 1000) ∧ ∀ H', Same H H' → Q (.str (textOf ls)) H'
def spIsNumber : Sp := fun vs H Q _ => ∃ x : Str, vs = [.str x] ∧ x.length ≤ 100000 ∧ ∀ H', Same H H' → Q (.bl (isNumT x)) H'
theorem lf_len {ls : List Str} (few : ls.length ≤ 10000) (sm : ∀ l ∈ ls, l.length ≤ 1000) : ((ls.map fun l => l ++ ("\n" : Str)).map (·.length)).sum + (ls.map fun l => l ++ ("\n" : Str)).length * ("" : Str).length ≤ 16777216 := by
  have a := sum_le (xs := ls.map fun l => l ++ ("\n" : Str)) (k := 1001) fun x hx => by
    obtain ⟨l, hl, rfl⟩ := List.mem_map.mp hx
    have := sm l hl
    rw [len_tl, tl_append, List.length_append, ← len_tl, tl_lf]
    show l.length + 1 ≤ 1001
    omega
  rw [List.length_map] at a ⊢
  have e : ("" : Str).length = 0 := by decide +kernel
  rw [e]
  omega
section
variable {P : Program} {w : World} {K : PySem.W.Frag} {mg : Str → Option Value} {base : Heap}
variable {fII fIW : Addr}
def figs (x : Str) (i : Nat) : List Bool := (x.cps.toList.take i).map fun c => decide (c ∈ figS.cps.toList)
theorem figs_succ {x : Str} {i c : Nat} (h : x.cps[i]? = some c) : figs x (i + 1) = figs x i ++ [decide (c ∈ figS.cps.toList)] := by
  have h' : x.cps.toList[i]? = some c := by rw [← h]; simp
  unfold figs
  rw [List.take_add_one, h', List.map_append]
  rfl
theorem figs_all (x : Str) : (figs x x.cps.size).all id = x.cps.toList.all fun c => decide (c ∈ figS.cps.toList) := by
  unfold figs
  rw [show x.cps.size = x.cps.toList.length by simp, List.take_length, List.all_map]
  rfl
theorem sc_is_number : FnScope ["text", "letter"] ["text"] (defScope s_is_number) := ⟨rfl, rfl, rfl, by decide +kernel, rfl, by decide +kernel, by decide +kernel⟩

theorem ok_is_number {f : Addr} {fd : FuncData} (F : Fun K "is_number" "is_number" s_is_number f fd) (T : TxtF K mg fII fIW) (c_MF : ∃ t, mg "MOST_FIGURES" = some (.int 30 t)) (c_FIGURES : ∃ t, mg "FIGURES" = some (.str figS t)) : FnOk P w K mg base CX0 1 f fd ["text"] spIsNumber := by
  refine F.ok sc_is_number (fun vs H Q E h => ?_) (fun cdv A outer s H vs Q E hr h => ?_)
  · obtain ⟨x, rfl, _⟩ := h
    rfl
  · obtain ⟨x, rfl, sz, k⟩ := h
    refine ⟨_, (pss_cons (ps_if (PW.pt (pw_or (pt_not (pt_chain op_le op_le pe_int (pe_callB call_len_str (by rfl) T.b_len PySem.boot_len (pa_cons (pv 0) pa_nil)) (globI rfl c_MF))) (pw_or1 (pt_not (pt_val (pe_callB (cr_all rfl) (by rfl) T.b_all (by decide +kernel) (pa_cons (pe_lc (own := [("letter", 1)]) (g := (gName 1)) (tt := tYes) rfl sc_is_number.nd (pi_str (pv 0)) (blkOk_by (own := [("letter", 1)]) (N := ["text", "letter"]) (sc := defScope s_is_number) (by decide +kernel)) (fun _ _ _ _ _ => (pg_name (i := 1) sc_is_number.nd rfl (Or.inl rfl))) (fun _ _ _ _ _ => pts_nil) (fun _ _ _ _ _ => (pe_cmpR op_in_sign (pv 1) (globS rfl c_FIGURES) (by rfl)))) pa_nil))))))) (pss_one (ps_ret pe_bl)) pss_nil)
      (pss_one (ps_ret (pe_or (pe_cmpR op_eq (pv 0) pe_str (nomark _)) (pe_one (pe_cmpR op_ne (pe_ix ix_str (pv 0) pe_int (fun _ _ => rfl)) pe_str (nomark _))))))), ?_⟩
    have szL : x.length ≤ sizeLine := by rw [sizeLine_eq]; omega
    have bad : ¬ (1 ≤ x.length ∧ x.length ≤ 30) → isNumT x = false := fun z => by
      unfold isNumT
      by_cases y : 1 ≤ x.length
      · rw [decide_eq_true y, decide_eq_false (fun u => z ⟨y, u⟩)]
        rfl
      · rw [decide_eq_false y]
        rfl
    refine ⟨_, rfl, x, rfl, szL, _, _, rfl, rfl, _, rfl, ?_⟩
    by_cases h2 : 1 ≤ x.length
    · rw [decide_eq_true (show (1 : Int) ≤ (x.length : Int) by omega)]
      refine iteT ?_
      refine ⟨_, _, rfl, rfl, _, rfl, ?_⟩
      by_cases h3 : x.length ≤ 30
      · rw [decide_eq_true (show (x.length : Int) ≤ 30 by omega)]
        refine iteF ?_
        refine ⟨_, rfl, x, rfl, fun D nD => lc_it walk_str (fun i Hx => Same H Hx ∧ Hx D = some (.lst ((figs x i).map V.bl))) ⟨sameNew nD _, upd_same⟩ (fun _ _ _ _ => trivial) (fun i y Ha Hb hi z1 z2 => ?_) fun Hx z => ?_⟩
        · obtain ⟨sx, ex⟩ := z1
          obtain ⟨rfl, c, hc, rfl⟩ := z2
          refine ⟨rfl, _, rfl, c, figS, rfl, rfl, _, ex, ?_, fun b o e => ?_, ?_⟩
          · rw [List.length_map]
            show ((x.cps.toList.take i).map _).length < _
            rw [List.length_map, List.length_take, sizeLine_eq]
            have : x.length = x.cps.toList.length := by simp [Str.length]
            omega
          · rw [upd_ne (ne_of_none e nD)]
            exact sx _ _ e
          · rw [figs_succ hc, List.map_append]
            exact upd_same
        · obtain ⟨sx, ex⟩ := z
          refine ⟨D, _, rfl, SqL.of ex, ?_⟩
          rw [figs_all]
          refine ⟨_, rfl, ?_⟩
          have e1 : isNumT x = (x.cps.toList.all (fun c => decide (c ∈ figS.cps.toList)) && (decide (V.str x = V.str "0") || !decide (V.str (⟨#[x.cps.toList.headD 0]⟩ : Str) = V.str "0"))) := by
            unfold isNumT
            rw [decide_eq_true h2, decide_eq_true h3, Bool.true_and, Bool.true_and]
          by_cases hall : (x.cps.toList.all fun c => decide (c ∈ figS.cps.toList)) = true
          · rw [hall] at e1 ⊢
            refine iteF ?_
            rw [Bool.true_and] at e1
            refine ⟨_, rfl, rfl, ?_⟩
            refine ⟨_, rfl, ?_⟩
            by_cases e0 : V.str x = V.str "0"
            · rw [decide_eq_true e0] at e1 ⊢
              refine iteT ?_
              rw [e1] at k
              exact k _ sx
            · rw [decide_eq_false e0] at e1 ⊢
              refine iteF ?_
              have hne : 1 ≤ (tl x).length := by rw [← len_tl]; exact h2
              cases ec : tl x with
              | nil => rw [ec] at hne; exact absurd hne (by decide)
              | cons c r =>
                refine ⟨_, rfl, x, 0, c, rfl, rfl, szL, ?_, rfl, ?_⟩
                · show atI (tl x) 0 = some c
                  rw [ec]
                  unfold atI ixN
                  simp
                · have e2 : x.cps.toList.headD 0 = c := by
                    show (tl x).headD 0 = c
                    rw [ec]
                    rfl
                  rw [e2, Bool.false_or] at e1
                  rw [e1] at k
                  exact k _ sx
          · rw [Bool.eq_false_iff.mpr hall] at e1 ⊢
            refine iteT ?_
            rw [e1] at k
            exact k _ sx
      · rw [decide_eq_false (show ¬ (x.length : Int) ≤ 30 by omega)]
        refine iteT ?_
        rw [bad fun z => h3 z.2] at k
        exact k _ (Same.refl _)
    · rw [decide_eq_false (show ¬ (1 : Int) ≤ (x.length : Int) by omega)]
      refine iteF ?_
      refine ⟨_, rfl, ?_⟩
      refine iteT ?_
      rw [bad fun z => h2 z.1] at k
      exact k _ (Same.refl _)
theorem empty_app (y : Str) : Str.empty ++ y = y := ext_tl (by rw [tl_append]; rfl)
theorem app_len {x y : Str} {n : Nat} (h : x.length + y.length ≤ n) : (x ++ y).length ≤ n := by
  rw [len_tl, tl_append, List.length_append, ← len_tl, ← len_tl]
  exact h
theorem line_ok {n : Nat} (h : n ≤ 100000) : n ≤ sizeLine := by rw [sizeLine_eq]; omega
theorem sp_len : (" " : Str).length = 1 := by decide +kernel
theorem joinS_len {ss : List Str} {y : Str} {k n : Nat} (few : ss.length ≤ n) (sm : ∀ l ∈ ss, l.length ≤ k) : (ss.map (·.length)).sum + ss.length * y.length ≤ n * k + n * y.length := by
  have a := sum_le (xs := ss) (k := k) sm
  have b : ss.length * k ≤ n * k := Nat.mul_le_mul_right _ few
  have c : ss.length * y.length ≤ n * y.length := Nat.mul_le_mul_right _ few
  omega
def spCountsLine : Sp := fun vs H Q _ => ∃ (d : Addr) (wd : Str) (o : Ops), vs = [.str wd, .ref d] ∧ H d = some (.dK (opsK o)) ∧ (o.map (·.1)).Nodup ∧ o.length ≤ 8 ∧ (∀ q ∈ o, OpT q) ∧ wd.length ≤ 100 ∧ ∀ o', Ordered o o' → ∀ H', Same H H' → Q (.str (opsL wd o')) H'
def spRowText : Sp := fun vs H Q _ => ∃ (v : V) (d : RowD), vs = [v] ∧ TRow H v d ∧ RowT d ∧ ∀ H', Same H H' → Q (.str (rowS d)) H'
def linesR (rs : List RowD) : List Str := rs.mapIdx fun i d => rowL (i : Int) d
def spRowsLines : Sp := fun vs H Q _ => ∃ (l : Addr) (xs : List V) (rs : List RowD), vs = [.str "", .ref l] ∧ H l = some (.lst xs) ∧ Rows H xs rs ∧ (∀ d ∈ rs, RowT d) ∧ rs.length ≤ 999 ∧ New H (.lst ((linesR rs).map V.str)) Q
end
end Mine

set_option maxRecDepth 100000
set_option maxHeartbeats 4000000
namespace Mine
open PySem L2 TL
/-- the lines of a body's text, its operations in this order -/
def linesB (o : Ops) (rs : List RowD) (b : Nat) : List Str := opsL "operations" o :: ("start " ++ num (b : Int)) :: linesR rs
def textB (o : Ops) (rs : List RowD) (b : Nat) : Str := textOf (linesB o rs b)
/-- a body that is fit to be told -/
structure FitB (o : Ops) (rs : List RowD) (b : Nat) : Prop where
  few : o.length ≤ 8
  nd : (o.map (·.1)).Nodup
  ops : ∀ q ∈ o, OpT q
  rows : ∀ d ∈ rs, RowT d
  many : rs.length ≤ 999
  lt : b < rs.length
theorem ord_eq {o o1 o2 : Ops} (nd : (o.map (·.1)).Nodup) (h1 : Ordered o o1) (h2 : Ordered o o2) : o1 = o2 := by
  have n1 : (o1.map (·.1)).Nodup := (h1.1.map _).nodup_iff.mpr nd
  have n2 : (o2.map (·.1)).Nodup := (h2.1.map _).nodup_iff.mpr nd
  have m : ∀ x, x ∈ o1.map (·.1) ↔ x ∈ o2.map (·.1) := fun x => (h1.1.map _).mem_iff.trans (h2.1.map _).mem_iff.symm
  have e : o1.map (·.1) = o2.map (·.1) := sorted_one n1 n2 m h1.2 h2.2
  have key : ∀ {p : Ops}, Ordered o p → p = pick o (p.map (·.1)) := fun {p} h => by
    unfold pick
    rw [List.map_map]
    refine (List.map_id p).symm.trans (List.map_congr_left fun q hq => ?_)
    have hq2 : q ∈ o := h.1.mem_iff.mp hq
    show q = (q.1, lookI o q.1)
    unfold lookI
    rw [look_mem nd q hq2]
    rfl
  rw [key h1, key h2, e]
theorem ord_self {o o' : Ops} (h : Ordered o o') : Ordered o' o' := ⟨List.Perm.refl _, h.2⟩
theorem start_len {b : Nat} (h : b < 1000) : ("start " ++ num (b : Int) : Str).length ≤ 9 := app_len (by
  rw [show ("start " : Str).length = 6 by decide +kernel]
  have := num_len (i := (b : Int)) ⟨by omega, by omega⟩
  omega)
theorem opsL_len {w : Str} {o : Ops} (wl : w.length ≤ 100) (few : o.length ≤ 8) (ok : ∀ q ∈ o, OpT q) : (opsL w o).length ≤ 300 := by
  unfold opsL
  split
  · omega
  · have jl := joinS_len (ss := o.map opT) (y := ", ") (k := 12) (n := 8) (by rw [List.length_map]; exact few) fun l hl => by
      obtain ⟨q, hq, rfl⟩ := List.mem_map.mp hl
      exact (op_ok (ok q hq)).1
    have cl : (", " : Str).length = 2 := by decide +kernel
    rw [cl] at jl
    have jl2 := Nat.le_trans (join_len ", " (o.map opT)) (by rw [cl]; exact jl)
    exact app_len (Nat.le_trans (Nat.add_le_add (app_len (n := 101) (by rw [sp_len]; omega)) jl2) (by decide))
theorem linesB_len {o : Ops} {rs : List RowD} {b : Nat} (h : FitB o rs b) : ∀ l ∈ linesB o rs b, l.length ≤ 1000 := by
  intro l hl
  have lt := h.lt
  have many := h.many
  rcases List.mem_cons.mp hl with rfl | hl
  · exact Nat.le_trans (opsL_len (by decide +kernel) h.few h.ops) (by decide)
  rcases List.mem_cons.mp hl with rfl | hl
  · exact Nat.le_trans (start_len (by omega)) (by decide)
  · unfold linesR at hl
    obtain ⟨i, hi, rfl⟩ := List.mem_mapIdx.mp hl
    exact Nat.le_trans (rowL_len ⟨by omega, by omega⟩ (h.rows _ (List.getElem_mem hi))) (by decide)
theorem linesB_num (o : Ops) (rs : List RowD) (b : Nat) : (linesB o rs b).length = rs.length + 2 := by
  unfold linesB linesR
  rw [List.length_cons, List.length_cons, List.length_mapIdx]
def spBodyText (CB CM : Addr) : Sp := fun vs H Q _ => ∃ (bd : Addr) (o : Ops) (rs : List RowD) (b : Nat) (m t l sa aa ea : Addr) (o' : Ops) (xs : List V) (as es : List Str), vs = [.ref bd] ∧ BodyP CB CM H bd o rs b m t l sa aa ea o' xs as es ∧ FitB o rs b ∧ ∀ H', Same H H' → Q (.str (textB o' rs b)) H'
section
variable {P : Program} {w : World} {K : PySem.W.Frag} {mg : Str → Option Value} {base : Heap}
variable {fII fIW CB CM a_counts_line a_rows_lines a_text_of : Addr}
end
end Mine

set_option maxRecDepth 100000
set_option maxHeartbeats 4000000
namespace Mine
open PySem L2 TL
/-! what lines tell, of any text: pure -/
theorem starts_ok (x y z : Str) (hy : tl y ≠ []) (e : tl x = tl y ++ tl z) : Txt.startswith x y = true := by
  have h := (at_iff (x := x) hy 0).mpr (by rw [List.drop_zero, e]; exact pre_self _ _)
  unfold Txt.startswith
  obtain ⟨h1, h2⟩ := h
  rw [decide_eq_true h1, h2]
  rfl
theorem cutS_app (x y z : Str) (e : tl x = tl y ++ tl z) : cutS x (some (y.length : Int)) none = z := by
  refine ext_tl ?_
  show ((tl x).drop (HT.sIx x.length 0 (some (y.length : Int)))).take (HT.sIx x.length x.length none - HT.sIx x.length 0 (some (y.length : Int))) = tl z
  have lx : x.length = y.length + z.length := by rw [len_tl, e, List.length_append, ← len_tl, ← len_tl]
  rw [HT.sIx_nat, HT.sIx_none, Nat.min_eq_left (by omega), e, len_tl y, List.drop_left']
  · exact List.take_of_length_le (by rw [← len_tl, ← len_tl]; omega)
  · rfl
theorem look_none {p : Ops} {x : Str} (h : x ∉ p.map (·.1)) : opLook p x = none := by
  unfold opLook
  rw [List.find?_eq_none.mpr fun q hq => fun z => h (List.mem_map.mpr ⟨q, hq, of_decide_eq_true z⟩)]
  rfl
theorem start_split {b : Int} (sb : Small b) : Txt.split ("start " ++ num b : Str) " " = (["start", num b] : List Str) := by
  have e : ("start " ++ num b : Str) = Txt.join " " (["start", num b] : List Str) := by
    rw [join_cons, join_one]
    rfl
  rw [e]
  refine split_join (s := 32) (S := []) tl_sp (by decide +kernel) (by simp) fun q hq => ?_
  rcases List.mem_cons.mp hq with rfl | hq
  · decide +kernel
  · rw [List.mem_singleton.mp hq]
    exact fun z => by have := num_ok sb _ z; omega
def numV (x : Str) : Int := ((NumText.digitsVal (tl x) : Nat) : Int)
theorem isNum_int {x : Str} (h : isNumT x = true) : PySem.intText? x = some (numV x) ∧ x.length ≤ 30 := by
  unfold isNumT at h
  simp only [Bool.and_eq_true, decide_eq_true_eq] at h
  obtain ⟨h1, h2, h3, _⟩ := h
  refine ⟨intText_digits (x := x) (fun c hc => ?_) (fun z => ?_) (by omega), h2⟩
  · have := List.all_eq_true.mp h3 c hc
    have hm : c ∈ figS.cps.toList := of_decide_eq_true this
    have all : ∀ c ∈ figS.cps.toList, 48 ≤ c ∧ c ≤ 57 := by decide +kernel
    exact all c hm
  · have : x.length = x.cps.toList.length := by simp [Str.length]
    rw [z] at this
    have : x.length = 0 := this
    omega
theorem numV_num {i : Int} (h : Small i) : numV (num i) = i := by
  have := (isNum_int (num_isNum h)).1
  rw [num_int h] at this
  exact (Option.some.inj this).symm
/-- the pieces of a line are short -/
def WOk (x : Str) : Prop := x.length ≤ 1000 ∧ (Txt.split x " ").length ≤ 1000 ∧ ∀ q ∈ Txt.split x " ", q.length ≤ 1000
instance (x : Str) : Decidable (WOk x) := by unfold WOk; infer_instance
def cntStep (o : Ops) (p : Str) : Option Ops := match Txt.split p " " with
  | [a, b] => if isNm a && (isNumT b && (opLook o a).isNone) then some (o ++ [(a, numV b)]) else none
  | _ => none
def cntAll : List Str → Ops → Option Ops
  | [], o => some o
  | p :: ps, o => (cntStep o p).bind (cntAll ps)
/-- the text behind the word -/
def behind (wd line : Str) : Str := cutS line (some ((wd.length : Int) + 1)) none
def cT (wd line : Str) : Option Ops := if line = wd then some [] else if Txt.startswith line (wd ++ " ") then cntAll (Txt.split (behind wd line) ", ") [] else none
def COk (wd line : Str) : Prop := line.length ≤ 1000 ∧ wd.length ≤ 100 ∧ (behind wd line).length ≤ 1000 ∧ (Txt.split (behind wd line) ", ").length ≤ 1000 ∧ ∀ p ∈ Txt.split (behind wd line) ", ", WOk p
instance (x y : Str) : Decidable (COk x y) := by unfold COk; infer_instance
def sT (line : Str) : Option Int := match Txt.split line " " with
  | [a, b] => if decide (a = "start") && isNumT b then some (numV b) else none
  | _ => none
/-- a row told -/
inductive RowE where
  | ask (op : Str) (ns : List Int)
  | two (w x : Str)
  | go (n : Int)
  | ans (n : Int) (x : Str)
def RowE.of : RowD → RowE
  | .ask op ns => .ask op ns
  | .go n => .go n
  | .fin x => .two "end" x
def TRowE (H : Hp) (v : V) : RowE → Prop
  | .ask op ns => ∃ a t, v = .ref a ∧ H a = some (.tup [.str "ask", .str op, .ref t]) ∧ H t = some (.tup (ns.map V.int))
  | .two w x => ∃ a, v = .ref a ∧ H a = some (.tup [.str w, .str x])
  | .go n => ∃ a, v = .ref a ∧ H a = some (.tup [.str "go", .int n])
  | .ans n x => ∃ a, v = .ref a ∧ H a = some (.tup [.str "answer", .int n, .str x])
def wT (w t : Str) (r : List Str) : Option RowE :=
  if w = "ask" then (if isNm t && r.all isNumT then some (.ask t (r.map numV)) else none)
  else if w = "end" then (if r.isEmpty && isNm t then some (.two "end" t) else none)
  else if w = "finish" then (if r.isEmpty && isNm t then some (.two "finish" t) else none)
  else if w = "go" then (if r.isEmpty && isNumT t then some (.go (numV t)) else none)
  else if w = "answer" then (match r with
    | [y] => if isNumT t && isNm y then some (.ans (numV t) y) else none
    | _ => none)
  else none
def rT (i : Int) (line : Str) : Option RowE := match Txt.split line " " with
  | i0 :: w :: t :: r => if i0 = num i then wT w t r else none
  | _ => none
theorem TRowE.of {H : Hp} {v : V} {d : RowD} (h : TRowE H v (RowE.of d)) : TRow H v d := by
  cases d <;> exact h
theorem RowE.of_inj {a b : RowD} (h : RowE.of a = RowE.of b) : a = b := by
  cases a <;> cases b <;> cases h <;> rfl
theorem rT_right {i : Int} {d : RowD} (hi : Small i) (h : RowT d) : rT i (rowL i d) = some (RowE.of d) := by
  unfold rT
  rw [row_split hi h]
  cases d with
  | ask op ns =>
    show (if num i = num i then wT "ask" op (ns.map num) else none) = _
    rw [if_pos rfl]
    unfold wT
    rw [if_pos rfl, show isNm op = true from h.1, Bool.true_and]
    rw [if_pos (List.all_eq_true.mpr fun x hx => by
      obtain ⟨n, hn, rfl⟩ := List.mem_map.mp hx
      exact num_isNum (h.2.2 n hn))]
    show some (RowE.ask op ((ns.map num).map numV)) = some (.ask op ns)
    rw [List.map_map]
    congr 2
    refine (List.map_congr_left fun n hn => ?_).trans (List.map_id ns)
    exact numV_num (h.2.2 n hn)
  | go n =>
    show (if num i = num i then wT "go" (num n) [] else none) = _
    rw [if_pos rfl]
    unfold wT
    rw [if_neg (by decide +kernel), if_neg (by decide +kernel), if_neg (by decide +kernel), if_pos rfl, show isNumT (num n) = true from num_isNum h, numV_num h]
    rfl
  | fin x =>
    show (if num i = num i then wT "end" x [] else none) = _
    rw [if_pos rfl]
    unfold wT
    rw [if_neg (by decide +kernel), if_pos rfl, show isNm x = true from h]
    rfl
theorem sT_right {b : Int} (sb : Small b) : sT ("start " ++ num b) = some b := by
  unfold sT
  rw [start_split sb]
  show (if (decide (("start" : Str) = "start") && isNumT (num b)) = true then some (numV (num b)) else none) = _
  rw [decide_eq_true rfl, num_isNum sb, numV_num sb]
  rfl
theorem cntAll_right : ∀ (l p : Ops), ((p ++ l).map (·.1)).Nodup → (∀ q ∈ l, OpT q) → cntAll (l.map opT) p = some (p ++ l)
  | [], p, _, _ => by rw [List.append_nil]; rfl
  | q :: l, p, nd, ok => by
    have oq := ok q List.mem_cons_self
    have hl : opLook p q.1 = none := look_none fun z => by
      rw [List.map_append, List.nodup_append] at nd
      exact nd.2.2 _ z _ List.mem_cons_self rfl
    have e : cntStep p (opT q) = some (p ++ [q]) := by
      unfold cntStep
      rw [op_split oq]
      show (if (isNm q.1 && (isNumT (num q.2) && (opLook p q.1).isNone)) = true then some (p ++ [(q.1, numV (num q.2))]) else none) = _
      rw [show isNm q.1 = true from oq.1, num_isNum oq.2, hl, numV_num oq.2]
      rfl
    show (cntStep p (opT q)).bind (cntAll (l.map opT)) = _
    rw [e]
    show cntAll (l.map opT) (p ++ [q]) = _
    rw [cntAll_right l (p ++ [q]) (by rw [List.append_assoc]; exact nd) fun r hr => ok r (List.mem_cons_of_mem _ hr), List.append_assoc]
    rfl
theorem opsL_behind {wd : Str} {o : Ops} (on : o ≠ []) : behind wd (opsL wd o) = Txt.join ", " (o.map opT) ∧ Txt.startswith (opsL wd o) (wd ++ " ") = true ∧ opsL wd o ≠ wd := by
  have eL : opsL wd o = wd ++ " " ++ Txt.join ", " (o.map opT) := by unfold opsL; rw [if_neg on]
  have ej : tl (wd ++ " " ++ Txt.join ", " (o.map opT)) = tl (wd ++ " ") ++ tl (Txt.join ", " (o.map opT)) := tl_append _ _
  have el1 : (wd ++ " " : Str).length = wd.length + 1 := by rw [len_tl, tl_append, List.length_append, ← len_tl, tl_sp]; rfl
  have elw : (wd ++ " " ++ Txt.join ", " (o.map opT)).length = wd.length + 1 + (Txt.join ", " (o.map opT)).length := by rw [len_tl, ej, List.length_append, ← len_tl, ← len_tl, el1]
  refine ⟨?_, ?_, fun z => ?_⟩
  · have := cutS_app _ _ _ ej
    rw [el1] at this
    rw [eL]
    exact this
  · rw [eL]
    exact starts_ok _ _ _ (by rw [tl_append, tl_sp]; simp) ej
  · rw [eL] at z
    have := congrArg Str.length z
    omega
theorem cT_right {wd : Str} {o : Ops} (nd : (o.map (·.1)).Nodup) (ok : ∀ q ∈ o, OpT q) : cT wd (opsL wd o) = some o := by
  unfold cT
  by_cases on : o = []
  · subst on
    exact if_pos (show opsL wd [] = wd from rfl)
  · obtain ⟨h1, h2, h3⟩ := opsL_behind (wd := wd) on
    rw [if_neg h3, if_pos h2, h1, ops_split on ok]
    exact cntAll_right o [] nd ok
theorem atI_last (xs : List V) (v : V) : atI (xs ++ [v]) (-1) = some v := by
  unfold atI ixN
  rw [if_neg (by decide), if_pos (by rw [List.length_append]; show -((xs.length + 1 : Nat) : Int) ≤ -1; omega)]
  show (xs ++ [v])[((-1 : Int) + ((xs ++ [v]).length : Int)).toNat]? = some v
  have : ((-1 : Int) + ((xs ++ [v]).length : Int)).toNat = xs.length := by
    rw [List.length_append]
    show ((-1 : Int) + ((xs.length + 1 : Nat) : Int)).toNat = _
    omega
  rw [this]
  simp
theorem get_last (xs : List V) (v : V) : (xs ++ [v])[(xs ++ [v]).length - 1]? = some v := by simp
theorem cutV_drop {k : Nat} {xs : List V} (h : k ≤ xs.length) : cutV xs (some (k : Int)) none = xs.drop k := by
  unfold cutV
  rw [HT.sIx_nat, HT.sIx_none, Nat.min_eq_left h]
  exact List.take_of_length_le (by rw [List.length_drop]; exact Nat.le_refl _)
theorem cutV2 {a b : V} {r : List V} : cutV (a :: b :: r) (some 2) none = r := cutV_drop (k := 2) (by rw [List.length_cons, List.length_cons]; omega)
theorem cutV1 {a : V} {r : List V} : cutV (a :: r) (some 1) none = r := cutV_drop (k := 1) (by rw [List.length_cons]; omega)
theorem atI_of {xs : List V} {k : Nat} {v : V} (h : xs[k]? = some v) : atI xs (k : Int) = some v := by
  have := (List.getElem?_eq_some_iff.mp h).1
  unfold atI ixN
  rw [if_pos (by omega), if_pos (by omega)]
  exact h
theorem int_step {H Hx H2 : Hp} {D : Addr} {ns : List Int} {i : Nat} {n : Int} (nD : H D = none) (sx : Same H Hx) (ex : Hx D = some (.lst ((ns.take i).map V.int))) (s2 : Same Hx H2) (hs : ns[i]? = some n) (few : ns.length ≤ 100000) :
    ∃ acc, H2 D = some (.lst acc) ∧ acc.length < sizeLine ∧ Same H (upd H2 D (.lst (acc ++ [.int n]))) ∧ upd H2 D (.lst (acc ++ [.int n])) D = some (.lst ((ns.take (i + 1)).map V.int)) := by
  refine ⟨_, s2 _ _ ex, ?_, fun b o e => ?_, ?_⟩
  · rw [List.length_map, List.length_take, sizeLine_eq]
    omega
  · rw [upd_ne (ne_of_none e nD)]
    exact s2 _ _ (sx _ _ e)
  · rw [upd_same, List.take_add_one, hs, List.map_append]
    rfl
end Mine

set_option maxRecDepth 100000
set_option maxHeartbeats 4000000
namespace Mine
open PySem L2 TL
abbrev s_lines_of : Stmt := top 42
abbrev s_counts_told : Stmt := top 44
abbrev s_number_of_start : Stmt := top 46
abbrev s_row_told : Stmt := top 47
/-- what is told: a value, or None -/
def Out {α : Type} (r : Option α) (H : Hp) (Q : VK) (good : α → Hp → Prop) : Prop := match r with
  | none => ∀ H', Same H H' → Q .non H'
  | some x => good x H
def spCountsT : Sp := fun vs H Q _ => ∃ wd x : Str, vs = [.str x, .str wd] ∧ COk wd x ∧ Out (cT wd x) H Q fun o H => New H (.dK (opsK o)) Q
def spRowT : Sp := fun vs H Q _ => ∃ (x : Str) (i : Int), vs = [.str x, .int i] ∧ Small i ∧ WOk x ∧ Out (rT i x) H Q fun e H => ∀ v H', Same H H' → TRowE H' v e → Q v H'
def spStartT : Sp := fun vs H Q _ => ∃ x : Str, vs = [.str x] ∧ WOk x ∧ Out (sT x) H Q fun b H => ∀ H', Same H H' → Q (.int b) H'
section
variable {P : Program} {w : World} {K : PySem.W.Frag} {mg : Str → Option Value} {base : Heap}
variable {fII fIW : Addr}
theorem sc_number_of_start : FnScope ["line", "words"] ["line"] (defScope s_number_of_start) := ⟨rfl, rfl, rfl, by decide +kernel, rfl, by decide +kernel, by decide +kernel⟩

theorem ok_number_of_startT {f a_is_number : Addr} {fd fd_is_number : FuncData} (F : Fun K "number_of_start" "number_of_start" s_number_of_start f fd) (T : TxtF K mg fII fIW)
    (G_is_number : FnOk P w K mg base CX0 1 a_is_number fd_is_number ["text"] spIsNumber) (b_is_number : Binds K fd_is_number ["text"] []) (g_is_number : mg "is_number" = some (.ref a_is_number)) (k_is_number : PySem.W.keepIn K (.ref a_is_number) = true) : FnOk P w K mg base CX0 2 f fd ["line"] spStartT := by
  refine F.ok sc_number_of_start (fun vs H Q E h => ?_) (fun cdv A outer s H vs Q E hr h => ?_)
  · obtain ⟨x, rfl, _⟩ := h
    rfl
  · obtain ⟨x, rfl, ok, k⟩ := h
    refine ⟨_, (pss_cons (ps_set (i := 1) sc_number_of_start.nd rfl (Or.inl rfl) (pe_split (pv 0) pe_str))
      (pss_cons (ps_if (PW.pt (pw_and (pt_cmpR op_eq (pe_callB call_len_seq (by rfl) T.b_len PySem.boot_len (pa_cons (pv 1) pa_nil)) pe_int (nomark _)) (pw_and (pt_cmpR op_eq (pe_ix ix_list (pv 1) pe_int (fun _ _ => rfl)) pe_str (nomark _)) (pw_and1 (pt_val (pe_call G_is_number (hr.mono (by decide)) (by rfl) g_is_number k_is_number b_is_number .nil pass0 (pa_cons (pe_ix ix_list (pv 1) pe_int (fun _ _ => rfl)) pa_nil))))))) (pss_one (ps_ret (pe_callTy call_int_str (by rfl) T.b_int (by decide +kernel) (pa_cons (pe_ix ix_list (pv 1) pe_int (fun _ _ => rfl)) pa_nil)))) pss_nil)
      (pss_one (ps_ret pe_non)))), ?_⟩
    have xl := ok.1
    refine ⟨_, rfl, ⟨_, rfl⟩, _, " ", rfl, rfl, by decide +kernel, by rw [sizeLine_eq]; omega, fun p np => ?_⟩
    have few := ok.2.1
    have sm := ok.2.2
    unfold sT at k
    generalize Txt.split x " " = ws at k few sm ⊢
    have sp := sameNew np (.lst (ws.map V.str))
    have ep : upd H p (.lst (ws.map V.str)) p = some (.lst (ws.map V.str)) := upd_same
    generalize upd H p (.lst (ws.map V.str)) = X1 at sp ep ⊢
    by_cases h2 : ∃ a b, ws = [a, b]
    · obtain ⟨a, b, rfl⟩ := h2
      refine ⟨_, rfl, p, _, rfl, .inl (SqL.of ep), rfl, _, rfl, ?_⟩
      refine iteT ?_
      refine ⟨_, rfl, p, _, 0, .str a, rfl, rfl, SqL.of ep, rfl, rfl, _, rfl, ?_⟩
      have k : Out (if decide (a = "start") && isNumT b then some (numV b) else none) H Q fun b H => ∀ H', Same H H' → Q (.int b) H' := k
      by_cases ea : a = "start"
      · rw [decide_eq_true (show V.str a = V.str "start" by rw [ea])]
        rw [decide_eq_true ea, Bool.true_and] at k
        refine iteT ?_
        refine ⟨_, rfl, p, _, 1, .str b, rfl, rfl, SqL.of ep, rfl, b, rfl, by have := sm b (by simp); omega, fun H2 s2 => ⟨_, rfl, ?_⟩⟩
        by_cases eb : isNumT b = true
        · rw [eb] at k ⊢
          refine iteT ?_
          have bi := isNum_int eb
          refine ⟨_, rfl, p, _, 1, .str b, rfl, rfl, SqL.of (s2 _ _ ep), rfl, _, numV b, rfl, bi.1, by omega, ?_⟩
          exact k _ (sp.trans s2)
        · have eb := Bool.eq_false_iff.mpr eb
          rw [eb] at k ⊢
          refine iteF ?_
          exact k _ (sp.trans s2)
      · rw [decide_eq_false (show ¬ V.str a = V.str "start" from fun z => ea (V.str.inj z))]
        rw [decide_eq_false ea, Bool.false_and] at k
        refine iteF ?_
        exact k _ sp
    · have kn : Out (none : Option Int) H Q fun b H => ∀ H', Same H H' → Q (.int b) H' := by
        match ws, h2, k with
        | [], _, k => exact k
        | [_], _, k => exact k
        | [a, b], h2, _ => exact absurd ⟨a, b, rfl⟩ h2
        | _ :: _ :: _ :: _, _, k => exact k
      have hl : ¬ (ws.map V.str).length = 2 := fun z => by
        rw [List.length_map] at z
        match ws, h2, z with
        | [a, b], h2, _ => exact h2 ⟨a, b, rfl⟩
      refine ⟨_, rfl, p, _, rfl, .inl (SqL.of ep), rfl, _, rfl, ?_⟩
      rw [decide_eq_false (show ¬ V.int (((ws.map V.str).length : Nat) : Int) = V.int 2 from fun z => hl (by have := V.int.inj z; omega))]
      refine iteF ?_
      exact kn _ sp
theorem sc_counts_told : FnScope ["line", "word", "counts", "part", "words"] ["line", "word"] (defScope s_counts_told) := ⟨rfl, rfl, rfl, by decide +kernel, rfl, by decide +kernel, by decide +kernel⟩

theorem ok_counts_toldT {f a_is_name a_is_number : Addr} {fd fd_is_name fd_is_number : FuncData} (F : Fun K "counts_told" "counts_told" s_counts_told f fd) (T : TxtF K mg fII fIW)
    (G_is_name : FnOk P w K mg base CX0 1 a_is_name fd_is_name ["thing"] (spName K)) (b_is_name : Binds K fd_is_name ["thing"] []) (g_is_name : mg "is_name" = some (.ref a_is_name)) (k_is_name : PySem.W.keepIn K (.ref a_is_name) = true)
    (G_is_number : FnOk P w K mg base CX0 1 a_is_number fd_is_number ["text"] spIsNumber) (b_is_number : Binds K fd_is_number ["text"] []) (g_is_number : mg "is_number" = some (.ref a_is_number)) (k_is_number : PySem.W.keepIn K (.ref a_is_number) = true) : FnOk P w K mg base CX0 2 f fd ["line", "word"] spCountsT := by
  refine F.ok sc_counts_told (fun vs H Q E h => ?_) (fun cdv A outer s H vs Q E hr h => ?_)
  · obtain ⟨wd, x, rfl, _⟩ := h
    rfl
  · obtain ⟨wd, x, rfl, hok, k⟩ := h
    refine ⟨_, (pss_cons (ps_if (pt_cmpR op_eq (pv 0) (pv 1) (nomark _)) (pss_one (ps_ret pe_dnewK)) pss_nil)
      (pss_cons (ps_if (pt_not (pt_truth (pe_m1 PySem.F.slot_str_startswith PySem.F.type_str_startswith mt_startswith (pv 0) (pe_op op_add_str (pv 1) pe_str)) (by intro _; rfl))) (pss_one (ps_ret pe_non)) pss_nil)
      (pss_cons (ps_set (i := 2) sc_counts_told.nd rfl (Or.inl rfl) pe_dnewK)
      (pss_cons (ps_for PassesOwn.never rfl (pi_list (pe_split (pe_slice sl_str (pv 0) (po_some (pe_op op_add (pe_callB call_len_str (by rfl) T.b_len PySem.boot_len (pa_cons (pv 1) pa_nil)) pe_int)) po_none) pe_str)) (pg_name (i := 3) sc_counts_told.nd rfl (Or.inl rfl)) (pss_cons (ps_set (i := 4) sc_counts_told.nd rfl (Or.inl rfl) (pe_split (pv 3) pe_str))
      (pss_cons (ps_if (PW.pt (pw_or (pt_cmpR op_ne (pe_callB call_len_seq (by rfl) T.b_len PySem.boot_len (pa_cons (pv 4) pa_nil)) pe_int (nomark _)) (pw_or (pt_not (pt_val (pe_call G_is_name (hr.mono (by decide)) (by rfl) g_is_name k_is_name b_is_name .nil pass0 (pa_cons (pe_ix ix_list (pv 4) pe_int (fun _ _ => rfl)) pa_nil)))) (pw_or (pt_not (pt_val (pe_call G_is_number (hr.mono (by decide)) (by rfl) g_is_number k_is_number b_is_number .nil pass0 (pa_cons (pe_ix ix_list (pv 4) pe_int (fun _ _ => rfl)) pa_nil)))) (pw_or1 (pt_cmp (pc_din (hu_of hr) (pe_ix ix_list (pv 4) pe_int (fun _ _ => rfl)) (pv 2)) rfl)))))) (pss_one (ps_ret pe_non)) pss_nil)
      (pss_one (ps_asg (pe_callTy call_int_str (by rfl) T.b_int (by decide +kernel) (pa_cons (pe_ix ix_list (pv 4) pe_int (fun _ _ => rfl)) pa_nil)) (pg_sub (pv 2) (pe_ix ix_list (pv 4) pe_int (fun _ _ => rfl)) (set_dict (hu_of hr))))))))
      (pss_one (ps_ret (pv 2))))))), ?_⟩
    obtain ⟨xl, wl, bl, fw, ok⟩ := hok
    refine ⟨_, rfl, _, rfl, rfl, _, rfl, ?_⟩
    unfold cT at k
    by_cases e1 : x = wd
    · rw [if_pos e1] at k
      rw [decide_eq_true (show V.str x = V.str wd by rw [e1])]
      refine iteT ?_
      exact fun p np => k p _ np (sameNew np _) upd_same
    rw [if_neg e1] at k
    rw [decide_eq_false (show ¬ V.str x = V.str wd from fun z => e1 (V.str.inj z))]
    refine iteF ?_
    refine ⟨_, rfl, ⟨_, rfl⟩, _, rfl, wd, " ", rfl, rfl, line_ok (by rw [sp_len]; omega), _, _, rfl, rfl, _, rfl, ?_⟩
    by_cases e2 : Txt.startswith x (wd ++ " ") = true
    · rw [if_pos e2] at k
      rw [e2]
      refine iteF ?_
      refine fun D nD => ?_
      have sD := sameNew nD (.dK [])
      have eD : upd H D (.dK []) D = some (.dK []) := upd_same
      generalize upd H D (.dK []) = X1 at sD eD ⊢
      have eC : cutS x (some ((wd.length : Int) + 1)) none = behind wd x := rfl
      refine ⟨_, rfl, _, rfl, wd, rfl, line_ok (by omega), _, _, rfl, rfl, _, rfl, _, rfl, line_ok (by omega), ⟨_, rfl⟩, _, ", ", rfl, rfl, by decide +kernel, ?_, fun p np => ?_⟩
      · rw [eC, sizeLine_eq]
        omega
      rw [eC]
      generalize Txt.split (behind wd x) ", " = ps at k fw ok ⊢
      have sp := sameNew np (.lst (ps.map V.str))
      have ep : upd X1 p (.lst (ps.map V.str)) p = some (.lst (ps.map V.str)) := upd_same
      generalize upd X1 p (.lst (ps.map V.str)) = X2 at sp ep ⊢
      have eD2 := sp _ _ eD
      have pD : p ≠ D := fun z => by rw [z, eD2] at ep; cases ep
      have back : ∀ {Hz : Hp}, (∀ b u, b ≠ D → X2 b = some u → Hz b = some u) → Same H Hz := fun kp b u e => kp b u (ne_of_none e nD) (sp _ _ (sD _ _ e))
      refine ⟨p, rfl, ⟨_, SqL.of ep⟩, for_list (K := K) (a := p) (xs := ps.map V.str) (fun j σ Hx => ∃ (v3 v4 : Option V) (o : Ops), σ = [some (.str x), some (.str wd), some (.ref D), v3, v4] ∧ (∀ b u, b ≠ D → X2 b = some u → Hx b = some u) ∧ Hx D = some (.dK (opsK o)) ∧ o.length ≤ j ∧ cntAll ps [] = cntAll (ps.drop j) o) ⟨_, _, [], rfl, fun _ _ _ e => e, eD2, Nat.zero_le _, rfl⟩ (fun j σ Hz _ z => by obtain ⟨_, _, _, _, kp, _⟩ := z; exact SqL.of (kp _ _ pD ep)) ?_ ?_⟩
      · rintro j y σ Hz hj ⟨v3, v4, o, rfl, kp, eZ, lo, hc⟩
        have hj2 : j < ps.length := by
          have := (List.getElem?_eq_some_iff.mp hj).1
          rw [List.length_map] at this
          exact this
        have el : ps[j]? = some ps[j] := List.getElem?_eq_getElem hj2
        have ml := List.mem_of_getElem? el
        have ed : ps.drop j = ps[j] :: ps.drop (j + 1) := List.drop_eq_getElem_cons hj2
        rw [ed] at hc
        generalize ps[j] = q at el ml hc
        have hc : cntAll ps [] = (cntStep o q).bind (cntAll (ps.drop (j + 1))) := hc
        rw [List.getElem?_map, el] at hj
        have hj := Option.some.inj hj
        subst hj
        have wq := ok q ml
        have ql := wq.1
        have few := wq.2.1
        have sm := wq.2.2
        refine ⟨_, rfl, ⟨_, rfl⟩, _, " ", rfl, rfl, by decide +kernel, by rw [sizeLine_eq]; omega, fun w nw => ?_⟩
        unfold cntStep at hc
        generalize Txt.split q " " = ws at hc few sm ⊢
        have sw := sameNew nw (.lst (ws.map V.str))
        have ew : upd Hz w (.lst (ws.map V.str)) w = some (.lst (ws.map V.str)) := upd_same
        generalize upd Hz w (.lst (ws.map V.str)) = X3 at sw ew ⊢
        have non : ∀ {H4 : Hp}, Same X3 H4 → cntAll ps [] = none → Q .non H4 := fun s4 e => by
          rw [e] at k
          exact k _ ((back kp).trans (sw.trans s4))
        by_cases h2 : ∃ a b, ws = [a, b]
        · obtain ⟨a, b, rfl⟩ := h2
          have hc : cntAll ps [] = (if isNm a && (isNumT b && (opLook o a).isNone) then some (o ++ [(a, numV b)]) else none).bind (cntAll (ps.drop (j + 1))) := hc
          have al := sm a (by simp)
          have bl2 := sm b (by simp)
          refine ⟨_, rfl, w, _, rfl, .inl (SqL.of ew), rfl, _, rfl, ?_⟩
          refine iteF ?_
          refine ⟨_, rfl, w, _, 0, .str a, rfl, rfl, SqL.of ew, atI_of (k := 0) rfl, .str a, "str", rfl, btStr a, fun x ex => by rw [← V.str.inj ex]; exact line_ok (by omega), fun H4 s4 => ⟨_, rfl, ?_⟩⟩
          rw [show nameV (.str a) = isNm a from rfl]
          by_cases ea : isNm a = true
          · rw [ea] at hc ⊢
            rw [Bool.true_and] at hc
            refine iteF ?_
            refine ⟨_, rfl, w, _, 1, .str b, rfl, rfl, SqL.of (s4 _ _ ew), atI_of (k := 1) rfl, b, rfl, by omega, fun H5 s5 => ⟨_, rfl, ?_⟩⟩
            by_cases eb : isNumT b = true
            · have bi := isNum_int eb
              rw [eb] at hc ⊢
              rw [Bool.true_and] at hc
              refine iteF ?_
              have e5 : H5 D = some (.dK (opsK o)) := s5 _ _ (s4 _ _ (sw _ _ eZ))
              have ew5 := s5 _ _ (s4 _ _ ew)
              refine ⟨_, rfl, w, _, 0, .str a, rfl, rfl, SqL.of ew5, atI_of (k := 0) rfl, _, rfl, D, _, rfl, DGet.k (k := .inr a) e5, _, rfl, ?_⟩
              cases ev : opLook o a with
              | none =>
                have vn : valV (opsK o) (.inr a) = none := by rw [val_ops, ev]; rfl
                rw [show (valV (opsK o) (.inr a)).isSome = false by rw [vn]; rfl]
                refine iteF ?_
                rw [ev] at hc
                refine ⟨_, rfl, w, _, 1, .str b, rfl, rfl, SqL.of ew5, atI_of (k := 1) rfl, b, numV b, rfl, bi.1, by omega, _, rfl, _, rfl, w, _, 0, .str a, rfl, rfl, SqL.of ew5, atI_of (k := 0) rfl, D, _, rfl, DPut.k (k := .inr a) e5 (by rw [opsK_len, sizeLine_eq]; omega), ?_⟩
                refine ⟨_, _, o ++ [(a, numV b)], rfl, fun b2 u nb e => ?_, ?_, by rw [List.length_append]; show o.length + 1 ≤ j + 1; omega, hc⟩
                · rw [upd_ne nb]
                  exact s5 _ _ (s4 _ _ (sw _ _ (kp b2 u nb e)))
                · rw [upd_same, putK_new _ vn]
                  unfold opsK
                  rw [List.map_append]
                  rfl
              | some n =>
                have vn : valV (opsK o) (.inr a) = some (.int n) := by rw [val_ops, ev]; rfl
                rw [show (valV (opsK o) (.inr a)).isSome = true by rw [vn]; rfl]
                refine iteT ?_
                rw [ev] at hc
                exact non (s4.trans s5) hc
            · have eb := Bool.eq_false_iff.mpr eb
              rw [eb] at hc ⊢
              refine iteT ?_
              exact non (s4.trans s5) hc
          · have ea := Bool.eq_false_iff.mpr ea
            rw [ea] at hc ⊢
            refine iteT ?_
            exact non s4 hc
        · have hn : cntAll ps [] = none := by
            match ws, h2, hc with
            | [], _, hc => exact hc
            | [_], _, hc => exact hc
            | [a, b], h2, _ => exact absurd ⟨a, b, rfl⟩ h2
            | _ :: _ :: _ :: _, _, hc => exact hc
          have hl : ¬ (ws.map V.str).length = 2 := fun z => by
            rw [List.length_map] at z
            match ws, h2, z with
            | [a, b], h2, _ => exact h2 ⟨a, b, rfl⟩
          refine ⟨_, rfl, w, _, rfl, .inl (SqL.of ew), rfl, _, rfl, ?_⟩
          rw [decide_eq_false (show ¬ V.int (((ws.map V.str).length : Nat) : Int) = V.int 2 from fun z => hl (by have := V.int.inj z; omega))]
          refine iteT ?_
          exact non (Same.refl _) hn
      · rintro σ Hz ⟨v3, v4, o, rfl, kp, eZ, lo, hc⟩
        rw [List.drop_of_length_le (by rw [List.length_map]; exact Nat.le_refl _)] at hc
        rw [hc] at k
        exact ⟨_, rfl, k D Hz nD (back kp) eZ⟩
    · have e2 := Bool.eq_false_iff.mpr e2
      rw [if_neg (by rw [e2]; decide)] at k
      rw [e2]
      refine iteT ?_
      exact k _ (Same.refl _)
theorem sc_row_told : FnScope ["line", "index", "words", "word", "told", "number"] ["line", "index"] (defScope s_row_told) := ⟨rfl, rfl, rfl, by decide +kernel, rfl, by decide +kernel, by decide +kernel⟩

theorem bl_step {H Hx H2 : Hp} {D : Addr} {bs : List Bool} {i : Nat} {b : Bool} (nD : H D = none) (sx : Same H Hx) (ex : Hx D = some (.lst ((bs.take i).map V.bl))) (s2 : Same Hx H2) (hs : bs[i]? = some b) (few : bs.length ≤ 100000) :
    ∃ acc, H2 D = some (.lst acc) ∧ acc.length < sizeLine ∧ Same H (upd H2 D (.lst (acc ++ [.bl b]))) ∧ upd H2 D (.lst (acc ++ [.bl b])) D = some (.lst ((bs.take (i + 1)).map V.bl)) := by
  refine ⟨_, s2 _ _ ex, ?_, fun b2 o e => ?_, ?_⟩
  · rw [List.length_map, List.length_take, sizeLine_eq]
    omega
  · rw [upd_ne (ne_of_none e nD)]
    exact s2 _ _ (sx _ _ e)
  · rw [upd_same, List.take_add_one, hs, List.map_append]
    rfl
theorem in_two {w : Str} (h1 : w ≠ "end") (h2 : w ≠ "finish") : (if false = true then !inV (V.str w) [V.str "end", V.str "finish"] else inV (V.str w) [V.str "end", V.str "finish"]) = false := by
  show ((("end" : Str) == w) || ((("finish" : Str) == w) || false)) = false
  rw [beq_eq_false_iff_ne.mpr (Ne.symm h1), beq_eq_false_iff_ne.mpr (Ne.symm h2)]
  rfl
theorem wT_ask (t : Str) (r : List Str) : wT "ask" t r = if isNm t && r.all isNumT then some (.ask t (r.map numV)) else none := by
  unfold wT
  rw [if_pos rfl]
theorem wT_end (t : Str) (r : List Str) : wT "end" t r = if r.isEmpty && isNm t then some (.two "end" t) else none := by
  unfold wT
  rw [if_neg (by decide +kernel), if_pos rfl]
theorem wT_fin (t : Str) (r : List Str) : wT "finish" t r = if r.isEmpty && isNm t then some (.two "finish" t) else none := by
  unfold wT
  rw [if_neg (by decide +kernel), if_neg (by decide +kernel), if_pos rfl]
theorem wT_go (t : Str) (r : List Str) : wT "go" t r = if r.isEmpty && isNumT t then some (.go (numV t)) else none := by
  unfold wT
  rw [if_neg (by decide +kernel), if_neg (by decide +kernel), if_neg (by decide +kernel), if_pos rfl]
theorem wT_ans (t : Str) (r : List Str) : wT "answer" t r = (match r with
    | [y] => if isNumT t && isNm y then some (.ans (numV t) y) else none
    | _ => none) := by
  unfold wT
  rw [if_neg (by decide +kernel), if_neg (by decide +kernel), if_neg (by decide +kernel), if_neg (by decide +kernel), if_pos rfl]
  all_goals (rcases r with _ | ⟨y, _ | ⟨z, r⟩⟩ <;> rfl)
theorem len_one {v : V} {r : List Str} (h : r ≠ []) : decide (V.int (((v :: r.map V.str).length : Nat) : Int) = V.int 1) = false := decide_eq_false fun z => by
  have := V.int.inj z
  rw [List.length_cons, List.length_map] at this
  exact h (List.length_eq_zero_iff.mp (by omega))
theorem len_two {v : V} {r : List Str} (h : ∀ y, r ≠ [y]) : decide (V.int (((v :: r.map V.str).length : Nat) : Int) = V.int 2) = false := decide_eq_false fun z => by
  have := V.int.inj z
  rw [List.length_cons, List.length_map] at this
  match r, h, this with
  | [y], h, _ => exact h y rfl
  | [], _, this => exact absurd this (by simp)
  | _ :: _ :: _, _, this => simp at this; omega
theorem ok_row_toldT {f a_is_name a_is_number : Addr} {fd fd_is_name fd_is_number : FuncData} (F : Fun K "row_told" "row_told" s_row_told f fd) (T : TxtF K mg fII fIW)
    (G_is_name : FnOk P w K mg base CX0 1 a_is_name fd_is_name ["thing"] (spName K)) (b_is_name : Binds K fd_is_name ["thing"] []) (g_is_name : mg "is_name" = some (.ref a_is_name)) (k_is_name : PySem.W.keepIn K (.ref a_is_name) = true)
    (G_is_number : FnOk P w K mg base CX0 1 a_is_number fd_is_number ["text"] spIsNumber) (b_is_number : Binds K fd_is_number ["text"] []) (g_is_number : mg "is_number" = some (.ref a_is_number)) (k_is_number : PySem.W.keepIn K (.ref a_is_number) = true) : FnOk P w K mg base CX0 2 f fd ["line", "index"] spRowT := by
  refine F.ok sc_row_told (fun vs H Q E h => ?_) (fun cdv A outer s H vs Q E hr h => ?_)
  · obtain ⟨x, i, rfl, _⟩ := h
    rfl
  · obtain ⟨x, i, rfl, si, ok, k⟩ := h
    refine ⟨_, (pss_cons (ps_set (i := 2) sc_row_told.nd rfl (Or.inl rfl) (pe_split (pv 0) pe_str))
      (pss_cons (ps_if (PW.pt (pw_or (pt_cmpR op_lt (pe_callB call_len_seq (by rfl) T.b_len PySem.boot_len (pa_cons (pv 2) pa_nil)) pe_int (nomark _)) (pw_or1 (pt_cmpR op_ne (pe_ix ix_list (pv 2) pe_int (fun _ _ => rfl)) (pe_callTy call_str_int (by rfl) T.b_str (by decide +kernel) (pa_cons (pv 1) pa_nil)) (nomark _))))) (pss_one (ps_ret pe_non)) pss_nil)
      (pss_cons (ps_par (i := 3) (j := 4) rfl sc_row_told.nd rfl rfl (by decide) rfl rfl (pa_cons (pe_ix ix_list (pv 2) pe_int (fun _ _ => rfl)) (pa_cons (pe_slice sl_listG (pv 2) (po_some pe_int) po_none) pa_nil)) rfl)
      (pss_cons (ps_if (PW.pt (pw_and (pt_cmpR op_eq (pv 3) pe_str (nomark _)) (pw_and (pt_val (pe_call G_is_name (hr.mono (by decide)) (by rfl) g_is_name k_is_name b_is_name .nil pass0 (pa_cons (pe_ix ix_list (pv 4) pe_int (fun _ _ => rfl)) pa_nil))) (pw_and1 (pt_val (pe_callB (cr_all rfl) (by rfl) T.b_all (by decide +kernel) (pa_cons (pe_lc (own := [("number", 5)]) (g := (gName 5)) (tt := tYes) rfl sc_row_told.nd (pi_list (pe_slice sl_listG (pv 4) (po_some pe_int) po_none)) (blkOk_by (own := [("number", 5)]) (N := ["line", "index", "words", "word", "told", "number"]) (sc := defScope s_row_told) (by decide +kernel)) (fun _ _ _ _ _ => (pg_name (i := 5) sc_row_told.nd rfl (Or.inl rfl))) (fun _ _ _ _ _ => pts_nil) (fun _ _ _ _ _ => (pe_call G_is_number (hr.mono (by decide)) (by rfl) g_is_number k_is_number b_is_number .nil pass0 (pa_cons (pv 5) pa_nil)))) pa_nil))))))) (pss_one (ps_ret (pe_tupG (pa_cons pe_str (pa_cons (pe_ix ix_list (pv 4) pe_int (fun _ _ => rfl)) (pa_cons (pe_callTy call_tupleG (by rfl) T.b_tuple (by decide +kernel) (pa_cons (pe_lc (own := [("number", 5)]) (g := (gName 5)) (tt := tYes) rfl sc_row_told.nd (pi_list (pe_slice sl_listG (pv 4) (po_some pe_int) po_none)) (blkOk_by (own := [("number", 5)]) (N := ["line", "index", "words", "word", "told", "number"]) (sc := defScope s_row_told) (by decide +kernel)) (fun _ _ _ _ _ => (pg_name (i := 5) sc_row_told.nd rfl (Or.inl rfl))) (fun _ _ _ _ _ => pts_nil) (fun _ _ _ _ _ => (pe_callTy call_int_str (by rfl) T.b_int (by decide +kernel) (pa_cons (pv 5) pa_nil)))) pa_nil)) pa_nil)))))) pss_nil)
      (pss_cons (ps_if (PW.pt (pw_and (pt_cmpR op_in_seq (pv 3) (pe_tupG (pa_cons pe_str (pa_cons pe_str pa_nil))) (by rfl)) (pw_and (pt_cmpR op_eq (pe_callB call_len_seq (by rfl) T.b_len PySem.boot_len (pa_cons (pv 4) pa_nil)) pe_int (nomark _)) (pw_and1 (pt_val (pe_call G_is_name (hr.mono (by decide)) (by rfl) g_is_name k_is_name b_is_name .nil pass0 (pa_cons (pe_ix ix_list (pv 4) pe_int (fun _ _ => rfl)) pa_nil))))))) (pss_one (ps_ret (pe_tupG (pa_cons (pv 3) (pa_cons (pe_ix ix_list (pv 4) pe_int (fun _ _ => rfl)) pa_nil))))) pss_nil)
      (pss_cons (ps_if (PW.pt (pw_and (pt_cmpR op_eq (pv 3) pe_str (nomark _)) (pw_and (pt_cmpR op_eq (pe_callB call_len_seq (by rfl) T.b_len PySem.boot_len (pa_cons (pv 4) pa_nil)) pe_int (nomark _)) (pw_and1 (pt_val (pe_call G_is_number (hr.mono (by decide)) (by rfl) g_is_number k_is_number b_is_number .nil pass0 (pa_cons (pe_ix ix_list (pv 4) pe_int (fun _ _ => rfl)) pa_nil))))))) (pss_one (ps_ret (pe_tupG (pa_cons pe_str (pa_cons (pe_callTy call_int_str (by rfl) T.b_int (by decide +kernel) (pa_cons (pe_ix ix_list (pv 4) pe_int (fun _ _ => rfl)) pa_nil)) pa_nil))))) pss_nil)
      (pss_cons (ps_if (PW.pt (pw_and (pt_cmpR op_eq (pv 3) pe_str (nomark _)) (pw_and (pt_cmpR op_eq (pe_callB call_len_seq (by rfl) T.b_len PySem.boot_len (pa_cons (pv 4) pa_nil)) pe_int (nomark _)) (pw_and (pt_val (pe_call G_is_number (hr.mono (by decide)) (by rfl) g_is_number k_is_number b_is_number .nil pass0 (pa_cons (pe_ix ix_list (pv 4) pe_int (fun _ _ => rfl)) pa_nil))) (pw_and1 (pt_val (pe_call G_is_name (hr.mono (by decide)) (by rfl) g_is_name k_is_name b_is_name .nil pass0 (pa_cons (pe_ix ix_list (pv 4) pe_int (fun _ _ => rfl)) pa_nil)))))))) (pss_one (ps_ret (pe_tupG (pa_cons pe_str (pa_cons (pe_callTy call_int_str (by rfl) T.b_int (by decide +kernel) (pa_cons (pe_ix ix_list (pv 4) pe_int (fun _ _ => rfl)) pa_nil)) (pa_cons (pe_ix ix_list (pv 4) pe_int (fun _ _ => rfl)) pa_nil)))))) pss_nil)
      (pss_one (ps_ret pe_non))))))))), ?_⟩
    have xl := ok.1
    have few := ok.2.1
    have sm := ok.2.2
    refine ⟨_, rfl, ⟨_, rfl⟩, _, " ", rfl, rfl, by decide +kernel, by rw [sizeLine_eq]; omega, fun p np => ?_⟩
    unfold rT at k
    generalize Txt.split x " " = ws at k few sm ⊢
    have sp := sameNew np (.lst (ws.map V.str))
    have ep : upd H p (.lst (ws.map V.str)) p = some (.lst (ws.map V.str)) := upd_same
    generalize upd H p (.lst (ws.map V.str)) = X1 at sp ep ⊢
    refine ⟨_, rfl, p, _, rfl, .inl (SqL.of ep), _, _, rfl, rfl, _, rfl, ?_⟩
    by_cases h3 : ∃ i0 w t r, ws = i0 :: w :: t :: r
    · obtain ⟨i0, w, t, r, rfl⟩ := h3
      rw [decide_eq_false (show ¬ ((((i0 :: w :: t :: r).map V.str).length : Nat) : Int) < 3 by rw [List.length_map, List.length_cons, List.length_cons, List.length_cons]; omega)]
      refine iteF ?_
      have ep : X1 p = some (.lst (.str i0 :: .str w :: .str t :: r.map V.str)) := ep
      have tl' := sm t (by simp)
      have rl : ∀ q ∈ r, q.length ≤ 1000 := fun q hq => sm q (by simp [hq])
      have rn : r.length ≤ 1000 := by simp only [List.length_cons] at few; omega
      refine ⟨_, rfl, p, _, 0, .str i0, rfl, rfl, SqL.of ep, atI_of (k := 0) rfl, _, rfl, i, rfl, num_log si, rfl, _, rfl, ?_⟩
      have k : Out (if i0 = num i then wT w t r else none) H Q fun e H => ∀ v H', Same H H' → TRowE H' v e → Q v H' := k
      by_cases ei : i0 = num i
      · rw [if_pos ei] at k
        rw [show (!decide (V.str i0 = V.str (Str.ofString (toString i)))) = false from by rw [decide_eq_true (show V.str i0 = V.str (Str.ofString (toString i)) from by rw [ei]; rfl)]; rfl]
        refine iteF ?_
        refine ⟨_, rfl, p, _, 1, .str w, rfl, rfl, SqL.of ep, atI_of (k := 1) rfl, _, rfl, 2, rfl, p, _, rfl, SqL.of ep, fun p2 X2 n2 s2 e2 => ?_⟩
        rw [cutV2] at e2
        have s12 := sp.trans s2
        refine ⟨_, _, rfl, ?_⟩
        refine ⟨_, rfl, rfl, _, rfl, ?_⟩
        by_cases wa : w = "ask"
        · subst wa
          rw [wT_ask] at k
          refine iteT ?_
          refine ⟨_, rfl, p2, _, 0, .str t, rfl, rfl, SqL.of e2, atI_of (k := 0) rfl, .str t, "str", rfl, btStr t, fun x ex => by rw [← V.str.inj ex]; exact line_ok (by omega), fun H3 s3 => ⟨_, rfl, ?_⟩⟩
          rw [show nameV (.str t) = isNm t from rfl]
          by_cases en : isNm t = true
          · rw [en] at k ⊢
            rw [Bool.true_and] at k
            refine iteT ?_
            refine ⟨_, rfl, 1, rfl, p2, _, rfl, SqL.of (s3 _ _ e2), fun p3 X4 n4 s4 e4 => ?_⟩
            rw [cutV1] at e4
            refine ⟨p3, rfl, ⟨_, SqL.of e4⟩, fun D nD => lc_it (walk_list (xs := r.map V.str)) (fun j Hx => Same X4 Hx ∧ Hx D = some (.lst (((r.map isNumT).take j).map V.bl))) ⟨sameNew nD _, upd_same⟩ (fun j Hx _ z => SqL.of (z.1 _ _ e4)) (fun j y Ha Hb hj z1 z2 => ?_) fun Hx z => ?_⟩
            · obtain ⟨sx, ex⟩ := z1
              obtain ⟨rfl, hy⟩ := z2
              have hi2 : j < r.length := by rw [List.length_map] at hj; exact hj
              have el : r[j]? = some r[j] := List.getElem?_eq_getElem hi2
              have ml := List.mem_of_getElem? el
              generalize r[j] = q at el ml
              have hy : (r.map V.str)[j]? = some y := hy
              rw [List.getElem?_map, el] at hy
              have hy := Option.some.inj hy
              subst hy
              have ql := rl q ml
              refine ⟨rfl, _, rfl, q, rfl, by omega, fun H' s' => ?_⟩
              exact bl_step nD sx ex s' (by rw [List.getElem?_map, el]; rfl) (by rw [List.length_map]; omega)
            · obtain ⟨sx, ex⟩ := z
              rw [List.take_of_length_le (by rw [List.length_map, List.length_map]; exact Nat.le_refl _)] at ex
              have sall := s12.trans (s3.trans (s4.trans sx))
              refine ⟨D, r.map isNumT, rfl, SqL.of ex, ?_⟩
              refine ⟨_, rfl, ?_⟩
              rw [show (r.map isNumT).all id = r.all isNumT from by rw [List.all_map]; rfl]
              by_cases ea : r.all isNumT = true
              · rw [ea] at k ⊢
                refine iteT ?_
                have e2b : Hx p2 = some (.lst (.str t :: r.map V.str)) := sx _ _ (s4 _ _ (s3 _ _ e2))
                refine ⟨_, rfl, p2, _, 0, .str t, rfl, rfl, SqL.of e2b, atI_of (k := 0) rfl, _, rfl, 1, rfl, p2, _, rfl, SqL.of e2b, fun p5 X5 n5 s5 e5 => ?_⟩
                rw [cutV1] at e5
                refine ⟨p5, rfl, ⟨_, SqL.of e5⟩, fun D2 nD2 => lc_it (walk_list (xs := r.map V.str)) (fun j Hx => Same X5 Hx ∧ Hx D2 = some (.lst (((r.map numV).take j).map V.int))) ⟨sameNew nD2 _, upd_same⟩ (fun j Hx _ z => SqL.of (z.1 _ _ e5)) (fun j y Ha Hb hj z1 z2 => ?_) fun Hy z => ?_⟩
                · obtain ⟨sy, ey⟩ := z1
                  obtain ⟨rfl, hy⟩ := z2
                  have hi2 : j < r.length := by rw [List.length_map] at hj; exact hj
                  have el : r[j]? = some r[j] := List.getElem?_eq_getElem hi2
                  have ml := List.mem_of_getElem? el
                  generalize r[j] = q at el ml
                  have hy : (r.map V.str)[j]? = some y := hy
                  rw [List.getElem?_map, el] at hy
                  have hy := Option.some.inj hy
                  subst hy
                  have bi := isNum_int (List.all_eq_true.mp ea q ml)
                  exact ⟨rfl, _, rfl, q, numV q, rfl, bi.1, by omega, int_step nD2 sy ey (Same.refl _) (by rw [List.getElem?_map, el]; rfl) (by rw [List.length_map]; omega)⟩
                · obtain ⟨sy, ey⟩ := z
                  rw [List.take_of_length_le (by rw [List.length_map, List.length_map]; exact Nat.le_refl _)] at ey
                  refine ⟨D2, _, rfl, .inl ey, fun tt X6 s6 e6 => ?_⟩
                  refine ⟨by show 3 ≤ sizeLine; decide, fun v X7 n7 s7 e7 => ?_⟩
                  exact k _ _ (sall.trans (s5.trans (sy.trans (s6.trans s7)))) ⟨v, tt, rfl, e7, s7 _ _ e6⟩
              · have ea := Bool.eq_false_iff.mpr ea
                rw [ea] at k ⊢
                refine iteF ?_
                refine ⟨_, rfl, by show 2 ≤ sizeLine; decide, fun T30 X30 n30 s30 e30 => ?_⟩
                refine ⟨T30, _, rfl, .inr (SqT.of e30), rfl, rfl, _, rfl, ?_⟩
                rw [show (if false = true then !inV (V.str "ask") [V.str "end", V.str "finish"] else inV (V.str "ask") [V.str "end", V.str "finish"]) = false by decide +kernel]
                refine iteF ?_
                refine iteF ?_
                refine ⟨_, rfl, rfl, _, rfl, ?_⟩
                refine iteF ?_
                refine iteF ?_
                refine ⟨_, rfl, rfl, _, rfl, ?_⟩
                refine iteF ?_
                refine iteF ?_
                exact k _ ((sall).trans s30)
          · have en := Bool.eq_false_iff.mpr en
            rw [en] at k ⊢
            refine iteF ?_
            refine iteF ?_
            refine ⟨_, rfl, by show 2 ≤ sizeLine; decide, fun T30 X30 n30 s30 e30 => ?_⟩
            refine ⟨T30, _, rfl, .inr (SqT.of e30), rfl, rfl, _, rfl, ?_⟩
            rw [show (if false = true then !inV (V.str "ask") [V.str "end", V.str "finish"] else inV (V.str "ask") [V.str "end", V.str "finish"]) = false by decide +kernel]
            refine iteF ?_
            refine iteF ?_
            refine ⟨_, rfl, rfl, _, rfl, ?_⟩
            refine iteF ?_
            refine iteF ?_
            refine ⟨_, rfl, rfl, _, rfl, ?_⟩
            refine iteF ?_
            refine iteF ?_
            exact k _ ((s12.trans s3).trans s30)
        by_cases we : w = "end" ∨ w = "finish"
        · rcases we with we | we
          · subst we
            rw [wT_end] at k
            refine iteF ?_
            refine iteF ?_
            refine ⟨_, rfl, by show 2 ≤ sizeLine; decide, fun T30 X30 n30 s30 e30 => ?_⟩
            refine ⟨T30, _, rfl, .inr (SqT.of e30), rfl, rfl, _, rfl, ?_⟩
            rw [show (if false = true then !inV (V.str "end") [V.str "end", V.str "finish"] else inV (V.str "end") [V.str "end", V.str "finish"]) = true by decide +kernel]
            refine iteT ?_
            have e2 := s30 _ _ e2
            have s12 := s12.trans s30
            refine ⟨_, rfl, p2, _, rfl, .inl (SqL.of e2), rfl, _, rfl, ?_⟩
            by_cases er : r = []
            · subst er
              have k : Out (if isNm t then some (RowE.two "end" t) else none) H Q fun e H => ∀ v H', Same H H' → TRowE H' v e → Q v H' := k
              refine iteT ?_
              refine ⟨_, rfl, p2, _, 0, .str t, rfl, rfl, SqL.of e2, atI_of (k := 0) rfl, .str t, "str", rfl, btStr t, fun x ex => by rw [← V.str.inj ex]; exact line_ok (by omega), fun H4 s4 => ⟨_, rfl, ?_⟩⟩
              rw [show nameV (.str t) = isNm t from rfl]
              by_cases en : isNm t = true
              · rw [en] at k ⊢
                refine iteT ?_
                refine ⟨_, rfl, _, rfl, p2, _, 0, .str t, rfl, rfl, SqL.of (s4 _ _ e2), atI_of (k := 0) rfl, by show 2 ≤ sizeLine; decide, fun v X7 n7 s7 e7 => ?_⟩
                exact k _ _ (s12.trans (s4.trans s7)) ⟨v, rfl, e7⟩
              · have en := Bool.eq_false_iff.mpr en
                rw [en] at k ⊢
                refine iteF ?_
                refine ⟨_, rfl, rfl, _, rfl, ?_⟩
                refine iteF ?_
                refine iteF ?_
                refine ⟨_, rfl, rfl, _, rfl, ?_⟩
                refine iteF ?_
                refine iteF ?_
                exact k _ (s12.trans s4)
            · have k : Out (none : Option RowE) H Q fun e H => ∀ v H', Same H H' → TRowE H' v e → Q v H' := by
                rw [show r.isEmpty = false by cases r with | nil => exact absurd rfl er | cons a b => rfl, Bool.false_and] at k
                exact k
              rw [len_one er]
              refine iteF ?_
              refine iteF ?_
              refine ⟨_, rfl, rfl, _, rfl, ?_⟩
              refine iteF ?_
              refine iteF ?_
              refine ⟨_, rfl, rfl, _, rfl, ?_⟩
              refine iteF ?_
              refine iteF ?_
              exact k _ (s12)
          · subst we
            rw [wT_fin] at k
            refine iteF ?_
            refine iteF ?_
            refine ⟨_, rfl, by show 2 ≤ sizeLine; decide, fun T30 X30 n30 s30 e30 => ?_⟩
            refine ⟨T30, _, rfl, .inr (SqT.of e30), rfl, rfl, _, rfl, ?_⟩
            rw [show (if false = true then !inV (V.str "finish") [V.str "end", V.str "finish"] else inV (V.str "finish") [V.str "end", V.str "finish"]) = true by decide +kernel]
            refine iteT ?_
            have e2 := s30 _ _ e2
            have s12 := s12.trans s30
            refine ⟨_, rfl, p2, _, rfl, .inl (SqL.of e2), rfl, _, rfl, ?_⟩
            by_cases er : r = []
            · subst er
              have k : Out (if isNm t then some (RowE.two "finish" t) else none) H Q fun e H => ∀ v H', Same H H' → TRowE H' v e → Q v H' := k
              refine iteT ?_
              refine ⟨_, rfl, p2, _, 0, .str t, rfl, rfl, SqL.of e2, atI_of (k := 0) rfl, .str t, "str", rfl, btStr t, fun x ex => by rw [← V.str.inj ex]; exact line_ok (by omega), fun H4 s4 => ⟨_, rfl, ?_⟩⟩
              rw [show nameV (.str t) = isNm t from rfl]
              by_cases en : isNm t = true
              · rw [en] at k ⊢
                refine iteT ?_
                refine ⟨_, rfl, _, rfl, p2, _, 0, .str t, rfl, rfl, SqL.of (s4 _ _ e2), atI_of (k := 0) rfl, by show 2 ≤ sizeLine; decide, fun v X7 n7 s7 e7 => ?_⟩
                exact k _ _ (s12.trans (s4.trans s7)) ⟨v, rfl, e7⟩
              · have en := Bool.eq_false_iff.mpr en
                rw [en] at k ⊢
                refine iteF ?_
                refine ⟨_, rfl, rfl, _, rfl, ?_⟩
                refine iteF ?_
                refine iteF ?_
                refine ⟨_, rfl, rfl, _, rfl, ?_⟩
                refine iteF ?_
                refine iteF ?_
                exact k _ (s12.trans s4)
            · have k : Out (none : Option RowE) H Q fun e H => ∀ v H', Same H H' → TRowE H' v e → Q v H' := by
                rw [show r.isEmpty = false by cases r with | nil => exact absurd rfl er | cons a b => rfl, Bool.false_and] at k
                exact k
              rw [len_one er]
              refine iteF ?_
              refine iteF ?_
              refine ⟨_, rfl, rfl, _, rfl, ?_⟩
              refine iteF ?_
              refine iteF ?_
              refine ⟨_, rfl, rfl, _, rfl, ?_⟩
              refine iteF ?_
              refine iteF ?_
              exact k _ (s12)
        rw [not_or] at we
        rw [decide_eq_false (show ¬ V.str w = V.str "ask" from fun z => wa (V.str.inj z))]
        refine iteF ?_
        refine iteF ?_
        refine ⟨_, rfl, by show 2 ≤ sizeLine; decide, fun T30 X30 n30 s30 e30 => ?_⟩
        refine ⟨T30, _, rfl, .inr (SqT.of e30), rfl, rfl, _, rfl, ?_⟩
        rw [in_two we.1 we.2]
        refine iteF ?_
        refine iteF ?_
        have e2 := s30 _ _ e2
        have s12 := s12.trans s30
        refine ⟨_, rfl, rfl, _, rfl, ?_⟩
        by_cases wg : w = "go"
        · subst wg
          rw [wT_go] at k
          refine iteT ?_
          refine ⟨_, rfl, p2, _, rfl, .inl (SqL.of e2), rfl, _, rfl, ?_⟩
          by_cases er : r = []
          · subst er
            have k : Out (if isNumT t then some (RowE.go (numV t)) else none) H Q fun e H => ∀ v H', Same H H' → TRowE H' v e → Q v H' := k
            refine iteT ?_
            refine ⟨_, rfl, p2, _, 0, .str t, rfl, rfl, SqL.of e2, atI_of (k := 0) rfl, t, rfl, by omega, fun H4 s4 => ⟨_, rfl, ?_⟩⟩
            by_cases en : isNumT t = true
            · rw [en] at k ⊢
              have bi := isNum_int en
              refine iteT ?_
              refine ⟨_, rfl, p2, _, 0, .str t, rfl, rfl, SqL.of (s4 _ _ e2), atI_of (k := 0) rfl, t, numV t, rfl, bi.1, by omega, by show 2 ≤ sizeLine; decide, fun v X7 n7 s7 e7 => ?_⟩
              exact k _ _ (s12.trans (s4.trans s7)) ⟨v, rfl, e7⟩
            · have en := Bool.eq_false_iff.mpr en
              rw [en] at k ⊢
              refine iteF ?_
              refine ⟨_, rfl, rfl, _, rfl, ?_⟩
              refine iteF ?_
              refine iteF ?_
              exact k _ (s12.trans s4)
          · have k : Out (none : Option RowE) H Q fun e H => ∀ v H', Same H H' → TRowE H' v e → Q v H' := by
              rw [show r.isEmpty = false by cases r with | nil => exact absurd rfl er | cons a b => rfl, Bool.false_and] at k
              exact k
            rw [len_one er]
            refine iteF ?_
            refine iteF ?_
            refine ⟨_, rfl, rfl, _, rfl, ?_⟩
            refine iteF ?_
            refine iteF ?_
            exact k _ (s12)
        rw [decide_eq_false (show ¬ V.str w = V.str "go" from fun z => wg (V.str.inj z))]
        refine iteF ?_
        refine iteF ?_
        refine ⟨_, rfl, rfl, _, rfl, ?_⟩
        by_cases wn : w = "answer"
        · subst wn
          rw [wT_ans] at k
          refine iteT ?_
          refine ⟨_, rfl, p2, _, rfl, .inl (SqL.of e2), rfl, _, rfl, ?_⟩
          by_cases er : ∃ y, r = [y]
          · obtain ⟨y, rfl⟩ := er
            have yl := rl y (by simp)
            have k : Out (if isNumT t && isNm y then some (RowE.ans (numV t) y) else none) H Q fun e H => ∀ v H', Same H H' → TRowE H' v e → Q v H' := k
            refine iteT ?_
            refine ⟨_, rfl, p2, _, 0, .str t, rfl, rfl, SqL.of e2, atI_of (k := 0) rfl, t, rfl, by omega, fun H4 s4 => ⟨_, rfl, ?_⟩⟩
            by_cases en : isNumT t = true
            · rw [en] at k ⊢
              rw [Bool.true_and] at k
              have bi := isNum_int en
              refine iteT ?_
              refine ⟨_, rfl, p2, _, 1, .str y, rfl, rfl, SqL.of (s4 _ _ e2), atI_of (k := 1) rfl, .str y, "str", rfl, btStr y, fun x ex => by rw [← V.str.inj ex]; exact line_ok (by omega), fun H5 s5 => ⟨_, rfl, ?_⟩⟩
              rw [show nameV (.str y) = isNm y from rfl]
              by_cases ey : isNm y = true
              · rw [ey] at k ⊢
                refine iteT ?_
                have e5 := s5 _ _ (s4 _ _ e2)
                refine ⟨_, rfl, p2, _, 0, .str t, rfl, rfl, SqL.of e5, atI_of (k := 0) rfl, t, numV t, rfl, bi.1, by omega, _, rfl, p2, _, 1, .str y, rfl, rfl, SqL.of e5, atI_of (k := 1) rfl, by show 3 ≤ sizeLine; decide, fun v X7 n7 s7 e7 => ?_⟩
                exact k _ _ (s12.trans (s4.trans (s5.trans s7))) ⟨v, rfl, e7⟩
              · have ey := Bool.eq_false_iff.mpr ey
                rw [ey] at k ⊢
                refine iteF ?_
                exact k _ (s12.trans (s4.trans s5))
            · have en := Bool.eq_false_iff.mpr en
              rw [en] at k ⊢
              refine iteF ?_
              refine iteF ?_
              exact k _ (s12.trans s4)
          · have k : Out (none : Option RowE) H Q fun e H => ∀ v H', Same H H' → TRowE H' v e → Q v H' := by
              match r, er, k with
              | [], _, k => exact k
              | [y], er, _ => exact absurd ⟨y, rfl⟩ er
              | _ :: _ :: _, _, k => exact k
            rw [len_two fun y z => er ⟨y, z⟩]
            refine iteF ?_
            refine iteF ?_
            exact k _ (s12)
        rw [decide_eq_false (show ¬ V.str w = V.str "answer" from fun z => wn (V.str.inj z))]
        refine iteF ?_
        refine iteF ?_
        have k : Out (none : Option RowE) H Q fun e H => ∀ v H', Same H H' → TRowE H' v e → Q v H' := by
          unfold wT at k
          rw [if_neg wa, if_neg we.1, if_neg we.2, if_neg wg, if_neg wn] at k
          exact k
        exact k _ s12
      · rw [if_neg ei] at k
        rw [show (!decide (V.str i0 = V.str (Str.ofString (toString i)))) = true from by rw [decide_eq_false (show ¬ V.str i0 = V.str (Str.ofString (toString i)) from fun z => ei (V.str.inj z))]; rfl]
        refine iteT ?_
        exact k _ sp
    · have kn : Out (none : Option RowE) H Q fun e H => ∀ v H', Same H H' → TRowE H' v e → Q v H' := by
        match ws, h3, k with
        | [], _, k => exact k
        | [_], _, k => exact k
        | [_, _], _, k => exact k
        | i0 :: w :: t :: r, h3, _ => exact absurd ⟨i0, w, t, r, rfl⟩ h3
      have hl : (ws.map V.str).length < 3 := by
        rw [List.length_map]
        match ws, h3 with
        | [], _ => simp
        | [_], _ => simp
        | [_, _], _ => simp
        | i0 :: w :: t :: r, h3 => exact absurd ⟨i0, w, t, r, rfl⟩ h3
      rw [decide_eq_true (show (((ws.map V.str).length : Nat) : Int) < 3 by omega)]
      refine iteT ?_
      exact kn _ sp
end
end Mine

set_option maxRecDepth 100000
set_option maxHeartbeats 2000000
/-! dicts with one odd key (None, a truth value, a tuple) behind texts -/
namespace OddD
open PySem PySem.Spec PyProof.Rows L2
section
variable {prog : Program} {w : World} {A : Around} {E : Value → Shared → Prop} {s : Shared}
theorem tells_no {a : Addr} {ks : List Key} {stored : List Value} {Q : Bool → Shared → Prop} (hk : IsTupleKey (mixKind prog w) s.heap ks a) (hst : ∀ v ∈ stored, carriedByValue v = true) (h : Q false s) : wpAny (model prog w) A (tableMayTell (.ref a) stored) Q E s := by
  unfold tableMayTell
  split
  · exact wpAny_pure h
  · refine wpAny_bind (wpAny_eqIsQuiet_tuple hk ?_)
    simp only [Bool.not_true, Bool.false_eq_true, if_false]
    refine wpAny_bind ?_
    refine wpAny_forIn_list _ (fun rest r s' => s' = s ∧ r = (none, ()) ∧ ∀ v ∈ rest, carriedByValue v = true) _ ?_ ?_ _ _ ⟨rfl, rfl, hst⟩
    · rintro x rest r s' ⟨rfl, rfl, hr⟩
      rw [eqIsQuiet_byValue _ (hr x List.mem_cons_self)]
      refine wpAny_bind (wpAny_pure ?_)
      simp only [Bool.not_true, Bool.false_eq_true, if_false]
      exact wpAny_pure ⟨rfl, rfl, fun v hv => hr v (List.mem_cons_of_mem _ hv)⟩
    · rintro r s' ⟨rfl, rfl, _⟩
      exact wpAny_pure h
/-- a tuple is looked for among texts -/
theorem find_tup {d a : Addr} {o : Obj} {es : Array DictEntry} {ep : Nat} {ks : List Key} {hh : Int} {Q : Option Nat → Shared → Prop} (hu : A.units < cLine) (hk : IsTupleKey (mixKind prog w) s.heap ks a)
    (ho : s.heap.get? d = some o) (hd : o.data = .dict es ep) (hs : ∀ e ∈ es, ∃ x t, e.key = .str x t) (h : Q none s) : wpAny (model prog w) A (dictFind d (.ref a) hh) Q E s := by
  have hany : ¬ (es.any fun e => e.key == Value.ref a && e.hash != hh) = true := by
    rw [← Array.any_toList, List.any_eq_true]
    rintro ⟨e, hin, hc⟩
    obtain ⟨x, t, e1⟩ := hs e (Array.mem_toList_iff.mp hin)
    rw [e1] at hc
    simp at hc
  have hst : ∀ v ∈ (placesWithHash es.size (fun i => es[i]?.map (·.hash)) hh).filterMap (fun i => es[i]?.map (·.key)), carriedByValue v = true := by
    intro v hv
    obtain ⟨i, _, hi⟩ := List.mem_filterMap.mp hv
    cases hei : es[i]? with
    | none => rw [hei] at hi; cases hi
    | some e =>
      rw [hei] at hi
      obtain rfl : e.key = v := by simpa using hi
      obtain ⟨x, t, e1⟩ := hs e (Array.mem_of_getElem? hei)
      rw [e1]
      rfl
  obtain ⟨oa, items, n, hoa, hca, hda, _⟩ := id hk
  have hl : s.heap.IsTuple a items := ⟨oa, hoa, hca, n, hda⟩
  unfold dictFind
  try with_reducible refine wpAny_holding ?_
  refine wpAny_bind (wpAny_dictEntries ho hd ?_)
  dsimp only
  rw [if_neg (show ¬ ((Value.ref a :: (placesWithHash es.size (fun i => es[i]?.map (·.hash)) hh).filterMap (fun i => es[i]?.map (·.key))).all carriedByValue) = true by simp [carriedByValue])]
  rw [if_neg hany]
  by_cases hone : (((placesWithHash es.size (fun i => es[i]?.map (·.hash)) hh).filterMap (fun i => es[i]?.map (·.key))) == [Value.ref a]) = true <;>
  (first | rw [if_pos hone] | rw [if_neg hone]) <;> (first | refine wpAny_bind (wpAny_pure ?_) | refine wpAny_bind (tells_no hk hst ?_)) <;> (
    rw [if_neg (by simp)]
    refine wpAny_bind ?_
    refine wpAny_forIn_list _ (fun rest b s' => s' = s ∧ b = (none, none)) _ ?_ ?_ _ _ ⟨rfl, rfl⟩
    · rintro x rest b s' ⟨rfl, rfl⟩
      cases hex : es[x]? with
      | none => exact wpAny_pure ⟨rfl, rfl⟩
      | some e =>
        dsimp only
        by_cases he : (e.hash == hh) = true
        · rw [if_pos he]
          obtain ⟨y, t, e1⟩ := hs e (Array.mem_of_getElem? hex)
          rw [e1]
          refine wpAny_bind (wpAny_dictEpoch ho hd (wpAny_bind (SeqAt.EqAt.str_tuple y t hl hu _ _ _ _ (wpAny_bind (wpAny_dictEpoch ho hd ?_)))))
          show wpAny _ _ (if (ep != ep) = true then _ else _) _ E _
          rw [if_neg (by simp)]
          simp only [Bool.false_eq_true, if_false]
          refine wpAny_bind (wpAny_rule ?_)
          first | rw [if_neg (by simp)] | skip
          first
            | exact wpAny_pure ⟨rfl, rfl⟩
            | exact wpAny_bind (wpAny_pure (wpAny_pure ⟨rfl, rfl⟩))
        · rw [if_neg he]
          exact wpAny_pure ⟨rfl, rfl⟩
    · rintro b s' ⟨rfl, rfl⟩
      exact wpAny_pure h)
/-- the entries' keys are texts -/
def TextKeys (w : World) (es : Array DictEntry) : Prop := ∀ e ∈ es, ∃ (x : Str) (t : Tok), e.key = .str x t ∧ e.hash = hashStr w x
/-- d[key] = v where no such key is: it comes last -/
def SetsLast (prog : Program) (w : World) (A : Around) (E : Value → Shared → Prop) (h : Heap) (d : Addr) (key v : Value) : Prop := ∀ (s : Shared) (es : Array DictEntry) (ep : Nat) (Q : Unit → Shared → Prop), (∀ b o, b ≠ d → h.get? b = some o → s.heap.get? b = some o) → s.heap.DictRaw d es ep → es.size ≤ sizeLine → TextKeys w es →
  (∀ (hh : Int) (h' : Heap) (tk : Nat), h'.DictRaw d (es.push ⟨hh, key, v⟩) (ep + 1) → Heap.SameBut d s.heap h' → Q () { s with heap := h', toks := tk }) → wpAny (model prog w) A (dictSet d key v) Q E s
theorem setsLast_tup {h : Heap} {d a : Addr} {v : Value} {ks : List Key} (hu : A.units < cLine) (hd : a ≠ d) (hk : IsTupleKey (mixKind prog w) h ks a) : SetsLast prog w A E h d (.ref a) v := by
  intro s es ep Q keep hm hz ht hQ
  obtain ⟨o, ho, hc, hdat⟩ := hm
  have hk' : IsTupleKey (mixKind prog w) s.heap ks a := by
    obtain ⟨oa, items, n, hoa, r⟩ := hk
    exact ⟨oa, items, n, keep _ _ hd hoa, r⟩
  unfold dictSet
  try with_reducible refine wpAny_holding ?_
  refine wpAny_bind (wpAny_pyHash_tuple hu hk' ?_)
  unfold dictSetHashed
  try with_reducible refine wpAny_holding ?_
  refine wpAny_bind (find_tup (s := { s with toks := s.toks + (ks.length + 1) }) hu hk' ho hdat (fun e he => (ht e he).imp fun x z => z.imp fun t y => y.1) ?_)
  exact wpAny_bind (wpAny_rule (wpAny_updateDictKeys (hz := hz) (s := { s with toks := s.toks + (ks.length + 1) }) ho hdat (hQ _ _ _ ⟨_, Heap.get?_update_self _ ho (Obj.isFreed_of_dict (Obj.data_mapDictKeys hdat _)), hc.mapDictKeys _, Obj.data_mapDictKeys hdat _⟩ (Heap.SameBut.update ..))))
theorem setsLast_leaf {h : Heap} {d : Addr} {key v : Value} {k : Leaf} (hk : Leaf.isOf k key = true) (hn : ∀ x, k ≠ .text x) : SetsLast prog w A E h d key v := by
  intro s es ep Q keep hm hz ht hQ
  obtain ⟨o, ho, hc, hdat⟩ := hm
  have kof : KeysOf (leafKind prog w) es := fun e he => by
    obtain ⟨x, t, e1, e2⟩ := ht e he
    exact ⟨.text x, by rw [e1]; exact (show Value.isStrOf x (.str x t) = true by simp [Value.isStrOf]), e2⟩
  have no : (es.findIdx? fun e => (leafKind prog w).is k e.key) = none := by
    rw [Array.findIdx?_eq_none_iff]
    intro e he
    obtain ⟨x, t, e1, _⟩ := ht e he
    rw [e1]
    show Leaf.isOf k (.str x t) = false
    cases k with
    | none => rfl
    | num i => rfl
    | text y => exact absurd rfl (hn y)
  unfold dictSet
  try with_reducible refine wpAny_holding ?_
  refine wpAny_bind ((leafKind prog w).pyHash hk ?_)
  unfold dictSetHashed
  try with_reducible refine wpAny_holding ?_
  refine wpAny_bind (wpAny_dictFind_of (knd := leafKind prog w) (s := { s with toks := s.toks + 1 }) hk ho hdat kof ?_)
  rw [no]
  exact wpAny_bind (wpAny_rule (wpAny_updateDictKeys (hz := hz) (s := { s with toks := s.toks + 1 }) ho hdat (hQ _ _ _ ⟨_, Heap.get?_update_self _ ho (Obj.isFreed_of_dict (Obj.data_mapDictKeys hdat _)), hc.mapDictKeys _, Obj.data_mapDictKeys hdat _⟩ (Heap.SameBut.update ..))))
end
section
variable {prog : Program} {w : World} {A : Around} {E : Value → Shared → Prop} {s : Shared}
theorem textKeys_of {d : Addr} {kvs : List (Key × Value)} {h : Heap} (hm : h.DictOf (mixKind prog w) d kvs) (ht : ∀ p ∈ kvs, ∃ x, p.1 = Sum.inr x) : ∃ es ep, h.DictRaw d es ep ∧ TextKeys w es ∧ PySem.Pairs (mixKind prog w) es.toList kvs := by
  obtain ⟨o, es, ep, ho, hc, hd, hk, hp, hn⟩ := hm
  refine ⟨es, ep, ⟨o, ho, hc, hd⟩, fun e he => ?_, hp⟩
  obtain ⟨k, h1, h2⟩ := hk e he
  have key : ∀ (es : List DictEntry) (kvs : List (Key × Value)), PySem.Pairs (mixKind prog w) es kvs → (∀ p ∈ kvs, ∃ x, p.1 = Sum.inr x) → ∀ e ∈ es, ∃ x, keyIs (.inr x) e.key = true := by
    intro es kvs hp
    induction hp with
    | nil => exact fun _ e he => nomatch he
    | cons a b c ih =>
      intro ht e he
      rcases List.mem_cons.mp he with z | z
      · obtain ⟨x, ex⟩ := ht _ List.mem_cons_self
        rw [z]
        rw [ex] at a
        exact ⟨x, a⟩
      · exact ih (fun p hp => ht p (List.mem_cons_of_mem _ hp)) e z
  obtain ⟨x, hx⟩ := key es.toList kvs hp ht e (Array.mem_toList_iff.mpr he)
  have ek : k = .inr x := (mixKind prog w).inj e.key k (.inr x) h1 hx
  subst ek
  rcases keyIs_shape hx with ⟨_, _, z, _⟩ | ⟨y, t, z, e1⟩
  · cases z
  · cases z
    exact ⟨x, t, e1, h2⟩
theorem upd_end {R : Result → Shared → Prop} {S I l : Addr} {items : Array Value} {res : Value} (hh : A.handled = none) {i : Nat} {ix : Int} {t : Tok} {s : Shared} (hsz : items.size ≤ i) (hit : s.heap.IsListIter I l i) (hl : s.heap.IsList l items)
    (hR : ∀ h', (∀ b o, b ≠ I → s.heap.get? b = some o → h'.get? b = some o) → R (.ok (.ret res)) { s with heap := h' }) : codeAny (model prog w) A (.builtin "dict.update.loop" ⟨[.ref S, .ref I, .int ix t, res], []⟩) R s := by
  refine codeAny_builtin ud_entry ?_
  rw [Around.under_plainId ud_plain _]
  show wpAny _ A.in1 (pyNext (.ref I) >>= _) _ _ s
  refine wpAny_bind (wpAny_pyNext_list_end (A := A.in1) hh hit hl (Array.getElem?_eq_none hsz) fun h' he => ?_)
  show wpAny _ A.in1 (Builtin.Dict.addKeywords S [] >>= _) _ _ _
  refine wpAny_bind (wpAny_pure (wpAny_pure ?_))
  exact hR h' fun b o hb e => he b o hb e
theorem upd_loopO {R : Result → Shared → Prop} {S I l c : Addr} {items : Array Value} {res key v : Value} {h0 : Heap} (hh : A.handled = none) (hlI : l ≠ I) (hSI : S ≠ I) (hSl : S ≠ l) (hcS : c ≠ S) (hcI : c ≠ I) (hset : ∀ E, SetsLast prog w A.in1 E h0 S key v) :
    ∀ (rest : List (Key × Value)) (i : Nat) (acc : List (Key × Value)) (ix : Int) (t : Tok) (s : Shared), items.size = i + rest.length + 1 → acc.length + rest.length ≤ sizeLine → (∀ p ∈ acc, ∃ x, p.1 = Sum.inr x) → (∀ p ∈ rest, ∃ x, p.1 = Sum.inr x) →
      (∀ (j : Nat) (q : Key × Value), rest[j]? = some q → ∃ (b : Addr) (u : Value), items[i + j]? = some (.ref b) ∧ b ≠ S ∧ b ≠ I ∧ IsTup s.heap b #[u, q.2] ∧ keyIs q.1 u = true) →
      items[i + rest.length]? = some (.ref c) → IsTup s.heap c #[key, v] → (∀ b o, b ≠ S → h0.get? b = some o → s.heap.get? b = some o ∧ b ≠ I) →
      s.heap.IsListIter I l i → s.heap.IsList l items → s.heap.DictOf (mixKind prog w) S acc →
      (∀ (h' : Heap) (tk : Nat) (es : Array DictEntry) (ep : Nat) (ha : Int), h'.DictRaw S (es.push ⟨ha, key, v⟩) ep → PySem.Pairs (mixKind prog w) es.toList (merged acc rest) → (∀ b o, b ≠ S → b ≠ I → s.heap.get? b = some o → h'.get? b = some o) → R (.ok (.ret res)) { s with heap := h', toks := tk }) →
      codeAny (model prog w) A (.builtin "dict.update.loop" ⟨[.ref S, .ref I, .int ix t, res], []⟩) R s
  | [], i, acc, ix, t, s, hsz, hln, hta, htr, ht, hb, htup, hk0, hit, hl, hm, hR => by
    refine codeAny_builtin ud_entry ?_
    rw [Around.under_plainId ud_plain _]
    show wpAny _ A.in1 (pyNext (.ref I) >>= _) _ _ s
    refine wpAny_bind (wpAny_pyNext_list_item (x := .ref c) hit hl (by simpa using hb) fun h1 hit1 hs1 => ?_)
    have ht1 : IsTup h1 c #[key, v] := htup.extBut hs1.extBut hcI
    have hl1 : h1.IsList l items := hl.extBut hs1.extBut hlI
    have hm1 : h1.DictOf (mixKind prog w) S acc := hm.extBut hs1.extBut hSI
    obtain ⟨o, ho, hc, n, hd⟩ := id ht1
    show wpAny _ A.in1 (holding [Value.ref c] _ >>= _) _ _ _
    refine wpAny_bind (wpAny_holding ?_)
    refine wpAny_bind (wpAny_tryCatch ?_)
    unfold Builtin.Dict.pairItems
    refine wpAny_bind (wpAny_typeOf (T := "tuple") ⟨o, ho, hc⟩ ?_)
    rw [if_pos (by first | decide | rfl | simp)]
    refine wpAny_bind (wpAny_seqItems ho hd (wpAny_pure ?_))
    show wpAny _ A.in1 (holding [key, v] (dictSet S key v)) _ _ _
    obtain ⟨es, ep, raw, tk1, prs⟩ := textKeys_of hm1 hta
    have hz : es.size ≤ sizeLine := by
      have e1 := prs.length
      rw [Array.length_toList] at e1
      simp at hln
      omega
    refine wpAny_holding (hset _ _ es ep _ (fun b o hb e => by
      obtain ⟨h1', h2'⟩ := hk0 b o hb e
      exact hs1.extBut b o h2' h1') raw hz tk1 fun ha h2 tk raw2 sb => ?_)
    refine wpAny_pure ⟨plainId_quiet ud_plain _, upd_end (l := l) (items := items) hh (i := i + 1) (by simp at hsz; omega) ?_ ?_ fun h' k => ?_⟩
    · exact hit1.at fun o' e => sb.extBut I o' (Ne.symm hSI) e
    · exact hl1.extBut sb.extBut (Ne.symm hSl)
    · exact hR h' tk es (ep + 1) ha (raw2.at fun o e => k _ _ hSI e) prs fun b o h3 h4 e => k b o h4 (sb.extBut b o h3 (hs1.extBut b o h4 e))
  | q :: rest, i, acc, ix, t, s, hsz, hln, hta, htr, ht, hb0, htup0, hk0, hit, hl, hm, hR => by
    obtain ⟨b, u, hb, hbS, hbI, htup, hk⟩ := ht 0 q rfl
    rw [List.length_cons] at hsz hln
    refine codeAny_builtin ud_entry ?_
    rw [Around.under_plainId ud_plain _]
    show wpAny _ A.in1 (pyNext (.ref I) >>= _) _ _ s
    refine wpAny_bind (wpAny_pyNext_list_item (x := .ref b) hit hl (by simpa using hb) fun h1 hit1 hs1 => ?_)
    have ht1 : IsTup h1 b #[u, q.2] := htup.extBut hs1.extBut hbI
    have hl1 : h1.IsList l items := hl.extBut hs1.extBut hlI
    have hm1 : h1.DictOf (mixKind prog w) S acc := hm.extBut hs1.extBut hSI
    obtain ⟨o, ho, hc, n, hd⟩ := id ht1
    show wpAny _ A.in1 (holding [Value.ref b] _ >>= _) _ _ _
    refine wpAny_bind (wpAny_holding ?_)
    refine wpAny_bind (wpAny_tryCatch ?_)
    unfold Builtin.Dict.pairItems
    refine wpAny_bind (wpAny_typeOf (T := "tuple") ⟨o, ho, hc⟩ ?_)
    rw [if_pos (by first | decide | rfl | simp)]
    refine wpAny_bind (wpAny_seqItems ho hd (wpAny_pure ?_))
    show wpAny _ A.in1 (holding [u, q.2] (dictSet S u q.2)) _ _ _
    refine wpAny_holding (wpAny_dictSet_pairs (knd := mixKind prog w) (k := q.1) hk hm1 (fun h2 hm2 hs2 => ?_) (by omega))
    have sub : ∀ p ∈ stored acc q.1 q.2, ∃ x, p.1 = Sum.inr x := fun p hp => by
      unfold stored at hp
      split at hp
      · obtain ⟨r, hr, e⟩ := List.mem_map.mp hp
        obtain ⟨x, ex⟩ := hta r hr
        split at e
        · rw [← e]; exact ⟨x, ex⟩
        · rw [← e]; exact ⟨x, ex⟩
      · rcases List.mem_append.mp hp with z | z
        · exact hta p z
        · rw [List.mem_singleton.mp z]
          exact htr q List.mem_cons_self
    refine wpAny_pure ⟨plainId_quiet ud_plain _, upd_loopO (items := items) hh hlI hSI hSl hcS hcI hset rest (i + 1) (stored acc q.1 q.2) (ix + 1) 0 _ (show items.size = i + 1 + rest.length + 1 by omega) ?_ sub (fun p hp => htr p (List.mem_cons_of_mem _ hp)) (fun j q' e => ?_) ?_ ?_ (fun b' o' hb' e => ?_) ?_ ?_ hm2 fun h' tk es ep ha raw prs k => ?_⟩
    · have z := stored_length_le acc q.1 q.2
      omega
    · obtain ⟨b', u', hb', hbS', hbI', htup', hk'⟩ := ht (j + 1) q' (by simpa using e)
      refine ⟨b', u', ?_, hbS', hbI', (htup'.extBut hs1.extBut hbI').extBut hs2.extBut hbS', hk'⟩
      rw [show i + 1 + j = i + (j + 1) by omega]
      exact hb'
    · rw [show i + 1 + rest.length = i + (rest.length + 1) by omega]
      simpa using hb0
    · exact (htup0.extBut hs1.extBut hcI).extBut hs2.extBut hcS
    · obtain ⟨h1', h2'⟩ := hk0 b' o' hb' e
      exact ⟨hs2.extBut b' o' hb' (hs1.extBut b' o' h2' h1'), h2'⟩
    · exact hit1.at fun o' e => hs2.extBut I o' (Ne.symm hSI) e
    · exact hl1.extBut hs2.extBut (Ne.symm hSl)
    · exact hR h' tk es ep ha raw prs fun c oc h3 h4 e => k c oc h3 h4 (hs2.extBut c oc h3 (hs1.extBut c oc h4 e))
end
section
variable {prog : Program} {w : World} {A : Around} {E : Value → Shared → Prop} {s : Shared}
/-- dict(l) of a list of pairs, the last one with an odd key -/
theorem call_dict_pairsO {s : Shared} {l c : Addr} {ol : Obj} {items : Array Value} {n : Nat} {prs : List (Key × Value)} {key v : Value} {Q : Value → Shared → Prop} (hh : A.handled = none) (hl : s.heap.get? l = some ol) (hc : ol.cls = .type "list") (hd : ol.dict = none)
    (hdat : ol.data = .seq items n) (hsz : items.size = prs.length + 1) (hln : prs.length ≤ sizeLine) (htx : ∀ p ∈ prs, ∃ x, p.1 = Sum.inr x)
    (ht : ∀ (j : Nat) (q : Key × Value), prs[j]? = some q → ∃ (b : Addr) (u : Value), items[j]? = some (.ref b) ∧ IsTup s.heap b #[u, q.2] ∧ keyIs q.1 u = true)
    (hb : items[prs.length]? = some (.ref c)) (htup : IsTup s.heap c #[key, v]) (hset : ∀ E, SetsLast prog w A.in1.in1 E s.heap s.heap.objs.size key v)
    (h : ∀ (h' : Heap) (tk : Nat) (es : Array DictEntry) (ep : Nat) (ha : Int), h'.DictRaw s.heap.objs.size (es.push ⟨ha, key, v⟩) ep → PySem.Pairs (mixKind prog w) es.toList (merged [] prs) → (∀ b o, s.heap.get? b = some o → h'.get? b = some o) → Q (.ref s.heap.objs.size) { s with heap := h', toks := tk }) :
    wpAny (model prog w) A (call (.type "dict") [.ref l]) Q E s := by
  refine callType_codes (Q₁ := fun obj s₁ => obj = .ref s.heap.objs.size ∧ s₁ = { s with heap := s.heap.push { cls := .type "dict", data := .dict #[] } }) PySem.F.kt_called_dict (PySem.F.kt_typeCall_dict_1 _) PySem.F.entry_dict_init (kt_code_dict_new _ ⟨rfl, rfl⟩) ?_
  rintro obj s₁ ⟨rfl, rfl⟩
  have hnew : (s.heap.push { cls := .type "dict", data := .dict #[] }).DictOf (mixKind prog w) s.heap.objs.size [] := Heap.DictOf.new s.heap
  have k0 : ∀ b o, s.heap.get? b = some o → (s.heap.push { cls := .type "dict", data := .dict #[] }).get? b = some o := fun b o e => Heap.get?_push_of_some _ e
  refine ⟨hnew.typeIs, PySem.F.args_dict_init_2 _ _, ?_⟩
  unfold Builtin.«dict.__init__»
  refine wpAny_bind ?_
  unfold Builtin.Dict.selfAndRest
  refine wpAny_bind (wpAny_notOrdered_dict hnew.typeIs ?_)
  show wpAny _ _ (pure (s.heap.objs.size, [Value.ref l])) _ _ _
  refine wpAny_pure ?_
  show wpAny _ _ (Builtin.Dict.updateFrom "dict.__init__" s.heap.objs.size (.ref l) [] .none) _ _ _
  unfold Builtin.Dict.updateFrom
  refine wpAny_bind (wpAny_typeOf (T := "list") ⟨ol, k0 _ _ hl, hc⟩ ?_)
  rw [if_pos (by first | decide | rfl | simp)]
  refine wpAny_bind (miss_list (k0 _ _ hl) hc hdat hd hh fun h1 tk1 hk1 => ?_)
  rw [if_pos (show (none : Option Value).isNone = true from rfl)]
  refine wpAny_bind (wpAny_rule ?_)
  have hl1 : h1.IsList l items := ⟨ol, hk1 _ _ (k0 _ _ hl), hc, n, hdat⟩
  have hS1 : s.heap.objs.size < h1.objs.size := by
    have e : (s.heap.push { cls := .type "dict", data := .dict #[] }).get? s.heap.objs.size = some { cls := .type "dict", data := .dict #[] } := Heap.get?_push_size _ rfl
    exact Heap.lt_size (hk1 _ _ e)
  refine wpAny_bind (wpAny_pyIter_list hl1 ?_)
  have k2 : ∀ b o, h1.get? b = some o → (h1.push { cls := .type "list_iterator", data := .fields #[.ref l, .int 0 0] }).get? b = some o := fun b o e => Heap.get?_push_of_some _ e
  have hlt : l < s.heap.objs.size := Heap.lt_size hl
  have hclt : c < s.heap.objs.size := htup.lt
  have key' := upd_loopO (prog := prog) (w := w) (A := A.in1) (R := wants (fun r s₂ => r = .none ∧ Q (.ref s.heap.objs.size) s₂) E) (S := s.heap.objs.size) (I := h1.objs.size) (l := l) (c := c) (items := items) (res := Value.none) (key := key) (v := v) (h0 := s.heap) hh
    (Nat.ne_of_lt (Nat.lt_trans hlt hS1)) (Nat.ne_of_lt hS1) (Nat.ne_of_gt hlt) (Nat.ne_of_lt hclt) (Nat.ne_of_lt (Nat.lt_trans hclt hS1)) hset prs 0 [] 0 0
    { s with heap := h1.push { cls := .type "list_iterator", data := .fields #[.ref l, .int 0 0] }, toks := tk1 } (by rw [hsz, Nat.zero_add]) (by rw [List.length_nil, Nat.zero_add]; exact hln) (fun p hp => nomatch hp) htx
    (fun j q e => by
      obtain ⟨b, u, e1, e2, e3⟩ := ht j q e
      have hb : b < s.heap.objs.size := e2.lt
      exact ⟨b, u, by rw [Nat.zero_add]; exact e1, Nat.ne_of_lt hb, Nat.ne_of_lt (Nat.lt_trans hb hS1), e2.keeps fun c o z => k2 _ _ (hk1 _ _ (k0 _ _ z)), e3⟩)
    (by rw [Nat.zero_add]; exact hb) (htup.keeps fun c o z => k2 _ _ (hk1 _ _ (k0 _ _ z))) (fun b o _ e => ⟨k2 _ _ (hk1 _ _ (k0 _ _ e)), Nat.ne_of_lt (Nat.lt_trans (Heap.lt_size e) hS1)⟩)
    ⟨_, Heap.get?_push_size _ rfl, rfl, rfl⟩ (hl1.at fun o e => k2 _ _ e) ((hnew.at fun o e => hk1 _ _ e).at fun o e => k2 _ _ e)
    (fun h' tk es ep ha raw prs' k => ⟨rfl, h h' tk es ep ha raw prs' fun b o e => k b o (Nat.ne_of_lt (Heap.lt_size e)) (Nat.ne_of_lt (Nat.lt_trans (Heap.lt_size e) hS1)) (k2 _ _ (hk1 _ _ (k0 _ _ e)))⟩)
  first
    | exact wpAny_pure ⟨plainId_quiet ud_plain _, key'⟩
    | exact wpAny_bind (wpAny_pure (wpAny_pure ⟨plainId_quiet ud_plain _, key'⟩))
end
end OddD
namespace L2
open PySem PySem.Spec PyProof.Rows OddD
/-- what such a dict holds, in order -/
def OddAt (h : Heap) (a : Addr) (kvs : List (V × V)) : Prop := ∃ es ep, h.DictRaw a es ep ∧ Paired (fun (p : V × V) (e : DictEntry) => RelV p.1 e.key ∧ RelV p.2 e.val) kvs es.toList ∧ (a == sysModules) = false ∧ kvs.length ≤ sizeLine
/-- a dict of any keys, that is read alone -/
def OddO (a : Addr) (kvs : List (V × V)) : HO := .ext fun h => OddAt h a kvs
theorem oddO_ok {P : Program} {w : World} {H : Hp} {h : Heap} {a : Addr} {kvs : List (V × V)} (x : OddAt h a kvs) : ObjOk P w H h a (OddO a kvs) := by
  refine ⟨x, ?_, fun h1 h2 ⟨es, ep, r, z⟩ k => ⟨es, ep, r.at k, z⟩⟩
  obtain ⟨es, ep, ⟨o, ho, _⟩, _⟩ := x
  exact ⟨o, ho⟩
theorem oddO_at {P : Program} {w : World} {H : Hp} {h : Heap} {a : Addr} {kvs : List (V × V)} (x : ObjOk P w H h a (OddO a kvs)) : OddAt h a kvs := x.1
/-- the odd keys: None, a truth value, a tuple of texts and whole numbers -/
def OddKey (H : Hp) (k : V) : Prop := k = .non ∨ (∃ b, k = .bl b) ∨ ∃ (t : Addr) (ks : List Key), k = .ref t ∧ H t = some (.tup (ks.map kV))
theorem pairs_paired {prog : Program} {w : World} : ∀ {es : List DictEntry} {prs : List (Key × Value)} {kvs : List (Key × V)}, PySem.Pairs (mixKind prog w) es prs → KV kvs prs → Paired (fun (p : V × V) (e : DictEntry) => RelV p.1 e.key ∧ RelV p.2 e.val) (kvs.map fun p => (kV p.1, p.2)) es
  | _, _, _, .nil, .nil => .nil
  | _, _, _, .cons (e := e) a b c, .cons (a := p) d t => by
    refine .cons ⟨?_, ?_⟩ (pairs_paired c t)
    · have : keyIs p.1 e.key = true := by
        rw [d.1]
        exact a
      exact relV_key this
    · rw [b]
      exact d.2
theorem paired_snoc {α β : Type} {F : α → β → Prop} {a : α} {b : β} (h : F a b) : ∀ {xs : List α} {ys : List β}, Paired F xs ys → Paired F (xs ++ [a]) (ys ++ [b])
  | _, _, .nil => .cons h .nil
  | _, _, .cons r t => .cons r (paired_snoc h t)
theorem kv_keys : ∀ {kvs : List (Key × V)} {prs : List (Key × Value)}, KV kvs prs → prs.map (·.1) = kvs.map (·.1)
  | _, _, .nil => rfl
  | _, _, .cons d t => by
    rw [List.map_cons, List.map_cons, kv_keys t, d.1]
theorem kv_text : ∀ {kvs : List (Key × V)} {prs : List (Key × Value)}, KV kvs prs → (∀ p ∈ kvs, ∃ x, p.1 = Sum.inr x) → ∀ p ∈ prs, ∃ x, p.1 = Sum.inr x := fun r h p hp => by
  have : p.1 ∈ _ := List.mem_map.mpr ⟨p, hp, rfl⟩
  rw [kv_keys r] at this
  obtain ⟨q, hq, e⟩ := List.mem_map.mp this
  obtain ⟨x, ex⟩ := h q hq
  exact ⟨x, by rw [← e, ex]⟩
/-- dict(l), the last pair's key odd -/
def rDictO (K : PySem.W.Frag) : List V → Hp → VK → Prop := fun xs H Q => ∃ (a : Addr) (ps : List Addr) (kvs : List (Key × V)) (c : Addr) (k v : V), xs = [.ref a] ∧ SqL K H a ((ps ++ [c]).map V.ref) ∧ Paired (fun p kv => SqT K H p [kV kv.1, kv.2]) ps kvs ∧
  (∀ p ∈ kvs, ∃ x, p.1 = Sum.inr x) ∧ (kvs.map (·.1)).Nodup ∧ SqT K H c [k, v] ∧ OddKey H k ∧ ∀ p, H p = none → Q (.ref p) (upd H p (OddO p (kvs.map (fun q => (kV q.1, q.2)) ++ [(k, v)])))
theorem call_dictO {X : Cx} (hcalm : X.calm = true) (hu : X.A.units + 64 < cLine) : CallR X (.type "dict") (rDictO X.K) := by
  intro pins s σ H xs us Q I r q
  obtain ⟨a, ps, kvs, c, k, v, ex, hq, hp, htx, hnd, hc2, hk, q⟩ := q
  subst ex
  obtain ⟨u, eu, rx⟩ := vals1 r
  subst eu
  cases rx
  obtain ⟨its, rv, pl, hz⟩ := I.list hq
  have ei := refs_at rv
  subst ei
  rw [List.length_map, List.length_append] at hz
  obtain ⟨prs, rel, hl, hpr⟩ := pairs_of I hp
  obtain ⟨its2, rv2, ht2, _⟩ := I.tuple hc2
  obtain ⟨uk, uv, ei2, rk, rvv⟩ := vals2 rv2
  subst ei2
  obtain ⟨o, n, ho, hc, hd, hdat⟩ := pl
  have hset : ∀ E, SetsLast X.prog X.w X.A.in1.in1 E s.heap s.heap.objs.size uk uv := fun E => by
    rcases hk with rfl | ⟨b, rfl⟩ | ⟨t, ks, rfl, ht⟩
    · have e : uk = Value.none := rk
      subst e
      exact setsLast_leaf (k := .none) rfl (fun _ z => nomatch z)
    · have e : uk = Value.bool b := rk
      subst e
      exact setsLast_leaf (k := .num (if b = true then 1 else 0)) (decide_eq_true rfl) (fun _ z => nomatch z)
    · have e : uk = Value.ref t := rk
      subst e
      obtain ⟨_, its3, rv3, hti⟩ := (show ObjOk X.prog X.w H s.heap t (.tup (ks.map kV)) from I.hok t _ ht)
      have hlt : t < s.heap.objs.size := hti.lt
      obtain ⟨ob, e1, e2, m, e3⟩ := hti
      exact setsLast_tup (ks := ks) (by show X.A.units + 1 + 1 < cLine; omega) (Nat.ne_of_lt hlt) ⟨ob, _, m, e1, e2, e3, by simpa using items_are rv3⟩
  refine OddD.call_dict_pairsO (prs := prs) (c := c) (key := uk) (v := uv) (I.ok.hd hcalm) ho hc hd hdat (by simp [hl]) (by rw [hl]; simp at hz; omega) (kv_text rel htx) (fun j q' e => ?_) ?_ ht2 hset fun h' tk es ep ha raw prs' k2 => ?_
  · obtain ⟨b, u, e1, e2, e3⟩ := hpr j q' e
    have hj : j < ps.length := (List.getElem?_eq_some_iff.mp e1).1
    refine ⟨b, u, ?_, e2, e3⟩
    have : (List.map Value.ref (ps ++ [c]))[j]? = some (Value.ref b) := by
      rw [List.getElem?_map, List.getElem?_append_left hj, e1]
      rfl
    simpa using this
  · rw [hl]
    simp
  · have hm : (s.heap.objs.size == sysModules) = false := beq_eq_false_iff_ne.mpr (Nat.ne_of_gt I.big)
    have nd : (prs.map (·.1)).Nodup := by rw [kv_keys rel]; exact hnd
    rw [merged_nil_of_nodup prs nd] at prs'
    have hlen : (kvs.map (fun q => (kV q.1, q.2)) ++ [(k, v)]).length ≤ sizeLine := by
      rw [List.length_append, List.length_map, rel.length, hl]
      simp at hz
      simp
      omega
    have odd : OddAt h' s.heap.objs.size (kvs.map (fun q => (kV q.1, q.2)) ++ [(k, v)]) := ⟨_, _, raw, by
      rw [Array.toList_push]
      exact paired_snoc (F := fun (p : V × V) (e : DictEntry) => RelV p.1 e.key ∧ RelV p.2 e.val) ⟨rk, rvv⟩ (pairs_paired prs' rel), hm, hlen⟩
    exact ⟨.ref s.heap.objs.size, upd H s.heap.objs.size (OddO s.heap.objs.size (kvs.map (fun q => (kV q.1, q.2)) ++ [(k, v)])), I.laid (t' := tk) k2 (Nat.le_refl _) (oddO_ok odd), rfl, q _ (I.hok.fresh (Nat.le_refl _))⟩
end L2

set_option maxRecDepth 100000
set_option maxHeartbeats 2000000
/-! such a dict read: isinstance, len, a walk over its items -/
namespace OddD
open PySem PySem.Spec PyProof.Rows L2
section
variable {prog : Program} {w : World} {A : Around} {E : Value → Shared → Prop} {s : Shared}
theorem len_body_raw {d : Addr} {es : Array DictEntry} {ep : Nat} {Q : Value → Shared → Prop} (hd : (d == sysModules) = false) (hm : s.heap.DictRaw d es ep) (hfit : (es.size : Int) < 2 ^ 63)
    (h : Q (.int es.size (s.toks + 1)) { s with toks := s.toks + 1 + 1 }) : wpAny (model prog w) A (Builtin.«len» ⟨[.ref d], []⟩) (fun fin s' => ∃ r, fin = .done (.ret r) ∧ Q r s') E s := by
  unfold Builtin.«len»
  refine wpAny_bind (m := oneArg "len" _) (wpAny_pure ?_)
  refine wpAny_bind (m := callSpecial? (.ref d) (Str.ofString "__len__")) (wpAny_callSpecial?_slot (name := Str.ofString "__len__") hm.typeIs F.slot_dict_len
    (call_meetsIn F.slot_dict_len hm.typeIs F.entry_dict_len (F.args_dict_len_1 _) (meets_dict_len_raw d hd) ⟨es, ep, hm, ?_⟩))
  show wpAny _ _ _ _ _ { s with toks := s.toks + 1 }
  refine wpAny_bind (wpAny_holding (wpAny_pure ?_))
  refine wpAny_bind (wpAny_letGo ?_)
  show wpAny _ _ (if ((es.size : Nat) : Int) < 0 then _ else _) _ _ _
  rw [if_neg (by omega)]
  show wpAny _ _ (if ((es.size : Nat) : Int) ≥ 2 ^ 63 then _ else _) _ _ _
  rw [if_neg (by omega)]
  exact wpAny_bind (wpAny_mkInt (wpAny_pure ⟨_, rfl, h⟩))
theorem len_raw {d : Addr} {es : Array DictEntry} {ep : Nat} {Q : Value → Shared → Prop} (hd : (d == sysModules) = false) (hm : s.heap.DictRaw d es ep) (hfit : (es.size : Int) < 2 ^ 63)
    (h : Q (.int es.size (s.toks + 1)) { s with toks := s.toks + 1 + 1 }) : wpAny (model prog w) A (call (.builtin "len") [.ref d]) Q E s :=
  Calls.call_function_entry kind_len plain_len entry_len (args_len1 _) (len_body_raw hd hm hfit h)
end
end OddD
namespace L2
open PySem PySem.Spec PyProof.Rows OddD
/-- the dict stands there, or it is locked -/
def OddIn (H : Hp) (a : Addr) (kvs : List (V × V)) : Prop := H a = some (OddO a kvs) ∨ ∃ o, H a = some (.frz o (OddO a kvs))
section
variable {X : Cx} {pins : List (Addr × Obj)} {σ : St} {H : Hp} {s : Shared}
theorem odd_at {a : Addr} {kvs : List (V × V)} (I : Inv X pins σ H s) (h : OddIn H a kvs) : OddAt s.heap a kvs := by
  rcases h with h | ⟨o, h⟩
  · exact oddO_at (show ObjOk X.prog X.w H s.heap a (OddO a kvs) from I.hok a _ h)
  · exact oddO_at (show ObjOk X.prog X.w H s.heap a (.frz o (OddO a kvs)) from I.hok a _ h).2
end
theorem paired_getO {α β : Type} {F : α → β → Prop} : ∀ {xs : List α} {ys : List β}, Paired F xs ys → ∀ {i : Nat} {x : α}, xs[i]? = some x → ∃ y, ys[i]? = some y ∧ F x y
  | _, _, .nil, i, x, e => by simp at e
  | _, _, .cons r t, 0, x, e => ⟨_, rfl, by cases (Option.some.inj e); exact r⟩
  | _, _, .cons r t, i + 1, x, e => paired_getO t (i := i) (by simpa using e)
/-- isinstance of such a dict -/
def rIsiO (K : PySem.W.Frag) : List V → Hp → VK → Prop := fun xs H Q => ∃ (a : Addr) (kvs : List (V × V)) (c : V) (u : Value) (b : Bool), xs = [.ref a, c] ∧ OddIn H a kvs ∧ ClsV c u ∧ PySem.W.kitOne K (.type "dict") u = some b ∧ Q (.bl b) H
theorem call_isiO {X : Cx} : CallR X (.builtin "isinstance") (rIsiO X.K) := by
  intro pins s σ H xs us Q I r h
  obtain ⟨a, kvs, c, u, b, rfl, ha, k, e, q⟩ := h
  obtain ⟨u1, u2, rfl, r1, r2⟩ := vals2 r
  cases (show u1 = Value.ref a from r1)
  have e2 := k.eq r2
  subst e2
  obtain ⟨es, ep, ⟨o, ho, hc, hd⟩, _⟩ := odd_at I ha
  exact PySem.W.kia_one PySem.W.kitx_dict I.kIn ⟨o, ho, hc.1⟩ e (fun z => nomatch z) fun tk => ⟨.bl b, H, I.tok tk, rfl, q⟩
/-- len of such a dict -/
def rLenO : List V → Hp → VK → Prop := fun xs H Q => ∃ (a : Addr) (kvs : List (V × V)), xs = [.ref a] ∧ OddIn H a kvs ∧ Q (.int ((kvs.length : Nat) : Int)) H
theorem call_lenO {X : Cx} : CallR X (.builtin "len") rLenO := by
  intro pins s σ H xs us Q I r h
  obtain ⟨a, kvs, rfl, ha, q⟩ := h
  obtain ⟨u, rfl, rx⟩ := vals1 r
  obtain rfl : u = .ref a := rx
  obtain ⟨es, ep, raw, rel, hs, hz⟩ := odd_at I ha
  have hl : es.size = kvs.length := by
    have := Paired.length rel
    rw [Array.length_toList] at this
    exact this.symm
  refine OddD.len_raw hs raw (by rw [hl]; rw [sizeLine_eq] at hz; omega) ?_
  rw [hl]
  exact ⟨.int ((kvs.length : Nat) : Int), H, I.tok _, ⟨_, rfl⟩, q⟩
/-- its pairs, each a new tuple; the dict is locked -/
def ItiO (d : Addr) (o : Obj) (kvs : List (V × V)) : It :=
  ⟨fun i H => H d = some (.frz o (OddO d kvs)) ∧ i < kvs.length, fun i H x H' => ∃ T k v, kvs[i]? = some (k, v) ∧ x = .ref T ∧ H T = none ∧ H' = upd H T (.tup [k, v]), fun i H => H d = some (.frz o (OddO d kvs)) ∧ kvs.length ≤ i⟩
section
variable {P : Program} {w : World} {K : PySem.W.Frag} {d : Addr} {o : Obj} {es : Array DictEntry} {ep : Nat}
theorem odd_frz {X : Cx} {pins : List (Addr × Obj)} {σ : St} {H : Hp} {s : Shared} {kvs : List (V × V)} (I : Inv X pins σ H s) (h : H d = some (.frz o (OddO d kvs))) (hod : o.data = .dict es ep) :
    s.heap.get? d = some o ∧ Paired (fun (p : V × V) (e : DictEntry) => RelV p.1 e.key ∧ RelV p.2 e.val) kvs es.toList ∧ (d == sysModules) = false ∧ es.size = kvs.length := by
  have z : ObjOk X.prog X.w H s.heap d (.frz o (OddO d kvs)) := I.hok d _ h
  obtain ⟨es', ep', ⟨o', ho', _, hd'⟩, rel, hs, hz⟩ := oddO_at z.2
  have e1 : o = o' := Option.some.inj (z.1.symm.trans ho')
  subst e1
  rw [hod] at hd'
  injection hd' with h1 h2
  subst h1
  refine ⟨z.1, rel, hs, ?_⟩
  have := Paired.length rel
  rw [Array.length_toList] at this
  exact this.symm
theorem turn_itemsO {kvs : List (V × V)} {elts : List Expr} {kk : Nat} {tpos : Pos} (it : Addr) (hod : o.data = .dict es ep) :
    Turn P w K (.Tuple elts kk tpos) (ItiO d o kvs) [it] it (fun i h => ∃ ok ov, h.get? it = some (DVw.itmOb d .none i kvs.length ep ok ov)) where
  mem := by simp
  obj := fun i h st b hb => by
    have e : b = it := by simpa using hb
    subst e
    obtain ⟨ok, ov, e⟩ := st
    exact ⟨_, e, fun v z => nomatch z⟩
  keep := fun i h h' st k => let ⟨ok, ov, e⟩ := st; ⟨ok, ov, k it (by simp) _ e⟩
  item := by
    intro X hP hw hK hc i pins s σ H E I hf st hg
    subst hP hw hK
    obtain ⟨hd, hi⟩ := hg
    obtain ⟨hgd, rel, hs, hsz⟩ := odd_frz I hd hod
    obtain ⟨⟨k, v⟩, hkv⟩ : ∃ p, kvs[i]? = some p := ⟨kvs[i], List.getElem?_eq_getElem hi⟩
    obtain ⟨e, he0, rk, rv⟩ := paired_getO rel hkv
    have he : es[i]? = some e := by simpa using he0
    obtain ⟨ok, ov, hit⟩ := st
    have hlt : it < s.heap.objs.size := Heap.lt_size hit
    refine DVw.itm_item hit hgd hod hsz he fun h' b1 b2 b3 b4 => ?_
    refine ⟨_, rfl, wpAny_letOwnedTupleGo_items (s := { s with heap := h' }) (d := d) (i := i + 1) (n := kvs.length) (ep := ep) (ok := e.key) (ov := e.val) b1 fun h'' he' sb => ?_⟩
    have hT2 : h''.get? s.heap.objs.size = some { cls := .type "tuple", data := .seq #[e.key, e.val] } := (sb.2 _ (Nat.ne_of_gt hlt)).trans b2
    have new : ObjOk X.prog X.w (upd H s.heap.objs.size (.tup [k, v])) h'' s.heap.objs.size (.tup [k, v]) :=
      ⟨by show 2 ≤ sizeLine; decide, [e.key, e.val], .cons rk (.cons rv .nil), ⟨_, hT2, rfl, _, rfl⟩⟩
    have I1 : Inv X pins σ (upd H s.heap.objs.size (.tup [k, v])) { s with heap := h'' } :=
      I.turnedNew (t' := s.toks) (ch := [it]) (fun b ob hb z => (sb.2 b (by simpa using hb)).trans (b4 b ob (by simpa using hb) z)) hf (Nat.le_refl _) new
    refine ⟨.ref s.heap.objs.size, _, I1, rfl, ⟨_, k, v, hkv, rfl, I.hok.fresh (Nat.le_refl _), rfl⟩, ⟨e.key, e.val, he'⟩, fun b hb => ?_⟩
    have z : b = it := by simpa using hb
    rw [z, upd_ne (Nat.ne_of_lt hlt)]
    exact (hf it (by simp)).1
  done := by
    intro X hP hw hK hc i pins s σ H E I hf st hg
    subst hP hw hK
    obtain ⟨hd, hi⟩ := hg
    obtain ⟨f0, f1, f2, f3, f4, f5⟩ := hf it (by simp)
    obtain ⟨hgd, rel, hs, hsz⟩ := odd_frz I hd hod
    obtain ⟨ok, ov, hit⟩ := st
    have he : es[i]? = none := Array.getElem?_eq_none (by rw [hsz]; exact hi)
    exact DVw.itm_end (I.ok.hd hc) hit hgd hod hsz he fun h' eb => ⟨rfl, I.turned (t' := s.toks) (fun b ob hb e => eb b ob hb e) f0 f1 f3 f4 f5⟩
  self := fun A i s Q E st h => let ⟨_, _, e⟩ := st; PySem.W.kcp_self e h
end
section
variable {X : Cx} {e : Expr} {td : TE} {apos cpos : Pos}
def iItemsO (td : TE) : TI := fun σ H R => td σ H fun x H1 => ∃ d o kvs, x = .ref d ∧ H1 d = some (.frz o (OddO d kvs)) ∧ R (ItiO d o kvs) H1
theorem pi_itemsO {elts : List Expr} {kk : Nat} {tpos : Pos} (he : PE X e td) (hbase : attributeBase e "items" X.env (eval e X.env) = eval e X.env := by rfl) (hline : (apos.endLine == cpos.line) = true := by rfl) :
    PI X (.Tuple elts kk tpos) (.Call (.Attribute e "items" apos) [] [] cpos) (iItemsO td) := by
  refine ⟨fun pins s σ H R I h => ?_⟩
  refine wpAny_Call_method (T := "dict") (id := "dict.items") hbase rfl hline F.plainAttrs_dict F.slot_dict_items F.type_dict_items (thn (he.run pins s σ H _ I h) fun u s1 ⟨x, H1, I1, rx, d, o, kvs, ex, hd, q⟩ => ?_)
  subst ex
  obtain rfl : u = Value.ref d := rx
  have z : ObjOk X.prog X.w H1 s1.heap d (.frz o (OddO d kvs)) := I1.hok d _ hd
  obtain ⟨es, ep, raw, rel, hs, hz⟩ := oddO_at z.2
  obtain ⟨o', ho', hc', hd'⟩ := id raw
  have e1 : o = o' := Option.some.inj (z.1.symm.trans ho')
  subst e1
  have hl : es.size = kvs.length := by
    have := Paired.length rel
    rw [Array.length_toList] at this
    exact this.symm
  refine ⟨raw.typeIs, fun b e => by injection e with e; subst e; exact ⟨_, ho', hc'.2.1⟩, ?_⟩
  have I2 : Inv X pins σ H1 { s1 with heap := s1.heap.push (DSub.viewOb "dict_items" d) } := I1.kept (t' := s1.toks) fun b ob q => Heap.get?_push_of_some _ q
  have fin : wpAny (model X.prog X.w) X.A (pyIter (.ref s1.heap.objs.size)) (PIE X pins σ (.Tuple elts kk tpos) R) X.xe { s1 with heap := s1.heap.push (DSub.viewOb "dict_items" d) } := by
    refine DSub.iter_itms (Heap.get?_push_size _ rfl) (Heap.get?_push_of_some _ ho') hd' ?_
    refine pi_one (tk := s1.toks) I2 _ (turn_itemsO _ hd') ⟨.none, .none, ?_⟩ q
    rw [← hl]
    exact Heap.get?_push_size _ rfl
  show wpAny _ _ (callWith cpos (.builtin "dict.items") [.ref d] [] []) _ X.xe s1
  exact method_meetsIn F.slot_dict_items F.entry_dict_items rfl (PySem.evalArgs_none ⟨rfl, raw.typeIs, F.args_dict_items_1 _, _, meets_dict_items_raw d hs, ⟨es, ep, raw⟩, fin⟩)
/-- how a loop over them goes -/
theorem walk_itemsO {d : Addr} {o : Obj} {kvs : List (V × V)} : Walk (ItiO d o kvs) kvs.length (fun H => H d = some (.frz o (OddO d kvs))) (YPair (fun i => kvs[i]?.map Prod.fst) (fun i => kvs[i]?.map Prod.snd)) := by
  refine ⟨fun _ _ hi q => ⟨q, hi⟩, fun _ q => ⟨q, Nat.le_refl _⟩, fun i H x H' _ _ y => ?_⟩
  obtain ⟨T, k, v, h1, h2, h3, h4⟩ := y
  exact ⟨T, k, v, h2, h3, h4, by simp [h1], by simp [h1]⟩
end
end L2

set_option maxRecDepth 100000
set_option maxHeartbeats 4000000
namespace Mine
open PySem L2
/-- the word that a row begins with -/
def headW (ys : List V) : Str := match ys with
  | .str x :: _ => x
  | _ => ""
def seqT (t : String) : Bool := t == "list" || t == "tuple"
/-- a thing is a row of these things, or none -/
def RowIs (K : PySem.W.Frag) (H : Hp) (v : V) (ys : Option (List V)) : Prop := ∃ t, Bt K H v t ∧ match ys with
  | none => (t == "list" || t == "tuple") = false
  | some l => (t == "list" || t == "tuple") = true ∧ ∃ a, v = .ref a ∧ SqA H a l ∧ ∀ y ∈ l, ∃ u, Bt K H y u
theorem RowIs.same {K : PySem.W.Frag} {H H' : Hp} {v : V} {ys : Option (List V)} (s : Same H H') (h : RowIs K H v ys) : RowIs K H' v ys := by
  obtain ⟨t, b, h⟩ := h
  refine ⟨t, b.same s, ?_⟩
  cases ys with
  | none => exact h
  | some l =>
    obtain ⟨e, a, h1, h2, h3⟩ := h
    exact ⟨e, a, h1, s.sqa h2, fun y hy => (h3 y hy).imp fun u bu => bu.same s⟩
theorem RowIs.of {K : PySem.W.Frag} {H : Hp} {a : Addr} {l : List V} (h : SqA H a l) (e : ∀ y ∈ l, ∃ u, Bt K H y u) : RowIs K H (.ref a) (some l) := by
  obtain ⟨t, b, z⟩ := btSeq (K := K) h
  exact ⟨t, b, z, a, rfl, h, e⟩
theorem RowIs.no {K : PySem.W.Frag} {H : Hp} {v : V} {t : String} (b : Bt K H v t) (n : (t == "list" || t == "tuple") = false) : RowIs K H v none := ⟨t, b, n⟩
def wordV (ys : Option (List V)) : Str := match ys with
  | some l => headW l
  | none => ""
def spWordA (K : PySem.W.Frag) : Sp := fun vs H Q _ => ∃ (v : V) (ys : Option (List V)), vs = [v] ∧ RowIs K H v ys ∧ ∀ H', Same H H' → Q (.str (wordV ys)) H'
/-- where a row leads, of any things -/
def nextsV (ys : Option (List V)) (k many : Int) : Bool := match ys with
  | some l => decide ((l.length : Int) = k) && l.all fun z => inW z 0 (many - 1)
  | none => false
def spNextsA (K : PySem.W.Frag) : Sp := fun vs H Q _ => ∃ (v : V) (ys : Option (List V)) (d : Addr) (op : Str) (o : Ops) (k many : Int), vs = [v, .str op, .ref d, .int many] ∧ RowIs K H v ys ∧ (∀ l, ys = some l → l.length ≤ 1000) ∧ Rd H d (.dK (opsK o)) ∧ opLook o op = some k ∧
  ∀ H', Same H H' → Q (.bl (nextsV ys k many)) H'
/-- a row, whatever it holds: whether it is a line -/
inductive LineC (K : PySem.W.Frag) (H : Hp) (o : Ops) (many : Int) : Option (List V) → Bool → Prop where
  | none : LineC K H o many none false
  | word {l : List V} (h1 : headW l ≠ "ask") (h2 : headW l ≠ "end") (h3 : headW l ≠ "go") : LineC K H o many (some l) false
  | askLen {l : List V} (h : headW l = "ask") (n : l.length ≠ 3) : LineC K H o many (some l) false
  | askOp {y1 y2 : V} (h : hasT (opsK o) y1 = false) : LineC K H o many (some [.str "ask", y1, y2]) false
  | ask {op : Str} {k : Int} {y : V} {ys : Option (List V)} (h : opLook o op = some k) (r : RowIs K H y ys) (few : ∀ l, ys = some l → l.length ≤ 1000) : LineC K H o many (some [.str "ask", .str op, y]) (nextsV ys k many)
  | endLen {l : List V} (h : headW l = "end") (n : l.length ≠ 2) : LineC K H o many (some l) false
  | fin {y : V} (few : ∀ x, y = .str x → x.length ≤ sizeLine) : LineC K H o many (some [.str "end", y]) (nameV y)
  | goLen {l : List V} (h : headW l = "go") (n : l.length ≠ 2) : LineC K H o many (some l) false
  | go {y : V} : LineC K H o many (some [.str "go", y]) (inW y 0 (many - 1))
theorem LineC.same {K : PySem.W.Frag} {H H' : Hp} {o : Ops} {many : Int} {ys : Option (List V)} {c : Bool} (s : Same H H') (h : LineC K H o many ys c) : LineC K H' o many ys c := by
  cases h with
  | none => exact .none
  | word h1 h2 h3 => exact .word h1 h2 h3
  | askLen h n => exact .askLen h n
  | askOp h => exact .askOp h
  | ask h r few => exact .ask h (r.same s) few
  | endLen h n => exact .endLen h n
  | fin few => exact .fin few
  | goLen h n => exact .goLen h n
  | go => exact .go
def LineIs (K : PySem.W.Frag) (H : Hp) (v : V) (o : Ops) (many : Int) (c : Bool) : Prop := ∃ ys, RowIs K H v ys ∧ LineC K H o many ys c
theorem LineIs.same {K : PySem.W.Frag} {H H' : Hp} {v : V} {o : Ops} {many : Int} {c : Bool} (s : Same H H') (h : LineIs K H v o many c) : LineIs K H' v o many c := by
  obtain ⟨ys, r, l⟩ := h
  exact ⟨ys, r.same s, l.same s⟩
def spIsLineA (K : PySem.W.Frag) : Sp := fun vs H Q _ => ∃ (v : V) (d : Addr) (o : Ops) (many : Int) (c : Bool), vs = [v, .ref d, .int many] ∧ LineIs K H v o many c ∧ Rd H d (.dK (opsK o)) ∧ ∀ H', Same H H' → Q (.bl c) H'
theorem headW_ne {l : List V} {x : Str} (h : headW l = x) (n : x ≠ "") : ∃ l', l = .str x :: l' := by
  cases l with
  | nil => exact absurd h.symm n
  | cons y l =>
    cases y with
    | str z =>
      have : z = x := h
      subst this
      exact ⟨l, rfl⟩
    | _ => exact absurd h.symm n
/-- a right row is a line -/
theorem LineIs.right {K : PySem.W.Frag} {H : Hp} {v : V} {o : Ops} {many : Int} {r : RowD} (h : RowAt H v r) (ok : OkRow o many r) : LineIs K H v o many true := by
  cases r with
  | ask op ns =>
    obtain ⟨a, t, rfl, ha, ht⟩ := h
    obtain ⟨o1, o2, o3⟩ := ok
    obtain ⟨tt, bt, _⟩ := btSeq (K := K) ht
    refine ⟨some [.str "ask", .str op, .ref t], RowIs.of ha fun y hy => ?_, ?_⟩
    · simp only [List.mem_cons, List.not_mem_nil, or_false] at hy
      rcases hy with rfl | rfl | rfl
      · exact ⟨_, btStr _⟩
      · exact ⟨_, btStr _⟩
      · exact ⟨_, bt⟩
    · have e : nextsV (some (ns.map V.int)) (ns.length : Int) many = true := by
        show (decide (((ns.map V.int).length : Int) = (ns.length : Int)) && (ns.map V.int).all fun z => inW z 0 (many - 1)) = true
        rw [List.length_map, decide_eq_true rfl, Bool.true_and, List.all_map, List.all_eq_true]
        intro n hn
        obtain ⟨b1, b2⟩ := o3 n hn
        exact inW_int b1 (by omega)
      have := LineC.ask (K := K) (H := H) (many := many) o1 (RowIs.of ht fun y hy => by
        obtain ⟨n, _, rfl⟩ := List.mem_map.mp hy
        exact ⟨_, btInt n⟩) (fun l el => by
        have := Option.some.inj el
        subst this
        rw [List.length_map]
        exact o2)
      rw [e] at this
      exact this
  | fin x =>
    obtain ⟨a, rfl, ha⟩ := h
    refine ⟨some [.str "end", .str x], RowIs.of ha fun y hy => ?_, ?_⟩
    · simp only [List.mem_cons, List.not_mem_nil, or_false] at hy
      rcases hy with rfl | rfl <;> exact ⟨_, btStr _⟩
    · have := LineC.fin (K := K) (H := H) (o := o) (many := many) (y := .str x) fun x' e' => by
        have e2 : x = x' := V.str.inj e'
        rw [← e2, sizeLine_eq]
        have := ok.2
        omega
      rw [show nameV (.str x) = true from ok.1] at this
      exact this
  | go n =>
    obtain ⟨a, rfl, ha⟩ := h
    refine ⟨some [.str "go", .int n], RowIs.of ha fun y hy => ?_, ?_⟩
    · simp only [List.mem_cons, List.not_mem_nil, or_false] at hy
      rcases hy with rfl | rfl
      · exact ⟨_, btStr _⟩
      · exact ⟨_, btInt _⟩
    · have := LineC.go (K := K) (H := H) (o := o) (many := many) (y := .int n)
      rw [inW_int ok.1 (by have := ok.2; omega)] at this
      exact this
theorem pre_all {F : V → Bool} (l : List V) : (l.map F).all id = l.all F := by
  rw [List.all_map]
  rfl
section
variable {P : Program} {w : World} {K : PySem.W.Frag} {mg : Str → Option Value} {base : Heap}
variable {fII fIW a_is_row a_is_index a_is_name a_is_text_in a_are_counts a_word_of a_are_nexts a_is_line a_line_of a_are_operations : Addr}
theorem ok_word_ofA {f : Addr} {fd fd_is_row : FuncData} (F : Fun K "word_of" "word_of" s_word_of f fd) (T : TxtF K mg fII fIW) (TG : TxtG K mg a_is_row a_is_index a_is_name a_is_text_in a_are_counts a_word_of a_are_nexts a_is_line a_line_of a_are_operations)
    (GR : FnOk P w K mg base CX0 1 a_is_row fd_is_row ["thing"] (spIsRow K)) (b_is_row : Binds K fd_is_row ["thing"] []) : FnOk P w K mg base CX0 2 f fd ["row"] (spWordA K) := by
  refine F.ok sc_word_of (fun vs H Q E h => ?_) (fun cdv A outer s H vs Q E hr h => ?_)
  · obtain ⟨v, ys, rfl, _⟩ := h
    rfl
  · obtain ⟨v, ys, rfl, ⟨t, b, hc⟩, k⟩ := h
    refine ⟨_, (pss_cons (ps_if (PW.pt (pw_and (pt_val (pe_call GR (hr.mono (by decide)) (by rfl) TG.g_is_row TG.k_is_row b_is_row .nil pass0 (pa_cons (pv 0) pa_nil))) (pw_and (pt_cmpR op_gt (pe_callB call_len_seq (by rfl) T.b_len PySem.boot_len (pa_cons (pv 0) pa_nil)) pe_int (nomark _)) (pw_and1 (pt_val (pe_callB call_isi (by rfl) T.b_isinstance (by decide +kernel) (pa_cons (pe_ix ix_seq (pv 0) pe_int (fun _ _ => rfl)) (pa_cons (pe_bltn (v := .ty "str") rfl T.b_str (by decide +kernel) rfl) pa_nil)))))))) (pss_one (ps_ret (pe_ix ix_seq (pv 0) pe_int (fun _ _ => rfl)))) pss_nil)
      (pss_one (ps_ret pe_str))), ?_⟩
    have hk : ∀ t', (kb t' "str") = (t' == "str") := fun t' => by simp [kb]
    refine ⟨_, rfl, v, t, rfl, b, fun H1 s1 => ⟨_, rfl, ?_⟩⟩
    cases ys with
    | none =>
      have hc : (t == "list" || t == "tuple") = false := hc
      rw [hc]
      refine iteF ?_
      exact k _ s1
    | some l =>
      obtain ⟨e, a, rfl, ha, each⟩ := hc
      rw [e]
      refine iteT ?_
      have ha1 := s1.sqa ha
      refine ⟨_, rfl, a, _, rfl, ha1.sq, _, _, rfl, rfl, _, rfl, ?_⟩
      cases l with
      | nil =>
        rw [decide_eq_false (show ¬ (0 : Int) < ((([] : List V).length : Nat) : Int) by decide)]
        refine iteF ?_
        exact k _ s1
      | cons y l =>
        rw [decide_eq_true (show (0 : Int) < (((y :: l).length : Nat) : Int) by rw [List.length_cons]; omega)]
        refine iteT ?_
        obtain ⟨u, bu⟩ := each y List.mem_cons_self
        have bu1 := bu.same s1
        refine ⟨_, rfl, ha1.ix at0' ?_⟩
        refine ⟨_, _, _, _, _, rfl, .ty _, bu1.ty, bu1.kit (u := "str") (by decide), _, rfl, ?_⟩
        rw [hk]
        by_cases hu : (u == "str") = true
        · obtain ⟨x, rfl⟩ := bu.str hu
          rw [hu]
          refine iteT ?_
          exact ⟨_, rfl, ha1.ix at0' (k _ s1)⟩
        · have hu := Bool.eq_false_iff.mpr hu
          rw [hu]
          refine iteF ?_
          have : wordV (some (y :: l)) = "" := by
            show headW (y :: l) = ""
            cases y with
            | str x =>
              exfalso
              cases bu.ty with
              | base z =>
                cases z
                exact absurd hu (by decide)
            | _ => rfl
          rw [this] at k
          exact k _ s1
theorem ok_are_nextsA {f : Addr} {fd fd_is_row fd_is_index : FuncData} (F : Fun K "are_nexts" "are_nexts" s_are_nexts f fd) (T : TxtF K mg fII fIW) (TG : TxtG K mg a_is_row a_is_index a_is_name a_is_text_in a_are_counts a_word_of a_are_nexts a_is_line a_line_of a_are_operations)
    (GR : FnOk P w K mg base CX0 1 a_is_row fd_is_row ["thing"] (spIsRow K)) (b_is_row : Binds K fd_is_row ["thing"] [])
    (GI : FnOk P w K mg base CX0 3 a_is_index fd_is_index ["thing", "many"] (spIndex K)) (b_is_index : Binds K fd_is_index ["thing", "many"] []) : FnOk P w K mg base CX0 4 f fd ["nexts", "operation", "counts", "many"] (spNextsA K) := by
  refine F.ok sc_are_nexts (fun vs H Q E h => ?_) (fun cdv A outer s H vs Q E hr h => ?_)
  · obtain ⟨v, ys, d, op, o, k, many, rfl, _⟩ := h
    rfl
  · obtain ⟨v, ys, d, op, o, kk, many, rfl, ⟨ty, b, hc⟩, few, hd, hl, k⟩ := h
    refine ⟨_, (pss_cons (ps_if (PW.pt (pw_or (pt_not (pt_val (pe_call GR (hr.mono (by decide)) (by rfl) TG.g_is_row TG.k_is_row b_is_row .nil pass0 (pa_cons (pv 0) pa_nil)))) (pw_or1 (pt_cmpR op_ne (pe_callB call_len_seq (by rfl) T.b_len PySem.boot_len (pa_cons (pv 0) pa_nil)) (pe_dget (hu_of hr) (pv 2) (pv 1) (fun _ _ => rfl)) (nomark _))))) (pss_one (ps_ret pe_bl)) pss_nil)
      (pss_one (ps_ret (pe_callB (cr_all rfl) (by rfl) T.b_all (by decide +kernel) (pa_cons (pe_lc (own := [("index", 4)]) (g := gName 4) (tt := tYes) (wi := iSeq K (tVar 0)) rfl sc_are_nexts.nd (pi_seq (pv 0)) (blkOk_by (own := [("index", 4)]) (N := ["nexts", "operation", "counts", "many", "index"]) (sc := defScope s_are_nexts) (by decide +kernel)) (fun _ _ _ _ _ => pg_name (i := 4) sc_are_nexts.nd rfl (Or.inl rfl)) (fun _ _ _ _ _ => pts_nil) (fun _ _ _ _ _ => (pe_call GI (hr.mono (by decide)) (by rfl) TG.g_is_index TG.k_is_index b_is_index .nil pass0 (pa_cons (pv 4) (pa_cons (pv 3) pa_nil))))) pa_nil))))), ?_⟩
    refine ⟨_, rfl, _, ty, rfl, b, fun H1 s1 => ⟨_, rfl, ?_⟩⟩
    cases ys with
    | none =>
      have hc : (ty == "list" || ty == "tuple") = false := hc
      rw [hc]
      refine iteT ?_
      exact k _ s1
    | some l =>
      obtain ⟨e, t, rfl, ht, each⟩ := hc
      have few := few l rfl
      rw [e]
      refine iteF ?_
      have ht1 := s1.sqa ht
      have hd1 : Rd H1 d (.dK (opsK o)) := hd.elim (fun z => .inl (s1 _ _ z)) fun ⟨od, z⟩ => .inr ⟨od, s1 _ _ z⟩
      refine ⟨_, rfl, t, _, rfl, ht1.sq, _, rfl, _, rfl, d, _, rfl, .inl ⟨opsK o, .inr op, hd1, rfl, (by rw [val_ops, hl]; rfl)⟩, rfl, _, rfl, ?_⟩
      by_cases hn : (l.length : Int) = kk
      · rw [decide_eq_true (show V.int (l.length : Int) = V.int kk by rw [hn])]
        refine iteF ?_
        let F : V → Bool := fun z => inW z 0 (many - 1)
        have eF : nextsV (some l) kk many = l.all F := by
          show (decide ((l.length : Int) = kk) && l.all F) = l.all F
          rw [decide_eq_true hn, Bool.true_and]
        have turn : ∀ (Hf : Hp) (D : Addr), Same H1 Hf → Hf D = none → ∀ i (y : V) Ha, i < l.length → (Same Hf Ha ∧ Ha D = some (.lst (((l.take i).map F).map V.bl))) → l[i]? = some y →
            (∃ u, Bt K Ha y u) ∧ Ha D = some (.lst (((l.take i).map F).map V.bl)) ∧ (((l.take i).map F).map V.bl).length < sizeLine ∧ (Same Hf (upd Ha D (.lst (((l.take i).map F).map V.bl ++ [.bl (F y)]))) ∧ upd Ha D (.lst (((l.take i).map F).map V.bl ++ [.bl (F y)])) D = some (.lst (((l.take (i + 1)).map F).map V.bl))) := by
          intro Hf D sf nD i y Ha hi ⟨sx, ex⟩ hy
          obtain ⟨u, bu⟩ := each y (List.mem_of_getElem? hy)
          refine ⟨⟨u, bu.same (s1.trans (sf.trans sx))⟩, ex, ?_, fun b u e => ?_, ?_⟩
          · rw [List.length_map, List.length_map, List.length_take, sizeLine_eq]
            omega
          · have nb : b ≠ D := fun z => by
              rw [z] at e
              exact absurd (e.symm.trans nD) (by simp)
            rw [upd_ne nb]
            exact sx _ _ e
          · rw [List.take_succ, hy, List.map_append, List.map_append]
            exact upd_same
        have fin : ∀ (D : Addr) (Hx : Hp), H1 D = none → (Same H1 Hx ∧ Hx D = some (.lst (((l.take l.length).map F).map V.bl))) → rAll K [.ref D] Hx fun v H' => Q v H' := by
          intro D Hx nD ⟨sx, ex⟩
          rw [List.take_length] at ex
          refine ⟨D, l.map F, rfl, SqL.of ex, ?_⟩
          rw [pre_all, ← eF]
          exact k _ (s1.trans sx)
        rcases ht1 with ht1 | ht1
        · refine .inl ⟨_, rfl, t, rfl, ⟨_, SqL.of ht1⟩, fun D nD => lc_it walk_list (fun i Hx => Same H1 Hx ∧ Hx D = some (.lst (((l.take i).map F).map V.bl))) ⟨sameNew nD _, upd_same⟩ (fun i Hx _ z => SqL.of (z.1 _ _ ht1)) (fun i y Ha Hb hi z1 z2 => ?_) fun Hx z => fin D Hx nD z⟩
          obtain ⟨rfl, hy⟩ := z2
          obtain ⟨⟨u, bu⟩, w3, w4, w5⟩ := turn H1 D (Same.refl _) nD i y _ hi z1 hy
          exact ⟨rfl, _, rfl, _, rfl, _, _, many, rfl, bu, _, w3, w4, w5⟩
        · refine .inr ⟨_, rfl, t, rfl, ⟨_, .inl (.inl ht1)⟩, fun D nD => lc_it walk_tup (fun i Hx => Same H1 Hx ∧ Hx D = some (.lst (((l.take i).map F).map V.bl))) ⟨sameNew nD _, upd_same⟩ (fun i Hx _ z => .inl (.inl (z.1 _ _ ht1))) (fun i y Ha Hb hi z1 z2 => ?_) fun Hx z => fin D Hx nD z⟩
          obtain ⟨rfl, hy⟩ := z2
          obtain ⟨⟨u, bu⟩, w3, w4, w5⟩ := turn H1 D (Same.refl _) nD i y _ hi z1 hy
          exact ⟨rfl, _, rfl, _, rfl, _, _, many, rfl, bu, _, w3, w4, w5⟩
      · rw [decide_eq_false (show ¬ V.int (l.length : Int) = V.int kk from fun z => hn (V.int.inj z))]
        refine iteT ?_
        have : nextsV (some l) kk many = false := by
          show (decide ((l.length : Int) = kk) && _) = false
          rw [decide_eq_false hn, Bool.false_and]
        rw [this] at k
        exact k _ s1
theorem ok_is_lineA {f : Addr} {fd fd_word_of fd_is_text_in fd_are_nexts fd_is_name fd_is_index : FuncData} (F : Fun K "is_line" "is_line" s_is_line f fd) (T : TxtF K mg fII fIW) (TG : TxtG K mg a_is_row a_is_index a_is_name a_is_text_in a_are_counts a_word_of a_are_nexts a_is_line a_line_of a_are_operations)
    (GWo : FnOk P w K mg base CX0 2 a_word_of fd_word_of ["row"] (spWordA K)) (b_word_of : Binds K fd_word_of ["row"] [])
    (GT : FnOk P w K mg base CX0 1 a_is_text_in fd_is_text_in ["thing", "table"] (spTextIn K)) (b_is_text_in : Binds K fd_is_text_in ["thing", "table"] [])
    (GX : FnOk P w K mg base CX0 4 a_are_nexts fd_are_nexts ["nexts", "operation", "counts", "many"] (spNextsA K)) (b_are_nexts : Binds K fd_are_nexts ["nexts", "operation", "counts", "many"] [])
    (GNm : FnOk P w K mg base CX0 1 a_is_name fd_is_name ["thing"] (spName K)) (b_is_name : Binds K fd_is_name ["thing"] [])
    (GI : FnOk P w K mg base CX0 3 a_is_index fd_is_index ["thing", "many"] (spIndex K)) (b_is_index : Binds K fd_is_index ["thing", "many"] []) : FnOk P w K mg base CX0 5 f fd ["row", "counts", "many"] (spIsLineA K) := by
  refine F.ok sc_is_line (fun vs H Q E h => ?_) (fun cdv A outer s H vs Q E hr h => ?_)
  · obtain ⟨v, d, o, many, c, rfl, _⟩ := h
    rfl
  · obtain ⟨v, d, o, many, c, rfl, ⟨ys, hv, lc⟩, hd, k⟩ := h
    refine ⟨_, (pss_cons (ps_set (i := 3) sc_is_line.nd rfl (Or.inl rfl) (pe_call GWo (hr.mono (by decide)) (by rfl) TG.g_word_of TG.k_word_of b_word_of .nil pass0 (pa_cons (pv 0) pa_nil)))
      (pss_cons (ps_if (pt_cmpR op_eq (pv 3) pe_str (nomark _)) (pss_one (ps_ret (pe_and (pe_cmpR op_eq (pe_callB call_len_seq (by rfl) T.b_len PySem.boot_len (pa_cons (pv 0) pa_nil)) pe_int (nomark _)) (pe_and (pe_call GT (hr.mono (by decide)) (by rfl) TG.g_is_text_in TG.k_is_text_in b_is_text_in .nil pass0 (pa_cons (pe_ix ix_seq (pv 0) pe_int (fun _ _ => rfl)) (pa_cons (pv 1) pa_nil))) (pe_one (pe_call GX (hr.mono (by decide)) (by rfl) TG.g_are_nexts TG.k_are_nexts b_are_nexts .nil pass0 (pa_cons (pe_ix ix_seq (pv 0) pe_int (fun _ _ => rfl)) (pa_cons (pe_ix ix_seq (pv 0) pe_int (fun _ _ => rfl)) (pa_cons (pv 1) (pa_cons (pv 2) pa_nil)))))))))) pss_nil)
      (pss_cons (ps_if (pt_cmpR op_eq (pv 3) pe_str (nomark _)) (pss_one (ps_ret (pe_and (pe_cmpR op_eq (pe_callB call_len_seq (by rfl) T.b_len PySem.boot_len (pa_cons (pv 0) pa_nil)) pe_int (nomark _)) (pe_one (pe_call GNm (hr.mono (by decide)) (by rfl) TG.g_is_name TG.k_is_name b_is_name .nil pass0 (pa_cons (pe_ix ix_seq (pv 0) pe_int (fun _ _ => rfl)) pa_nil)))))) pss_nil)
      (pss_one (ps_ret (pe_and (pe_cmpR op_eq (pv 3) pe_str (nomark _)) (pe_and (pe_cmpR op_eq (pe_callB call_len_seq (by rfl) T.b_len PySem.boot_len (pa_cons (pv 0) pa_nil)) pe_int (nomark _)) (pe_one (pe_call GI (hr.mono (by decide)) (by rfl) TG.g_is_index TG.k_is_index b_is_index .nil pass0 (pa_cons (pe_ix ix_seq (pv 0) pe_int (fun _ _ => rfl)) (pa_cons (pv 2) pa_nil))))))))))), ?_⟩
    have rd : ∀ {H' : Hp}, Same H H' → Rd H' d (.dK (opsK o)) := fun s => hd.elim (fun z => .inl (s _ _ z)) fun ⟨od, z⟩ => .inr ⟨od, s _ _ z⟩
    refine ⟨_, rfl, v, ys, rfl, hv, fun H1 s1 => ?_⟩
    have hv1 := hv.same s1
    have lc1 := lc.same s1
    have other : wordV ys ≠ "ask" → wordV ys ≠ "end" → wordV ys ≠ "go" → c = false → (decide (V.str (wordV ys) = V.str "ask") = false ∧ decide (V.str (wordV ys) = V.str "end") = false ∧ decide (V.str (wordV ys) = V.str "go") = false) := fun h1 h2 h3 _ => ⟨strNe h1, strNe h2, strNe h3⟩
    refine ⟨_, rfl, rfl, _, rfl, ?_⟩
    cases lc1 with
    | none =>
      rw [show decide (V.str (wordV none) = V.str "ask") = false by decide +kernel]
      refine iteF ?_
      refine ⟨_, rfl, rfl, _, rfl, ?_⟩
      rw [show decide (V.str (wordV none) = V.str "end") = false by decide +kernel]
      refine iteF ?_
      refine ⟨_, rfl, rfl, _, rfl, ?_⟩
      rw [show decide (V.str (wordV none) = V.str "go") = false by decide +kernel]
      refine iteF ?_
      exact k _ s1
    | @word l h1 h2 h3 =>
      rw [show decide (V.str (wordV (some l)) = V.str "ask") = false from strNe h1]
      refine iteF ?_
      refine ⟨_, rfl, rfl, _, rfl, ?_⟩
      rw [show decide (V.str (wordV (some l)) = V.str "end") = false from strNe h2]
      refine iteF ?_
      refine ⟨_, rfl, rfl, _, rfl, ?_⟩
      rw [show decide (V.str (wordV (some l)) = V.str "go") = false from strNe h3]
      refine iteF ?_
      exact k _ s1
    | @askLen l h n =>
      obtain ⟨t, b, e, a, rfl, ha, each⟩ := hv1
      rw [show decide (V.str (wordV (some l)) = V.str "ask") = true by rw [show wordV (some l) = "ask" from h]; exact strEq _]
      refine iteT ?_
      refine ⟨_, rfl, a, _, rfl, ha.sq, rfl, _, rfl, ?_⟩
      rw [decide_eq_false (show ¬ V.int (l.length : Int) = V.int 3 from fun z => n (by have := V.int.inj z; omega))]
      refine iteF ?_
      exact k _ s1
    | @askOp y1 y2 h =>
      obtain ⟨t, b, e, a, rfl, ha, each⟩ := hv1
      rw [show decide (V.str (wordV (some [.str "ask", y1, y2])) = V.str "ask") = true from strEq _]
      refine iteT ?_
      refine ⟨_, rfl, a, _, rfl, ha.sq, rfl, _, rfl, ?_⟩
      refine iteT ?_
      obtain ⟨u, bu⟩ := each y1 (by simp)
      refine ⟨_, rfl, ha.ix at1' ⟨_, rfl, _, _, d, _, rfl, bu, rd s1, _, rfl, ?_⟩⟩
      rw [h]
      refine iteF ?_
      exact k _ s1
    | @ask op kk y ys h r few =>
      obtain ⟨t, b, e, a, rfl, ha, each⟩ := hv1
      rw [show decide (V.str (wordV (some [.str "ask", .str op, y])) = V.str "ask") = true from strEq _]
      refine iteT ?_
      refine ⟨_, rfl, a, _, rfl, ha.sq, rfl, _, rfl, ?_⟩
      refine iteT ?_
      refine ⟨_, rfl, ha.ix at1' ⟨_, rfl, _, _, d, _, rfl, btStr _, rd s1, _, rfl, ?_⟩⟩
      have hh : hasT (opsK o) (.str op) = true := by
        show (valV (opsK o) (.inr op)).isSome = true
        rw [val_ops, h]
        rfl
      rw [hh]
      refine iteT ?_
      refine ⟨_, rfl, ha.ix at2' ⟨_, rfl, ha.ix at1' ⟨_, rfl, _, rfl, y, ys, d, op, o, kk, many, rfl, r, few, rd s1, h, fun H2 s2 => k _ (s1.trans s2)⟩⟩⟩
    | @endLen l h n =>
      obtain ⟨t, b, e, a, rfl, ha, each⟩ := hv1
      rw [show decide (V.str (wordV (some l)) = V.str "ask") = false by rw [show wordV (some l) = "end" from h]; exact strNe end_ask]
      refine iteF ?_
      refine ⟨_, rfl, rfl, _, rfl, ?_⟩
      rw [show decide (V.str (wordV (some l)) = V.str "end") = true by rw [show wordV (some l) = "end" from h]; exact strEq _]
      refine iteT ?_
      refine ⟨_, rfl, a, _, rfl, ha.sq, rfl, _, rfl, ?_⟩
      rw [decide_eq_false (show ¬ V.int (l.length : Int) = V.int 2 from fun z => n (by have := V.int.inj z; omega))]
      refine iteF ?_
      exact k _ s1
    | @fin y few =>
      obtain ⟨t, b, e, a, rfl, ha, each⟩ := hv1
      rw [show decide (V.str (wordV (some [.str "end", y])) = V.str "ask") = false from strNe end_ask]
      refine iteF ?_
      refine ⟨_, rfl, rfl, _, rfl, ?_⟩
      rw [show decide (V.str (wordV (some [.str "end", y])) = V.str "end") = true from strEq _]
      refine iteT ?_
      refine ⟨_, rfl, a, _, rfl, ha.sq, rfl, _, rfl, ?_⟩
      refine iteT ?_
      obtain ⟨u, bu⟩ := each y (by simp)
      exact ⟨_, rfl, ha.ix at1' ⟨_, _, rfl, bu, few, fun H2 s2 => k _ (s1.trans s2)⟩⟩
    | @goLen l h n =>
      obtain ⟨t, b, e, a, rfl, ha, each⟩ := hv1
      rw [show decide (V.str (wordV (some l)) = V.str "ask") = false by rw [show wordV (some l) = "go" from h]; exact strNe go_ask]
      refine iteF ?_
      refine ⟨_, rfl, rfl, _, rfl, ?_⟩
      rw [show decide (V.str (wordV (some l)) = V.str "end") = false by rw [show wordV (some l) = "go" from h]; exact strNe go_end]
      refine iteF ?_
      refine ⟨_, rfl, rfl, _, rfl, ?_⟩
      rw [show decide (V.str (wordV (some l)) = V.str "go") = true by rw [show wordV (some l) = "go" from h]; exact strEq _]
      refine iteT ?_
      refine ⟨_, rfl, a, _, rfl, ha.sq, rfl, _, rfl, ?_⟩
      rw [decide_eq_false (show ¬ V.int (l.length : Int) = V.int 2 from fun z => n (by have := V.int.inj z; omega))]
      refine iteF ?_
      exact k _ s1
    | @go y =>
      obtain ⟨t, b, e, a, rfl, ha, each⟩ := hv1
      rw [show decide (V.str (wordV (some [.str "go", y])) = V.str "ask") = false from strNe go_ask]
      refine iteF ?_
      refine ⟨_, rfl, rfl, _, rfl, ?_⟩
      rw [show decide (V.str (wordV (some [.str "go", y])) = V.str "end") = false from strNe go_end]
      refine iteF ?_
      refine ⟨_, rfl, rfl, _, rfl, ?_⟩
      rw [show decide (V.str (wordV (some [.str "go", y])) = V.str "go") = true from strEq _]
      refine iteT ?_
      refine ⟨_, rfl, a, _, rfl, ha.sq, rfl, _, rfl, ?_⟩
      refine iteT ?_
      obtain ⟨u, bu⟩ := each y (by simp)
      exact ⟨_, rfl, ha.ix at1' ⟨_, rfl, _, _, many, rfl, bu, k _ s1⟩⟩
end
end Mine

set_option maxRecDepth 100000
set_option maxHeartbeats 4000000
namespace Mine
open PySem L2
/-- v is of a kind as long as all but a stands -/
def BtA (K : PySem.W.Frag) (a : Addr) (H : Hp) (v : V) : Prop := ∃ t, ∀ H', (∀ b o, b ≠ a → H b = some o → H' b = some o) → Bt K H' v t
theorem BtA.val {K : PySem.W.Frag} {a : Addr} {H : Hp} {v : V} {t : String} (h : ∀ H', Bt K H' v t) : BtA K a H v := ⟨t, fun H' _ => h H'⟩
theorem BtA.tup {K : PySem.W.Frag} {a q : Addr} {H : Hp} {xs : List V} (h : H q = some (.tup xs)) (n : q ≠ a) : BtA K a H (.ref q) := by
  refine ⟨"tuple", fun H' s => ⟨.base (.tup (s _ _ n h)), by decide⟩⟩
/-- whether names and numbers are as they should be -/
def entsV (l : List (V × V)) (lo hi : Int) : Bool := l.all fun p => nameV p.1 && inW p.2 lo hi
def EntsIs (K : PySem.W.Frag) (a : Addr) (H : Hp) (l : List (V × V)) (most lo hi : Int) (c : Bool) : Prop := l.length ≤ 1000 ∧ ((most < (l.length : Int) ∧ c = false) ∨ ((l.length : Int) ≤ most ∧ (∀ p ∈ l, BtA K a H p.1 ∧ BtA K a H p.2 ∧ ∀ x, p.1 = .str x → x.length ≤ sizeLine) ∧ c = entsV l lo hi))
/-- a thing, whatever it is: whether it is a dict of such names and numbers -/
def CountsIs (K : PySem.W.Frag) (H : Hp) (v : V) (most lo hi : Int) (c : Bool) : Prop :=
  (∃ t, Bt K H v t ∧ kb t "dict" = false ∧ c = false) ∨ (∃ (a : Addr) (kvs : List (Key × V)), v = .ref a ∧ H a = some (.dK kvs) ∧ EntsIs K a H (kvs.map fun p => (kV p.1, p.2)) most lo hi c) ∨ ∃ (a : Addr) (l : List (V × V)), v = .ref a ∧ H a = some (OddO a l) ∧ EntsIs K a H l most lo hi c
def spCountsA (K : PySem.W.Frag) : Sp := fun vs H Q _ => ∃ (v : V) (most lo hi : Int) (c : Bool), vs = [v, .int most, .int lo, .int hi] ∧ CountsIs K H v most lo hi c ∧ ∀ H', Same H H' → Q (.bl c) H'
def spOpsA (K : PySem.W.Frag) : Sp := fun vs H Q _ => ∃ (v : V) (c : Bool), vs = [v] ∧ CountsIs K H v 8 0 6 c ∧ ∀ H', Same H H' → Q (.bl c) H'
theorem pre_ents {lo hi : Int} (l : List (V × V)) : ((l.map fun p => nameV p.1 && inW p.2 lo hi).all id) = entsV l lo hi := by
  unfold entsV
  rw [List.all_map]
  rfl
theorem same_unlockO {H H' : Hp} {a : Addr} {od : Obj} {u : HO} (ha : H a = some u) (s : Same (upd H a (.frz od u)) H') : Same H (upd H' a u) := fun b o e => by
  by_cases z : b = a
  · subst z
    rw [upd_same, ← e, ha]
  · rw [upd_ne z]
    exact s _ _ (by rw [upd_ne z]; exact e)
section
variable {P : Program} {w : World} {K : PySem.W.Frag} {mg : Str → Option Value} {base : Heap}
variable {fII fIW a_is_row a_is_index a_is_name a_is_text_in a_are_counts a_word_of a_are_nexts a_is_line a_line_of a_are_operations : Addr}
theorem ok_are_countsA {f : Addr} {fd fd_is_name fd_is_integer fd_is_within : FuncData} (F : Fun K "are_counts" "are_counts" s_are_counts f fd) (T : TxtF K mg fII fIW) (TG : TxtG K mg a_is_row a_is_index a_is_name a_is_text_in a_are_counts a_word_of a_are_nexts a_is_line a_line_of a_are_operations)
    (F_is_name : Fun K "is_name" "is_name" s_is_name a_is_name fd_is_name) (b_is_name : Binds K fd_is_name ["thing"] []) (FI : Fun K "is_integer" "is_integer" s_is_integer fII fd_is_integer) (bI : Binds K fd_is_integer ["thing"] [])
    (FW : Fun K "is_within" "is_within" s_is_within fIW fd_is_within) (b_is_within : Binds K fd_is_within ["thing", "low", "high"] []) : FnOk P w K mg base CX0 3 f fd ["thing", "most", "low", "high"] (spCountsA K) := by
  have GN : FnOk P w K mg base CX0 1 a_is_name fd_is_name ["thing"] (spName K) := ok_is_name F_is_name T
  have GW : FnOk P w K mg base CX0 2 fIW fd_is_within ["thing", "low", "high"] (spWithin K) := ok_is_within FW T FI bI
  refine F.ok sc_are_counts (fun vs H Q E h => ?_) (fun cdv A outer s H vs Q E hr h => ?_)
  · obtain ⟨v, most, lo, hi, c, rfl, _⟩ := h
    rfl
  · obtain ⟨v, most, lo, hi, c, rfl, hc, k⟩ := h
    refine ⟨_, (pss_cons (ps_if (PW.pt (pw_or (pt_not (pt_val (pe_callB (CallR.or call_isi call_isiO) (by rfl) T.b_isinstance (by decide +kernel) (pa_cons (pv 0) (pa_cons (pe_bltn (v := .ty "dict") rfl T.b_dict (by decide +kernel) rfl) pa_nil))))) (pw_or1 (pt_cmpR op_gt (pe_callB (CallR.or call_lenD call_lenO) (by rfl) T.b_len PySem.boot_len (pa_cons (pv 0) pa_nil)) (pv 1) (nomark _))))) (pss_one (ps_ret pe_bl)) pss_nil)
      (pss_one (ps_ret (pe_callB (cr_all rfl) (by rfl) T.b_all (by decide +kernel) (pa_cons (pe_lock (pe_lc (own := [("name", 4), ("many", 5)]) (g := gTup K 2 (gCons (gName 4) (gCons (gName 5) gNil))) (tt := tYes) rfl sc_are_counts.nd (pi_or (pi_items (pv 0)) (pi_itemsO (pv 0))) (blkOk_by (own := [("name", 4), ("many", 5)]) (N := ["thing", "most", "low", "high", "name", "many"]) (sc := defScope s_are_counts) (by decide +kernel)) (fun _ _ _ _ _ => pg_tup rfl (pgs_cons (pg_name (i := 4) sc_are_counts.nd rfl (Or.inl rfl)) (pgs_cons (pg_name (i := 5) sc_are_counts.nd rfl (Or.inl rfl)) pgs_nil))) (fun _ _ _ _ _ => pts_nil) (fun _ _ _ _ _ => (pe_and (pe_call GN (hr.mono (by decide)) (by rfl) TG.g_is_name TG.k_is_name b_is_name .nil pass0 (pa_cons (pv 4) pa_nil)) (pe_one (pe_call GW hr (by rfl) T.g_is_within T.k_is_within b_is_within .nil pass0 (pa_cons (pv 5) (pa_cons (pv 2) (pa_cons (pv 3) pa_nil))))))))) pa_nil))))), ?_⟩
    rcases hc with ⟨t, b, nt, rfl⟩ | ⟨a, kvs, rfl, ha, he⟩ | ⟨a, l, rfl, ha, he⟩
    · refine ⟨_, rfl, .inl ⟨_, _, _, _, _, rfl, .ty _, b.ty, b.kit (u := "dict") (by decide), _, rfl, ?_⟩⟩
      rw [nt]
      refine iteT ?_
      exact k _ (Same.refl _)
    · have bD : Bt K H (.ref a) "dict" := ⟨.base (.dK ha), by decide⟩
      obtain ⟨le, he⟩ := he
      have lk : (kvs.map fun p => ((kV p.1, p.2) : V × V)).length = kvs.length := List.length_map ..
      refine ⟨_, rfl, .inl ⟨_, _, _, _, _, rfl, .ty _, bD.ty, bD.kit (u := "dict") (by decide), _, rfl, ?_⟩⟩
      refine iteF ?_
      refine ⟨_, rfl, .inl ⟨a, _, rfl, ha, _, rfl, _, _, rfl, rfl, _, rfl, ?_⟩⟩
      rw [← lk]
      rcases he with ⟨m1, rfl⟩ | ⟨m1, each, rfl⟩
      · rw [decide_eq_true m1]
        refine iteT ?_
        exact k _ (Same.refl _)
      · rw [decide_eq_false (show ¬ most < (_ : Int) by omega)]
        refine iteF ?_
        generalize el : (kvs.map fun p => ((kV p.1, p.2) : V × V)) = l at each le lk k ⊢
        refine ⟨a, _, ha, trivial, fun od => .inl ⟨_, rfl, a, od, kvs, rfl, upd_same, fun D nD => lc_it walk_items (fun i Hx => Same (upd H a (.frz od (.dK kvs))) Hx ∧ Hx D = some (.lst (((l.take i).map fun p => nameV p.1 && inW p.2 lo hi).map V.bl))) ⟨sameNew nD _, upd_same⟩ (fun i Hx _ z => z.1 _ _ upd_same) (fun i y Ha Hb hi' z1 z2 => ?_) fun Hx z => ?_⟩⟩
        · obtain ⟨sx, ex⟩ := z1
          obtain ⟨T', x, y, rfl, nT, rfl, h1, h2⟩ := z2
          dsimp only at h1 h2
          have hi2 : i < l.length := by rw [lk]; exact hi'
          obtain ⟨p, ep⟩ : ∃ p, l[i]? = some p := ⟨_, List.getElem?_eq_getElem hi2⟩
          have e1 : kvs[i]?.map (fun q => ((kV q.1, q.2) : V × V)) = some p := by rw [← ep, ← el, List.getElem?_map]
          have h1' : p.1 = x := by
            cases q : kvs[i]? with
            | none => rw [q] at e1; cases e1
            | some r =>
              rw [q] at e1 h1
              have e1 := Option.some.inj e1
              have h1 := Option.some.inj h1
              rw [← e1, ← h1]
          have h2' : p.2 = y := by
            cases q : kvs[i]? with
            | none => rw [q] at e1; cases e1
            | some r =>
              rw [q] at e1 h2
              have e1 := Option.some.inj e1
              have h2 := Option.some.inj h2
              rw [← e1, ← h2]
          subst h1' h2'
          obtain ⟨⟨t1, bt1⟩, ⟨t2, bt2⟩, szx⟩ := each _ (List.mem_of_getElem? ep)
          have off : ∀ (Hy : Hp), Same (upd Ha T' (.tup [p.1, p.2])) Hy → ∀ b o, b ≠ a → H b = some o → Hy b = some o := fun Hy sy b o nb e => by
            have e1 := sx b o (by rw [upd_ne nb]; exact e)
            exact sy _ _ (by rw [upd_ne (ne_of_none e1 nT)]; exact e1)
          refine ⟨T', _, rfl, .inl (.inl upd_same), rfl, _, _, rfl, _, _, rfl, rfl, rfl, ?_⟩
          refine ⟨_, rfl, _, _, rfl, bt1 _ (off _ (Same.refl _)), szx, fun Hy sy => ⟨_, rfl, ?_⟩⟩
          have exy := sy _ _ (show upd Ha T' _ D = _ by rw [upd_ne (ne_of_none ex nT)]; exact ex)
          have bigs : (((l.take i).map fun p => nameV p.1 && inW p.2 lo hi).map V.bl).length < sizeLine := by
            rw [List.length_map, List.length_map, List.length_take, sizeLine_eq]
            omega
          have done : ∀ cc : Bool, cc = (nameV p.1 && inW p.2 lo hi) → (Same (upd H a (.frz od (.dK kvs))) (upd Hy D (.lst ((((l.take i).map fun p => nameV p.1 && inW p.2 lo hi).map V.bl) ++ [.bl cc]))) ∧ upd Hy D (.lst ((((l.take i).map fun p => nameV p.1 && inW p.2 lo hi).map V.bl) ++ [.bl cc])) D = some (.lst (((l.take (i + 1)).map fun p => nameV p.1 && inW p.2 lo hi).map V.bl))) := fun cc ec => by
            refine ⟨fun b u e => ?_, ?_⟩
            · have nb : b ≠ D := fun z => by
                rw [z] at e
                exact absurd (e.symm.trans nD) (by simp)
              rw [upd_ne nb]
              exact sy _ _ (by rw [upd_ne (ne_of_none (sx _ _ e) nT)]; exact sx _ _ e)
            · rw [List.take_succ, ep, List.map_append, List.map_append, ec]
              exact upd_same
          cases hn : nameV p.1 with
          | true =>
            rw [hn] at done
            refine iteT ?_
            refine ⟨_, rfl, _, rfl, _, rfl, _, _, _, _, rfl, bt2 _ (off _ sy), ?_⟩
            exact ⟨_, exy, bigs, done _ (by rw [Bool.true_and])⟩
          | false =>
            rw [hn] at done
            refine iteF ?_
            exact ⟨_, exy, bigs, done _ (by rw [Bool.false_and])⟩
        · obtain ⟨sx, ex⟩ := z
          rw [← lk, List.take_length] at ex
          have nDa : D ≠ a := fun z => by
            rw [z, upd_same] at nD
            cases nD
          refine ⟨sx _ _ upd_same, D, l.map fun p => nameV p.1 && inW p.2 lo hi, rfl, SqL.of (by rw [upd_ne nDa]; exact ex), ?_⟩
          rw [pre_ents]
          exact k _ (same_unlockO ha sx)
    · obtain ⟨le, he⟩ := he
      refine ⟨_, rfl, .inr ⟨a, l, _, _, _, rfl, .inl ha, .ty _, kit_ty (kit_b "dict" (by decide) "dict" (by decide)), _, rfl, ?_⟩⟩
      refine iteF ?_
      refine ⟨_, rfl, .inr ⟨a, l, rfl, .inl ha, _, rfl, _, _, rfl, rfl, _, rfl, ?_⟩⟩
      rcases he with ⟨m1, rfl⟩ | ⟨m1, each, rfl⟩
      · rw [decide_eq_true m1]
        refine iteT ?_
        exact k _ (Same.refl _)
      · rw [decide_eq_false (show ¬ most < (_ : Int) by omega)]
        refine iteF ?_
        refine ⟨a, _, ha, trivial, fun od => .inr ⟨_, rfl, a, od, l, rfl, upd_same, fun D nD => lc_it walk_itemsO (fun i Hx => Same (upd H a (.frz od (OddO a l))) Hx ∧ Hx D = some (.lst (((l.take i).map fun p => nameV p.1 && inW p.2 lo hi).map V.bl))) ⟨sameNew nD _, upd_same⟩ (fun i Hx _ z => z.1 _ _ upd_same) (fun i y Ha Hb hi' z1 z2 => ?_) fun Hx z => ?_⟩⟩
        · obtain ⟨sx, ex⟩ := z1
          obtain ⟨T', x, y, rfl, nT, rfl, h1, h2⟩ := z2
          dsimp only at h1 h2
          have hi2 : i < l.length := hi'
          obtain ⟨p, ep⟩ : ∃ p, l[i]? = some p := ⟨_, List.getElem?_eq_getElem hi2⟩
          rw [ep] at h1 h2
          have h1' : p.1 = x := Option.some.inj h1
          have h2' : p.2 = y := Option.some.inj h2
          subst h1' h2'
          obtain ⟨⟨t1, bt1⟩, ⟨t2, bt2⟩, szx⟩ := each _ (List.mem_of_getElem? ep)
          have off : ∀ (Hy : Hp), Same (upd Ha T' (.tup [p.1, p.2])) Hy → ∀ b o, b ≠ a → H b = some o → Hy b = some o := fun Hy sy b o nb e => by
            have e1 := sx b o (by rw [upd_ne nb]; exact e)
            exact sy _ _ (by rw [upd_ne (ne_of_none e1 nT)]; exact e1)
          refine ⟨T', _, rfl, .inl (.inl upd_same), rfl, _, _, rfl, _, _, rfl, rfl, rfl, ?_⟩
          refine ⟨_, rfl, _, _, rfl, bt1 _ (off _ (Same.refl _)), szx, fun Hy sy => ⟨_, rfl, ?_⟩⟩
          have exy := sy _ _ (show upd Ha T' _ D = _ by rw [upd_ne (ne_of_none ex nT)]; exact ex)
          have bigs : (((l.take i).map fun p => nameV p.1 && inW p.2 lo hi).map V.bl).length < sizeLine := by
            rw [List.length_map, List.length_map, List.length_take, sizeLine_eq]
            omega
          have done : ∀ cc : Bool, cc = (nameV p.1 && inW p.2 lo hi) → (Same (upd H a (.frz od (OddO a l))) (upd Hy D (.lst ((((l.take i).map fun p => nameV p.1 && inW p.2 lo hi).map V.bl) ++ [.bl cc]))) ∧ upd Hy D (.lst ((((l.take i).map fun p => nameV p.1 && inW p.2 lo hi).map V.bl) ++ [.bl cc])) D = some (.lst (((l.take (i + 1)).map fun p => nameV p.1 && inW p.2 lo hi).map V.bl))) := fun cc ec => by
            refine ⟨fun b u e => ?_, ?_⟩
            · have nb : b ≠ D := fun z => by
                rw [z] at e
                exact absurd (e.symm.trans nD) (by simp)
              rw [upd_ne nb]
              exact sy _ _ (by rw [upd_ne (ne_of_none (sx _ _ e) nT)]; exact sx _ _ e)
            · rw [List.take_succ, ep, List.map_append, List.map_append, ec]
              exact upd_same
          cases hn : nameV p.1 with
          | true =>
            rw [hn] at done
            refine iteT ?_
            refine ⟨_, rfl, _, rfl, _, rfl, _, _, _, _, rfl, bt2 _ (off _ sy), ?_⟩
            exact ⟨_, exy, bigs, done _ (by rw [Bool.true_and])⟩
          | false =>
            rw [hn] at done
            refine iteF ?_
            exact ⟨_, exy, bigs, done _ (by rw [Bool.false_and])⟩
        · obtain ⟨sx, ex⟩ := z
          rw [List.take_length] at ex
          have nDa : D ≠ a := fun z => by
            rw [z, upd_same] at nD
            cases nD
          refine ⟨sx _ _ upd_same, D, l.map fun p => nameV p.1 && inW p.2 lo hi, rfl, SqL.of (by rw [upd_ne nDa]; exact ex), ?_⟩
          rw [pre_ents]
          exact k _ (same_unlockO ha sx)
theorem ok_are_operationsA {f : Addr} {fd fd_are_counts : FuncData} (F : Fun K "are_operations" "are_operations" s_are_operations f fd) (TG : TxtG K mg a_is_row a_is_index a_is_name a_is_text_in a_are_counts a_word_of a_are_nexts a_is_line a_line_of a_are_operations)
    (GC : FnOk P w K mg base CX0 3 a_are_counts fd_are_counts ["thing", "most", "low", "high"] (spCountsA K)) (b_are_counts : Binds K fd_are_counts ["thing", "most", "low", "high"] []) : FnOk P w K mg base CX0 4 f fd ["thing"] (spOpsA K) := by
  refine F.ok sc_are_operations (fun vs H Q E h => ?_) (fun cdv A outer s H vs Q E hr h => ?_)
  · obtain ⟨v, c, rfl, _⟩ := h
    rfl
  · obtain ⟨v, c, rfl, hc, k⟩ := h
    refine ⟨_, (pss_one (ps_ret (pe_call GC (hr.mono (by decide)) (by rfl) TG.g_are_counts TG.k_are_counts b_are_counts .nil pass0 (pa_cons (pv 0) (pa_cons (globI rfl TG.c_MOST_OPERATIONS) (pa_cons pe_int (pa_cons (globI rfl TG.c_MOST_ANSWERS) pa_nil))))))), ?_⟩
    exact ⟨_, rfl, v, 8, 0, 6, c, rfl, hc, k⟩
end
end Mine

set_option maxRecDepth 100000
set_option maxHeartbeats 4000000
namespace L2
open PySem PySem.Spec PyProof.Rows
/-- X(), X an own exception class without own __init__ -/
theorem pmk_own0 {X : Cx} {C : Addr} {bmB : List Value} {B newId initId : String} {x : Str} {p pos : Pos} (F : ExcBaseFacts B newId initId bmB) (q : PySem.W.excIn X.K C bmB newId = true) (gC : X.mg x = some (.ref C))
    (kC : PySem.W.keepIn X.K (.ref C) = true) (r : Raises X (.ref C)) (hg : Gl X x) (hdb : (x == ("__debug__" : Str)) = false := by decide) : PMk X (.Call (.Name x p) [] [] pos) (fun σ H Q => Q (.ref C) none H) := by
  intro pins s σ H Q I h
  refine wpAny_Call_Name_kw (ld_glob I hg gC ?_ hdb)
  refine PySem.W.callWith_K0 I.kIn kC ?_
  show wpAny _ _ (call (.ref C) []) _ _ _
  obtain ⟨bm, N, nm, qn, bs, hdct, sn, sub, ab, col, dd, k0, k1, k2, k3, k5, mN, hC, hN, hni, T⟩ := exc_obj I.kIn q
  refine wpAny_call_exc_subT F T hC hN hni (fun h' e hm => ?_) (by show 0 ≤ sizeLine; exact Nat.zero_le _)
  exact mk_of I hm r h (I.hok.gone hm.new)
theorem pe_orE {X : Cx} {e : Expr} {t t' : TE} (h : PE X e t) (h' : PE X e t') : PE X e (fun σ H Q => t σ H Q ∨ t' σ H Q) := ⟨fun pins s σ H Q I q => q.elim (h.run pins s σ H Q I) (h'.run pins s σ H Q I)⟩
end L2
namespace Mine
open PySem L2
abbrev s_i_BadBody : Stmt := inClass (top 4) 0
abbrev s_i_BadStart : Stmt := inClass (top 5) 0
structure ErrC (K : PySem.W.Frag) (C fI : Addr) : Prop where
  ox : OexC K C
  iC : PySem.W.findIn K (.ref C) "__init__" = some (some (.ref fI))
  tI : PySem.W.typeIn K (.ref fI) = some (.type "function")
/-- the field is kept, in a dict that was not there -/
def spInitF (C : Addr) (fld : Str) : Sp := fun vs H Q _ => ∃ (a : Addr) (v : V), vs = [.ref a, v] ∧ H a = some (exo a C none) ∧
  ∀ (dx : Addr) (H' : Hp), H dx = none → dx ≠ a → (∀ b o, b ≠ a → H b = some o → H' b = some o) → H' a = some (exo a C (some dx)) → H' dx = some (exd dx [(fld, v)]) → Q .non H'
abbrev s_i_NoRow : Stmt := inClass (top 6) 0
/-- what is raised with its own dict: the field f holds v -/
def RaisesF (C : Addr) (f : Str) (v : V) (H : Hp) (E : XK) : Prop := ∀ d H', H d = none → Same H H' → H' d = some (.xd [(f, v)]) → E (.ref C) (some d) H'
theorem raise_end {C : Addr} {f : Str} {v : V} {H H2 : Hp} {E : XK} {a d : Addr} {o : HO} (na : H a = none) (nd : upd H a o d = none) (nda : d ≠ a) (s2 : ∀ (b : Addr) (u : HO), b ≠ a → upd H a o b = some u → H2 b = some u) (k : RaisesF C f v H E) : E (.ref C) (some d) (upd (del H2 a) d (.xd [(f, v)])) := by
  rw [upd_ne nda] at nd
  have s1d : Same H (upd (del H2 a) d (.xd [(f, v)])) := fun b2 u eb => by
    have nb : b2 ≠ a := ne_of_none eb na
    rw [upd_ne (ne_of_none eb nd), del_ne nb]
    exact s2 b2 u nb (by rw [upd_ne nb]; exact eb)
  exact k d _ nd s1d upd_same
/-- rows that are none, and where -/
def ReadBad (K : PySem.W.Frag) (H : Hp) (v : V) (o : Ops) (m : Int) : Prop :=
  (m = -1 ∧ (RowIs K H v none ∨ ∃ l, RowIs K H v (some l) ∧ (l.length = 0 ∨ 400 < l.length))) ∨ ∃ (l : List V) (i : Nat) (x : V), m = (i : Int) ∧ RowIs K H v (some l) ∧ 1 ≤ l.length ∧ l.length ≤ 400 ∧ l[i]? = some x ∧ LineIs K H x o l.length false ∧ ∀ (j : Nat) (y : V), j < i → l[j]? = some y → LineIs K H y o l.length true
theorem ReadBad.same {K : PySem.W.Frag} {H H' : Hp} {v : V} {o : Ops} {m : Int} (s : Same H H') (h : ReadBad K H v o m) : ReadBad K H' v o m := by
  rcases h with ⟨e, h⟩ | ⟨l, i, x, e, r, h1, h2, h3, h4, h5⟩
  · exact .inl ⟨e, h.imp (fun z => z.same s) fun ⟨l, r, z⟩ => ⟨l, r.same s, z⟩⟩
  · exact .inr ⟨l, i, x, e, r.same s, h1, h2, h3, h4.same s, fun j y hj ej => (h5 j y hj ej).same s⟩
def spReadX (K : PySem.W.Frag) (CR : Addr) : Sp := fun vs H _ E => ∃ (v : V) (d : Addr) (o : Ops) (m : Int), vs = [v, .ref d] ∧ Rd H d (.dK (opsK o)) ∧ ReadBad K H v o m ∧ RaisesF CR "index" (.int m) H E
section
variable {P : Program} {w : World} {K : PySem.W.Frag} {mg : Str → Option Value} {base : Heap}
variable {fII fIW a_is_row a_is_index a_is_name a_is_text_in a_are_counts a_word_of a_are_nexts a_is_line a_line_of a_are_operations a_lines_read CO CR CS fR fS CB CM : Addr}
theorem sc_i_BadBody : FnScope ["self", "index"] ["self", "index"] (defScope s_i_BadBody) := ⟨rfl, rfl, rfl, by decide +kernel, rfl, by decide +kernel, by decide +kernel⟩
theorem sc_i_BadStart : FnScope ["self", "index"] ["self", "index"] (defScope s_i_BadStart) := ⟨rfl, rfl, rfl, by decide +kernel, rfl, by decide +kernel, by decide +kernel⟩
theorem ok_i_BadBody {f C : Addr} {fd : FuncData} (F : Fun K "__init__" "BadBody.__init__" s_i_BadBody f fd) (ox : OexC K C) (nf : PySem.W.findIn K (.ref C) "index" = some none) : FnOk P w K mg base CX0 1 f fd ["self", "index"] (spInitF C "index") := by
  refine F.ok sc_i_BadBody (fun vs H Q E h => ?_) (fun cdv A outer s H vs Q E hr h => ?_)
  · obtain ⟨a, v, rfl, _⟩ := h
    rfl
  · obtain ⟨a, v, rfl, ha, k⟩ := h
    refine ⟨_, pss_one (ps_ost (pv 0) (pv 1)), ?_⟩
    refine ⟨_, rfl, _, rfl, a, C, rfl, ox, nf, .inl ⟨ha, fun dx nd ne => ?_⟩⟩
    refine k dx _ nd ne (fun b o nb hb => ?_) upd_same ?_
    · rw [upd_ne nb, upd_ne (ne_of_none hb nd)]
      exact hb
    · rw [upd_ne ne, upd_same]
theorem ok_i_BadStart {f C : Addr} {fd : FuncData} (F : Fun K "__init__" "BadStart.__init__" s_i_BadStart f fd) (ox : OexC K C) (nf : PySem.W.findIn K (.ref C) "index" = some none) : FnOk P w K mg base CX0 1 f fd ["self", "index"] (spInitF C "index") := by
  refine F.ok sc_i_BadStart (fun vs H Q E h => ?_) (fun cdv A outer s H vs Q E hr h => ?_)
  · obtain ⟨a, v, rfl, _⟩ := h
    rfl
  · obtain ⟨a, v, rfl, ha, k⟩ := h
    refine ⟨_, pss_one (ps_ost (pv 0) (pv 1)), ?_⟩
    refine ⟨_, rfl, _, rfl, a, C, rfl, ox, nf, .inl ⟨ha, fun dx nd ne => ?_⟩⟩
    refine k dx _ nd ne (fun b o nb hb => ?_) upd_same ?_
    · rw [upd_ne nb, upd_ne (ne_of_none hb nd)]
      exact hb
    · rw [upd_ne ne, upd_same]

theorem ok_lines_readX {f : Addr} {fd fd_is_row fd_is_line fdR : FuncData} (F : Fun K "lines_read" "lines_read" s_lines_read f fd) (T : TxtF K mg fII fIW) (TG : TxtG K mg a_is_row a_is_index a_is_name a_is_text_in a_are_counts a_word_of a_are_nexts a_is_line a_line_of a_are_operations)
    (h_enum : mg "enumerate" = none) {tm : Tok} (h_most : mg "MOST_ROWS" = some (.int 400 tm))
    (GRw : FnOk P w K mg base CX0 1 a_is_row fd_is_row ["thing"] (spIsRow K)) (b_is_row : Binds K fd_is_row ["thing"] [])
    (GL : FnOk P w K mg base CX0 5 a_is_line fd_is_line ["row", "counts", "many"] (spIsLineA K)) (b_is_line : Binds K fd_is_line ["row", "counts", "many"] [])
    (EN : ErrC K CR fR) (GE : FnOk P w K mg base CX0 1 fR fdR ["self", "index"] (spInitF CR "index")) (b_BadBody : Binds K fdR ["self", "index"] []) (g_BadBody : mg "BadBody" = some (.ref CR)) : FnOk P w K mg base (L2.CX P w) 6 f fd ["rows", "counts"] (spReadX K CR) := by
  refine F.okX sc_lines_read (fun vs H Q E h => ?_) (fun cdv A outer s H vs Q E hr h => ?_)
  · obtain ⟨v, d, o, m, rfl, _⟩ := h
    rfl
  · obtain ⟨v, d, o, m, rfl, hd, bad, kE⟩ := h
    refine ⟨_, (pss_cons (ps_if (PW.pt (pw_or (pt_not (pt_val (pe_call GRw (hr.mono (by decide)) (by rfl) TG.g_is_row TG.k_is_row b_is_row .nil pass0 (pa_cons (pv 0) pa_nil)))) (pw_or1 (pt_not (pt_chain op_le op_le pe_int (pe_callB call_len_seq (by rfl) T.b_len PySem.boot_len (pa_cons (pv 0) pa_nil)) (pe_glob (v := .int 400) rfl h_most ⟨_, rfl⟩)))))) (pss_one (ps_raise rfl (takes_of rfl rfl rfl rfl) (pmk_oex EN.ox EN.iC EN.tI GE (hr.mono (by decide)) b_BadBody .nil pass0 (by rfl) g_BadBody (pa_cons (pe_un un_neg pe_int) pa_nil)))) pss_nil)
      (pss_cons (ps_for (passes_of rfl) rfl (pi_or (pi_enum (by rfl) h_enum (pa_cons (pv 0) pa_nil)) (pi_enumT (by rfl) h_enum (pa_cons (pv 0) pa_nil))) (pg_tup rfl (pgs_cons (pg_name (i := 2) sc_lines_read.nd rfl (Or.inl rfl)) (pgs_cons (pg_name (i := 3) sc_lines_read.nd rfl (Or.inl rfl)) pgs_nil)))
        (pss_one (ps_if (pt_not (pt_val (pe_call GL (hr.mono (by decide)) (by rfl) TG.g_is_line TG.k_is_line b_is_line .nil pass0 (pa_cons (pv 3) (pa_cons (pv 1) (pa_cons (pe_callB call_len_seq (by rfl) T.b_len PySem.boot_len (pa_cons (pv 0) pa_nil)) pa_nil)))))) (pss_one (ps_raise rfl (takes_of rfl rfl rfl rfl) (pmk_oex EN.ox EN.iC EN.tI GE (hr.mono (by decide)) b_BadBody .nil pass0 (by rfl) g_BadBody (pa_cons (pv 2) pa_nil)))) pss_nil)))
      (pss_one ps_no))), ?_⟩
    have kE1 : ∀ {H1 : Hp}, Same H H1 → RaisesF CR "index" (.int m) H1 E := fun s1 d' H' nd s' e => kE d' H' (none_of s1 nd) (s1.trans s') e
    have first : ∀ (l : List V) (H1 : Hp), Same H H1 → m = -1 → RaisesF CR "index" (.int (-1)) H1 E := fun l H1 s1 em => em ▸ kE1 s1
    rcases bad with ⟨em, ⟨t, b, hn⟩ | ⟨l, ⟨t, b, e, a, rfl, ha, each⟩, hl⟩⟩ | ⟨l, i0, x0, em, ⟨t, b, e, a, rfl, ha, each⟩, lo, hi, hx0, no, yes⟩
    · have hn : (t == "list" || t == "tuple") = false := hn
      refine ⟨_, rfl, _, t, rfl, b, fun H1 s1 => ⟨_, rfl, ?_⟩⟩
      rw [hn]
      refine iteT ?_
      exact ⟨1, rfl, by show 1 ≤ 1000; decide, fun a na => ⟨a, _, rfl, upd_same, fun d2 H2 nd nda s2 e1 e2 => ⟨rfl, d2, _, e1, e2, by rw [upd_ne nda] at nd; exact nd, raise_end na nd nda s2 (first [] H1 s1 em)⟩⟩⟩
    · refine ⟨_, rfl, _, t, rfl, b, fun H1 s1 => ⟨_, rfl, ?_⟩⟩
      rw [e]
      refine iteF ?_
      have ha1 := s1.sqa ha
      refine ⟨_, rfl, a, _, rfl, ha1.sq, _, _, rfl, rfl, _, rfl, ?_⟩
      by_cases z : 1 ≤ l.length
      · rw [decide_eq_true (show (1 : Int) ≤ (l.length : Int) by omega)]
        refine iteT ?_
        refine ⟨_, _, rfl, rfl, _, rfl, ?_⟩
        rw [decide_eq_false (show ¬ (l.length : Int) ≤ 400 by omega)]
        refine iteT ?_
        exact ⟨1, rfl, by show 1 ≤ 1000; decide, fun a na => ⟨a, _, rfl, upd_same, fun d2 H2 nd nda s2 e1 e2 => ⟨rfl, d2, _, e1, e2, by rw [upd_ne nda] at nd; exact nd, raise_end na nd nda s2 (first [] H1 s1 em)⟩⟩⟩
      · rw [decide_eq_false (show ¬ (1 : Int) ≤ (l.length : Int) by omega)]
        refine iteF ?_
        refine ⟨_, rfl, ?_⟩
        refine iteT ?_
        exact ⟨1, rfl, by show 1 ≤ 1000; decide, fun a na => ⟨a, _, rfl, upd_same, fun d2 H2 nd nda s2 e1 e2 => ⟨rfl, d2, _, e1, e2, by rw [upd_ne nda] at nd; exact nd, raise_end na nd nda s2 (first [] H1 s1 em)⟩⟩⟩
    · refine ⟨_, rfl, _, t, rfl, b, fun H1 s1 => ⟨_, rfl, ?_⟩⟩
      rw [e]
      refine iteF ?_
      have ha1 := s1.sqa ha
      refine ⟨_, rfl, a, _, rfl, ha1.sq, _, _, rfl, rfl, _, rfl, ?_⟩
      rw [decide_eq_true (show (1 : Int) ≤ (l.length : Int) by omega)]
      refine iteT ?_
      refine ⟨_, _, rfl, rfl, _, rfl, ?_⟩
      rw [decide_eq_true (show (l.length : Int) ≤ 400 by omega)]
      refine iteF ?_
      have hi0 : i0 < l.length := (List.getElem?_eq_some_iff.mp hx0).1
      have rd : ∀ {H' : Hp}, Same H H' → Rd H' d (.dK (opsK o)) := fun s => hd.elim (fun z => .inl (s _ _ z)) fun ⟨od, z⟩ => .inr ⟨od, s _ _ z⟩
      have atBad : ∀ (Hc : Hp) (j : Nat), Same H Hc → j = i0 → RaisesF CR "index" (.int (j : Int)) Hc E := fun Hc j sc ej => by rw [ej, ← em]; exact kE1 sc
      rcases ha1 with ha1 | ha1
      · refine .inl ⟨_, rfl, a, l, rfl, SqL.of ha1, for_enumL (K := K) (a := a) (xs := l) (fun i σ H' => i ≤ i0 ∧ ∃ v2 v3 : Option V, σ = [some (.ref a), some (.ref d), v2, v3] ∧ Same H1 H') ⟨Nat.zero_le _, _, _, rfl, Same.refl _⟩ (fun i σ H' _ z => by obtain ⟨_, _, _, _, u⟩ := z; exact SqL.of (u _ _ ha1)) ?_ ?_⟩
        · rintro i x σ Ha T' Hb hxi ⟨hle, v2, v3, rfl, sa⟩ nT sT eT
          refine ⟨T', _, rfl, .inl (.inl eT), rfl, _, _, rfl, _, _, rfl, rfl, ?_⟩
          have sab := sa.trans sT
          refine ⟨_, rfl, _, rfl, _, rfl, a, _, rfl, .inl (SqL.of (sab _ _ ha1)), ?_⟩
          have sH := s1.trans sab
          by_cases hlt : i < i0
          · refine ⟨x, d, o, _, true, rfl, (yes i x hlt hxi).same sH, rd sH, fun Hc sc => ⟨_, rfl, ?_⟩⟩
            refine iteF ?_
            exact ⟨hlt, _, _, rfl, sab.trans sc⟩
          · have ei : i = i0 := by omega
            have ex : x = x0 := by
              rw [ei, hx0] at hxi
              exact (Option.some.inj hxi).symm
            subst ex
            refine ⟨x, d, o, _, false, rfl, no.same sH, rd sH, fun Hc sc => ⟨_, rfl, ?_⟩⟩
            refine iteT ?_
            exact ⟨_, rfl, by show 1 ≤ 1000; decide, fun a' na => ⟨a', _, rfl, upd_same, fun d2 H2 nd nda s2 e1 e2 => ⟨rfl, d2, _, e1, e2, by rw [upd_ne nda] at nd; exact nd, raise_end na nd nda s2 (atBad Hc i (sH.trans sc) ei)⟩⟩⟩
        · rintro σ Hn ⟨hle, _⟩
          exact absurd hle (by omega)
      · refine .inr ⟨_, rfl, a, l, rfl, .inl (.inl ha1), for_enumT (K := K) (a := a) (xs := l) (fun i σ H' => i ≤ i0 ∧ ∃ v2 v3 : Option V, σ = [some (.ref a), some (.ref d), v2, v3] ∧ Same H1 H') ⟨Nat.zero_le _, _, _, rfl, Same.refl _⟩ (fun i σ H' _ z => by obtain ⟨_, _, _, _, u⟩ := z; exact .inl (.inl (u _ _ ha1))) ?_ ?_⟩
        · rintro i x σ Ha T' Hb hxi ⟨hle, v2, v3, rfl, sa⟩ nT sT eT
          refine ⟨T', _, rfl, .inl (.inl eT), rfl, _, _, rfl, _, _, rfl, rfl, ?_⟩
          have sab := sa.trans sT
          refine ⟨_, rfl, _, rfl, _, rfl, a, _, rfl, .inr (.inl (.inl (sab _ _ ha1))), ?_⟩
          have sH := s1.trans sab
          by_cases hlt : i < i0
          · refine ⟨x, d, o, _, true, rfl, (yes i x hlt hxi).same sH, rd sH, fun Hc sc => ⟨_, rfl, ?_⟩⟩
            refine iteF ?_
            exact ⟨hlt, _, _, rfl, sab.trans sc⟩
          · have ei : i = i0 := by omega
            have ex : x = x0 := by
              rw [ei, hx0] at hxi
              exact (Option.some.inj hxi).symm
            subst ex
            refine ⟨x, d, o, _, false, rfl, no.same sH, rd sH, fun Hc sc => ⟨_, rfl, ?_⟩⟩
            refine iteT ?_
            exact ⟨_, rfl, by show 1 ≤ 1000; decide, fun a' na => ⟨a', _, rfl, upd_same, fun d2 H2 nd nda s2 e1 e2 => ⟨rfl, d2, _, e1, e2, by rw [upd_ne nda] at nd; exact nd, raise_end na nd nda s2 (atBad Hc i (sH.trans sc) ei)⟩⟩⟩
        · rintro σ Hn ⟨hle, _⟩
          exact absurd hle (by omega)
end
end Mine

set_option maxRecDepth 100000
set_option maxHeartbeats 4000000
namespace Mine
open PySem L2
theorem CountsIs.right {K : PySem.W.Frag} {H : Hp} {d : Addr} {o : Ops} (h : H d = some (.dK (opsK o))) (ok : OkOps o) : CountsIs K H (.ref d) 8 0 6 true := by
  refine .inr (.inl ⟨d, opsK o, rfl, h, ?_⟩)
  have few := ok.few
  have lk : ((opsK o).map fun p => ((kV p.1, p.2) : V × V)).length = o.length := by rw [List.length_map]; exact List.length_map ..
  have each : ∀ p ∈ (opsK o).map (fun p => ((kV p.1, p.2) : V × V)), ∃ q ∈ o, p = (.str q.1, .int q.2) := fun p hp => by
    obtain ⟨r, hr, rfl⟩ := List.mem_map.mp hp
    obtain ⟨q, hq, rfl⟩ := List.mem_map.mp hr
    exact ⟨q, hq, rfl⟩
  refine ⟨by omega, .inr ⟨by omega, fun p hp => ?_, ?_⟩⟩
  · obtain ⟨q, hq, rfl⟩ := each p hp
    refine ⟨.val fun H' => btStr _, .val fun H' => btInt _, fun x e => ?_⟩
    have e2 : q.1 = x := V.str.inj e
    rw [← e2, sizeLine_eq]
    have := nm_len (ok.each q hq).1
    omega
  · refine (List.all_eq_true.mpr fun p hp => ?_).symm
    obtain ⟨q, hq, rfl⟩ := each p hp
    obtain ⟨h1, h2, h3⟩ := ok.each q hq
    show (isNm q.1 && inW (.int q.2) 0 6) = true
    rw [h1, inW_int h2 h3]
    rfl
theorem CountsIs.same {K : PySem.W.Frag} {H H' : Hp} {v : V} {most lo hi : Int} {c : Bool} (s : Same H H') (h : CountsIs K H v most lo hi c) : CountsIs K H' v most lo hi c := by
  have ents : ∀ {a : Addr} {l : List (V × V)}, EntsIs K a H l most lo hi c → EntsIs K a H' l most lo hi c := fun {a l} ⟨h1, h2⟩ => ⟨h1, h2.imp id fun ⟨h3, h4, h5⟩ => ⟨h3, fun p hp => by
    obtain ⟨⟨t1, b1⟩, ⟨t2, b2⟩, z⟩ := h4 p hp
    exact ⟨⟨t1, fun H2 k => b1 H2 fun b o nb e => k b o nb (s _ _ e)⟩, ⟨t2, fun H2 k => b2 H2 fun b o nb e => k b o nb (s _ _ e)⟩, z⟩, h5⟩⟩
  rcases h with ⟨t, b, n, e⟩ | ⟨a, kvs, e, ha, z⟩ | ⟨a, l, e, ha, z⟩
  · exact .inl ⟨t, b.same s, n, e⟩
  · exact .inr (.inl ⟨a, kvs, e, s _ _ ha, ents z⟩)
  · exact .inr (.inr ⟨a, l, e, s _ _ ha, ents z⟩)
/-- what a body is not made of, and what is raised -/
inductive BadBodyC (K : PySem.W.Frag) (CO CR CS : Addr) (H : Hp) (v rv sv : V) (E : XK) : Prop where
  | ops (h : CountsIs K H v 8 0 6 false) (k : ∀ H', Same H H' → E (.ref CO) none H')
  | rows {d : Addr} {o : Ops} {m : Int} (e : v = .ref d) (hd : H d = some (.dK (opsK o))) (ok : OkOps o) (b : ReadBad K H rv o m) (k : RaisesF CR "index" (.int m) H E)
  | start {d r : Addr} {o : Ops} {xs : List V} {rs : List RowD} {t : String} (e : v = .ref d) (hd : H d = some (.dK (opsK o))) (ok : OkOps o) (er : rv = .ref r) (hx : SqA H r xs) (rows : RowsIn H xs rs) (lo : 1 ≤ rs.length) (hi : rs.length ≤ 400)
      (okr : OkRows o rs) (b : Bt K H sv t) (no : inW sv 0 ((rs.length : Int) - 1) = false) (k : RaisesF CS "index" sv H E)
def spBodyX (K : PySem.W.Frag) (CO CR CS : Addr) : Sp := fun vs H _ E => ∃ (bd : Addr) (v rv sv : V), vs = [.ref bd, v, rv, sv] ∧ BadBodyC K CO CR CS H v rv sv E
theorem RaisesF.same {C : Addr} {f : Str} {v : V} {H H' : Hp} {E : XK} (s : Same H H') (k : RaisesF C f v H E) : RaisesF C f v H' E := fun d H2 nd s2 e => k d H2 (none_of s nd) (s.trans s2) e
section
variable {P : Program} {w : World} {K : PySem.W.Frag} {mg : Str → Option Value} {base : Heap}
variable {fII fIW a_is_row a_is_index a_is_name a_is_text_in a_are_counts a_word_of a_are_nexts a_is_line a_line_of a_are_operations a_lines_read CO CR CS fR fS CB CM : Addr}
theorem ok_bodyX {f : Addr} {fd fd_are_operations fd_lines_read fd_is_index fdS : FuncData} (F : Fun K "__init__" "Body.__init__" s_body f fd) (T : TxtF K mg fII fIW) (TG : TxtG K mg a_is_row a_is_index a_is_name a_is_text_in a_are_counts a_word_of a_are_nexts a_is_line a_line_of a_are_operations)
    (GO : FnOk P w K mg base CX0 4 a_are_operations fd_are_operations ["thing"] (spOpsA K)) (b_are_operations : Binds K fd_are_operations ["thing"] [])
    (GLR : FnOk P w K mg base CX0 6 a_lines_read fd_lines_read ["rows", "counts"] spRead) (GLX : FnOk P w K mg base (L2.CX P w) 6 a_lines_read fd_lines_read ["rows", "counts"] (spReadX K CR)) (b_lines_read : Binds K fd_lines_read ["rows", "counts"] []) (g_lines_read : mg "lines_read" = some (.ref a_lines_read)) (k_lines_read : PySem.W.keepIn K (.ref a_lines_read) = true)
    (GIx : FnOk P w K mg base CX0 3 a_is_index fd_is_index ["thing", "many"] (spIndex K)) (b_is_index : Binds K fd_is_index ["thing", "many"] [])
    (xO : PySem.W.excIn K CO He.veBase "ValueError.__new__" = true) (kO : PySem.W.keepIn K (.ref CO) = true) (sO : PySem.W.subIn K (.ref CO) (.type "BaseException") = some true) (tO : PySem.W.typeIn K (.ref CO) = some (.type "type")) (g_BadOperations : mg "BadOperations" = some (.ref CO))
    (EN : ErrC K CS fS) (GE : FnOk P w K mg base CX0 1 fS fdS ["self", "index"] (spInitF CS "index")) (b_BadStart : Binds K fdS ["self", "index"] []) (g_BadStart : mg "BadStart" = some (.ref CS)) : FnOk P w K mg base (L2.CX P w) 7 f fd ["self", "operations", "rows", "start"] (spBodyX K CO CR CS) := by
  refine F.okX sc_body (fun vs H Q E h => ?_) (fun cdv A outer s H vs Q E hr h => ?_)
  · obtain ⟨bd, v, rv, sv, rfl, _⟩ := h
    rfl
  · obtain ⟨bd, v, rv, sv, rfl, bad⟩ := h
    refine ⟨_, (pss_cons (ps_if (pt_not (pt_val (pe_call GO (hr.mono (by decide)) (by rfl) TG.g_are_operations TG.k_are_operations b_are_operations .nil pass0 (pa_cons (pv 1) pa_nil)))) (pss_one (ps_raise rfl (takes_of rfl rfl rfl rfl) (pmk_own0 PySem.F.excBase_ValueError xO g_BadOperations kO (raises_own sO tO) (by rfl)))) pss_nil)
      (pss_cons (ps_set (i := 4) sc_body.nd rfl (Or.inl rfl) (pe_orE (pe_call GLR (hr.mono (by decide)) (by rfl) g_lines_read k_lines_read b_lines_read .nil pass0 (pa_cons (pv 2) (pa_cons (pv 1) pa_nil))) (pe_call GLX (hr.mono (by decide)) (by rfl) g_lines_read k_lines_read b_lines_read .nil (passes_call (takes_of rfl rfl rfl rfl) (fun _ _ _ _ h => h)) (pa_cons (pv 2) (pa_cons (pv 1) pa_nil)))))
      (pss_cons (ps_if (pt_not (pt_val (pe_call GIx (hr.mono (by decide)) (by rfl) TG.g_is_index TG.k_is_index b_is_index .nil pass0 (pa_cons (pv 3) (pa_cons (pe_callB call_len_seq (by rfl) T.b_len PySem.boot_len (pa_cons (pv 4) pa_nil)) pa_nil))))) (pss_one (ps_raise rfl (takes_of rfl rfl rfl rfl) (pmk_oex EN.ox EN.iC EN.tI GE (hr.mono (by decide)) b_BadStart .nil pass0 (by rfl) g_BadStart (pa_cons (pv 3) pa_nil)))) pss_nil)
      (pss_one ps_no)))), ?_⟩
    cases bad with
    | ops h k =>
      refine ⟨_, rfl, v, false, rfl, h, fun H1 s1 => ⟨_, rfl, ?_⟩⟩
      refine iteT ?_
      exact k _ s1
    | @rows d o m e hd ok b k =>
      subst e
      refine ⟨_, rfl, _, true, rfl, .right hd ok, fun H1 s1 => ⟨_, rfl, ?_⟩⟩
      refine iteF ?_
      refine .inr ⟨_, rfl, _, rfl, rv, d, o, m, rfl, .inl (s1 _ _ hd), b.same s1, fun d2 H2 nd s2 e2 => ?_⟩
      exact k.same s1 d2 H2 nd s2 e2
    | @start d r o xs rs t e hd ok er hx rows lo hi okr b no k =>
      subst e er
      refine ⟨_, rfl, _, true, rfl, .right hd ok, fun H1 s1 => ⟨_, rfl, ?_⟩⟩
      refine iteF ?_
      refine .inl ⟨_, rfl, _, rfl, r, d, xs, rs, o, rfl, s1.sqa hx, rows.same s1, .inl (s1 _ _ hd), lo, hi, okr, fun l ys H2 n2 s2 e2 rr => ?_⟩
      refine ⟨_, rfl, _, rfl, l, _, rfl, .inl (SqL.of e2), sv, t, _, rfl, b.same (s1.trans s2), _, rfl, ?_⟩
      rw [rr.1, no]
      refine iteT ?_
      exact ⟨_, rfl, by show 1 ≤ 1000; decide, fun a na => ⟨a, _, rfl, upd_same, fun d2 H3 nd nda s3 e1 e2 => ⟨rfl, d2, _, e1, e2, by rw [upd_ne nda] at nd; exact nd, raise_end na nd nda s3 (k.same (s1.trans s2))⟩⟩⟩
end
end Mine

set_option maxRecDepth 100000
set_option maxHeartbeats 4000000
namespace L2
open PySem PySem.Spec PyProof.Rows
theorem takesNo {X : Cx} : Takes X (fun _ _ _ _ => False) := fun _ _ x => by
  obtain ⟨_, _, _, _, _, _, _, _, _, _, _, _, _, _, _, _, z⟩ := x
  exact z.elim
def tMakeKS (C : Addr) (n m : Nat) (sp : Sp) (gV : List V → List V → List V) (E : St → XK) (t tk : TA) : TE := fun σ H Q => tMakeK C n m sp gV (E σ) t tk σ H Q
section
variable {X : Cx} {CX : CXT} {k n : Nat} {f C : Addr} {fd : FuncData} {ps ks : List Str} {sp : Sp} {E : St → XK} {x : Str} {p pos : Pos} {e : Expr} {es : List Expr} {kws : List Keyword} {t tk : TA} {g : List Value → List Value → List Value} {gV : List V → List V → List V}
theorem run_makeKS {pins : List (Addr × Obj)} {σ : St} {H : Hp} {s : Shared} {Q : VK} {us ws : List Value} {vs zs : List V} (M : Mk X.K C f) (F : FnOk X.prog X.w X.K X.mg X.base CX k f fd ps sp) (hr : Room (k + 1) X.A) (hb : KBn X.K fd ps (n + 1) ks g gV) (hx : PassesAt CX X σ (E σ))
    (I : Inv X pins σ H s) (r : Vals vs us) (rz : Vals zs ws) (l1 : vs.length = n) (l2 : zs.length = ks.length)
    (h : ∀ x dx, H x = none → H dx = none → dx ≠ x → sp (gV (.ref x :: vs) zs) (upd (upd H dx (.own x)) x (.ins C dx [])) (fun v H2 => v = .non ∧ Q (.ref x) H2) (E σ)) :
    wpAny (model X.prog X.w) X.A (call (.ref C) us (ks.zip ws)) (EP X pins σ Q) X.xe s := by
  have hq := h (s.heap.objs.size + 1) s.heap.objs.size (I.hok.fresh (Nat.le_succ _)) (I.hok.fresh (Nat.le_refl _)) (Nat.ne_of_lt (Nat.lt_succ_self _))
  have I2 := Inv.made (C := C) I
  have r1 : Vals (V.ref (s.heap.objs.size + 1) :: vs) (Value.ref (s.heap.objs.size + 1) :: us) := .cons rfl r
  have r2 := hb.rel r1 rz
  have n1 : (Value.ref (s.heap.objs.size + 1) :: us).length = n + 1 := by
    rw [List.length_cons, ← r.length, l1]
  refine wpAny_call (make_map (f := f) I.kIn M.makes M.init (beq_iff_eq.mp M.fn) (codeAny_mono (F.run _ X.stack _ _ ⟨Value.ref (s.heap.objs.size + 1) :: us, ks.zip ws⟩ (g (Value.ref (s.heap.objs.size + 1) :: us) ws) _ _ (E σ) (hr.make C us (ks.zip ws))
    (I2.env0.make C us (ks.zip ws)) (hb.to _ (Value.ref (s.heap.objs.size + 1) :: us) ws I2.kIn n1 (rz.length.symm.trans l2)) r2 hq) fun r s' hq' => ?_))
  cases r with
  | error e => exact hx pins _ _ e s' I2 hq'
  | ok fl =>
    cases fl with
    | ret u =>
      obtain ⟨v, H', I3, rv, ev, q3⟩ := I2.after hq'
      subst ev
      exact ⟨rv, ⟨V.ref (s.heap.objs.size + 1), H', I3, rfl, q3⟩⟩
    | next => exact False.elim hq'
    | brk => exact False.elim hq'
    | cont => exact False.elim hq'
/-- C(e, .., k = v, ..), what it raises taken there -/
theorem pe_makeKS (M : Mk X.K C f) (F : FnOk X.prog X.w X.K X.mg X.base CX k f fd ps sp) (hr : Room (k + 1) X.A) (hg : Gl X x) (hm : X.mg x = some (.ref C)) (hb : KBn X.K fd ps (n + 1) ks g gV) (hx : ∀ σ, PassesAt CX X σ (E σ)) (ha : PA X (e :: es) t) (hkw : PK X kws tk)
    (hall : (backToKw pos (keywordEach kws X.env)).all (·.1.isSome) = true := by rfl) (hks : (backToKw pos (keywordEach kws X.env)).filterMap (·.1) = ks := by rfl) (hdb : (x == ("__debug__" : Str)) = false := by decide)
    (he : starEach (e :: es) X.env = (false, eval e X.env) :: starEach es X.env := by rfl) (hpl : ((backTo pos (starEach (e :: es) X.env)).any (·.1) || (backToKw pos (keywordEach kws X.env)).any (·.1.isNone)) = false := by rfl) :
    PE X (.Call (.Name x p) (e :: es) kws pos) (tMakeKS C n ks.length sp gV E t tk) := by
  refine ⟨fun pins s σ H Q I h => ?_⟩
  refine wpAny_Call_Name_kw (ld_glob I hg hm ?_ hdb)
  refine PySem.W.callWith_KW (h₀ := X.base) I.ok.mod.kin M.kp hall (thn (ha.run pos pins s σ H _ I h) fun us s1 ⟨vs, H1, I1, r, q⟩ => ?_) hpl he
  refine thn (hkw.run pos pins s1 σ H1 _ I1 q) fun ws s2 ⟨zs, H2, I2, rz, l1, l2, q2⟩ => ⟨I2.kIn, ?_⟩
  rw [hks]
  exact run_makeKS M F hr hb (hx σ) I2 r rz l1 l2 q2
end
/-- isinstance of the caught error, with or without its own dict -/
def rIsE3 (K : PySem.W.Frag) (a : Addr) (cls : Value) (d : Option Addr) : List V → Hp → VK → Prop := fun xs H Q => ∃ (C : Addr) (c : V) (cv : Value) (b : Bool), xs = [.ref a, c] ∧ cls = .ref C ∧ ExcC K C ∧ (d = none ∨ ∃ dd fs, d = some dd ∧ H dd = some (.xd fs)) ∧ ClsV c cv ∧ PySem.W.kitOne K (.ref C) cv = some b ∧ Q (.bl b) H
theorem call_isE3 {X : Cx} {a : Addr} {oe : Obj} {cls : Value} {d : Option Addr} {pn : List (Addr × Obj)} (hz : Zc cls d oe) (hf : ∃ vs, oe.data = .fields vs) : CallR (X.suite a ((a, oe) :: pn)) (.builtin "isinstance") (rIsE3 X.K a cls d) := by
  intro pins s σ H xs us Q I r h
  obtain ⟨C, c, cv, b, rfl, rfl, T, hd0, kc, e, q⟩ := h
  obtain ⟨u1, u2, rfl, r1, r2⟩ := vals2 r
  cases (show u1 = Value.ref a from r1)
  have e2 := kc.eq r2
  subst e2
  obtain ⟨ha, _⟩ := I.pin (a, oe) (List.mem_append_left _ List.mem_cons_self)
  obtain ⟨vs, hd⟩ := hf
  rcases hd0 with rfl | ⟨dd, fs, rfl, ed⟩
  · have J : PySem.W.InstAt s.heap a oe C none := ⟨ha, hz.1, by unfold PySem.W.notCls; rw [hd] <;> rfl, by rw [hz.2]; exact trivial⟩
    exact PySem.W.kia_one (PySem.ExoX.kitExo T) I.kIn ⟨_, _, J⟩ e (fun z => nomatch z) fun tk => ⟨.bl b, H, I.tok tk, rfl, q⟩
  · have hx : ObjOk X.prog X.w H s.heap dd (.xd fs) := I.hok dd _ ed
    obtain ⟨mA, hns, hr⟩ := hx
    obtain ⟨od, ho, hl⟩ := lookIn_ns hns
    have J : PySem.W.InstAt s.heap a oe C (some od) := ⟨ha, hz.1, by unfold PySem.W.notCls; rw [hd] <;> rfl, by rw [hz.2]; exact ho⟩
    exact PySem.W.kia_one (PySem.ExoX.kitExo T) I.kIn ⟨_, _, J⟩ e (fun z => nomatch z) fun tk => ⟨.bl b, H, I.tok tk, rfl, q⟩
/-- l.count(b), truth values -/
def rCntB (K : PySem.W.Frag) : V → List V → Hp → VK → Prop := fun x xs H Q => ∃ (p : Addr) (bs : List Bool) (b : Bool), x = .ref p ∧ xs = [.bl b] ∧ SqL K H p (bs.map V.bl) ∧ Q (.int (bs.count b : Nat)) H
def eqB (b : Bool) : Value → Bool
  | .bool c => c == b
  | _ => false
theorem eqB_count {b : Bool} : ∀ {bs : List Bool} {us : List Value}, Vals (bs.map V.bl) us → us.countP (eqB b) = bs.count b
  | [], us, r => by rw [List.map_nil] at r; cases r; rfl
  | c :: bs, us, r => by
    rw [List.map_cons] at r
    cases r with
    | cons h t =>
      cases (show _ = Value.bool c from h)
      rw [List.countP_cons, List.count_cons, eqB_count t]
      rfl
theorem mt_lcountB {X : Cx} : MtR X "list.count" (rCntB X.K) := by
  intro pins s σ H x xs v us Q I rx rxs h
  obtain ⟨p, bs, b, rfl, rfl, hs, q⟩ := h
  cases rx
  obtain ⟨u, rfl, ru⟩ := rxs.one
  obtain rfl : u = Value.bool b := ru
  obtain ⟨its, rv, ⟨⟨cls, dd, data, sl⟩, n, ho, hc, hdn, hd⟩, hlen⟩ := I.list hs
  simp only at hc hd
  subst hc hd
  refine call_meets PySem.F.slot_list_count ⟨_, ho, rfl⟩ PySem.F.entry_list_count (PySem.F.args_list_count_2 _ _)
    (SeqAt.list_countAt p its.toArray n dd sl (.bool b) (eqB b)) ⟨ho, fun y hy => ?_, ?_⟩
  · have hy : y ∈ its := by simpa using hy
    have key : ∀ {bs : List Bool} {us : List Value}, Vals (bs.map V.bl) us → ∀ y ∈ us, ∃ c, y = Value.bool c := by
      intro bs
      induction bs with
      | nil => intro us r y hy; rw [List.map_nil] at r; cases r; cases hy
      | cons c bs ih =>
        intro us r y hy
        rw [List.map_cons] at r
        cases r with
        | cons h t =>
          rcases List.mem_cons.mp hy with z | z
          · exact ⟨c, z.trans h⟩
          · exact ih t y z
    obtain ⟨c, rfl⟩ := key rv y hy
    exact SeqAt.EqAt.bool_bool c b
  have ec : its.toArray.toList.countP (eqB b) = bs.count b := eqB_count rv
  refine ⟨.int (bs.count b : Nat), H, I.tok _, ⟨s.toks, ?_⟩, q⟩
  show Value.int ((its.toArray.toList.countP (eqB b) : Nat) : Int) s.toks = Value.int ((bs.count b : Nat) : Int) s.toks
  rw [ec]
end L2

set_option maxRecDepth 100000
set_option maxHeartbeats 2000000
/-! text * number -/
namespace L2
open PySem PySem.Spec PyProof.Rows
def timesS (z : Str) (n : Int) : Str := if n = 1 then z else ⟨(List.replicate n.toNat z.cps).foldl (· ++ ·) #[]⟩
def rMulS : R2 := fun x y H Q => ∃ (z : Str) (n : Int), x = .str z ∧ y = .int n ∧ 1 ≤ n ∧ n ≤ 64 ∧ 1 ≤ z.length ∧ z.length ≤ 64 ∧ (timesS z n).length ≤ sizeLine ∧ Q (.str (timesS z n)) H
theorem op_mulS {X : Cx} : OpR X (binaryOp .Mult) rMulS := by
  intro pins s σ H x y v u Q I rx ry h
  obtain ⟨z, n, rfl, rfl, h1, h2, h3, h4, h5, q⟩ := h
  obtain ⟨t, rfl⟩ := rx
  obtain ⟨t2, rfl⟩ := ry
  refine P.mul_str ?_ ?_ ?_ ?_
  · rw [decide_eq_false (by omega), decide_eq_false (by omega)]
    rfl
  · intro _ _
    have : (100 : Int) ≤ (2 ^ 63 - 1) / n := Int.le_ediv_of_mul_le (by omega) (by omega)
    omega
  · intro _ _
    have h6 : n.toNat ≤ 64 := by omega
    have h7 : z.length * n.toNat ≤ 64 * 64 := Nat.mul_le_mul h4 h6
    unfold Builtin.Str.tooLong
    rw [decide_eq_false]
    rw [sizeLine_eq]
    omega
  · rw [if_neg (by omega)]
    by_cases e : n = 1
    · subst e
      unfold timesS at q
      rw [if_pos rfl] at q
      rw [if_pos (by simp)]
      exact ⟨.str z, H, I, ⟨_, rfl⟩, q⟩
    · unfold timesS at q h5
      rw [if_neg e] at q h5
      have e2 : (n == 1 || z.length == 0) = false := by
        have : ¬ z.length = 0 := by omega
        simp [e, this]
      rw [e2, if_neg (by decide)]
      exact ⟨h5, .str _, H, I.tok _, ⟨_, rfl⟩, q⟩
end L2

set_option maxRecDepth 100000
set_option maxHeartbeats 4000000
namespace L2
open PySem PySem.Spec PyProof.Rows
section
variable {X : Cx} {es : List Expr} {kws : List Keyword} {t : TA}
theorem PA.mono (h : PA X es t) : PA X es (fun σ H R => ∃ R', t σ H R' ∧ ∀ vs H1, R' vs H1 → R vs H1) := ⟨fun pos pins s σ H R I ⟨R', h1, h2⟩ => thn (h.run pos pins s σ H R' I h1) fun us s1 ⟨vs, H1, I1, r, q⟩ => ⟨vs, H1, I1, r, h2 _ _ q⟩⟩
theorem PK.mono (h : PK X kws t) : PK X kws (fun σ H R => ∃ R', t σ H R' ∧ ∀ vs H1, R' vs H1 → R vs H1) := ⟨fun pos pins s σ H R I ⟨R', h1, h2⟩ => thn (h.run pos pins s σ H R' I h1) fun us s1 ⟨vs, H1, I1, r, q⟩ => ⟨vs, H1, I1, r, h2 _ _ q⟩⟩
end
end L2
namespace Mine
open PySem L2
/-- the parts of a right body -/
structure OkB (o : Ops) (rs : List RowD) (b : Nat) : Prop where
  ops : OkOps o
  lo : 1 ≤ rs.length
  hi : rs.length ≤ 400
  rows : OkRows o rs
  lt : b < rs.length
  fa : (distinct "ask" (restD rs b)).length < 64
  fe : (distinct "end" (restD rs b)).length < 64
theorem OkB.small {o : Ops} {rs : List RowD} {b : Nat} (ops : OkOps o) (lo : 1 ≤ rs.length) (hi : rs.length < 64) (rows : OkRows o rs) (lt : b < rs.length) : OkB o rs b := by
  have few : ∀ x : Str, (distinct x (restD rs b)).length < 64 := fun x => by
    have h1 := distinct_len x (restD rs b)
    have h2 : (restD rs b).length ≤ rs.length := by
      unfold restD
      rw [List.length_map]
      exact (metAt_few rows.fit lt rs.length).len
    omega
  exact ⟨ops, lo, by omega, rows, lt, few _, few _⟩
/-- Body(d, r, start=b), as it is told here -/
def tBody (CB CM : Addr) (t tk : TA) : TE := fun σ H Q => t σ H fun vs H1 => tk σ H1 fun zs H2 => ∃ (d r : Addr) (xs : List V) (rs : List RowD) (o : Ops) (b : Nat), vs = [.ref d, .ref r] ∧ zs = [.int b] ∧ H2 d = some (.dK (opsK o)) ∧ SqA H2 r xs ∧ RowsIn H2 xs rs ∧ OkB o rs b ∧
  ∀ bd H3, H2 bd = none → Same H2 H3 → BodyN CB CM H2 H3 bd o rs b → Q (.ref bd) H3
abbrev KS : List Str := ["start"]
abbrev zo : Ops := [("zz", 1)]
abbrev PB : List Str := ["self", "operations", "rows", "start"]
theorem bindB {K : PySem.W.Frag} {fd : FuncData} (h : ∀ (a b c d : Value), bindArgs fd ⟨[a, b, c], [(("start" : Str), d)]⟩ = pure ([(("self" : Str), a), ("operations", b), ("rows", c), ("start", d)] : List (Str × Value))) : KBn K fd PB (2 + 1) KS (fun us ws => us ++ ws) (fun vs zs => vs ++ zs) where
  to := fun s us ws _ l1 l2 => match us, ws, l1, l2 with
    | [a, b, c], [d], _, _ => .of_eq (h a b c d)
  rel := fun r rz => r.append rz
section
variable {X : Cx} {CB CM f : Addr} {fd : FuncData} {x : Str} {p pos : Pos} {e : Expr} {es : List Expr} {kws : List Keyword} {t tk : TA}
theorem body_end {H2 : Hp} {Q : VK} {E : XK} {d r : Addr} {xs : List V} {rs : List RowD} {o : Ops} {b : Nat} (hd : H2 d = some (.dK (opsK o))) (hx : SqA H2 r xs) (rows : RowsIn H2 xs rs) (ok : OkB o rs b) (k : ∀ bd H3, H2 bd = none → Same H2 H3 → BodyN CB CM H2 H3 bd o rs b → Q (.ref bd) H3)
    (bd dx : Addr) (nb : H2 bd = none) (nd : H2 dx = none) (ne : dx ≠ bd) : spBody CB CM [.ref bd, .ref d, .ref r, .int b] (upd (upd H2 dx (.own bd)) bd (.ins CB dx [])) (fun v H3 => v = .non ∧ Q (.ref bd) H3) E := by
  have sm : Same H2 (upd (upd H2 dx (.own bd)) bd (.ins CB dx [])) := same_updN (same_updN (Same.refl _) nd) nb
  exact ⟨bd, d, r, dx, xs, rs, o, b, rfl, upd_same, sm _ _ hd, ok.ops, sm.sqa hx, rows.same sm, ok.lo, by have := ok.hi; omega, ok.rows, ok.lt, ok.fa, ok.fe, fun H' s' B => ⟨rfl, k bd H' nb (fun b2 u e => s' b2 u (ne_of_none e nb) (sm _ _ e)) (by
    obtain ⟨m, t, l, sa, aa, ea, o', xs, as, es, h, n1, n2, n3, n4, n5, n6⟩ := B
    exact ⟨m, t, l, sa, aa, ea, o', xs, as, es, h, none_of sm n1, none_of sm n2, none_of sm n3, none_of sm n4, none_of sm n5, none_of sm n6⟩)⟩⟩
theorem pe_body (M : Mk X.K CB f) (F : FnOk X.prog X.w X.K X.mg X.base CX0 7 f fd PB (spBody CB CM)) (hr : Room 8 X.A) (hg : Gl X x) (hm : X.mg x = some (.ref CB)) (hb : KBn X.K fd PB (2 + 1) KS (fun us ws => us ++ ws) (fun vs zs => vs ++ zs)) (ha : PA X (e :: es) t) (hkw : PK X kws tk)
    (hall : (backToKw pos (keywordEach kws X.env)).all (·.1.isSome) = true := by rfl) (hks : (backToKw pos (keywordEach kws X.env)).filterMap (·.1) = KS := by rfl) (hdb : (x == ("__debug__" : Str)) = false := by decide)
    (he : starEach (e :: es) X.env = (false, eval e X.env) :: starEach es X.env := by rfl) (hpl : ((backTo pos (starEach (e :: es) X.env)).any (·.1) || (backToKw pos (keywordEach kws X.env)).any (·.1.isNone)) = false := by rfl) :
    PE X (.Call (.Name x p) (e :: es) kws pos) (tBody CB CM t tk) := by
  refine pe_imp (pe_makeK (E := E0) M F hr hg hm hb pass0 ha.mono hkw.mono hall hks hdb he hpl) fun σ H Q q => ?_
  refine ⟨_, q, fun vs H1 q1 => ⟨_, q1, fun zs H2 q2 => ?_⟩⟩
  obtain ⟨d, r, xs, rs, o, b, rfl, rfl, hd, hx, rows, ok, k⟩ := q2
  exact ⟨rfl, rfl, fun bd dx nb nd ne => body_end hd hx rows ok k bd dx nb nd ne⟩
end
theorem OkRows.mem {o : Ops} {rs : List RowD} (h : ∀ d ∈ rs, OkRow o rs.length d) : OkRows o rs := fun _ d e => h d (List.mem_of_getElem? e)
theorem OkRows.of {o : Ops} {rs : List RowD} (h : OkRows o rs) {d : RowD} (hd : d ∈ rs) : OkRow o rs.length d := by
  obtain ⟨i, e⟩ := List.getElem?_of_mem hd
  exact h i d e
theorem Rows.inn {H : Hp} {xs : List V} {rs : List RowD} (h : Rows H xs rs) : RowsIn H xs rs := ⟨h.1, fun i d e => by
  obtain ⟨x, h1, h2⟩ := h.2 i d e
  exact ⟨x, h1, h2.row⟩⟩
end Mine

set_option maxRecDepth 100000
set_option maxHeartbeats 4000000
namespace Mine
open PySem L2 TL LamB
abbrev s_i_NoText : Stmt := inClass (top 7) 0
abbrev s_told_at : Stmt := top 43
/-- a text's lines -/
def LinesT (x : Str) (ls : List Str) : Prop := x.length ≤ 100000 ∧ ls.length ≤ 10000 ∧ (Txt.split x "\n" = ls ++ [("" : Str)] ∨ (Txt.split x "\n" = ls ∧ ls ≠ [] ∧ ls.getLast? ≠ some ("" : Str)))
def spLinesX (K : PySem.W.Frag) (CT : Addr) : Sp := fun vs H Q E => ∃ v : V, vs = [v] ∧ ((∃ (x : Str) (ls : List Str), v = .str x ∧ LinesT x ls ∧ New H (.lst (ls.map V.str)) Q) ∨ ∃ t : String, Bt K H v t ∧ t ≠ "str" ∧ RaisesF CT "line" (.int (-1)) H E)
/-- what a line tells, or that it tells nothing -/
def spToldX (P : Program) (w : World) (K : PySem.W.Frag) (mg : Str → Option Value) (CT : Addr) (B : Heap) (k : Nat) : Sp := fun vs H Q E => ∃ (a f : Addr) (ls : List Str) (i : Nat), vs = [.ref a, .int (i : Int), .ref f] ∧ H a = some (.lst (ls.map V.str)) ∧
  ((ls[i]? = none ∧ RaisesF CT "line" (.int ((i : Int) + 1)) H E) ∨ ∃ (l : Str) (G : Hp → Prop) (sp : Sp), ls[i]? = some l ∧
  Acts2 P w K mg B CX0 k f G sp ∧ G H ∧ ∀ Q2 : VK, (∀ v H', v ≠ .non → Q v H' → Q2 v H') → (∀ H', RaisesF CT "line" (.int ((i : Int) + 1)) H' E → Q2 .non H') → sp [.str l] H Q2 E0)
section
variable {P : Program} {w : World} {K : PySem.W.Frag} {mg : Str → Option Value} {base : Heap}
variable {fII fIW CT fT : Addr}
theorem sc_i_NoText : FnScope ["self", "line"] ["self", "line"] (defScope s_i_NoText) := ⟨rfl, rfl, rfl, by decide +kernel, rfl, by decide +kernel, by decide +kernel⟩
theorem ok_i_NoText {f C : Addr} {fd : FuncData} (F : Fun K "__init__" "NoText.__init__" s_i_NoText f fd) (ox : OexC K C) (nf : PySem.W.findIn K (.ref C) "line" = some none) : FnOk P w K mg base CX0 1 f fd ["self", "line"] (spInitF C "line") := by
  refine F.ok sc_i_NoText (fun vs H Q E h => ?_) (fun cdv A outer s H vs Q E hr h => ?_)
  · obtain ⟨a, v, rfl, _⟩ := h
    rfl
  · obtain ⟨a, v, rfl, ha, k⟩ := h
    refine ⟨_, pss_one (ps_ost (pv 0) (pv 1)), ?_⟩
    refine ⟨_, rfl, _, rfl, a, C, rfl, ox, nf, .inl ⟨ha, fun dx nd ne => ?_⟩⟩
    refine k dx _ nd ne (fun b o nb hb => ?_) upd_same ?_
    · rw [upd_ne nb, upd_ne (ne_of_none hb nd)]
      exact hb
    · rw [upd_ne ne, upd_same]
theorem sc_lines_of : FnScope ["text", "lines"] ["text"] (defScope s_lines_of) := ⟨rfl, rfl, rfl, by decide +kernel, rfl, by decide +kernel, by decide +kernel⟩

theorem ok_lines_ofX {f : Addr} {fd fdT : FuncData} (F : Fun K "lines_of" "lines_of" s_lines_of f fd) (T : TxtF K mg fII fIW)
    (EN : ErrC K CT fT) (GE : FnOk P w K mg base CX0 1 fT fdT ["self", "line"] (spInitF CT "line")) (b_NoText : Binds K fdT ["self", "line"] []) (g_NoText : mg "NoText" = some (.ref CT)) : FnOk P w K mg base (L2.CX P w) 3 f fd ["text"] (spLinesX K CT) := by
  refine F.okX sc_lines_of (fun vs H Q E h => ?_) (fun cdv A outer s H vs Q E hr h => ?_)
  · obtain ⟨v, rfl, _⟩ := h
    rfl
  · obtain ⟨v, rfl, h⟩ := h
    refine ⟨_, (pss_cons (ps_if (pt_not (pt_val (pe_callB call_isi (by rfl) T.b_isinstance (by decide +kernel) (pa_cons (pv 0) (pa_cons (pe_bltn (v := .ty "str") rfl T.b_str (by decide +kernel) rfl) pa_nil))))) (pss_one (ps_raise rfl (takes_of rfl rfl rfl rfl) (pmk_oex EN.ox EN.iC EN.tI GE (hr.mono (by decide)) b_NoText .nil pass0 (by rfl) g_NoText (pa_cons (pe_un un_neg pe_int) pa_nil)))) pss_nil)
      (pss_cons (ps_set (i := 1) sc_lines_of.nd rfl (Or.inl rfl) (pe_split (pv 0) pe_str))
      (pss_cons (ps_if (pt_cmpR op_eq (pe_ix ix_list (pv 1) (pe_un un_neg pe_int) (fun _ _ => rfl)) pe_str (nomark _)) (pss_one (ps_expr (pe_bm0 PySem.F.plainAttrs_list PySem.F.slot_list_pop PySem.F.type_list_pop mt_pop (pv 1)))) pss_nil)
      (pss_one (ps_ret (pv 1)))))), ?_⟩
    rcases h with ⟨x, ls, rfl, ⟨sz, few, hsp⟩, k⟩ | ⟨t, b, nt, kE⟩
    · refine ⟨_, rfl, _, _, _, _, _, rfl, .ty _, (btStr (K := K) (H := H) x).ty, (btStr (K := K) (H := H) x).kit (u := "str") (by decide), _, rfl, ?_⟩
      rw [show kb "str" "str" = true by decide]
      refine iteF ?_
      refine ⟨_, rfl, ⟨_, rfl⟩, x, "\n", rfl, rfl, by decide +kernel, by rw [sizeLine_eq]; omega, fun p np => ?_⟩
      have sp := sameNew np (.lst ((Txt.split x "\n").map V.str))
      have ep : upd H p (.lst ((Txt.split x "\n").map V.str)) p = some (.lst ((Txt.split x "\n").map V.str)) := upd_same
      generalize upd H p (.lst ((Txt.split x "\n").map V.str)) = X1 at sp ep ⊢
      rcases hsp with e | ⟨e, ne, nl⟩
      · rw [e, List.map_append] at ep
        refine ⟨_, rfl, 1, rfl, p, _, -1, .str "", rfl, rfl, SqL.of ep, atI_last _ _, rfl, _, rfl, ?_⟩
        refine iteT ?_
        refine ⟨_, rfl, .inl ⟨rfl, _, SqL.of ep⟩, p, _, .str "", rfl, rfl, ep, get_last _ _, ?_⟩
        refine ⟨_, rfl, ?_⟩
        refine k p _ np (fun b o eb => ?_) ?_
        · rw [upd_ne (ne_of_none eb np)]
          exact sp _ _ eb
        · rw [upd_same]
          congr 2
          show (ls.map V.str ++ [V.str ""]).dropLast = _
          rw [List.dropLast_concat]
      · obtain ⟨init, l, rfl⟩ : ∃ init l, ls = init ++ [l] := ⟨ls.dropLast, ls.getLast ne, (List.dropLast_concat_getLast ne).symm⟩
        rw [e] at ep
        have ep2 := ep
        rw [List.map_append] at ep
        have hl : ¬ V.str l = V.str "" := fun q => nl (by rw [List.getLast?_concat, V.str.inj q])
        refine ⟨_, rfl, 1, rfl, p, _, -1, .str l, rfl, rfl, SqL.of ep, atI_last _ _, rfl, _, rfl, ?_⟩
        rw [decide_eq_false hl]
        refine iteF ?_
        refine ⟨_, rfl, ?_⟩
        exact k p _ np sp ep2
    · refine ⟨_, rfl, _, _, _, _, _, rfl, .ty _, b.ty, b.kit (u := "str") (by decide), _, rfl, ?_⟩
      rw [show kb t "str" = false by simp [kb, nt]]
      refine iteT ?_
      exact ⟨1, rfl, by show 1 ≤ 1000; decide, fun a na => ⟨a, _, rfl, upd_same, fun d2 H2 nd nda s2 e1 e2 => ⟨rfl, d2, _, e1, e2, by rw [upd_ne nda] at nd; exact nd, raise_end na nd nda s2 kE⟩⟩⟩
theorem sc_told_at : FnScope ["lines", "place", "told", "found"] ["lines", "place", "told"] (defScope s_told_at) := ⟨rfl, rfl, rfl, by decide +kernel, rfl, by decide +kernel, by decide +kernel⟩

theorem ok_told_atX {f : Addr} {fd fdT : FuncData} (F : Fun K "told_at" "told_at" s_told_at f fd) (T : TxtF K mg fII fIW)
    (EN : ErrC K CT fT) (GE : FnOk P w K mg base CX0 1 fT fdT ["self", "line"] (spInitF CT "line")) (b_NoText : Binds K fdT ["self", "line"] []) (g_NoText : mg "NoText" = some (.ref CT)) : FnOk P w K mg base (L2.CX P w) 4 f fd ["lines", "place", "told"] (spToldX P w K mg CT base 3) := by
  refine F.okX sc_told_at (fun vs H Q E h => ?_) (fun cdv A outer s H vs Q E hr h => ?_)
  · obtain ⟨a, f, ls, i, rfl, _⟩ := h
    rfl
  · obtain ⟨a, f2, ls, i, rfl, ha, h⟩ := h
    refine ⟨_, (pss_cons (ps_set (i := 3) sc_told_at.nd rfl (Or.inl rfl) (pe_ifExp (pt_cmpR op_lt (pv 1) (pe_callB call_len_seq (by rfl) T.b_len PySem.boot_len (pa_cons (pv 0) pa_nil)) (nomark _)) (pe_act2 (i := 2) hr pass0 rfl (Or.inl rfl) (pa_cons (pe_ix ix_list (pv 0) (pv 1) (fun _ _ => rfl)) pa_nil)) pe_non))
      (pss_cons (ps_if (pt_cmpR op_isN (pv 3) pe_non (nomark _)) (pss_one (ps_raise rfl (takes_of rfl rfl rfl rfl) (pmk_oex EN.ox EN.iC EN.tI GE (hr.mono (by decide)) b_NoText .nil pass0 (by rfl) g_NoText (pa_cons (pe_op op_add (pv 1) pe_int) pa_nil)))) pss_nil)
      (pss_one (ps_ret (pv 3))))), ?_⟩
    rcases h with ⟨hl, kE⟩ | ⟨l, G, sp, hl, act, g, h⟩
    · have hi := List.getElem?_eq_none_iff.mp hl
      refine ⟨_, rfl, _, rfl, a, _, rfl, .inl (SqL.of ha), _, _, rfl, rfl, _, rfl, ?_⟩
      rw [decide_eq_false (show ¬ (i : Int) < (((ls.map V.str).length : Nat) : Int) by rw [List.length_map]; omega)]
      refine iteF ?_
      refine ⟨_, rfl, rfl, _, rfl, ?_⟩
      refine iteT ?_
      exact ⟨_, rfl, _, _, rfl, rfl, by show 1 ≤ 1000; decide, fun a na => ⟨a, _, rfl, upd_same, fun d2 H2 nd nda s2 e1 e2 => ⟨rfl, d2, _, e1, e2, by rw [upd_ne nda] at nd; exact nd, raise_end na nd nda s2 kE⟩⟩⟩
    · have hi := (List.getElem?_eq_some_iff.mp hl).1
      refine ⟨_, rfl, _, rfl, a, _, rfl, .inl (SqL.of ha), _, _, rfl, rfl, _, rfl, ?_⟩
      rw [decide_eq_true (show (i : Int) < (((ls.map V.str).length : Nat) : Int) by rw [List.length_map]; omega)]
      refine iteT ?_
      refine ⟨f2, G, sp, rfl, act, g, _, rfl, _, rfl, a, _, (i : Int), .str l, rfl, rfl, SqL.of ha, atI_of (k := i) (by rw [List.getElem?_map, hl]; rfl), g, h _ (fun v H' nv q => ?_) fun H' kE => ?_⟩
      · refine ⟨_, rfl, rfl, _, rfl, ?_⟩
        rw [decide_eq_false nv]
        refine iteF ?_
        exact ⟨_, rfl, q⟩
      · refine ⟨_, rfl, rfl, _, rfl, ?_⟩
        refine iteT ?_
        exact ⟨_, rfl, _, _, rfl, rfl, by show 1 ≤ 1000; decide, fun a na => ⟨a, _, rfl, upd_same, fun d2 H2 nd nda s2 e1 e2 => ⟨rfl, d2, _, e1, e2, by rw [upd_ne nda] at nd; exact nd, raise_end na nd nda s2 kE⟩⟩⟩
end
end Mine

set_option maxRecDepth 100000
set_option maxHeartbeats 4000000
namespace LamB
open PySem PySem.Spec PyProof.Rows L2 LamX
/-- FunC.ok, errors passing on -/
theorem FunC.okX {P : Program} {w : World} {K : PySem.W.Frag} {mg : Str → Option Value} {base : Heap} {x qual : Str} {st : Stmt} {f c : Addr} {fd : FuncData} {N ps : List Str} {k : Nat} {sp : Sp} (F : FunC K x qual st f fd c) (S : FnScope N ps (defScope st)) (len : ∀ vs H Q E, sp vs H Q E → vs.length = ps.length)
    (body : ∀ (A : Around) (outer : List Env) (s : Shared) (H : Hp) (vs : List V) (Q : VK) (E : XK), Room k (A.deeper (envOfC qual (defScope st) s.heap.objs.size f (.ref c))) → sp vs H Q E →
      ∃ t, PSs (cxOf (L2.CX P w) P w K mg base N qual (defScope st) f (.ref c) A outer s H E) (defBody st) t ∧ t { nx := fun _ H' => Q .non H', rt := Q } (L2.start N vs) H) : FnOk P w K mg base (L2.CX P w) (k + 1) f fd ps sp := by
  obtain ⟨oc, od, kV, doc, pm, an, ct, osl, rfl, lk, cd⟩ := F.ex
  exact fn_of lk cd S len fun A outer s H vs Q E hr h => body A outer s H vs Q E hr h
end LamB
namespace Mine
open PySem L2 TL LamB
abbrev s_read_body : Stmt := top 41
abbrev qRB : Str := "read_body" ++ ".<locals>." ++ "<lambda>"
theorem tabs_same {T : List (Addr × Str)} {H H' : Hp} (t : LamX.Tabs T H) (s : Same H H') : LamX.Tabs T H' := t.ext fun b o e => s b o e
theorem none_butT {PM : Addr} {q : Str} {H H' : Hp} {a : Addr} (u : ButT PM H H') (t : LamX.Tabs [(PM, q)] H') (n : H' a = none) : H a = none := by
  cases e : H a with
  | none => rfl
  | some o =>
    by_cases z : a = PM
    · obtain ⟨ps, e2, _⟩ := t (PM, q) (List.mem_singleton.mpr rfl)
      have e2 : H' PM = some (.tbl ps) := e2
      rw [← z, n] at e2
      cases e2
    · rw [u a o z e] at n
      cases n
def rLenS (K : PySem.W.Frag) : List V → Hp → VK → Prop := fun xs H Q => ∃ p ys, xs = [V.ref p] ∧ (SqL K H p ys ∨ SqT K H p ys) ∧ Q (.int (ys.length : Nat)) H
theorem _root_.LamB.go6 {PM : Addr} {q : Str} {H H' : Hp} (u : ButT PM H H') (t : LamX.Tabs [(PM, q)] H) {b : Addr} {o : HO} (e : H b = some o) (nt : ∀ ps, o ≠ .tbl ps) : H' b = some o := u b o (fun z => by
  obtain ⟨ps, e1, _⟩ := t (PM, q) (List.mem_singleton.mpr rfl)
  have e1 : H PM = some (.tbl ps) := e1
  rw [z, e1] at e
  exact nt ps (Option.some.inj e).symm) e
theorem _root_.LamB.ne6 {PM a : Addr} {q : Str} {H : Hp} {o : HO} (t : LamX.Tabs [(PM, q)] H) (e : H a = some o) (nt : ∀ ps, o ≠ .tbl ps) : a ≠ PM := fun z => by
  obtain ⟨ps, e1, _⟩ := t (PM, q) (List.mem_singleton.mpr rfl)
  have e1 : H PM = some (.tbl ps) := e1
  rw [← z, e] at e1
  exact nt ps (Option.some.inj e1)
theorem _root_.LamB.tabs6 {PM a : Addr} {q : Str} {H : Hp} {xs : List V} {o : HO} (t : LamX.Tabs [(PM, q)] H) (ha : H a = some (.lst xs)) : LamX.Tabs [(PM, q)] (upd H a o) := fun p hp => by
  obtain ⟨ps, e1, e2, e3⟩ := t p hp
  refine ⟨ps, by rw [upd_ne (fun z => by rw [z, ha] at e1; cases e1)]; exact e1, e2, fun pos cv h => ?_⟩
  obtain ⟨c, e4, e5⟩ := e3 pos cv h
  refine ⟨c, e4, by
    rw [upd_ne (fun z => by
      rw [z, ha] at e5
      have e5 := Option.some.inj e5
      unfold LamX.CodeO at e5
      cases e5)]
    exact e5⟩
theorem TRowE.same {H H' : Hp} {v : V} {e : RowE} (s : Same H H') (h : TRowE H v e) : TRowE H' v e := by
  cases e with
  | ask op ns =>
    obtain ⟨a, t, e1, h1, h2⟩ := h
    exact ⟨a, t, e1, s _ _ h1, s _ _ h2⟩
  | go n =>
    obtain ⟨a, e1, h1⟩ := h
    exact ⟨a, e1, s _ _ h1⟩
  | two w x =>
    obtain ⟨a, e1, h1⟩ := h
    exact ⟨a, e1, s _ _ h1⟩
  | ans n x =>
    obtain ⟨a, e1, h1⟩ := h
    exact ⟨a, e1, s _ _ h1⟩
/-- a row stays what it is where no tuple changes -/
theorem TRowE.go {H H' : Hp} {v : V} {e : RowE} (s : ∀ a xs, H a = some (.tup xs) → H' a = some (.tup xs)) (h : TRowE H v e) : TRowE H' v e := by
  cases e with
  | ask op ns =>
    obtain ⟨a, t, e1, h1, h2⟩ := h
    exact ⟨a, t, e1, s _ _ h1, s _ _ h2⟩
  | go n =>
    obtain ⟨a, e1, h1⟩ := h
    exact ⟨a, e1, s _ _ h1⟩
  | two w x =>
    obtain ⟨a, e1, h1⟩ := h
    exact ⟨a, e1, s _ _ h1⟩
  | ans n x =>
    obtain ⟨a, e1, h1⟩ := h
    exact ⟨a, e1, s _ _ h1⟩
theorem TRowE.ne {H : Hp} {v : V} {e : RowE} (h : TRowE H v e) : v ≠ .non := fun z => by
  cases e with
  | ask op ns =>
    obtain ⟨a, t, e1, h1, h2⟩ := h
    rw [z] at e1
    cases e1
  | go n =>
    obtain ⟨a, e1, h1⟩ := h
    rw [z] at e1
    cases e1
  | two w x =>
    obtain ⟨a, e1, h1⟩ := h
    rw [z] at e1
    cases e1
  | ans n x =>
    obtain ⟨a, e1, h1⟩ := h
    rw [z] at e1
    cases e1
/-- rows told, as they stand -/
def RowsE (H : Hp) (xs : List V) (es : List RowE) : Prop := xs.length = es.length ∧ ∀ (i : Nat) (e : RowE), es[i]? = some e → ∃ x, xs[i]? = some x ∧ TRowE H x e
def OpsAt (ls : List Str) (o : Ops) : Prop := ∃ l, ls[0]? = some l ∧ COk "operations" l ∧ cT "operations" l = some o
def StartAt (ls : List Str) (b : Int) : Prop := ∃ l, ls[1]? = some l ∧ WOk l ∧ sT l = some b
def RowsAt (ls : List Str) (es : List RowE) : Prop := ∀ (i : Nat) (e : RowE), es[i]? = some e → ∃ l, ls[i + 2]? = some l ∧ WOk l ∧ rT (i : Int) l = some e
def Bad0 (ls : List Str) : Prop := ls[0]? = none ∨ ∃ l, ls[0]? = some l ∧ COk "operations" l ∧ cT "operations" l = none
def Bad1 (ls : List Str) : Prop := ls[1]? = none ∨ ∃ l, ls[1]? = some l ∧ WOk l ∧ sT l = none
/-- raised when read_body is done with: the heap as it was, but the lambdas' table -/
def RaisesT (PR C : Addr) (f : Str) (v : V) (H : Hp) (E : XK) : Prop := ∀ d H', H d = none → ButT PR H H' → LamX.Tabs [(PR, qRB)] H' → H' d = some (.xd [(f, v)]) → E (.ref C) (some d) H'
theorem RaisesT.at {PR C : Addr} {f : Str} {v : V} {H H1 : Hp} {E : XK} (t1 : LamX.Tabs [(PR, qRB)] H1) (u : ButT PR H H1) (k : RaisesT PR C f v H E) : RaisesF C f v H1 E := fun d H' nd s' e => k d H' (none_butT u t1 nd) (u.trans (ButT.of s')) (tabs_same t1 s') e
/-- no operations -/
def OpsBad (o : Ops) : Prop := o.length ≤ 1000 ∧ (8 < o.length ∨ (o.length ≤ 8 ∧ (∀ q ∈ o, q.1.length ≤ 1000) ∧ (o.all fun q => isNm q.1 && inW (.int q.2) 0 6) = false))
/-- no row of such operations and so many -/
def BadE (o : Ops) (many : Int) : RowE → Prop
  | .ask op ns => opLook o op = none
  | .two w _ => w ≠ "ask" ∧ w ≠ "end" ∧ w ≠ "go"
  | .go n => many ≤ n
  | .ans _ _ => True
inductive RowsBad (o : Ops) : List RowE → Int → Prop where
  | none : RowsBad o [] (-1)
  | last {rs : List RowD} {e : RowE} (few : rs.length < 400) (ok : ∀ d ∈ rs, OkRow o ((rs.length : Int) + 1) d) (b : BadE o ((rs.length : Int) + 1) e) : RowsBad o (rs.map RowE.of ++ [e]) (rs.length : Int)
/-- behind the head, told rows -/
inductive Tail (CB CM CT CO CR CS PR : Addr) (H : Hp) (ls : List Str) (o : Ops) (b : Int) (es : List RowE) (Q : VK) (E : XK) : Prop where
  | line {l : Str} (h : ls[es.length + 2]? = some l) (ok : WOk l) (n : rT (es.length : Int) l = none) (k : RaisesT PR CT "line" (.int ((es.length : Int) + 3)) H E)
  | ops (n : ls.length = es.length + 2) (bad : OpsBad o) (k : ∀ H', ButT PR H H' → LamX.Tabs [(PR, qRB)] H' → E (.ref CO) none H')
  | rows {m : Int} (n : ls.length = es.length + 2) (ok : OkOps o) (bad : RowsBad o es m) (k : RaisesT PR CR "index" (.int m) H E)
  | start {rs : List RowD} (n : ls.length = es.length + 2) (e : es = rs.map RowE.of) (ok : OkOps o) (lo : 1 ≤ rs.length) (hi : rs.length ≤ 400) (okr : OkRows o rs) (far : (rs.length : Int) ≤ b) (k : RaisesT PR CS "index" (.int b) H E)
  | good {rs : List RowD} {bn : Nat} (n : ls.length = es.length + 2) (e : es = rs.map RowE.of) (eb : b = (bn : Int)) (ok : OkB o rs bn) (k : ∀ v H', ButT PR H H' → LamX.Tabs [(PR, qRB)] H' → Q v H')
inductive ReadC (K : PySem.W.Frag) (CB CM CT CO CR CS PR : Addr) (H : Hp) (v : V) (Q : VK) (E : XK) : Prop where
  | kind {t : String} (b : Bt K H v t) (n : t ≠ "str") (k : RaisesT PR CT "line" (.int (-1)) H E)
  | b0 {x : Str} {ls : List Str} (e : v = .str x) (hl : LinesT x ls) (few : ls.length ≤ 900) (h : Bad0 ls) (k : RaisesT PR CT "line" (.int 1) H E)
  | b1 {x : Str} {ls : List Str} {o : Ops} (e : v = .str x) (hl : LinesT x ls) (few : ls.length ≤ 900) (h0 : OpsAt ls o) (h : Bad1 ls) (k : RaisesT PR CT "line" (.int 2) H E)
  | tail {x : Str} {ls : List Str} {o : Ops} {b : Int} {es : List RowE} (e : v = .str x) (hl : LinesT x ls) (few : ls.length ≤ 900) (h0 : OpsAt ls o) (h1 : StartAt ls b) (r : RowsAt ls es) (t : Tail CB CM CT CO CR CS PR H ls o b es Q E)
def spReadT (K : PySem.W.Frag) (CB CM CT CO CR CS PR : Addr) : Sp := fun vs H Q E => ∃ v : V, vs = [v] ∧ LamX.Tabs [(PR, qRB)] H ∧ ReadC K CB CM CT CO CR CS PR H v Q E
/-- what is no row of the body is no line -/
theorem LineIs.bad {K : PySem.W.Frag} {H : Hp} {v : V} {o : Ops} {many : Int} {e : RowE} (h : TRowE H v e) (b : BadE o many e) : LineIs K H v o many false := by
  cases e with
  | ask op ns =>
    obtain ⟨a, t, rfl, ha, ht⟩ := h
    obtain ⟨tt, bt, _⟩ := btSeq (K := K) (.inr ht : SqA H t (ns.map V.int))
    refine ⟨some [.str "ask", .str op, .ref t], RowIs.of (.inr ha) fun y hy => ?_, .askOp (by
      show (valV (opsK o) (.inr op)).isSome = false
      rw [val_ops, show opLook o op = none from b]
      rfl)⟩
    simp only [List.mem_cons, List.not_mem_nil, or_false] at hy
    rcases hy with rfl | rfl | rfl
    · exact ⟨_, btStr _⟩
    · exact ⟨_, btStr _⟩
    · exact ⟨_, bt⟩
  | two w x =>
    obtain ⟨a, rfl, ha⟩ := h
    refine ⟨some [.str w, .str x], RowIs.of (.inr ha) fun y hy => ?_, .word b.1 b.2.1 b.2.2⟩
    simp only [List.mem_cons, List.not_mem_nil, or_false] at hy
    rcases hy with rfl | rfl <;> exact ⟨_, btStr _⟩
  | go n =>
    obtain ⟨a, rfl, ha⟩ := h
    refine ⟨some [.str "go", .int n], RowIs.of (.inr ha) fun y hy => ?_, ?_⟩
    · simp only [List.mem_cons, List.not_mem_nil, or_false] at hy
      rcases hy with rfl | rfl
      · exact ⟨_, btStr _⟩
      · exact ⟨_, btInt _⟩
    · have := LineC.go (K := K) (H := H) (o := o) (many := many) (y := .int n)
      have b : many ≤ n := b
      rw [show inW (.int n) 0 (many - 1) = false by show (decide ((0 : Int) ≤ n) && decide (n ≤ many - 1)) = false; rw [decide_eq_false (show ¬ n ≤ many - 1 by omega), Bool.and_false]] at this
      exact this
  | ans n x =>
    obtain ⟨a, rfl, ha⟩ := h
    refine ⟨some [.str "answer", .int n, .str x], RowIs.of (.inr ha) fun y hy => ?_, .word (by show ("answer" : Str) ≠ "ask"; decide +kernel) (by show ("answer" : Str) ≠ "end"; decide +kernel) (by show ("answer" : Str) ≠ "go"; decide +kernel)⟩
    simp only [List.mem_cons, List.not_mem_nil, or_false] at hy
    rcases hy with rfl | rfl | rfl
    · exact ⟨_, btStr _⟩
    · exact ⟨_, btInt _⟩
    · exact ⟨_, btStr _⟩
theorem RowsE.rows {H : Hp} {xs : List V} {rs : List RowD} (h : RowsE H xs (rs.map RowE.of)) : Rows H xs rs := ⟨by rw [h.1, List.length_map], fun i d e => by
  obtain ⟨x, h1, h2⟩ := h.2 i (RowE.of d) (by rw [List.getElem?_map, e]; rfl)
  exact ⟨x, h1, h2.of⟩⟩
theorem RowE.bt {K : PySem.W.Frag} {H : Hp} {v : V} {e : RowE} (h : TRowE H v e) : ∃ u, Bt K H v u := by
  cases e with
  | ask op ns =>
    obtain ⟨a, t, rfl, h1, h2⟩ := h
    obtain ⟨u, b, _⟩ := btSeq (K := K) (.inr h1 : SqA H a _)
    exact ⟨u, b⟩
  | go n =>
    obtain ⟨a, rfl, h1⟩ := h
    obtain ⟨u, b, _⟩ := btSeq (K := K) (.inr h1 : SqA H a _)
    exact ⟨u, b⟩
  | two w x =>
    obtain ⟨a, rfl, h1⟩ := h
    obtain ⟨u, b, _⟩ := btSeq (K := K) (.inr h1 : SqA H a _)
    exact ⟨u, b⟩
  | ans n x =>
    obtain ⟨a, rfl, h1⟩ := h
    obtain ⟨u, b, _⟩ := btSeq (K := K) (.inr h1 : SqA H a _)
    exact ⟨u, b⟩
theorem RowsE.bad {K : PySem.W.Frag} {H : Hp} {R : Addr} {xs : List V} {es : List RowE} {o : Ops} {m : Int} (hR : H R = some (.lst xs)) (h : RowsE H xs es) (b : RowsBad o es m) : ReadBad K H (.ref R) o m := by
  have each : ∀ y ∈ xs, ∃ u, Bt K H y u := fun y hy => by
    obtain ⟨i, hi⟩ := List.mem_iff_getElem?.mp hy
    have hl := (List.getElem?_eq_some_iff.mp hi).1
    rw [h.1] at hl
    obtain ⟨x, h1, h2⟩ := h.2 i _ (List.getElem?_eq_getElem hl)
    rw [hi] at h1
    rw [Option.some.inj h1]
    exact RowE.bt h2
  have row := RowIs.of (K := K) (.inl hR : SqA H R xs) each
  cases b with
  | none => exact .inl ⟨rfl, .inr ⟨xs, row, .inl h.1⟩⟩
  | @last rs e few ok be =>
    have lx : xs.length = rs.length + 1 := by rw [h.1, List.length_append, List.length_map]; rfl
    obtain ⟨x, h1, h2⟩ := h.2 rs.length e (by rw [List.getElem?_append_right (by rw [List.length_map]; exact Nat.le_refl _), List.length_map, Nat.sub_self]; rfl)
    refine .inr ⟨xs, rs.length, x, rfl, row, by omega, by omega, h1, LineIs.bad h2 (by rw [lx]; exact be), fun j y hj ey => ?_⟩
    obtain ⟨x2, h3, h4⟩ := h.2 j (RowE.of rs[j]) (by rw [List.getElem?_append_left (by rw [List.length_map]; exact hj), List.getElem?_map, List.getElem?_eq_getElem hj]; rfl)
    rw [ey] at h3
    rw [Option.some.inj h3]
    exact LineIs.right h4.of.row (by rw [lx]; exact ok _ (List.getElem_mem hj))
theorem OpsBad.counts {K : PySem.W.Frag} {H : Hp} {d : Addr} {o : Ops} (h : H d = some (.dK (opsK o))) (bad : OpsBad o) : CountsIs K H (.ref d) 8 0 6 false := by
  refine .inr (.inl ⟨d, opsK o, rfl, h, ?_⟩)
  have lk : ((opsK o).map fun p => ((kV p.1, p.2) : V × V)).length = o.length := by rw [List.length_map]; exact List.length_map ..
  have each : ∀ p ∈ (opsK o).map (fun p => ((kV p.1, p.2) : V × V)), ∃ q ∈ o, p = (.str q.1, .int q.2) := fun p hp => by
    obtain ⟨r, hr, rfl⟩ := List.mem_map.mp hp
    obtain ⟨q, hq, rfl⟩ := List.mem_map.mp hr
    exact ⟨q, hq, rfl⟩
  obtain ⟨few, hb⟩ := bad
  refine ⟨by omega, ?_⟩
  rcases hb with hb | ⟨h8, ls, hb⟩
  · exact .inl ⟨by omega, rfl⟩
  · refine .inr ⟨by omega, fun p hp => ?_, ?_⟩
    · obtain ⟨q, hq, rfl⟩ := each p hp
      refine ⟨.val fun H' => btStr _, .val fun H' => btInt _, fun x e => ?_⟩
      have e2 : q.1 = x := V.str.inj e
      rw [← e2, sizeLine_eq]
      have := ls q hq
      omega
    · rw [← hb]
      unfold entsV
      show _ = ((o.map fun p => ((Sum.inr p.1, V.int p.2) : Key × V)).map fun p => ((kV p.1, p.2) : V × V)).all _
      rw [List.map_map, List.all_map]
      rfl
end Mine

set_option maxRecDepth 100000
set_option maxHeartbeats 4000000
namespace Mine
open PySem L2 TL LamB
section
variable {P : Program} {w : World} {K : PySem.W.Frag} {mg : Str → Option Value} {base : Heap}
variable {fII fIW CB CM CT CO CR CS PR cR fB a_lines_of a_told_at a_nos a_counts_told a_row_told : Addr}
theorem sc_read_body : FnScope ["text", "lines", "counts", "start", "rows", "place"] ["text"] (defScope s_read_body) := ⟨rfl, rfl, rfl, by decide +kernel, rfl, by decide +kernel, by decide +kernel⟩

theorem rb_nd : ((cellsFrom 0 (defScope s_read_body).names []).map (·.1)).Nodup := by decide +kernel
theorem ok_read_bodyX {f : Addr} {fd fd_lines_of fd_told_at fd_nos fd_counts_told fd_row_told fdB : FuncData} (F : FunC K "read_body" "read_body" s_read_body f fd cR) (T : TxtF K mg fII fIW) (h_range : mg "range" = none)
    (MB : Mk K CB fB) (GB : FnOk P w K mg base CX0 7 fB fdB PB (spBody CB CM)) (GBX : FnOk P w K mg base (L2.CX P w) 7 fB fdB PB (spBodyX K CO CR CS)) (kB : KBn K fdB PB (2 + 1) KS (fun us ws => us ++ ws) (fun vs zs => vs ++ zs)) (g_Body : mg "Body" = some (.ref CB)) (TBm : LamX.TabB base mg cR PR)
    (G_lines_of : FnOk P w K mg base (L2.CX P w) 3 a_lines_of fd_lines_of ["text"] (spLinesX K CT)) (b_lines_of : Binds K fd_lines_of ["text"] []) (g_lines_of : mg "lines_of" = some (.ref a_lines_of)) (k_lines_of : PySem.W.keepIn K (.ref a_lines_of) = true)
    (GT : ∀ B, LamB.Up base B → FnOk P w K mg B (L2.CX P w) 4 a_told_at fd_told_at ["lines", "place", "told"] (spToldX P w K mg CT B 3)) (b_told_at : Binds K fd_told_at ["lines", "place", "told"] []) (g_told_at : mg "told_at" = some (.ref a_told_at)) (k_told_at : PySem.W.keepIn K (.ref a_told_at) = true)
    (FN : Fun K "number_of_start" "number_of_start" s_number_of_start a_nos fd_nos) (G_nos : FnOk P w K mg base CX0 2 a_nos fd_nos ["line"] spStartT) (b_nos : Binds K fd_nos ["line"] []) (g_nos : mg "number_of_start" = some (.ref a_nos))
    (G_counts_told : FnOk P w K mg base CX0 2 a_counts_told fd_counts_told ["line", "word"] spCountsT) (b_counts_told : Binds K fd_counts_told ["line", "word"] []) (g_counts_told : mg "counts_told" = some (.ref a_counts_told)) (k_counts_told : PySem.W.keepIn K (.ref a_counts_told) = true)
    (G_row_told : FnOk P w K mg base CX0 2 a_row_told fd_row_told ["line", "index"] spRowT) (b_row_told : Binds K fd_row_told ["line", "index"] []) (g_row_told : mg "row_told" = some (.ref a_row_told)) (k_row_told : PySem.W.keepIn K (.ref a_row_told) = true) :
    FnOk P w K mg base (L2.CX P w) 9 f fd ["text"] (spReadT K CB CM CT CO CR CS PR) := by
  refine F.okX sc_read_body (fun vs H Q E h => ?_) (fun A outer s H vs Q E hr h => ?_)
  · obtain ⟨v, rfl, _⟩ := h
    rfl
  · obtain ⟨v, rfl, tabs, h⟩ := h
    have told : Told (cxOf (L2.CX P w) P w K mg base ["text", "lines", "counts", "start", "rows", "place"] "read_body" (defScope s_read_body) f (.ref cR) A outer s H E) := told_own (n := s.heap.objs.size + 1) rfl rb_nd
    refine ⟨_, pss_ok (fun h0 => (pss_cons (ps_set (i := 1) sc_read_body.nd rfl (Or.inl rfl) (pe_call G_lines_of (hr.mono (by decide)) (by rfl) g_lines_of k_lines_of b_lines_of .nil (passes_call (takes_of rfl rfl rfl rfl) (fun _ _ _ _ h => h)) (pa_cons (pv 0) pa_nil)))
      (pss_cons (ps_set (i := 2) sc_read_body.nd rfl (Or.inl rfl) (pe_callGr (far_ex h0 told (fun _ => rfl) rfl rfl) told GT (hr.mono (by decide)) (by rfl) g_told_at k_told_at b_told_at (passes_call (takes_of rfl rfl rfl rfl) (fun _ _ _ _ h => h)) (pa_cons (pv 1) (pa_cons pe_int (pa_cons (pe_lamV (T := [(PR, qRB)]) TBm rfl (List.mem_singleton.mpr rfl) (fun p hp _ => by rw [List.mem_singleton.mp hp]; rfl) (NdefX.ndef_free (sc := defScope s_read_body) (fr := []) (by decide +kernel)) rfl) pa_nil)))))
      (pss_cons (ps_set (i := 3) sc_read_body.nd rfl (Or.inl rfl) (pe_callGr (far_ex h0 told (fun _ => rfl) rfl rfl) told GT (hr.mono (by decide)) (by rfl) g_told_at k_told_at b_told_at (passes_call (takes_of rfl rfl rfl rfl) (fun _ _ _ _ h => h)) (pa_cons (pv 1) (pa_cons pe_int (pa_cons (pe_glob (v := .ref a_nos) rfl g_nos rfl) pa_nil)))))
      (pss_cons (ps_set (i := 4) sc_read_body.nd rfl (Or.inr rfl) (pe_lstG pa_nil))
      (pss_cons (ps_for (passes_of rfl) rfl (pi_range2 (by rfl) h_range (pa_cons pe_int (pa_cons (pe_callB call_len_seq (by rfl) T.b_len PySem.boot_len (pa_cons (pv 1) pa_nil)) pa_nil))) (pg_name (i := 5) sc_read_body.nd rfl (Or.inl rfl)) (pss_one (ps_expr (pe_bm PySem.F.plainAttrs_list PySem.F.slot_list_append PySem.F.type_list_append mt_append (pv 4) (pa_cons (pe_callGr (far_ex h0 told (fun _ => rfl) rfl rfl) told GT (hr.mono (by decide)) (by rfl) g_told_at k_told_at b_told_at (passes_call (takes_of rfl rfl rfl rfl) (fun _ _ _ _ h => h)) (pa_cons (pv 1) (pa_cons (pv 5) (pa_cons (pe_lamV (T := [(PR, qRB)]) TBm rfl (List.mem_singleton.mpr rfl) (fun p hp _ => by rw [List.mem_singleton.mp hp]; rfl) (NdefX.ndef_free (sc := defScope s_read_body) (fr := []) (by decide +kernel)) rfl) pa_nil)))) pa_nil)))))
      (pss_one (ps_ret (pe_orE (pe_makeK (E := E) MB GBX (hr.mono (by decide)) (by rfl) g_Body kB (passes_call (takes_of rfl rfl rfl rfl) (fun _ _ _ _ h => h)) (pa_cons (pv 2) (pa_cons (pv 4) pa_nil)) (pk_cons (pv 3) pk_nil)) (pe_body MB GB (hr.mono (by decide)) (by rfl) g_Body kB (pa_cons (pv 2) (pa_cons (pv 4) pa_nil)) (pk_cons (pv 3) pk_nil))))))))))), ?_⟩
    by_cases hk : ∃ t : String, Bt K H v t ∧ t ≠ "str" ∧ RaisesT PR CT "line" (.int (-1)) H E
    · obtain ⟨t, b, n, k⟩ := hk
      exact ⟨_, rfl, v, rfl, .inr ⟨t, b, n, k.at tabs (ButT.refl _ _)⟩⟩
    obtain ⟨x, ls, rfl, hx, few, rest⟩ : ∃ (x : Str) (ls : List Str), v = .str x ∧ LinesT x ls ∧ ls.length ≤ 900 ∧ ((Bad0 ls ∧ RaisesT PR CT "line" (.int 1) H E) ∨ ∃ o, OpsAt ls o ∧ ((Bad1 ls ∧ RaisesT PR CT "line" (.int 2) H E) ∨ ∃ b es, StartAt ls b ∧ RowsAt ls es ∧ Tail CB CM CT CO CR CS PR H ls o b es Q E)) := by
      cases h with
      | kind b n k => exact absurd ⟨_, b, n, k⟩ hk
      | b0 e hl few h k => exact ⟨_, _, e, hl, few, .inl ⟨h, k⟩⟩
      | b1 e hl few h0 h k => exact ⟨_, _, e, hl, few, .inr ⟨_, h0, .inl ⟨h, k⟩⟩⟩
      | tail e hl few h0 h1 r t => exact ⟨_, _, e, hl, few, .inr ⟨_, h0, .inr ⟨_, _, h1, r, t⟩⟩⟩
    refine ⟨_, rfl, _, rfl, .inl ⟨x, ls, rfl, hx, fun L X1 n1 s1 e1 => ?_⟩⟩
    have t1 := tabs_same tabs s1
    refine ⟨_, rfl, t1, fun f1 c1 X2 u2 t2 nf1 l1 m1 => ?_⟩
    have e2 := LamB.go6 u2 t1 e1 nofun
    have u02 : ButT PR H X2 := ButT.trans (ButT.of s1) u2
    refine fun B up md cb => ?_
    obtain ⟨G1, g1, act1⟩ := acts_mk (k := 2) (CX := CX0) (N := ["line"]) (ps := ["line"]) (fr := []) (js := []) (n := 1) l1 m1 cb (NdefX.nscope_by (by decide +kernel)) (NdefX.ndef_free (sc := defScope s_read_body) (fr := []) (by decide +kernel)) (by decide +kernel) rfl rfl (fun doc pm ctv s9 us hu => match us, hu with | [u], _ => BindsTo.of_eq rfl)
        (fun A9 outer9 s9 H9 E9 hr9 => pe_call (FnOk_up G_counts_told up md) (hr9.mono (by decide)) (by rfl) g_counts_told k_counts_told b_counts_told .nil pass0 (pa_cons (pv 0) (pa_cons pe_str pa_nil)))
    refine ⟨L, f1, ls, 0, rfl, e2, ?_⟩
    rcases rest with ⟨hb, kE⟩ | ⟨o, ⟨l0, hl0, c0, ct0⟩, rest⟩
    · rcases hb with hn | ⟨l, hl, ck, ct⟩
      · exact .inl ⟨hn, kE.at t2 u02⟩
      · refine .inr ⟨l, G1, _, hl, act1, g1, fun Q2 hQ hN => ⟨rfl, _, rfl, "operations", l, rfl, ck, ?_⟩⟩
        rw [ct]
        exact fun H' s' => hN H' (kE.at (tabs_same t2 s') (u02.trans (ButT.of s')))
    refine .inr ⟨l0, G1, _, hl0, act1, g1, fun Q2 hQ hN => ⟨rfl, _, rfl, "operations", l0, rfl, c0, ?_⟩⟩
    rw [ct0]
    refine fun D X3 n3 s3 e3 => hQ _ _ (fun z => nomatch z) ?_
    have e3L := s3 _ _ e2
    have t3 := tabs_same t2 s3
    have u3 : ButT PR X1 X3 := ButT.trans u2 (ButT.of s3)
    refine ⟨_, rfl, fun B2 up2 md2 cb2 => ⟨L, a_nos, ls, 1, rfl, e3L, ?_⟩⟩
    rcases rest with ⟨hb, kE⟩ | ⟨b, es, ⟨l1', hl1, w1, st1⟩, rows, tail⟩
    · rcases hb with hn | ⟨l, hl, wk, st⟩
      · exact .inl ⟨hn, kE.at t3 (ButT.trans (ButT.of s1) u3)⟩
      · refine .inr ⟨l, fun _ => True, spStartT, hl, acts2_fun FN (FnOk_up (G_nos.mono (by decide)) up2 md2) b_nos, trivial, fun Q3 hQ3 hN3 => ⟨l, rfl, wk, ?_⟩⟩
        rw [st]
        exact fun H' s' => hN3 H' (kE.at (tabs_same t3 s') (ButT.trans (ButT.of s1) (u3.trans (ButT.of s'))))
    refine .inr ⟨l1', fun _ => True, spStartT, hl1, acts2_fun FN (FnOk_up (G_nos.mono (by decide)) up2 md2) b_nos, trivial, fun Q3 hQ3 hN3 => ⟨l1', rfl, w1, ?_⟩⟩
    rw [st1]
    refine fun X4 s4 => hQ3 _ _ (fun z => nomatch z) ?_
    have t4 := tabs_same t3 s4
    refine ⟨by show 0 ≤ sizeLine; decide, fun R X5 n5 s5 e5 => ?_⟩
    have t5 := tabs_same t4 s5
    have e5L := s5 _ _ (s4 _ _ e3L)
    have e5D := s5 _ _ (s4 _ _ e3)
    have u5 : ButT PR X1 X5 := ButT.trans u3 (ButT.of (s4.trans s5))
    have LR : L ≠ R := fun z => by rw [z] at e5L; have := e5.symm.trans e5L; have h2 := (List.getElem?_eq_some_iff.mp hl0).1; cases ls with | nil => exact absurd h2 (by decide) | cons a r => cases this
    have DR : D ≠ R := fun z => by rw [z, e5] at e5D; cases e5D
    have nR : X1 R = none := none_butT (ButT.trans u3 (ButT.of s4)) t4 n5
    have two : 2 ≤ ls.length := (List.getElem?_eq_some_iff.mp hl1).1
    refine ⟨_, rfl, L, _, rfl, .inl (SqL.of e5L), 2, _, rfl, ⟨by decide, by decide, by rw [List.length_map]; omega, by rw [List.length_map]; omega⟩, ?_⟩
    have en : ((((ls).map V.str).length : Nat) - (2 : Int)).toNat = ls.length - 2 := by rw [List.length_map]; omega
    rw [en]
    have esl : es.length + 2 ≤ ls.length := by
      cases es with
      | nil => exact two
      | cons e r =>
        have hj : (e :: r)[r.length]? = some (e :: r)[r.length] := List.getElem?_eq_getElem (by simp)
        obtain ⟨l, h1, _⟩ := rows _ _ hj
        have := (List.getElem?_eq_some_iff.mp h1).1
        show r.length + 1 + 2 ≤ _
        omega
    have LP : L ≠ PR := LamB.ne6 t5 e5L nofun
    have upH : ∀ {Hz : Hp}, (∀ a u, a ≠ PR → a ≠ R → X5 a = some u → Hz a = some u) → ButT PR H Hz := fun kp a u nP e => by
      have e1 := s1 _ _ e
      exact kp a u nP (fun z => by rw [z, nR] at e1; cases e1) (u5 a u nP e1)
    refine for_range (lo := 2) (n := ls.length - 2) (fun j σ Hx => j ≤ es.length ∧ ∃ v5, σ = [some (.str x), some (.ref L), some (.ref D), some (.int b), some (.ref R), v5] ∧ LamX.Tabs [(PR, qRB)] Hx ∧ (∀ a u, a ≠ PR → a ≠ R → X5 a = some u → Hx a = some u) ∧ ∃ xs, Hx R = some (.lst xs) ∧ RowsE Hx xs (es.take j)) ⟨Nat.zero_le _, _, rfl, t5, fun _ _ _ _ e => e, [], e5, rfl, fun i d e => by simp at e⟩ ?_ ?_
    · rintro j σ Hz hj ⟨hle, v5, rfl, tz, kp, xs, ez, rz⟩
      have ezL := kp _ _ LP LR e5L
      have lx : xs.length = j := by rw [rz.1, List.length_take]; omega
      have us := upH kp
      refine ⟨_, rfl, .inl ⟨rfl, _, SqL.of ez⟩, _, rfl, _, rfl, tz, fun f3 c3 X7 u7 t7 nf3 l3 m3 => ?_⟩
      refine fun B3 up3 md3 cb3 => ?_
      obtain ⟨G3, g3, act3⟩ := acts_mk (k := 2) (CX := CX0) (N := ["line", "rows"]) (ps := ["line"]) (fr := ["rows"]) (js := [4]) (n := 1) l3 m3 cb3 (NdefX.nscope_by (by decide +kernel)) (NdefX.ndef_free (sc := defScope s_read_body) (fr := []) (by decide +kernel)) (by decide +kernel) rfl rfl (fun doc pm ctv s9 us hu => match us, hu with | [u], _ => BindsTo.of_eq rfl)
        (fun A9 outer9 s9 H9 E9 hr9 => pe_call (FnOk_up G_row_told up3 md3) (hr9.mono (by decide)) (by rfl) g_row_told k_row_told b_row_told .nil pass0 (pa_cons (pv 0) (pa_cons (pe_callB (show CallR _ (.builtin "len") (rLenS K) from call_len_seq) (by rfl) T.b_len PySem.boot_len (pa_cons (pv 1) pa_nil)) pa_nil)))
      have ezL7 := LamB.go6 u7 tz ezL nofun
      have ez7 := LamB.go6 u7 tz ez nofun
      have sj : Small (j : Int) := ⟨by omega, by omega⟩
      have ej2 : (2 : Int) + (j : Int) = ((j + 2 : Nat) : Int) := by omega
      by_cases hlt : j < es.length
      · have ej : es[j]? = some es[j] := List.getElem?_eq_getElem hlt
        generalize es[j] = e at ej
        obtain ⟨l, hl, wl, rt⟩ := rows j e ej
        refine ⟨L, f3, ls, j + 2, by rw [ej2], ezL7, .inr ⟨l, G3, _, hl, act3, g3, fun Q4 hQ4 hN4 => ⟨rfl, _, rfl, _, rfl, R, _, rfl, .inl (SqL.of ez7), l, (j : Int), by rw [lx]; rfl, sj, wl, ?_⟩⟩⟩
        rw [rt]
        refine fun v X8 s8 tr => hQ4 _ _ tr.ne ?_
        have ez8 := s8 _ _ ez7
        refine ⟨R, xs, v, rfl, rfl, ez8, by rw [lx, sizeLine_eq]; omega, ⟨hlt, _, rfl, LamB.tabs6 (tabs_same t7 s8) ez8, fun a u nP nR' e => ?_, xs ++ [v], upd_same, ?_⟩⟩
        · rw [upd_ne nR']
          exact s8 _ _ (u7 a u nP (kp a u nP nR' e))
        · have tupR : ∀ a ys, X8 a = some (.tup ys) → upd X8 R (.lst (xs ++ [v])) a = some (.tup ys) := fun a ys h => by
            rw [upd_ne (fun z => by rw [z, ez8] at h; cases h)]
            exact h
          refine ⟨by rw [List.length_append, lx, List.length_take]; show j + 1 = _; omega, fun i e2 he => ?_⟩
          by_cases hij : i < j
          · have h2 : (es.take j)[i]? = some e2 := by
              rw [List.getElem?_take, if_pos hij]
              rw [List.getElem?_take, if_pos (by omega)] at he
              exact he
            obtain ⟨x2, h3, h4⟩ := rz.2 i e2 h2
            exact ⟨x2, by rw [List.getElem?_append_left (by omega)]; exact h3, h4.go fun a ys h => tupR a ys (s8 _ _ (LamB.go6 u7 tz h nofun))⟩
          · have hi2 := (List.getElem?_eq_some_iff.mp he).1
            rw [List.length_take] at hi2
            have e3 : i = j := by omega
            subst e3
            rw [List.getElem?_take, if_pos (by omega), ej] at he
            have he := Option.some.inj he
            subst he
            exact ⟨v, by rw [List.getElem?_append_right (by omega), lx, Nat.sub_self]; rfl, tr.go tupR⟩
      · have ej : j = es.length := by omega
        cases tail with
        | line h ok n k =>
          rename_i l
          refine ⟨L, f3, ls, j + 2, by rw [ej2], ezL7, .inr ⟨l, G3, _, by rw [ej]; exact h, act3, g3, fun Q4 hQ4 hN4 => ⟨rfl, _, rfl, _, rfl, R, _, rfl, .inl (SqL.of ez7), l, (j : Int), by rw [lx]; rfl, sj, ok, ?_⟩⟩⟩
          rw [ej, n]
          refine fun X8 s8 => hN4 X8 ?_
          have z := k.at (tabs_same t7 s8) (us.trans (u7.trans (ButT.of s8)))
          rw [show ((j + 2 : Nat) : Int) + 1 = (es.length : Int) + 3 by omega]
          exact z
        | ops n bad k => omega
        | rows n ok bad k => omega
        | start n e ok lo hi okr far k => omega
        | good n e eb ok k => omega
    · rintro σ Hz ⟨hle, v5, rfl, tz, kp, xs, ez, rz⟩
      have us := upH kp
      have ezD := kp D _ (LamB.ne6 t5 e5D nofun) DR e5D
      have eN : ls.length = es.length + 2 := by omega
      rw [eN] at rz
      rw [show es.length + 2 - 2 = es.length by omega, List.take_length] at rz
      cases tail with
      | line h ok n k =>
        have := (List.getElem?_eq_some_iff.mp h).1
        omega
      | ops n bad k =>
        refine .inl ⟨_, rfl, _, rfl, _, rfl, rfl, rfl, fun bd dx nx nd ne => ?_⟩
        have sm : Same Hz (upd (upd Hz dx (.own bd)) bd (.ins CB dx [])) := same_updN (same_updN (Same.refl _) nd) nx
        exact ⟨bd, .ref D, .ref R, .int b, rfl, .ops ((bad.counts ezD).same sm) fun H' s' => k H' (us.trans (ButT.of (sm.trans s'))) (tabs_same tz (sm.trans s'))⟩
      | rows n ok bad k =>
        refine .inl ⟨_, rfl, _, rfl, _, rfl, rfl, rfl, fun bd dx nx nd ne => ?_⟩
        have sm : Same Hz (upd (upd Hz dx (.own bd)) bd (.ins CB dx [])) := same_updN (same_updN (Same.refl _) nd) nx
        exact ⟨bd, .ref D, .ref R, .int b, rfl, .rows rfl (sm _ _ ezD) ok ((rz.bad ez bad).same sm) (k.at (tabs_same tz sm) (us.trans (ButT.of sm)))⟩
      | start n e ok lo hi okr far k =>
        rename_i rs
        subst e
        refine .inl ⟨_, rfl, _, rfl, _, rfl, rfl, rfl, fun bd dx nx nd ne => ?_⟩
        have sm : Same Hz (upd (upd Hz dx (.own bd)) bd (.ins CB dx [])) := same_updN (same_updN (Same.refl _) nd) nx
        refine ⟨bd, .ref D, .ref R, .int b, rfl, .start rfl (sm _ _ ezD) ok rfl (.inl (sm _ _ ez)) (rz.rows.inn.same sm) lo hi okr (btInt b) ?_ (k.at (tabs_same tz sm) (us.trans (ButT.of sm)))⟩
        show (decide ((0 : Int) ≤ b) && decide (b ≤ (rs.length : Int) - 1)) = false
        rw [decide_eq_false (show ¬ b ≤ (rs.length : Int) - 1 by omega), Bool.and_false]
      | good n e eb ok k =>
        rename_i rs bn
        subst e
        refine .inr ⟨_, rfl, _, rfl, _, rfl, D, R, xs, rs, o, bn, rfl, by rw [eb], ezD, .inl ez, rz.rows.inn, ok, fun bd X9 nb s9 BN => ?_⟩
        exact k _ X9 (us.trans (ButT.of s9)) (tabs_same tz s9)
end
end Mine

set_option maxRecDepth 100000
set_option maxHeartbeats 4000000
namespace Mine
open PySem L2 TL LamB
abbrev s_said : Stmt := top 59
/-- the classes of errors: which is which -/
structure KitT (K : PySem.W.Frag) (C CT CR CS CO : Addr) (t r s o : Bool) : Prop where
  ex : ExcC K C
  t : PySem.W.kitOne K (.ref C) (.ref CT) = some t
  r : PySem.W.kitOne K (.ref C) (.ref CR) = some r
  s : PySem.W.kitOne K (.ref C) (.ref CS) = some s
  o : PySem.W.kitOne K (.ref C) (.ref CO) = some o
/-- what is answered when an error is caught -/
def EOut (CT CR CS CO : Addr) (Q : VK) : XK := fun cls d H =>
  (∃ (C : Addr) (f wd : Str) (dd : Addr) (m : Int), ((C = CT ∧ f = "line" ∧ wd = "line") ∨ (C = CR ∧ f = "index" ∧ wd = "body") ∨ (C = CS ∧ f = "index" ∧ wd = "start")) ∧ cls = .ref C ∧ d = some dd ∧ H dd = some (.xd [(f, .int m)]) ∧ ∀ u H2, Same H H2 → H u = none → H2 u = some (.tup [.str wd, .int m]) → Q (.ref u) H2) ∨
  (cls = .ref CO ∧ d = none ∧ ∀ H2, Same H H2 → Q (.str "operations") H2)
theorem Tail.mono {CB CM CT CO CR CS PR : Addr} {H : Hp} {ls : List Str} {o : Ops} {b : Int} {es : List RowE} {Q Q' : VK} {E E' : XK} (hQ : ∀ v H, Q v H → Q' v H) (hE : ∀ c d H, E c d H → E' c d H) (h : Tail CB CM CT CO CR CS PR H ls o b es Q E) : Tail CB CM CT CO CR CS PR H ls o b es Q' E' := by
  have kk : ∀ {C : Addr} {f : Str} {v : V}, RaisesT PR C f v H E → RaisesT PR C f v H E' := fun k d H' n u t e => hE _ _ _ (k d H' n u t e)
  cases h with
  | line h ok n k => exact .line h ok n (kk k)
  | ops n bad k => exact .ops n bad fun H' u t => hE _ _ _ (k H' u t)
  | rows n ok bad k => exact .rows n ok bad (kk k)
  | start n e ok lo hi okr far k => exact .start n e ok lo hi okr far (kk k)
  | good n e eb ok k => exact .good n e eb ok fun v H' u t => hQ _ _ (k v H' u t)
theorem ReadC.mono {K : PySem.W.Frag} {CB CM CT CO CR CS PR : Addr} {H : Hp} {v : V} {Q Q' : VK} {E E' : XK} (hQ : ∀ v H, Q v H → Q' v H) (hE : ∀ c d H, E c d H → E' c d H) (h : ReadC K CB CM CT CO CR CS PR H v Q E) : ReadC K CB CM CT CO CR CS PR H v Q' E' := by
  have kk : ∀ {C : Addr} {f : Str} {v : V}, RaisesT PR C f v H E → RaisesT PR C f v H E' := fun k d H' n u t e => hE _ _ _ (k d H' n u t e)
  cases h with
  | kind b n k => exact .kind b n (kk k)
  | b0 e hl few h k => exact .b0 e hl few h (kk k)
  | b1 e hl few h0 h k => exact .b1 e hl few h0 h (kk k)
  | tail e hl few h0 h1 r t => exact .tail e hl few h0 h1 r (t.mono hQ hE)
def spSaidT (K : PySem.W.Frag) (CB CM CT CO CR CS PR : Addr) : Sp := fun vs H Q _ => ∃ v : V, vs = [v] ∧ LamX.Tabs [(PR, qRB)] H ∧ ReadC K CB CM CT CO CR CS PR H v (fun _ H' => Q (.str "read") H') (EOut CT CR CS CO Q)
section
variable {P : Program} {w : World} {K : PySem.W.Frag} {mg : Str → Option Value} {base : Heap}
variable {fII fIW CB CM CT CO CR CS CA PR a_read : Addr}
theorem sc__law_said : FnScope ["_law_text", "e"] ["_law_text"] (defScope s_said) := ⟨rfl, rfl, rfl, by decide +kernel, rfl, by decide +kernel, by decide +kernel⟩

theorem ok_saidT {f : Addr} {fd fd_read : FuncData} (F : Fun K "_law_said" "_law_said" s_said f fd) (T : TxtF K mg fII fIW)
    (G_read_body : FnOk P w K mg base (L2.CX P w) 9 a_read fd_read ["text"] (spReadT K CB CM CT CO CR CS PR)) (b_read_body : Binds K fd_read ["text"] []) (g_read_body : mg "read_body" = some (.ref a_read)) (k_read_body : PySem.W.keepIn K (.ref a_read) = true)
    (g_AskError : mg "AskError" = some (.ref CA)) (g_BadOperations : mg "BadOperations" = some (.ref CO)) (g_BadBody : mg "BadBody" = some (.ref CR)) (g_BadStart : mg "BadStart" = some (.ref CS)) (g_NoText : mg "NoText" = some (.ref CT))
    (eO : PySem.W.exmOne K (.ref CO) (.ref CA) = some true) (eR : PySem.W.exmOne K (.ref CR) (.ref CA) = some true) (eS : PySem.W.exmOne K (.ref CS) (.ref CA) = some true) (eT : PySem.W.exmOne K (.ref CT) (.ref CA) = some true)
    (kT : KitT K CT CT CR CS CO true false false false) (kR : KitT K CR CT CR CS CO false true false false) (kS : KitT K CS CT CR CS CO false false true false) (kO : KitT K CO CT CR CS CO false false false true)
    (XT : XfC K CT) (nT : PySem.W.findIn K (.ref CT) "line" = some none) (XR : XfC K CR) (nR : PySem.W.findIn K (.ref CR) "index" = some none) (XS : XfC K CS) (nS : PySem.W.findIn K (.ref CS) "index" = some none) :
    FnOk P w K mg base CX0 10 f fd ["_law_text"] (spSaidT K CB CM CT CO CR CS PR) := by
  refine F.ok sc__law_said (fun vs H Q E h => ?_) (fun cdv A outer s H vs Q E hr h => ?_)
  · obtain ⟨v, rfl, _⟩ := h
    rfl
  · obtain ⟨v, rfl, tabs, h⟩ := h
    refine ⟨_, (pss_one (ps_try_as (i := 1) rfl rfl sc__law_said.nd rfl rfl ⟨rfl, by decide, .inl g_AskError⟩ takesNo
      (fun W pn xe tk _ => pss_cons (ps_expr (pe_callS G_read_body (hr.mono (by decide)) (by rfl) g_read_body k_read_body b_read_body (fun σ => passAt tk σ) (pa_cons (pv 0) pa_nil))) (pss_one (ps_ret pe_str)))
      (fun a oe cls d pn hz hf => (pss_cons (ps_if (pt_val (pe_callB (call_isE3 hz hf) (by rfl) T.b_isinstance (by decide +kernel) (pa_cons (pv 1) (pa_cons (pe_glob (v := .ref CT) rfl g_NoText rfl) pa_nil)))) (pss_one (ps_ret (pe_tupG (pa_cons pe_str (pa_cons (pe_xf XT nT hz hf (pv 1)) pa_nil))))) pss_nil)
      (pss_cons (ps_if (pt_val (pe_callB (call_isE3 hz hf) (by rfl) T.b_isinstance (by decide +kernel) (pa_cons (pv 1) (pa_cons (pe_glob (v := .ref CR) rfl g_BadBody rfl) pa_nil)))) (pss_one (ps_ret (pe_tupG (pa_cons pe_str (pa_cons (pe_xf XR nR hz hf (pv 1)) pa_nil))))) pss_nil)
      (pss_cons (ps_if (pt_val (pe_callB (call_isE3 hz hf) (by rfl) T.b_isinstance (by decide +kernel) (pa_cons (pv 1) (pa_cons (pe_glob (v := .ref CS) rfl g_BadStart rfl) pa_nil)))) (pss_one (ps_ret (pe_tupG (pa_cons pe_str (pa_cons (pe_xf XS nS hz hf (pv 1)) pa_nil))))) pss_nil)
      (pss_one (ps_ret (pe_ifExp (pt_val (pe_callB (call_isE3 hz hf) (by rfl) T.b_isinstance (by decide +kernel) (pa_cons (pv 1) (pa_cons (pe_glob (v := .ref CO) rfl g_BadOperations rfl) pa_nil)))) pe_str pe_str))))))))), ?_⟩
    refine ⟨_, rfl, v, rfl, tabs, h.mono (fun v H' q => q) (fun cls d H' z => ?_)⟩
    rcases z with ⟨C, f, wd, dd, m, hc, rfl, rfl, ed, k⟩ | ⟨rfl, rfl, k⟩
    · rcases hc with ⟨rfl, rfl, rfl⟩ | ⟨rfl, rfl, rfl⟩ | ⟨rfl, rfl, rfl⟩
      · refine ⟨true, eT, fun _ a ha => ?_, fun q => nomatch q⟩
        refine ⟨_, rfl, C, _, _, _, rfl, rfl, kT.ex, .inr ⟨_, _, rfl, ed⟩, .own C, kT.t, _, rfl, ?_⟩
        refine iteT ?_
        exact ⟨_, rfl, rfl, rfl, dd, _, .int m, rfl, ed, by simp [List.lookup], (by show 2 ≤ sizeLine; decide), fun u H2 n2 s2 e2 => k u H2 s2 n2 e2⟩
      · refine ⟨true, eR, fun _ a ha => ?_, fun q => nomatch q⟩
        refine ⟨_, rfl, C, _, _, _, rfl, rfl, kR.ex, .inr ⟨_, _, rfl, ed⟩, .own CT, kR.t, _, rfl, ?_⟩
        refine iteF ?_
        refine ⟨_, rfl, C, _, _, _, rfl, rfl, kR.ex, .inr ⟨_, _, rfl, ed⟩, .own C, kR.r, _, rfl, ?_⟩
        refine iteT ?_
        exact ⟨_, rfl, rfl, rfl, dd, _, .int m, rfl, ed, by simp [List.lookup], (by show 2 ≤ sizeLine; decide), fun u H2 n2 s2 e2 => k u H2 s2 n2 e2⟩
      · refine ⟨true, eS, fun _ a ha => ?_, fun q => nomatch q⟩
        refine ⟨_, rfl, C, _, _, _, rfl, rfl, kS.ex, .inr ⟨_, _, rfl, ed⟩, .own CT, kS.t, _, rfl, ?_⟩
        refine iteF ?_
        refine ⟨_, rfl, C, _, _, _, rfl, rfl, kS.ex, .inr ⟨_, _, rfl, ed⟩, .own CR, kS.r, _, rfl, ?_⟩
        refine iteF ?_
        refine ⟨_, rfl, C, _, _, _, rfl, rfl, kS.ex, .inr ⟨_, _, rfl, ed⟩, .own C, kS.s, _, rfl, ?_⟩
        refine iteT ?_
        exact ⟨_, rfl, rfl, rfl, dd, _, .int m, rfl, ed, by simp [List.lookup], (by show 2 ≤ sizeLine; decide), fun u H2 n2 s2 e2 => k u H2 s2 n2 e2⟩
    · refine ⟨true, eO, fun _ a ha => ?_, fun q => nomatch q⟩
      refine ⟨_, rfl, CO, _, _, _, rfl, rfl, kO.ex, .inl rfl, .own CT, kO.t, _, rfl, ?_⟩
      refine iteF ?_
      refine ⟨_, rfl, CO, _, _, _, rfl, rfl, kO.ex, .inl rfl, .own CR, kO.r, _, rfl, ?_⟩
      refine iteF ?_
      refine ⟨_, rfl, CO, _, _, _, rfl, rfl, kO.ex, .inl rfl, .own CS, kO.s, _, rfl, ?_⟩
      refine iteF ?_
      refine ⟨_, rfl, CO, _, _, _, rfl, rfl, kO.ex, .inl rfl, .own CO, kO.o, _, rfl, ?_⟩
      refine iteT ?_
      exact k _ (Same.refl _)
end
end Mine

set_option maxRecDepth 100000
set_option maxHeartbeats 4000000
namespace Mine
open PySem L2 TL
def bad1 : List Str := (((["", "operations ", "operation coin 2", " operations", "operations coin", "operations coin 2,"] : List Str) ++ (["operations abcdefghi 1"] : List Str)) ++ (["operations coin 2,tell 1", "operations coin  2", "operations coin 02", "operations Coin 2"] : List Str)) ++ (["operations coin 2, coin 2", "operations coin -1", "operations coin 2, ", "x"] : List Str)
def bad2 : List Str := (["", "start", "start ", "start x", "start 00", "start -1", "start 0 0", " start 0", "Start 0", "0 go 0"] : List Str) ++ (["start\t0", "operations", "start +1", "start 1.0"] : List Str)
def rests : List Str := ((["go 00", "go x", "go 0 ", "go 0 0", "end", "end A", "end a b", "ask", "ask Coin 0", "ask coin 0  0"] : List Str) ++ (["end abcdefghi", "ask abcdefghi 0", "answer 0 abcdefghi", "finish abcdefghi"] : List Str)) ++ (["say a", "ask coin x", "answer 0", "finish 0", "ask coin " ++ timesS "1" 31, "ask 0 0", "End a"] : List Str)
def heads (i j : Str) : List Str := (["", i, i ++ " ", j ++ " go 0", " " ++ i ++ " go 0", i ++ "  go 0", i ++ " go", "go 0"] : List Str)
def bad3 (i j : Str) : List Str := (heads i j ++ rests.map fun r => i ++ " " ++ r) ++ (["0" ++ i ++ " go 0", "start 0", i ++ "\tgo 0"] : List Str)
theorem bad1_all : ∀ l ∈ bad1, l.length ≤ 100 ∧ 10 ∉ tl l ∧ COk "operations" l ∧ (cT "operations" l).isNone = true := by decide +kernel
theorem bad2_all : ∀ l ∈ bad2, l.length ≤ 100 ∧ 10 ∉ tl l ∧ WOk l ∧ (sT l).isNone = true := by decide +kernel
theorem bad3_all : ∀ k < 7, ∀ l ∈ bad3 (num ((k : Nat) : Int)) (num (((k + 1 : Nat)) : Int)), l.length ≤ 100 ∧ 10 ∉ tl l ∧ WOk l ∧ (rT ((k : Nat) : Int) l).isNone = true := by decide +kernel
theorem rests_len : ∀ r ∈ rests, r.length ≤ 50 := by decide +kernel
end Mine

set_option maxRecDepth 100000
set_option maxHeartbeats 4000000
namespace Mine
open PySem L2 TL LamB
abbrev s_bad_line : Stmt := top 60
/-- a text that tells nothing on the line of this number -/
structure BadL (n : Nat) (l : Str) : Prop where
  sz : l.length ≤ 100
  nl : 10 ∉ tl l
  tells : (n = 1 ∧ COk "operations" l ∧ cT "operations" l = none) ∨ (n = 2 ∧ WOk l ∧ sT l = none) ∨ (3 ≤ n ∧ WOk l ∧ rT ((n : Int) - 3) l = none)
def spBadLine : Sp := fun vs H Q _ => ∃ (a : Addr) (n : Nat) (x y z : Int), vs = [.ref a, .int (n : Int)] ∧ H a = some (.lst [.int x, .int y, .int z]) ∧ 1 ≤ n ∧ n ≤ 9 ∧
  ∀ (l : Str) (x' y' z' : Int) (H' : Hp), BadL n l → But H H' a → H' a = some (.lst [.int x', .int y', .int z']) → Q (.str l) H'
theorem add_ok {a b : Str} {m n : Nat} (ha : a.length ≤ m) (hb : b.length ≤ n) (h : m + n ≤ 1000) : a.length + b.length ≤ sizeLine := line_ok (by omega)
theorem add_len2 {a b : Str} {m n : Nat} (ha : a.length ≤ m) (hb : b.length ≤ n) : (a ++ b).length ≤ m + n := app_len (by omega)
section
variable {P : Program} {w : World} {K : PySem.W.Frag} {mg : Str → Option Value} {base : Heap}
variable {fII fIW a_one : Addr}
theorem sc__law_bad_line : FnScope ["_law_source", "_law_number", "_law_bad", "_law_index", "_law_other", "_law_rest", "_law_one_here"] ["_law_source", "_law_number"] (defScope s_bad_line) := ⟨rfl, rfl, rfl, by decide +kernel, rfl, by decide +kernel, by decide +kernel⟩

theorem ok_bad_line {f : Addr} {fd fd_one : FuncData} (F : Fun K "_law_bad_line" "_law_bad_line" s_bad_line f fd) (T : TxtF K mg fII fIW)
    (G__law_one : FnOk P w K mg base CX0 2 a_one fd_one ["_law_source", "_law_some"] spOne) (b__law_one : Binds K fd_one ["_law_source", "_law_some"] []) (g__law_one : mg "_law_one" = some (.ref a_one)) (k__law_one : PySem.W.keepIn K (.ref a_one) = true) :
    FnOk P w K mg base CX0 3 f fd ["_law_source", "_law_number"] spBadLine := by
  refine F.ok sc__law_bad_line (fun vs H Q E h => ?_) (fun cdv A outer s H vs Q E hr h => ?_)
  · obtain ⟨a, n, x, y, z, rfl, _⟩ := h
    rfl
  · obtain ⟨a, n, x, y, z, rfl, src, lo, hi, k⟩ := h
    refine ⟨_, (pss_cons (ps_if (pt_cmpR op_eq (pv 1) pe_int (nomark _)) (pss_cons (ps_set (i := 2) sc__law_bad_line.nd rfl (Or.inl rfl) (pe_lstG (pa_cons pe_str (pa_cons pe_str (pa_cons pe_str (pa_cons pe_str (pa_cons pe_str (pa_cons pe_str pa_nil))))))))
      (pss_cons (ps_expr (pe_bm PySem.F.plainAttrs_list PySem.F.slot_list_append PySem.F.type_list_append mt_append (pv 2) (pa_cons pe_str pa_nil)))
      (pss_cons (ps_set (i := 2) sc__law_bad_line.nd rfl (Or.inl rfl) (pe_op op_catG (pv 2) (pe_lstG (pa_cons pe_str (pa_cons pe_str (pa_cons pe_str (pa_cons pe_str pa_nil)))))))
      (pss_one (ps_ret (pe_call G__law_one (hr.mono (by decide)) (by rfl) g__law_one k__law_one b__law_one .nil pass0 (pa_cons (pv 0) (pa_cons (pe_op op_catG (pv 2) (pe_lstG (pa_cons pe_str (pa_cons pe_str (pa_cons pe_str (pa_cons pe_str pa_nil)))))) pa_nil)))))))) pss_nil)
      (pss_cons (ps_if (pt_cmpR op_eq (pv 1) pe_int (nomark _)) (pss_cons (ps_set (i := 2) sc__law_bad_line.nd rfl (Or.inl rfl) (pe_lstG (pa_cons pe_str (pa_cons pe_str (pa_cons pe_str (pa_cons pe_str (pa_cons pe_str (pa_cons pe_str (pa_cons pe_str (pa_cons pe_str (pa_cons pe_str (pa_cons pe_str pa_nil))))))))))))
      (pss_one (ps_ret (pe_call G__law_one (hr.mono (by decide)) (by rfl) g__law_one k__law_one b__law_one .nil pass0 (pa_cons (pv 0) (pa_cons (pe_op op_catG (pv 2) (pe_lstG (pa_cons pe_str (pa_cons pe_str (pa_cons pe_str (pa_cons pe_str pa_nil)))))) pa_nil)))))) pss_nil)
      (pss_cons (ps_asg (pe_tupG (pa_cons (pe_callTy call_str_int (by rfl) T.b_str (by decide +kernel) (pa_cons (pe_op op_sub (pv 1) pe_int) pa_nil)) (pa_cons (pe_callTy call_str_int (by rfl) T.b_str (by decide +kernel) (pa_cons (pe_op op_sub (pv 1) pe_int) pa_nil)) pa_nil))) (pg_tup rfl (pgs_cons (pg_name (i := 3) sc__law_bad_line.nd rfl (Or.inr rfl)) (pgs_cons (pg_name (i := 4) sc__law_bad_line.nd rfl (Or.inl rfl)) pgs_nil))))
      (pss_cons (ps_set (i := 2) sc__law_bad_line.nd rfl (Or.inl rfl) (pe_lstG (pa_cons pe_str (pa_cons (pv 3) (pa_cons (pe_op op_add_str (pv 3) pe_str) (pa_cons (pe_op op_add_str (pv 4) pe_str) (pa_cons (pe_op op_add_str (pe_op op_add_str pe_str (pv 3)) pe_str) (pa_cons (pe_op op_add_str (pv 3) pe_str) (pa_cons (pe_op op_add_str (pv 3) pe_str) (pa_cons pe_str pa_nil))))))))))
      (pss_cons (ps_set (i := 5) sc__law_bad_line.nd rfl (Or.inl rfl) (pe_lstG (pa_cons pe_str (pa_cons pe_str (pa_cons pe_str (pa_cons pe_str (pa_cons pe_str (pa_cons pe_str (pa_cons pe_str (pa_cons pe_str (pa_cons pe_str (pa_cons pe_str pa_nil))))))))))))
      (pss_cons (ps_set (i := 5) sc__law_bad_line.nd rfl (Or.inl rfl) (pe_op op_catG (pv 5) (pe_lstG (pa_cons pe_str (pa_cons pe_str (pa_cons pe_str (pa_cons pe_str pa_nil)))))))
      (pss_cons (ps_set (i := 5) sc__law_bad_line.nd rfl (Or.inl rfl) (pe_op op_catG (pv 5) (pe_lstG (pa_cons pe_str (pa_cons pe_str (pa_cons pe_str (pa_cons pe_str (pa_cons (pe_op op_add_str pe_str (pe_op op_mulS pe_str pe_int)) (pa_cons pe_str (pa_cons pe_str pa_nil))))))))))
      (pss_cons (ps_set (i := 2) sc__law_bad_line.nd rfl (Or.inl rfl) (pe_op op_catG (pv 2) (pe_lc (own := [("_law_one_here", 6)]) (g := (gName 6)) (tt := tYes) rfl sc__law_bad_line.nd (pi_list (pv 5)) (blkOk_by (own := [("_law_one_here", 6)]) (N := ["_law_source", "_law_number", "_law_bad", "_law_index", "_law_other", "_law_rest", "_law_one_here"]) (sc := defScope s_bad_line) (by decide +kernel)) (fun _ _ _ _ _ => (pg_name (i := 6) sc__law_bad_line.nd rfl (Or.inl rfl))) (fun _ _ _ _ _ => pts_nil) (fun _ _ _ _ _ => (pe_op op_add_str (pe_op op_add_str (pv 3) pe_str) (pv 6))))))
      (pss_one (ps_ret (pe_call G__law_one (hr.mono (by decide)) (by rfl) g__law_one k__law_one b__law_one .nil pass0 (pa_cons (pv 0) (pa_cons (pe_op op_catG (pv 2) (pe_lstG (pa_cons (pe_op op_add_str (pe_op op_add_str pe_str (pv 3)) pe_str) (pa_cons pe_str (pa_cons (pe_op op_add_str (pv 3) pe_str) pa_nil))))) pa_nil))))))))))))), ?_⟩
    refine ⟨_, rfl, rfl, _, rfl, ?_⟩
    by_cases n1 : n = 1
    · subst n1
      refine iteT ?_
      refine ⟨by show 6 ≤ sizeLine; decide, fun p X1 np s1 e1 => ?_⟩
      refine ⟨_, rfl, .inl ⟨rfl, _, SqL.of e1⟩, p, _, _, rfl, rfl, e1, by show 6 < sizeLine; decide, ?_⟩
      have sp : Same H (upd X1 p (.lst ([.str "", .str "operations ", .str "operation coin 2", .str " operations", .str "operations coin", .str "operations coin 2,"] ++ [.str "operations abcdefghi 1"]))) := fun b o e => by
        rw [upd_ne (ne_of_none e np)]
        exact s1 _ _ e
      have ep : upd X1 p (.lst ([.str "", .str "operations ", .str "operation coin 2", .str " operations", .str "operations coin", .str "operations coin 2,"] ++ [.str "operations abcdefghi 1"])) p = some (.lst ([.str "", .str "operations ", .str "operation coin 2", .str " operations", .str "operations coin", .str "operations coin 2,"] ++ [.str "operations abcdefghi 1"])) := upd_same
      refine ⟨_, rfl, ?_⟩
      refine ⟨by show 4 ≤ sizeLine; decide, fun p2 X2 n2 s2 e2 => ?_⟩
      refine ⟨p, p2, _, _, rfl, rfl, s2 _ _ ep, e2, by show 11 ≤ sizeLine; decide, fun p3 X3 n3 s3 e3 => ?_⟩
      refine ⟨_, rfl, _, rfl, ?_⟩
      refine ⟨by show 4 ≤ sizeLine; decide, fun p4 X4 n4 s4 e4 => ?_⟩
      refine ⟨p3, p4, _, _, rfl, rfl, s4 _ _ e3, e4, by show 15 ≤ sizeLine; decide, fun p5 X5 n5 s5 e5 => ?_⟩
      have sall : Same H X5 := sp.trans (s2.trans (s3.trans (s4.trans s5)))
      have asrc := sall _ _ src
      refine ⟨a, p5, _, x, y, z, rfl, asrc, e5, by show 0 < 15; decide, by show 15 ≤ 1000; decide, (fun q => by rw [q, e5] at asrc; cases asrc), fun v x' y' z' H' hv bt e' => ?_⟩
      have hv : v ∈ bad1.map V.str := hv
      obtain ⟨l, hl, rfl⟩ := List.mem_map.mp hv
      obtain ⟨g1, g2, g3, g4⟩ := bad1_all l hl
      exact k l x' y' z' H' ⟨g1, g2, .inl ⟨rfl, g3, Option.isNone_iff_eq_none.mp g4⟩⟩ (fun b o nb e => bt _ _ nb (sall _ _ e)) e'
    rw [decide_eq_false (show ¬ V.int (n : Int) = V.int 1 from fun z => n1 (by have := V.int.inj z; omega))]
    refine iteF ?_
    refine ⟨_, rfl, rfl, _, rfl, ?_⟩
    by_cases n2 : n = 2
    · subst n2
      refine iteT ?_
      refine ⟨by show 10 ≤ sizeLine; decide, fun p X1 np s1 e1 => ?_⟩
      refine ⟨_, rfl, _, rfl, ?_⟩
      refine ⟨by show 4 ≤ sizeLine; decide, fun p4 X4 n4 s4 e4 => ?_⟩
      refine ⟨p, p4, _, _, rfl, rfl, s4 _ _ e1, e4, by show 14 ≤ sizeLine; decide, fun p5 X5 n5 s5 e5 => ?_⟩
      have sall : Same H X5 := s1.trans (s4.trans s5)
      have asrc := sall _ _ src
      refine ⟨a, p5, _, x, y, z, rfl, asrc, e5, by show 0 < 14; decide, by show 14 ≤ 1000; decide, (fun q => by rw [q, e5] at asrc; cases asrc), fun v x' y' z' H' hv bt e' => ?_⟩
      have hv : v ∈ bad2.map V.str := hv
      obtain ⟨l, hl, rfl⟩ := List.mem_map.mp hv
      obtain ⟨g1, g2, g3, g4⟩ := bad2_all l hl
      exact k l x' y' z' H' ⟨g1, g2, .inr (.inl ⟨rfl, g3, Option.isNone_iff_eq_none.mp g4⟩)⟩ (fun b o nb e => bt _ _ nb (sall _ _ e)) e'
    rw [decide_eq_false (show ¬ V.int (n : Int) = V.int 2 from fun z => n2 (by have := V.int.inj z; omega))]
    refine iteF ?_
    obtain ⟨m, rfl⟩ : ∃ m, n = m + 3 := ⟨n - 3, by omega⟩
    have sm : Small (m : Int) := ⟨by omega, by omega⟩
    have sm1 : Small ((m + 1 : Nat) : Int) := ⟨by omega, by omega⟩
    have e3 : ((m + 3 : Nat) : Int) - 3 = (m : Int) := by omega
    have e4 : ((m + 3 : Nat) : Int) - 2 = ((m + 1 : Nat) : Int) := by omega
    refine ⟨_, rfl, _, _, rfl, rfl, (m : Int), congrArg (fun z => [V.int z]) e3, num_log sm, _, rfl, _, _, rfl, rfl, ((m + 1 : Nat) : Int), congrArg (fun z => [V.int z]) e4, num_log sm1, ?_⟩
    have li := num_len sm
    have lj := num_len sm1
    have fold1 : Str.ofString (toString ((m : Nat) : Int)) = num (m : Int) := rfl
    have fold2 : Str.ofString (toString ((m + 1 : Nat) : Int)) = num ((m + 1 : Nat) : Int) := rfl
    rw [fold1, fold2]
    have key := bad3_all m (by omega)
    generalize num (m : Int) = i at li key ⊢
    generalize num ((m + 1 : Nat) : Int) = j at lj key ⊢
    refine ⟨by show 2 ≤ sizeLine; decide, fun TT X1 n1' s1 e1 => ?_⟩
    refine ⟨TT, _, rfl, SqT.of e1, rfl, _, _, rfl, _, _, rfl, rfl, ?_⟩
    have l1 : (" " : Str).length ≤ 1 := by decide +kernel
    have l5 : (" go 0" : Str).length ≤ 5 := by decide +kernel
    have l6 : ("  go 0" : Str).length ≤ 6 := by decide +kernel
    have l3 : (" go" : Str).length ≤ 3 := by decide +kernel
    have l0 : ("0" : Str).length ≤ 1 := by decide +kernel
    have lt : ("\tgo 0" : Str).length ≤ 5 := by decide +kernel
    refine ⟨_, rfl, _, rfl, _, _, rfl, rfl, add_ok li l1 (by decide), _, rfl, _, _, rfl, rfl, add_ok lj l5 (by decide), _, rfl, _, _, rfl, rfl, add_ok l1 li (by decide), _, _, rfl, rfl, add_ok (add_len2 l1 li) l5 (by decide), _, rfl, _, _, rfl, rfl, add_ok li l6 (by decide), _, rfl, _, _, rfl, rfl, add_ok li l3 (by decide), ?_⟩
    refine ⟨by show 8 ≤ sizeLine; decide, fun pb X2 nb s2 eb => ?_⟩
    refine ⟨by show 10 ≤ sizeLine; decide, fun pr X3 nr s3 er => ?_⟩
    refine ⟨_, rfl, ?_⟩
    refine ⟨by show 4 ≤ sizeLine; decide, fun p4 X4 n4 s4 e4' => ?_⟩
    refine ⟨pr, p4, _, _, rfl, rfl, s4 _ _ er, e4', by show 14 ≤ sizeLine; decide, fun p5 X5 n5 s5 e5 => ?_⟩
    refine ⟨_, rfl, ?_⟩
    refine ⟨"1", 31, rfl, rfl, by decide, by decide, by decide +kernel, by decide +kernel, by decide +kernel, _, _, rfl, rfl, by decide +kernel, ?_⟩
    refine ⟨by show 7 ≤ sizeLine; decide, fun p6 X6 n6 s6 e6 => ?_⟩
    refine ⟨p5, p6, _, _, rfl, rfl, s6 _ _ e5, e6, by show 21 ≤ sizeLine; decide, fun p7 X7 n7 s7 e7 => ?_⟩
    have e7 : X7 p7 = some (.lst (rests.map V.str)) := e7
    have eb7 : X7 pb = some (.lst ((heads i j).map V.str)) := s7 _ _ (s6 _ _ (s5 _ _ (s4 _ _ (s3 _ _ eb))))
    have s07 : Same H X7 := s1.trans (s2.trans (s3.trans (s4.trans (s5.trans (s6.trans s7)))))
    refine ⟨_, rfl, _, rfl, p7, rfl, ⟨_, SqL.of e7⟩, fun D nD => lc_it (walk_list (xs := rests.map V.str)) (fun t Hx => Same X7 Hx ∧ Hx D = some (.lst (((rests.map fun r => i ++ " " ++ r).take t).map V.str))) ⟨sameNew nD _, upd_same⟩ (fun t Hx _ z => SqL.of (z.1 _ _ e7)) (fun t v Ha Hb ht z1 z2 => ?_) fun Hx z => ?_⟩
    · obtain ⟨sx, ex⟩ := z1
      obtain ⟨rfl, hy⟩ := z2
      have hi2 : t < rests.length := by rw [List.length_map] at ht; exact ht
      have el : rests[t]? = some rests[t] := List.getElem?_eq_getElem hi2
      have ml := List.mem_of_getElem? el
      generalize rests[t] = q at el ml
      have hy : (rests.map V.str)[t]? = some v := hy
      rw [List.getElem?_map, el] at hy
      have hy := Option.some.inj hy
      subst hy
      have ql := rests_len q ml
      refine ⟨rfl, _, rfl, _, _, rfl, rfl, add_ok li l1 (by decide), _, rfl, _, _, rfl, rfl, add_ok (add_len2 li l1) ql (by decide), ?_⟩
      exact str_step nD sx ex (Same.refl _) (by rw [List.getElem?_map, el]; rfl) (by rw [List.length_map]; decide)
    · obtain ⟨sx, ex⟩ := z
      rw [List.take_of_length_le (by rw [List.length_map, List.length_map]; exact Nat.le_refl _)] at ex
      refine ⟨pb, D, _, _, rfl, rfl, sx _ _ eb7, ex, by show (List.map V.str (heads i j)).length + _ ≤ sizeLine; rw [List.length_map, List.length_map, List.length_map]; show 8 + 21 ≤ sizeLine; decide, fun p8 X8 n8 s8 e8 => ?_⟩
      refine ⟨_, rfl, _, rfl, _, rfl, _, _, rfl, rfl, add_ok l0 li (by decide), _, _, rfl, rfl, add_ok (add_len2 l0 li) l5 (by decide), _, rfl, _, _, rfl, rfl, add_ok li lt (by decide), ?_⟩
      refine ⟨by show 3 ≤ sizeLine; decide, fun p9 X9 n9 s9 e9 => ?_⟩
      refine ⟨p8, p9, _, _, rfl, rfl, s9 _ _ e8, e9, by rw [List.length_append, List.length_map, List.length_map, List.length_map]; show 8 + 21 + 3 ≤ sizeLine; decide, fun pa Xa na sa ea => ?_⟩
      have sall : Same H Xa := s07.trans (sx.trans (s8.trans (s9.trans sa)))
      have asrc := sall _ _ src
      have ea : Xa pa = some (.lst ((bad3 i j).map V.str)) := by
        rw [ea]
        unfold bad3
        rw [List.map_append, List.map_append]
        rfl
      refine ⟨a, pa, _, x, y, z, rfl, asrc, ea, by rw [List.length_map]; show 0 < 32; decide, by rw [List.length_map]; show 32 ≤ 1000; decide, (fun q => by rw [q, ea] at asrc; cases asrc), fun v x' y' z' H' hv bt e' => ?_⟩
      obtain ⟨l, hl, rfl⟩ := List.mem_map.mp hv
      obtain ⟨g1, g2, g3, g4⟩ := key l hl
      exact k l x' y' z' H' ⟨g1, g2, .inr (.inr ⟨by omega, g3, by rw [e3]; exact Option.isNone_iff_eq_none.mp g4⟩)⟩ (fun b o nb e => bt _ _ nb (sall _ _ e)) e'
end
end Mine

set_option maxRecDepth 100000
set_option maxHeartbeats 4000000
namespace Mine
open PySem L2 TL LamB
/-- what is said of a text -/
inductive Ans where
  | read
  | ops
  | at (w : Str) (m : Int)
def AnsD : Ans → PyData
  | .read => .str "read"
  | .ops => .str "operations"
  | .at w m => .tuple [.str w, .int m]
def AnsV (H : Hp) (v : V) : Ans → Prop
  | .read => v = .str "read"
  | .ops => v = .str "operations"
  | .at w m => ∃ u, v = .ref u ∧ H u = some (.tup [.str w, .int m])
inductive Says (K : PySem.W.Frag) (H : Hp) : V → Ans → Prop where
  | kind {v : V} {t : String} (b : Bt K H v t) (n : t ≠ "str") : Says K H v (.at "line" (-1))
  | b0 {x : Str} {ls : List Str} (hl : LinesT x ls) (few : ls.length ≤ 900) (h : Bad0 ls) : Says K H (.str x) (.at "line" 1)
  | b1 {x : Str} {ls : List Str} {o : Ops} (hl : LinesT x ls) (few : ls.length ≤ 900) (h0 : OpsAt ls o) (h : Bad1 ls) : Says K H (.str x) (.at "line" 2)
  | line {x : Str} {ls : List Str} {o : Ops} {b : Int} {es : List RowE} {l : Str} (hl : LinesT x ls) (few : ls.length ≤ 900) (h0 : OpsAt ls o) (h1 : StartAt ls b) (r : RowsAt ls es) (h : ls[es.length + 2]? = some l) (ok : WOk l) (n : rT (es.length : Int) l = none) : Says K H (.str x) (.at "line" ((es.length : Int) + 3))
  | ops {x : Str} {ls : List Str} {o : Ops} {b : Int} {es : List RowE} (hl : LinesT x ls) (few : ls.length ≤ 900) (h0 : OpsAt ls o) (h1 : StartAt ls b) (r : RowsAt ls es) (n : ls.length = es.length + 2) (bad : OpsBad o) : Says K H (.str x) .ops
  | rows {x : Str} {ls : List Str} {o : Ops} {b : Int} {es : List RowE} {m : Int} (hl : LinesT x ls) (few : ls.length ≤ 900) (h0 : OpsAt ls o) (h1 : StartAt ls b) (r : RowsAt ls es) (n : ls.length = es.length + 2) (ok : OkOps o) (bad : RowsBad o es m) : Says K H (.str x) (.at "body" m)
  | start {x : Str} {ls : List Str} {o : Ops} {b : Int} {rs : List RowD} (hl : LinesT x ls) (few : ls.length ≤ 900) (h0 : OpsAt ls o) (h1 : StartAt ls b) (r : RowsAt ls (rs.map RowE.of)) (n : ls.length = rs.length + 2) (ok : OkOps o) (lo : 1 ≤ rs.length) (hi : rs.length ≤ 400) (okr : OkRows o rs) (far : (rs.length : Int) ≤ b) : Says K H (.str x) (.at "start" b)
  | good {x : Str} {ls : List Str} {o : Ops} {bn : Nat} {rs : List RowD} (hl : LinesT x ls) (few : ls.length ≤ 900) (h0 : OpsAt ls o) (h1 : StartAt ls (bn : Int)) (r : RowsAt ls (rs.map RowE.of)) (n : ls.length = rs.length + 2) (ok : OkB o rs bn) : Says K H (.str x) .read
theorem says_read {K : PySem.W.Frag} {CB CM CT CO CR CS PR : Addr} {H : Hp} {v : V} {a : Ans} {Q : VK} (h : Says K H v a) (k : ∀ v' H', ButT PR H H' → LamX.Tabs [(PR, qRB)] H' → AnsV H' v' a → Q v' H') : ReadC K CB CM CT CO CR CS PR H v (fun _ H' => Q (.str "read") H') (EOut CT CR CS CO Q) := by
  have kT : ∀ {m : Int}, (∀ v' H', ButT PR H H' → LamX.Tabs [(PR, qRB)] H' → AnsV H' v' (.at "line" m) → Q v' H') → RaisesT PR CT "line" (.int m) H (EOut CT CR CS CO Q) := fun {m} k d H' n u t e => .inl ⟨CT, "line", "line", d, m, .inl ⟨rfl, rfl, rfl⟩, rfl, rfl, e, fun w H2 s2 n2 e2 => k _ H2 (u.trans (ButT.of s2)) (tabs_same t s2) ⟨w, rfl, e2⟩⟩
  have kR : ∀ {m : Int}, (∀ v' H', ButT PR H H' → LamX.Tabs [(PR, qRB)] H' → AnsV H' v' (.at "body" m) → Q v' H') → RaisesT PR CR "index" (.int m) H (EOut CT CR CS CO Q) := fun {m} k d H' n u t e => .inl ⟨CR, "index", "body", d, m, .inr (.inl ⟨rfl, rfl, rfl⟩), rfl, rfl, e, fun w H2 s2 n2 e2 => k _ H2 (u.trans (ButT.of s2)) (tabs_same t s2) ⟨w, rfl, e2⟩⟩
  have kS : ∀ {m : Int}, (∀ v' H', ButT PR H H' → LamX.Tabs [(PR, qRB)] H' → AnsV H' v' (.at "start" m) → Q v' H') → RaisesT PR CS "index" (.int m) H (EOut CT CR CS CO Q) := fun {m} k d H' n u t e => .inl ⟨CS, "index", "start", d, m, .inr (.inr ⟨rfl, rfl, rfl⟩), rfl, rfl, e, fun w H2 s2 n2 e2 => k _ H2 (u.trans (ButT.of s2)) (tabs_same t s2) ⟨w, rfl, e2⟩⟩
  cases h with
  | kind b n => exact .kind b n (kT k)
  | b0 hl few h => exact .b0 rfl hl few h (kT k)
  | b1 hl few h0 h => exact .b1 rfl hl few h0 h (kT k)
  | line hl few h0 h1 r h ok n => exact .tail rfl hl few h0 h1 r (.line h ok n (kT k))
  | ops hl few h0 h1 r n bad => exact .tail rfl hl few h0 h1 r (.ops n bad fun H' u t => .inr ⟨rfl, rfl, fun H2 s2 => k _ H2 (u.trans (ButT.of s2)) (tabs_same t s2) rfl⟩)
  | rows hl few h0 h1 r n ok bad => exact .tail rfl hl few h0 h1 r (.rows n ok bad (kR k))
  | start hl few h0 h1 r n ok lo hi okr far => exact .tail rfl hl few h0 h1 r (.start (by rw [List.length_map]; exact n) rfl ok lo hi okr far (kS k))
  | good hl few h0 h1 r n ok => exact .tail rfl hl few h0 h1 r (.good (by rw [List.length_map]; exact n) rfl rfl ok fun v H' u t => k _ H' u t rfl)
theorem says_said {K : PySem.W.Frag} {CB CM CT CO CR CS PR : Addr} {H : Hp} {v : V} {a : Ans} {Q : VK} {E : XK} (t : LamX.Tabs [(PR, qRB)] H) (h : Says K H v a) (k : ∀ v' H', ButT PR H H' → LamX.Tabs [(PR, qRB)] H' → AnsV H' v' a → Q v' H') : spSaidT K CB CM CT CO CR CS PR [v] H Q E := ⟨v, rfl, t, says_read h k⟩
theorem says_read' {K : PySem.W.Frag} {CB CM CT CO CR CS PR : Addr} {H : Hp} {v : V} {a : Ans} {Q Q' : VK} (h : Says K H v a) (k : ∀ v' H', ButT PR H H' → LamX.Tabs [(PR, qRB)] H' → AnsV H' v' a → Q v' H') (e : Q' = fun _ H' => Q (.str "read") H') : ReadC K CB CM CT CO CR CS PR H v Q' (EOut CT CR CS CO Q) := e ▸ says_read h k
theorem Says.same {K : PySem.W.Frag} {H H' : Hp} {x : Str} {a : Ans} (h : Says K H (.str x) a) : Says K H' (.str x) a := by
  cases h with
  | kind b n =>
    have := b.ty
    exact absurd (show "str" = _ from by cases b.ty with | base z => cases z <;> rfl) (Ne.symm n)
  | b0 hl few h => exact .b0 hl few h
  | b1 hl few h0 h => exact .b1 hl few h0 h
  | line hl few h0 h1 r h ok n => exact .line hl few h0 h1 r h ok n
  | ops hl few h0 h1 r n bad => exact .ops hl few h0 h1 r n bad
  | rows hl few h0 h1 r n ok bad => exact .rows hl few h0 h1 r n ok bad
  | start hl few h0 h1 r n ok lo hi okr far => exact .start hl few h0 h1 r n ok lo hi okr far
  | good hl few h0 h1 r n ok => exact .good hl few h0 h1 r n ok
/-! the texts of lines -/
theorem textOf_len : ∀ ls : List Str, (∀ l ∈ ls, l.length ≤ 1000) → (textOf ls).length ≤ ls.length * 1001
  | [], _ => by
    rw [len_tl, tl_textOf]
    exact Nat.zero_le _
  | l :: ls, h => by
    have ih := textOf_len ls fun x hx => h x (List.mem_cons_of_mem _ hx)
    have h1 := h l List.mem_cons_self
    rw [len_tl, tl_textOf] at ih ⊢
    rw [List.map_cons, List.flatten_cons, List.length_append, List.length_append, ← len_tl, List.length_cons]
    show l.length + 1 + _ ≤ (ls.length + 1) * 1001
    omega
theorem lines_joined {ls : List Str} (few : ls.length ≤ 50) (sz : ∀ l ∈ ls, l.length ≤ 1000) (nl : ∀ l ∈ ls, 10 ∉ tl l) : LinesT (textOf ls) ls := by
  have := textOf_len ls sz
  exact ⟨by omega, by omega, .inl (text_split nl)⟩
theorem lines_bare {ls : List Str} (few : ls.length ≤ 50) (sz : ∀ l ∈ ls, l.length ≤ 1000) (nl : ∀ l ∈ ls, 10 ∉ tl l) (ne : ls ≠ []) (last : ls.getLast? ≠ some ("" : Str)) : LinesT (Txt.join "\n" ls) ls := by
  have l1 : ("\n" : Str).length = 1 := by decide +kernel
  have jl := joinS_len (ss := ls) (y := "\n") (k := 1000) (n := 50) few sz
  rw [l1] at jl
  have := Nat.le_trans (join_len "\n" ls) (by rw [l1]; exact jl)
  exact ⟨by omega, by omega, .inr ⟨split_join (s := 10) (S := []) tl_lf (by decide +kernel) ne nl, ne, last⟩⟩
theorem wok_row {i : Int} {d : RowD} (hi : Small i) (h : RowT d) : WOk (rowL i d) := by
  have hs := row_split hi h
  refine ⟨Nat.le_trans (rowL_len hi h) (by decide), ?_, ?_⟩
  · rw [hs]
    have := parts_len h
    show (rowParts d).length + 1 ≤ 1000
    omega
  · rw [hs]
    intro q hq
    rcases List.mem_cons.mp hq with rfl | hq
    · have := num_len hi
      omega
    · have := (part_ok h q hq).1
      omega
theorem wok_start {b : Int} (sb : Small b) : WOk ("start " ++ num b) := by
  have hs := start_split sb
  have hn := num_len sb
  refine ⟨app_len (by rw [show ("start " : Str).length = 6 by decide +kernel]; omega), by rw [hs]; simp, ?_⟩
  rw [hs]
  intro q hq
  rcases List.mem_cons.mp hq with rfl | hq
  · decide +kernel
  · rw [List.mem_singleton.mp hq]
    omega
theorem wok_op {p : Str × Int} (h : OpT p) : WOk (opT p) := by
  have hs := op_split h
  have ho := (op_ok h).1
  have h1 := (nm_let h.1).2.2
  have h2 := num_len h.2
  refine ⟨by omega, by rw [hs]; simp, ?_⟩
  rw [hs]
  intro q hq
  rcases List.mem_cons.mp hq with rfl | hq
  · omega
  · rw [List.mem_singleton.mp hq]
    omega
theorem cok_ops {o : Ops} (few : o.length ≤ 8) (ok : ∀ q ∈ o, OpT q) : COk "operations" (opsL "operations" o) := by
  by_cases on : o = []
  · subst on
    show COk "operations" "operations"
    decide +kernel
  · obtain ⟨h1, _, _⟩ := opsL_behind (wd := "operations") on
    have hl := opsL_len (w := "operations") (by decide +kernel) few ok
    refine ⟨by omega, by decide +kernel, ?_, ?_, ?_⟩
    · rw [h1]
      have cl : (", " : Str).length = 2 := by decide +kernel
      have jl := joinS_len (ss := o.map opT) (y := ", ") (k := 12) (n := 8) (by rw [List.length_map]; exact few) fun l hl => by
        obtain ⟨q, hq, rfl⟩ := List.mem_map.mp hl
        exact (op_ok (ok q hq)).1
      rw [cl] at jl
      have := Nat.le_trans (join_len ", " (o.map opT)) (by rw [cl]; exact jl)
      omega
    · rw [h1, ops_split on ok, List.length_map]
      omega
    · rw [h1, ops_split on ok]
      intro p hp
      obtain ⟨q, hq, rfl⟩ := List.mem_map.mp hp
      exact wok_op (ok q hq)
/-- lines whose first ones are right -/
theorem ops_at {ls : List Str} {o : Ops} (few : o.length ≤ 8) (nd : (o.map (·.1)).Nodup) (ok : ∀ q ∈ o, OpT q) (h : ls[0]? = some (opsL "operations" o)) : OpsAt ls o := ⟨_, h, cok_ops few ok, cT_right nd ok⟩
theorem start_at {ls : List Str} {b : Int} (sb : Small b) (h : ls[1]? = some ("start " ++ num b)) : StartAt ls b := ⟨_, h, wok_start sb, sT_right sb⟩
theorem rows_at {ls : List Str} {rs : List RowD} (few : rs.length < 900) (ok : ∀ d ∈ rs, RowT d) (h : ∀ (i : Nat) (d : RowD), rs[i]? = some d → ls[i + 2]? = some (rowL (i : Int) d)) : RowsAt ls (rs.map RowE.of) := fun i e he => by
  rw [List.getElem?_map] at he
  cases hd : rs[i]? with
  | none => rw [hd] at he; cases he
  | some d =>
    rw [hd] at he
    have he := Option.some.inj he
    subst he
    have hi := (List.getElem?_eq_some_iff.mp hd).1
    have si : Small (i : Int) := ⟨by omega, by omega⟩
    have ht := ok d (List.mem_of_getElem? hd)
    exact ⟨_, h i d hd, wok_row si ht, rT_right si ht⟩
theorem rows_at_snoc {ls : List Str} {es : List RowE} {e : RowE} {l : Str} (h : RowsAt ls es) (hl : ls[es.length + 2]? = some l) (ok : WOk l) (t : rT (es.length : Int) l = some e) : RowsAt ls (es ++ [e]) := fun i e2 he => by
  by_cases hi : i < es.length
  · rw [List.getElem?_append_left hi] at he
    exact h i e2 he
  · have h2 := (List.getElem?_eq_some_iff.mp he).1
    rw [List.length_append] at h2
    have h3 : i = es.length := by have : i < es.length + 1 := h2; omega
    subst h3
    rw [List.getElem?_append_right (Nat.le_refl _), Nat.sub_self] at he
    have he : some e = some e2 := he
    rw [← Option.some.inj he]
    exact ⟨l, hl, ok, t⟩
/-- a bad line where all before is right -/
theorem says_bad {K : PySem.W.Frag} {H : Hp} {x : Str} {gs : List Str} {o : Ops} {b : Int} {rs : List RowD} {p : Nat} {l : Str} (hl : LinesT x gs) (few : gs.length ≤ 900) (bad : BadL (p + 1) l) (at_ : gs[p]? = some l)
    (h0 : 0 < p → OpsAt gs o) (h1 : 1 < p → StartAt gs b) (hr : 2 ≤ p → rs.length + 2 = p ∧ RowsAt gs (rs.map RowE.of)) : Says K H (.str x) (.at "line" ((p : Int) + 1)) := by
  rcases bad.tells with ⟨e, h2, h3⟩ | ⟨e, h2, h3⟩ | ⟨e, h2, h3⟩
  · have : p = 0 := by omega
    subst this
    exact .b0 hl few (.inr ⟨l, at_, h2, h3⟩)
  · have : p = 1 := by omega
    subst this
    exact .b1 hl few (h0 (by decide)) (.inr ⟨l, at_, h2, h3⟩)
  · obtain ⟨g1, g2⟩ := hr (by omega)
    have el : (rs.map RowE.of).length + 2 = p := by rw [List.length_map]; exact g1
    have ep : ((p + 1 : Nat) : Int) - 3 = ((rs.map RowE.of).length : Int) := by omega
    have e2 : (p : Int) + 1 = ((rs.map RowE.of).length : Int) + 3 := by omega
    rw [ep] at h3
    rw [e2]
    exact .line hl few (h0 (by omega)) (h1 (by omega)) g2 (by rw [el]; exact at_) h2 h3
end Mine

set_option maxRecDepth 100000
set_option maxHeartbeats 4000000
namespace Mine
open PySem L2 TL LamB
def Mv (a PR : Addr) (H H' : Hp) : Prop := ∀ c u, c ≠ a → c ≠ PR → H c = some u → H' c = some u
theorem Mv.refl (a PR : Addr) (H : Hp) : Mv a PR H H := fun _ _ _ _ e => e
theorem Mv.trans {a PR : Addr} {H H1 H2 : Hp} (x : Mv a PR H H1) (y : Mv a PR H1 H2) : Mv a PR H H2 := fun c u n1 n2 e => y c u n1 n2 (x c u n1 n2 e)
theorem Mv.of {a PR : Addr} {H H' : Hp} (s : Same H H') : Mv a PR H H' := fun c u _ _ e => s c u e
theorem Mv.but {a PR : Addr} {H H' : Hp} (s : But H H' a) : Mv a PR H H' := fun c u n _ e => s c u n e
theorem Mv.tab {a PR : Addr} {H H' : Hp} (s : ButT PR H H') : Mv a PR H H' := fun c u _ n e => s c u n e
theorem tabs_but {PM a : Addr} {q : Str} {H H' : Hp} {xs : List V} (t : LamX.Tabs [(PM, q)] H) (ha : H a = some (.lst xs)) (b : But H H' a) : LamX.Tabs [(PM, q)] H' := fun p hp => by
  obtain ⟨ps, e1, e2, e3⟩ := t p hp
  refine ⟨ps, b _ _ (fun z => ?_) e1, e2, fun pos cv h => ?_⟩
  · rw [z, ha] at e1
    cases e1
  · obtain ⟨c, e4, e5⟩ := e3 pos cv h
    refine ⟨c, e4, b _ _ (fun z => ?_) e5⟩
    rw [z, ha] at e5
    have e5 := Option.some.inj e5
    unfold LamX.CodeO at e5
    cases e5
theorem opsL_free {w : Str} {o : Ops} (hw : 10 ∉ tl w) (ok : ∀ q ∈ o, OpT q) : 10 ∉ tl (opsL w o) := by
  unfold opsL
  split
  · exact hw
  · rw [tl_append, tl_append, tl_sp, join_eq, tl_join, tl_comma]
    have key : ∀ l : List (List Nat), (∀ p ∈ l, 10 ∉ p) → 10 ∉ joinL (44 :: [32]) l := by
      intro l
      induction l with
      | nil => exact fun _ => by simp [joinL]
      | cons x r ih =>
        intro h
        cases r with
        | nil => exact h x List.mem_cons_self
        | cons y s =>
          show 10 ∉ x ++ (44 :: [32] ++ joinL (44 :: [32]) (y :: s))
          have h1 := h x List.mem_cons_self
          have h2 := ih fun p hp => h p (List.mem_cons_of_mem _ hp)
          simp only [List.mem_append, List.mem_cons, List.not_mem_nil, or_false, not_or]
          exact ⟨h1, ⟨by decide, by decide⟩, h2⟩
    have h2 : 10 ∉ joinL (44 :: [32]) ((o.map opT).map tl) := key _ fun p hp => by
      obtain ⟨s, hs, rfl⟩ := List.mem_map.mp hp
      obtain ⟨q, hq, rfl⟩ := List.mem_map.mp hs
      exact fun z => by have := (op_ok (ok q hq)).2 _ z; omega
    simp only [List.mem_append, List.mem_cons, List.not_mem_nil, or_false, not_or]
    exact ⟨⟨hw, by decide⟩, h2⟩
theorem rowL_free {i : Int} {d : RowD} (hi : Small i) (h : RowT d) : 10 ∉ tl (rowL i d) := by
  unfold rowL
  rw [join_eq, tl_join, tl_sp]
  have key : ∀ l : List (List Nat), (∀ p ∈ l, 10 ∉ p) → 10 ∉ joinL [32] l := by
    intro l
    induction l with
    | nil => exact fun _ => by simp [joinL]
    | cons x r ih =>
      intro h
      cases r with
      | nil => exact h x List.mem_cons_self
      | cons y s =>
        show 10 ∉ x ++ ([32] ++ joinL [32] (y :: s))
        have h1 := h x List.mem_cons_self
        have h2 := ih fun p hp => h p (List.mem_cons_of_mem _ hp)
        simp only [List.mem_append, List.mem_cons, List.not_mem_nil, or_false, not_or]
        exact ⟨h1, by decide, h2⟩
  refine key _ fun p hp => ?_
  obtain ⟨s, hs, rfl⟩ := List.mem_map.mp hp
  rcases List.mem_cons.mp hs with rfl | hs
  · exact fun z => by have := num_ok hi _ z; omega
  · exact fun z => by have := (part_ok h s hs).2 _ z; omega
theorem start_free {b : Nat} (h : b < 1000) : 10 ∉ tl ("start " ++ num (b : Int) : Str) := by
  rw [tl_append]
  intro z
  rcases List.mem_append.mp z with z | z
  · exact absurd z (by decide +kernel)
  · have := num_ok (i := (b : Int)) ⟨by omega, by omega⟩ _ z
    omega
theorem linesB_free {o : Ops} {rs : List RowD} {b : Nat} (h : FitB o rs b) : ∀ l ∈ linesB o rs b, 10 ∉ tl l := by
  intro l hl
  have lt := h.lt
  have many := h.many
  rcases List.mem_cons.mp hl with rfl | hl
  · exact opsL_free (by decide +kernel) h.ops
  rcases List.mem_cons.mp hl with rfl | hl
  · exact start_free (by omega)
  · unfold linesR at hl
    obtain ⟨i, hi, rfl⟩ := List.mem_mapIdx.mp hl
    exact rowL_free ⟨by omega, by omega⟩ (h.rows _ (List.getElem_mem hi))
theorem tl_ne {x : Str} {n : Nat} (h : n ∈ tl x) : x ≠ "" := fun z => by
  rw [z, show tl ("" : Str) = [] by decide +kernel] at h
  cases h
theorem linesB_some {o : Ops} {rs : List RowD} {b : Nat} : ∀ l ∈ linesB o rs b, l ≠ "" := by
  intro l hl
  have inj : ∀ (x y : Str), tl x ≠ [] → x ++ y ≠ "" := fun x y hx z => by
    have := congrArg tl z
    rw [tl_append, show tl ("" : Str) = [] by decide +kernel] at this
    exact hx (List.append_eq_nil_iff.mp this).1
  rcases List.mem_cons.mp hl with rfl | hl
  · unfold opsL
    split
    · decide +kernel
    · exact inj _ _ (by rw [tl_append]; intro z; exact absurd (List.append_eq_nil_iff.mp z).1 (by decide +kernel))
  rcases List.mem_cons.mp hl with rfl | hl
  · exact inj _ _ (by decide +kernel)
  · unfold linesR at hl
    obtain ⟨i, hi, rfl⟩ := List.mem_mapIdx.mp hl
    rw [rowL_eq]
    refine inj _ _ ?_
    rw [tl_append, tl_num0]
    intro z
    exact numL_ne _ (List.append_eq_nil_iff.mp z).1
theorem look_perm {o p : Ops} (nd : (o.map (·.1)).Nodup) (h : p.Perm o) {x : Str} {n : Int} (e : opLook o x = some n) : opLook p x = some n := by
  have ndp : (p.map (·.1)).Nodup := (h.map _).nodup_iff.mpr nd
  have m : (x, n) ∈ o := by
    unfold opLook at e
    cases q : o.find? (fun (y : Str × Int) => decide (y.1 = x)) with
    | none => rw [q] at e; cases e
    | some y =>
      rw [q] at e
      have e := Option.some.inj e
      have h1 := List.mem_of_find?_eq_some q
      have h2 : y.1 = x := of_decide_eq_true (List.find?_some (p := fun (y : Str × Int) => decide (y.1 = x)) q)
      rw [← h2, ← e]
      exact h1
  exact look_mem ndp _ (h.mem_iff.mpr m)
theorem OkRow.perm {o p : Ops} {k : Int} {d : RowD} (nd : (o.map (·.1)).Nodup) (h : p.Perm o) (r : OkRow o k d) : OkRow p k d := by
  cases d with
  | ask op ns => exact ⟨look_perm nd h r.1, r.2.1, r.2.2⟩
  | go n => exact r
  | fin w => exact r
theorem OkB.perm {o p : Ops} {rs : List RowD} {b : Nat} (h : p.Perm o) (r : OkB o rs b) : OkB p rs b :=
  ⟨⟨by rw [h.length_eq]; exact r.ops.few, fun q hq => r.ops.each q (h.mem_iff.mp hq), (h.map _).nodup_iff.mpr r.ops.nd⟩, r.lo, r.hi, fun i d e => (r.rows i d e).perm r.ops.nd h, r.lt, r.fa, r.fe⟩
theorem FitB.of {o : Ops} {rs : List RowD} {b : Nat} (r : OkB o rs b) : FitB o rs b := by
  refine ⟨r.ops.few, r.ops.nd, fun q hq => ⟨(r.ops.each q hq).1, (r.ops.each q hq).2.1, by have := (r.ops.each q hq).2.2; omega⟩, fun d hd => ?_, by have := r.hi; omega, r.lt⟩
  have hi := r.hi
  obtain ⟨i, e⟩ := List.getElem?_of_mem hd
  have z := r.rows i d e
  cases d with
  | ask op ns =>
    obtain ⟨h1, h2, h3⟩ := z
    have m : (op, (ns.length : Int)) ∈ o := by
      unfold opLook at h1
      cases q : o.find? (fun (y : Str × Int) => decide (y.1 = op)) with
      | none => rw [q] at h1; cases h1
      | some y =>
        rw [q] at h1
        have e1 := Option.some.inj h1
        have g1 := List.mem_of_find?_eq_some q
        have g2 : y.1 = op := of_decide_eq_true (List.find?_some (p := fun (y : Str × Int) => decide (y.1 = op)) q)
        rw [← g2, ← e1]
        exact g1
    have g := r.ops.each _ m
    exact ⟨g.1, by have : (ns.length : Int) ≤ 6 := g.2.2; omega, fun n hn => ⟨(h3 n hn).1, by have := (h3 n hn).2; omega⟩⟩
  | go n => exact ⟨z.1, by have := z.2; omega⟩
  | fin w => exact z.1
theorem OkRow.wide {o : Ops} {k m : Int} {d : RowD} (le : k ≤ m) (h : OkRow o k d) : OkRow o m d := by
  cases d with
  | ask op ns => exact ⟨h.1, h.2.1, fun n hn => ⟨(h.2.2 n hn).1, by have := (h.2.2 n hn).2; omega⟩⟩
  | go n => exact ⟨h.1, by have := h.2; omega⟩
  | fin w => exact h
/-- a drawn body, its operations in order -/
structure Base (o : Ops) (rs : List RowD) (b : Nat) : Prop where
  fit : FitB o rs b
  ok : OkB o rs b
  few : rs.length ≤ 6
  nb : opLook o "nobody" = none
/-- some lines, none too long, each one line -/
def LFine (k : Nat) (ls : List Str) : Prop := ls.length ≤ k ∧ ∀ l ∈ ls, l.length ≤ 1000 ∧ 10 ∉ tl l
theorem LFine.append {a b : Nat} {xs ys : List Str} (h : LFine a xs) (g : LFine b ys) : LFine (a + b) (xs ++ ys) := ⟨by rw [List.length_append]; have := h.1; have := g.1; omega, fun l hl => (List.mem_append.mp hl).elim (h.2 l) (g.2 l)⟩
theorem LFine.take {a n : Nat} {xs : List Str} (h : LFine a xs) : LFine a (xs.take n) := ⟨by rw [List.length_take]; have := h.1; omega, fun l hl => h.2 l (List.mem_of_mem_take hl)⟩
theorem LFine.drop {a n : Nat} {xs : List Str} (h : LFine a xs) : LFine a (xs.drop n) := ⟨by rw [List.length_drop]; have := h.1; omega, fun l hl => h.2 l (List.mem_of_mem_drop hl)⟩
theorem LFine.one {l : Str} (h : l.length ≤ 1000) (n : 10 ∉ tl l) : LFine 1 [l] := ⟨Nat.le_refl _, fun x hx => by rw [List.mem_singleton.mp hx]; exact ⟨h, n⟩⟩
theorem LFine.text {k : Nat} {ls : List Str} (h : LFine k ls) (hk : k ≤ 50) : LinesT (textOf ls) ls := lines_joined (by have := h.1; omega) (fun l hl => (h.2 l hl).1) fun l hl => (h.2 l hl).2
section
variable {o : Ops} {rs : List RowD} {b : Nat} {K : PySem.W.Frag} {H : Hp} {x : Str}
theorem Base.fine (B : Base o rs b) : LFine 8 (linesB o rs b) := ⟨by rw [linesB_num]; have := B.few; omega, fun l hl => ⟨linesB_len B.fit l hl, linesB_free B.fit l hl⟩⟩
theorem Base.g0 : (linesB o rs b)[0]? = some (opsL "operations" o) := rfl
theorem Base.g1 : (linesB o rs b)[1]? = some ("start " ++ num (b : Int)) := rfl
theorem Base.gr {i : Nat} {d : RowD} (h : rs[i]? = some d) : (linesB o rs b)[i + 2]? = some (rowL (i : Int) d) := by
  unfold linesB
  show (linesR rs)[i]? = _
  unfold linesR
  rw [List.getElem?_mapIdx, h]
  rfl
theorem Base.sb (B : Base o rs b) : Small (b : Int) := ⟨by omega, by have := B.fit.lt; have := B.few; omega⟩
theorem Base.sn (B : Base o rs b) : Small (rs.length : Int) := ⟨by omega, by have := B.few; omega⟩
theorem Base.ops {gs : List Str} (B : Base o rs b) (h : gs[0]? = (linesB o rs b)[0]?) : OpsAt gs o := ops_at B.fit.few B.fit.nd B.fit.ops (h.trans Base.g0)
theorem Base.st {gs : List Str} (B : Base o rs b) (h : gs[1]? = (linesB o rs b)[1]?) : StartAt gs (b : Int) := start_at B.sb (h.trans Base.g1)
theorem Base.rows {gs : List Str} {k : Nat} (B : Base o rs b) (h : ∀ i, 2 ≤ i → i < k + 2 → gs[i]? = (linesB o rs b)[i]?) : RowsAt gs ((rs.take k).map RowE.of) := rows_at (by rw [List.length_take]; have := B.few; omega) (fun d hd => B.fit.rows d (List.mem_of_mem_take hd)) fun i d hd => by
  have hi : i < k := by
    have := (List.getElem?_eq_some_iff.mp hd).1
    rw [List.length_take] at this
    omega
  rw [List.getElem?_take, if_pos hi] at hd
  exact (h (i + 2) (by omega) (by omega)).trans (Base.gr hd)
theorem Base.all {gs : List Str} (B : Base o rs b) (h : ∀ i, 2 ≤ i → i < rs.length + 2 → gs[i]? = (linesB o rs b)[i]?) : RowsAt gs (rs.map RowE.of) := by
  have := B.rows (k := rs.length) h
  rwa [List.take_length] at this
/-- one line made bad -/
theorem Base.bad (B : Base o rs b) {gs : List Str} {p : Nat} {l : Str} (hx : LinesT x gs) (few : gs.length ≤ 900) (bl : BadL (p + 1) l) (hp : p < rs.length + 2) (at_ : gs[p]? = some l) (h : ∀ i, i < p → gs[i]? = (linesB o rs b)[i]?) : Says K H (.str x) (.at "line" ((p : Int) + 1)) := by
  refine says_bad (o := o) (b := (b : Int)) (rs := rs.take (p - 2)) hx few bl at_ (fun z => B.ops (h 0 z)) (fun z => B.st (h 1 z)) fun z => ⟨by rw [List.length_take]; omega, B.rows fun i h2 hi => h i (by omega)⟩
/-- one line more, a bad one -/
theorem Base.more (B : Base o rs b) {l : Str} (hx : LinesT x (linesB o rs b ++ [l])) (wl : WOk l) (rt : rT (rs.length : Int) l = none) : Says K H (.str x) (.at "line" ((rs.length : Int) + 3)) := by
  have nl := linesB_num o rs b
  have get : ∀ i, i < rs.length + 2 → (linesB o rs b ++ [l])[i]? = (linesB o rs b)[i]? := fun i hi => List.getElem?_append_left (by omega)
  have := Says.line (K := K) (H := H) (o := o) (b := (b : Int)) (es := rs.map RowE.of) (l := l) hx (by rw [List.length_append, nl]; have := B.few; show _ + 1 ≤ _; omega) (B.ops (get 0 (by omega))) (B.st (get 1 (by omega))) (B.all fun i _ hi => get i hi) (by rw [List.length_map, List.getElem?_append_right (by omega), nl, Nat.sub_self]; rfl) wl (by rw [List.length_map]; exact rt)
  rwa [List.length_map] at this
theorem Base.head (B : Base o rs b) (hx : LinesT x ((linesB o rs b).take 1)) : Says K H (.str x) (.at "line" 2) :=
  .b1 hx (by rw [List.length_take]; omega) (B.ops rfl) (.inl rfl)
theorem says_empty : Says K H (.str "") (.at "line" 1) := .b0 (ls := []) ⟨by decide +kernel, by decide, .inl (by decide +kernel)⟩ (by decide) (.inl rfl)
theorem Base.none (B : Base o rs b) (hx : LinesT x ((linesB o rs b).take 2)) : Says K H (.str x) (.at "body" (-1)) :=
  .rows (es := []) hx (by rw [List.length_take]; omega) (B.ops rfl) (B.st rfl) (fun i e h => by simp at h) (by rw [List.length_take, linesB_num]; show min 2 _ = 2; omega) B.ok.ops .none
theorem Base.good (B : Base o rs b) (hx : LinesT x (linesB o rs b)) : Says K H (.str x) .read :=
  .good hx (by rw [linesB_num]; have := B.few; omega) (B.ops rfl) (B.st rfl) (B.all fun _ _ _ => rfl) (linesB_num o rs b) B.ok
/-- a row that is told and is none -/
def oddE (n : Nat) : Option RowE → Bool
  | some (.ask op _) => decide (op = "nobody")
  | some (.two w _) => decide (w = "finish")
  | some (.go k) => decide ((n : Int) + 1 ≤ k)
  | some (.ans _ _) => true
  | none => false
def sixRows (n : Nat) : List Str := ["go " ++ num ((n : Int) + 1), ("finish a" : Str), ("answer 0 a" : Str), ("ask nobody" : Str), ("ask nobody 0" : Str), "go " ++ timesS "9" 30]
theorem six_all : ∀ n < 7, ∀ r ∈ sixRows n, r.length ≤ 100 ∧ 10 ∉ tl (num ((n : Nat) : Int) ++ " " ++ r) ∧ WOk (num ((n : Nat) : Int) ++ " " ++ r) ∧ oddE n (rT ((n : Nat) : Int) (num ((n : Nat) : Int) ++ " " ++ r)) = true := by decide +kernel
theorem Base.odd (B : Base o rs b) {r : Str} (hr : r ∈ sixRows rs.length) (hx : LinesT x (linesB o rs b ++ [num (rs.length : Int) ++ " " ++ r])) : Says K H (.str x) (.at "body" (rs.length : Int)) := by
  obtain ⟨_, _, wl, he⟩ := six_all rs.length (by have := B.few; omega) r hr
  have nl := linesB_num o rs b
  generalize num (rs.length : Int) ++ " " ++ r = l at hx wl he
  have get : ∀ i, i < rs.length + 2 → (linesB o rs b ++ [l])[i]? = (linesB o rs b)[i]? := fun i hi => List.getElem?_append_left (by omega)
  cases ht : rT (rs.length : Int) l with
  | none => rw [ht] at he; cases he
  | some e =>
    rw [ht] at he
    have be : BadE o ((rs.length : Int) + 1) e := by
      cases e with
      | ask op ns =>
        have he : decide (op = "nobody") = true := he
        rw [of_decide_eq_true he]
        exact B.nb
      | two w y =>
        have he : decide (w = "finish") = true := he
        rw [of_decide_eq_true he]
        show ("finish" : Str) ≠ "ask" ∧ ("finish" : Str) ≠ "end" ∧ ("finish" : Str) ≠ "go"
        decide +kernel
      | go k =>
        have he : decide ((rs.length : Int) + 1 ≤ k) = true := he
        exact (of_decide_eq_true he : (rs.length : Int) + 1 ≤ k)
      | ans n y => trivial
    have hl : (linesB o rs b ++ [l])[(rs.map RowE.of).length + 2]? = some l := by rw [List.length_map, List.getElem?_append_right (by omega), nl, Nat.sub_self]; rfl
    exact Says.rows (K := K) (H := H) (o := o) (b := (b : Int)) (es := rs.map RowE.of ++ [e]) hx (by rw [List.length_append, nl]; have := B.few; show _ + 1 ≤ _; omega) (B.ops (get 0 (by omega))) (B.st (get 1 (by omega)))
      (rows_at_snoc (B.all fun i _ hi => get i hi) hl wl (by rw [List.length_map]; exact ht)) (by rw [List.length_append, List.length_append, List.length_map, nl]; rfl) B.ok.ops (.last (by have := B.few; omega) (fun d hd => by
        obtain ⟨i, hi⟩ := List.mem_iff_getElem?.mp hd
        exact (B.ok.rows i d hi).wide (by omega)) be)
theorem Base.far (B : Base o rs b) (hx : LinesT x (((linesB o rs b).take 1 ++ ["start " ++ num (rs.length : Int)]) ++ (linesB o rs b).drop 2)) : Says K H (.str x) (.at "start" (rs.length : Int)) := by
  have e : ((linesB o rs b).take 1 ++ ["start " ++ num (rs.length : Int)]) ++ (linesB o rs b).drop 2 = linesB o rs rs.length := rfl
  rw [e] at hx
  exact .start hx (by rw [linesB_num]; have := B.few; omega) (B.ops rfl) (start_at B.sn Base.g1) (rows_at (by have := B.few; omega) B.fit.rows fun i d h => Base.gr h) (linesB_num o rs rs.length) B.ok.ops B.ok.lo B.ok.hi B.ok.rows (Int.le_refl _)
theorem coin7 : COk "operations" "operations coin 7" ∧ cT "operations" "operations coin 7" = some [(("coin" : Str), (7 : Int))] := by decide +kernel
theorem coin7_bad : OpsBad [(("coin" : Str), (7 : Int))] := by unfold OpsBad; decide +kernel
theorem Base.late (B : Base o rs b) {l : Str} (bl : BadL (rs.length + 3) l) (hx : LinesT x ((([("operations coin 7" : Str), "start " ++ num (rs.length : Int)] : List Str) ++ (linesB o rs b).drop 2) ++ [l])) : Says K H (.str x) (.at "line" ((rs.length : Int) + 3)) := by
  have e : (([("operations coin 7" : Str), "start " ++ num (rs.length : Int)] : List Str) ++ (linesB o rs b).drop 2) ++ [l] = (("operations coin 7" : Str) :: ("start " ++ num (rs.length : Int)) :: linesR rs) ++ [l] := rfl
  rw [e] at hx
  have nl : (("operations coin 7" : Str) :: ("start " ++ num (rs.length : Int)) :: linesR rs).length = rs.length + 2 := linesB_num o rs b
  have := says_bad (K := K) (H := H) (p := rs.length + 2) (o := [(("coin" : Str), (7 : Int))]) (b := (rs.length : Int)) (rs := rs) hx (by rw [List.length_append, nl]; have := B.few; show _ + 1 ≤ _; omega) bl (by rw [List.getElem?_append_right (by omega), nl, Nat.sub_self]; rfl) (fun _ => ⟨_, rfl, coin7.1, coin7.2⟩) (fun _ => start_at B.sn rfl)
    fun _ => ⟨rfl, rows_at (by have := B.few; omega) B.fit.rows fun i d h => by
      have hi := (List.getElem?_eq_some_iff.mp h).1
      rw [List.getElem?_append_left (by omega)]
      exact Base.gr (o := o) (b := b) h⟩
  have e2 : ((rs.length + 2 : Nat) : Int) + 1 = (rs.length : Int) + 3 := by omega
  rwa [e2] at this
theorem Base.seven (B : Base o rs b) (hx : LinesT x (([("operations coin 7" : Str)] : List Str) ++ (linesB o rs b).drop 1)) : Says K H (.str x) .ops := by
  have e : ([("operations coin 7" : Str)] : List Str) ++ (linesB o rs b).drop 1 = ("operations coin 7" : Str) :: ("start " ++ num (b : Int)) :: linesR rs := rfl
  rw [e] at hx
  have nl : (("operations coin 7" : Str) :: ("start " ++ num (b : Int)) :: linesR rs).length = rs.length + 2 := linesB_num o rs b
  exact .ops (es := rs.map RowE.of) hx (by rw [nl]; have := B.few; omega) ⟨_, rfl, coin7.1, coin7.2⟩ (start_at B.sb rfl) (rows_at (by have := B.few; omega) B.fit.rows fun i d h => Base.gr (o := o) (b := b) h) (by rw [List.length_map]; exact nl) coin7_bad
end
end Mine

set_option maxRecDepth 100000
set_option maxHeartbeats 4000000
namespace Mine
open PySem L2 TL
abbrev s_ops_line : Stmt := top 55
abbrev s_row_line : Stmt := top 56
abbrev s_body_lines : Stmt := top 57
abbrev s_joined : Stmt := top 58
theorem strOk_of {x : Str} (h : ∀ c ∈ tl x, c ≤ 122) : PyData.strOk x = true := by
  unfold PyData.strOk
  rw [← Array.all_toList]
  exact List.all_eq_true.mpr fun c hc => decide_eq_true (Nat.lt_of_le_of_lt (h c hc) (by decide))
theorem opT_ok {p : Str × Int} (h : OpT p) : PyData.strOk (opT p) = true := strOk_of fun c hc => by
  have := (op_ok h).2 c hc
  omega
theorem strs_ne {ss : List Str} : PyData.eqv (.list (ss.map PyData.str)) (.list []) = decide (ss = []) := by
  cases ss with
  | nil => simp [PyData.eqv, PyData.eqvAll]
  | cons x r => simp [PyData.eqv, PyData.eqvAll]
section
variable {P : Program} {w : World} {K : PySem.W.Frag} {mg : Str → Option Value} {base : Heap}
variable {fII fIW : Addr}
theorem sc__law_joined : FnScope ["_law_lines", "_law_line"] ["_law_lines"] (defScope s_joined) := ⟨rfl, rfl, rfl, by decide +kernel, rfl, by decide +kernel, by decide +kernel⟩

theorem ok_joinedL {f : Addr} {fd : FuncData} (F : Fun K "_law_joined" "_law_joined" s_joined f fd) : FnOk P w K mg base CX0 1 f fd ["_law_lines"] spTextOf := by
  refine F.ok sc__law_joined (fun vs H Q E h => ?_) (fun cdv A outer s H vs Q E hr h => ?_)
  · obtain ⟨a, ls, rfl, _⟩ := h
    rfl
  · obtain ⟨a, ls, rfl, ha, few, sm, k⟩ := h
    refine ⟨_, (pss_one (ps_ret (pe_join pe_str (pe_lc (own := [("_law_line", 1)]) (g := (gName 1)) (tt := tYes) rfl sc__law_joined.nd (pi_list (pv 0)) (blkOk_by (own := [("_law_line", 1)]) (N := ["_law_lines", "_law_line"]) (sc := defScope s_joined) (by decide +kernel)) (fun _ _ _ _ _ => (pg_name (i := 1) sc__law_joined.nd rfl (Or.inl rfl))) (fun _ _ _ _ _ => pts_nil) (fun _ _ _ _ _ => (pe_op op_add_str (pv 1) pe_str)))))), ?_⟩
    refine ⟨⟨_, rfl⟩, _, rfl, a, rfl, ⟨_, SqL.of ha⟩, fun D nD => lc_it (walk_list (xs := ls.map V.str)) (fun i Hx => Same H Hx ∧ Hx D = some (.lst (((ls.map fun l => l ++ ("\n" : Str)).take i).map V.str))) ⟨sameNew nD _, upd_same⟩ (fun i Hx _ z => SqL.of (z.1 _ _ ha)) (fun i y Ha Hb hi z1 z2 => ?_) fun Hx z => ?_⟩
    · obtain ⟨sx, ex⟩ := z1
      obtain ⟨rfl, hy⟩ := z2
      have hi2 : i < ls.length := by rw [List.length_map] at hi; exact hi
      have el : ls[i]? = some ls[i] := List.getElem?_eq_getElem hi2
      have ml := List.mem_of_getElem? el
      generalize ls[i] = l at el ml
      have hy : (ls.map V.str)[i]? = some y := hy
      rw [List.getElem?_map, el] at hy
      have hy := Option.some.inj hy
      subst hy
      refine ⟨rfl, _, rfl, _, _, rfl, rfl, ?_, ?_⟩
      · have := sm l ml
        rw [sizeLine_eq, show ("\n" : Str).length = 1 by decide +kernel]
        omega
      · exact str_step nD sx ex (Same.refl _) (by rw [List.getElem?_map, el]; rfl) (by rw [List.length_map]; omega)
    · obtain ⟨sx, ex⟩ := z
      have ex : Hx D = some (.lst (((ls.map fun l => l ++ ("\n" : Str)).take (ls.map V.str).length).map V.str)) := ex
      rw [List.take_of_length_le (by rw [List.length_map, List.length_map]; exact Nat.le_refl _)] at ex
      exact ⟨"", D, _, rfl, rfl, .inl (SqL.of ex), lf_len few sm, k _ sx⟩

theorem sc__law_operations_line : FnScope ["_law_word", "_law_operations_here", "_law_some", "_law_name"] ["_law_word", "_law_operations_here"] (defScope s_ops_line) := ⟨rfl, rfl, rfl, by decide +kernel, rfl, by decide +kernel, by decide +kernel⟩

theorem ok_ops_line {f : Addr} {fd : FuncData} (F : Fun K "_law_operations_line" "_law_operations_line" s_ops_line f fd) (T : TxtF K mg fII fIW) (h_sorted : mg "sorted" = none) : FnOk P w K mg base CX0 1 f fd ["_law_word", "_law_operations_here"] spCountsLine := by
  refine F.ok sc__law_operations_line (fun vs H Q E h => ?_) (fun cdv A outer s H vs Q E hr h => ?_)
  · obtain ⟨d, wd, o, rfl, _⟩ := h
    rfl
  · obtain ⟨d, wd, o, rfl, hd, nd, few, okT, wl, k⟩ := h
    refine ⟨_, (pss_cons (ps_setLc (i := 2) (own := [("_law_name", 3)]) (g := (gName 3)) (tt := tYes) rfl sc__law_operations_line.nd rfl rfl (sw_true rfl rfl rfl rfl) (pi_list (pe_callB cr_sortedS (by rfl) h_sorted (by decide +kernel) (pa_cons (pe_callTy (call_listD rfl) (by rfl) T.b_list (by decide +kernel) (pa_cons (pv 1) pa_nil)) pa_nil))) (blkOk_by (own := [("_law_name", 3)]) (N := ["_law_word", "_law_operations_here", "_law_some", "_law_name"]) (sc := defScope s_ops_line) (by decide +kernel)) (fun _ _ _ _ _ => (pg_name (i := 3) sc__law_operations_line.nd rfl (Or.inl rfl))) (fun _ _ _ _ _ => pts_nil) (fun _ _ _ _ _ => (pe_op op_add_str (pe_op op_add_str (pv 3) pe_str) (pe_callTy call_str_int (by rfl) T.b_str (by decide +kernel) (pa_cons (pe_dget (hu_of hr) (pv 1) (pv 3) (fun _ _ => rfl)) pa_nil)))))
      (pss_one (ps_ret (pe_op op_add_str (pv 0) (pe_ifExp (pt_cmpR (op_neD hr.units) (pv 2) (pe_lstG pa_nil) (nomark _)) (pe_op op_add_str pe_str (pe_join pe_str (pv 2))) pe_str))))), ?_⟩
    refine ⟨_, rfl, d, _, rfl, .inl hd, fun p0 np0 => ?_⟩
    have sp0 := sameNew np0 (.lst ((opsK o).map fun kv => kV kv.1))
    have ep0 : upd H p0 (.lst ((opsK o).map fun kv => kV kv.1)) p0 = some (.lst ((opsK o).map fun kv => kV kv.1)) := upd_same
    generalize upd H p0 (.lst ((opsK o).map fun kv => kV kv.1)) = X0 at sp0 ep0 ⊢
    have keys : ((opsK o).map fun kv => kV kv.1) = (o.map (·.1)).map V.str := by
      unfold opsK
      rw [List.map_map, List.map_map]
      rfl
    refine ⟨p0, o.map (·.1), rfl, SqL.of (by rw [ep0, keys]), by rw [List.length_map]; omega, fun ys p perm srt np => ?_⟩
    have nd2 : ys.Nodup := perm.nodup_iff.mpr nd
    have yl : ys.length ≤ 8 := by
      have := perm.length_eq
      rw [List.length_map] at this
      omega
    have ord : Ordered o (pick o ys) := ⟨pick_perm nd perm, by rw [pick_names]; exact srt⟩
    have okP : ∀ q ∈ pick o ys, OpT q := fun q hq => okT q ((pick_perm nd perm).mem_iff.mp hq)
    have sp := sp0.trans (sameNew np (.lst (ys.map V.str)))
    have ep : upd X0 p (.lst (ys.map V.str)) p = some (.lst (ys.map V.str)) := upd_same
    generalize upd X0 p (.lst (ys.map V.str)) = X1 at sp ep ⊢
    refine ⟨p, rfl, ⟨_, SqL.of ep⟩, fun D nD => ?_⟩
    refine lc_it (walk_list (xs := ys.map V.str)) (fun i Hx => Same X1 Hx ∧ Hx D = some (.lst ((((pick o ys).map opT).take i).map V.str))) ⟨sameNew nD _, upd_same⟩ (fun i Hx _ z => SqL.of (z.1 _ _ ep)) (fun i y Ha Hb hi z1 z2 => ?_) (fun Hx z => ?_)
    · obtain ⟨sx, ex⟩ := z1
      obtain ⟨rfl, hy⟩ := z2
      have hi2 : i < ys.length := by rw [List.length_map] at hi; exact hi
      have el : ys[i]? = some ys[i] := List.getElem?_eq_getElem hi2
      have ml := List.mem_of_getElem? el
      generalize ys[i] = l at el ml
      have hy : (ys.map V.str)[i]? = some y := hy
      rw [List.getElem?_map, el] at hy
      have hy := Option.some.inj hy
      subst hy
      have my : l ∈ o.map (·.1) := perm.mem_iff.mp ml
      have eq : (pick o ys)[i]? = some (l, lookI o l) := by unfold pick; rw [List.getElem?_map, el]; rfl
      obtain ⟨hn, hs⟩ := okP _ (List.mem_of_getElem? eq)
      have hn : l.length ≤ 8 := (nm_let hn).2.2
      have hz : (num (lookI o l)).length ≤ 3 := num_len hs
      have b2 : (l ++ " " : Str).length ≤ 9 := app_len (by rw [sp_len]; omega)
      refine ⟨rfl, _, rfl, l, " ", rfl, rfl, line_ok (by rw [sp_len]; omega), _, rfl, _, rfl, d, _, rfl, .inl ⟨opsK o, .inr l, .inl (sx _ _ (sp _ _ hd)), rfl, (by rw [val_ops, look_some nd my]; rfl)⟩, _, rfl, num_log hs, l ++ " ", num (lookI o l), rfl, rfl, line_ok (by omega), ?_⟩
      exact str_step nD sx ex (Same.refl _) (by rw [List.getElem?_map, eq]; rfl) (by unfold pick; rw [List.length_map, List.length_map]; omega)
    · obtain ⟨sx, ex⟩ := z
      have ex : Hx D = some (.lst ((((pick o ys).map opT).take (ys.map V.str).length).map V.str)) := ex
      rw [List.take_of_length_le (by unfold pick; rw [List.length_map, List.length_map, List.length_map]; exact Nat.le_refl _)] at ex
      have le : ((pick o ys).map opT).length ≤ 8 := by unfold pick; rw [List.length_map, List.length_map]; exact yl
      have jl := joinS_len (ss := (pick o ys).map opT) (y := ", ") (k := 12) le fun l hl => by
        obtain ⟨q, hq, rfl⟩ := List.mem_map.mp hl
        exact (op_ok (okP q hq)).1
      have cl : (", " : Str).length = 2 := by decide +kernel
      rw [cl] at jl
      have jl2 := Nat.le_trans (join_len ", " ((pick o ys).map opT)) (by rw [cl]; exact jl)
      refine ⟨_, rfl, _, rfl, Nat.zero_le _, fun L X2 n2 s2 e2 => ?_⟩
      have sA : Same H X2 := sp.trans (sx.trans s2)
      refine ⟨.list (((pick o ys).map opT).map PyData.str), .list [], strs_dp (s2 _ _ ex), .lst (SqL.of e2) .nil, strs_shaped _ (fun t ht => by
        obtain ⟨q, hq, rfl⟩ := List.mem_map.mp ht
        exact opT_ok (okP q hq)), by decide +kernel, _, rfl, ?_⟩
      rw [strs_ne]
      cases ye : (pick o ys) with
      | nil =>
        refine iteF ?_
        have e : opsL wd (pick o ys) = wd ++ "" := by
          rw [ye]
          refine (ext_tl ?_).symm
          rw [tl_append, show tl ("" : Str) = [] by decide +kernel, List.append_nil]
          rfl
        have := k _ ord X2 sA
        rw [e] at this
        exact ⟨wd, "", rfl, rfl, line_ok (by rw [show ("" : Str).length = 0 by decide +kernel]; omega), this⟩
      | cons q r =>
        refine iteT ?_
        rw [ye] at ex jl jl2 ord
        refine ⟨⟨_, rfl⟩, _, rfl, ", ", D, (q :: r).map opT, rfl, rfl, .inl (SqL.of (s2 _ _ ex)), by rw [cl]; omega, " ", _, rfl, rfl, line_ok (by rw [sp_len]; omega), ?_⟩
        have b2 : (" " ++ Txt.join ", " ((q :: r).map opT)).length ≤ 200 := app_len (by rw [sp_len]; omega)
        have := k _ ord X2 sA
        have e : opsL wd (q :: r) = wd ++ (" " ++ Txt.join ", " ((q :: r).map opT)) := by
          unfold opsL
          rw [if_neg (fun z => nomatch z)]
          exact ext_tl (by simp only [tl_append, List.append_assoc])
        rw [e] at this
        exact ⟨wd, _, rfl, rfl, line_ok (by omega), this⟩
theorem sc__law_row_line : FnScope ["_law_index", "_law_row", "_law_parts", "_law_part", "_law_one_here"] ["_law_index", "_law_row"] (defScope s_row_line) := ⟨rfl, rfl, rfl, by decide +kernel, rfl, by decide +kernel, by decide +kernel⟩

theorem btTupA {K : PySem.W.Frag} {H : Hp} {a : Addr} {xs : List V} (h : H a = some (.tup xs)) : Bt K H (.ref a) "tuple" := ⟨.base (.tup h), by decide⟩
def rowV (d : RowD) : List V := match d with
  | .ask op _ => [.str "ask", .str op]
  | .go n => [.str "go", .int n]
  | .fin w => [.str "end", .str w]
def spRowLine : Sp := fun vs H Q _ => ∃ (i : Int) (v : V) (d : RowD), vs = [.int i, v] ∧ Small i ∧ TRow H v d ∧ RowT d ∧ ∀ H', Same H H' → Q (.str (rowL i d)) H'
theorem ok_row_line {f : Addr} {fd : FuncData} (F : Fun K "_law_row_line" "_law_row_line" s_row_line f fd) (T : TxtF K mg fII fIW) : FnOk P w K mg base CX0 1 f fd ["_law_index", "_law_row"] spRowLine := by
  refine F.ok sc__law_row_line (fun vs H Q E h => ?_) (fun cdv A outer s H vs Q E hr h => ?_)
  · obtain ⟨i, v, d, rfl, _⟩ := h
    rfl
  · obtain ⟨i, v, d, rfl, si, hv, ht, k⟩ := h
    refine ⟨_, (pss_cons (ps_set (i := 2) sc__law_row_line.nd rfl (Or.inl rfl) (pe_lstG (pa_cons (pe_callTy (CallR.or call_str_int SkE.call_str_str) (by rfl) T.b_str (by decide +kernel) (pa_cons (pv 0) pa_nil)) (pa_cons (pe_ix ix_tup (pv 1) pe_int (fun _ _ => rfl)) pa_nil))))
      (pss_cons (ps_for PassesOwn.never rfl (pi_tup (pe_slice sl_tup (pv 1) (po_some pe_int) po_none)) (pg_name (i := 3) sc__law_row_line.nd rfl (Or.inl rfl)) (pss_one (ps_set (i := 2) sc__law_row_line.nd rfl (Or.inl rfl) (pe_op op_catG (pv 2) (pe_lc (own := [("_law_one_here", 4)]) (g := (gName 4)) (tt := tYes) rfl sc__law_row_line.nd (pi_seq (pe_ifExp (pt_val (pe_callB call_isi (by rfl) T.b_isinstance (by decide +kernel) (pa_cons (pv 3) (pa_cons (pe_bltn (v := .ty "tuple") rfl T.b_tuple (by decide +kernel) rfl) pa_nil)))) (pv 3) (pe_lstG (pa_cons (pv 3) pa_nil)))) (blkOk_by (own := [("_law_one_here", 4)]) (N := ["_law_index", "_law_row", "_law_parts", "_law_part", "_law_one_here"]) (sc := defScope s_row_line) (by decide +kernel)) (fun _ _ _ _ _ => (pg_name (i := 4) sc__law_row_line.nd rfl (Or.inl rfl))) (fun _ _ _ _ _ => pts_nil) (fun _ _ _ _ _ => (pe_callTy (CallR.or call_str_int SkE.call_str_str) (by rfl) T.b_str (by decide +kernel) (pa_cons (pv 4) pa_nil))))))))
      (pss_one (ps_ret (pe_join pe_str (pv 2)))))), ?_⟩
    cases d with
    | ask op ns =>
      obtain ⟨a, t, rfl, h1, h2⟩ := hv
      refine ⟨_, rfl, .inl ⟨i, rfl, num_log si, _, rfl, a, _, 0, _, rfl, rfl, SqT.of h1, rfl, by show 2 ≤ sizeLine; decide, fun p1 X1 n1 s1 e1 => ?_⟩⟩
      refine ⟨_, rfl, 1, rfl, a, _, rfl, SqT.of (s1 _ _ h1), (show ¬ (HT.sIx 3 0 (some (1 : Int)) = 0 ∧ HT.sIx 3 3 none = 3) from by decide), fun p2 np2 => ?_⟩
      have s2 := s1.trans (sameNew np2 (.tup [.str op, .ref t]))
      have e2 : upd X1 p2 (.tup [.str op, .ref t]) p2 = some (.tup [.str op, .ref t]) := upd_same
      have e3 : upd X1 p2 (.tup [.str op, .ref t]) p1 = some (.lst (([num i, "ask"] : List Str).map V.str)) := sameNew np2 _ _ _ e1
      refine ⟨p2, rfl, ⟨_, SqT.of e2⟩, ?_⟩
      change ∃ W : Nat → Nat → St → Hp → Prop, (∃ m, W 0 m _ (upd X1 p2 (.tup [.str op, .ref t]))) ∧ _
      generalize upd X1 p2 (.tup [.str op, .ref t]) = X2 at s2 e2 e3 ⊢
      have h2' := s2 _ _ h2
      refine for_tup (K := K) (a := p2) (xs := [.str op, .ref t]) (fun j σ Hx => ∃ pp v3 v4, σ = [some (.int i), some (.ref a), some (.ref pp), v3, v4] ∧ Same X2 Hx ∧ Hx pp = some (.lst (((match j with | 0 => [num i, "ask"] | 1 => [num i, "ask", op] | _ => num i :: "ask" :: op :: ns.map num : List Str)).map V.str))) ⟨p1, _, _, rfl, Same.refl _, e3⟩ (fun j σ Hz _ z => by obtain ⟨_, _, _, _, sa, _⟩ := z; exact SqT.of (sa _ _ e2)) ?_ ?_
      · rintro j y σ Hz hj ⟨pp, v3, v4, rfl, sa, ep⟩
        match j, hj with
        | 0, hj =>
          have hj := Option.some.inj hj
          subst hj
          refine ⟨_, rfl, .inl ⟨_, rfl, _, _, _, _, _, rfl, .ty _, (btStr (K := K) (H := Hz) op).ty, (btStr (K := K) (H := Hz) op).kit (u := "tuple") (by decide), _, rfl, ?_⟩⟩
          rw [show kb "str" "tuple" = false by decide]
          refine iteF ?_
          refine ⟨_, rfl, by show 1 ≤ sizeLine; decide, fun q1 Y1 m1 r1 g1 => ?_⟩
          refine ⟨q1, rfl, ⟨_, SqL.of g1⟩, fun D nD => lc_it (walk_list (xs := [.str op])) (fun j Hx => Same Y1 Hx ∧ Hx D = some (.lst ((([op] : List Str).take j).map V.str))) ⟨sameNew nD _, upd_same⟩ (fun j Hx _ z => SqL.of (z.1 _ _ g1)) (fun j y Ha Hb hj z1 z2 => ?_) fun Hx z => ?_⟩
          · obtain ⟨sx, ex⟩ := z1
            obtain ⟨rfl, hy⟩ := z2
            match j, hj, hy with
            | 0, _, hy =>
              have hy := Option.some.inj hy
              subst hy
              exact ⟨rfl, _, rfl, .inr ⟨_, rfl, str_step nD sx ex (Same.refl _) rfl (by show 1 ≤ 100000; decide)⟩⟩
          · obtain ⟨sx, ex⟩ := z
            refine ⟨pp, D, _, _, rfl, rfl, sx _ _ (r1 _ _ ep), ex, by show 3 ≤ sizeLine; decide, fun p3 Z2 m2 r2 g2 => ?_⟩
            exact ⟨p3, _, _, rfl, sa.trans (r1.trans (sx.trans r2)), g2⟩
        | 1, hj =>
          have hj := Option.some.inj hj
          subst hj
          refine ⟨_, rfl, .inr ⟨_, rfl, _, _, _, _, _, rfl, .ty _, (btTupA (K := K) (sa _ _ h2')).ty, (btTupA (K := K) (sa _ _ h2')).kit (u := "tuple") (by decide), _, rfl, ?_⟩⟩
          rw [show kb "tuple" "tuple" = true by decide]
          refine iteT ?_
          refine ⟨_, rfl, t, rfl, ⟨_, SqT.of (sa _ _ h2')⟩, fun D nD => lc_it (walk_tup (xs := ns.map V.int)) (fun j Hx => Same Hz Hx ∧ Hx D = some (.lst (((ns.map num).take j).map V.str))) ⟨sameNew nD _, upd_same⟩ (fun j Hx _ z => SqT.of (z.1 _ _ (sa _ _ h2'))) (fun j y Ha Hb hj z1 z2 => ?_) fun Hx z => ?_⟩
          · obtain ⟨sx, ex⟩ := z1
            obtain ⟨rfl, hy⟩ := z2
            have hi2 : j < ns.length := by rw [List.length_map] at hj; exact hj
            have el : ns[j]? = some ns[j] := List.getElem?_eq_getElem hi2
            have ml := List.mem_of_getElem? el
            generalize ns[j] = n at el ml
            have hy : (ns.map V.int)[j]? = some y := hy
            rw [List.getElem?_map, el] at hy
            have hy := Option.some.inj hy
            subst hy
            refine ⟨rfl, _, rfl, .inl ⟨n, rfl, num_log (ht.2.2 n ml), ?_⟩⟩
            exact str_step nD sx ex (Same.refl _) (by rw [List.getElem?_map, el]; rfl) (by rw [List.length_map]; have := ht.2.1; omega)
          · obtain ⟨sx, ex⟩ := z
            have ex : Hx D = some (.lst (((ns.map num).take (ns.map V.int).length).map V.str)) := ex
            rw [List.take_of_length_le (by rw [List.length_map, List.length_map]; exact Nat.le_refl _)] at ex
            refine ⟨pp, D, _, _, rfl, rfl, sx _ _ ep, ex, by
            rw [sizeLine_eq]
            show 3 + ((ns.map num).map V.str).length ≤ _
            rw [List.length_map, List.length_map]
            have := ht.2.1
            omega, fun p3 Z2 m2 r2 g2 => ?_⟩
            refine ⟨p3, _, _, rfl, sa.trans (sx.trans r2), ?_⟩
            rw [g2]
            rfl
      · rintro σ Hz ⟨pp, v3, v4, rfl, sa, ep⟩
        have ep : Hz pp = some (.lst ((num i :: rowParts (.ask op ns)).map V.str)) := ep
        have jl := joinS_len (ss := num i :: rowParts (.ask op ns)) (y := " ") (k := 8) (n := 9) (by have := parts_len (d := .ask op ns) ht; rw [List.length_cons]; omega) fun l hl => (List.mem_cons.mp hl).elim (fun z => by rw [z]; exact Nat.le_trans (num_len si) (by decide)) fun z => (part_ok (d := .ask op ns) ht l z).1
        rw [sp_len] at jl
        exact ⟨⟨_, rfl⟩, _, rfl, " ", pp, num i :: rowParts (.ask op ns), rfl, rfl, .inl (SqL.of ep), by rw [sp_len]; omega, k _ (s2.trans sa)⟩
    | go n =>
      obtain ⟨a, rfl, h1⟩ := hv
      refine ⟨_, rfl, .inl ⟨i, rfl, num_log si, _, rfl, a, _, 0, _, rfl, rfl, SqT.of h1, rfl, by show 2 ≤ sizeLine; decide, fun p1 X1 n1 s1 e1 => ?_⟩⟩
      refine ⟨_, rfl, 1, rfl, a, _, rfl, SqT.of (s1 _ _ h1), (show ¬ (HT.sIx 2 0 (some (1 : Int)) = 0 ∧ HT.sIx 2 2 none = 2) from by decide), fun p2 np2 => ?_⟩
      have s2 := s1.trans (sameNew np2 (.tup [.int n]))
      have e2 : upd X1 p2 (.tup [.int n]) p2 = some (.tup [.int n]) := upd_same
      have e3 : upd X1 p2 (.tup [.int n]) p1 = some (.lst (([num i, "go"] : List Str).map V.str)) := sameNew np2 _ _ _ e1
      refine ⟨p2, rfl, ⟨_, SqT.of e2⟩, ?_⟩
      change ∃ W : Nat → Nat → St → Hp → Prop, (∃ m, W 0 m _ (upd X1 p2 (.tup [.int n]))) ∧ _
      generalize upd X1 p2 (.tup [.int n]) = X2 at s2 e2 e3 ⊢
      refine for_tup (K := K) (a := p2) (xs := [.int n]) (fun j σ Hx => ∃ pp v3 v4, σ = [some (.int i), some (.ref a), some (.ref pp), v3, v4] ∧ Same X2 Hx ∧ Hx pp = some (.lst (((match j with | 0 => [num i, "go"] | _ => [num i, "go", num n] : List Str)).map V.str))) ⟨p1, _, _, rfl, Same.refl _, e3⟩ (fun j σ Hz _ z => by obtain ⟨_, _, _, _, sa, _⟩ := z; exact SqT.of (sa _ _ e2)) ?_ ?_
      · rintro j y σ Hz hj ⟨pp, v3, v4, rfl, sa, ep⟩
        match j, hj with
        | 0, hj =>
          have hj := Option.some.inj hj
          subst hj
          refine ⟨_, rfl, .inl ⟨_, rfl, _, _, _, _, _, rfl, .ty _, (btInt (K := K) (H := Hz) n).ty, (btInt (K := K) (H := Hz) n).kit (u := "tuple") (by decide), _, rfl, ?_⟩⟩
          rw [show kb "int" "tuple" = false by decide]
          refine iteF ?_
          refine ⟨_, rfl, by show 1 ≤ sizeLine; decide, fun q1 Y1 m1 r1 g1 => ?_⟩
          refine ⟨q1, rfl, ⟨_, SqL.of g1⟩, fun D nD => lc_it (walk_list (xs := [.int n])) (fun j Hx => Same Y1 Hx ∧ Hx D = some (.lst ((([num n] : List Str).take j).map V.str))) ⟨sameNew nD _, upd_same⟩ (fun j Hx _ z => SqL.of (z.1 _ _ g1)) (fun j y Ha Hb hj z1 z2 => ?_) fun Hx z => ?_⟩
          · obtain ⟨sx, ex⟩ := z1
            obtain ⟨rfl, hy⟩ := z2
            match j, hj, hy with
            | 0, _, hy =>
              have hy := Option.some.inj hy
              subst hy
              exact ⟨rfl, _, rfl, .inl ⟨_, rfl, num_log ht, str_step nD sx ex (Same.refl _) rfl (by show 1 ≤ 100000; decide)⟩⟩
          · obtain ⟨sx, ex⟩ := z
            refine ⟨pp, D, _, _, rfl, rfl, sx _ _ (r1 _ _ ep), ex, by show 3 ≤ sizeLine; decide, fun p3 Z2 m2 r2 g2 => ?_⟩
            exact ⟨p3, _, _, rfl, sa.trans (r1.trans (sx.trans r2)), g2⟩
      · rintro σ Hz ⟨pp, v3, v4, rfl, sa, ep⟩
        have ep : Hz pp = some (.lst ((num i :: rowParts (.go n)).map V.str)) := ep
        have jl := joinS_len (ss := num i :: rowParts (.go n)) (y := " ") (k := 8) (n := 9) (by have := parts_len (d := .go n) ht; rw [List.length_cons]; omega) fun l hl => (List.mem_cons.mp hl).elim (fun z => by rw [z]; exact Nat.le_trans (num_len si) (by decide)) fun z => (part_ok (d := .go n) ht l z).1
        rw [sp_len] at jl
        exact ⟨⟨_, rfl⟩, _, rfl, " ", pp, num i :: rowParts (.go n), rfl, rfl, .inl (SqL.of ep), by rw [sp_len]; omega, k _ (s2.trans sa)⟩
    | fin x =>
      obtain ⟨a, rfl, h1⟩ := hv
      refine ⟨_, rfl, .inl ⟨i, rfl, num_log si, _, rfl, a, _, 0, _, rfl, rfl, SqT.of h1, rfl, by show 2 ≤ sizeLine; decide, fun p1 X1 n1 s1 e1 => ?_⟩⟩
      refine ⟨_, rfl, 1, rfl, a, _, rfl, SqT.of (s1 _ _ h1), (show ¬ (HT.sIx 2 0 (some (1 : Int)) = 0 ∧ HT.sIx 2 2 none = 2) from by decide), fun p2 np2 => ?_⟩
      have s2 := s1.trans (sameNew np2 (.tup [.str x]))
      have e2 : upd X1 p2 (.tup [.str x]) p2 = some (.tup [.str x]) := upd_same
      have e3 : upd X1 p2 (.tup [.str x]) p1 = some (.lst (([num i, "end"] : List Str).map V.str)) := sameNew np2 _ _ _ e1
      refine ⟨p2, rfl, ⟨_, SqT.of e2⟩, ?_⟩
      change ∃ W : Nat → Nat → St → Hp → Prop, (∃ m, W 0 m _ (upd X1 p2 (.tup [.str x]))) ∧ _
      generalize upd X1 p2 (.tup [.str x]) = X2 at s2 e2 e3 ⊢
      refine for_tup (K := K) (a := p2) (xs := [.str x]) (fun j σ Hx => ∃ pp v3 v4, σ = [some (.int i), some (.ref a), some (.ref pp), v3, v4] ∧ Same X2 Hx ∧ Hx pp = some (.lst (((match j with | 0 => [num i, "end"] | _ => [num i, "end", x] : List Str)).map V.str))) ⟨p1, _, _, rfl, Same.refl _, e3⟩ (fun j σ Hz _ z => by obtain ⟨_, _, _, _, sa, _⟩ := z; exact SqT.of (sa _ _ e2)) ?_ ?_
      · rintro j y σ Hz hj ⟨pp, v3, v4, rfl, sa, ep⟩
        match j, hj with
        | 0, hj =>
          have hj := Option.some.inj hj
          subst hj
          refine ⟨_, rfl, .inl ⟨_, rfl, _, _, _, _, _, rfl, .ty _, (btStr (K := K) (H := Hz) x).ty, (btStr (K := K) (H := Hz) x).kit (u := "tuple") (by decide), _, rfl, ?_⟩⟩
          rw [show kb "str" "tuple" = false by decide]
          refine iteF ?_
          refine ⟨_, rfl, by show 1 ≤ sizeLine; decide, fun q1 Y1 m1 r1 g1 => ?_⟩
          refine ⟨q1, rfl, ⟨_, SqL.of g1⟩, fun D nD => lc_it (walk_list (xs := [.str x])) (fun j Hx => Same Y1 Hx ∧ Hx D = some (.lst ((([x] : List Str).take j).map V.str))) ⟨sameNew nD _, upd_same⟩ (fun j Hx _ z => SqL.of (z.1 _ _ g1)) (fun j y Ha Hb hj z1 z2 => ?_) fun Hx z => ?_⟩
          · obtain ⟨sx, ex⟩ := z1
            obtain ⟨rfl, hy⟩ := z2
            match j, hj, hy with
            | 0, _, hy =>
              have hy := Option.some.inj hy
              subst hy
              exact ⟨rfl, _, rfl, .inr ⟨_, rfl, str_step nD sx ex (Same.refl _) rfl (by show 1 ≤ 100000; decide)⟩⟩
          · obtain ⟨sx, ex⟩ := z
            refine ⟨pp, D, _, _, rfl, rfl, sx _ _ (r1 _ _ ep), ex, by show 3 ≤ sizeLine; decide, fun p3 Z2 m2 r2 g2 => ?_⟩
            exact ⟨p3, _, _, rfl, sa.trans (r1.trans (sx.trans r2)), g2⟩
      · rintro σ Hz ⟨pp, v3, v4, rfl, sa, ep⟩
        have ep : Hz pp = some (.lst ((num i :: rowParts (.fin x)).map V.str)) := ep
        have jl := joinS_len (ss := num i :: rowParts (.fin x)) (y := " ") (k := 8) (n := 9) (by have := parts_len (d := .fin x) ht; rw [List.length_cons]; omega) fun l hl => (List.mem_cons.mp hl).elim (fun z => by rw [z]; exact Nat.le_trans (num_len si) (by decide)) fun z => (part_ok (d := .fin x) ht l z).1
        rw [sp_len] at jl
        exact ⟨⟨_, rfl⟩, _, rfl, " ", pp, num i :: rowParts (.fin x), rfl, rfl, .inl (SqL.of ep), by rw [sp_len]; omega, k _ (s2.trans sa)⟩
def spBodyLines : Sp := fun vs H Q _ => ∃ (d l : Addr) (o : Ops) (rs : List RowD) (b : Nat) (xs : List V), vs = [.ref d, .ref l, .int (b : Int)] ∧ H d = some (.dK (opsK o)) ∧ H l = some (.lst xs) ∧ Rows H xs rs ∧ FitB o rs b ∧ ∀ o', Ordered o o' → New H (.lst ((linesB o' rs b).map V.str)) Q
theorem sc__law_body_lines : FnScope ["_law_operations_here", "_law_rows_here", "_law_begin", "_law_lines", "_law_index", "_law_row"] ["_law_operations_here", "_law_rows_here", "_law_begin"] (defScope s_body_lines) := ⟨rfl, rfl, rfl, by decide +kernel, rfl, by decide +kernel, by decide +kernel⟩

theorem ok_body_lines {f a_ol a_rl : Addr} {fd fd_ol fd_rl : FuncData} (F : Fun K "_law_body_lines" "_law_body_lines" s_body_lines f fd) (T : TxtF K mg fII fIW) (h_enum : mg "enumerate" = none)
    (G__law_operations_line : FnOk P w K mg base CX0 1 a_ol fd_ol ["_law_word", "_law_operations_here"] spCountsLine) (b__law_operations_line : Binds K fd_ol ["_law_word", "_law_operations_here"] []) (g__law_operations_line : mg "_law_operations_line" = some (.ref a_ol)) (k__law_operations_line : PySem.W.keepIn K (.ref a_ol) = true)
    (G__law_row_line : FnOk P w K mg base CX0 1 a_rl fd_rl ["_law_index", "_law_row"] spRowLine) (b__law_row_line : Binds K fd_rl ["_law_index", "_law_row"] []) (g__law_row_line : mg "_law_row_line" = some (.ref a_rl)) (k__law_row_line : PySem.W.keepIn K (.ref a_rl) = true) :
    FnOk P w K mg base CX0 2 f fd ["_law_operations_here", "_law_rows_here", "_law_begin"] spBodyLines := by
  refine F.ok sc__law_body_lines (fun vs H Q E h => ?_) (fun cdv A outer s H vs Q E hr h => ?_)
  · obtain ⟨d, l, o, rs, b, xs, rfl, _⟩ := h
    rfl
  · obtain ⟨d, l, o, rs, b, xs, rfl, hd, hl, rows, fit, k⟩ := h
    refine ⟨_, (pss_cons (ps_set (i := 3) sc__law_body_lines.nd rfl (Or.inl rfl) (pe_lstG (pa_cons (pe_call G__law_operations_line (hr.mono (by decide)) (by rfl) g__law_operations_line k__law_operations_line b__law_operations_line .nil pass0 (pa_cons pe_str (pa_cons (pv 0) pa_nil))) (pa_cons (pe_op op_add_str pe_str (pe_callTy call_str_int (by rfl) T.b_str (by decide +kernel) (pa_cons (pv 2) pa_nil))) pa_nil))))
      (pss_one (ps_ret (pe_op op_catG (pv 3) (pe_lc (own := [("_law_index", 4), ("_law_row", 5)]) (g := (gTup K 2 (gCons (gName 4) (gCons (gName 5) gNil)))) (tt := tYes) rfl sc__law_body_lines.nd (pi_enum (by rfl) h_enum (pa_cons (pv 1) pa_nil)) (blkOk_by (own := [("_law_index", 4), ("_law_row", 5)]) (N := ["_law_operations_here", "_law_rows_here", "_law_begin", "_law_lines", "_law_index", "_law_row"]) (sc := defScope s_body_lines) (by decide +kernel)) (fun _ _ _ _ _ => (pg_tup rfl (pgs_cons (pg_name (i := 4) sc__law_body_lines.nd rfl (Or.inl rfl)) (pgs_cons (pg_name (i := 5) sc__law_body_lines.nd rfl (Or.inl rfl)) pgs_nil)))) (fun _ _ _ _ _ => pts_nil) (fun _ _ _ _ _ => (pe_call G__law_row_line (hr.mono (by decide)) (by rfl) g__law_row_line k__law_row_line b__law_row_line .nil pass0 (pa_cons (pv 4) (pa_cons (pv 5) pa_nil))))))))), ?_⟩
    have lt := fit.lt
    have many := fit.many
    have sb : Small (b : Int) := ⟨by omega, by omega⟩
    refine ⟨_, rfl, d, "operations", o, rfl, hd, fit.nd, fit.few, fit.ops, by decide +kernel, fun o' ord H1 s1 => ?_⟩
    have hs6 : ("start " : Str).length = 6 := by decide +kernel
    refine ⟨_, rfl, _, rfl, num_log sb, "start ", num (b : Int), rfl, rfl, line_ok (by rw [hs6]; have := num_len sb; omega), by show 2 ≤ sizeLine; decide, fun p2 X2 n2 s2 e2 => ?_⟩
    refine ⟨_, rfl, _, rfl, l, xs, rfl, SqL.of (s2 _ _ (s1 _ _ hl)), fun D nD => ?_⟩
    refine lc_it (walk_enum (xs := xs)) (fun i Hx => Same X2 Hx ∧ Hx D = some (.lst (((linesR rs).take i).map V.str))) ⟨sameNew nD _, upd_same⟩ (fun i Hx _ z => SqL.of (z.1 _ _ (s2 _ _ (s1 _ _ hl)))) (fun i y Ha Hb hi z1 z2 => ?_) (fun Hx z => ?_)
    · obtain ⟨sx, ex⟩ := z1
      obtain ⟨T1, x1, y1, rfl, nT, rfl, e1, e2⟩ := z2
      have e1 := Option.some.inj e1
      subst e1
      have hi2 : i < rs.length := by have := rows.1; omega
      have ed : rs[i]? = some rs[i] := List.getElem?_eq_getElem hi2
      have md := List.mem_of_getElem? ed
      generalize rs[i] = dd at ed md
      obtain ⟨v, g1, g2⟩ := rows.2 i dd ed
      have e2 : xs[i]? = some y1 := e2
      rw [g1] at e2
      have e2 := Option.some.inj e2
      subst e2
      have sT := sameNew nT (.tup [.int (i : Int), v])
      have eT : upd Ha T1 (.tup [.int (i : Int), v]) T1 = some (.tup [.int (i : Int), v]) := upd_same
      generalize upd Ha T1 (.tup [.int (i : Int), v]) = Hb at sT eT ⊢
      have si : Small (i : Int) := ⟨by omega, by omega⟩
      refine ⟨T1, _, rfl, SqT.of eT, rfl, _, _, rfl, _, _, rfl, rfl, rfl, _, rfl, _, rfl, _, v, dd, rfl, si, g2.same (s1.trans (s2.trans (sx.trans sT))), fit.rows dd md, fun H' s' => ?_⟩
      refine str_step nD (sx.trans sT) (sT _ _ ex) s' ?_ (by unfold linesR; rw [List.length_mapIdx]; omega)
      unfold linesR
      rw [List.getElem?_mapIdx, ed]
      rfl
    · obtain ⟨sx, ex⟩ := z
      rw [List.take_of_length_le (by unfold linesR; rw [List.length_mapIdx, rows.1]; exact Nat.le_refl _)] at ex
      refine ⟨p2, D, _, _, rfl, rfl, sx _ _ e2, ex, ?_, fun p4 X4 n4 s4 e4 => ?_⟩
      · rw [List.length_map]
        unfold linesR
        rw [List.length_mapIdx, sizeLine_eq]
        show 2 + rs.length ≤ _
        omega
      · exact k o' ord p4 X4 (none_of (s1.trans (s2.trans sx)) n4) (s1.trans (s2.trans (sx.trans s4))) e4
end
end Mine

set_option maxRecDepth 100000
set_option maxHeartbeats 4000000
namespace Mine
open PySem L2 TL LamB
abbrev s_right : Stmt := top 61
theorem ans_raw : ∀ w ∈ (["line", "body", "start"] : List Str), ∀ m : Fin 20, SeqAt.shaped (.tuple [.str w, .int ((m.val : Int) - 1)]) = true := by decide +kernel
theorem ans_shaped {w : Str} {k : Int} (hw : w ∈ (["line", "body", "start"] : List Str)) (h0 : -1 ≤ k) (h1 : k ≤ 18) : SeqAt.shaped (.tuple [.str w, .int k]) = true := by
  have := ans_raw w hw ⟨(k + 1).toNat, by omega⟩
  have e : (((k + 1).toNat : Nat) : Int) - 1 = k := by omega
  dsimp only at this
  rwa [e] at this
theorem ne_done {K : PySem.W.Frag} {X X2 : Hp} {v : V} {u2 : Addr} {w : Str} {m m' : Int} {Q : VK} (a : AnsV X v (.at w m)) (s : Same X X2) (e : X2 u2 = some (.tup [.str w, .int m'])) (em : m' = m) (hw : w ∈ (["line", "body", "start"] : List Str)) (h0 : -1 ≤ m) (h1 : m ≤ 18) (k : Q (.bl false) X2) : rNeD K v (.ref u2) X2 Q := by
  subst em
  obtain ⟨u, rfl, hu⟩ := a
  refine ⟨.tuple [.str w, .int m'], .tuple [.str w, .int m'], .tup (.inl (.inl (s _ _ hu))) (.cons (.str _) (.cons (.int _) .nil)), .tup (.inl (.inl e)) (.cons (.str _) (.cons (.int _) .nil)), ans_shaped hw h0 h1, ans_shaped hw h0 h1, ?_⟩
  rw [show (!PyData.eqv (.tuple [.str w, .int m']) (.tuple [.str w, .int m'])) = false by simp [PyData.eqv, PyData.eqvAll]]
  exact k
theorem inL : ("line" : Str) ∈ (["line", "body", "start"] : List Str) := List.mem_cons_self
theorem inB : ("body" : Str) ∈ (["line", "body", "start"] : List Str) := List.mem_cons_of_mem _ List.mem_cons_self
theorem inS : ("start" : Str) ∈ (["line", "body", "start"] : List Str) := List.mem_cons_of_mem _ (List.mem_cons_of_mem _ List.mem_cons_self)
theorem cutV_to {xs : List V} {k : Nat} : cutV xs none (some (k : Int)) = xs.take k := by
  unfold cutV
  rw [HT.sIx_nat, HT.sIx_none, List.drop_zero, Nat.sub_zero]
  by_cases h : k ≤ xs.length
  · rw [Nat.min_eq_left h]
  · rw [Nat.min_eq_right (by omega), List.take_length, List.take_of_length_le (by omega)]
theorem flat_rep {α : Type} (a : α) : ∀ r : Nat, (List.replicate r [a]).flatten = List.replicate r a
  | 0 => rfl
  | r + 1 => by
    rw [List.replicate_succ, List.flatten_cons, flat_rep a r]
    rfl
theorem LFine.mono {a b : Nat} {xs : List Str} (h : LFine a xs) (le : a ≤ b) : LFine b xs := ⟨by have := h.1; omega, h.2⟩
theorem rT_empty (i : Int) : rT i "" = none := by
  unfold rT
  rw [show Txt.split ("" : Str) " " = [("" : Str)] by decide +kernel]
theorem six_len (n : Nat) (h : n < 7) : ∀ r ∈ sixRows n, r.length ≤ 100 := fun r hr => (six_all n h r hr).1
theorem TRow.mv {PM a : Addr} {q : Str} {H H' : Hp} {zs : List V} {v : V} {d : RowD} (u : Mv a PM H H') (t : LamX.Tabs [(PM, q)] H) (ha : H a = some (.lst zs)) (h : TRow H v d) : TRow H' v d := by
  have k : ∀ {c : Addr} {us : List V}, H c = some (.tup us) → H' c = some (.tup us) := fun {c us} e => u c _ (fun z => by rw [z, ha] at e; cases e) (LamB.ne6 t e nofun) e
  cases d with
  | ask op ns =>
    obtain ⟨a, c, e, h1, h2⟩ := h
    exact ⟨a, c, e, k h1, k h2⟩
  | go n =>
    obtain ⟨a, e, h1⟩ := h
    exact ⟨a, e, k h1⟩
  | fin w =>
    obtain ⟨a, e, h1⟩ := h
    exact ⟨a, e, k h1⟩
theorem Rows.mv {PM a : Addr} {q : Str} {H H' : Hp} {zs : List V} {xs : List V} {rs : List RowD} (u : Mv a PM H H') (t : LamX.Tabs [(PM, q)] H) (ha : H a = some (.lst zs)) (h : Rows H xs rs) : Rows H' xs rs := ⟨h.1, fun i d e => by
  obtain ⟨x, h1, h2⟩ := h.2 i d e
  exact ⟨x, h1, h2.mv u t ha⟩⟩
/-- what is held on to while texts are judged -/
structure Hold (PR S L R : Addr) (ls : List Str) (xs : List V) (H0 H : Hp) : Prop where
  t : LamX.Tabs [(PR, qRB)] H
  src : SrcAt H S
  hl : H L = some (.lst (ls.map V.str))
  hr : H R = some (.lst xs)
  mv : Mv S PR H0 H
  lS : L ≠ S
  rS : R ≠ S
section
variable {PR S L R : Addr} {ls : List Str} {xs : List V} {H0 H H' : Hp}
theorem Hold.same (h : Hold PR S L R ls xs H0 H) (s : Same H H') : Hold PR S L R ls xs H0 H' := by
  obtain ⟨x, y, z, e⟩ := h.src
  exact ⟨tabs_same h.t s, ⟨x, y, z, s _ _ e⟩, s _ _ h.hl, s _ _ h.hr, h.mv.trans (Mv.of s), h.lS, h.rS⟩
theorem Hold.tab (h : Hold PR S L R ls xs H0 H) (u : ButT PR H H') (t : LamX.Tabs [(PR, qRB)] H') : Hold PR S L R ls xs H0 H' := by
  obtain ⟨x, y, z, e⟩ := h.src
  exact ⟨t, ⟨x, y, z, LamB.go6 u h.t e nofun⟩, LamB.go6 u h.t h.hl nofun, LamB.go6 u h.t h.hr nofun, h.mv.trans (Mv.tab u), h.lS, h.rS⟩
theorem Hold.but {x' y' z' : Int} (h : Hold PR S L R ls xs H0 H) (b : But H H' S) (e' : H' S = some (.lst [.int x', .int y', .int z'])) : Hold PR S L R ls xs H0 H' := by
  obtain ⟨x, y, z, e⟩ := h.src
  exact ⟨tabs_but h.t e b, ⟨x', y', z', e'⟩, b _ _ h.lS h.hl, b _ _ h.rS h.hr, h.mv.trans (Mv.but b), h.lS, h.rS⟩
end
/-- the second judgement: the same text, its last break left out -/
def tChk2 (K : PySem.W.Frag) (PR : Addr) : TS := fun D σ H => ∃ (LB : Addr) (gs : List Str) (p : Nat), σ[5]? = some (some (.ref LB)) ∧ σ[4]? = some (some (.int (p : Int))) ∧ H LB = some (.lst (gs.map V.str)) ∧ gs ≠ [] ∧ LFine 50 gs ∧ LamX.Tabs [(PR, qRB)] H ∧ p ≤ 10 ∧
  (∀ x H, LinesT x gs → Says K H (.str x) (.at "line" ((p : Int) + 1))) ∧ ∀ X, ButT PR H X → LamX.Tabs [(PR, qRB)] X → D.nx σ X
def spRight (PR : Addr) : Sp := fun vs H Q _ => ∃ S : Addr, vs = [.ref S] ∧ SrcAt H S ∧ LamX.Tabs [(PR, qRB)] H ∧ ∀ H', Mv S PR H H' → SrcAt H' S → LamX.Tabs [(PR, qRB)] H' → Q (.bl true) H'
section
variable {P : Program} {w : World} {K : PySem.W.Frag} {mg : Str → Option Value} {base : Heap}
variable {fII fIW CB CM CT CO CR CS PR a_ops a_next a_rows a_blines a_joined a_said a_bad : Addr}
theorem sc__law_right : FnScope ["_law_source", "_law_operations_here", "_law_rows_here", "_law_lines", "_law_at", "_law_bad", "_law_odd", "_law_many", "_law_row", "_law_late"] ["_law_source"] (defScope s_right) := ⟨rfl, rfl, rfl, by decide +kernel, rfl, by decide +kernel, by decide +kernel⟩

theorem ok_right {f : Addr} {fd fd_ops fd_next fd_rows fd_blines fd_joined fd_said fd_bad : FuncData} (F : Fun K "_law_right" "_law_right" s_right f fd) (T : TxtF K mg fII fIW)
    (G__law_next : FnOk P w K mg base CX0 1 a_next fd_next ["_law_source", "_law_many"] spNext) (b__law_next : Binds K fd_next ["_law_source", "_law_many"] []) (g__law_next : mg "_law_next" = some (.ref a_next)) (k__law_next : PySem.W.keepIn K (.ref a_next) = true)
    (G__law_operations : FnOk P w K mg base CX0 3 a_ops fd_ops ["_law_source", "_law_many"] spDrawOps) (b__law_operations : Binds K fd_ops ["_law_source", "_law_many"] []) (g__law_operations : mg "_law_operations" = some (.ref a_ops)) (k__law_operations : PySem.W.keepIn K (.ref a_ops) = true)
    (G__law_rows : FnOk P w K mg base CX0 3 a_rows fd_rows ["_law_source", "_law_operations_here", "_law_many"] spDrawRows) (b__law_rows : Binds K fd_rows ["_law_source", "_law_operations_here", "_law_many"] []) (g__law_rows : mg "_law_rows" = some (.ref a_rows)) (k__law_rows : PySem.W.keepIn K (.ref a_rows) = true)
    (G__law_body_lines : FnOk P w K mg base CX0 2 a_blines fd_blines ["_law_operations_here", "_law_rows_here", "_law_begin"] spBodyLines) (b__law_body_lines : Binds K fd_blines ["_law_operations_here", "_law_rows_here", "_law_begin"] []) (g__law_body_lines : mg "_law_body_lines" = some (.ref a_blines)) (k__law_body_lines : PySem.W.keepIn K (.ref a_blines) = true)
    (G__law_joined : FnOk P w K mg base CX0 1 a_joined fd_joined ["_law_lines"] spTextOf) (b__law_joined : Binds K fd_joined ["_law_lines"] []) (g__law_joined : mg "_law_joined" = some (.ref a_joined)) (k__law_joined : PySem.W.keepIn K (.ref a_joined) = true)
    (G__law_said : FnOk P w K mg base CX0 10 a_said fd_said ["_law_text"] (spSaidT K CB CM CT CO CR CS PR)) (b__law_said : Binds K fd_said ["_law_text"] []) (g__law_said : mg "_law_said" = some (.ref a_said)) (k__law_said : PySem.W.keepIn K (.ref a_said) = true)
    (G__law_bad_line : FnOk P w K mg base CX0 3 a_bad fd_bad ["_law_source", "_law_number"] spBadLine) (b__law_bad_line : Binds K fd_bad ["_law_source", "_law_number"] []) (g__law_bad_line : mg "_law_bad_line" = some (.ref a_bad)) (k__law_bad_line : PySem.W.keepIn K (.ref a_bad) = true) :
    FnOk P w K mg base CX0 11 f fd ["_law_source"] (spRight PR) := by
  refine F.ok sc__law_right (fun vs H Q E h => ?_) (fun cdv A outer s H vs Q E hr h => ?_)
  · obtain ⟨S, rfl, _⟩ := h
    rfl
  · obtain ⟨S, rfl, ⟨x0, y0, z0, src⟩, tabs, k⟩ := h
    refine ⟨_, (pss_cons (ps_set (i := 1) sc__law_right.nd rfl (Or.inl rfl) (pe_call G__law_operations (hr.mono (by decide)) (by rfl) g__law_operations k__law_operations b__law_operations .nil pass0 (pa_cons (pv 0) (pa_cons (pe_call G__law_next (hr.mono (by decide)) (by rfl) g__law_next k__law_next b__law_next .nil pass0 (pa_cons (pv 0) (pa_cons pe_int pa_nil))) pa_nil))))
      (pss_cons (ps_set (i := 2) sc__law_right.nd rfl (Or.inl rfl) (pe_call G__law_rows (hr.mono (by decide)) (by rfl) g__law_rows k__law_rows b__law_rows .nil pass0 (pa_cons (pv 0) (pa_cons (pv 1) (pa_cons (pe_op op_add pe_int (pe_call G__law_next (hr.mono (by decide)) (by rfl) g__law_next k__law_next b__law_next .nil pass0 (pa_cons (pv 0) (pa_cons pe_int pa_nil)))) pa_nil)))))
      (pss_cons (ps_set (i := 3) sc__law_right.nd rfl (Or.inl rfl) (pe_call G__law_body_lines (hr.mono (by decide)) (by rfl) g__law_body_lines k__law_body_lines b__law_body_lines .nil pass0 (pa_cons (pv 1) (pa_cons (pv 2) (pa_cons (pe_call G__law_next (hr.mono (by decide)) (by rfl) g__law_next k__law_next b__law_next .nil pass0 (pa_cons (pv 0) (pa_cons (pe_callB call_len_seq (by rfl) T.b_len PySem.boot_len (pa_cons (pv 2) pa_nil)) pa_nil))) pa_nil)))))
      (pss_cons (ps_set (i := 4) sc__law_right.nd rfl (Or.inl rfl) (pe_call G__law_next (hr.mono (by decide)) (by rfl) g__law_next k__law_next b__law_next .nil pass0 (pa_cons (pv 0) (pa_cons (pe_callB call_len_seq (by rfl) T.b_len PySem.boot_len (pa_cons (pv 3) pa_nil)) pa_nil))))
      (pss_cons (ps_set (i := 5) sc__law_right.nd rfl (Or.inl rfl) (pe_op op_catG (pe_op op_catG (pe_op op_catG (pe_slice sl_listG (pv 3) po_none (po_some (pv 4))) (pe_lstG (pa_cons (pe_call G__law_bad_line (hr.mono (by decide)) (by rfl) g__law_bad_line k__law_bad_line b__law_bad_line .nil pass0 (pa_cons (pv 0) (pa_cons (pe_op op_add (pv 4) pe_int) pa_nil))) pa_nil))) (pe_slice sl_listG (pv 3) (po_some (pe_op op_add (pv 4) pe_int)) po_none)) (pe_op op_repG (pe_lstG (pa_cons pe_str pa_nil)) (pe_call G__law_next (hr.mono (by decide)) (by rfl) g__law_next k__law_next b__law_next .nil pass0 (pa_cons (pv 0) (pa_cons pe_int pa_nil))))))
      (pss_cons (ps_if (pt_cmpR (op_neD hr.units) (pe_call G__law_said (hr.mono (by decide)) (by rfl) g__law_said k__law_said b__law_said .nil pass0 (pa_cons (pe_call G__law_joined (hr.mono (by decide)) (by rfl) g__law_joined k__law_joined b__law_joined .nil pass0 (pa_cons (pv 5) pa_nil)) pa_nil)) (pe_tupG (pa_cons pe_str (pa_cons (pe_op op_add (pv 4) pe_int) pa_nil))) (nomark _)) (pss_one (ps_ret pe_bl)) pss_nil)
      (pss_cons (ps_imp (t' := tChk2 K PR) (ps_if (PW.pt (pw_and (pt_cmpR op_ne (pe_ix ix_list (pv 5) (pe_un un_neg pe_int) (fun _ _ => rfl)) pe_str (nomark _)) (pw_and1 (pt_cmpR (op_neD hr.units) (pe_call G__law_said (hr.mono (by decide)) (by rfl) g__law_said k__law_said b__law_said .nil pass0 (pa_cons (pe_join pe_str (pv 5)) pa_nil)) (pe_tupG (pa_cons pe_str (pa_cons (pe_op op_add (pv 4) pe_int) pa_nil))) (nomark _))))) (pss_one (ps_ret pe_bl)) pss_nil) (fun D9 σ9 H9 q9 => ?_))
      (pss_cons (ps_if (pt_cmpR (op_neD hr.units) (pe_call G__law_said (hr.mono (by decide)) (by rfl) g__law_said k__law_said b__law_said .nil pass0 (pa_cons (pe_call G__law_joined (hr.mono (by decide)) (by rfl) g__law_joined k__law_joined b__law_joined .nil pass0 (pa_cons (pe_op op_catG (pv 3) (pe_lstG (pa_cons pe_str pa_nil))) pa_nil)) pa_nil)) (pe_tupG (pa_cons pe_str (pa_cons (pe_op op_add (pe_callB call_len_seq (by rfl) T.b_len PySem.boot_len (pa_cons (pv 3) pa_nil)) pe_int) pa_nil))) (nomark _)) (pss_one (ps_ret pe_bl)) pss_nil)
      (pss_cons (ps_if (PW.pt (pw_or (pt_cmpR (op_neD hr.units) (pe_call G__law_said (hr.mono (by decide)) (by rfl) g__law_said k__law_said b__law_said .nil pass0 (pa_cons (pe_call G__law_joined (hr.mono (by decide)) (by rfl) g__law_joined k__law_joined b__law_joined .nil pass0 (pa_cons (pe_slice sl_listG (pv 3) po_none (po_some pe_int)) pa_nil)) pa_nil)) (pe_tupG (pa_cons pe_str (pa_cons pe_int pa_nil))) (nomark _)) (pw_or1 (pt_cmpR (op_neD hr.units) (pe_call G__law_said (hr.mono (by decide)) (by rfl) g__law_said k__law_said b__law_said .nil pass0 (pa_cons pe_str pa_nil)) (pe_tupG (pa_cons pe_str (pa_cons pe_int pa_nil))) (nomark _))))) (pss_one (ps_ret pe_bl)) pss_nil)
      (pss_cons (ps_if (PW.pt (pw_or (pt_cmpR (op_neD hr.units) (pe_call G__law_said (hr.mono (by decide)) (by rfl) g__law_said k__law_said b__law_said .nil pass0 (pa_cons (pe_call G__law_joined (hr.mono (by decide)) (by rfl) g__law_joined k__law_joined b__law_joined .nil pass0 (pa_cons (pe_slice sl_listG (pv 3) po_none (po_some pe_int)) pa_nil)) pa_nil)) (pe_tupG (pa_cons pe_str (pa_cons (pe_un un_neg pe_int) pa_nil))) (nomark _)) (pw_or1 (pt_cmpR op_ne (pe_call G__law_said (hr.mono (by decide)) (by rfl) g__law_said k__law_said b__law_said .nil pass0 (pa_cons (pe_call G__law_joined (hr.mono (by decide)) (by rfl) g__law_joined k__law_joined b__law_joined .nil pass0 (pa_cons (pv 3) pa_nil)) pa_nil)) pe_str (nomark _))))) (pss_one (ps_ret pe_bl)) pss_nil)
      (pss_cons (ps_for PassesOwn.never rfl (pi_tup (pe_tupG (pa_cons pe_non (pa_cons pe_int (pa_cons (pe_lstG pa_nil) (pa_cons (pe_tupG pa_nil) (pa_cons pe_dnewK (pa_cons pe_bl pa_nil)))))))) (pg_name (i := 6) sc__law_right.nd rfl (Or.inl rfl)) (pss_one (ps_if (pt_cmpR (op_neD hr.units) (pe_call G__law_said (hr.mono (by decide)) (by rfl) g__law_said k__law_said b__law_said .nil pass0 (pa_cons (pv 6) pa_nil)) (pe_tupG (pa_cons pe_str (pa_cons (pe_un un_neg pe_int) pa_nil))) (nomark _)) (pss_one (ps_ret pe_bl)) pss_nil)))
      (pss_cons (ps_set (i := 7) sc__law_right.nd rfl (Or.inl rfl) (pe_callTy call_str_int (by rfl) T.b_str (by decide +kernel) (pa_cons (pe_callB call_len_seq (by rfl) T.b_len PySem.boot_len (pa_cons (pv 2) pa_nil)) pa_nil)))
      (pss_cons (ps_for PassesOwn.never rfl (pi_list (pe_lstG (pa_cons (pe_op op_add_str pe_str (pe_callTy call_str_int (by rfl) T.b_str (by decide +kernel) (pa_cons (pe_op op_add (pe_callB call_len_seq (by rfl) T.b_len PySem.boot_len (pa_cons (pv 2) pa_nil)) pe_int) pa_nil))) (pa_cons pe_str (pa_cons pe_str (pa_cons pe_str (pa_cons pe_str (pa_cons (pe_op op_add_str pe_str (pe_op op_mulS pe_str pe_int)) pa_nil)))))))) (pg_name (i := 8) sc__law_right.nd rfl (Or.inl rfl)) (pss_one (ps_if (pt_cmpR (op_neD hr.units) (pe_call G__law_said (hr.mono (by decide)) (by rfl) g__law_said k__law_said b__law_said .nil pass0 (pa_cons (pe_call G__law_joined (hr.mono (by decide)) (by rfl) g__law_joined k__law_joined b__law_joined .nil pass0 (pa_cons (pe_op op_catG (pv 3) (pe_lstG (pa_cons (pe_op op_add_str (pe_op op_add_str (pv 7) pe_str) (pv 8)) pa_nil))) pa_nil)) pa_nil)) (pe_tupG (pa_cons pe_str (pa_cons (pe_callB call_len_seq (by rfl) T.b_len PySem.boot_len (pa_cons (pv 2) pa_nil)) pa_nil))) (nomark _)) (pss_one (ps_ret pe_bl)) pss_nil)))
      (pss_cons (ps_if (pt_cmpR (op_neD hr.units) (pe_call G__law_said (hr.mono (by decide)) (by rfl) g__law_said k__law_said b__law_said .nil pass0 (pa_cons (pe_call G__law_joined (hr.mono (by decide)) (by rfl) g__law_joined k__law_joined b__law_joined .nil pass0 (pa_cons (pe_op op_catG (pe_op op_catG (pe_slice sl_listG (pv 3) po_none (po_some pe_int)) (pe_lstG (pa_cons (pe_op op_add_str pe_str (pv 7)) pa_nil))) (pe_slice sl_listG (pv 3) (po_some pe_int) po_none)) pa_nil)) pa_nil)) (pe_tupG (pa_cons pe_str (pa_cons (pe_callB call_len_seq (by rfl) T.b_len PySem.boot_len (pa_cons (pv 2) pa_nil)) pa_nil))) (nomark _)) (pss_one (ps_ret pe_bl)) pss_nil)
      (pss_cons (ps_set (i := 9) sc__law_right.nd rfl (Or.inl rfl) (pe_op op_catG (pe_op op_catG (pe_lstG (pa_cons pe_str (pa_cons (pe_op op_add_str pe_str (pv 7)) pa_nil))) (pe_slice sl_listG (pv 3) (po_some pe_int) po_none)) (pe_lstG (pa_cons (pe_call G__law_bad_line (hr.mono (by decide)) (by rfl) g__law_bad_line k__law_bad_line b__law_bad_line .nil pass0 (pa_cons (pv 0) (pa_cons (pe_op op_add (pe_callB call_len_seq (by rfl) T.b_len PySem.boot_len (pa_cons (pv 3) pa_nil)) pe_int) pa_nil))) pa_nil))))
      (pss_cons (ps_if (pt_cmpR (op_neD hr.units) (pe_call G__law_said (hr.mono (by decide)) (by rfl) g__law_said k__law_said b__law_said .nil pass0 (pa_cons (pe_call G__law_joined (hr.mono (by decide)) (by rfl) g__law_joined k__law_joined b__law_joined .nil pass0 (pa_cons (pv 9) pa_nil)) pa_nil)) (pe_tupG (pa_cons pe_str (pa_cons (pe_op op_add (pe_callB call_len_seq (by rfl) T.b_len PySem.boot_len (pa_cons (pv 3) pa_nil)) pe_int) pa_nil))) (nomark _)) (pss_one (ps_ret pe_bl)) pss_nil)
      (pss_one (ps_ret (pe_cmpR op_eq (pe_call G__law_said (hr.mono (by decide)) (by rfl) g__law_said k__law_said b__law_said .nil pass0 (pa_cons (pe_call G__law_joined (hr.mono (by decide)) (by rfl) g__law_joined k__law_joined b__law_joined .nil pass0 (pa_cons (pe_op op_catG (pe_lstG (pa_cons pe_str pa_nil)) (pe_slice sl_listG (pv 3) (po_some pe_int) po_none)) pa_nil)) pa_nil)) pe_str (nomark _)))))))))))))))))))), ?_⟩
    · obtain ⟨LB, gs, p, h5, h4, eB, ne, fine, tb, pl, says, k9⟩ := q9
      obtain ⟨init, l, rfl⟩ : ∃ init l, gs = init ++ [l] := ⟨gs.dropLast, gs.getLast ne, (List.dropLast_concat_getLast ne).symm⟩
      have eB2 := eB
      rw [List.map_append] at eB2
      refine ⟨_, h5, 1, rfl, LB, _, -1, .str l, rfl, rfl, SqL.of eB2, atI_last _ _, rfl, _, rfl, ?_⟩
      by_cases hl : l = ""
      · rw [show (!decide (V.str l = V.str "")) = false by rw [decide_eq_true (show V.str l = V.str "" by rw [hl])]; rfl]
        refine iteF ?_
        refine iteF ?_
        exact k9 _ (ButT.refl _ _) tb
      · rw [show (!decide (V.str l = V.str "")) = true by rw [decide_eq_false (show ¬ V.str l = V.str "" from fun z => hl (V.str.inj z))]; rfl]
        refine iteT ?_
        have l1 : ("\n" : Str).length = 1 := by decide +kernel
        have jl := joinS_len (ss := init ++ [l]) (y := "\n") (k := 1000) (n := 50) fine.1 fun x hx => (fine.2 x hx).1
        refine ⟨⟨_, rfl⟩, _, h5, "\n", LB, init ++ [l], rfl, rfl, .inl (SqL.of eB), by rw [l1] at jl ⊢; omega, ?_⟩
        have lb := lines_bare fine.1 (fun x hx => (fine.2 x hx).1) (fun x hx => (fine.2 x hx).2) (by simp) (by rw [List.getLast?_concat]; exact fun z => hl (Option.some.inj z))
        try unfold tNil
        refine says_said tb (says _ _ lb) fun v X1 u1 t1 av => ?_
        refine ⟨_, h4, _, _, rfl, rfl, by show 2 ≤ sizeLine; decide, fun u2 X2 n2 s2 e2 => ne_done av s2 e2 rfl inL (by omega) (by omega) ⟨_, rfl, ?_⟩⟩
        refine iteF ?_
        exact k9 _ (u1.trans (ButT.of s2)) (tabs_same t1 s2)
    refine ⟨_, rfl, _, rfl, S, 4, x0, y0, z0, rfl, by decide, by decide, src, fun mi x1 y1 z1 X1 m0 m1 bt1 e1 => ?_⟩
    obtain ⟨m, rfl⟩ := Int.eq_ofNat_of_zero_le m0
    have ta := tabs_but tabs src bt1
    refine ⟨S, m, x1, y1, z1, rfl, e1, by omega, fun D o x2 y2 z2 X2 nD lo okn nd bt2 e2 hD => ?_⟩
    have tb := tabs_but ta e1 bt2
    have DS : D ≠ S := fun q => by rw [q, e1] at nD; cases nD
    refine ⟨_, rfl, _, rfl, _, rfl, S, 6, x2, y2, z2, rfl, by decide, by decide, e2, fun ni x3 y3 z3 X3 n0 n1 bt3 e3 => ?_⟩
    obtain ⟨k3, rfl⟩ := Int.eq_ofNat_of_zero_le n0
    have tc := tabs_but tb e2 bt3
    have hD3 := bt3 _ _ DS hD
    refine ⟨_, _, rfl, rfl, S, D, o, 1 + k3, x3, y3, z3, by rw [Int.natCast_add]; rfl, e3, hD3, nd, by omega, okn, by omega, by omega, fun R xs rs x4 y4 z4 X4 nR lr okr fine4 bt4 e4 hR rows => ?_⟩
    have td := tabs_but tc e3 bt4
    have RS : R ≠ S := fun q => by rw [q, e3] at nR; cases nR
    have hD4 := bt4 _ _ DS hD3
    have lx : xs.length = rs.length := rows.1
    refine ⟨_, rfl, _, rfl, _, rfl, _, rfl, R, _, rfl, .inl (SqL.of hR), S, _, x4, y4, z4, rfl, by omega, by omega, e4, fun bi x5 y5 z5 X5 b0 b1 bt5 e5 => ?_⟩
    obtain ⟨b, rfl⟩ := Int.eq_ofNat_of_zero_le b0
    have te := tabs_but td e4 bt5
    have hD5 := bt5 _ _ DS hD4
    have hR5 := bt5 _ _ RS hR
    have rows5 : Rows X5 xs rs := rows.mv (Mv.but (PR := PR) bt5) td e4
    have okO : OkOps o := ⟨by omega, fun q hq => ⟨names8_ok _ (okn q hq).1, (okn q hq).2.1, by have := (okn q hq).2.2; omega⟩, nd⟩
    have okB : OkB o rs b := OkB.small okO (by omega) (by omega) okr (by omega)
    have fit := FitB.of okB
    refine ⟨D, R, o, rs, b, xs, rfl, hD5, hR5, rows5, fit, fun o' ord L X6 nL s6 eL => ?_⟩
    have okB' : OkB o' rs b := okB.perm ord.1
    have B : Base o' rs b := ⟨FitB.of okB', okB', by omega, look_none fun z => by
      obtain ⟨q, hq, e⟩ := List.mem_map.mp z
      have := (okn q (ord.1.mem_iff.mp hq)).1
      rw [e] at this
      exact absurd this (by decide +kernel)⟩
    have m5 : Mv S PR H X5 := (Mv.but bt1).trans ((Mv.but bt2).trans ((Mv.but bt3).trans ((Mv.but bt4).trans (Mv.but bt5))))
    have e6 := s6 _ _ e5
    have LS : L ≠ S := fun q => by rw [q, e5] at nL; cases nL
    have hold : Hold PR S L R (linesB o' rs b) xs H X6 := ⟨tabs_same te s6, ⟨_, _, _, e6⟩, eL, s6 _ _ hR5, m5.trans (Mv.of s6), LS, RS⟩
    clear rows5 rows fine4 hD5 hR5 hD4 hD3 te td tc tb ta okB okO fit
    have nls : (linesB o' rs b).length = rs.length + 2 := linesB_num o' rs b
    have g0 : (linesB o' rs b)[0]? = some (opsL "operations" o') := rfl
    have nr : rs.length ≤ 6 := B.few
    have lsF := B.fine
    -- the line that is made bad
    refine ⟨_, rfl, _, rfl, L, _, rfl, .inl (SqL.of hold.hl), S, _, x5, y5, z5, rfl, by rw [List.length_map, nls]; omega, by rw [List.length_map, nls]; omega, e6, fun pi x7 y7 z7 X7 p0 p1 bt7 e7 => ?_⟩
    obtain ⟨p, rfl⟩ := Int.eq_ofNat_of_zero_le p0
    rw [List.length_map, nls] at p1
    have pl : p < rs.length + 2 := by omega
    replace hold := hold.but bt7 e7
    refine ⟨_, rfl, _, rfl, p, rfl, L, _, rfl, SqL.of hold.hl, fun q1 X8 nq1 s8 eq1 => ?_⟩
    rw [cutV_to] at eq1
    replace hold := hold.same s8
    have e8 := s8 _ _ e7
    refine ⟨_, rfl, _, rfl, _, _, rfl, rfl, S, p + 1, x7, y7, z7, rfl, e8, by omega, by omega, fun l x9 y9 z9 X9 bl bt9 e9 => ?_⟩
    have q1S : q1 ≠ S := fun q => by rw [q, e7] at nq1; cases nq1
    replace eq1 := bt9 _ _ q1S eq1
    replace hold := hold.but bt9 e9
    refine ⟨by show 1 ≤ sizeLine; decide, fun q2 X10 nq2 s10 eq2 => ?_⟩
    refine ⟨q1, q2, _, _, rfl, rfl, s10 _ _ eq1, eq2, by rw [List.length_take, List.length_map, nls]; show _ + 1 ≤ sizeLine; rw [sizeLine_eq]; omega, fun q3 X11 nq3 s11 eq3 => ?_⟩
    replace hold := hold.same (s10.trans s11)
    have e11 := s11 _ _ (s10 _ _ e9)
    refine ⟨_, rfl, _, rfl, _, _, rfl, rfl, _, rfl, L, _, rfl, SqL.of hold.hl, fun q4 X12 nq4 s12 eq4 => ?_⟩
    rw [show (p : Int) + 1 = ((p + 1 : Nat) : Int) by omega, cutV_drop (by rw [List.length_map, nls]; omega)] at eq4
    refine ⟨q3, q4, _, _, rfl, rfl, s12 _ _ eq3, eq4, by rw [List.length_append, List.length_take, List.length_drop, List.length_map, nls]; show _ + 1 + _ ≤ sizeLine; rw [sizeLine_eq]; omega, fun q5 X13 nq5 s13 eq5 => ?_⟩
    replace hold := hold.same (s12.trans s13)
    have e13 := s13 _ _ (s12 _ _ e11)
    refine ⟨by show 1 ≤ sizeLine; decide, fun q6 X14 nq6 s14 eq6 => ?_⟩
    replace hold := hold.same s14
    have e14 := s14 _ _ e13
    refine ⟨_, rfl, S, 2, x9, y9, z9, rfl, by decide, by decide, e14, fun ri xa ya za X15 r0 r1 bt15 e15 => ?_⟩
    obtain ⟨r, rfl⟩ := Int.eq_ofNat_of_zero_le r0
    replace hold := hold.but bt15 e15
    have q6S : q6 ≠ S := fun q => by rw [q, e13] at nq6; cases nq6
    have q5S : q5 ≠ S := fun q => by rw [q, s12 _ _ e11] at nq5; cases nq5
    refine ⟨q6, _, _, rfl, rfl, bt15 _ _ q6S eq6, by omega, by omega, by show 1 * _ ≤ sizeLine; rw [sizeLine_eq]; omega, fun q7 X16 nq7 s16 eq7 => ?_⟩
    refine ⟨q5, q7, _, _, rfl, rfl, s16 _ _ (bt15 _ _ q5S (s14 _ _ eq5)), eq7, ?_, fun LB X17 nLB s17 eB => ?_⟩
    · rw [flat_rep, List.length_append, List.length_append, List.length_take, List.length_drop, List.length_map, nls, List.length_replicate]
      show _ + 1 + _ + _ ≤ sizeLine
      rw [sizeLine_eq]
      omega
    replace hold := hold.same (s16.trans s17)
    obtain ⟨gs, egs⟩ : ∃ gs : List Str, gs = (((linesB o' rs b).take p ++ [l]) ++ (linesB o' rs b).drop (p + 1)) ++ List.replicate r ("none" : Str) := ⟨_, rfl⟩
    have eB : X17 LB = some (.lst (gs.map V.str)) := by
      rw [eB, egs, flat_rep, show (r : Int).toNat = r by omega]
      simp only [List.map_append, List.map_take, List.map_drop, List.map_replicate]
      rfl
    have fineG : LFine 50 gs := by
      rw [egs]
      refine LFine.mono ((((lsF.take.append (LFine.one (by have := bl.sz; omega) bl.nl)).append lsF.drop).append (b := 2) ⟨by rw [List.length_replicate]; omega, fun x hx => ?_⟩)) (by decide)
      rw [List.eq_of_mem_replicate hx]
      decide +kernel
    have lt : ((linesB o' rs b).take p).length = p := by rw [List.length_take, nls]; omega
    have lt2 : ((linesB o' rs b).take p ++ [l]).length = p + 1 := by rw [List.length_append, lt]; rfl
    have lt3 : p + 1 ≤ (((linesB o' rs b).take p ++ [l]) ++ (linesB o' rs b).drop (p + 1)).length := by rw [List.length_append, lt2]; omega
    have saysG : ∀ x H, LinesT x gs → Says K H (.str x) (.at "line" ((p : Int) + 1)) := fun x H hx => B.bad hx (by have := fineG.1; omega) bl pl (by
      rw [egs, List.getElem?_append_left (by omega), List.getElem?_append_left (by omega), List.getElem?_append_right (by omega), lt, Nat.sub_self]
      rfl) fun i hi => by
      rw [egs, List.getElem?_append_left (by omega), List.getElem?_append_left (by omega), List.getElem?_append_left (by omega), List.getElem?_take, if_pos hi]
    have neG : gs ≠ [] := by rw [egs]; simp
    clear egs
    -- 1
    refine ⟨_, rfl, LB, gs, rfl, eB, by have := fineG.1; omega, fun x hx => (fineG.2 x hx).1, fun Y1 t1 => ?_⟩
    try unfold tNil
    refine says_said (hold.same t1).t (saysG _ _ (fineG.text (by decide))) fun v1 Y2 u2 tt2 av1 => ?_
    replace hold := hold.same t1
    have eB1 := t1 _ _ eB
    replace eB := LamB.go6 u2 hold.t eB1 nofun
    replace hold := hold.tab u2 tt2
    refine ⟨_, rfl, _, _, rfl, rfl, by show 2 ≤ sizeLine; decide, fun c1 Y3 nc1 t3 ec1 => ne_done av1 t3 ec1 rfl inL (by omega) (by omega) ⟨_, rfl, ?_⟩⟩
    refine iteF ?_
    replace hold := hold.same t3
    replace eB := t3 _ _ eB
    -- 2
    refine ⟨LB, gs, p, rfl, rfl, eB, neG, fineG, hold.t, by omega, saysG, fun Y4 u4 tt4 => ?_⟩
    replace hold := hold.tab u4 tt4
    clear eB eB1 saysG fineG neG lt3 lt2 lt ec1 av1
    -- 3
    have emptyF : LFine 1 [("" : Str)] := LFine.one (by decide +kernel) (by decide +kernel)
    refine ⟨_, rfl, by show 1 ≤ sizeLine; decide, fun a1 Z1 na1 sa1 ea1 => ?_⟩
    replace hold := hold.same sa1
    refine ⟨L, a1, _, _, rfl, rfl, hold.hl, ea1, by rw [List.length_map, nls]; show _ + 1 ≤ sizeLine; rw [sizeLine_eq]; omega, fun a2 Z2 na2 sa2 ea2 => ?_⟩
    replace hold := hold.same sa2
    have f3 := lsF.append emptyF
    refine ⟨a2, linesB o' rs b ++ [("" : Str)], rfl, by rw [List.map_append]; exact ea2, by have := f3.1; omega, fun x hx => (f3.2 x hx).1, fun Y5 t5 => ?_⟩
    try unfold tNil
    refine says_said (hold.same t5).t (B.more (f3.text (by decide)) (by decide +kernel) (rT_empty _)) fun v3 Y6 u6 tt6 av3 => ?_
    replace hold := (hold.same t5).tab u6 tt6
    refine ⟨_, rfl, L, _, rfl, .inl (SqL.of hold.hl), _, _, rfl, rfl, by show 2 ≤ sizeLine; decide, fun c3 Y7 nc3 t7 ec3 => ne_done av3 t7 ec3 (by rw [List.length_map, nls]; omega) inL (by omega) (by omega) ⟨_, rfl, ?_⟩⟩
    refine iteF ?_
    replace hold := hold.same t7
    -- 4
    have cut1 : cutV ((linesB o' rs b).map V.str) none (some 1) = ((linesB o' rs b).take 1).map V.str := (cutV_to (k := 1)).trans List.map_take.symm
    have cut2 : cutV ((linesB o' rs b).map V.str) none (some 2) = ((linesB o' rs b).take 2).map V.str := (cutV_to (k := 2)).trans List.map_take.symm
    have drop1 : cutV ((linesB o' rs b).map V.str) (some 1) none = ((linesB o' rs b).drop 1).map V.str := (cutV_drop (k := 1) (by rw [List.length_map, nls]; omega)).trans List.map_drop.symm
    have drop2 : cutV ((linesB o' rs b).map V.str) (some 2) none = ((linesB o' rs b).drop 2).map V.str := (cutV_drop (k := 2) (by rw [List.length_map, nls]; omega)).trans List.map_drop.symm
    have f1 := lsF.take (n := 1)
    have f2 := lsF.take (n := 2)
    refine ⟨_, rfl, 1, rfl, L, _, rfl, SqL.of hold.hl, fun a4 Z4 na4 sa4 ea4 => ?_⟩
    rw [cut1] at ea4
    replace hold := hold.same sa4
    refine ⟨a4, (linesB o' rs b).take 1, rfl, ea4, by have := f1.1; omega, fun x hx => (f1.2 x hx).1, fun Y8 t8 => ?_⟩
    try unfold tNil
    refine says_said (hold.same t8).t (B.head (f1.text (by decide))) fun v4 Y9 u9 tt9 av4 => ?_
    replace hold := (hold.same t8).tab u9 tt9
    refine ⟨by show 2 ≤ sizeLine; decide, fun c4 Y10 nc4 t10 ec4 => ne_done av4 t10 ec4 rfl inL (by omega) (by omega) ⟨_, rfl, ?_⟩⟩
    refine iteF ?_
    replace hold := hold.same t10
    refine ⟨_, rfl, hold.t, says_read' says_empty (fun v5 Y11 u11 tt11 av5 => ?_) rfl⟩
    replace hold := hold.tab u11 tt11
    refine ⟨by show 2 ≤ sizeLine; decide, fun c5 Y12 nc5 t12 ec5 => ne_done av5 t12 ec5 rfl inL (by omega) (by omega) ⟨_, rfl, ?_⟩⟩
    refine iteF ?_
    replace hold := hold.same t12
    -- 5
    refine ⟨_, rfl, 2, rfl, L, _, rfl, SqL.of hold.hl, fun a5 Z5 na5 sa5 ea5 => ?_⟩
    rw [cut2] at ea5
    replace hold := hold.same sa5
    refine ⟨a5, (linesB o' rs b).take 2, rfl, ea5, by have := f2.1; omega, fun x hx => (f2.2 x hx).1, fun Y13 t13 => ?_⟩
    try unfold tNil
    refine says_said (hold.same t13).t (B.none (f2.text (by decide))) fun v6 Y14 u14 tt14 av6 => ?_
    replace hold := (hold.same t13).tab u14 tt14
    refine ⟨1, rfl, by show 2 ≤ sizeLine; decide, fun c6 Y15 nc6 t15 ec6 => ne_done av6 t15 ec6 rfl inB (by omega) (by omega) ⟨_, rfl, ?_⟩⟩
    refine iteF ?_
    replace hold := hold.same t15
    refine ⟨_, rfl, L, linesB o' rs b, rfl, hold.hl, by have := lsF.1; omega, fun x hx => (lsF.2 x hx).1, fun Y16 t16 => ?_⟩
    try unfold tNil
    refine says_said (hold.same t16).t (B.good (lsF.text (by decide))) fun v7 Y17 u17 tt17 av7 => ?_
    replace hold := (hold.same t16).tab u17 tt17
    have av7 : v7 = .str "read" := av7
    subst av7
    refine ⟨rfl, _, rfl, ?_⟩
    refine iteF ?_
    -- 6
    refine ⟨by show 0 ≤ sizeLine; decide, fun b1 W1 nb1 w1 eb1 => ?_⟩
    replace hold := hold.same w1
    refine ⟨by show 0 ≤ sizeLine; decide, fun b2 W2 nb2 w2 eb2 => ?_⟩
    replace hold := hold.same w2
    refine fun b3 nb3 => ?_
    have w3 := sameNew nb3 (.dK [])
    have eb3 : upd W2 b3 (.dK []) b3 = some (.dK []) := upd_same
    generalize upd W2 b3 (.dK []) = W3 at w3 eb3 ⊢
    replace hold := hold.same w3
    refine ⟨by show 6 ≤ sizeLine; decide, fun b4 W4 nb4 w4 eb4 => ?_⟩
    replace hold := hold.same w4
    have eb1' := w4 _ _ (w3 _ _ (w2 _ _ eb1))
    have eb2' := w4 _ _ (w3 _ _ eb2)
    have eb3' := w4 _ _ eb3
    refine ⟨b4, rfl, ⟨_, SqT.of eb4⟩, for_tup (K := K) (a := b4) (xs := [.non, .int 5, .ref b1, .ref b2, .ref b3, .bl true]) (fun i σ X => ∃ v6 : Option V, σ = [some (.ref S), some (.ref D), some (.ref R), some (.ref L), some (.int (p : Int)), some (.ref LB), v6, none, none, none] ∧ Hold PR S L R (linesB o' rs b) xs H X ∧ X b1 = some (.lst []) ∧ X b2 = some (.tup []) ∧ X b3 = some (.dK []) ∧ X b4 = some (.tup [.non, .int 5, .ref b1, .ref b2, .ref b3, .bl true])) ⟨_, rfl, hold, eb1', eb2', eb3', eb4⟩ (fun i σ X _ z => by obtain ⟨_, _, _, _, _, _, z⟩ := z; exact SqT.of z) ?_ ?_⟩
    · rintro i x σ X hx ⟨v6, rfl, hold, h1, h2, h3, h4⟩
      have odd : ∃ t : String, Bt K X x t ∧ t ≠ "str" := by
        have hm := List.mem_of_getElem? hx
        simp only [List.mem_cons, List.not_mem_nil, or_false] at hm
        rcases hm with rfl | rfl | rfl | rfl | rfl | rfl
        · exact ⟨"NoneType", ⟨.base .non, by decide⟩, by decide⟩
        · exact ⟨_, btInt _, by decide⟩
        · exact ⟨"list", ⟨.base (.lst h1), by decide⟩, by decide⟩
        · exact ⟨"tuple", ⟨.base (.tup h2), by decide⟩, by decide⟩
        · exact ⟨"dict", ⟨.base (.dK h3), by decide⟩, by decide⟩
        · exact ⟨"bool", ⟨.base (.bl _), by decide⟩, by decide⟩
      obtain ⟨t, bt, nt⟩ := odd
      refine ⟨_, rfl, _, rfl, hold.t, says_read' (.kind bt nt) (fun v8 Y1 u1 tt1 av8 => ?_) rfl⟩
      have k1 := LamB.go6 u1 hold.t h1 nofun
      have k2 := LamB.go6 u1 hold.t h2 nofun
      have k3 := LamB.go6 u1 hold.t h3 nofun
      have k4 := LamB.go6 u1 hold.t h4 nofun
      replace hold := hold.tab u1 tt1
      refine ⟨1, rfl, by show 2 ≤ sizeLine; decide, fun c8 Y2 nc8 t2 ec8 => ne_done av8 t2 ec8 rfl inL (by omega) (by omega) ⟨_, rfl, ?_⟩⟩
      refine iteF ?_
      exact ⟨_, rfl, hold.same t2, t2 _ _ k1, t2 _ _ k2, t2 _ _ k3, t2 _ _ k4⟩
    rintro σ X ⟨v6, rfl, hold, _, _, _, _⟩
    clear eb1' eb2' eb3' eb4 eb1 eb2 eb3
    -- 7
    refine ⟨_, rfl, R, _, rfl, .inl (SqL.of hold.hr), _, rfl, by rw [lx]; exact num_log B.sn, ?_⟩
    have fold : Str.ofString (toString (((xs.length : Nat)) : Int)) = num (rs.length : Int) := by rw [lx]; rfl
    rw [fold]
    have ln := num_len B.sn
    have sn1 : Small ((rs.length : Int) + 1) := ⟨by omega, by omega⟩
    have ln1 := num_len sn1
    have lgo : ("go " : Str).length ≤ 3 := by decide +kernel
    have l1 : (" " : Str).length ≤ 1 := by decide +kernel
    refine ⟨_, rfl, R, _, rfl, .inl (SqL.of hold.hr), _, _, rfl, rfl, _, rfl, by rw [lx]; exact num_log sn1, _, _, rfl, rfl, by rw [lx]; exact add_ok lgo ln1 (by decide), "9", 30, rfl, rfl, by decide, by decide, by decide +kernel, by decide +kernel, by decide +kernel, _, _, rfl, rfl, by decide +kernel, ?_⟩
    refine ⟨by show 6 ≤ sizeLine; decide, fun b5 W5 nb5 w5 eb5 => ?_⟩
    replace hold := hold.same w5
    have eb5 : W5 b5 = some (.lst ((sixRows rs.length).map V.str)) := by
      rw [eb5, lx]
      rfl
    refine ⟨b5, rfl, ⟨_, SqL.of eb5⟩, for_list (K := K) (a := b5) (xs := (sixRows rs.length).map V.str) (fun i σ X => ∃ v8 : Option V, σ = [some (.ref S), some (.ref D), some (.ref R), some (.ref L), some (.int (p : Int)), some (.ref LB), v6, some (.str (num (rs.length : Int))), v8, none] ∧ Hold PR S L R (linesB o' rs b) xs H X ∧ X b5 = some (.lst ((sixRows rs.length).map V.str))) ⟨_, rfl, hold, eb5⟩ (fun i σ X _ z => by obtain ⟨_, _, _, z⟩ := z; exact SqL.of z) ?_ ?_⟩
    · rintro i x σ X hx ⟨v8, rfl, hold, h5⟩
      obtain ⟨r1, hr1, rfl⟩ := List.mem_map.mp (List.mem_of_getElem? hx)
      obtain ⟨rl, rn, _, _⟩ := six_all rs.length (by omega) r1 hr1
      refine ⟨_, rfl, _, rfl, _, _, rfl, rfl, add_ok ln l1 (by decide), _, rfl, _, _, rfl, rfl, add_ok (add_len2 ln l1) rl (by decide), ?_⟩
      refine ⟨by show 1 ≤ sizeLine; decide, fun a1 Z1 na1 sa1 ea1 => ?_⟩
      replace hold := hold.same sa1
      refine ⟨L, a1, _, _, rfl, rfl, hold.hl, ea1, by rw [List.length_map, nls]; show _ + 1 ≤ sizeLine; rw [sizeLine_eq]; omega, fun a2 Z2 na2 sa2 ea2 => ?_⟩
      replace hold := hold.same sa2
      have f3 := lsF.append (LFine.one (l := num (rs.length : Int) ++ " " ++ r1) (by have := add_len2 (add_len2 ln l1) rl; omega) rn)
      refine ⟨a2, linesB o' rs b ++ [num (rs.length : Int) ++ " " ++ r1], rfl, by rw [List.map_append]; exact ea2, by have := f3.1; omega, fun x hx => (f3.2 x hx).1, fun Y5 t5 => ?_⟩
      try unfold tNil
      refine says_said (hold.same t5).t (B.odd hr1 (f3.text (by decide))) fun v3 Y6 u6 tt6 av3 => ?_
      have h6 := LamB.go6 u6 (hold.same t5).t (t5 _ _ (sa2 _ _ (sa1 _ _ h5))) nofun
      replace hold := (hold.same t5).tab u6 tt6
      refine ⟨_, rfl, R, _, rfl, .inl (SqL.of hold.hr), by show 2 ≤ sizeLine; decide, fun c3 Y7 nc3 t7 ec3 => ne_done av3 t7 ec3 (by rw [lx]) inB (by omega) (by omega) ⟨_, rfl, ?_⟩⟩
      refine iteF ?_
      exact ⟨_, rfl, hold.same t7, t7 _ _ h6⟩
    rintro σ X ⟨v8, rfl, hold, _⟩
    clear eb5
    -- 8
    have lst_ : ("start " : Str).length ≤ 6 := by decide +kernel
    have fd2 := lsF.drop (n := 2)
    have fd1 := lsF.drop (n := 1)
    have fs := LFine.one (l := "start " ++ num (rs.length : Int)) (by have := add_len2 lst_ ln; omega) (start_free (by omega))
    refine ⟨_, rfl, 1, rfl, L, _, rfl, SqL.of hold.hl, fun a1 Z1 na1 sa1 ea1 => ?_⟩
    rw [cut1] at ea1
    replace hold := hold.same sa1
    refine ⟨_, rfl, _, _, rfl, rfl, add_ok lst_ ln (by decide), ?_⟩
    refine ⟨by show 1 ≤ sizeLine; decide, fun a2 Z2 na2 sa2 ea2 => ?_⟩
    replace hold := hold.same sa2
    refine ⟨a1, a2, _, _, rfl, rfl, sa2 _ _ ea1, ea2, by rw [List.length_map, List.length_take]; show _ + 1 ≤ sizeLine; rw [sizeLine_eq]; omega, fun a3 Z3 na3 sa3 ea3 => ?_⟩
    replace hold := hold.same sa3
    refine ⟨_, rfl, 2, rfl, L, _, rfl, SqL.of hold.hl, fun a4 Z4 na4 sa4 ea4 => ?_⟩
    rw [drop2] at ea4
    replace hold := hold.same sa4
    refine ⟨a3, a4, _, _, rfl, rfl, sa4 _ _ ea3, ea4, by rw [List.length_append, List.length_map, List.length_map, List.length_take, List.length_drop, nls]; show _ + 1 + _ ≤ sizeLine; rw [sizeLine_eq]; omega, fun a5 Z5 na5 sa5 ea5 => ?_⟩
    replace hold := hold.same sa5
    have f8 := (f1.append fs).append fd2
    refine ⟨a5, ((linesB o' rs b).take 1 ++ ["start " ++ num (rs.length : Int)]) ++ (linesB o' rs b).drop 2, rfl, by rw [List.map_append, List.map_append]; exact ea5, by have := f8.1; omega, fun x hx => (f8.2 x hx).1, fun Y1 t1 => ?_⟩
    try unfold tNil
    refine says_said (hold.same t1).t (B.far (f8.text (by decide))) fun v1 Y2 u2 tt2 av1 => ?_
    replace hold := (hold.same t1).tab u2 tt2
    refine ⟨_, rfl, R, _, rfl, .inl (SqL.of hold.hr), by show 2 ≤ sizeLine; decide, fun c3 Y3 nc3 t3 ec3 => ne_done av1 t3 ec3 (by rw [lx]) inS (by omega) (by omega) ⟨_, rfl, ?_⟩⟩
    refine iteF ?_
    replace hold := hold.same t3
    -- 9
    refine ⟨_, rfl, _, _, rfl, rfl, add_ok lst_ ln (by decide), ?_⟩
    refine ⟨by show 2 ≤ sizeLine; decide, fun g1 Z6 ng1 sg1 eg1 => ?_⟩
    replace hold := hold.same sg1
    refine ⟨_, rfl, 2, rfl, L, _, rfl, SqL.of hold.hl, fun g2 Z7 ng2 sg2 eg2 => ?_⟩
    rw [drop2] at eg2
    replace hold := hold.same sg2
    refine ⟨g1, g2, _, _, rfl, rfl, sg2 _ _ eg1, eg2, by rw [List.length_map, List.length_drop, nls]; show 2 + _ ≤ sizeLine; rw [sizeLine_eq]; omega, fun g3 Z8 ng3 sg3 eg3 => ?_⟩
    replace hold := hold.same sg3
    obtain ⟨xc, yc, zc, ec⟩ := hold.src
    refine ⟨_, rfl, _, rfl, L, _, rfl, .inl (SqL.of hold.hl), _, _, rfl, rfl, S, rs.length + 3, xc, yc, zc, by rw [List.length_map, nls]; rfl, ec, by omega, by omega, fun ll xd yd zd Z9 bll btd ed => ?_⟩
    have g3S : g3 ≠ S := fun q => by rw [q, ec] at eg3; cases eg3
    replace eg3 := btd _ _ g3S eg3
    replace hold := hold.but btd ed
    refine ⟨by show 1 ≤ sizeLine; decide, fun g4 Z10 ng4 sg4 eg4 => ?_⟩
    replace hold := hold.same sg4
    refine ⟨g3, g4, _, _, rfl, rfl, sg4 _ _ eg3, eg4, by rw [List.length_append, List.length_map, List.length_drop, nls]; show 2 + _ + 1 ≤ sizeLine; rw [sizeLine_eq]; omega, fun g5 Z11 ng5 sg5 eg5 => ?_⟩
    replace hold := hold.same sg5
    have fc : LFine 1 [("operations coin 7" : Str)] := LFine.one (by decide +kernel) (by decide +kernel)
    have f9 : LFine 50 ((([("operations coin 7" : Str), "start " ++ num (rs.length : Int)] : List Str) ++ (linesB o' rs b).drop 2) ++ [ll]) := LFine.mono (((fc.append fs).append fd2).append (LFine.one (l := ll) (by have := bll.sz; omega) bll.nl)) (by decide)
    have eg5 : Z11 g5 = some (.lst ((((([("operations coin 7" : Str), "start " ++ num (rs.length : Int)] : List Str) ++ (linesB o' rs b).drop 2) ++ [ll])).map V.str)) := by rw [eg5, List.map_append, List.map_append]; rfl
    refine ⟨_, rfl, g5, ((([("operations coin 7" : Str), "start " ++ num (rs.length : Int)] : List Str) ++ (linesB o' rs b).drop 2) ++ [ll]), rfl, eg5, by have := f9.1; omega, fun x hx => (f9.2 x hx).1, fun Y4 t4 => ?_⟩
    try unfold tNil
    refine says_said (hold.same t4).t (B.late bll (LFine.text f9 (by decide))) fun v2 Y5 u5 tt5 av2 => ?_
    replace hold := (hold.same t4).tab u5 tt5
    refine ⟨_, rfl, L, _, rfl, .inl (SqL.of hold.hl), _, _, rfl, rfl, by show 2 ≤ sizeLine; decide, fun c4 Y6 nc4 t6 ec4 => ne_done av2 t6 ec4 (by rw [List.length_map, nls]; omega) inL (by omega) (by omega) ⟨_, rfl, ?_⟩⟩
    refine iteF ?_
    replace hold := hold.same t6
    -- 10
    refine ⟨by show 1 ≤ sizeLine; decide, fun h1 Z12 nh1 sh1 eh1 => ?_⟩
    replace hold := hold.same sh1
    refine ⟨_, rfl, 1, rfl, L, _, rfl, SqL.of hold.hl, fun h2 Z13 nh2 sh2 eh2 => ?_⟩
    rw [drop1] at eh2
    replace hold := hold.same sh2
    refine ⟨h1, h2, _, _, rfl, rfl, sh2 _ _ eh1, eh2, by rw [List.length_map, List.length_drop, nls]; show 1 + _ ≤ sizeLine; rw [sizeLine_eq]; omega, fun h3 Z14 nh3 sh3 eh3 => ?_⟩
    replace hold := hold.same sh3
    have f10 := fc.append fd1
    refine ⟨h3, ([("operations coin 7" : Str)] : List Str) ++ (linesB o' rs b).drop 1, rfl, by rw [List.map_append]; exact eh3, by have := f10.1; omega, fun x hx => (f10.2 x hx).1, fun Y7 t7 => ?_⟩
    try unfold tNil
    refine says_said (hold.same t7).t (B.seven (f10.text (by decide))) fun v9 Y8 u8 tt8 av9 => ?_
    replace hold := (hold.same t7).tab u8 tt8
    have av9 : v9 = .str "operations" := av9
    subst av9
    refine ⟨rfl, ?_⟩
    exact k _ hold.mv hold.src hold.t
end
end Mine

set_option maxRecDepth 100000
set_option maxHeartbeats 4000000
namespace Mine
open PySem L2 TL LamB
def signP (c : Nat) : Str := "z" ++ (⟨#[c]⟩ : Str) ++ " 1"
def signs : Str := "abcdefghi"
def nineP : List Str := signs.cps.toList.map signP
def nineS : Str := "operations " ++ Txt.join ", " nineP
def oneS : Str := timesS "1" 31
def tail2 : Str := "\nstart 0\n0 end a\n"
theorem nine_lines : (nineS ++ tail2).length ≤ 100000 ∧ Txt.split (nineS ++ tail2) "\n" = [nineS, ("start 0" : Str), ("0 end a" : Str)] ++ [("" : Str)] ∧ COk "operations" nineS ∧ (cT "operations" nineS).any (fun o => decide (o.length = 9)) = true := by decide +kernel
theorem one_lines : ((("operations a " : Str) ++ oneS) ++ tail2).length ≤ 100000 ∧ Txt.split ((("operations a " : Str) ++ oneS) ++ tail2) "\n" = [("operations a " : Str) ++ oneS, ("start 0" : Str), ("0 end a" : Str)] ++ [("" : Str)] ∧ COk "operations" (("operations a " : Str) ++ oneS) ∧ (cT "operations" (("operations a " : Str) ++ oneS)).isNone = true := by decide +kernel
theorem two_lines : ((("operations\nstart " : Str) ++ oneS) ++ ("\n0 end a\n" : Str)).length ≤ 100000 ∧ Txt.split ((("operations\nstart " : Str) ++ oneS) ++ ("\n0 end a\n" : Str)) "\n" = [("operations" : Str), ("start " : Str) ++ oneS, ("0 end a" : Str)] ++ [("" : Str)] ∧ WOk (("start " : Str) ++ oneS) ∧ (sT (("start " : Str) ++ oneS)).isNone = true := by decide +kernel
theorem three_lines : ((("operations\nstart 0\n0 go " : Str) ++ oneS) ++ ("\n" : Str)).length ≤ 100000 ∧ Txt.split ((("operations\nstart 0\n0 go " : Str) ++ oneS) ++ ("\n" : Str)) "\n" = [("operations" : Str), ("start 0" : Str), ("0 go " : Str) ++ oneS] ++ [("" : Str)] ∧ WOk (("0 go " : Str) ++ oneS) ∧ (rT 0 (("0 go " : Str) ++ oneS)).isNone = true := by decide +kernel
theorem plain0 : COk "operations" "operations" ∧ cT "operations" "operations" = some [] ∧ WOk "start 0" ∧ sT "start 0" = some 0 ∧ rowL 0 (.fin "a") = ("0 end a" : Str) ∧ isNm "a" = true := by decide +kernel
section
variable {K : PySem.W.Frag} {H : Hp}
theorem says_nine : Says K H (.str (nineS ++ tail2)) .ops := by
  obtain ⟨h1, h2, h3, h4⟩ := nine_lines
  cases hc : cT "operations" nineS with
  | none => rw [hc] at h4; cases h4
  | some o =>
    rw [hc] at h4
    have h4 : decide (o.length = 9) = true := h4
    have h9 := of_decide_eq_true h4
    exact .ops (ls := [nineS, ("start 0" : Str), ("0 end a" : Str)]) (b := 0) (es := [RowD.fin "a"].map RowE.of) ⟨h1, by decide, .inl h2⟩ (by simp) ⟨_, rfl, h3, hc⟩ ⟨_, rfl, plain0.2.2.1, plain0.2.2.2.1⟩ (rows_at (by decide) (fun d hd => by
      rw [List.mem_singleton.mp hd]
      exact plain0.2.2.2.2.2) fun i d e => by
      match i, e with
      | 0, e =>
        have e : some (RowD.fin "a") = some d := e
        rw [← Option.some.inj e]
        show some ("0 end a" : Str) = some (rowL 0 (.fin "a"))
        rw [plain0.2.2.2.2.1]
      | i + 1, e => simp at e) rfl ⟨by omega, .inl (by omega)⟩
theorem says_one : Says K H (.str ((("operations a " : Str) ++ oneS) ++ tail2)) (.at "line" 1) := by
  obtain ⟨h1, h2, h3, h4⟩ := one_lines
  exact .b0 ⟨h1, by simp, .inl h2⟩ (by simp) (.inr ⟨_, rfl, h3, Option.isNone_iff_eq_none.mp h4⟩)
theorem says_two : Says K H (.str ((("operations\nstart " : Str) ++ oneS) ++ ("\n0 end a\n" : Str))) (.at "line" 2) := by
  obtain ⟨h1, h2, h3, h4⟩ := two_lines
  exact .b1 ⟨h1, by simp, .inl h2⟩ (by simp) ⟨_, rfl, plain0.1, plain0.2.1⟩ (.inr ⟨_, rfl, h3, Option.isNone_iff_eq_none.mp h4⟩)
theorem says_three : Says K H (.str ((("operations\nstart 0\n0 go " : Str) ++ oneS) ++ ("\n" : Str))) (.at "line" 3) := by
  obtain ⟨h1, h2, h3, h4⟩ := three_lines
  exact Says.line (es := []) (b := 0) ⟨h1, by simp, .inl h2⟩ (by simp) ⟨_, rfl, plain0.1, plain0.2.1⟩ ⟨_, rfl, plain0.2.2.1, plain0.2.2.2.1⟩ (fun i e h => by simp at h) rfl h3 (Option.isNone_iff_eq_none.mp h4)
end
end Mine

set_option maxRecDepth 100000
set_option maxHeartbeats 4000000
namespace Mine
open PySem L2 TL LamB
abbrev s_law : Stmt := top 62
theorem nine_len : (∀ l ∈ nineP, l.length ≤ 4) ∧ nineP.length = 9 ∧ signs.cps.size = 9 ∧ signs.length = 9 := by decide +kernel
theorem three_shaped : SeqAt.shaped (.list [.tuple [.str "line", .int 1], .tuple [.str "line", .int 2], .tuple [.str "line", .int 3]]) = true := by decide +kernel
theorem three_eq : PyData.eqv (.list [.tuple [.str "line", .int 1], .tuple [.str "line", .int 2], .tuple [.str "line", .int 3]]) (.list [.tuple [.str "line", .int 1], .tuple [.str "line", .int 2], .tuple [.str "line", .int 3]]) = true := by simp [PyData.eqv, PyData.eqvAll]
def spLaw (K : PySem.W.Frag) (PR : Addr) : Sp := fun vs H Q _ => ∃ (a : Addr) (ns : List Int), vs = [.ref a] ∧ SqL K H a (ns.map V.int) ∧ ns.length ≤ 63 ∧ LamX.Tabs [(PR, qRB)] H ∧ ∀ H', Q (.bl true) H'
section
variable {P : Program} {w : World} {K : PySem.W.Frag} {mg : Str → Option Value} {base : Heap}
variable {fII fIW CB CM CT CO CR CS PR a_src a_right a_said : Addr}
theorem sc_law : FnScope ["_law_script", "_law_cell", "_law_source", "_law_turn", "_law_nine", "_law_sign", "_law_figures", "_law_some"] ["_law_script"] (defScope s_law) := ⟨rfl, rfl, rfl, by decide +kernel, rfl, by decide +kernel, by decide +kernel⟩

theorem ok_law {f : Addr} {fd fd_src fd_right fd_said : FuncData} (F : Fun K "law" "law" s_law f fd) (T : TxtF K mg fII fIW) (h_range : mg "range" = none)
    (G__law_source_of : FnOk P w K mg base CX0 1 a_src fd_src ["_law_cell"] spSrc) (b__law_source_of : Binds K fd_src ["_law_cell"] []) (g__law_source_of : mg "_law_source_of" = some (.ref a_src)) (k__law_source_of : PySem.W.keepIn K (.ref a_src) = true)
    (G__law_right : FnOk P w K mg base CX0 11 a_right fd_right ["_law_source"] (spRight PR)) (b__law_right : Binds K fd_right ["_law_source"] []) (g__law_right : mg "_law_right" = some (.ref a_right)) (k__law_right : PySem.W.keepIn K (.ref a_right) = true)
    (G__law_said : FnOk P w K mg base CX0 10 a_said fd_said ["_law_text"] (spSaidT K CB CM CT CO CR CS PR)) (b__law_said : Binds K fd_said ["_law_text"] []) (g__law_said : mg "_law_said" = some (.ref a_said)) (k__law_said : PySem.W.keepIn K (.ref a_said) = true) :
    FnOk P w K mg base CX0 12 f fd ["_law_script"] (spLaw K PR) := by
  refine F.ok sc_law (fun vs H Q E h => ?_) (fun cdv A outer s H vs Q E hr h => ?_)
  · obtain ⟨a, ns, rfl, _⟩ := h
    rfl
  · obtain ⟨a, ns, rfl, hS, hlen, tabs, k⟩ := h
    refine ⟨_, (pss_cons (ps_for PassesOwn.never rfl (pi_list (pe_op op_catG (pe_slice sl_listG (pv 0) po_none (po_some pe_int)) (pe_lstG (pa_cons pe_int pa_nil)))) (pg_name (i := 1) sc_law.nd rfl (Or.inl rfl)) (pss_cons (ps_set (i := 2) sc_law.nd rfl (Or.inl rfl) (pe_call G__law_source_of (hr.mono (by decide)) (by rfl) g__law_source_of k__law_source_of b__law_source_of .nil pass0 (pa_cons (pv 1) pa_nil)))
      (pss_one (ps_for PassesOwn.never rfl (pi_range1 (by rfl) h_range (pa_cons pe_int pa_nil)) (pg_name (i := 3) sc_law.nd rfl (Or.inl rfl)) (pss_one (ps_if (pt_not (pt_val (pe_call G__law_right (hr.mono (by decide)) (by rfl) g__law_right k__law_right b__law_right .nil pass0 (pa_cons (pv 2) pa_nil)))) (pss_one (ps_ret pe_bl)) pss_nil))))))
      (pss_cons (ps_set (i := 4) sc_law.nd rfl (Or.inl rfl) (pe_op op_add_str pe_str (pe_join pe_str (pe_lc (own := [("_law_sign", 5)]) (g := (gName 5)) (tt := tYes) rfl sc_law.nd (pi_str pe_str) (blkOk_by (own := [("_law_sign", 5)]) (N := ["_law_script", "_law_cell", "_law_source", "_law_turn", "_law_nine", "_law_sign", "_law_figures", "_law_some"]) (sc := defScope s_law) (by decide +kernel)) (fun _ _ _ _ _ => (pg_name (i := 5) sc_law.nd rfl (Or.inl rfl))) (fun _ _ _ _ _ => pts_nil) (fun _ _ _ _ _ => (pe_op op_add_str (pe_op op_add_str pe_str (pv 5)) pe_str))))))
      (pss_cons (ps_if (pt_cmpR op_ne (pe_call G__law_said (hr.mono (by decide)) (by rfl) g__law_said k__law_said b__law_said .nil pass0 (pa_cons (pe_op op_add_str (pv 4) pe_str) pa_nil)) pe_str (nomark _)) (pss_one (ps_ret pe_bl)) pss_nil)
      (pss_cons (ps_set (i := 6) sc_law.nd rfl (Or.inl rfl) (pe_op op_mulS pe_str pe_int))
      (pss_cons (ps_set (i := 7) sc_law.nd rfl (Or.inl rfl) (pe_lstG (pa_cons (pe_call G__law_said (hr.mono (by decide)) (by rfl) g__law_said k__law_said b__law_said .nil pass0 (pa_cons (pe_op op_add_str (pe_op op_add_str pe_str (pv 6)) pe_str) pa_nil)) pa_nil)))
      (pss_cons (ps_expr (pe_bm PySem.F.plainAttrs_list PySem.F.slot_list_append PySem.F.type_list_append mt_append (pv 7) (pa_cons (pe_call G__law_said (hr.mono (by decide)) (by rfl) g__law_said k__law_said b__law_said .nil pass0 (pa_cons (pe_op op_add_str (pe_op op_add_str pe_str (pv 6)) pe_str) pa_nil)) pa_nil)))
      (pss_cons (ps_expr (pe_bm PySem.F.plainAttrs_list PySem.F.slot_list_append PySem.F.type_list_append mt_append (pv 7) (pa_cons (pe_call G__law_said (hr.mono (by decide)) (by rfl) g__law_said k__law_said b__law_said .nil pass0 (pa_cons (pe_op op_add_str (pe_op op_add_str pe_str (pv 6)) pe_str) pa_nil)) pa_nil)))
      (pss_one (ps_ret (pe_cmpR (op_eqD hr.units) (pv 7) (pe_lstG (pa_cons (pe_tupG (pa_cons pe_str (pa_cons pe_int pa_nil))) (pa_cons (pe_tupG (pa_cons pe_str (pa_cons pe_int pa_nil))) (pa_cons (pe_tupG (pa_cons pe_str (pa_cons pe_int pa_nil))) pa_nil)))) (nomark _))))))))))), ?_⟩
    refine ⟨_, rfl, 6, rfl, a, _, rfl, hS, fun p1 H1 n1 s1 e1 => ?_⟩
    refine ⟨by show 1 ≤ sizeLine; decide, fun p2 H2 n2 s2 e2 => ?_⟩
    refine ⟨p1, p2, _, _, rfl, rfl, s2 _ _ e1, e2, ?_, fun p3 H3 n3 s3 e3 => ?_⟩
    · have := ints_cut_len (lo := none) (hi := some 6) hlen
      show _ + 1 ≤ sizeLine
      rw [sizeLine_eq]
      omega
    have t3 := tabs_same tabs (s1.trans (s2.trans s3))
    refine ⟨p3, rfl, ⟨_, SqL.of e3⟩, for_list (K := K) (a := p3) (xs := cutV (ns.map V.int) none (some 6) ++ [.int 0]) (fun i σ H' => ∃ v1 v2 v3 : Option V, σ = [some (.ref a), v1, v2, v3, none, none, none, none] ∧ LamX.Tabs [(PR, qRB)] H' ∧ ButT PR H3 H') ⟨_, _, _, rfl, t3, ButT.refl PR H3⟩ (fun i σ H' _ z => by obtain ⟨_, _, _, _, _, u⟩ := z; exact SqL.of (LamB.go6 u t3 e3 nofun)) ?_ ?_⟩
    · rintro i y σ Hc hi ⟨v1, v2, v3, rfl, tc, uc⟩
      obtain ⟨c, rfl⟩ := ints_cut hi
      refine ⟨_, rfl, c, rfl, fun x y z S H4 n4 s4 e4 => ?_⟩
      have t4 := tabs_same tc s4
      refine ⟨8, rfl, by decide, by decide, for_range (n := 8) (fun j σ H' => ∃ v3 : Option V, σ = [some (.ref a), some (.int c), some (.ref S), v3, none, none, none, none] ∧ LamX.Tabs [(PR, qRB)] H' ∧ Mv S PR H4 H' ∧ SrcAt H' S) ⟨_, rfl, t4, Mv.refl S PR H4, x, y, z, e4⟩ ?_ ?_⟩
      · rintro j σ Hd hj ⟨v3, rfl, td, md, src⟩
        refine ⟨_, rfl, S, rfl, src, td, fun Hn mn srcn tn => ⟨_, rfl, ?_⟩⟩
        refine iteF ?_
        exact ⟨_, rfl, tn, md.trans mn, srcn⟩
      · rintro σ Hd ⟨v3, rfl, td, md, src⟩
        refine ⟨_, _, _, rfl, td, fun b u nP e => ?_⟩
        have e1 := uc b u nP e
        exact md b u (fun q => by rw [q, n4] at e1; cases e1) nP (s4 _ _ e1)
    · rintro σ Hz ⟨v1, v2, v3, rfl, tz, uz⟩
      obtain ⟨nl, nn, ns1, ns2⟩ := nine_len
      have l1 : (" 1" : Str).length ≤ 2 := by decide +kernel
      have lz : ("z" : Str).length ≤ 1 := by decide +kernel
      refine ⟨⟨_, rfl⟩, signs, rfl, fun D nD => lc_it walk_str (fun i Hx => Same Hz Hx ∧ Hx D = some (.lst ((nineP.take i).map V.str))) ⟨sameNew nD _, upd_same⟩ (fun _ _ _ _ => trivial) (fun i y Ha Hb hi z1 z2 => ?_) fun Hx z => ?_⟩
      · obtain ⟨sx, ex⟩ := z1
        obtain ⟨rfl, ch, hc, rfl⟩ := z2
        have hc2 : signs.cps.toList[i]? = some ch := by rw [← hc]; simp
        have one : (⟨#[ch]⟩ : Str).length ≤ 1 := by show (#[ch]).size ≤ 1; simp
        refine ⟨rfl, _, rfl, _, _, rfl, rfl, add_ok lz one (by decide), _, _, rfl, rfl, add_ok (add_len2 lz one) l1 (by decide), ?_⟩
        exact str_step nD sx ex (Same.refl _) (by unfold nineP; rw [List.getElem?_map, hc2]; rfl) (by rw [nn]; decide)
      · obtain ⟨sx, ex⟩ := z
        have e9 : (nineP.take signs.cps.size) = nineP := List.take_of_length_le (by rw [nn, ns1]; exact Nat.le_refl _)
        rw [e9] at ex
        have cl : (", " : Str).length = 2 := by decide +kernel
        have jl := joinS_len (ss := nineP) (y := ", ") (k := 4) (n := 9) (by omega) nl
        rw [cl] at jl
        have jl2 := Nat.le_trans (join_len ", " nineP) (by rw [cl]; exact jl)
        have lo : ("operations " : Str).length ≤ 11 := by decide +kernel
        have lt2 : tail2.length ≤ 50 := by decide +kernel
        have l9 : nineS.length ≤ 100 := by unfold nineS; have := add_len2 lo jl2; omega
        refine ⟨", ", D, nineP, rfl, rfl, .inl (SqL.of ex), by rw [cl]; omega, "operations ", _, rfl, rfl, add_ok lo jl2 (by decide), ?_⟩
        have tx := tabs_same tz sx
        refine ⟨_, rfl, _, _, rfl, rfl, add_ok (show ("operations " ++ Txt.join ", " nineP).length ≤ 100 from l9) lt2 (by decide), ?_⟩
        refine ⟨_, rfl, tx, says_read' says_nine (fun v Y1 u1 tt1 av => ?_) rfl⟩
        have av : v = .str "operations" := av
        subst av
        refine ⟨rfl, _, rfl, ?_⟩
        refine iteF ?_
        refine ⟨"1", 31, rfl, rfl, by decide, by decide, by decide +kernel, by decide +kernel, by decide +kernel, ?_⟩
        have l31 : oneS.length ≤ 31 := by decide +kernel
        have la : ("operations a " : Str).length ≤ 13 := by decide +kernel
        have lb : ("operations\nstart " : Str).length ≤ 20 := by decide +kernel
        have lc : ("operations\nstart 0\n0 go " : Str).length ≤ 30 := by decide +kernel
        have le : ("\n0 end a\n" : Str).length ≤ 10 := by decide +kernel
        have lf : ("\n" : Str).length ≤ 1 := by decide +kernel
        refine ⟨_, rfl, _, _, rfl, rfl, add_ok la l31 (by decide), _, _, rfl, rfl, add_ok (add_len2 la l31) lt2 (by decide), ?_⟩
        refine ⟨_, rfl, tt1, says_read' says_one (fun va Y2 u2 tt2 ava => ?_) rfl⟩
        obtain ⟨ua, rfl, ea⟩ := ava
        refine ⟨by show 1 ≤ sizeLine; decide, fun L Y3 nL sL eL => ?_⟩
        have t3' := tabs_same tt2 sL
        have ea3 := sL _ _ ea
        refine ⟨_, rfl, .inl ⟨rfl, _, SqL.of eL⟩, _, rfl, _, _, rfl, rfl, add_ok lb l31 (by decide), _, _, rfl, rfl, add_ok (add_len2 lb l31) le (by decide), ?_⟩
        refine ⟨_, rfl, t3', says_read' says_two (fun vb Y4 u4 tt4 avb => ?_) rfl⟩
        obtain ⟨ub, rfl, eb⟩ := avb
        have ea4 := LamB.go6 u4 t3' ea3 nofun
        have eL4 := LamB.go6 u4 t3' eL nofun
        refine ⟨L, _, _, rfl, rfl, eL4, by show 1 < sizeLine; decide, ?_⟩
        have uaL : ua ≠ L := fun q => by rw [q, eL4] at ea4; cases ea4
        have ubL : ub ≠ L := fun q => by rw [q, eL4] at eb; cases eb
        have tt5 := LamB.tabs6 (o := .lst ([.ref ua] ++ [.ref ub])) tt4 eL4
        have ea5 : upd Y4 L (.lst ([.ref ua] ++ [.ref ub])) ua = some (.tup [.str "line", .int 1]) := by rw [upd_ne uaL]; exact ea4
        have eb5 : upd Y4 L (.lst ([.ref ua] ++ [.ref ub])) ub = some (.tup [.str "line", .int 2]) := by rw [upd_ne ubL]; exact eb
        have eL5 : upd Y4 L (.lst ([.ref ua] ++ [.ref ub])) L = some (.lst ([.ref ua] ++ [.ref ub])) := upd_same
        generalize upd Y4 L (.lst ([.ref ua] ++ [.ref ub])) = Y5 at tt5 ea5 eb5 eL5 ⊢
        refine ⟨_, rfl, .inl ⟨rfl, _, SqL.of eL5⟩, _, rfl, _, _, rfl, rfl, add_ok lc l31 (by decide), _, _, rfl, rfl, add_ok (add_len2 lc l31) lf (by decide), ?_⟩
        refine ⟨_, rfl, tt5, says_read' says_three (fun vc Y6 u6 tt6 avc => ?_) rfl⟩
        obtain ⟨uc', rfl, ec⟩ := avc
        have ea6 := LamB.go6 u6 tt5 ea5 nofun
        have eb6 := LamB.go6 u6 tt5 eb5 nofun
        have eL6 := LamB.go6 u6 tt5 eL5 nofun
        refine ⟨L, _, _, rfl, rfl, eL6, by show 2 < sizeLine; decide, ?_⟩
        have uaL6 : ua ≠ L := uaL
        have ucL : uc' ≠ L := fun q => by rw [q, eL6] at ec; cases ec
        have ea7 : upd Y6 L (.lst (([.ref ua] ++ [.ref ub]) ++ [.ref uc'])) ua = some (.tup [.str "line", .int 1]) := by rw [upd_ne uaL]; exact ea6
        have eb7 : upd Y6 L (.lst (([.ref ua] ++ [.ref ub]) ++ [.ref uc'])) ub = some (.tup [.str "line", .int 2]) := by rw [upd_ne ubL]; exact eb6
        have ec7 : upd Y6 L (.lst (([.ref ua] ++ [.ref ub]) ++ [.ref uc'])) uc' = some (.tup [.str "line", .int 3]) := by rw [upd_ne ucL]; exact ec
        have eL7 : upd Y6 L (.lst (([.ref ua] ++ [.ref ub]) ++ [.ref uc'])) L = some (.lst [.ref ua, .ref ub, .ref uc']) := upd_same
        generalize upd Y6 L (.lst (([.ref ua] ++ [.ref ub]) ++ [.ref uc'])) = Y7 at ea7 eb7 ec7 eL7 ⊢
        refine ⟨_, rfl, by show 2 ≤ sizeLine; decide, fun w1 Z1 nw1 sw1 ew1 => ⟨by show 2 ≤ sizeLine; decide, fun w2 Z2 nw2 sw2 ew2 => ⟨by show 2 ≤ sizeLine; decide, fun w3 Z3 nw3 sw3 ew3 => ⟨by show 3 ≤ sizeLine; decide, fun w4 Z4 nw4 sw4 ew4 => ?_⟩⟩⟩⟩
        have sz : Same Y7 Z4 := sw1.trans (sw2.trans (sw3.trans sw4))
        refine ⟨.list [.tuple [.str "line", .int 1], .tuple [.str "line", .int 2], .tuple [.str "line", .int 3]], .list [.tuple [.str "line", .int 1], .tuple [.str "line", .int 2], .tuple [.str "line", .int 3]], .lst (SqL.of (sz _ _ eL7)) (.cons (.tup (.inl (.inl (sz _ _ ea7))) (.cons (.str _) (.cons (.int _) .nil))) (.cons (.tup (.inl (.inl (sz _ _ eb7))) (.cons (.str _) (.cons (.int _) .nil))) (.cons (.tup (.inl (.inl (sz _ _ ec7))) (.cons (.str _) (.cons (.int _) .nil))) .nil))),
          .lst (SqL.of ew4) (.cons (.tup (.inl (.inl (sw4 _ _ (sw3 _ _ (sw2 _ _ ew1))))) (.cons (.str _) (.cons (.int _) .nil))) (.cons (.tup (.inl (.inl (sw4 _ _ (sw3 _ _ ew2)))) (.cons (.str _) (.cons (.int _) .nil))) (.cons (.tup (.inl (.inl (sw4 _ _ ew3))) (.cons (.str _) (.cons (.int _) .nil))) .nil))), three_shaped, three_shaped, ?_⟩
        rw [three_eq]
        exact k _
end
end Mine

set_option maxRecDepth 100000
set_option maxHeartbeats 4000000
namespace Mine
open PySem L2
abbrev veRow : List Value := [.type "ValueError", .type "Exception", .type "BaseException", .type "object"]
/-- what the written part holds of an error class -/
structure Raw (K : PySem.W.Frag) (cA C : Addr) : Prop where
  xL : ∃ nm q N bs sn sub ab col dd m0 m1 m2 m3 m5, K.lookup C = some (excClassObj nm q C N bs [.ref cA, .type "ValueError", .type "Exception", .type "BaseException", .type "object"] true sn sub ab col dd m0 m1 m2 m3 m5 "ValueError.__new__")
  ga : PySem.W.findIn K (.ref C) "__getattribute__" = some (some (.builtin "BaseException.__getattribute__"))
  gg : PySem.W.findIn K (.ref C) "__getattr__" = some none
  ca : PySem.W.findIn K (.ref C) "__class__" = some (some (.builtin "object.__class__"))
  sa : PySem.W.findIn K (.ref C) "__setattr__" = some (some (.builtin "object.__setattr__"))
  ty : PySem.W.typeIn K (.ref C) = some (.type "type")
  hd : PySem.W.hasDictIn K C = true
  kC : PySem.W.keepIn K (.ref C) = true
theorem Raw.mro {K : PySem.W.Frag} {cA C : Addr} (r : Raw K cA C) : ∃ cd : ClassData, PySem.W.clsIn K C = some cd ∧ cd.mro = [.ref C, .ref cA, .type "ValueError", .type "Exception", .type "BaseException", .type "object"] := by
  obtain ⟨nm, q, N, bs, sn, sub, ab, col, dd, m0, m1, m2, m3, m5, hC⟩ := r.xL
  refine ⟨{ name := nm, bases := bs, mro := [.ref C, .ref cA, .type "ValueError", .type "Exception", .type "BaseException", .type "object"], ns := N, qualname := q, hasDict := true, slotNames := sn, subclasses := sub, abstract := ab, collection := col, hasDel := false }, ?_, rfl⟩
  unfold PySem.W.clsIn
  rw [hC] <;> rfl
theorem Raw.sub {K : PySem.W.Frag} {cA C : Addr} (r : Raw K cA C) (b : Value) (hb : ([.ref C, .ref cA, .type "ValueError", .type "Exception", .type "BaseException", .type "object"] : List Value).contains b = true) :
    PySem.W.mroIn K C b = some true := by
  obtain ⟨cd, h1, h2⟩ := r.mro
  show (PySem.W.clsIn K C).bind _ = _
  rw [h1, Option.bind_some, h2]
  show some _ = some true
  rw [hb]
theorem Raw.exc {K : PySem.W.Frag} {cA C : Addr} (r : Raw K cA C) (hn : PySem.W.specialIn K (.builtin "object.__class__") "__get__" = some (some (.builtin "getset_descriptor.__get__"))) (ht : PySem.W.takesIn K (.builtin "object.__class__") = some true) : ExcC K C :=
  ⟨r.ga, r.gg, r.sub _ (by simp [List.contains_cons]), r.hd, r.ca, hn, ht, r.sub _ (by simp [List.contains_cons])⟩
theorem Raw.oex {K : PySem.W.Frag} {cA C : Addr} (r : Raw K cA C) : OexC K C := by
  obtain ⟨nm, q, N, bs, sn, sub, ab, col, dd, m0, m1, m2, m3, m5, hC⟩ := r.xL
  exact ⟨⟨nm, q, N, bs, _, sn, sub, ab, col, dd, m0, m1, m2, m3, m5, hC, by show PySem.HandSPX.refsVE veRow = true; decide +kernel⟩, r.sa, r.sub _ (by simp [List.contains_cons]), r.ty, r.kC⟩
theorem kit_own {K : PySem.W.Frag} (C : Addr) : PySem.W.kitOne K (.ref C) (.ref C) = some true := by
  unfold PySem.W.kitOne
  simp
theorem kit_no {K : PySem.W.Frag} {C D : Addr} (ne : ¬ C = D) (hd : PySem.W.hasDictIn K D = true) (ht : PySem.W.typeIn K (.ref D) = some (.type "type")) (h : PySem.W.subIn K (.ref C) (.ref D) = some false) : PySem.W.kitOne K (.ref C) (.ref D) = some false := by
  have ne2 : ((Value.ref C) == (Value.ref D)) = false := beq_eq_false_iff_ne.mpr fun z => ne (by cases z; rfl)
  obtain ⟨cd, hc, _⟩ := PySem.W.any_some hd
  unfold PySem.W.kitOne
  rw [ne2, if_neg Bool.false_ne_true]
  show (if ((PySem.W.clsIn K D).isSome && PySem.W.typeIn K (.ref D) == some (.type "type")) = true then PySem.W.subIn K (.ref C) (.ref D) else none) = some false
  rw [if_pos (by rw [hc, ht] <;> rfl)]
  exact h
theorem kit_ve {K : PySem.W.Frag} {C : Addr} (h : PySem.W.subIn K (.ref C) (.type "ValueError") = some true) : PySem.W.kitOne K (.ref C) (.type "ValueError") = some true := by
  unfold PySem.W.kitOne
  have t3 : ∀ n : String, ((Value.ref C) == (Value.type n)) = false := fun n => beq_eq_false_iff_ne.mpr fun z => nomatch z
  rw [t3, if_neg Bool.false_ne_true]
  show (if PySem.W.kitMeta "ValueError" = true then PySem.W.subIn K (.ref C) (.type "ValueError") else none) = _
  rw [if_pos (by decide +kernel), h]
theorem all_mk {l : PySem.W.OpenLaw} {w : World} {K : PySem.W.Frag} {h : Heap} {mg : Str → Option Value} {fa a_is_integer a_is_within a_is_index a_is_row a_is_name a_is_text_in a_are_counts a_are_operations a_in_order a_word_of a_are_nexts a_stops_of a_rest_of a_rests_from a_nexts_of a_firsts_of a_lines_read a_is_line a_line_of a_read_body a_lines_of a_told_at a_counts_told a_is_number a_number_of_start a_row_told a_law_source_of a_law_next a_law_one a_law_mixed a_law_operations a_law_rows a_law_operations_line a_law_row_line a_law_body_lines a_law_joined a_law_said a_law_bad_line a_law_right a_law fM fB fR fSt fT CA CB CM CO CR CS CT DK cR PR : Addr} {fd_is_integer fd_is_within fd_is_index fd_is_row fd_is_name fd_is_text_in fd_are_counts fd_are_operations fd_in_order fd_word_of fd_are_nexts fd_stops_of fd_rest_of fd_rests_from fd_nexts_of fd_firsts_of fd_lines_read fd_is_line fd_line_of fd_read_body fd_lines_of fd_told_at fd_counts_told fd_is_number fd_number_of_start fd_row_told fd_law_source_of fd_law_next fd_law_one fd_law_mixed fd_law_operations fd_law_rows fd_law_operations_line fd_law_row_line fd_law_body_lines fd_law_joined fd_law_said fd_law_bad_line fd_law_right fd_law fdM fdB fdR fdSt fdT : FuncData} {tL tF t1 t2 t3 t4 t5 : Tok} (X : K.In h) (G : h.Ns mainGlobals mg) (hfa : mg "law" = some (.ref fa))
    (g_is_integer : PySem.W.nsIn K mainGlobals "is_integer" = some (some (.ref a_is_integer)))
    (F_is_integer : Fun K "is_integer" "is_integer" s_is_integer a_is_integer fd_is_integer)
    (g_is_within : PySem.W.nsIn K mainGlobals "is_within" = some (some (.ref a_is_within)))
    (F_is_within : Fun K "is_within" "is_within" s_is_within a_is_within fd_is_within)
    (g_is_index : PySem.W.nsIn K mainGlobals "is_index" = some (some (.ref a_is_index)))
    (F_is_index : Fun K "is_index" "is_index" s_is_index a_is_index fd_is_index)
    (g_is_row : PySem.W.nsIn K mainGlobals "is_row" = some (some (.ref a_is_row)))
    (F_is_row : Fun K "is_row" "is_row" s_is_row a_is_row fd_is_row)
    (g_is_name : PySem.W.nsIn K mainGlobals "is_name" = some (some (.ref a_is_name)))
    (F_is_name : Fun K "is_name" "is_name" s_is_name a_is_name fd_is_name)
    (g_is_text_in : PySem.W.nsIn K mainGlobals "is_text_in" = some (some (.ref a_is_text_in)))
    (F_is_text_in : Fun K "is_text_in" "is_text_in" s_is_text_in a_is_text_in fd_is_text_in)
    (g_are_counts : PySem.W.nsIn K mainGlobals "are_counts" = some (some (.ref a_are_counts)))
    (F_are_counts : Fun K "are_counts" "are_counts" s_are_counts a_are_counts fd_are_counts)
    (g_are_operations : PySem.W.nsIn K mainGlobals "are_operations" = some (some (.ref a_are_operations)))
    (F_are_operations : Fun K "are_operations" "are_operations" s_are_operations a_are_operations fd_are_operations)
    (g_in_order : PySem.W.nsIn K mainGlobals "in_order" = some (some (.ref a_in_order)))
    (F_in_order : Fun K "in_order" "in_order" s_in_order a_in_order fd_in_order)
    (g_word_of : PySem.W.nsIn K mainGlobals "word_of" = some (some (.ref a_word_of)))
    (F_word_of : Fun K "word_of" "word_of" s_word_of a_word_of fd_word_of)
    (g_are_nexts : PySem.W.nsIn K mainGlobals "are_nexts" = some (some (.ref a_are_nexts)))
    (F_are_nexts : Fun K "are_nexts" "are_nexts" s_are_nexts a_are_nexts fd_are_nexts)
    (g_stops_of : PySem.W.nsIn K mainGlobals "stops_of" = some (some (.ref a_stops_of)))
    (F_stops_of : Fun K "stops_of" "stops_of" s_stops_of a_stops_of fd_stops_of)
    (g_rest_of : PySem.W.nsIn K mainGlobals "rest_of" = some (some (.ref a_rest_of)))
    (F_rest_of : Fun K "rest_of" "rest_of" s_rest_of a_rest_of fd_rest_of)
    (g_rests_from : PySem.W.nsIn K mainGlobals "rests_from" = some (some (.ref a_rests_from)))
    (F_rests_from : Fun K "rests_from" "rests_from" s_rests_from a_rests_from fd_rests_from)
    (g_nexts_of : PySem.W.nsIn K mainGlobals "nexts_of" = some (some (.ref a_nexts_of)))
    (F_nexts_of : Fun K "nexts_of" "nexts_of" s_nexts_of a_nexts_of fd_nexts_of)
    (g_firsts_of : PySem.W.nsIn K mainGlobals "firsts_of" = some (some (.ref a_firsts_of)))
    (F_firsts_of : Fun K "firsts_of" "firsts_of" s_firsts_of a_firsts_of fd_firsts_of)
    (g_lines_read : PySem.W.nsIn K mainGlobals "lines_read" = some (some (.ref a_lines_read)))
    (F_lines_read : Fun K "lines_read" "lines_read" s_lines_read a_lines_read fd_lines_read)
    (g_is_line : PySem.W.nsIn K mainGlobals "is_line" = some (some (.ref a_is_line)))
    (F_is_line : Fun K "is_line" "is_line" s_is_line a_is_line fd_is_line)
    (g_line_of : PySem.W.nsIn K mainGlobals "line_of" = some (some (.ref a_line_of)))
    (F_line_of : Fun K "line_of" "line_of" s_line_of a_line_of fd_line_of)
    (g_read_body : PySem.W.nsIn K mainGlobals "read_body" = some (some (.ref a_read_body)))
    (F_read_body : LamB.FunC K "read_body" "read_body" s_read_body a_read_body fd_read_body cR)
    (g_lines_of : PySem.W.nsIn K mainGlobals "lines_of" = some (some (.ref a_lines_of)))
    (F_lines_of : Fun K "lines_of" "lines_of" s_lines_of a_lines_of fd_lines_of)
    (g_told_at : PySem.W.nsIn K mainGlobals "told_at" = some (some (.ref a_told_at)))
    (F_told_at : Fun K "told_at" "told_at" s_told_at a_told_at fd_told_at)
    (g_counts_told : PySem.W.nsIn K mainGlobals "counts_told" = some (some (.ref a_counts_told)))
    (F_counts_told : Fun K "counts_told" "counts_told" s_counts_told a_counts_told fd_counts_told)
    (g_is_number : PySem.W.nsIn K mainGlobals "is_number" = some (some (.ref a_is_number)))
    (F_is_number : Fun K "is_number" "is_number" s_is_number a_is_number fd_is_number)
    (g_number_of_start : PySem.W.nsIn K mainGlobals "number_of_start" = some (some (.ref a_number_of_start)))
    (F_number_of_start : Fun K "number_of_start" "number_of_start" s_number_of_start a_number_of_start fd_number_of_start)
    (g_row_told : PySem.W.nsIn K mainGlobals "row_told" = some (some (.ref a_row_told)))
    (F_row_told : Fun K "row_told" "row_told" s_row_told a_row_told fd_row_told)
    (g_law_source_of : PySem.W.nsIn K mainGlobals "_law_source_of" = some (some (.ref a_law_source_of)))
    (F_law_source_of : Fun K "_law_source_of" "_law_source_of" sSrc a_law_source_of fd_law_source_of)
    (g_law_next : PySem.W.nsIn K mainGlobals "_law_next" = some (some (.ref a_law_next)))
    (F_law_next : Fun K "_law_next" "_law_next" sNext a_law_next fd_law_next)
    (g_law_one : PySem.W.nsIn K mainGlobals "_law_one" = some (some (.ref a_law_one)))
    (F_law_one : Fun K "_law_one" "_law_one" sOne a_law_one fd_law_one)
    (g_law_mixed : PySem.W.nsIn K mainGlobals "_law_mixed" = some (some (.ref a_law_mixed)))
    (F_law_mixed : Fun K "_law_mixed" "_law_mixed" s_mixed a_law_mixed fd_law_mixed)
    (g_law_operations : PySem.W.nsIn K mainGlobals "_law_operations" = some (some (.ref a_law_operations)))
    (F_law_operations : Fun K "_law_operations" "_law_operations" s_ops a_law_operations fd_law_operations)
    (g_law_rows : PySem.W.nsIn K mainGlobals "_law_rows" = some (some (.ref a_law_rows)))
    (F_law_rows : Fun K "_law_rows" "_law_rows" s_rows a_law_rows fd_law_rows)
    (g_law_operations_line : PySem.W.nsIn K mainGlobals "_law_operations_line" = some (some (.ref a_law_operations_line)))
    (F_law_operations_line : Fun K "_law_operations_line" "_law_operations_line" s_ops_line a_law_operations_line fd_law_operations_line)
    (g_law_row_line : PySem.W.nsIn K mainGlobals "_law_row_line" = some (some (.ref a_law_row_line)))
    (F_law_row_line : Fun K "_law_row_line" "_law_row_line" s_row_line a_law_row_line fd_law_row_line)
    (g_law_body_lines : PySem.W.nsIn K mainGlobals "_law_body_lines" = some (some (.ref a_law_body_lines)))
    (F_law_body_lines : Fun K "_law_body_lines" "_law_body_lines" s_body_lines a_law_body_lines fd_law_body_lines)
    (g_law_joined : PySem.W.nsIn K mainGlobals "_law_joined" = some (some (.ref a_law_joined)))
    (F_law_joined : Fun K "_law_joined" "_law_joined" s_joined a_law_joined fd_law_joined)
    (g_law_said : PySem.W.nsIn K mainGlobals "_law_said" = some (some (.ref a_law_said)))
    (F_law_said : Fun K "_law_said" "_law_said" s_said a_law_said fd_law_said)
    (g_law_bad_line : PySem.W.nsIn K mainGlobals "_law_bad_line" = some (some (.ref a_law_bad_line)))
    (F_law_bad_line : Fun K "_law_bad_line" "_law_bad_line" s_bad_line a_law_bad_line fd_law_bad_line)
    (g_law_right : PySem.W.nsIn K mainGlobals "_law_right" = some (some (.ref a_law_right)))
    (F_law_right : Fun K "_law_right" "_law_right" s_right a_law_right fd_law_right)
    (g_law : PySem.W.nsIn K mainGlobals "law" = some (some (.ref a_law)))
    (F_law : Fun K "law" "law" s_law a_law fd_law)
    (rCO : Raw K CA CO)
    (rCR : Raw K CA CR)
    (rCS : Raw K CA CS)
    (rCT : Raw K CA CT)
    (iCR : PySem.W.findIn K (.ref CR) "__init__" = some (some (.ref fR)))
    (tCR : PySem.W.typeIn K (.ref fR) = some (.type "function"))
    (nCR : PySem.W.findIn K (.ref CR) "index" = some none)
    (FCR : Fun K "__init__" "BadBody.__init__" s_i_BadBody fR fdR)
    (iCS : PySem.W.findIn K (.ref CS) "__init__" = some (some (.ref fSt)))
    (tCS : PySem.W.typeIn K (.ref fSt) = some (.type "function"))
    (nCS : PySem.W.findIn K (.ref CS) "index" = some none)
    (FCS : Fun K "__init__" "BadStart.__init__" s_i_BadStart fSt fdSt)
    (iCT : PySem.W.findIn K (.ref CT) "__init__" = some (some (.ref fT)))
    (tCT : PySem.W.typeIn K (.ref fT) = some (.type "function"))
    (nCT : PySem.W.findIn K (.ref CT) "line" = some none)
    (FCT : Fun K "__init__" "NoText.__init__" s_i_NoText fT fdT)
    (qO : PySem.W.excIn K CO [.type "ValueError", .type "Exception", .type "BaseException", .type "object"] "ValueError.__new__" = true)
    (sO : PySem.W.subIn K (.ref CO) (.type "BaseException") = some true)
    (s_CO_CR : PySem.W.subIn K (.ref CO) (.ref CR) = some false)
    (s_CO_CS : PySem.W.subIn K (.ref CO) (.ref CS) = some false)
    (s_CO_CT : PySem.W.subIn K (.ref CO) (.ref CT) = some false)
    (s_CR_CO : PySem.W.subIn K (.ref CR) (.ref CO) = some false)
    (s_CR_CS : PySem.W.subIn K (.ref CR) (.ref CS) = some false)
    (s_CR_CT : PySem.W.subIn K (.ref CR) (.ref CT) = some false)
    (s_CS_CO : PySem.W.subIn K (.ref CS) (.ref CO) = some false)
    (s_CS_CR : PySem.W.subIn K (.ref CS) (.ref CR) = some false)
    (s_CS_CT : PySem.W.subIn K (.ref CS) (.ref CT) = some false)
    (s_CT_CO : PySem.W.subIn K (.ref CT) (.ref CO) = some false)
    (s_CT_CR : PySem.W.subIn K (.ref CT) (.ref CR) = some false)
    (s_CT_CS : PySem.W.subIn K (.ref CT) (.ref CS) = some false)
    (nd : [CO, CR, CS, CT].Nodup)
    (sbA : PySem.W.subIn K (.ref CA) (.type "BaseException") = some true)
    (hdA : PySem.W.hasDictIn K CA = true)
    (tyA : PySem.W.typeIn K (.ref CA) = some (.type "type"))
    (gc_AskError : PySem.W.nsIn K mainGlobals "AskError" = some (some (.ref CA)))
    (gc_Body : PySem.W.nsIn K mainGlobals "Body" = some (some (.ref CB)))
    (gc_Machine : PySem.W.nsIn K mainGlobals "Machine" = some (some (.ref CM)))
    (gc_BadOperations : PySem.W.nsIn K mainGlobals "BadOperations" = some (some (.ref CO)))
    (gc_BadBody : PySem.W.nsIn K mainGlobals "BadBody" = some (some (.ref CR)))
    (gc_BadStart : PySem.W.nsIn K mainGlobals "BadStart" = some (some (.ref CS)))
    (gc_NoText : PySem.W.nsIn K mainGlobals "NoText" = some (some (.ref CT)))
    (hn : PySem.W.specialIn K (.builtin "object.__class__") "__get__" = some (some (.builtin "getset_descriptor.__get__")))
    (ht : PySem.W.takesIn K (.builtin "object.__class__") = some true)
    (clB : Cls K CB)
    (mkB : PySem.W.makesIn K CB = true)
    (inB : PySem.W.findIn K (.ref CB) "__init__" = some (some (.ref fB)))
    (fnB : PySem.W.isFn K (.ref fB) = true)
    (kpB : PySem.W.keepIn K (.ref CB) = true)
    (clM : Cls K CM)
    (mkM : PySem.W.makesIn K CM = true)
    (inM : PySem.W.findIn K (.ref CM) "__init__" = some (some (.ref fM)))
    (fnM : PySem.W.isFn K (.ref fM) = true)
    (kpM : PySem.W.keepIn K (.ref CM) = true)
    (FM : Fun K "__init__" "Machine.__init__" s_mach fM fdM)
    (FB : ∃ (oc : Value) (od : Option Addr) (doc pm : Value) (an : Option Addr) (cdv ct : Value) (osl : Array (Option Value)), fdB = PySem.W.fnOf "__init__" "Body.__init__" (defArgs s_body) (defBody s_body) (defScope s_body) .none (.ref DK) doc pm an cdv ct ∧ K.lookup fB = some ⟨oc, od, .func fdB, osl⟩ ∧ PySem.W.codeIn K cdv "Body.__init__" = true)
    (kfB : PySem.W.keepIn K (.ref fB) = true)
    (nm_counts : NoAttr K CM "counts")
    (nm_lines : NoAttr K CM "lines")
    (nm_begin : NoAttr K CM "begin")
    (nm_stops : NoAttr K CM "stops")
    (nm_asks : NoAttr K CM "asks")
    (nm_endings : NoAttr K CM "endings")
    (nm_endless : NoAttr K CM "endless")
    (nb_machine : NoAttr K CB "machine")
    (hPM : PySem.W.codeHdIn K cR PR = true)
    (nPM : K.lookup PR = none)
    (z_int : PySem.W.nsIn K mainGlobals "int" = some none)
    (z_isinstance : PySem.W.nsIn K mainGlobals "isinstance" = some none)
    (z_bool : PySem.W.nsIn K mainGlobals "bool" = some none)
    (z_str : PySem.W.nsIn K mainGlobals "str" = some none)
    (z_list : PySem.W.nsIn K mainGlobals "list" = some none)
    (z_tuple : PySem.W.nsIn K mainGlobals "tuple" = some none)
    (z_dict : PySem.W.nsIn K mainGlobals "dict" = some none)
    (z_len : PySem.W.nsIn K mainGlobals "len" = some none)
    (z_all : PySem.W.nsIn K mainGlobals "all" = some none)
    (z_range : PySem.W.nsIn K mainGlobals "range" = some none)
    (z_sorted : PySem.W.nsIn K mainGlobals "sorted" = some none)
    (z_min : PySem.W.nsIn K mainGlobals "min" = some none)
    (z_enumerate : PySem.W.nsIn K mainGlobals "enumerate" = some none)
    (c_LETTERS : PySem.W.nsIn K mainGlobals "LETTERS" = some (some (.str lettersS tL)))
    (c_FIGURES : PySem.W.nsIn K mainGlobals "FIGURES" = some (some (.str figS tF)))
    (c_LONGEST_NAME : PySem.W.nsIn K mainGlobals "LONGEST_NAME" = some (some (.int 8 t1)))
    (c_MOST_OPERATIONS : PySem.W.nsIn K mainGlobals "MOST_OPERATIONS" = some (some (.int 8 t2)))
    (c_MOST_ANSWERS : PySem.W.nsIn K mainGlobals "MOST_ANSWERS" = some (some (.int 6 t3)))
    (c_MOST_ROWS : PySem.W.nsIn K mainGlobals "MOST_ROWS" = some (some (.int 400 t4)))
    (c_MOST_FIGURES : PySem.W.nsIn K mainGlobals "MOST_FIGURES" = some (some (.int 30 t5)))
    (hT : h.get? PR = some { cls := .none, data := .fields #[] }) : LamX.LawAtS l w K CX0 12 63 "_law_script" mg fa h := by
  have e := hfa.symm.trans (PySem.W.mg_of X G g_law)
  cases e
  obtain ⟨oc, od, doc, pm, an, cdv, ct, osl, eB, lB, cB⟩ := FB
  have FB1 : Fun K "__init__" "Body.__init__" s_body fB fdB := ⟨⟨oc, od, .ref DK, doc, pm, an, cdv, ct, osl, eB, lB, cB⟩, kfB⟩
  have kB : KBn K fdB PB (2 + 1) KS (fun us ws => us ++ ws) (fun vs zs => vs ++ zs) := bindB fun a b c d => by
    rw [eB]
    rfl
  have T : TxtF K mg a_is_integer a_is_within := ⟨(PySem.W.mg_none_of X G z_isinstance), (PySem.W.mg_none_of X G z_int), (PySem.W.mg_none_of X G z_bool), (PySem.W.mg_none_of X G z_str), (PySem.W.mg_none_of X G z_list), (PySem.W.mg_none_of X G z_tuple), (PySem.W.mg_none_of X G z_dict), (PySem.W.mg_none_of X G z_len), (PySem.W.mg_none_of X G z_all), ⟨_, PySem.W.mg_of X G c_LETTERS⟩, ⟨_, PySem.W.mg_of X G c_LONGEST_NAME⟩, (PySem.W.mg_of X G g_is_integer), F_is_integer.kp, (PySem.W.mg_of X G g_is_within), F_is_within.kp⟩
  have TG : TxtG K mg a_is_row a_is_index a_is_name a_is_text_in a_are_counts a_word_of a_are_nexts a_is_line a_line_of a_are_operations := ⟨⟨_, PySem.W.mg_of X G c_MOST_OPERATIONS⟩, ⟨_, PySem.W.mg_of X G c_MOST_ANSWERS⟩, (PySem.W.mg_of X G g_is_row), F_is_row.kp, (PySem.W.mg_of X G g_is_index), F_is_index.kp, (PySem.W.mg_of X G g_is_name), F_is_name.kp, (PySem.W.mg_of X G g_is_text_in), F_is_text_in.kp, (PySem.W.mg_of X G g_are_counts), F_are_counts.kp, (PySem.W.mg_of X G g_word_of), F_word_of.kp, (PySem.W.mg_of X G g_are_nexts), F_are_nexts.kp, (PySem.W.mg_of X G g_is_line), F_is_line.kp, (PySem.W.mg_of X G g_line_of), F_line_of.kp, (PySem.W.mg_of X G g_are_operations), F_are_operations.kp⟩
  have TD : TxtD K mg a_law_next := ⟨(PySem.W.mg_none_of X G z_int), (PySem.W.mg_none_of X G z_len), (PySem.W.mg_of X G g_law_next), F_law_next.kp⟩
  have TM : MachC K CM := ⟨clM, nm_counts, nm_lines, nm_begin, nm_stops, nm_asks, nm_endings, nm_endless⟩
  have TB : BodyC K CB := ⟨clB, nb_machine⟩
  simp only [List.nodup_cons, List.mem_cons, List.not_mem_nil, or_false, not_or, not_false_eq_true, List.nodup_nil, and_true] at nd
  obtain ⟨⟨n1, n2, n3⟩, ⟨n4, n5⟩, n6⟩ := nd
  have eCO : PySem.W.exmOne K (.ref CO) (.ref CA) = some true := PySem.W.exm_ref sbA hdA tyA (rCO.sub _ (by simp [List.contains_cons]))
  have kCO : KitT K CO CT CR CS CO false false false true := ⟨rCO.exc hn ht, kit_no n3 rCT.hd rCT.ty s_CO_CT, kit_no n1 rCR.hd rCR.ty s_CO_CR, kit_no n2 rCS.hd rCS.ty s_CO_CS, kit_own _⟩
  have eCR : PySem.W.exmOne K (.ref CR) (.ref CA) = some true := PySem.W.exm_ref sbA hdA tyA (rCR.sub _ (by simp [List.contains_cons]))
  have kCR : KitT K CR CT CR CS CO false true false false := ⟨rCR.exc hn ht, kit_no n5 rCT.hd rCT.ty s_CR_CT, kit_own _, kit_no n4 rCS.hd rCS.ty s_CR_CS, kit_no (fun q => n1 q.symm) rCO.hd rCO.ty s_CR_CO⟩
  have eCS : PySem.W.exmOne K (.ref CS) (.ref CA) = some true := PySem.W.exm_ref sbA hdA tyA (rCS.sub _ (by simp [List.contains_cons]))
  have kCS : KitT K CS CT CR CS CO false false true false := ⟨rCS.exc hn ht, kit_no n6 rCT.hd rCT.ty s_CS_CT, kit_no (fun q => n4 q.symm) rCR.hd rCR.ty s_CS_CR, kit_own _, kit_no (fun q => n2 q.symm) rCO.hd rCO.ty s_CS_CO⟩
  have eCT : PySem.W.exmOne K (.ref CT) (.ref CA) = some true := PySem.W.exm_ref sbA hdA tyA (rCT.sub _ (by simp [List.contains_cons]))
  have kCT : KitT K CT CT CR CS CO true false false false := ⟨rCT.exc hn ht, kit_own _, kit_no (fun q => n5 q.symm) rCR.hd rCR.ty s_CT_CR, kit_no (fun q => n6 q.symm) rCS.hd rCS.ty s_CT_CS, kit_no (fun q => n3 q.symm) rCO.hd rCO.ty s_CT_CO⟩
  have ENCR : ErrC K CR fR := ⟨rCR.oex, iCR, tCR⟩
  have XCR : XfC K CR := ⟨rCR.ga, rCR.gg, rCR.sub _ (by simp [List.contains_cons]), rCR.hd⟩
  have ENCS : ErrC K CS fSt := ⟨rCS.oex, iCS, tCS⟩
  have XCS : XfC K CS := ⟨rCS.ga, rCS.gg, rCS.sub _ (by simp [List.contains_cons]), rCS.hd⟩
  have ENCT : ErrC K CT fT := ⟨rCT.oex, iCT, tCT⟩
  have XCT : XfC K CT := ⟨rCT.ga, rCT.gg, rCT.sub _ (by simp [List.contains_cons]), rCT.hd⟩
  refine ⟨fd_law, [(cR, PR)], spLaw K PR, fun p hp => by rw [List.mem_singleton.mp hp]; exact hT, fun p hp => by rw [List.mem_singleton.mp hp]; exact nPM, fun p hp => by rw [List.mem_singleton.mp hp]; exact PySem.W.codeHd_of_K X hPM, fun s v => ?_, fun H a ns hl _ hH hS => ⟨a, ns, rfl, hS, hl, fun p hp => by rw [List.mem_singleton.mp hp]; exact LamX.TabS.nil (hH _ List.mem_cons_self), fun _ => rfl⟩, fun base _ _ tb => ?_⟩
  · obtain ⟨_, _, _, _, _, _, _, _, _, rfl, _, _⟩ := F_law.ex
    exact .of_eq rfl
  · have TBm := tb _ List.mem_cons_self
    have G_is_integer : FnOk l.prog w K mg base CX0 1 a_is_integer fd_is_integer ["thing"] (spInt K) := ok_is_integer F_is_integer T
    have G_is_index : FnOk l.prog w K mg base CX0 3 a_is_index fd_is_index ["thing", "many"] (spIndex K) := ok_is_index F_is_index T F_is_integer (F_is_integer.binds (ps := ["thing"]) fun _ _ _ _ _ _ us hl => match us, hl with | [_], _ => rfl) F_is_within (F_is_within.binds (ps := ["thing", "low", "high"]) fun _ _ _ _ _ _ us hl => match us, hl with | [_, _, _], _ => rfl)
    have G_is_row : FnOk l.prog w K mg base CX0 1 a_is_row fd_is_row ["thing"] (spIsRow K) := ok_is_row F_is_row T
    have G_is_name : FnOk l.prog w K mg base CX0 1 a_is_name fd_is_name ["thing"] (spName K) := ok_is_name F_is_name T
    have G_is_text_in : FnOk l.prog w K mg base CX0 1 a_is_text_in fd_is_text_in ["thing", "table"] (spTextIn K) := ok_is_text_in F_is_text_in T
    have G_are_counts : FnOk l.prog w K mg base CX0 3 a_are_counts fd_are_counts ["thing", "most", "low", "high"] spCounts := ok_are_counts F_are_counts T TG F_is_name (F_is_name.binds (ps := ["thing"]) fun _ _ _ _ _ _ us hl => match us, hl with | [_], _ => rfl) F_is_integer (F_is_integer.binds (ps := ["thing"]) fun _ _ _ _ _ _ us hl => match us, hl with | [_], _ => rfl) F_is_within (F_is_within.binds (ps := ["thing", "low", "high"]) fun _ _ _ _ _ _ us hl => match us, hl with | [_, _, _], _ => rfl)
    have G_are_operations : FnOk l.prog w K mg base CX0 4 a_are_operations fd_are_operations ["thing"] spOps := ok_are_operations F_are_operations TG G_are_counts (F_are_counts.binds (ps := ["thing", "most", "low", "high"]) fun _ _ _ _ _ _ us hl => match us, hl with | [_, _, _, _], _ => rfl)
    have G_word_of : FnOk l.prog w K mg base CX0 2 a_word_of fd_word_of ["row"] spWord := ok_word_of F_word_of T TG G_is_row (F_is_row.binds (ps := ["thing"]) fun _ _ _ _ _ _ us hl => match us, hl with | [_], _ => rfl)
    have G_are_nexts : FnOk l.prog w K mg base CX0 4 a_are_nexts fd_are_nexts ["nexts", "operation", "counts", "many"] spNexts := ok_are_nexts F_are_nexts T TG G_is_row (F_is_row.binds (ps := ["thing"]) fun _ _ _ _ _ _ us hl => match us, hl with | [_], _ => rfl) G_is_index (F_is_index.binds (ps := ["thing", "many"]) fun _ _ _ _ _ _ us hl => match us, hl with | [_, _], _ => rfl)
    have G_is_line : FnOk l.prog w K mg base CX0 5 a_is_line fd_is_line ["row", "counts", "many"] spIsLine := ok_is_line F_is_line T TG G_word_of (F_word_of.binds (ps := ["row"]) fun _ _ _ _ _ _ us hl => match us, hl with | [_], _ => rfl) G_is_text_in (F_is_text_in.binds (ps := ["thing", "table"]) fun _ _ _ _ _ _ us hl => match us, hl with | [_, _], _ => rfl) G_are_nexts (F_are_nexts.binds (ps := ["nexts", "operation", "counts", "many"]) fun _ _ _ _ _ _ us hl => match us, hl with | [_, _, _, _], _ => rfl) G_is_name (F_is_name.binds (ps := ["thing"]) fun _ _ _ _ _ _ us hl => match us, hl with | [_], _ => rfl) G_is_index (F_is_index.binds (ps := ["thing", "many"]) fun _ _ _ _ _ _ us hl => match us, hl with | [_, _], _ => rfl)
    have G_line_of : FnOk l.prog w K mg base CX0 1 a_line_of fd_line_of ["row"] spLineOf := ok_line_of F_line_of T
    have G_rest_of : FnOk l.prog w K mg base CX0 1 a_rest_of fd_rest_of ["trail", "at"] (spRest K) := ok_rest_of F_rest_of (PySem.W.mg_none_of X G z_min)
    have G_stops_of : FnOk l.prog w K mg base CX0 2 a_stops_of fd_stops_of ["lines"] spStops := ok_stops_of F_stops_of T (PySem.W.mg_none_of X G z_range) G_rest_of (F_rest_of.binds (ps := ["trail", "at"]) fun _ _ _ _ _ _ us hl => match us, hl with | [_, _], _ => rfl) (PySem.W.mg_of X G g_rest_of) F_rest_of.kp
    have G_nexts_of : FnOk l.prog w K mg base CX0 1 a_nexts_of fd_nexts_of ["line"] spNextsOf := ok_nexts_of F_nexts_of
    have G_rests_from : FnOk l.prog w K mg base CX0 2 a_rests_from fd_rests_from ["lines", "stops", "begin"] spRests := ok_rests_from F_rests_from T G_nexts_of (F_nexts_of.binds (ps := ["line"]) fun _ _ _ _ _ _ us hl => match us, hl with | [_], _ => rfl) (PySem.W.mg_of X G g_nexts_of) F_nexts_of.kp
    have G_in_order : FnOk l.prog w K mg base CX0 1 a_in_order fd_in_order ["table"] spOrder := ok_in_order F_in_order (PySem.W.mg_none_of X G z_sorted)
    have G_firsts_of : FnOk l.prog w K mg base CX0 1 a_firsts_of fd_firsts_of ["lines", "word"] spFirsts := ok_firsts_of F_firsts_of (PySem.W.mg_none_of X G z_sorted)
    have G_mach : FnOk l.prog w K mg base CX0 3 fM fdM ["self", "counts", "lines", "begin"] (spMach CM) := ok_mach FM TM G_rests_from (F_rests_from.binds (ps := ["lines", "stops", "begin"]) fun _ _ _ _ _ _ us hl => match us, hl with | [_, _, _], _ => rfl) (PySem.W.mg_of X G g_rests_from) F_rests_from.kp G_stops_of (F_stops_of.binds (ps := ["lines"]) fun _ _ _ _ _ _ us hl => match us, hl with | [_], _ => rfl) (PySem.W.mg_of X G g_stops_of) F_stops_of.kp G_firsts_of (F_firsts_of.binds (ps := ["lines", "word"]) fun _ _ _ _ _ _ us hl => match us, hl with | [_, _], _ => rfl) (PySem.W.mg_of X G g_firsts_of) F_firsts_of.kp
    have G_lines_read : FnOk l.prog w K mg base CX0 6 a_lines_read fd_lines_read ["rows", "counts"] spRead := ok_lines_read F_lines_read T TG (PySem.W.mg_none_of X G z_enumerate) (PySem.W.mg_of X G c_MOST_ROWS) G_is_row (F_is_row.binds (ps := ["thing"]) fun _ _ _ _ _ _ us hl => match us, hl with | [_], _ => rfl) G_is_line (F_is_line.binds (ps := ["row", "counts", "many"]) fun _ _ _ _ _ _ us hl => match us, hl with | [_, _, _], _ => rfl) G_line_of (F_line_of.binds (ps := ["row"]) fun _ _ _ _ _ _ us hl => match us, hl with | [_], _ => rfl)
    have MM : Mk K CM fM := ⟨mkM, inM, fnM, kpM⟩
    have MB : Mk K CB fB := ⟨mkB, inB, fnB, kpB⟩
    have GB : FnOk l.prog w K mg base CX0 7 fB fdB PB (spBody CB CM) := ok_body FB1 T TG TB G_are_operations (F_are_operations.binds (ps := ["thing"]) fun _ _ _ _ _ _ us hl => match us, hl with | [_], _ => rfl) G_lines_read (F_lines_read.binds (ps := ["rows", "counts"]) fun _ _ _ _ _ _ us hl => match us, hl with | [_, _], _ => rfl) (PySem.W.mg_of X G g_lines_read) F_lines_read.kp G_is_index (F_is_index.binds (ps := ["thing", "many"]) fun _ _ _ _ _ _ us hl => match us, hl with | [_, _], _ => rfl) G_in_order (F_in_order.binds (ps := ["table"]) fun _ _ _ _ _ _ us hl => match us, hl with | [_], _ => rfl) (PySem.W.mg_of X G g_in_order) F_in_order.kp MM G_mach (FM.binds (ps := ["self", "counts", "lines", "begin"]) fun _ _ _ _ _ _ us hl => match us, hl with | [_, _, _, _], _ => rfl) (PySem.W.mg_of X G gc_Machine)
    have A_are_counts : FnOk l.prog w K mg base CX0 3 a_are_counts fd_are_counts ["thing", "most", "low", "high"] (spCountsA K) := ok_are_countsA F_are_counts T TG F_is_name (F_is_name.binds (ps := ["thing"]) fun _ _ _ _ _ _ us hl => match us, hl with | [_], _ => rfl) F_is_integer (F_is_integer.binds (ps := ["thing"]) fun _ _ _ _ _ _ us hl => match us, hl with | [_], _ => rfl) F_is_within (F_is_within.binds (ps := ["thing", "low", "high"]) fun _ _ _ _ _ _ us hl => match us, hl with | [_, _, _], _ => rfl)
    have A_are_operations : FnOk l.prog w K mg base CX0 4 a_are_operations fd_are_operations ["thing"] (spOpsA K) := ok_are_operationsA F_are_operations TG A_are_counts (F_are_counts.binds (ps := ["thing", "most", "low", "high"]) fun _ _ _ _ _ _ us hl => match us, hl with | [_, _, _, _], _ => rfl)
    have A_word_of : FnOk l.prog w K mg base CX0 2 a_word_of fd_word_of ["row"] (spWordA K) := ok_word_ofA F_word_of T TG G_is_row (F_is_row.binds (ps := ["thing"]) fun _ _ _ _ _ _ us hl => match us, hl with | [_], _ => rfl)
    have A_are_nexts : FnOk l.prog w K mg base CX0 4 a_are_nexts fd_are_nexts ["nexts", "operation", "counts", "many"] (spNextsA K) := ok_are_nextsA F_are_nexts T TG G_is_row (F_is_row.binds (ps := ["thing"]) fun _ _ _ _ _ _ us hl => match us, hl with | [_], _ => rfl) G_is_index (F_is_index.binds (ps := ["thing", "many"]) fun _ _ _ _ _ _ us hl => match us, hl with | [_, _], _ => rfl)
    have A_is_line : FnOk l.prog w K mg base CX0 5 a_is_line fd_is_line ["row", "counts", "many"] (spIsLineA K) := ok_is_lineA F_is_line T TG A_word_of (F_word_of.binds (ps := ["row"]) fun _ _ _ _ _ _ us hl => match us, hl with | [_], _ => rfl) G_is_text_in (F_is_text_in.binds (ps := ["thing", "table"]) fun _ _ _ _ _ _ us hl => match us, hl with | [_, _], _ => rfl) A_are_nexts (F_are_nexts.binds (ps := ["nexts", "operation", "counts", "many"]) fun _ _ _ _ _ _ us hl => match us, hl with | [_, _, _, _], _ => rfl) G_is_name (F_is_name.binds (ps := ["thing"]) fun _ _ _ _ _ _ us hl => match us, hl with | [_], _ => rfl) G_is_index (F_is_index.binds (ps := ["thing", "many"]) fun _ _ _ _ _ _ us hl => match us, hl with | [_, _], _ => rfl)
    have G_BadBody : FnOk l.prog w K mg base CX0 1 fR fdR ["self", "index"] (spInitF CR "index") := ok_i_BadBody FCR rCR.oex nCR
    have G_BadStart : FnOk l.prog w K mg base CX0 1 fSt fdSt ["self", "index"] (spInitF CS "index") := ok_i_BadStart FCS rCS.oex nCS
    have X_lines_read : FnOk l.prog w K mg base (L2.CX l.prog w) 6 a_lines_read fd_lines_read ["rows", "counts"] (spReadX K CR) := ok_lines_readX F_lines_read T TG (PySem.W.mg_none_of X G z_enumerate) (PySem.W.mg_of X G c_MOST_ROWS) G_is_row (F_is_row.binds (ps := ["thing"]) fun _ _ _ _ _ _ us hl => match us, hl with | [_], _ => rfl) A_is_line (F_is_line.binds (ps := ["row", "counts", "many"]) fun _ _ _ _ _ _ us hl => match us, hl with | [_, _, _], _ => rfl) ENCR G_BadBody (FCR.binds (ps := ["self", "index"]) fun _ _ _ _ _ _ us hl => match us, hl with | [_, _], _ => rfl) (PySem.W.mg_of X G gc_BadBody)
    have GBX : FnOk l.prog w K mg base (L2.CX l.prog w) 7 fB fdB PB (spBodyX K CO CR CS) := ok_bodyX FB1 T TG A_are_operations (F_are_operations.binds (ps := ["thing"]) fun _ _ _ _ _ _ us hl => match us, hl with | [_], _ => rfl) G_lines_read X_lines_read (F_lines_read.binds (ps := ["rows", "counts"]) fun _ _ _ _ _ _ us hl => match us, hl with | [_, _], _ => rfl) (PySem.W.mg_of X G g_lines_read) F_lines_read.kp G_is_index (F_is_index.binds (ps := ["thing", "many"]) fun _ _ _ _ _ _ us hl => match us, hl with | [_, _], _ => rfl) qO rCO.kC sO rCO.ty (PySem.W.mg_of X G gc_BadOperations) ENCS G_BadStart (FCS.binds (ps := ["self", "index"]) fun _ _ _ _ _ _ us hl => match us, hl with | [_, _], _ => rfl) (PySem.W.mg_of X G gc_BadStart)
    have G_law_source_of : FnOk l.prog w K mg base CX0 1 a_law_source_of fd_law_source_of ["_law_cell"] spSrc := ok_src F_law_source_of TD
    have G_law_next : FnOk l.prog w K mg base CX0 1 a_law_next fd_law_next ["_law_source", "_law_many"] spNext := ok_next F_law_next TD
    have G_law_one : FnOk l.prog w K mg base CX0 2 a_law_one fd_law_one ["_law_source", "_law_some"] spOne := ok_one F_law_one TD F_law_next (F_law_next.binds (ps := ["_law_source", "_law_many"]) fun _ _ _ _ _ _ us hl => match us, hl with | [_, _], _ => rfl)
    have G_law_mixed : FnOk l.prog w K mg base CX0 2 a_law_mixed fd_law_mixed ["_law_source", "_law_some"] spMixed := ok_mixed F_law_mixed T G_law_next (F_law_next.binds (ps := ["_law_source", "_law_many"]) fun _ _ _ _ _ _ us hl => match us, hl with | [_, _], _ => rfl) (PySem.W.mg_of X G g_law_next) F_law_next.kp
    have G_law_operations : FnOk l.prog w K mg base CX0 3 a_law_operations fd_law_operations ["_law_source", "_law_many"] spDrawOps := ok_draw_ops F_law_operations T G_law_mixed (F_law_mixed.binds (ps := ["_law_source", "_law_some"]) fun _ _ _ _ _ _ us hl => match us, hl with | [_, _], _ => rfl) (PySem.W.mg_of X G g_law_mixed) F_law_mixed.kp G_law_one (F_law_one.binds (ps := ["_law_source", "_law_some"]) fun _ _ _ _ _ _ us hl => match us, hl with | [_, _], _ => rfl) (PySem.W.mg_of X G g_law_one) F_law_one.kp
    have G_law_rows : FnOk l.prog w K mg base CX0 3 a_law_rows fd_law_rows ["_law_source", "_law_operations_here", "_law_many"] spDrawRows := ok_draw_rows F_law_rows T (PySem.W.mg_none_of X G z_range) (PySem.W.mg_none_of X G z_sorted) G_law_next (F_law_next.binds (ps := ["_law_source", "_law_many"]) fun _ _ _ _ _ _ us hl => match us, hl with | [_, _], _ => rfl) (PySem.W.mg_of X G g_law_next) F_law_next.kp G_law_one (F_law_one.binds (ps := ["_law_source", "_law_some"]) fun _ _ _ _ _ _ us hl => match us, hl with | [_, _], _ => rfl) (PySem.W.mg_of X G g_law_one) F_law_one.kp
    have G_is_number : FnOk l.prog w K mg base CX0 1 a_is_number fd_is_number ["text"] spIsNumber := ok_is_number F_is_number T ⟨_, PySem.W.mg_of X G c_MOST_FIGURES⟩ ⟨_, PySem.W.mg_of X G c_FIGURES⟩
    have G_NoText : FnOk l.prog w K mg base CX0 1 fT fdT ["self", "line"] (spInitF CT "line") := ok_i_NoText FCT rCT.oex nCT
    have G_lines_of : FnOk l.prog w K mg base (L2.CX l.prog w) 3 a_lines_of fd_lines_of ["text"] (spLinesX K CT) := ok_lines_ofX F_lines_of T ENCT G_NoText (FCT.binds (ps := ["self", "line"]) fun _ _ _ _ _ _ us hl => match us, hl with | [_, _], _ => rfl) (PySem.W.mg_of X G gc_NoText)
    have G_number_of_start : FnOk l.prog w K mg base CX0 2 a_number_of_start fd_number_of_start ["line"] spStartT := ok_number_of_startT F_number_of_start T G_is_number (F_is_number.binds (ps := ["text"]) fun _ _ _ _ _ _ us hl => match us, hl with | [_], _ => rfl) (PySem.W.mg_of X G g_is_number) F_is_number.kp
    have G_row_told : FnOk l.prog w K mg base CX0 2 a_row_told fd_row_told ["line", "index"] spRowT := ok_row_toldT F_row_told T G_is_name (F_is_name.binds (ps := ["thing"]) fun _ _ _ _ _ _ us hl => match us, hl with | [_], _ => rfl) (PySem.W.mg_of X G g_is_name) F_is_name.kp G_is_number (F_is_number.binds (ps := ["text"]) fun _ _ _ _ _ _ us hl => match us, hl with | [_], _ => rfl) (PySem.W.mg_of X G g_is_number) F_is_number.kp
    have G_counts_told : FnOk l.prog w K mg base CX0 2 a_counts_told fd_counts_told ["line", "word"] spCountsT := ok_counts_toldT F_counts_told T G_is_name (F_is_name.binds (ps := ["thing"]) fun _ _ _ _ _ _ us hl => match us, hl with | [_], _ => rfl) (PySem.W.mg_of X G g_is_name) F_is_name.kp G_is_number (F_is_number.binds (ps := ["text"]) fun _ _ _ _ _ _ us hl => match us, hl with | [_], _ => rfl) (PySem.W.mg_of X G g_is_number) F_is_number.kp
    have GT : ∀ B, LamB.Up base B → FnOk l.prog w K mg B (L2.CX l.prog w) 4 a_told_at fd_told_at ["lines", "place", "told"] (spToldX l.prog w K mg CT B 3) := fun B _ => ok_told_atX F_told_at T ENCT (ok_i_NoText FCT rCT.oex nCT) (FCT.binds (ps := ["self", "line"]) fun _ _ _ _ _ _ us hl => match us, hl with | [_, _], _ => rfl) (PySem.W.mg_of X G gc_NoText)
    have G_read_body : FnOk l.prog w K mg base (L2.CX l.prog w) 9 a_read_body fd_read_body ["text"] (spReadT K CB CM CT CO CR CS PR) := ok_read_bodyX F_read_body T (PySem.W.mg_none_of X G z_range) MB GB GBX kB (PySem.W.mg_of X G gc_Body) TBm G_lines_of (F_lines_of.binds (ps := ["text"]) fun _ _ _ _ _ _ us hl => match us, hl with | [_], _ => rfl) (PySem.W.mg_of X G g_lines_of) F_lines_of.kp GT (F_told_at.binds (ps := ["lines", "place", "told"]) fun _ _ _ _ _ _ us hl => match us, hl with | [_, _, _], _ => rfl) (PySem.W.mg_of X G g_told_at) F_told_at.kp F_number_of_start G_number_of_start (F_number_of_start.binds (ps := ["line"]) fun _ _ _ _ _ _ us hl => match us, hl with | [_], _ => rfl) (PySem.W.mg_of X G g_number_of_start) G_counts_told (F_counts_told.binds (ps := ["line", "word"]) fun _ _ _ _ _ _ us hl => match us, hl with | [_, _], _ => rfl) (PySem.W.mg_of X G g_counts_told) F_counts_told.kp G_row_told (F_row_told.binds (ps := ["line", "index"]) fun _ _ _ _ _ _ us hl => match us, hl with | [_, _], _ => rfl) (PySem.W.mg_of X G g_row_told) F_row_told.kp
    have G_law_operations_line : FnOk l.prog w K mg base CX0 1 a_law_operations_line fd_law_operations_line ["_law_word", "_law_operations_here"] spCountsLine := ok_ops_line F_law_operations_line T (PySem.W.mg_none_of X G z_sorted)
    have G_law_row_line : FnOk l.prog w K mg base CX0 1 a_law_row_line fd_law_row_line ["_law_index", "_law_row"] spRowLine := ok_row_line F_law_row_line T
    have G_law_body_lines : FnOk l.prog w K mg base CX0 2 a_law_body_lines fd_law_body_lines ["_law_operations_here", "_law_rows_here", "_law_begin"] spBodyLines := ok_body_lines F_law_body_lines T (PySem.W.mg_none_of X G z_enumerate) G_law_operations_line (F_law_operations_line.binds (ps := ["_law_word", "_law_operations_here"]) fun _ _ _ _ _ _ us hl => match us, hl with | [_, _], _ => rfl) (PySem.W.mg_of X G g_law_operations_line) F_law_operations_line.kp G_law_row_line (F_law_row_line.binds (ps := ["_law_index", "_law_row"]) fun _ _ _ _ _ _ us hl => match us, hl with | [_, _], _ => rfl) (PySem.W.mg_of X G g_law_row_line) F_law_row_line.kp
    have G_law_joined : FnOk l.prog w K mg base CX0 1 a_law_joined fd_law_joined ["_law_lines"] spTextOf := ok_joinedL F_law_joined
    have G_law_said : FnOk l.prog w K mg base CX0 10 a_law_said fd_law_said ["_law_text"] (spSaidT K CB CM CT CO CR CS PR) := ok_saidT F_law_said T G_read_body (F_read_body.fn.binds (ps := ["text"]) fun _ _ _ _ _ _ us hl => match us, hl with | [_], _ => rfl) (PySem.W.mg_of X G g_read_body) F_read_body.kp (PySem.W.mg_of X G gc_AskError) (PySem.W.mg_of X G gc_BadOperations) (PySem.W.mg_of X G gc_BadBody) (PySem.W.mg_of X G gc_BadStart) (PySem.W.mg_of X G gc_NoText) eCO eCR eCS eCT kCT kCR kCS kCO XCT nCT XCR nCR XCS nCS
    have G_law_bad_line : FnOk l.prog w K mg base CX0 3 a_law_bad_line fd_law_bad_line ["_law_source", "_law_number"] spBadLine := ok_bad_line F_law_bad_line T G_law_one (F_law_one.binds (ps := ["_law_source", "_law_some"]) fun _ _ _ _ _ _ us hl => match us, hl with | [_, _], _ => rfl) (PySem.W.mg_of X G g_law_one) F_law_one.kp
    have G_law_right : FnOk l.prog w K mg base CX0 11 a_law_right fd_law_right ["_law_source"] (spRight PR) := ok_right F_law_right T G_law_next (F_law_next.binds (ps := ["_law_source", "_law_many"]) fun _ _ _ _ _ _ us hl => match us, hl with | [_, _], _ => rfl) (PySem.W.mg_of X G g_law_next) F_law_next.kp G_law_operations (F_law_operations.binds (ps := ["_law_source", "_law_many"]) fun _ _ _ _ _ _ us hl => match us, hl with | [_, _], _ => rfl) (PySem.W.mg_of X G g_law_operations) F_law_operations.kp G_law_rows (F_law_rows.binds (ps := ["_law_source", "_law_operations_here", "_law_many"]) fun _ _ _ _ _ _ us hl => match us, hl with | [_, _, _], _ => rfl) (PySem.W.mg_of X G g_law_rows) F_law_rows.kp G_law_body_lines (F_law_body_lines.binds (ps := ["_law_operations_here", "_law_rows_here", "_law_begin"]) fun _ _ _ _ _ _ us hl => match us, hl with | [_, _, _], _ => rfl) (PySem.W.mg_of X G g_law_body_lines) F_law_body_lines.kp G_law_joined (F_law_joined.binds (ps := ["_law_lines"]) fun _ _ _ _ _ _ us hl => match us, hl with | [_], _ => rfl) (PySem.W.mg_of X G g_law_joined) F_law_joined.kp G_law_said (F_law_said.binds (ps := ["_law_text"]) fun _ _ _ _ _ _ us hl => match us, hl with | [_], _ => rfl) (PySem.W.mg_of X G g_law_said) F_law_said.kp G_law_bad_line (F_law_bad_line.binds (ps := ["_law_source", "_law_number"]) fun _ _ _ _ _ _ us hl => match us, hl with | [_, _], _ => rfl) (PySem.W.mg_of X G g_law_bad_line) F_law_bad_line.kp
    exact ok_law F_law T (PySem.W.mg_none_of X G z_range) G_law_source_of (F_law_source_of.binds (ps := ["_law_cell"]) fun _ _ _ _ _ _ us hl => match us, hl with | [_], _ => rfl) (PySem.W.mg_of X G g_law_source_of) F_law_source_of.kp G_law_right (F_law_right.binds (ps := ["_law_source"]) fun _ _ _ _ _ _ us hl => match us, hl with | [_], _ => rfl) (PySem.W.mg_of X G g_law_right) F_law_right.kp G_law_said (F_law_said.binds (ps := ["_law_text"]) fun _ _ _ _ _ _ us hl => match us, hl with | [_], _ => rfl) (PySem.W.mg_of X G g_law_said) F_law_said.kp
end Mine

set_option maxRecDepth 100000
set_option maxHeartbeats 4000000
namespace Mine
open PySem PySem.Spec PyProof.Rows L2
theorem fun_of {K : PySem.W.Frag} {x q : Str} {st : Stmt} {f : Addr} {fd : FuncData} {kws : List (Str × V)} (F : FunD K x q (defArgs st) (defBody st) (defScope st) [] kws f fd) : Fun K x q st f fd := by
  obtain ⟨⟨oc, od, dV, kV, doc, pm, an, cdv, ct, osl, e, l, c, hd, hk⟩, kp⟩ := F
  have : dV = .none := hd.elim (·.2) fun z => absurd rfl z.1
  subst this
  exact ⟨⟨oc, od, kV, doc, pm, an, cdv, ct, osl, e, l, c⟩, kp⟩
theorem funC_of {K : PySem.W.Frag} {x q : Str} {st : Stmt} {p : Str × Option Str} {fd : FuncData} {kws : List (Str × V)} (F : FunD K x q (defArgs st) (defBody st) (defScope st) [] kws (He.fAd K p) fd) : LamB.FunC K x q st (He.fAd K p) fd (He.codeOf K p) := by
  obtain ⟨⟨oc, od, dV, kV, doc, pm, an, cdv, ct, osl, e, l, c, hd, hk⟩, kp⟩ := F
  have : dV = .none := hd.elim (·.2) fun z => absurd rfl z.1
  subst this
  obtain ⟨cc, rfl⟩ := He.codeIn_ref c
  have e2 : He.codeOf K p = cc := He.codeOf_eq l (by rw [e])
  rw [e2]
  exact ⟨⟨oc, od, kV, doc, pm, an, ct, osl, e, l, c⟩, kp⟩
theorem nsStr {K : PySem.W.Frag} {x z : Str} (c : (He.Fa.str x z).ok K = true) : ∃ t, PySem.W.nsIn K mainGlobals x = some (some (.str z t)) := by
  have c2 : (match PySem.W.nsIn K mainGlobals x with
    | some (some (.str y _)) => decide (y = z)
    | _ => false) = true := c
  split at c2
  · rename_i y t q
    rw [q, of_decide_eq_true c2]
    exact ⟨t, rfl⟩
  · cases c2
theorem nsInt {K : PySem.W.Frag} {x : Str} {i : Int} (c : (He.Fa.int x i).ok K = true) : ∃ t, PySem.W.nsIn K mainGlobals x = some (some (.int i t)) := by
  have c2 : (match PySem.W.nsIn K mainGlobals x with
    | some (some (.int j _)) => decide (j = i)
    | _ => false) = true := c
  split at c2
  · rename_i y t q
    rw [q, of_decide_eq_true c2]
    exact ⟨t, rfl⟩
  · cases c2
def rawX (K : PySem.W.Frag) (cA C : Addr) : Bool := match K.lookup C with
  | some ⟨.type t, _, .cls cd, sl⟩ => (match sl.toList with
    | [_, _, _, _, some (.builtin n), _] => decide (t = "type") && (decide (cd.mro = [.ref C, .ref cA, .type "ValueError", .type "Exception", .type "BaseException", .type "object"]) && (decide (n = "ValueError.__new__") && (cd.hasDict && !cd.hasDel)))
    | _ => false)
  | _ => false
theorem rawX_ok {K : PySem.W.Frag} {cA C : Addr} (q : rawX K cA C = true) : ∃ nm q N bs sn sub ab col dd m0 m1 m2 m3 m5, K.lookup C = some (excClassObj nm q C N bs [.ref cA, .type "ValueError", .type "Exception", .type "BaseException", .type "object"] true sn sub ab col dd m0 m1 m2 m3 m5 "ValueError.__new__") := by
  unfold rawX at q
  split at q
  · rename_i t dd cd sl ho
    split at q
    · rename_i k0 k1 k2 k3 n k5 hs
      simp only [Bool.and_eq_true, decide_eq_true_eq, Bool.not_eq_true'] at q
      obtain ⟨rfl, hm, rfl, hdi, hdel⟩ := q
      obtain ⟨nm, bs, mro, ns, qn, hd, sn, sub, ab, col, del⟩ := cd
      dsimp only at hm hdel hdi
      subst hm hdel hdi
      have hsl : sl = #[k0, k1, k2, k3, some (.builtin "ValueError.__new__"), k5] := by
        obtain ⟨l⟩ := sl
        simp only at hs
        rw [hs]
      subst hsl
      exact ⟨nm, qn, ns, bs, sn, sub, ab, col, dd, k0, k1, k2, k3, k5, ho⟩
    · cases q
  · cases q
def d_is_integer : He.DefD := ⟨("is_integer", none), "is_integer", "is_integer", defArgs s_is_integer, defBody s_is_integer, defScope s_is_integer, [], []⟩
def d_is_within : He.DefD := ⟨("is_within", none), "is_within", "is_within", defArgs s_is_within, defBody s_is_within, defScope s_is_within, [], []⟩
def d_is_index : He.DefD := ⟨("is_index", none), "is_index", "is_index", defArgs s_is_index, defBody s_is_index, defScope s_is_index, [], []⟩
def d_is_row : He.DefD := ⟨("is_row", none), "is_row", "is_row", defArgs s_is_row, defBody s_is_row, defScope s_is_row, [], []⟩
def d_is_name : He.DefD := ⟨("is_name", none), "is_name", "is_name", defArgs s_is_name, defBody s_is_name, defScope s_is_name, [], []⟩
def d_is_text_in : He.DefD := ⟨("is_text_in", none), "is_text_in", "is_text_in", defArgs s_is_text_in, defBody s_is_text_in, defScope s_is_text_in, [], []⟩
def d_are_counts : He.DefD := ⟨("are_counts", none), "are_counts", "are_counts", defArgs s_are_counts, defBody s_are_counts, defScope s_are_counts, [], []⟩
def d_are_operations : He.DefD := ⟨("are_operations", none), "are_operations", "are_operations", defArgs s_are_operations, defBody s_are_operations, defScope s_are_operations, [], []⟩
def d_in_order : He.DefD := ⟨("in_order", none), "in_order", "in_order", defArgs s_in_order, defBody s_in_order, defScope s_in_order, [], []⟩
def d_word_of : He.DefD := ⟨("word_of", none), "word_of", "word_of", defArgs s_word_of, defBody s_word_of, defScope s_word_of, [], []⟩
def d_are_nexts : He.DefD := ⟨("are_nexts", none), "are_nexts", "are_nexts", defArgs s_are_nexts, defBody s_are_nexts, defScope s_are_nexts, [], []⟩
def d_stops_of : He.DefD := ⟨("stops_of", none), "stops_of", "stops_of", defArgs s_stops_of, defBody s_stops_of, defScope s_stops_of, [], []⟩
def d_rest_of : He.DefD := ⟨("rest_of", none), "rest_of", "rest_of", defArgs s_rest_of, defBody s_rest_of, defScope s_rest_of, [], []⟩
def d_rests_from : He.DefD := ⟨("rests_from", none), "rests_from", "rests_from", defArgs s_rests_from, defBody s_rests_from, defScope s_rests_from, [], []⟩
def d_nexts_of : He.DefD := ⟨("nexts_of", none), "nexts_of", "nexts_of", defArgs s_nexts_of, defBody s_nexts_of, defScope s_nexts_of, [], []⟩
def d_firsts_of : He.DefD := ⟨("firsts_of", none), "firsts_of", "firsts_of", defArgs s_firsts_of, defBody s_firsts_of, defScope s_firsts_of, [], []⟩
def d_lines_read : He.DefD := ⟨("lines_read", none), "lines_read", "lines_read", defArgs s_lines_read, defBody s_lines_read, defScope s_lines_read, [], []⟩
def d_is_line : He.DefD := ⟨("is_line", none), "is_line", "is_line", defArgs s_is_line, defBody s_is_line, defScope s_is_line, [], []⟩
def d_line_of : He.DefD := ⟨("line_of", none), "line_of", "line_of", defArgs s_line_of, defBody s_line_of, defScope s_line_of, [], []⟩
def d_read_body : He.DefD := ⟨("read_body", none), "read_body", "read_body", defArgs s_read_body, defBody s_read_body, defScope s_read_body, [], []⟩
def d_lines_of : He.DefD := ⟨("lines_of", none), "lines_of", "lines_of", defArgs s_lines_of, defBody s_lines_of, defScope s_lines_of, [], []⟩
def d_told_at : He.DefD := ⟨("told_at", none), "told_at", "told_at", defArgs s_told_at, defBody s_told_at, defScope s_told_at, [], []⟩
def d_counts_told : He.DefD := ⟨("counts_told", none), "counts_told", "counts_told", defArgs s_counts_told, defBody s_counts_told, defScope s_counts_told, [], []⟩
def d_is_number : He.DefD := ⟨("is_number", none), "is_number", "is_number", defArgs s_is_number, defBody s_is_number, defScope s_is_number, [], []⟩
def d_number_of_start : He.DefD := ⟨("number_of_start", none), "number_of_start", "number_of_start", defArgs s_number_of_start, defBody s_number_of_start, defScope s_number_of_start, [], []⟩
def d_row_told : He.DefD := ⟨("row_told", none), "row_told", "row_told", defArgs s_row_told, defBody s_row_told, defScope s_row_told, [], []⟩
def d_law_source_of : He.DefD := ⟨("_law_source_of", none), "_law_source_of", "_law_source_of", defArgs sSrc, defBody sSrc, defScope sSrc, [], []⟩
def d_law_next : He.DefD := ⟨("_law_next", none), "_law_next", "_law_next", defArgs sNext, defBody sNext, defScope sNext, [], []⟩
def d_law_one : He.DefD := ⟨("_law_one", none), "_law_one", "_law_one", defArgs sOne, defBody sOne, defScope sOne, [], []⟩
def d_law_mixed : He.DefD := ⟨("_law_mixed", none), "_law_mixed", "_law_mixed", defArgs s_mixed, defBody s_mixed, defScope s_mixed, [], []⟩
def d_law_operations : He.DefD := ⟨("_law_operations", none), "_law_operations", "_law_operations", defArgs s_ops, defBody s_ops, defScope s_ops, [], []⟩
def d_law_rows : He.DefD := ⟨("_law_rows", none), "_law_rows", "_law_rows", defArgs s_rows, defBody s_rows, defScope s_rows, [], []⟩
def d_law_operations_line : He.DefD := ⟨("_law_operations_line", none), "_law_operations_line", "_law_operations_line", defArgs s_ops_line, defBody s_ops_line, defScope s_ops_line, [], []⟩
def d_law_row_line : He.DefD := ⟨("_law_row_line", none), "_law_row_line", "_law_row_line", defArgs s_row_line, defBody s_row_line, defScope s_row_line, [], []⟩
def d_law_body_lines : He.DefD := ⟨("_law_body_lines", none), "_law_body_lines", "_law_body_lines", defArgs s_body_lines, defBody s_body_lines, defScope s_body_lines, [], []⟩
def d_law_joined : He.DefD := ⟨("_law_joined", none), "_law_joined", "_law_joined", defArgs s_joined, defBody s_joined, defScope s_joined, [], []⟩
def d_law_said : He.DefD := ⟨("_law_said", none), "_law_said", "_law_said", defArgs s_said, defBody s_said, defScope s_said, [], []⟩
def d_law_bad_line : He.DefD := ⟨("_law_bad_line", none), "_law_bad_line", "_law_bad_line", defArgs s_bad_line, defBody s_bad_line, defScope s_bad_line, [], []⟩
def d_law_right : He.DefD := ⟨("_law_right", none), "_law_right", "_law_right", defArgs s_right, defBody s_right, defScope s_right, [], []⟩
def d_law : He.DefD := ⟨("law", none), "law", "law", defArgs s_law, defBody s_law, defScope s_law, [], []⟩
def d_FM : He.DefD := ⟨("Machine", some "__init__"), "__init__", "Machine.__init__", defArgs s_mach, defBody s_mach, defScope s_mach, [], []⟩
def d_FCR : He.DefD := ⟨("BadBody", some "__init__"), "__init__", "BadBody.__init__", defArgs s_i_BadBody, defBody s_i_BadBody, defScope s_i_BadBody, [], []⟩
def d_FCS : He.DefD := ⟨("BadStart", some "__init__"), "__init__", "BadStart.__init__", defArgs s_i_BadStart, defBody s_i_BadStart, defScope s_i_BadStart, [], []⟩
def d_FCT : He.DefD := ⟨("NoText", some "__init__"), "__init__", "NoText.__init__", defArgs s_i_NoText, defBody s_i_NoText, defScope s_i_NoText, [], []⟩
def d_FB : He.DefD := ⟨("Body", some "__init__"), "__init__", "Body.__init__", defArgs s_body, defBody s_body, defScope s_body, [], [("start", .int 0)]⟩
def fnL : List He.DefD := ([d_is_integer, d_is_within, d_is_index, d_is_row, d_is_name, d_is_text_in, d_are_counts, d_are_operations, d_in_order, d_word_of, d_are_nexts, d_stops_of, d_rest_of, d_rests_from, d_nexts_of, d_firsts_of, d_lines_read, d_is_line, d_line_of, d_read_body, d_lines_of, d_told_at, d_counts_told, d_is_number, d_number_of_start, d_row_told, d_law_source_of, d_law_next, d_law_one, d_law_mixed] : List He.DefD) ++ ([d_law_operations, d_law_rows, d_law_operations_line, d_law_row_line, d_law_body_lines, d_law_joined, d_law_said, d_law_bad_line, d_law_right, d_law, d_FM, d_FCR, d_FCS, d_FCT, d_FB] : List He.DefD)
def faL : List He.Fa := [.cls "Body", .cls "Machine", .str "LETTERS" lettersS, .str "FIGURES" figS, .int "LONGEST_NAME" 8, .int "MOST_OPERATIONS" 8, .int "MOST_ANSWERS" 6, .int "MOST_ROWS" 400, .int "MOST_FIGURES" 30]
def exs0 (K : PySem.W.Frag) : List Bool := [decide (PySem.W.nsIn K mainGlobals "is_integer" = some (some (.ref (He.ga K "is_integer")))),
  decide (PySem.W.nsIn K mainGlobals "is_within" = some (some (.ref (He.ga K "is_within")))),
  decide (PySem.W.nsIn K mainGlobals "is_index" = some (some (.ref (He.ga K "is_index")))),
  decide (PySem.W.nsIn K mainGlobals "is_row" = some (some (.ref (He.ga K "is_row")))),
  decide (PySem.W.nsIn K mainGlobals "is_name" = some (some (.ref (He.ga K "is_name")))),
  decide (PySem.W.nsIn K mainGlobals "is_text_in" = some (some (.ref (He.ga K "is_text_in")))),
  decide (PySem.W.nsIn K mainGlobals "are_counts" = some (some (.ref (He.ga K "are_counts")))),
  decide (PySem.W.nsIn K mainGlobals "are_operations" = some (some (.ref (He.ga K "are_operations")))),
  decide (PySem.W.nsIn K mainGlobals "in_order" = some (some (.ref (He.ga K "in_order")))),
  decide (PySem.W.nsIn K mainGlobals "word_of" = some (some (.ref (He.ga K "word_of")))),
  decide (PySem.W.nsIn K mainGlobals "are_nexts" = some (some (.ref (He.ga K "are_nexts")))),
  decide (PySem.W.nsIn K mainGlobals "stops_of" = some (some (.ref (He.ga K "stops_of")))),
  decide (PySem.W.nsIn K mainGlobals "rest_of" = some (some (.ref (He.ga K "rest_of")))),
  decide (PySem.W.nsIn K mainGlobals "rests_from" = some (some (.ref (He.ga K "rests_from")))),
  decide (PySem.W.nsIn K mainGlobals "nexts_of" = some (some (.ref (He.ga K "nexts_of")))),
  decide (PySem.W.nsIn K mainGlobals "firsts_of" = some (some (.ref (He.ga K "firsts_of")))),
  decide (PySem.W.nsIn K mainGlobals "lines_read" = some (some (.ref (He.ga K "lines_read")))),
  decide (PySem.W.nsIn K mainGlobals "is_line" = some (some (.ref (He.ga K "is_line")))),
  decide (PySem.W.nsIn K mainGlobals "line_of" = some (some (.ref (He.ga K "line_of")))),
  decide (PySem.W.nsIn K mainGlobals "read_body" = some (some (.ref (He.ga K "read_body")))),
  decide (PySem.W.nsIn K mainGlobals "lines_of" = some (some (.ref (He.ga K "lines_of")))),
  decide (PySem.W.nsIn K mainGlobals "told_at" = some (some (.ref (He.ga K "told_at")))),
  decide (PySem.W.nsIn K mainGlobals "counts_told" = some (some (.ref (He.ga K "counts_told")))),
  decide (PySem.W.nsIn K mainGlobals "is_number" = some (some (.ref (He.ga K "is_number")))),
  decide (PySem.W.nsIn K mainGlobals "number_of_start" = some (some (.ref (He.ga K "number_of_start"))))]
def exs1 (K : PySem.W.Frag) : List Bool := [decide (PySem.W.nsIn K mainGlobals "row_told" = some (some (.ref (He.ga K "row_told")))),
  decide (PySem.W.nsIn K mainGlobals "_law_source_of" = some (some (.ref (He.ga K "_law_source_of")))),
  decide (PySem.W.nsIn K mainGlobals "_law_next" = some (some (.ref (He.ga K "_law_next")))),
  decide (PySem.W.nsIn K mainGlobals "_law_one" = some (some (.ref (He.ga K "_law_one")))),
  decide (PySem.W.nsIn K mainGlobals "_law_mixed" = some (some (.ref (He.ga K "_law_mixed")))),
  decide (PySem.W.nsIn K mainGlobals "_law_operations" = some (some (.ref (He.ga K "_law_operations")))),
  decide (PySem.W.nsIn K mainGlobals "_law_rows" = some (some (.ref (He.ga K "_law_rows")))),
  decide (PySem.W.nsIn K mainGlobals "_law_operations_line" = some (some (.ref (He.ga K "_law_operations_line")))),
  decide (PySem.W.nsIn K mainGlobals "_law_row_line" = some (some (.ref (He.ga K "_law_row_line")))),
  decide (PySem.W.nsIn K mainGlobals "_law_body_lines" = some (some (.ref (He.ga K "_law_body_lines")))),
  decide (PySem.W.nsIn K mainGlobals "_law_joined" = some (some (.ref (He.ga K "_law_joined")))),
  decide (PySem.W.nsIn K mainGlobals "_law_said" = some (some (.ref (He.ga K "_law_said")))),
  decide (PySem.W.nsIn K mainGlobals "_law_bad_line" = some (some (.ref (He.ga K "_law_bad_line")))),
  decide (PySem.W.nsIn K mainGlobals "_law_right" = some (some (.ref (He.ga K "_law_right")))),
  decide (PySem.W.nsIn K mainGlobals "law" = some (some (.ref (He.ga K "law")))),
  rawX K (He.ga K "AskError") (He.ga K "BadOperations"),
  decide (PySem.W.findIn K (.ref (He.ga K "BadOperations")) "__getattribute__" = some (some (.builtin "BaseException.__getattribute__"))),
  decide (PySem.W.findIn K (.ref (He.ga K "BadOperations")) "__getattr__" = some none),
  decide (PySem.W.findIn K (.ref (He.ga K "BadOperations")) "__class__" = some (some (.builtin "object.__class__"))),
  decide (PySem.W.findIn K (.ref (He.ga K "BadOperations")) "__setattr__" = some (some (.builtin "object.__setattr__"))),
  decide (PySem.W.typeIn K (.ref (He.ga K "BadOperations")) = some (.type "type")),
  PySem.W.hasDictIn K (He.ga K "BadOperations"),
  PySem.W.keepIn K (.ref (He.ga K "BadOperations")),
  rawX K (He.ga K "AskError") (He.ga K "BadBody"),
  decide (PySem.W.findIn K (.ref (He.ga K "BadBody")) "__getattribute__" = some (some (.builtin "BaseException.__getattribute__")))]
def exs2 (K : PySem.W.Frag) : List Bool := [decide (PySem.W.findIn K (.ref (He.ga K "BadBody")) "__getattr__" = some none),
  decide (PySem.W.findIn K (.ref (He.ga K "BadBody")) "__class__" = some (some (.builtin "object.__class__"))),
  decide (PySem.W.findIn K (.ref (He.ga K "BadBody")) "__setattr__" = some (some (.builtin "object.__setattr__"))),
  decide (PySem.W.typeIn K (.ref (He.ga K "BadBody")) = some (.type "type")),
  PySem.W.hasDictIn K (He.ga K "BadBody"),
  PySem.W.keepIn K (.ref (He.ga K "BadBody")),
  rawX K (He.ga K "AskError") (He.ga K "BadStart"),
  decide (PySem.W.findIn K (.ref (He.ga K "BadStart")) "__getattribute__" = some (some (.builtin "BaseException.__getattribute__"))),
  decide (PySem.W.findIn K (.ref (He.ga K "BadStart")) "__getattr__" = some none),
  decide (PySem.W.findIn K (.ref (He.ga K "BadStart")) "__class__" = some (some (.builtin "object.__class__"))),
  decide (PySem.W.findIn K (.ref (He.ga K "BadStart")) "__setattr__" = some (some (.builtin "object.__setattr__"))),
  decide (PySem.W.typeIn K (.ref (He.ga K "BadStart")) = some (.type "type")),
  PySem.W.hasDictIn K (He.ga K "BadStart"),
  PySem.W.keepIn K (.ref (He.ga K "BadStart")),
  rawX K (He.ga K "AskError") (He.ga K "NoText"),
  decide (PySem.W.findIn K (.ref (He.ga K "NoText")) "__getattribute__" = some (some (.builtin "BaseException.__getattribute__"))),
  decide (PySem.W.findIn K (.ref (He.ga K "NoText")) "__getattr__" = some none),
  decide (PySem.W.findIn K (.ref (He.ga K "NoText")) "__class__" = some (some (.builtin "object.__class__"))),
  decide (PySem.W.findIn K (.ref (He.ga K "NoText")) "__setattr__" = some (some (.builtin "object.__setattr__"))),
  decide (PySem.W.typeIn K (.ref (He.ga K "NoText")) = some (.type "type")),
  PySem.W.hasDictIn K (He.ga K "NoText"),
  PySem.W.keepIn K (.ref (He.ga K "NoText")),
  decide (PySem.W.findIn K (.ref (He.ga K "BadBody")) "__init__" = some (some (.ref (He.ma K (He.ga K "BadBody") "__init__")))),
  decide (PySem.W.typeIn K (.ref (He.ma K (He.ga K "BadBody") "__init__")) = some (.type "function")),
  decide (PySem.W.findIn K (.ref (He.ga K "BadBody")) "index" = some none)]
def exs3 (K : PySem.W.Frag) : List Bool := [decide (PySem.W.findIn K (.ref (He.ga K "BadStart")) "__init__" = some (some (.ref (He.ma K (He.ga K "BadStart") "__init__")))),
  decide (PySem.W.typeIn K (.ref (He.ma K (He.ga K "BadStart") "__init__")) = some (.type "function")),
  decide (PySem.W.findIn K (.ref (He.ga K "BadStart")) "index" = some none),
  decide (PySem.W.findIn K (.ref (He.ga K "NoText")) "__init__" = some (some (.ref (He.ma K (He.ga K "NoText") "__init__")))),
  decide (PySem.W.typeIn K (.ref (He.ma K (He.ga K "NoText") "__init__")) = some (.type "function")),
  decide (PySem.W.findIn K (.ref (He.ga K "NoText")) "line" = some none),
  PySem.W.excIn K (He.ga K "BadOperations") [.type "ValueError", .type "Exception", .type "BaseException", .type "object"] "ValueError.__new__",
  decide (PySem.W.subIn K (.ref (He.ga K "BadOperations")) (.type "BaseException") = some true),
  decide (PySem.W.subIn K (.ref (He.ga K "BadOperations")) (.ref (He.ga K "BadBody")) = some false),
  decide (PySem.W.subIn K (.ref (He.ga K "BadOperations")) (.ref (He.ga K "BadStart")) = some false),
  decide (PySem.W.subIn K (.ref (He.ga K "BadOperations")) (.ref (He.ga K "NoText")) = some false),
  decide (PySem.W.subIn K (.ref (He.ga K "BadBody")) (.ref (He.ga K "BadOperations")) = some false),
  decide (PySem.W.subIn K (.ref (He.ga K "BadBody")) (.ref (He.ga K "BadStart")) = some false),
  decide (PySem.W.subIn K (.ref (He.ga K "BadBody")) (.ref (He.ga K "NoText")) = some false),
  decide (PySem.W.subIn K (.ref (He.ga K "BadStart")) (.ref (He.ga K "BadOperations")) = some false),
  decide (PySem.W.subIn K (.ref (He.ga K "BadStart")) (.ref (He.ga K "BadBody")) = some false),
  decide (PySem.W.subIn K (.ref (He.ga K "BadStart")) (.ref (He.ga K "NoText")) = some false),
  decide (PySem.W.subIn K (.ref (He.ga K "NoText")) (.ref (He.ga K "BadOperations")) = some false),
  decide (PySem.W.subIn K (.ref (He.ga K "NoText")) (.ref (He.ga K "BadBody")) = some false),
  decide (PySem.W.subIn K (.ref (He.ga K "NoText")) (.ref (He.ga K "BadStart")) = some false),
  decide ([(He.ga K "BadOperations"), (He.ga K "BadBody"), (He.ga K "BadStart"), (He.ga K "NoText")].Nodup),
  decide (PySem.W.subIn K (.ref (He.ga K "AskError")) (.type "BaseException") = some true),
  PySem.W.hasDictIn K (He.ga K "AskError"),
  decide (PySem.W.typeIn K (.ref (He.ga K "AskError")) = some (.type "type")),
  decide (PySem.W.nsIn K mainGlobals "AskError" = some (some (.ref (He.ga K "AskError"))))]
def exs4 (K : PySem.W.Frag) : List Bool := [decide (PySem.W.nsIn K mainGlobals "Body" = some (some (.ref (He.ga K "Body")))),
  decide (PySem.W.nsIn K mainGlobals "Machine" = some (some (.ref (He.ga K "Machine")))),
  decide (PySem.W.nsIn K mainGlobals "BadOperations" = some (some (.ref (He.ga K "BadOperations")))),
  decide (PySem.W.nsIn K mainGlobals "BadBody" = some (some (.ref (He.ga K "BadBody")))),
  decide (PySem.W.nsIn K mainGlobals "BadStart" = some (some (.ref (He.ga K "BadStart")))),
  decide (PySem.W.nsIn K mainGlobals "NoText" = some (some (.ref (He.ga K "NoText")))),
  decide (PySem.W.specialIn K (.builtin "object.__class__") "__get__" = some (some (.builtin "getset_descriptor.__get__"))),
  decide (PySem.W.takesIn K (.builtin "object.__class__") = some true),
  PySem.W.makesIn K (He.ga K "Body"),
  decide (PySem.W.findIn K (.ref (He.ga K "Body")) "__init__" = some (some (.ref (He.ma K (He.ga K "Body") "__init__")))),
  PySem.W.isFn K (.ref (He.ma K (He.ga K "Body") "__init__")),
  PySem.W.keepIn K (.ref (He.ga K "Body")),
  PySem.W.makesIn K (He.ga K "Machine"),
  decide (PySem.W.findIn K (.ref (He.ga K "Machine")) "__init__" = some (some (.ref (He.ma K (He.ga K "Machine") "__init__")))),
  PySem.W.isFn K (.ref (He.ma K (He.ga K "Machine") "__init__")),
  PySem.W.keepIn K (.ref (He.ga K "Machine")),
  decide (PySem.W.findIn K (.ref (He.ga K "Machine")) "counts" = some none),
  decide (PySem.W.findIn K (.ref (He.ga K "Machine")) "lines" = some none),
  decide (PySem.W.findIn K (.ref (He.ga K "Machine")) "begin" = some none),
  decide (PySem.W.findIn K (.ref (He.ga K "Machine")) "stops" = some none),
  decide (PySem.W.findIn K (.ref (He.ga K "Machine")) "asks" = some none),
  decide (PySem.W.findIn K (.ref (He.ga K "Machine")) "endings" = some none),
  decide (PySem.W.findIn K (.ref (He.ga K "Machine")) "endless" = some none),
  decide (PySem.W.findIn K (.ref (He.ga K "Body")) "machine" = some none),
  decide (PySem.W.nsIn K mainGlobals "int" = some none)]
def exs5 (K : PySem.W.Frag) : List Bool := [decide (PySem.W.nsIn K mainGlobals "isinstance" = some none),
  decide (PySem.W.nsIn K mainGlobals "bool" = some none),
  decide (PySem.W.nsIn K mainGlobals "str" = some none),
  decide (PySem.W.nsIn K mainGlobals "list" = some none),
  decide (PySem.W.nsIn K mainGlobals "tuple" = some none),
  decide (PySem.W.nsIn K mainGlobals "dict" = some none),
  decide (PySem.W.nsIn K mainGlobals "len" = some none),
  decide (PySem.W.nsIn K mainGlobals "all" = some none),
  decide (PySem.W.nsIn K mainGlobals "range" = some none),
  decide (PySem.W.nsIn K mainGlobals "sorted" = some none),
  decide (PySem.W.nsIn K mainGlobals "min" = some none),
  decide (PySem.W.nsIn K mainGlobals "enumerate" = some none)]
def exL (K : PySem.W.Frag) : List Bool := exs0 K ++ exs1 K ++ exs2 K ++ exs3 K ++ exs4 K ++ exs5 K
def exB (K : PySem.W.Frag) : Bool := (exL K).all id
def tfL : List He.Defn := [("read_body", none)]
abbrev Rw : PySem.W.OpenRow := PySem.W.OpenLaw.row PySem.Challenge.rw_askfurther_k36_texts_that_are_no_bodies
abbrev hkL : PySem.W.Hook := He2.hookY faL fnL tfL exB
def obL (s : PySem.W.SharedT) : He2.AlY := He2.obsY faL fnL tfL exB (HandSHeadRun.getT s)
theorem obL_eq (s : PySem.W.SharedT) : obL s = hkL.obs s.abs := He2.obsY_eq (HandSHeadRun.getT_eq s)
def looseL : List Str := (["_wall", "__name__", "AskError", "BadOperations", "BadBody", "BadStart", "NoRow", "NoText", "LETTERS", "LONGEST_NAME", "MOST_OPERATIONS", "MOST_ANSWERS", "is_integer", "is_within", "is_index", "is_row", "is_name", "is_text_in", "are_counts", "are_operations", "in_order", "word_of", "are_nexts", "Machine", "are_equal", "stops_of", "rest_of", "rests_from", "nexts_of", "firsts_of"] : List Str) ++ (["MOST_ROWS", "Body", "lines_read", "is_line", "line_of", "FIGURES", "MOST_FIGURES", "read_body", "lines_of", "told_at", "counts_told", "is_number", "number_of_start", "row_told", "_law_source_of", "_law_next", "_law_one", "_law_mixed", "_law_operations", "_law_rows", "_law_operations_line", "_law_row_line", "_law_body_lines", "_law_joined", "_law_said", "_law_bad_line", "_law_right"] : List Str)
theorem allL {l : PySem.W.OpenLaw} {w : World} {K : PySem.W.Frag} {h : Heap} {mg : Str → Option Value} {fa : Addr} (X : K.In h) (G : h.Ns mainGlobals mg) (hfa : mg "law" = some (.ref fa)) (c : He2.SaysY faL fnL tfL exB h K) : LamX.LawAtS l w K CX0 12 63 "_law_script" mg fa h := by
  have gx : ∀ (i : Nat) {b : Bool}, (exL K)[i]? = some b → b = true := fun i b e => List.all_eq_true.mp (show (exL K).all id = true from c.more) b (List.mem_of_getElem? e)
  obtain ⟨fd_is_integer, E_is_integer⟩ := c.d.def_ 0 (d := d_is_integer) rfl
  obtain ⟨fd_is_within, E_is_within⟩ := c.d.def_ 1 (d := d_is_within) rfl
  obtain ⟨fd_is_index, E_is_index⟩ := c.d.def_ 2 (d := d_is_index) rfl
  obtain ⟨fd_is_row, E_is_row⟩ := c.d.def_ 3 (d := d_is_row) rfl
  obtain ⟨fd_is_name, E_is_name⟩ := c.d.def_ 4 (d := d_is_name) rfl
  obtain ⟨fd_is_text_in, E_is_text_in⟩ := c.d.def_ 5 (d := d_is_text_in) rfl
  obtain ⟨fd_are_counts, E_are_counts⟩ := c.d.def_ 6 (d := d_are_counts) rfl
  obtain ⟨fd_are_operations, E_are_operations⟩ := c.d.def_ 7 (d := d_are_operations) rfl
  obtain ⟨fd_in_order, E_in_order⟩ := c.d.def_ 8 (d := d_in_order) rfl
  obtain ⟨fd_word_of, E_word_of⟩ := c.d.def_ 9 (d := d_word_of) rfl
  obtain ⟨fd_are_nexts, E_are_nexts⟩ := c.d.def_ 10 (d := d_are_nexts) rfl
  obtain ⟨fd_stops_of, E_stops_of⟩ := c.d.def_ 11 (d := d_stops_of) rfl
  obtain ⟨fd_rest_of, E_rest_of⟩ := c.d.def_ 12 (d := d_rest_of) rfl
  obtain ⟨fd_rests_from, E_rests_from⟩ := c.d.def_ 13 (d := d_rests_from) rfl
  obtain ⟨fd_nexts_of, E_nexts_of⟩ := c.d.def_ 14 (d := d_nexts_of) rfl
  obtain ⟨fd_firsts_of, E_firsts_of⟩ := c.d.def_ 15 (d := d_firsts_of) rfl
  obtain ⟨fd_lines_read, E_lines_read⟩ := c.d.def_ 16 (d := d_lines_read) rfl
  obtain ⟨fd_is_line, E_is_line⟩ := c.d.def_ 17 (d := d_is_line) rfl
  obtain ⟨fd_line_of, E_line_of⟩ := c.d.def_ 18 (d := d_line_of) rfl
  obtain ⟨fd_read_body, E_read_body⟩ := c.d.def_ 19 (d := d_read_body) rfl
  obtain ⟨fd_lines_of, E_lines_of⟩ := c.d.def_ 20 (d := d_lines_of) rfl
  obtain ⟨fd_told_at, E_told_at⟩ := c.d.def_ 21 (d := d_told_at) rfl
  obtain ⟨fd_counts_told, E_counts_told⟩ := c.d.def_ 22 (d := d_counts_told) rfl
  obtain ⟨fd_is_number, E_is_number⟩ := c.d.def_ 23 (d := d_is_number) rfl
  obtain ⟨fd_number_of_start, E_number_of_start⟩ := c.d.def_ 24 (d := d_number_of_start) rfl
  obtain ⟨fd_row_told, E_row_told⟩ := c.d.def_ 25 (d := d_row_told) rfl
  obtain ⟨fd_law_source_of, E_law_source_of⟩ := c.d.def_ 26 (d := d_law_source_of) rfl
  obtain ⟨fd_law_next, E_law_next⟩ := c.d.def_ 27 (d := d_law_next) rfl
  obtain ⟨fd_law_one, E_law_one⟩ := c.d.def_ 28 (d := d_law_one) rfl
  obtain ⟨fd_law_mixed, E_law_mixed⟩ := c.d.def_ 29 (d := d_law_mixed) rfl
  obtain ⟨fd_law_operations, E_law_operations⟩ := c.d.def_ 30 (d := d_law_operations) rfl
  obtain ⟨fd_law_rows, E_law_rows⟩ := c.d.def_ 31 (d := d_law_rows) rfl
  obtain ⟨fd_law_operations_line, E_law_operations_line⟩ := c.d.def_ 32 (d := d_law_operations_line) rfl
  obtain ⟨fd_law_row_line, E_law_row_line⟩ := c.d.def_ 33 (d := d_law_row_line) rfl
  obtain ⟨fd_law_body_lines, E_law_body_lines⟩ := c.d.def_ 34 (d := d_law_body_lines) rfl
  obtain ⟨fd_law_joined, E_law_joined⟩ := c.d.def_ 35 (d := d_law_joined) rfl
  obtain ⟨fd_law_said, E_law_said⟩ := c.d.def_ 36 (d := d_law_said) rfl
  obtain ⟨fd_law_bad_line, E_law_bad_line⟩ := c.d.def_ 37 (d := d_law_bad_line) rfl
  obtain ⟨fd_law_right, E_law_right⟩ := c.d.def_ 38 (d := d_law_right) rfl
  obtain ⟨fd_law, E_law⟩ := c.d.def_ 39 (d := d_law) rfl
  obtain ⟨fdM, E_FM⟩ := c.d.def_ 40 (d := d_FM) rfl
  obtain ⟨fdR, E_FCR⟩ := c.d.def_ 41 (d := d_FCR) rfl
  obtain ⟨fdSt, E_FCS⟩ := c.d.def_ 42 (d := d_FCS) rfl
  obtain ⟨fdT, E_FCT⟩ := c.d.def_ 43 (d := d_FCT) rfl
  obtain ⟨fdB, E_FB⟩ := c.d.def_ 44 (d := d_FB) rfl
  obtain ⟨tL, e_tL⟩ := nsStr (c.d.fact 2 (f := .str "LETTERS" lettersS) rfl)
  obtain ⟨tF, e_tF⟩ := nsStr (c.d.fact 3 (f := .str "FIGURES" figS) rfl)
  obtain ⟨t1, e_t1⟩ := nsInt (c.d.fact 4 (f := .int "LONGEST_NAME" 8) rfl)
  obtain ⟨t2, e_t2⟩ := nsInt (c.d.fact 5 (f := .int "MOST_OPERATIONS" 8) rfl)
  obtain ⟨t3, e_t3⟩ := nsInt (c.d.fact 6 (f := .int "MOST_ANSWERS" 6) rfl)
  obtain ⟨t4, e_t4⟩ := nsInt (c.d.fact 7 (f := .int "MOST_ROWS" 400) rfl)
  obtain ⟨t5, e_t5⟩ := nsInt (c.d.fact 8 (f := .int "MOST_FIGURES" 30) rfl)
  obtain ⟨⟨oc, od, dV, kV, doc, pm, an, cdv, ct, osl, eB, lB, cB, hdB, hkB⟩, kpB⟩ := id E_FB
  have zD : dV = .none := hdB.elim (·.2) fun z => absurd rfl z.1
  subst zD
  obtain ⟨DK, rfl, hst⟩ := hkB.resolve_left (fun z => nomatch z)
  exact all_mk X G hfa (show PySem.W.nsIn K mainGlobals "is_integer" = some (some (.ref (He.ga K "is_integer"))) from of_decide_eq_true (gx 0 rfl))
    (fun_of E_is_integer)
    (show PySem.W.nsIn K mainGlobals "is_within" = some (some (.ref (He.ga K "is_within"))) from of_decide_eq_true (gx 1 rfl))
    (fun_of E_is_within)
    (show PySem.W.nsIn K mainGlobals "is_index" = some (some (.ref (He.ga K "is_index"))) from of_decide_eq_true (gx 2 rfl))
    (fun_of E_is_index)
    (show PySem.W.nsIn K mainGlobals "is_row" = some (some (.ref (He.ga K "is_row"))) from of_decide_eq_true (gx 3 rfl))
    (fun_of E_is_row)
    (show PySem.W.nsIn K mainGlobals "is_name" = some (some (.ref (He.ga K "is_name"))) from of_decide_eq_true (gx 4 rfl))
    (fun_of E_is_name)
    (show PySem.W.nsIn K mainGlobals "is_text_in" = some (some (.ref (He.ga K "is_text_in"))) from of_decide_eq_true (gx 5 rfl))
    (fun_of E_is_text_in)
    (show PySem.W.nsIn K mainGlobals "are_counts" = some (some (.ref (He.ga K "are_counts"))) from of_decide_eq_true (gx 6 rfl))
    (fun_of E_are_counts)
    (show PySem.W.nsIn K mainGlobals "are_operations" = some (some (.ref (He.ga K "are_operations"))) from of_decide_eq_true (gx 7 rfl))
    (fun_of E_are_operations)
    (show PySem.W.nsIn K mainGlobals "in_order" = some (some (.ref (He.ga K "in_order"))) from of_decide_eq_true (gx 8 rfl))
    (fun_of E_in_order)
    (show PySem.W.nsIn K mainGlobals "word_of" = some (some (.ref (He.ga K "word_of"))) from of_decide_eq_true (gx 9 rfl))
    (fun_of E_word_of)
    (show PySem.W.nsIn K mainGlobals "are_nexts" = some (some (.ref (He.ga K "are_nexts"))) from of_decide_eq_true (gx 10 rfl))
    (fun_of E_are_nexts)
    (show PySem.W.nsIn K mainGlobals "stops_of" = some (some (.ref (He.ga K "stops_of"))) from of_decide_eq_true (gx 11 rfl))
    (fun_of E_stops_of)
    (show PySem.W.nsIn K mainGlobals "rest_of" = some (some (.ref (He.ga K "rest_of"))) from of_decide_eq_true (gx 12 rfl))
    (fun_of E_rest_of)
    (show PySem.W.nsIn K mainGlobals "rests_from" = some (some (.ref (He.ga K "rests_from"))) from of_decide_eq_true (gx 13 rfl))
    (fun_of E_rests_from)
    (show PySem.W.nsIn K mainGlobals "nexts_of" = some (some (.ref (He.ga K "nexts_of"))) from of_decide_eq_true (gx 14 rfl))
    (fun_of E_nexts_of)
    (show PySem.W.nsIn K mainGlobals "firsts_of" = some (some (.ref (He.ga K "firsts_of"))) from of_decide_eq_true (gx 15 rfl))
    (fun_of E_firsts_of)
    (show PySem.W.nsIn K mainGlobals "lines_read" = some (some (.ref (He.ga K "lines_read"))) from of_decide_eq_true (gx 16 rfl))
    (fun_of E_lines_read)
    (show PySem.W.nsIn K mainGlobals "is_line" = some (some (.ref (He.ga K "is_line"))) from of_decide_eq_true (gx 17 rfl))
    (fun_of E_is_line)
    (show PySem.W.nsIn K mainGlobals "line_of" = some (some (.ref (He.ga K "line_of"))) from of_decide_eq_true (gx 18 rfl))
    (fun_of E_line_of)
    (show PySem.W.nsIn K mainGlobals "read_body" = some (some (.ref (He.ga K "read_body"))) from of_decide_eq_true (gx 19 rfl))
    (funC_of (p := ("read_body", none)) E_read_body)
    (show PySem.W.nsIn K mainGlobals "lines_of" = some (some (.ref (He.ga K "lines_of"))) from of_decide_eq_true (gx 20 rfl))
    (fun_of E_lines_of)
    (show PySem.W.nsIn K mainGlobals "told_at" = some (some (.ref (He.ga K "told_at"))) from of_decide_eq_true (gx 21 rfl))
    (fun_of E_told_at)
    (show PySem.W.nsIn K mainGlobals "counts_told" = some (some (.ref (He.ga K "counts_told"))) from of_decide_eq_true (gx 22 rfl))
    (fun_of E_counts_told)
    (show PySem.W.nsIn K mainGlobals "is_number" = some (some (.ref (He.ga K "is_number"))) from of_decide_eq_true (gx 23 rfl))
    (fun_of E_is_number)
    (show PySem.W.nsIn K mainGlobals "number_of_start" = some (some (.ref (He.ga K "number_of_start"))) from of_decide_eq_true (gx 24 rfl))
    (fun_of E_number_of_start)
    (show PySem.W.nsIn K mainGlobals "row_told" = some (some (.ref (He.ga K "row_told"))) from of_decide_eq_true (gx 25 rfl))
    (fun_of E_row_told)
    (show PySem.W.nsIn K mainGlobals "_law_source_of" = some (some (.ref (He.ga K "_law_source_of"))) from of_decide_eq_true (gx 26 rfl))
    (fun_of E_law_source_of)
    (show PySem.W.nsIn K mainGlobals "_law_next" = some (some (.ref (He.ga K "_law_next"))) from of_decide_eq_true (gx 27 rfl))
    (fun_of E_law_next)
    (show PySem.W.nsIn K mainGlobals "_law_one" = some (some (.ref (He.ga K "_law_one"))) from of_decide_eq_true (gx 28 rfl))
    (fun_of E_law_one)
    (show PySem.W.nsIn K mainGlobals "_law_mixed" = some (some (.ref (He.ga K "_law_mixed"))) from of_decide_eq_true (gx 29 rfl))
    (fun_of E_law_mixed)
    (show PySem.W.nsIn K mainGlobals "_law_operations" = some (some (.ref (He.ga K "_law_operations"))) from of_decide_eq_true (gx 30 rfl))
    (fun_of E_law_operations)
    (show PySem.W.nsIn K mainGlobals "_law_rows" = some (some (.ref (He.ga K "_law_rows"))) from of_decide_eq_true (gx 31 rfl))
    (fun_of E_law_rows)
    (show PySem.W.nsIn K mainGlobals "_law_operations_line" = some (some (.ref (He.ga K "_law_operations_line"))) from of_decide_eq_true (gx 32 rfl))
    (fun_of E_law_operations_line)
    (show PySem.W.nsIn K mainGlobals "_law_row_line" = some (some (.ref (He.ga K "_law_row_line"))) from of_decide_eq_true (gx 33 rfl))
    (fun_of E_law_row_line)
    (show PySem.W.nsIn K mainGlobals "_law_body_lines" = some (some (.ref (He.ga K "_law_body_lines"))) from of_decide_eq_true (gx 34 rfl))
    (fun_of E_law_body_lines)
    (show PySem.W.nsIn K mainGlobals "_law_joined" = some (some (.ref (He.ga K "_law_joined"))) from of_decide_eq_true (gx 35 rfl))
    (fun_of E_law_joined)
    (show PySem.W.nsIn K mainGlobals "_law_said" = some (some (.ref (He.ga K "_law_said"))) from of_decide_eq_true (gx 36 rfl))
    (fun_of E_law_said)
    (show PySem.W.nsIn K mainGlobals "_law_bad_line" = some (some (.ref (He.ga K "_law_bad_line"))) from of_decide_eq_true (gx 37 rfl))
    (fun_of E_law_bad_line)
    (show PySem.W.nsIn K mainGlobals "_law_right" = some (some (.ref (He.ga K "_law_right"))) from of_decide_eq_true (gx 38 rfl))
    (fun_of E_law_right)
    (show PySem.W.nsIn K mainGlobals "law" = some (some (.ref (He.ga K "law"))) from of_decide_eq_true (gx 39 rfl))
    (fun_of E_law)
    ⟨rawX_ok (gx 40 rfl), (show PySem.W.findIn K (.ref (He.ga K "BadOperations")) "__getattribute__" = some (some (.builtin "BaseException.__getattribute__")) from of_decide_eq_true (gx 41 rfl)), (show PySem.W.findIn K (.ref (He.ga K "BadOperations")) "__getattr__" = some none from of_decide_eq_true (gx 42 rfl)), (show PySem.W.findIn K (.ref (He.ga K "BadOperations")) "__class__" = some (some (.builtin "object.__class__")) from of_decide_eq_true (gx 43 rfl)), (show PySem.W.findIn K (.ref (He.ga K "BadOperations")) "__setattr__" = some (some (.builtin "object.__setattr__")) from of_decide_eq_true (gx 44 rfl)), (show PySem.W.typeIn K (.ref (He.ga K "BadOperations")) = some (.type "type") from of_decide_eq_true (gx 45 rfl)), (gx 46 rfl), (gx 47 rfl)⟩
    ⟨rawX_ok (gx 48 rfl), (show PySem.W.findIn K (.ref (He.ga K "BadBody")) "__getattribute__" = some (some (.builtin "BaseException.__getattribute__")) from of_decide_eq_true (gx 49 rfl)), (show PySem.W.findIn K (.ref (He.ga K "BadBody")) "__getattr__" = some none from of_decide_eq_true (gx 50 rfl)), (show PySem.W.findIn K (.ref (He.ga K "BadBody")) "__class__" = some (some (.builtin "object.__class__")) from of_decide_eq_true (gx 51 rfl)), (show PySem.W.findIn K (.ref (He.ga K "BadBody")) "__setattr__" = some (some (.builtin "object.__setattr__")) from of_decide_eq_true (gx 52 rfl)), (show PySem.W.typeIn K (.ref (He.ga K "BadBody")) = some (.type "type") from of_decide_eq_true (gx 53 rfl)), (gx 54 rfl), (gx 55 rfl)⟩
    ⟨rawX_ok (gx 56 rfl), (show PySem.W.findIn K (.ref (He.ga K "BadStart")) "__getattribute__" = some (some (.builtin "BaseException.__getattribute__")) from of_decide_eq_true (gx 57 rfl)), (show PySem.W.findIn K (.ref (He.ga K "BadStart")) "__getattr__" = some none from of_decide_eq_true (gx 58 rfl)), (show PySem.W.findIn K (.ref (He.ga K "BadStart")) "__class__" = some (some (.builtin "object.__class__")) from of_decide_eq_true (gx 59 rfl)), (show PySem.W.findIn K (.ref (He.ga K "BadStart")) "__setattr__" = some (some (.builtin "object.__setattr__")) from of_decide_eq_true (gx 60 rfl)), (show PySem.W.typeIn K (.ref (He.ga K "BadStart")) = some (.type "type") from of_decide_eq_true (gx 61 rfl)), (gx 62 rfl), (gx 63 rfl)⟩
    ⟨rawX_ok (gx 64 rfl), (show PySem.W.findIn K (.ref (He.ga K "NoText")) "__getattribute__" = some (some (.builtin "BaseException.__getattribute__")) from of_decide_eq_true (gx 65 rfl)), (show PySem.W.findIn K (.ref (He.ga K "NoText")) "__getattr__" = some none from of_decide_eq_true (gx 66 rfl)), (show PySem.W.findIn K (.ref (He.ga K "NoText")) "__class__" = some (some (.builtin "object.__class__")) from of_decide_eq_true (gx 67 rfl)), (show PySem.W.findIn K (.ref (He.ga K "NoText")) "__setattr__" = some (some (.builtin "object.__setattr__")) from of_decide_eq_true (gx 68 rfl)), (show PySem.W.typeIn K (.ref (He.ga K "NoText")) = some (.type "type") from of_decide_eq_true (gx 69 rfl)), (gx 70 rfl), (gx 71 rfl)⟩
    (show PySem.W.findIn K (.ref (He.ga K "BadBody")) "__init__" = some (some (.ref (He.ma K (He.ga K "BadBody") "__init__"))) from of_decide_eq_true (gx 72 rfl))
    (show PySem.W.typeIn K (.ref (He.ma K (He.ga K "BadBody") "__init__")) = some (.type "function") from of_decide_eq_true (gx 73 rfl))
    (show PySem.W.findIn K (.ref (He.ga K "BadBody")) "index" = some none from of_decide_eq_true (gx 74 rfl))
    (fun_of E_FCR)
    (show PySem.W.findIn K (.ref (He.ga K "BadStart")) "__init__" = some (some (.ref (He.ma K (He.ga K "BadStart") "__init__"))) from of_decide_eq_true (gx 75 rfl))
    (show PySem.W.typeIn K (.ref (He.ma K (He.ga K "BadStart") "__init__")) = some (.type "function") from of_decide_eq_true (gx 76 rfl))
    (show PySem.W.findIn K (.ref (He.ga K "BadStart")) "index" = some none from of_decide_eq_true (gx 77 rfl))
    (fun_of E_FCS)
    (show PySem.W.findIn K (.ref (He.ga K "NoText")) "__init__" = some (some (.ref (He.ma K (He.ga K "NoText") "__init__"))) from of_decide_eq_true (gx 78 rfl))
    (show PySem.W.typeIn K (.ref (He.ma K (He.ga K "NoText") "__init__")) = some (.type "function") from of_decide_eq_true (gx 79 rfl))
    (show PySem.W.findIn K (.ref (He.ga K "NoText")) "line" = some none from of_decide_eq_true (gx 80 rfl))
    (fun_of E_FCT)
    (gx 81 rfl)
    (show PySem.W.subIn K (.ref (He.ga K "BadOperations")) (.type "BaseException") = some true from of_decide_eq_true (gx 82 rfl))
    (show PySem.W.subIn K (.ref (He.ga K "BadOperations")) (.ref (He.ga K "BadBody")) = some false from of_decide_eq_true (gx 83 rfl))
    (show PySem.W.subIn K (.ref (He.ga K "BadOperations")) (.ref (He.ga K "BadStart")) = some false from of_decide_eq_true (gx 84 rfl))
    (show PySem.W.subIn K (.ref (He.ga K "BadOperations")) (.ref (He.ga K "NoText")) = some false from of_decide_eq_true (gx 85 rfl))
    (show PySem.W.subIn K (.ref (He.ga K "BadBody")) (.ref (He.ga K "BadOperations")) = some false from of_decide_eq_true (gx 86 rfl))
    (show PySem.W.subIn K (.ref (He.ga K "BadBody")) (.ref (He.ga K "BadStart")) = some false from of_decide_eq_true (gx 87 rfl))
    (show PySem.W.subIn K (.ref (He.ga K "BadBody")) (.ref (He.ga K "NoText")) = some false from of_decide_eq_true (gx 88 rfl))
    (show PySem.W.subIn K (.ref (He.ga K "BadStart")) (.ref (He.ga K "BadOperations")) = some false from of_decide_eq_true (gx 89 rfl))
    (show PySem.W.subIn K (.ref (He.ga K "BadStart")) (.ref (He.ga K "BadBody")) = some false from of_decide_eq_true (gx 90 rfl))
    (show PySem.W.subIn K (.ref (He.ga K "BadStart")) (.ref (He.ga K "NoText")) = some false from of_decide_eq_true (gx 91 rfl))
    (show PySem.W.subIn K (.ref (He.ga K "NoText")) (.ref (He.ga K "BadOperations")) = some false from of_decide_eq_true (gx 92 rfl))
    (show PySem.W.subIn K (.ref (He.ga K "NoText")) (.ref (He.ga K "BadBody")) = some false from of_decide_eq_true (gx 93 rfl))
    (show PySem.W.subIn K (.ref (He.ga K "NoText")) (.ref (He.ga K "BadStart")) = some false from of_decide_eq_true (gx 94 rfl))
    (of_decide_eq_true (gx 95 rfl))
    (show PySem.W.subIn K (.ref (He.ga K "AskError")) (.type "BaseException") = some true from of_decide_eq_true (gx 96 rfl))
    (gx 97 rfl)
    (show PySem.W.typeIn K (.ref (He.ga K "AskError")) = some (.type "type") from of_decide_eq_true (gx 98 rfl))
    (show PySem.W.nsIn K mainGlobals "AskError" = some (some (.ref (He.ga K "AskError"))) from of_decide_eq_true (gx 99 rfl))
    (show PySem.W.nsIn K mainGlobals "Body" = some (some (.ref (He.ga K "Body"))) from of_decide_eq_true (gx 100 rfl))
    (show PySem.W.nsIn K mainGlobals "Machine" = some (some (.ref (He.ga K "Machine"))) from of_decide_eq_true (gx 101 rfl))
    (show PySem.W.nsIn K mainGlobals "BadOperations" = some (some (.ref (He.ga K "BadOperations"))) from of_decide_eq_true (gx 102 rfl))
    (show PySem.W.nsIn K mainGlobals "BadBody" = some (some (.ref (He.ga K "BadBody"))) from of_decide_eq_true (gx 103 rfl))
    (show PySem.W.nsIn K mainGlobals "BadStart" = some (some (.ref (He.ga K "BadStart"))) from of_decide_eq_true (gx 104 rfl))
    (show PySem.W.nsIn K mainGlobals "NoText" = some (some (.ref (He.ga K "NoText"))) from of_decide_eq_true (gx 105 rfl))
    (show PySem.W.specialIn K (.builtin "object.__class__") "__get__" = some (some (.builtin "getset_descriptor.__get__")) from of_decide_eq_true (gx 106 rfl))
    (show PySem.W.takesIn K (.builtin "object.__class__") = some true from of_decide_eq_true (gx 107 rfl))
    (He.cls_ok (c.d.fact 0 (f := .cls "Body") rfl))
    (gx 108 rfl)
    (show PySem.W.findIn K (.ref (He.ga K "Body")) "__init__" = some (some (.ref (He.ma K (He.ga K "Body") "__init__"))) from of_decide_eq_true (gx 109 rfl))
    (gx 110 rfl)
    (gx 111 rfl)
    (He.cls_ok (c.d.fact 1 (f := .cls "Machine") rfl))
    (gx 112 rfl)
    (show PySem.W.findIn K (.ref (He.ga K "Machine")) "__init__" = some (some (.ref (He.ma K (He.ga K "Machine") "__init__"))) from of_decide_eq_true (gx 113 rfl))
    (gx 114 rfl)
    (gx 115 rfl)
    (fun_of E_FM)
    ⟨oc, od, doc, pm, an, cdv, ct, osl, eB, lB, cB⟩
    E_FB.kp
    (show PySem.W.findIn K (.ref (He.ga K "Machine")) "counts" = some none from of_decide_eq_true (gx 116 rfl))
    (show PySem.W.findIn K (.ref (He.ga K "Machine")) "lines" = some none from of_decide_eq_true (gx 117 rfl))
    (show PySem.W.findIn K (.ref (He.ga K "Machine")) "begin" = some none from of_decide_eq_true (gx 118 rfl))
    (show PySem.W.findIn K (.ref (He.ga K "Machine")) "stops" = some none from of_decide_eq_true (gx 119 rfl))
    (show PySem.W.findIn K (.ref (He.ga K "Machine")) "asks" = some none from of_decide_eq_true (gx 120 rfl))
    (show PySem.W.findIn K (.ref (He.ga K "Machine")) "endings" = some none from of_decide_eq_true (gx 121 rfl))
    (show PySem.W.findIn K (.ref (He.ga K "Machine")) "endless" = some none from of_decide_eq_true (gx 122 rfl))
    (show PySem.W.findIn K (.ref (He.ga K "Body")) "machine" = some none from of_decide_eq_true (gx 123 rfl))
    (c.hd _ List.mem_cons_self)
    (c.out _ List.mem_cons_self)
    (show PySem.W.nsIn K mainGlobals "int" = some none from of_decide_eq_true (gx 124 rfl))
    (show PySem.W.nsIn K mainGlobals "isinstance" = some none from of_decide_eq_true (gx 125 rfl))
    (show PySem.W.nsIn K mainGlobals "bool" = some none from of_decide_eq_true (gx 126 rfl))
    (show PySem.W.nsIn K mainGlobals "str" = some none from of_decide_eq_true (gx 127 rfl))
    (show PySem.W.nsIn K mainGlobals "list" = some none from of_decide_eq_true (gx 128 rfl))
    (show PySem.W.nsIn K mainGlobals "tuple" = some none from of_decide_eq_true (gx 129 rfl))
    (show PySem.W.nsIn K mainGlobals "dict" = some none from of_decide_eq_true (gx 130 rfl))
    (show PySem.W.nsIn K mainGlobals "len" = some none from of_decide_eq_true (gx 131 rfl))
    (show PySem.W.nsIn K mainGlobals "all" = some none from of_decide_eq_true (gx 132 rfl))
    (show PySem.W.nsIn K mainGlobals "range" = some none from of_decide_eq_true (gx 133 rfl))
    (show PySem.W.nsIn K mainGlobals "sorted" = some none from of_decide_eq_true (gx 134 rfl))
    (show PySem.W.nsIn K mainGlobals "min" = some none from of_decide_eq_true (gx 135 rfl))
    (show PySem.W.nsIn K mainGlobals "enumerate" = some none from of_decide_eq_true (gx 136 rfl))
    e_tL
    e_tF
    e_t1
    e_t2
    e_t3
    e_t4
    e_t5
    (c.empty _ List.mem_cons_self)
end Mine

set_option maxRecDepth 100000
set_option maxHeartbeats 4000000
namespace Mine
theorem runL (w : PySem.World) : HandSHeadRun.RunEq Rw (PySem.W.view Rw.prog [62]) hkL obL 9000 looseL w := by
  intro os
  kernel_rfl
end Mine
open PySem PySem.W PySem.Calls PyProof.Rows
set_option maxHeartbeats 0 in
theorem PySem.Challenge.cw_askfurther_k36_texts_that_are_no_bodies_holds : PySem.Challenge.rw_askfurther_k36_texts_that_are_no_bodies.Holds := by
  w_on; o_law
  refine HandSHeadRun.head_any (r := OpenLaw.row PySem.Challenge.rw_askfurther_k36_texts_that_are_no_bodies) (q := view (OpenLaw.row PySem.Challenge.rw_askfurther_k36_texts_that_are_no_bodies).prog [62]) (H := Mine.hkL) (ob := Mine.obL) (M := 9000) (loose := Mine.looseL) (d := HandSHeadRun.topDef (OpenLaw.row PySem.Challenge.rw_askfurther_k36_texts_that_are_no_bodies).prog 62) (kwd := []) Mine.obL_eq
    (by kernel_rfl) (fun s => by kernel_rfl) Mine.runL (by kernel_rfl) (by kernel_rfl) (by kernel_rfl) (by rfl) (by first | assumption | decide +kernel) (by decide +kernel) ⟨rfl, rfl, rfl, rfl, rfl, by decide +kernel⟩ ?hw ?hc
  case hw => w_witness2
  case hc =>
    refine LamX.walk_ofTsE (l := PySem.Challenge.rw_askfurther_k36_texts_that_are_no_bodies) (n := 63) (k := 12) (x := "_law_script") (CX := fun _ => L2.CX0) rfl (by decide) (by kernel_rfl) ⟨rfl, by decide, by decide⟩ ?F (fun _ _ _ _ _ z => z)
    intro w mg fa h Y G hmg0
    obtain ⟨K, KX, c⟩ := Y
    have hmg : mg ("law" : PySem.Str) = some (.ref fa) := by
      have e : (HandSHeadRun.topDef (OpenLaw.row PySem.Challenge.rw_askfurther_k36_texts_that_are_no_bodies).prog 62).name = ("law" : PySem.Str) := by kernel_rfl
      rw [← e]
      exact hmg0
    exact ⟨K, KX, Mine.allL KX G hmg c⟩
