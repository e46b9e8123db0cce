import PyProof.Rows.All
import Wide.All
import OpenK.AllK
import Wide.FinOn
import HandS.ForMost
import HandS.Exc
import HandS.ExcInit
import HandS.ExcIs
import HandS.IsInst
import HandS.Wide
import HandS.Defaults
import HandS.ExcValue
import HandS.ExcOwn
import HandS.Ends
import HandS.Base
import PyProof.EnumMake
import KE.GoesMore
import KE.GoesEnum
import HandS.OwnEq
import HandS.Property
import PyProof.InstNe
import HandS.Dict
import HandS.Conv
import HandS.NoneIn
import HandS.Small
import HandS.Strs
import HandS.SetFor
import HandS.DictComp
import HandS.Walk
import HandS.TupAny
import HandS.Zip
import HandS.SetKeys
import HandS.Style
import HandS.WordsExc
import HandS.ExcField
import HandS.Deep
import HandS.MakeKwOnly
import PySem.Challenge.RW_askfurther_k03_whole_what_bodies_show
set_option Elab.async false
set_option linter.all false
set_option maxRecDepth 100000
set_option maxHeartbeats 4000000
/-! Own error classes over ValueError, made as values: with keywords, without an own __init__; what isinstance says of them; their fields. -/
namespace PySem
namespace ExoX
open PySem.HandSPX
open Builtin Builtin.ObjectAttr
section
variable {prog : Program} {w : World} {A : Around} {R : Result → Shared → Prop} {Er : Value → Shared → Prop}
variable {hp : Heap} {gs : Array GenState} {dr : Drawn} {tk : Nat} {os : OsState} {kw : List (Str × Value)} {rs : List Value}
variable {nm qn : Str} {Cl Nm : Addr} {bss bm bB sb : List Value} {hd ab : Bool} {sl : List Str} {cl : Option Bool} {dd : Option Addr} {y0 y1 y2 y3 y5 : Option Value} {Bs nI iI : String}
abbrev cobj (nm qn : Str) (Cl Nm : Addr) (bss bm : List Value) (hd : Bool) (sl : List Str) (sb : List Value) (ab : Bool) (cl : Option Bool) (dd : Option Addr) (y0 y1 y2 y3 y5 : Option Value) (nI : String) : Obj :=
  excClassObj nm qn Cl Nm bss bm hd sl sb ab cl dd y0 y1 y2 y3 y5 nI
/-- the check ahead of __new__, with keywords -/
theorem checkNewKw (F : ExcBaseFacts Bs nI iI bB) (hc : ∀ T : String, bm.contains (.type T) = bB.contains (.type T)) {Q : Unit → Shared → Prop}
    (ho : hp.get? Cl = some (cobj nm qn Cl Nm bss bm hd sl sb ab cl dd y0 y1 y2 y3 y5 nI)) (q : Q () ⟨hp, gs, dr, tk, os⟩) :
    wpAny (model prog w) A (checkBuiltinCall nI ⟨.ref Cl :: rs, kw⟩) Q Er ⟨hp, gs, dr, tk, os⟩ := by
  have c1 : (Value.ref Cl :: bm).contains (.type Bs) = true := by
    rw [List.contains_cons, hc, F.hasB, Bool.or_true]
  have c2 := F.noStar
  simp only [checkBuiltinCall, F.newKind, F.newSplit, F.newRow]
  repeat (first
    | refine wpAny_loadPart_at ho ?_
    | (refine wpAny_isSubtype_exc ho ?_; rw [c1])
    | refine wpAny_staticBase_exc ho ?_
    | refine wpAny_madeBy_exc ho ?_
    | simp only [bne_self_eq_false, Bool.false_eq_true, if_false]
    | wp_step)
  exact q
end
section
variable {prog : Program} {w : World} {A : Around} {R : Result → Shared → Prop} {Er : Value → Shared → Prop}
variable {hp : Heap} {gs : Array GenState} {dr : Drawn} {tk : Nat} {os : OsState} {kw : List (Str × Value)} {rs : List Value}
variable {nm qn : Str} {Cl Nm fI : Addr} {bss bm bB sb : List Value} {hd ab : Bool} {sl : List Str} {cl : Option Bool} {dd : Option Addr} {y0 y1 y2 y3 y5 : Option Value} {Bs nI iI : String}
/-- the two objects that __new__ lays -/
abbrev laid (hp : Heap) (rs : List Value) (Cl : Addr) : Heap := (hp.push (PySem.W.kdv_tup rs)).push (excO Cl hp.objs.size)
theorem newKw (F : ExcBaseFacts Bs nI iI bB) (hc : ∀ T : String, bm.contains (.type T) = bB.contains (.type T))
    (ho : hp.get? Cl = some (cobj nm qn Cl Nm bss bm hd sl sb ab cl dd y0 y1 y2 y3 y5 nI)) (hl : rs.length ≤ sizeLine)
    (q : R (.ok (.ret (.ref (hp.objs.size + 1)))) ⟨laid hp rs Cl, gs, dr, tk, os⟩) :
    codeAny (model prog w) A (.builtin nI ⟨.ref Cl :: rs, kw⟩) R ⟨hp, gs, dr, tk, os⟩ := by
  have c0 := F.ends
  have c1 : (Value.ref Cl :: bm).contains (.type Bs) = true := by
    rw [List.contains_cons, hc, F.hasB, Bool.or_true]
  have c2 : (Value.ref Cl :: bm).contains (.type "AttributeError") = false := by
    rw [List.contains_cons, hc, F.noAttr]
    rfl
  have c3 : (Value.ref Cl :: bm).contains (.type "NameError") = false := by
    rw [List.contains_cons, hc, F.noName]
    rfl
  refine codeAny_builtinAt F.entry ?_
  unfold Builtin.«BaseException.__new__»
  refine wpAt_bind ?_
  show wpAt _ _ _ (stack >>= _) _ _ _
  refine wpAt_bind (wpAt_stack fun p below => wpAt_of_wpAny ?_)
  wp_walk
  refine wpAt_of_wpAny ?_
  rw [F.owner]
  repeat (first
    | with_reducible refine wpAny_madeHere_exc F.canon ho ?_
    | with_reducible refine wpAny_loadPart_at ho ?_
    | (with_reducible refine wpAny_isSubtype_exc ho ?_; first | rw [c1] | rw [c2] | rw [c3])
    | wp_step)
  show R _ _
  rw [Heap.size_push]
  exact q
theorem typeCallKw (F : ExcBaseFacts Bs nI iI bB) (hc : ∀ T : String, bm.contains (.type T) = bB.contains (.type T)) {Q : Fin → Shared → Prop}
    (ho : hp.get? Cl = some (cobj nm qn Cl Nm bss bm hd sl sb ab cl dd y0 y1 y2 y3 y5 nI))
    (li : PySem.W.Looks (model prog w) hp (typeLookup (.ref Cl) "__init__") (some (.ref fI)))
    (lb : ∀ self, PySem.W.Looks (model prog w) hp (bindSpecial (.ref fI) self) (.ref fI, [self])) (hl : rs.length ≤ sizeLine)
    (q : codeAny (model prog w) A (.call (.ref fI) ⟨.ref (hp.objs.size + 1) :: rs, kw⟩)
      (fun r s' => match r with | .ok (.ret v) => v = .none ∧ Q (.done (.ret (.ref (hp.objs.size + 1)))) s' | .ok _ => False | .error e => Er e s')
      ⟨laid hp rs Cl, gs, dr, tk, os⟩) :
    wpAny (model prog w) A (Builtin.«type.__call__» ⟨.ref Cl :: rs, kw⟩) Q Er ⟨hp, gs, dr, tk, os⟩ := by
  repeat (first
    | with_reducible refine wpAny_loadPart_at ho ?_
    | with_reducible refine wpAny_madeBy_exc ho ?_
    | wp_step)
  refine codeAny_call_builtin_code (Code.quiet_builtin _ F.quiet) (checkNewKw F hc ho ?_)
  refine newKw F hc ho hl ?_
  show wpAny _ _ _ _ _ _
  have kp : ∀ b o, hp.get? b = some o → (laid hp rs Cl).get? b = some o := fun b o e =>
    Heap.get?_push_of_some _ (Heap.get?_push_of_some _ e)
  have ho1 := kp _ _ ho
  have hx : (laid hp rs Cl).get? (hp.objs.size + 1) = some (excO Cl hp.objs.size) := by heap_get
  have cc : (Value.ref Cl :: bm).contains (.ref Cl) = true := by simp
  have li1 := li.keeps kp
  have lb1 := (lb (.ref (hp.objs.size + 1))).keeps kp
  unfold isInstance
  repeat (first
    | with_reducible refine wpAny_loadPart_at hx ?_
    | (with_reducible refine wpAny_isSubtype_exc ho1 ?_; rw [cc])
    | wp_step)
  show wpAny _ _ (typeLookup (.ref Cl) _) _ _ _
  refine li1.at ?_
  refine wpAny_holding (wpAny_bind (lb1.at ?_))
  refine wpAny_bind (wpAny_call (codeAny_mono q fun r s' z => ?_))
  rcases r with e | (v | _ | _ | _) <;> first | exact z | exact z.elim | skip
  obtain ⟨rfl, z⟩ := z
  first
    | exact wpAny_pure (wpAny_pure z)
    | (wp_walk; exact z)
/-- C(.., k = v ..): the object is laid, then C's own __init__ runs -/
theorem callKw (F : ExcBaseFacts Bs nI iI bB) (hc : ∀ T : String, bm.contains (.type T) = bB.contains (.type T))
    (ho : hp.get? Cl = some (cobj nm qn Cl Nm bss bm hd sl sb ab cl dd y0 y1 y2 y3 y5 nI))
    (li : PySem.W.Looks (model prog w) hp (typeLookup (.ref Cl) "__init__") (some (.ref fI)))
    (lb : ∀ self, PySem.W.Looks (model prog w) hp (bindSpecial (.ref fI) self) (.ref fI, [self])) (hl : rs.length ≤ sizeLine)
    (q : codeAny (model prog w) (A.under (.builtin "type.__call__" ⟨.ref Cl :: rs, kw⟩)) (.call (.ref fI) ⟨.ref (hp.objs.size + 1) :: rs, kw⟩)
      (PySem.W.InitBack (hp.objs.size + 1) R) ⟨laid hp rs Cl, gs, dr, tk, os⟩) :
    codeAny (model prog w) A (.call (.ref Cl) ⟨rs, kw⟩) R ⟨hp, gs, dr, tk, os⟩ := by
  have f1 := tc_lookup
  have f2 := tc_bind (.ref Cl)
  have hty : (⟨hp, gs, dr, tk, os⟩ : Shared).TypeIs (.ref Cl) "type" := ⟨_, ho, rfl⟩
  refine codeAny_of_tree ?_
  show wpAny _ _ (callAny (.ref Cl) _) _ _ _
  repeat (any_goals (first
    | assumption
    | with_reducible refine wpAny_loadPart_at ho ?_
    | wp_step))
  refine ⟨rfl, ?_⟩
  refine codeAny_call_builtin_at (Code.quiet_builtin _ (by decide +kernel)) entry_typeCall (wpAny_check_type_call_sub ho (typeCallKw F hc ho li lb hl ?_))
  refine codeAny_mono q fun r s' z => ?_
  rcases r with e | (v | _ | _ | _) <;> exact z
end
end ExoX
end PySem

set_option maxRecDepth 100000
set_option maxHeartbeats 4000000
namespace L2
open PySem PySem.Spec PyProof.Rows
section
variable {X : Cx} {CX : CXT} {k n : Nat} {fI C : Addr} {fd : FuncData} {ps ks : List Str} {sp : Sp} {E : XK} {g : List Value → List Value → List Value} {gV : List V → List V → List V}
variable {pins : List (Addr × Obj)} {σ : St} {H : Hp} {s : Shared} {x : Str} {p pos : Pos} {e : Expr} {es : List Expr} {kws : List Keyword} {t tk : TA}
/-- the object is laid, C's own __init__ keeps sp -/
theorem run_exo {Q : VK} {us ws : List Value} {vs zs : List V} (T : OexC X.K C) (iC : PySem.W.findIn X.K (.ref C) "__init__" = some (some (.ref fI)))
    (tI : PySem.W.typeIn X.K (.ref fI) = some (.type "function")) (F : FnOk X.prog X.w X.K X.mg X.base CX k fI fd ps sp) (hr : Room (k + 1) X.A)
    (hb : KBn X.K fd ps (n + 1) ks g gV) (hx : Passes CX X E) (I : Inv X pins σ H s) (r : Vals vs us) (rz : Vals zs ws) (l1 : vs.length = n) (l2 : zs.length = ks.length) (l3 : n ≤ 1000)
    (h : ∀ a, H a = none → sp (gV (.ref a :: vs) zs) (upd H a (exo a C none)) (fun v H2 => v = .non ∧ Q (.ref a) H2) E) :
    wpAny (model X.prog X.w) X.A (call (.ref C) us (ks.zip ws)) (EP X pins σ Q) X.xe s := by
  obtain ⟨nm, q, N, bs, bm, sn, sub, ab, col, dd, k0, k1, k2, k3, k5, hC, hbm⟩ := T.cls
  obtain ⟨hp, gs, dr, t0, os⟩ := s
  have up : hp.objs.size ≤ hp.objs.size + 1 := Nat.le_succ _
  have hq := h (hp.objs.size + 1) (I.hok.fresh up)
  have kk : ∀ b o, hp.get? b = some o → (PySem.ExoX.laid hp us C).get? b = some o := fun b o z =>
    Heap.get?_push_of_some _ (Heap.get?_push_of_some _ z)
  have hg : (PySem.ExoX.laid hp us C).get? (hp.objs.size + 1) = some (PySem.HandSPX.excO C hp.objs.size) := by heap_get
  have I2 : Inv X pins σ (upd H (hp.objs.size + 1) (exo (hp.objs.size + 1) C none)) ⟨PySem.ExoX.laid hp us C, gs, dr, t0, os⟩ :=
    I.laid (t' := t0) (a := hp.objs.size + 1) (o := exo (hp.objs.size + 1) C none) (h' := PySem.ExoX.laid hp us C) kk up (exo_ok hg)
  have r1 : Vals (V.ref (hp.objs.size + 1) :: vs) (Value.ref (hp.objs.size + 1) :: us) := .cons rfl r
  have r2 := hb.rel r1 rz
  have e1 : (Value.ref (hp.objs.size + 1) :: us).length = n + 1 := r1.length.symm.trans (congrArg Nat.succ l1)
  have e2 : ws.length = ks.length := rz.length.symm.trans l2
  have hus : us.length ≤ sizeLine := by
    rw [← r.length, l1, sizeLine_eq]
    omega
  refine wpAny_call (PySem.ExoX.callKw PySem.F.excBase_ValueError (fun Y => PySem.HandSPX.refsVE_contains Y bm hbm) (I.kIn _ _ hC) (PySem.W.looks_findIn I.kIn iC) (fun self => PySem.W.bind_fn I.kIn self tI) hus ?_)
  refine codeAny_mono (F.run _ X.stack _ _ ⟨Value.ref (hp.objs.size + 1) :: us, ks.zip ws⟩ (g (Value.ref (hp.objs.size + 1) :: us) ws) _ _ E (hr.make C us (ks.zip ws)) (I2.env0.make C us (ks.zip ws)) (hb.to _ (Value.ref (hp.objs.size + 1) :: us) ws I2.kIn e1 e2) r2 hq) fun r s' hq' => ?_
  cases r with
  | error er => exact hx pins σ _ _ er s' I2 hq'
  | ok fl =>
    cases fl with
    | ret u =>
      obtain ⟨v, H', I3, rv, ev, q3⟩ := I2.after hq'
      subst ev
      exact ⟨rv, ⟨V.ref (hp.objs.size + 1), H', I3, rfl, q3⟩⟩
    | next => exact False.elim hq'
    | brk => exact False.elim hq'
    | cont => exact False.elim hq'
/-- C(e, .., k = v, ..) as a value -/
def tExoN (C : Addr) (n m : Nat) (sp : Sp) (gV : List V → List V → List V) (E : XK) (t tk : TA) : TE := fun σ H Q => t σ H fun vs H1 => tk σ H1 fun zs H2 => vs.length = n ∧ zs.length = m ∧
  ∀ a, H2 a = none → sp (gV (.ref a :: vs) zs) (upd H2 a (exo a C none)) (fun v H3 => v = .non ∧ Q (.ref a) H3) E
theorem pe_exo1 (T : OexC X.K C) (iC : PySem.W.findIn X.K (.ref C) "__init__" = some (some (.ref fI))) (tI : PySem.W.typeIn X.K (.ref fI) = some (.type "function"))
    (F : FnOk X.prog X.w X.K X.mg X.base CX k fI fd ps sp) (hr : Room (k + 1) X.A) (hg : Gl X x) (hm : X.mg x = some (.ref C)) (hb : KBn X.K fd ps (n + 1) [] g gV) (hx : Passes CX X E) (l3 : n ≤ 1000)
    (ha : PA X (e :: es) t) (hdb : (x == ("__debug__" : Str)) = false := by decide) (he : starEach (e :: es) X.env = (false, eval e X.env) :: starEach es X.env := by rfl)
    (hpl : (backTo pos (starEach es X.env)).any (·.1) = false := by rfl) :
    PE X (.Call (.Name x p) (e :: es) [] pos) (tExoN C n 0 sp gV E t tNil) := by
  refine ⟨fun pins s σ H Q I h => ?_⟩
  refine wpAny_Call_Name_kw (ld_glob I hg hm ?_ hdb)
  refine PySem.W.callWith_K (h₀ := X.base) I.ok.mod.kin T.kC (thn (ha.run pos pins s σ H _ I h) fun us s1 ⟨vs, H1, I1, r, l1, l2, q⟩ => ⟨I1.kIn, ?_⟩) he hpl
  exact run_exo (ks := []) (ws := []) (zs := []) T iC tI F hr hb hx I1 r .nil l1 rfl l3 q
/-- keywords alone -/
theorem pe_exoK (T : OexC X.K C) (iC : PySem.W.findIn X.K (.ref C) "__init__" = some (some (.ref fI))) (tI : PySem.W.typeIn X.K (.ref fI) = some (.type "function"))
    (F : FnOk X.prog X.w X.K X.mg X.base CX k fI fd ps sp) (hr : Room (k + 1) X.A) (hg : Gl X x) (hm : X.mg x = some (.ref C)) (hb : KBn X.K fd ps (0 + 1) ks g gV) (hx : Passes CX X E)
    (hkw : PK X kws tk) (hall : (backToKw pos (keywordEach kws X.env)).all (·.1.isSome) = true := by rfl) (hks : (backToKw pos (keywordEach kws X.env)).filterMap (·.1) = ks := by rfl)
    (hdb : (x == ("__debug__" : Str)) = false := by decide)
    (hpl : ((backTo pos (starEach [] X.env)).any (·.1) || (backToKw pos (keywordEach kws X.env)).any (·.1.isNone)) = false := by rfl) :
    PE X (.Call (.Name x p) [] kws pos) (tExoN C 0 ks.length sp gV E tNil tk) := by
  refine ⟨fun pins s σ H Q I h => ?_⟩
  refine wpAny_Call_Name_kw (ld_glob I hg hm ?_ hdb)
  refine PySem.W.callWith_KW0 (h₀ := X.base) I.ok.mod.kin T.kC hall (thn (hkw.run pos pins s σ H _ I h) fun ws s2 ⟨zs, H2, I2, rz, l1, l2, q2⟩ => ⟨I2.kIn, ?_⟩) hpl
  rw [hks]
  exact run_exo (us := []) (vs := []) T iC tI F hr hb hx I2 .nil rz l1 l2 (Nat.zero_le _) q2
/-- C(), a class without an own __init__ -/
def tExo0 (C : Addr) : TE := fun _ H Q => ∀ a, H a = none → Q (.ref a) (upd H a (exo a C none))
theorem pe_exo0 (q : PySem.W.excIn X.K C [.type "ValueError", .type "Exception", .type "BaseException", .type "object"] "ValueError.__new__" = true) (kC : PySem.W.keepIn X.K (.ref C) = true) (hg : Gl X x) (hm : X.mg x = some (.ref C))
    (hdb : (x == ("__debug__" : Str)) = false := by decide) : PE X (.Call (.Name x p) [] [] pos) (tExo0 C) := by
  refine ⟨fun pins s σ H Q I h => ?_⟩
  refine wpAny_Call_Name_kw (ld_glob I hg hm ?_ hdb)
  refine PySem.W.callWith_K0 I.kIn kC ?_
  show wpAny _ _ (call (.ref C) []) _ _ _
  obtain ⟨bm, N, nm, qn, bs, hdct, sn, sub, ab, col, dd, k0, k1, k2, k3, k5, mN, hC, hN, hni, T⟩ := exc_obj I.kIn q
  refine wpAny_call_exc_subT PySem.F.excBase_ValueError T hC hN hni (fun h' a hm => ?_) (by show 0 ≤ sizeLine; rw [sizeLine_eq]; omega)
  have hn : H a = none := I.hok.gone hm.new
  obtain ⟨t, ht, _, _⟩ := hm.there
  exact ⟨.ref a, upd H a (exo a C none), I.laidN hm.keeps hm.new hn (exo_ok ht), rfl, h a hn⟩
end
end L2

set_option maxRecDepth 100000
set_option maxHeartbeats 4000000
namespace PySem.ExoX
open PySem PySem.W PySem.Calls PyProof.Rows PySem.Spec
section
variable {prog : Program} {w : World} {A : Around} {Er : Value → Shared → Prop} {s : Shared} {K : Frag} {x D : Addr} {ob : Obj} {own : Option Obj}
/-- a class's own attribute that takes what is read off an instance, whatever the instance's dict holds -/
theorem find_data {nm : Str} {a g : Value} (c0 : (clsIn K D).isSome = true) (c1 : findIn K (.ref D) nm = some (some a)) (c2 : specialIn K a "__get__" = some (some g)) (c3 : takesIn K a = some true) :
    findObj K D own nm = some (.bind g a) := by
  obtain ⟨cd, c0⟩ := Option.isSome_iff_exists.mp c0
  unfold findObj
  rw [c0, Option.bind_some, c1, Option.bind_some]
  simp [c2, c3]
/-- e.__class__ of such an error, with or without a dict -/
theorem class_of {Q : Option Value → Shared → Prop} (T : L2.ExcC K D) (X : K.In s.heap) (I : InstAt s.heap x ob D own) (q : Q (some (.ref D)) { s with toks := s.toks + 1 }) :
    wpAny (model prog w) A (getAttr? (.ref x) "__class__") Q Er s := by
  have fd : findObj K D own "__class__" = some (.bind (.builtin "getset_descriptor.__get__") (.builtin "object.__class__")) :=
    find_data (by
      obtain ⟨cd, z, _⟩ := any_some T.hd
      rw [z]
      rfl) T.ha T.hn T.ht
  obtain ⟨hh, gg, dd, tt, oo⟩ := s
  have l0 := I.type (M := model prog w)
  have l1 := looks_findIn (M := model prog w) X T.hg
  have l2 := looks_findIn (M := model prog w) X T.hk
  have l3 := looks_find (M := model prog w) X I fd
  have l4 : Looks (model prog w) hh (isInstance (.ref x) (.type "BaseException")) true := l0.andThen (looks_subIn X T.hs)
  have n0 : (false && onTheHeap (Value.builtin "BaseException.__getattribute__")) = false := rfl
  have n2 : (Value.builtin "BaseException.__getattribute__" == Value.builtin "object.__getattribute__") = false := by
    decide +kernel
  have n1 : (onTheHeap (Value.ref D) && Value.builtin "BaseException.__getattribute__" == Value.builtin "object.__getattribute__") = false := by
    rw [n2]
    rfl
  unfold getAttr? getAttrBy? getAttrBy
  refine wpAny_bind (wpAny_mkText (wpAny_bind (wpAny_attempt (wpAny_holding (wpAny_bind (l0.at (wpAny_bind (l1.at ?_))))))))
  show wpAny _ _ (if (onTheHeap (Value.ref D) && Value.builtin "BaseException.__getattribute__" == Value.builtin "object.__getattribute__") = true then _ else _) _ _ _
  rw [n1, if_neg Bool.false_ne_true]
  unfold getAttrByItsOwn hookBefore
  refine wpAny_bind ?_
  rw [if_pos (show onTheHeap (Value.ref D) = true from rfl)]
  refine l2.at ?_
  refine wpAny_bind (wpAny_attempt (wpAny_holding ?_))
  unfold callGetattribute
  rw [n0, if_neg Bool.false_ne_true]
  unfold boundAndCalled
  rw [PySem.F.excAttr_ValueError.ga.bind (.ref x)]
  refine wpAny_bind (wpAny_pure ?_)
  show wpAny _ _ (call (.builtin "BaseException.__getattribute__") [.ref x, .str "__class__" tt]) _ _ _
  refine wpAny_call (codeAny_call_builtin PySem.F.excAttr_ValueError.ga.plain PySem.F.entry_bexc_ga ?_)
  refine @check_slot (model prog w) _ _ ⟨hh, gg, dd, tt + 1, oo⟩ "BaseException.__getattribute__" "BaseException" "__getattribute__" (.ref x) [.str "__class__" tt] [] _
    (by decide +kernel) (by decide +kernel) l4 (PySem.F.args_bexc_ga (.ref x) (.str "__class__" tt)) ?_
  unfold Builtin.«object.__getattribute__»
  refine wpAny_bind (wpAny_of_eq (a := ((Value.ref x : Value), [Value.str "__class__" tt])) (by first | rfl | (simp only [slotArgs]; rfl)) ?_)
  refine wpAny_bind (wpAny_pure (wpAny_bind (l0.at (wpAny_bind (l3.at ?_)))))
  show wpAny _ _ (holding [Value.builtin "object.__class__"] (call (.builtin "getset_descriptor.__get__") [.builtin "object.__class__", .ref x, .ref D]) >>= ret) _ _ _
  refine wpAny_bind (wpAny_holding (wpAny_call (class_get (s := ⟨hh, gg, dd, tt + 1, oo⟩) (ox := ob) (od := own) X I T.hm ?_)))
  refine wpAny_pure ?_
  show wpAny _ _ (handedOut (.ref D)) _ _ _
  rw [handedOut_of (v := .ref D) rfl]
  first
    | exact wpAny_pure (wpAny_pure q)
    | exact wpAny_pure q
    | exact wpAny_pure (wpAny_bind (wpAny_pure (wpAny_pure q)))
theorem kitExo (T : L2.ExcC K D) : KitX K (.ref x) (.ref D) (fun h => ∃ ob own, InstAt h x ob D own) where
  ty := fun _ _ _ ⟨_, _, I⟩ => I.type
  it := fun _ _ X _ => by
    obtain ⟨cd, z, _⟩ := any_some T.hd
    unfold clsIn at z
    split at z
    · rename_i c1 c2 c3 c4 lk
      intro A' Q' E' s' kp q
      unfold isType loadHead
      exact wpAny_bind (wpAny_loadPart (kp _ _ (X _ _ lk)) (wpAny_pure q))
    · cases z
  ne := fun h tp dd its n sl X lk2 => by
    obtain ⟨cd, z, _⟩ := any_some T.hd
    refine Bool.eq_false_iff.mpr fun q => ?_
    have e : D = tp := Value.ref.inj (beq_iff_eq.mp q)
    subst e
    unfold clsIn at z
    split at z
    · rename_i c1 c2 c3 c4 lk
      have y := (X _ _ lk).symm.trans lk2
      cases y
    · cases z
  ca := fun X ⟨_, _, I⟩ q => class_of T X I q
end
end PySem.ExoX
namespace L2
open PySem PySem.Spec PyProof.Rows
/-- an error of the class at C stands at a, with no dict or with its own -/
def ErrAt (H : Hp) (a C : Addr) : Prop := H a = some (exo a C none) ∨ ∃ dx fs, H a = some (exo a C (some dx)) ∧ H dx = some (exd dx fs)
theorem inst_exo {X : Cx} {pins : List (Addr × Obj)} {σ : St} {H : Hp} {s : Shared} {a C : Addr} (I : Inv X pins σ H s) (e : ErrAt H a C) : ∃ ob own, PySem.W.InstAt s.heap a ob C own := by
  rcases e with e | ⟨dx, fs, e, ed⟩
  · obtain ⟨t, ho⟩ := exo_at I.hok e
    exact ⟨_, none, ho, rfl, rfl, trivial⟩
  · obtain ⟨t, ho⟩ := exo_at I.hok e
    obtain ⟨mA, hns, _⟩ := exd_at I.hok ed
    obtain ⟨o, _, _, ho2, _⟩ := hns
    exact ⟨_, some o, ho, rfl, rfl, ho2⟩
def rIsExo (K : PySem.W.Frag) : List V → Hp → VK → Prop := fun xs H Q => ∃ (a C : Addr) (c : V) (u : Value) (b : Bool), xs = [.ref a, c] ∧ ErrAt H a C ∧ ClsV c u ∧ ExcC K C ∧ PySem.W.kitOne K (.ref C) u = some b ∧ Q (.bl b) H
theorem call_isExo {X : Cx} : CallR X (.builtin "isinstance") (rIsExo X.K) := by
  intro pins s σ H xs us Q I r h
  obtain ⟨a, C, c, u, b, rfl, ea, k, T, e, q⟩ := h
  obtain ⟨u1, u2, rfl, r1, r2⟩ := vals2 r
  cases (show u1 = Value.ref a from r1)
  have e2 := k.eq r2
  subst e2
  exact PySem.W.kia_one (PySem.ExoX.kitExo T) I.kIn (inst_exo I ea) e (fun z => nomatch z) fun tk => ⟨.bl b, H, I.tok tk, rfl, q⟩
/-- e.f of such an error -/
def tExoF (K : PySem.W.Frag) (te : TE) (f : Str) : TE := fun σ H Q => te σ H fun x H1 => ∃ (a C dx : Addr) (fs : List (Str × V)) (v : V), x = .ref a ∧ H1 a = some (exo a C (some dx)) ∧ H1 dx = some (exd dx fs) ∧
  ExcC K C ∧ PySem.W.findIn K (.ref C) f = some none ∧ fs.lookup f = some v ∧ Q v H1
theorem pe_exoF {X : Cx} {e : Expr} {te : TE} {f : Str} {pos : Pos} (he : PE X e te) (hb : attributeBase e f X.env (eval e X.env) = eval e X.env := by rfl) : PE X (.Attribute e f pos) (tExoF X.K te f) := by
  refine ⟨fun pins s σ H Q I h => ?_⟩
  refine attr_of hb (thn (he.run pins s σ H _ I h) fun u s1 ⟨x, H1, I1, rx, a, C, dx, fs, v, ex, ea, ed, T, hno, lf, q⟩ => ?_)
  subst ex
  obtain rfl : u = Value.ref a := rx
  obtain ⟨t, ho⟩ := exo_at I1.hok ea
  obtain ⟨mA, hns, hr⟩ := exd_at I1.hok ed
  obtain ⟨od, ho2, hl⟩ := lookIn_ns hns
  obtain ⟨u, hu, ru⟩ := RelO.some_of (v := v) (o := mA f) (by rw [← lf]; exact hr f)
  have J : PySem.W.InstAt s1.heap a _ C (some od) := ⟨ho, rfl, rfl, ho2⟩
  exact HandSPX.exc_get I1.kIn J T.hg T.hk T.hs (PySem.W.findObj_own T.hd hno rfl (by rw [hl, hu])) (handed_of ru) ⟨v, H1, I1.tok _, ru, q⟩
end L2

set_option maxRecDepth 100000
set_option maxHeartbeats 4000000
/-! Rules whose reading hands on a heap by what is true of it: all that was tracked stands, the new thing is there. -/
namespace L2
open PySem PySem.Spec PyProof.Rows
theorem sameNew {H : Hp} {p : Addr} (n : H p = none) (o : HO) : Same H (upd H p o) := fun b u e => by
  rw [upd_ne (ne_of_none e n)]
  exact e
section
variable {X : Cx} {es : List Expr} {t : TA} {pos : Pos}
/-- a new thing at p -/
def New (H : Hp) (o : HO) (Q : VK) : Prop := ∀ (p : Addr) (H' : Hp), H p = none → Same H H' → H' p = some o → Q (.ref p) H'
theorem New.at {H : Hp} {o : HO} {Q : VK} (h : New H o Q) {p : Addr} (n : H p = none) : Q (.ref p) (upd H p o) := h p _ n (sameNew n o) upd_same
def gLst (t : TA) : TE := fun σ H Q => t σ H fun xs H1 => xs.length ≤ sizeLine ∧ New H1 (.lst xs) Q
def gTup' (t : TA) : TE := fun σ H Q => t σ H fun xs H1 => xs.length ≤ sizeLine ∧ New H1 (.tup xs) Q
theorem PA.imp {t' : TA} (h : PA X es t) (m : ∀ σ H Q, t' σ H Q → t σ H Q) : PA X es t' := ⟨fun pos pins s σ H Q I q => h.run pos pins s σ H Q I (m σ H Q q)⟩
/-- what is asked behind a list of arguments may be read in a weaker way -/
theorem pe_lstG (h : PA X es t) : PE X (.List es pos) (gLst t) := by
  have z : PE X (.List es pos) (tLst fun σ H R => ∃ R', t σ H R' ∧ ∀ xs H1, R' xs H1 → R xs H1) := by
    refine pe_lst ⟨fun pos pins s σ H R I ⟨R', h1, h2⟩ => ?_⟩
    refine thn (h.run pos pins s σ H R' I h1) fun us s1 ⟨vs, H1, I1, r, q⟩ => ⟨vs, H1, I1, r, h2 _ _ q⟩
  exact ⟨fun pins s σ H Q I q => z.run pins s σ H Q I ⟨_, q, fun xs H1 ⟨l, k⟩ => ⟨l, fun p n => k.at n⟩⟩⟩
theorem pe_tupG {x1} (h : PA X es t) : PE X (.Tuple es x1 pos) (gTup' t) := by
  have z : PE X (.Tuple es x1 pos) (tTup fun σ H R => ∃ R', t σ H R' ∧ ∀ xs H1, R' xs H1 → R xs H1) := by
    refine pe_tup ⟨fun pos pins s σ H R I ⟨R', h1, h2⟩ => ?_⟩
    refine thn (h.run pos pins s σ H R' I h1) fun us s1 ⟨vs, H1, I1, r, q⟩ => ⟨vs, H1, I1, r, h2 _ _ q⟩
  exact ⟨fun pins s σ H Q I q => z.run pins s σ H Q I ⟨_, q, fun xs H1 ⟨l, k⟩ => ⟨l, fun p n => k.at n⟩⟩⟩
def rCatG : R2 := fun x y H Q => ∃ l b xs zs, x = .ref l ∧ y = .ref b ∧ H l = some (.lst xs) ∧ H b = some (.lst zs) ∧ xs.length + zs.length ≤ sizeLine ∧ New H (.lst (xs ++ zs)) Q
theorem op_catG : OpR X (binaryOp .Add) rCatG := fun pins s σ H x y v u Q I rx ry ⟨l, b, xs, zs, e1, e2, e3, e4, e5, k⟩ => op_cat pins s σ H x y v u Q I rx ry ⟨l, b, xs, zs, e1, e2, e3, e4, e5, fun p n => k.at n⟩
def rSlLG (K : PySem.W.Frag) : V → Option Int → Option Int → Hp → VK → Prop := fun x lo hi H Q => ∃ a xs, x = .ref a ∧ SqL K H a xs ∧ New H (.lst (cutV xs lo hi)) Q
theorem sl_listG : SlR X (rSlLG X.K) := fun pins s σ H x v vl vu lo hi sl Q I rx hs pl pu ⟨a, xs, e, hx, k⟩ => sl_list pins s σ H x v vl vu lo hi sl Q I rx hs pl pu ⟨a, xs, e, hx, fun p n => k.at n⟩
end
theorem pe_imp {X : Cx} {e : Expr} {t t' : TE} (h : PE X e t) (m : ∀ σ H Q, t' σ H Q → t σ H Q) : PE X e t' := ⟨fun pins s σ H Q I q => h.run pins s σ H Q I (m σ H Q q)⟩
theorem Same.err {H H' : Hp} {a C : Addr} (s : Same H H') (e : ErrAt H a C) : ErrAt H' a C := by
  rcases e with e | ⟨dx, fs, e, ed⟩
  · exact .inl (s _ _ e)
  · exact .inr ⟨dx, fs, s _ _ e, s _ _ ed⟩
/-- the field is kept: __init__(self, f) -/
def spInit (C : Addr) (fld : Str) : Sp := fun vs H Q _ => ∃ (a : Addr) (v : V), vs = [.ref a, v] ∧ H a = some (exo a C none) ∧
  ∀ (dx : Addr) (H' : Hp), (∀ b o, b ≠ a → H b = some o → H' b = some o) → H' a = some (exo a C (some dx)) → H' dx = some (exd dx [(fld, v)]) → Q .non H'
/-- a new error with a field -/
def NewE (C : Addr) (fld : Str) (v : V) (H : Hp) (Q : VK) : Prop := ∀ (a dx : Addr) (H' : Hp), H a = none → Same H H' → H' a = some (exo a C (some dx)) → H' dx = some (exd dx [(fld, v)]) → Q (.ref a) H'
section
variable {X : Cx} {CX : CXT} {k : Nat} {fI C : Addr} {fd : FuncData} {fld : Str} {E : XK} {x : Str} {p pos : Pos} {e : Expr} {te : TE} {nm : Option Str} {kpos : Pos}
theorem bind1 {K : PySem.W.Frag} {n : Str} (h : ∀ (a b : Value), bindArgs fd ⟨[a], [(n, b)]⟩ = pure ([(("self" : Str), a), (n, b)] : List (Str × Value))) : KBn K fd ["self", n] (0 + 1) [n] (fun us ws => us ++ ws) (fun vs zs => vs ++ zs) where
  to := fun s us ws _ l1 l2 => match us, ws, l1, l2 with
    | [a], [b], _, _ => .of_eq (h a b)
  rel := fun r rz => r.append rz
theorem bind2 {K : PySem.W.Frag} {n : Str} (h : ∀ (a b : Value), bindArgs fd ⟨[a, b], []⟩ = pure ([(("self" : Str), a), (n, b)] : List (Str × Value))) : KBn K fd ["self", n] (1 + 1) [] (fun us ws => us ++ ws) (fun vs zs => vs ++ zs) where
  to := fun s us ws _ l1 l2 => match us, ws, l1, l2 with
    | [a, b], [], _, _ => .of_eq (h a b)
  rel := fun r rz => r.append rz
/-- C(f = e) -/
def gExoK (C : Addr) (fld : Str) (te : TE) : TE := fun σ H Q => te σ H fun v H1 => NewE C fld v H1 Q
theorem exo_end {v : V} {H1 : Hp} {Q : VK} {E : XK} (q : NewE C fld v H1 Q) (a : Addr) (n : H1 a = none) : spInit C fld [.ref a, v] (upd H1 a (exo a C none)) (fun u H3 => u = .non ∧ Q (.ref a) H3) E :=
  ⟨a, v, rfl, upd_same, fun dx H' s e1 e2 => ⟨rfl, q a dx H' n (fun b o hb => s b o (ne_of_none hb n) (by rw [upd_ne (ne_of_none hb n)]; exact hb)) e1 e2⟩⟩
theorem pe_exoKG (T : OexC X.K C) (iC : PySem.W.findIn X.K (.ref C) "__init__" = some (some (.ref fI))) (tI : PySem.W.typeIn X.K (.ref fI) = some (.type "function"))
    (F : FnOk X.prog X.w X.K X.mg X.base CX k fI fd ["self", fld] (spInit C fld)) (hr : Room (k + 1) X.A) (hg : Gl X x) (hm : X.mg x = some (.ref C)) (hb : ∀ (a b : Value), bindArgs fd ⟨[a], [(fld, b)]⟩ = pure ([(("self" : Str), a), (fld, b)] : List (Str × Value))) (hx : Passes CX X E)
    (he : PE X e te) (hall : (backToKw pos (keywordEach [⟨nm, e, kpos⟩] X.env)).all (·.1.isSome) = true := by rfl) (hks : (backToKw pos (keywordEach [⟨nm, e, kpos⟩] X.env)).filterMap (·.1) = [fld] := by rfl)
    (hdb : (x == ("__debug__" : Str)) = false := by decide)
    (hpl : ((backTo pos (starEach [] X.env)).any (·.1) || (backToKw pos (keywordEach [⟨nm, e, kpos⟩] X.env)).any (·.1.isNone)) = false := by rfl) :
    PE X (.Call (.Name x p) [] [⟨nm, e, kpos⟩] pos) (gExoK C fld te) := by
  have z : PE X e (fun σ H R => ∃ R', te σ H R' ∧ ∀ v H1, R' v H1 → R v H1) := ⟨fun pins s σ H R I ⟨R', h1, h2⟩ => thn (he.run pins s σ H R' I h1) fun us s1 ⟨v, H1, I1, r, q⟩ => ⟨v, H1, I1, r, h2 _ _ q⟩⟩
  refine pe_imp (pe_exoK (E := E) T iC tI F hr hg hm (bind1 (K := X.K) hb) hx (pk_cons z pk_nil) hall hks hdb hpl) fun σ H Q q => ?_
  exact ⟨_, q, fun v H1 q1 => ⟨rfl, rfl, fun a n => exo_end q1 a n⟩⟩
theorem pe_exoPG (T : OexC X.K C) (iC : PySem.W.findIn X.K (.ref C) "__init__" = some (some (.ref fI))) (tI : PySem.W.typeIn X.K (.ref fI) = some (.type "function"))
    (F : FnOk X.prog X.w X.K X.mg X.base CX k fI fd ["self", fld] (spInit C fld)) (hr : Room (k + 1) X.A) (hg : Gl X x) (hm : X.mg x = some (.ref C)) (hb : ∀ (a b : Value), bindArgs fd ⟨[a, b], []⟩ = pure ([(("self" : Str), a), (fld, b)] : List (Str × Value))) (hx : Passes CX X E)
    (he : PE X e te) (hdb : (x == ("__debug__" : Str)) = false := by decide) (hs : starEach [e] X.env = (false, eval e X.env) :: starEach [] X.env := by rfl)
    (hpl : (backTo pos (starEach [] X.env)).any (·.1) = false := by rfl) :
    PE X (.Call (.Name x p) [e] [] pos) (gExoK C fld te) := by
  have z : PE X e (fun σ H R => ∃ R', te σ H R' ∧ ∀ v H1, R' v H1 → R v H1) := ⟨fun pins s σ H R I ⟨R', h1, h2⟩ => thn (he.run pins s σ H R' I h1) fun us s1 ⟨v, H1, I1, r, q⟩ => ⟨v, H1, I1, r, h2 _ _ q⟩⟩
  refine pe_imp (pe_exo1 (E := E) T iC tI F hr hg hm (bind2 (K := X.K) hb) hx (by decide) (pa_cons z pa_nil hs) hdb hs hpl) fun σ H Q q => ?_
  exact ⟨_, q, fun v H1 q1 => ⟨rfl, rfl, fun a n => exo_end q1 a n⟩⟩
/-- C(), no __init__ of its own -/
def gExo0 (C : Addr) : TE := fun _ H Q => New0 H C Q where New0 (H : Hp) (C : Addr) (Q : VK) : Prop := ∀ (a : Addr) (H' : Hp), H a = none → Same H H' → H' a = some (exo a C none) → Q (.ref a) H'
theorem pe_exo0G (q : PySem.W.excIn X.K C [.type "ValueError", .type "Exception", .type "BaseException", .type "object"] "ValueError.__new__" = true) (kC : PySem.W.keepIn X.K (.ref C) = true) (hg : Gl X x) (hm : X.mg x = some (.ref C))
    (hdb : (x == ("__debug__" : Str)) = false := by decide) : PE X (.Call (.Name x p) [] [] pos) (gExo0 C) :=
  pe_imp (pe_exo0 q kC hg hm hdb) fun σ H Q k a n => k a _ n (sameNew n _) upd_same
end
end L2

set_option maxRecDepth 100000
set_option maxHeartbeats 4000000
namespace L2
open PySem PySem.Spec PyProof.Rows
/-- over enumerate(a list that stands) -/
theorem for_enumL {K : PySem.W.Frag} {a : Addr} {xs : List V} {g : TG} {tb : TS} {D : Ends} {σ : St} {H : Hp} (Pv : Nat → St → Hp → Prop) (h0 : Pv 0 σ H) (hl : ∀ i σ H, i ≤ xs.length → Pv i σ H → SqL K H a xs)
    (hs : ∀ i x σ H T H', xs[i]? = some x → Pv i σ H → H T = none → Same H H' → H' T = some (.tup [.int (i : Nat), x]) → g (.ref T) σ H' fun σ2 H2 => tb { D with nx := Pv (i + 1), ct := Pv (i + 1), bk := D.nx } σ2 H2)
    (hd : ∀ σ H, Pv xs.length σ H → D.nx σ H) :
    ∃ W : Nat → Nat → St → Hp → Prop, (∃ m, W 0 m σ H) ∧ ∀ i m σ H, W i m σ H →
      ((Ite K a).stop i H ∧ D.nx σ H) ∨ ((Ite K a).go i H ∧ ∃ N : St → Hp → Prop, (∀ σ' H', N σ' H' → ∃ m', m' < m ∧ W (i + 1) m' σ' H') ∧ ∀ x H', (Ite K a).yld i H x H' → g x σ H' fun σ2 H2 => tb { D with nx := N, ct := N, bk := D.nx } σ2 H2) := by
  refine ⟨fun i m σ H => m = xs.length - i ∧ i ≤ xs.length ∧ Pv i σ H, ⟨xs.length, by simp, Nat.zero_le _, h0⟩, ?_⟩
  rintro i m σ H ⟨rfl, hi, p⟩
  have q := hl i σ H hi p
  by_cases hlt : i < xs.length
  · refine .inr ⟨⟨xs, xs[i], q, by simp [hlt]⟩, Pv (i + 1), fun σ' H' p' => ⟨xs.length - (i + 1), by omega, rfl, hlt, p'⟩, fun v H' y => ?_⟩
    obtain ⟨T, x, e, n, e2, y⟩ := y
    subst e e2
    exact hs i x σ H T _ (y xs q) p n (sameNew n _) upd_same
  · have e : i = xs.length := by omega
    subst e
    exact .inl ⟨⟨xs, q, Nat.le_refl _⟩, hd σ H p⟩
/-! lists of truth values as data -/
theorem bools_lay : ∀ bs : List Bool, PyData.canLayAll0 (bs.map PyData.bool) = true
  | [] => rfl
  | b :: bs => by
    show (PyData.canLay0 (.bool b) && PyData.canLayAll0 (bs.map PyData.bool)) = true
    rw [bools_lay bs]
    rfl
theorem bools_flat : ∀ bs : List Bool, PyData.depthAll (bs.map PyData.bool) = 0
  | [] => rfl
  | b :: bs => by
    show max (PyData.depth (.bool b)) (PyData.depthAll (bs.map PyData.bool)) = 0
    rw [bools_flat bs]
    rfl
theorem bools_shaped (bs : List Bool) : SeqAt.shaped (.list (bs.map PyData.bool)) = true := by
  have h1 : PyData.canLay0 (.list (bs.map PyData.bool)) = true := bools_lay bs
  have h2 : PyData.depth (.list (bs.map PyData.bool)) = 1 := by
    show PyData.depthAll (bs.map PyData.bool) + 1 = 1
    rw [bools_flat bs]
  unfold SeqAt.shaped
  rw [h1, h2]
  rfl
theorem bools_all {K : PySem.W.Frag} {H : Hp} : ∀ bs : List Bool, DpAll K H (bs.map V.bl) (bs.map PyData.bool)
  | [] => .nil
  | b :: bs => .cons (.bl b) (bools_all bs)
theorem bools_dp {K : PySem.W.Frag} {H : Hp} {p : Addr} {bs : List Bool} (h : H p = some (.lst (bs.map V.bl))) : Dp K H (.ref p) (.list (bs.map PyData.bool)) := .lst (SqL.of h) (bools_all bs)
theorem bools_same (bs : List Bool) : PyData.eqv (.list (bs.map PyData.bool)) (.list (bs.map PyData.bool)) = true := SeqAt.eqv_refl _ (bools_lay bs)
/-- a display of one entry, text to value -/
def gDict1 (k : Str) (te : TE) : TE := fun σ H Q => ∀ p : Addr, H p = none → te σ (upd H p (.dK [])) fun v H2 => H2 p = some (.dK []) ∧ Q (.ref p) (upd H2 p (.dK [(.inr k, v)]))
theorem pe_disp1 {X : Cx} {pos p1 : Pos} {v : Expr} {k : Str} {j : Nat} {te : TE} (hv : PE X v te) : PE X (.Dict [some (.Constant (.str k) j p1)] [v] pos) (gDict1 k te) := by
  have z : PE X v (fun σ H R => ∃ R', te σ H R' ∧ ∀ v H1, R' v H1 → R v H1) := ⟨fun pins s σ H R I ⟨R', h1, h2⟩ => thn (hv.run pins s σ H R' I h1) fun us s1 ⟨v, H1, I1, r, q⟩ => ⟨v, H1, I1, r, h2 _ _ q⟩⟩
  refine pe_imp (pe_disp (pps_cons pe_str z pps_nil) rfl rfl (fun z => by cases z) (by show 1 ≤ 15; decide)) fun σ H Q q p n => ?_
  exact ⟨_, q p n, fun u H2 ⟨e, k2⟩ => ⟨e, [(.inr k, u)], rfl, by show 1 ≤ 15; decide, k2⟩⟩
/-- the cut and what is put behind it -/
theorem ints_cut {ns : List Int} {lo hi : Option Int} {i : Nat} {y : V} (h : (cutV (ns.map V.int) lo hi ++ [.int 0])[i]? = some y) : ∃ c : Int, y = .int c := by
  have m := List.mem_of_getElem? h
  rcases List.mem_append.mp m with m | m
  · unfold cutV at m
    have m2 := List.mem_of_mem_drop (List.mem_of_mem_take m)
    obtain ⟨c, _, e⟩ := List.mem_map.mp m2
    exact ⟨c, e.symm⟩
  · exact ⟨0, by simpa using m⟩
theorem ints_cut_len {ns : List Int} {lo hi : Option Int} (h : ns.length ≤ 63) : (cutV (ns.map V.int) lo hi).length ≤ 63 := by
  have := cutV_length (ns.map V.int) lo hi
  rw [List.length_map] at this
  omega
end L2

set_option maxRecDepth 100000
set_option maxHeartbeats 4000000
/-! Defs that are run where nothing is being shown (repr of containers asks for it): the same promise, at such places alone. -/
namespace L2
open PySem PySem.Spec PyProof.Rows
def Bare (A : Around) : Prop := A.guards = some []
theorem Bare.deeper {A : Around} (h : Bare A) (env : Env) : Bare (A.deeper env) := h
structure FnG (P : Program) (w : World) (K : PySem.W.Frag) (mg : Str → Option Value) (base : Heap) (CX : CXT) (k : Nat) (f : Addr) (fd : FuncData) (ps : List Str) (sp : Sp) : Prop where
  len : ∀ vs H Q E, sp vs H Q E → vs.length = ps.length
  run : ∀ (A : Around) (outer : List Env) (s : Shared) (H : Hp) (args : Args) (us : List Value) (vs : List V) (Q : VK) (E : XK), Bare A → Room k A → Env0 P w K mg base A outer s H → BindsTo s fd args (ps.zip us) → Vals vs us → sp vs H Q E →
    codeAny (model P w) A (.call (.ref f) args) (CR CX outer P w H s Q E) s
theorem FnOk.toG {P : Program} {w : World} {K : PySem.W.Frag} {mg : Str → Option Value} {base : Heap} {CX : CXT} {k : Nat} {f : Addr} {fd : FuncData} {ps : List Str} {sp : Sp} (F : FnOk P w K mg base CX k f fd ps sp) : FnG P w K mg base CX k f fd ps sp :=
  ⟨F.len, fun A outer s H args us vs Q E _ => F.run A outer s H args us vs Q E⟩
section
variable {P : Program} {w : World} {K : PySem.W.Frag} {mg : Str → Option Value} {base : Heap} {CX : CXT} {k : Nat} {f : Addr} {x qual : Str} {st : Stmt} {fd : FuncData} {N ps : List Str} {sp : Sp}
/-- a def by its body, at places where nothing is being shown -/
theorem Fun.okGX (F : Fun K x qual st f fd) (S : FnScope N ps (defScope st)) (len : ∀ vs H Q E, sp vs H Q E → vs.length = ps.length)
    (hbody : ∀ (cdv : Value) (A : Around) (outer : List Env) (s : Shared) (H : Hp) (vs : List V) (Q : VK) (E : XK), Bare A → Room k (A.deeper (envOfC qual (defScope st) s.heap.objs.size f cdv)) → sp vs H Q E →
      ∃ t, PSs (cxOf CX P w K mg base N qual (defScope st) f cdv A outer s H E) (defBody st) t ∧ t { nx := fun _ H' => Q .non H', rt := Q } (start N vs) H) : FnG P w K mg base CX (k + 1) f fd ps sp := by
  obtain ⟨oc, od, kV, doc, pm, an, cdv, ct, osl, rfl, lk, hcd⟩ := F.ex
  refine ⟨len, fun A outer s H args us vs Q E bare hr e0 hb r hsp => ?_⟩
  have same : ∀ b o, base.get? b = some o → s.heap.get? b = some o := fun b o e => (e0.bs b o e).1
  have KX : K.In s.heap := e0.mod.kin.keeps same
  have hkind : ∀ y ∈ ps.zip us, (defScope st).names.lookup y.1 = some .local ∨ ((defScope st).names.lookup y.1 = some .cell ∧ ((cellsFrom (s.heap.objs.size + 1) (defScope st).names []).lookup y.1).isSome = true) := by
    rintro ⟨n, v⟩ hy
    rcases S.par n (List.of_mem_zip hy).1 with q | q
    · exact .inl q
    · exact .inr ⟨q, PySem.W.cellsFrom_some _ _ _ (.inl q)⟩
  refine codeAny_call_function hr.depth (KX _ _ lk) rfl S.co S.gen rfl (PySem.W.codeRec_of KX hcd) (hb _ _ _ _ ?_)
  refine wpAny_newFunctionEnv_cells S.kind hkind fun env he s1 ic => ?_
  subst he
  refine ⟨(e0.mod.nolimit.keeps same).keeps ic.toInCall.keep, codeAny_func ?_⟩
  obtain ⟨t, ht, hq⟩ := hbody cdv A outer s H vs Q E bare (hr.deeper _) hsp
  have I := inv_start (CX := CX) (E := E) S hr.hd e0 (len _ _ _ _ hsp) r ic
  refine wpAny_mono (ht.run [] s1 (start N vs) H _ I hq) (fun fl s' hs => ?_) fun e s' hs => hs
  cases fl with
  | ret u =>
    obtain ⟨v, σ', H', J, rv, q⟩ := hs
    exact ⟨v, H', J.os, J.bare, J.base, J.hok, rv, q⟩
  | next =>
    obtain ⟨σ', H', J, q⟩ := hs
    exact ⟨V.non, H', J.os, J.bare, J.base, J.hok, rfl, q⟩
  | brk =>
    obtain ⟨_, _, _, q⟩ := hs
    exact False.elim q
  | cont =>
    obtain ⟨_, _, _, q⟩ := hs
    exact False.elim q
/-- the same for a def that lets nothing out -/
theorem Fun.okG (F : Fun K x qual st f fd) (S : FnScope N ps (defScope st)) (len : ∀ vs H Q E, sp vs H Q E → vs.length = ps.length)
    (hbody : ∀ (cdv : Value) (A : Around) (outer : List Env) (s : Shared) (H : Hp) (vs : List V) (Q : VK) (E : XK), Bare A → Room k (A.deeper (envOfC qual (defScope st) s.heap.objs.size f cdv)) → sp vs H Q E →
      ∃ t, PSs (cxOf CX0 P w K mg base N qual (defScope st) f cdv A outer s H E).nox (defBody st) t ∧ t { nx := fun _ H' => Q .non H', rt := Q } (start N vs) H) : FnG P w K mg base CX0 (k + 1) f fd ps sp :=
  F.okGX S len fun cdv A outer s H vs Q E hA hr h => by
    obtain ⟨t, h1, h2⟩ := hbody cdv A outer s H vs Q E hA hr h
    exact ⟨t, h1.nox, h2⟩
end
section
variable {X : Cx} {CX : CXT} {k : Nat} {f : Addr} {fd : FuncData} {ps : List Str} {sp : Sp} {dvs : List V} {ds : List Value} {E : XK} {x : Str} {p pos : Pos} {e : Expr} {es : List Expr} {t : TA}
theorem run_fnG {pins : List (Addr × Obj)} {σ : St} {H : Hp} {s : Shared} {Q : VK} {us : List Value} {vs : List V} (F : FnG X.prog X.w X.K X.mg X.base CX k f fd ps sp) (hA : Bare X.A) (hr : Room k X.A) (hb : Binds X.K fd ps ds) (hd : Vals dvs ds) (hx : Passes CX X E)
    (I : Inv X pins σ H s) (r : Vals vs us) (h : sp (vs ++ dvs) H Q E) : wpAny (model X.prog X.w) X.A (call (.ref f) us) (EP X pins σ Q) X.xe s := by
  have r2 : Vals (vs ++ dvs) (us ++ ds) := r.append hd
  have hl : (us ++ ds).length = ps.length := by
    rw [← r2.length]
    exact F.len _ _ _ _ h
  refine wpAny_call (codeAny_mono (F.run X.A X.stack s H ⟨us, []⟩ (us ++ ds) (vs ++ dvs) Q E hA hr I.env0 (hb s us I.kIn hl) r2 h) fun r s' hq => ?_)
  cases r with
  | error er => exact hx pins σ H s er s' I hq
  | ok fl =>
    cases fl with
    | ret u => exact I.after hq
    | next => exact False.elim hq
    | brk => exact False.elim hq
    | cont => exact False.elim hq
theorem pe_callG (F : FnG X.prog X.w X.K X.mg X.base CX k f fd ps sp) (hA : Bare X.A) (hr : Room k X.A) (hg : Gl X x) (hm : X.mg x = some (.ref f)) (hk : PySem.W.keepIn X.K (.ref f) = true) (hb : Binds X.K fd ps ds) (hd : Vals dvs ds) (hx : Passes CX X E)
    (ha : PA X (e :: es) t) (hdb : (x == ("__debug__" : Str)) = false := by decide) (he : starEach (e :: es) X.env = (false, eval e X.env) :: starEach es X.env := by rfl) (hpl : (backTo pos (starEach es X.env)).any (·.1) = false := by rfl) :
    PE X (.Call (.Name x p) (e :: es) [] pos) (tCall sp dvs E t) := by
  refine ⟨fun pins s σ H Q I h => ?_⟩
  refine wpAny_Call_Name_kw (ld_glob I hg hm ?_ hdb)
  exact PySem.W.callWith_K (h₀ := X.base) I.ok.mod.kin hk (thn (ha.run pos pins s σ H _ I h) fun us s1 ⟨vs, H1, I1, r, q⟩ => ⟨I1.kIn, run_fnG F hA hr hb hd hx I1 r q⟩) he hpl
end
/-! ### what repr says -/
def keyD : Key → PyData
  | .inl i => .int i
  | .inr x => .str x
/-- x, shown as d: data without dicts, or a dict of ints -/
def Shw (K : PySem.W.Frag) (H : Hp) (x : V) (d : PyData) : Prop :=
  (Dp K H x d ∧ d.hasDict = false) ∨ ∃ (a : Addr) (kvs : List (Key × Int)), x = .ref a ∧ H a = some (.dK (kvs.map fun kv => (kv.1, V.int kv.2))) ∧ d = .dict (kvs.map fun kv => (keyD kv.1, .int kv.2))
theorem reads_dict {P : Program} {w : World} {h : Heap} : ∀ {es : List DictEntry} {vs : List (Key × Value)} {kvs : List (Key × Int)}, Pairs (mixKind P w) es vs → KV (kvs.map fun kv => (kv.1, V.int kv.2)) vs →
    ReadsAll h (es.map (·.key)) ((kvs.map fun kv => (keyD kv.1, PyData.int kv.2)).map (·.1)) [] ∧ ReadsAll h (es.map (·.val)) ((kvs.map fun kv => (keyD kv.1, PyData.int kv.2)).map (·.2)) []
  | [], vs, [], _, _ => ⟨.nil, .nil⟩
  | [], vs, k :: kvs, p, r => by
    cases p
    cases r
  | e :: es, vs, [], p, r => by
    cases r
    cases p
  | e :: es, vs, k :: kvs, p, r => by
    cases r with
    | cons r1 rr =>
      cases p with
      | cons q1 q2 pr =>
        obtain ⟨h1, h2⟩ := reads_dict (h := h) pr rr
        obtain ⟨e1, t, e2⟩ := r1
        refine ⟨ReadsAll.cons (as := []) (bs := []) ?_ h1, ReadsAll.cons (as := []) (bs := []) ?_ h2⟩
        · have z : keyIs k.1 e.key = true := by
            have e1' : k.1 = _ := e1
            rw [e1']
            exact q1
          rcases keyIs_shape z with ⟨i, t', e3, e4⟩ | ⟨y, t', e3, e4⟩
          · show Reads h e.key (keyD k.1) []
            rw [e3, e4]
            exact Reads.int i t'
          · show Reads h e.key (keyD k.1) []
            rw [e3, e4]
            exact Reads.str y t'
        · show Reads h e.val (.int k.2) []
          rw [q2, e2]
          exact Reads.int _ t
theorem shw_reads {X : Cx} {pins : List (Addr × Obj)} {σ : St} {H : Hp} {s : Shared} {x : V} {u : Value} {d : PyData} (I : Inv X pins σ H s) (h : Shw X.K H x d) (r : RelV x u) : ∃ as, Reads s.heap u d as ∧ (d.hasDict = true → sysModules ∉ as) := by
  rcases h with ⟨h, nd⟩ | ⟨a, kvs, rfl, e, rfl⟩
  · obtain ⟨as, q⟩ := Dp.reads I d x u h r
    exact ⟨as, q, fun z => by rw [nd] at z; cases z⟩
  · cases (show u = Value.ref a from r)
    obtain ⟨_, ns, vs, rk, o, es, ep, ho, hx, hd, _, hp, _⟩ := (show ObjOk X.prog X.w H s.heap a (.dK _) from I.hok a _ e)
    obtain ⟨h1, h2⟩ := reads_dict (h := s.heap) hp rk
    refine ⟨_, Reads.dict ho hx.1 hd h1 h2, fun _ m => ?_⟩
    have : sysModules = a := by simpa using m
    rw [this] at ns
    simp at ns
def rRepr (K : PySem.W.Frag) : List V → Hp → VK → Prop := fun xs H Q => ∃ (x : V) (d : PyData), xs = [x] ∧ Shw K H x d ∧ d.showable = true ∧ d.depth ≤ 60 ∧ d.shown.length ≤ sizeLine ∧ Q (.str d.shown) H
theorem call_repr {X : Cx} (hA : Bare X.A) (hu : X.A.units + 64 < cLine) : CallR X (.builtin "repr") (rRepr X.K) := by
  intro pins s σ H xs us Q I r h
  obtain ⟨x, d, rfl, hs, sh, dp, sz, q⟩ := h
  obtain ⟨u, rfl, rx⟩ := vals1 r
  obtain ⟨as, rd, nsys⟩ := shw_reads I hs rx
  cases rd with
  | none => exact PySem.P.repr_of_none ⟨.str "None", H, I.tok _, ⟨_, rfl⟩, q⟩
  | bool b => exact PySem.P.repr_of_bool ⟨.str (if b then "True" else "False"), H, I.tok _, ⟨_, rfl⟩, q⟩
  | int i t => exact PySem.P.repr_of_int (of_decide_eq_true sh) ⟨.str (toString i), H, I.tok _, ⟨_, rfl⟩, q⟩
  | str y t => exact PySem.P.repr_of_str ⟨.str (reprText y), H, I.tok _, ⟨_, rfl⟩, q⟩ sz
  | list h1 h2 h3 h4 =>
    exact repr_of_reads' (Reads.list h1 h2 h3 h4) sh nsys hA (by omega) (fun b o e => e) (fun h' u tk k => ⟨.str _, H, I.kept (t' := tk) k, ⟨_, rfl⟩, q⟩) sz
  | tuple h1 h2 h3 h4 =>
    exact repr_of_reads' (Reads.tuple h1 h2 h3 h4) sh nsys hA (by omega) (fun b o e => e) (fun h' u tk k => ⟨.str _, H, I.kept (t' := tk) k, ⟨_, rfl⟩, q⟩) sz
  | dict h1 h2 h3 h4 h5 =>
    exact repr_of_reads' (Reads.dict h1 h2 h3 h4 h5) sh nsys hA (by omega) (fun b o e => e) (fun h' u tk k => ⟨.str _, H, I.kept (t' := tk) k, ⟨_, rfl⟩, q⟩) sz
end L2

set_option maxRecDepth 100000
set_option maxHeartbeats 4000000
/-! The end of a law row for a promise that holds where nothing is being shown: the claim's caller shows nothing. -/
namespace L2
open PySem PySem.Spec PyProof.Rows
section
variable {P : Program} {w : World} {K : PySem.W.Frag} {mg mb : Str → Option Value} {CX : CXT} {k : Nat} {fa sc : Addr} {fd : FuncData} {x : Str} {sp : Sp} {st : Shared} {its : List Value} {ns : List Int}
/-- from an abstract heap in which at most the script is tracked -/
theorem callG_at (KX : K.In st.heap) (gN : st.heap.Ns mainGlobals mg) (bN : st.heap.Ns builtinsNs mb) (bb : ∀ x : Str, x ≠ "__name__" → mb x = bootBuiltins x) (nl : st.heap.NoLimit) (gz : st.gens = #[])
    (hs : st.heap.get? sc = some { cls := .type "list", data := .seq its.toArray }) (hr : Room k callerA)
    (F : ∀ base : Heap, K.In base → base.Ns mainGlobals mg → FnG P w K mg base CX k fa fd [x] sp) (hb : ∀ (s : Shared) (u : Value), BindsTo s fd ⟨[u], []⟩ [(x, u)])
    (noX : ∀ H e s', CX [] H st (fun _ _ _ => False) e s' → False) (H : Hp) (hO : Only H) (hsp : sp [.ref sc] H (fun v _ => v = .bl true) fun _ _ _ => False)
    (ok : HOk P w H st.heap) (one : ∀ b, H b ≠ none → b = sc) (hK : H sc ≠ none → K.lookup sc = none) :
    codeAny (model P w) callerA (.call (.ref fa) ⟨[.ref sc], []⟩) (fun r s' => r = .ok (.ret (.bool true)) ∧ OldK st.heap s'.heap ∧ s'.os = st.os ∧ AllBare s'.gens) st := by
  have low : ∀ {b : Addr} {o : Obj}, st.heap.get? b = some o → H b = none → (hidT st.heap H).get? b = some o := fun e n => hidT_get e n
  have isSc : ∀ {b : Addr}, (∃ u, H b = some u) → b = sc := fun {b} ⟨u, q⟩ => one b (by rw [q]; simp)
  have free : ∀ {b : Addr}, b ≠ sc → H b = none := fun {b} ne => by
    cases q : H b with
    | none => rfl
    | some u => exact absurd (isSc ⟨u, q⟩) ne
  have notDict : ∀ {b : Addr} {o : Obj} {es : Array DictEntry} {ep : Nat}, st.heap.get? b = some o → o.data = .dict es ep → H b = none := fun {b o es ep} e d => by
    refine free fun z => ?_
    rw [z, hs] at e
    have e2 := Option.some.inj e
    subst e2
    have d2 : Data.seq its.toArray _ = Data.dict es ep := d
    cases d2
  have nsLow : ∀ {b : Addr} {m : Str → Option Value}, st.heap.Ns b m → (hidT st.heap H).Ns b m := fun {b m} z => by
    obtain ⟨o, es, ep, e, d, r⟩ := z
    exact ⟨o, es, ep, low e (notDict e d), d, r⟩
  have KL : K.In (hidT st.heap H) := fun b o e => low (KX b o e) (by
    cases q : H b with
    | none => rfl
    | some u =>
      have z := isSc ⟨u, q⟩
      subst z
      rw [hK (by rw [q]; simp)] at e
      cases e)
  obtain ⟨mc, l1, l2⟩ := nl
  have M : Mod K mg (hidT st.heap H) := ⟨KL, nsLow gN, ⟨mb, nsLow bN, bb⟩, ⟨mc, nsLow l1, l2⟩⟩
  have e0 : Env0 P w K mg (hidT st.heap H) callerA [] st H := ⟨rfl, M, fun b o e => of_hidT e, Nat.le_of_eq (hidT_size _ _), trivial, fun b hb => absurd (show b ∈ ([] : List Addr) from hb) (by simp), ok, .of_eq gz⟩
  refine codeAny_mono ((F _ KL (nsLow gN)).run callerA [] st H ⟨[.ref sc], []⟩ [.ref sc] [.ref sc] _ _ rfl hr e0 (hb st (.ref sc)) (.cons rfl .nil) hsp) fun r s' h => ?_
  cases r with
  | error e => exact (noX H e s' h).elim
  | ok fl =>
    cases fl with
    | next => exact False.elim h
    | brk => exact False.elim h
    | cont => exact False.elim h
    | ret u =>
      obtain ⟨v, H', os, bare, un, ok', r', q⟩ := h
      have q' : v = .bl true := q
      subst q'
      obtain rfl : u = Value.bool true := r'
      refine ⟨rfl, OldK.of_keep fun b o e => ?_, os, bare⟩
      rcases hO b with z | ⟨ob, xs, z⟩
      · exact un.keep b o e z (fun z => absurd (show b ∈ ([] : List Addr) from z) (by simp)) (by simp)
      · obtain ⟨e1, _⟩ := ok b _ z
        obtain ⟨e2, _⟩ := ok' b _ (un.frzs b ob _ z)
        rw [e] at e1
        cases e1
        exact e2
theorem law_callG (KX : K.In st.heap) (gN : st.heap.Ns mainGlobals mg) (bN : st.heap.Ns builtinsNs mb) (bb : ∀ x : Str, x ≠ "__name__" → mb x = bootBuiltins x) (nl : st.heap.NoLimit) (gz : st.gens = #[])
    (hs : st.heap.get? sc = some { cls := .type "list", data := .seq its.toArray }) (hi : IntsAre its ns) (hl : ns.length ≤ sizeLine) (hr : Room k callerA)
    (F : ∀ base : Heap, K.In base → base.Ns mainGlobals mg → FnG P w K mg base CX k fa fd [x] sp) (hb : ∀ (s : Shared) (u : Value), BindsTo s fd ⟨[u], []⟩ [(x, u)])
    (hsp : ∀ H : Hp, Only H → SqL K H sc (ns.map V.int) → sp [.ref sc] H (fun v _ => v = .bl true) fun _ _ _ => False) (noX : ∀ H e s', CX [] H st (fun _ _ _ => False) e s' → False) :
    codeAny (model P w) callerA (.call (.ref fa) ⟨[.ref sc], []⟩) (fun r s' => r = .ok (.ret (.bool true)) ∧ OldK st.heap s'.heap ∧ s'.os = st.os ∧ AllBare s'.gens) st := by
  have rv := vals_ints hi
  cases hk : K.lookup sc with
  | some o =>
    have e := KX sc o hk
    rw [hs] at e
    cases e
    have only : Only (fun _ => none) := fun _ => .inl rfl
    refine callG_at KX gN bN bb nl gz hs hr F hb noX (fun _ => none) only (hsp _ only (.inr ⟨_, its.toArray, _, hk, rfl, rfl, rfl, by rw [List.size_toArray, hi.length]; exact hl, by simpa using rv⟩)) (fun b u z => nomatch z) (fun b z => absurd rfl z) fun z => absurd rfl z
  | none =>
    let H : Hp := fun b => if b = sc then some (.frz { cls := .type "list", data := .seq its.toArray } (.lst (ns.map V.int))) else none
    have at' : H sc = some (.frz { cls := .type "list", data := .seq its.toArray } (.lst (ns.map V.int))) := if_pos rfl
    have off : ∀ {b : Addr}, b ≠ sc → H b = none := fun ne => if_neg ne
    have only : Only H := fun b => by
      by_cases z : b = sc
      · rw [z]
        exact .inr ⟨_, _, at'⟩
      · exact .inl (off z)
    refine callG_at KX gN bN bb nl gz hs hr F hb noX H only (hsp H only (.inl (.inr ⟨_, at'⟩))) (fun b u z => ?_) (fun b z => ?_) fun _ => hk
    · by_cases q : b = sc
      · subst q
        rw [at'] at z
        cases z
        exact ⟨hs, by rw [List.length_map]; exact hl, its, _, rv, hs⟩
      · rw [off q] at z
        cases z
    · by_cases q : b = sc
      · exact q
      · exact absurd (off q) z
end
theorem walk_ofG {l : PySem.W.OpenLaw} {n k : Nat} {q : Program} {loose : List Str} {XP : (Str → Option Value) → Heap → Prop} {YP : World → Heap → Prop} {d : DefRec} {K : Params → PySem.W.Frag} {CX : World → CXT} {sp : World → Sp} {x : Str}
    (hn : l.most = some n) (hn2 : n ≤ sizeLine) (hdf : d.params.defaults = []) (hr : Room k callerA) (hY : ∀ (w : World) (h : Heap), YP w h → (K w.params).In h)
    (F : ∀ (w : World) (mg : Str → Option Value) (fa : Addr) (h : Heap), (K w.params).In h → h.Ns mainGlobals mg → mg d.name = some (.ref fa) →
      ∃ fd : FuncData, (∀ (s : Shared) (u : Value), BindsTo s fd ⟨[u], []⟩ [(x, u)]) ∧ ∀ base : Heap, (K w.params).In base → base.Ns mainGlobals mg → FnG l.prog w (K w.params) mg base (CX w) k fa fd [x] (sp w))
    (hsp : ∀ (w : World) (H : Hp) (a : Addr) (ns : List Int), ns.length ≤ n → Only H → SqL (K w.params) H a (ns.map V.int) → sp w [.ref a] H (fun v _ => v = .bl true) fun _ _ _ => False)
    (hCX : ∀ (w : World) (H : Hp) (s : Shared) (e : Value) (s' : Shared), CX w [] H s (fun _ _ _ => False) e s' → False) :
    PySem.W.WalkO q loose XP YP l.row.toRowW d [] (fun f vs => PySem.call f vs) := by
  refine Att.attach_call hn hdf fun w s₀ s₁ mg mb fa o pm cd doc a vs ns G Y ho hd hcd hmg hobj hints hlen hg => ?_
  have KX := hY w _ Y
  obtain ⟨fd, hb, hF⟩ := F w mg fa _ KX G.T.g hmg
  exact law_callG KX G.T.g G.T.b G.T.builtins G.T.nolimit hg hobj hints (Nat.le_trans hlen hn2) hr hF hb (fun H hO hS => hsp w H a ns hlen hO hS) fun H e s' => hCX w H s₁ e s'
end L2

set_option maxRecDepth 100000
set_option maxHeartbeats 4000000
/-! Things that are shown by repr: what is kept of them in later heaps. -/
namespace L2
open PySem PySem.Spec PyProof.Rows
theorem Same.seqT {K : PySem.W.Frag} {H H' : Hp} {a : Addr} {xs : List V} (s : Same H H') (h : SqT K H a xs) : SqT K H' a xs := by
  rcases h with (h | ⟨o, h⟩) | h
  · exact .inl (.inl (s _ _ h))
  · exact .inl (.inr ⟨o, s _ _ h⟩)
  · exact .inr h
mutual
theorem Dp.same {K : PySem.W.Frag} {H H' : Hp} (s : Same H H') : ∀ (d : PyData) (v : V), Dp K H v d → Dp K H' v d
  | .none, _, h => by
    cases h
    exact .non
  | .bool b, _, h => by
    cases h
    exact .bl b
  | .int i, _, h => by
    cases h
    exact .int i
  | .str x, _, h => by
    cases h
    exact .str x
  | .list ds, _, h => by
    cases h with
    | lst q ha => exact .lst (s.seq q) (DpAll.same s ds _ ha)
  | .tuple ds, _, h => by
    cases h with
    | tup q ha => exact .tup (s.seqT q) (DpAll.same s ds _ ha)
  | .dict _, _, h => by cases h
theorem DpAll.same {K : PySem.W.Frag} {H H' : Hp} (s : Same H H') : ∀ (ds : List PyData) (vs : List V), DpAll K H vs ds → DpAll K H' vs ds
  | [], _, h => by
    cases h
    exact .nil
  | d :: ds, _, h => by
    cases h with
    | cons h1 h2 => exact .cons (Dp.same s d _ h1) (DpAll.same s ds _ h2)
end
theorem Shw.same {K : PySem.W.Frag} {H H' : Hp} {x : V} {d : PyData} (s : Same H H') (h : Shw K H x d) : Shw K H' x d := by
  rcases h with ⟨h, n⟩ | ⟨a, kvs, e1, e2, e3⟩
  · exact .inl ⟨h.same s d x, n⟩
  · exact .inr ⟨a, kvs, e1, s _ _ e2, e3⟩
/-- what is asked of a thing that is shown -/
structure Fine (d : PyData) : Prop where
  sh : d.showable = true
  dp : d.depth ≤ 60
  sz : d.shown.length ≤ sizeLine
  ok : PyData.strOk d.shown = true
def Good (K : PySem.W.Frag) (H : Hp) (v : V) : Prop := ∃ d, Shw K H v d ∧ Fine d
theorem Good.same {K : PySem.W.Frag} {H H' : Hp} {v : V} (s : Same H H') (h : Good K H v) : Good K H' v := by
  obtain ⟨d, a, b⟩ := h
  exact ⟨d, a.same s, b⟩
theorem strOk_of (s : String) : PyData.strOk (Str.ofString s) = true := by
  unfold PyData.strOk
  rw [Str.ofString_eq_toList]
  simp only [List.all_toArray, List.all_map, List.all_eq_true, Function.comp, decide_eq_true_eq]
  intro c _
  have := c.valid
  show c.toNat < 0x110000
  have z : c.val.toNat < 0x110000 := by
    rcases this with h | ⟨_, h⟩
    · have h' : c.val.toNat < 0xd800 := h
      omega
    · exact h
  exact z
theorem fine_int {n : Int} (h0 : 0 ≤ n) (h : n < 10 ^ 30) : Fine (.int n) := by
  have l : n.natAbs < 2 ^ 100 := by
    have : (n.natAbs : Int) = n := by omega
    have h2 : (n.natAbs : Int) < 10 ^ 30 := by omega
    have h3 : n.natAbs < 10 ^ 30 := by exact_mod_cast h2
    exact Nat.lt_trans h3 (by decide)
  have l2 : n.natAbs.log2 < 1920 := Nat.lt_trans (PySem.Flt.log2_lt_of (by decide) l) (by decide)
  exact ⟨decide_eq_true l2, Nat.zero_le _, int_text_fits l2, strOk_of _⟩
/-! lists of texts as data -/
theorem strs_lay : ∀ ts : List Str, (∀ t ∈ ts, PyData.strOk t = true) → PyData.canLayAll0 (ts.map PyData.str) = true
  | [], _ => rfl
  | t :: ts, h => by
    show (PyData.strOk t && PyData.canLayAll0 (ts.map PyData.str)) = true
    rw [strs_lay ts fun u m => h u (List.mem_cons_of_mem _ m), h t List.mem_cons_self]
    rfl
theorem strs_flat : ∀ ts : List Str, PyData.depthAll (ts.map PyData.str) = 0
  | [] => rfl
  | t :: ts => by
    show max (PyData.depth (.str t)) (PyData.depthAll (ts.map PyData.str)) = 0
    rw [strs_flat ts]
    rfl
theorem strs_shaped (ts : List Str) (h : ∀ t ∈ ts, PyData.strOk t = true) : SeqAt.shaped (.list (ts.map PyData.str)) = true := by
  have h1 : PyData.canLay0 (.list (ts.map PyData.str)) = true := strs_lay ts h
  have h2 : PyData.depth (.list (ts.map PyData.str)) = 1 := by
    show PyData.depthAll (ts.map PyData.str) + 1 = 1
    rw [strs_flat ts]
  unfold SeqAt.shaped
  rw [h1, h2]
  rfl
theorem strs_all {K : PySem.W.Frag} {H : Hp} : ∀ ts : List Str, DpAll K H (ts.map V.str) (ts.map PyData.str)
  | [] => .nil
  | t :: ts => .cons (.str t) (strs_all ts)
theorem strs_dp {K : PySem.W.Frag} {H : Hp} {p : Addr} {ts : List Str} (h : H p = some (.lst (ts.map V.str))) : Dp K H (.ref p) (.list (ts.map PyData.str)) := .lst (SqL.of h) (strs_all ts)
theorem strs_same (ts : List Str) (h : ∀ t ∈ ts, PyData.strOk t = true) : PyData.eqv (.list (ts.map PyData.str)) (.list (ts.map PyData.str)) = true := SeqAt.eqv_refl _ (strs_lay ts h)
def rRepG : R2 := fun x y H Q => ∃ l k xs, x = .ref l ∧ y = .int k ∧ H l = some (.lst xs) ∧ -(2 ^ 63) ≤ k ∧ k < 2 ^ 63 ∧ xs.length * k.toNat ≤ sizeLine ∧ New H (.lst (List.replicate k.toNat xs).flatten) Q
theorem op_repG {X : Cx} : OpR X (binaryOp .Mult) rRepG := fun pins s σ H x y v u Q I rx ry ⟨l, k, xs, e1, e2, e3, e4, e5, e6, q⟩ => op_rep pins s σ H x y v u Q I rx ry ⟨l, k, xs, e1, e2, e3, e4, e5, e6, fun p n => q.at n⟩
end L2

set_option maxRecDepth 100000
/-! a list hidden while a value is made: what is made then does not lean on it. At the library's level, for any law -/
namespace L2
open PySem PySem.Spec PyProof.Rows
section
variable {X : Cx} {pins : List (Addr × Obj)} {σ : List (Option V)} {H H' : Hp} {s s' : Shared} {a : Addr} {xs : List V} {its : List Value} {n : Nat}
theorem Inv.noFs (I : Inv X pins σ H s) {o : HO} (e : H a = some o) : a ∉ X.fs := fun hb => by
  obtain ⟨_, ob, ho, _⟩ := I.ok.funs.mem hb
  have hx : a ∉ X.ex := fun hx => I.ok.exfs a hx hb
  have := I.base.free a ob ho (I.ok.frf a hb) hx
  rw [e] at this
  cases this
abbrev lstO (its : List Value) (n : Nat) : Obj := { cls := .type "list", data := .seq its.toArray n }
theorem Inv.hide (I : Inv X pins σ H s) (e : H a = some (.lst xs)) (eo : s.heap.get? a = some (lstO its n)) : Inv X (pins ++ [(a, lstO its n)]) σ (del H a) s := by
  have ne : ∀ {b : Addr} {o : HO}, H b = some o → (∀ ys, o ≠ .lst ys) → b ≠ a := fun {b o} h q z => by
    rw [z, e] at h
    exact q xs (Option.some.inj h).symm
  have nn : ∀ {b : Addr}, H b = none → del H a b = none := fun {b} h => by
    unfold del
    split
    · rfl
    · exact h
  refine ⟨I.ok, I.os, I.bare, ⟨I.base.keep, I.base.slot, fun b o q m x => nn (I.base.free b o q m x), I.base.there, fun b ys q => ?_, fun b o u q => ?_, fun b ps q => ?_⟩, I.loc, I.cell, nn I.free, fun x c h => nn (I.freeC x c h), fun p hp => ?_, fun b u hb => ?_, I.len⟩
  · have h := I.base.tups b ys q
    rw [del_ne (ne h fun _ z => nomatch z)]
    exact h
  · have h := I.base.frzs b o u q
    rw [del_ne (ne h fun _ z => nomatch z)]
    exact h
  · obtain ⟨more, h⟩ := I.base.tbls b ps q
    exact ⟨more, by rw [del_ne (ne h fun _ z => nomatch z)]; exact h⟩
  · rw [← List.append_assoc] at hp
    rcases List.mem_append.mp hp with h | h
    · obtain ⟨p1, p2, p3⟩ := I.pin p h
      exact ⟨p1, nn p2, p3⟩
    · rw [List.mem_singleton.mp h]
      refine ⟨eo, del_same, fun z => ?_, I.noFs e, fun v z => nomatch z⟩
      have := I.free
      rw [← show a = X.env.locals from z, e] at this
      cases this
  · have nb : b ≠ a := fun z => by
      rw [z, del_same] at hb
      cases hb
    rw [del_ne nb] at hb
    refine (I.hok b u hb).stay (fun _ _ _ z => z) (fun c hc => ?_) (fun c ys hc => ?_)
    · rw [del_ne (ne hc fun _ z => nomatch z)]
      exact hc
    · rw [del_ne (ne hc fun _ z => nomatch z)]
      exact hc
theorem Inv.back (I : Inv X pins σ H s) (e : H a = some (.lst xs)) (ok : xs.length ≤ sizeLine) (r : Vals xs its) (J : Inv X (pins ++ [(a, lstO its n)]) σ H' s') : H' a = none ∧ Inv X pins σ (upd H' a (.lst xs)) s' := by
  obtain ⟨j1, j2, j3, j4, _⟩ := J.pin (a, lstO its n) (List.mem_append_right _ (List.mem_append_right _ List.mem_cons_self))
  have j1 : s'.heap.get? a = some (lstO its n) := j1
  have j2 : H' a = none := j2
  have ne : ∀ {b : Addr} {o : HO}, H' b = some o → b ≠ a := fun {b o} h z => by
    rw [z, j2] at h
    cases h
  refine ⟨j2, J.ok, J.os, J.bare, ⟨J.base.keep, J.base.slot, fun b o q m x => ?_, J.base.there, fun b ys q => ?_, fun b o u q => ?_, fun b ps q => ?_⟩, J.loc, J.cell, ?_, fun x c h => ?_, fun p hp => ?_, fun b u hb => ?_, J.len⟩
  · have nb : b ≠ a := fun z => by
      have := I.base.free b o q m x
      rw [z, e] at this
      cases this
    rw [upd_ne nb]
    exact J.base.free b o q m x
  · have h := J.base.tups b ys q
    rw [upd_ne (ne h)]
    exact h
  · have h := J.base.frzs b o u q
    rw [upd_ne (ne h)]
    exact h
  · obtain ⟨more, h⟩ := J.base.tbls b ps q
    exact ⟨more, by rw [upd_ne (ne h)]; exact h⟩
  · rw [upd_ne (Ne.symm j3)]
    exact J.free
  · have nc : c ≠ a := fun z => by
      have := I.freeC x c h
      rw [z, e] at this
      cases this
    rw [upd_ne nc]
    exact J.freeC x c h
  · have np : p.1 ≠ a := fun z => by
      have := (I.pin p hp).2.1
      rw [z, e] at this
      cases this
    obtain ⟨p1, p2, p3⟩ := J.pin p (by rw [← List.append_assoc]; exact List.mem_append_left _ hp)
    exact ⟨p1, by rw [upd_ne np]; exact p2, p3⟩
  · by_cases z : b = a
    · subst z
      rw [upd_same] at hb
      have := Option.some.inj hb
      subst this
      exact ⟨ok, its, n, r, j1⟩
    · rw [upd_ne z] at hb
      refine (J.hok b u hb).stay (fun _ _ _ z => z) (fun c hc => ?_) (fun c ys hc => ?_)
      · rw [upd_ne (ne hc)]
        exact hc
      · rw [upd_ne (ne hc)]
        exact hc
/-- a list hidden while a value is made -/
def tHid (t : TE) : TE := fun σ H Q => ∃ (a : Addr) (xs : List V), H a = some (.lst xs) ∧ t σ (del H a) fun v H' => H' a = none → Q v (upd H' a (.lst xs))
theorem pe_hide {e : Expr} {t : TE} (h : PE X e t) : PE X e (tHid t) := ⟨fun pins s σ H Q I ⟨a, xs, ea, k⟩ => by
  obtain ⟨z, its, n, r, eo⟩ := I.hok a _ ea
  refine thn (h.run _ s σ _ _ (I.hide ea eo) k) fun u s1 ⟨v, H1, J1, r1, q1⟩ => ?_
  obtain ⟨j2, J⟩ := I.back ea z r J1
  exact ⟨v, _, J, r1, q1 j2⟩⟩
end
end L2

set_option maxRecDepth 100000
set_option maxHeartbeats 4000000
/-! for .. in enumerate(a tuple), as the hand layer has it for a list -/
namespace PySem
open Sem (wp)
open AutoSeq1 (wpAny_loadPart')
theorem my_enumerate_newT (l : Addr) (items : Array Value) (n : Nat) (dct : Option Addr) (sl : Array (Option Value)) :
    Meets (Builtin.«enumerate.__new__» ⟨[.type "enumerate", .ref l], []⟩) (fun _ R s => s.heap.get? l = some { cls := .type "tuple", dict := dct, data := .seq items n, slots := sl } ∧
      R (.ok (.ret (.ref (s.heap.push { cls := .type "tuple_iterator", data := .fields #[.ref l, .int 0 0] }).objs.size)))
        { s with heap := (s.heap.push { cls := .type "tuple_iterator", data := .fields #[.ref l, .int 0 0] }).push { cls := .type "enumerate", data := .fields #[.none, .bool false, .ref s.heap.objs.size, rawInt 0, .none, .none] } }) :=
  .of_wp fun prog w A R s h => by
    obtain ⟨hp, g, d, tk, os⟩ := s; obtain ⟨hl, h⟩ := h
    have hsub := sub_enumerate
    have hL : Heap.IsTuple (Shared.heap ⟨hp, g, d, tk, os⟩) l items := ⟨_, hl, rfl, n, rfl⟩
    wp_walk using wpAny_loadPart' hl
    refine wpAny_stack_any fun st => wpAny_pure ?_
    split
    · rename_i c _ _ _ _ _
      cases (c == Value.type "enumerate")
      · wp_walk using wpAny_loadPart' hl, wpAny_pyIter_tuple hL
        exact ⟨_, rfl, h⟩
      · wp_walk using wpAny_loadPart' hl, wpAny_pyIter_tuple hL
        exact ⟨_, rfl, h⟩
    · wp_walk using wpAny_loadPart' hl, wpAny_pyIter_tuple hL
      exact ⟨_, rfl, h⟩
section
variable {prog : Program} {w : World} {A : Around} {E : Value → Shared → Prop} {s : Shared}
theorem my_enumerate_tuple {l : Addr} {items : Array Value} {Q : Value → Shared → Prop} (hL : s.heap.IsTuple l items)
    (h : ∀ h', IsEnum h' (s.heap.objs.size + 1) s.heap.objs.size 0 .none → h'.IsTupleIter s.heap.objs.size l 0 → h'.objs.size = s.heap.objs.size + 2 →
      (∀ b o, s.heap.get? b = some o → h'.get? b = some o) → Q (.ref (s.heap.objs.size + 1)) { s with heap := h' }) :
    wpAny (model prog w) A (call (.type "enumerate") [.ref l]) Q E s := by
  obtain ⟨⟨c, dct, dt, sl⟩, hl, hc, n, hd⟩ := hL
  replace hc : c = .type "tuple" := hc
  replace hd : dt = .seq items n := hd
  subst hc hd
  refine callType_new F.called_enumerate (by decide) (F.typeCall_enumerate_1 _) (F.newCall_enumerate_1 _) (fun obj => F.args_object_init_2 obj _) F.entry_enumerate_new
    (my_enumerate_newT l items n dct sl) ⟨hl, ?_⟩
  have hz : (s.heap.push { cls := .type "tuple_iterator", data := .fields #[.ref l, .int 0 0] }).objs.size = s.heap.objs.size + 1 := Heap.size_push ..
  show _ ∧ _
  rw [hz]
  have he : IsEnum ((s.heap.push { cls := .type "tuple_iterator", data := .fields #[.ref l, .int 0 0] }).push
      { cls := .type "enumerate", data := .fields #[.none, .bool false, .ref s.heap.objs.size, rawInt 0, .none, .none] }) (s.heap.objs.size + 1) s.heap.objs.size 0 .none := by
    have := Heap.get?_push_size (s.heap.push { cls := .type "tuple_iterator", data := .fields #[.ref l, .int 0 0] })
      (o := { cls := .type "enumerate", data := .fields #[.none, .bool false, .ref s.heap.objs.size, rawInt 0, .none, .none] }) rfl
    rw [hz] at this; exact this
  refine ⟨⟨_, he, rfl⟩, h _ he ⟨_, Heap.get?_push_of_some _ (Heap.get?_push_size _ rfl), rfl, rfl⟩ (by rw [Heap.size_push, hz]) fun b o x => Heap.get?_push_of_some _ (Heap.get?_push_of_some _ x)⟩
end
end PySem
namespace L2
open PySem PySem.Spec PyProof.Rows
/-- the tuple at a, each item in a new pair -/
def IteT (K : PySem.W.Frag) (a : Addr) : It :=
  ⟨fun i H => ∃ (xs : List V) (x : V), SqT K H a xs ∧ xs[i]? = some x, fun i H v H' => ∃ T x, v = .ref T ∧ H T = none ∧ H' = upd H T (.tup [.int (i : Nat), x]) ∧ ∀ xs, SqT K H a xs → xs[i]? = some x, fun i H => ∃ xs : List V, SqT K H a xs ∧ xs.length = i⟩
theorem turn_enumT {P : Program} {w : World} {K : PySem.W.Frag} {elts : List Expr} {kk : Nat} {tpos : Pos} (a e it : Addr) (nae : a ≠ e) (nai : a ≠ it) :
    Turn P w K (.Tuple elts kk tpos) (IteT K a) [e, it] e (fun i h => (∃ old, IsEnum h e it ((i : Nat) : Int) old) ∧ h.IsTupleIter it a i ∧ e ≠ it) where
  mem := by simp
  obj := fun i h st b hb => by
    obtain ⟨⟨old, he⟩, ⟨o, ho, hc, hd⟩, _⟩ := st
    have e' : b = e ∨ b = it := by simpa using hb
    rcases e' with z | z
    · rw [z]; exact ⟨_, he, fun v q => nomatch q⟩
    · rw [z]; exact ⟨o, ho, fun v q => by rw [hd] at q; cases q⟩
  keep := fun i h h' st k => by
    obtain ⟨⟨old, he⟩, ⟨o, ho, r⟩, hne⟩ := st
    exact ⟨⟨old, k e (by simp) _ he⟩, ⟨o, k it (by simp) o ho, r⟩, hne⟩
  item := by
    intro X hP hw hK hc i pins s σ H E I hf st hg
    subst hP hw hK
    obtain ⟨⟨old, he⟩, hit, hne⟩ := st
    obtain ⟨xs, x, hq, hx⟩ := hg
    obtain ⟨its, rv, p, hz⟩ := I.tuple hq
    obtain ⟨u, hu, ru⟩ := rv.get hx
    have hel : e < s.heap.objs.size := Heap.lt_size he
    have hil : it < s.heap.objs.size := by obtain ⟨_, q, _⟩ := hit; exact Heap.lt_size q
    have hi : i < its.toArray.size := by
      have := (List.getElem?_eq_some_iff.mp hu).1
      simpa using this
    refine wpAny_pyNext_enum_itemD (Draws.tuple (prog := X.prog) (w := X.w) (A := X.A.in1) (I.ok.hd hc) it a nai its.toArray) he ⟨hit, show s.heap.IsTuple a its.toArray from p⟩ hi hne (by simp [Ne.symm nae, hne]) fun x2 h' tk hx2 ho hit' hT hsz hk => ?_
    have ex : x2 = u := by
      have e1 : its.toArray[i]? = some u := by simpa using hu
      rw [e1] at hx2
      exact (Option.some.inj hx2).symm
    subst ex
    refine ⟨_, rfl, wpAny_letOwnedTupleGo_enum (s := { s with heap := h', toks := tk + 1 }) ho fun h'' he' sb => ?_⟩
    have hT2 : h''.get? s.heap.objs.size = some { cls := .type "tuple", data := .seq #[.int i tk, x2] } := (sb.2 _ (Nat.ne_of_gt hel)).trans hT
    have new : ObjOk X.prog X.w (upd H s.heap.objs.size (.tup [.int (i : Nat), x])) h'' s.heap.objs.size (.tup [.int (i : Nat), x]) :=
      ⟨by show 2 ≤ sizeLine; decide, [.int i tk, x2], .cons ⟨_, rfl⟩ (.cons ru .nil), ⟨_, hT2, rfl, _, rfl⟩⟩
    have I1 : Inv X pins σ (upd H s.heap.objs.size (.tup [.int (i : Nat), x])) { s with heap := h'', toks := tk + 1 } :=
      I.turnedNew (ch := [e, it]) (fun b ob hb q => (sb.2 b (fun z => hb (by simp [z]))).trans (hk b ob (fun z => hb (by simp [z])) (fun z => hb (by simp [z])) q)) hf (Nat.le_refl _) new
    refine ⟨.ref s.heap.objs.size, _, I1, rfl, ⟨_, x, rfl, I.hok.fresh (Nat.le_refl _), rfl, fun ys hy => by rw [I.tuple_inj hy hq]; exact hx⟩, ⟨⟨x2, ?_⟩, ?_, hne⟩, fun b hb => ?_⟩
    · have e1 : ((i + 1 : Nat) : Int) = (i : Int) + 1 := by omega
      rw [e1]; exact he'
    · obtain ⟨o, ho2, r⟩ := hit'.1
      exact ⟨o, (sb.2 it (Ne.symm hne)).trans ho2, r⟩
    · have hb' : b < s.heap.objs.size := by
        have e' : b = e ∨ b = it := by simpa using hb
        rcases e' with z | z
        · rw [z]; exact hel
        · rw [z]; exact hil
      rw [upd_ne (Nat.ne_of_lt hb')]
      exact (hf b hb).1
  done := by
    intro X hP hw hK hc i pins s σ H E I hf st hg
    subst hP hw hK
    obtain ⟨⟨old, he⟩, hit, hne⟩ := st
    obtain ⟨xs, hq, hx⟩ := hg
    obtain ⟨its, rv, p, hz⟩ := I.tuple hq
    obtain ⟨f0, f1, f2, f3, f4, f5⟩ := hf it (by simp)
    have hl := rv.length
    have ei : i = its.toArray.size := by simp; omega
    subst ei
    exact wpAny_pyNext_enum_endD (Draws.tuple (prog := X.prog) (w := X.w) (A := X.A.in1) (I.ok.hd hc) it a nai its.toArray) he ⟨hit, show s.heap.IsTuple a its.toArray from p⟩ fun h' eb => ⟨rfl, I.turned (t' := s.toks) (fun b o hb q => eb b o hb q) f0 f1 f3 f4 f5⟩
  self := fun A i s Q E st h => let ⟨⟨_, he⟩, _⟩ := st; wpAny_pyIter_enum he h
def iEnumT (K : PySem.W.Frag) (ta : TA) : TI := fun σ H R => ta σ H fun vs H1 => ∃ a xs, vs = [.ref a] ∧ SqT K H1 a xs ∧ R (IteT K a) H1
theorem pi_enumT {X : Cx} {e : Expr} {ta : TA} {p pos tpos : Pos} {elts : List Expr} {kk : Nat} (hg : Gl X "enumerate") (hm : X.mg "enumerate" = none) (ha : PA X [e] ta) (hs : starEach [e] X.env = [(false, eval e X.env)] := by rfl) :
    PI X (.Tuple elts kk tpos) (.Call (.Name "enumerate" p) [e] [] pos) (iEnumT X.K ta) := by
  refine ⟨fun pins s σ H R I h => ?_⟩
  refine Call_ (ld_blt I hg hm boot_enumerate (PyProof.Rows.callWith_type1 (thn (ha.run pos pins s σ H _ I h) fun us s1 ⟨vs, H1, I1, r1, q1⟩ => ?_) hs rfl))
  obtain ⟨a, xs, ex, hq, q⟩ := q1
  subst ex
  cases r1 with
  | cons r rr =>
    cases rr
    cases r
    obtain ⟨its, rv, p', hz⟩ := I1.tuple hq
    have hal : a < s1.heap.objs.size := by obtain ⟨o, ho, _⟩ := p'; exact Heap.lt_size ho
    refine my_enumerate_tuple (show s1.heap.IsTuple a its.toArray from p') fun h' he hit hsz hk => wpAny_pyIter_enum he ?_
    have I2 : Inv X pins σ H1 { s1 with heap := h' } := I1.kept (t' := s1.toks) hk
    refine ⟨s1.heap.objs.size + 1, [s1.heap.objs.size + 1, s1.heap.objs.size], _, _, H1, rfl, I2, turn_enumT a (s1.heap.objs.size + 1) s1.heap.objs.size (Nat.ne_of_lt (Nat.lt_succ_of_lt hal)) (Nat.ne_of_lt hal), ⟨⟨.none, he⟩, hit, Nat.succ_ne_self _⟩, fun b hb => ?_, q⟩
    have e' : b = s1.heap.objs.size + 1 ∨ b = s1.heap.objs.size := by simpa using hb
    have hle : s1.heap.objs.size ≤ b := by
      rcases e' with z | z
      · rw [z]; exact Nat.le_add_right _ _
      · rw [z]; exact Nat.le_refl _
    exact I1.fpOk hle (I1.hok.fresh hle)
/-- over enumerate(a tuple that stands) -/
theorem for_enumT {K : PySem.W.Frag} {a : Addr} {xs : List V} {g : TG} {tb : TS} {D : Ends} {σ : St} {H : Hp} (Pv : Nat → St → Hp → Prop) (h0 : Pv 0 σ H) (hl : ∀ i σ H, i ≤ xs.length → Pv i σ H → SqT K H a xs)
    (hs : ∀ i x σ H T H', xs[i]? = some x → Pv i σ H → H T = none → Same H H' → H' T = some (.tup [.int (i : Nat), x]) → g (.ref T) σ H' fun σ2 H2 => tb { D with nx := Pv (i + 1), ct := Pv (i + 1), bk := D.nx } σ2 H2)
    (hd : ∀ σ H, Pv xs.length σ H → D.nx σ H) :
    ∃ W : Nat → Nat → St → Hp → Prop, (∃ m, W 0 m σ H) ∧ ∀ i m σ H, W i m σ H →
      ((IteT K a).stop i H ∧ D.nx σ H) ∨ ((IteT K a).go i H ∧ ∃ N : St → Hp → Prop, (∀ σ' H', N σ' H' → ∃ m', m' < m ∧ W (i + 1) m' σ' H') ∧ ∀ x H', (IteT K a).yld i H x H' → g x σ H' fun σ2 H2 => tb { D with nx := N, ct := N, bk := D.nx } σ2 H2) := by
  refine ⟨fun i m σ H => m = xs.length - i ∧ i ≤ xs.length ∧ Pv i σ H, ⟨xs.length, by simp, Nat.zero_le _, h0⟩, ?_⟩
  rintro i m σ H ⟨rfl, hi, p⟩
  have q := hl i σ H hi p
  by_cases hlt : i < xs.length
  · refine .inr ⟨⟨xs, xs[i], q, by simp [hlt]⟩, Pv (i + 1), fun σ' H' p' => ⟨xs.length - (i + 1), by omega, rfl, hlt, p'⟩, fun v H' y => ?_⟩
    obtain ⟨T, x, e, n, e2, y⟩ := y
    subst e e2
    exact hs i x σ H T _ (y xs q) p n (sameNew n _) upd_same
  · have e : i = xs.length := by omega
    subst e
    exact .inl ⟨⟨xs, q, rfl⟩, hd σ H p⟩
end L2

set_option maxRecDepth 100000
set_option maxHeartbeats 4000000
/-! len(o), o[i], ==, != of an own class with its own __len__, __getitem__, __eq__ -/
namespace PySem
open PySem.W PySem.Calls PyProof.Rows Builtin
section
variable {prog : Program} {w : World} {A : Around} {E : Value → Shared → Prop} {s : Shared} {K : Frag} {x C L f : Addr} {h₀ : Heap} {m : Str → Option Value} {ox : Obj} {od : Option Obj} {b tb : Value}
theorem my_objNe (hu : A.units < cLine) (X : K.In s.heap) (I : InstAt s.heap x ox C od) (hs : findIn K (.ref C) "__eq__" = some (some (.ref f))) (hf : isFn K (.ref f) = true) {Q : Fin → Shared → Prop}
    (hcall : wpAny (model prog w) A (call (.ref f) [.ref x, b]) (fun v s' => ∃ r, v = .bool r ∧ Q (.done (.ret (.bool (!r)))) s') E s) : wpAny (model prog w) A (Builtin.«object.__ne__» ⟨[.ref x, b], []⟩) Q E s := by
  unfold Builtin.«object.__ne__»
  repeat (first
    | with_reducible refine wpAny_cRoomFor hu ?_
    | (refine wpAny_bind (m := callSpecialIfBound? (.ref x) (Str.ofString "__eq__") [b])
        (ifBound_K X I hs hf (wpAny_mono hcall (fun r s' hr => by
          obtain ⟨b, rfl, hq⟩ := hr
          repeat (first | exact hq | exact wpAny_pure hq | exact wpAny_truthy_bool hq | (refine wpAny_bind (m := truthy (.bool _)) (wpAny_truthy_bool ?_)) | wp_step)) fun _ _ e => e)))
    | wp_step)
theorem my_ifBoundB {M : Model} {name : Str} {id : String} {args : List Value} {Q : Option Value → Shared → Prop} (X : K.In s.heap) (I : InstAt s.heap x ox C od) (hs : findIn K (.ref C) name = some (some (.builtin id))) (S : Slot "object" name id)
    (h : wpAny M A (call (.builtin id) (.ref x :: args)) (fun v => Q (some v)) E s) : wpAny M A (callSpecialIfBound? (.ref x) name args) Q E s := by
  simp only [callSpecialIfBound?, bindSpecialIfBound?]
  refine wpAny_holding (wpAny_bind (wpAny_bind (wpAny_bind (I.type.here ((looks_findIn X hs).here ?_)))))
  simp only [S.bind]
  refine wpAny_bind (wpAny_askSetting (wpAny_ite ?_))
  have fin : wpAny M A (call (.builtin id) ([.ref x] ++ args) >>= fun v => pure (some v)) Q E s := wpAny_bind (wpAny_mono h (fun v s' h' => wpAny_pure h') fun _ _ h' => h')
  split
  · exact wpAny_bind (wpAny_pure (wpAny_pure fin))
  · exact wpAny_tryCatch (wpAny_bind (wpAny_pure (wpAny_pure fin)))
theorem my_ne {Q : Value → Shared → Prop} (hu : A.units + 1 < cLine) (F : Fr h₀ L s.heap m) (X₀ : K.In h₀) (I : InstAt s.heap x ox C od) (hb : Looks (model prog w) s.heap (typeOf b) tb) (hn : notFirst K C tb = true)
    (hne : findIn K (.ref C) "__ne__" = some (some (.builtin "object.__ne__"))) (hob : subIn K (.ref C) (.type "object") = some true) (hs : findIn K (.ref C) "__eq__" = some (some (.ref f))) (hf : isFn K (.ref f) = true)
    (h : wpAny (model prog w) A.in1 (call (.ref f) [.ref x, b]) (fun v s' => ∃ r, v = .bool r ∧ Q (.bool (!r)) s') E s) : wpAny (model prog w) A (richCompare .NotEq (.ref x) b) Q E s := by
  have X := X₀.keeps F.keep
  have one : wpAny (model prog w) A (tryCompare (.ref x) "__ne__" b) (fun r s' => ∃ v, r = some v ∧ Q v s') E s := by
    unfold tryCompare
    refine wpAny_bind (my_ifBoundB X I hne PySem.F.cmp_object.ne (wpAny_call (codeAny_call_builtin PySem.F.cmp_object.ne.plain PySem.F.cmpEntry_ne (check_slot PySem.F.cmpKind_ne PySem.F.cmpSplit_ne (I.type.andThen (looks_subIn X hob)) (PySem.F.cmpArgs_ne _ _) (my_objNe (A := A.in1) (by show A.units + 1 < cLine; exact hu) X I hs hf (wpAny_mono h (fun v s' hv => ?_) fun _ _ e => e))))))
    obtain ⟨b, rfl, hq⟩ := hv
    first | exact ⟨b, rfl, wpAny_pure ⟨_, rfl, hq⟩⟩ | exact ⟨b, rfl, wpAny_pure (wpAny_pure ⟨_, rfl, hq⟩)⟩ | exact ⟨b, rfl, _, rfl, hq⟩
  unfold richCompare
  simp only [oneThing_ref]
  refine wpAny_holding (wpAny_bind (wpAny_cRoomFor (Nat.lt_of_succ_lt hu) ?_))
  rw [cmpInfo_NotEq]
  dsimp only
  refine wpAny_bind (I.type.here (wpAny_bind (hb.here ?_)))
  split
  · rename_i q
    have e : subIn K tb (.ref C) = some false := by
      rcases Bool.or_eq_true_iff.mp hn with e | e
      · rw [beq_iff_eq.mp e] at q; simp at q
      · exact beq_iff_eq.mp e
    refine wpAny_bind ((looks_subIn X e).here ?_)
    simp only [Bool.false_eq_true, if_false]
    refine wpAny_bind (wpAny_mono one (fun r s' z => ?_) fun _ _ e => e)
    obtain ⟨v, rfl, hq⟩ := z
    exact wpAny_pure hq
  · refine wpAny_bind (wpAny_pure ?_)
    simp only [Bool.false_eq_true, if_false]
    refine wpAny_bind (wpAny_mono one (fun r s' z => ?_) fun _ _ e => e)
    obtain ⟨v, rfl, hq⟩ := z
    exact wpAny_pure hq
end
end PySem
namespace L2
open PySem PySem.Spec PyProof.Rows
section
variable {X : Cx} {CX : CXT} {k : Nat} {C f : Addr} {fd : FuncData} {ps : List Str} {sp : Sp} {E : XK}
theorem run_own1 {pins : List (Addr × Obj)} {σ : St} {H : Hp} {s : Shared} {Q : VK} {us : List Value} {vs : List V} (F : FnOk X.prog X.w X.K X.mg X.base CX k f fd ps sp) (hr : Room (k + 1) X.A) (hb : Binds X.K fd ps []) (hx : Passes CX X E)
    (I : Inv X pins σ H s) (r : Vals vs us) (h : sp vs H Q E) : wpAny (model X.prog X.w) X.A.in1 (call (.ref f) us) (EP X pins σ Q) X.xe s := by
  have hl : us.length = ps.length := by rw [← r.length]; exact F.len _ _ _ _ h
  have hb2 := hb s us I.kIn (by simpa using hl)
  rw [List.append_nil] at hb2
  refine wpAny_call (codeAny_mono (F.run X.A.in1 X.stack s H ⟨us, []⟩ us vs Q E hr.in1 I.env0.in1 hb2 r h) fun r s' hq => ?_)
  cases r with
  | error e => exact hx pins σ H s e s' I hq
  | ok fl =>
    cases fl with
    | ret u => exact I.after hq
    | next => exact False.elim hq
    | brk => exact False.elim hq
    | cont => exact False.elim hq
theorem call_lenO (F : FnOk X.prog X.w X.K X.mg X.base CX k f fd ps sp) (hr : Room (k + 1) X.A) (hb : Binds X.K fd ps []) (hx : Passes CX X E) (hs : PySem.W.findIn X.K (.ref C) "__len__" = some (some (.ref f))) (hf : PySem.W.isFn X.K (.ref f) = true) :
    CallR X (.builtin "len") (fun xs H Q => ∃ (a dx : Addr) (fs : List (Str × V)), xs = [.ref a] ∧ H a = some (.ins C dx fs) ∧ sp [.ref a] H (fun v H' => ∃ n : Int, v = .int n ∧ 0 ≤ n ∧ n < 2 ^ 63 ∧ Q (.int n) H') E) := by
  intro pins s σ H xs us Q I r h
  obtain ⟨a, dx, fs, rfl, ha, h⟩ := h
  obtain rfl := Vals.ref1 r
  obtain ⟨mA, J, _⟩ := ins_get I.hok ha
  obtain ⟨od, J, _⟩ := J.look
  obtain ⟨m, hF⟩ := I.fr
  refine PySem.W.len_K hF I.ok.mod.kin J hs hf (wpAny_mono (run_own1 F hr hb hx I (vs := [.ref a]) (.cons rfl .nil) h) (fun r s' z => ?_) fun _ _ y => y)
  obtain ⟨v, H', I', rv, n, rfl, h0, h1, q⟩ := z
  obtain ⟨t, rfl⟩ := rv
  exact ⟨⟨h0, h1⟩, .int n, H', I'.tok _, ⟨_, rfl⟩, q⟩
/-- o[i] -/
def tIxO (C : Addr) (sp : Sp) (E : XK) (ta tb : TE) : TE := fun σ H Q => ta σ H fun x H1 => tb σ H1 fun y H2 => ∃ (a dx : Addr) (fs : List (Str × V)), x = .ref a ∧ H2 a = some (.ins C dx fs) ∧ sp [.ref a, y] H2 Q E
theorem pe_ixO {o i : Expr} {ta tb : TE} {pos : Pos} (F : FnOk X.prog X.w X.K X.mg X.base CX k f fd ps sp) (hr : Room (k + 1) X.A) (hb : Binds X.K fd ps []) (hx : Passes CX X E) (hs : PySem.W.findIn X.K (.ref C) "__getitem__" = some (some (.ref f))) (hf : PySem.W.fnIn X.K f = true) (hfn : PySem.W.isFn X.K (.ref f) = true)
    (ha : PE X o ta) (hi : PE X i tb) (hsl : ∀ ov iv, subscripted i true ov iv = runValue (.builtin "lifetime.subscript" ⟨[ov, iv], []⟩)) : PE X (.Subscript o i pos) (tIxO C sp E ta tb) := by
  refine ⟨fun pins s σ H Q I h => ?_⟩
  refine Subscript_ (thn (ha.run pins s σ H _ I h) fun v s1 ⟨x, H1, I1, r1, q1⟩ => thn (hi.run pins s1 σ H1 _ I1 q1) fun u s2 ⟨y, H2, I2, r2, q2⟩ => ?_)
  obtain ⟨a, dx, fs, rfl, e, q⟩ := q2
  obtain rfl : v = Value.ref a := r1
  obtain ⟨mA, J, _⟩ := ins_get I2.hok e
  obtain ⟨od, J, _⟩ := J.look
  obtain ⟨m, hF⟩ := I2.fr
  exact PySem.W.sub_K hF I2.ok.mod.kin J hs hf hfn (run_own1 F hr hb hx I2 (vs := [.ref a, y]) (.cons rfl (.cons r2 .nil)) q) (hsl _ _)
/-- a == b by a's own __eq__ -/
def rEqO (K : PySem.W.Frag) (C : Addr) (sp : Sp) (E : XK) : R2 := fun x y H Q => ∃ (a dx : Addr) (fs : List (Str × V)) (t : Value), x = .ref a ∧ H a = some (.ins C dx fs) ∧ TyX K H y t ∧ PySem.W.notFirst K C t = true ∧ sp [.ref a, y] H (fun v H' => ∃ b, v = .bl b ∧ Q (.bl b) H') E
theorem op_eqO (F : FnOk X.prog X.w X.K X.mg X.base CX k f fd ps sp) (hr : Room k X.A) (hb : Binds X.K fd ps []) (hx : Passes CX X E) (hs : PySem.W.findIn X.K (.ref C) "__eq__" = some (some (.ref f))) (hf : PySem.W.isFn X.K (.ref f) = true) : OpR X (compareOp .Eq) (rEqO X.K C sp E) := by
  intro pins s σ H x y v u Q I rx ry h
  obtain ⟨a, dx, fs, t, rfl, ha, ty, nf, h⟩ := h
  obtain rfl : v = Value.ref a := rx
  obtain ⟨P, kx, hp, _⟩ := kit_of I ry ty
  obtain ⟨mA, J, _⟩ := ins_get I.hok ha
  obtain ⟨od, J, _⟩ := J.look
  obtain ⟨m, hF⟩ := I.fr
  show wpAny (model X.prog X.w) X.A (richCompare .Eq (.ref a) u) _ _ _
  refine PySem.W.cmp_K (op := .Eq) hr.units0 hF I.ok.mod.kin J (kx.ty _ _ I.kIn hp) nf hs hf (wpAny_mono (run_fn F hr hb .nil hx I (us := [.ref a, u]) (vs := [.ref a, y]) (.cons rfl (.cons ry .nil)) h) (fun r s' z => ?_) fun _ _ e => e)
  obtain ⟨v, H', I', rv, b, rfl, q⟩ := z
  cases rv
  exact ⟨.bl b, H', I', rfl, q⟩
/-- a != b by a's own __eq__ -/
def rNeO (K : PySem.W.Frag) (C : Addr) (sp : Sp) (E : XK) : R2 := fun x y H Q => ∃ (a dx : Addr) (fs : List (Str × V)) (t : Value), x = .ref a ∧ H a = some (.ins C dx fs) ∧ TyX K H y t ∧ PySem.W.notFirst K C t = true ∧ sp [.ref a, y] H (fun v H' => ∃ b, v = .bl b ∧ Q (.bl (!b)) H') E
theorem op_neO (F : FnOk X.prog X.w X.K X.mg X.base CX k f fd ps sp) (hr : Room (k + 1) X.A) (hb : Binds X.K fd ps []) (hx : Passes CX X E) (hs : PySem.W.findIn X.K (.ref C) "__eq__" = some (some (.ref f))) (hf : PySem.W.isFn X.K (.ref f) = true)
    (hne : PySem.W.findIn X.K (.ref C) "__ne__" = some (some (.builtin "object.__ne__"))) (hob : PySem.W.subIn X.K (.ref C) (.type "object") = some true) (hu : X.A.units + 1 < cLine) : OpR X (compareOp .NotEq) (rNeO X.K C sp E) := by
  intro pins s σ H x y v u Q I rx ry h
  obtain ⟨a, dx, fs, t, rfl, ha, ty, nf, h⟩ := h
  obtain rfl : v = Value.ref a := rx
  obtain ⟨P, kx, hp, _⟩ := kit_of I ry ty
  obtain ⟨mA, J, _⟩ := ins_get I.hok ha
  obtain ⟨od, J, _⟩ := J.look
  obtain ⟨m, hF⟩ := I.fr
  show wpAny (model X.prog X.w) X.A (richCompare .NotEq (.ref a) u) _ _ _
  refine PySem.my_ne hu hF I.ok.mod.kin J (kx.ty _ _ I.kIn hp) nf hne hob hs hf (wpAny_mono (run_own1 F hr hb hx I (us := [.ref a, u]) (vs := [.ref a, y]) (.cons rfl (.cons ry .nil)) h) (fun r s' z => ?_) fun _ _ e => e)
  obtain ⟨v, H', I', rv, b, rfl, q⟩ := z
  cases rv
  exact ⟨b, rfl, .bl (!b), H', I', rfl, q⟩
end
section
variable {X : Cx} {CX : CXT} {k : Nat} {C f : Addr} {fd : FuncData} {ps : List Str} {sp : Sp} {E : St → XK}
theorem run_own1S {pins : List (Addr × Obj)} {σ : St} {H : Hp} {s : Shared} {Q : VK} {us : List Value} {vs : List V} (F : FnOk X.prog X.w X.K X.mg X.base CX k f fd ps sp) (hr : Room (k + 1) X.A) (hb : Binds X.K fd ps []) (hx : PassesAt CX X σ (E σ))
    (I : Inv X pins σ H s) (r : Vals vs us) (h : sp vs H Q (E σ)) : wpAny (model X.prog X.w) X.A.in1 (call (.ref f) us) (EP X pins σ Q) X.xe s := by
  have hl : us.length = ps.length := by rw [← r.length]; exact F.len _ _ _ _ h
  have hb2 := hb s us I.kIn (by simpa using hl)
  rw [List.append_nil] at hb2
  refine wpAny_call (codeAny_mono (F.run X.A.in1 X.stack s H ⟨us, []⟩ us vs Q (E σ) hr.in1 I.env0.in1 hb2 r h) fun r s' hq => ?_)
  cases r with
  | error e => exact hx pins H s e s' I hq
  | ok fl =>
    cases fl with
    | ret u => exact I.after hq
    | next => exact False.elim hq
    | brk => exact False.elim hq
    | cont => exact False.elim hq
/-- o[i], what it lets out told at the slots -/
def tIxOS (C : Addr) (sp : Sp) (E : St → XK) (ta tb : TE) : TE := fun σ H Q => ta σ H fun x H1 => tb σ H1 fun y H2 => ∃ (a dx : Addr) (fs : List (Str × V)), x = .ref a ∧ H2 a = some (.ins C dx fs) ∧ sp [.ref a, y] H2 Q (E σ)
theorem pe_ixOS {o i : Expr} {ta tb : TE} {pos : Pos} (F : FnOk X.prog X.w X.K X.mg X.base CX k f fd ps sp) (hr : Room (k + 1) X.A) (hb : Binds X.K fd ps []) (hx : ∀ σ, PassesAt CX X σ (E σ)) (hs : PySem.W.findIn X.K (.ref C) "__getitem__" = some (some (.ref f))) (hf : PySem.W.fnIn X.K f = true) (hfn : PySem.W.isFn X.K (.ref f) = true)
    (ha : PE X o ta) (hi : PE X i tb) (hsl : ∀ ov iv, subscripted i true ov iv = runValue (.builtin "lifetime.subscript" ⟨[ov, iv], []⟩)) : PE X (.Subscript o i pos) (tIxOS C sp E ta tb) := by
  refine ⟨fun pins s σ H Q I h => ?_⟩
  refine Subscript_ (thn (ha.run pins s σ H _ I h) fun v s1 ⟨x, H1, I1, r1, q1⟩ => thn (hi.run pins s1 σ H1 _ I1 q1) fun u s2 ⟨y, H2, I2, r2, q2⟩ => ?_)
  obtain ⟨a, dx, fs, rfl, e, q⟩ := q2
  obtain rfl : v = Value.ref a := r1
  obtain ⟨mA, J, _⟩ := ins_get I2.hok e
  obtain ⟨od, J, _⟩ := J.look
  obtain ⟨m, hF⟩ := I2.fr
  exact PySem.W.sub_K hF I2.ok.mod.kin J hs hf hfn (run_own1S F hr hb (hx σ) I2 (vs := [.ref a, y]) (.cons rfl (.cons r2 .nil)) q) (hsl _ _)
end
end L2

set_option maxRecDepth 100000
set_option maxHeartbeats 4000000
/-! a dict whose keys are whole numbers, texts and None, whose values are all True; y in o by o's own __contains__ -/
namespace L2
open PySem PySem.Spec PyProof.Rows
def kO : Option Key → V
  | none => .non
  | some k => kV k
def knO (P : Program) (w : World) (a : Addr) (ks : List (Option Key)) : HO := .ext fun h => ks.length ≤ sizeLine ∧ (a == sysModules) = false ∧ h.DictOf (noneKind P w) a (ks.map fun k => (k, Value.bool true))
section
variable {P : Program} {w : World} {H : Hp} {h : Heap} {a : Addr} {ks : List (Option Key)}
theorem knO_ok (z : ks.length ≤ sizeLine) (hd : (a == sysModules) = false) (dd : h.DictOf (noneKind P w) a (ks.map fun k => (k, Value.bool true))) : ObjOk P w H h a (knO P w a ks) :=
  ⟨⟨z, hd, dd⟩, (let ⟨o, _, _, e, _⟩ := dd; ⟨o, e⟩), fun h1 h2 p k => ⟨p.1, p.2.1, p.2.2.at k⟩⟩
theorem kO_is {k : Option Key} {u : Value} (r : RelV (kO k) u) : (noneKind P w).is k u = true := by
  cases k with
  | none => cases (show u = Value.none from r); rfl
  | some k =>
    show nkIs (some k) u = true
    exact kV_is (P := P) (w := w) r
theorem is_kO {k : Option Key} {u : Value} (r : (noneKind P w).is k u = true) : RelV (kO k) u := by
  cases k with
  | none => exact nk_none r
  | some k => exact keyIs_rel r
def knHas (ks : List (Option Key)) (k : Option Key) : Bool := ks.any fun j => decide (j = k)
theorem knHas_mem {ks : List (Option Key)} {k : Option Key} : knHas ks k = true ↔ k ∈ ks := by
  unfold knHas
  rw [List.any_eq_true]
  exact ⟨fun ⟨x, hx, e⟩ => of_decide_eq_true e ▸ hx, fun h => ⟨k, h, decide_eq_true rfl⟩⟩
theorem valueAt_kn (k : Option Key) : ∀ ks : List (Option Key), (valueAt (ks.map fun k => (k, Value.bool true)) k).isSome = knHas ks k
  | [] => rfl
  | j :: ks => by
    have ih := valueAt_kn k ks
    unfold knHas valueAt at ih ⊢
    rw [List.map_cons, List.find?_cons, List.any_cons]
    by_cases e : j = k
    · rw [e]
      simp
    · simp only [decide_eq_false e]
      rw [ih]
      simp
theorem stored_kn {k : Option Key} (n : k ∉ ks) : stored (ks.map fun k => (k, Value.bool true)) k (Value.bool true) = (ks ++ [k]).map fun k => (k, Value.bool true) := by
  unfold stored
  rw [if_neg, List.map_append]
  · rfl
  · rw [List.any_map, List.any_eq_true]
    rintro ⟨x, hx, e⟩
    exact n (of_decide_eq_true e ▸ hx)
end
section
variable {X : Cx} {pins : List (Addr × Obj)} {σ : St} {H : Hp} {s : Shared} {a : Addr} {ks : List (Option Key)}
theorem kn_get (I : Inv X pins σ H s) (ha : H a = some (knO X.prog X.w a ks)) : ks.length ≤ sizeLine ∧ (a == sysModules) = false ∧ s.heap.DictOf (noneKind X.prog X.w) a (ks.map fun k => (k, Value.bool true)) := (I.hok a _ ha).1
/-- y not in d -/
def rKnNot (P : Program) (w : World) : R2 := fun x y H Q => ∃ a ks k, y = .ref a ∧ x = kO k ∧ H a = some (knO P w a ks) ∧ Q (.bl (!knHas ks k)) H
theorem op_knNot : OpR X (compareOp .NotIn) (rKnNot X.prog X.w) := by
  intro pins s σ H x y v u Q I rx ry h
  obtain ⟨a, ks, k, rfl, rfl, ha, q⟩ := h
  cases (show u = Value.ref a from ry)
  obtain ⟨_, hd, dd⟩ := kn_get I ha
  refine wpAny_notIn_of (kO_is (P := X.prog) (w := X.w) rx) hd dd.mapOf ?_
  rw [valueAt_kn]
  exact ⟨.bl (!knHas ks k), H, I.tok _, rfl, q⟩
/-- d[y] = True, y not there yet -/
def rKnSet (P : Program) (w : World) : TSet := fun o i v H Q => ∃ a ks k, o = .ref a ∧ i = kO k ∧ v = .bl true ∧ H a = some (knO P w a ks) ∧ k ∉ ks ∧ ks.length < sizeLine ∧ Q (upd H a (knO P w a (ks ++ [k])))
theorem set_kn : PSet X (rKnSet X.prog X.w) := by
  intro pins s σ H o i v ov iv u Q I ro ri rv h
  obtain ⟨a, ks, k, rfl, rfl, rfl, ha, nk, room, q⟩ := h
  cases (show ov = Value.ref a from ro)
  cases (show u = Value.bool true from rv)
  obtain ⟨_, hd, dd⟩ := kn_get I ha
  refine wpAny_setItem_pairs (hsz := by rw [List.length_map]; omega) (kO_is (P := X.prog) (w := X.w) ri) dd fun h' dd' hs => ?_
  rw [stored_kn nk] at dd'
  have he : ∃ q, h'.get? a = some q := let ⟨q, _, _, hq, _⟩ := dd'; ⟨q, hq⟩
  exact ⟨_, d_write I (by rw [ha]; exact True.intro) hs he (knO_ok (by rw [List.length_append]; exact room) hd dd'), q⟩
/-- list(d) -/
def rKnList (P : Program) (w : World) : List V → Hp → VK → Prop := fun xs H Q => ∃ p ks, xs = [.ref p] ∧ H p = some (knO P w p ks) ∧ ∀ q H', H q = none → Same H H' → H' q = some (.lst (ks.map kO)) → Q (.ref q) H'
theorem call_knList (hc : X.calm = true) : CallR X (.type "list") (rKnList X.prog X.w) := by
  intro pins s σ H xs us Q I r h
  obtain ⟨p, ks, e, hk, q⟩ := h
  subst e
  obtain ⟨u, eu, rx⟩ := vals1 r
  subst eu
  obtain rfl : u = Value.ref p := rx
  obtain ⟨z, lo, dd⟩ := kn_get I hk
  obtain ⟨ep, hat⟩ := dd.dictAt
  have hl : (ks.map fun k => ((k, Value.bool true) : Option Key × Value)).length = ks.length := List.length_map _
  refine PySem.W.kdl_call (PySem.W.kdl_dict (knd := noneKind X.prog X.w) (ep := ep) lo) (I.ok.hd hc) hat (by rw [hl]; exact z) fun h' tk acc' c' hkeep hS hacc => ?_
  have hn : H s.heap.objs.size = none := I.hok.fresh (Nat.le_refl _)
  refine ⟨.ref s.heap.objs.size, upd H s.heap.objs.size (.lst (ks.map kO)), I.laid hkeep (Nat.le_refl _) (show ObjOk X.prog X.w _ _ _ (.lst (ks.map kO)) from ⟨?_, acc'.toList, c', ?_, ?_⟩), rfl, q _ _ hn (sameNew hn _) upd_same⟩
  · rw [List.length_map]; exact z
  · have el : acc'.toList.length = acc'.size := by simp
    refine vals_of_at (by rw [List.length_map, el, hacc.1, hl]) fun j x w h1 h2 => ?_
    obtain ⟨k, y, hky, hi⟩ := hacc.2 j w (by rw [← Array.getElem?_toList]; exact h2)
    rw [List.getElem?_map] at hky h1
    cases e : ks[j]? with
    | none => rw [e] at h1; cases h1
    | some k' =>
      rw [e] at h1 hky
      cases h1
      cases hky
      exact is_kO (P := X.prog) (w := X.w) hi
  · rw [Array.toArray_toList]; exact hS
/-- a new empty dict, meant for None too -/
def tKn0 (P : Program) (w : World) : TE := fun σ H Q => ∀ p H', H p = none → Same H H' → H' p = some (knO P w p []) → Q (.ref p) H'
theorem pe_kn0 {e : Expr} (h : PE X e (fun σ H Q => ∀ p, H p = none → Q (.ref p) (upd H p (.dK [])))) : PE X e (tKn0 X.prog X.w) := ⟨fun pins s σ H Q I k => by
  refine thn (h.run pins s σ H (fun v H' => ∃ p, v = .ref p ∧ H p = none ∧ H' = upd H p (.dK [])) I fun p n => ⟨p, rfl, n, rfl⟩) fun u s1 z => ?_
  obtain ⟨v, H1, I1, r, p, rfl, n, rfl⟩ := z
  obtain ⟨z, lo, vs, rel, o, es, ep, e1, e2, e3, e4, e5, e6⟩ := (show ObjOk X.prog X.w _ s1.heap p (.dK []) from I1.hok p _ upd_same)
  have ev : vs = [] := List.eq_nil_of_length_eq_zero (by rw [← rel.length]; rfl)
  subst ev
  have ee : es.toList = [] := by
    generalize es.toList = l at e5
    cases e5
    rfl
  have ee2 : es = #[] := by
    cases es
    simp only at ee
    rw [ee]
  subst ee2
  have dd : s1.heap.DictOf (noneKind X.prog X.w) p (([] : List (Option Key)).map fun k => (k, Value.bool true)) := ⟨o, #[], ep, e1, e2, e3, fun e he => by simp at he, .nil, List.nodup_nil⟩
  have J := d_write (t' := s1.toks) (h' := s1.heap) I1 (a := p) (ob := knO X.prog X.w p []) (by rw [upd_same]; exact True.intro) (Heap.SameBut.refl p s1.heap) ⟨o, e1⟩ (knO_ok z lo dd)
  rw [upd_upd] at J
  exact ⟨_, _, J, r, k p _ n (sameNew n _) upd_same⟩⟩
end
section
variable {X : Cx} {CX : CXT} {k : Nat} {C f : Addr} {fd : FuncData} {ps : List Str} {sp : Sp} {E : XK}
/-- y in a, by a's own __contains__ -/
def rInO (C : Addr) (sp : Sp) (E : XK) : R2 := fun x y H Q => ∃ (a dx : Addr) (fs : List (Str × V)), y = .ref a ∧ H a = some (.ins C dx fs) ∧ sp [.ref a, x] H (fun v H' => ∃ b, v = .bl b ∧ Q (.bl b) H') E
theorem op_inO (F : FnOk X.prog X.w X.K X.mg X.base CX k f fd ps sp) (hr : Room k X.A) (hb : Binds X.K fd ps []) (hx : Passes CX X E) (hs : PySem.W.findIn X.K (.ref C) "__contains__" = some (some (.ref f))) (hf : PySem.W.isFn X.K (.ref f) = true) : OpR X (compareOp .In) (rInO C sp E) := by
  intro pins s σ H x y v u Q I rx ry h
  obtain ⟨a, dx, fs, rfl, ha, h⟩ := h
  obtain rfl : u = Value.ref a := ry
  obtain ⟨mA, J, _⟩ := ins_get I.hok ha
  obtain ⟨od, J, _⟩ := J.look
  obtain ⟨m, hF⟩ := I.fr
  refine PySem.W.in_K hF I.ok.mod.kin J hs hf (wpAny_mono (run_fn F hr hb .nil hx I (us := [.ref a, v]) (vs := [.ref a, x]) (.cons rfl (.cons rx .nil)) h) (fun r s' z => ?_) fun _ _ e => e)
  obtain ⟨v', H', I', rv, b, rfl, q⟩ := z
  cases (show r = Value.bool b from rv)
  exact wpAny_truthy_bool ⟨.bl b, H', I', rfl, q⟩
end
end L2

set_option maxRecDepth 100000
set_option maxHeartbeats 4000000
/-! sorted(set(xs)) of a list of fewer than 64 texts -/
namespace L2
open PySem PySem.Spec PyProof.Rows
abbrev kS (P : Program) (w : World) := PySem.strKind P w
abbrev emptyS (w : World) : Obj := { cls := .type "set", dict := none, data := .set #[] 0 (.fresh 0 0 (!w.params.followText "set-order")) }
def txt (e : Int × Value) : Str := match e.2 with
  | .str k _ => k
  | _ => Str.empty
def TxE (P : Program) (w : World) (e : Int × Value) : Prop := ∃ k tk, e.2 = Value.str k tk ∧ e.1 = (kS P w).hash k
/-- the set of texts at a: its texts in the table's order, each once -/
def TxS (P : Program) (w : World) (h : Heap) (a : Addr) (L : List Str) : Prop :=
  ∃ o es ep t, h.get? a = some o ∧ o.ExactSet ∧ o.data = .set es ep t ∧ (∀ e ∈ es.toList, TxE P w e) ∧ es.toList.map txt = L ∧ L.Nodup ∧ es.size < scanBound ∧ t.fits es.size = true ∧ Ris t.place.toList ∧ (w.params.followText "set-order" = true ∨ t.led = true)
section
variable {P : Program} {w : World} {h h' : Heap} {a : Addr} {L : List Str}
theorem TxS.at (R : TxS P w h a L) (k : ∀ o, h.get? a = some o → h'.get? a = some o) : TxS P w h' a L := by
  obtain ⟨o, es, ep, t, ho, r⟩ := R
  exact ⟨o, es, ep, t, k o ho, r⟩
theorem tx_elems {l : List (Int × Value)} (g : ∀ e ∈ l, TxE P w e) : ElemsOf (kS P w) l := fun e he => by
  obtain ⟨k, tk, h1, h2⟩ := g e he
  exact ⟨⟨k, by rw [h1]; exact strKind_is P w k tk, h2⟩, by rw [h1] <;> rfl⟩
theorem tx_is {e : Int × Value} (g : TxE P w e) (k : Str) : (kS P w).is k e.2 = true ↔ txt e = k := by
  obtain ⟨k0, tk, h1, _⟩ := g
  unfold txt
  rw [h1]
  show ((k0 == k) = true) ↔ k0 = k
  exact beq_iff_eq
theorem tx_mem {l : List (Int × Value)} (g : ∀ e ∈ l, TxE P w e) (k : Str) : k ∈ l.map txt ↔ ∃ e ∈ l, (kS P w).is k e.2 = true := by
  rw [List.mem_map]
  exact ⟨fun ⟨e, he, q⟩ => ⟨e, he, (tx_is (g e he) k).2 q⟩, fun ⟨e, he, q⟩ => ⟨e, he, (tx_is (g e he) k).1 q⟩⟩
theorem tx_new (ho : h.get? a = some (emptyS w)) : TxS P w h a [] :=
  ⟨_, #[], 0, _, ho, ⟨rfl, rfl, rfl⟩, rfl, (fun e he => by simp at he), rfl, .nil, (by decide), (by rfl), List.Pairwise.nil, by
    show _ ∨ (!w.params.followText "set-order") = true
    cases w.params.followText "set-order"
    · exact .inr rfl
    · exact .inl rfl⟩
end
section
variable {P : Program} {w : World} {A : Around} {E : Value → Shared → Prop} {s : Shared} {a : Addr} {L : List Str}
/-- what stands behind the laying of a text that is new -/
theorem tx_tail {g : Bool → Sem Unit} (hg : ∀ (b : Bool) (s₁ : Shared) (Q' : Unit → Shared → Prop), Q' () s₁ → wpAny (model P w) A (g b) Q' E s₁)
    {o : Obj} {es : Array (Int × Value)} {ep : Nat} {t : SetTable} (ho : s.heap.get? a = some o) (hex : o.ExactSet) (hd : o.data = .set es ep t)
    {es1 : Array (Int × Value)} {t2 : SetTable} (g1 : ∀ e ∈ es1.toList, TxE P w e) (nd1 : (es1.toList.map txt).Nodup)
    (hb1 : es1.size < scanBound) (hf2 : t2.fits es1.size = true) (hr : Ris t2.place.toList) (hl : w.params.followText "set-order" = true ∨ t2.led = true) {wasDummy : Bool} {R : Option Bool → Shared → Prop}
    (hR : ∀ h' L', Heap.SameBut a s.heap h' → TxS P w h' a L' → L'.Perm (es1.toList.map txt) → R (some true) { s with heap := h' }) :
    wpAny (model P w) A (do
        storeSet a es1 t2
        if (!wasDummy && t2.tooFull) = true then do
            g (relayAll t2 es1 (SetTable.grown es1.size)).2.2
            storeSet a (relayAll t2 es1 (SetTable.grown es1.size)).1 (relayAll t2 es1 (SetTable.grown es1.size)).2.1
            pure (some true)
          else pure (some true)) R E s := by
  have at1 := store_at (es' := es1) (t' := t2) ho hd
  have sb1 := Heap.SameBut.update s.heap a (Obj.putSet es1 t2)
  refine wpAny_bind (wpAny_storeSet_of ho hd ?_ (fits_of_scanBound hb1))
  split
  · have pm := relayAll_perm t2 es1 (SetTable.grown es1.size)
    have hf3 := relayAll_fits t2 es1 (SetTable.grown es1.size)
    have hr3 := relayAll_ris t2 es1 (SetTable.grown es1.size)
    have hl3 := relayAll_led t2 es1 (SetTable.grown es1.size)
    generalize relayAll t2 es1 (SetTable.grown es1.size) = Z at pm hf3 hr3 hl3 ⊢
    obtain ⟨es2, t3, gave⟩ := Z
    dsimp only at pm hf3 hr3 hl3 ⊢
    have hb2 : es2.size < scanBound := by rw [← Array.length_toList, pm.length_eq, Array.length_toList]; exact hb1
    have at2 := store_at (es' := es2) (t' := t3) at1 rfl
    refine wpAny_bind (hg _ _ _ (wpAny_bind (wpAny_storeSet_of at1 rfl ?_ (fits_of_scanBound hb2))))
    exact wpAny_pure (hR _ _ (sb1.trans (Heap.SameBut.update _ a _)) ⟨_, es2, _, t3, at2, hex, rfl, fun e he => g1 e (pm.mem_iff.mp he), rfl, (pm.map txt).nodup_iff.mpr nd1, hb2, hf3, hr3, hl.imp id fun z => by rw [hl3]; exact z⟩ (pm.map txt))
  · exact wpAny_pure (hR _ _ sb1 ⟨_, es1, _, t2, at1, hex, rfl, g1, rfl, nd1, hb1, hf2, hr, hl⟩ (List.Perm.refl _))
/-- one text is put in -/
theorem tx_add {k : Str} {tk : Tok} {Q : Bool → Shared → Prop} (R : TxS P w s.heap a L) (room : L.length + 1 < scanBound)
    (hQ : ∀ h' b L', Heap.SameBut a s.heap h' → TxS P w h' a L' → (∀ x, x ∈ L' ↔ x = k ∨ x ∈ L) → L'.length ≤ L.length + 1 → Q b { s with heap := h' }) :
    wpAny (model P w) A (setAddHashed a (.str k tk) ((kS P w).hash k)) Q E s := by
  obtain ⟨o, es, ep, t, ho, hex, hd, g, rfl, nd, hb, hf, hr, hl⟩ := R
  have hel := tx_elems g
  have hsc : (Value.str k tk).scannable = true := rfl
  unfold setAddHashed setAddHashedIn
  refine wpAny_holding (wpAny_bind (wpAny_setState_of ho hd hf ?_))
  dsimp only
  rw [byScan_of hsc hb hel]
  simp only [↓reduceIte]
  unfold setAddByScan
  refine wpAny_bind (wpAny_bind (wpAny_rule (wpAny_bind (wpAny_setScan_of (strKind_is P w k tk) ho hd hf hel ?_))))
  cases hfi : List.findIdx? (fun e => (kS P w).is k e.2) es.toList with
  | some j =>
    dsimp only
    obtain ⟨hj, pj, _⟩ := List.findIdx?_eq_some_iff_getElem.mp hfi
    have hm : k ∈ es.toList.map txt := (tx_mem g k).2 ⟨es.toList[j], List.getElem_mem hj, pj⟩
    refine wpAny_pure (wpAny_pure ?_)
    exact hQ s.heap _ _ (Heap.SameBut.refl a s.heap) ⟨o, es, ep, t, ho, hex, hd, g, rfl, nd, hb, hf, hr, hl⟩ (fun x => ⟨.inr, fun z => z.elim (fun e => e ▸ hm) id⟩) (Nat.le_succ _)
  | none =>
    dsimp only
    have hnk : k ∉ es.toList.map txt := fun z => by
      obtain ⟨e, he, q⟩ := (tx_mem g k).1 z
      have c := List.findIdx?_eq_none_iff.mp hfi e he
      rw [q] at c
      cases c
    have hgw : ∀ (b : Bool) {s₁ : Shared} {Q' : Unit → Shared → Prop}, Q' () s₁ → wpAny (model P w) A (match b with | true => rule "set.scan.the-table-gave-way" | false => pure ()) Q' E s₁ :=
      fun b s₁ Q' q => by cases b <;> first | exact wpAny_pure q | exact wpAny_rule q
    have pm := layNew_perm t es ((kS P w).hash k) (.str k tk)
    have hf1 := layNew_fits t es ((kS P w).hash k) (.str k tk)
    have hr1 := layNew_ris t es ((kS P w).hash k) (.str k tk) hr
    have hl1 := layNew_led t es ((kS P w).hash k) (.str k tk)
    generalize layNew t es ((kS P w).hash k) (.str k tk) = Z at pm hf1 hr1 hl1 ⊢
    obtain ⟨es1, t1, wasDummy, gave⟩ := Z
    dsimp only at pm hf1 hr1 hl1 ⊢
    rw [Array.toList_push] at pm
    have pc : es1.toList.Perm (((kS P w).hash k, Value.str k tk) :: es.toList) := pm.trans (List.perm_append_singleton _ _)
    have pk : (es1.toList.map txt).Perm (k :: es.toList.map txt) := pc.map txt
    have g1 : ∀ e ∈ es1.toList, TxE P w e := fun e he => by
      rcases List.mem_cons.mp (pc.mem_iff.mp he) with z | z
      · rw [z]; exact ⟨k, tk, rfl, rfl⟩
      · exact g e z
    have nd1 : (es1.toList.map txt).Nodup := pk.nodup_iff.mpr (List.nodup_cons.mpr ⟨hnk, nd⟩)
    have hb1 : es1.size < scanBound := by
      rw [← Array.length_toList, pc.length_eq, List.length_cons]
      rw [List.length_map] at room
      exact room
    have hled : w.params.followText "set-order" = true ∨ t1.led = true := hl.imp id fun z => by rw [hl1]; exact z
    have fin : ∀ h' L', Heap.SameBut a s.heap h' → TxS P w h' a L' → L'.Perm (es1.toList.map txt) → Q true { s with heap := h' } := fun h' L' sb r pl =>
      hQ h' _ L' sb r (fun x => by rw [(pl.trans pk).mem_iff, List.mem_cons]) (Nat.le_of_eq (by rw [(pl.trans pk).length_eq, List.length_cons]))
    refine wpAny_bind (hgw _ ?_)
    split
    · refine wpAny_bind ?_
      rw [hashByValue_scannable 8 hsc]
      refine wpAny_pure ?_
      refine tx_tail ?_ ho hex hd g1 nd1 hb1 ?_ ?_ ?_ ?_
      · intro b s₁ Q' q; cases b <;> first | exact wpAny_pure q | exact wpAny_rule q
      · first | (split <;> first | exact hf1 | exact SetTable.fits_plain_off hf1) | exact hf1
      · first | (split <;> exact hr1) | exact hr1
      · first | (split <;> exact hled) | exact hled
      · intro h' L' sb r pl; dsimp only; exact wpAny_pure (fin h' L' sb r pl)
    · refine wpAny_bind (wpAny_pure ?_)
      simp only [↓reduceIte]
      refine tx_tail ?_ ho hex hd g1 nd1 hb1 hf1 hr1 hled ?_
      · intro b s₁ Q' q; cases b <;> first | exact wpAny_pure q | exact wpAny_rule q
      · intro h' L' sb r pl; dsimp only; exact wpAny_pure (fin h' L' sb r pl)
end
section
variable {P : Program} {w : World} {A : Around} {E : Value → Shared → Prop} {s : Shared}
/-- the loop of set(xs) -/
theorem tx_loop {I : Addr} {fp wr : List Addr} {G : Array GenState → Array GenState → Prop} {n : Nat} {Pv : Nat → Value → Prop} {St : Nat → Shared → Prop} {R : Result → Shared → Prop}
    (W : WalksS P w A.in1 I fp wr G n Pv St) (S : Addr) (hSf : S ∉ fp) (ns : List Str) (hn : n = ns.length) (hb : ns.length + 1 < scanBound) (hval : ∀ i v, Pv i v → ∃ k t, ns[i]? = some k ∧ v = .str k t) :
    ∀ (d i : Nat) (s : Shared), n - i = d → i ≤ n → St i s → (∃ L, L.length ≤ i ∧ TxS P w s.heap S L ∧ ∀ x, x ∈ L ↔ x ∈ ns.take i) →
      (∀ s' L, Moved (S :: wr) G s s' → L.length ≤ n → TxS P w s'.heap S L → (∀ x, x ∈ L ↔ x ∈ ns) → R (.ok (.ret .none)) s') →
      codeAny (model P w) A (.builtin "set.update.loop" ⟨[.ref S, .ref I], []⟩) R s
  | 0, i, s, hd, hi, hst, ⟨L, hc, hS, hm⟩, hR => by
    have hin : i = n := by omega
    subst hin
    refine codeAny_builtin F.entry_set_update_loop ?_
    rw [Around.under_plainId F.plain_set_update_loop _]
    show wpAny _ A.in1 (pyNext (.ref I) >>= _) _ _ s
    refine wpAny_bind (W.done s _ _ hst fun s' mv => ?_)
    show wpAny _ A.in1 (ret Value.none) _ _ s'
    rw [List.take_of_length_le (by omega)] at hm
    exact wpAny_pure (hR s' L (mv.mono fun b hb => List.mem_cons_of_mem _ hb) hc (hS.at fun o e => mv.heap S o (fun z => hSf (W.sub _ z)) e) hm)
  | d + 1, i, s, hd, hi, hst, ⟨L, hc, hS, hm⟩, hR => by
    have hsub : ∀ b ∈ wr, b ∈ S :: wr := fun b hb => List.mem_cons_of_mem _ hb
    have hlt : i < n := by omega
    refine codeAny_builtin F.entry_set_update_loop ?_
    rw [Around.under_plainId F.plain_set_update_loop _]
    show wpAny _ A.in1 (pyNext (.ref I) >>= _) _ _ s
    refine wpAny_bind (W.item i s _ _ hlt hst fun v s' hP hst' mv => ?_)
    obtain ⟨z, t, hz, rfl⟩ := hval i v hP
    have hS' : TxS P w s'.heap S L := hS.at fun o e => mv.heap S o (fun z => hSf (W.sub _ z)) e
    show wpAny _ A.in1 (holding [Value.str z t] (setAdd S (.str z t)) >>= _) _ _ s'
    refine wpAny_bind (wpAny_holding ?_)
    unfold setAdd
    refine wpAny_holding (wpAny_bind ((kS P w).pyHash (k := z) (strKind_is _ _ _ _) ?_))
    refine tx_add (s := { s' with toks := s'.toks + 1 }) hS' (by omega) fun h' b L' hsb hS2 hm2 hl2 => ?_
    have hm3 : ∀ x, x ∈ L' ↔ x ∈ ns.take (i + 1) := fun x => by
      rw [hm2, hm x, List.take_add_one, hz]
      simp only [Option.toList, List.mem_append, List.mem_singleton]
      exact Or.comm
    refine wpAny_pure ⟨plainId_quiet F.plain_set_update_loop _, tx_loop W S hSf ns hn hb hval d (i + 1) _ (by omega) hlt (W.frame _ s' _ _ hst' (Nat.le_succ _) fun b hb o e => ?_) ⟨L', by omega, hS2, hm3⟩ fun s'' L2 mv2 hc2 hS3 hm4 => ?_⟩
    · rw [hsb.2 b (fun q : b = S => hSf (by rw [← q]; exact hb))]; exact e
    · refine hR s'' L2 (Moved.trans W.gtrans ((mv.mono hsub).then_heap (Nat.le_succ _) fun b o hb e => ?_) mv2) hc2 hS3 hm4
      rw [hsb.2 b (fun q : b = S => hb (by rw [q]; exact List.mem_cons_self))]; exact e
set_option maxHeartbeats 6400000 in
/-- set(xs) -/
theorem tx_made {l : Addr} {items : Array Value} (ns : List Str) {Q : Value → Shared → Prop} (hh : A.handled = none) (hl : s.heap.IsList l items) (hit : StrsAre items.toList ns) (hb : ns.length + 1 < scanBound)
    (h : ∀ (h' : Heap) (tk : Nat) (L : List Str), TxS P w h' s.heap.objs.size L → L.length ≤ ns.length → (∀ x, x ∈ L ↔ x ∈ ns) → (∀ b o, s.heap.get? b = some o → h'.get? b = some o) → Q (.ref s.heap.objs.size) { s with heap := h', toks := tk }) :
    wpAny (model P w) A (call (.type "set") [.ref l]) Q E s := by
  have hisz : items.size = ns.length := by
    have q := StrsAre.length hit
    rw [Array.length_toList] at q
    exact q
  obtain ⟨c, tl, hmro⟩ := F.called_set.mro
  have hmade := F.called_set.made
  have hsub := F.called_set.sub
  refine wpAny_call (codeAny_of_tree ?_)
  show wpAny _ _ (callAny (.type "set") _) _ _ _
  refine wpAny_pure ⟨Code.quiet_builtin _ (by decide +kernel), codeAny_builtin F.entry_type_call ?_⟩
  rw [Around.under_plain (weight_type_call_type "set" [.ref l] []) rfl]
  have h1 := F.called_set.notType
  have h2 := F.called_set.canCreate
  have hct := F.typeCall_set_1 (.ref l)
  repeat (any_goals (first | assumption | wp_step))
  refine codeAny_mono (code_set_led1 (.ref l) (E := E) (Q₁ := fun obj s₁ => obj = .ref s.heap.objs.size ∧ s₁ = { s with heap := s.heap.push (emptyS w) }) ⟨rfl, rfl⟩) fun r s₁ hr => ?_
  cases r with
  | error e => exact hr
  | ok fl =>
    cases fl with
    | ret obj =>
      obtain ⟨rfl, rfl⟩ := hr
      have hS : (s.heap.push (emptyS w)).get? s.heap.objs.size = some (emptyS w) := Heap.get?_push_size _ rfl
      have hT : Shared.TypeIs { s with heap := s.heap.push (emptyS w) } (.ref s.heap.objs.size) "set" := ⟨_, hS, rfl⟩
      have hli := F.called_set.init.lookup
      have hbi := F.called_set.init.bind (.ref s.heap.objs.size)
      repeat (any_goals (first | assumption | wp_step))
      refine codeAny_mono (codeAny_call_builtin (R := wants (fun r s₂ => r = .none ∧ ∃ h' tk L, s₂ = { s with heap := h', toks := tk } ∧ TxS P w h' s.heap.objs.size L ∧ L.length ≤ ns.length ∧ (∀ x, x ∈ L ↔ x ∈ ns) ∧
          (∀ b o, s.heap.get? b = some o → h'.get? b = some o)) E) F.called_set.init.plain F.entry_set_init (check_set_init_1 hT ?_)) fun r₂ s₂ hr₂ => ?_
      · obtain ⟨⟨ocls, odict, odata, oslots⟩, hol, hcl, nl, hdl⟩ := hl
        simp only at hcl hdl
        subst hcl; subst hdl
        have hol' : (s.heap.push (emptyS w)).get? l = some { cls := .type "list", dict := odict, data := .seq items nl, slots := oslots } := Heap.get?_push_of_some _ hol
        have hsls := F.sub_list_set
        have hslf := F.sub_list_frozenset
        have hne : (Value.type "list" == Value.type "dict") = false := by decide
        have hl1 : (s.heap.push (emptyS w)).IsList l items := ⟨_, hol', rfl, nl, rfl⟩
        unfold Builtin.«set.__init__» noKeywords Builtin.Frozenset.updateFrom
        generalize hPI : pyIter = PI
        wp_walk
        subst hPI
        refine wpAny_pyIter_list hl1 (wpAny_bind (wpAny_runValue ?_))
        have hlS : l < s.heap.objs.size := Heap.lt_size hol
        have hh3 : A.in1.in1.in1.handled = none := by simp [hh]
        have hneI : l ≠ (s.heap.push (emptyS w)).objs.size := by
          rw [Heap.size_push]; exact Nat.ne_of_lt (Nat.lt_succ_of_lt hlS)
        have hSf : s.heap.objs.size ∉ [(s.heap.push (emptyS w)).objs.size, l] := by
          rw [Heap.size_push]; simp only [List.mem_cons, List.mem_singleton, List.not_mem_nil, or_false, not_or]
          exact ⟨Nat.ne_of_lt (Nat.lt_succ_self _), Nat.ne_of_gt hlS⟩
        have hval : ∀ (i : Nat) (v : Value), items[i]? = some v → ∃ k t, ns[i]? = some k ∧ v = .str k t := fun i v hv => by
          have hi : i < ns.length := by rw [← hisz]; exact (Array.getElem?_eq_some_iff.mp hv).1
          obtain ⟨t, e⟩ := SS.strs_at hit i v (by rw [Array.getElem?_toList]; exact hv)
          refine ⟨ns[i], t, List.getElem?_eq_getElem hi, ?_⟩
          rw [e, List.getD_eq_getElem?_getD, List.getElem?_eq_getElem hi] <;> rfl
        refine tx_loop ((Walks.list hh3 _ l hneI items).toS) s.heap.objs.size hSf ns hisz hb hval (items.size - 0) 0 _ (by omega) (Nat.zero_le _) ⟨⟨_, Heap.get?_push_size _ rfl, rfl, rfl⟩, (hl1.push _)⟩ ⟨[], Nat.le_refl 0, tx_new (Heap.get?_push_of_some _ hS), fun x => by simp⟩ fun s' L mv hc hS' hm => ?_
        obtain ⟨h', g2, d', tk', os'⟩ := s'
        have eg : g2 = s.gens := mv.gens
        have ed : d' = s.drawn := mv.drawn
        have eo : os' = s.os := mv.os
        subst eg; subst ed; subst eo
        show wpAny _ _ _ _ _ _
        refine wpAny_pure ?_
        show wpAny _ _ (ret Value.none) _ _ _
        rw [hisz] at hc
        refine wpAny_pure ⟨rfl, h', tk', L, rfl, hS', hc, hm, fun b o e => ?_⟩
        have hb0 : b < s.heap.objs.size := Heap.lt_size e
        refine mv.heap b o (fun z => ?_) (Heap.get?_push_of_some _ (Heap.get?_push_of_some _ e))
        rcases List.mem_cons.mp z with z | z
        · exact absurd hb0 (by rw [z]; exact Nat.lt_irrefl _)
        · exact absurd hb0 (by rw [List.mem_singleton.mp z, Heap.size_push]; exact Nat.not_lt_of_le (Nat.le_succ _))
      · cases r₂ with
        | error e => exact hr₂
        | ok fl₂ =>
          cases fl₂ with
          | ret r =>
            obtain ⟨rfl, h', tk, L, rfl, hS', hc, hm, hk'⟩ := hr₂
            repeat (any_goals (first | assumption | wp_step))
            exact h _ _ _ hS' hc hm hk'
          | _ => exact hr₂.elim
    | _ => exact hr.elim
/-- sorted(s) of a set of fewer than 64 texts -/
theorem tx_sorted {a : Addr} {L : List Str} {Q : Value → Shared → Prop} (R : TxS P w s.heap a L) (hh : A.handled = none) (h64 : L.length < 64)
    (hQ : ∀ s' p (out : Array Value) (c : Nat) (ss : List Str), (∀ b o, s.heap.get? b = some o → s'.heap.get? b = some o) → s'.gens = s.gens → s'.os = s.os → s.heap.objs.size ≤ p →
      s'.heap.get? p = some (seqObj "list" out c) → StrsAre out.toList ss → ss.Perm L → sortedS ss = true → Q (.ref p) s') :
    wpAny (model P w) A (call (.builtin "sorted") [.ref a]) Q E s := by
  obtain ⟨o, es, ep, t, ho, hex, hd, g, rfl, nd, hb, hf, hr, hl⟩ := R
  refine Calls.call_function_entry kind_sorted plain_sorted entry_sorted (args_sorted1 _) ?_
  unfold Builtin.«sorted»
  refine wpAny_bind (m := checkCount "sorted" 1 1 _) (wpAny_pure ?_)
  refine wpAny_bind (collect_set (A := A.in1) hh ⟨o, ho, hex.1, hd⟩ hf hb hr hl fun s1 vs k1 hz g1 o1 pm => ?_)
  have hS : ∀ v ∈ vs, ∃ x tk, v = Value.str x tk := fun v hv => by
    obtain ⟨e, he, q⟩ := List.mem_map.mp (pm.mem_iff.mp hv)
    obtain ⟨k, tk, h1, _⟩ := g e he
    exact ⟨k, tk, by rw [← q]; exact h1⟩
  have hA : StrsAre vs (vs.map strOf) := strsAre_map vs hS
  have pk : (vs.map strOf).Perm (es.toList.map txt) := by
    have q := pm.map strOf
    rw [List.map_map] at q
    have e : es.toList.map (strOf ∘ Prod.snd) = es.toList.map txt := List.map_congr_left fun e he => by
      obtain ⟨k, tk, h1, _⟩ := g e he
      show strOf e.2 = txt e
      unfold txt
      rw [h1]
      rfl
    rw [← e]
    exact q
  have hvl : vs.length < 64 := by
    have := pk.length_eq
    rw [List.length_map] at this
    omega
  refine wpAny_bind (wpAny_newList ?_ (by rw [sizeLine_eq]; omega))
  have hoL : (s1.heap.push (seqObj "list" vs.toArray 0)).get? s1.heap.objs.size = some (seqObj "list" vs.toArray 0) := Heap.get?_push_size _ rfl
  refine wpAny_bind (wpAny_holding (wpAny_call_entry slot_list_sort ⟨_, hoL, rfl⟩ entry_list_sort (list_sort_treeK strKind_oneLt hoL hA.keysOf (fun v₁ v₂ rest e => keyKind_strs (by rw [← e]; exact hA)) hvl fun st' hp hs => ⟨_, rfl, ?_⟩) (args_list_sort _)))
  obtain ⟨ss, a1, a2, a3⟩ := sorted_out_str hA hp hs
  obtain ⟨c, hc⟩ := sortedHeap_at (vs := vs) (out := (arrOf st').map (·.2)) hoL
  refine wpAny_pure ⟨_, rfl, hQ _ s1.heap.objs.size _ c ss (fun b u e => ?_) g1 o1 hz hc a1 (a2.trans pk) a3⟩
  have q := k1 b u e
  have hlt := Heap.lt_size q
  show (sortedHeap (s1.heap.push (seqObj "list" vs.toArray 0)) s1.heap.objs.size vs _).get? b = some u
  rw [sortedHeap_old (Nat.ne_of_lt hlt) (by rw [size_push']; exact Nat.lt_succ_of_lt hlt)]
  exact Heap.get?_push_of_some _ q
end
end L2
namespace L2
open PySem PySem.Spec PyProof.Rows
def TxO (P : Program) (w : World) (a : Addr) (L : List Str) : HO := .ext fun h => TxS P w h a L
theorem txO_ok {P : Program} {w : World} {H : Hp} {h : Heap} {a : Addr} {L : List Str} (R : TxS P w h a L) : ObjOk P w H h a (TxO P w a L) := by
  have ⟨o, _, _, _, ho, _⟩ := R
  exact ⟨R, ⟨o, ho⟩, fun h1 h2 p k => TxS.at p k⟩
section
variable {X : Cx}
/-- set(xs), xs a list of fewer than 64 texts -/
def rSetTx (K : PySem.W.Frag) (P : Program) (w : World) : List V → Hp → VK → Prop := fun vs H Q => ∃ (l : Addr) (xs : List Str), vs = [.ref l] ∧ SqL K H l (xs.map V.str) ∧ xs.length < 64 ∧
  ∀ (p : Addr) (L : List Str) (H' : Hp), H p = none → Same H H' → H' p = some (TxO P w p L) → (∀ x, x ∈ L ↔ x ∈ xs) → L.length ≤ xs.length → Q (.ref p) H'
theorem cr_setTx (hc : X.calm = true) : CallR X (.type "set") (rSetTx X.K X.prog X.w) := by
  intro pins s σ H vs us Q I r h
  obtain ⟨l, xs, rfl, hl, few, q⟩ := h
  rw [Vals.ref1 r]
  obtain ⟨its, rv, pl, hz⟩ := I.list hl
  have hn : H s.heap.objs.size = none := I.hok.fresh (Nat.le_refl _)
  refine tx_made (P := X.prog) (w := X.w) xs (I.ok.hd hc) pl.isList (by simpa using strsAre_of rv) (Nat.lt_of_lt_of_le (show xs.length + 1 < 65 by omega) (by decide)) fun h' tk L R hl hm hk => ?_
  exact ⟨.ref s.heap.objs.size, upd H s.heap.objs.size (TxO X.prog X.w s.heap.objs.size L), I.laid (t' := tk) hk (Nat.le_refl _) (txO_ok R), rfl, q _ L _ hn (sameNew hn _) upd_same hm hl⟩
/-- sorted(s) of such a set -/
def rSortTx (P : Program) (w : World) : List V → Hp → VK → Prop := fun vs H Q => ∃ (a : Addr) (L : List Str), vs = [.ref a] ∧ H a = some (TxO P w a L) ∧ L.length < 64 ∧
  ∀ (ss : List Str) (p : Addr) (H' : Hp), H p = none → Same H H' → H' p = some (.lst (ss.map V.str)) → ss.Nodup → (∀ x, x ∈ ss ↔ x ∈ L) → sortedS ss = true → Q (.ref p) H'
theorem cr_sortTx (hc : X.calm = true) : CallR X (.builtin "sorted") (rSortTx X.prog X.w) := by
  intro pins s σ H vs us Q I r h
  obtain ⟨a, L, rfl, ha, few, q⟩ := h
  rw [Vals.ref1 r]
  have R : TxS X.prog X.w s.heap a L := (I.hok a _ ha).1
  have nd : L.Nodup := by
    obtain ⟨_, _, _, _, _, _, _, _, _, nd, _⟩ := id R
    exact nd
  refine tx_sorted R (I.ok.hd hc) few fun s' p out c ss k g o hp hg hi pm hs => ?_
  have hlen : (ss.map V.str).length ≤ sizeLine := by rw [List.length_map, pm.length_eq, sizeLine_eq]; omega
  have hn : H p = none := I.hok.fresh hp
  have J : Inv X pins σ (upd H p (.lst (ss.map V.str))) { s with heap := s'.heap, gens := s'.gens, drawn := s'.drawn, toks := s'.toks } :=
    I.call (ch := []) (Un.laid k hp hn) (I.hok.laid k hp ⟨hlen, out.toList, c, vals_of_strs hi, hg⟩) (by rw [g]; exact I.bare) (fun _ z => nomatch z)
  have e : s' = { s with heap := s'.heap, gens := s'.gens, drawn := s'.drawn, toks := s'.toks } := by
    cases s'
    cases s
    cases o
    rfl
  rw [e]
  exact ⟨.ref p, _, J, rfl, q ss p _ hn (sameNew hn _) upd_same (pm.nodup_iff.mpr nd) (fun x => pm.mem_iff) hs⟩
end
end L2

set_option maxRecDepth 100000
set_option maxHeartbeats 4000000
namespace Mine
open PySem L2
def top (i : Nat) : Stmt := PySem.Challenge.pw_askfurther_k03_whole_what_bodies_show.main.body.getD i (.Pass ⟨0, 0, 0, 0⟩)
abbrev s_is_integer : Stmt := top 13
abbrev s_is_within : Stmt := top 14
abbrev s_is_index : Stmt := top 15
abbrev s_is_row : Stmt := top 16
abbrev s_is_name : Stmt := top 17
abbrev s_is_text_in : Stmt := top 18
/-- the built-in types whose things are passed -/
def bts : List String := ["NoneType", "bool", "int", "str", "float", "list", "tuple", "dict", "bytes", "set"]
def kb (t u : String) : Bool := t == u || (t == "bool" && u == "int")
theorem kit_b : ∀ t ∈ bts, ∀ u ∈ bts, kitB t u = some (kb t u) := by decide +kernel
/-- a thing of a built-in type -/
structure Bt (K : PySem.W.Frag) (H : Hp) (v : V) (t : String) : Prop where
  ty : TyX K H v (.type t)
  m : t ∈ bts
theorem Bt.kit {K : PySem.W.Frag} {H : Hp} {v : V} {t u : String} (b : Bt K H v t) (hu : u ∈ bts) : PySem.W.kitOne K (.type t) (.type u) = some (kb t u) := kit_ty (kit_b t b.m u hu)
theorem Bt.int {K : PySem.W.Frag} {H : Hp} {v : V} {t : String} (b : Bt K H v t) (h : (t == "int") = true) : ∃ i : Int, v = .int i := by
  cases b.ty with
  | base z => cases z <;> first | exact ⟨_, rfl⟩ | (exact absurd h (by decide))
  | _ => exact absurd h (by decide)
theorem Bt.str {K : PySem.W.Frag} {H : Hp} {v : V} {t : String} (b : Bt K H v t) (h : (t == "str") = true) : ∃ x : Str, v = .str x := by
  cases b.ty with
  | base z => cases z <;> first | exact ⟨_, rfl⟩ | (exact absurd h (by decide))
  | _ => exact absurd h (by decide)
theorem Bt.same {K : PySem.W.Frag} {H H' : Hp} {v : V} {t : String} (s : Same H H') (b : Bt K H v t) : Bt K H' v t := by
  refine ⟨?_, b.m⟩
  cases b.ty with
  | base h =>
    cases h with
    | non => exact .base .non
    | bl x => exact .base (.bl x)
    | int i => exact .base (.int i)
    | str x => exact .base (.str x)
    | flt x => exact .base (.flt x)
    | lst e => exact .base (.lst (s _ _ e))
    | frz e => exact .base (.frz (s _ _ e))
    | tup e => exact .base (.tup (s _ _ e))
    | dK e => exact .base (.dK (s _ _ e))
    | dT e => exact .base (.dT (s _ _ e))
  | byt x => exact .byt x
  | set e => exact .set (s _ _ e)
  | kList e c => exact .kList e c
  | kTuple e c => exact .kTuple e c
  | kDict e c => exact .kDict e c
  | fTuple e => exact .fTuple (s _ _ e)
  | fDict e => exact .fDict (s _ _ e)
/-- an integer in bounds; a name; what else is none -/
def inW (v : V) (lo hi : Int) : Bool := match v with
  | .int i => decide (lo ≤ i) && decide (i ≤ hi)
  | _ => false
def lettersS : Str := "abcdefghijklmnopqrstuvwxyz"
def isNm (x : Str) : Bool := decide (1 ≤ x.length) && decide (x.length ≤ 8) && x.cps.toList.all fun c => decide (c ∈ lettersS.cps.toList)
def nameV (v : V) : Bool := match v with
  | .str x => isNm x
  | _ => false
theorem inW_of {K : PySem.W.Frag} {H : Hp} {v : V} {t : String} (b : Bt K H v t) (h : (t == "int") = false) (lo hi : Int) : inW v lo hi = false := by
  cases b.ty with
  | base z => cases z <;> first | rfl | (exact absurd h (by decide))
  | _ => rfl
theorem nameV_of {K : PySem.W.Frag} {H : Hp} {v : V} {t : String} (b : Bt K H v t) (h : (t == "str") = false) : nameV v = false := by
  cases b.ty with
  | base z => cases z <;> first | rfl | (exact absurd h (by decide))
  | _ => rfl
def spInt (K : PySem.W.Frag) : Sp := fun vs H Q _ => ∃ (v : V) (t : String), vs = [v] ∧ Bt K H v t ∧ Q (.bl (t == "int")) H
def spWithin (K : PySem.W.Frag) : Sp := fun vs H Q _ => ∃ (v : V) (t : String) (lo hi : Int), vs = [v, .int lo, .int hi] ∧ Bt K H v t ∧ Q (.bl (inW v lo hi)) H
def spIndex (K : PySem.W.Frag) : Sp := fun vs H Q _ => ∃ (v : V) (t : String) (m : Int), vs = [v, .int m] ∧ Bt K H v t ∧ Q (.bl (inW v 0 (m - 1))) H
def spIsRow (K : PySem.W.Frag) : Sp := fun vs H Q _ => ∃ (v : V) (t : String), vs = [v] ∧ Bt K H v t ∧ ∀ H', Same H H' → Q (.bl (t == "list" || t == "tuple")) H'
def spName (K : PySem.W.Frag) : Sp := fun vs H Q _ => ∃ (v : V) (t : String), vs = [v] ∧ Bt K H v t ∧ (∀ x, v = .str x → x.length ≤ sizeLine) ∧ ∀ H', Same H H' → Q (.bl (nameV v)) H'
/-- a text's place in a dict of texts -/
def hasT (kvs : List (Key × V)) (v : V) : Bool := match v with
  | .str x => (valV kvs (.inr x)).isSome
  | _ => false
def spTextIn (K : PySem.W.Frag) : Sp := fun vs H Q _ => ∃ (v : V) (t : String) (d : Addr) (kvs : List (Key × V)), vs = [v, .ref d] ∧ Bt K H v t ∧ Rd H d (.dK kvs) ∧ Q (.bl (hasT kvs v)) H
structure TxtF (K : PySem.W.Frag) (mg : Str → Option Value) (fII fIW : Addr) : Prop where
  b_isinstance : mg "isinstance" = none
  b_int : mg "int" = none
  b_bool : mg "bool" = none
  b_str : mg "str" = none
  b_list : mg "list" = none
  b_tuple : mg "tuple" = none
  b_dict : mg "dict" = none
  b_len : mg "len" = none
  b_all : mg "all" = none
  c_LETTERS : ∃ t, mg "LETTERS" = some (.str lettersS t)
  c_LONGEST_NAME : ∃ t, mg "LONGEST_NAME" = some (.int 8 t)
  g_is_integer : mg "is_integer" = some (.ref fII)
  k_is_integer : PySem.W.keepIn K (.ref fII) = true
  g_is_within : mg "is_within" = some (.ref fIW)
  k_is_within : PySem.W.keepIn K (.ref fIW) = true
section
variable {P : Program} {w : World} {K : PySem.W.Frag} {mg : Str → Option Value} {base : Heap}
variable {fII fIW : Addr} {fdII fdIW : FuncData}
theorem sc_is_integer : FnScope ["thing"] ["thing"] (defScope s_is_integer) := ⟨rfl, rfl, rfl, by decide +kernel, rfl, by decide +kernel, by decide +kernel⟩
theorem ok_is_integer {f : Addr} {fd : FuncData} (F : Fun K "is_integer" "is_integer" s_is_integer f fd) (T : TxtF K mg fII fIW) : FnOk P w K mg base CX0 1 f fd ["thing"] (spInt K) := by
  refine F.ok sc_is_integer (fun vs H Q E h => ?_) (fun cdv A outer s H vs Q E hr h => ?_)
  · obtain ⟨v, t, rfl, _⟩ := h
    rfl
  · obtain ⟨v, t, rfl, b, k⟩ := h
    refine ⟨_, (pss_one (ps_ret (pe_and (pe_callB call_isi (by rfl) T.b_isinstance (by decide +kernel) (pa_cons (pv 0) (pa_cons (pe_bltn (v := .ty "int") rfl T.b_int (by decide +kernel) rfl) pa_nil))) (pe_one (pe_not (pe_callB call_isi (by rfl) T.b_isinstance (by decide +kernel) (pa_cons (pv 0) (pa_cons (pe_bltn (v := .ty "bool") rfl T.b_bool (by decide +kernel) rfl) pa_nil)))))))), ?_⟩
    refine ⟨_, rfl, v, _, _, _, _, rfl, .ty _, b.ty, b.kit (u := "int") (by decide), _, rfl, ?_⟩
    refine ite2 (fun h1 => ?_) (fun h1 => ?_)
    · refine ⟨_, rfl, v, _, _, _, _, rfl, .ty _, b.ty, b.kit (u := "bool") (by decide), _, rfl, ?_⟩
      have e : (!kb t "bool") = (t == "int") := by
        have := b.m
        revert h1
        simp only [bts, List.mem_cons, List.not_mem_nil, or_false] at this
        rcases this with rfl | rfl | rfl | rfl | rfl | rfl | rfl | rfl | rfl | rfl <;> decide
      rw [e]
      exact k
    · have e : (t == "int") = false := by
        have := b.m
        revert h1
        simp only [bts, List.mem_cons, List.not_mem_nil, or_false] at this
        rcases this with rfl | rfl | rfl | rfl | rfl | rfl | rfl | rfl | rfl | rfl <;> decide
      rw [e] at k
      exact k
theorem sc_is_within : FnScope ["thing", "low", "high"] ["thing", "low", "high"] (defScope s_is_within) := ⟨rfl, rfl, rfl, by decide +kernel, rfl, by decide +kernel, by decide +kernel⟩
theorem ok_is_within {f : Addr} {fd : FuncData} (F : Fun K "is_within" "is_within" s_is_within f fd) (T : TxtF K mg fII fIW) (FI : Fun K "is_integer" "is_integer" s_is_integer fII fdII) (bI : Binds K fdII ["thing"] []) : FnOk P w K mg base CX0 2 f fd ["thing", "low", "high"] (spWithin K) := by
  have GI : FnOk P w K mg base CX0 1 fII fdII ["thing"] (spInt K) := ok_is_integer FI T
  refine F.ok sc_is_within (fun vs H Q E h => ?_) (fun cdv A outer s H vs Q E hr h => ?_)
  · obtain ⟨v, t, lo, hi, rfl, _⟩ := h
    rfl
  · obtain ⟨v, t, lo, hi, rfl, b, k⟩ := h
    refine ⟨_, (pss_one (ps_ret (pe_and (pe_call GI hr (by rfl) T.g_is_integer T.k_is_integer bI .nil pass0 (pa_cons (pv 0) pa_nil)) (pe_one (pe_chain op_le op_le (pv 1) (pv 0) (pv 2)))))), ?_⟩
    refine ⟨_, rfl, v, t, rfl, b, _, rfl, ?_⟩
    refine ite2 (fun h1 => ?_) (fun h1 => ?_)
    · obtain ⟨i, rfl⟩ := b.int h1
      refine ⟨_, rfl, _, rfl, _, _, rfl, rfl, _, rfl, ?_⟩
      refine ite2 (fun h2 => ?_) (fun h2 => ?_)
      · refine ⟨_, rfl, _, _, rfl, rfl, ?_⟩
        have e : inW (.int i) lo hi = decide (i ≤ hi) := by
          show (decide (lo ≤ i) && decide (i ≤ hi)) = _
          rw [h2, Bool.true_and]
        show Q (.bl (decide (i ≤ hi))) H
        rw [← e]
        exact k
      · have e : inW (.int i) lo hi = false := by
          show (decide (lo ≤ i) && decide (i ≤ hi)) = _
          rw [Bool.eq_false_iff.mpr h2, Bool.false_and]
        rw [e] at k
        exact k
    · rw [inW_of b (Bool.eq_false_iff.mpr h1)] at k
      exact k
theorem sc_is_index : FnScope ["thing", "many"] ["thing", "many"] (defScope s_is_index) := ⟨rfl, rfl, rfl, by decide +kernel, rfl, by decide +kernel, by decide +kernel⟩
theorem ok_is_index {f : Addr} {fd : FuncData} (F : Fun K "is_index" "is_index" s_is_index f fd) (T : TxtF K mg fII fIW) (FI : Fun K "is_integer" "is_integer" s_is_integer fII fdII) (bI : Binds K fdII ["thing"] [])
    (FW : Fun K "is_within" "is_within" s_is_within fIW fdIW) (bW : Binds K fdIW ["thing", "low", "high"] []) : FnOk P w K mg base CX0 3 f fd ["thing", "many"] (spIndex K) := by
  have GW : FnOk P w K mg base CX0 2 fIW fdIW ["thing", "low", "high"] (spWithin K) := ok_is_within FW T FI bI
  refine F.ok sc_is_index (fun vs H Q E h => ?_) (fun cdv A outer s H vs Q E hr h => ?_)
  · obtain ⟨v, t, m, rfl, _⟩ := h
    rfl
  · obtain ⟨v, t, m, rfl, b, k⟩ := h
    refine ⟨_, (pss_one (ps_ret (pe_call GW hr (by rfl) T.g_is_within T.k_is_within bW .nil pass0 (pa_cons (pv 0) (pa_cons pe_int (pa_cons (pe_op op_sub (pv 1) pe_int) pa_nil)))))), ?_⟩
    exact ⟨_, rfl, _, rfl, _, _, rfl, rfl, v, t, 0, m - 1, rfl, b, k⟩
theorem sc_is_row : FnScope ["thing"] ["thing"] (defScope s_is_row) := ⟨rfl, rfl, rfl, by decide +kernel, rfl, by decide +kernel, by decide +kernel⟩
theorem ok_is_row {f : Addr} {fd : FuncData} (F : Fun K "is_row" "is_row" s_is_row f fd) (T : TxtF K mg fII fIW) : FnOk P w K mg base CX0 1 f fd ["thing"] (spIsRow K) := by
  refine F.ok sc_is_row (fun vs H Q E h => ?_) (fun cdv A outer s H vs Q E hr h => ?_)
  · obtain ⟨v, t, rfl, _⟩ := h
    rfl
  · obtain ⟨v, t, rfl, b, k⟩ := h
    refine ⟨_, (pss_one (ps_ret (pe_callB call_isiT (by rfl) T.b_isinstance (by decide +kernel) (pa_cons (pv 0) (pa_cons (pe_tupG (pa_cons (pe_bltn (v := .ty "list") rfl T.b_list (by decide +kernel) rfl) (pa_cons (pe_bltn (v := .ty "tuple") rfl T.b_tuple (by decide +kernel) rfl) pa_nil))) pa_nil))))), ?_⟩
    refine ⟨_, rfl, by show 2 ≤ sizeLine; decide, fun p H1 n1 s1 e1 => ?_⟩
    have b1 := b.same s1
    have kk : PySem.W.kitAny K (.type t) [.type "list", .type "tuple"] = some (t == "list" || t == "tuple") := by
      have h1 : kb t "list" = (t == "list") := by simp [kb]
      have h2 : kb t "tuple" = (t == "tuple") := by simp [kb]
      refine kitAny_cons (b1.kit (u := "list") (by decide)) (fun z => ?_) (fun z => ?_)
      · rw [h1] at z
        refine kitAny_cons (b1.kit (u := "tuple") (by decide)) (fun y => ?_) (fun y => ?_)
        · rw [h2] at y
          rw [z, y]
          exact kitAny_nil
        · rw [h2] at y
          rw [y, Bool.or_true]
      · rw [h1] at z
        rw [z, Bool.true_or]
    exact ⟨v, p, _, _, _, _, rfl, e1, .cons (.ty _) (.cons (.ty _) .nil), b1.ty, kk, k _ s1⟩
end
end Mine

set_option maxRecDepth 100000
set_option maxHeartbeats 4000000
namespace Mine
open PySem L2
abbrev s_are_counts : Stmt := top 19
abbrev s_are_operations : Stmt := top 20
abbrev s_word_of : Stmt := top 22
abbrev s_are_nexts : Stmt := top 23
abbrev s_line_of : Stmt := top 38
abbrev s_is_line : Stmt := top 37
structure TxtG (K : PySem.W.Frag) (mg : Str → Option Value) (a_is_row a_is_index a_is_name a_is_text_in a_are_counts a_word_of a_are_nexts a_is_line a_line_of a_are_operations : Addr) : Prop where
  c_MOST_OPERATIONS : ∃ t, mg "MOST_OPERATIONS" = some (.int 8 t)
  c_MOST_ANSWERS : ∃ t, mg "MOST_ANSWERS" = some (.int 6 t)
  g_is_row : mg "is_row" = some (.ref a_is_row)
  k_is_row : PySem.W.keepIn K (.ref a_is_row) = true
  g_is_index : mg "is_index" = some (.ref a_is_index)
  k_is_index : PySem.W.keepIn K (.ref a_is_index) = true
  g_is_name : mg "is_name" = some (.ref a_is_name)
  k_is_name : PySem.W.keepIn K (.ref a_is_name) = true
  g_is_text_in : mg "is_text_in" = some (.ref a_is_text_in)
  k_is_text_in : PySem.W.keepIn K (.ref a_is_text_in) = true
  g_are_counts : mg "are_counts" = some (.ref a_are_counts)
  k_are_counts : PySem.W.keepIn K (.ref a_are_counts) = true
  g_word_of : mg "word_of" = some (.ref a_word_of)
  k_word_of : PySem.W.keepIn K (.ref a_word_of) = true
  g_are_nexts : mg "are_nexts" = some (.ref a_are_nexts)
  k_are_nexts : PySem.W.keepIn K (.ref a_are_nexts) = true
  g_is_line : mg "is_line" = some (.ref a_is_line)
  k_is_line : PySem.W.keepIn K (.ref a_is_line) = true
  g_line_of : mg "line_of" = some (.ref a_line_of)
  k_line_of : PySem.W.keepIn K (.ref a_line_of) = true
  g_are_operations : mg "are_operations" = some (.ref a_are_operations)
  k_are_operations : PySem.W.keepIn K (.ref a_are_operations) = true
theorem globI {X : Cx} {x : Str} {i : Int} {pos : Pos} (hg : Gl X x) (h : ∃ t, X.mg x = some (.int i t)) (hd : (x == ("__debug__" : Str)) = false := by decide) : PE X (.Name x pos) (tC (.int i)) := by
  obtain ⟨t, e⟩ := h
  exact pe_glob hg e ⟨t, rfl⟩ hd
theorem globS {X : Cx} {x y : Str} {pos : Pos} (hg : Gl X x) (h : ∃ t, X.mg x = some (.str y t)) (hd : (x == ("__debug__" : Str)) = false := by decide) : PE X (.Name x pos) (tC (.str y)) := by
  obtain ⟨t, e⟩ := h
  exact pe_glob hg e ⟨t, rfl⟩ hd
/-- the letters of a text are looked at one by one -/
def lets (x : Str) (i : Nat) : List Bool := (x.cps.toList.take i).map fun c => decide (c ∈ lettersS.cps.toList)
theorem lets_succ {x : Str} {i c : Nat} (h : x.cps[i]? = some c) : lets x (i + 1) = lets x i ++ [decide (c ∈ lettersS.cps.toList)] := by
  have h' : x.cps.toList[i]? = some c := by rw [← h]; simp
  unfold lets
  rw [List.take_add_one, h', List.map_append]
  rfl
theorem lets_all (x : Str) : (lets x x.cps.size).all id = x.cps.toList.all fun c => decide (c ∈ lettersS.cps.toList) := by
  unfold lets
  rw [show x.cps.size = x.cps.toList.length by simp, List.take_length, List.all_map]
  rfl
section
variable {P : Program} {w : World} {K : PySem.W.Frag} {mg : Str → Option Value} {base : Heap}
variable {fII fIW : Addr}
theorem sc_is_name : FnScope ["thing", "letter"] ["thing"] (defScope s_is_name) := ⟨rfl, rfl, rfl, by decide +kernel, rfl, by decide +kernel, by decide +kernel⟩
theorem ok_is_name {f : Addr} {fd : FuncData} (F : Fun K "is_name" "is_name" s_is_name f fd) (T : TxtF K mg fII fIW) : FnOk P w K mg base CX0 1 f fd ["thing"] (spName K) := by
  refine F.ok sc_is_name (fun vs H Q E h => ?_) (fun cdv A outer s H vs Q E hr h => ?_)
  · obtain ⟨v, t, rfl, _⟩ := h
    rfl
  · obtain ⟨v, t, rfl, b, sz, k⟩ := h
    refine ⟨_, (pss_cons (ps_if (PW.pt (pw_or (pt_not (pt_val (pe_callB call_isi (by rfl) T.b_isinstance (by decide +kernel) (pa_cons (pv 0) (pa_cons (pe_bltn (v := .ty "str") rfl T.b_str (by decide +kernel) rfl) pa_nil))))) (pw_or1 (pt_not (pt_chain op_le op_le pe_int (pe_callB call_len_str (by rfl) T.b_len PySem.boot_len (pa_cons (pv 0) pa_nil)) (globI rfl T.c_LONGEST_NAME)))))) (pss_one (ps_ret pe_bl)) pss_nil)
      (pss_one (ps_ret (pe_callB (cr_all rfl) (by rfl) T.b_all (by decide +kernel) (pa_cons (pe_lc (own := [("letter", 1)]) (g := gName 1) (tt := tYes) rfl sc_is_name.nd (pi_str (pv 0)) (blkOk_by (own := [("letter", 1)]) (N := ["thing", "letter"]) (sc := defScope s_is_name) (by decide +kernel)) (fun _ _ _ _ _ => pg_name (i := 1) sc_is_name.nd rfl (Or.inl rfl)) (fun _ _ _ _ _ => pts_nil) (fun _ _ _ _ _ => (pe_cmpR op_in_sign (pv 1) (globS rfl T.c_LETTERS) (by rfl)))) pa_nil))))), ?_⟩
    have hk : ∀ t', (kb t' "str") = (t' == "str") := fun t' => by simp [kb]
    refine ⟨_, rfl, v, _, _, _, _, rfl, .ty _, b.ty, b.kit (u := "str") (by decide), _, rfl, ?_⟩
    rw [hk]
    by_cases h1 : (t == "str") = true
    · obtain ⟨x, rfl⟩ := b.str h1
      rw [h1]
      refine iteF ?_
      refine ⟨_, rfl, ?_⟩
      refine ⟨x, rfl, sz x rfl, _, _, rfl, rfl, _, rfl, ?_⟩
      have bad : ¬ (1 ≤ x.length ∧ x.length ≤ 8) → isNm x = false := fun z => by
        unfold isNm
        by_cases y : 1 ≤ x.length
        · rw [decide_eq_true y, decide_eq_false (fun u => z ⟨y, u⟩)]
          rfl
        · rw [decide_eq_false y]
          rfl
      by_cases h2 : 1 ≤ x.length
      · rw [decide_eq_true (show (1 : Int) ≤ (x.length : Int) by omega)]
        refine iteT ?_
        refine ⟨_, _, rfl, rfl, _, rfl, ?_⟩
        by_cases h3 : x.length ≤ 8
        · rw [decide_eq_true (show (x.length : Int) ≤ 8 by omega)]
          refine iteF ?_
          refine ⟨_, rfl, x, rfl, fun D nD => lc_it walk_str (fun i Hx => Same H Hx ∧ Hx D = some (.lst ((lets x i).map V.bl))) ⟨sameNew nD _, upd_same⟩ (fun _ _ _ _ => trivial) (fun i y Ha Hb hi z1 z2 => ?_) fun Hx z => ?_⟩
          · obtain ⟨sx, ex⟩ := z1
            obtain ⟨rfl, c, hc, rfl⟩ := z2
            refine ⟨rfl, _, rfl, c, lettersS, rfl, rfl, _, ex, ?_, fun b o e => ?_, ?_⟩
            · rw [List.length_map]
              show ((x.cps.toList.take i).map _).length < _
              rw [List.length_map, List.length_take, sizeLine_eq]
              have : x.cps.toList.length ≤ 8 := by
                have : x.length = x.cps.toList.length := by simp [Str.length]
                omega
              omega
            · rw [upd_ne (ne_of_none e nD)]
              exact sx _ _ e
            · rw [lets_succ hc, List.map_append]
              exact upd_same
          · obtain ⟨sx, ex⟩ := z
            refine ⟨D, _, rfl, SqL.of ex, ?_⟩
            rw [lets_all]
            have e : nameV (.str x) = x.cps.toList.all fun c => decide (c ∈ lettersS.cps.toList) := by
              show isNm x = _
              unfold isNm
              rw [decide_eq_true h2, decide_eq_true h3, Bool.true_and, Bool.true_and]
            rw [← e]
            exact k _ sx
        · rw [decide_eq_false (show ¬ (x.length : Int) ≤ 8 by omega)]
          refine iteT ?_
          have e : nameV (.str x) = false := bad fun z => h3 z.2
          rw [e] at k
          exact k _ (Same.refl _)
      · rw [decide_eq_false (show ¬ (1 : Int) ≤ (x.length : Int) by omega)]
        refine iteF ?_
        refine ⟨_, rfl, ?_⟩
        refine iteT ?_
        have e : nameV (.str x) = false := bad fun z => h2 z.1
        rw [e] at k
        exact k _ (Same.refl _)
    · rw [Bool.eq_false_iff.mpr h1]
      refine iteT ?_
      have e := nameV_of b (Bool.eq_false_iff.mpr h1)
      rw [e] at k
      exact k _ (Same.refl _)
end
end Mine

set_option maxRecDepth 100000
set_option maxHeartbeats 4000000
namespace L2
open PySem PySem.Spec PyProof.Rows
/-- a list or a tuple -/
def SqA (H : Hp) (a : Addr) (xs : List V) : Prop := H a = some (.lst xs) ∨ H a = some (.tup xs)
theorem Same.sqa {H H' : Hp} {a : Addr} {xs : List V} (s : Same H H') (h : SqA H a xs) : SqA H' a xs := h.elim (fun h => .inl (s _ _ h)) fun h => .inr (s _ _ h)
theorem SqA.ix {K : PySem.W.Frag} {H : Hp} {a : Addr} {xs : List V} {i : Int} {v : V} {Q : VK} (h : SqA H a xs) (e : atI xs i = some v) (q : Q v H) : rIx K (.ref a) (.int i) H Q := by
  rcases h with h | h
  · exact .inl ⟨a, xs, i, v, rfl, rfl, SqL.of h, e, q⟩
  · exact .inr (.inl ⟨a, xs, i, v, rfl, rfl, .inl (.inl h), e, q⟩)
theorem SqA.sq {K : PySem.W.Frag} {H : Hp} {a : Addr} {xs : List V} (h : SqA H a xs) : SqL K H a xs ∨ SqT K H a xs := h.elim (fun h => .inl (SqL.of h)) fun h => .inr (.inl (.inl h))
theorem pi_or {X : Cx} {tg iter : Expr} {w1 w2 : TI} (h1 : PI X tg iter w1) (h2 : PI X tg iter w2) : PI X tg iter (fun σ H R => w1 σ H R ∨ w2 σ H R) :=
  ⟨fun pins s σ H R I h => h.elim (h1.run pins s σ H R I) (h2.run pins s σ H R I)⟩
def iSeq (K : PySem.W.Frag) (tl : TE) : TI := fun σ H R => iList K tl σ H R ∨ iTup K tl σ H R
theorem pi_seq {X : Cx} {tg l : Expr} {tl : TE} (hl : PE X l tl) : PI X tg l (iSeq X.K tl) := pi_or (pi_list hl) (pi_tup hl)
theorem same_unlock {H Hx : Hp} {a : Addr} {u : HO} {od : Obj} (e : H a = some u) (s : Same (upd H a (.frz od u)) Hx) : Same H (upd Hx a u) := fun b o h => by
  by_cases z : b = a
  · subst z
    rw [e] at h
    rw [upd_same, h]
  · rw [upd_ne z]
    exact s b o (by rw [upd_ne z]; exact h)
end L2
namespace Mine
open PySem L2
abbrev Ops := List (Str × Int)
def opsK (o : Ops) : List (Key × V) := o.map fun p => (Sum.inr p.1, V.int p.2)
def opLook (o : Ops) (x : Str) : Option Int := (o.find? fun p => decide (p.1 = x)).map (·.2)
theorem val_ops (o : Ops) (x : Str) : valV (opsK o) (.inr x) = (opLook o x).map V.int := by
  unfold valV opsK opLook
  induction o with
  | nil => rfl
  | cons p o ih =>
    by_cases h : p.1 = x
    · simp [h]
    · have h2 : ¬ (Sum.inr p.1 : Key) = Sum.inr x := fun z => h (Sum.inr.inj z)
      simp only [List.map_cons, List.find?_cons, decide_eq_false h, decide_eq_false h2]
      exact ih
/-- operations that are right -/
structure OkOps (o : Ops) : Prop where
  few : o.length ≤ 8
  each : ∀ p ∈ o, isNm p.1 = true ∧ 0 ≤ p.2 ∧ p.2 ≤ 6
  nd : (o.map (·.1)).Nodup
def spCounts : Sp := fun vs H Q _ => ∃ (a : Addr) (o : Ops) (most lo hi : Int), vs = [.ref a, .int most, .int lo, .int hi] ∧ H a = some (.dK (opsK o)) ∧ (o.length : Int) ≤ most ∧ o.length ≤ 1000 ∧ (∀ p ∈ o, isNm p.1 = true ∧ lo ≤ p.2 ∧ p.2 ≤ hi) ∧ ∀ H', Same H H' → Q (.bl true) H'
def spOps : Sp := fun vs H Q _ => ∃ (a : Addr) (o : Ops), vs = [.ref a] ∧ H a = some (.dK (opsK o)) ∧ OkOps o ∧ ∀ H', Same H H' → Q (.bl true) H'
/-- what a row of a body says -/
inductive RowD where
  | ask (op : Str) (ns : List Int)
  | go (n : Int)
  | fin (w : Str)
/-- the row stands there, in lists or tuples -/
def RowAt (H : Hp) (v : V) : RowD → Prop
  | .ask op ns => ∃ a t, v = .ref a ∧ SqA H a [.str "ask", .str op, .ref t] ∧ SqA H t (ns.map V.int)
  | .go n => ∃ a, v = .ref a ∧ SqA H a [.str "go", .int n]
  | .fin w => ∃ a, v = .ref a ∧ SqA H a [.str "end", .str w]
/-- .. in tuples -/
def TRow (H : Hp) (v : V) : RowD → Prop
  | .ask op ns => ∃ a t, v = .ref a ∧ H a = some (.tup [.str "ask", .str op, .ref t]) ∧ H t = some (.tup (ns.map V.int))
  | .go n => ∃ a, v = .ref a ∧ H a = some (.tup [.str "go", .int n])
  | .fin w => ∃ a, v = .ref a ∧ H a = some (.tup [.str "end", .str w])
theorem RowAt.same {H H' : Hp} {v : V} {r : RowD} (s : Same H H') (h : RowAt H v r) : RowAt H' v r := by
  cases r with
  | ask op ns =>
    obtain ⟨a, t, e, h1, h2⟩ := h
    exact ⟨a, t, e, s.sqa h1, s.sqa h2⟩
  | go n =>
    obtain ⟨a, e, h1⟩ := h
    exact ⟨a, e, s.sqa h1⟩
  | fin w =>
    obtain ⟨a, e, h1⟩ := h
    exact ⟨a, e, s.sqa h1⟩
theorem TRow.same {H H' : Hp} {v : V} {r : RowD} (s : Same H H') (h : TRow H v r) : TRow H' v r := by
  cases r with
  | ask op ns =>
    obtain ⟨a, t, e, h1, h2⟩ := h
    exact ⟨a, t, e, s _ _ h1, s _ _ h2⟩
  | go n =>
    obtain ⟨a, e, h1⟩ := h
    exact ⟨a, e, s _ _ h1⟩
  | fin w =>
    obtain ⟨a, e, h1⟩ := h
    exact ⟨a, e, s _ _ h1⟩
theorem TRow.row {H : Hp} {v : V} {r : RowD} (h : TRow H v r) : RowAt H v r := by
  cases r with
  | ask op ns =>
    obtain ⟨a, t, e, h1, h2⟩ := h
    exact ⟨a, t, e, .inr h1, .inr h2⟩
  | go n =>
    obtain ⟨a, e, h1⟩ := h
    exact ⟨a, e, .inr h1⟩
  | fin w =>
    obtain ⟨a, e, h1⟩ := h
    exact ⟨a, e, .inr h1⟩
/-- the row is one of a body with these operations and so many rows -/
def OkRow (o : Ops) (many : Int) : RowD → Prop
  | .ask op ns => opLook o op = some (ns.length : Int) ∧ ns.length ≤ 1000 ∧ ∀ n ∈ ns, 0 ≤ n ∧ n < many
  | .go n => 0 ≤ n ∧ n < many
  | .fin w => isNm w = true ∧ w.length ≤ 8
def spWord : Sp := fun vs H Q _ => ∃ (a : Addr) (x : Str) (xs : List V), vs = [.ref a] ∧ SqA H a (.str x :: xs) ∧ ∀ H', Same H H' → Q (.str x) H'
def spNexts : Sp := fun vs H Q _ => ∃ (t d : Addr) (ns : List Int) (op : Str) (o : Ops) (many : Int), vs = [.ref t, .str op, .ref d, .int many] ∧ SqA H t (ns.map V.int) ∧ Rd H d (.dK (opsK o)) ∧
  opLook o op = some (ns.length : Int) ∧ ns.length ≤ 1000 ∧ (∀ n ∈ ns, 0 ≤ n ∧ n < many) ∧ ∀ H', Same H H' → Q (.bl true) H'
def spIsLine : Sp := fun vs H Q _ => ∃ (v : V) (d : Addr) (o : Ops) (many : Int) (r : RowD), vs = [v, .ref d, .int many] ∧ RowAt H v r ∧ Rd H d (.dK (opsK o)) ∧ OkRow o many r ∧ ∀ H', Same H H' → Q (.bl true) H'
def spLineOf : Sp := fun vs H Q _ => ∃ (v : V) (r : RowD), vs = [v] ∧ RowAt H v r ∧ ∀ (v' : V) (H' : Hp), Same H H' → TRow H' v' r → Q v' H'
theorem inW_int {i lo hi : Int} (h1 : lo ≤ i) (h2 : i ≤ hi) : inW (.int i) lo hi = true := by
  show (decide (lo ≤ i) && decide (i ≤ hi)) = true
  rw [decide_eq_true h1, decide_eq_true h2]
  rfl
theorem btInt {K : PySem.W.Frag} {H : Hp} (i : Int) : Bt K H (.int i) "int" := ⟨.base (.int i), by decide⟩
theorem btStr {K : PySem.W.Frag} {H : Hp} (x : Str) : Bt K H (.str x) "str" := ⟨.base (.str x), by decide⟩
theorem btSeq {K : PySem.W.Frag} {H : Hp} {a : Addr} {xs : List V} (h : SqA H a xs) : ∃ t, Bt K H (.ref a) t ∧ (t == "list" || t == "tuple") = true := by
  rcases h with h | h
  · exact ⟨"list", ⟨.base (.lst h), by decide⟩, by decide⟩
  · exact ⟨"tuple", ⟨.base (.tup h), by decide⟩, by decide⟩
theorem nm_len {x : Str} (h : isNm x = true) : x.length ≤ 8 := by
  unfold isNm at h
  rw [Bool.and_eq_true, Bool.and_eq_true] at h
  exact of_decide_eq_true h.1.2
theorem trues_all (n : Nat) : (List.replicate n true).all id = true := by simp
theorem trues_map (n : Nat) : (List.replicate n true).map V.bl = List.replicate n (V.bl true) := by simp
section
variable {P : Program} {w : World} {K : PySem.W.Frag} {mg : Str → Option Value} {base : Heap}
variable {fII fIW a_is_row a_is_index a_is_name a_is_text_in a_are_counts a_word_of a_are_nexts a_is_line a_line_of a_are_operations : Addr}
theorem sc_is_text_in : FnScope ["thing", "table"] ["thing", "table"] (defScope s_is_text_in) := ⟨rfl, rfl, rfl, by decide +kernel, rfl, by decide +kernel, by decide +kernel⟩
theorem ok_is_text_in {f : Addr} {fd : FuncData} (F : Fun K "is_text_in" "is_text_in" s_is_text_in f fd) (T : TxtF K mg fII fIW) : FnOk P w K mg base CX0 1 f fd ["thing", "table"] (spTextIn K) := by
  refine F.ok sc_is_text_in (fun vs H Q E h => ?_) (fun cdv A outer s H vs Q E hr h => ?_)
  · obtain ⟨v, t, d, kvs, rfl, _⟩ := h
    rfl
  · obtain ⟨v, t, d, kvs, rfl, b, hd, k⟩ := h
    refine ⟨_, (pss_one (ps_ret (pe_and (pe_callB call_isi (by rfl) T.b_isinstance (by decide +kernel) (pa_cons (pv 0) (pa_cons (pe_bltn (v := .ty "str") rfl T.b_str (by decide +kernel) rfl) pa_nil))) (pe_one (pe_cmp (pc_din (hu_of hr) (pv 0) (pv 1)) rfl))))), ?_⟩
    have hk : (kb t "str") = (t == "str") := by simp [kb]
    refine ⟨_, rfl, v, _, _, _, _, rfl, .ty _, b.ty, b.kit (u := "str") (by decide), _, rfl, ?_⟩
    rw [hk]
    by_cases h1 : (t == "str") = true
    · obtain ⟨x, rfl⟩ := b.str h1
      rw [h1]
      refine iteT ?_
      exact ⟨_, rfl, _, rfl, d, _, rfl, .inl ⟨kvs, .inr x, hd, rfl, rfl⟩, k⟩
    · rw [Bool.eq_false_iff.mpr h1]
      refine iteF ?_
      have e : hasT kvs v = false := by
        cases b.ty with
        | base z => cases z <;> first | rfl | (exact absurd (by decide) h1)
        | _ => rfl
      rw [e] at k
      exact k
theorem sc_are_counts : FnScope ["thing", "most", "low", "high", "name", "many"] ["thing", "most", "low", "high"] (defScope s_are_counts) := ⟨rfl, rfl, rfl, by decide +kernel, rfl, by decide +kernel, by decide +kernel⟩
theorem ok_are_counts {f : Addr} {fd fd_is_name fd_is_integer fd_is_within : FuncData} (F : Fun K "are_counts" "are_counts" s_are_counts f fd) (T : TxtF K mg fII fIW) (TG : TxtG K mg a_is_row a_is_index a_is_name a_is_text_in a_are_counts a_word_of a_are_nexts a_is_line a_line_of a_are_operations)
    (F_is_name : Fun K "is_name" "is_name" s_is_name a_is_name fd_is_name) (b_is_name : Binds K fd_is_name ["thing"] []) (FI : Fun K "is_integer" "is_integer" s_is_integer fII fd_is_integer) (bI : Binds K fd_is_integer ["thing"] [])
    (FW : Fun K "is_within" "is_within" s_is_within fIW fd_is_within) (b_is_within : Binds K fd_is_within ["thing", "low", "high"] []) : FnOk P w K mg base CX0 3 f fd ["thing", "most", "low", "high"] spCounts := by
  have GN : FnOk P w K mg base CX0 1 a_is_name fd_is_name ["thing"] (spName K) := ok_is_name F_is_name T
  have GW : FnOk P w K mg base CX0 2 fIW fd_is_within ["thing", "low", "high"] (spWithin K) := ok_is_within FW T FI bI
  refine F.ok sc_are_counts (fun vs H Q E h => ?_) (fun cdv A outer s H vs Q E hr h => ?_)
  · obtain ⟨a, o, most, lo, hi, rfl, _⟩ := h
    rfl
  · obtain ⟨a, o, most, lo, hi, rfl, ha, l1, l2, all, k⟩ := h
    refine ⟨_, (pss_cons (ps_if (PW.pt (pw_or (pt_not (pt_val (pe_callB call_isi (by rfl) T.b_isinstance (by decide +kernel) (pa_cons (pv 0) (pa_cons (pe_bltn (v := .ty "dict") rfl T.b_dict (by decide +kernel) rfl) pa_nil))))) (pw_or1 (pt_cmpR op_gt (pe_callB call_lenD (by rfl) T.b_len PySem.boot_len (pa_cons (pv 0) pa_nil)) (pv 1) (nomark _))))) (pss_one (ps_ret pe_bl)) pss_nil)
      (pss_one (ps_ret (pe_callB (cr_all rfl) (by rfl) T.b_all (by decide +kernel) (pa_cons (pe_lock (pe_lc (own := [("name", 4), ("many", 5)]) (g := gTup K 2 (gCons (gName 4) (gCons (gName 5) gNil))) (tt := tYes) rfl sc_are_counts.nd (pi_items (pv 0)) (blkOk_by (own := [("name", 4), ("many", 5)]) (N := ["thing", "most", "low", "high", "name", "many"]) (sc := defScope s_are_counts) (by decide +kernel)) (fun _ _ _ _ _ => pg_tup rfl (pgs_cons (pg_name (i := 4) sc_are_counts.nd rfl (Or.inl rfl)) (pgs_cons (pg_name (i := 5) sc_are_counts.nd rfl (Or.inl rfl)) pgs_nil))) (fun _ _ _ _ _ => pts_nil) (fun _ _ _ _ _ => (pe_and (pe_call GN (hr.mono (by decide)) (by rfl) TG.g_is_name TG.k_is_name b_is_name .nil pass0 (pa_cons (pv 4) pa_nil)) (pe_one (pe_call GW hr (by rfl) T.g_is_within T.k_is_within b_is_within .nil pass0 (pa_cons (pv 5) (pa_cons (pv 2) (pa_cons (pv 3) pa_nil))))))))) pa_nil))))), ?_⟩
    have bD : Bt K H (.ref a) "dict" := ⟨.base (.dK ha), by decide⟩
    refine ⟨_, rfl, _, _, _, _, _, rfl, .ty _, bD.ty, bD.kit (u := "dict") (by decide), _, rfl, ?_⟩
    refine iteF ?_
    refine ⟨_, rfl, a, _, rfl, ha, _, rfl, _, _, rfl, rfl, _, rfl, ?_⟩
    have lk : (opsK o).length = o.length := List.length_map ..
    rw [lk, decide_eq_false (show ¬ most < (o.length : Int) by omega)]
    refine iteF ?_
    refine ⟨a, _, ha, trivial, fun od => ⟨_, rfl, a, od, opsK o, rfl, upd_same, fun D nD => lc_it walk_items (fun i Hx => Same (upd H a (.frz od (.dK (opsK o)))) Hx ∧ Hx D = some (.lst (List.replicate i (V.bl true)))) ⟨sameNew nD _, upd_same⟩ (fun i Hx _ z => z.1 _ _ upd_same) (fun i y Ha Hb hi' z1 z2 => ?_) fun Hx z => ?_⟩⟩
    · obtain ⟨sx, ex⟩ := z1
      obtain ⟨T', x, y, rfl, nT, rfl, h1, h2⟩ := z2
      have hi2 : i < o.length := by rw [← lk]; exact hi'
      have e1 : (opsK o)[i]? = some (Sum.inr (o[i]).1, V.int (o[i]).2) := by
        unfold opsK
        rw [List.getElem?_map, List.getElem?_eq_getElem hi2]
        rfl
      dsimp only at h1 h2
      rw [e1] at h1 h2
      have h1' : V.str (o[i]).1 = x := Option.some.inj h1
      have h2' : V.int (o[i]).2 = y := Option.some.inj h2
      subst h1' h2'
      obtain ⟨g1, g2, g3⟩ := all _ (List.getElem_mem hi2)
      refine ⟨T', _, rfl, .inl (.inl upd_same), rfl, _, _, rfl, _, _, rfl, rfl, rfl, ?_⟩
      refine ⟨_, rfl, _, _, rfl, btStr _, fun x' e' => ?_, fun Hy sy => ⟨_, rfl, ?_⟩⟩
      · have e2 : (o[i]).1 = x' := V.str.inj e'
        rw [← e2]
        have := nm_len g1
        rw [sizeLine_eq]
        omega
      · rw [show nameV (.str (o[i]).1) = true from g1]
        refine iteT ?_
        refine ⟨_, rfl, _, rfl, _, rfl, _, _, _, _, rfl, btInt _, ?_⟩
        rw [inW_int g2 g3]
        have exy := sy _ _ (show upd Ha T' _ D = _ by rw [upd_ne (ne_of_none ex nT)]; exact ex)
        refine ⟨_, exy, ?_, fun b u e => ?_, ?_⟩
        · rw [List.length_replicate, sizeLine_eq]
          omega
        · have nb : b ≠ D := fun z => by
            rw [z] at e
            exact absurd (e.symm.trans nD) (by simp)
          rw [upd_ne nb]
          exact sy _ _ (by rw [upd_ne (ne_of_none (sx _ _ e) nT)]; exact sx _ _ e)
        · rw [List.replicate_succ']
          exact upd_same
    · obtain ⟨sx, ex⟩ := z
      have nDa : D ≠ a := fun z => by
        rw [z, upd_same] at nD
        cases nD
      refine ⟨sx _ _ upd_same, D, List.replicate (opsK o).length true, rfl, SqL.of (by rw [upd_ne nDa, trues_map]; exact ex), ?_⟩
      rw [trues_all]
      exact k _ (same_unlock ha sx)
end
end Mine

set_option maxRecDepth 100000
set_option maxHeartbeats 4000000
namespace Mine
open PySem L2
theorem at0' {α : Type} {a : α} {l : List α} : atI (a :: l) 0 = some a := atI_nat (j := 0) rfl
theorem at1' {α : Type} {a b : α} {l : List α} : atI (a :: b :: l) 1 = some b := atI_nat (j := 1) rfl
theorem at2' {α : Type} {a b c : α} {l : List α} : atI (a :: b :: c :: l) 2 = some c := atI_nat (j := 2) rfl
theorem nx_all {ns : List Int} {t : Addr} : (ns.map V.int).length = ns.length := List.length_map ..
section
variable {P : Program} {w : World} {K : PySem.W.Frag} {mg : Str → Option Value} {base : Heap}
variable {fII fIW a_is_row a_is_index a_is_name a_is_text_in a_are_counts a_word_of a_are_nexts a_is_line a_line_of a_are_operations : Addr}
theorem sc_are_operations : FnScope ["thing"] ["thing"] (defScope s_are_operations) := ⟨rfl, rfl, rfl, by decide +kernel, rfl, by decide +kernel, by decide +kernel⟩
theorem ok_are_operations {f : Addr} {fd fd_are_counts : FuncData} (F : Fun K "are_operations" "are_operations" s_are_operations f fd) (TG : TxtG K mg a_is_row a_is_index a_is_name a_is_text_in a_are_counts a_word_of a_are_nexts a_is_line a_line_of a_are_operations)
    (GC : FnOk P w K mg base CX0 3 a_are_counts fd_are_counts ["thing", "most", "low", "high"] spCounts) (b_are_counts : Binds K fd_are_counts ["thing", "most", "low", "high"] []) : FnOk P w K mg base CX0 4 f fd ["thing"] spOps := by
  refine F.ok sc_are_operations (fun vs H Q E h => ?_) (fun cdv A outer s H vs Q E hr h => ?_)
  · obtain ⟨a, o, rfl, _⟩ := h
    rfl
  · obtain ⟨a, o, rfl, ha, ok, k⟩ := h
    refine ⟨_, (pss_one (ps_ret (pe_call GC (hr.mono (by decide)) (by rfl) TG.g_are_counts TG.k_are_counts b_are_counts .nil pass0 (pa_cons (pv 0) (pa_cons (globI rfl TG.c_MOST_OPERATIONS) (pa_cons pe_int (pa_cons (globI rfl TG.c_MOST_ANSWERS) pa_nil))))))), ?_⟩
    have := ok.few
    exact ⟨_, rfl, a, o, 8, 0, 6, rfl, ha, by omega, by omega, ok.each, k⟩
theorem sc_word_of : FnScope ["row"] ["row"] (defScope s_word_of) := ⟨rfl, rfl, rfl, by decide +kernel, rfl, by decide +kernel, by decide +kernel⟩
theorem ok_word_of {f : Addr} {fd fd_is_row : FuncData} (F : Fun K "word_of" "word_of" s_word_of f fd) (T : TxtF K mg fII fIW) (TG : TxtG K mg a_is_row a_is_index a_is_name a_is_text_in a_are_counts a_word_of a_are_nexts a_is_line a_line_of a_are_operations)
    (GR : FnOk P w K mg base CX0 1 a_is_row fd_is_row ["thing"] (spIsRow K)) (b_is_row : Binds K fd_is_row ["thing"] []) : FnOk P w K mg base CX0 2 f fd ["row"] spWord := by
  refine F.ok sc_word_of (fun vs H Q E h => ?_) (fun cdv A outer s H vs Q E hr h => ?_)
  · obtain ⟨a, x, xs, rfl, _⟩ := h
    rfl
  · obtain ⟨a, x, xs, rfl, ha, k⟩ := h
    refine ⟨_, (pss_cons (ps_if (PW.pt (pw_and (pt_val (pe_call GR (hr.mono (by decide)) (by rfl) TG.g_is_row TG.k_is_row b_is_row .nil pass0 (pa_cons (pv 0) pa_nil))) (pw_and (pt_cmpR op_gt (pe_callB call_len_seq (by rfl) T.b_len PySem.boot_len (pa_cons (pv 0) pa_nil)) pe_int (nomark _)) (pw_and1 (pt_val (pe_callB call_isi (by rfl) T.b_isinstance (by decide +kernel) (pa_cons (pe_ix ix_seq (pv 0) pe_int (fun _ _ => rfl)) (pa_cons (pe_bltn (v := .ty "str") rfl T.b_str (by decide +kernel) rfl) pa_nil)))))))) (pss_one (ps_ret (pe_ix ix_seq (pv 0) pe_int (fun _ _ => rfl)))) pss_nil)
      (pss_one (ps_ret pe_str))), ?_⟩
    obtain ⟨t, b, e⟩ := btSeq (K := K) ha
    refine ⟨_, rfl, _, t, rfl, b, fun H1 s1 => ⟨_, rfl, ?_⟩⟩
    rw [e]
    refine iteT ?_
    have ha1 := s1.sqa ha
    refine ⟨_, rfl, a, _, rfl, ha1.sq, _, _, rfl, rfl, _, rfl, ?_⟩
    rw [decide_eq_true (show (0 : Int) < (((V.str x :: xs).length : Nat) : Int) by rw [List.length_cons]; omega)]
    refine iteT ?_
    refine ⟨_, rfl, ha1.ix at0' ?_⟩
    refine ⟨_, _, _, _, _, rfl, .ty _, (btStr (K := K) (H := H1) x).ty, (btStr (K := K) (H := H1) x).kit (u := "str") (by decide), _, rfl, ?_⟩
    refine iteT ?_
    exact ⟨_, rfl, ha1.ix at0' (k _ s1)⟩
theorem sc_are_nexts : FnScope ["nexts", "operation", "counts", "many", "index"] ["nexts", "operation", "counts", "many"] (defScope s_are_nexts) := ⟨rfl, rfl, rfl, by decide +kernel, rfl, by decide +kernel, by decide +kernel⟩
theorem ok_are_nexts {f : Addr} {fd fd_is_row fd_is_index : FuncData} (F : Fun K "are_nexts" "are_nexts" s_are_nexts f fd) (T : TxtF K mg fII fIW) (TG : TxtG K mg a_is_row a_is_index a_is_name a_is_text_in a_are_counts a_word_of a_are_nexts a_is_line a_line_of a_are_operations)
    (GR : FnOk P w K mg base CX0 1 a_is_row fd_is_row ["thing"] (spIsRow K)) (b_is_row : Binds K fd_is_row ["thing"] [])
    (GI : FnOk P w K mg base CX0 3 a_is_index fd_is_index ["thing", "many"] (spIndex K)) (b_is_index : Binds K fd_is_index ["thing", "many"] []) : FnOk P w K mg base CX0 4 f fd ["nexts", "operation", "counts", "many"] spNexts := by
  refine F.ok sc_are_nexts (fun vs H Q E h => ?_) (fun cdv A outer s H vs Q E hr h => ?_)
  · obtain ⟨t, d, ns, op, o, many, rfl, _⟩ := h
    rfl
  · obtain ⟨t, d, ns, op, o, many, rfl, ht, hd, hl, l2, all, k⟩ := h
    refine ⟨_, (pss_cons (ps_if (PW.pt (pw_or (pt_not (pt_val (pe_call GR (hr.mono (by decide)) (by rfl) TG.g_is_row TG.k_is_row b_is_row .nil pass0 (pa_cons (pv 0) pa_nil)))) (pw_or1 (pt_cmpR op_ne (pe_callB call_len_seq (by rfl) T.b_len PySem.boot_len (pa_cons (pv 0) pa_nil)) (pe_dget (hu_of hr) (pv 2) (pv 1) (fun _ _ => rfl)) (nomark _))))) (pss_one (ps_ret pe_bl)) pss_nil)
      (pss_one (ps_ret (pe_callB (cr_all rfl) (by rfl) T.b_all (by decide +kernel) (pa_cons (pe_lc (own := [("index", 4)]) (g := gName 4) (tt := tYes) (wi := iSeq K (tVar 0)) rfl sc_are_nexts.nd (pi_seq (pv 0)) (blkOk_by (own := [("index", 4)]) (N := ["nexts", "operation", "counts", "many", "index"]) (sc := defScope s_are_nexts) (by decide +kernel)) (fun _ _ _ _ _ => pg_name (i := 4) sc_are_nexts.nd rfl (Or.inl rfl)) (fun _ _ _ _ _ => pts_nil) (fun _ _ _ _ _ => (pe_call GI (hr.mono (by decide)) (by rfl) TG.g_is_index TG.k_is_index b_is_index .nil pass0 (pa_cons (pv 4) (pa_cons (pv 3) pa_nil))))) pa_nil))))), ?_⟩
    obtain ⟨ty, b, e⟩ := btSeq (K := K) ht
    refine ⟨_, rfl, _, ty, rfl, b, fun H1 s1 => ⟨_, rfl, ?_⟩⟩
    rw [e]
    refine iteF ?_
    have ht1 := s1.sqa ht
    have hd1 : Rd H1 d (.dK (opsK o)) := hd.elim (fun z => .inl (s1 _ _ z)) fun ⟨od, z⟩ => .inr ⟨od, s1 _ _ z⟩
    refine ⟨_, rfl, t, _, rfl, ht1.sq, _, rfl, _, rfl, d, _, rfl, .inl ⟨opsK o, .inr op, hd1, rfl, (by rw [val_ops, hl]; rfl)⟩, rfl, _, rfl, ?_⟩
    rw [List.length_map, decide_eq_true (show V.int (ns.length : Int) = V.int (ns.length : Int) from rfl)]
    refine iteF ?_
    have turn : ∀ (Hf : Hp) (D : Addr), Same H1 Hf → Hf D = none → ∀ i (y : V) Ha, i < (ns.map V.int).length → (Same Hf Ha ∧ Ha D = some (.lst (List.replicate i (V.bl true)))) → (ns.map V.int)[i]? = some y →
        inW y 0 (many - 1) = true ∧ (∃ z : Int, y = .int z) ∧ Ha D = some (.lst (List.replicate i (V.bl true))) ∧ (List.replicate i (V.bl true)).length < sizeLine ∧ (Same Hf (upd Ha D (.lst (List.replicate i (V.bl true) ++ [.bl true]))) ∧ upd Ha D (.lst (List.replicate i (V.bl true) ++ [.bl true])) D = some (.lst (List.replicate (i + 1) (V.bl true)))) := by
      intro Hf D sf nD i y Ha hi ⟨sx, ex⟩ hy
      rw [List.getElem?_map] at hy
      rw [List.length_map] at hi
      rw [List.getElem?_eq_getElem hi] at hy
      have e1 : V.int ns[i] = y := Option.some.inj hy
      subst e1
      obtain ⟨b1, b2⟩ := all _ (List.getElem_mem hi)
      refine ⟨inW_int b1 (by omega), ⟨_, rfl⟩, ex, ?_, fun b u e => ?_, ?_⟩
      · rw [List.length_replicate, sizeLine_eq]
        omega
      · have nb : b ≠ D := fun z => by
          rw [z] at e
          exact absurd (e.symm.trans nD) (by simp)
        rw [upd_ne nb]
        exact sx _ _ e
      · rw [List.replicate_succ']
        exact upd_same
    have fin : ∀ (D : Addr) (Hx : Hp), H1 D = none → (Same H1 Hx ∧ Hx D = some (.lst (List.replicate (ns.map V.int).length (V.bl true)))) → rAll K [.ref D] Hx fun v H' => Q v H' := by
      intro D Hx nD ⟨sx, ex⟩
      refine ⟨D, List.replicate (ns.map V.int).length true, rfl, SqL.of (by rw [trues_map]; exact ex), ?_⟩
      rw [trues_all]
      exact k _ (s1.trans sx)
    rcases ht1 with ht1 | ht1
    · refine .inl ⟨_, rfl, t, rfl, ⟨_, SqL.of ht1⟩, fun D nD => lc_it walk_list (fun i Hx => Same H1 Hx ∧ Hx D = some (.lst (List.replicate i (V.bl true)))) ⟨sameNew nD _, upd_same⟩ (fun i Hx _ z => SqL.of (z.1 _ _ ht1)) (fun i y Ha Hb hi z1 z2 => ?_) fun Hx z => fin D Hx nD z⟩
      obtain ⟨rfl, hy⟩ := z2
      obtain ⟨w1, ⟨z, rfl⟩, w3, w4, w5⟩ := turn H1 D (Same.refl _) nD i y _ hi z1 hy
      refine ⟨rfl, _, rfl, _, rfl, _, _, many, rfl, btInt z, ?_⟩
      rw [w1]
      exact ⟨_, w3, w4, w5⟩
    · refine .inr ⟨_, rfl, t, rfl, ⟨_, .inl (.inl ht1)⟩, fun D nD => lc_it walk_tup (fun i Hx => Same H1 Hx ∧ Hx D = some (.lst (List.replicate i (V.bl true)))) ⟨sameNew nD _, upd_same⟩ (fun i Hx _ z => .inl (.inl (z.1 _ _ ht1))) (fun i y Ha Hb hi z1 z2 => ?_) fun Hx z => fin D Hx nD z⟩
      obtain ⟨rfl, hy⟩ := z2
      obtain ⟨w1, ⟨z, rfl⟩, w3, w4, w5⟩ := turn H1 D (Same.refl _) nD i y _ hi z1 hy
      refine ⟨rfl, _, rfl, _, rfl, _, _, many, rfl, btInt z, ?_⟩
      rw [w1]
      exact ⟨_, w3, w4, w5⟩
end
end Mine

set_option maxRecDepth 100000
set_option maxHeartbeats 4000000
namespace L2
open PySem PySem.Spec PyProof.Rows
/-- tuple(x), x a list or a tuple: some tuple of the same things -/
def rTupG : List V → Hp → VK → Prop := fun xs H Q => ∃ p ys, xs = [.ref p] ∧ SqA H p ys ∧ ∀ (q : Addr) (H' : Hp), Same H H' → H' q = some (.tup ys) → Q (.ref q) H'
theorem call_tupleG {X : Cx} : CallR X (.type "tuple") rTupG := fun pins s σ H xs us Q I r ⟨p, ys, e, h, k⟩ => call_tuple_of pins s σ H xs us Q I r ⟨p, ys, e, h.elim (fun h => .inl ⟨SqL.of h, fun l hl => k l _ (sameNew hl _) upd_same⟩) fun h => .inr ⟨.inl (.inl h), k p H (Same.refl _) h⟩⟩
/-- list(x): a new list of the same things -/
def rLstG : List V → Hp → VK → Prop := fun xs H Q => ∃ p ys, xs = [.ref p] ∧ SqA H p ys ∧ New H (.lst ys) Q
theorem call_listG {X : Cx} : CallR X (.type "list") rLstG := fun pins s σ H xs us Q I r ⟨p, ys, e, h, k⟩ => call_list_of pins s σ H xs us Q I r ⟨p, ys, e, h.sq, fun l hl => k.at hl⟩
end L2
namespace Mine
open PySem L2
theorem strNe {x y : Str} (h : x ≠ y) : decide (V.str x = V.str y) = false := decide_eq_false fun z => h (V.str.inj z)
theorem strEq (x : Str) : decide (V.str x = V.str x) = true := decide_eq_true rfl
theorem intEq (i : Int) : decide (V.int i = V.int i) = true := decide_eq_true rfl
theorem ask_end : ("ask" : Str) ≠ "end" := by decide +kernel
theorem end_ask : ("end" : Str) ≠ "ask" := by decide +kernel
theorem go_ask : ("go" : Str) ≠ "ask" := by decide +kernel
theorem go_end : ("go" : Str) ≠ "end" := by decide +kernel
section
variable {P : Program} {w : World} {K : PySem.W.Frag} {mg : Str → Option Value} {base : Heap}
variable {fII fIW a_is_row a_is_index a_is_name a_is_text_in a_are_counts a_word_of a_are_nexts a_is_line a_line_of a_are_operations : Addr}
theorem sc_is_line : FnScope ["row", "counts", "many", "word"] ["row", "counts", "many"] (defScope s_is_line) := ⟨rfl, rfl, rfl, by decide +kernel, rfl, by decide +kernel, by decide +kernel⟩
theorem ok_is_line {f : Addr} {fd fd_word_of fd_is_text_in fd_are_nexts fd_is_name fd_is_index : FuncData} (F : Fun K "is_line" "is_line" s_is_line f fd) (T : TxtF K mg fII fIW) (TG : TxtG K mg a_is_row a_is_index a_is_name a_is_text_in a_are_counts a_word_of a_are_nexts a_is_line a_line_of a_are_operations)
    (GWo : FnOk P w K mg base CX0 2 a_word_of fd_word_of ["row"] spWord) (b_word_of : Binds K fd_word_of ["row"] [])
    (GT : FnOk P w K mg base CX0 1 a_is_text_in fd_is_text_in ["thing", "table"] (spTextIn K)) (b_is_text_in : Binds K fd_is_text_in ["thing", "table"] [])
    (GX : FnOk P w K mg base CX0 4 a_are_nexts fd_are_nexts ["nexts", "operation", "counts", "many"] spNexts) (b_are_nexts : Binds K fd_are_nexts ["nexts", "operation", "counts", "many"] [])
    (GNm : FnOk P w K mg base CX0 1 a_is_name fd_is_name ["thing"] (spName K)) (b_is_name : Binds K fd_is_name ["thing"] [])
    (GI : FnOk P w K mg base CX0 3 a_is_index fd_is_index ["thing", "many"] (spIndex K)) (b_is_index : Binds K fd_is_index ["thing", "many"] []) : FnOk P w K mg base CX0 5 f fd ["row", "counts", "many"] spIsLine := by
  refine F.ok sc_is_line (fun vs H Q E h => ?_) (fun cdv A outer s H vs Q E hr h => ?_)
  · obtain ⟨v, d, o, many, r, rfl, _⟩ := h
    rfl
  · obtain ⟨v, d, o, many, r, rfl, hv, hd, ok, k⟩ := h
    refine ⟨_, (pss_cons (ps_set (i := 3) sc_is_line.nd rfl (Or.inl rfl) (pe_call GWo (hr.mono (by decide)) (by rfl) TG.g_word_of TG.k_word_of b_word_of .nil pass0 (pa_cons (pv 0) pa_nil)))
      (pss_cons (ps_if (pt_cmpR op_eq (pv 3) pe_str (nomark _)) (pss_one (ps_ret (pe_and (pe_cmpR op_eq (pe_callB call_len_seq (by rfl) T.b_len PySem.boot_len (pa_cons (pv 0) pa_nil)) pe_int (nomark _)) (pe_and (pe_call GT (hr.mono (by decide)) (by rfl) TG.g_is_text_in TG.k_is_text_in b_is_text_in .nil pass0 (pa_cons (pe_ix ix_seq (pv 0) pe_int (fun _ _ => rfl)) (pa_cons (pv 1) pa_nil))) (pe_one (pe_call GX (hr.mono (by decide)) (by rfl) TG.g_are_nexts TG.k_are_nexts b_are_nexts .nil pass0 (pa_cons (pe_ix ix_seq (pv 0) pe_int (fun _ _ => rfl)) (pa_cons (pe_ix ix_seq (pv 0) pe_int (fun _ _ => rfl)) (pa_cons (pv 1) (pa_cons (pv 2) pa_nil)))))))))) pss_nil)
      (pss_cons (ps_if (pt_cmpR op_eq (pv 3) pe_str (nomark _)) (pss_one (ps_ret (pe_and (pe_cmpR op_eq (pe_callB call_len_seq (by rfl) T.b_len PySem.boot_len (pa_cons (pv 0) pa_nil)) pe_int (nomark _)) (pe_one (pe_call GNm (hr.mono (by decide)) (by rfl) TG.g_is_name TG.k_is_name b_is_name .nil pass0 (pa_cons (pe_ix ix_seq (pv 0) pe_int (fun _ _ => rfl)) pa_nil)))))) pss_nil)
      (pss_one (ps_ret (pe_and (pe_cmpR op_eq (pv 3) pe_str (nomark _)) (pe_and (pe_cmpR op_eq (pe_callB call_len_seq (by rfl) T.b_len PySem.boot_len (pa_cons (pv 0) pa_nil)) pe_int (nomark _)) (pe_one (pe_call GI (hr.mono (by decide)) (by rfl) TG.g_is_index TG.k_is_index b_is_index .nil pass0 (pa_cons (pe_ix ix_seq (pv 0) pe_int (fun _ _ => rfl)) (pa_cons (pv 2) pa_nil))))))))))), ?_⟩
    have rd : ∀ {H' : Hp}, Same H H' → Rd H' d (.dK (opsK o)) := fun s => hd.elim (fun z => .inl (s _ _ z)) fun ⟨od, z⟩ => .inr ⟨od, s _ _ z⟩
    cases r with
    | ask op ns =>
      obtain ⟨a, t, rfl, ha, ht⟩ := hv
      obtain ⟨o1, o2, o3⟩ := ok
      refine ⟨_, rfl, a, _, _, rfl, ha, fun H1 s1 => ?_⟩
      have ha1 := s1.sqa ha
      refine ⟨_, rfl, rfl, _, rfl, ?_⟩
      rw [strEq]
      refine iteT ?_
      refine ⟨_, rfl, a, _, rfl, ha1.sq, rfl, _, rfl, ?_⟩
      refine iteT ?_
      refine ⟨_, rfl, ha1.ix at1' ⟨_, rfl, _, _, d, _, rfl, btStr _, rd s1, _, rfl, ?_⟩⟩
      have hh : hasT (opsK o) (.str op) = true := by
        show (valV (opsK o) (.inr op)).isSome = true
        rw [val_ops, o1]
        rfl
      rw [hh]
      refine iteT ?_
      refine ⟨_, rfl, ha1.ix at2' ⟨_, rfl, ha1.ix at1' ⟨_, rfl, _, rfl, t, d, ns, op, o, many, rfl, s1.sqa ht, rd s1, o1, o2, o3, fun H2 s2 => k _ (s1.trans s2)⟩⟩⟩
    | fin x =>
      obtain ⟨a, rfl, ha⟩ := hv
      refine ⟨_, rfl, a, _, _, rfl, ha, fun H1 s1 => ?_⟩
      have ha1 := s1.sqa ha
      refine ⟨_, rfl, rfl, _, rfl, ?_⟩
      rw [strNe end_ask]
      refine iteF ?_
      refine ⟨_, rfl, rfl, _, rfl, ?_⟩
      rw [strEq]
      refine iteT ?_
      refine ⟨_, rfl, a, _, rfl, ha1.sq, rfl, _, rfl, ?_⟩
      refine iteT ?_
      refine ⟨_, rfl, ha1.ix at1' ⟨_, _, rfl, btStr _, fun x' e' => ?_, fun H2 s2 => ?_⟩⟩
      · have e2 : x = x' := V.str.inj e'
        rw [← e2, sizeLine_eq]
        have := ok.2
        omega
      · rw [show nameV (.str x) = true from ok.1]
        exact k _ (s1.trans s2)
    | go n =>
      obtain ⟨a, rfl, ha⟩ := hv
      refine ⟨_, rfl, a, _, _, rfl, ha, fun H1 s1 => ?_⟩
      have ha1 := s1.sqa ha
      refine ⟨_, rfl, rfl, _, rfl, ?_⟩
      rw [strNe go_ask]
      refine iteF ?_
      refine ⟨_, rfl, rfl, _, rfl, ?_⟩
      rw [strNe go_end]
      refine iteF ?_
      refine ⟨_, rfl, rfl, _, rfl, ?_⟩
      rw [strEq]
      refine iteT ?_
      refine ⟨_, rfl, a, _, rfl, ha1.sq, rfl, _, rfl, ?_⟩
      refine iteT ?_
      refine ⟨_, rfl, ha1.ix at1' ⟨_, rfl, _, _, many, rfl, btInt n, ?_⟩⟩
      rw [inW_int ok.1 (by have := ok.2; omega)]
      exact k _ s1
theorem sc_line_of : FnScope ["row"] ["row"] (defScope s_line_of) := ⟨rfl, rfl, rfl, by decide +kernel, rfl, by decide +kernel, by decide +kernel⟩
theorem ok_line_of {f : Addr} {fd : FuncData} (F : Fun K "line_of" "line_of" s_line_of f fd) (T : TxtF K mg fII fIW) : FnOk P w K mg base CX0 1 f fd ["row"] spLineOf := by
  refine F.ok sc_line_of (fun vs H Q E h => ?_) (fun cdv A outer s H vs Q E hr h => ?_)
  · obtain ⟨v, r, rfl, _⟩ := h
    rfl
  · obtain ⟨v, r, rfl, hv, k⟩ := h
    refine ⟨_, (pss_cons (ps_if (pt_cmpR op_eq (pe_ix ix_seq (pv 0) pe_int (fun _ _ => rfl)) pe_str (nomark _)) (pss_one (ps_ret (pe_tupG (pa_cons pe_str (pa_cons (pe_ix ix_seq (pv 0) pe_int (fun _ _ => rfl)) (pa_cons (pe_callTy call_tupleG (by rfl) T.b_tuple (by decide +kernel) (pa_cons (pe_ix ix_seq (pv 0) pe_int (fun _ _ => rfl)) pa_nil)) pa_nil)))))) pss_nil)
      (pss_one (ps_ret (pe_callTy call_tupleG (by rfl) T.b_tuple (by decide +kernel) (pa_cons (pv 0) pa_nil))))), ?_⟩
    cases r with
    | ask op ns =>
      obtain ⟨a, t, rfl, ha, ht⟩ := hv
      refine ⟨_, rfl, ha.ix at0' ⟨rfl, _, rfl, ?_⟩⟩
      rw [strEq]
      refine iteT ?_
      refine ⟨_, rfl, ha.ix at1' ⟨_, rfl, ha.ix at2' ⟨t, _, rfl, ht, fun p H1 s1 e1 => ?_⟩⟩⟩
      refine ⟨by show 3 ≤ sizeLine; decide, fun p2 H2 n2 s2 e2 => ?_⟩
      exact k _ _ (s1.trans s2) ⟨p2, p, rfl, e2, s2 _ _ e1⟩
    | fin x =>
      obtain ⟨a, rfl, ha⟩ := hv
      refine ⟨_, rfl, ha.ix at0' ⟨rfl, _, rfl, ?_⟩⟩
      rw [strNe end_ask]
      refine iteF ?_
      exact ⟨_, rfl, a, _, rfl, ha, fun p H1 s1 e1 => k _ _ s1 ⟨p, rfl, e1⟩⟩
    | go n =>
      obtain ⟨a, rfl, ha⟩ := hv
      refine ⟨_, rfl, ha.ix at0' ⟨rfl, _, rfl, ?_⟩⟩
      rw [strNe go_ask]
      refine iteF ?_
      exact ⟨_, rfl, a, _, rfl, ha, fun p H1 s1 e1 => k _ _ s1 ⟨p, rfl, e1⟩⟩
end
end Mine

/-! Where a walk along a function of the numbers below n comes to rest: plain mathematics. -/
namespace Mach
def itr (f : Nat → Nat) : Nat → Nat → Nat
  | 0, i => i
  | k + 1, i => itr f k (f i)
theorem itr_add (f : Nat → Nat) : ∀ a b i, itr f (a + b) i = itr f b (itr f a i)
  | 0, b, i => by rw [Nat.zero_add]; rfl
  | a + 1, b, i => by
    rw [Nat.succ_add]
    exact itr_add f a b (f i)
theorem itr_succ (f : Nat → Nat) (k i : Nat) : itr f (k + 1) i = f (itr f k i) := by
  rw [itr_add f k 1 i]
  rfl
theorem itr_lt {f : Nat → Nat} {n : Nat} (hf : ∀ i, i < n → f i < n) : ∀ k i, i < n → itr f k i < n
  | 0, _, h => h
  | k + 1, i, h => itr_lt hf k (f i) (hf i h)
theorem pigeon : ∀ (n : Nat) (l : List Nat), l.Nodup → (∀ x ∈ l, x < n) → l.length ≤ n
  | 0, [], _, _ => Nat.le_refl _
  | 0, x :: _, _, h => absurd (h x List.mem_cons_self) (Nat.not_lt_zero _)
  | n + 1, l, nd, h => by
    by_cases m : n ∈ l
    · have e := List.length_erase_of_mem m
      have ih := pigeon n (l.erase n) (nd.erase n) (fun x hx => by
        have h1 := (nd.mem_erase_iff).mp hx
        have h2 := h x h1.2
        have h3 := h1.1
        omega)
      omega
    · have ih := pigeon n l nd (fun x hx => by
        have h2 := h x hx
        have h3 : x ≠ n := fun z => m (z ▸ hx)
        omega)
      omega
/-- two places of the way are the same -/
theorem again {f : Nat → Nat} {n i : Nat} (hf : ∀ i, i < n → f i < n) (hi : i < n) : ∃ a b, a < b ∧ b ≤ n ∧ itr f a i = itr f b i := by
  by_cases h : ∃ a b, a < b ∧ b ≤ n ∧ itr f a i = itr f b i
  · exact h
  · have nd : ((List.range (n + 1)).map fun k => itr f k i).Nodup := by
      rw [List.Nodup, List.pairwise_map]
      refine List.Pairwise.imp_of_mem (fun {a b} ha hb lt e => h ⟨a, b, lt, ?_, e⟩) List.pairwise_lt_range
      have := List.mem_range.mp hb
      omega
    have := pigeon n _ nd (fun x hx => by
      obtain ⟨k, _, e⟩ := List.mem_map.mp hx
      rw [← e]
      exact itr_lt hf k i hi)
    rw [List.length_map, List.length_range] at this
    omega
/-- behind n steps a walk is on its ring -/
theorem ring_of {f : Nat → Nat} {n i : Nat} (hf : ∀ i, i < n → f i < n) (hi : i < n) : ∃ p, 0 < p ∧ itr f p (itr f n i) = itr f n i := by
  obtain ⟨a, b, lt, le, e⟩ := again hf hi
  refine ⟨b - a, by omega, ?_⟩
  have e1 : itr f n i = itr f (n - a) (itr f a i) := by
    rw [← itr_add]
    congr 1
    omega
  have e2 : itr f (b - a) (itr f a i) = itr f b i := by
    rw [← itr_add]
    congr 1
    omega
  rw [e1, ← itr_add, Nat.add_comm, itr_add, e2, ← e]
theorem ring_many {f : Nat → Nat} {p j : Nat} (h : itr f p j = j) : ∀ t, itr f (p * t) j = j
  | 0 => rfl
  | t + 1 => by
    rw [Nat.mul_succ, itr_add, ring_many h t, h]
theorem foldl_min : ∀ (l : List Nat) (a : Nat), (l.foldl Nat.min a = a ∨ l.foldl Nat.min a ∈ l) ∧ l.foldl Nat.min a ≤ a ∧ ∀ x ∈ l, l.foldl Nat.min a ≤ x
  | [], a => ⟨.inl rfl, Nat.le_refl _, fun _ h => nomatch h⟩
  | y :: l, a => by
    obtain ⟨h1, h2, h3⟩ := foldl_min l (Nat.min a y)
    refine ⟨?_, ?_, ?_⟩
    · rcases h1 with h1 | h1
      · by_cases q : a ≤ y
        · left
          show l.foldl Nat.min (Nat.min a y) = a
          rw [h1]
          exact Nat.min_eq_left q
        · right
          show l.foldl Nat.min (Nat.min a y) ∈ y :: l
          rw [h1, show Nat.min a y = y from Nat.min_eq_right (by omega)]
          exact List.mem_cons_self
      · exact .inr (List.mem_cons_of_mem _ h1)
    · exact Nat.le_trans h2 (Nat.min_le_left _ _)
    · intro x hx
      rcases List.mem_cons.mp hx with e | hx
      · rw [e]
        exact Nat.le_trans h2 (Nat.min_le_right _ _)
      · exact h3 x hx
/-- where a walk rests: the least number on the ring to which it comes (a fixed one is a ring by itself) -/
def stopAt (f : Nat → Nat) (n i : Nat) : Nat := ((List.range n).map fun k => itr f k (itr f n i)).foldl Nat.min (itr f n i)
theorem stop_mem (f : Nat → Nat) (n i : Nat) : ∃ k, stopAt f n i = itr f k (itr f n i) := by
  obtain ⟨h, _⟩ := foldl_min ((List.range n).map fun k => itr f k (itr f n i)) (itr f n i)
  rcases h with h | h
  · exact ⟨0, h⟩
  · obtain ⟨k, _, e⟩ := List.mem_map.mp h
    exact ⟨k, e.symm⟩
theorem stop_lt {f : Nat → Nat} {n i : Nat} (hf : ∀ i, i < n → f i < n) (hi : i < n) : stopAt f n i < n := by
  obtain ⟨k, e⟩ := stop_mem f n i
  rw [e]
  exact itr_lt hf k _ (itr_lt hf n i hi)
/-- from a place on the ring each place of the ring is met within n steps -/
theorem ring_short {f : Nat → Nat} {n j : Nat} (hf : ∀ i, i < n → f i < n) (hj : j < n) (k : Nat) : ∃ k', k' < n ∧ itr f k' j = itr f k j := by
  induction k using Nat.strongRecOn with
  | ind k ih =>
    by_cases h : k < n
    · exact ⟨k, h, rfl⟩
    · obtain ⟨a, b, lt, le, e⟩ := again hf hj
      have e2 : itr f k j = itr f (k - (b - a)) j := by
        have h1 : k = b + (k - b) := by omega
        have h2 : k - (b - a) = a + (k - b) := by omega
        rw [h2, itr_add, e, ← itr_add, ← h1]
      obtain ⟨k', h1, h2⟩ := ih (k - (b - a)) (by omega)
      exact ⟨k', h1, h2.trans e2.symm⟩
theorem stop_le {f : Nat → Nat} {n i : Nat} (hf : ∀ i, i < n → f i < n) (hi : i < n) (k : Nat) : stopAt f n i ≤ itr f k (itr f n i) := by
  obtain ⟨_, _, h⟩ := foldl_min ((List.range n).map fun k => itr f k (itr f n i)) (itr f n i)
  obtain ⟨k', lt, e⟩ := ring_short hf (itr_lt hf n i hi) k
  rw [← e]
  exact h _ (List.mem_map.mpr ⟨k', List.mem_range.mpr lt, rfl⟩)
theorem stop_unique {f : Nat → Nat} {n i s : Nat} (hf : ∀ i, i < n → f i < n) (hi : i < n) (h1 : ∃ k, s = itr f k (itr f n i)) (h2 : ∀ k, s ≤ itr f k (itr f n i)) : stopAt f n i = s := by
  obtain ⟨k, e⟩ := h1
  obtain ⟨k', e'⟩ := stop_mem f n i
  have a1 := stop_le hf hi k
  have a2 := h2 k'
  omega
theorem stop_step {f : Nat → Nat} {n i : Nat} (hf : ∀ i, i < n → f i < n) (hi : i < n) : stopAt f n (f i) = stopAt f n i := by
  have e : itr f n (f i) = f (itr f n i) := itr_succ f n i
  obtain ⟨p, p0, hp⟩ := ring_of hf hi
  refine stop_unique hf (hf i hi) ?_ fun k => ?_
  · obtain ⟨k, ek⟩ := stop_mem f n i
    refine ⟨k + p - 1, ?_⟩
    rw [ek, e]
    show _ = itr f (k + p - 1 + 1) (itr f n i)
    rw [show k + p - 1 + 1 = p + k by omega, itr_add, hp]
  · rw [e]
    exact stop_le hf hi (k + 1)
/-- on a ring that is written out: the least of it -/
theorem stop_ring {f : Nat → Nat} {n j m s : Nat} (hf : ∀ i, i < n → f i < n) (hj : j < n) (m0 : 0 < m) (h : itr f m j = j) (h1 : ∃ k, k < m ∧ s = itr f k j) (h2 : ∀ k, k < m → s ≤ itr f k j) : stopAt f n j = s := by
  have all : ∀ k, ∃ k', k' < m ∧ itr f k j = itr f k' j := fun k => by
    refine ⟨k % m, Nat.mod_lt _ m0, ?_⟩
    have e : k = m * (k / m) + k % m := (Nat.div_add_mod k m).symm
    conv => lhs; rw [e]
    rw [itr_add, ring_many h]
  refine stop_unique hf hj ?_ fun k => ?_
  · obtain ⟨k, _, e⟩ := h1
    refine ⟨k + (m * n - n), ?_⟩
    rw [e, ← itr_add]
    have hn : n ≤ m * n := Nat.le_mul_of_pos_left n m0
    rw [show n + (k + (m * n - n)) = m * n + k by omega, itr_add, ring_many h]
  · rw [← itr_add]
    obtain ⟨k', lt, e⟩ := all (n + k)
    rw [e]
    exact h2 k' lt
theorem stop_fix {f : Nat → Nat} {n j : Nat} (hf : ∀ i, i < n → f i < n) (hj : j < n) (h : f j = j) : stopAt f n j = j :=
  stop_ring hf hj (m := 1) (by decide) h ⟨0, by decide, rfl⟩ fun k hk => by
    have : k = 0 := by omega
    subst this
    exact Nat.le_refl _
end Mach

set_option maxRecDepth 100000
set_option maxHeartbeats 4000000
namespace Mine
open PySem L2
abbrev s_rest_of : Stmt := top 28
abbrev s_stops_of : Stmt := top 27
theorem inV_ints {a : Int} : ∀ {ts : List Int}, inV (.int a) (ts.map V.int) = decide (a ∈ ts)
  | [] => by simp [inV]
  | t :: ts => by
    have ih := inV_ints (a := a) (ts := ts)
    unfold inV at ih ⊢
    rw [List.map_cons, List.any_cons, ih]
    show (t == a || decide (a ∈ ts)) = _
    by_cases h : t = a
    · subst h
      simp
    · have h2 : (t == a) = false := beq_eq_false_iff_ne.mpr h
      rw [h2, Bool.false_or]
      by_cases m : a ∈ ts
      · rw [decide_eq_true m, decide_eq_true (List.mem_cons_of_mem _ m)]
      · rw [decide_eq_false m, decide_eq_false (fun z => (List.mem_cons.mp z).elim (fun y => h y.symm) m)]
theorem flat_ints (ts : List Int) : (ts.map V.int).all flatV = true := by
  rw [List.all_map]
  exact List.all_eq_true.mpr fun _ _ => rfl
/-- min of the trail from where `at` stands, or `at` -/
def RestIs (ts : List Int) (a m : Int) : Prop := (a ∉ ts → m = a) ∧ ∀ j, ts[j]? = some a → (∀ i, i < j → ts[i]? ≠ some a) → m ∈ ts.drop j ∧ ∀ x ∈ ts.drop j, m ≤ x
def spRest (K : PySem.W.Frag) : Sp := fun vs H Q _ => ∃ (p : Addr) (ts : List Int) (a : Int), vs = [.ref p, .int a] ∧ H p = some (.lst (ts.map V.int)) ∧ ∀ (m : Int) (H' : Hp), Same H H' → RestIs ts a m → Q (.int m) H'
theorem first_at {a : Int} : ∀ {ts : List Int}, a ∈ ts → ∃ j : Nat, ts[j]? = some a ∧ ∀ i : Nat, i < j → ts[i]? ≠ some a
  | [], h => nomatch h
  | t :: ts, h => by
    by_cases e : t = a
    · exact ⟨0, by rw [e]; rfl, fun i hi => absurd hi (Nat.not_lt_zero i)⟩
    · obtain ⟨j, h1, h2⟩ := first_at (a := a) (ts := ts) ((List.mem_cons.mp h).elim (fun z => absurd z.symm e) id)
      refine ⟨j + 1, by simpa using h1, fun i hi => ?_⟩
      cases i with
      | zero => simpa using e
      | succ i => simpa using h2 i (by omega)
section
variable {P : Program} {w : World} {K : PySem.W.Frag} {mg : Str → Option Value} {base : Heap}
variable {fII fIW a_is_row a_is_index a_is_name a_is_text_in a_are_counts a_word_of a_are_nexts a_is_line a_line_of a_are_operations : Addr}
theorem sc_rest_of : FnScope ["trail", "at"] ["trail", "at"] (defScope s_rest_of) := ⟨rfl, rfl, rfl, by decide +kernel, rfl, by decide +kernel, by decide +kernel⟩
theorem ok_rest_of {f : Addr} {fd : FuncData} (F : Fun K "rest_of" "rest_of" s_rest_of f fd) (hmin : mg "min" = none) : FnOk P w K mg base CX0 1 f fd ["trail", "at"] (spRest K) := by
  refine F.ok sc_rest_of (fun vs H Q E h => ?_) (fun cdv A outer s H vs Q E hr h => ?_)
  · obtain ⟨p, ts, a, rfl, _⟩ := h
    rfl
  · obtain ⟨p, ts, a, rfl, hp, k⟩ := h
    refine ⟨_, (pss_cons (ps_if (pt_cmpR op_in_seq (pv 1) (pv 0) (by rfl)) (pss_one (ps_ret (pe_callB (cr_min rfl) (by rfl) hmin (by decide +kernel) (pa_cons (pe_slice sl_listG (pv 0) (po_some (pe_bm PySem.F.plainAttrs_list PySem.F.slot_list_index PySem.F.type_list_index mt_index (pv 0) (pa_cons (pv 1) pa_nil))) po_none) pa_nil)))) pss_nil)
      (pss_one (ps_ret (pv 1)))), ?_⟩
    refine ⟨_, rfl, _, rfl, p, _, rfl, .inl (SqL.of hp), rfl, flat_ints ts, _, rfl, ?_⟩
    show if inV (.int a) (ts.map V.int) = true then _ else _
    rw [inV_ints]
    refine ite2 (fun h1 => ?_) (fun h1 => ?_)
    · obtain ⟨j, hj, hf⟩ := first_at (of_decide_eq_true h1)
      have hjl : j < ts.length := (List.getElem?_eq_some_iff.mp hj).1
      refine ⟨_, rfl, _, rfl, .inl ⟨rfl, _, SqL.of hp⟩, _, rfl, p, _, _, j, .int a, rfl, rfl, SqL.of hp, rfl, flat_ints ts, by rw [List.getElem?_map, hj]; rfl, by show (a == a) = true; exact beq_self_eq_true a, fun m z hm hz => ?_, ?_⟩
      · rw [List.getElem?_map] at hz
        cases e : ts[m]? with
        | none => rw [e] at hz; cases hz
        | some b =>
          rw [e] at hz
          have e2 : V.int b = z := Option.some.inj hz
          subst e2
          show (b == a) = false
          exact beq_eq_false_iff_ne.mpr fun y => hf m hm (by rw [e, y])
      · refine ⟨_, rfl, p, _, rfl, SqL.of hp, fun q1 H1 n1 s1 e1 => ?_⟩
        have e2 : cutV (ts.map V.int) (some (j : Int)) none = (ts.drop j).map V.int := by
          unfold cutV
          rw [HT.sIx_nat, HT.sIx_none, List.length_map, Nat.min_eq_left (by omega), List.map_drop]
          exact List.take_of_length_le (by rw [List.length_drop, List.length_map]; omega)
        rw [e2] at e1
        refine ⟨q1, ts.drop j, rfl, SqL.of e1, by rw [List.length_drop]; omega, fun m h2 h3 => k m _ s1 ⟨fun z => absurd (of_decide_eq_true h1) z, fun j' hj' hf' => ?_⟩⟩
        have : j' = j := by
          by_cases lt : j' < j
          · exact absurd hj' (hf j' lt)
          · by_cases lt2 : j < j'
            · exact absurd hj (hf' j lt2)
            · omega
        subst this
        exact ⟨h2, h3⟩
    · exact ⟨_, rfl, k a _ (Same.refl _) ⟨fun _ => rfl, fun j hj _ => absurd (decide_eq_true (List.mem_of_getElem? hj)) h1⟩⟩
end
end Mine

set_option maxRecDepth 100000
set_option maxHeartbeats 4000000
namespace Mine
open PySem L2
def nxt (rs : List RowD) (i : Nat) : Nat := match rs[i]? with
  | some (.go k) => k.toNat
  | _ => i
def isGo (rs : List RowD) (i : Nat) : Bool := match rs[i]? with
  | some (.go _) => true
  | _ => false
def GoOk (rs : List RowD) : Prop := ∀ (i : Nat) (k : Int), rs[i]? = some (.go k) → 0 ≤ k ∧ k < rs.length
theorem nxt_lt {rs : List RowD} (h : GoOk rs) (i : Nat) (hi : i < rs.length) : nxt rs i < rs.length := by
  unfold nxt
  split
  · rename_i k e
    have := h i k e
    omega
  · exact hi
theorem nxt_fix {rs : List RowD} {i : Nat} (h : isGo rs i = false) : nxt rs i = i := by
  unfold isGo at h
  unfold nxt
  split
  · rename_i k e
    rw [e] at h
    cases h
  · rfl
abbrev way (rs : List RowD) (k i : Nat) : Nat := Mach.itr (nxt rs) k i
def stp (rs : List RowD) (i : Nat) : Nat := Mach.stopAt (nxt rs) rs.length i
theorem stp_way {rs : List RowD} (h : GoOk rs) : ∀ (k i : Nat), i < rs.length → stp rs (way rs k i) = stp rs i
  | 0, _, _ => rfl
  | k + 1, i, hi => by
    show stp rs (way rs k (nxt rs i)) = _
    rw [stp_way h k _ (nxt_lt h i hi)]
    exact Mach.stop_step (nxt_lt h) hi
/-- a list of ints by its places -/
def fl (n : Nat) (g : Nat → Int) : List V := (List.range n).map fun i => V.int (g i)
theorem fl_len {n : Nat} {g : Nat → Int} : (fl n g).length = n := by
  unfold fl
  rw [List.length_map, List.length_range]
theorem fl_get {n k : Nat} {g : Nat → Int} (h : k < n) : (fl n g)[k]? = some (V.int (g k)) := by
  unfold fl
  rw [List.getElem?_map, List.getElem?_range h]
  rfl
theorem fl_at {n k : Nat} {g : Nat → Int} (h : k < n) : atI (fl n g) (k : Int) = some (V.int (g k)) := atI_nat (fl_get h)
theorem fl_set {n k : Nat} {g : Nat → Int} {v : Int} (h : k < n) : (fl n g).set k (V.int v) = fl n (fun i => if i = k then v else g i) := by
  apply List.ext_getElem?
  intro i
  by_cases hi : i < n
  · rw [fl_get hi]
    by_cases e : i = k
    · subst e
      rw [List.getElem?_set_self (by rw [fl_len]; exact hi), if_pos rfl]
    · rw [List.getElem?_set_ne (Ne.symm e), fl_get hi, if_neg e]
  · rw [List.getElem?_eq_none (by rw [List.length_set, fl_len]; omega), List.getElem?_eq_none (by rw [fl_len]; omega)]
theorem fl_rep (n : Nat) : (List.replicate n [V.int (-1)]).flatten = fl n fun _ => -1 := by
  apply List.ext_getElem?
  intro i
  have e : (List.replicate n [V.int (-1)]).flatten = List.replicate n (V.int (-1)) := by simp
  rw [e]
  by_cases hi : i < n
  · rw [fl_get hi, List.getElem?_replicate, if_pos hi]
  · rw [List.getElem?_eq_none (by rw [List.length_replicate]; omega), List.getElem?_eq_none (by rw [fl_len]; omega)]
theorem ixn {n k : Nat} (h : k < n) : ixN n (k : Int) = some k := by
  unfold ixN
  rw [if_pos (by omega), if_pos (by omega)]
  simp
/-- the rows stand there as tuples -/
def Rows (H : Hp) (xs : List V) (rs : List RowD) : Prop := xs.length = rs.length ∧ ∀ (i : Nat) (r : RowD), rs[i]? = some r → ∃ x, xs[i]? = some x ∧ TRow H x r
theorem Rows.same {H H' : Hp} {xs : List V} {rs : List RowD} (s : Same H H') (h : Rows H xs rs) : Rows H' xs rs := ⟨h.1, fun i r e => by
  obtain ⟨x, h1, h2⟩ := h.2 i r e
  exact ⟨x, h1, h2.same s⟩⟩
def wordOf : RowD → Str
  | .ask _ _ => "ask"
  | .go _ => "go"
  | .fin _ => "end"
theorem TRow.head {H : Hp} {v : V} {r : RowD} (h : TRow H v r) : ∃ a xs, v = .ref a ∧ H a = some (.tup (.str (wordOf r) :: xs)) := by
  cases r with
  | ask op ns =>
    obtain ⟨a, t, e, h1, _⟩ := h
    exact ⟨a, _, e, h1⟩
  | go n =>
    obtain ⟨a, e, h1⟩ := h
    exact ⟨a, _, e, h1⟩
  | fin w =>
    obtain ⟨a, e, h1⟩ := h
    exact ⟨a, _, e, h1⟩
def spStops : Sp := fun vs H Q _ => ∃ (a : Addr) (xs : List V) (rs : List RowD), vs = [.ref a] ∧ H a = some (.lst xs) ∧ Rows H xs rs ∧ GoOk rs ∧ rs.length ≤ 100000 ∧ New H (.lst (fl rs.length fun i => (stp rs i : Int))) Q
/-- what holds ahead of the turn b of stops_of -/
structure StB (rs : List RowD) (b : Nat) (ss ws : Nat → Int) : Prop where
  any : ∀ i, i < rs.length → ss i = -1 ∨ ss i = stp rs i
  done : ∀ i, i < b → ss i = stp rs i
  ws : ∀ i, i < rs.length → ws i < b
/-- what holds within the walk from b, behind k steps -/
structure InW (rs : List RowD) (b k : Nat) (ss ws : Nat → Int) : Prop where
  go : ∀ j, j < k → isGo rs (way rs j b) = true
  new : ∀ j, j < k → ss (way rs j b) = -1
  mark : ∀ i, i < rs.length → (ws i = b ↔ ∃ j, j < k ∧ way rs j b = i)
  le : ∀ i, i < rs.length → ws i ≤ b
  ne : ∀ j j', j < j' → j' < k → way rs j b ≠ way rs j' b
/-- the walk's test -/
def goOn (rs : List RowD) (b k : Nat) (ss ws : Nat → Int) : Bool := decide (ss (way rs k b) < 0) && (!decide (ws (way rs k b) = b) && isGo rs (way rs k b))
theorem InW.room {rs : List RowD} {b k : Nat} {ss ws : Nat → Int} (ok : GoOk rs) (hb : b < rs.length) (w : InW rs b k ss ws) (h : ws (way rs k b) ≠ b) : k < rs.length := by
  have lt : ∀ j, way rs j b < rs.length := fun j => Mach.itr_lt (nxt_lt ok) j b hb
  have nd : ((List.range (k + 1)).map fun j => way rs j b).Nodup := by
    rw [List.Nodup, List.pairwise_map]
    refine List.Pairwise.imp_of_mem (fun {i j} hi hj l e => ?_) List.pairwise_lt_range
    have hj' := List.mem_range.mp hj
    by_cases q : j = k
    · subst q
      exact h (((w.mark _ (lt _)).mpr ⟨i, l, e⟩))
    · exact w.ne i j l (by omega) e
  have := Mach.pigeon _ _ nd (fun x hx => by
    obtain ⟨j, _, e⟩ := List.mem_map.mp hx
    rw [← e]
    exact lt j)
  rw [List.length_map, List.length_range] at this
  omega
theorem InW.more {rs : List RowD} {b k : Nat} {ss ws : Nat → Int} (ok : GoOk rs) (hb : b < rs.length) (w : InW rs b k ss ws) (h0 : ss (way rs k b) = -1) (h1 : ws (way rs k b) ≠ b) (h2 : isGo rs (way rs k b) = true) :
    InW rs b (k + 1) ss (fun i => if i = way rs k b then (b : Int) else ws i) := by
  have lt : ∀ j, way rs j b < rs.length := fun j => Mach.itr_lt (nxt_lt ok) j b hb
  refine ⟨fun j hj => ?_, fun j hj => ?_, fun i hi => ?_, fun i hi => ?_, fun j j' l hj e => ?_⟩
  · by_cases q : j = k
    · rw [q]
      exact h2
    · exact w.go j (by omega)
  · by_cases q : j = k
    · rw [q]
      exact h0
    · exact w.new j (by omega)
  · by_cases q : i = way rs k b
    · rw [if_pos q]
      exact ⟨fun _ => ⟨k, by omega, q.symm⟩, fun _ => rfl⟩
    · rw [if_neg q, w.mark i hi]
      constructor
      · rintro ⟨j, hj, e⟩
        exact ⟨j, by omega, e⟩
      · rintro ⟨j, hj, e⟩
        refine ⟨j, ?_, e⟩
        by_cases z : j = k
        · rw [z] at e
          exact absurd e.symm q
        · omega
  · show (if i = way rs k b then (b : Int) else ws i) ≤ b
    split
    · exact Int.le_refl _
    · exact w.le i hi
  · by_cases q : j' = k
    · subst q
      exact h1 (((w.mark _ (lt _)).mpr ⟨j, l, e⟩))
    · exact w.ne j j' l (by omega) e
/-- where the walk ends, what rest_of hands back is where it rests -/
theorem InW.rest {rs : List RowD} {b k : Nat} {ss ws : Nat → Int} (ok : GoOk rs) (hb : b < rs.length) (w : InW rs b k ss ws) (any : ∀ i, i < rs.length → ss i = -1 ∨ ss i = stp rs i) (hend : goOn rs b k ss ws = false) (neg : ss (way rs k b) < 0) {m : Int}
    (h : RestIs ((List.range k).map fun j => (way rs j b : Int)) (way rs k b : Int) m) : m = stp rs (way rs k b) := by
  have lt : ∀ j, way rs j b < rs.length := fun j => Mach.itr_lt (nxt_lt ok) j b hb
  by_cases mk : ws (way rs k b) = b
  · obtain ⟨j, hj, e⟩ := (w.mark _ (lt k)).mp mk
    have hget : ∀ i, i < k → ((List.range k).map fun j => (way rs j b : Int))[i]? = some (way rs i b : Int) := fun i hi => by
      rw [List.getElem?_map, List.getElem?_range hi]
      rfl
    obtain ⟨h1, h2⟩ := h.2 j (by rw [hget j hj, e]) (fun i hi z => by
      rw [hget i (by omega)] at z
      have z2 : (way rs i b : Int) = (way rs k b : Int) := Option.some.inj z
      exact w.ne i j hi hj (by omega))
    have hmem : ∀ x, x ∈ ((List.range k).map fun j => (way rs j b : Int)).drop j ↔ ∃ i, i < k - j ∧ x = (way rs i (way rs k b) : Int) := fun x => by
      have ee : ∀ i, way rs (j + i) b = way rs i (way rs k b) := fun i => by
        rw [← e]
        exact Mach.itr_add _ j i b
      constructor
      · intro hx
        obtain ⟨i, hi⟩ := List.mem_iff_getElem?.mp hx
        rw [List.getElem?_drop] at hi
        have hik : j + i < k := by
          have := (List.getElem?_eq_some_iff.mp hi).1
          simpa using this
        rw [hget _ hik] at hi
        have z : (way rs (j + i) b : Int) = x := Option.some.inj hi
        refine ⟨i, by omega, ?_⟩
        rw [← ee i]
        exact z.symm
      · rintro ⟨i, hi, rfl⟩
        refine List.mem_iff_getElem?.mpr ⟨i, ?_⟩
        rw [List.getElem?_drop, hget _ (by omega), ee i]
    obtain ⟨i0, hi0, e0⟩ := (hmem m).mp h1
    have st : stp rs (way rs k b) = way rs i0 (way rs k b) := by
      refine Mach.stop_ring (nxt_lt ok) (lt k) (m := k - j) (by omega) ?_ ⟨i0, hi0, rfl⟩ fun i hi => ?_
      · show way rs (k - j) (way rs k b) = way rs k b
        conv => lhs; rw [← e]
        show Mach.itr (nxt rs) (k - j) (Mach.itr (nxt rs) j b) = Mach.itr (nxt rs) k b
        rw [← Mach.itr_add]
        congr 1
        omega
      · have := h2 _ ((hmem _).mpr ⟨i, hi, rfl⟩)
        rw [e0] at this
        exact Int.ofNat_le.mp this
    rw [st]
    exact e0
  · have ng : isGo rs (way rs k b) = false := by
      unfold goOn at hend
      rw [decide_eq_true neg, decide_eq_false mk, Bool.true_and] at hend
      simpa using hend
    have hn : (way rs k b : Int) ∉ ((List.range k).map fun j => (way rs j b : Int)) := fun hx => by
      obtain ⟨j, hj, e⟩ := List.mem_map.mp hx
      have e2 : way rs j b = way rs k b := by omega
      have g := w.go j (List.mem_range.mp hj)
      rw [e2, ng] at g
      cases g
    rw [h.1 hn]
    have : stp rs (way rs k b) = way rs k b := Mach.stop_fix (nxt_lt ok) (lt k) (nxt_fix ng)
    rw [this]
end Mine

set_option maxRecDepth 100000
set_option maxHeartbeats 4000000
namespace Mine
open PySem L2
/-- both lists of marks stand there -/
structure At (H0 : Hp) (sa wa : Addr) (n : Nat) (ss ws : Nat → Int) (H : Hp) : Prop where
  same : Same H0 H
  s : H sa = some (.lst (fl n ss))
  w : H wa = some (.lst (fl n ws))
  ns : H0 sa = none
  nw : H0 wa = none
  ne : sa ≠ wa
theorem same_updN {H H' : Hp} {p : Addr} {o : HO} (s : Same H H') (n : H p = none) : Same H (upd H' p o) := fun b u e => by
  rw [upd_ne (ne_of_none e n)]
  exact s b u e
theorem At.go {H0 H H' : Hp} {sa wa : Addr} {n : Nat} {ss ws : Nat → Int} (t : At H0 sa wa n ss ws H) (s : Same H H') : At H0 sa wa n ss ws H' := ⟨t.same.trans s, s _ _ t.s, s _ _ t.w, t.ns, t.nw, t.ne⟩
def set1 (f : Nat → Int) (k : Nat) (v : Int) : Nat → Int := fun i => if i = k then v else f i
theorem At.setW {H0 H : Hp} {sa wa : Addr} {n k : Nat} {ss ws : Nat → Int} {v : Int} (t : At H0 sa wa n ss ws H) (h : k < n) : At H0 sa wa n ss (set1 ws k v) (upd H wa (.lst ((fl n ws).set k (V.int v)))) := by
  refine ⟨same_updN t.same t.nw, ?_, ?_, t.ns, t.nw, t.ne⟩
  · rw [upd_ne t.ne]
    exact t.s
  · rw [upd_same, fl_set h]
    rfl
theorem At.setS {H0 H : Hp} {sa wa : Addr} {n k : Nat} {ss ws : Nat → Int} {v : Int} (t : At H0 sa wa n ss ws H) (h : k < n) : At H0 sa wa n (set1 ss k v) ws (upd H sa (.lst ((fl n ss).set k (V.int v)))) := by
  refine ⟨same_updN t.same t.ns, ?_, ?_, t.ns, t.nw, t.ne⟩
  · rw [upd_same, fl_set h]
    rfl
  · rw [upd_ne (Ne.symm t.ne)]
    exact t.w
/-- a third list, made behind both -/
theorem At.other {H0 H : Hp} {sa wa ta : Addr} {n : Nat} {ss ws : Nat → Int} {o : HO} (t : At H0 sa wa n ss ws H) (h0 : H0 ta = none) (h1 : ta ≠ sa) (h2 : ta ≠ wa) : At H0 sa wa n ss ws (upd H ta o) := by
  refine ⟨same_updN t.same h0, ?_, ?_, t.ns, t.nw, t.ne⟩
  · rw [upd_ne (Ne.symm h1)]
    exact t.s
  · rw [upd_ne (Ne.symm h2)]
    exact t.w
theorem none_of {H H' : Hp} {p : Addr} (s : Same H H') (h : H' p = none) : H p = none := by
  cases e : H p with
  | none => rfl
  | some u =>
    rw [s _ _ e] at h
    cases h
def Up (rs : List RowD) (ss ss' : Nat → Int) : Prop := ∀ i, i < rs.length → ss' i = ss i ∨ ss' i = stp rs i
theorem Up.refl (rs : List RowD) (ss : Nat → Int) : Up rs ss ss := fun _ _ => .inl rfl
theorem Up.set {rs : List RowD} {ss ss' : Nat → Int} (u : Up rs ss ss') (k : Nat) : Up rs ss (set1 ss' k (stp rs k)) := fun i hi => by
  unfold set1
  by_cases e : i = k
  · rw [if_pos e, e]
    exact .inr rfl
  · rw [if_neg e]
    exact u i hi
theorem set1_same (f : Nat → Int) (k : Nat) (v : Int) : set1 f k v k = v := if_pos rfl
theorem Up.done {rs : List RowD} {ss ss' : Nat → Int} (u : Up rs ss ss') {i : Nat} (hi : i < rs.length) (h : ss i = stp rs i) : ss' i = stp rs i := (u i hi).elim (fun e => e.trans h) id
theorem Up.any {rs : List RowD} {ss ss' : Nat → Int} (u : Up rs ss ss') {i : Nat} (hi : i < rs.length) (h : ss i = -1 ∨ ss i = stp rs i) : ss' i = -1 ∨ ss' i = stp rs i := (u i hi).elim (fun e => by rw [e]; exact h) .inr
theorem set1_done {rs : List RowD} {ss : Nat → Int} {i : Nat} (h : ss i = stp rs i) (k : Nat) : set1 ss k (stp rs k) i = stp rs i := by
  unfold set1
  by_cases e : i = k
  · rw [if_pos e, e]
  · rw [if_neg e]
    exact h
theorem ask_go : ("ask" : Str) ≠ "go" := by decide +kernel
theorem end_go : ("end" : Str) ≠ "go" := by decide +kernel
theorem go_dec {rs : List RowD} {i : Nat} {r : RowD} (e : rs[i]? = some r) : decide (V.str (wordOf r) = V.str "go") = isGo rs i := by
  unfold isGo
  rw [e]
  cases r with
  | ask op ns => exact strNe ask_go
  | go k => exact strEq _
  | fin x => exact strNe end_go
theorem isGo_row {rs : List RowD} {i : Nat} (h : isGo rs i = true) : ∃ k, rs[i]? = some (.go k) := by
  unfold isGo at h
  split at h
  · rename_i k e
    exact ⟨k, e⟩
  · cases h
theorem InW.start {rs : List RowD} {b : Nat} {ss ws : Nat → Int} (t : StB rs b ss ws) : InW rs b 0 ss ws :=
  ⟨fun j hj => absurd hj (Nat.not_lt_zero _), fun j hj => absurd hj (Nat.not_lt_zero _), fun i hi => ⟨fun e => by have := t.ws i hi; omega, fun ⟨j, hj, _⟩ => absurd hj (Nat.not_lt_zero _)⟩, fun i hi => Int.le_of_lt (t.ws i hi), fun j j' _ hj => absurd hj (Nat.not_lt_zero _)⟩
theorem di {i j : Int} : decide (V.int i = V.int j) = decide (i = j) := by
  by_cases h : i = j
  · rw [decide_eq_true h, h]
    exact decide_eq_true rfl
  · rw [decide_eq_false h]
    exact decide_eq_false fun z => h (V.int.inj z)
theorem range_snoc (f : Nat → V) (k : Nat) : (List.range (k + 1)).map f = (List.range k).map f ++ [f k] := by
  rw [List.range_succ, List.map_append]
  rfl
theorem pt_imp {X : Cx} {e : Expr} {t t' : TT} (h : PT X e t) (m : ∀ σ H Q, t' σ H Q → t σ H Q) : PT X e t' := ⟨fun pins s σ H Q I q => h.run pins s σ H Q I (m σ H Q q)⟩
theorem ps_imp {X : Cx} {e : Stmt} {t t' : TS} (h : PS X e t) (m : ∀ D σ H, t' D σ H → t D σ H) : PS X e t' := ⟨fun pins s σ H D I q => h.run pins s σ H D I (m D σ H q)⟩
/-- the walk's test, as it is read -/
def tOn : TT := fun σ H Q => ∃ (a sa wa : Addr) (xs : List V) (rs : List RowD) (b k : Nat) (ss ws : Nat → Int) (v4 v6 : Option V), σ = [some (.ref a), some (.ref sa), some (.ref wa), some (.int b), v4, some (.int (way rs k b : Int)), v6] ∧
  H a = some (.lst xs) ∧ Rows H xs rs ∧ H sa = some (.lst (fl rs.length ss)) ∧ H wa = some (.lst (fl rs.length ws)) ∧ way rs k b < rs.length ∧ Q (goOn rs b k ss ws) H
theorem Rows.at {H : Hp} {xs : List V} {rs : List RowD} (r : Rows H xs rs) {i : Nat} (hi : i < rs.length) : ∃ (q : Addr) (zs : List V) (d : RowD), rs[i]? = some d ∧ xs[i]? = some (.ref q) ∧ TRow H (.ref q) d ∧ H q = some (.tup (.str (wordOf d) :: zs)) := by
  obtain ⟨x, h1, h2⟩ := r.2 i _ (List.getElem?_eq_getElem hi)
  obtain ⟨q, zs, rfl, h3⟩ := h2.head
  exact ⟨q, zs, _, List.getElem?_eq_getElem hi, h1, h2, h3⟩
/-- where the walk rests is set, if it is not known -/
def tSettle : TS := fun D σ H => ∃ (H0 : Hp) (sa wa ta : Addr) (rs : List RowD) (b k : Nat) (ss ws : Nat → Int) (v0 v6 : Option V), σ = [v0, some (.ref sa), some (.ref wa), some (.int b), some (.ref ta), some (.int (way rs k b : Int)), v6] ∧
  GoOk rs ∧ b < rs.length ∧ At H0 sa wa rs.length ss ws H ∧ ta ≠ sa ∧ H ta = some (.lst ((List.range k).map fun j => V.int (way rs j b : Int))) ∧ (∀ i, i < rs.length → ss i = -1 ∨ ss i = stp rs i) ∧ InW rs b k ss ws ∧ goOn rs b k ss ws = false ∧
  ∀ (ss' : Nat → Int) (H' : Hp), At H0 sa wa rs.length ss' ws H' → H' ta = some (.lst ((List.range k).map fun j => V.int (way rs j b : Int))) → Up rs ss ss' → ss' (way rs k b) = stp rs (way rs k b) → D.nx σ H'
section
variable {P : Program} {w : World} {K : PySem.W.Frag} {mg : Str → Option Value} {base : Heap}
variable {fII fIW a_rest : Addr}
theorem sc_stops_of : FnScope ["lines", "stops", "walks", "begin", "trail", "at", "passed"] ["lines"] (defScope s_stops_of) := ⟨rfl, rfl, rfl, by decide +kernel, rfl, by decide +kernel, by decide +kernel⟩
theorem ok_stops_of {f : Addr} {fd fd_rest : FuncData} (F : Fun K "stops_of" "stops_of" s_stops_of f fd) (T : TxtF K mg fII fIW) (h_range : mg "range" = none)
    (GR : FnOk P w K mg base CX0 1 a_rest fd_rest ["trail", "at"] (spRest K)) (b_rest : Binds K fd_rest ["trail", "at"] []) (g_rest : mg "rest_of" = some (.ref a_rest)) (k_rest : PySem.W.keepIn K (.ref a_rest) = true) : FnOk P w K mg base CX0 2 f fd ["lines"] spStops := by
  refine F.ok sc_stops_of (fun vs H Q E h => ?_) (fun cdv A outer s H vs Q E hr h => ?_)
  · obtain ⟨a, xs, rs, rfl, _⟩ := h
    rfl
  · obtain ⟨a, xs, rs, rfl, ha, rows, ok, big, k⟩ := h
    refine ⟨_, (pss_cons (ps_set (i := 1) sc_stops_of.nd rfl (Or.inl rfl) (pe_op op_repG (pe_lstG (pa_cons (pe_un un_neg pe_int) pa_nil)) (pe_callB call_len_seq (by rfl) T.b_len PySem.boot_len (pa_cons (pv 0) pa_nil))))
      (pss_cons (ps_set (i := 2) sc_stops_of.nd rfl (Or.inl rfl) (pe_op op_repG (pe_lstG (pa_cons (pe_un un_neg pe_int) pa_nil)) (pe_callB call_len_seq (by rfl) T.b_len PySem.boot_len (pa_cons (pv 0) pa_nil))))
      (pss_cons (ps_for PassesOwn.never rfl (pi_range1 (by rfl) h_range (pa_cons (pe_callB call_len_seq (by rfl) T.b_len PySem.boot_len (pa_cons (pv 0) pa_nil)) pa_nil)) (pg_name (i := 3) sc_stops_of.nd rfl (Or.inl rfl)) (pss_cons (ps_set (i := 4) sc_stops_of.nd rfl (Or.inl rfl) (pe_lstG pa_nil))
      (pss_cons (ps_set (i := 5) sc_stops_of.nd rfl (Or.inl rfl) (pv 3))
      (pss_cons (ps_while PassesOwn.never (pt_imp (t' := tOn) (PW.pt (pw_and (pt_cmpR op_lt (pe_ix ix_list (pv 1) (pv 5) (fun _ _ => rfl)) pe_int (nomark _)) (pw_and (pt_cmpR op_ne (pe_ix ix_list (pv 2) (pv 5) (fun _ _ => rfl)) (pv 3) (nomark _)) (pw_and1 (pt_cmpR op_eq (pe_ix ix_tup (pe_ix ix_list (pv 0) (pv 5) (fun _ _ => rfl)) pe_int (fun _ _ => rfl)) pe_str (nomark _)))))) (fun σ H Q q => by
      obtain ⟨a, sa, wa, xs, rs, b, k, ss, ws, v4, v6, rfl, ha, rows, hs, hw, lt, q⟩ := q
      obtain ⟨p, zs, d, ed, hx, _, hp⟩ := rows.at lt
      refine ⟨_, rfl, _, rfl, sa, _, _, _, rfl, rfl, SqL.of hs, fl_at lt, _, _, rfl, rfl, _, rfl, ?_⟩
      refine ite2 (fun h1 => ?_) (fun h1 => ?_)
      · refine ⟨_, rfl, _, rfl, wa, _, _, _, rfl, rfl, SqL.of hw, fl_at lt, _, rfl, rfl, _, rfl, ?_⟩
        rw [di]
        refine ite2 (fun h2 => ?_) (fun h2 => ?_)
        · refine ⟨_, rfl, _, rfl, a, xs, _, _, rfl, rfl, SqL.of ha, atI_nat hx, p, _, _, _, rfl, rfl, .inl (.inl hp), at0', rfl, _, rfl, ?_⟩
          rw [go_dec ed]
          have e : goOn rs b k ss ws = isGo rs (way rs k b) := by
            unfold goOn
            rw [h1, h2]
            rfl
          rw [e] at q
          exact q
        · have e : goOn rs b k ss ws = false := by
            unfold goOn
            rw [h1, Bool.eq_false_iff.mpr h2]
            rfl
          rw [e] at q
          exact q
      · have e : goOn rs b k ss ws = false := by
          unfold goOn
          rw [Bool.eq_false_iff.mpr h1]
          rfl
        rw [e] at q
        exact q)) (pss_cons (ps_asg (pv 3) (pg_sub (pv 2) (pv 5) set_list))
      (pss_cons (ps_expr (pe_bm PySem.F.plainAttrs_list PySem.F.slot_list_append PySem.F.type_list_append mt_append (pv 4) (pa_cons (pv 5) pa_nil)))
      (pss_one (ps_set (i := 5) sc_stops_of.nd rfl (Or.inl rfl) (pe_ix ix_tup (pe_ix ix_list (pv 0) (pv 5) (fun _ _ => rfl)) pe_int (fun _ _ => rfl)))))))
      (pss_cons (ps_imp (t' := tSettle) (ps_if (pt_cmpR op_lt (pe_ix ix_list (pv 1) (pv 5) (fun _ _ => rfl)) pe_int (nomark _)) (pss_one (ps_asg (pe_call GR (hr.mono (by decide)) (by rfl) g_rest k_rest b_rest .nil pass0 (pa_cons (pv 4) (pa_cons (pv 5) pa_nil))) (pg_sub (pv 1) (pv 5) set_list))) pss_nil) (fun D σ H q => by
      obtain ⟨H0, sa, wa, ta, rs, b, k, ss, ws, v0, v6, rfl, ok, hb, t, tas, et, any, iw, ge, kk⟩ := q
      have lt : way rs k b < rs.length := Mach.itr_lt (nxt_lt ok) k b hb
      refine ⟨_, rfl, _, rfl, sa, _, _, _, rfl, rfl, SqL.of t.s, fl_at lt, _, _, rfl, rfl, _, rfl, ?_⟩
      refine ite2 (fun h1 => ?_) (fun h1 => ?_)
      · refine ⟨_, rfl, _, rfl, ta, (List.range k).map fun j => (way rs j b : Int), _, rfl, by rw [et, List.map_map]; rfl, fun m H' s1 rest => ?_⟩
        refine ⟨_, rfl, _, rfl, sa, _, _, way rs k b, rfl, rfl, s1 _ _ t.s, by rw [fl_len]; exact ixn lt, ?_⟩
        have e := iw.rest ok hb any ge (of_decide_eq_true h1) rest
        subst e
        exact kk _ _ ((t.go s1).setS lt) (by rw [upd_ne tas]; exact s1 _ _ et) ((Up.refl _ _).set _) (set1_same _ _ _)
      · exact kk ss H t et (Up.refl _ _) ((any _ lt).elim (fun z => absurd (decide_eq_true (by omega)) h1) id)))
      (pss_one (ps_for PassesOwn.never rfl (pi_list (pv 4)) (pg_name (i := 6) sc_stops_of.nd rfl (Or.inl rfl)) (pss_one (ps_asg (pe_ix ix_list (pv 1) (pv 5) (fun _ _ => rfl)) (pg_sub (pv 1) (pv 6) set_list))))))))))
      (pss_one (ps_ret (pv 1)))))), ?_⟩
    have hl : (xs.length : Int) = rs.length := by rw [rows.1]
    have one : ∀ v : V, [v].length ≤ sizeLine := fun v => by rw [sizeLine_eq]; exact Nat.succ_le_of_lt (by decide)
    refine ⟨_, rfl, one _, fun p0 H1 n0 s1 e0 => ?_⟩
    have room : ∀ v : V, [v].length * (xs.length : Int).toNat ≤ sizeLine := fun v => by
      rw [sizeLine_eq, Int.toNat_natCast]
      have := rows.1
      show 1 * xs.length ≤ _
      omega
    refine ⟨_, rfl, a, xs, rfl, .inl (SqL.of (s1 _ _ ha)), ?_⟩
    refine ⟨p0, _, _, rfl, rfl, e0, by omega, by omega, room _, fun sa H2 n2 s2 e2 => ?_⟩
    refine ⟨_, rfl, one _, fun p1 H3 n3 s3 e3 => ?_⟩
    refine ⟨_, rfl, a, xs, rfl, .inl (SqL.of (s3 _ _ (s2 _ _ (s1 _ _ ha)))), ?_⟩
    refine ⟨p1, _, _, rfl, rfl, e3, by omega, by omega, room _, fun wa H4 n4 s4 e4 => ?_⟩
    have nsa : H sa = none := none_of s1 n2
    have nwa : H wa = none := none_of (s1.trans (s2.trans s3)) n4
    have nea : sa ≠ wa := fun z => by
      rw [← z, s3 _ _ e2] at n4
      cases n4
    have at0 : At H sa wa rs.length (fun _ => -1) (fun _ => -1) H4 := by
      refine ⟨s1.trans (s2.trans (s3.trans s4)), ?_, ?_, nsa, nwa, nea⟩
      · rw [s4 _ _ (s3 _ _ e2), Int.toNat_natCast, rows.1]
        exact congrArg (fun z => some (HO.lst z)) (fl_rep _)
      · rw [e4, Int.toNat_natCast, rows.1]
        exact congrArg (fun z => some (HO.lst z)) (fl_rep _)
    refine ⟨_, rfl, a, xs, rfl, .inl (SqL.of (s4 _ _ (s3 _ _ (s2 _ _ (s1 _ _ ha))))), ?_⟩
    rw [rows.1]
    refine ⟨_, rfl, by omega, by omega, for_range (n := rs.length) (fun b σ H' => ∃ (ss ws : Nat → Int) (v3 v4 v5 v6 : Option V), σ = [some (.ref a), some (.ref sa), some (.ref wa), v3, v4, v5, v6] ∧ At H sa wa rs.length ss ws H' ∧ StB rs b ss ws) ?_ (fun b σ H' hb z => ?_) (fun σ H' z => ?_)⟩
    · exact ⟨_, _, _, _, _, _, rfl, at0, fun _ _ => .inl rfl, fun i hi => absurd hi (Nat.not_lt_zero _), fun i hi => by show (-1 : Int) < 0; decide⟩
    · obtain ⟨ss, ws, v3, v4, v5, v6, rfl, t, stb⟩ := z
      have lt : ∀ j, way rs j b < rs.length := fun j => Mach.itr_lt (nxt_lt ok) j b hb
      have rowsIn : ∀ {H''}, Same H H'' → Rows H'' xs rs := fun s => rows.same s
      rw [Int.zero_add]
      refine ⟨Nat.zero_le _, fun ta H5 n5 s5 e5 => ?_⟩
      have t5 := t.go s5
      have nta : H ta = none := none_of t.same n5
      have tas : ta ≠ sa := fun z => by
        rw [z, t.s] at n5
        cases n5
      have taw : ta ≠ wa := fun z => by
        rw [z, t.w] at n5
        cases n5
      refine ⟨_, rfl, ?_⟩
      refine ⟨fun m σ H' => ∃ (k : Nat) (ws' : Nat → Int), m = rs.length - k ∧ σ = [some (.ref a), some (.ref sa), some (.ref wa), some (.int b), some (.ref ta), some (.int (way rs k b : Int)), v6] ∧ At H sa wa rs.length ss ws' H' ∧ H' ta = some (.lst ((List.range k).map fun j => V.int (way rs j b : Int))) ∧ InW rs b k ss ws', ⟨_, 0, ws, rfl, rfl, t5, e5, InW.start stb⟩, ?_⟩
      rintro m σ H' ⟨k', ws', rfl, rfl, t', et, iw⟩
      refine ⟨a, sa, wa, xs, rs, b, k', ss, ws', _, _, rfl, t'.same _ _ ha, rowsIn t'.same, t'.s, t'.w, lt k', ?_⟩
      refine ite2 (fun g => ?_) (fun g => ?_)
      · have g1 : ws' (way rs k' b) ≠ b ∧ isGo rs (way rs k' b) = true ∧ ss (way rs k' b) < 0 := by
          unfold goOn at g
          simp only [Bool.and_eq_true, decide_eq_true_eq, Bool.not_eq_true', decide_eq_false_iff_not] at g
          exact ⟨g.2.1, g.2.2, g.1⟩
        obtain ⟨g1, g2, g3⟩ := g1
        have g4 : ss (way rs k' b) = -1 := (stb.any _ (lt k')).elim id fun z => by omega
        obtain ⟨kk, hkk⟩ := isGo_row g2
        refine ⟨fun σ' H'' => ∃ ws'', σ' = [some (.ref a), some (.ref sa), some (.ref wa), some (.int b), some (.ref ta), some (.int (way rs (k' + 1) b : Int)), v6] ∧ At H sa wa rs.length ss ws'' H'' ∧ H'' ta = some (.lst ((List.range (k' + 1)).map fun j => V.int (way rs j b : Int))) ∧ InW rs b (k' + 1) ss ws'', fun σ' H'' ⟨ws'', z1, z2, z3, z4⟩ => ⟨rs.length - (k' + 1), by have := iw.room ok hb g1; omega, k' + 1, ws'', rfl, z1, z2, z3, z4⟩, ?_⟩
        refine ⟨_, rfl, _, rfl, _, rfl, wa, _, _, way rs k' b, rfl, rfl, t'.w, by rw [fl_len]; exact ixn (lt k'), ?_⟩
        have t2 := t'.setW (v := (b : Int)) (lt k')
        have et2 : upd H' wa (.lst ((fl rs.length ws').set (way rs k' b) (V.int b))) ta = some (.lst ((List.range k').map fun j => V.int (way rs j b : Int))) := by
          rw [upd_ne taw]
          exact et
        refine ⟨_, rfl, .inl ⟨rfl, _, SqL.of et2⟩, _, rfl, ta, _, _, rfl, rfl, et2, by rw [List.length_map, List.length_range, sizeLine_eq]; have := iw.room ok hb g1; omega, ?_⟩
        have t3 := t2.other (o := .lst ((List.range k').map (fun j => V.int (way rs j b : Int)) ++ [V.int (way rs k' b : Int)])) nta tas taw
        obtain ⟨x, hx1, hx2⟩ := rows.2 _ _ hkk
        obtain ⟨q, rfl, hq⟩ := hx2
        refine ⟨_, rfl, _, rfl, a, xs, _, _, rfl, rfl, SqL.of (t3.same _ _ ha), atI_nat hx1, q, _, _, _, rfl, rfl, .inl (.inl (t3.same _ _ hq)), at1', ?_⟩
        have e1 : kk = (way rs (k' + 1) b : Int) := by
          have : way rs (k' + 1) b = nxt rs (way rs k' b) := Mach.itr_succ _ _ _
          rw [this]
          unfold nxt
          rw [hkk]
          have := ok _ _ hkk
          show kk = (kk.toNat : Int)
          omega
        refine ⟨_, ?_, t3, ?_, iw.more ok hb g4 g1 g2⟩
        · rw [e1]
          rfl
        · rw [upd_same, range_snoc]
      · refine ⟨H, sa, wa, ta, rs, b, k', ss, ws', _, _, rfl, ok, hb, t', tas, et, stb.any, iw, Bool.eq_false_iff.mpr g, fun ss1 H6 t6 et6 up6 st6 => ?_⟩
        have stw : ∀ i, stp rs (way rs i b) = stp rs b := fun i => stp_way ok i b hb
        refine ⟨_, rfl, ta, rfl, ⟨_, SqL.of et6⟩, for_list (K := K) (a := ta) (xs := (List.range k').map fun j => V.int (way rs j b : Int)) (fun j σ H7 => ∃ (ss2 : Nat → Int) (v6 : Option V), σ = [some (.ref a), some (.ref sa), some (.ref wa), some (.int b), some (.ref ta), some (.int (way rs k' b : Int)), v6] ∧ At H sa wa rs.length ss2 ws' H7 ∧ H7 ta = some (.lst ((List.range k').map fun j => V.int (way rs j b : Int))) ∧ Up rs ss ss2 ∧ ss2 (way rs k' b) = stp rs b ∧ ∀ i, i < j → ss2 (way rs i b) = stp rs b)
          ⟨ss1, _, rfl, t6, et6, up6, by rw [st6, stw], fun i hi => absurd hi (Nat.not_lt_zero _)⟩ (fun i σ H7 _ z => by obtain ⟨_, _, _, _, z, _⟩ := z; exact SqL.of z) (fun j x σ H7 hx z => ?_) (fun σ H7 z => ?_)⟩
        · obtain ⟨ss2, w6, rfl, t7, et7, up7, st7, dn7⟩ := z
          have hj : j < k' := by
            have := (List.getElem?_eq_some_iff.mp hx).1
            rw [List.length_map, List.length_range] at this
            exact this
          rw [List.getElem?_map, List.getElem?_range hj] at hx
          have hx2 : V.int (way rs j b : Int) = x := Option.some.inj hx
          subst hx2
          refine ⟨_, rfl, _, rfl, sa, _, _, _, rfl, rfl, SqL.of t7.s, fl_at (lt k'), _, rfl, _, rfl, sa, _, _, way rs j b, rfl, rfl, t7.s, by rw [fl_len]; exact ixn (lt j), ?_⟩
          rw [st7]
          refine ⟨set1 ss2 (way rs j b) (stp rs b), _, rfl, t7.setS (lt j), ?_, ?_, ?_, fun i hi => ?_⟩
          · rw [upd_ne tas]
            exact et7
          · have := up7.set (way rs j b)
            rw [stw] at this
            exact this
          · have := set1_done (rs := rs) (ss := ss2) (i := way rs k' b) (by rw [st7, stw]) (way rs j b)
            rw [stw, stw] at this
            exact this
          · by_cases z : i = j
            · rw [z]
              exact set1_same _ _ _
            · have := set1_done (rs := rs) (ss := ss2) (i := way rs i b) (by rw [dn7 i (by omega), stw]) (way rs j b)
              rw [stw, stw] at this
              exact this
        · obtain ⟨ss2, w6, rfl, t7, et7, up7, st7, dn7⟩ := z
          refine ⟨ss2, ws', _, _, _, _, rfl, t7, fun i hi => up7.any hi (stb.any i hi), fun i hi => ?_, fun i hi => ?_⟩
          · by_cases z : i = b
            · subst z
              by_cases k0 : k' = 0
              · subst k0
                exact st7
              · exact dn7 0 (by rw [List.length_map, List.length_range]; omega)
            · exact up7.done (by omega) (stb.done i (by omega))
          · have := iw.le i hi
            omega
    · obtain ⟨ss, ws, v3, v4, v5, v6, rfl, t, stb⟩ := z
      have e : (fl rs.length ss) = fl rs.length fun i => (stp rs i : Int) := List.map_congr_left fun i hi => by rw [stb.done i (List.mem_range.mp hi)]
      exact ⟨_, rfl, k sa H' nsa t.same (by rw [t.s, e])⟩
end
end Mine

set_option maxRecDepth 100000
set_option maxHeartbeats 4000000
namespace Mine
open PySem L2
abbrev s_nexts_of : Stmt := top 30
abbrev s_rests_from : Stmt := top 29
def nextsD : RowD → List Int
  | .ask _ ns => ns
  | _ => []
def targets : RowD → List Int
  | .ask _ ns => ns
  | .go k => [k]
  | .fin _ => []
/-- all rows lead to rows -/
def Fit (rs : List RowD) : Prop := ∀ (i : Nat) (d : RowD), rs[i]? = some d → ∀ n ∈ targets d, 0 ≤ n ∧ n < rs.length
theorem Fit.go {rs : List RowD} (f : Fit rs) : GoOk rs := fun i k e => f i _ e k List.mem_cons_self
theorem Fit.nexts {rs : List RowD} (f : Fit rs) {i : Nat} {d : RowD} (e : rs[i]? = some d) {n : Int} (h : n ∈ nextsD d) : 0 ≤ n ∧ n < rs.length := f i d e n (by cases d <;> first | exact h | exact nomatch h)
def addTo (m : List Nat) (i : Nat) : List Nat := if i ∈ m then m else m ++ [i]
def grow (rs : List RowD) (m : List Nat) (ns : List Int) : List Nat := ns.foldl (fun m n => addTo m (stp rs n.toNat)) m
def metS (rs : List RowD) (m : List Nat) (d : Nat) : List Nat := match m[d]? with
  | some i => grow rs m (match rs[i]? with | some r => nextsD r | none => [])
  | none => m
def metAt (rs : List RowD) (b : Nat) : Nat → List Nat
  | 0 => [stp rs b]
  | d + 1 => metS rs (metAt rs b d) d
/-- the rows of rest that a run can come to, breadth first -/
def metOf (rs : List RowD) (b : Nat) : List Nat := metAt rs b rs.length
theorem stp_lt {rs : List RowD} (h : GoOk rs) {i : Nat} (hi : i < rs.length) : stp rs i < rs.length := Mach.stop_lt (nxt_lt h) hi
/-- no double, all below -/
def Few (n : Nat) (m : List Nat) : Prop := m.Nodup ∧ ∀ x ∈ m, x < n
theorem Few.len {n : Nat} {m : List Nat} (f : Few n m) : m.length ≤ n := Mach.pigeon n m f.1 f.2
theorem Few.add {n i : Nat} {m : List Nat} (f : Few n m) (h : i < n) : Few n (addTo m i) := by
  unfold addTo
  by_cases e : i ∈ m
  · rw [if_pos e]
    exact f
  · rw [if_neg e]
    refine ⟨?_, fun x hx => (List.mem_append.mp hx).elim (f.2 x) fun z => by rw [List.mem_singleton.mp z]; exact h⟩
    rw [List.nodup_append]
    exact ⟨f.1, by simp, fun x hx y hy z => by rw [List.mem_singleton.mp hy] at z; exact e (z ▸ hx)⟩
theorem grow_few {rs : List RowD} (ok : GoOk rs) : ∀ {ns : List Int} {m : List Nat}, Few rs.length m → (∀ n ∈ ns, 0 ≤ n ∧ n < rs.length) → Few rs.length (grow rs m ns)
  | [], _, f, _ => f
  | n :: ns, m, f, h => grow_few ok (ns := ns) (f.add (stp_lt ok (by have := h n List.mem_cons_self; omega))) fun x hx => h x (List.mem_cons_of_mem _ hx)
theorem add_len {m : List Nat} {i : Nat} : m.length ≤ (addTo m i).length := by
  unfold addTo
  split
  · exact Nat.le_refl _
  · rw [List.length_append]
    exact Nat.le_add_right _ _
theorem grow_len {rs : List RowD} : ∀ {ns : List Int} {m : List Nat}, m.length ≤ (grow rs m ns).length
  | [], _ => Nat.le_refl _
  | n :: ns, m => Nat.le_trans add_len (grow_len (ns := ns))
theorem metAt_few {rs : List RowD} (f : Fit rs) {b : Nat} (hb : b < rs.length) : ∀ d, Few rs.length (metAt rs b d)
  | 0 => ⟨by show [stp rs b].Nodup; simp, fun x hx => by rw [List.mem_singleton.mp hx]; exact stp_lt f.go hb⟩
  | d + 1 => by
    have ih := metAt_few f hb d
    show Few _ (metS rs (metAt rs b d) d)
    unfold metS
    split
    · rename_i i e
      refine grow_few f.go ih fun n hn => ?_
      split at hn
      · rename_i r er
        exact f.nexts er hn
      · exact nomatch hn
    · exact ih
theorem metAt_over {rs : List RowD} {b d : Nat} (h : (metAt rs b d).length ≤ d) : ∀ k, metAt rs b (d + k) = metAt rs b d
  | 0 => rfl
  | k + 1 => by
    have ih := metAt_over h k
    show metS rs (metAt rs b (d + k)) (d + k) = _
    rw [ih]
    unfold metS
    rw [List.getElem?_eq_none (by omega)]
theorem metAt_end {rs : List RowD} {b d : Nat} (hd : d ≤ rs.length) (h : (metAt rs b d).length ≤ d) : metAt rs b d = metOf rs b := by
  have := metAt_over h (rs.length - d)
  rw [show d + (rs.length - d) = rs.length by omega] at this
  exact this.symm
theorem metAt_step {rs : List RowD} {b d i : Nat} {r : RowD} (h : (metAt rs b d)[d]? = some i) (hr : rs[i]? = some r) : metAt rs b (d + 1) = grow rs (metAt rs b d) (nextsD r) := by
  show metS rs (metAt rs b d) d = _
  unfold metS
  rw [h]
  show grow rs _ (match rs[i]? with | some r => nextsD r | none => []) = _
  rw [hr]
def natsV (m : List Nat) : List V := m.map fun (i : Nat) => V.int (i : Int)
def knK (m : List Nat) : List (Key × V) := m.map fun (i : Nat) => (Sum.inl (i : Int), V.bl true)
theorem val_kn (m : List Nat) (j : Nat) : (valV (knK m) (.inl (j : Int))).isSome = decide (j ∈ m) := by
  induction m with
  | nil => rfl
  | cons i m ih =>
    by_cases h : i = j
    · subst h
      unfold knK
      rw [List.map_cons, valV_pos rfl]
      simp
    · have h2 : ¬ (Sum.inl (i : Int) : Key) = Sum.inl (j : Int) := fun z => h (by have := Sum.inl.inj z; omega)
      unfold knK at ih ⊢
      rw [List.map_cons, valV_neg h2, ih]
      by_cases q : j ∈ m
      · rw [decide_eq_true q, decide_eq_true (List.mem_cons_of_mem _ q)]
      · rw [decide_eq_false q, decide_eq_false (fun z => (List.mem_cons.mp z).elim (fun y => h y.symm) q)]
/-- both lists of what was met stand there -/
structure MetI (H0 : Hp) (ma ka : Addr) (m : List Nat) (H : Hp) : Prop where
  same : Same H0 H
  em : H ma = some (.lst (natsV m))
  ek : H ka = some (.dK (knK m))
  nm : H0 ma = none
  nk : H0 ka = none
  ne : ma ≠ ka
theorem MetI.go {H0 H H' : Hp} {ma ka : Addr} {m : List Nat} (t : MetI H0 ma ka m H) (s : Same H H') : MetI H0 ma ka m H' := ⟨t.same.trans s, s _ _ t.em, s _ _ t.ek, t.nm, t.nk, t.ne⟩
theorem MetI.put {H0 H : Hp} {ma ka : Addr} {m : List Nat} {i : Nat} (t : MetI H0 ma ka m H) (h : i ∉ m) : MetI H0 ma ka (addTo m i) (upd (upd H ka (.dK (putK (knK m) (.inl (i : Int)) (.bl true)))) ma (.lst (natsV m ++ [.int (i : Int)]))) := by
  have e : addTo m i = m ++ [i] := if_neg h
  refine ⟨same_updN (same_updN t.same t.nk) t.nm, ?_, ?_, t.nm, t.nk, t.ne⟩
  · rw [upd_same, e]
    unfold natsV
    rw [List.map_append]
    rfl
  · rw [upd_ne (Ne.symm t.ne), upd_same, putK_new, e]
    · unfold knK
      rw [List.map_append]
      rfl
    · have := val_kn m i
      rw [decide_eq_false h] at this
      cases q : valV (knK m) (.inl (i : Int)) with
      | none => rfl
      | some v =>
        rw [q] at this
        cases this
def spNextsOf : Sp := fun vs H Q _ => ∃ (q : Addr) (d : RowD), vs = [.ref q] ∧ TRow H (.ref q) d ∧ ∀ (t : Addr) (H' : Hp), Same H H' → H' t = some (.tup ((nextsD d).map V.int)) → Q (.ref t) H'
def spRests : Sp := fun vs H Q _ => ∃ (a sa : Addr) (xs : List V) (rs : List RowD) (b : Nat), vs = [.ref a, .ref sa, .int b] ∧ H a = some (.lst xs) ∧ Rows H xs rs ∧ Fit rs ∧ H sa = some (.lst (fl rs.length fun i => (stp rs i : Int))) ∧ b < rs.length ∧ rs.length ≤ 100000 ∧ New H (.lst (natsV (metOf rs b))) Q
section
variable {P : Program} {w : World} {K : PySem.W.Frag} {mg : Str → Option Value} {base : Heap}
variable {fII fIW a_nexts : Addr}
theorem sc_nexts_of : FnScope ["line"] ["line"] (defScope s_nexts_of) := ⟨rfl, rfl, rfl, by decide +kernel, rfl, by decide +kernel, by decide +kernel⟩
theorem ok_nexts_of {f : Addr} {fd : FuncData} (F : Fun K "nexts_of" "nexts_of" s_nexts_of f fd) : FnOk P w K mg base CX0 1 f fd ["line"] spNextsOf := by
  refine F.ok sc_nexts_of (fun vs H Q E h => ?_) (fun cdv A outer s H vs Q E hr h => ?_)
  · obtain ⟨q, d, rfl, _⟩ := h
    rfl
  · obtain ⟨q, d, rfl, row, k⟩ := h
    refine ⟨_, (pss_cons (ps_if (pt_cmpR op_eq (pe_ix ix_tup (pv 0) pe_int (fun _ _ => rfl)) pe_str (nomark _)) (pss_one (ps_ret (pe_ix ix_tup (pv 0) pe_int (fun _ _ => rfl)))) pss_nil)
      (pss_one (ps_ret (pe_tupG pa_nil)))), ?_⟩
    cases d with
    | ask op ns =>
      obtain ⟨a, t, e, h1, h2⟩ := row
      cases e
      refine ⟨_, rfl, _, _, _, _, rfl, rfl, .inl (.inl h1), at0', rfl, _, rfl, ?_⟩
      rw [strEq]
      refine iteT ?_
      exact ⟨_, rfl, _, _, _, _, rfl, rfl, .inl (.inl h1), at2', k t H (Same.refl _) h2⟩
    | go n =>
      obtain ⟨a, e, h1⟩ := row
      cases e
      refine ⟨_, rfl, _, _, _, _, rfl, rfl, .inl (.inl h1), at0', rfl, _, rfl, ?_⟩
      rw [strNe go_ask]
      refine iteF ?_
      exact ⟨Nat.zero_le _, fun t H' n s e => k t H' s e⟩
    | fin x =>
      obtain ⟨a, e, h1⟩ := row
      cases e
      refine ⟨_, rfl, _, _, _, _, rfl, rfl, .inl (.inl h1), at0', rfl, _, rfl, ?_⟩
      rw [strNe end_ask]
      refine iteF ?_
      exact ⟨Nat.zero_le _, fun t H' n s e => k t H' s e⟩
theorem sc_rests_from : FnScope ["lines", "stops", "begin", "met", "known", "done", "index"] ["lines", "stops", "begin"] (defScope s_rests_from) := ⟨rfl, rfl, rfl, by decide +kernel, rfl, by decide +kernel, by decide +kernel⟩
theorem ok_rests_from {f : Addr} {fd fd_nexts : FuncData} (F : Fun K "rests_from" "rests_from" s_rests_from f fd) (T : TxtF K mg fII fIW)
    (GN : FnOk P w K mg base CX0 1 a_nexts fd_nexts ["line"] spNextsOf) (b_nexts : Binds K fd_nexts ["line"] []) (g_nexts : mg "nexts_of" = some (.ref a_nexts)) (k_nexts : PySem.W.keepIn K (.ref a_nexts) = true) : FnOk P w K mg base CX0 2 f fd ["lines", "stops", "begin"] spRests := by
  refine F.ok sc_rests_from (fun vs H Q E h => ?_) (fun cdv A outer s H vs Q E hr h => ?_)
  · obtain ⟨a, sa, xs, rs, b, rfl, _⟩ := h
    rfl
  · obtain ⟨a, sa, xs, rs, b, rfl, ha, rows, fit, hs, hb, big, k⟩ := h
    refine ⟨_, (pss_cons (ps_set (i := 3) sc_rests_from.nd rfl (Or.inl rfl) (pe_lstG (pa_cons (pe_ix ix_list (pv 1) (pv 2) (fun _ _ => rfl)) pa_nil)))
      (pss_cons (ps_set (i := 4) sc_rests_from.nd rfl (Or.inl rfl) (pe_disp (pps_cons (pe_ix ix_list (pv 1) (pv 2) (fun _ _ => rfl)) pe_bl pps_nil) rfl rfl (fun z => by cases z) (by show 1 ≤ 15; decide)))
      (pss_cons (ps_set (i := 5) sc_rests_from.nd rfl (Or.inl rfl) pe_int)
      (pss_cons (ps_while PassesOwn.never (pt_cmpR op_lt (pv 5) (pe_callB call_len_seq (by rfl) T.b_len PySem.boot_len (pa_cons (pv 3) pa_nil)) (nomark _)) (pss_cons (ps_for PassesOwn.never rfl (pi_tup (pe_call GN (hr.mono (by decide)) (by rfl) g_nexts k_nexts b_nexts .nil pass0 (pa_cons (pe_ix ix_list (pv 0) (pe_ix ix_list (pv 3) (pv 5) (fun _ _ => rfl)) (fun _ _ => rfl)) pa_nil))) (pg_name (i := 6) sc_rests_from.nd rfl (Or.inl rfl)) (pss_one (ps_if (pt_cmp (pc_dnotin (hu_of hr) (pe_ix ix_list (pv 1) (pv 6) (fun _ _ => rfl)) (pv 4)) rfl) (pss_cons (ps_asg pe_bl (pg_sub (pv 4) (pe_ix ix_list (pv 1) (pv 6) (fun _ _ => rfl)) (set_dict (hu_of hr))))
      (pss_one (ps_expr (pe_bm PySem.F.plainAttrs_list PySem.F.slot_list_append PySem.F.type_list_append mt_append (pv 3) (pa_cons (pe_ix ix_list (pv 1) (pv 6) (fun _ _ => rfl)) pa_nil))))) pss_nil)))
      (pss_one (ps_aug (i := 5) sc_rests_from.nd rfl (Or.inl rfl) pe_int ip_add))))
      (pss_one (ps_ret (pv 3))))))), ?_⟩
    have one : ∀ v : V, [v].length ≤ sizeLine := fun v => by rw [sizeLine_eq]; exact Nat.succ_le_of_lt (by decide)
    refine ⟨_, rfl, _, rfl, sa, _, _, _, rfl, rfl, SqL.of hs, fl_at hb, one _, fun ma H1 n1 s1 e1 => ?_⟩
    refine fun ka nk => ?_
    have e2 : upd H1 ka (.dK []) sa = some (.lst (fl rs.length fun i => (stp rs i : Int))) := sameNew nk _ _ _ (s1 _ _ hs)
    refine ⟨_, rfl, _, rfl, sa, _, _, _, rfl, rfl, SqL.of e2, fl_at hb, ?_⟩
    refine ⟨upd_same, [(.inl (stp rs b : Int), .bl true)], rfl, by show 1 ≤ 15; decide, ?_⟩
    have mi : MetI H ma ka [stp rs b] (upd (upd H1 ka (.dK [])) ka (.dK (mergeK [] [(.inl (stp rs b : Int), .bl true)]))) := by
      have ne : ma ≠ ka := fun z => by
        rw [← z, e1] at nk
        cases nk
      refine ⟨?_, ?_, ?_, n1, none_of s1 nk, ne⟩
      · exact same_updN (same_updN s1 (none_of s1 nk)) (none_of s1 nk)
      · rw [upd_ne ne, upd_ne ne]
        exact e1
      · rw [upd_same]
        rfl
    refine ⟨fun m σ H' => ∃ (d : Nat) (v6 : Option V), m = rs.length - d ∧ σ = [some (.ref a), some (.ref sa), some (.int b), some (.ref ma), some (.ref ka), some (.int (d : Int)), v6] ∧ MetI H ma ka (metAt rs b d) H' ∧ d ≤ (metAt rs b d).length, ⟨_, 0, none, rfl, rfl, mi, Nat.zero_le _⟩, ?_⟩
    rintro m σ H' ⟨d, v6, rfl, rfl, t, hd⟩
    have few := metAt_few fit hb d
    have fl1 := few.len
    have nl : ∀ m : List Nat, (natsV m).length = m.length := fun m => List.length_map _
    refine ⟨_, rfl, _, rfl, ma, _, rfl, .inl (SqL.of t.em), _, _, rfl, rfl, _, rfl, ?_⟩
    rw [nl]
    refine ite2 (fun h1 => ?_) (fun h1 => ?_)
    · have hlt : d < (metAt rs b d).length := by
        have := of_decide_eq_true h1
        omega
      obtain ⟨i, ei⟩ : ∃ i, (metAt rs b d)[d]? = some i := ⟨_, List.getElem?_eq_getElem hlt⟩
      have hi : i < rs.length := few.2 _ (List.mem_of_getElem? ei)
      obtain ⟨q, zs, dd, ed, hx, row, hq⟩ := rows.at hi
      have st := metAt_step ei ed
      refine ⟨fun σ' H'' => ∃ v6, σ' = [some (.ref a), some (.ref sa), some (.int b), some (.ref ma), some (.ref ka), some (.int ((d + 1 : Nat) : Int)), v6] ∧ MetI H ma ka (metAt rs b (d + 1)) H'', fun σ' H'' ⟨v6, z1, z2⟩ => ⟨rs.length - (d + 1), by omega, d + 1, v6, rfl, z1, z2, by rw [st]; exact Nat.le_trans hlt grow_len⟩, ?_⟩
      have en : (natsV (metAt rs b d))[d]? = some (.int (i : Int)) := by
        unfold natsV
        rw [List.getElem?_map, ei]
        rfl
      refine ⟨_, rfl, _, rfl, _, rfl, ma, _, _, _, rfl, rfl, SqL.of t.em, atI_nat en, a, xs, _, _, rfl, rfl, SqL.of (t.same _ _ ha), atI_nat hx, q, dd, rfl, row.same t.same, fun tt H2 s2 et => ?_⟩
      refine ⟨tt, rfl, ⟨_, .inl (.inl et)⟩, for_tup (K := K) (a := tt) (xs := (nextsD dd).map V.int) (fun j σ H3 => ∃ v6, σ = [some (.ref a), some (.ref sa), some (.int b), some (.ref ma), some (.ref ka), some (.int (d : Int)), v6] ∧ MetI H ma ka (grow rs (metAt rs b d) ((nextsD dd).take j)) H3 ∧ H3 tt = some (.tup ((nextsD dd).map V.int))) ⟨_, rfl, t.go s2, et⟩ (fun j σ H3 _ z => by obtain ⟨_, _, _, z⟩ := z; exact .inl (.inl z)) (fun j x σ H3 hx z => ?_) (fun σ H3 z => ?_)⟩
      · obtain ⟨w6, rfl, t3, et3⟩ := z
        have hj : j < (nextsD dd).length := by
          have := (List.getElem?_eq_some_iff.mp hx).1
          rw [List.length_map] at this
          exact this
        have ej : (nextsD dd)[j]? = some (nextsD dd)[j] := List.getElem?_eq_getElem hj
        generalize (nextsD dd)[j] = n at ej
        rw [List.getElem?_map, ej] at hx
        have hx2 : V.int n = x := Option.some.inj hx
        subst hx2
        have mem := List.mem_of_getElem? ej
        obtain ⟨n0, n1⟩ := fit.nexts ed mem
        have e0 : n = (n.toNat : Int) := by omega
        have hn : n.toNat < rs.length := by omega
        have atS : atI (fl rs.length fun i => (stp rs i : Int)) n = some (V.int (stp rs n.toNat : Int)) := by
          conv => lhs; rw [e0]
          exact fl_at hn
        have few3 : Few rs.length (grow rs (metAt rs b d) ((nextsD dd).take j)) := grow_few fit.go few fun x hx => fit.nexts ed (List.mem_of_mem_take hx)
        have len3 := few3.len
        have tk : grow rs (metAt rs b d) ((nextsD dd).take (j + 1)) = addTo (grow rs (metAt rs b d) ((nextsD dd).take j)) (stp rs n.toNat) := by
          unfold grow
          rw [List.take_succ, ej, List.foldl_append]
          rfl
        refine ⟨_, rfl, _, rfl, sa, _, _, _, rfl, rfl, SqL.of (t3.same _ _ hs), atS, _, rfl, ka, _, rfl, .inl ⟨_, .inl (stp rs n.toNat : Int), .inl t3.ek, rfl, rfl⟩, _, rfl, ?_⟩
        rw [val_kn]
        refine ite2 (fun h2 => ?_) (fun h2 => ?_)
        · have nin : stp rs n.toNat ∉ grow rs (metAt rs b d) ((nextsD dd).take j) := fun z => by
            rw [decide_eq_true z] at h2
            cases h2
          have kl : (knK (grow rs (metAt rs b d) ((nextsD dd).take j))).length < sizeLine := by
            unfold knK
            rw [List.length_map, sizeLine_eq]
            omega
          refine ⟨_, rfl, _, rfl, _, rfl, sa, _, _, _, rfl, rfl, SqL.of (t3.same _ _ hs), atS, ka, _, rfl, .inl ⟨_, .inl (stp rs n.toNat : Int), t3.ek, rfl, kl, rfl⟩, ?_⟩
          have s4 : Same H (upd H3 ka (.dK (putK (knK (grow rs (metAt rs b d) ((nextsD dd).take j))) (.inl (stp rs n.toNat : Int)) (.bl true)))) := same_updN t3.same t3.nk
          have em4 : upd H3 ka (.dK (putK (knK (grow rs (metAt rs b d) ((nextsD dd).take j))) (.inl (stp rs n.toNat : Int)) (.bl true))) ma = some (.lst (natsV (grow rs (metAt rs b d) ((nextsD dd).take j)))) := by
            rw [upd_ne t3.ne]
            exact t3.em
          refine ⟨_, rfl, .inl ⟨rfl, _, SqL.of em4⟩, _, rfl, _, rfl, sa, _, _, _, rfl, rfl, SqL.of (s4 _ _ hs), atS, ma, _, _, rfl, rfl, em4, by rw [nl, sizeLine_eq]; omega, ?_⟩
          refine ⟨_, rfl, by rw [tk]; exact t3.put nin, ?_⟩
          have a1 : tt ≠ ma := fun z => by
            rw [z, t3.em] at et3
            cases et3
          have a2 : tt ≠ ka := fun z => by
            rw [z, t3.ek] at et3
            cases et3
          rw [upd_ne a1, upd_ne a2]
          exact et3
        · have yin : stp rs n.toNat ∈ grow rs (metAt rs b d) ((nextsD dd).take j) := by
            by_cases z : stp rs n.toNat ∈ grow rs (metAt rs b d) ((nextsD dd).take j)
            · exact z
            · rw [decide_eq_false z] at h2
              exact absurd rfl h2
          have ad : addTo (grow rs (metAt rs b d) ((nextsD dd).take j)) (stp rs n.toNat) = grow rs (metAt rs b d) ((nextsD dd).take j) := if_pos yin
          exact ⟨_, rfl, by rw [tk, ad]; exact t3, et3⟩
      · obtain ⟨w6, rfl, t3, et3⟩ := z
        refine ⟨_, rfl, _, _, rfl, rfl, _, rfl, ?_⟩
        rw [List.length_map, List.take_length, ← st] at t3
        exact t3
    · have hge : (metAt rs b d).length ≤ d := by
        by_cases z : (metAt rs b d).length ≤ d
        · exact z
        · exact absurd (decide_eq_true (by omega)) h1
      exact ⟨_, rfl, k ma H' t.nm t.same (by rw [t.em, metAt_end (by omega) hge])⟩
end
end Mine

set_option maxRecDepth 100000
set_option maxHeartbeats 4000000
namespace L2
open PySem PySem.Spec PyProof.Rows
/-- a dict comprehension over a list that stays -/
theorem dc_list {K : PySem.W.Frag} {a : Addr} {xs : List V} {g : TG} {tt : TT} {tk tv : TE} {vs : List Nat} {σ : St} {H1 : Hp} {D : Addr} {Qd : Hp → Prop} (Pv : Nat → Hp → Prop) (h0 : Pv 0 (upd H1 D (.dK []))) (hl : ∀ i H, i ≤ xs.length → Pv i H → SqL K H a xs)
    (hs : ∀ i x H, xs[i]? = some x → Pv i H → g x (wipe σ vs) H fun σ2 H2 => wipe σ2 vs = wipe σ vs ∧ tt σ2 H2 fun b H3 =>
      if b = true then tk σ2 H3 fun y H4 => tv σ2 H4 fun z H5 => ∃ kvs k, y = kV k ∧ H5 D = some (.dK kvs) ∧ kvs.length < sizeLine ∧ Pv (i + 1) (upd H5 D (.dK (putK kvs k z))) else Pv (i + 1) H3) (hd : ∀ H, Pv xs.length H → Qd H) :
    ∃ W : Nat → Nat → Hp → Prop, (∃ m, W 0 m (upd H1 D (.dK []))) ∧ ∀ i m H, W i m H →
      ((Itl K a).stop i H ∧ Qd H) ∨ ((Itl K a).go i H ∧ ∃ Nx : Hp → Prop, (∀ H', Nx H' → ∃ m', m' < m ∧ W (i + 1) m' H') ∧ ∀ x H', (Itl K a).yld i H x H' → g x (wipe σ vs) H' fun σ2 H2 => wipe σ2 vs = wipe σ vs ∧ tt σ2 H2 fun b H3 =>
        if b = true then tk σ2 H3 fun y H4 => tv σ2 H4 fun z H5 => ∃ kvs k, y = kV k ∧ H5 D = some (.dK kvs) ∧ kvs.length < sizeLine ∧ Nx (upd H5 D (.dK (putK kvs k z))) else Nx H3) := by
  refine ⟨fun i m H => m = xs.length - i ∧ i ≤ xs.length ∧ Pv i H, ⟨xs.length, by simp, Nat.zero_le _, h0⟩, ?_⟩
  rintro i m H ⟨rfl, hi, p⟩
  have q := hl i H hi p
  by_cases hlt : i < xs.length
  · refine .inr ⟨⟨xs, xs[i], q, by simp [hlt]⟩, Pv (i + 1), fun H' p' => ⟨xs.length - (i + 1), by omega, rfl, hlt, p'⟩, fun x H' y => ?_⟩
    obtain ⟨e, y⟩ := y
    subst e
    exact hs i x _ (y xs q) p
  · have e : i = xs.length := by omega
    subst e
    exact .inl ⟨⟨xs, q, Nat.le_refl _⟩, hd H p⟩
end L2
namespace Mine
open PySem L2
abbrev s_in_order : Stmt := top 21
abbrev s_firsts_of : Stmt := top 32
theorem Rd.same {H H' : Hp} {a : Addr} {o : HO} (s : Same H H') (h : Rd H a o) : Rd H' a o := h.elim (fun z => .inl (s _ _ z)) fun ⟨od, z⟩ => .inr ⟨od, s _ _ z⟩
/-- the number of a name -/
def lookI (o : Ops) (x : Str) : Int := (opLook o x).getD 0
theorem look_mem : ∀ {o : Ops}, (o.map (·.1)).Nodup → ∀ p ∈ o, opLook o p.1 = some p.2
  | p0 :: o, nd, p, h => by
    rw [List.map_cons, List.nodup_cons] at nd
    rcases List.mem_cons.mp h with e | h
    · subst e
      simp [opLook]
    · have ne : p0.1 ≠ p.1 := fun z => nd.1 (z ▸ List.mem_map_of_mem h)
      have ih := look_mem nd.2 p h
      unfold opLook at ih ⊢
      rw [List.find?_cons, decide_eq_false ne]
      exact ih
theorem look_some {o : Ops} (nd : (o.map (·.1)).Nodup) {x : Str} (h : x ∈ o.map (·.1)) : opLook o x = some (lookI o x) := by
  obtain ⟨p, hp, rfl⟩ := List.mem_map.mp h
  unfold lookI
  rw [look_mem nd p hp]
  rfl
def pick (o : Ops) (ys : List Str) : Ops := ys.map fun y => (y, lookI o y)
theorem pick_perm {o : Ops} (nd : (o.map (·.1)).Nodup) {ys : List Str} (p : ys.Perm (o.map (·.1))) : (pick o ys).Perm o := by
  have e : o = pick o (o.map (·.1)) := by
    unfold pick
    rw [List.map_map]
    refine (List.map_id o).symm.trans (List.map_congr_left fun q hq => ?_)
    show q = (q.1, lookI o q.1)
    unfold lookI
    rw [look_mem nd q hq]
    rfl
  conv => rhs; rw [e]
  exact p.map _
theorem pick_names {o : Ops} {ys : List Str} : (pick o ys).map (·.1) = ys := by
  unfold pick
  rw [List.map_map]
  exact List.map_id ys
theorem opsK_keys (o : Ops) : (opsK o).map (·.1) = (o.map (·.1)).map Sum.inr := by
  unfold opsK
  rw [List.map_map, List.map_map]
  rfl
theorem opsK_len (o : Ops) : (opsK o).length = o.length := List.length_map _
/-- the same operations, sorted -/
def Ordered (o o' : Ops) : Prop := o'.Perm o ∧ PyProof.Rows.sortedS (o'.map (·.1)) = true
def spOrder : Sp := fun vs H Q _ => ∃ (t : Addr) (o : Ops), vs = [.ref t] ∧ Rd H t (.dK (opsK o)) ∧ (o.map (·.1)).Nodup ∧ o.length < 64 ∧ ∀ o', Ordered o o' → New H (.dK (opsK o')) Q
theorem val_new {o : Ops} {ys : List Str} {i : Nat} {y : Str} (nd : ys.Nodup) (h : ys[i]? = some y) : valV (opsK (pick o (ys.take i))) (.inr y) = none := by
  rw [val_ops]
  have : opLook (pick o (ys.take i)) y = none := by
    unfold opLook
    rw [List.find?_eq_none.mpr]
    · rfl
    · intro p hp
      unfold pick at hp
      obtain ⟨z, hz, rfl⟩ := List.mem_map.mp hp
      intro q
      have e : z = y := of_decide_eq_true q
      subst e
      obtain ⟨j, hj⟩ := List.mem_iff_getElem?.mp hz
      rw [List.getElem?_take] at hj
      split at hj
      · rename_i lt
        have hjl := (List.getElem?_eq_some_iff.mp hj).1
        have hil := (List.getElem?_eq_some_iff.mp h).1
        have := (List.getElem?_inj hjl nd).mp (hj.trans h.symm)
        omega
      · cases hj
  rw [this]
  rfl
section
variable {P : Program} {w : World} {K : PySem.W.Frag} {mg : Str → Option Value} {base : Heap}
theorem sc_in_order : FnScope ["table", "name"] ["table"] (defScope s_in_order) := ⟨rfl, rfl, rfl, by decide +kernel, rfl, by decide +kernel, by decide +kernel⟩
theorem ok_in_order {f : Addr} {fd : FuncData} (F : Fun K "in_order" "in_order" s_in_order f fd) (h_sorted : mg "sorted" = none) : FnOk P w K mg base CX0 1 f fd ["table"] spOrder := by
  refine F.ok sc_in_order (fun vs H Q E h => ?_) (fun cdv A outer s H vs Q E hr h => ?_)
  · obtain ⟨t, o, rfl, _⟩ := h
    rfl
  · obtain ⟨t, o, rfl, ht, nd, few, k⟩ := h
    refine ⟨_, (pss_one (ps_ret (pe_dc (own := [("name", 1)]) (g := gName 1) (tt := tYes) rfl sc_in_order.nd (pi_list (pe_callB (call_sortedD rfl) (by rfl) h_sorted (by decide +kernel) (pa_cons (pv 0) pa_nil))) (blkOk_by (own := [("name", 1)]) (N := ["table", "name"]) (sc := defScope s_in_order) (by decide +kernel)) (fun _ _ _ _ _ => pg_name (i := 1) sc_in_order.nd rfl (Or.inl rfl)) (fun _ _ _ _ _ => pts_nil) (fun _ _ _ _ _ => pv 1) (fun _ _ _ _ _ => pe_dget (hu_of hr) (pv 0) (pv 1) (fun _ _ => rfl))))), ?_⟩
    refine ⟨_, rfl, t, _, o.map (·.1), rfl, ht, opsK_keys o, by rw [List.length_map]; exact few, fun ys p perm srt np => ?_⟩
    have nd2 : ys.Nodup := perm.nodup_iff.mpr nd
    have yl : ys.length < 64 := by
      have := perm.length_eq
      rw [List.length_map] at this
      omega
    refine ⟨p, rfl, ⟨_, SqL.of upd_same⟩, fun D nD => dc_list (xs := ys.map V.str) (fun i Hx => Same H Hx ∧ Hx p = some (.lst (ys.map V.str)) ∧ H D = none ∧ Hx D = some (.dK (opsK (pick o (ys.take i))))) ?_ (fun i Hx _ z => SqL.of z.2.1) (fun i x Hx hx z => ?_) (fun Hx z => ?_)⟩
    · have nD0 : H D = none := none_of (sameNew np _) nD
      have ne : p ≠ D := fun z => by
        rw [← z, upd_same] at nD
        cases nD
      refine ⟨same_updN (sameNew np _) nD0, ?_, nD0, upd_same⟩
      rw [upd_ne ne, upd_same]
    · obtain ⟨z1, z2, z3, z4⟩ := z
      have hi : i < ys.length := by
        have := (List.getElem?_eq_some_iff.mp hx).1
        rw [List.length_map] at this
        exact this
      have ey : ys[i]? = some ys[i] := List.getElem?_eq_getElem hi
      generalize ys[i] = y at ey
      rw [List.getElem?_map, ey] at hx
      have hx2 : V.str y = x := Option.some.inj hx
      subst hx2
      have my : y ∈ o.map (·.1) := perm.mem_iff.mp (List.mem_of_getElem? ey)
      refine ⟨rfl, ?_⟩
      unfold tYes
      simp only [↓reduceIte]
      refine ⟨_, rfl, _, rfl, _, rfl, t, _, rfl, .inl ⟨opsK o, .inr y, Rd.same z1 ht, rfl, (by rw [val_ops, look_some nd my]; rfl)⟩, _, .inr y, rfl, z4, ?_, same_updN z1 z3, ?_, z3, ?_⟩
      · rw [opsK_len, sizeLine_eq]
        unfold pick
        rw [List.length_map, List.length_take]
        omega
      · have ne : p ≠ D := fun z => by
          rw [← z] at z4
          rw [z4] at z2
          cases z2
        rw [upd_ne ne]
        exact z2
      · rw [upd_same, putK_new _ (val_new nd2 ey)]
        unfold pick
        rw [List.take_succ, ey, List.map_append]
        unfold opsK
        rw [List.map_append]
        rfl
    · obtain ⟨z1, z2, z3, z4⟩ := z
      rw [List.length_map, List.take_length] at z4
      exact k _ ⟨pick_perm nd perm, by rw [pick_names]; exact srt⟩ D Hx z3 z1 z4
end
def nameOf : RowD → Str
  | .ask op _ => op
  | .go _ => ""
  | .fin x => x
def addStr (m : List Str) (t : Str) : List Str := if t ∈ m then m else m ++ [t]
def takeIn (x : Str) (m : List Str) (d : RowD) : List Str := if wordOf d = x then addStr m (nameOf d) else m
/-- what stands behind the word, each once -/
def distinct (x : Str) (ds : List RowD) : List Str := ds.foldl (takeIn x) []
def tks (m : List Str) : List (Key × V) := m.map fun t => (Sum.inr t, V.bl true)
theorem val_tks (m : List Str) (t : Str) : (valV (tks m) (.inr t)).isSome = decide (t ∈ m) := by
  induction m with
  | nil => simp [tks, valV_nil]
  | cons y m ih =>
    by_cases h : y = t
    · subst h
      unfold tks
      rw [List.map_cons, valV_pos rfl]
      simp
    · have h2 : ¬ (Sum.inr y : Key) = Sum.inr t := fun z => h (Sum.inr.inj z)
      unfold tks at ih ⊢
      rw [List.map_cons, valV_neg h2, ih]
      by_cases q : t ∈ m
      · rw [decide_eq_true q, decide_eq_true (List.mem_cons_of_mem _ q)]
      · rw [decide_eq_false q, decide_eq_false (fun z => (List.mem_cons.mp z).elim (fun y => h y.symm) q)]
theorem put_tks (m : List Str) (t : Str) : putK (tks m) (.inr t) (.bl true) = tks (addStr m t) := by
  unfold addStr
  by_cases q : t ∈ m
  · rw [if_pos q]
    unfold putK
    have := val_tks m t
    rw [valV_any, this, decide_eq_true q, if_pos rfl]
    unfold tks
    rw [List.map_map]
    refine List.map_congr_left fun y _ => ?_
    show (if (Sum.inr y : Key) = Sum.inr t then ((Sum.inr y : Key), V.bl true) else (Sum.inr y, V.bl true)) = _
    split <;> rfl
  · rw [if_neg q]
    have := val_tks m t
    rw [decide_eq_false q] at this
    cases e : valV (tks m) (.inr t) with
    | none =>
      rw [putK_new _ e]
      unfold tks
      rw [List.map_append]
      rfl
    | some v =>
      rw [e] at this
      cases this
theorem addStr_len (m : List Str) (t : Str) : (addStr m t).length ≤ m.length + 1 := by
  unfold addStr
  split
  · omega
  · rw [List.length_append]
    exact Nat.le_refl _
theorem fold_len (x : Str) : ∀ (ds : List RowD) (m : List Str), (ds.foldl (takeIn x) m).length ≤ m.length + ds.length
  | [], _ => Nat.le_refl _
  | d :: ds, m => by
    have h := fold_len x ds (takeIn x m d)
    have h2 : (takeIn x m d).length ≤ m.length + 1 := by
      unfold takeIn
      split
      · exact addStr_len _ _
      · omega
    show (ds.foldl (takeIn x) (takeIn x m d)).length ≤ m.length + (ds.length + 1)
    omega
theorem distinct_len (x : Str) (ds : List RowD) : (distinct x ds).length ≤ ds.length := by
  have := fold_len x ds []
  rw [List.length_nil, Nat.zero_add] at this
  exact this
theorem distinct_snoc {x : Str} {ds : List RowD} {i : Nat} {d : RowD} (h : ds[i]? = some d) : distinct x (ds.take (i + 1)) = takeIn x (distinct x (ds.take i)) d := by
  unfold distinct
  rw [List.take_succ, h, List.foldl_append]
  rfl
def IsFirsts (x : Str) (ds : List RowD) (ys : List Str) : Prop := ys.Perm (distinct x ds) ∧ PyProof.Rows.sortedS ys = true
def spFirsts : Sp := fun vs H Q _ => ∃ (l : Addr) (xs : List V) (ds : List RowD) (x : Str), vs = [.ref l, .str x] ∧ x ≠ "go" ∧ H l = some (.lst xs) ∧ Rows H xs ds ∧ ds.length ≤ 100000 ∧ (distinct x ds).length < 64 ∧ ∀ ys, IsFirsts x ds ys → New H (.lst (ys.map V.str)) Q
theorem TRow.name {H : Hp} {v : V} {d : RowD} (h : TRow H v d) (g : wordOf d ≠ "go") : ∃ (a : Addr) (zs : List V), v = .ref a ∧ H a = some (.tup (.str (wordOf d) :: .str (nameOf d) :: zs)) := by
  cases d with
  | ask op ns =>
    obtain ⟨a, t, e, h1, _⟩ := h
    exact ⟨a, _, e, h1⟩
  | go n => exact absurd rfl g
  | fin x =>
    obtain ⟨a, e, h1⟩ := h
    exact ⟨a, _, e, h1⟩
section
variable {P : Program} {w : World} {K : PySem.W.Frag} {mg : Str → Option Value} {base : Heap}
theorem sc_firsts_of : FnScope ["lines", "word", "line"] ["lines", "word"] (defScope s_firsts_of) := ⟨rfl, rfl, rfl, by decide +kernel, rfl, by decide +kernel, by decide +kernel⟩
theorem ok_firsts_of {f : Addr} {fd : FuncData} (F : Fun K "firsts_of" "firsts_of" s_firsts_of f fd) (h_sorted : mg "sorted" = none) : FnOk P w K mg base CX0 1 f fd ["lines", "word"] spFirsts := by
  refine F.ok sc_firsts_of (fun vs H Q E h => ?_) (fun cdv A outer s H vs Q E hr h => ?_)
  · obtain ⟨l, xs, ds, x, rfl, _⟩ := h
    rfl
  · obtain ⟨l, xs, ds, x, rfl, ng, hl, rows, big, few, k⟩ := h
    refine ⟨_, (pss_one (ps_ret (pe_callB (call_sortedD rfl) (by rfl) h_sorted (by decide +kernel) (pa_cons (pe_dc (own := [("line", 2)]) (g := gName 2) rfl sc_firsts_of.nd (pi_list (pv 0)) (blkOk_by (own := [("line", 2)]) (N := ["lines", "word", "line"]) (sc := defScope s_firsts_of) (by decide +kernel)) (fun _ _ _ _ _ => pg_name (i := 2) sc_firsts_of.nd rfl (Or.inl rfl)) (fun _ _ _ _ _ => pts_one (pt_cmpR op_eq (pe_ix (show IxR _ (rIxT K) from ix_tup) (pv 2) pe_int (fun _ _ => rfl)) (pv 1) (nomark _))) (fun _ _ _ _ _ => (pe_ix (show IxR _ (rIxT K) from ix_tup) (pv 2) pe_int (fun _ _ => rfl))) (fun _ _ _ _ _ => pe_bl)) pa_nil)))), ?_⟩
    refine ⟨_, rfl, l, rfl, ⟨_, SqL.of hl⟩, fun D nD => dc_list (xs := xs) (fun i Hx => Same H Hx ∧ Hx D = some (.dK (tks (distinct x (ds.take i))))) ⟨sameNew nD _, upd_same⟩ (fun i Hx _ z => SqL.of (z.1 _ _ hl)) (fun i y Hx hy z => ?_) (fun Hx z => ?_)⟩
    · obtain ⟨z1, z2⟩ := z
      have hi : i < ds.length := by
        have := (List.getElem?_eq_some_iff.mp hy).1
        have := rows.1
        omega
      obtain ⟨q, zs, d, ed, hx, row, hq⟩ := rows.at hi
      rw [hy] at hx
      cases hx
      refine ⟨rfl, ?_⟩
      refine ⟨_, rfl, _, _, _, _, rfl, rfl, .inl (.inl (z1 _ _ hq)), at0', _, rfl, rfl, _, rfl, ?_⟩
      by_cases hw : wordOf d = x
      · rw [hw, strEq]
        simp only [↓reduceIte]
        obtain ⟨q2, zs2, e2, hq2⟩ := row.name (by rw [hw]; exact ng)
        cases e2
        refine ⟨_, rfl, _, _, _, _, rfl, rfl, .inl (.inl (z1 _ _ hq2)), at1', _, .inr (nameOf d), rfl, z2, ?_, same_updN z1 nD, ?_⟩
        · have := distinct_len x (ds.take i)
          rw [List.length_take] at this
          unfold tks
          rw [List.length_map, sizeLine_eq]
          omega
        · rw [upd_same, put_tks, distinct_snoc ed]
          unfold takeIn
          rw [if_pos hw]
      · rw [strNe hw]
        simp only [Bool.false_eq_true, ↓reduceIte]
        refine ⟨z1, ?_⟩
        rw [distinct_snoc ed]
        unfold takeIn
        rw [if_neg hw]
        exact z2
    · obtain ⟨z1, z2⟩ := z
      rw [rows.1, List.take_length] at z2
      refine ⟨D, _, distinct x ds, rfl, .inl z2, ?_, few, fun ys p perm srt np => ?_⟩
      · unfold tks
        rw [List.map_map]
        rfl
      · exact k ys ⟨perm, srt⟩ p _ (none_of z1 np) (same_updN z1 (none_of z1 np)) upd_same
end
end Mine

set_option maxRecDepth 100000
set_option maxHeartbeats 4000000
namespace L2
open PySem PySem.Spec PyProof.Rows
/-- a list comprehension whose element leaves the heap -/
theorem lc_pure {K : PySem.W.Frag} {a D : Addr} {xs ys : List V} {te : TE} {i : Nat} {vs : List Nat} {σ : St} {H1 : Hp} {Qd : Hp → Prop} (hl : H1 a = some (.lst xs)) (nD : H1 D = none) (len : ys.length = xs.length) (big : xs.length ≤ 1000000)
    (hw : ∀ x, wipe ((wipe σ vs).set i (some x)) vs = wipe σ vs) (hs : ∀ (j : Nat) (x y : V) (Ha : Hp) (Qe : VK), xs[j]? = some x → ys[j]? = some y → Same H1 Ha → Qe y Ha → te ((wipe σ vs).set i (some x)) Ha Qe)
    (hd : ∀ Hx, Same H1 Hx → Hx D = some (.lst ys) → Qd Hx) :
    ∃ W : Nat → Nat → Hp → Prop, (∃ m, W 0 m (upd H1 D (.lst []))) ∧ ∀ i2 m H, W i2 m H →
      ((Itl K a).stop i2 H ∧ Qd H) ∨ ((Itl K a).go i2 H ∧ ∃ Nx : Hp → Prop, (∀ H', Nx H' → ∃ m', m' < m ∧ W (i2 + 1) m' H') ∧ ∀ x H', (Itl K a).yld i2 H x H' → gName i x (wipe σ vs) H' fun σ2 H2 => wipe σ2 vs = wipe σ vs ∧ tYes σ2 H2 fun b H3 =>
        if b = true then te σ2 H3 fun y H4 => ∃ acc, H4 D = some (.lst acc) ∧ acc.length < sizeLine ∧ Nx (upd H4 D (.lst (acc ++ [y]))) else Nx H3) := by
  refine lc_it (walk_list (xs := xs)) (fun k Hx => Same H1 Hx ∧ Hx D = some (.lst (ys.take k))) ⟨sameNew nD _, upd_same⟩ (fun k Hx _ z => SqL.of (z.1 _ _ hl)) (fun k x Ha Hb hk z1 z2 => ?_) (fun Hx z => hd Hx z.1 (by rw [z.2, ← len, List.take_length]))
  obtain ⟨rfl, hx⟩ := z2
  obtain ⟨s1, e1⟩ := z1
  have ey : ys[k]? = some ys[k] := List.getElem?_eq_getElem (by omega)
  refine ⟨hw x, ?_⟩
  unfold tYes
  simp only [↓reduceIte]
  refine hs k x _ _ _ hx ey s1 ⟨_, e1, ?_, Mine.same_updN s1 nD, ?_⟩
  · rw [List.length_take, sizeLine_eq]
    omega
  · rw [upd_same, List.take_succ, ey]
    rfl
end L2
namespace Mine
open PySem L2
abbrev s_mach : Stmt := inClass (top 25) 0
def SameX (m : Addr) (H H' : Hp) : Prop := ∀ b o, b ≠ m → H b = some o → H' b = some o
theorem SameX.upd {m : Addr} {H H' : Hp} {o : HO} (x : SameX m H H') : SameX m H (upd H' m o) := fun b u n e => by
  rw [upd_ne n]
  exact x b u n e
theorem SameX.go {m : Addr} {H H' H'' : Hp} (x : SameX m H H') (s : Same H' H'') : SameX m H H'' := fun b u n e => s _ _ (x b u n e)
theorem SameX.at {m : Addr} {H H' : Hp} {C dx b : Addr} {fs : List (Str × V)} {o : HO} (x : SameX m H H') (hm : H m = some (.ins C dx fs)) (e : H b = some o) (n : o ≠ .ins C dx fs) : H' b = some o :=
  x b o (fun z => by rw [z, hm] at e; exact n (Option.some.inj e).symm) e
theorem SameX.trow {m : Addr} {H H' : Hp} {C dx : Addr} {fs : List (Str × V)} {v : V} {d : RowD} (x : SameX m H H') (hm : H m = some (.ins C dx fs)) (r : TRow H v d) : TRow H' v d := by
  cases d with
  | ask op ns =>
    obtain ⟨a, t, e, h1, h2⟩ := r
    exact ⟨a, t, e, x.at hm h1 (fun z => nomatch z), x.at hm h2 (fun z => nomatch z)⟩
  | go n =>
    obtain ⟨a, e, h1⟩ := r
    exact ⟨a, e, x.at hm h1 (fun z => nomatch z)⟩
  | fin w =>
    obtain ⟨a, e, h1⟩ := r
    exact ⟨a, e, x.at hm h1 (fun z => nomatch z)⟩
theorem SameX.rows {m : Addr} {H H' : Hp} {C dx : Addr} {fs : List (Str × V)} {xs : List V} {rs : List RowD} (x : SameX m H H') (hm : H m = some (.ins C dx fs)) (r : Rows H xs rs) : Rows H' xs rs := ⟨r.1, fun i d e => by
  obtain ⟨v, h1, h2⟩ := r.2 i d e
  exact ⟨v, h1, x.trow hm h2⟩⟩
/-- the rows of rest that are met -/
def restD (rs : List RowD) (b : Nat) : List RowD := (metOf rs b).map fun i => rs.getD i (.fin "")
def restV (rs : List RowD) (b : Nat) (xs : List V) : List V := (metOf rs b).map fun i => xs.getD i .non
theorem rest_rows {H : Hp} {rs : List RowD} {b : Nat} {xs : List V} (f : Fit rs) (hb : b < rs.length) (r : Rows H xs rs) : Rows H (restV rs b xs) (restD rs b) := by
  refine ⟨by unfold restV restD; rw [List.length_map, List.length_map], fun j d e => ?_⟩
  unfold restD at e
  rw [List.getElem?_map] at e
  cases q : (metOf rs b)[j]? with
  | none => rw [q] at e; cases e
  | some i =>
    rw [q] at e
    have hi : i < rs.length := (metAt_few f hb rs.length).2 i (List.mem_of_getElem? q)
    have e2 : rs.getD i (.fin "") = d := Option.some.inj e
    have e3 : rs[i]? = some d := by
      rw [List.getD_eq_getElem?_getD, List.getElem?_eq_getElem hi] at e2
      rw [List.getElem?_eq_getElem hi]
      exact congrArg some e2
    obtain ⟨x, h1, h2⟩ := r.2 i d e3
    refine ⟨x, ?_, h2⟩
    unfold restV
    rw [List.getElem?_map, q]
    show some (xs.getD i .non) = some x
    rw [List.getD_eq_getElem?_getD, h1]
    rfl
/-- whether a run hangs -/
def endlessD (rs : List RowD) (b : Nat) : Bool := inV (.str "go") ((restD rs b).map fun d => .str (wordOf d))
/-- the fields of a machine, and what stands there -/
structure MachFs (H : Hp) (fs : List (Str × V)) (t l : Addr) (b : Nat) (rs : List RowD) (sa aa ea : Addr) (as es : List Str) : Prop where
  counts : fs.lookup ("counts" : Str) = some (.ref t)
  lines : fs.lookup ("lines" : Str) = some (.ref l)
  begin : fs.lookup ("begin" : Str) = some (.int b)
  stops : fs.lookup ("stops" : Str) = some (.ref sa)
  asks : fs.lookup ("asks" : Str) = some (.ref aa)
  endings : fs.lookup ("endings" : Str) = some (.ref ea)
  endless : fs.lookup ("endless" : Str) = some (.bl (endlessD rs b))
  hs : H sa = some (.lst (fl rs.length fun i => (stp rs i : Int)))
  ha : H aa = some (.lst (as.map V.str))
  he : H ea = some (.lst (es.map V.str))
  fa : IsFirsts "ask" (restD rs b) as
  fe : IsFirsts "end" (restD rs b) es
theorem SameX.off {m a : Addr} {H H' : Hp} (x : SameX m H H') (n : H' a = none) (ne : a ≠ m) : H a = none := by
  cases e : H a with
  | none => rfl
  | some u =>
    rw [x a u ne e] at n
    cases n
def spMach (C : Addr) : Sp := fun vs H Q _ => ∃ (m t l dx : Addr) (xs : List V) (rs : List RowD) (b : Nat), vs = [.ref m, .ref t, .ref l, .int b] ∧ H m = some (.ins C dx []) ∧ H l = some (.lst xs) ∧ Rows H xs rs ∧ Fit rs ∧ b < rs.length ∧ rs.length ≤ 100000 ∧
  (distinct "ask" (restD rs b)).length < 64 ∧ (distinct "end" (restD rs b)).length < 64 ∧ ∀ (fs : List (Str × V)) (H' : Hp) (sa aa ea : Addr) (as es : List Str), H sa = none → H aa = none → H ea = none → SameX m H H' → H' m = some (.ins C dx fs) → MachFs H' fs t l b rs sa aa ea as es → Q .non H'
/-- what is told of the class -/
structure MachC (K : PySem.W.Frag) (C : Addr) : Prop where
  cl : Cls K C
  n_counts : NoAttr K C "counts"
  n_lines : NoAttr K C "lines"
  n_begin : NoAttr K C "begin"
  n_stops : NoAttr K C "stops"
  n_asks : NoAttr K C "asks"
  n_endings : NoAttr K C "endings"
  n_endless : NoAttr K C "endless"
section
variable {P : Program} {w : World} {K : PySem.W.Frag} {mg : Str → Option Value} {base : Heap}
variable {a_rests a_stops a_firsts C : Addr}
theorem sc_mach : FnScope ["self", "counts", "lines", "begin", "rests", "stop", "line"] ["self", "counts", "lines", "begin"] (defScope s_mach) := ⟨rfl, rfl, rfl, by decide +kernel, rfl, by decide +kernel, by decide +kernel⟩
theorem putF_len {fs : List (Str × V)} {f : Str} {v : V} {n : Nat} (h : fs.length ≤ n) : (putF f v fs).length ≤ n + 1 := Nat.le_trans (length_putF f v fs) (Nat.succ_le_succ h)
theorem ok_mach {f : Addr} {fd fd_rests fd_stops fd_firsts : FuncData} (F : Fun K "__init__" "Machine.__init__" s_mach f fd) (TM : MachC K C)
    (GR : FnOk P w K mg base CX0 2 a_rests fd_rests ["lines", "stops", "begin"] spRests) (b_rests : Binds K fd_rests ["lines", "stops", "begin"] []) (g_rests : mg "rests_from" = some (.ref a_rests)) (k_rests : PySem.W.keepIn K (.ref a_rests) = true)
    (GS : FnOk P w K mg base CX0 2 a_stops fd_stops ["lines"] spStops) (b_stops : Binds K fd_stops ["lines"] []) (g_stops : mg "stops_of" = some (.ref a_stops)) (k_stops : PySem.W.keepIn K (.ref a_stops) = true)
    (GF : FnOk P w K mg base CX0 1 a_firsts fd_firsts ["lines", "word"] spFirsts) (b_firsts : Binds K fd_firsts ["lines", "word"] []) (g_firsts : mg "firsts_of" = some (.ref a_firsts)) (k_firsts : PySem.W.keepIn K (.ref a_firsts) = true) : FnOk P w K mg base CX0 3 f fd ["self", "counts", "lines", "begin"] (spMach C) := by
  refine F.ok sc_mach (fun vs H Q E h => ?_) (fun cdv A outer s H vs Q E hr h => ?_)
  · obtain ⟨m, t, l, dx, xs, rs, b, rfl, _⟩ := h
    rfl
  · obtain ⟨m, t, l, dx, xs, rs, b, rfl, hm, hl, rows, fit, hb, big, few1, few2, k⟩ := h
    refine ⟨_, (pss_cons (ps_fld (pv 0) (pv 1) rfl)
      (pss_cons (ps_fld (pv 0) (pv 2) rfl)
      (pss_cons (ps_fld (pv 0) (pv 3) rfl)
      (pss_cons (ps_fld (pv 0) (pe_call GS (hr.mono (by decide)) (by rfl) g_stops k_stops b_stops .nil pass0 (pa_cons (pv 2) pa_nil)) rfl)
      (pss_cons (ps_setLc (i := 4) (own := [("stop", 5)]) (g := gName 5) (tt := tYes) rfl sc_mach.nd rfl rfl (sw_true rfl rfl rfl rfl) (pi_list (pe_call GR (hr.mono (by decide)) (by rfl) g_rests k_rests b_rests .nil pass0 (pa_cons (pv 2) (pa_cons (pe_fld (pv 0) rfl) (pa_cons (pv 3) pa_nil))))) (blkOk_by (own := [("stop", 5)]) (N := ["self", "counts", "lines", "begin", "rests", "stop", "line"]) (sc := defScope s_mach) (by decide +kernel)) (fun _ _ _ _ _ => pg_name (i := 5) sc_mach.nd rfl (Or.inl rfl)) (fun _ _ _ _ _ => pts_nil) (fun _ _ _ _ _ => pe_ix (show IxR _ (rIxL K) from ix_list) (pv 2) (pv 5) (fun _ _ => rfl)))
      (pss_cons (ps_fld (pv 0) (pe_call GF (hr.mono (by decide)) (by rfl) g_firsts k_firsts b_firsts .nil pass0 (pa_cons (pv 4) (pa_cons pe_str pa_nil))) rfl)
      (pss_cons (ps_fld (pv 0) (pe_call GF (hr.mono (by decide)) (by rfl) g_firsts k_firsts b_firsts .nil pass0 (pa_cons (pv 4) (pa_cons pe_str pa_nil))) rfl)
      (pss_one (ps_fld (pv 0) (pe_cmpR op_in_seq pe_str (pe_lc (own := [("line", 6)]) (g := gName 6) (tt := tYes) rfl sc_mach.nd (pi_list (pv 4)) (blkOk_by (own := [("line", 6)]) (N := ["self", "counts", "lines", "begin", "rests", "stop", "line"]) (sc := defScope s_mach) (by decide +kernel)) (fun _ _ _ _ _ => pg_name (i := 6) sc_mach.nd rfl (Or.inl rfl)) (fun _ _ _ _ _ => pts_nil) (fun _ _ _ _ _ => pe_ix (show IxR _ (rIxT K) from ix_tup) (pv 6) pe_int (fun _ _ => rfl))) (by rfl)) rfl))))))))), ?_⟩
    have L0 : ([] : List (Str × V)).length ≤ 0 := Nat.le_refl _
    have L1 := putF_len (f := "counts") (v := .ref t) L0
    have L2 := putF_len (f := "lines") (v := .ref l) L1
    have L3 := putF_len (f := "begin") (v := .int b) L2
    refine ⟨_, rfl, _, rfl, m, C, dx, _, rfl, hm, TM.cl, TM.n_counts, Nat.lt_of_le_of_lt L0 (by decide), ?_⟩
    refine ⟨_, rfl, _, rfl, m, C, dx, _, rfl, upd_same, TM.cl, TM.n_lines, Nat.lt_of_le_of_lt L1 (by decide), ?_⟩
    refine ⟨_, rfl, _, rfl, m, C, dx, _, rfl, upd_same, TM.cl, TM.n_begin, Nat.lt_of_le_of_lt L2 (by decide), ?_⟩
    rw [upd_upd, upd_upd]
    have x3 : SameX m H (upd H m (.ins C dx (putF "begin" (.int b) (putF "lines" (.ref l) (putF "counts" (.ref t) []))))) := SameX.upd fun _ _ _ e => e
    have m3 : upd H m (.ins C dx (putF "begin" (.int b) (putF "lines" (.ref l) (putF "counts" (.ref t) [])))) m = some (.ins C dx (putF "begin" (.int b) (putF "lines" (.ref l) (putF "counts" (.ref t) [])))) := upd_same
    have q1 : (putF ("begin" : Str) (.int b) (putF "lines" (.ref l) (putF "counts" (.ref t) []))).lookup ("counts" : Str) = some (.ref t) := by
      rw [lookup_putF, if_neg (by decide +kernel), lookup_putF, if_neg (by decide +kernel), lookup_putF, if_pos rfl]
    have q2 : (putF ("begin" : Str) (.int b) (putF "lines" (.ref l) (putF "counts" (.ref t) []))).lookup ("lines" : Str) = some (.ref l) := by
      rw [lookup_putF, if_neg (by decide +kernel), lookup_putF, if_pos rfl]
    have q3 : (putF ("begin" : Str) (.int b) (putF "lines" (.ref l) (putF "counts" (.ref t) []))).lookup ("begin" : Str) = some (.int b) := by
      rw [lookup_putF, if_pos rfl]
    generalize (upd H m (.ins C dx (putF "begin" (.int b) (putF "lines" (.ref l) (putF "counts" (.ref t) []))))) = H3 at x3 m3 ⊢
    generalize putF ("begin" : Str) (.int b) (putF "lines" (.ref l) (putF "counts" (.ref t) [])) = f3 at m3 L3 q1 q2 q3
    have l3 : H3 l = some (.lst xs) := x3.at hm hl (fun z => nomatch z)
    refine ⟨_, rfl, l, xs, rs, rfl, l3, x3.rows hm rows, fit.go, big, fun sa H4 n4 s4 e4 => ?_⟩
    refine ⟨_, rfl, m, C, dx, _, rfl, s4 _ _ m3, TM.cl, TM.n_stops, Nat.lt_of_le_of_lt L3 (by decide), ?_⟩
    have L4 := putF_len (f := "stops") (v := .ref sa) L3
    have sm : sa ≠ m := fun z => by
      rw [z, m3] at n4
      cases n4
    have nsa : H sa = none := x3.off n4 sm
    have x4 : SameX m H (upd H4 m (.ins C dx (putF "stops" (.ref sa) f3))) := (x3.go s4).upd
    have m4 : upd H4 m (.ins C dx (putF "stops" (.ref sa) f3)) m = some (.ins C dx (putF "stops" (.ref sa) f3)) := upd_same
    have e5 : upd H4 m (.ins C dx (putF "stops" (.ref sa) f3)) sa = some (.lst (fl rs.length fun i => (stp rs i : Int))) := by
      rw [upd_ne sm]
      exact e4
    have q4 : (putF ("stops" : Str) (.ref sa) f3).lookup ("stops" : Str) = some (.ref sa) := by rw [lookup_putF, if_pos rfl]
    have q1' : (putF ("stops" : Str) (.ref sa) f3).lookup ("counts" : Str) = some (.ref t) := by rw [lookup_putF, if_neg (by decide +kernel)]; exact q1
    have q2' : (putF ("stops" : Str) (.ref sa) f3).lookup ("lines" : Str) = some (.ref l) := by rw [lookup_putF, if_neg (by decide +kernel)]; exact q2
    have q3' : (putF ("stops" : Str) (.ref sa) f3).lookup ("begin" : Str) = some (.int b) := by rw [lookup_putF, if_neg (by decide +kernel)]; exact q3
    clear q1 q2 q3
    generalize (upd H4 m (.ins C dx (putF "stops" (.ref sa) f3))) = H5 at x4 m4 e5 ⊢
    generalize putF ("stops" : Str) (.ref sa) f3 = f4 at m4 L4 q1' q2' q3' q4
    have l5 : H5 l = some (.lst xs) := x4.at hm hl (fun z => nomatch z)
    have rows5 := x4.rows hm rows
    refine ⟨_, rfl, _, rfl, m, C, dx, _, _, rfl, m4, TM.cl, TM.n_stops, q4, _, rfl, l, sa, xs, rs, b, rfl, l5, rows5, fit, e5, hb, big, fun ma H6 n6 s6 e6 => ?_⟩
    have few := metAt_few fit hb rs.length
    have flen := few.len
    have nl : (natsV (metOf rs b)).length = (metOf rs b).length := List.length_map _
    have rvl : (restV rs b xs).length = (metOf rs b).length := List.length_map _
    have fl2 : (metOf rs b).length ≤ rs.length := flen
    refine ⟨ma, rfl, ⟨_, SqL.of e6⟩, fun D nD => lc_pure (ys := restV rs b xs) e6 nD (by rw [nl, rvl]) (by rw [nl]; omega) (fun _ => rfl) (fun j x y Ha Qe hx hy sa6 qe => ?_) (fun H7 s7 e7 => ?_)⟩
    · unfold natsV at hx
      rw [List.getElem?_map] at hx
      unfold restV at hy
      rw [List.getElem?_map] at hy
      cases q : (metOf rs b)[j]? with
      | none => rw [q] at hx; cases hx
      | some i =>
        rw [q] at hx hy
        have hx2 : V.int (i : Int) = x := Option.some.inj hx
        have hy2 : xs.getD i .non = y := Option.some.inj hy
        have hi : i < xs.length := by
          rw [rows.1]
          exact few.2 i (List.mem_of_getElem? q)
        subst hx2
        have ey : xs[i]? = some y := by
          rw [List.getD_eq_getElem?_getD, List.getElem?_eq_getElem hi] at hy2
          rw [List.getElem?_eq_getElem hi]
          exact congrArg some hy2
        exact ⟨_, rfl, _, rfl, l, xs, _, y, rfl, rfl, SqL.of (sa6 _ _ (s6 _ _ l5)), atI_nat ey, qe⟩
    · have s57 : Same H5 H7 := s6.trans s7
      have rr : Rows H7 (restV rs b xs) (restD rs b) := rest_rows fit hb (rows5.same s57)
      have rdl : (restD rs b).length ≤ 100000 := by
        unfold restD
        rw [List.length_map]
        omega
      refine ⟨_, rfl, D, _, _, "ask", rfl, by decide +kernel, e7, rr, rdl, few1, fun as fas aa H8 n8 s8 e8 => ?_⟩
      have m8 : H8 m = some (.ins C dx f4) := s8 _ _ (s57 _ _ m4)
      refine ⟨_, rfl, m, C, dx, _, rfl, m8, TM.cl, TM.n_asks, Nat.lt_of_le_of_lt L4 (by decide), ?_⟩
      have L5 := putF_len (f := "asks") (v := .ref aa) L4
      have am : aa ≠ m := fun z => by
        rw [z, s57 _ _ m4] at n8
        cases n8
      have naa : H aa = none := SameX.off (fun b o n e => s57 _ _ (x4 _ _ n e)) n8 am
      have x9 : SameX m H5 (upd H8 m (.ins C dx (putF "asks" (.ref aa) f4))) := SameX.upd fun b o _ e => s8 _ _ (s57 _ _ e)
      have x79 : SameX m H7 (upd H8 m (.ins C dx (putF "asks" (.ref aa) f4))) := SameX.upd fun b o _ e => s8 _ _ e
      have m9 : upd H8 m (.ins C dx (putF "asks" (.ref aa) f4)) m = some (.ins C dx (putF "asks" (.ref aa) f4)) := upd_same
      have e9 : upd H8 m (.ins C dx (putF "asks" (.ref aa) f4)) aa = some (.lst (as.map V.str)) := by
        rw [upd_ne am]
        exact e8
      have p5 : (putF ("asks" : Str) (.ref aa) f4).lookup ("asks" : Str) = some (.ref aa) := by rw [lookup_putF, if_pos rfl]
      have p1 : (putF ("asks" : Str) (.ref aa) f4).lookup ("counts" : Str) = some (.ref t) := by rw [lookup_putF, if_neg (by decide +kernel)]; exact q1'
      have p2 : (putF ("asks" : Str) (.ref aa) f4).lookup ("lines" : Str) = some (.ref l) := by rw [lookup_putF, if_neg (by decide +kernel)]; exact q2'
      have p3 : (putF ("asks" : Str) (.ref aa) f4).lookup ("begin" : Str) = some (.int b) := by rw [lookup_putF, if_neg (by decide +kernel)]; exact q3'
      have p4 : (putF ("asks" : Str) (.ref aa) f4).lookup ("stops" : Str) = some (.ref sa) := by rw [lookup_putF, if_neg (by decide +kernel)]; exact q4
      have m7 : H7 m = some (.ins C dx f4) := s57 _ _ m4
      generalize (upd H8 m (.ins C dx (putF "asks" (.ref aa) f4))) = H9 at x9 x79 m9 e9 ⊢
      generalize putF ("asks" : Str) (.ref aa) f4 = f5 at m9 L5 p1 p2 p3 p4 p5
      have d9 : H9 D = some (.lst (restV rs b xs)) := x79.at m7 e7 (fun z => nomatch z)
      have rr9 : Rows H9 (restV rs b xs) (restD rs b) := x79.rows m7 rr
      refine ⟨_, rfl, D, _, _, "end", rfl, by decide +kernel, d9, rr9, rdl, few2, fun es fes ea H10 n10 s10 e10 => ?_⟩
      refine ⟨_, rfl, m, C, dx, _, rfl, s10 _ _ m9, TM.cl, TM.n_endings, Nat.lt_of_le_of_lt L5 (by decide), ?_⟩
      have L6 := putF_len (f := "endings") (v := .ref ea) L5
      have em : ea ≠ m := fun z => by
        rw [z, m9] at n10
        cases n10
      have nea : H ea = none := SameX.off (fun b o n e => x9 _ _ n (x4 _ _ n e)) n10 em
      have x11 : SameX m H9 (upd H10 m (.ins C dx (putF "endings" (.ref ea) f5))) := SameX.upd fun b o _ e => s10 _ _ e
      have m11 : upd H10 m (.ins C dx (putF "endings" (.ref ea) f5)) m = some (.ins C dx (putF "endings" (.ref ea) f5)) := upd_same
      have e11 : upd H10 m (.ins C dx (putF "endings" (.ref ea) f5)) ea = some (.lst (es.map V.str)) := by
        rw [upd_ne em]
        exact e10
      have r6 : (putF ("endings" : Str) (.ref ea) f5).lookup ("endings" : Str) = some (.ref ea) := by rw [lookup_putF, if_pos rfl]
      have r1 : (putF ("endings" : Str) (.ref ea) f5).lookup ("counts" : Str) = some (.ref t) := by rw [lookup_putF, if_neg (by decide +kernel)]; exact p1
      have r2 : (putF ("endings" : Str) (.ref ea) f5).lookup ("lines" : Str) = some (.ref l) := by rw [lookup_putF, if_neg (by decide +kernel)]; exact p2
      have r3 : (putF ("endings" : Str) (.ref ea) f5).lookup ("begin" : Str) = some (.int b) := by rw [lookup_putF, if_neg (by decide +kernel)]; exact p3
      have r4 : (putF ("endings" : Str) (.ref ea) f5).lookup ("stops" : Str) = some (.ref sa) := by rw [lookup_putF, if_neg (by decide +kernel)]; exact p4
      have r5 : (putF ("endings" : Str) (.ref ea) f5).lookup ("asks" : Str) = some (.ref aa) := by rw [lookup_putF, if_neg (by decide +kernel)]; exact p5
      generalize (upd H10 m (.ins C dx (putF "endings" (.ref ea) f5))) = H11 at x11 m11 e11 ⊢
      generalize putF ("endings" : Str) (.ref ea) f5 = f6 at m11 L6 r1 r2 r3 r4 r5 r6
      have d11 : H11 D = some (.lst (restV rs b xs)) := x11.at m9 d9 (fun z => nomatch z)
      have rr11 : Rows H11 (restV rs b xs) (restD rs b) := x11.rows m9 rr9
      have rdv : (restD rs b).length = (restV rs b xs).length := rr11.1.symm
      refine ⟨_, rfl, D, rfl, ⟨_, SqL.of d11⟩, fun G nG => lc_pure (ys := (restD rs b).map fun d => .str (wordOf d)) d11 nG (by rw [List.length_map, rdv]) (by rw [← rdv]; omega) (fun _ => rfl) (fun j x y Ha Qe hx hy sa11 qe => ?_) (fun H12 s12 e12 => ?_)⟩
      · have hj : j < (restD rs b).length := by
          have := (List.getElem?_eq_some_iff.mp hx).1
          omega
        obtain ⟨z, zs, d, ed, hx2, row, hz⟩ := rr11.at hj
        rw [hx2] at hx
        cases hx
        rw [List.getElem?_map, ed] at hy
        cases hy
        exact ⟨_, rfl, _, _, _, _, rfl, rfl, .inl (.inl (sa11 _ _ hz)), at0', qe⟩
      · refine ⟨G, _, rfl, .inl (SqL.of e12), rfl, ?_, ?_⟩
        · rw [List.all_map]
          exact List.all_eq_true.mpr fun _ _ => rfl
        · refine ⟨_, rfl, m, C, dx, _, rfl, s12 _ _ m11, TM.cl, TM.n_endless, Nat.lt_of_le_of_lt L6 (by decide), ?_⟩
          have x12 : SameX m H11 (upd H12 m (.ins C dx (putF "endless" (.bl (endlessD rs b)) f6))) := SameX.upd fun b o _ e => s12 _ _ e
          refine k (putF "endless" (.bl (endlessD rs b)) f6) (upd H12 m (.ins C dx (putF "endless" (.bl (endlessD rs b)) f6))) sa aa ea as es nsa naa nea (fun b o n e => x12 _ _ n (x11 _ _ n (x9 _ _ n (x4 _ _ n e)))) upd_same ⟨?_, ?_, ?_, ?_, ?_, ?_, ?_, x12 _ _ sm (x11 _ _ sm (x9 _ _ sm e5)), x12 _ _ am (x11 _ _ am e9), x12 _ _ em e11, fas, fes⟩
          · rw [lookup_putF, if_neg (by decide +kernel)]
            exact r1
          · rw [lookup_putF, if_neg (by decide +kernel)]
            exact r2
          · rw [lookup_putF, if_neg (by decide +kernel)]
            exact r3
          · rw [lookup_putF, if_neg (by decide +kernel)]
            exact r4
          · rw [lookup_putF, if_neg (by decide +kernel)]
            exact r5
          · rw [lookup_putF, if_neg (by decide +kernel)]
            exact r6
          · rw [lookup_putF, if_pos rfl]
end
end Mine

set_option maxRecDepth 100000
set_option maxHeartbeats 4000000
namespace Mine
open PySem L2
abbrev s_lines_read : Stmt := top 36
theorem ps_no {X : Cx} {st : Stmt} : PS X st (fun _ _ _ => False) := ⟨fun _ _ _ _ _ _ h => h.elim⟩
/-- the rows stand there, in lists or tuples -/
def RowsIn (H : Hp) (xs : List V) (rs : List RowD) : Prop := xs.length = rs.length ∧ ∀ (i : Nat) (d : RowD), rs[i]? = some d → ∃ x, xs[i]? = some x ∧ RowAt H x d
def OkRows (o : Ops) (rs : List RowD) : Prop := ∀ (i : Nat) (d : RowD), rs[i]? = some d → OkRow o rs.length d
theorem OkRows.fit {o : Ops} {rs : List RowD} (h : OkRows o rs) : Fit rs := fun i d e n hn => by
  have := h i d e
  cases d with
  | ask op ns => exact this.2.2 n hn
  | go k =>
    rw [List.mem_singleton.mp hn]
    exact this
  | fin w => exact nomatch hn
def spRead : Sp := fun vs H Q _ => ∃ (r d : Addr) (xs : List V) (rs : List RowD) (o : Ops), vs = [.ref r, .ref d] ∧ SqA H r xs ∧ RowsIn H xs rs ∧ Rd H d (.dK (opsK o)) ∧ 1 ≤ rs.length ∧ rs.length ≤ 400 ∧ OkRows o rs ∧
  ∀ (p : Addr) (ys : List V) (H' : Hp), H p = none → Same H H' → H' p = some (.lst ys) → Rows H' ys rs → Q (.ref p) H'
theorem TRow.other {H : Hp} {D : Addr} {ys : List V} {o : HO} {v : V} {d : RowD} (h : TRow H v d) (e : H D = some (.lst ys)) : TRow (upd H D o) v d := by
  have ne : ∀ {a : Addr} {zs : List V}, H a = some (.tup zs) → upd H D o a = some (.tup zs) := fun {a zs} h1 => by
    rw [upd_ne (fun z => by rw [z, e] at h1; cases h1)]
    exact h1
  cases d with
  | ask op ns =>
    obtain ⟨a, t, e, h1, h2⟩ := h
    exact ⟨a, t, e, ne h1, ne h2⟩
  | go n =>
    obtain ⟨a, e, h1⟩ := h
    exact ⟨a, e, ne h1⟩
  | fin w =>
    obtain ⟨a, e, h1⟩ := h
    exact ⟨a, e, ne h1⟩
/-- the first kk rows stand in the new list -/
structure Grown (Hn : Hp) (D : Addr) (rs : List RowD) (kk : Nat) (Hx : Hp) : Prop where
  same : Same Hn Hx
  at_ : ∃ ys : List V, ys.length = kk ∧ Hx D = some (.lst ys) ∧ ∀ (j : Nat) (dj : RowD), j < kk → rs[j]? = some dj → ∃ y, ys[j]? = some y ∧ TRow Hx y dj
section
variable {P : Program} {w : World} {K : PySem.W.Frag} {mg : Str → Option Value} {base : Heap}
variable {fII fIW a_is_row a_is_index a_is_name a_is_text_in a_are_counts a_word_of a_are_nexts a_is_line a_line_of a_are_operations : Addr}
theorem sc_lines_read : FnScope ["rows", "counts", "index", "row"] ["rows", "counts"] (defScope s_lines_read) := ⟨rfl, rfl, rfl, by decide +kernel, rfl, by decide +kernel, by decide +kernel⟩
theorem ok_lines_read {f : Addr} {fd fd_is_row fd_is_line fd_line_of : FuncData} (F : Fun K "lines_read" "lines_read" s_lines_read f fd) (T : TxtF K mg fII fIW) (TG : TxtG K mg a_is_row a_is_index a_is_name a_is_text_in a_are_counts a_word_of a_are_nexts a_is_line a_line_of a_are_operations)
    (h_enum : mg "enumerate" = none) {tm : Tok} (h_most : mg "MOST_ROWS" = some (.int 400 tm))
    (GRw : FnOk P w K mg base CX0 1 a_is_row fd_is_row ["thing"] (spIsRow K)) (b_is_row : Binds K fd_is_row ["thing"] [])
    (GL : FnOk P w K mg base CX0 5 a_is_line fd_is_line ["row", "counts", "many"] spIsLine) (b_is_line : Binds K fd_is_line ["row", "counts", "many"] [])
    (GLo : FnOk P w K mg base CX0 1 a_line_of fd_line_of ["row"] spLineOf) (b_line_of : Binds K fd_line_of ["row"] []) : FnOk P w K mg base CX0 6 f fd ["rows", "counts"] spRead := by
  refine F.ok sc_lines_read (fun vs H Q E h => ?_) (fun cdv A outer s H vs Q E hr h => ?_)
  · obtain ⟨r, d, xs, rs, o, rfl, _⟩ := h
    rfl
  · obtain ⟨r, d, xs, rs, o, rfl, hx, rows, hd, lo, hi, ok, k⟩ := h
    refine ⟨_, (pss_cons (ps_if (PW.pt (pw_or (pt_not (pt_val (pe_call GRw (hr.mono (by decide)) (by rfl) TG.g_is_row TG.k_is_row b_is_row .nil pass0 (pa_cons (pv 0) pa_nil)))) (pw_or1 (pt_not (pt_chain op_le op_le pe_int (pe_callB call_len_seq (by rfl) T.b_len PySem.boot_len (pa_cons (pv 0) pa_nil)) (pe_glob (v := .int 400) rfl h_most ⟨_, rfl⟩)))))) (pss_one ps_no) pss_nil)
      (pss_cons (ps_for PassesOwn.never rfl (pi_or (pi_enum (by rfl) h_enum (pa_cons (pv 0) pa_nil)) (pi_enumT (by rfl) h_enum (pa_cons (pv 0) pa_nil))) (pg_tup rfl (pgs_cons (pg_name (i := 2) sc_lines_read.nd rfl (Or.inl rfl)) (pgs_cons (pg_name (i := 3) sc_lines_read.nd rfl (Or.inl rfl)) pgs_nil)))
        (pss_one (ps_if (pt_not (pt_val (pe_call GL (hr.mono (by decide)) (by rfl) TG.g_is_line TG.k_is_line b_is_line .nil pass0 (pa_cons (pv 3) (pa_cons (pv 1) (pa_cons (pe_callB call_len_seq (by rfl) T.b_len PySem.boot_len (pa_cons (pv 0) pa_nil)) pa_nil)))))) (pss_one ps_no) pss_nil)))
      (pss_one (ps_ret (pe_lc (own := [("row", 3)]) (g := gName 3) (tt := tYes) (wi := iSeq K (tVar 0)) rfl sc_lines_read.nd (pi_seq (pv 0)) (blkOk_by (own := [("row", 3)]) (N := ["rows", "counts", "index", "row"]) (sc := defScope s_lines_read) (by decide +kernel)) (fun _ _ _ _ _ => pg_name (i := 3) sc_lines_read.nd rfl (Or.inl rfl)) (fun _ _ _ _ _ => pts_nil) (fun _ _ _ _ _ => (pe_call GLo (hr.mono (by decide)) (by rfl) TG.g_line_of TG.k_line_of b_line_of .nil pass0 (pa_cons (pv 3) pa_nil)))))))), ?_⟩
    obtain ⟨ty, b, e⟩ := btSeq (K := K) hx
    refine ⟨_, rfl, _, ty, rfl, b, fun H1 s1 => ⟨_, rfl, ?_⟩⟩
    rw [e]
    refine iteF ?_
    have hx1 := s1.sqa hx
    have len : (xs.length : Int) = rs.length := by rw [rows.1]
    refine ⟨_, rfl, r, _, rfl, hx1.sq, _, _, rfl, rfl, _, rfl, ?_⟩
    rw [len, decide_eq_true (show (1 : Int) ≤ (rs.length : Int) by omega)]
    refine iteT ?_
    refine ⟨_, _, rfl, rfl, _, rfl, ?_⟩
    rw [decide_eq_true (show (rs.length : Int) ≤ 400 by omega)]
    refine iteF ?_
    have body : ∀ (i : Nat) (x : V) (Ha : Hp), xs[i]? = some x → Same H1 Ha → ∃ dd : RowD, RowAt Ha x dd ∧ OkRow o (rs.length : Int) dd ∧ rs[i]? = some dd := fun i x Ha hxi sa => by
      have hi2 : i < rs.length := by
        have := (List.getElem?_eq_some_iff.mp hxi).1
        have := rows.1
        omega
      obtain ⟨x2, h1, h2⟩ := rows.2 i _ (List.getElem?_eq_getElem hi2)
      rw [hxi] at h1
      cases h1
      exact ⟨_, h2.same (s1.trans sa), ok i _ (List.getElem?_eq_getElem hi2), List.getElem?_eq_getElem hi2⟩
    have elem : ∀ (Hn Ha : Hp) (D : Addr) (kk : Nat) (x : V), Same H1 Hn → Hn D = none → xs[kk]? = some x → Grown Hn D rs kk Ha → ∃ dd : RowD, RowAt Ha x dd ∧ ∀ (v' : V) (H' : Hp), Same Ha H' → TRow H' v' dd → ∃ acc, H' D = some (.lst acc) ∧ acc.length < sizeLine ∧ Grown Hn D rs (kk + 1) (upd H' D (.lst (acc ++ [v']))) := fun Hn Ha D kk x sn nD hxk gr => by
      obtain ⟨dd, b1, _, b3⟩ := body kk x Ha hxk (sn.trans gr.same)
      refine ⟨dd, b1, fun v' H' sa tr => ?_⟩
      obtain ⟨sx, ys, yl, ye, ya⟩ := gr
      have hk : kk < rs.length := (List.getElem?_eq_some_iff.mp b3).1
      have eD := sa _ _ ye
      refine ⟨ys, eD, by rw [yl, sizeLine_eq]; omega, ⟨same_updN (sx.trans sa) nD, ys ++ [v'], by rw [List.length_append, yl]; rfl, upd_same, fun j dj hj ej => ?_⟩⟩
      by_cases z : j < kk
      · obtain ⟨y, h1, h2⟩ := ya j dj z ej
        exact ⟨y, by rw [List.getElem?_append_left (by omega)]; exact h1, (h2.same sa).other eD⟩
      · have zj : j = kk := by omega
        subst zj
        rw [b3] at ej
        cases ej
        exact ⟨v', by rw [List.getElem?_append_right (by omega), yl, Nat.sub_self]; rfl, tr.other eD⟩
    have fin : ∀ (Hn Hx : Hp) (D : Addr), Same H1 Hn → Hn D = none → Grown Hn D rs xs.length Hx → Q (.ref D) Hx := fun Hn Hx D sn nD gr => by
      obtain ⟨sx, ys, yl, ye, ya⟩ := gr
      rw [rows.1] at yl ya
      exact k D ys Hx (none_of (s1.trans sn) nD) (s1.trans (sn.trans sx)) ye ⟨yl, fun i dd e => ya i dd (List.getElem?_eq_some_iff.mp e).1 e⟩
    rcases hx1 with hx1 | hx1
    · refine .inl ⟨_, rfl, r, xs, rfl, SqL.of hx1, for_enumL (K := K) (a := r) (xs := xs) (fun i σ H' => ∃ v2 v3 : Option V, σ = [some (.ref r), some (.ref d), v2, v3] ∧ Same H1 H') ⟨_, _, rfl, Same.refl _⟩ (fun i σ H' _ z => by obtain ⟨_, _, _, s⟩ := z; exact SqL.of (s _ _ hx1)) ?_ ?_⟩
      · rintro i x σ Ha T Hb hxi ⟨v2, v3, rfl, sa⟩ nT sT eT
        obtain ⟨dd, b1, b2, _⟩ := body i x Hb hxi (sa.trans sT)
        refine ⟨T, _, rfl, .inl (.inl eT), rfl, _, _, rfl, _, _, rfl, rfl, ?_⟩
        refine ⟨_, rfl, _, rfl, _, rfl, r, _, rfl, .inl (SqL.of ((sa.trans sT) _ _ hx1)), ?_⟩
        rw [len]
        refine ⟨x, d, o, _, dd, rfl, b1, Rd.same (s1.trans (sa.trans sT)) hd, b2, fun Hc sc => ⟨_, rfl, ?_⟩⟩
        refine iteF ?_
        exact ⟨_, _, rfl, (sa.trans sT).trans sc⟩
      · rintro σ Hn ⟨v2, v3, rfl, sn⟩
        refine .inl ⟨_, rfl, r, rfl, ⟨_, SqL.of (sn _ _ hx1)⟩, fun D nD => lc_it (walk_list (xs := xs)) (fun kk Hx => Grown Hn D rs kk Hx) ⟨sameNew nD _, [], rfl, upd_same, fun j _ hj => absurd hj (Nat.not_lt_zero j)⟩ (fun kk Hx _ z => SqL.of (z.same _ _ (sn _ _ hx1))) (fun kk x Ha Hb hk z1 z2 => ?_) fun Hx z => fin Hn Hx D sn nD z⟩
        obtain ⟨rfl, hxk⟩ := z2
        obtain ⟨dd, b1, q⟩ := elem Hn _ D kk x sn nD hxk z1
        exact ⟨rfl, _, rfl, x, dd, rfl, b1, q⟩
    · refine .inr ⟨_, rfl, r, xs, rfl, .inl (.inl hx1), for_enumT (K := K) (a := r) (xs := xs) (fun i σ H' => ∃ v2 v3 : Option V, σ = [some (.ref r), some (.ref d), v2, v3] ∧ Same H1 H') ⟨_, _, rfl, Same.refl _⟩ (fun i σ H' _ z => by obtain ⟨_, _, _, s⟩ := z; exact .inl (.inl (s _ _ hx1))) ?_ ?_⟩
      · rintro i x σ Ha T Hb hxi ⟨v2, v3, rfl, sa⟩ nT sT eT
        obtain ⟨dd, b1, b2, _⟩ := body i x Hb hxi (sa.trans sT)
        refine ⟨T, _, rfl, .inl (.inl eT), rfl, _, _, rfl, _, _, rfl, rfl, ?_⟩
        refine ⟨_, rfl, _, rfl, _, rfl, r, _, rfl, .inr (.inl (.inl ((sa.trans sT) _ _ hx1))), ?_⟩
        rw [len]
        refine ⟨x, d, o, _, dd, rfl, b1, Rd.same (s1.trans (sa.trans sT)) hd, b2, fun Hc sc => ⟨_, rfl, ?_⟩⟩
        refine iteF ?_
        exact ⟨_, _, rfl, (sa.trans sT).trans sc⟩
      · rintro σ Hn ⟨v2, v3, rfl, sn⟩
        refine .inr ⟨_, rfl, r, rfl, ⟨_, .inl (.inl (sn _ _ hx1))⟩, fun D nD => lc_it (walk_tup (xs := xs)) (fun kk Hx => Grown Hn D rs kk Hx) ⟨sameNew nD _, [], rfl, upd_same, fun j _ hj => absurd hj (Nat.not_lt_zero j)⟩ (fun kk Hx _ z => .inl (.inl (z.same _ _ (sn _ _ hx1)))) (fun kk x Ha Hb hk z1 z2 => ?_) fun Hx z => fin Hn Hx D sn nD z⟩
        obtain ⟨rfl, hxk⟩ := z2
        obtain ⟨dd, b1, q⟩ := elem Hn _ D kk x sn nD hxk z1
        exact ⟨rfl, _, rfl, x, dd, rfl, b1, q⟩
end
end Mine

set_option maxRecDepth 100000
set_option maxHeartbeats 4000000
namespace Mine
open PySem L2
abbrev s_body : Stmt := inClass (top 35) 0
theorem MachFs.x {m : Addr} {H H' : Hp} {C dx : Addr} {fx : List (Str × V)} {fs : List (Str × V)} {t l : Addr} {b : Nat} {rs : List RowD} {sa aa ea : Addr} {as es : List Str} (x : SameX m H H') (hm : H m = some (.ins C dx fx)) (f : MachFs H fs t l b rs sa aa ea as es) : MachFs H' fs t l b rs sa aa ea as es :=
  ⟨f.counts, f.lines, f.begin, f.stops, f.asks, f.endings, f.endless, x.at hm f.hs (fun z => nomatch z), x.at hm f.ha (fun z => nomatch z), x.at hm f.he (fun z => nomatch z), f.fa, f.fe⟩
theorem MachFs.same {H H' : Hp} {fs : List (Str × V)} {t l : Addr} {b : Nat} {rs : List RowD} {sa aa ea : Addr} {as es : List Str} (s : Same H H') (f : MachFs H fs t l b rs sa aa ea as es) : MachFs H' fs t l b rs sa aa ea as es :=
  ⟨f.counts, f.lines, f.begin, f.stops, f.asks, f.endings, f.endless, s _ _ f.hs, s _ _ f.ha, s _ _ f.he, f.fa, f.fe⟩
/-- a body stands there -/
structure BodyP (CB CM : Addr) (H : Hp) (bd : Addr) (o : Ops) (rs : List RowD) (b : Nat) (m t l sa aa ea : Addr) (o' : Ops) (xs : List V) (as es : List Str) : Prop where
  hb : ∃ dx fb, H bd = some (.ins CB dx fb) ∧ fb.lookup ("machine" : Str) = some (.ref m)
  hm : ∃ dm fm, H m = some (.ins CM dm fm) ∧ MachFs H fm t l b rs sa aa ea as es
  ht : H t = some (.dK (opsK o'))
  ord : Ordered o o'
  hl : H l = some (.lst xs)
  rows : Rows H xs rs
  lt : b < rs.length
  own : ∃ dx, H bd = some (.ins CB dx [("machine", .ref m)])
def BodyAt (CB CM : Addr) (H : Hp) (bd : Addr) (o : Ops) (rs : List RowD) (b : Nat) : Prop := ∃ m t l sa aa ea o' xs as es, BodyP CB CM H bd o rs b m t l sa aa ea o' xs as es
/-- a new body: its parts are new, but for the rows' tuples -/
def BodyN (CB CM : Addr) (H0 H : Hp) (bd : Addr) (o : Ops) (rs : List RowD) (b : Nat) : Prop := ∃ m t l sa aa ea o' xs as es, BodyP CB CM H bd o rs b m t l sa aa ea o' xs as es ∧ H0 m = none ∧ H0 t = none ∧ H0 l = none ∧ H0 sa = none ∧ H0 aa = none ∧ H0 ea = none
theorem BodyN.at {CB CM : Addr} {H0 H : Hp} {bd : Addr} {o : Ops} {rs : List RowD} {b : Nat} (h : BodyN CB CM H0 H bd o rs b) : BodyAt CB CM H bd o rs b := by
  obtain ⟨m, t, l, sa, aa, ea, o', xs, as, es, h, _⟩ := h
  exact ⟨m, t, l, sa, aa, ea, o', xs, as, es, h⟩
/-- what is new, or a tuple, stays: then the body stays -/
theorem BodyN.off {CB CM : Addr} {H0 H H' : Hp} {bd : Addr} {o : Ops} {rs : List RowD} {b : Nat} (h : BodyN CB CM H0 H bd o rs b) (nb : H0 bd = none) (k : ∀ a u, H a = some u → (H0 a = none ∨ ∃ zs, u = .tup zs) → H' a = some u) : BodyAt CB CM H' bd o rs b := by
  obtain ⟨m, t, l, sa, aa, ea, o', xs, as, es, ⟨⟨dx, fb, h1, h2⟩, ⟨dm, fm, h3, h4⟩, h5, h6, h7, h8, h9, dw, hw⟩, n1, n2, n3, n4, n5, n6⟩ := h
  have ku : ∀ {q : Addr} {us : List V}, H q = some (.tup us) → H' q = some (.tup us) := fun e => k _ _ e (.inr ⟨_, rfl⟩)
  refine ⟨m, t, l, sa, aa, ea, o', xs, as, es, ⟨dx, fb, k _ _ h1 (.inl nb), h2⟩, ⟨dm, fm, k _ _ h3 (.inl n1), ⟨h4.counts, h4.lines, h4.begin, h4.stops, h4.asks, h4.endings, h4.endless, k _ _ h4.hs (.inl n4), k _ _ h4.ha (.inl n5), k _ _ h4.he (.inl n6), h4.fa, h4.fe⟩⟩, k _ _ h5 (.inl n2), h6, k _ _ h7 (.inl n3), ⟨h8.1, fun i d e => ?_⟩, h9, dw, k _ _ hw (.inl nb)⟩
  obtain ⟨x, x1, x2⟩ := h8.2 i d e
  refine ⟨x, x1, ?_⟩
  cases d with
  | ask op ns =>
    obtain ⟨q, t', e1, k1, k2⟩ := x2
    exact ⟨q, t', e1, ku k1, ku k2⟩
  | go n =>
    obtain ⟨q, e1, k1⟩ := x2
    exact ⟨q, e1, ku k1⟩
  | fin n =>
    obtain ⟨q, e1, k1⟩ := x2
    exact ⟨q, e1, ku k1⟩
theorem BodyP.same {CB CM : Addr} {H H' : Hp} {bd : Addr} {o : Ops} {rs : List RowD} {b : Nat} {m t l sa aa ea : Addr} {o' : Ops} {xs : List V} {as es : List Str} (s : Same H H') (h : BodyP CB CM H bd o rs b m t l sa aa ea o' xs as es) : BodyP CB CM H' bd o rs b m t l sa aa ea o' xs as es := by
  obtain ⟨⟨dx, fb, h1, h2⟩, ⟨dm, fm, h3, h4⟩, h5, h6, h7, h8, h9, dw, hw⟩ := h
  exact ⟨⟨dx, fb, s _ _ h1, h2⟩, ⟨dm, fm, s _ _ h3, h4.same s⟩, s _ _ h5, h6, s _ _ h7, h8.same s, h9, dw, s _ _ hw⟩
theorem BodyAt.same {CB CM : Addr} {H H' : Hp} {bd : Addr} {o : Ops} {rs : List RowD} {b : Nat} (s : Same H H') (h : BodyAt CB CM H bd o rs b) : BodyAt CB CM H' bd o rs b := by
  obtain ⟨m, t, l, sa, aa, ea, o', xs, as, es, h⟩ := h
  exact ⟨m, t, l, sa, aa, ea, o', xs, as, es, h.same s⟩
theorem RowsIn.same {H H' : Hp} {xs : List V} {rs : List RowD} (s : Same H H') (h : RowsIn H xs rs) : RowsIn H' xs rs := ⟨h.1, fun i d e => by
  obtain ⟨x, h1, h2⟩ := h.2 i d e
  exact ⟨x, h1, h2.same s⟩⟩
def spBody (CB CM : Addr) : Sp := fun vs H Q _ => ∃ (bd d r dx : Addr) (xs : List V) (rs : List RowD) (o : Ops) (b : Nat), vs = [.ref bd, .ref d, .ref r, .int b] ∧ H bd = some (.ins CB dx []) ∧ H d = some (.dK (opsK o)) ∧ OkOps o ∧ SqA H r xs ∧ RowsIn H xs rs ∧ 1 ≤ rs.length ∧ rs.length ≤ 400 ∧ OkRows o rs ∧ b < rs.length ∧
  (distinct "ask" (restD rs b)).length < 64 ∧ (distinct "end" (restD rs b)).length < 64 ∧ ∀ H', SameX bd H H' → BodyN CB CM H H' bd o rs b → Q .non H'
structure BodyC (K : PySem.W.Frag) (C : Addr) : Prop where
  cl : Cls K C
  n_machine : NoAttr K C "machine"
section
variable {P : Program} {w : World} {K : PySem.W.Frag} {mg : Str → Option Value} {base : Heap}
variable {fII fIW a_is_row a_is_index a_is_name a_is_text_in a_are_counts a_word_of a_are_nexts a_is_line a_line_of a_are_operations a_lines_read a_in_order f_mach CB CM : Addr}
theorem sc_body : FnScope ["self", "operations", "rows", "start", "lines"] ["self", "operations", "rows", "start"] (defScope s_body) := ⟨rfl, rfl, rfl, by decide +kernel, rfl, by decide +kernel, by decide +kernel⟩
theorem ok_body {f : Addr} {fd fd_are_operations fd_lines_read fd_is_index fd_in_order fd_mach : FuncData} (F : Fun K "__init__" "Body.__init__" s_body f fd) (T : TxtF K mg fII fIW) (TG : TxtG K mg a_is_row a_is_index a_is_name a_is_text_in a_are_counts a_word_of a_are_nexts a_is_line a_line_of a_are_operations) (TB : BodyC K CB)
    (GO : FnOk P w K mg base CX0 4 a_are_operations fd_are_operations ["thing"] spOps) (b_are_operations : Binds K fd_are_operations ["thing"] [])
    (GLR : FnOk P w K mg base CX0 6 a_lines_read fd_lines_read ["rows", "counts"] spRead) (b_lines_read : Binds K fd_lines_read ["rows", "counts"] []) (g_lines_read : mg "lines_read" = some (.ref a_lines_read)) (k_lines_read : PySem.W.keepIn K (.ref a_lines_read) = true)
    (GIx : FnOk P w K mg base CX0 3 a_is_index fd_is_index ["thing", "many"] (spIndex K)) (b_is_index : Binds K fd_is_index ["thing", "many"] [])
    (GIO : FnOk P w K mg base CX0 1 a_in_order fd_in_order ["table"] spOrder) (b_in_order : Binds K fd_in_order ["table"] []) (g_in_order : mg "in_order" = some (.ref a_in_order)) (k_in_order : PySem.W.keepIn K (.ref a_in_order) = true)
    (MM : Mk K CM f_mach) (GM : FnOk P w K mg base CX0 3 f_mach fd_mach ["self", "counts", "lines", "begin"] (spMach CM)) (b_Machine : Binds K fd_mach ["self", "counts", "lines", "begin"] []) (g_Machine : mg "Machine" = some (.ref CM)) : FnOk P w K mg base CX0 7 f fd ["self", "operations", "rows", "start"] (spBody CB CM) := by
  refine F.ok sc_body (fun vs H Q E h => ?_) (fun cdv A outer s H vs Q E hr h => ?_)
  · obtain ⟨bd, d, r, dx, xs, rs, o, b, rfl, _⟩ := h
    rfl
  · obtain ⟨bd, d, r, dx, xs, rs, o, b, rfl, hbd, hd, oko, hx, rows, lo, hi, ok, hb, few1, few2, k⟩ := h
    refine ⟨_, (pss_cons (ps_if (pt_not (pt_val (pe_call GO (hr.mono (by decide)) (by rfl) TG.g_are_operations TG.k_are_operations b_are_operations .nil pass0 (pa_cons (pv 1) pa_nil)))) (pss_one ps_no) pss_nil)
      (pss_cons (ps_set (i := 4) sc_body.nd rfl (Or.inl rfl) (pe_call GLR (hr.mono (by decide)) (by rfl) g_lines_read k_lines_read b_lines_read .nil pass0 (pa_cons (pv 2) (pa_cons (pv 1) pa_nil))))
      (pss_cons (ps_if (pt_not (pt_val (pe_call GIx (hr.mono (by decide)) (by rfl) TG.g_is_index TG.k_is_index b_is_index .nil pass0 (pa_cons (pv 3) (pa_cons (pe_callB call_len_seq (by rfl) T.b_len PySem.boot_len (pa_cons (pv 4) pa_nil)) pa_nil))))) (pss_one ps_no) pss_nil)
      (pss_one (ps_fld (pv 0) (pe_make MM GM (hr.mono (by decide)) (by rfl) g_Machine b_Machine .nil pass0 (pa_cons (pe_call GIO (hr.mono (by decide)) (by rfl) g_in_order k_in_order b_in_order .nil pass0 (pa_cons (pv 1) pa_nil)) (pa_cons (pv 4) (pa_cons (pv 3) pa_nil)))) rfl))))), ?_⟩
    refine ⟨_, rfl, d, o, rfl, hd, oko, fun H1 s1 => ⟨_, rfl, ?_⟩⟩
    refine iteF ?_
    refine ⟨_, rfl, _, rfl, r, d, xs, rs, o, rfl, s1.sqa hx, rows.same s1, .inl (s1 _ _ hd), lo, hi, ok, fun l ys H2 n2 s2 e2 rr => ?_⟩
    refine ⟨_, rfl, _, rfl, l, _, rfl, .inl (SqL.of e2), .int b, "int", _, rfl, btInt _, _, rfl, ?_⟩
    rw [inW_int (show (0 : Int) ≤ b by omega) (by rw [rr.1]; omega)]
    refine iteF ?_
    refine ⟨_, rfl, d, o, rfl, .inl (s2 _ _ (s1 _ _ hd)), oko.nd, by have := oko.few; omega, fun o' ord t H3 n3 s3 e3 => ?_⟩
    refine ⟨_, rfl, _, rfl, fun m dm nm ndm ne => ?_⟩
    have sm : Same H3 (upd (upd H3 dm (.own m)) m (.ins CM dm [])) := same_updN (same_updN (Same.refl _) ndm) nm
    refine ⟨m, t, l, dm, ys, rs, b, rfl, upd_same, sm _ _ (s3 _ _ e2), rr.same (s3.trans sm), ok.fit, hb, by omega, few1, few2, fun fs H5 sa aa ea as es nsa naa nea x5 m5 mf => ⟨rfl, ?_⟩⟩
    have hbd3 : H3 bd = some (.ins CB dx []) := s3 _ _ (s2 _ _ (s1 _ _ hbd))
    have nbm : bd ≠ m := ne_of_none hbd3 nm
    have hbd5 : H5 bd = some (.ins CB dx []) := x5 bd _ nbm (sm _ _ hbd3)
    refine ⟨_, rfl, bd, CB, dx, _, rfl, hbd5, TB.cl, TB.n_machine, by decide, ?_⟩
    have x6 : SameX bd H5 (upd H5 bd (.ins CB dx (putF "machine" (.ref m) []))) := SameX.upd fun _ _ _ e => e
    have up : ∀ {b2 : Addr} {u : HO}, b2 ≠ bd → H b2 = some u → upd H5 bd (.ins CB dx (putF "machine" (.ref m) [])) b2 = some u := fun {b2 u} nb e => by
      have e3' : H3 b2 = some u := s3 _ _ (s2 _ _ (s1 _ _ e))
      exact x6 b2 u nb (x5 b2 u (ne_of_none e3' nm) (sm _ _ e3'))
    have up3 : ∀ {b2 : Addr} {u : HO}, H3 b2 = some u → b2 ≠ bd → upd H5 bd (.ins CB dx (putF "machine" (.ref m) [])) b2 = some u := fun {b2 u} e nb => x6 b2 u nb (x5 b2 u (ne_of_none e nm) (sm _ _ e))
    have rows6 : Rows (upd H5 bd (.ins CB dx (putF "machine" (.ref m) []))) ys rs := SameX.rows x6 hbd5 (SameX.rows x5 upd_same (rr.same (s3.trans sm)))
    have s12 : Same H H2 := s1.trans s2
    have s13 : Same H H3 := s12.trans s3
    refine k _ (fun b2 u nb e => up nb e) ⟨m, t, l, sa, aa, ea, o', ys, as, es, ⟨⟨dx, _, upd_same, by rw [lookup_putF, if_pos rfl]⟩, ⟨dm, fs, x6 m _ (Ne.symm nbm) m5, mf.x x6 hbd5⟩, up3 e3 (fun z => by rw [z, hbd3] at e3; cases e3), ord, up3 (s3 _ _ e2) (fun z => by rw [z] at e2; rw [s2 _ _ (s1 _ _ hbd)] at e2; cases e2), rows6, hb, dx, upd_same⟩, none_of s13 nm, none_of s12 n3, none_of s1 n2, none_of s13 (none_of sm nsa), none_of s13 (none_of sm naa), none_of s13 (none_of sm nea)⟩
end
end Mine

set_option maxRecDepth 100000
namespace Mine
open PySem PySem.Spec L2
def leS (a b : Str) : Prop := ltCps b.cps.toList a.cps.toList = false
theorem leS_iff {a b : Str} : leS a b ↔ ¬ (b.cps.toList < a.cps.toList) := by
  unfold leS
  rw [PyProof.Rows.ltCps_eq]
  exact decide_eq_false_iff_not
theorem leS_trans {a b c : Str} (h1 : leS a b) (h2 : leS b c) : leS a c := by
  rw [leS_iff] at *
  exact List.not_lt.mpr (List.le_trans (List.not_lt.mp h1) (List.not_lt.mp h2))
theorem leS_antisymm {a b : Str} (h1 : leS a b) (h2 : leS b a) : a = b := by
  rw [leS_iff] at *
  have e : a.cps.toList = b.cps.toList := List.le_antisymm (List.not_lt.mp h1) (List.not_lt.mp h2)
  cases a
  cases b
  simp only at e
  congr 1
  exact Array.toList_inj.mp e
theorem rising_le : ∀ (p : Str) (l : List Str), PyProof.Rows.risingS p l = true → ∀ x ∈ l, leS p x
  | p, [], _, x, h => nomatch h
  | p, y :: r, h, x, hx => by
    have h : (!ltCps y.cps.toList p.cps.toList && PyProof.Rows.risingS y r) = true := h
    obtain ⟨h1, h2⟩ := Bool.and_eq_true_iff.mp h
    have hy : leS p y := by simpa [leS] using h1
    rcases List.mem_cons.mp hx with z | z
    · rw [z]; exact hy
    · exact leS_trans hy (rising_le y r h2 x z)
theorem sortedS_pairwise : ∀ l : List Str, PyProof.Rows.sortedS l = true → l.Pairwise leS
  | [], _ => .nil
  | p :: l, h => by
    have h : PyProof.Rows.risingS p l = true := h
    refine List.pairwise_cons.mpr ⟨rising_le p l h, ?_⟩
    cases l with
    | nil => exact .nil
    | cons y r =>
      have h : (!ltCps y.cps.toList p.cps.toList && PyProof.Rows.risingS y r) = true := h
      exact sortedS_pairwise (y :: r) (Bool.and_eq_true_iff.mp h).2
theorem perm_leS : ∀ {l1 l2 : List Str}, l1.Perm l2 → l1.Pairwise leS → l2.Pairwise leS → l1 = l2
  | [], l2, h, _, _ => (List.eq_nil_of_length_eq_zero (by simpa using h.length_eq.symm)).symm
  | a :: l1, [], h, _, _ => by
    have := h.length_eq
    simp at this
  | a :: l1, b :: l2, h, s1, s2 => by
    obtain ⟨a1, a2⟩ := List.pairwise_cons.mp s1
    obtain ⟨b1, b2⟩ := List.pairwise_cons.mp s2
    have e : a = b := by
      have ha : a ∈ b :: l2 := h.mem_iff.mp List.mem_cons_self
      have hb : b ∈ a :: l1 := h.mem_iff.mpr List.mem_cons_self
      rcases List.mem_cons.mp ha with z | z
      · exact z
      · rcases List.mem_cons.mp hb with y | y
        · exact y.symm
        · exact leS_antisymm (a1 b y) (b1 a z)
    subst e
    rw [perm_leS h.cons_inv a2 b2]
/-- texts in order, each once, are told by what stands among them -/
theorem sorted_one {l1 l2 : List Str} (n1 : l1.Nodup) (n2 : l2.Nodup) (m : ∀ x, x ∈ l1 ↔ x ∈ l2) (s1 : PyProof.Rows.sortedS l1 = true) (s2 : PyProof.Rows.sortedS l2 = true) : l1 = l2 :=
  perm_leS ((List.perm_ext_iff_of_nodup n1 n2).mpr m) (sortedS_pairwise _ s1) (sortedS_pairwise _ s2)
theorem addStr_nd {m : List Str} {t : Str} (h : m.Nodup) : (addStr m t).Nodup := by
  unfold addStr
  split
  · exact h
  · rename_i n
    exact List.nodup_append.mpr ⟨h, by simp, fun a ha b hb e => n (by rw [← List.mem_singleton.mp hb, ← e]; exact ha)⟩
theorem addStr_mem {m : List Str} {t x : Str} : x ∈ addStr m t ↔ x ∈ m ∨ x = t := by
  unfold addStr
  by_cases h : t ∈ m
  · rw [if_pos h]
    exact ⟨.inl, fun z => z.elim id fun e => e ▸ h⟩
  · rw [if_neg h, List.mem_append, List.mem_singleton]
theorem fold_take (w : Str) : ∀ (ds : List RowD) (m : List Str), m.Nodup → (ds.foldl (takeIn w) m).Nodup ∧ ∀ x, x ∈ ds.foldl (takeIn w) m ↔ x ∈ m ∨ ∃ d ∈ ds, wordOf d = w ∧ nameOf d = x
  | [], m, h => ⟨h, fun x => by simp⟩
  | d :: ds, m, h => by
    have key : (takeIn w m d).Nodup ∧ ∀ x, x ∈ takeIn w m d ↔ x ∈ m ∨ (wordOf d = w ∧ nameOf d = x) := by
      unfold takeIn
      by_cases e : wordOf d = w
      · rw [if_pos e]
        refine ⟨addStr_nd h, fun x => ?_⟩
        rw [addStr_mem]
        exact ⟨fun z => z.imp id fun z => ⟨e, z.symm⟩, fun z => z.imp id fun z => z.2.symm⟩
      · rw [if_neg e]
        exact ⟨h, fun x => ⟨.inl, fun z => z.elim id fun z => absurd z.1 e⟩⟩
    obtain ⟨n1, m1⟩ := fold_take w ds (takeIn w m d) key.1
    refine ⟨n1, fun x => ?_⟩
    show x ∈ ds.foldl (takeIn w) (takeIn w m d) ↔ _
    rw [m1, key.2]
    constructor
    · rintro ((z | z) | ⟨c, hc, z⟩)
      · exact .inl z
      · exact .inr ⟨d, List.mem_cons_self, z⟩
      · exact .inr ⟨c, List.mem_cons_of_mem _ hc, z⟩
    · rintro (z | ⟨c, hc, z⟩)
      · exact .inl (.inl z)
      · rcases List.mem_cons.mp hc with y | y
        · exact .inl (.inr (by rw [← y]; exact z))
        · exact .inr ⟨c, y, z⟩
/-- what a machine tells of the words behind a word -/
theorem IsFirsts.mem {w : Str} {ds : List RowD} {as : List Str} (h : IsFirsts w ds as) (x : Str) : x ∈ as ↔ ∃ d ∈ ds, wordOf d = w ∧ nameOf d = x := by
  rw [h.1.mem_iff, show distinct w ds = ds.foldl (takeIn w) [] from rfl, (fold_take w ds [] .nil).2 x]
  exact ⟨fun z => z.elim (fun z => nomatch z) id, .inr⟩
theorem IsFirsts.nd {w : Str} {ds : List RowD} {as : List Str} (h : IsFirsts w ds as) : as.Nodup := h.1.nodup_iff.mpr (fold_take w ds [] .nil).1
end Mine

set_option maxRecDepth 100000
set_option maxHeartbeats 4000000
namespace Mine
open PySem L2
abbrev s_b_operations : Stmt := inClass (top 35) 1
abbrev s_b_rows : Stmt := inClass (top 35) 2
abbrev s_b_asked : Stmt := inClass (top 35) 4
abbrev s_b_words : Stmt := inClass (top 35) 5
abbrev s_b_start : Stmt := inClass (top 35) 3
abbrev s_b_hangs : Stmt := inClass (top 35) 6
abbrev s_b_len : Stmt := inClass (top 35) 8
abbrev s_b_getitem : Stmt := inClass (top 35) 9
def spB (CB CM : Addr) (c : Ops → List RowD → Nat → Hp → VK → Prop) : Sp := fun vs H Q _ => ∃ (bd : Addr) (o : Ops) (rs : List RowD) (b : Nat), vs = [.ref bd] ∧ BodyAt CB CM H bd o rs b ∧ c o rs b H Q
abbrev spBOps (CB CM : Addr) : Sp := spB CB CM fun o _ _ H Q => ∀ o', Ordered o o' → New H (.dK (opsK o')) Q
abbrev spBRows (CB CM : Addr) : Sp := spB CB CM fun _ rs _ H Q => ∀ xs, Rows H xs rs → New H (.lst xs) Q
abbrev spBAsked (CB CM : Addr) : Sp := spB CB CM fun _ rs b H Q => ∀ as, IsFirsts "ask" (restD rs b) as → New H (.lst (as.map V.str)) Q
abbrev spBWords (CB CM : Addr) : Sp := spB CB CM fun _ rs b H Q => ∀ as, IsFirsts "end" (restD rs b) as → New H (.lst (as.map V.str)) Q
abbrev spBStart (CB CM : Addr) : Sp := spB CB CM fun _ _ b H Q => Q (.int b) H
abbrev spBHangs (CB CM : Addr) : Sp := spB CB CM fun _ rs b H Q => Q (.bl (endlessD rs b)) H
abbrev spBLen (CB CM : Addr) : Sp := spB CB CM fun _ rs _ H Q => Q (.int rs.length) H
section
variable {P : Program} {w : World} {K : PySem.W.Frag} {mg : Str → Option Value} {base : Heap}
variable {fII fIW CB CM : Addr}
theorem sc_b_operations : FnScope ["self"] ["self"] (defScope s_b_operations) := ⟨rfl, rfl, rfl, by decide +kernel, rfl, by decide +kernel, by decide +kernel⟩
theorem ok_b_operations {f : Addr} {fd : FuncData} (F : Fun K "operations" "Body.operations" s_b_operations f fd) (T : TxtF K mg fII fIW) (TB : BodyC K CB) (TM : MachC K CM) : FnOk P w K mg base CX0 1 f fd ["self"] (spBOps CB CM) := by
  refine F.ok sc_b_operations (fun vs H Q E h => ?_) (fun cdv A outer s H vs Q E hr h => ?_)
  · obtain ⟨bd, o, rs, b, rfl, _⟩ := h
    rfl
  · obtain ⟨bd, o, rs, b, rfl, ⟨m, t, l, sa, aa, ea, o', xs, as, es, h⟩, k⟩ := h
    obtain ⟨dx, fb, h1, h2⟩ := h.hb
    obtain ⟨dm, fm, h3, mf⟩ := h.hm
    refine ⟨_, (pss_one (ps_ret (pe_callTy call_dictD (by rfl) T.b_dict (by decide +kernel) (pa_cons (pe_fld (pe_fld (pv 0) rfl) rfl) pa_nil)))), ?_⟩
    exact ⟨_, rfl, bd, CB, dx, fb, _, rfl, h1, TB.cl, TB.n_machine, h2, m, CM, dm, fm, _, rfl, h3, TM.cl, TM.n_counts, mf.counts, t, opsK o', rfl, .inl h.ht, fun p n => (k o' h.ord).at n⟩
theorem sc_b_rows : FnScope ["self"] ["self"] (defScope s_b_rows) := ⟨rfl, rfl, rfl, by decide +kernel, rfl, by decide +kernel, by decide +kernel⟩
theorem ok_b_rows {f : Addr} {fd : FuncData} (F : Fun K "rows" "Body.rows" s_b_rows f fd) (T : TxtF K mg fII fIW) (TB : BodyC K CB) (TM : MachC K CM) : FnOk P w K mg base CX0 1 f fd ["self"] (spBRows CB CM) := by
  refine F.ok sc_b_rows (fun vs H Q E h => ?_) (fun cdv A outer s H vs Q E hr h => ?_)
  · obtain ⟨bd, o, rs, b, rfl, _⟩ := h
    rfl
  · obtain ⟨bd, o, rs, b, rfl, ⟨m, t, l, sa, aa, ea, o', xs, as, es, h⟩, k⟩ := h
    obtain ⟨dx, fb, h1, h2⟩ := h.hb
    obtain ⟨dm, fm, h3, mf⟩ := h.hm
    refine ⟨_, (pss_one (ps_ret (pe_callTy call_listG (by rfl) T.b_list (by decide +kernel) (pa_cons (pe_fld (pe_fld (pv 0) rfl) rfl) pa_nil)))), ?_⟩
    exact ⟨_, rfl, bd, CB, dx, fb, _, rfl, h1, TB.cl, TB.n_machine, h2, m, CM, dm, fm, _, rfl, h3, TM.cl, TM.n_lines, mf.lines, l, xs, rfl, .inl h.hl, k xs h.rows⟩
theorem sc_b_asked : FnScope ["self"] ["self"] (defScope s_b_asked) := ⟨rfl, rfl, rfl, by decide +kernel, rfl, by decide +kernel, by decide +kernel⟩
theorem ok_b_asked {f : Addr} {fd : FuncData} (F : Fun K "asked" "Body.asked" s_b_asked f fd) (T : TxtF K mg fII fIW) (TB : BodyC K CB) (TM : MachC K CM) : FnOk P w K mg base CX0 1 f fd ["self"] (spBAsked CB CM) := by
  refine F.ok sc_b_asked (fun vs H Q E h => ?_) (fun cdv A outer s H vs Q E hr h => ?_)
  · obtain ⟨bd, o, rs, b, rfl, _⟩ := h
    rfl
  · obtain ⟨bd, o, rs, b, rfl, ⟨m, t, l, sa, aa, ea, o', xs, as, es, h⟩, k⟩ := h
    obtain ⟨dx, fb, h1, h2⟩ := h.hb
    obtain ⟨dm, fm, h3, mf⟩ := h.hm
    refine ⟨_, (pss_one (ps_ret (pe_callTy call_listG (by rfl) T.b_list (by decide +kernel) (pa_cons (pe_fld (pe_fld (pv 0) rfl) rfl) pa_nil)))), ?_⟩
    exact ⟨_, rfl, bd, CB, dx, fb, _, rfl, h1, TB.cl, TB.n_machine, h2, m, CM, dm, fm, _, rfl, h3, TM.cl, TM.n_asks, mf.asks, aa, _, rfl, .inl mf.ha, k as mf.fa⟩
theorem sc_b_words : FnScope ["self"] ["self"] (defScope s_b_words) := ⟨rfl, rfl, rfl, by decide +kernel, rfl, by decide +kernel, by decide +kernel⟩
theorem ok_b_words {f : Addr} {fd : FuncData} (F : Fun K "words" "Body.words" s_b_words f fd) (T : TxtF K mg fII fIW) (TB : BodyC K CB) (TM : MachC K CM) : FnOk P w K mg base CX0 1 f fd ["self"] (spBWords CB CM) := by
  refine F.ok sc_b_words (fun vs H Q E h => ?_) (fun cdv A outer s H vs Q E hr h => ?_)
  · obtain ⟨bd, o, rs, b, rfl, _⟩ := h
    rfl
  · obtain ⟨bd, o, rs, b, rfl, ⟨m, t, l, sa, aa, ea, o', xs, as, es, h⟩, k⟩ := h
    obtain ⟨dx, fb, h1, h2⟩ := h.hb
    obtain ⟨dm, fm, h3, mf⟩ := h.hm
    refine ⟨_, (pss_one (ps_ret (pe_callTy call_listG (by rfl) T.b_list (by decide +kernel) (pa_cons (pe_fld (pe_fld (pv 0) rfl) rfl) pa_nil)))), ?_⟩
    exact ⟨_, rfl, bd, CB, dx, fb, _, rfl, h1, TB.cl, TB.n_machine, h2, m, CM, dm, fm, _, rfl, h3, TM.cl, TM.n_endings, mf.endings, ea, _, rfl, .inl mf.he, k es mf.fe⟩
theorem sc_b_start : FnScope ["self"] ["self"] (defScope s_b_start) := ⟨rfl, rfl, rfl, by decide +kernel, rfl, by decide +kernel, by decide +kernel⟩
theorem ok_b_start {f : Addr} {fd : FuncData} (F : Fun K "start" "Body.start" s_b_start f fd) (T : TxtF K mg fII fIW) (TB : BodyC K CB) (TM : MachC K CM) : FnOk P w K mg base CX0 1 f fd ["self"] (spBStart CB CM) := by
  refine F.ok sc_b_start (fun vs H Q E h => ?_) (fun cdv A outer s H vs Q E hr h => ?_)
  · obtain ⟨bd, o, rs, b, rfl, _⟩ := h
    rfl
  · obtain ⟨bd, o, rs, b, rfl, ⟨m, t, l, sa, aa, ea, o', xs, as, es, h⟩, k⟩ := h
    obtain ⟨dx, fb, h1, h2⟩ := h.hb
    obtain ⟨dm, fm, h3, mf⟩ := h.hm
    refine ⟨_, (pss_one (ps_ret (pe_fld (pe_fld (pv 0) rfl) rfl))), ?_⟩
    exact ⟨_, rfl, bd, CB, dx, fb, _, rfl, h1, TB.cl, TB.n_machine, h2, m, CM, dm, fm, _, rfl, h3, TM.cl, TM.n_begin, mf.begin, k⟩
theorem sc_b_hangs : FnScope ["self"] ["self"] (defScope s_b_hangs) := ⟨rfl, rfl, rfl, by decide +kernel, rfl, by decide +kernel, by decide +kernel⟩
theorem ok_b_hangs {f : Addr} {fd : FuncData} (F : Fun K "hangs" "Body.hangs" s_b_hangs f fd) (T : TxtF K mg fII fIW) (TB : BodyC K CB) (TM : MachC K CM) : FnOk P w K mg base CX0 1 f fd ["self"] (spBHangs CB CM) := by
  refine F.ok sc_b_hangs (fun vs H Q E h => ?_) (fun cdv A outer s H vs Q E hr h => ?_)
  · obtain ⟨bd, o, rs, b, rfl, _⟩ := h
    rfl
  · obtain ⟨bd, o, rs, b, rfl, ⟨m, t, l, sa, aa, ea, o', xs, as, es, h⟩, k⟩ := h
    obtain ⟨dx, fb, h1, h2⟩ := h.hb
    obtain ⟨dm, fm, h3, mf⟩ := h.hm
    refine ⟨_, (pss_one (ps_ret (pe_fld (pe_fld (pv 0) rfl) rfl))), ?_⟩
    exact ⟨_, rfl, bd, CB, dx, fb, _, rfl, h1, TB.cl, TB.n_machine, h2, m, CM, dm, fm, _, rfl, h3, TM.cl, TM.n_endless, mf.endless, k⟩
theorem sc_b_len : FnScope ["self"] ["self"] (defScope s_b_len) := ⟨rfl, rfl, rfl, by decide +kernel, rfl, by decide +kernel, by decide +kernel⟩
theorem ok_b_len {f : Addr} {fd : FuncData} (F : Fun K "__len__" "Body.__len__" s_b_len f fd) (T : TxtF K mg fII fIW) (TB : BodyC K CB) (TM : MachC K CM) : FnOk P w K mg base CX0 1 f fd ["self"] (spBLen CB CM) := by
  refine F.ok sc_b_len (fun vs H Q E h => ?_) (fun cdv A outer s H vs Q E hr h => ?_)
  · obtain ⟨bd, o, rs, b, rfl, _⟩ := h
    rfl
  · obtain ⟨bd, o, rs, b, rfl, ⟨m, t, l, sa, aa, ea, o', xs, as, es, h⟩, k⟩ := h
    obtain ⟨dx, fb, h1, h2⟩ := h.hb
    obtain ⟨dm, fm, h3, mf⟩ := h.hm
    refine ⟨_, (pss_one (ps_ret (pe_callB call_len_seq (by rfl) T.b_len PySem.boot_len (pa_cons (pe_fld (pe_fld (pv 0) rfl) rfl) pa_nil)))), ?_⟩
    exact ⟨_, rfl, bd, CB, dx, fb, _, rfl, h1, TB.cl, TB.n_machine, h2, m, CM, dm, fm, _, rfl, h3, TM.cl, TM.n_lines, mf.lines, l, xs, rfl, .inl (SqL.of h.hl), by rw [h.rows.1]; exact k⟩
end
end Mine

set_option maxRecDepth 100000
set_option maxHeartbeats 4000000
namespace Mine
open PySem L2
abbrev sSrc : Stmt := top 42
abbrev sNext : Stmt := top 43
abbrev sOne : Stmt := top 44
/-- the source of the draws: three ints -/
def SrcAt (H : Hp) (a : Addr) : Prop := ∃ x y z : Int, H a = some (.lst [.int x, .int y, .int z])
/-- all but what stands at a is as it was -/
def But (H H' : Hp) (a : Addr) : Prop := ∀ b o, b ≠ a → H b = some o → H' b = some o
theorem but_upd {H : Hp} {a : Addr} (o : HO) : But H (upd H a o) a := fun b u ne e => by
  rw [upd_ne ne]
  exact e
theorem But.trans {H H1 H2 : Hp} {a : Addr} (s : But H H1 a) (t : But H1 H2 a) : But H H2 a := fun b o ne e => t b o ne (s b o ne e)
theorem But.same {H H1 H2 : Hp} {a : Addr} (s : Same H H1) (t : But H1 H2 a) (n : H a = none) : Same H H2 := fun b o e => t b o (ne_of_none e n) (s b o e)
def spSrc : Sp := fun vs H Q _ => ∃ c : Int, vs = [.int c] ∧ ∀ (x y z : Int), New H (.lst [.int x, .int y, .int z]) Q
def spNext : Sp := fun vs H Q _ => ∃ (a : Addr) (m x y z : Int), vs = [.ref a, .int m] ∧ 0 < m ∧ m.natAbs < 2 ^ 200 ∧ H a = some (.lst [.int x, .int y, .int z]) ∧
  ∀ (n x' y' z' : Int) (H' : Hp), 0 ≤ n → n < m → But H H' a → H' a = some (.lst [.int x', .int y', .int z']) → Q (.int n) H'
/-- one of the things in a list -/
def spOne : Sp := fun vs H Q _ => ∃ (a b : Addr) (xs : List V) (x y z : Int), vs = [.ref a, .ref b] ∧ H a = some (.lst [.int x, .int y, .int z]) ∧ H b = some (.lst xs) ∧ 0 < xs.length ∧ xs.length ≤ 1000 ∧ a ≠ b ∧
  ∀ (v : V) (x' y' z' : Int) (H' : Hp), v ∈ xs → But H H' a → H' a = some (.lst [.int x', .int y', .int z']) → Q v H'
structure TxtD (K : PySem.W.Frag) (mg : Str → Option Value) (fN : Addr) : Prop where
  int : mg "int" = none
  len : mg "len" = none
  gN : mg "_law_next" = some (.ref fN)
  kN : PySem.W.keepIn K (.ref fN) = true
theorem at0 {α : Type} {a : α} {l : List α} : atI (a :: l) 0 = some a := atI_nat (j := 0) rfl
theorem at1 {α : Type} {a b : α} {l : List α} : atI (a :: b :: l) 1 = some b := atI_nat (j := 1) rfl
theorem at2 {α : Type} {a b c : α} {l : List α} : atI (a :: b :: c :: l) 2 = some c := atI_nat (j := 2) rfl
theorem ix0 {n : Nat} : ixN (n + 1) 0 = some 0 := by
  unfold ixN
  rw [if_pos (Int.le_refl _), if_pos (by omega)]
  rfl
theorem ix2 {n : Nat} : ixN (n + 3) 2 = some 2 := by
  unfold ixN
  rw [if_pos (by decide), if_pos (by omega)]
  rfl
theorem modM {m : Int} (h : 0 < m) (u : Int) : 0 ≤ u % m ∧ u % m < m := ⟨Int.emod_nonneg _ (by omega), Int.emod_lt_of_pos _ h⟩
section
variable {P : Program} {w : World} {K : PySem.W.Frag} {mg : Str → Option Value} {base : Heap}
variable {fN : Addr}
theorem scSrc : FnScope ["_law_cell"] ["_law_cell"] (defScope sSrc) := ⟨rfl, rfl, rfl, by decide +kernel, rfl, by decide +kernel, by decide +kernel⟩
theorem ok_src {f : Addr} {fd : FuncData} (F : Fun K "_law_source_of" "_law_source_of" sSrc f fd) (T : TxtD K mg fN) : FnOk P w K mg base CX0 1 f fd ["_law_cell"] spSrc := by
  refine F.ok scSrc (fun vs H Q E h => ?_) (fun cdv A outer s H vs Q E hr h => ?_)
  · obtain ⟨c, rfl, _⟩ := h
    rfl
  · obtain ⟨c, rfl, k⟩ := h
    refine ⟨_, (pss_cons (ps_set (i := 0) scSrc.nd rfl (Or.inl rfl) (pe_ifExp (pt_cmpR op_ge (pv 0) pe_int (nomark _)) (pv 0) (pe_op op_sub (pe_op op_sub pe_int (pe_op op_mul pe_int (pv 0))) pe_int)))
      (pss_one (ps_ret (pe_lstG (pa_cons (pe_op op_mul (pv 0) (pe_callTy call_int1 (by rfl) T.int (by decide +kernel) (pa_cons (pe_cmpR op_ge (pv 0) (pe_op op_pow pe_int pe_int) (nomark _)) pa_nil))) (pa_cons (pe_op op_mod (pe_callTy call_int1 (by rfl) T.int (by decide +kernel) (pa_cons (pv 0) pa_nil)) pe_int) (pa_cons pe_int pa_nil))))))), ?_⟩
    refine ⟨_, rfl, _, _, rfl, rfl, _, rfl, ?_⟩
    refine ite2 (fun _ => ?_) (fun _ => ?_)
    · refine ⟨_, rfl, _, rfl, _, rfl, _, _, rfl, rfl, ⟨by decide, by decide, by decide⟩, _, _, rfl, rfl, .inr ⟨_, rfl, _, _, rfl, rfl, .inr (by split <;> decide), ?_⟩⟩
      refine ⟨_, rfl, .inl ⟨_, rfl, _, _, rfl, rfl, (by show (0 : Int) < 2147483647; decide), ?_⟩⟩
      exact ⟨by show 3 ≤ sizeLine; decide, fun p H' n s e => k _ _ _ p H' n s e⟩
    · refine ⟨_, rfl, _, _, rfl, rfl, .inl (by decide), _, _, rfl, rfl, _, _, rfl, rfl, ?_⟩
      refine ⟨_, rfl, _, rfl, _, _, rfl, rfl, ⟨by decide, by decide, by decide⟩, _, _, rfl, rfl, .inr ⟨_, rfl, _, _, rfl, rfl, .inr (by split <;> decide), ?_⟩⟩
      refine ⟨_, rfl, .inl ⟨_, rfl, _, _, rfl, rfl, (by show (0 : Int) < 2147483647; decide), ?_⟩⟩
      exact ⟨by show 3 ≤ sizeLine; decide, fun p H' n s e => k _ _ _ p H' n s e⟩
theorem scNext : FnScope ["_law_source", "_law_many", "_law_found", "_law_number"] ["_law_source", "_law_many"] (defScope sNext) := ⟨rfl, rfl, rfl, by decide +kernel, rfl, by decide +kernel, by decide +kernel⟩
theorem divOk {i m : Int} (h0 : 0 < m) (h : m.natAbs < 2 ^ 200) : CDivW i m := wide_div (i := i) h0 h (by decide) (by decide)
theorem ok_next {f : Addr} {fd : FuncData} (F : Fun K "_law_next" "_law_next" sNext f fd) (T : TxtD K mg fN) : FnOk P w K mg base CX0 1 f fd ["_law_source", "_law_many"] spNext := by
  refine F.ok scNext (fun vs H Q E h => ?_) (fun cdv A outer s H vs Q E hr h => ?_)
  · obtain ⟨a, m, x, y, z, rfl, _⟩ := h
    rfl
  · obtain ⟨a, m, x, y, z, rfl, m0, m1, ha, k⟩ := h
    refine ⟨_, (pss_cons (ps_if (pt_cmpR op_gt (pe_ix ix_list (pv 0) pe_int (fun _ _ => rfl)) pe_int (nomark _)) (pss_cons (ps_set (i := 2) scNext.nd rfl (Or.inl rfl) (pe_op op_mod (pe_callTy call_int1 (by rfl) T.int (by decide +kernel) (pa_cons (pe_ix ix_list (pv 0) pe_int (fun _ _ => rfl)) pa_nil)) (pv 1)))
      (pss_cons (ps_asg (pe_op op_fdivW (pe_ix ix_list (pv 0) pe_int (fun _ _ => rfl)) (pv 1)) (pg_sub (pv 0) pe_int set_list))
      (pss_one (ps_ret (pv 2))))) pss_nil)
      (pss_cons (ps_asg (pe_op op_add (pe_ix ix_list (pv 0) pe_int (fun _ _ => rfl)) pe_int) (pg_sub (pv 0) pe_int set_list))
      (pss_cons (ps_set (i := 3) scNext.nd rfl (Or.inl rfl) (pe_op op_mod (pe_callTy call_int1 (by rfl) T.int (by decide +kernel) (pa_cons (pe_op op_add (pe_op op_add (pe_ix ix_list (pv 0) pe_int (fun _ _ => rfl)) (pe_op op_mul pe_int (pe_ix ix_list (pv 0) pe_int (fun _ _ => rfl)))) pe_int) pa_nil)) pe_int))
      (pss_cons (ps_set (i := 3) scNext.nd rfl (Or.inl rfl) (pe_op op_mod (pe_callTy call_int1 (by rfl) T.int (by decide +kernel) (pa_cons (pe_op op_mul (pv 3) pe_int) pa_nil)) pe_int))
      (pss_cons (ps_set (i := 3) scNext.nd rfl (Or.inl rfl) (pe_op op_mod (pe_callTy call_int1 (by rfl) T.int (by decide +kernel) (pa_cons (pe_op op_mul (pv 3) (pe_op op_add (pe_op op_fdiv (pv 3) pe_int) pe_int)) pa_nil)) pe_int))
      (pss_cons (ps_set (i := 3) scNext.nd rfl (Or.inl rfl) (pe_op op_mod (pe_callTy call_int1 (by rfl) T.int (by decide +kernel) (pa_cons (pe_op op_mul (pv 3) (pe_op op_add (pe_op op_fdiv (pv 3) pe_int) pe_int)) pa_nil)) pe_int))
      (pss_one (ps_ret (pe_op op_mod (pe_callTy call_int1 (by rfl) T.int (by decide +kernel) (pa_cons (pe_op op_fdiv (pv 3) pe_int) pa_nil)) (pv 1)))))))))), ?_⟩
    refine ⟨_, rfl, _, _, _, _, rfl, rfl, SqL.of ha, at0, _, _, rfl, rfl, _, rfl, ?_⟩
    refine ite2 (fun _ => ?_) (fun _ => ?_)
    · refine ⟨_, rfl, _, _, _, _, rfl, rfl, SqL.of ha, at0, .inl ⟨_, rfl, _, rfl, _, _, rfl, rfl, m0, ?_⟩⟩
      refine ⟨_, rfl, _, _, _, _, rfl, rfl, SqL.of ha, at0, _, rfl, _, _, rfl, rfl, divOk m0 m1, _, rfl, _, _, _, 0, rfl, rfl, ha, ix0, ?_⟩
      exact ⟨_, rfl, k _ _ y z _ (modM m0 _).1 (modM m0 _).2 (but_upd _) upd_same⟩
    · refine ⟨_, rfl, _, _, _, _, rfl, rfl, SqL.of ha, at2, _, _, rfl, rfl, _, rfl, _, _, _, 2, rfl, rfl, ha, ix2, ?_⟩
      have bd : ∀ u : Int, (-(2 ^ 64) < u % 2147483647 ∧ u % 2147483647 < 2 ^ 64) := fun u => by
        have := modM (show (0 : Int) < 2147483647 by decide) u
        omega
      refine ⟨_, rfl, _, _, _, _, rfl, rfl, SqL.of upd_same, at1, _, rfl, _, _, _, _, rfl, rfl, SqL.of upd_same, at2, _, _, rfl, rfl, .inl (by decide), _, _, rfl, rfl, _, _, rfl, rfl, .inl ⟨_, rfl, _, _, rfl, rfl, (by show (0 : Int) < 2147483647; decide), ?_⟩⟩
      refine ⟨_, rfl, _, _, rfl, rfl, .inr (by decide), .inl ⟨_, rfl, _, _, rfl, rfl, (by show (0 : Int) < 2147483647; decide), ?_⟩⟩
      refine ⟨_, rfl, _, rfl, _, _, rfl, rfl, ⟨by decide, by decide⟩, _, _, rfl, rfl, _, _, rfl, rfl, .inl (bd _), .inl ⟨_, rfl, _, _, rfl, rfl, (by show (0 : Int) < 2147483647; decide), ?_⟩⟩
      refine ⟨_, rfl, _, rfl, _, _, rfl, rfl, ⟨by decide, by decide⟩, _, _, rfl, rfl, _, _, rfl, rfl, .inl (bd _), .inl ⟨_, rfl, _, _, rfl, rfl, (by show (0 : Int) < 2147483399; decide), ?_⟩⟩
      refine ⟨_, rfl, _, _, rfl, rfl, ⟨by decide, by decide⟩, .inl ⟨_, rfl, _, rfl, _, _, rfl, rfl, m0, ?_⟩⟩
      exact k _ x y _ _ (modM m0 _).1 (modM m0 _).2 (but_upd _) upd_same
theorem scOne : FnScope ["_law_source", "_law_some"] ["_law_source", "_law_some"] (defScope sOne) := ⟨rfl, rfl, rfl, by decide +kernel, rfl, by decide +kernel, by decide +kernel⟩
theorem ok_one {f : Addr} {fd fdN : FuncData} (F : Fun K "_law_one" "_law_one" sOne f fd) (T : TxtD K mg fN) (FN : Fun K "_law_next" "_law_next" sNext fN fdN) (bN : Binds K fdN ["_law_source", "_law_many"] []) : FnOk P w K mg base CX0 2 f fd ["_law_source", "_law_some"] spOne := by
  have GN : FnOk P w K mg base CX0 1 fN fdN ["_law_source", "_law_many"] spNext := ok_next FN T
  refine F.ok scOne (fun vs H Q E h => ?_) (fun cdv A outer s H vs Q E hr h => ?_)
  · obtain ⟨a, b, xs, x, y, z, rfl, _⟩ := h
    rfl
  · obtain ⟨a, b, xs, x, y, z, rfl, ha, hb, l0, l1, ne, k⟩ := h
    have hr1 : Room 1 _ := hr.mono (by decide)
    refine ⟨_, (pss_one (ps_ret (pe_ix ix_list (pv 1) (pe_call GN hr1 (by rfl) T.gN T.kN bN .nil pass0 (pa_cons (pv 0) (pa_cons (pe_callB call_len_seq (by rfl) T.len PySem.boot_len (pa_cons (pv 1) pa_nil)) pa_nil))) (fun _ _ => rfl)))), ?_⟩
    refine ⟨_, rfl, _, rfl, _, rfl, _, _, rfl, .inl (SqL.of hb), a, _, x, y, z, rfl, by omega, ?_, ha, fun n x' y' z' H' n0 n1 bt he => ?_⟩
    · have : (((xs.length : Nat) : Int)).natAbs = xs.length := rfl
      rw [this]
      exact Nat.lt_of_le_of_lt l1 (by decide)
    · have hn : n.toNat < xs.length := by omega
      have ei : xs[n.toNat]? = some xs[n.toNat] := List.getElem?_eq_getElem hn
      have e2 : ((n.toNat : Nat) : Int) = n := Int.toNat_of_nonneg n0
      have ea : atI xs ((n.toNat : Nat) : Int) = some xs[n.toNat] := atI_nat ei
      rw [e2] at ea
      exact ⟨_, _, _, _, rfl, rfl, SqL.of (bt _ _ ne.symm hb), ea, k _ _ _ _ _ (List.getElem_mem hn) bt he⟩
end
end Mine

set_option maxRecDepth 100000
set_option maxHeartbeats 4000000
namespace Mine
open PySem L2
abbrev s_mixed : Stmt := top 45
/-- a text, or a pair of a text and a number -/
def El (H : Hp) (v : V) : Prop := (∃ t : Str, v = .str t ∧ PyData.strOk t = true) ∨ ∃ (q : Addr) (t : Str) (i : Int), v = .ref q ∧ H q = some (.tup [.str t, .int i]) ∧ PyData.strOk t = true
def TupStay (H H' : Hp) : Prop := ∀ (q : Addr) (zs : List V), H q = some (.tup zs) → H' q = some (.tup zs)
theorem El.stay {H H' : Hp} {v : V} (s : TupStay H H') (e : El H v) : El H' v := e.elim .inl fun ⟨q, t, i, h1, h2, h3⟩ => .inr ⟨q, t, i, h1, s _ _ h2, h3⟩
theorem El.dp {K : PySem.W.Frag} {H : Hp} {v : V} (e : El H v) : ∃ d : PyData, Dp K H v d ∧ d.canLay0 = true ∧ d.depth ≤ 1 := by
  rcases e with ⟨t, rfl, h⟩ | ⟨q, t, i, rfl, h, h3⟩
  · exact ⟨_, .str t, by simp [PyData.canLay0, h], by simp [PyData.depth]⟩
  · exact ⟨_, .tup (.inl (.inl h)) (.cons (.str t) (.cons (.int i) .nil)), by simp [PyData.canLay0, PyData.canLayAll0, h3], by simp [PyData.depth, PyData.depthAll]⟩
theorem Els.dp {K : PySem.W.Frag} {H : Hp} : ∀ {vs : List V}, (∀ v ∈ vs, El H v) → ∃ ds : List PyData, DpAll K H vs ds ∧ PyData.canLayAll0 ds = true ∧ PyData.depthAll ds ≤ 1 ∧ ds.length = vs.length
  | [], _ => ⟨[], .nil, by simp [PyData.canLayAll0], by simp [PyData.depthAll], rfl⟩
  | v :: vs, h => by
    obtain ⟨d, h1, h2, h3⟩ := (h v List.mem_cons_self).dp (K := K)
    obtain ⟨ds, k1, k2, k3, k4⟩ := Els.dp (K := K) (vs := vs) fun x hx => h x (List.mem_cons_of_mem _ hx)
    refine ⟨d :: ds, .cons h1 k1, by simp [PyData.canLayAll0, h2, k2], ?_, by rw [List.length_cons, k4]; rfl⟩
    simp only [PyData.depthAll]
    omega
def spMixed : Sp := fun vs H Q _ => ∃ (a b : Addr) (xs : List V) (x y z : Int), vs = [.ref a, .ref b] ∧ H a = some (.lst [.int x, .int y, .int z]) ∧ SqA H b xs ∧ xs.length ≤ 1000 ∧ (∀ v ∈ xs, El H v) ∧
  ∀ (p : Addr) (ys : List V) (x' y' z' : Int) (H' : Hp), H p = none → ys.Perm xs → But H H' a → H' a = some (.lst [.int x', .int y', .int z']) → H' p = some (.lst ys) → Q (.ref p) H'
/-- ahead of a turn -/
structure MixI (H : Hp) (a la fa : Addr) (xs lf ff : List V) (H' : Hp) : Prop where
  but : But H H' a
  src : SrcAt H' a
  l : H' la = some (.lst lf)
  f : H' fa = some (.lst ff)
  nl : H la = none
  nf : H fa = none
  ne : la ≠ fa
  perm : (lf ++ ff).Perm xs
theorem erase_perm {α : Type} : ∀ (l : List α) (k : Nat) (y : α), l[k]? = some y → (y :: l.eraseIdx k).Perm l ∧ (l.eraseIdx k).length + 1 = l.length
  | [], k, y, h => by simp at h
  | x :: l, 0, y, h => by
    have e : x = y := Option.some.inj h
    subst e
    exact ⟨.refl _, rfl⟩
  | x :: l, k + 1, y, h => by
    obtain ⟨p, e⟩ := erase_perm l k y (by simpa using h)
    exact ⟨(List.Perm.swap x y _).trans (p.cons x), by show (l.eraseIdx k).length + 1 + 1 = l.length + 1; rw [e]⟩
theorem seq_at {n : Nat} {i : Int} (h0 : 0 ≤ i) (h : i < n) : seqIndex? i n = some i.toNat := (ixN_seq (by unfold ixN; rw [if_pos h0, if_pos h])).1
section
variable {P : Program} {w : World} {K : PySem.W.Frag} {mg : Str → Option Value} {base : Heap}
variable {fII fIW fN : Addr}
theorem sc_mixed : FnScope ["_law_source", "_law_some", "_law_left", "_law_found"] ["_law_source", "_law_some"] (defScope s_mixed) := ⟨rfl, rfl, rfl, by decide +kernel, rfl, by decide +kernel, by decide +kernel⟩
theorem ok_mixed {f : Addr} {fd fdN : FuncData} (F : Fun K "_law_mixed" "_law_mixed" s_mixed f fd) (T : TxtF K mg fII fIW)
    (GN : FnOk P w K mg base CX0 1 fN fdN ["_law_source", "_law_many"] spNext) (b_next : Binds K fdN ["_law_source", "_law_many"] []) (g_next : mg "_law_next" = some (.ref fN)) (k_next : PySem.W.keepIn K (.ref fN) = true) : FnOk P w K mg base CX0 2 f fd ["_law_source", "_law_some"] spMixed := by
  refine F.ok sc_mixed (fun vs H Q E h => ?_) (fun cdv A outer s H vs Q E hr h => ?_)
  · obtain ⟨a, b, xs, x, y, z, rfl, _⟩ := h
    rfl
  · obtain ⟨a, b, xs, x, y, z, rfl, ha, hb, few, els, k⟩ := h
    refine ⟨_, (pss_cons (ps_par (i := 2) (j := 3) rfl sc_mixed.nd rfl rfl (by decide) rfl rfl (pa_cons (pe_callTy call_listG (by rfl) T.b_list (by decide +kernel) (pa_cons (pv 1) pa_nil)) (pa_cons (pe_lstG pa_nil) pa_nil)) rfl)
      (pss_cons (ps_while PassesOwn.never (pt_cmpR (op_neD hr.units) (pv 2) (pe_lstG pa_nil) (nomark _)) (pss_one (ps_expr (pe_bm PySem.F.plainAttrs_list PySem.F.slot_list_append PySem.F.type_list_append mt_append (pv 3) (pa_cons (pe_bm PySem.F.plainAttrs_list PySem.F.slot_list_pop PySem.F.type_list_pop mt_popAt (pv 2) (pa_cons (pe_call GN (hr.mono (by decide)) (by rfl) g_next k_next b_next .nil pass0 (pa_cons (pv 0) (pa_cons (pe_callB call_len_seq (by rfl) T.b_len PySem.boot_len (pa_cons (pv 2) pa_nil)) pa_nil))) pa_nil)) pa_nil)))))
      (pss_one (ps_ret (pv 3))))), ?_⟩
    refine ⟨_, rfl, b, _, rfl, hb, fun la H1 n1 s1 e1 => ⟨Nat.zero_le _, fun fa H2 n2 s2 e2 => ⟨_, _, rfl, ?_⟩⟩⟩
    have nla : la ≠ fa := fun z => by
      rw [← z, e1] at n2
      cases n2
    have start : MixI H a la fa xs xs [] H2 := ⟨fun b2 o _ e => s2 _ _ (s1 _ _ e), ⟨x, y, z, s2 _ _ (s1 _ _ ha)⟩, s2 _ _ e1, e2, n1, none_of s1 n2, nla, by rw [List.append_nil]⟩
    refine ⟨fun m σ H' => ∃ lf ff, m = lf.length ∧ σ = [some (.ref a), some (.ref b), some (.ref la), some (.ref fa)] ∧ MixI H a la fa xs lf ff H', ⟨_, xs, [], rfl, rfl, start⟩, ?_⟩
    rintro m σ H' ⟨lf, ff, rfl, rfl, mi⟩
    have nal : la ≠ a := fun z => by
      have := mi.nl
      rw [z, ha] at this
      cases this
    have naf : fa ≠ a := fun z => by
      have := mi.nf
      rw [z, ha] at this
      cases this
    have tup : ∀ {H'' : Hp}, But H H'' a → TupStay H H'' := fun bt q zs e => bt q _ (fun z => by rw [z, ha] at e; cases e) e
    have len : lf.length + ff.length = xs.length := by
      have := mi.perm.length_eq
      rw [List.length_append] at this
      exact this
    refine ⟨_, rfl, Nat.zero_le _, fun e0 H3 n3 s3 ee => ?_⟩
    have bt3 : But H H3 a := fun b2 o nb e => s3 _ _ (mi.but b2 o nb e)
    obtain ⟨ds, d1, d2, d3, d4⟩ := Els.dp (K := K) (H := H3) (vs := lf) fun v hv => (els v (mi.perm.mem_iff.mp (List.mem_append_left _ hv))).stay (tup bt3)
    have sh : SeqAt.shaped (.list ds) = true := by
      show (PyData.canLay0 (.list ds) && decide (PyData.depth (.list ds) ≤ 64)) = true
      rw [Bool.and_eq_true]
      refine ⟨by simp only [PyData.canLay0]; exact d2, decide_eq_true ?_⟩
      simp only [PyData.depth]
      omega
    refine ⟨.list ds, .list [], .lst (SqL.of (s3 _ _ mi.l)) d1, .lst (SqL.of ee) .nil, sh, by decide +kernel, _, rfl, ?_⟩
    cases lf with
    | nil =>
      have : ds = [] := List.length_eq_zero_iff.mp d4
      subst this
      have e : (!PyData.eqv (.list []) (.list [])) = false := by simp [PyData.eqv, PyData.eqvAll]
      rw [e]
      refine iteF ?_
      obtain ⟨x', y', z', es⟩ := mi.src
      exact ⟨_, rfl, k fa ff x' y' z' H3 mi.nf (by simpa using mi.perm) bt3 (s3 _ _ es) (s3 _ _ mi.f)⟩
    | cons v0 l0 =>
      have e : (!PyData.eqv (.list ds) (.list [])) = true := by
        cases ds with
        | nil => simp at d4
        | cons d ds => simp [PyData.eqv, PyData.eqvAll]
      rw [e]
      refine iteT ?_
      refine ⟨fun σ' H'' => ∃ lf' ff', lf'.length < (v0 :: l0).length ∧ σ' = [some (.ref a), some (.ref b), some (.ref la), some (.ref fa)] ∧ MixI H a la fa xs lf' ff' H'', fun σ' H'' ⟨lf', ff', z1, z2, z3⟩ => ⟨_, z1, lf', ff', rfl, z2, z3⟩, ?_⟩
      obtain ⟨x', y', z', es⟩ := mi.src
      refine ⟨_, rfl, .inl ⟨rfl, _, SqL.of (s3 _ _ mi.f)⟩, _, rfl, .inl ⟨rfl, _, SqL.of (s3 _ _ mi.l)⟩, _, rfl, _, rfl, la, _, rfl, .inl (SqL.of (s3 _ _ mi.l)), a, _, x', y', z', rfl, ?_, ?_, s3 _ _ es, fun n u1 u2 u3 H4 n0 n1' bt4 e4 => ?_⟩
      · show (0 : Int) < ((v0 :: l0).length : Int)
        simp
      · have h1 : (v0 :: l0).length ≤ 1000 := by omega
        rw [Int.natAbs_natCast]
        exact Nat.lt_of_le_of_lt h1 (by decide)
      · have n1' : n < ((v0 :: l0).length : Int) := n1'
        have h1 : (v0 :: l0).length ≤ 1000 := by omega
        have el := bt4 _ _ nal (s3 _ _ mi.l)
        have ef := bt4 _ _ naf (s3 _ _ mi.f)
        have hk : n.toNat < (v0 :: l0).length := by omega
        have ey : (v0 :: l0)[n.toNat]? = some (v0 :: l0)[n.toNat] := List.getElem?_eq_getElem hk
        obtain ⟨pe, le⟩ := erase_perm _ _ _ ey
        generalize (v0 :: l0)[n.toNat] = y at ey pe
        generalize hl2 : (v0 :: l0).eraseIdx n.toNat = l2 at pe le
        refine ⟨la, v0 :: l0, n, n.toNat, y, rfl, rfl, el, by omega, by omega, seq_at n0 n1', ey, ?_⟩
        rw [hl2]
        have ef2 : upd H4 la (.lst l2) fa = some (.lst ff) := by
          rw [upd_ne (Ne.symm nla)]
          exact ef
        refine ⟨fa, ff, y, rfl, rfl, ef2, by rw [sizeLine_eq]; omega, l2, ff ++ [y], by omega, rfl, ?_⟩
        have ne : ∀ {b2 : Addr} {o : HO}, H b2 = some o → b2 ≠ la ∧ b2 ≠ fa := fun {b2 o} e => ⟨fun z => absurd (by rw [← e, z, mi.nl]) (fun q : (none : Option HO) = some o => nomatch q), fun z => absurd (by rw [← e, z, mi.nf]) (fun q : (none : Option HO) = some o => nomatch q)⟩
        refine ⟨fun b2 o nb e => ?_, ⟨u1, u2, u3, ?_⟩, ?_, upd_same, mi.nl, mi.nf, nla, ?_⟩
        · rw [upd_ne (ne e).2, upd_ne (ne e).1]
          exact bt4 _ _ nb (bt3 _ _ nb e)
        · rw [upd_ne (Ne.symm naf), upd_ne (Ne.symm nal)]
          exact e4
        · rw [upd_ne nla, upd_same]
        · have q1 : (l2 ++ (ff ++ [y])).Perm (y :: l2 ++ ff) := by
            rw [← List.append_assoc]
            exact (List.perm_append_comm (l₁ := l2 ++ ff) (l₂ := [y]))
          exact (q1.trans (pe.append_right ff)).trans mi.perm
end
end Mine

set_option maxRecDepth 100000
set_option maxHeartbeats 4000000
namespace Mine
open PySem L2
abbrev s_ops : Stmt := top 46
def names8 : List Str := ["coin", "ask", "tell", "go", "end", "fail", "x", "open"]
def spDrawOps : Sp := fun vs H Q _ => ∃ (a : Addr) (m : Nat) (x y z : Int), vs = [.ref a, .int (m : Int)] ∧ H a = some (.lst [.int x, .int y, .int z]) ∧ m ≤ 8 ∧
  ∀ (p : Addr) (o : Ops) (x' y' z' : Int) (H' : Hp), H p = none → o.length = m → (∀ q ∈ o, q.1 ∈ names8 ∧ 0 ≤ q.2 ∧ q.2 ≤ 3) → (o.map (·.1)).Nodup → But H H' a → H' a = some (.lst [.int x', .int y', .int z']) → H' p = some (.dK (opsK o)) → Q (.ref p) H'
theorem names8_ok : ∀ t ∈ names8, isNm t = true := by decide +kernel
theorem names8_nd : names8.Nodup := by decide +kernel
theorem names8_str : ∀ t ∈ names8, PyData.strOk t = true := by decide +kernel
def unS : V → Str
  | .str t => t
  | _ => ""
theorem perm_strs {ys : List V} {ns : List Str} (h : ys.Perm (ns.map V.str)) : ∃ zs : List Str, zs.Perm ns ∧ ys = zs.map V.str := by
  refine ⟨ys.map unS, ?_, ?_⟩
  · have := h.map unS
    rw [List.map_map] at this
    have e : ns.map (unS ∘ V.str) = ns := (List.map_congr_left fun _ _ => rfl).trans (List.map_id ns)
    rw [e] at this
    exact this
  · rw [List.map_map]
    refine (List.map_id ys).symm.trans (List.map_congr_left fun v hv => ?_)
    obtain ⟨t, _, rfl⟩ := List.mem_map.mp (h.mem_iff.mp hv)
    rfl
theorem paired_imp {α β : Type} {R S : α → β → Prop} (h : ∀ x y, R x y → S x y) : ∀ {xs : List α} {ys : List β}, Paired R xs ys → Paired S xs ys
  | _, _, .nil => .nil
  | _, _, .cons a b => .cons (h _ _ a) (paired_imp h b)
theorem paired_snoc {α β : Type} {R : α → β → Prop} {x : α} {y : β} (h : R x y) : ∀ {xs : List α} {ys : List β}, Paired R xs ys → Paired R (xs ++ [x]) (ys ++ [y])
  | _, _, .nil => .cons h .nil
  | _, _, .cons a b => .cons a (paired_snoc h b)
theorem low8 : ∀ n ∈ ([0, 1, 1, 2, 2, 2, 3, 2] : List Int), 0 ≤ n ∧ n ≤ 3 := by decide
/-- the pairs that are made so far -/
structure PairI (Hn : Hp) (a D : Addr) (zs : List Str) (j : Nat) (Hx : Hp) : Prop where
  but : But Hn Hx a
  src : SrcAt Hx a
  made : ∃ (ps : List Addr) (o : Ops), Hx D = some (.lst (ps.map V.ref)) ∧ o.map (·.1) = zs.take j ∧ (∀ q ∈ o, 0 ≤ q.2 ∧ q.2 ≤ 3) ∧ Paired (fun p kv => Hx p = some (.tup [kV kv.1, kv.2])) ps (opsK o) ∧ ps.length = j
theorem merge_new : ∀ (more kvs : List (Key × V)), (more.map (·.1)).Nodup → (∀ k ∈ more.map (·.1), valV kvs k = none) → mergeK kvs more = kvs ++ more
  | [], kvs, _, _ => by rw [List.append_nil]; rfl
  | p :: more, kvs, nd, h => by
    rw [List.map_cons, List.nodup_cons] at nd
    show mergeK (putK kvs p.1 p.2) more = _
    have hp := h p.1 (by rw [List.map_cons]; exact List.mem_cons_self)
    rw [merge_new more _ nd.2 fun k hk => by
      rw [valV_put, if_neg (fun z : k = p.1 => nd.1 (by rw [← z]; exact hk))]
      exact h k (by rw [List.map_cons]; exact List.mem_cons_of_mem _ hk), putK_new _ hp, List.append_assoc]
    rfl
theorem merge_ops {o : Ops} (nd : (o.map (·.1)).Nodup) : mergeK [] (opsK o) = opsK o := by
  have := merge_new (opsK o) [] (by
    rw [opsK_keys, List.Nodup, List.pairwise_map]
    exact List.Pairwise.imp (fun h z => h (Sum.inr.inj z)) nd) (fun _ _ => rfl)
  rw [this]
  rfl
section
variable {P : Program} {w : World} {K : PySem.W.Frag} {mg : Str → Option Value} {base : Heap}
variable {fII fIW fM fO : Addr}
theorem sc_ops : FnScope ["_law_source", "_law_many", "_law_names", "_law_name"] ["_law_source", "_law_many"] (defScope s_ops) := ⟨rfl, rfl, rfl, by decide +kernel, rfl, by decide +kernel, by decide +kernel⟩
theorem ok_draw_ops {f : Addr} {fd fdM fdO : FuncData} (F : Fun K "_law_operations" "_law_operations" s_ops f fd) (T : TxtF K mg fII fIW)
    (GM : FnOk P w K mg base CX0 2 fM fdM ["_law_source", "_law_some"] spMixed) (b_mixed : Binds K fdM ["_law_source", "_law_some"] []) (g_mixed : mg "_law_mixed" = some (.ref fM)) (k_mixed : PySem.W.keepIn K (.ref fM) = true)
    (GO : FnOk P w K mg base CX0 2 fO fdO ["_law_source", "_law_some"] spOne) (b_one : Binds K fdO ["_law_source", "_law_some"] []) (g_one : mg "_law_one" = some (.ref fO)) (k_one : PySem.W.keepIn K (.ref fO) = true) : FnOk P w K mg base CX0 3 f fd ["_law_source", "_law_many"] spDrawOps := by
  refine F.ok sc_ops (fun vs H Q E h => ?_) (fun cdv A outer s H vs Q E hr h => ?_)
  · obtain ⟨a, m, x, y, z, rfl, _⟩ := h
    rfl
  · obtain ⟨a, m, x, y, z, rfl, ha, hm, k⟩ := h
    refine ⟨_, (pss_cons (ps_set (i := 2) sc_ops.nd rfl (Or.inl rfl) (pe_slice sl_listG (pe_call GM (hr.mono (by decide)) (by rfl) g_mixed k_mixed b_mixed .nil pass0 (pa_cons (pv 0) (pa_cons (pe_lstG (pa_cons pe_str (pa_cons pe_str (pa_cons pe_str (pa_cons pe_str (pa_cons pe_str (pa_cons pe_str (pa_cons pe_str (pa_cons pe_str pa_nil))))))))) pa_nil))) po_none (po_some (pv 1))))
      (pss_one (ps_ret (pe_callTy (call_dictP rfl) (by rfl) T.b_dict (by decide +kernel) (pa_cons (pe_lc (own := [("_law_name", 3)]) (g := gName 3) (tt := tYes) rfl sc_ops.nd (pi_list (pv 2)) (blkOk_by (own := [("_law_name", 3)]) (N := ["_law_source", "_law_many", "_law_names", "_law_name"]) (sc := defScope s_ops) (by decide +kernel)) (fun _ _ _ _ _ => pg_name (i := 3) sc_ops.nd rfl (Or.inl rfl)) (fun _ _ _ _ _ => pts_nil) (fun _ _ _ _ _ => pe_tupG (pa_cons (pv 3) (pa_cons (pe_call GO (hr.mono (by decide)) (by rfl) g_one k_one b_one .nil pass0 (pa_cons (pv 0) (pa_cons (pe_lstG (pa_cons pe_int (pa_cons pe_int (pa_cons pe_int (pa_cons pe_int (pa_cons pe_int (pa_cons pe_int (pa_cons pe_int (pa_cons pe_int pa_nil))))))))) pa_nil))) pa_nil)))) pa_nil))))), ?_⟩
    have nl : ∀ n : Nat, n ≤ 8 → n ≤ sizeLine := fun n h => by rw [sizeLine_eq]; omega
    refine ⟨_, rfl, nl _ (by decide), fun p1 H1 n1 s1 e1 => ?_⟩
    refine ⟨a, p1, _, x, y, z, rfl, s1 _ _ ha, .inl e1, by show 8 ≤ 1000; decide, ?_, fun p2 ys x' y' z' H2 n2 perm bt e2 e3 => ?_⟩
    · intro v hv
      have hv : v ∈ names8.map V.str := hv
      obtain ⟨t, ht, rfl⟩ := List.mem_map.mp hv
      exact .inl ⟨t, rfl, names8_str t ht⟩
    · obtain ⟨zs, pz, rfl⟩ := perm_strs (ns := names8) perm
      have zl : zs.length = 8 := pz.length_eq
      refine ⟨_, rfl, _, rfl, p2, _, rfl, SqL.of e3, fun p3 H3 n3 s3 e4 => ?_⟩
      have ec : cutV (zs.map V.str) none (some (m : Int)) = (zs.take m).map V.str := by
        unfold cutV
        rw [HT.sIx_none, HT.sIx_nat, List.length_map, List.drop_zero, List.map_take, Nat.sub_zero, Nat.min_eq_left (by omega)]
      rw [ec] at e4
      have p2a : p3 ≠ a := fun z => by
        rw [z, e2] at n3
        cases n3
      refine ⟨_, rfl, p3, rfl, ⟨_, SqL.of e4⟩, fun D nD => ?_⟩
      have nDa : D ≠ a := fun z => by
        rw [z, s3 _ _ e2] at nD
        cases nD
      have e2' := s3 _ _ e2
      refine lc_it (walk_list (xs := (zs.take m).map V.str)) (fun j Hx => PairI H3 a D (zs.take m) j Hx) ⟨fun b o _ e => ?_, ⟨x', y', z', ?_⟩, [], [], upd_same, rfl, fun _ h => (nomatch h), .nil, rfl⟩ (fun j Hx _ z => SqL.of (z.but _ _ p2a e4)) (fun j x Ha Hb hj z1 z2 => ?_) (fun Hx z => ?_)
      · rw [upd_ne (ne_of_none e nD)]
        exact e
      · rw [upd_ne (Ne.symm nDa)]
        exact e2'
      · obtain ⟨rfl, hx⟩ := z2
        obtain ⟨but, ⟨x1, y1, z1', src⟩, ps, o, q1, q2, q3, q4, q5⟩ := z1
        rw [List.length_map] at hj
        have et : (zs.take m)[j]? = some (zs.take m)[j] := List.getElem?_eq_getElem hj
        generalize (zs.take m)[j] = t at et
        rw [List.getElem?_map, et] at hx
        have hx2 : V.str t = x := Option.some.inj hx
        subst hx2
        refine ⟨rfl, _, rfl, _, rfl, nl _ (by decide), fun p4 H4 n4 s4 e5 => ?_⟩
        refine ⟨a, p4, _, x1, y1, z1', rfl, s4 _ _ src, e5, by show 0 < 8; decide, by show 8 ≤ 1000; decide, ne_of_none src n4, fun v x5 y5 z5 H5 mv bt5 e6 => ?_⟩
        have mv : v ∈ ([0, 1, 1, 2, 2, 2, 3, 2] : List Int).map V.int := mv
        obtain ⟨n, hn, rfl⟩ := List.mem_map.mp mv
        have tl : (zs.take m).length ≤ 8 := by rw [List.length_take]; omega
        refine ⟨nl _ (by show 2 ≤ 8; decide), fun T H6 n6 s6 e7 => ⟨_, s6 _ _ (bt5 _ _ nDa (s4 _ _ q1)), by rw [List.length_map, q5, sizeLine_eq]; omega, ?_⟩⟩
        have hD6 := s6 _ _ (bt5 _ _ nDa (s4 _ _ q1))
        refine ⟨fun b o nb e => ?_, ⟨x5, y5, z5, ?_⟩, ps ++ [T], o ++ [(t, n)], ?_, ?_, fun q hq => ?_, ?_, by rw [List.length_append, q5]; rfl⟩
        · rw [upd_ne (ne_of_none e nD)]
          exact s6 _ _ (bt5 _ _ nb (s4 _ _ (but _ _ nb e)))
        · rw [upd_ne (Ne.symm nDa)]
          exact s6 _ _ e6
        · rw [upd_same, List.map_append]
          rfl
        · rw [List.map_append, q2, List.take_succ, et]
          rfl
        · rcases List.mem_append.mp hq with h | h
          · exact q3 q h
          · rw [List.mem_singleton.mp h]
            exact low8 n hn
        · have up : ∀ {p : Addr} {us : List V}, H6 p = some (.tup us) → upd H6 D (.lst (ps.map V.ref ++ [.ref T])) p = some (.tup us) := fun {p us} e => by
            rw [upd_ne (fun z => by rw [z, hD6] at e; cases e)]
            exact e
          have e8 : opsK (o ++ [(t, n)]) = opsK o ++ [(Sum.inr t, V.int n)] := by
            unfold opsK
            rw [List.map_append]
            rfl
          rw [e8]
          refine paired_snoc (R := fun (p : Addr) (kv : Key × V) => upd H6 D (.lst (ps.map V.ref ++ [.ref T])) p = some (.tup [kV kv.1, kv.2])) (x := T) (y := ((Sum.inr t, V.int n) : Key × V)) (up e7) (paired_imp (fun p kv e => up (s6 _ _ (bt5 _ _ (fun z => ?_) (s4 _ _ e)))) q4)
          rw [z, src] at e
          cases e
      · obtain ⟨but, ⟨x1, y1, z1', src⟩, ps, o, q1, q2, q3, q4, q5⟩ := z
        rw [List.length_map, List.take_length] at q2
        have nd : (o.map (·.1)).Nodup := by
          rw [q2]
          exact (pz.nodup_iff.mpr names8_nd).sublist (List.take_sublist _ _)
        have hin : ∀ q ∈ o, q.1 ∈ names8 := fun q hq => by
          have : q.1 ∈ o.map (·.1) := List.mem_map_of_mem hq
          rw [q2] at this
          exact pz.mem_iff.mp (List.mem_of_mem_take this)
        have ol : o.length = m := by
          have := congrArg List.length q2
          rw [List.length_map, List.length_take] at this
          omega
        refine ⟨D, ps, opsK o, rfl, SqL.of q1, paired_imp (fun _ _ e => .inl (.inl e)) q4, fun p np => ?_⟩
        rw [merge_ops nd]
        have bt0 : But H Hx a := fun b o nb e => but _ _ nb (s3 _ _ (bt _ _ nb (s1 _ _ e)))
        have npH : H p = none := by
          cases e : H p with
          | none => rfl
          | some u =>
            by_cases z : p = a
            · rw [z, src] at np
              cases np
            · rw [bt0 _ _ z e] at np
              cases np
        refine k p o x1 y1 z1' _ npH ol (fun q hq => ⟨hin q hq, q3 q hq⟩) nd (fun b u nb e => ?_) ?_ upd_same
        · rw [upd_ne (ne_of_none e npH)]
          exact bt0 _ _ nb e
        · rw [upd_ne (fun z => by rw [← z, src] at np; cases np)]
          exact src
end
end Mine

set_option maxRecDepth 100000
set_option maxHeartbeats 4000000
namespace Mine
open PySem L2
abbrev s_rows : Stmt := top 47
def rowStr : RowD → Str
  | .ask op _ => op
  | .go _ => "go"
  | .fin w => w
def RowFine (dd : RowD) : Prop := PyData.strOk (rowStr dd) = true ∧ dd ≠ .fin "zz"
def spDrawRows : Sp := fun vs H Q _ => ∃ (a d : Addr) (o : Ops) (n : Nat) (x y z : Int), vs = [.ref a, .ref d, .int (n : Int)] ∧ H a = some (.lst [.int x, .int y, .int z]) ∧ H d = some (.dK (opsK o)) ∧ (o.map (·.1)).Nodup ∧ o.length < 64 ∧ (∀ q ∈ o, q.1 ∈ names8 ∧ 0 ≤ q.2 ∧ q.2 ≤ 3) ∧ 1 ≤ n ∧ n ≤ 400 ∧
  ∀ (p : Addr) (xs : List V) (rs : List RowD) (x' y' z' : Int) (H' : Hp), H p = none → rs.length = n → OkRows o rs → (∀ dd ∈ rs, RowFine dd) → But H H' a → H' a = some (.lst [.int x', .int y', .int z']) → H' p = some (.lst xs) → Rows H' xs rs → Q (.ref p) H'
structure FixR (H : Hp) (a p p3 : Addr) : Prop where
  ha : ∃ x y z : Int, H a = some (.lst [.int x, .int y, .int z])
  np : H p = none
  np3 : H p3 = none
  ne : p ≠ p3
theorem FixR.pa {H : Hp} {a p p3 : Addr} (f : FixR H a p p3) : p ≠ a := fun z => by
  obtain ⟨_, _, _, e⟩ := f.ha
  have := f.np
  rw [z, e] at this
  cases this
theorem FixR.p3a {H : Hp} {a p p3 : Addr} (f : FixR H a p p3) : p3 ≠ a := fun z => by
  obtain ⟨_, _, _, e⟩ := f.ha
  have := f.np3
  rw [z, e] at this
  cases this
structure RowsI (H : Hp) (a p p3 : Addr) (ys : List Str) (o : Ops) (n j : Nat) (H' : Hp) : Prop where
  but : But H H' a
  src : SrcAt H' a
  nm : H' p3 = some (.lst (ys.map V.str))
  made : ∃ xs rs, H' p = some (.lst xs) ∧ rs.length = j ∧ Rows H' xs rs ∧ ∀ dd ∈ rs, OkRow o n dd ∧ RowFine dd
theorem RowsI.go {H H' H'' : Hp} {a p p3 : Addr} {ys : List Str} {o : Ops} {n j : Nat} (r : RowsI H a p p3 ys o n j H') (s : Same H' H'') : RowsI H a p p3 ys o n j H'' := by
  obtain ⟨b, ⟨x, y, z, e⟩, c, xs, rs, d1, d2, d3, d4⟩ := r
  exact ⟨fun q u nq e => s _ _ (b q u nq e), ⟨x, y, z, s _ _ e⟩, s _ _ c, xs, rs, s _ _ d1, d2, d3.same s, d4⟩
theorem RowsI.draw {H H' H'' : Hp} {a p p3 : Addr} {ys : List Str} {o : Ops} {n j : Nat} (f : FixR H a p p3) (r : RowsI H a p p3 ys o n j H') (s : But H' H'' a) (e2 : SrcAt H'' a) : RowsI H a p p3 ys o n j H'' := by
  obtain ⟨b, ⟨x, y, z, e⟩, c, xs, rs, d1, d2, d3, d4⟩ := r
  refine ⟨b.trans s, e2, s _ _ f.p3a c, xs, rs, s _ _ f.pa d1, d2, ⟨d3.1, fun i dd ed => ?_⟩, d4⟩
  obtain ⟨v, h1, h2⟩ := d3.2 i dd ed
  have up : ∀ {q : Addr} {us : List V}, H' q = some (.tup us) → H'' q = some (.tup us) := fun {q us} eq => s _ _ (fun z => by rw [z, e] at eq; cases eq) eq
  refine ⟨v, h1, ?_⟩
  cases dd with
  | ask op ns =>
    obtain ⟨q, t, e1, k1, k2⟩ := h2
    exact ⟨q, t, e1, up k1, up k2⟩
  | go m =>
    obtain ⟨q, e1, k1⟩ := h2
    exact ⟨q, e1, up k1⟩
  | fin m =>
    obtain ⟨q, e1, k1⟩ := h2
    exact ⟨q, e1, up k1⟩
theorem RowsI.put {H H' : Hp} {a p p3 : Addr} {ys : List Str} {o : Ops} {n j : Nat} (f : FixR H a p p3) (r : RowsI H a p p3 ys o n j H') : ∃ xs, H' p = some (.lst xs) ∧ xs.length = j ∧ ∀ (T : Addr) (dd : RowD), TRow H' (.ref T) dd → OkRow o n dd → RowFine dd → RowsI H a p p3 ys o n (j + 1) (upd H' p (.lst (xs ++ [.ref T]))) := by
  obtain ⟨b, ⟨x, y, z, e⟩, c, xs, rs, d1, d2, d3, d4⟩ := r
  refine ⟨xs, d1, by rw [d3.1, d2], fun T dd t1 t2 t3 => ⟨fun q u nq eq => ?_, ⟨x, y, z, ?_⟩, ?_, xs ++ [.ref T], rs ++ [dd], upd_same, by rw [List.length_append, d2]; rfl, ⟨by rw [List.length_append, List.length_append, d3.1]; rfl, fun i di ei => ?_⟩, fun q hq => ?_⟩⟩
  · rw [upd_ne (ne_of_none eq f.np)]
    exact b q u nq eq
  · rw [upd_ne (Ne.symm f.pa)]
    exact e
  · rw [upd_ne (Ne.symm f.ne)]
    exact c
  · by_cases hi : i < rs.length
    · rw [List.getElem?_append_left hi] at ei
      obtain ⟨v, h1, h2⟩ := d3.2 i di ei
      exact ⟨v, by rw [List.getElem?_append_left (by rw [d3.1]; exact hi)]; exact h1, h2.other d1⟩
    · rw [List.getElem?_append_right (by omega)] at ei
      have hz : i - rs.length = 0 := by
        have := (List.getElem?_eq_some_iff.mp ei).1
        rw [List.length_singleton] at this
        omega
      rw [hz] at ei
      cases ei
      exact ⟨.ref T, by rw [List.getElem?_append_right (by rw [d3.1]; omega), d3.1, hz]; rfl, t1.other d1⟩
  · rcases List.mem_append.mp hq with h | h
    · exact d4 q h
    · rw [List.mem_singleton.mp h]
      exact ⟨t2, t3⟩
def words4 : List Str := ["good", "bad", "done", "x"]
theorem words4_raw : ∀ t ∈ words4, isNm t = true ∧ t.length ≤ 8 ∧ PyData.strOk t = true ∧ t ≠ "zz" := by decide +kernel
theorem words4_ok (t : Str) (h : t ∈ words4) : isNm t = true ∧ t.length ≤ 8 ∧ RowFine (.fin t) := by
  obtain ⟨a, b, c, d⟩ := words4_raw t h
  exact ⟨a, b, c, fun z => d (RowD.fin.inj z)⟩
theorem go_ok : PyData.strOk ("go" : Str) = true := by decide +kernel
def tElse : TS := fun D σ H' => ∃ (H : Hp) (a p p3 : Addr) (ys : List Str) (o : Ops) (n j : Nat) (way : Int) (v1 v5 v7 v8 : Option V), σ = [some (.ref a), v1, some (.int (n : Int)), some (.ref p), some (.ref p3), v5, some (.int way), v7, v8] ∧ FixR H a p p3 ∧ RowsI H a p p3 ys o n j H' ∧ 1 ≤ n ∧ n ≤ 400 ∧ j ≤ 400 ∧
  ∀ H'', RowsI H a p p3 ys o n (j + 1) H'' → D.nx σ H''
section
variable {P : Program} {w : World} {K : PySem.W.Frag} {mg : Str → Option Value} {base : Heap}
variable {fII fIW fN fO : Addr}
theorem sc_rows : FnScope ["_law_source", "_law_operations_here", "_law_many", "_law_rows_here", "_law_names", "_law_k", "_law_way", "_law_name", "_law_j"] ["_law_source", "_law_operations_here", "_law_many"] (defScope s_rows) := ⟨rfl, rfl, rfl, by decide +kernel, rfl, by decide +kernel, by decide +kernel⟩
theorem ok_draw_rows {f : Addr} {fd fdN fdO : FuncData} (F : Fun K "_law_rows" "_law_rows" s_rows f fd) (T : TxtF K mg fII fIW) (h_range : mg "range" = none) (h_sorted : mg "sorted" = none)
    (GN : FnOk P w K mg base CX0 1 fN fdN ["_law_source", "_law_many"] spNext) (b_next : Binds K fdN ["_law_source", "_law_many"] []) (g_next : mg "_law_next" = some (.ref fN)) (k_next : PySem.W.keepIn K (.ref fN) = true)
    (GO : FnOk P w K mg base CX0 2 fO fdO ["_law_source", "_law_some"] spOne) (b_one : Binds K fdO ["_law_source", "_law_some"] []) (g_one : mg "_law_one" = some (.ref fO)) (k_one : PySem.W.keepIn K (.ref fO) = true) : FnOk P w K mg base CX0 3 f fd ["_law_source", "_law_operations_here", "_law_many"] spDrawRows := by
  refine F.ok sc_rows (fun vs H Q E h => ?_) (fun cdv A outer s H vs Q E hr h => ?_)
  · obtain ⟨a, d, o, n, x, y, z, rfl, _⟩ := h
    rfl
  · obtain ⟨a, d, o, n, x, y, z, rfl, ha, hd, nd, few, okn, n1, n2, k⟩ := h
    refine ⟨_, (pss_cons (ps_par (i := 3) (j := 4) rfl sc_rows.nd rfl rfl (by decide) rfl rfl (pa_cons (pe_lstG pa_nil) (pa_cons (pe_callB cr_sortedS (by rfl) h_sorted (by decide +kernel) (pa_cons (pe_callTy (call_listD rfl) (by rfl) T.b_list (by decide +kernel) (pa_cons (pv 1) pa_nil)) pa_nil)) pa_nil)) rfl)
      (pss_cons (ps_for PassesOwn.never rfl (pi_range1 (by rfl) h_range (pa_cons (pv 2) pa_nil)) (pg_name (i := 5) sc_rows.nd rfl (Or.inl rfl))
        (pss_cons (ps_set (i := 6) sc_rows.nd rfl (Or.inl rfl) (pe_call GN (hr.mono (by decide)) (by rfl) g_next k_next b_next .nil pass0 (pa_cons (pv 0) (pa_cons pe_int pa_nil))))
        (pss_one (ps_if (PW.pt (pw_and (pt_cmpR op_lt (pv 6) pe_int (nomark _)) (pw_and1 (pt_cmpR (op_neD hr.units) (pv 4) (pe_lstG pa_nil) (nomark _)))))
          (pss_cons (ps_set (i := 7) sc_rows.nd rfl (Or.inl rfl) (pe_call GO (hr.mono (by decide)) (by rfl) g_one k_one b_one .nil pass0 (pa_cons (pv 0) (pa_cons (pv 4) pa_nil)))) (pss_one (ps_expr (pe_bm PySem.F.plainAttrs_list PySem.F.slot_list_append PySem.F.type_list_append mt_append (pv 3) (pa_cons (pe_tupG (pa_cons pe_str (pa_cons (pv 7) (pa_cons (pe_callTy call_tupleG (by rfl) T.b_tuple (by decide +kernel) (pa_cons (pe_lc (own := [("_law_j", 8)]) (g := gName 8) (tt := tYes) rfl sc_rows.nd (pi_range1 (by rfl) h_range (pa_cons (pe_dget (hu_of hr) (pv 1) (pv 7) (fun _ _ => rfl)) pa_nil)) (blkOk_by (own := [("_law_j", 8)]) (N := ["_law_source", "_law_operations_here", "_law_many", "_law_rows_here", "_law_names", "_law_k", "_law_way", "_law_name", "_law_j"]) (sc := defScope s_rows) (by decide +kernel)) (fun _ _ _ _ _ => pg_name (i := 8) sc_rows.nd rfl (Or.inl rfl)) (fun _ _ _ _ _ => pts_nil) (fun _ _ _ _ _ => (pe_call GN (hr.mono (by decide)) (by rfl) g_next k_next b_next .nil pass0 (pa_cons (pv 0) (pa_cons (pv 2) pa_nil))))) pa_nil)) pa_nil)))) pa_nil)))))
          (pss_one (ps_imp (t' := tElse) (ps_if (pt_cmpR op_eq (pv 6) pe_int (nomark _)) (pss_one (ps_expr (pe_bm PySem.F.plainAttrs_list PySem.F.slot_list_append PySem.F.type_list_append mt_append (pv 3) (pa_cons (pe_tupG (pa_cons pe_str (pa_cons (pe_call GN (hr.mono (by decide)) (by rfl) g_next k_next b_next .nil pass0 (pa_cons (pv 0) (pa_cons (pv 2) pa_nil))) pa_nil))) pa_nil)))) (pss_one (ps_expr (pe_bm PySem.F.plainAttrs_list PySem.F.slot_list_append PySem.F.type_list_append mt_append (pv 3) (pa_cons (pe_tupG (pa_cons pe_str (pa_cons (pe_call GO (hr.mono (by decide)) (by rfl) g_one k_one b_one .nil pass0 (pa_cons (pv 0) (pa_cons (pe_lstG (pa_cons pe_str (pa_cons pe_str (pa_cons pe_str (pa_cons pe_str pa_nil))))) pa_nil))) pa_nil))) pa_nil))))) (fun D σ H' q => by
        obtain ⟨H, a, p, p3, ys, o, n, j, way, v1, v5, v7, v8, rfl, fx, ri, n1, n2, j2, kk⟩ := q
        have two : ∀ v u : V, [v, u].length ≤ sizeLine := fun v u => by rw [sizeLine_eq]; exact Nat.le_trans (show 2 ≤ 2 from Nat.le_refl 2) (by decide)
        obtain ⟨x, y, z, src⟩ := ri.src
        obtain ⟨xs0, q0, _, _⟩ := ri.put fx
        refine ⟨_, rfl, rfl, _, rfl, ?_⟩
        refine ite2 (fun _ => ?_) (fun _ => ?_)
        · refine ⟨_, rfl, .inl ⟨rfl, _, SqL.of q0⟩, _, rfl, _, rfl, a, (n : Int), x, y, z, rfl, by omega, ?_, src, fun k u1 u2 u3 H4 k0 k1 bt e4 => ?_⟩
          · rw [Int.natAbs_natCast]
            exact Nat.lt_of_le_of_lt n2 (by decide)
          · refine ⟨two _ _, fun T H5 nT s5 e5 => ?_⟩
            have r5 := (ri.draw fx bt ⟨u1, u2, u3, e4⟩).go s5
            obtain ⟨xs, q1, q2, q3⟩ := r5.put fx
            exact ⟨p, xs, .ref T, rfl, rfl, q1, by rw [q2, sizeLine_eq]; omega, kk _ (q3 T (.go k) ⟨T, rfl, e5⟩ ⟨k0, k1⟩ ⟨go_ok, fun z => nomatch z⟩)⟩
        · refine ⟨_, rfl, .inl ⟨rfl, _, SqL.of q0⟩, _, rfl, Nat.le_trans (show 4 ≤ 4 from Nat.le_refl 4) (by rw [sizeLine_eq]; decide), fun p4 H3 n3 s3 e3 => ?_⟩
          refine ⟨a, p4, _, x, y, z, rfl, s3 _ _ src, e3, by show 0 < 4; decide, by show 4 ≤ 1000; decide, ne_of_none src n3, fun v x1 y1 z1 H4 mv bt e4 => ?_⟩
          have mv : v ∈ words4.map V.str := mv
          obtain ⟨t, ht, rfl⟩ := List.mem_map.mp mv
          refine ⟨two _ _, fun T H5 nT s5 e5 => ?_⟩
          have r5 := ((ri.go s3).draw fx bt ⟨x1, y1, z1, e4⟩).go s5
          obtain ⟨xs, q1, q2, q3⟩ := r5.put fx
          obtain ⟨w1, w2, w3⟩ := words4_ok t ht
          exact ⟨p, xs, .ref T, rfl, rfl, q1, by rw [q2, sizeLine_eq]; omega, kk _ (q3 T (.fin t) ⟨T, rfl, e5⟩ ⟨w1, w2⟩ w3)⟩)))))))
      (pss_one (ps_ret (pv 3))))), ?_⟩
    refine ⟨Nat.zero_le _, fun p H1 np s1 e1 => ?_⟩
    refine ⟨_, rfl, d, _, rfl, .inl (s1 _ _ hd), fun p2 np2 => ?_⟩
    have keys : ((opsK o).map fun kv => kV kv.1) = (o.map (·.1)).map V.str := by
      unfold opsK
      rw [List.map_map, List.map_map]
      rfl
    refine ⟨p2, o.map (·.1), rfl, SqL.of (by rw [upd_same, keys]), by rw [List.length_map]; exact few, fun ys p3 perm srt np3 => ⟨_, _, rfl, ?_⟩⟩
    have s2 : Same H1 (upd H1 p2 (.lst ((opsK o).map fun kv => kV kv.1))) := sameNew np2 _
    have s13 : Same H1 (upd (upd H1 p2 (.lst ((opsK o).map fun kv => kV kv.1))) p3 (.lst (ys.map V.str))) := same_updN s2 (none_of s2 np3)
    have fx : FixR H a p p3 := ⟨⟨x, y, z, ha⟩, np, none_of s1 (none_of s2 np3), fun q => by
      have := s2 _ _ e1
      rw [q, np3] at this
      cases this⟩
    have ri0 : RowsI H a p p3 ys o n 0 (upd (upd H1 p2 (.lst ((opsK o).map fun kv => kV kv.1))) p3 (.lst (ys.map V.str))) :=
      ⟨fun q u _ e => s13 _ _ (s1 _ _ e), ⟨x, y, z, s13 _ _ (s1 _ _ ha)⟩, upd_same, [], [], s13 _ _ e1, rfl, ⟨rfl, fun i dd e => by simp at e⟩, fun dd h => (nomatch h)⟩
    have da : d ≠ a := fun q => by
      rw [q, ha] at hd
      cases hd
    have inN : ∀ t ∈ ys, ∃ c, opLook o t = some c ∧ 0 ≤ c ∧ c ≤ 3 ∧ t ∈ names8 := fun t ht => by
      obtain ⟨q, hq, rfl⟩ := List.mem_map.mp (perm.mem_iff.mp ht)
      obtain ⟨a1, a2, a3⟩ := okn q hq
      exact ⟨q.2, look_mem nd q hq, a2, a3, a1⟩
    have yl : ys.length < 64 := by
      have := perm.length_eq
      rw [List.length_map] at this
      omega
    refine ⟨_, rfl, (n : Int), rfl, by omega, by omega, for_range (n := n) (fun j σ H' => ∃ v5 v6 v7 v8 : Option V, σ = [some (.ref a), some (.ref d), some (.int (n : Int)), some (.ref p), some (.ref p3), v5, v6, v7, v8] ∧ RowsI H a p p3 ys o n j H') ⟨_, _, _, _, rfl, ri0⟩ (fun j σ H' hj z => ?_) (fun σ H' z => ?_)⟩
    · obtain ⟨v5, v6, v7, v8, rfl, ri⟩ := z
      obtain ⟨x1, y1, z1, src⟩ := ri.src
      refine ⟨_, rfl, a, 9, x1, y1, z1, rfl, by decide, by decide, src, fun way u1 u2 u3 H4 w0 w1 bt e4 => ?_⟩
      have r4 := ri.draw fx bt ⟨u1, u2, u3, e4⟩
      refine ⟨_, rfl, _, _, rfl, rfl, _, rfl, ?_⟩
      refine ite2 (fun _ => ?_) (fun _ => ?_)
      · refine ⟨_, rfl, Nat.zero_le _, fun p5 H5 n5 s5 e5 => ?_⟩
        have r5 := r4.go s5
        refine ⟨.list (ys.map PyData.str), .list [], strs_dp r5.nm, .lst (SqL.of e5) .nil, strs_shaped ys (fun t ht => names8_str t (inN t ht).choose_spec.2.2.2), by decide +kernel, _, rfl, ?_⟩
        by_cases hy : ys = []
        · have e : (!PyData.eqv (.list (ys.map PyData.str)) (.list [])) = false := by rw [hy]; simp [PyData.eqv, PyData.eqvAll]
          rw [e]
          refine iteF ?_
          exact ⟨H, a, p, p3, ys, o, n, j, way, _, _, _, _, rfl, fx, r5, n1, n2, by omega, fun H'' rr => ⟨_, _, _, _, rfl, rr⟩⟩
        · have e : (!PyData.eqv (.list (ys.map PyData.str)) (.list [])) = true := by
            cases ys with
            | nil => exact absurd rfl hy
            | cons t ts => simp [PyData.eqv, PyData.eqvAll]
          rw [e]
          refine iteT ?_
          obtain ⟨x5, y5, z5, src5⟩ := r5.src
          have yp : 0 < ys.length := List.length_pos_iff.mpr hy
          refine ⟨_, rfl, _, rfl, a, p3, _, x5, y5, z5, rfl, src5, r5.nm, by rw [List.length_map]; exact yp, by rw [List.length_map]; omega, Ne.symm fx.p3a, fun v x6 y6 z6 H6 mv bt6 e6 => ?_⟩
          obtain ⟨t, ht, rfl⟩ := List.mem_map.mp mv
          obtain ⟨c, c1, c2, c3, c4⟩ := inN t ht
          have r6 := r5.draw fx bt6 ⟨x6, y6, z6, e6⟩
          obtain ⟨xs0, q0, _, _⟩ := r6.put fx
          refine ⟨_, rfl, .inl ⟨rfl, _, SqL.of q0⟩, _, rfl, _, rfl, _, rfl, d, _, rfl, .inl ⟨opsK o, .inr t, .inl (r6.but _ _ da hd), rfl, (by rw [val_ops, c1]; rfl)⟩, c, rfl, by omega, by omega, fun D nD => ?_⟩
          have Da : D ≠ a := fun q => by
            rw [q, e6] at nD
            cases nD
          refine lc_it (walk_range (lo := 0) (n := c.toNat)) (fun i Hx => But H6 Hx a ∧ SrcAt Hx a ∧ ∃ ns : List Int, Hx D = some (.lst (ns.map V.int)) ∧ ns.length = i ∧ ∀ m ∈ ns, 0 ≤ m ∧ m < (n : Int)) ⟨fun q u _ e => ?_, ⟨x6, y6, z6, ?_⟩, [], upd_same, rfl, fun _ h => (nomatch h)⟩ (fun _ _ _ _ => trivial) (fun i xx Ha Hb hi z1 z2 => ?_) (fun Hx z => ?_)
          · rw [upd_ne (ne_of_none e nD)]
            exact e
          · rw [upd_ne (Ne.symm Da)]
            exact e6
          · obtain ⟨b1, ⟨x7, y7, z7, e7⟩, ns, b2, b3, b4⟩ := z1
            obtain ⟨rfl, rfl⟩ := z2
            refine ⟨rfl, _, rfl, _, rfl, a, (n : Int), x7, y7, z7, rfl, by omega, ?_, e7, fun m u7 u8 u9 H8 m0 m1 bt8 e8 => ?_⟩
            · rw [Int.natAbs_natCast]
              exact Nat.lt_of_le_of_lt n2 (by decide)
            · refine ⟨_, bt8 _ _ Da b2, by rw [List.length_map, b3, sizeLine_eq]; omega, fun q u nq e => ?_, ⟨u7, u8, u9, ?_⟩, ns ++ [m], ?_, by rw [List.length_append, b3]; rfl, fun k hk => ?_⟩
              · rw [upd_ne (ne_of_none e nD)]
                exact bt8 _ _ nq (b1 _ _ nq e)
              · rw [upd_ne (Ne.symm Da)]
                exact e8
              · rw [upd_same, List.map_append]
                rfl
              · rcases List.mem_append.mp hk with h | h
                · exact b4 k h
                · rw [List.mem_singleton.mp h]
                  exact ⟨m0, m1⟩
          · obtain ⟨b1, b5, ns, b2, b3, b4⟩ := z
            have r7 := r6.draw fx b1 b5
            refine ⟨D, _, rfl, .inl b2, fun tt H8 s8 e8 => ?_⟩
            refine ⟨by rw [sizeLine_eq]; exact Nat.le_trans (show 3 ≤ 3 from Nat.le_refl 3) (by decide), fun T H9 nT s9 e9 => ?_⟩
            have r9 := (r7.go s8).go s9
            obtain ⟨xs, q1, q2, q3⟩ := r9.put fx
            refine ⟨p, xs, .ref T, rfl, rfl, q1, by rw [q2, sizeLine_eq]; omega, ?_⟩
            exact ⟨_, _, _, _, rfl, q3 T (.ask t ns) ⟨T, tt, rfl, e9, s9 _ _ e8⟩ ⟨by rw [c1, b3]; congr 1; omega, by omega, b4⟩ ⟨names8_str t c4, fun z => nomatch z⟩⟩
      · exact ⟨H, a, p, p3, ys, o, n, j, way, _, _, _, _, rfl, fx, r4, n1, n2, by omega, fun H'' rr => ⟨_, _, _, _, rfl, rr⟩⟩
    · obtain ⟨v5, v6, v7, v8, rfl, bu, ⟨x1, y1, z1, src⟩, nm, xs, rs, d1, d2, d3, d4⟩ := z
      refine ⟨_, rfl, k p xs rs x1 y1 z1 H' np d2 (fun i dd e => ?_) (fun dd h => (d4 dd h).2) bu src d1 d3⟩
      rw [d2]
      exact (d4 dd (List.mem_of_getElem? e)).1
end
end Mine

set_option maxRecDepth 100000
set_option maxHeartbeats 4000000
/-! things in groups: each leads to another of its group, the last one to itself. Plain mathematics -/
namespace Wk
def put (ls : Nat → Nat) (k v : Nat) : Nat → Nat := fun i => if i = k then v else ls i
theorem put_same (ls : Nat → Nat) (k v : Nat) : put ls k v k = v := if_pos rfl
theorem put_ne {ls : Nat → Nat} {k v i : Nat} (h : i ≠ k) : put ls k v i = ls i := if_neg h
structure Rep (n : Nat) (ls rank rep : Nat → Nat) : Prop where
  lt : ∀ i, i < n → ls i < n
  rlt : ∀ i, i < n → rep i < n
  up : ∀ i, i < n → rep (ls i) = rep i
  own : ∀ i, i < n → ls i = i → rep i = i
  dn : ∀ i, i < n → ls i ≠ i → rank (ls i) < rank i
theorem Rep.root {n : Nat} {ls rank rep : Nat → Nat} (r : Rep n ls rank rep) : ∀ (m i : Nat), rank i ≤ m → i < n → ls (rep i) = rep i ∧ rep (rep i) = rep i
  | m, i, hm, hi => by
    by_cases h : ls i = i
    · have := r.own i hi h
      rw [this]
      exact ⟨h, this⟩
    · have d := r.dn i hi h
      cases m with
      | zero => omega
      | succ m =>
        have := Rep.root r m (ls i) (by omega) (r.lt i hi)
        rw [r.up i hi] at this
        exact this
theorem Rep.root' {n : Nat} {ls rank rep : Nat → Nat} (r : Rep n ls rank rep) {i : Nat} (hi : i < n) : ls (rep i) = rep i ∧ rep (rep i) = rep i := r.root _ i (Nat.le_refl _) hi
theorem Rep.half {n : Nat} {ls rank rep : Nat → Nat} (r : Rep n ls rank rep) {i : Nat} (hi : i < n) (h : ls i ≠ i) :
    Rep n (put ls i (ls (ls i))) rank rep ∧ rank (ls (ls i)) < rank i ∧ rep (ls (ls i)) = rep i := by
  have h1 := r.dn i hi h
  have hl := r.lt i hi
  have h2 : rank (ls (ls i)) < rank i := by
    by_cases z : ls (ls i) = ls i
    · rw [z]
      exact h1
    · have := r.dn _ hl z
      omega
  have h3 : rep (ls (ls i)) = rep i := by rw [r.up _ hl, r.up i hi]
  refine ⟨⟨fun j hj => ?_, r.rlt, fun j hj => ?_, fun j hj e => ?_, fun j hj e => ?_⟩, h2, h3⟩
  · by_cases z : j = i
    · subst z
      rw [put_same]
      exact r.lt _ hl
    · rw [put_ne z]
      exact r.lt j hj
  · by_cases z : j = i
    · subst z
      rw [put_same]
      exact h3
    · rw [put_ne z]
      exact r.up j hj
  · by_cases z : j = i
    · subst z
      rw [put_same] at e
      rw [e] at h2
      omega
    · rw [put_ne z] at e
      exact r.own j hj e
  · by_cases z : j = i
    · subst z
      rw [put_same]
      exact h2
    · rw [put_ne z] at e ⊢
      exact r.dn j hj e
def joinR (rep : Nat → Nat) (a b : Nat) : Nat → Nat := fun i => if rep i = b then a else rep i
theorem Rep.join {n : Nat} {ls rank rep : Nat → Nat} (r : Rep n ls rank rep) {a b : Nat} (ha : a < n) (hb : b < n) (ea : rep a = a) (eb : rep b = b) : ∃ rank', Rep n (put ls b a) rank' (joinR rep a b) := by
  by_cases ab : a = b
  · subst ab
    have l : ls a = a := by
      have := (r.root' ha).1
      rw [ea] at this
      exact this
    have e1 : put ls a a = ls := by
      funext i
      unfold put
      split
      · rename_i z
        rw [z, l]
      · rfl
    have e2 : joinR rep a a = rep := by
      funext i
      unfold joinR
      split
      · rename_i z
        exact z.symm
      · rfl
    rw [e1, e2]
    exact ⟨rank, r⟩
  · have ra : joinR rep a b a = a := by
      unfold joinR
      rw [ea, if_neg ab]
    have rb : joinR rep a b b = a := by
      unfold joinR
      rw [eb, if_pos rfl]
    refine ⟨fun i => if rep i = b then rank i + rank a + 1 else rank i, ⟨fun j hj => ?_, fun j hj => ?_, fun j hj => ?_, fun j hj e => ?_, fun j hj e => ?_⟩⟩
    · by_cases z : j = b
      · subst z
        rw [put_same]
        exact ha
      · rw [put_ne z]
        exact r.lt j hj
    · unfold joinR
      split
      · exact ha
      · exact r.rlt j hj
    · by_cases z : j = b
      · subst z
        rw [put_same, ra, rb]
      · rw [put_ne z]
        unfold joinR
        rw [r.up j hj]
    · by_cases z : j = b
      · subst z
        rw [put_same] at e
        exact absurd e ab
      · rw [put_ne z] at e
        have := r.own j hj e
        unfold joinR
        rw [this, if_neg z]
    · by_cases z : j = b
      · subst z
        rw [put_same]
        show (if rep a = j then rank a + rank a + 1 else rank a) < (if rep j = j then rank j + rank a + 1 else rank j)
        rw [ea, if_neg ab, eb, if_pos rfl]
        omega
      · rw [put_ne z] at e ⊢
        have d := r.dn j hj e
        show (if rep (ls j) = b then rank (ls j) + rank a + 1 else rank (ls j)) < (if rep j = b then rank j + rank a + 1 else rank j)
        rw [r.up j hj]
        split <;> omega
/-- how many groups there are -/
def groups (n : Nat) (rep : Nat → Nat) : Nat := (List.range n).countP fun i => decide (rep i = i)
theorem groups_le (n : Nat) (rep : Nat → Nat) : groups n rep ≤ n := by
  have := List.countP_le_length (p := fun i => decide (rep i = i)) (l := List.range n)
  rw [List.length_range] at this
  exact this
theorem count_less {b : Nat} {p q : Nat → Bool} (hb : p b = true) (hq : q b = false) (he : ∀ i, i ≠ b → q i = p i) : ∀ l : List Nat, l.Nodup → b ∈ l → l.countP q + 1 = l.countP p
  | [], _, h => nomatch h
  | x :: l, nd, h => by
    rw [List.nodup_cons] at nd
    have out : ∀ m : List Nat, b ∉ m → m.countP q = m.countP p := fun m hm => List.countP_congr fun y hy => by rw [he y (fun z => hm (z ▸ hy))]
    by_cases z : x = b
    · subst z
      rw [List.countP_cons_of_pos hb, List.countP_cons_of_neg (by rw [hq]; simp), out l nd.1]
    · have hm : b ∈ l := (List.mem_cons.mp h).elim (fun y => absurd y.symm z) id
      have ih := count_less hb hq he l nd.2 hm
      rw [List.countP_cons, List.countP_cons, he x z]
      omega
theorem groups_join {n : Nat} {ls rank rep : Nat → Nat} (r : Rep n ls rank rep) {a b : Nat} (hb : b < n) (ea : rep a = a) (eb : rep b = b) (ab : a ≠ b) : groups n (joinR rep a b) + 1 = groups n rep := by
  refine count_less (b := b) (decide_eq_true eb) ?_ (fun i hi => ?_) _ List.nodup_range (List.mem_range.mpr hb)
  · refine decide_eq_false ?_
    unfold joinR
    rw [eb, if_pos rfl]
    exact ab
  · refine decide_eq_decide.mpr ?_
    unfold joinR
    by_cases z : rep i = b
    · rw [if_pos z]
      constructor
      · intro y
        rw [← y, ea] at z
        exact absurd z ab
      · intro y
        rw [z] at y
        exact absurd y.symm hi
    · rw [if_neg z]
theorem Rep.start (n : Nat) : Rep n (fun i => i) (fun _ => 0) (fun i => i) := ⟨fun _ h => h, fun _ h => h, fun _ _ => rfl, fun _ _ _ => rfl, fun _ _ h => absurd rfl h⟩
end Wk

set_option maxRecDepth 100000
set_option maxHeartbeats 4000000
namespace Mine
open PySem L2
abbrev s_landed : Stmt := top 48
abbrev s_showsL : Stmt := top 49
abbrev s_stepsL : Stmt := top 50
/-! where a walk lands that goes on at most so often -/
theorem stp_at {rs : List RowD} (ok : GoOk rs) {i : Nat} (hi : i < rs.length) (t : Nat) (h : isGo rs (way rs t i) = false) : stp rs i = way rs t i := by
  have lt : way rs t i < rs.length := Mach.itr_lt (nxt_lt ok) t i hi
  rw [← stp_way ok t i hi]
  exact Mach.stop_fix (nxt_lt ok) lt (nxt_fix h)
theorem all_go {rs : List RowD} (ok : GoOk rs) {i : Nat} (hi : i < rs.length) (h : ∀ t, t ≤ rs.length → isGo rs (way rs t i) = true) : ∀ t, isGo rs (way rs t i) = true := by
  obtain ⟨a, b, ab, bn, e⟩ := Mach.again (nxt_lt ok) hi
  intro t
  induction t using Nat.strongRecOn with
  | _ t ih =>
    by_cases z : t ≤ rs.length
    · exact h t z
    · have e1 : way rs t i = way rs (t - (b - a)) i := by
        have h1 : way rs t i = Mach.itr (nxt rs) (t - b) (way rs b i) := by
          have := Mach.itr_add (nxt rs) b (t - b) i
          rw [show b + (t - b) = t by omega] at this
          exact this
        have h2 : way rs (t - (b - a)) i = Mach.itr (nxt rs) (t - b) (way rs a i) := by
          have := Mach.itr_add (nxt rs) a (t - b) i
          rw [show a + (t - b) = t - (b - a) by omega] at this
          exact this
        rw [h1, h2]
        show Mach.itr _ _ (Mach.itr _ _ _) = Mach.itr _ _ (Mach.itr _ _ _)
        rw [e]
      rw [e1]
      exact ih _ (by omega)
theorem stp_go {rs : List RowD} (ok : GoOk rs) {i : Nat} (hi : i < rs.length) (h : ∀ t, t ≤ rs.length → isGo rs (way rs t i) = true) : isGo rs (stp rs i) = true := by
  obtain ⟨k, e⟩ := Mach.stop_mem (nxt rs) rs.length i
  have : stp rs i = way rs (rs.length + k) i := by
    show Mach.stopAt _ _ _ = Mach.itr _ _ _
    rw [e, Mach.itr_add]
  rw [this]
  exact all_go ok hi h _
/-- the row at which it lands, None in a ring -/
def landV (rs : List RowD) (i : Nat) : V := if isGo rs (stp rs i) then .non else .int (stp rs i : Int)
/-- what is shown there -/
def showD : RowD → List Str
  | .ask op _ => ["ask", op]
  | .go _ => ["hang"]
  | .fin w => ["end", w]
def showAt (rs : List RowD) (j : Nat) : List Str := match rs[j]? with
  | some d => showD d
  | none => []
def stepsAt (rs : List RowD) (j : Nat) : List Int := match rs[j]? with
  | some d => nextsD d
  | none => []
theorem showAt_of {rs : List RowD} {j : Nat} {d : RowD} (e : rs[j]? = some d) : showAt rs j = showD d := by
  unfold showAt
  rw [e]
theorem stepsAt_of {rs : List RowD} {j : Nat} {d : RowD} (e : rs[j]? = some d) : stepsAt rs j = nextsD d := by
  unfold stepsAt
  rw [e]
def landD (d : RowD) (j : Nat) : V := match d with
  | .go _ => .non
  | _ => .int (j : Int)
theorem landV_of {rs : List RowD} {i : Nat} {d : RowD} (e : rs[stp rs i]? = some d) : landV rs i = landD d (stp rs i) := by
  unfold landV isGo
  rw [e]
  cases d <;> rfl
def spLanded : Sp := fun vs H Q _ => ∃ (r : Addr) (xs : List V) (rs : List RowD) (i : Nat), vs = [.ref r, .int (i : Int)] ∧ H r = some (.lst xs) ∧ Rows H xs rs ∧ GoOk rs ∧ i < rs.length ∧ rs.length ≤ 100000 ∧ Q (landV rs i) H
def spShowsL : Sp := fun vs H Q _ => ∃ (r : Addr) (xs : List V) (rs : List RowD) (i : Nat), vs = [.ref r, .int (i : Int)] ∧ H r = some (.lst xs) ∧ Rows H xs rs ∧ GoOk rs ∧ i < rs.length ∧ rs.length ≤ 100000 ∧
  ∀ (t : Addr) (H' : Hp), Same H H' → H' t = some (.tup ((showAt rs (stp rs i)).map V.str)) → Q (.ref t) H'
def spStepsL : Sp := fun vs H Q _ => ∃ (r : Addr) (xs : List V) (rs : List RowD) (i : Nat), vs = [.ref r, .int (i : Int)] ∧ H r = some (.lst xs) ∧ Rows H xs rs ∧ GoOk rs ∧ i < rs.length ∧ rs.length ≤ 100000 ∧
  ∀ (t : Addr) (H' : Hp), H t = none → Same H H' → H' t = some (.lst ((stepsAt rs (stp rs i)).map V.int)) → Q (.ref t) H'
theorem one_ok (v : V) : [v].length ≤ sizeLine := by rw [sizeLine_eq]; exact Nat.succ_le_of_lt (by decide)
theorem two_ok (v u : V) : [v, u].length ≤ sizeLine := by rw [sizeLine_eq]; exact Nat.le_trans (show 2 ≤ 2 from Nat.le_refl 2) (by decide)
section
variable {P : Program} {w : World} {K : PySem.W.Frag} {mg : Str → Option Value} {base : Heap}
variable {fII fIW a_landed : Addr}
theorem sc__law_landed : FnScope ["_law_rows_here", "_law_at", "_law_turn"] ["_law_rows_here", "_law_at"] (defScope s_landed) := ⟨rfl, rfl, rfl, by decide +kernel, rfl, by decide +kernel, by decide +kernel⟩
theorem ok_landed {f : Addr} {fd : FuncData} (F : Fun K "_law_landed" "_law_landed" s_landed f fd) (T : TxtF K mg fII fIW) (h_range : mg "range" = none) : FnOk P w K mg base CX0 1 f fd ["_law_rows_here", "_law_at"] spLanded := by
  refine F.ok sc__law_landed (fun vs H Q E h => ?_) (fun cdv A outer s H vs Q E hr h => ?_)
  · obtain ⟨r, xs, rs, i, rfl, _⟩ := h
    rfl
  · obtain ⟨r, xs, rs, i, rfl, hr0, rows, ok, hi, big, k⟩ := h
    refine ⟨_, (pss_cons (ps_for PassesOwn.never rfl (pi_range1 (by rfl) h_range (pa_cons (pe_op op_add (pe_callB call_len_seq (by rfl) T.b_len PySem.boot_len (pa_cons (pv 0) pa_nil)) pe_int) pa_nil)) (pg_name (i := 2) sc__law_landed.nd rfl (Or.inl rfl)) (pss_cons (ps_if (pt_cmpR op_ne (pe_ix ix_tup (pe_ix ix_list (pv 0) (pv 1) (fun _ _ => rfl)) pe_int (fun _ _ => rfl)) pe_str (nomark _)) (pss_one (ps_ret (pv 1))) pss_nil)
      (pss_one (ps_set (i := 1) sc__law_landed.nd rfl (Or.inl rfl) (pe_ix ix_tup (pe_ix ix_list (pv 0) (pv 1) (fun _ _ => rfl)) pe_int (fun _ _ => rfl))))))
      (pss_one (ps_ret pe_non))), ?_⟩
    refine ⟨_, rfl, r, xs, rfl, .inl (SqL.of hr0), _, _, rfl, rfl, ?_⟩
    rw [rows.1]
    have lt : ∀ t, way rs t i < rs.length := fun t => Mach.itr_lt (nxt_lt ok) t i hi
    refine ⟨((rs.length + 1 : Nat) : Int), by simp, by omega, by omega, for_range (n := rs.length + 1) (fun t σ H' => ∃ v2 : Option V, σ = [some (.ref r), some (.int (way rs t i : Int)), v2] ∧ H' = H ∧ ∀ u, u < t → isGo rs (way rs u i) = true) ⟨_, rfl, rfl, fun u hu => absurd hu (Nat.not_lt_zero u)⟩ ?_ ?_⟩
    · rintro t σ H' ht ⟨v2, rfl, rfl, go⟩
      obtain ⟨q, zs, d, ed, hx, row, hq⟩ := rows.at (lt t)
      refine ⟨_, rfl, _, rfl, r, xs, _, _, rfl, rfl, SqL.of hr0, atI_nat hx, _, _, _, _, rfl, rfl, .inl (.inl hq), at0', rfl, _, rfl, ?_⟩
      rw [go_dec ed]
      by_cases g : isGo rs (way rs t i) = true
      · rw [g]
        refine iteF ?_
        obtain ⟨n, en⟩ := isGo_row g
        obtain ⟨x, hx1, hx2⟩ := rows.2 _ _ en
        obtain ⟨q', rfl, hq'⟩ := hx2
        have e1 : n = (way rs (t + 1) i : Int) := by
          have : way rs (t + 1) i = nxt rs (way rs t i) := Mach.itr_succ _ _ _
          rw [this]
          unfold nxt
          rw [en]
          have := ok _ _ en
          show n = (n.toNat : Int)
          omega
        refine ⟨_, rfl, _, rfl, r, xs, _, _, rfl, rfl, SqL.of hr0, atI_nat hx1, _, _, _, _, rfl, rfl, .inl (.inl hq'), at1', some (V.int (0 + (t : Int))), ?_, rfl, fun u hu => ?_⟩
        · rw [e1]
          rfl
        · by_cases z : u = t
          · rw [z]
            exact g
          · exact go u (by omega)
      · have g := Bool.eq_false_iff.mpr g
        rw [g]
        refine iteT ?_
        refine ⟨_, rfl, ?_⟩
        have es := stp_at ok hi t g
        have : landV rs i = .int (way rs t i : Int) := by
          unfold landV
          rw [es, g]
          rfl
        rw [← this]
        exact k
    · rintro σ H' ⟨v2, rfl, rfl, go⟩
      have : landV rs i = .non := by
        unfold landV
        rw [stp_go ok hi fun t ht => go t (by omega)]
        rfl
      rw [this] at k
      exact k
theorem sc__law_shows : FnScope ["_law_rows_here", "_law_at", "_law_place"] ["_law_rows_here", "_law_at"] (defScope s_showsL) := ⟨rfl, rfl, rfl, by decide +kernel, rfl, by decide +kernel, by decide +kernel⟩
theorem ok_showsL {f : Addr} {fd fd_landed : FuncData} (F : Fun K "_law_shows" "_law_shows" s_showsL f fd) (T : TxtF K mg fII fIW)
    (GLa : FnOk P w K mg base CX0 1 a_landed fd_landed ["_law_rows_here", "_law_at"] spLanded) (b_landed : Binds K fd_landed ["_law_rows_here", "_law_at"] []) (g_landed : mg "_law_landed" = some (.ref a_landed)) (k_landed : PySem.W.keepIn K (.ref a_landed) = true) : FnOk P w K mg base CX0 2 f fd ["_law_rows_here", "_law_at"] spShowsL := by
  refine F.ok sc__law_shows (fun vs H Q E h => ?_) (fun cdv A outer s H vs Q E hr h => ?_)
  · obtain ⟨r, xs, rs, i, rfl, _⟩ := h
    rfl
  · obtain ⟨r, xs, rs, i, rfl, hr0, rows, ok, hi, big, k⟩ := h
    refine ⟨_, (pss_cons (ps_set (i := 2) sc__law_shows.nd rfl (Or.inl rfl) (pe_call GLa (hr.mono (by decide)) (by rfl) g_landed k_landed b_landed .nil pass0 (pa_cons (pv 0) (pa_cons (pv 1) pa_nil))))
      (pss_one (ps_ret (pe_ifExp (pt_cmpR op_isN (pv 2) pe_non (nomark _)) (pe_tupG (pa_cons pe_str pa_nil)) (pe_slice sl_tupA (pe_ix ix_list (pv 0) (pv 2) (fun _ _ => rfl)) po_none (po_some pe_int)))))), ?_⟩
    have lt := stp_lt ok hi
    obtain ⟨q, zs, d, ed, hx, row, hq⟩ := rows.at lt
    refine ⟨_, rfl, _, rfl, r, xs, rs, i, rfl, hr0, rows, ok, hi, big, ?_⟩
    refine ⟨_, rfl, rfl, _, rfl, ?_⟩
    rw [showAt_of ed] at k
    rw [landV_of ed]
    cases d with
    | ask op ns =>
      refine iteF ?_
      obtain ⟨a, t, e, h1, h2⟩ := row
      cases e
      refine ⟨_, rfl, _, rfl, r, xs, _, _, rfl, rfl, SqL.of hr0, atI_nat hx, 2, rfl, q, _, rfl, .inl (.inl h1), fun z => absurd z.2 (show ¬ HT.sIx 3 3 (some 2) = 3 by decide), fun _ p np => ?_⟩
      exact k p _ (sameNew np _) upd_same
    | go n =>
      refine iteT ?_
      exact ⟨one_ok _, fun t H' n s e => k t H' s e⟩
    | fin x =>
      refine iteF ?_
      obtain ⟨a, e, h1⟩ := row
      cases e
      refine ⟨_, rfl, _, rfl, r, xs, _, _, rfl, rfl, SqL.of hr0, atI_nat hx, 2, rfl, q, _, rfl, .inl (.inl h1), fun _ => k q H (Same.refl _) h1, fun z => absurd ⟨rfl, rfl⟩ z⟩
theorem sc__law_steps : FnScope ["_law_rows_here", "_law_at", "_law_place"] ["_law_rows_here", "_law_at"] (defScope s_stepsL) := ⟨rfl, rfl, rfl, by decide +kernel, rfl, by decide +kernel, by decide +kernel⟩
theorem ok_stepsL {f : Addr} {fd fd_landed : FuncData} (F : Fun K "_law_steps" "_law_steps" s_stepsL f fd) (T : TxtF K mg fII fIW)
    (GLa : FnOk P w K mg base CX0 1 a_landed fd_landed ["_law_rows_here", "_law_at"] spLanded) (b_landed : Binds K fd_landed ["_law_rows_here", "_law_at"] []) (g_landed : mg "_law_landed" = some (.ref a_landed)) (k_landed : PySem.W.keepIn K (.ref a_landed) = true) : FnOk P w K mg base CX0 2 f fd ["_law_rows_here", "_law_at"] spStepsL := by
  refine F.ok sc__law_steps (fun vs H Q E h => ?_) (fun cdv A outer s H vs Q E hr h => ?_)
  · obtain ⟨r, xs, rs, i, rfl, _⟩ := h
    rfl
  · obtain ⟨r, xs, rs, i, rfl, hr0, rows, ok, hi, big, k⟩ := h
    refine ⟨_, (pss_cons (ps_set (i := 2) sc__law_steps.nd rfl (Or.inl rfl) (pe_call GLa (hr.mono (by decide)) (by rfl) g_landed k_landed b_landed .nil pass0 (pa_cons (pv 0) (pa_cons (pv 1) pa_nil))))
      (pss_one (ps_ret (pe_ifExp (PW.pt (pw_and (pt_cmpR op_notN (pv 2) pe_non (nomark _)) (pw_and1 (pt_cmpR op_eq (pe_ix ix_tup (pe_ix ix_list (pv 0) (pv 2) (fun _ _ => rfl)) pe_int (fun _ _ => rfl)) pe_str (nomark _))))) (pe_callTy call_listG (by rfl) T.b_list (by decide +kernel) (pa_cons (pe_ix ix_tup (pe_ix ix_list (pv 0) (pv 2) (fun _ _ => rfl)) pe_int (fun _ _ => rfl)) pa_nil)) (pe_lstG pa_nil))))), ?_⟩
    have lt := stp_lt ok hi
    obtain ⟨q, zs, d, ed, hx, row, hq⟩ := rows.at lt
    refine ⟨_, rfl, _, rfl, r, xs, rs, i, rfl, hr0, rows, ok, hi, big, ?_⟩
    rw [stepsAt_of ed] at k
    rw [landV_of ed]
    refine ⟨_, rfl, rfl, _, rfl, ?_⟩
    cases d with
    | ask op ns =>
      refine iteT ?_
      obtain ⟨a, t, e, h1, h2⟩ := row
      cases e
      refine ⟨_, rfl, _, rfl, r, xs, _, _, rfl, rfl, SqL.of hr0, atI_nat hx, _, _, _, _, rfl, rfl, .inl (.inl h1), at0', rfl, _, rfl, ?_⟩
      rw [strEq]
      refine iteT ?_
      refine ⟨_, rfl, _, rfl, r, xs, _, _, rfl, rfl, SqL.of hr0, atI_nat hx, _, _, _, _, rfl, rfl, .inl (.inl h1), at2', t, _, rfl, .inr h2, ?_⟩
      exact fun p H' n s e => k p H' n s e
    | go n =>
      refine iteF ?_
      refine iteF ?_
      exact ⟨Nat.zero_le _, fun t H' n s e => k t H' n s e⟩
    | fin x =>
      refine iteT ?_
      obtain ⟨a, e, h1⟩ := row
      cases e
      refine ⟨_, rfl, _, rfl, r, xs, _, _, rfl, rfl, SqL.of hr0, atI_nat hx, _, _, _, _, rfl, rfl, .inl (.inl h1), at0', rfl, _, rfl, ?_⟩
      rw [strNe end_ask]
      refine iteF ?_
      exact ⟨Nat.zero_le _, fun t H' n s e => k t H' n s e⟩
end
end Mine

set_option maxRecDepth 100000
set_option maxHeartbeats 4000000
set_option pp.maxSteps 400
namespace Mine
open PySem L2
abbrev s_shows_of : Stmt := top 31
abbrev s_can_come : Stmt := top 40
abbrev s_shown : Stmt := top 39
abbrev s_i_BadHistory : Stmt := inClass (top 7) 0
/-- an error class with a field: its own __init__ at fI -/
structure ErrC (K : PySem.W.Frag) (C fI : Addr) : Prop where
  ox : OexC K C
  iC : PySem.W.findIn K (.ref C) "__init__" = some (some (.ref fI))
  tI : PySem.W.typeIn K (.ref fI) = some (.type "function")
/-- the field is kept, in a dict that was not there -/
def spInitF (C : Addr) (fld : Str) : Sp := fun vs H Q _ => ∃ (a : Addr) (v : V), vs = [.ref a, v] ∧ H a = some (exo a C none) ∧
  ∀ (dx : Addr) (H' : Hp), H dx = none → dx ≠ a → (∀ b o, b ≠ a → H b = some o → H' b = some o) → H' a = some (exo a C (some dx)) → H' dx = some (exd dx [(fld, v)]) → Q .non H'
/-- a loop over enumerate of a list or a tuple that stays -/
theorem enumA {K : PySem.W.Frag} {a : Addr} {xs : List V} {g : TG} {tb : TS} {D : Ends} {σ : St} {H : Hp} (ha : SqA H a xs) (Pv : Nat → St → Hp → Prop) (h0 : Pv 0 σ H) (hl : ∀ i σ' H', Pv i σ' H' → Same H H')
    (hs : ∀ i x σ H T H', xs[i]? = some x → Pv i σ H → H T = none → Same H H' → H' T = some (.tup [.int (i : Nat), x]) → g (.ref T) σ H' fun σ2 H2 => tb { D with nx := Pv (i + 1), ct := Pv (i + 1), bk := D.nx } σ2 H2)
    (hd : ∀ σ H, Pv xs.length σ H → D.nx σ H) :
    (SqL K H a xs ∧ ∃ W : Nat → Nat → St → Hp → Prop, (∃ m, W 0 m σ H) ∧ ∀ i m σ H, W i m σ H → ((Ite K a).stop i H ∧ D.nx σ H) ∨ ((Ite K a).go i H ∧ ∃ N : St → Hp → Prop, (∀ σ' H', N σ' H' → ∃ m', m' < m ∧ W (i + 1) m' σ' H') ∧ ∀ x H', (Ite K a).yld i H x H' → g x σ H' fun σ2 H2 => tb { D with nx := N, ct := N, bk := D.nx } σ2 H2)) ∨
    (SqT K H a xs ∧ ∃ W : Nat → Nat → St → Hp → Prop, (∃ m, W 0 m σ H) ∧ ∀ i m σ H, W i m σ H → ((IteT K a).stop i H ∧ D.nx σ H) ∨ ((IteT K a).go i H ∧ ∃ N : St → Hp → Prop, (∀ σ' H', N σ' H' → ∃ m', m' < m ∧ W (i + 1) m' σ' H') ∧ ∀ x H', (IteT K a).yld i H x H' → g x σ H' fun σ2 H2 => tb { D with nx := N, ct := N, bk := D.nx } σ2 H2)) :=
  ha.elim (fun h => .inl ⟨SqL.of h, for_enumL Pv h0 (fun i σ' H' _ p => SqL.of (hl i σ' H' p _ _ h)) hs hd⟩) (fun h => .inr ⟨SqT.of h, for_enumT Pv h0 (fun i σ' H' _ p => SqT.of (hl i σ' H' p _ _ h)) hs hd⟩)
def spShows : Sp := fun vs H Q _ => ∃ (q : Addr) (d : RowD), vs = [.ref q] ∧ TRow H (.ref q) d ∧ ∀ (t : Addr) (H' : Hp), Same H H' → H' t = some (.tup ((showD d).map V.str)) → Q (.ref t) H'
theorem opLook_mem {o : Ops} {x : Str} {m : Int} (h : opLook o x = some m) : (x, m) ∈ o := by
  unfold opLook at h
  cases e : o.find? fun p => decide (p.1 = x) with
  | none => rw [e] at h; cases h
  | some p =>
    rw [e] at h
    have h2 := List.find?_some e
    have h3 : p.1 = x := of_decide_eq_true h2
    have h4 : p.2 = m := Option.some.inj h
    rw [← h3, ← h4]
    exact List.mem_of_find?_eq_some e
theorem opLook_perm {o o' : Ops} (nd : (o.map (·.1)).Nodup) (p : o'.Perm o) {x : Str} {m : Int} (h : opLook o x = some m) : opLook o' x = some m :=
  look_mem ((p.map (·.1)).nodup_iff.mpr nd) (x, m) (p.mem_iff.mpr (opLook_mem h))
/-- where a history leads, from a row of rest on -/
def goTo (rs : List RowD) : Nat → List (Str × Nat) → Option Nat
  | i, [] => some i
  | i, (op, k) :: ws => match rs[i]? with
    | some (.ask op' ns) => if op = op' then (match ns[k]? with
      | some a => goTo rs (stp rs a.toNat) ws
      | none => none) else none
    | _ => none
theorem goTo_cons {rs : List RowD} {i j : Nat} {op : Str} {k : Nat} {ws : List (Str × Nat)} (h : goTo rs i ((op, k) :: ws) = some j) : ∃ ns a, rs[i]? = some (.ask op ns) ∧ ns[k]? = some a ∧ goTo rs (stp rs a.toNat) ws = some j := by
  unfold goTo at h
  cases e : rs[i]? with
  | none => rw [e] at h; cases h
  | some d =>
    rw [e] at h
    cases d with
    | go n => cases h
    | fin u => cases h
    | ask op' ns =>
      dsimp only at h
      by_cases z : op = op'
      · rw [if_pos z] at h
        subst z
        cases g : ns[k]? with
        | none => rw [g] at h; cases h
        | some a =>
          rw [g] at h
          exact ⟨ns, a, rfl, g, h⟩
      · rw [if_neg z] at h
        cases h
def AskOk (o : Ops) (rs : List RowD) : Prop := ∀ (i : Nat) (op : Str) (ns : List Int), rs[i]? = some (.ask op ns) → opLook o op = some (ns.length : Int)
theorem kb_str : ∀ t ∈ bts, ¬ (t == "str") = true → kb t "str" = false := by decide
theorem btStr_only {K : PySem.W.Frag} {H : Hp} {z : Str} {t : String} (b : Bt K H (.str z) t) : (t == "str") = true := by
  cases b.ty with
  | base h => cases h; rfl
/-- what comes of a thing in the place of an element of a history, at a row of rest -/
def come2 : RowD → V → V → Bool
  | .ask op ns, .str x, y => decide (x = op) && inW y 0 ((ns.length : Int) - 1)
  | _, _, _ => false
def comeL (d : RowD) (xs : List V) : Bool := match xs with
  | [x, y] => come2 d x y
  | _ => false
theorem comeL_no {d : RowD} {xs : List V} (h : xs.length ≠ 2) : comeL d xs = false := by
  unfold comeL
  match xs, h with
  | [], _ => rfl
  | [_], _ => rfl
  | [_, _], z => exact absurd rfl z
  | _ :: _ :: _ :: _, _ => rfl
theorem comeL_ask {d : RowD} (h : ∀ op ns, d ≠ .ask op ns) (xs : List V) : comeL d xs = false := by
  unfold comeL
  match xs with
  | [] => rfl
  | [_] => rfl
  | [x, y] =>
    cases d with
    | ask op ns => exact absurd rfl (h op ns)
    | go n => rfl
    | fin u => rfl
  | _ :: _ :: _ :: _ => rfl
def CanP (K : PySem.W.Frag) (H : Hp) (d : RowD) (x : V) (c : Bool) : Prop := ∃ t, Bt K H x t ∧ (((t == "list" || t == "tuple") = false ∧ c = false) ∨ ((t == "list" || t == "tuple") = true ∧ ∃ a ys, x = .ref a ∧ SqA H a ys ∧ (∀ y ∈ ys, ∃ u, Bt K H y u) ∧ c = comeL d ys))
theorem CanP.same {K : PySem.W.Frag} {H H' : Hp} {d : RowD} {x : V} {c : Bool} (s : Same H H') (h : CanP K H d x c) : CanP K H' d x c := by
  obtain ⟨t, b, h⟩ := h
  refine ⟨t, b.same s, h.imp id fun ⟨e, a, ys, h1, h2, h3, h4⟩ => ⟨e, a, ys, h1, s.sqa h2, fun y hy => ?_, h4⟩⟩
  obtain ⟨u, bu⟩ := h3 y hy
  exact ⟨u, bu.same s⟩
theorem CanP.yes {K : PySem.W.Frag} {H : Hp} {op : Str} {ns : List Int} {k : Nat} {q : Addr} (h : SqA H q [.str op, .int (k : Int)]) (lt : k < ns.length) : CanP K H (.ask op ns) (.ref q) true := by
  obtain ⟨t, b, e⟩ := btSeq (K := K) h
  refine ⟨t, b, .inr ⟨e, q, _, rfl, h, fun y hy => ?_, ?_⟩⟩
  · rcases List.mem_cons.mp hy with z | z
    · rw [z]; exact ⟨_, btStr _⟩
    · rw [List.mem_singleton.mp z]; exact ⟨_, btInt _⟩
  · show true = (decide (op = op) && inW (.int (k : Int)) 0 ((ns.length : Int) - 1))
    rw [inW_int (show (0 : Int) ≤ k by omega) (by omega)]
    simp
def spCanComeF (K : PySem.W.Frag) : Sp := fun vs H Q _ => ∃ (v ln : V) (c : Addr) (d : RowD) (o : Ops) (b : Bool), vs = [v, ln, .ref c] ∧ CanP K H d v b ∧ TRow H ln d ∧ H c = some (.dK (opsK o)) ∧ (∀ op ns, d = .ask op ns → opLook o op = some (ns.length : Int)) ∧
  ∀ H' : Hp, Same H H' → Q (.bl b) H'
/-- a history's elements, as far as they are right, in lists or in tuples -/
def HPsA (H : Hp) (xs : List V) (ws : List (Str × Nat)) : Prop := ws.length ≤ xs.length ∧ ∀ (k : Nat) (p : Str × Nat), ws[k]? = some p → ∃ q, xs[k]? = some (.ref q) ∧ SqA H q [.str p.1, .int (p.2 : Int)]
theorem HPsA.same {H H' : Hp} {xs : List V} {ws : List (Str × Nat)} (s : Same H H') (h : HPsA H xs ws) : HPsA H' xs ws := ⟨h.1, fun k p e => by
  obtain ⟨q, h1, h2⟩ := h.2 k p e
  exact ⟨q, h1, s.sqa h2⟩⟩
def BadAt (CH : Addr) (H : Hp) (E : XK) (i : Int) : Prop := ∀ (d : Addr) (H' : Hp), H d = none → Same H H' → H' d = some (.xd [("index", .int i)]) → E (.ref CH) (some d) H'
theorem BadAt.same {CH : Addr} {H H1 : Hp} {E : XK} {i : Int} (s : Same H H1) (h : BadAt CH H E i) : BadAt CH H1 E i := fun d H' n s' e => h d H' (none_of s n) (s.trans s') e
def spShownF (K : PySem.W.Frag) (CB CM CH : Addr) : Sp := fun vs H Q E => ∃ (bd : Addr) (v : V) (t : String) (o : Ops) (rs : List RowD) (b : Nat), vs = [.ref bd, v] ∧ BodyAt CB CM H bd o rs b ∧ (o.map (·.1)).Nodup ∧ AskOk o rs ∧ Fit rs ∧ Bt K H v t ∧
  (((t == "list" || t == "tuple") = false ∧ BadAt CH H E (-1)) ∨
   ((t == "list" || t == "tuple") = true ∧ ∃ (a : Addr) (xs : List V) (ws : List (Str × Nat)) (j : Nat), v = .ref a ∧ SqA H a xs ∧ HPsA H xs ws ∧ goTo rs (stp rs b) ws = some j ∧
    ((xs.length = ws.length ∧ ∀ (t : Addr) (H' : Hp), Same H H' → H' t = some (.tup ((showAt rs j).map V.str)) → Q (.ref t) H') ∨
     (∃ x d, xs[ws.length]? = some x ∧ rs[j]? = some d ∧ CanP K H d x false ∧ BadAt CH H E (ws.length : Int)))))
section
variable {P : Program} {w : World} {K : PySem.W.Frag} {mg : Str → Option Value} {base : Heap}
variable {fII fIW CB CM CH a_is_row a_is_index a_is_name a_is_text_in a_are_counts a_word_of a_are_nexts a_is_line a_line_of a_are_operations a_can_come a_shows fH : Addr}
theorem sc_shows_of : FnScope ["line"] ["line"] (defScope s_shows_of) := ⟨rfl, rfl, rfl, by decide +kernel, rfl, by decide +kernel, by decide +kernel⟩
theorem ok_shows_of {f : Addr} {fd : FuncData} (F : Fun K "shows_of" "shows_of" s_shows_of f fd) : FnOk P w K mg base CX0 1 f fd ["line"] spShows := by
  refine F.ok sc_shows_of (fun vs H Q E h => ?_) (fun cdv A outer s H vs Q E hr h => ?_)
  · obtain ⟨q, d, rfl, _⟩ := h
    rfl
  · obtain ⟨q, d, rfl, row, k⟩ := h
    refine ⟨_, (pss_cons (ps_if (pt_cmpR op_eq (pe_ix ix_tup (pv 0) pe_int (fun _ _ => rfl)) pe_str (nomark _)) (pss_one (ps_ret (pe_tupG (pa_cons pe_str pa_nil)))) pss_nil)
      (pss_one (ps_ret (pe_tupG (pa_cons (pe_ix ix_tup (pv 0) pe_int (fun _ _ => rfl)) (pa_cons (pe_ix ix_tup (pv 0) pe_int (fun _ _ => rfl)) pa_nil)))))), ?_⟩
    have one : ∀ v : V, [v].length ≤ sizeLine := fun v => by rw [sizeLine_eq]; exact Nat.succ_le_of_lt (by decide)
    have two : ∀ v u : V, [v, u].length ≤ sizeLine := fun v u => by rw [sizeLine_eq]; exact Nat.le_trans (show 2 ≤ 2 from Nat.le_refl 2) (by decide)
    cases d with
    | ask op ns =>
      obtain ⟨a, t, e, h1, h2⟩ := row
      cases e
      refine ⟨_, rfl, _, _, _, _, rfl, rfl, .inl (.inl h1), at0', rfl, _, rfl, ?_⟩
      rw [strNe (show ("ask" : Str) ≠ "go" by decide +kernel)]
      refine iteF ?_
      exact ⟨_, rfl, _, _, _, _, rfl, rfl, .inl (.inl h1), at0', _, rfl, _, _, _, _, rfl, rfl, .inl (.inl h1), at1', two _ _, fun t H' n s e => k t H' s e⟩
    | go n =>
      obtain ⟨a, e, h1⟩ := row
      cases e
      refine ⟨_, rfl, _, _, _, _, rfl, rfl, .inl (.inl h1), at0', rfl, _, rfl, ?_⟩
      rw [strEq]
      refine iteT ?_
      exact ⟨one _, fun t H' n s e => k t H' s e⟩
    | fin x =>
      obtain ⟨a, e, h1⟩ := row
      cases e
      refine ⟨_, rfl, _, _, _, _, rfl, rfl, .inl (.inl h1), at0', rfl, _, rfl, ?_⟩
      rw [strNe (show ("end" : Str) ≠ "go" by decide +kernel)]
      refine iteF ?_
      exact ⟨_, rfl, _, _, _, _, rfl, rfl, .inl (.inl h1), at0', _, rfl, _, _, _, _, rfl, rfl, .inl (.inl h1), at1', two _ _, fun t H' n s e => k t H' s e⟩
theorem sc_i_BadHistory : FnScope ["self", "index"] ["self", "index"] (defScope s_i_BadHistory) := ⟨rfl, rfl, rfl, by decide +kernel, rfl, by decide +kernel, by decide +kernel⟩
theorem ok_i_BadHistory {f C : Addr} {fd : FuncData} (F : Fun K "__init__" "BadHistory.__init__" s_i_BadHistory f fd) (ox : OexC K C) (nf : PySem.W.findIn K (.ref C) "index" = some none) : FnOk P w K mg base CX0 1 f fd ["self", "index"] (spInitF C "index") := by
  refine F.ok sc_i_BadHistory (fun vs H Q E h => ?_) (fun cdv A outer s H vs Q E hr h => ?_)
  · obtain ⟨a, v, rfl, _⟩ := h
    rfl
  · obtain ⟨a, v, rfl, ha, k⟩ := h
    refine ⟨_, pss_one (ps_ost (pv 0) (pv 1)), ?_⟩
    refine ⟨_, rfl, _, rfl, a, C, rfl, ox, nf, .inl ⟨ha, fun dx nd ne => ?_⟩⟩
    refine k dx _ nd ne (fun b o nb hb => ?_) upd_same ?_
    · rw [upd_ne nb, upd_ne (ne_of_none hb nd)]
      exact hb
    · rw [upd_ne ne, upd_same]
theorem sc_can_come : FnScope ["told", "line", "counts"] ["told", "line", "counts"] (defScope s_can_come) := ⟨rfl, rfl, rfl, by decide +kernel, rfl, by decide +kernel, by decide +kernel⟩
theorem ok_can_comeF {f : Addr} {fd fd_is_row fd_is_index : FuncData} (F : Fun K "can_come" "can_come" s_can_come f fd) (T : TxtF K mg fII fIW) (TG : TxtG K mg a_is_row a_is_index a_is_name a_is_text_in a_are_counts a_word_of a_are_nexts a_is_line a_line_of a_are_operations)
    (GRw : FnOk P w K mg base CX0 1 a_is_row fd_is_row ["thing"] (spIsRow K)) (b_is_row : Binds K fd_is_row ["thing"] [])
    (GIx : FnOk P w K mg base CX0 3 a_is_index fd_is_index ["thing", "many"] (spIndex K)) (b_is_index : Binds K fd_is_index ["thing", "many"] []) : FnOk P w K mg base CX0 4 f fd ["told", "line", "counts"] (spCanComeF K) := by
  refine F.ok sc_can_come (fun vs H Q E h => ?_) (fun cdv A outer s H vs Q E hr h => ?_)
  · obtain ⟨v, ln, c, d, o, b, rfl, _⟩ := h
    rfl
  · obtain ⟨v, ln, c, d, o, b, rfl, ⟨t, bt, hb⟩, row, hc, look, k⟩ := h
    refine ⟨_, (pss_cons (ps_if (PW.pt (pw_or (pt_cmpR op_ne (pe_ix ix_tup (pv 1) pe_int (fun _ _ => rfl)) pe_str (nomark _)) (pw_or (pt_not (pt_val (pe_call GRw (hr.mono (by decide)) (by rfl) TG.g_is_row TG.k_is_row b_is_row .nil pass0 (pa_cons (pv 0) pa_nil)))) (pw_or1 (pt_cmpR op_ne (pe_callB call_len_seq (by rfl) T.b_len PySem.boot_len (pa_cons (pv 0) pa_nil)) pe_int (nomark _)))))) (pss_one (ps_ret pe_bl)) pss_nil)
      (pss_one (ps_ret (pe_and (pe_callB call_isi (by rfl) T.b_isinstance (by decide +kernel) (pa_cons (pe_ix ix_seq (pv 0) pe_int (fun _ _ => rfl)) (pa_cons (pe_bltn (v := .ty "str") rfl T.b_str (by decide +kernel) rfl) pa_nil))) (pe_and (pe_cmpR op_eq (pe_ix ix_seq (pv 0) pe_int (fun _ _ => rfl)) (pe_ix ix_tup (pv 1) pe_int (fun _ _ => rfl)) (nomark _)) (pe_one (pe_call GIx (hr.mono (by decide)) (by rfl) TG.g_is_index TG.k_is_index b_is_index .nil pass0 (pa_cons (pe_ix ix_seq (pv 0) pe_int (fun _ _ => rfl)) (pa_cons (pe_dget (hu_of hr) (pv 2) (pe_ix ix_tup (pv 1) pe_int (fun _ _ => rfl)) (fun _ _ => rfl)) pa_nil))))))))), ?_⟩
    have none : (∀ xs, comeL d xs = false) → b = false := fun z => by
      rcases hb with ⟨_, e⟩ | ⟨_, _, ys, _, _, _, e⟩
      · exact e
      · rw [e]; exact z ys
    cases d with
    | go n =>
      obtain ⟨ra, rfl, hr1⟩ := row
      refine ⟨_, rfl, _, _, _, _, rfl, rfl, .inl (.inl hr1), at0', rfl, _, rfl, ?_⟩
      rw [strNe (show ("go" : Str) ≠ "ask" by decide +kernel)]
      refine iteT ?_
      have e := none (comeL_ask fun op ns z => nomatch z)
      subst e
      exact k H (Same.refl H)
    | fin u =>
      obtain ⟨ra, rfl, hr1⟩ := row
      refine ⟨_, rfl, _, _, _, _, rfl, rfl, .inl (.inl hr1), at0', rfl, _, rfl, ?_⟩
      rw [strNe (show ("end" : Str) ≠ "ask" by decide +kernel)]
      refine iteT ?_
      have e := none (comeL_ask fun op ns z => nomatch z)
      subst e
      exact k H (Same.refl H)
    | ask op ns =>
      obtain ⟨ra, rt, rfl, hr1, hr2⟩ := row
      refine ⟨_, rfl, _, _, _, _, rfl, rfl, .inl (.inl hr1), at0', rfl, _, rfl, ?_⟩
      rw [strEq]
      refine iteF ?_
      refine ⟨_, rfl, v, t, rfl, bt, fun H1 s1 => ⟨_, rfl, ?_⟩⟩
      rcases hb with ⟨e, rfl⟩ | ⟨e, a, xs, rfl, ha, each, rfl⟩
      · rw [e]
        exact iteT (k H1 s1)
      · rw [e]
        refine iteF ?_
        have ha1 := s1.sqa ha
        refine ⟨_, rfl, a, xs, rfl, ha1.sq, rfl, _, rfl, ?_⟩
        by_cases two : xs.length = 2
        · obtain ⟨x, y, rfl⟩ : ∃ x y, xs = [x, y] := by
            match xs, two with
            | [x, y], _ => exact ⟨x, y, rfl⟩
          refine iteF ?_
          obtain ⟨tx, bx⟩ := each x List.mem_cons_self
          obtain ⟨ty, b_y⟩ := each y (List.mem_cons_of_mem _ List.mem_cons_self)
          refine ⟨_, rfl, ha1.ix at0' ⟨_, _, _, _, _, rfl, .ty _, (bx.same s1).ty, bx.kit (u := "str") (by decide), _, rfl, ?_⟩⟩
          by_cases es : (tx == "str") = true
          · obtain ⟨z, rfl⟩ := bx.str es
            rw [beq_iff_eq.mp es]
            refine iteT ?_
            refine ⟨_, rfl, ha1.ix at0' ⟨_, rfl, _, _, _, _, rfl, rfl, .inl (.inl (s1 _ _ hr1)), at1', rfl, _, rfl, ?_⟩⟩
            have ec : comeL (.ask op ns) [V.str z, y] = (decide (z = op) && inW y 0 ((ns.length : Int) - 1)) := rfl
            rw [ec] at k
            by_cases ez : z = op
            · subst ez
              rw [strEq]
              refine iteT ?_
              refine ⟨_, rfl, ha1.ix at1' ⟨_, rfl, _, rfl, _, _, _, _, rfl, rfl, .inl (.inl (s1 _ _ hr1)), at1', c, _, rfl, .inl ⟨opsK o, .inr z, .inl (s1 _ _ hc), rfl, by rw [val_ops, look _ _ rfl]; rfl⟩, _, _, _, rfl, b_y.same s1, ?_⟩⟩
              have := k H1 s1
              rw [decide_eq_true rfl, Bool.true_and] at this
              exact this
            · rw [strNe ez]
              have := k H1 s1
              rw [decide_eq_false ez, Bool.false_and] at this
              exact iteF this
          · have nb : kb tx "str" = false := kb_str _ bx.m es
            rw [nb]
            refine iteF ?_
            have : comeL (.ask op ns) [x, y] = false := by
              show come2 (.ask op ns) x y = false
              cases x with
              | str z => exact absurd (btStr_only bx) es
              | _ => rfl
            rw [this] at k
            exact k H1 s1
        · have : comeL (.ask op ns) xs = false := comeL_no two
          rw [this] at k
          rw [decide_eq_false (fun z => two (by have := V.int.inj z; omega))]
          exact iteT (k H1 s1)
theorem sc_shown : FnScope ["body", "history", "machine", "at", "index", "told"] ["body", "history"] (defScope s_shown) := ⟨rfl, rfl, rfl, by decide +kernel, rfl, by decide +kernel, by decide +kernel⟩
theorem ok_shownF {f : Addr} {fd fd_is_row fd_can_come fd_shows fdH : FuncData} (F : Fun K "shown" "shown" s_shown f fd) (T : TxtF K mg fII fIW) (TG : TxtG K mg a_is_row a_is_index a_is_name a_is_text_in a_are_counts a_word_of a_are_nexts a_is_line a_line_of a_are_operations) (TB : BodyC K CB) (TM : MachC K CM) (h_enum : mg "enumerate" = none)
    (GRw : FnOk P w K mg base CX0 1 a_is_row fd_is_row ["thing"] (spIsRow K)) (b_is_row : Binds K fd_is_row ["thing"] [])
    (GC : FnOk P w K mg base CX0 4 a_can_come fd_can_come ["told", "line", "counts"] (spCanComeF K)) (b_can_come : Binds K fd_can_come ["told", "line", "counts"] []) (g_can_come : mg "can_come" = some (.ref a_can_come)) (k_can_come : PySem.W.keepIn K (.ref a_can_come) = true)
    (GS : FnOk P w K mg base CX0 1 a_shows fd_shows ["line"] spShows) (b_shows_of : Binds K fd_shows ["line"] []) (g_shows_of : mg "shows_of" = some (.ref a_shows)) (k_shows_of : PySem.W.keepIn K (.ref a_shows) = true)
    (EN : ErrC K CH fH) (GN : FnOk P w K mg base CX0 1 fH fdH ["self", "index"] (spInitF CH "index")) (b_BadHistory : Binds K fdH ["self", "index"] []) (g_BadHistory : mg "BadHistory" = some (.ref CH)) : FnOk P w K mg base (L2.CX P w) 5 f fd ["body", "history"] (spShownF K CB CM CH) := by
  refine F.okX sc_shown (fun vs H Q E h => ?_) (fun cdv A outer s H vs Q E hr h => ?_)
  · obtain ⟨bd, v, t, o, rs, b, rfl, _⟩ := h
    rfl
  · obtain ⟨bd, v, ty, o, rs, b, rfl, B, nd, askok, fit, bt, kind⟩ := h
    refine ⟨_, (pss_cons (ps_set (i := 2) sc_shown.nd rfl (Or.inl rfl) (pe_fld (pv 0) rfl))
      (pss_cons (ps_if (pt_not (pt_val (pe_call GRw (hr.mono (by decide)) (by rfl) TG.g_is_row TG.k_is_row b_is_row .nil pass0 (pa_cons (pv 1) pa_nil)))) (pss_one (ps_raise rfl (takes_of rfl rfl rfl rfl) (pmk_oex EN.ox EN.iC EN.tI GN (hr.mono (by decide)) b_BadHistory .nil pass0 (by rfl) g_BadHistory (pa_cons (pe_un un_neg pe_int) pa_nil)))) pss_nil)
      (pss_cons (ps_set (i := 3) sc_shown.nd rfl (Or.inl rfl) (pe_ix ix_list (pe_fld (pv 2) rfl) (pe_fld (pv 2) rfl) (fun _ _ => rfl)))
      (pss_cons (ps_for (passes_of rfl) rfl (pi_or (pi_enum (by rfl) h_enum (pa_cons (pv 1) pa_nil)) (pi_enumT (by rfl) h_enum (pa_cons (pv 1) pa_nil))) (pg_tup rfl (pgs_cons (pg_name (i := 4) sc_shown.nd rfl (Or.inl rfl)) (pgs_cons (pg_name (i := 5) sc_shown.nd rfl (Or.inl rfl)) pgs_nil))) (pss_cons (ps_if (pt_not (pt_val (pe_call GC (hr.mono (by decide)) (by rfl) g_can_come k_can_come b_can_come .nil pass0 (pa_cons (pv 5) (pa_cons (pe_ix ix_list (pe_fld (pv 2) rfl) (pv 3) (fun _ _ => rfl)) (pa_cons (pe_fld (pv 2) rfl) pa_nil)))))) (pss_one (ps_raise rfl (takes_of rfl rfl rfl rfl) (pmk_oex EN.ox EN.iC EN.tI GN (hr.mono (by decide)) b_BadHistory .nil pass0 (by rfl) g_BadHistory (pa_cons (pv 4) pa_nil)))) pss_nil) (pss_one (ps_set (i := 3) sc_shown.nd rfl (Or.inl rfl) (pe_ix ix_list (pe_fld (pv 2) rfl) (pe_ix ix_tup (pe_ix ix_tup (pe_ix ix_list (pe_fld (pv 2) rfl) (pv 3) (fun _ _ => rfl)) pe_int (fun _ _ => rfl)) (pe_ix ix_seq (pv 5) pe_int (fun _ _ => rfl)) (fun _ _ => rfl)) (fun _ _ => rfl))))))
      (pss_one (ps_ret (pe_call GS (hr.mono (by decide)) (by rfl) g_shows_of k_shows_of b_shows_of .nil pass0 (pa_cons (pe_ix ix_list (pe_fld (pv 2) rfl) (pv 3) (fun _ _ => rfl)) pa_nil)))))))), ?_⟩
    obtain ⟨m, t, l, sa, aa, ea, o', xl, as, es, ⟨⟨dx, fb, hb, lb⟩, ⟨dm, fm, hm, mf⟩, htab, ord, hl, rows, blt, _⟩⟩ := B
    have raise : ∀ (i : Int) (E' : XK) (H1 : Hp), BadAt CH H1 E' i → ∀ (a : Addr), H1 a = none → spInitF CH "index" [.ref a, .int i] (upd H1 a (exo a CH none)) (fun v' H2 => v' = .non ∧ ∃ (d : Addr) (fs : List (Str × V)), H2 a = some (exo a CH (some d)) ∧ H2 d = some (exd d fs) ∧ H1 d = none ∧ E' (.ref CH) (some d) (upd (del H2 a) d (.xd fs))) E0 := by
      intro i E' H1 bad a na
      refine ⟨a, .int i, rfl, upd_same, fun d H2 n1 nda s2 e1 e2 => ⟨rfl, d, _, e1, e2, ?_, ?_⟩⟩
      · rw [upd_ne nda] at n1
        exact n1
      · rw [upd_ne nda] at n1
        refine bad d _ n1 (fun b2 u eb => ?_) upd_same
        have nb : b2 ≠ a := ne_of_none eb na
        rw [upd_ne (ne_of_none eb n1), del_ne nb]
        exact s2 b2 u nb (by rw [upd_ne nb]; exact eb)
    refine ⟨_, rfl, bd, CB, dx, fb, _, rfl, hb, TB.cl, TB.n_machine, lb, ?_⟩
    refine ⟨_, rfl, _, ty, rfl, bt, fun H1 s1 => ⟨_, rfl, ?_⟩⟩
    rcases kind with ⟨e, bad⟩ | ⟨e, h, hv, ws, jend, rfl, hh, ph, go, kind⟩
    · rw [e]
      refine iteT ?_
      refine ⟨_, rfl, by show 1 ≤ 1000; decide, fun a na => ?_⟩
      exact raise _ _ _ (bad.same s1) a na
    rw [e]
    refine iteF ?_
    have hh1 := s1.sqa hh
    refine ⟨_, rfl, m, CM, dm, fm, _, rfl, s1 _ _ hm, TM.cl, TM.n_stops, mf.stops, _, rfl, m, CM, dm, fm, _, rfl, s1 _ _ hm, TM.cl, TM.n_begin, mf.begin, ?_⟩
    refine ⟨sa, _, _, _, rfl, rfl, SqL.of (s1 _ _ mf.hs), fl_at blt, ?_⟩
    have go0 : stp rs b < rs.length := stp_lt fit.go blt
    refine (enumA (K := K) hh1 (fun i σ H' => ∃ (a : Nat) (v4 v5 : Option V), i ≤ ws.length ∧ σ = [some (.ref bd), some (.ref h), some (.ref m), some (.int (a : Int)), v4, v5] ∧ Same H1 H' ∧ a < rs.length ∧ goTo rs a (ws.drop i) = some jend) ⟨stp rs b, _, _, Nat.zero_le _, rfl, Same.refl _, go0, go⟩ (fun i σ' H' z => by obtain ⟨_, _, _, _, _, z, _⟩ := z; exact z) ?_ ?_).elim (fun ⟨q, w⟩ => .inl ⟨_, rfl, h, hv, rfl, q, w⟩) (fun ⟨q, w⟩ => .inr ⟨_, rfl, h, hv, rfl, q, w⟩)
    · rintro i x σ Ha T' Hb hxi ⟨a, v4, v5, iw, rfl, sa', lt', go'⟩ nT sT eT
      have s0b : Same H Hb := s1.trans (sa'.trans sT)
      obtain ⟨d, ed⟩ : ∃ d, rs[a]? = some d := ⟨_, List.getElem?_eq_getElem lt'⟩
      obtain ⟨ln, hx1, hx2⟩ := rows.2 _ _ ed
      have ask2 : ∀ op ns, d = .ask op ns → opLook o' op = some (ns.length : Int) := fun op ns e => opLook_perm nd ord.1 (askok a op ns (by rw [ed, e]))
      refine ⟨T', _, rfl, .inl (.inl eT), rfl, _, _, rfl, _, _, rfl, rfl, ?_⟩
      refine ⟨_, rfl, _, rfl, m, CM, dm, fm, _, rfl, s0b _ _ hm, TM.cl, TM.n_lines, mf.lines, _, rfl, l, _, _, _, rfl, rfl, SqL.of (s0b _ _ hl), atI_nat hx1, ?_⟩
      refine ⟨_, rfl, m, CM, dm, fm, _, rfl, s0b _ _ hm, TM.cl, TM.n_counts, mf.counts, ?_⟩
      by_cases hi : i < ws.length
      · obtain ⟨p, ep⟩ : ∃ p, ws[i]? = some p := ⟨_, List.getElem?_eq_getElem hi⟩
        obtain ⟨q, vq, hq⟩ := ph.2 i p ep
        rw [hxi] at vq
        cases vq
        have edr : ws.drop i = p :: ws.drop (i + 1) := by
          rw [List.drop_eq_getElem_cons hi]
          have := List.getElem?_eq_getElem hi
          rw [ep] at this
          rw [← Option.some.inj this]
        rw [edr] at go'
        obtain ⟨ns, z, er, ez, go2⟩ := goTo_cons go'
        rw [ed] at er
        cases er
        have ltk := (List.getElem?_eq_some_iff.mp ez).1
        have hqb := s0b.sqa hq
        refine ⟨_, ln, t, .ask p.1 ns, o', true, rfl, .yes hqb ltk, hx2.same s0b, s0b _ _ htab, ask2, fun H2 s2 => ⟨_, rfl, ?_⟩⟩
        refine iteF ?_
        have s02 := s0b.trans s2
        obtain ⟨ra, rt, rfl, hr1, hr2⟩ := hx2
        obtain ⟨z0, z1⟩ := fit.nexts ed (show z ∈ nextsD (.ask p.1 ns) from List.mem_of_getElem? ez)
        obtain ⟨zn, rfl⟩ : ∃ zn : Nat, z = (zn : Int) := ⟨z.toNat, by omega⟩
        have zlt : zn < rs.length := by omega
        have go3 : goTo rs (stp rs zn) (ws.drop (i + 1)) = some jend := go2
        have ezv : atI (ns.map V.int) ((p.2 : Nat) : Int) = some (V.int (zn : Int)) := atI_nat (by rw [List.getElem?_map, ez]; rfl)
        refine ⟨_, rfl, m, CM, dm, fm, _, rfl, s02 _ _ hm, TM.cl, TM.n_stops, mf.stops, ?_⟩
        refine ⟨_, rfl, m, CM, dm, fm, _, rfl, s02 _ _ hm, TM.cl, TM.n_lines, mf.lines, _, rfl, l, _, _, _, rfl, rfl, SqL.of (s02 _ _ hl), atI_nat hx1, ?_⟩
        refine ⟨_, _, _, _, rfl, rfl, .inl (.inl (s02 _ _ hr1)), at2', ?_⟩
        refine ⟨_, rfl, (s2.sqa hqb).ix at1' ?_⟩
        refine ⟨_, _, _, _, rfl, rfl, .inl (.inl (s02 _ _ hr2)), ezv, ?_⟩
        refine ⟨sa, _, _, _, rfl, rfl, SqL.of (s02 _ _ mf.hs), fl_at zlt, ?_⟩
        exact ⟨_, _, _, hi, rfl, sa'.trans (sT.trans s2), stp_lt fit.go zlt, go3⟩
      · have ei : i = ws.length := Nat.le_antisymm iw (Nat.le_of_not_lt hi)
        subst ei
        rw [List.drop_length] at go'
        have ea : a = jend := Option.some.inj go'
        subst ea
        rcases kind with ⟨el, _⟩ | ⟨x', d', ex, ed', cp, bad⟩
        · have := (List.getElem?_eq_some_iff.mp hxi).1
          omega
        · rw [hxi] at ex
          cases ex
          rw [ed] at ed'
          cases ed'
          refine ⟨_, ln, t, d, o', false, rfl, cp.same s0b, hx2.same s0b, s0b _ _ htab, ask2, fun H2 s2 => ⟨_, rfl, ?_⟩⟩
          refine iteT ?_
          refine ⟨_, rfl, by show 1 ≤ 1000; decide, fun a' na => ?_⟩
          exact raise _ _ _ (bad.same (s0b.trans s2)) a' na
    · rintro σ Hb ⟨a, v4, v5, iw, rfl, sa', lt', go'⟩
      rcases kind with ⟨el, k⟩ | ⟨x', d', ex, _⟩
      · rw [el, List.drop_length] at go'
        have ea : a = jend := Option.some.inj go'
        subst ea
        have s0b : Same H Hb := s1.trans sa'
        obtain ⟨d, ed⟩ : ∃ d, rs[a]? = some d := ⟨_, List.getElem?_eq_getElem lt'⟩
        obtain ⟨x, hx1, hx2⟩ := rows.2 _ _ ed
        rw [showAt_of ed] at k
        have hx3 := hx2.same s0b
        obtain ⟨q, rfl⟩ : ∃ q, x = .ref q := by
          cases d with
          | ask op ns => obtain ⟨q, _, e, _⟩ := hx2; exact ⟨q, e⟩
          | go n => obtain ⟨q, e, _⟩ := hx2; exact ⟨q, e⟩
          | fin u => obtain ⟨q, e, _⟩ := hx2; exact ⟨q, e⟩
        exact ⟨_, rfl, m, CM, dm, fm, _, rfl, s0b _ _ hm, TM.cl, TM.n_lines, mf.lines, _, rfl, l, _, _, _, rfl, rfl, SqL.of (s0b _ _ hl), atI_nat hx1, q, d, rfl, hx3, fun t' H' s' e' => k t' H' (s0b.trans s') e'⟩
      · have := (List.getElem?_eq_some_iff.mp ex).1
        omega
end
end Mine

set_option maxRecDepth 100000
set_option maxHeartbeats 4000000
namespace Mine
open PySem L2
abbrev s_b_contains : Stmt := inClass (top 35) 11
/-- a text among others; no other thing is -/
def hasS (as : List Str) (v : V) : Bool := match v with
  | .str x => inV (.str x) (as.map V.str)
  | _ => false
def spTextInL (K : PySem.W.Frag) : Sp := fun vs H Q _ => ∃ (v : V) (t : String) (a : Addr) (as : List Str), vs = [v, .ref a] ∧ Bt K H v t ∧ H a = some (.lst (as.map V.str)) ∧ Q (.bl (hasS as v)) H
def spBContains (K : PySem.W.Frag) (CB CM : Addr) : Sp := fun vs H Q _ => ∃ (bd : Addr) (v : V) (t : String) (o : Ops) (rs : List RowD) (b : Nat), vs = [.ref bd, v] ∧ BodyAt CB CM H bd o rs b ∧ Bt K H v t ∧ ∀ as, IsFirsts "ask" (restD rs b) as → Q (.bl (hasS as v)) H
section
variable {P : Program} {w : World} {K : PySem.W.Frag} {mg : Str → Option Value} {base : Heap}
variable {fII fIW CB CM a_is_row a_is_index a_is_name a_is_text_in a_are_counts a_word_of a_are_nexts a_is_line a_line_of a_are_operations : Addr}
theorem ok_text_inL {f : Addr} {fd : FuncData} (F : Fun K "is_text_in" "is_text_in" s_is_text_in f fd) (T : TxtF K mg fII fIW) : FnOk P w K mg base CX0 1 f fd ["thing", "table"] (spTextInL K) := by
  refine F.ok sc_is_text_in (fun vs H Q E h => ?_) (fun cdv A outer s H vs Q E hr h => ?_)
  · obtain ⟨v, t, a, as, rfl, _⟩ := h
    rfl
  · obtain ⟨v, t, a, as, rfl, b, ha, k⟩ := h
    refine ⟨_, (pss_one (ps_ret (pe_and (pe_callB call_isi (by rfl) T.b_isinstance (by decide +kernel) (pa_cons (pv 0) (pa_cons (pe_bltn (v := .ty "str") rfl T.b_str (by decide +kernel) rfl) pa_nil))) (pe_one (pe_cmpR op_in_seq (pv 0) (pv 1) (by rfl)))))), ?_⟩
    have hk : (kb t "str") = (t == "str") := by simp [kb]
    refine ⟨_, rfl, v, _, _, _, _, rfl, .ty _, b.ty, b.kit (u := "str") (by decide), _, rfl, ?_⟩
    rw [hk]
    by_cases h1 : (t == "str") = true
    · obtain ⟨x, rfl⟩ := b.str h1
      rw [h1]
      refine iteT ?_
      exact ⟨_, rfl, _, rfl, a, _, rfl, .inl (SqL.of ha), rfl, flat_strs as, k⟩
    · rw [Bool.eq_false_iff.mpr h1]
      refine iteF ?_
      have e : hasS as v = false := by
        unfold hasS
        cases v with
        | str x => exact absurd (btStr_only b) h1
        | _ => rfl
      rw [e] at k
      exact k
theorem sc_b_contains : FnScope ["self", "operation"] ["self", "operation"] (defScope s_b_contains) := ⟨rfl, rfl, rfl, by decide +kernel, rfl, by decide +kernel, by decide +kernel⟩
theorem ok_b_contains {f : Addr} {fd fdT : FuncData} (F : Fun K "__contains__" "Body.__contains__" s_b_contains f fd) (TG : TxtG K mg a_is_row a_is_index a_is_name a_is_text_in a_are_counts a_word_of a_are_nexts a_is_line a_line_of a_are_operations) (TB : BodyC K CB) (TM : MachC K CM)
    (GT : FnOk P w K mg base CX0 1 a_is_text_in fdT ["thing", "table"] (spTextInL K)) (b_is_text_in : Binds K fdT ["thing", "table"] []) : FnOk P w K mg base CX0 2 f fd ["self", "operation"] (spBContains K CB CM) := by
  refine F.ok sc_b_contains (fun vs H Q E h => ?_) (fun cdv A outer s H vs Q E hr h => ?_)
  · obtain ⟨bd, v, t, o, rs, b, rfl, _⟩ := h
    rfl
  · obtain ⟨bd, v, ty, o, rs, b, rfl, ⟨m, t, l, sa, aa, ea, o', xs, as, es, h⟩, bt, k⟩ := h
    obtain ⟨dx, fb, h1, h2⟩ := h.hb
    obtain ⟨dm, fm, h3, mf⟩ := h.hm
    refine ⟨_, (pss_one (ps_ret (pe_call GT (hr.mono (by decide)) (by rfl) TG.g_is_text_in TG.k_is_text_in b_is_text_in .nil pass0 (pa_cons (pv 1) (pa_cons (pe_fld (pe_fld (pv 0) rfl) rfl) pa_nil))))), ?_⟩
    exact ⟨_, rfl, _, rfl, bd, CB, dx, fb, _, rfl, h1, TB.cl, TB.n_machine, h2, m, CM, dm, fm, _, rfl, h3, TM.cl, TM.n_asks, mf.asks, v, ty, aa, as, rfl, bt, mf.ha, k as mf.fa⟩
end
end Mine

set_option maxRecDepth 100000
set_option maxHeartbeats 4000000
set_option pp.maxSteps 400
namespace Mine
open PySem L2
abbrev s_histories : Stmt := top 51
theorem TupStay.trans {H H1 H2 : Hp} (s : TupStay H H1) (t : TupStay H1 H2) : TupStay H H2 := fun q zs e => t _ _ (s _ _ e)
theorem TupStay.refl (H : Hp) : TupStay H H := fun _ _ e => e
theorem Same.tup {H H' : Hp} (s : Same H H') : TupStay H H' := fun q zs e => s _ _ e
/-- a history that stands as a tuple of tuples -/
def HistT (H : Hp) (h : Addr) (ws : List (Str × Nat)) : Prop := ∃ vs, H h = some (.tup vs) ∧ vs.length = ws.length ∧ ∀ (k : Nat) (p : Str × Nat), ws[k]? = some p → ∃ q, vs[k]? = some (.ref q) ∧ H q = some (.tup [.str p.1, .int (p.2 : Int)])
theorem HistT.stay {H H' : Hp} {h : Addr} {ws : List (Str × Nat)} (s : TupStay H H') (t : HistT H h ws) : HistT H' h ws := by
  obtain ⟨vs, h1, h2, h3⟩ := t
  exact ⟨vs, s _ _ h1, h2, fun k p e => by
    obtain ⟨q, a, b⟩ := h3 k p e
    exact ⟨q, a, s _ _ b⟩⟩
theorem HistT.a {H : Hp} {h : Addr} {ws : List (Str × Nat)} (t : HistT H h ws) : ∃ vs, SqA H h vs ∧ vs.length = ws.length ∧ HPsA H vs ws := by
  obtain ⟨vs, h1, h2, h3⟩ := t
  exact ⟨vs, .inr h1, h2, Nat.le_of_eq h2.symm, fun k p e => by
    obtain ⟨q, a, b⟩ := h3 k p e
    exact ⟨q, a, .inr b⟩⟩
theorem goTo_snoc {rs : List RowD} {op : Str} {k m : Nat} {ns : List Int} {a : Int} (e : rs[m]? = some (.ask op ns)) (ea : ns[k]? = some a) : ∀ (ws : List (Str × Nat)) (i : Nat), goTo rs i ws = some m → goTo rs i (ws ++ [(op, k)]) = some (stp rs a.toNat)
  | [], i, h => by
    have h := Option.some.inj (show some i = some m from h)
    subst h
    show goTo rs i [(op, k)] = _
    simp only [goTo, e, if_pos, ea]
  | (o, c) :: ws, i, h => by
    obtain ⟨ns', a', e1, e2, h2⟩ := goTo_cons h
    have ih := goTo_snoc e ea ws _ h2
    show goTo rs i ((o, c) :: (ws ++ [(op, k)])) = _
    simp only [goTo, e1, if_pos, e2]
    exact ih
/-- an entry: a history, and a row behind it -/
def HistE (rs : List RowD) (b : Nat) (H : Hp) (v : V) : Prop := ∃ (t h : Addr) (ws : List (Str × Nat)) (p : Nat), v = .ref t ∧ H t = some (.tup [.ref h, .int (p : Int)]) ∧ HistT H h ws ∧ ws.length ≤ 6 ∧ p < rs.length ∧ goTo rs (stp rs b) ws = some (stp rs p)
theorem HistE.stay {rs : List RowD} {b : Nat} {H H' : Hp} {v : V} (s : TupStay H H') (e : HistE rs b H v) : HistE rs b H' v := by
  obtain ⟨t, h, ws, p, h1, h2, h3, r⟩ := e
  exact ⟨t, h, ws, p, h1, s _ _ h2, h3.stay s, r⟩
theorem lastAt {α : Type} {l : List α} {x : α} (h : l.getLast? = some x) : atI l (-1) = some x := by
  have pos : 0 < l.length := by
    cases l with
    | nil => cases h
    | cons a l => exact Nat.zero_lt_succ _
  unfold atI ixN
  rw [if_neg (by decide), if_pos (by omega)]
  rw [List.getLast?_eq_getElem?] at h
  show l[((-1 : Int) + (l.length : Int)).toNat]? = some x
  rw [show ((-1 : Int) + (l.length : Int)).toNat = l.length - 1 by omega]
  exact h
def nmD : RowD → Str
  | .ask op _ => op
  | .go _ => "hang"
  | .fin w => w
theorem show_last (d : RowD) : atI ((showD d).map V.str) (-1) = some (.str (nmD d)) := by
  cases d <;> exact lastAt rfl
def spHist : Sp := fun vs H Q _ => ∃ (r : Addr) (xs : List V) (rs : List RowD) (b : Nat), vs = [.ref r, .int (b : Int), .int 6, .int 60] ∧ H r = some (.lst xs) ∧ Rows H xs rs ∧ Fit rs ∧ b < rs.length ∧ rs.length ≤ 1000 ∧ (∀ d ∈ rs, (nextsD d).length ≤ 1000) ∧
  ∀ (p : Addr) (us : List V) (H' : Hp), H p = none → Same H H' → H' p = some (.lst us) → 0 < us.length → us.length ≤ 60 → (∀ v ∈ us, HistE rs b H' v) → Q (.ref p) H'
structure HisI (rs : List RowD) (b : Nat) (H : Hp) (fa : Addr) (us : List V) (Hx : Hp) : Prop where
  same : Same H Hx
  el : Hx fa = some (.lst us)
  pos : 0 < us.length
  few : us.length ≤ 60
  all : ∀ v ∈ us, HistE rs b Hx v
theorem HisI.go {rs : List RowD} {b : Nat} {H : Hp} {fa : Addr} {us : List V} {Hx Hy : Hp} (I : HisI rs b H fa us Hx) (s : Same Hx Hy) : HisI rs b H fa us Hy := ⟨I.same.trans s, s _ _ I.el, I.pos, I.few, fun v hv => (I.all v hv).stay (Same.tup s)⟩
section
variable {P : Program} {w : World} {K : PySem.W.Frag} {mg : Str → Option Value} {base : Heap}
variable {fII fIW a_showsL a_stepsL : Addr}
theorem sc__law_histories : FnScope ["_law_rows_here", "_law_at", "_law_many", "_law_limit", "_law_found", "_law_spot", "_law_history", "_law_place", "_law_name", "_law_answer", "_law_later"] ["_law_rows_here", "_law_at", "_law_many", "_law_limit"] (defScope s_histories) := ⟨rfl, rfl, rfl, by decide +kernel, rfl, by decide +kernel, by decide +kernel⟩
theorem ok_histories {f : Addr} {fd fdS fdT : FuncData} (F : Fun K "_law_histories" "_law_histories" s_histories f fd) (T : TxtF K mg fII fIW) (h_enum : mg "enumerate" = none)
    (GSL : FnOk P w K mg base CX0 2 a_showsL fdS ["_law_rows_here", "_law_at"] spShowsL) (b_showsL : Binds K fdS ["_law_rows_here", "_law_at"] []) (g_showsL : mg "_law_shows" = some (.ref a_showsL)) (k_showsL : PySem.W.keepIn K (.ref a_showsL) = true)
    (GST : FnOk P w K mg base CX0 2 a_stepsL fdT ["_law_rows_here", "_law_at"] spStepsL) (b_stepsL : Binds K fdT ["_law_rows_here", "_law_at"] []) (g_stepsL : mg "_law_steps" = some (.ref a_stepsL)) (k_stepsL : PySem.W.keepIn K (.ref a_stepsL) = true) : FnOk P w K mg base CX0 3 f fd ["_law_rows_here", "_law_at", "_law_many", "_law_limit"] spHist := by
  refine F.ok sc__law_histories (fun vs H Q E h => ?_) (fun cdv A outer s H vs Q E hr h => ?_)
  · obtain ⟨r, xs, rs, b, rfl, _⟩ := h
    rfl
  · obtain ⟨r, xs, rs, b, rfl, hr0, rows, fit, blt, big, fewn, k⟩ := h
    refine ⟨_, (pss_cons (ps_par (i := 4) (j := 5) rfl sc__law_histories.nd rfl rfl (by decide) rfl rfl (pa_cons (pe_lstG (pa_cons (pe_tupG (pa_cons (pe_tupG pa_nil) (pa_cons (pv 1) pa_nil))) pa_nil)) (pa_cons pe_int pa_nil)) rfl)
      (pss_cons (ps_while PassesOwn.never (pt_cmpR op_lt (pv 5) (pe_callB call_len_seq (by rfl) T.b_len PySem.boot_len (pa_cons (pv 4) pa_nil)) (nomark _)) (pss_cons (ps_asg (pe_ix ix_list (pv 4) (pv 5) (fun _ _ => rfl)) (pg_tup rfl (pgs_cons (pg_name (i := 6) sc__law_histories.nd rfl (Or.inl rfl)) (pgs_cons (pg_name (i := 7) sc__law_histories.nd rfl (Or.inl rfl)) pgs_nil))))
      (pss_cons (ps_if (pt_cmpR op_lt (pe_callB call_len_seq (by rfl) T.b_len PySem.boot_len (pa_cons (pv 6) pa_nil)) (pv 2) (nomark _)) (pss_cons (ps_set (i := 8) sc__law_histories.nd rfl (Or.inl rfl) (pe_ix ix_tup (pe_call GSL (hr.mono (by decide)) (by rfl) g_showsL k_showsL b_showsL .nil pass0 (pa_cons (pv 0) (pa_cons (pv 7) pa_nil))) (pe_un un_neg pe_int) (fun _ _ => rfl)))
      (pss_one (ps_for PassesOwn.never rfl (pi_enum (by rfl) h_enum (pa_cons (pe_call GST (hr.mono (by decide)) (by rfl) g_stepsL k_stepsL b_stepsL .nil pass0 (pa_cons (pv 0) (pa_cons (pv 7) pa_nil))) pa_nil)) (pg_tup rfl (pgs_cons (pg_name (i := 9) sc__law_histories.nd rfl (Or.inl rfl)) (pgs_cons (pg_name (i := 10) sc__law_histories.nd rfl (Or.inl rfl)) pgs_nil))) (pss_one (ps_if (pt_cmpR op_lt (pe_callB call_len_seq (by rfl) T.b_len PySem.boot_len (pa_cons (pv 4) pa_nil)) (pv 3) (nomark _)) (pss_one (ps_expr (pe_bm PySem.F.plainAttrs_list PySem.F.slot_list_append PySem.F.type_list_append mt_append (pv 4) (pa_cons (pe_tupG (pa_cons (pe_op op_catA (pv 6) (pe_tupG (pa_cons (pe_tupG (pa_cons (pv 8) (pa_cons (pv 9) pa_nil))) pa_nil))) (pa_cons (pv 10) pa_nil))) pa_nil)))) pss_nil))))) pss_nil)
      (pss_one (ps_set (i := 5) sc__law_histories.nd rfl (Or.inl rfl) (pe_op op_add (pv 5) pe_int))))))
      (pss_one (ps_ret (pv 4))))), ?_⟩
    refine ⟨Nat.zero_le _, fun ha Ha na sa ea => ⟨_, rfl, two_ok _ _, fun qa Hb nb sb eb => ⟨one_ok _, fun fa H1 n1 s1 e1 => ⟨_, _, rfl, ?_⟩⟩⟩⟩
    have s01 : Same H H1 := sa.trans (sb.trans s1)
    have nfa : H fa = none := none_of (sa.trans sb) n1
    have I0 : HisI rs b H fa [.ref qa] H1 := ⟨s01, e1, Nat.zero_lt_one, by show 1 ≤ 60; decide, fun v hv => by
      rw [List.mem_singleton.mp hv]
      exact ⟨qa, ha, [], b, rfl, s1 _ _ eb, ⟨[], s1 _ _ (sb _ _ ea), rfl, fun k p e => by simp at e⟩, Nat.zero_le _, blt, rfl⟩⟩
    refine ⟨fun m σ H' => ∃ (d : Nat) (us : List V) (v6 v7 v8 v9 v10 : Option V), m = 61 - d ∧ σ = [some (.ref r), some (.int (b : Int)), some (.int 6), some (.int 60), some (.ref fa), some (.int (d : Int)), v6, v7, v8, v9, v10] ∧ HisI rs b H fa us H' ∧ d ≤ us.length, ⟨_, 0, _, none, none, none, none, none, rfl, rfl, I0, Nat.zero_le _⟩, ?_⟩
    rintro m σ H' ⟨d, us, v6, v7, v8, v9, v10, rfl, rfl, I, hd⟩
    refine ⟨_, rfl, _, rfl, fa, us, rfl, .inl (SqL.of I.el), _, _, rfl, rfl, _, rfl, ?_⟩
    refine ite2 (fun g1 => ?_) (fun g1 => ?_)
    · have hlt : d < us.length := by
        have := of_decide_eq_true g1
        omega
      have few60 := I.few
      refine ⟨fun σ' H'' => ∃ (us' : List V) (v6 v7 v8 v9 v10 : Option V), σ' = [some (.ref r), some (.int (b : Int)), some (.int 6), some (.int 60), some (.ref fa), some (.int ((d + 1 : Nat) : Int)), v6, v7, v8, v9, v10] ∧ HisI rs b H fa us' H'' ∧ us.length ≤ us'.length, fun σ' H'' ⟨us', v6, v7, v8, v9, v10, z1, z2, z3⟩ => ⟨61 - (d + 1), by omega, d + 1, us', v6, v7, v8, v9, v10, rfl, z1, z2, by omega⟩, ?_⟩
      obtain ⟨t, hh, ws, p, ev, ht, hist, wl, plt, go⟩ := I.all us[d] (List.getElem_mem hlt)
      have vq : us[d]? = some (.ref t) := by rw [List.getElem?_eq_getElem hlt, ev]
      refine ⟨_, rfl, _, rfl, fa, _, _, _, rfl, rfl, SqL.of I.el, atI_nat vq, ?_⟩
      refine ⟨t, _, rfl, .inl (.inl ht), rfl, _, _, rfl, _, _, rfl, rfl, ?_⟩
      obtain ⟨hvs, eh, lh, _⟩ := id hist
      refine ⟨_, rfl, hh, _, rfl, .inr (SqT.of eh), _, rfl, _, _, rfl, rfl, _, rfl, ?_⟩
      rw [lh]
      refine ite2 (fun g2 => ?_) (fun g2 => ?_)
      · have wl5 : ws.length < 6 := by
          have := of_decide_eq_true g2
          omega
        have hr1 := I.same _ _ hr0
        have rows1 := rows.same I.same
        refine ⟨_, rfl, _, rfl, r, xs, rs, p, rfl, hr1, rows1, fit.go, plt, by omega, fun t3 H3 s3 e3 => ?_⟩
        have slt := stp_lt fit.go plt
        obtain ⟨dd, ed⟩ : ∃ dd, rs[stp rs p]? = some dd := ⟨_, List.getElem?_eq_getElem slt⟩
        rw [showAt_of ed] at e3
        refine ⟨_, rfl, _, _, _, _, rfl, rfl, .inl (.inl e3), show_last dd, ?_⟩
        refine ⟨_, rfl, _, rfl, r, xs, rs, p, rfl, s3 _ _ hr1, rows1.same s3, fit.go, plt, by omega, fun D H4 nD s4 eD => ?_⟩
        rw [stepsAt_of ed] at eD
        have s34 := s3.trans s4
        have nDf : D ≠ fa := fun z => by
          rw [z, s3 _ _ I.el] at nD
          cases nD
        have nl := fewn _ (List.mem_of_getElem? ed)
        refine ⟨D, _, rfl, SqL.of eD, for_enumL (K := K) (a := D) (xs := (nextsD dd).map V.int) (fun j σ Hx => ∃ (us' : List V) (v9 v10 : Option V), σ = [some (.ref r), some (.int (b : Int)), some (.int 6), some (.int 60), some (.ref fa), some (.int (d : Int)), some (.ref hh), some (.int (p : Int)), some (.str (nmD dd)), v9, v10] ∧ HisI rs b H fa us' Hx ∧ us.length ≤ us'.length ∧ Hx D = some (.lst ((nextsD dd).map V.int)) ∧ TupStay H4 Hx) ⟨us, _, _, rfl, I.go s34, Nat.le_refl _, eD, TupStay.refl _⟩ (fun j σ Hx _ z => by obtain ⟨_, _, _, _, _, _, z, _⟩ := z; exact SqL.of z) ?_ ?_⟩
        · rintro j x σ Ha T' Hb hxj ⟨us', v9, v10, rfl, Ia, ul, eDa, tupa⟩ nT sT eT
          obtain ⟨a, qa, rfl⟩ : ∃ a, (nextsD dd)[j]? = some a ∧ V.int a = x := by
            rw [List.getElem?_map] at hxj
            cases e9 : (nextsD dd)[j]? with
            | none => rw [e9] at hxj; cases hxj
            | some a => rw [e9] at hxj; exact ⟨a, rfl, Option.some.inj hxj⟩
          obtain ⟨op, ns, rfl⟩ : ∃ op ns, dd = .ask op ns := by
            cases dd with
            | ask op ns => exact ⟨op, ns, rfl⟩
            | go n => simp [nextsD] at qa
            | fin u => simp [nextsD] at qa
          obtain ⟨z0, z1⟩ := fit.nexts ed (List.mem_of_getElem? qa)
          obtain ⟨an, rfl⟩ : ∃ an : Nat, a = (an : Int) := ⟨a.toNat, by omega⟩
          have Ib := Ia.go sT
          have eDb := sT _ _ eDa
          have tupb : TupStay H4 Hb := tupa.trans (Same.tup sT)
          refine ⟨T', _, rfl, .inl (.inl eT), rfl, _, _, rfl, _, _, rfl, rfl, ?_⟩
          refine ⟨_, rfl, fa, us', rfl, .inl (SqL.of Ib.el), _, rfl, _, _, rfl, rfl, _, rfl, ?_⟩
          refine ite2 (fun g3 => ?_) (fun g3 => ?_)
          · have room : us'.length < 60 := by
              have := of_decide_eq_true g3
              omega
            have hb2 : HistT Hb hh ws := hist.stay ((Same.tup s34).trans tupb)
            obtain ⟨hvs2, eh2, lh2, hp2⟩ := hb2
            have fin : ∀ (hx pE : Addr) (HX HE : Hp), Same Hb HX → Same HX HE → HE pE = some (.tup [.ref hx, .int (an : Int)]) → HistT HX hx (ws ++ [(op, j)]) →
                HisI rs b H fa (us' ++ [.ref pE]) (upd HE fa (.lst (us' ++ [.ref pE]))) ∧ upd HE fa (.lst (us' ++ [.ref pE])) D = some (.lst ((nextsD (.ask op ns)).map V.int)) ∧ TupStay H4 (upd HE fa (.lst (us' ++ [.ref pE]))) := by
              intro hx pE HX HE sX sE eE hX
              have sBE := sX.trans sE
              have elE := sBE _ _ Ib.el
              have stE : TupStay HE (upd HE fa (.lst (us' ++ [.ref pE]))) := fun q zs e => by
                rw [upd_ne (fun z => by rw [z, elE] at e; cases e)]
                exact e
              refine ⟨⟨fun c o e => ?_, upd_same, by rw [List.length_append]; exact Nat.lt_of_lt_of_le Ib.pos (Nat.le_add_right _ _), by rw [List.length_append]; exact room, fun v hv => ?_⟩, ?_, tupb.trans ((Same.tup sBE).trans stE)⟩
              · rw [upd_ne (ne_of_none e nfa)]
                exact sBE _ _ (Ib.same _ _ e)
              · rcases List.mem_append.mp hv with z | z
                · exact (Ib.all v z).stay ((Same.tup sBE).trans stE)
                · rw [List.mem_singleton.mp z]
                  refine ⟨pE, hx, ws ++ [(op, j)], an, rfl, stE _ _ eE, hX.stay ((Same.tup sE).trans stE), by rw [List.length_append]; exact wl5, by omega, ?_⟩
                  exact goTo_snoc ed qa ws _ go
              · rw [upd_ne nDf]
                exact sBE _ _ eDb
            refine ⟨_, rfl, .inl ⟨rfl, _, SqL.of Ib.el⟩, ?_⟩
            refine ⟨_, rfl, _, rfl, _, rfl, two_ok _ _, fun pA HA nA sA eA => ⟨one_ok _, fun pB HB nB sB eB => ?_⟩⟩
            have sbB : Same Hb HB := sA.trans sB
            have hsn : ∀ (HX : Hp), Same HB HX → ∀ (k : Nat) (q : Str × Nat), (ws ++ [(op, j)])[k]? = some q → ∃ c, (hvs2 ++ [V.ref pA])[k]? = some (.ref c) ∧ HX c = some (.tup [.str q.1, .int (q.2 : Int)]) := fun HX sX k q e => by
              by_cases hk : k < ws.length
              · rw [List.getElem?_append_left hk] at e
                obtain ⟨c, h1, h2⟩ := hp2 k q e
                exact ⟨c, by rw [List.getElem?_append_left (by rw [lh2]; exact hk)]; exact h1, sX _ _ (sbB _ _ h2)⟩
              · have hk2 : k = ws.length := by
                  have := (List.getElem?_eq_some_iff.mp e).1
                  rw [List.length_append] at this
                  simp at this
                  omega
                subst hk2
                rw [List.getElem?_append_right (Nat.le_refl _), Nat.sub_self] at e
                have e := Option.some.inj e
                subst e
                exact ⟨pA, by rw [← lh2, List.getElem?_append_right (Nat.le_refl _), Nat.sub_self]; rfl, sX _ _ (sB _ _ eA)⟩
            refine ⟨hh, pB, hvs2, [.ref pA], rfl, rfl, SqT.of (sbB _ _ eh2), SqT.of eB, ?_, fun z => ?_, (fun _ z => nomatch z), fun _ _ pC nC => ?_⟩
            · rw [lh2, sizeLine_eq]
              show ws.length + 1 ≤ _
              omega
            · subst z
              have hX : HistT HB pB (ws ++ [(op, j)]) := ⟨_, eB, by rw [List.length_append, ← lh2]; rfl, hsn HB (Same.refl _)⟩
              refine ⟨_, rfl, two_ok _ _, fun pE HE nE sE eE => ?_⟩
              obtain ⟨f1, f2, f3⟩ := fin pB pE HB HE sbB sE eE hX
              exact ⟨fa, us', _, rfl, rfl, sE _ _ (sbB _ _ Ib.el), by rw [sizeLine_eq]; omega, _, _, _, rfl, f1, by rw [List.length_append]; omega, f2, f3⟩
            · have sC := sameNew nC (.tup (hvs2 ++ [.ref pA]))
              have eC : upd HB pC (.tup (hvs2 ++ [.ref pA])) pC = some (.tup (hvs2 ++ [.ref pA])) := upd_same
              generalize upd HB pC (.tup (hvs2 ++ [.ref pA])) = HC at sC eC ⊢
              have hX : HistT HC pC (ws ++ [(op, j)]) := ⟨_, eC, by rw [List.length_append, List.length_append, lh2]; rfl, hsn HC sC⟩
              refine ⟨_, rfl, two_ok _ _, fun pE HE nE sE eE => ?_⟩
              obtain ⟨f1, f2, f3⟩ := fin pC pE HC HE (sbB.trans sC) sE eE hX
              exact ⟨fa, us', _, rfl, rfl, sE _ _ ((sbB.trans sC) _ _ Ib.el), by rw [sizeLine_eq]; omega, _, _, _, rfl, f1, by rw [List.length_append]; omega, f2, f3⟩
          · exact ⟨us', _, _, rfl, Ib, ul, eDb, tupb⟩
        · rintro σ Hx ⟨us', v9, v10, rfl, Ix, ul, _, _⟩
          exact ⟨_, rfl, _, _, rfl, rfl, us', _, _, _, _, _, rfl, Ix, ul⟩
      · exact ⟨_, rfl, _, _, rfl, rfl, us, _, _, _, _, _, rfl, I, Nat.le_refl _⟩
    · exact ⟨_, rfl, k fa us H' nfa I.same I.el I.pos I.few I.all⟩
end
end Mine

set_option maxRecDepth 100000
set_option maxHeartbeats 4000000
set_option pp.maxSteps 400
namespace Mine
open PySem L2
abbrev s_met : Stmt := top 52
/-! the rows of rest that some run comes to: two ways to gather them -/
/-- what every closed row of rows has -/
def MetR (rs : List RowD) (b : Nat) (j : Nat) : Prop := ∀ S : Nat → Prop, S (stp rs b) → (∀ (i : Nat) (op : Str) (ns : List Int) (a : Int), S i → rs[i]? = some (.ask op ns) → a ∈ ns → S (stp rs a.toNat)) → S j
theorem MetR.start (rs : List RowD) (b : Nat) : MetR rs b (stp rs b) := fun S h0 _ => h0
theorem MetR.step {rs : List RowD} {b i : Nat} {op : Str} {ns : List Int} {a : Int} (h : MetR rs b i) (e : rs[i]? = some (.ask op ns)) (ha : a ∈ ns) : MetR rs b (stp rs a.toNat) := fun S h0 hs => hs i op ns a (h S h0 hs) e ha
theorem MetR.lt {rs : List RowD} (f : Fit rs) {b j : Nat} (hb : b < rs.length) (h : MetR rs b j) : j < rs.length :=
  h (fun j => j < rs.length) (stp_lt f.go hb) fun i op ns a _ e ha => by
    obtain ⟨z0, z1⟩ := f.nexts e (show a ∈ nextsD (.ask op ns) from ha)
    exact stp_lt f.go (by omega)
theorem addTo_mem {m : List Nat} {i x : Nat} : x ∈ addTo m i ↔ x ∈ m ∨ x = i := by
  unfold addTo
  by_cases h : i ∈ m
  · rw [if_pos h]
    exact ⟨.inl, fun z => z.elim id fun e => e ▸ h⟩
  · rw [if_neg h, List.mem_append, List.mem_singleton]
theorem grow_mem {rs : List RowD} : ∀ {ns : List Int} {m : List Nat} {x : Nat}, x ∈ grow rs m ns ↔ x ∈ m ∨ ∃ n ∈ ns, x = stp rs n.toNat
  | [], m, x => by simp [grow]
  | n :: ns, m, x => by
    have ih := grow_mem (rs := rs) (ns := ns) (m := addTo m (stp rs n.toNat)) (x := x)
    show x ∈ grow rs (addTo m (stp rs n.toNat)) ns ↔ _
    rw [ih, addTo_mem]
    constructor
    · rintro ((h | h) | ⟨k, hk, e⟩)
      · exact .inl h
      · exact .inr ⟨n, List.mem_cons_self, h⟩
      · exact .inr ⟨k, List.mem_cons_of_mem _ hk, e⟩
    · rintro (h | ⟨k, hk, e⟩)
      · exact .inl (.inl h)
      · rcases List.mem_cons.mp hk with z | z
        · exact .inl (.inr (by rw [e, z]))
        · exact .inr ⟨k, z, e⟩
theorem addTo_pre {m : List Nat} {i k x : Nat} (h : m[k]? = some x) : (addTo m i)[k]? = some x := by
  unfold addTo
  split
  · exact h
  · rw [List.getElem?_append_left (List.getElem?_eq_some_iff.mp h).1]
    exact h
theorem grow_pre {rs : List RowD} : ∀ {ns : List Int} {m : List Nat} {k x : Nat}, m[k]? = some x → (grow rs m ns)[k]? = some x
  | [], m, k, x, h => h
  | n :: ns, m, k, x, h => grow_pre (rs := rs) (ns := ns) (addTo_pre h)
theorem metS_pre {rs : List RowD} {m : List Nat} {d k x : Nat} (h : m[k]? = some x) : (metS rs m d)[k]? = some x := by
  unfold metS
  split
  · exact grow_pre h
  · exact h
theorem metAt_sound {rs : List RowD} {b : Nat} : ∀ d x, x ∈ metAt rs b d → MetR rs b x
  | 0, x, h => by
    rw [List.mem_singleton.mp h]
    exact MetR.start rs b
  | d + 1, x, h => by
    have ih := metAt_sound (rs := rs) (b := b) d
    have h : x ∈ metS rs (metAt rs b d) d := h
    unfold metS at h
    split at h
    · rename_i i e
      rcases grow_mem.mp h with z | ⟨n, hn, rfl⟩
      · exact ih x z
      · split at hn
        · rename_i r er
          cases r with
          | ask op ns => exact (ih i (List.mem_of_getElem? e)).step er hn
          | go n => exact nomatch hn
          | fin u => exact nomatch hn
        · exact nomatch hn
    · exact ih x h
theorem metAt_pre {rs : List RowD} {b d k x : Nat} (h : (metAt rs b d)[k]? = some x) : ∀ e, (metAt rs b (d + e))[k]? = some x
  | 0 => h
  | e + 1 => metS_pre (metAt_pre h e)
/-- what stands before the place is done with -/
theorem metAt_done {rs : List RowD} {b : Nat} : ∀ d k i op ns a, k < d → (metAt rs b d)[k]? = some i → rs[i]? = some (.ask op ns) → a ∈ ns → stp rs a.toNat ∈ metAt rs b d
  | 0, k, i, op, ns, a, h, _, _, _ => absurd h (Nat.not_lt_zero k)
  | d + 1, k, i, op, ns, a, h, e, er, ha => by
    by_cases hk : k < (metAt rs b d).length
    · have e1 : (metAt rs b d)[k]? = some (metAt rs b d)[k] := List.getElem?_eq_getElem hk
      have e2 : (metAt rs b (d + 1))[k]? = some (metAt rs b d)[k] := metS_pre e1
      rw [e] at e2
      have e3 := Option.some.inj e2
      rw [← e3] at e1
      by_cases hd : k = d
      · subst hd
        show _ ∈ metS rs (metAt rs b k) k
        unfold metS
        rw [e1]
        refine grow_mem.mpr (.inr ⟨a, ?_, rfl⟩)
        rw [er]
        exact ha
      · have := metAt_done d k i op ns a (by omega) e1 er ha
        obtain ⟨j, hj, ej⟩ := List.mem_iff_getElem.mp this
        have e4 : (metAt rs b d)[j]? = some (stp rs a.toNat) := by rw [List.getElem?_eq_getElem hj, ej]
        exact List.mem_of_getElem? (metS_pre (d := d) e4)
    · have e2 : metAt rs b (d + 1) = metAt rs b d := by
        show metS rs (metAt rs b d) d = _
        unfold metS
        rw [List.getElem?_eq_none (by omega)]
      rw [e2] at e
      exact absurd (List.getElem?_eq_some_iff.mp e).1 hk
theorem metOf_iff {rs : List RowD} (f : Fit rs) {b : Nat} (hb : b < rs.length) (j : Nat) : j ∈ metOf rs b ↔ MetR rs b j := by
  refine ⟨metAt_sound _ j, fun h => h (fun j => j ∈ metOf rs b) ?_ fun i op ns a hi er ha => ?_⟩
  · exact List.mem_of_getElem? (metAt_pre (d := 0) (k := 0) (x := stp rs b) rfl rs.length |> fun z => by rw [Nat.zero_add] at z; exact z)
  · obtain ⟨k, hk, e⟩ := List.mem_iff_getElem.mp hi
    have := (metAt_few f hb rs.length).len
    exact metAt_done rs.length k i op ns a (Nat.lt_of_lt_of_le hk this) (by show (metOf rs b)[k]? = some i; rw [List.getElem?_eq_getElem hk, e]) er ha
/-- where it lands, as a key -/
def landK (rs : List RowD) (i : Nat) : Option Key := if isGo rs (stp rs i) then none else some (.inl (stp rs i : Int))
theorem kO_land (rs : List RowD) (i : Nat) : landV rs i = kO (landK rs i) := by
  unfold landV landK
  split <;> rfl
def toK (rs : List RowD) (j : Nat) : Option Key := if isGo rs j then none else some (.inl (j : Int))
/-- the keys are those of the rows that some run comes to -/
def MetK (rs : List RowD) (b : Nat) (ks : List (Option Key)) : Prop := (∀ k ∈ ks, ∃ j, MetR rs b j ∧ k = toK rs j) ∧ ∀ j, MetR rs b j → toK rs j ∈ ks
def spMet : Sp := fun vs H Q _ => ∃ (r : Addr) (xs : List V) (rs : List RowD) (b : Nat), vs = [.ref r, .int (b : Int)] ∧ H r = some (.lst xs) ∧ Rows H xs rs ∧ Fit rs ∧ b < rs.length ∧ rs.length ≤ 64 ∧ (∀ d ∈ rs, (nextsD d).length ≤ 1000) ∧
  ∀ (p : Addr) (ks : List (Option Key)) (H' : Hp), H p = none → Same H H' → H' p = some (.lst (ks.map kO)) → ks.Nodup → ks.length ≤ rs.length + 1 → MetK rs b ks → Q (.ref p) H'
/-- while it goes on -/
structure MetJ (P : Program) (w : World) (rs : List RowD) (b : Nat) (H : Hp) (ka wa : Addr) (ks : List (Option Key)) (wt : List Int) (Hx : Hp) : Prop where
  same : Same H Hx
  ek : Hx ka = some (knO P w ka ks)
  ew : Hx wa = some (.lst (wt.map V.int))
  nk : H ka = none
  nw : H wa = none
  ne : ka ≠ wa
  nd : ks.Nodup
  sound : ∀ k ∈ ks, ∃ j, MetR rs b j ∧ k = toK rs j
  some_ : ∀ n ∈ wt, 0 ≤ n ∧ n < rs.length ∧ MetR rs b (stp rs n.toNat)
  begin_ : landK rs b ∈ ks ∨ (b : Int) ∈ wt
  next_ : ∀ (i : Nat) (op : Str) (ns : List Int) (a : Int), some (.inl (i : Int)) ∈ ks → rs[i]? = some (.ask op ns) → a ∈ ns → landK rs a.toNat ∈ ks ∨ a ∈ wt
  wfew : wt.length ≤ 1 + 1000 * ks.length
theorem ks_few {rs : List RowD} (f : Fit rs) {b : Nat} (hb : b < rs.length) {ks : List (Option Key)} (nd : ks.Nodup) (h : ∀ k ∈ ks, ∃ j, MetR rs b j ∧ k = toK rs j) : ks.length ≤ rs.length + 1 := by
  have key : ∀ k ∈ ks, k = none ∨ ∃ i : Nat, i < rs.length ∧ k = some (.inl (i : Int)) := fun k hk => by
    obtain ⟨j, m, e⟩ := h k hk
    unfold toK at e
    split at e
    · exact .inl e
    · exact .inr ⟨j, m.lt f hb, e⟩
  let g : Option Key → Nat := fun k => match k with
    | some (.inl i) => i.toNat
    | _ => rs.length
  have := Mach.pigeon (rs.length + 1) (ks.map g) (List.pairwise_map.mpr (List.Pairwise.imp_of_mem (fun {x y} hx hy ne e => ?_) nd)) (fun x hx => ?_)
  · rw [List.length_map] at this
    exact this
  · rcases key x hx with rfl | ⟨i, hi, rfl⟩
    · rcases key y hy with rfl | ⟨j, hj, rfl⟩
      · exact ne rfl
      · have e : rs.length = ((j : Int)).toNat := e
        rw [Int.toNat_natCast] at e
        omega
    · rcases key y hy with rfl | ⟨j, hj, rfl⟩
      · have e : ((i : Int)).toNat = rs.length := e
        rw [Int.toNat_natCast] at e
        omega
      · have e : ((i : Int)).toNat = ((j : Int)).toNat := e
        rw [Int.toNat_natCast, Int.toNat_natCast] at e
        exact ne (by rw [e])
  · obtain ⟨k, hk, rfl⟩ := List.mem_map.mp hx
    rcases key k hk with rfl | ⟨i, hi, rfl⟩
    · exact Nat.lt_succ_self _
    · show ((i : Int)).toNat < _
      rw [Int.toNat_natCast]
      omega
theorem ints_dpA {K : PySem.W.Frag} {H : Hp} : ∀ ns : List Int, DpAll K H (ns.map V.int) (ns.map PyData.int)
  | [] => .nil
  | n :: ns => .cons (.int n) (ints_dpA ns)
theorem ints_shp (ns : List Int) : SeqAt.shaped (.list (ns.map PyData.int)) = true := by
  show (PyData.canLay0 (.list (ns.map PyData.int)) && decide (PyData.depth (.list (ns.map PyData.int)) ≤ 64)) = true
  have e1 : ∀ l : List Int, PyData.canLayAll0 (l.map PyData.int) = true := fun l => by
    induction l with
    | nil => rfl
    | cons a l ih =>
      show (PyData.canLay0 (.int a) && PyData.canLayAll0 (l.map PyData.int)) = true
      rw [ih]
      rfl
  have e2 : ∀ l : List Int, PyData.depthAll (l.map PyData.int) ≤ 1 := fun l => by
    induction l with
    | nil => simp [PyData.depthAll]
    | cons a l ih =>
      rw [List.map_cons]
      simp only [PyData.depthAll, PyData.depth]
      omega
  rw [Bool.and_eq_true]
  refine ⟨by simp only [PyData.canLay0]; exact e1 ns, decide_eq_true ?_⟩
  have := e2 ns
  simp only [PyData.depth]
  omega
section
variable {P : Program} {w : World} {K : PySem.W.Frag} {mg : Str → Option Value} {base : Heap}
variable {fII fIW a_landed a_stepsL : Addr}
theorem sc__law_met : FnScope ["_law_rows_here", "_law_at", "_law_known", "_law_waiting", "_law_place", "_law_spot"] ["_law_rows_here", "_law_at"] (defScope s_met) := ⟨rfl, rfl, rfl, by decide +kernel, rfl, by decide +kernel, by decide +kernel⟩
theorem ok_metL {f : Addr} {fd fdL fdT : FuncData} (F : Fun K "_law_met" "_law_met" s_met f fd) (T : TxtF K mg fII fIW)
    (GLa : FnOk P w K mg base CX0 1 a_landed fdL ["_law_rows_here", "_law_at"] spLanded) (b_landed : Binds K fdL ["_law_rows_here", "_law_at"] []) (g_landed : mg "_law_landed" = some (.ref a_landed)) (k_landed : PySem.W.keepIn K (.ref a_landed) = true)
    (GST : FnOk P w K mg base CX0 2 a_stepsL fdT ["_law_rows_here", "_law_at"] spStepsL) (b_stepsL : Binds K fdT ["_law_rows_here", "_law_at"] []) (g_stepsL : mg "_law_steps" = some (.ref a_stepsL)) (k_stepsL : PySem.W.keepIn K (.ref a_stepsL) = true) : FnOk P w K mg base CX0 3 f fd ["_law_rows_here", "_law_at"] spMet := by
  refine F.ok sc__law_met (fun vs H Q E h => ?_) (fun cdv A outer s H vs Q E hr h => ?_)
  · obtain ⟨r, xs, rs, b, rfl, _⟩ := h
    rfl
  · obtain ⟨r, xs, rs, b, rfl, hr0, rows, fit, blt, big, fewn, k⟩ := h
    refine ⟨_, (pss_cons (ps_par (i := 2) (j := 3) rfl sc__law_met.nd rfl rfl (by decide) rfl rfl (pa_cons (show PE _ _ (tKn0 P w) from pe_kn0 pe_dnewK) (pa_cons (pe_lstG (pa_cons (pv 1) pa_nil)) pa_nil)) rfl)
      (pss_cons (ps_while PassesOwn.never (pt_cmpR (op_neD hr.units) (pv 3) (pe_lstG pa_nil) (nomark _)) (pss_cons (ps_set (i := 4) sc__law_met.nd rfl (Or.inl rfl) (pe_bm0 PySem.F.plainAttrs_list PySem.F.slot_list_pop PySem.F.type_list_pop mt_pop (pv 3)))
      (pss_cons (ps_set (i := 5) sc__law_met.nd rfl (Or.inl rfl) (pe_call GLa (hr.mono (by decide)) (by rfl) g_landed k_landed b_landed .nil pass0 (pa_cons (pv 0) (pa_cons (pv 4) pa_nil))))
      (pss_one (ps_if (pt_cmpR (show OpR _ _ (rKnNot P w) from op_knNot) (pv 5) (pv 2) (by rfl)) (pss_cons (ps_asg pe_bl (pg_sub (pv 2) (pv 5) (show PSet _ (rKnSet P w) from set_kn)))
      (pss_one (ps_expr (pe_bm PySem.F.plainAttrs_list PySem.F.slot_list_extend PySem.F.type_list_extend mt_extend (pv 3) (pa_cons (pe_call GST (hr.mono (by decide)) (by rfl) g_stepsL k_stepsL b_stepsL .nil pass0 (pa_cons (pv 0) (pa_cons (pv 4) pa_nil))) pa_nil))))) pss_nil)))))
      (pss_one (ps_ret (pe_callTy (show CallR _ (.type "list") (rKnList P w) from call_knList (by rfl)) (by rfl) T.b_list (by decide +kernel) (pa_cons (pv 2) pa_nil)))))), ?_⟩
    refine fun ka Ha na sa ea => ⟨_, rfl, one_ok _, fun wa H1 n1 s1 e1 => ⟨_, _, rfl, ?_⟩⟩
    have J0 : MetJ P w rs b H ka wa [] [(b : Int)] H1 := ⟨sa.trans s1, s1 _ _ ea, e1, na, none_of sa n1, ne_of_none ea n1, .nil, fun _ z => (nomatch z), fun n hn => by
      rw [List.mem_singleton.mp hn]
      exact ⟨by omega, by omega, by rw [Int.toNat_natCast]; exact MetR.start rs b⟩, .inr List.mem_cons_self, fun _ _ _ _ z => (nomatch z), Nat.le_refl _⟩
    refine ⟨fun m σ H' => ∃ (ks : List (Option Key)) (wt : List Int) (v4 v5 : Option V), m = (rs.length + 1 - ks.length) * 1001 + wt.length ∧ σ = [some (.ref r), some (.int (b : Int)), some (.ref ka), some (.ref wa), v4, v5] ∧ MetJ P w rs b H ka wa ks wt H', ⟨_, _, _, none, none, rfl, rfl, J0⟩, ?_⟩
    rintro m σ H' ⟨ks, wt, v4, v5, rfl, rfl, J⟩
    have kfew := ks_few fit blt J.nd J.sound
    refine ⟨_, rfl, Nat.zero_le _, fun e0 H3 n3 s3 ee => ?_⟩
    refine ⟨.list (wt.map PyData.int), .list [], .lst (SqL.of (s3 _ _ J.ew)) (ints_dpA wt), .lst (SqL.of ee) .nil, ints_shp wt, by decide +kernel, _, rfl, ?_⟩
    by_cases we : wt = []
    · subst we
      have e : (!PyData.eqv (.list (([] : List Int).map PyData.int)) (.list [])) = false := by simp [PyData.eqv, PyData.eqvAll]
      rw [e]
      refine iteF ?_
      have cl : ∀ j, MetR rs b j → toK rs j ∈ ks := fun j hj => by
        have l0 : ∀ (i : Nat), landK rs i = toK rs (stp rs i) := fun i => rfl
        refine hj (fun j => toK rs j ∈ ks) ?_ fun i op ns a hi er ha => ?_
        · rcases J.begin_ with z | z
          · exact z
          · exact nomatch z
        · have ei : toK rs i = some (.inl (i : Int)) := by
            unfold toK isGo
            rw [er]
            rfl
          have hi : toK rs i ∈ ks := hi
          rw [ei] at hi
          rcases J.next_ i op ns a hi er ha with z | z
          · exact z
          · exact nomatch z
      refine ⟨_, rfl, ka, ks, rfl, s3 _ _ J.ek, fun p H4 n4 s4 e4 => ?_⟩
      exact k p ks H4 (none_of (J.same.trans s3) n4) ((J.same.trans s3).trans s4) e4 J.nd kfew ⟨J.sound, cl⟩
    · obtain ⟨wt0, n, rfl⟩ : ∃ wt0 n, wt = wt0 ++ [n] := ⟨_, _, (List.dropLast_concat_getLast we).symm⟩
      have e : (!PyData.eqv (.list ((wt0 ++ [n]).map PyData.int)) (.list [])) = true := by
        cases wt0 <;> simp [PyData.eqv, PyData.eqvAll]
      rw [e]
      refine iteT ?_
      have lw : (wt0 ++ [n]).length = wt0.length + 1 := by rw [List.length_append]; rfl
      refine ⟨fun σ' H'' => ∃ (ks' : List (Option Key)) (wt' : List Int) (v4 v5 : Option V), σ' = [some (.ref r), some (.int (b : Int)), some (.ref ka), some (.ref wa), v4, v5] ∧ MetJ P w rs b H ka wa ks' wt' H'' ∧ (rs.length + 1 - ks'.length) * 1001 + wt'.length < (rs.length + 1 - ks.length) * 1001 + (wt0 ++ [n]).length, fun σ' H'' ⟨ks', wt', v4, v5, z1, z2, z3⟩ => ⟨_, z3, ks', wt', v4, v5, rfl, z1, z2⟩, ?_⟩
      obtain ⟨n0, n1, mn⟩ := J.some_ n (List.mem_append_right _ List.mem_cons_self)
      obtain ⟨nn, rfl⟩ : ∃ nn : Nat, n = (nn : Int) := ⟨n.toNat, by omega⟩
      rw [Int.toNat_natCast] at mn
      have nlt : nn < rs.length := by omega
      refine ⟨_, rfl, .inl ⟨rfl, _, SqL.of (s3 _ _ J.ew)⟩, wa, _, .int (nn : Int), rfl, rfl, s3 _ _ J.ew, ?_, ?_⟩
      · rw [List.length_map, lw, Nat.add_sub_cancel, List.getElem?_map, List.getElem?_append_right (Nat.le_refl _), Nat.sub_self]
        rfl
      have ed : (List.map V.int (wt0 ++ [(nn : Int)])).dropLast = wt0.map V.int := by rw [List.map_append]; exact List.dropLast_concat ..
      rw [ed]
      have ew3 : H3 wa = some (.lst ((wt0 ++ [(nn : Int)]).map V.int)) := s3 _ _ J.ew
      have s0 : Same H H3 := J.same.trans s3
      have sU : Same H (upd H3 wa (.lst (wt0.map V.int))) := fun c o e => by
        rw [upd_ne (ne_of_none e J.nw)]
        exact s0 _ _ e
      have ekU : upd H3 wa (.lst (wt0.map V.int)) ka = some (knO P w ka ks) := by
        rw [upd_ne J.ne]
        exact s3 _ _ J.ek
      have ewU : upd H3 wa (.lst (wt0.map V.int)) wa = some (.lst (wt0.map V.int)) := upd_same
      have stU : TupStay H (upd H3 wa (.lst (wt0.map V.int))) := Same.tup sU
      generalize upd H3 wa (.lst (wt0.map V.int)) = H4 at sU ekU ewU stU ⊢
      refine ⟨_, rfl, _, rfl, r, xs, rs, nn, rfl, sU _ _ hr0, rows.same sU, fit.go, nlt, by omega, ?_⟩
      rw [kO_land]
      refine ⟨_, rfl, _, rfl, ka, ks, landK rs nn, rfl, rfl, ekU, _, rfl, ?_⟩
      by_cases hk : landK rs nn ∈ ks
      · rw [knHas_mem.mpr hk]
        refine iteF ?_
        refine ⟨ks, wt0, _, _, rfl, ⟨sU, ekU, ewU, J.nk, J.nw, J.ne, J.nd, J.sound, fun n hn => J.some_ n (List.mem_append_left _ hn), ?_, fun i op ns a h1 h2 h3 => ?_, by have := J.wfew; omega⟩, by omega⟩
        · rcases J.begin_ with z | z
          · exact .inl z
          · rcases List.mem_append.mp z with z | z
            · exact .inr z
            · have := List.mem_singleton.mp z
              have eb : b = nn := by omega
              rw [eb]
              exact .inl hk
        · rcases J.next_ i op ns a h1 h2 h3 with z | z
          · exact .inl z
          · rcases List.mem_append.mp z with z | z
            · exact .inr z
            · rw [List.mem_singleton.mp z, Int.toNat_natCast]
              exact .inl hk
      · have : knHas ks (landK rs nn) = false := by
          cases q : knHas ks (landK rs nn) with
          | false => rfl
          | true => exact absurd (knHas_mem.mp q) hk
        rw [this]
        refine iteT ?_
        refine ⟨_, rfl, _, rfl, ka, ks, landK rs nn, rfl, rfl, rfl, ekU, hk, by rw [sizeLine_eq]; omega, ?_⟩
        have sV : Same H (upd H4 ka (knO P w ka (ks ++ [landK rs nn]))) := fun c o e => by
          rw [upd_ne (ne_of_none e J.nk)]
          exact sU _ _ e
        have ekV : upd H4 ka (knO P w ka (ks ++ [landK rs nn])) ka = some (knO P w ka (ks ++ [landK rs nn])) := upd_same
        have ewV : upd H4 ka (knO P w ka (ks ++ [landK rs nn])) wa = some (.lst (wt0.map V.int)) := by
          rw [upd_ne (Ne.symm J.ne)]
          exact ewU
        generalize upd H4 ka (knO P w ka (ks ++ [landK rs nn])) = H5 at sV ekV ewV ⊢
        refine ⟨_, rfl, .inl ⟨rfl, _, SqL.of ewV⟩, ?_⟩
        refine ⟨_, rfl, _, rfl, r, xs, rs, nn, rfl, sV _ _ hr0, rows.same sV, fit.go, nlt, by omega, fun D H6 nD s6 eD => ?_⟩
        have slt := stp_lt fit.go nlt
        obtain ⟨dd, ed⟩ : ∃ dd, rs[stp rs nn]? = some dd := ⟨_, List.getElem?_eq_getElem slt⟩
        rw [stepsAt_of ed] at eD
        have nl := fewn _ (List.mem_of_getElem? ed)
        have nd2 : (ks ++ [landK rs nn]).Nodup := List.nodup_append.mpr ⟨J.nd, by simp, fun a ha b hb e => hk (by rw [← List.mem_singleton.mp hb, ← e]; exact ha)⟩
        have sd2 : ∀ k ∈ ks ++ [landK rs nn], ∃ j, MetR rs b j ∧ k = toK rs j := fun k hk => by
          rcases List.mem_append.mp hk with z | z
          · exact J.sound k z
          · exact ⟨stp rs nn, mn, List.mem_singleton.mp z⟩
        have kfew2 := ks_few fit blt nd2 sd2
        have lk : (ks ++ [landK rs nn]).length = ks.length + 1 := by rw [List.length_append]; rfl
        have wf := J.wfew
        have ew6 := s6 _ _ ewV
        have s06 : Same H H6 := sV.trans s6
        refine ⟨wa, D, _, _, rfl, rfl, ew6, eD, by rw [List.length_map, List.length_map, sizeLine_eq]; omega, ?_⟩
        refine ⟨ks ++ [landK rs nn], wt0 ++ nextsD dd, _, _, rfl, ⟨fun c o e => ?_, ?_, ?_, J.nk, J.nw, J.ne, nd2, sd2, fun a ha => ?_, ?_, fun i op ns a h1 h2 h3 => ?_, ?_⟩, ?_⟩
        · rw [upd_ne (ne_of_none e J.nw)]
          exact s06 _ _ e
        · rw [upd_ne J.ne]
          exact s6 _ _ ekV
        · rw [upd_same, List.map_append]
        · rcases List.mem_append.mp ha with z | z
          · exact J.some_ a (List.mem_append_left _ z)
          · obtain ⟨z0, z1⟩ := fit.nexts ed z
            refine ⟨z0, z1, ?_⟩
            cases dd with
            | ask op ns => exact mn.step ed z
            | go n => exact nomatch z
            | fin u => exact nomatch z
        · rcases J.begin_ with z | z
          · exact .inl (List.mem_append_left _ z)
          · rcases List.mem_append.mp z with z | z
            · exact .inr (List.mem_append_left _ z)
            · have := List.mem_singleton.mp z
              have eb : b = nn := by omega
              rw [eb]
              exact .inl (List.mem_append_right _ List.mem_cons_self)
        · rcases List.mem_append.mp h1 with z | z
          · rcases J.next_ i op ns a z h2 h3 with z | z
            · exact .inl (List.mem_append_left _ z)
            · rcases List.mem_append.mp z with z | z
              · exact .inr (List.mem_append_left _ z)
              · rw [List.mem_singleton.mp z, Int.toNat_natCast]
                exact .inl (List.mem_append_right _ List.mem_cons_self)
          · have z := List.mem_singleton.mp z
            unfold landK at z
            split at z
            · cases z
            · have z := Option.some.inj z
              have z : (i : Int) = (stp rs nn : Int) := Sum.inl.inj z
              have ei : i = stp rs nn := by omega
              rw [ei, ed] at h2
              cases h2
              exact .inr (List.mem_append_right _ h3)
        · rw [List.length_append, lk]
          omega
        · have l2 : (wt0 ++ nextsD dd).length = wt0.length + (nextsD dd).length := List.length_append
          rw [lk] at kfew2
          rw [lk, lw, l2]
          omega
end
end Mine

set_option maxRecDepth 100000
set_option maxHeartbeats 4000000
set_option pp.maxSteps 400
namespace L2
open PySem PySem.Spec PyProof.Rows
theorem takesNo {X : Cx} : Takes X (fun _ _ _ _ => False) := fun _ _ x => by
  obtain ⟨_, _, _, _, _, _, _, _, _, _, _, _, _, _, _, _, z⟩ := x
  exact z.elim
/-- isinstance of the caught error, which has its own dict -/
def rIsE2 (K : PySem.W.Frag) (a : Addr) (cls : Value) (d : Option Addr) : List V → Hp → VK → Prop := fun xs H Q => ∃ (C : Addr) (c : V) (cv : Value) (b : Bool) (dd : Addr) (fs : List (Str × V)), xs = [.ref a, c] ∧ cls = .ref C ∧ ExcC K C ∧ d = some dd ∧ H dd = some (.xd fs) ∧ ClsV c cv ∧ PySem.W.kitOne K (.ref C) cv = some b ∧ Q (.bl b) H
theorem call_isE2 {X : Cx} {a : Addr} {oe : Obj} {cls : Value} {d : Option Addr} {pn : List (Addr × Obj)} (hz : Zc cls d oe) (hf : ∃ vs, oe.data = .fields vs) : CallR (X.suite a ((a, oe) :: pn)) (.builtin "isinstance") (rIsE2 X.K a cls d) := by
  intro pins s σ H xs us Q I r h
  obtain ⟨C, c, cv, b, dd, fs, rfl, rfl, T, rfl, ed, kc, e, q⟩ := h
  obtain ⟨u1, u2, rfl, r1, r2⟩ := vals2 r
  cases (show u1 = Value.ref a from r1)
  have e2 := kc.eq r2
  subst e2
  obtain ⟨ha, _⟩ := I.pin (a, oe) (List.mem_append_left _ List.mem_cons_self)
  obtain ⟨vs, hd⟩ := hf
  have hx : ObjOk X.prog X.w H s.heap dd (.xd fs) := I.hok dd _ ed
  obtain ⟨mA, hns, hr⟩ := hx
  obtain ⟨od, ho, hl⟩ := lookIn_ns hns
  have J : PySem.W.InstAt s.heap a oe C (some od) := ⟨ha, hz.1, by unfold PySem.W.notCls; rw [hd] <;> rfl, by rw [hz.2]; exact ho⟩
  exact PySem.W.kia_one (PySem.ExoX.kitExo T) I.kIn ⟨_, _, J⟩ e (fun z => nomatch z) fun tk => ⟨.bl b, H, I.tok tk, rfl, q⟩
end L2
namespace Mine
open PySem L2
abbrev s_said : Stmt := top 53
/-- what shown tells, or the index of its refusal -/
def spSaid (K : PySem.W.Frag) (CB CM CH : Addr) : Sp := fun vs H Q _ => spShownF K CB CM CH vs H Q (fun cls d H' => cls = .ref CH ∧ ∃ (dd : Addr) (i : Int), d = some dd ∧ H' dd = some (.xd [("index", .int i)]) ∧ Q (.int i) H')
theorem BadAt.said {CH : Addr} {H : Hp} {Q : VK} {i : Int} (k : ∀ H', Same H H' → Q (.int i) H') : BadAt CH H (fun cls d H' => cls = .ref CH ∧ ∃ (dd : Addr) (i : Int), d = some dd ∧ H' dd = some (.xd [("index", .int i)]) ∧ Q (.int i) H') i := fun d H' n s e => ⟨rfl, d, i, rfl, e, k H' s⟩
theorem spShownF.mono {K : PySem.W.Frag} {CB CM CH : Addr} {vs : List V} {H : Hp} {Q Q' : VK} {E E' : XK} (h : spShownF K CB CM CH vs H Q E) (hq : ∀ v H', Q v H' → Q' v H') (he : ∀ c d H', E c d H' → E' c d H') : spShownF K CB CM CH vs H Q' E' := by
  obtain ⟨bd, v, t, o, rs, b, e, h1, h2, h3, h4, h5, h6⟩ := h
  refine ⟨bd, v, t, o, rs, b, e, h1, h2, h3, h4, h5, ?_⟩
  rcases h6 with ⟨a, z⟩ | ⟨a, a1, xs, ws, j, a2, a3, a4, a5, z⟩
  · exact .inl ⟨a, fun d H' n s x => he _ _ _ (z d H' n s x)⟩
  · refine .inr ⟨a, a1, xs, ws, j, a2, a3, a4, a5, ?_⟩
    rcases z with ⟨l, z⟩ | ⟨x, d, z1, z2, z3, z⟩
    · exact .inl ⟨l, fun t H' s x => hq _ _ (z t H' s x)⟩
    · exact .inr ⟨x, d, z1, z2, z3, fun d H' n s x => he _ _ _ (z d H' n s x)⟩
section
variable {P : Program} {w : World} {K : PySem.W.Frag} {mg : Str → Option Value} {base : Heap}
variable {fII fIW CB CM CH CA a_shown : Addr}
theorem sc_said : FnScope ["_law_body", "_law_history", "e"] ["_law_body", "_law_history"] (defScope s_said) := ⟨rfl, rfl, rfl, by decide +kernel, rfl, by decide +kernel, by decide +kernel⟩
theorem ok_said {f : Addr} {fd fdS : FuncData} (F : Fun K "_law_said" "_law_said" s_said f fd) (T : TxtF K mg fII fIW)
    (GSh : FnOk P w K mg base (L2.CX P w) 5 a_shown fdS ["body", "history"] (spShownF K CB CM CH)) (b_shown : Binds K fdS ["body", "history"] []) (g_shown : mg "shown" = some (.ref a_shown)) (k_shown : PySem.W.keepIn K (.ref a_shown) = true)
    (g_AskError : mg "AskError" = some (.ref CA)) (g_BadHistory : mg "BadHistory" = some (.ref CH)) (XH : XfC K CH) (TH : ExcC K CH) (nf : PySem.W.findIn K (.ref CH) "index" = some none) (eP : PySem.W.exmOne K (.ref CH) (.ref CA) = some true) (kH : PySem.W.kitOne K (.ref CH) (.ref CH) = some true) : FnOk P w K mg base CX0 6 f fd ["_law_body", "_law_history"] (spSaid K CB CM CH) := by
  refine F.ok sc_said (fun vs H Q E h => ?_) (fun cdv A outer s H vs Q E hr h => ?_)
  · obtain ⟨bd, v, t, o, rs, b, rfl, _⟩ := h
    rfl
  · obtain ⟨bd, v, t, o, rs, b, e, _⟩ := id h
    subst e
    refine ⟨_, (pss_one (ps_try_as (i := 2) rfl rfl sc_said.nd rfl rfl ⟨rfl, by decide, .inl g_AskError⟩ takesNo
      (fun W pn xe tk _ => pss_one (ps_ret (pe_callS GSh (hr.mono (by decide)) (by rfl) g_shown k_shown b_shown (fun σ => passAt tk σ) (pa_cons (pv 0) (pa_cons (pv 1) pa_nil)))))
      (fun a oe cls d pn hz hf => pss_one (ps_ret (pe_ifExp (pt_val (pe_callB (call_isE2 hz hf) (by rfl) T.b_isinstance (by decide +kernel) (pa_cons (pv 2) (pa_cons (pe_glob (v := .ref CH) rfl g_BadHistory rfl) pa_nil)))) (pe_xf XH nf hz hf (pv 2)) pe_str))))), ?_⟩
    refine ⟨_, rfl, _, rfl, ?_⟩
    refine spShownF.mono h (fun v' H' q => q) fun cls d H' z => ?_
    obtain ⟨rfl, dd, i, rfl, ed, q⟩ := z
    refine ⟨true, eP, fun _ a ha => ?_, fun q => nomatch q⟩
    refine ⟨_, rfl, CH, _, _, _, dd, _, rfl, rfl, TH, rfl, ed, .own CH, kH, _, rfl, ?_⟩
    refine iteT ?_
    exact ⟨_, rfl, rfl, rfl, dd, _, .int i, rfl, ed, by simp [List.lookup], q⟩
end
end Mine

set_option maxRecDepth 100000
set_option maxHeartbeats 4000000
set_option pp.maxSteps 400
namespace Mine
open PySem L2
theorem btNon {K : PySem.W.Frag} {H : Hp} : Bt K H .non "NoneType" := ⟨.base .non, by decide⟩
theorem btBl {K : PySem.W.Frag} {H : Hp} (b : Bool) : Bt K H (.bl b) "bool" := ⟨.base (.bl b), by decide⟩
theorem btDict {K : PySem.W.Frag} {H : Hp} {a : Addr} {kvs : List (Key × V)} (h : H a = some (.dK kvs)) : Bt K H (.ref a) "dict" := ⟨.base (.dK h), by decide⟩
theorem units65 {A : Around} {k : Nat} (hr : Room k A) : A.units + 65 < cLine := by
  have := hr.un
  omega
theorem strs_all {K : PySem.W.Frag} {H : Hp} : ∀ ts : List Str, DpAll K H (ts.map V.str) (ts.map PyData.str)
  | [] => .nil
  | t :: ts => .cons (.str t) (strs_all ts)
theorem strs_dep : ∀ ts : List Str, PyData.depthAll (ts.map PyData.str) = 0
  | [] => by simp [PyData.depthAll]
  | t :: ts => by simp [PyData.depthAll, PyData.depth, strs_dep ts]
theorem strs_layA : ∀ ts : List Str, (∀ t ∈ ts, PyData.strOk t = true) → PyData.canLayAll0 (ts.map PyData.str) = true
  | [], _ => rfl
  | t :: ts, h => by
    show (PyData.canLay0 (.str t) && PyData.canLayAll0 (ts.map PyData.str)) = true
    rw [strs_layA ts fun x hx => h x (List.mem_cons_of_mem _ hx), Bool.and_true]
    exact h t List.mem_cons_self
theorem strs_eqv : ∀ ns ms : List Str, (PyData.eqvAll (ns.map PyData.str) (ms.map PyData.str) = true) ↔ ns = ms
  | [], [] => by simp [PyData.eqvAll]
  | [], _ :: _ => by simp [PyData.eqvAll]
  | _ :: _, [] => by simp [PyData.eqvAll]
  | n :: ns, m :: ms => by
    have ih := strs_eqv ns ms
    simp [PyData.eqvAll, PyData.eqv, ih]
theorem strsL_shaped {ts : List Str} (h : ∀ t ∈ ts, PyData.strOk t = true) : SeqAt.shaped (.list (ts.map PyData.str)) = true := by
  show (PyData.canLay0 (.list (ts.map PyData.str)) && decide (PyData.depth (.list (ts.map PyData.str)) ≤ 64)) = true
  rw [Bool.and_eq_true]
  refine ⟨by simp only [PyData.canLay0]; exact strs_layA ts h, decide_eq_true ?_⟩
  simp only [PyData.depth]
  rw [strs_dep]
  decide
def showS (ts : List Str) : PyData := .tuple (ts.map PyData.str)
theorem showS_shaped {ts : List Str} (h : ∀ t ∈ ts, PyData.strOk t = true) : SeqAt.shaped (showS ts) = true := by
  show (PyData.canLay0 (.tuple (ts.map PyData.str)) && decide (PyData.depth (.tuple (ts.map PyData.str)) ≤ 64)) = true
  rw [Bool.and_eq_true]
  refine ⟨by simp only [PyData.canLay0]; exact strs_layA ts h, decide_eq_true ?_⟩
  simp only [PyData.depth]
  rw [strs_dep]
  decide
theorem showsL_shaped {tss : List (List Str)} (h : ∀ ts ∈ tss, ∀ t ∈ ts, PyData.strOk t = true) : SeqAt.shaped (.list (tss.map showS)) = true := by
  show (PyData.canLay0 (.list (tss.map showS)) && decide (PyData.depth (.list (tss.map showS)) ≤ 64)) = true
  have e1 : ∀ l : List (List Str), (∀ ts ∈ l, ∀ t ∈ ts, PyData.strOk t = true) → PyData.canLayAll0 (l.map showS) = true := fun l hl => by
    induction l with
    | nil => rfl
    | cons a l ih =>
      show (PyData.canLay0 (showS a) && PyData.canLayAll0 (l.map showS)) = true
      rw [ih fun ts hts => hl ts (List.mem_cons_of_mem _ hts), Bool.and_true]
      show PyData.canLay0 (.tuple (a.map PyData.str)) = true
      simp only [PyData.canLay0]
      exact strs_layA a (hl a List.mem_cons_self)
  have e2 : ∀ l : List (List Str), PyData.depthAll (l.map showS) ≤ 1 := fun l => by
    induction l with
    | nil => simp [PyData.depthAll]
    | cons a l ih =>
      rw [List.map_cons]
      have : PyData.depth (showS a) ≤ 1 := by
        unfold showS
        simp only [PyData.depth]
        rw [strs_dep]
        decide
      simp only [PyData.depthAll]
      omega
  rw [Bool.and_eq_true]
  refine ⟨by simp only [PyData.canLay0]; exact e1 tss h, decide_eq_true ?_⟩
  have := e2 tss
  simp only [PyData.depth]
  omega
theorem shows_any (tss : List (List Str)) (ts : List Str) : ((tss.map showS).any fun z => PyData.eqv z (showS ts)) = decide (ts ∈ tss) := by
  rw [Bool.eq_iff_iff, List.any_eq_true, decide_eq_true_eq]
  constructor
  · rintro ⟨z, hz, e⟩
    obtain ⟨a, ha, rfl⟩ := List.mem_map.mp hz
    have e : PyData.eqvAll (a.map PyData.str) (ts.map PyData.str) = true := by
      unfold showS at e
      rw [PyData.eqv] at e
      exact e
    rw [← (strs_eqv _ _).mp e]
    exact ha
  · intro h
    refine ⟨showS ts, List.mem_map.mpr ⟨ts, h, rfl⟩, ?_⟩
    unfold showS
    rw [PyData.eqv]
    exact (strs_eqv _ _).mpr rfl
/-- what is shown at a key -/
def shD (rs : List RowD) (k : Option Key) : List Str := match k with
  | some (.inl i) => showAt rs i.toNat
  | _ => ["hang"]
theorem shD_to {rs : List RowD} {j : Nat} {d : RowD} (e : rs[j]? = some d) : shD rs (toK rs j) = showD d := by
  unfold toK isGo
  rw [e]
  cases d with
  | go n => rfl
  | ask op ns =>
    show showAt rs ((j : Int)).toNat = _
    rw [Int.toNat_natCast, showAt_of e]
  | fin u =>
    show showAt rs ((j : Int)).toNat = _
    rw [Int.toNat_natCast, showAt_of e]
theorem rest_mem {rs : List RowD} (f : Fit rs) {b : Nat} (hb : b < rs.length) (d : RowD) : d ∈ restD rs b ↔ ∃ j, MetR rs b j ∧ rs[j]? = some d := by
  unfold restD
  rw [List.mem_map]
  constructor
  · rintro ⟨j, hj, e⟩
    have m := (metOf_iff f hb j).mp hj
    have lt := m.lt f hb
    refine ⟨j, m, ?_⟩
    rw [← e, List.getD_eq_getElem?_getD, List.getElem?_eq_getElem lt]
    rfl
  · rintro ⟨j, m, e⟩
    refine ⟨j, (metOf_iff f hb j).mpr m, ?_⟩
    rw [List.getD_eq_getElem?_getD, e]
    rfl
theorem shows_mem {rs : List RowD} (f : Fit rs) {b : Nat} (hb : b < rs.length) {ks : List (Option Key)} (M : MetK rs b ks) (ts : List Str) : ts ∈ ks.map (shD rs) ↔ ∃ d ∈ restD rs b, showD d = ts := by
  rw [List.mem_map]
  constructor
  · rintro ⟨k, hk, e⟩
    obtain ⟨j, m, rfl⟩ := M.1 k hk
    have lt := m.lt f hb
    have ej : rs[j]? = some rs[j] := List.getElem?_eq_getElem lt
    exact ⟨rs[j], (rest_mem f hb _).mpr ⟨j, m, ej⟩, by rw [← e, shD_to ej]⟩
  · rintro ⟨d, hd, e⟩
    obtain ⟨j, m, ej⟩ := (rest_mem f hb d).mp hd
    exact ⟨toK rs j, M.2 j m, by rw [shD_to ej, e]⟩
/-- the second texts behind a word -/
def selT (w : Str) (tss : List (List Str)) : List Str := tss.filterMap fun ts => match ts with
  | [a, b] => if a = w then some b else none
  | _ => none
theorem selT_snoc (w : Str) (tss : List (List Str)) (ts : List Str) : selT w (tss ++ [ts]) = selT w tss ++ selT w [ts] := by
  unfold selT
  rw [List.filterMap_append]
theorem selT_len (w : Str) (tss : List (List Str)) : (selT w tss).length ≤ tss.length := List.length_filterMap_le _ _
theorem selT_mem (w : Str) (tss : List (List Str)) (x : Str) : x ∈ selT w tss ↔ [w, x] ∈ tss := by
  unfold selT
  rw [List.mem_filterMap]
  constructor
  · rintro ⟨ts, hts, e⟩
    split at e
    · rename_i a b
      split at e
      · rename_i h
        rw [← h, ← Option.some.inj e]
        exact hts
      · cases e
    · cases e
  · intro h
    exact ⟨[w, x], h, if_pos rfl⟩
theorem sel_mem {rs : List RowD} (f : Fit rs) {b : Nat} (hb : b < rs.length) {ks : List (Option Key)} (M : MetK rs b ks) {w : Str} (hw : w = "ask" ∨ w = "end") (x : Str) : x ∈ selT w (ks.map (shD rs)) ↔ ∃ d ∈ restD rs b, wordOf d = w ∧ nameOf d = x := by
  rw [selT_mem, shows_mem f hb M]
  have one : ∀ d : RowD, showD d = [w, x] ↔ wordOf d = w ∧ nameOf d = x := fun d => by
    cases d with
    | ask op ns =>
      show ([("ask" : Str), op] = [w, x]) ↔ (("ask" : Str) = w ∧ op = x)
      simp
    | go n =>
      show ([("hang" : Str)] = [w, x]) ↔ (("go" : Str) = w ∧ ("" : Str) = x)
      rcases hw with rfl | rfl
      · exact ⟨fun z => by simp at z, fun z => absurd z.1 (by decide +kernel)⟩
      · exact ⟨fun z => by simp at z, fun z => absurd z.1 (by decide +kernel)⟩
    | fin u =>
      show ([("end" : Str), u] = [w, x]) ↔ (("end" : Str) = w ∧ u = x)
      simp
  exact ⟨fun ⟨d, hd, e⟩ => ⟨d, hd, (one d).mp e⟩, fun ⟨d, hd, e⟩ => ⟨d, hd, (one d).mpr e⟩⟩
theorem inV_str (x : Str) (ys : List Str) : inV (.str x) (ys.map V.str) = decide (x ∈ ys) := by
  unfold inV
  rw [Bool.eq_iff_iff, List.any_eq_true, decide_eq_true_eq]
  constructor
  · rintro ⟨z, hz, e⟩
    obtain ⟨a, ha, rfl⟩ := List.mem_map.mp hz
    have e : (a == x) = true := e
    rw [← eq_of_beq e]
    exact ha
  · intro h
    refine ⟨.str x, List.mem_map.mpr ⟨x, h, rfl⟩, ?_⟩
    show (x == x) = true
    exact beq_self_eq_true x
theorem hang_iff {rs : List RowD} (f : Fit rs) {b : Nat} (hb : b < rs.length) {ks : List (Option Key)} (M : MetK rs b ks) : decide ((["hang"] : List Str) ∈ ks.map (shD rs)) = endlessD rs b := by
  unfold endlessD
  have em : (restD rs b).map (fun d => V.str (wordOf d)) = ((restD rs b).map wordOf).map V.str := by rw [List.map_map]; rfl
  rw [em, inV_str]
  rw [Bool.eq_iff_iff, decide_eq_true_eq, decide_eq_true_eq, shows_mem f hb M, List.mem_map]
  have one : ∀ d : RowD, showD d = [("hang" : Str)] ↔ wordOf d = "go" := fun d => by
    cases d with
    | ask op ns =>
      show ([("ask" : Str), op] = [("hang" : Str)]) ↔ (("ask" : Str) = "go")
      exact ⟨fun z => by simp at z, fun z => absurd z (by decide +kernel)⟩
    | go n => exact ⟨fun _ => rfl, fun _ => rfl⟩
    | fin u =>
      show ([("end" : Str), u] = [("hang" : Str)]) ↔ (("end" : Str) = "go")
      exact ⟨fun z => by simp at z, fun z => absurd z (by decide +kernel)⟩
  exact ⟨fun ⟨d, hd, e⟩ => ⟨d, hd, (one d).mp e⟩, fun ⟨d, hd, e⟩ => ⟨d, hd, (one d).mpr e⟩⟩
end Mine

set_option maxRecDepth 100000
set_option maxHeartbeats 4000000
set_option pp.maxSteps 400
namespace Mine
open PySem L2
abbrev s_reached : Stmt := top 54
theorem BodyAt.one {CB CM : Addr} {H : Hp} {bd : Addr} {o : Ops} {rs : List RowD} {b : Nat} (h : BodyAt CB CM H bd o rs b) : ∃ dx m, H bd = some (.ins CB dx [("machine", V.ref m)]) := by
  obtain ⟨m, t, l, sa, aa, ea, o', xs, as, es, h⟩ := h
  obtain ⟨dx, e⟩ := h.own
  exact ⟨dx, m, e⟩
/-- the rows and what some run of them shows -/
structure RowsR (rs : List RowD) (b : Nat) : Prop where
  fit : Fit rs
  lt : b < rs.length
  big : rs.length ≤ 60
  few : ∀ d ∈ rs, (nextsD d).length ≤ 1000
  tx : ∀ d ∈ rs, PyData.strOk (rowStr d) = true
  fa : (distinct "ask" (restD rs b)).length < 64
  fe : (distinct "end" (restD rs b)).length < 64
  ne : ∀ (op : Str) (ns : List Int), RowD.ask op ns ∈ rs → op ≠ ""
theorem RowsR.rest {rs : List RowD} {b : Nat} (h : RowsR rs b) {d : RowD} (hd : d ∈ restD rs b) : d ∈ rs := by
  obtain ⟨j, _, e⟩ := (rest_mem h.fit h.lt d).mp hd
  exact List.mem_of_getElem? e
theorem show_tx {d : RowD} (h : PyData.strOk (rowStr d) = true) : ∀ t ∈ showD d, PyData.strOk t = true := by
  intro t ht
  cases d with
  | ask op ns =>
    rcases List.mem_cons.mp ht with z | z
    · rw [z]; exact strOk_of "ask"
    · rw [List.mem_singleton.mp z]; exact h
  | go n => rw [List.mem_singleton.mp ht]; exact strOk_of "hang"
  | fin w =>
    rcases List.mem_cons.mp ht with z | z
    · rw [z]; exact strOk_of "end"
    · rw [List.mem_singleton.mp z]; exact h
theorem firsts_tx {rs : List RowD} {b : Nat} (h : RowsR rs b) {w : Str} (hw : w = "ask" ∨ w = "end") {as : List Str} (f : IsFirsts w (restD rs b) as) : ∀ t ∈ as, PyData.strOk t = true := fun t ht => by
  obtain ⟨d, hd, e1, e2⟩ := (f.mem t).mp ht
  have := h.tx d (h.rest hd)
  cases d with
  | ask op ns => rw [← e2]; exact this
  | go n =>
    have e1 : ("go" : Str) = w := e1
    rcases hw with rfl | rfl
    · exact absurd e1 (by decide +kernel)
    · exact absurd e1 (by decide +kernel)
  | fin u => rw [← e2]; exact this
theorem firsts_one {w : Str} {ds : List RowD} {as bs : List Str} (h : IsFirsts w ds as) (n : bs.Nodup) (m : ∀ x, x ∈ bs ↔ ∃ d ∈ ds, wordOf d = w ∧ nameOf d = x) (s : PyProof.Rows.sortedS bs = true) : as = bs :=
  sorted_one h.nd n (fun x => (h.mem x).trans (m x).symm) h.2 s
def spReached (K : PySem.W.Frag) (CB CM : Addr) : Sp := fun vs H Q _ => ∃ (bd r c : Addr) (xs : List V) (o og : Ops) (rs : List RowD) (b : Nat), vs = [.ref bd, .ref r, .int (b : Int), .ref c] ∧ BodyAt CB CM H bd o rs b ∧ H r = some (.lst xs) ∧ Rows H xs rs ∧ RowsR rs b ∧ H c = some (.dK (opsK og)) ∧ og.length ≤ 100 ∧ ∀ H', Same H H' → Q (.bl true) H'
def toV (d : RowD) (j : Nat) : V := match d with
  | .go _ => .non
  | _ => .int (j : Int)
theorem kO_to {rs : List RowD} {j : Nat} {d : RowD} (e : rs[j]? = some d) : kO (toK rs j) = toV d j := by
  unfold toK isGo
  rw [e]
  cases d <;> rfl
/-- an element of what is shown, as it is read here -/
def tShowE : TE := fun σ H Q => ∃ (r : Addr) (xs : List V) (rs : List RowD) (k : Option Key) (v0 v2 v3 v4 v6 v7 v8 v9 v10 : Option V), σ = [v0, some (.ref r), v2, v3, v4, some (kO k), v6, v7, v8, v9, v10] ∧ H r = some (.lst xs) ∧ Rows H xs rs ∧ (∃ (j : Nat) (d : RowD), rs[j]? = some d ∧ k = toK rs j) ∧
  ∀ (t : Addr) (H' : Hp), Same H H' → H' t = some (.tup ((shD rs k).map V.str)) → Q (.ref t) H'
def Shows (H : Hp) (us : List V) (tss : List (List Str)) : Prop := us.length = tss.length ∧ ∀ (k : Nat) (ts : List Str), tss[k]? = some ts → ∃ q, us[k]? = some (.ref q) ∧ H q = some (.tup (ts.map V.str))
/-- the second texts behind a word, as they are read here -/
def tSel (wd : Str) : TE := fun σ H Q => ∃ (D : Addr) (us : List V) (tss : List (List Str)) (v0 v1 v2 v3 v5 v6 v7 v8 v9 v10 : Option V), σ = [v0, v1, v2, v3, some (.ref D), v5, v6, v7, v8, v9, v10] ∧ H D = some (.lst us) ∧ Shows H us tss ∧ (∀ ts ∈ tss, ∃ d, showD d = ts) ∧ tss.length < 64 ∧
  ∀ (D2 : Addr) (H' : Hp), Same H H' → H' D2 = some (.lst ((selT wd tss).map V.str)) → Q (.ref D2) H'
theorem Shows.stay {H H' : Hp} {us : List V} {tss : List (List Str)} (s : TupStay H H') (h : Shows H us tss) : Shows H' us tss := ⟨h.1, fun k ts e => by
  obtain ⟨q, h1, h2⟩ := h.2 k ts e
  exact ⟨q, h1, s _ _ h2⟩⟩
theorem Shows.snoc {H : Hp} {us : List V} {tss : List (List Str)} {q : Addr} {ts : List Str} (h : Shows H us tss) (e : H q = some (.tup (ts.map V.str))) : Shows H (us ++ [.ref q]) (tss ++ [ts]) := ⟨by rw [List.length_append, List.length_append, h.1]; rfl, fun k t ek => by
  by_cases hk : k < tss.length
  · rw [List.getElem?_append_left hk] at ek
    obtain ⟨q', h1, h2⟩ := h.2 k t ek
    exact ⟨q', by rw [List.getElem?_append_left (by rw [h.1]; exact hk)]; exact h1, h2⟩
  · have hk2 : k = tss.length := by
      have := (List.getElem?_eq_some_iff.mp ek).1
      rw [List.length_append] at this
      simp at this
      omega
    subst hk2
    rw [List.getElem?_append_right (Nat.le_refl _), Nat.sub_self] at ek
    have ek := Option.some.inj ek
    subst ek
    exact ⟨q, by rw [← h.1, List.getElem?_append_right (Nat.le_refl _), Nat.sub_self]; rfl, e⟩⟩
theorem Shows.dp {K : PySem.W.Frag} {H : Hp} : ∀ {us : List V} {tss : List (List Str)}, Shows H us tss → DpAll K H us (tss.map showS)
  | [], [], _ => .nil
  | [], _ :: _, h => by have := h.1; simp at this
  | _ :: _, [], h => by have := h.1; simp at this
  | v :: us, ts :: tss, h => by
    obtain ⟨q, h1, h2⟩ := h.2 0 ts rfl
    have e : v = .ref q := Option.some.inj h1
    subst e
    exact .cons (.tup (SqT.of h2) (strs_all ts)) (Shows.dp ⟨by have := h.1; simpa using this, fun k t ek => h.2 (k + 1) t ek⟩)
section
variable {P : Program} {w : World} {K : PySem.W.Frag} {mg : Str → Option Value} {base : Heap}
variable {fII fIW CB CM a_met f_asked f_words f_hangs f_contains : Addr}
theorem sc__law_reached_right : FnScope ["_law_body", "_law_rows_here", "_law_begin", "_law_operations_here", "_law_shows_here", "_law_at", "_law_asked", "_law_one_here", "_law_words", "_law_name", "_law_thing"] ["_law_body", "_law_rows_here", "_law_begin", "_law_operations_here"] (defScope s_reached) := ⟨rfl, rfl, rfl, by decide +kernel, rfl, by decide +kernel, by decide +kernel⟩
theorem ok_reached {f : Addr} {fd fdM fd_asked fd_words fd_hangs fd_contains : FuncData} (F : Fun K "_law_reached_right" "_law_reached_right" s_reached f fd) (T : TxtF K mg fII fIW) (TB : BodyC K CB) (h_sorted : mg "sorted" = none) (h_set : mg "set" = none)
    (GMe : FnOk P w K mg base CX0 3 a_met fdM ["_law_rows_here", "_law_at"] spMet) (b_met : Binds K fdM ["_law_rows_here", "_law_at"] []) (g_met : mg "_law_met" = some (.ref a_met)) (k_met : PySem.W.keepIn K (.ref a_met) = true)
    (m_asked : Meth K CB "asked" f_asked) (G_asked : FnOk P w K mg base CX0 1 f_asked fd_asked ["self"] (spBAsked CB CM)) (b_asked : Binds K fd_asked ["self"] [])
    (m_words : Meth K CB "words" f_words) (G_words : FnOk P w K mg base CX0 1 f_words fd_words ["self"] (spBWords CB CM)) (b_words : Binds K fd_words ["self"] [])
    (m_hangs : Meth K CB "hangs" f_hangs) (G_hangs : FnOk P w K mg base CX0 1 f_hangs fd_hangs ["self"] (spBHangs CB CM)) (b_hangs : Binds K fd_hangs ["self"] [])
    (at_contains : PySem.W.findIn K (.ref CB) "__contains__" = some (some (.ref f_contains))) (fn_contains : PySem.W.isFn K (.ref f_contains) = true) (GCo : FnOk P w K mg base CX0 2 f_contains fd_contains ["self", "operation"] (spBContains K CB CM)) (b_contains : Binds K fd_contains ["self", "operation"] []) : FnOk P w K mg base CX0 5 f fd ["_law_body", "_law_rows_here", "_law_begin", "_law_operations_here"] (spReached K CB CM) := by
  refine F.ok sc__law_reached_right (fun vs H Q E h => ?_) (fun cdv A outer s H vs Q E hr h => ?_)
  · obtain ⟨bd, r, c, xs, o, og, rs, b, rfl, _⟩ := h
    rfl
  · obtain ⟨bd, r, c, xs, o, og, rs, b, rfl, B, hr0, rows, R, hc, ofew, k⟩ := h
    refine ⟨_, (pss_cons (ps_setLc (i := 4) (own := [("_law_at", 5)]) (g := gName 5) (tt := tYes) (te := tShowE) rfl sc__law_reached_right.nd rfl rfl (sw_true rfl rfl rfl rfl) (pi_list (pe_call GMe (hr.mono (by decide)) (by rfl) g_met k_met b_met .nil pass0 (pa_cons (pv 1) (pa_cons (pv 2) pa_nil)))) (blkOk_by (own := [("_law_at", 5)]) (N := ["_law_body", "_law_rows_here", "_law_begin", "_law_operations_here", "_law_shows_here", "_law_at", "_law_asked", "_law_one_here", "_law_words", "_law_name", "_law_thing"]) (sc := defScope s_reached) (by decide +kernel)) (fun _ _ _ _ _ => pg_name (i := 5) sc__law_reached_right.nd rfl (Or.inl rfl)) (fun _ _ _ _ _ => pts_nil) (fun _ _ _ _ _ => (pe_imp (t' := tShowE) (pe_ifExp (pt_cmpR op_isN (pv 5) pe_non (nomark _)) (pe_tupG (pa_cons pe_str pa_nil)) (pe_slice sl_tupA (pe_ix ix_list (pv 1) (pv 5) (fun _ _ => rfl)) po_none (po_some pe_int))) (fun σ H Q q => by
obtain ⟨r, xs, rs, k, v0, v2, v3, v4, v6, v7, v8, v9, v10, rfl, hr0, rows, ⟨j, d, ed, rfl⟩, kk⟩ := q
have lj := (List.getElem?_eq_some_iff.mp ed).1
rw [shD_to ed] at kk
obtain ⟨x, hx1, hx2⟩ := rows.2 j d ed
rw [kO_to ed]
clear rows
cases d with
| ask op ns =>
  refine ⟨_, rfl, rfl, _, rfl, ?_⟩
  refine iteF ?_
  obtain ⟨a, t, e, h1, h2⟩ := hx2
  cases e
  refine ⟨_, rfl, _, rfl, r, xs, _, _, rfl, rfl, SqL.of hr0, atI_nat hx1, 2, rfl, a, _, rfl, .inl (.inl h1), fun z => absurd z.2 (show ¬ HT.sIx 3 3 (some 2) = 3 by decide), fun _ p np => ?_⟩
  exact kk p _ (sameNew np _) upd_same
| go n =>
  refine ⟨_, rfl, rfl, _, rfl, ?_⟩
  refine iteT ?_
  exact ⟨one_ok _, fun t H' n s e => kk t H' s e⟩
| fin u =>
  refine ⟨_, rfl, rfl, _, rfl, ?_⟩
  refine iteF ?_
  obtain ⟨a, e, h1⟩ := hx2
  cases e
  refine ⟨_, rfl, _, rfl, r, xs, _, _, rfl, rfl, SqL.of hr0, atI_nat hx1, 2, rfl, a, _, rfl, .inl (.inl h1), fun _ => kk a H (Same.refl H) h1, fun z => absurd ⟨rfl, rfl⟩ z⟩
))))
      (pss_cons (ps_set (i := 6) sc__law_reached_right.nd rfl (Or.inl rfl) (pe_callB (show CallR _ (.builtin "sorted") (rSortTx P w) from cr_sortTx (by rfl)) (by rfl) h_sorted (by decide +kernel) (pa_cons (pe_callTy (show CallR _ (.type "set") (rSetTx K P w) from cr_setTx (by rfl)) (by rfl) h_set (by decide +kernel) (pa_cons (pe_imp (t' := tSel "ask") (pe_lc (own := [("_law_one_here", 7)]) (g := gName 7) rfl sc__law_reached_right.nd (pi_list (pv 4)) (blkOk_by (own := [("_law_one_here", 7)]) (N := ["_law_body", "_law_rows_here", "_law_begin", "_law_operations_here", "_law_shows_here", "_law_at", "_law_asked", "_law_one_here", "_law_words", "_law_name", "_law_thing"]) (sc := defScope s_reached) (by decide +kernel)) (fun _ _ _ _ _ => pg_name (i := 7) sc__law_reached_right.nd rfl (Or.inl rfl)) (fun _ _ _ _ _ => pts_one (pt_cmpR op_eq (pe_ix (show IxR _ (rIxT K) from ix_tup) (pv 7) pe_int (fun _ _ => rfl)) pe_str (nomark _))) (fun _ _ _ _ _ => (pe_ix (show IxR _ (rIxT K) from ix_tup) (pv 7) pe_int (fun _ _ => rfl)))) (fun σ H Q q => by
obtain ⟨D, us, tss, v0, v1, v2, v3, v5, v6, v7, v8, v9, v10, rfl, eD, sh, shq, few, kk⟩ := q
refine ⟨_, rfl, D, rfl, ⟨_, SqL.of eD⟩, fun D2 nD2 => ?_⟩
refine lc_it (walk_list (xs := us)) (fun i Hz => Same H Hz ∧ Hz D2 = some (.lst ((selT "ask" (tss.take i)).map V.str))) ⟨sameNew nD2 _, upd_same⟩ (fun i Hz _ z => SqL.of (z.1 _ _ eD)) (fun i x Ha Hb hi z1 z2 => ?_) (fun Hz z => ?_)
· obtain ⟨rfl, ev⟩ := z2
  obtain ⟨sa, e2⟩ := z1
  have hi2 : i < tss.length := by rw [← sh.1]; exact hi
  have ets : tss[i]? = some tss[i] := List.getElem?_eq_getElem hi2
  obtain ⟨q, q1, q2⟩ := sh.2 i _ ets
  rw [ev] at q1
  cases q1
  have q3 := sa _ _ q2
  obtain ⟨d, esd⟩ := shq _ (List.getElem_mem hi2)
  rw [List.take_succ, ets, ← esd, show (some (showD d)).toList = [showD d] from rfl, selT_snoc]
  rw [← esd] at q3
  have l2 := selT_len "ask" (tss.take i)
  rw [List.length_take] at l2
  cases d with
  | go n =>
    have q3 : Hb q = some (.tup [V.str "hang"]) := q3
    refine ⟨rfl, _, rfl, _, _, _, _, rfl, rfl, .inl (.inl q3), at0', rfl, _, rfl, ?_⟩
    rw [strNe (show ("hang" : Str) ≠ "ask" by decide +kernel)]
    refine iteF ?_
    rw [show selT "ask" [showD (.go n)] = [] from rfl, List.append_nil]
    exact ⟨sa, e2⟩
  | ask op ns =>
    have q3 : Hb q = some (.tup [V.str "ask", V.str op]) := q3
    refine ⟨rfl, _, rfl, _, _, _, _, rfl, rfl, .inl (.inl q3), at0', rfl, _, rfl, ?_⟩
    rw [strEq]
    refine iteT ?_
    rw [show selT "ask" [showD (.ask op ns)] = [op] from by simp [selT, showD]]
    refine ⟨_, rfl, _, _, _, _, rfl, rfl, .inl (.inl q3), at1', _, e2, by rw [List.length_map, sizeLine_eq]; omega, same_updN sa nD2, ?_⟩
    rw [upd_same, List.map_append]
    rfl
  | fin u =>
    have q3 : Hb q = some (.tup [V.str "end", V.str u]) := q3
    refine ⟨rfl, _, rfl, _, _, _, _, rfl, rfl, .inl (.inl q3), at0', rfl, _, rfl, ?_⟩
    rw [strNe (show ("end" : Str) ≠ "ask" by decide +kernel)]
    refine iteF ?_
    rw [show selT "ask" [showD (.fin u)] = [] from by simp [selT, showD, show ("end" : Str) ≠ "ask" by decide +kernel], List.append_nil]
    exact ⟨sa, e2⟩
· obtain ⟨sz, e2⟩ := z
  rw [sh.1, List.take_length] at e2
  exact kk D2 Hz sz e2
)) pa_nil)) pa_nil)))
      (pss_cons (ps_set (i := 8) sc__law_reached_right.nd rfl (Or.inl rfl) (pe_callB (show CallR _ (.builtin "sorted") (rSortTx P w) from cr_sortTx (by rfl)) (by rfl) h_sorted (by decide +kernel) (pa_cons (pe_callTy (show CallR _ (.type "set") (rSetTx K P w) from cr_setTx (by rfl)) (by rfl) h_set (by decide +kernel) (pa_cons (pe_imp (t' := tSel "end") (pe_lc (own := [("_law_one_here", 7)]) (g := gName 7) rfl sc__law_reached_right.nd (pi_list (pv 4)) (blkOk_by (own := [("_law_one_here", 7)]) (N := ["_law_body", "_law_rows_here", "_law_begin", "_law_operations_here", "_law_shows_here", "_law_at", "_law_asked", "_law_one_here", "_law_words", "_law_name", "_law_thing"]) (sc := defScope s_reached) (by decide +kernel)) (fun _ _ _ _ _ => pg_name (i := 7) sc__law_reached_right.nd rfl (Or.inl rfl)) (fun _ _ _ _ _ => pts_one (pt_cmpR op_eq (pe_ix (show IxR _ (rIxT K) from ix_tup) (pv 7) pe_int (fun _ _ => rfl)) pe_str (nomark _))) (fun _ _ _ _ _ => (pe_ix (show IxR _ (rIxT K) from ix_tup) (pv 7) pe_int (fun _ _ => rfl)))) (fun σ H Q q => by
obtain ⟨D, us, tss, v0, v1, v2, v3, v5, v6, v7, v8, v9, v10, rfl, eD, sh, shq, few, kk⟩ := q
refine ⟨_, rfl, D, rfl, ⟨_, SqL.of eD⟩, fun D2 nD2 => ?_⟩
refine lc_it (walk_list (xs := us)) (fun i Hz => Same H Hz ∧ Hz D2 = some (.lst ((selT "end" (tss.take i)).map V.str))) ⟨sameNew nD2 _, upd_same⟩ (fun i Hz _ z => SqL.of (z.1 _ _ eD)) (fun i x Ha Hb hi z1 z2 => ?_) (fun Hz z => ?_)
· obtain ⟨rfl, ev⟩ := z2
  obtain ⟨sa, e2⟩ := z1
  have hi2 : i < tss.length := by rw [← sh.1]; exact hi
  have ets : tss[i]? = some tss[i] := List.getElem?_eq_getElem hi2
  obtain ⟨q, q1, q2⟩ := sh.2 i _ ets
  rw [ev] at q1
  cases q1
  have q3 := sa _ _ q2
  obtain ⟨d, esd⟩ := shq _ (List.getElem_mem hi2)
  rw [List.take_succ, ets, ← esd, show (some (showD d)).toList = [showD d] from rfl, selT_snoc]
  rw [← esd] at q3
  have l2 := selT_len "end" (tss.take i)
  rw [List.length_take] at l2
  cases d with
  | go n =>
    have q3 : Hb q = some (.tup [V.str "hang"]) := q3
    refine ⟨rfl, _, rfl, _, _, _, _, rfl, rfl, .inl (.inl q3), at0', rfl, _, rfl, ?_⟩
    rw [strNe (show ("hang" : Str) ≠ "end" by decide +kernel)]
    refine iteF ?_
    rw [show selT "end" [showD (.go n)] = [] from rfl, List.append_nil]
    exact ⟨sa, e2⟩
  | ask op ns =>
    have q3 : Hb q = some (.tup [V.str "ask", V.str op]) := q3
    refine ⟨rfl, _, rfl, _, _, _, _, rfl, rfl, .inl (.inl q3), at0', rfl, _, rfl, ?_⟩
    rw [strNe (show ("ask" : Str) ≠ "end" by decide +kernel)]
    refine iteF ?_
    rw [show selT "end" [showD (.ask op ns)] = [] from by simp [selT, showD, show ("ask" : Str) ≠ "end" by decide +kernel], List.append_nil]
    exact ⟨sa, e2⟩
  | fin u =>
    have q3 : Hb q = some (.tup [V.str "end", V.str u]) := q3
    refine ⟨rfl, _, rfl, _, _, _, _, rfl, rfl, .inl (.inl q3), at0', rfl, _, rfl, ?_⟩
    rw [strEq]
    refine iteT ?_
    rw [show selT "end" [showD (.fin u)] = [u] from by simp [selT, showD]]
    refine ⟨_, rfl, _, _, _, _, rfl, rfl, .inl (.inl q3), at1', _, e2, by rw [List.length_map, sizeLine_eq]; omega, same_updN sa nD2, ?_⟩
    rw [upd_same, List.map_append]
    rfl
· obtain ⟨sz, e2⟩ := z
  rw [sh.1, List.take_length] at e2
  exact kk D2 Hz sz e2
)) pa_nil)) pa_nil)))
      (pss_cons (ps_expr (pe_bm PySem.F.plainAttrs_list PySem.F.slot_list_append PySem.F.type_list_append mt_append (pe_meth0 (pv 0) TB.cl m_asked G_asked (hr.mono (by decide)) b_asked .nil pass0) (pa_cons pe_str pa_nil)))
      (pss_cons (ps_expr (pe_bm0 PySem.F.plainAttrs_list PySem.F.slot_list_clear PySem.F.type_list_clear mt_clear (pe_meth0 (pv 0) TB.cl m_words G_words (hr.mono (by decide)) b_words .nil pass0)))
      (pss_cons (ps_if (PW.pt (pw_or (pt_cmpR (op_neD hr.units) (pe_meth0 (pv 0) TB.cl m_asked G_asked (hr.mono (by decide)) b_asked .nil pass0) (pv 6) (nomark _)) (pw_or1 (pt_cmpR (op_neD hr.units) (pe_meth0 (pv 0) TB.cl m_words G_words (hr.mono (by decide)) b_words .nil pass0) (pv 8) (nomark _))))) (pss_one (ps_ret pe_bl)) pss_nil)
      (pss_cons (ps_if (PW.pt (pw_or (pt_cmpR op_ne (pe_cmpR op_isBl (pe_meth0 (pv 0) TB.cl m_hangs G_hangs (hr.mono (by decide)) b_hangs .nil pass0) pe_bl (nomark _)) (pe_cmpR (op_inD (units65 hr)) (pe_tupG (pa_cons pe_str pa_nil)) (pv 4) (by rfl)) (nomark _)) (pw_or1 (pt_not (pt_val (pe_callB call_isi (by rfl) T.b_isinstance (by decide +kernel) (pa_cons (pe_meth0 (pv 0) TB.cl m_hangs G_hangs (hr.mono (by decide)) b_hangs .nil pass0) (pa_cons (pe_bltn (v := .ty "bool") rfl T.b_bool (by decide +kernel) rfl) pa_nil)))))))) (pss_one (ps_ret pe_bl)) pss_nil)
      (pss_cons (ps_for PassesOwn.never rfl (pi_list (pe_op op_catG (pe_callTy (call_list_dK rfl) (by rfl) T.b_list (by decide +kernel) (pa_cons (pv 3) pa_nil)) (pe_lstG (pa_cons pe_str pa_nil)))) (pg_name (i := 9) sc__law_reached_right.nd rfl (Or.inl rfl)) (pss_one (ps_if (pt_cmpR op_ne (pe_cmpR (show OpR _ _ (rInO CB (spBContains K CB CM) E0) from op_inO GCo (hr.mono (by decide)) b_contains pass0 at_contains fn_contains) (pv 9) (pv 0) (by rfl)) (pe_cmpR op_in_seq (pv 9) (pv 6) (by rfl)) (nomark _)) (pss_one (ps_ret pe_bl)) pss_nil)))
      (pss_one (ps_ret (pe_cmpR (op_eqD hr.units) (pe_lc (own := [("_law_thing", 10)]) (g := gName 10) rfl sc__law_reached_right.nd (pi_list (pe_lstG (pa_cons pe_non (pa_cons pe_int (pa_cons pe_bl (pa_cons pe_str (pa_cons (pe_lstG (pa_cons pe_str pa_nil)) (pa_cons (pe_tupG (pa_cons pe_str (pa_cons pe_str pa_nil))) (pa_cons pe_dnewK pa_nil))))))))) (blkOk_by (own := [("_law_thing", 10)]) (N := ["_law_body", "_law_rows_here", "_law_begin", "_law_operations_here", "_law_shows_here", "_law_at", "_law_asked", "_law_one_here", "_law_words", "_law_name", "_law_thing"]) (sc := defScope s_reached) (by decide +kernel)) (fun _ _ _ _ _ => pg_name (i := 10) sc__law_reached_right.nd rfl (Or.inl rfl)) (fun _ _ _ _ _ => pts_one (pt_cmpR (show OpR _ _ (rInO CB (spBContains K CB CM) E0) from op_inO GCo (hr.mono (by decide)) b_contains pass0 at_contains fn_contains) (pv 10) (pv 0) (by rfl))) (fun _ _ _ _ _ => pe_int)) (pe_lstG pa_nil) (nomark _)))))))))))), ?_⟩
    obtain ⟨dx, m, eb⟩ := B.one
    -- what is shown
    refine ⟨_, rfl, _, rfl, r, xs, rs, b, rfl, hr0, rows, R.fit, R.lt, by have := R.big; omega, R.few, fun p ks H1 np s1 e1 nd kl M => ?_⟩
    refine ⟨p, rfl, ⟨_, SqL.of e1⟩, fun D nD => ?_⟩
    refine lc_it (walk_list (xs := ks.map kO)) (fun i Hx => Same H1 Hx ∧ ∃ us : List V, Hx D = some (.lst us) ∧ Shows Hx us ((ks.take i).map (shD rs))) ⟨sameNew nD _, [], upd_same, rfl, fun k p e => by simp at e⟩ (fun i Hx _ z => SqL.of (z.1 _ _ e1)) (fun i x Ha Hb hi z1 z2 => ?_) (fun Hx z => ?_)
    · obtain ⟨rfl, ev⟩ := z2
      obtain ⟨sa, us, eD, sh⟩ := z1
      have hi2 : i < ks.length := by rw [List.length_map] at hi; exact hi
      rw [List.getElem?_map, List.getElem?_eq_getElem hi2] at ev
      cases ev
      obtain ⟨j, mj, ek⟩ := M.1 ks[i] (List.getElem_mem hi2)
      have lj := mj.lt R.fit R.lt
      have s0 := s1.trans sa
      refine ⟨rfl, r, xs, rs, ks[i], _, _, _, _, _, _, _, _, _, rfl, s0 _ _ hr0, rows.same s0, ⟨j, rs[j], List.getElem?_eq_getElem lj, ek⟩, fun t Hc sc ec => ?_⟩
      have eDc := sc _ _ eD
      have stc : TupStay Hc (upd Hc D (.lst (us ++ [.ref t]))) := fun q zs e => by
        rw [upd_ne (fun z => by rw [z, eDc] at e; cases e)]
        exact e
      refine ⟨us, eDc, ?_, fun b o e => ?_, us ++ [.ref t], upd_same, ?_⟩
      · have := sh.1
        rw [List.length_map, List.length_take] at this
        have := R.big
        rw [sizeLine_eq]
        omega
      · rw [upd_ne (ne_of_none e nD)]
        exact sc _ _ (sa _ _ e)
      · rw [List.take_succ, List.getElem?_eq_getElem hi2, List.map_append]
        exact (sh.stay ((Same.tup sc).trans stc)).snoc (stc _ _ ec)
    obtain ⟨sx, us, eD, sh⟩ := z
    rw [List.length_map, List.take_length] at sh
    have s0x : Same H Hx := s1.trans sx
    have fewS : (ks.map (shD rs)).length < 64 := by
      rw [List.length_map]
      have := R.big
      omega
    have shl : ∀ ts ∈ ks.map (shD rs), ∃ d ∈ restD rs b, showD d = ts := fun ts hts => (shows_mem R.fit R.lt M ts).mp hts
    have shq : ∀ ts ∈ ks.map (shD rs), ∃ d, showD d = ts := fun ts hts => by
      obtain ⟨d, _, e⟩ := shl ts hts
      exact ⟨d, e⟩
    -- what is asked
    refine ⟨D, us, ks.map (shD rs), _, _, _, _, _, _, _, _, _, _, rfl, eD, sh, shq, fewS, fun D2 H2 s2 e2 => ?_⟩
    refine ⟨D2, _, rfl, SqL.of e2, Nat.lt_of_le_of_lt (selT_len _ _) fewS, fun p3 L3 H3 n3 s3 e3 m3 l3 => ?_⟩
    have l3' := Nat.lt_of_le_of_lt l3 (Nat.lt_of_le_of_lt (selT_len "ask" (ks.map (shD rs))) fewS)
    refine ⟨p3, L3, rfl, e3, l3', fun sa1 p4 H4 n4 s4 e4 nd4 m4 so4 => ?_⟩
    have mema : ∀ x, x ∈ sa1 ↔ ∃ d ∈ restD rs b, wordOf d = "ask" ∧ nameOf d = x := fun x => by
      rw [m4, m3, sel_mem R.fit R.lt M (.inl rfl)]
    have sx4 : Same Hx H4 := s2.trans (s3.trans s4)
    -- what it ends with
    refine ⟨D, us, ks.map (shD rs), _, _, _, _, _, _, _, _, _, _, rfl, sx4 _ _ eD, sh.stay (Same.tup sx4), shq, fewS, fun D5 H5 s5 e5 => ?_⟩
    refine ⟨D5, _, rfl, SqL.of e5, Nat.lt_of_le_of_lt (selT_len _ _) fewS, fun p6 L6 H6 n6 s6 e6 m6 l6 => ?_⟩
    have l6' := Nat.lt_of_le_of_lt l6 (Nat.lt_of_le_of_lt (selT_len "end" (ks.map (shD rs))) fewS)
    refine ⟨p6, L6, rfl, e6, l6', fun se1 p7 H7 n7 s7 e7 nd7 m7 so7 => ?_⟩
    have meme : ∀ x, x ∈ se1 ↔ ∃ d ∈ restD rs b, wordOf d = "end" ∧ nameOf d = x := fun x => by
      rw [m7, m6, sel_mem R.fit R.lt M (.inr rfl)]
    have s47 : Same H4 H7 := s5.trans (s6.trans s7)
    have s07 : Same H H7 := s0x.trans (sx4.trans s47)
    have e47 := s47 _ _ e4
    have eD7 := s47 _ _ (sx4 _ _ eD)
    have sh7 : Shows H7 us (ks.map (shD rs)) := sh.stay (Same.tup (sx4.trans s47))
    have B7 := B.same s07
    have askd : ∀ as, IsFirsts "ask" (restD rs b) as → as = sa1 := fun as h => firsts_one h nd4 mema so4
    have endd : ∀ as, IsFirsts "end" (restD rs b) as → as = se1 := fun as h => firsts_one h nd7 meme so7
    -- .asked().append("zz")
    refine ⟨_, rfl, bd, dx, _, rfl, s07 _ _ eb, by rfl, bd, o, rs, b, rfl, B7, fun as fa p8 H8 n8 s8 e8 => ⟨.inl ⟨rfl, _, SqL.of e8⟩, p8, _, _, rfl, rfl, e8, ?_, ?_⟩⟩
    · have := R.fa
      rw [List.length_map, fa.1.length_eq, sizeLine_eq]
      omega
    have s7u : Same H7 (upd H8 p8 (.lst (as.map V.str ++ [V.str "zz"]))) := same_updN s8 n8
    generalize upd H8 p8 (.lst (as.map V.str ++ [V.str "zz"])) = H9 at s7u ⊢
    clear e8 s8
    -- .words().clear()
    refine ⟨_, rfl, bd, dx, _, rfl, s7u _ _ (s07 _ _ eb), by rfl, bd, o, rs, b, rfl, B7.same s7u, fun es fe p10 HA nA sA eA => ⟨.inl ⟨rfl, _, SqL.of eA⟩, p10, _, rfl, rfl, eA, ?_⟩⟩
    have s9u : Same H9 (upd HA p10 (.lst [])) := same_updN sA nA
    generalize upd HA p10 (.lst []) = HB at s9u ⊢
    have s7B : Same H7 HB := s7u.trans s9u
    have BB := B7.same s7B
    have s0B : Same H HB := s07.trans s7B
    -- asked, words
    refine ⟨_, rfl, bd, dx, _, rfl, s0B _ _ eb, by rfl, bd, o, rs, b, rfl, BB, fun as2 fa2 pC HC nC sC eC => ⟨_, rfl, ?_⟩⟩
    have ea2 := askd as2 fa2
    subst ea2
    have tx1 := strsL_shaped (firsts_tx R (.inl rfl) fa2)
    refine ⟨_, _, .lst (SqL.of eC) (strs_all _), .lst (SqL.of (sC _ _ (s7B _ _ e47))) (strs_all _), tx1, tx1, _, rfl, ?_⟩
    rw [SeqAt.eqv_refl _ (SeqAt.canLay_of_shaped tx1)]
    refine iteF ?_
    have s0C : Same H HC := s0B.trans sC
    refine ⟨_, rfl, bd, dx, _, rfl, s0C _ _ eb, by rfl, bd, o, rs, b, rfl, BB.same sC, fun es2 fe2 pD HD nD' sD eD' => ⟨_, rfl, ?_⟩⟩
    have ee2 := endd es2 fe2
    subst ee2
    have tx2 := strsL_shaped (firsts_tx R (.inr rfl) fe2)
    have s7D : Same H7 HD := s7B.trans (sC.trans sD)
    refine ⟨_, _, .lst (SqL.of eD') (strs_all _), .lst (SqL.of (s7D _ _ e7)) (strs_all _), tx2, tx2, _, rfl, ?_⟩
    rw [SeqAt.eqv_refl _ (SeqAt.canLay_of_shaped tx2)]
    refine iteF ?_
    have s0D : Same H HD := s07.trans s7D
    -- hangs
    refine ⟨_, rfl, bd, dx, _, rfl, s0D _ _ eb, by rfl, bd, o, rs, b, rfl, B.same s0D, ?_⟩
    refine ⟨endlessD rs b, true, rfl, rfl, ?_⟩
    refine ⟨one_ok _, fun pE HE nE sE eE => ⟨_, rfl, ?_⟩⟩
    have s7E : Same H7 HE := s7D.trans sE
    have s0E : Same H HE := s07.trans s7E
    have txs : ∀ ts ∈ ks.map (shD rs), ∀ t ∈ ts, PyData.strOk t = true := fun ts hts => by
      obtain ⟨d, hd, e⟩ := shl ts hts
      rw [← e]
      exact show_tx (R.tx d (R.rest hd))
    refine ⟨showS ["hang"], (ks.map (shD rs)).map showS, .tup (SqT.of eE) (strs_all ["hang"]), .lst (SqL.of (s7E _ _ eD7)) (sh7.stay (Same.tup s7E)).dp, showS_shaped (fun t ht => by rw [List.mem_singleton.mp ht]; exact strOk_of "hang"), showsL_shaped txs, rfl, _, rfl, ?_⟩
    rw [shows_any, hang_iff R.fit R.lt M]
    have eb2 : (!decide (V.bl (decide (endlessD rs b = true)) = V.bl (endlessD rs b))) = false := by cases endlessD rs b <;> rfl
    rw [eb2]
    refine iteF ?_
    refine ⟨_, rfl, bd, dx, _, rfl, s0E _ _ eb, by rfl, bd, o, rs, b, rfl, B.same s0E, ?_⟩
    refine ⟨_, _, _, _, _, rfl, .ty _, (btBl _).ty, (btBl (K := K) (H := HE) (endlessD rs b)).kit (u := "bool") (by decide), _, rfl, ?_⟩
    refine iteF ?_
    -- in
    refine ⟨_, rfl, c, _, rfl, s0E _ _ hc, fun pF nF => ?_⟩
    have sF := sameNew nF (.lst ((opsK og).map fun kv => kV kv.1))
    have eF : upd HE pF (.lst ((opsK og).map fun kv => kV kv.1)) pF = some (.lst ((opsK og).map fun kv => kV kv.1)) := upd_same
    generalize upd HE pF (.lst ((opsK og).map fun kv => kV kv.1)) = HF at sF eF ⊢
    refine ⟨one_ok _, fun pG HG nG sG eG => ⟨pF, pG, _, _, rfl, rfl, sG _ _ eF, eG, ?_, fun pH HH nH sH eH => ?_⟩⟩
    · rw [List.length_map, opsK_len, sizeLine_eq]
      show _ + 1 ≤ _
      omega
    have s7H : Same H7 HH := s7E.trans (sF.trans (sG.trans sH))
    have s0H : Same H HH := s07.trans s7H
    have txts : ∀ y ∈ ((opsK og).map fun kv => kV kv.1) ++ [V.str "nobody"], ∃ x, y = V.str x := fun y hy => by
      rcases List.mem_append.mp hy with z | z
      · obtain ⟨kv, hkv, rfl⟩ := List.mem_map.mp z
        obtain ⟨q, hq, rfl⟩ := List.mem_map.mp hkv
        exact ⟨q.1, rfl⟩
      · exact ⟨_, List.mem_singleton.mp z⟩
    refine ⟨pH, rfl, ⟨_, SqL.of eH⟩, for_list (K := K) (a := pH) (xs := ((opsK og).map fun kv => kV kv.1) ++ [V.str "nobody"]) (fun i σ H' => ∃ v5 v7 v9 v10 : Option V, σ = [some (.ref bd), some (.ref r), some (.int (b : Int)), some (.ref c), some (.ref D), v5, some (.ref p4), v7, some (.ref p7), v9, v10] ∧ Same HH H') ⟨_, _, _, _, rfl, Same.refl _⟩ (fun i σ H' _ z => by obtain ⟨_, _, _, _, _, s⟩ := z; exact s.seq (SqL.of eH)) ?_ ?_⟩
    · rintro i y σ Hc hi ⟨v5, v7, v9, v10, rfl, sc⟩
      obtain ⟨x, rfl⟩ := txts y (List.mem_of_getElem? hi)
      have s0c := s0H.trans sc
      refine ⟨_, rfl, _, rfl, bd, dx, _, rfl, s0c _ _ eb, bd, .str x, "str", o, rs, b, rfl, B.same s0c, btStr x, fun as3 fa3 => ?_⟩
      have ea3 := askd as3 fa3
      subst ea3
      refine ⟨_, rfl, _, rfl, _, rfl, p4, _, rfl, .inl (SqL.of (sc _ _ (s7H _ _ e47))), rfl, flat_strs _, rfl, false, ?_, ?_⟩
      · show V.bl (!decide (V.bl (hasS as3 (V.str x)) = V.bl (hasS as3 (V.str x)))) = V.bl false
        rw [decide_eq_true rfl]
        rfl
      · exact iteF ⟨_, _, _, _, rfl, sc⟩
    rintro σ Hc ⟨v5, v7, v9, v10, rfl, sc⟩
    have s0c := s0H.trans sc
    -- no other thing
    refine ⟨one_ok _, fun pI HI nI sI eI => ⟨two_ok _ _, fun pJ HJ nJ sJ eJ => fun pK nK => ?_⟩⟩
    have sK := sameNew nK (.dK [])
    have eK : upd HJ pK (.dK []) pK = some (.dK []) := upd_same
    generalize upd HJ pK (.dK []) = HK at sK eK ⊢
    refine ⟨by rw [sizeLine_eq]; exact Nat.le_trans (show 7 ≤ 7 from Nat.le_refl 7) (by decide), fun pL HL nL sL eL => ⟨pL, rfl, ⟨_, SqL.of eL⟩, fun DD nDD => ?_⟩⟩
    have s0L : Same H HL := s0c.trans (sI.trans (sJ.trans (sK.trans sL)))
    obtain ⟨tI, bI, _⟩ := btSeq (K := K) (H := HL) (a := pI) (.inl (sL _ _ (sK _ _ (sJ _ _ eI))))
    obtain ⟨tJ, bJ, _⟩ := btSeq (K := K) (H := HL) (a := pJ) (.inr (sL _ _ (sK _ _ eJ)))
    have each : ∀ x ∈ [V.non, V.int 5, V.bl true, V.str "", V.ref pI, V.ref pJ, V.ref pK], ∃ t, Bt K HL x t ∧ ∀ as, IsFirsts "ask" (restD rs b) as → hasS as x = false := fun x hx => by
      have no : ∀ as, IsFirsts "ask" (restD rs b) as → hasS as (.str "") = false := fun as fa => by
        show inV (.str "") (as.map V.str) = false
        rw [inV_str]
        refine decide_eq_false fun z => ?_
        obtain ⟨d, hd, e1, e2⟩ := (fa.mem _).mp z
        cases d with
        | ask op ns => exact R.ne op ns (R.rest hd) e2
        | go n => exact absurd e1 (show ("go" : Str) ≠ "ask" by decide +kernel)
        | fin u => exact absurd e1 (show ("end" : Str) ≠ "ask" by decide +kernel)
      simp only [List.mem_cons, List.not_mem_nil, or_false] at hx
      rcases hx with rfl | rfl | rfl | rfl | rfl | rfl | rfl
      · exact ⟨_, btNon, fun _ _ => rfl⟩
      · exact ⟨_, btInt _, fun _ _ => rfl⟩
      · exact ⟨_, btBl _, fun _ _ => rfl⟩
      · exact ⟨_, btStr _, no⟩
      · exact ⟨_, bI, fun _ _ => rfl⟩
      · exact ⟨_, bJ, fun _ _ => rfl⟩
      · exact ⟨_, btDict (sL _ _ eK), fun _ _ => rfl⟩
    refine lc_it (walk_list (xs := [V.non, V.int 5, V.bl true, V.str "", V.ref pI, V.ref pJ, V.ref pK])) (fun i Hz => Same HL Hz ∧ Hz DD = some (.lst [])) ⟨sameNew nDD _, upd_same⟩ (fun i Hz _ z => SqL.of (z.1 _ _ eL)) (fun i x Ha Hb hi z1 z2 => ?_) (fun Hz z => ?_)
    · obtain ⟨rfl, ev⟩ := z2
      obtain ⟨sa, e2⟩ := z1
      obtain ⟨t, bt, no⟩ := each x (List.mem_of_getElem? ev)
      have s0b := s0L.trans sa
      refine ⟨rfl, _, rfl, _, rfl, bd, dx, _, rfl, s0b _ _ eb, bd, x, t, o, rs, b, rfl, B.same s0b, bt.same sa, fun as3 fa3 => ⟨_, rfl, _, rfl, ?_⟩⟩
      rw [no as3 fa3]
      exact iteF ⟨sa, e2⟩
    · obtain ⟨sz, e2⟩ := z
      refine ⟨Nat.zero_le _, fun pM HM nM sM eM => ?_⟩
      refine ⟨.list [], .list [], .lst (SqL.of (sM _ _ e2)) .nil, .lst (SqL.of eM) .nil, by decide +kernel, by decide +kernel, ?_⟩
      have := k HM (s0L.trans (sz.trans sM))
      simpa [PyData.eqv, PyData.eqvAll] using this
end
end Mine

set_option maxRecDepth 100000
set_option maxHeartbeats 4000000
set_option pp.maxSteps 400
namespace L2
open PySem PySem.Spec PyProof.Rows
section
variable {X : Cx} {es : List Expr} {kws : List Keyword} {t : TA}
theorem PA.mono (h : PA X es t) : PA X es (fun σ H R => ∃ R', t σ H R' ∧ ∀ vs H1, R' vs H1 → R vs H1) := ⟨fun pos pins s σ H R I ⟨R', h1, h2⟩ => thn (h.run pos pins s σ H R' I h1) fun us s1 ⟨vs, H1, I1, r, q⟩ => ⟨vs, H1, I1, r, h2 _ _ q⟩⟩
theorem PK.mono (h : PK X kws t) : PK X kws (fun σ H R => ∃ R', t σ H R' ∧ ∀ vs H1, R' vs H1 → R vs H1) := ⟨fun pos pins s σ H R I ⟨R', h1, h2⟩ => thn (h.run pos pins s σ H R' I h1) fun us s1 ⟨vs, H1, I1, r, q⟩ => ⟨vs, H1, I1, r, h2 _ _ q⟩⟩
end
end L2
namespace Mine
open PySem L2
/-- the parts of a right body of fewer than 64 rows -/
structure OkB (o : Ops) (rs : List RowD) (b : Nat) : Prop where
  ops : OkOps o
  lo : 1 ≤ rs.length
  hi : rs.length < 64
  rows : OkRows o rs
  lt : b < rs.length
theorem OkB.few {o : Ops} {rs : List RowD} {b : Nat} (h : OkB o rs b) (x : Str) : (distinct x (restD rs b)).length < 64 := by
  have h1 := distinct_len x (restD rs b)
  have h2 : (restD rs b).length ≤ rs.length := by
    unfold restD
    rw [List.length_map]
    exact (metAt_few h.rows.fit h.lt rs.length).len
  have := h.hi
  omega
/-- Body(d, r, start=b), as it is told here -/
def tBody (CB CM : Addr) (t tk : TA) : TE := fun σ H Q => t σ H fun vs H1 => tk σ H1 fun zs H2 => ∃ (d r : Addr) (xs : List V) (rs : List RowD) (o : Ops) (b : Nat), vs = [.ref d, .ref r] ∧ zs = [.int b] ∧ H2 d = some (.dK (opsK o)) ∧ SqA H2 r xs ∧ RowsIn H2 xs rs ∧ OkB o rs b ∧
  ∀ bd H3, H2 bd = none → Same H2 H3 → BodyN CB CM H2 H3 bd o rs b → Q (.ref bd) H3
abbrev KS : List Str := ["start"]
abbrev PB : List Str := ["self", "operations", "rows", "start"]
theorem bindB {K : PySem.W.Frag} {fd : FuncData} (h : ∀ (a b c d : Value), bindArgs fd ⟨[a, b, c], [(("start" : Str), d)]⟩ = pure ([(("self" : Str), a), ("operations", b), ("rows", c), ("start", d)] : List (Str × Value))) : KBn K fd PB (2 + 1) KS (fun us ws => us ++ ws) (fun vs zs => vs ++ zs) where
  to := fun s us ws _ l1 l2 => match us, ws, l1, l2 with
    | [a, b, c], [d], _, _ => .of_eq (h a b c d)
  rel := fun r rz => r.append rz
section
variable {X : Cx} {CB CM f : Addr} {fd : FuncData} {x : Str} {p pos : Pos} {e : Expr} {es : List Expr} {kws : List Keyword} {t tk : TA}
theorem body_end {H2 : Hp} {Q : VK} {E : XK} {d r : Addr} {xs : List V} {rs : List RowD} {o : Ops} {b : Nat} (hd : H2 d = some (.dK (opsK o))) (hx : SqA H2 r xs) (rows : RowsIn H2 xs rs) (ok : OkB o rs b) (k : ∀ bd H3, H2 bd = none → Same H2 H3 → BodyN CB CM H2 H3 bd o rs b → Q (.ref bd) H3)
    (bd dx : Addr) (nb : H2 bd = none) (nd : H2 dx = none) (ne : dx ≠ bd) : spBody CB CM [.ref bd, .ref d, .ref r, .int b] (upd (upd H2 dx (.own bd)) bd (.ins CB dx [])) (fun v H3 => v = .non ∧ Q (.ref bd) H3) E := by
  have sm : Same H2 (upd (upd H2 dx (.own bd)) bd (.ins CB dx [])) := same_updN (same_updN (Same.refl _) nd) nb
  exact ⟨bd, d, r, dx, xs, rs, o, b, rfl, upd_same, sm _ _ hd, ok.ops, sm.sqa hx, rows.same sm, ok.lo, by have := ok.hi; omega, ok.rows, ok.lt, ok.few "ask", ok.few "end", fun H' s' B => ⟨rfl, k bd H' nb (fun b2 u e => s' b2 u (ne_of_none e nb) (sm _ _ e)) (by
    obtain ⟨m, t, l, sa, aa, ea, o', xs, as, es, h, n1, n2, n3, n4, n5, n6⟩ := B
    exact ⟨m, t, l, sa, aa, ea, o', xs, as, es, h, none_of sm n1, none_of sm n2, none_of sm n3, none_of sm n4, none_of sm n5, none_of sm n6⟩)⟩⟩
theorem pe_body (M : Mk X.K CB f) (F : FnOk X.prog X.w X.K X.mg X.base CX0 7 f fd PB (spBody CB CM)) (hr : Room 8 X.A) (hg : Gl X x) (hm : X.mg x = some (.ref CB)) (hb : KBn X.K fd PB (2 + 1) KS (fun us ws => us ++ ws) (fun vs zs => vs ++ zs)) (ha : PA X (e :: es) t) (hkw : PK X kws tk)
    (hall : (backToKw pos (keywordEach kws X.env)).all (·.1.isSome) = true := by rfl) (hks : (backToKw pos (keywordEach kws X.env)).filterMap (·.1) = KS := by rfl) (hdb : (x == ("__debug__" : Str)) = false := by decide)
    (he : starEach (e :: es) X.env = (false, eval e X.env) :: starEach es X.env := by rfl) (hpl : ((backTo pos (starEach (e :: es) X.env)).any (·.1) || (backToKw pos (keywordEach kws X.env)).any (·.1.isNone)) = false := by rfl) :
    PE X (.Call (.Name x p) (e :: es) kws pos) (tBody CB CM t tk) := by
  refine pe_imp (pe_makeK (E := E0) M F hr hg hm hb pass0 ha.mono hkw.mono hall hks hdb he hpl) fun σ H Q q => ?_
  refine ⟨_, q, fun vs H1 q1 => ⟨_, q1, fun zs H2 q2 => ?_⟩⟩
  obtain ⟨d, r, xs, rs, o, b, rfl, rfl, hd, hx, rows, ok, k⟩ := q2
  exact ⟨rfl, rfl, fun bd dx nb nd ne => body_end hd hx rows ok k bd dx nb nd ne⟩
end
abbrev s_right : Stmt := top 55
theorem passNo {X : Cx} : Passes (L2.CX X.prog X.w) X E0 := fun _ _ _ _ _ _ _ c => by
  obtain ⟨_, _, _, _, _, _, _, _, _, _, _, _, z⟩ := c
  exact z.elim
theorem del_upd {H : Hp} {a : Addr} {o : HO} (n : H a = none) : del (upd H a o) a = H := by
  funext b
  by_cases e : b = a
  · rw [e, del_same, n]
  · rw [del_ne e, upd_ne e]
theorem But.refl (H : Hp) (a : Addr) : But H H a := fun _ _ _ e => e
theorem But.sm {H H1 H2 : Hp} {a : Addr} (b : But H H1 a) (s : Same H1 H2) : But H H2 a := fun c o nc e => s _ _ (b c o nc e)
theorem Same.but {H H1 H2 : Hp} {a : Addr} (s : Same H H1) (b : But H1 H2 a) : But H H2 a := fun c o nc e => b c o nc (s _ _ e)
theorem But.tup {H H' : Hp} {a : Addr} (s : But H H' a) (h : SrcAt H a) : TupStay H H' := fun q zs e => s q _ (fun z => by
  obtain ⟨x, y, w, hs⟩ := h
  rw [z, hs] at e
  cases e) e
theorem TRow.stay {H H' : Hp} {v : V} {r : RowD} (s : TupStay H H') (h : TRow H v r) : TRow H' v r := by
  cases r with
  | ask op ns =>
    obtain ⟨a, t, e, h1, h2⟩ := h
    exact ⟨a, t, e, s _ _ h1, s _ _ h2⟩
  | go n =>
    obtain ⟨a, e, h1⟩ := h
    exact ⟨a, e, s _ _ h1⟩
  | fin w =>
    obtain ⟨a, e, h1⟩ := h
    exact ⟨a, e, s _ _ h1⟩
theorem Rows.stay {H H' : Hp} {xs : List V} {rs : List RowD} (s : TupStay H H') (h : Rows H xs rs) : Rows H' xs rs := ⟨h.1, fun i r e => by
  obtain ⟨x, h1, h2⟩ := h.2 i r e
  exact ⟨x, h1, h2.stay s⟩⟩
theorem rows_in {H : Hp} {xs : List V} {rs : List RowD} (h : Rows H xs rs) : RowsIn H xs rs := ⟨h.1, fun i d e => by
  obtain ⟨v, h1, h2⟩ := h.2 i d e
  refine ⟨v, h1, ?_⟩
  cases d with
  | ask op ns =>
    obtain ⟨q, t, e1, k1, k2⟩ := h2
    exact ⟨q, t, e1, .inr k1, .inr k2⟩
  | go n =>
    obtain ⟨q, e1, k1⟩ := h2
    exact ⟨q, e1, .inr k1⟩
  | fin u =>
    obtain ⟨q, e1, k1⟩ := h2
    exact ⟨q, e1, .inr k1⟩⟩
theorem ask_ok {o : Ops} {rs : List RowD} (h : OkRows o rs) : AskOk o rs := fun i op ns e => (h i _ e).1
theorem rows_r {o : Ops} {rs : List RowD} {b : Nat} (ok : OkB o rs b) (l : rs.length ≤ 12) (okr : OkRows o rs) (fine : ∀ d ∈ rs, RowFine d) (nm : ∀ q ∈ o, q.1 ∈ names8) : RowsR rs b := by
  refine ⟨okr.fit, ok.lt, by omega, fun d hd => ?_, fun d hd => (fine d hd).1, ok.few "ask", ok.few "end", fun op ns hm => ?_⟩
  · obtain ⟨i, hi, e⟩ := List.mem_iff_getElem.mp hd
    have := okr i d (by rw [List.getElem?_eq_getElem hi, e])
    cases d with
    | ask op ns => exact this.2.1
    | go n => exact Nat.zero_le _
    | fin u => exact Nat.zero_le _
  · obtain ⟨i, hi, e⟩ := List.mem_iff_getElem.mp hm
    have h0 : OkRow o rs.length (.ask op ns) := okr i (.ask op ns) (by rw [List.getElem?_eq_getElem hi, e])
    have hq := nm _ (opLook_mem h0.1)
    have key : ∀ t ∈ names8, t ≠ "" := by decide +kernel
    exact key _ hq
/-- a thing that cannot come, whatever is drawn -/
def OddV (K : PySem.W.Frag) (H : Hp) (a : Addr) (d : RowD) (v : V) : Prop := ∀ H', But H H' a → CanP K H' d v false
theorem OddV.go {K : PySem.W.Frag} {H H1 : Hp} {a : Addr} {d : RowD} {v : V} (s : Same H H1) (h : OddV K H a d v) : OddV K H1 a d v := fun H' b => h H' (Same.but s b)
theorem oddS {K : PySem.W.Frag} {H : Hp} {a : Addr} {d : RowD} {v : V} {t : String} (b : ∀ H' : Hp, Bt K H' v t) (n : (t == "list" || t == "tuple") = false) : OddV K H a d v := fun H' _ => ⟨t, b H', .inl ⟨n, rfl⟩⟩
theorem oddT {K : PySem.W.Frag} {H : Hp} {a q : Addr} {d : RowD} {ys : List V} (hq : H q = some (.tup ys)) (ne : q ≠ a) (each : ∀ y ∈ ys, ∀ H', But H H' a → ∃ u, Bt K H' y u) (no : comeL d ys = false) : OddV K H a d (.ref q) := fun H' bt => by
  obtain ⟨t, b, e⟩ := btSeq (K := K) (.inr (bt _ _ ne hq))
  exact ⟨t, b, .inr ⟨e, q, ys, rfl, .inr (bt _ _ ne hq), fun y hy => each y hy H' bt, no.symm⟩⟩
theorem come2_int {d : RowD} {x : Str} {i : Int} (h : ∀ op ns, d = .ask op ns → x = op → ¬ (0 ≤ i ∧ i < (ns.length : Int))) : comeL d [.str x, .int i] = false := by
  show come2 d (.str x) (.int i) = false
  cases d with
  | ask op ns =>
    show (decide (x = op) && (decide ((0 : Int) ≤ i) && decide (i ≤ (ns.length : Int) - 1))) = false
    by_cases e : x = op
    · have := h op ns rfl e
      rw [decide_eq_true e, Bool.true_and, ← Bool.decide_and]
      exact decide_eq_false (by omega)
    · rw [decide_eq_false e]
      rfl
  | go n => rfl
  | fin u => rfl
theorem come2_no {d : RowD} {x y : V} (h : (∀ z, x ≠ .str z) ∨ ∀ i, y ≠ .int i) : comeL d [x, y] = false := by
  show come2 d x y = false
  cases d with
  | go n => rfl
  | fin u => rfl
  | ask op ns =>
    cases x with
    | str z =>
      cases y with
      | int i => exact h.elim (fun q => absurd rfl (q z)) fun q => absurd rfl (q i)
      | _ =>
        show (decide (z = op) && false) = false
        rw [Bool.and_false]
    | _ => rfl
def tHistL : TE := fun σ H Q => ∃ (hh : Addr) (ws : List (Str × Nat)) (v0 v1 v2 v3 v4 v5 v7 v8 v9 v10 v11 v12 v13 : Option V), σ = [v0, v1, v2, v3, v4, v5, some (.ref hh), v7, v8, v9, v10, v11, v12, v13] ∧ HistT H hh ws ∧ ws.length ≤ 6 ∧
  ∀ (D : Addr) (xs : List V) (H' : Hp), Same H H' → H' D = some (.lst xs) → xs.length = ws.length → HPsA H' xs ws → Q (.ref D) H'
def tOdd : TS := fun D σ H => ∃ (a ts od : Addr) (d : RowD) (vs : List V) (K : PySem.W.Frag) (v0 v1 v2 v3 v4 v5 v6 v7 v9 v12 v13 : Option V), σ = [v0, v1, v2, v3, v4, v5, v6, v7, some (.ref ts), v9, some (.int ((nextsD d).length : Int)), some (.ref od), v12, v13] ∧ SrcAt H a ∧ H ts = some (.tup ((showD d).map V.str)) ∧ H od = some (.lst vs) ∧ vs.length = 11 ∧ od ≠ a ∧ (∀ v ∈ vs, OddV K H a d v) ∧
  ∀ (od' : Addr) (vs' : List V) (H' : Hp), Same H H' → H' od' = some (.lst vs') → 0 < vs'.length → vs'.length ≤ 20 → (∀ v ∈ vs', OddV K H' a d v) → od' ≠ a → D.nx [v0, v1, v2, v3, v4, v5, v6, v7, some (.ref ts), v9, some (.int ((nextsD d).length : Int)), some (.ref od'), v12, v13] H'
end Mine
set_option maxRecDepth 100000
set_option maxHeartbeats 4000000
set_option pp.maxSteps 400
namespace Mine
open PySem L2
def spRight : Sp := fun vs H Q _ => ∃ (a : Addr), vs = [.ref a] ∧ SrcAt H a ∧ ∀ H', But H H' a → SrcAt H' a → Q (.bl true) H'
theorem eleven {α : Type} (a b c d e f g h i j k : α) : [a, b, c, d, e, f, g, h, i, j, k].length ≤ sizeLine := by rw [sizeLine_eq]; exact Nat.le_trans (show 11 ≤ 11 from Nat.le_refl 11) (by decide)
theorem five_ok {α : Type} (a b c d e : α) : [a, b, c, d, e].length ≤ sizeLine := by rw [sizeLine_eq]; exact Nat.le_trans (show 5 ≤ 5 from Nat.le_refl 5) (by decide)
theorem three_ok (v u t : V) : [v, u, t].length ≤ sizeLine := by rw [sizeLine_eq]; exact Nat.le_trans (show 3 ≤ 3 from Nat.le_refl 3) (by decide)
section
variable {P : Program} {w : World} {K : PySem.W.Frag} {mg : Str → Option Value} {base : Heap}
variable {fII fIW CB CM CH a_next a_ops a_rows a_one a_hist a_showsL a_stepsL a_said a_reached a_shown fB : Addr}
theorem sc__law_right : FnScope ["_law_source", "_law_operations_here", "_law_rows_here", "_law_begin", "_law_body", "_law_known", "_law_history", "_law_at", "_law_shows_here", "_law_one_here", "_law_many", "_law_odd", "_law_bad", "_law_none"] ["_law_source"] (defScope s_right) := ⟨rfl, rfl, rfl, by decide +kernel, rfl, by decide +kernel, by decide +kernel⟩
theorem ok_right {f : Addr} {fd fd_next fd_ops fd_rows fd_one fd_hist fd_showsL fd_stepsL fd_said fd_reached fd_shown fdB : FuncData} (F : Fun K "_law_right" "_law_right" s_right f fd) (T : TxtF K mg fII fIW)
    (MB : Mk K CB fB) (GB : FnOk P w K mg base CX0 7 fB fdB PB (spBody CB CM)) (kB : KBn K fdB PB (2 + 1) KS (fun us ws => us ++ ws) (fun vs zs => vs ++ zs)) (g_Body : mg "Body" = some (.ref CB))
    (GN : FnOk P w K mg base CX0 1 a_next fd_next ["_law_source", "_law_many"] spNext) (b_next : Binds K fd_next ["_law_source", "_law_many"] []) (g_next : mg "_law_next" = some (.ref a_next)) (k_next : PySem.W.keepIn K (.ref a_next) = true)
    (GO : FnOk P w K mg base CX0 3 a_ops fd_ops ["_law_source", "_law_many"] spDrawOps) (b_ops : Binds K fd_ops ["_law_source", "_law_many"] []) (g_ops : mg "_law_operations" = some (.ref a_ops)) (k_ops : PySem.W.keepIn K (.ref a_ops) = true)
    (GR : FnOk P w K mg base CX0 3 a_rows fd_rows ["_law_source", "_law_operations_here", "_law_many"] spDrawRows) (b_rows : Binds K fd_rows ["_law_source", "_law_operations_here", "_law_many"] []) (g_rows : mg "_law_rows" = some (.ref a_rows)) (k_rows : PySem.W.keepIn K (.ref a_rows) = true)
    (GOn : FnOk P w K mg base CX0 2 a_one fd_one ["_law_source", "_law_some"] spOne) (b_one : Binds K fd_one ["_law_source", "_law_some"] []) (g_one : mg "_law_one" = some (.ref a_one)) (k_one : PySem.W.keepIn K (.ref a_one) = true)
    (GHi : FnOk P w K mg base CX0 3 a_hist fd_hist ["_law_rows_here", "_law_at", "_law_many", "_law_limit"] spHist) (b_hist : Binds K fd_hist ["_law_rows_here", "_law_at", "_law_many", "_law_limit"] []) (g_hist : mg "_law_histories" = some (.ref a_hist)) (k_hist : PySem.W.keepIn K (.ref a_hist) = true)
    (GSL : FnOk P w K mg base CX0 2 a_showsL fd_showsL ["_law_rows_here", "_law_at"] spShowsL) (b_showsL : Binds K fd_showsL ["_law_rows_here", "_law_at"] []) (g_showsL : mg "_law_shows" = some (.ref a_showsL)) (k_showsL : PySem.W.keepIn K (.ref a_showsL) = true)
    (GST : FnOk P w K mg base CX0 2 a_stepsL fd_stepsL ["_law_rows_here", "_law_at"] spStepsL) (b_stepsL : Binds K fd_stepsL ["_law_rows_here", "_law_at"] []) (g_stepsL : mg "_law_steps" = some (.ref a_stepsL)) (k_stepsL : PySem.W.keepIn K (.ref a_stepsL) = true)
    (GSa : FnOk P w K mg base CX0 6 a_said fd_said ["_law_body", "_law_history"] (spSaid K CB CM CH)) (b_said : Binds K fd_said ["_law_body", "_law_history"] []) (g_said : mg "_law_said" = some (.ref a_said)) (k_said : PySem.W.keepIn K (.ref a_said) = true)
    (GRe : FnOk P w K mg base CX0 5 a_reached fd_reached ["_law_body", "_law_rows_here", "_law_begin", "_law_operations_here"] (spReached K CB CM)) (b_reached : Binds K fd_reached ["_law_body", "_law_rows_here", "_law_begin", "_law_operations_here"] []) (g_reached : mg "_law_reached_right" = some (.ref a_reached)) (k_reached : PySem.W.keepIn K (.ref a_reached) = true)
    (GSh : FnOk P w K mg base (L2.CX P w) 5 a_shown fd_shown ["body", "history"] (spShownF K CB CM CH)) (b_shown : Binds K fd_shown ["body", "history"] []) (g_shown : mg "shown" = some (.ref a_shown)) (k_shown : PySem.W.keepIn K (.ref a_shown) = true) : FnOk P w K mg base CX0 9 f fd ["_law_source"] spRight := by
  refine F.ok sc__law_right (fun vs H Q E h => ?_) (fun cdv A outer s H vs Q E hr h => ?_)
  · obtain ⟨a, rfl, _⟩ := h
    rfl
  · obtain ⟨a, rfl, ⟨x0, y0, z0, src0⟩, k⟩ := h
    refine ⟨_, (pss_cons (ps_set (i := 1) sc__law_right.nd rfl (Or.inl rfl) (pe_call GO (hr.mono (by decide)) (by rfl) g_ops k_ops b_ops .nil pass0 (pa_cons (pv 0) (pa_cons (pe_op op_add pe_int (pe_call GN (hr.mono (by decide)) (by rfl) g_next k_next b_next .nil pass0 (pa_cons (pv 0) (pa_cons pe_int pa_nil)))) pa_nil))))
      (pss_cons (ps_set (i := 2) sc__law_right.nd rfl (Or.inl rfl) (pe_call GR (hr.mono (by decide)) (by rfl) g_rows k_rows b_rows .nil pass0 (pa_cons (pv 0) (pa_cons (pv 1) (pa_cons (pe_op op_add pe_int (pe_call GN (hr.mono (by decide)) (by rfl) g_next k_next b_next .nil pass0 (pa_cons (pv 0) (pa_cons pe_int pa_nil)))) pa_nil)))))
      (pss_cons (ps_set (i := 3) sc__law_right.nd rfl (Or.inl rfl) (pe_call GN (hr.mono (by decide)) (by rfl) g_next k_next b_next .nil pass0 (pa_cons (pv 0) (pa_cons (pe_callB call_len_seq (by rfl) T.b_len PySem.boot_len (pa_cons (pv 2) pa_nil)) pa_nil))))
      (pss_cons (ps_set (i := 4) sc__law_right.nd rfl (Or.inl rfl) (pe_hide (pe_body MB GB (hr.mono (by decide)) (by rfl) g_Body kB (pa_cons (pv 1) (pa_cons (pv 2) pa_nil)) (pk_cons (pv 3) pk_nil))))
      (pss_cons (ps_set (i := 5) sc__law_right.nd rfl (Or.inl rfl) (pe_call GHi (hr.mono (by decide)) (by rfl) g_hist k_hist b_hist .nil pass0 (pa_cons (pv 2) (pa_cons (pv 3) (pa_cons pe_int (pa_cons pe_int pa_nil))))))
      (pss_cons (ps_for PassesOwn.never rfl (pi_list (pv 5)) (pg_tup rfl (pgs_cons (pg_name (i := 6) sc__law_right.nd rfl (Or.inl rfl)) (pgs_cons (pg_name (i := 7) sc__law_right.nd rfl (Or.inl rfl)) pgs_nil))) (pss_cons (ps_set (i := 8) sc__law_right.nd rfl (Or.inl rfl) (pe_call GSL (hr.mono (by decide)) (by rfl) g_showsL k_showsL b_showsL .nil pass0 (pa_cons (pv 2) (pa_cons (pv 7) pa_nil))))
      (pss_one (ps_if (PW.pt (pw_or (pt_cmpR (op_neD hr.units) (pe_call GSh (hr.mono (by decide)) (by rfl) g_shown k_shown b_shown .nil passNo (pa_cons (pv 4) (pa_cons (pv 6) pa_nil))) (pv 8) (nomark _)) (pw_or1 (pt_cmpR (op_neD hr.units) (pe_call GSh (hr.mono (by decide)) (by rfl) g_shown k_shown b_shown .nil passNo (pa_cons (pv 4) (pa_cons (pe_imp (t' := tHistL) (pe_lc (own := [("_law_one_here", 9)]) (g := gName 9) rfl sc__law_right.nd (pi_tup (pv 6)) (blkOk_by (own := [("_law_one_here", 9)]) (N := ["_law_source", "_law_operations_here", "_law_rows_here", "_law_begin", "_law_body", "_law_known", "_law_history", "_law_at", "_law_shows_here", "_law_one_here", "_law_many", "_law_odd", "_law_bad", "_law_none"]) (sc := defScope s_right) (by decide +kernel)) (fun _ _ _ _ _ => pg_name (i := 9) sc__law_right.nd rfl (Or.inl rfl)) (fun _ _ _ _ _ => pts_nil) (fun _ _ _ _ _ => (pe_callTy call_listG (by rfl) T.b_list (by decide +kernel) (pa_cons (pv 9) pa_nil)))) (fun σ H Q q => by
obtain ⟨hh, ws, v0, v1, v2, v3, v4, v5, v7, v8, v9, v10, v11, v12, v13, rfl, ⟨hvs, eh, lh, hp⟩, wl, kk⟩ := q
refine ⟨_, rfl, hh, rfl, ⟨_, SqT.of eh⟩, fun D nD => ?_⟩
refine lc_it (walk_tup (xs := hvs)) (fun i Hx => Same H Hx ∧ ∃ ls : List V, Hx D = some (.lst ls) ∧ ls.length = i ∧ ∀ (k : Nat) (p : Str × Nat), k < i → ws[k]? = some p → ∃ q, ls[k]? = some (.ref q) ∧ Hx q = some (.lst [.str p.1, .int (p.2 : Int)]) ∧ q ≠ D) ⟨sameNew nD _, [], upd_same, rfl, fun k p hk => absurd hk (Nat.not_lt_zero k)⟩ (fun i Hx _ z => SqT.of (z.1 _ _ eh)) (fun i x Ha Hb hi z1 z2 => ?_) (fun Hx z => ?_)
· obtain ⟨rfl, ev⟩ := z2
  obtain ⟨sa, ls, eD, ll, all⟩ := z1
  have hi2 : i < ws.length := by rw [← lh]; exact hi
  obtain ⟨q, q1, q2⟩ := hp i ws[i] (List.getElem?_eq_getElem hi2)
  rw [ev] at q1
  cases q1
  refine ⟨rfl, _, rfl, q, _, rfl, .inr (sa _ _ q2), fun g Hc ng sc eg => ?_⟩
  have eDc := sc _ _ eD
  have ngD : g ≠ D := fun z => by rw [z, eD] at ng; cases ng
  refine ⟨ls, eDc, by rw [ll, sizeLine_eq]; omega, fun b o e => ?_, ls ++ [.ref g], upd_same, by rw [List.length_append, ll]; rfl, fun k p hk ek => ?_⟩
  · rw [upd_ne (ne_of_none e nD)]
    exact sc _ _ (sa _ _ e)
  · by_cases hk2 : k < i
    · obtain ⟨c, h1, h2, h3⟩ := all k p hk2 ek
      refine ⟨c, by rw [List.getElem?_append_left (by rw [ll]; exact hk2)]; exact h1, ?_, h3⟩
      rw [upd_ne h3]
      exact sc _ _ h2
    · have e : k = i := by omega
      subst e
      rw [List.getElem?_eq_getElem hi2] at ek
      cases ek
      refine ⟨g, by rw [← ll, List.getElem?_append_right (Nat.le_refl _), Nat.sub_self]; rfl, ?_, ngD⟩
      rw [upd_ne ngD]
      exact eg
· obtain ⟨sx, ls, eD, ll, all⟩ := z
  exact kk D ls Hx sx eD (by rw [ll, lh]) ⟨by rw [ll, lh]; exact Nat.le_refl _, fun k p ek => by
    obtain ⟨q, h1, h2, _⟩ := all k p (by rw [lh]; exact (List.getElem?_eq_some_iff.mp ek).1) ek
    exact ⟨q, h1, .inl h2⟩⟩)) pa_nil))) (pv 8) (nomark _))))) (pss_one (ps_ret pe_bl)) pss_nil))))
      (pss_cons (ps_asg (pe_call GOn (hr.mono (by decide)) (by rfl) g_one k_one b_one .nil pass0 (pa_cons (pv 0) (pa_cons (pv 5) pa_nil))) (pg_tup rfl (pgs_cons (pg_name (i := 6) sc__law_right.nd rfl (Or.inl rfl)) (pgs_cons (pg_name (i := 7) sc__law_right.nd rfl (Or.inl rfl)) pgs_nil))))
      (pss_cons (ps_par (i := 8) (j := 10) rfl sc__law_right.nd rfl rfl (by decide) rfl rfl (pa_cons (pe_call GSL (hr.mono (by decide)) (by rfl) g_showsL k_showsL b_showsL .nil pass0 (pa_cons (pv 2) (pa_cons (pv 7) pa_nil))) (pa_cons (pe_callB call_len_seq (by rfl) T.b_len PySem.boot_len (pa_cons (pe_call GST (hr.mono (by decide)) (by rfl) g_stepsL k_stepsL b_stepsL .nil pass0 (pa_cons (pv 2) (pa_cons (pv 7) pa_nil))) pa_nil)) pa_nil)) rfl)
      (pss_cons (ps_set (i := 11) sc__law_right.nd rfl (Or.inl rfl) (pe_lstG (pa_cons pe_non (pa_cons pe_int (pa_cons pe_str (pa_cons (pe_tupG pa_nil) (pa_cons (pe_tupG (pa_cons pe_str pa_nil)) (pa_cons (pe_tupG (pa_cons pe_str (pa_cons pe_int (pa_cons pe_int pa_nil)))) (pa_cons (pe_tupG (pa_cons pe_str (pa_cons pe_int pa_nil))) (pa_cons (pe_tupG (pa_cons pe_non (pa_cons pe_int pa_nil))) (pa_cons (pe_tupG (pa_cons (pe_lstG pa_nil) (pa_cons pe_int pa_nil))) (pa_cons pe_dnewK (pa_cons (pe_tupG (pa_cons pe_str (pa_cons pe_str pa_nil))) pa_nil)))))))))))))
      (pss_cons (ps_imp (t' := tOdd) (ps_if (pt_cmpR op_eq (pe_ix ix_tup (pv 8) pe_int (fun _ _ => rfl)) pe_str (nomark _)) (pss_one (ps_set (i := 11) sc__law_right.nd rfl (Or.inl rfl) (pe_op op_catG (pv 11) (pe_lstG (pa_cons (pe_tupG (pa_cons (pe_ix ix_tup (pv 8) pe_int (fun _ _ => rfl)) (pa_cons (pv 10) pa_nil))) (pa_cons (pe_tupG (pa_cons (pe_ix ix_tup (pv 8) pe_int (fun _ _ => rfl)) (pa_cons (pe_un un_neg pe_int) pa_nil))) (pa_cons (pe_tupG (pa_cons (pe_ix ix_tup (pv 8) pe_int (fun _ _ => rfl)) (pa_cons pe_non pa_nil))) (pa_cons (pe_tupG (pa_cons (pe_ix ix_tup (pv 8) pe_int (fun _ _ => rfl)) (pa_cons pe_bl pa_nil))) (pa_cons (pe_tupG (pa_cons (pe_ix ix_tup (pv 8) pe_int (fun _ _ => rfl)) (pa_cons pe_str pa_nil))) pa_nil))))))))) pss_nil) (fun D σ H q => by
obtain ⟨a, ts, od, d, vs, K', v0, v1, v2, v3, v4, v5, v6, v7, v9, v12, v13, rfl, ⟨x, y, z, src⟩, ets, eod, l11, noda, odd, kk⟩ := q
cases d with
| go n =>
  have ets : H ts = some (.tup [V.str "hang"]) := ets
  refine ⟨_, rfl, _, _, _, _, rfl, rfl, .inl (.inl ets), at0', rfl, _, rfl, ?_⟩
  rw [strNe (show ("hang" : Str) ≠ "ask" by decide +kernel)]
  exact iteF (kk od vs H (Same.refl H) eod (by omega) (by omega) odd noda)
| fin u =>
  have ets : H ts = some (.tup [V.str "end", V.str u]) := ets
  refine ⟨_, rfl, _, _, _, _, rfl, rfl, .inl (.inl ets), at0', rfl, _, rfl, ?_⟩
  rw [strNe (show ("end" : Str) ≠ "ask" by decide +kernel)]
  exact iteF (kk od vs H (Same.refl H) eod (by omega) (by omega) odd noda)
| ask op ns =>
  have ets : H ts = some (.tup [V.str "ask", V.str op]) := ets
  have nm : (nextsD (.ask op ns)).length = ns.length := rfl
  refine ⟨_, rfl, _, _, _, _, rfl, rfl, .inl (.inl ets), at0', rfl, _, rfl, ?_⟩
  rw [strEq]
  refine iteT ?_
  have two : ∀ u v : V, [u, v].length ≤ sizeLine := two_ok
  refine ⟨_, rfl, _, rfl, _, _, _, _, rfl, rfl, .inl (.inl ets), at1', _, rfl, two_ok _ _, fun q1 H1 n1 s1 e1 => ?_⟩
  have t1 := s1 _ _ ets
  refine ⟨_, rfl, _, _, _, _, rfl, rfl, .inl (.inl t1), at1', 1, rfl, two_ok _ _, fun q2 H2 n2 s2 e2 => ?_⟩
  have t2 := s2 _ _ t1
  refine ⟨_, rfl, _, _, _, _, rfl, rfl, .inl (.inl t2), at1', two_ok _ _, fun q3 H3 n3 s3 e3 => ?_⟩
  have t3 := s3 _ _ t2
  refine ⟨_, rfl, _, _, _, _, rfl, rfl, .inl (.inl t3), at1', two_ok _ _, fun q4 H4 n4 s4 e4 => ?_⟩
  have t4 := s4 _ _ t3
  refine ⟨_, rfl, _, _, _, _, rfl, rfl, .inl (.inl t4), at1', two_ok _ _, fun q5 H5 n5 s5 e5 => ?_⟩
  refine ⟨by rw [sizeLine_eq]; exact Nat.le_trans (show 5 ≤ 5 from Nat.le_refl 5) (by decide), fun q6 H6 n6 s6 e6 => ?_⟩
  have s06 : Same H H6 := s1.trans (s2.trans (s3.trans (s4.trans (s5.trans s6))))
  refine ⟨od, q6, vs, _, rfl, rfl, s06 _ _ eod, e6, by rw [l11, sizeLine_eq]; exact Nat.le_trans (show 16 ≤ 16 from Nat.le_refl 16) (by decide), fun q7 H7 n7 s7 e7 => ?_⟩
  have s07 := s06.trans s7
  have src1 := s1 _ _ src
  have src2 := s2 _ _ src1
  have src3 := s3 _ _ src2
  have src4 := s4 _ _ src3
  have a1 : q1 ≠ a := (ne_of_none src n1).symm
  have a2 : q2 ≠ a := (ne_of_none src1 n2).symm
  have a3 : q3 ≠ a := (ne_of_none src2 n3).symm
  have a4 : q4 ≠ a := (ne_of_none src3 n4).symm
  have a5 : q5 ≠ a := (ne_of_none src4 n5).symm
  have s67 := s6.trans s7
  have s57 := s5.trans s67
  have s47 := s4.trans s57
  have s37 := s3.trans s47
  have s27 := s2.trans s37
  have pr : ∀ (z : Str) (v : V) (u : String), (∀ H' : Hp, Bt K' H' v u) → ∀ w ∈ [V.str z, v], ∀ H', But H7 H' a → ∃ u, Bt K' H' w u := fun z v u b w hw H' _ => by
    rcases List.mem_cons.mp hw with e | e
    · rw [e]; exact ⟨_, btStr _⟩
    · rw [List.mem_singleton.mp e]; exact ⟨_, b H'⟩
  refine kk q7 _ H7 s07 e7 (by rw [List.length_append]; omega) (by rw [List.length_append, l11]; exact Nat.le_trans (show 16 ≤ 16 from Nat.le_refl 16) (by decide)) (fun v hv => ?_) (ne_of_none (s06 _ _ src) n7).symm
  rcases List.mem_append.mp hv with w | w
  · exact (odd v w).go s07
  · simp only [List.mem_cons, List.not_mem_nil, or_false] at w
    rcases w with rfl | rfl | rfl | rfl | rfl
    · exact oddT (s27 _ _ e1) a1 (pr _ _ _ fun _ => btInt _) (come2_int fun op' ns' e _ => by cases e; omega)
    · exact oddT (s37 _ _ e2) a2 (pr _ _ _ fun _ => btInt _) (come2_int fun op' ns' e _ => by omega)
    · exact oddT (s47 _ _ e3) a3 (pr _ _ _ fun _ => btNon) (come2_no (.inr fun i z => nomatch z))
    · exact oddT (s57 _ _ e4) a4 (pr _ _ _ fun _ => btBl _) (come2_no (.inr fun i z => nomatch z))
    · exact oddT (s67 _ _ e5) a5 (pr _ _ _ fun _ => btStr _) (come2_no (.inr fun i z => nomatch z))))
      (pss_cons (ps_set (i := 12) sc__law_right.nd rfl (Or.inl rfl) (pe_op op_catG (pe_op op_catG (pe_callTy call_listG (by rfl) T.b_list (by decide +kernel) (pa_cons (pv 6) pa_nil)) (pe_lstG (pa_cons (pe_call GOn (hr.mono (by decide)) (by rfl) g_one k_one b_one .nil pass0 (pa_cons (pv 0) (pa_cons (pv 11) pa_nil))) pa_nil))) (pe_op op_repG (pe_lstG (pa_cons pe_non pa_nil)) (pe_call GN (hr.mono (by decide)) (by rfl) g_next k_next b_next .nil pass0 (pa_cons (pv 0) (pa_cons pe_int pa_nil))))))
      (pss_cons (ps_if (PW.pt (pw_or (pt_cmpR op_ne (pe_call GSa (hr.mono (by decide)) (by rfl) g_said k_said b_said .nil pass0 (pa_cons (pv 4) (pa_cons (pv 12) pa_nil))) (pe_callB call_len_seq (by rfl) T.b_len PySem.boot_len (pa_cons (pv 6) pa_nil)) (nomark _)) (pw_or1 (pt_cmpR op_ne (pe_call GSa (hr.mono (by decide)) (by rfl) g_said k_said b_said .nil pass0 (pa_cons (pv 4) (pa_cons (pe_callTy call_tupleG (by rfl) T.b_tuple (by decide +kernel) (pa_cons (pv 12) pa_nil)) pa_nil))) (pe_callB call_len_seq (by rfl) T.b_len PySem.boot_len (pa_cons (pv 6) pa_nil)) (nomark _))))) (pss_one (ps_ret pe_bl)) pss_nil)
      (pss_cons (ps_for PassesOwn.never rfl (pi_list (pe_lstG (pa_cons pe_non (pa_cons pe_int (pa_cons pe_str (pa_cons pe_dnewK (pa_cons pe_bl pa_nil))))))) (pg_name (i := 13) sc__law_right.nd rfl (Or.inl rfl)) (pss_one (ps_if (pt_cmpR op_ne (pe_call GSa (hr.mono (by decide)) (by rfl) g_said k_said b_said .nil pass0 (pa_cons (pv 4) (pa_cons (pv 13) pa_nil))) (pe_un un_neg pe_int) (nomark _)) (pss_one (ps_ret pe_bl)) pss_nil)))
      (pss_one (ps_ret (pe_call GRe (hr.mono (by decide)) (by rfl) g_reached k_reached b_reached .nil pass0 (pa_cons (pv 4) (pa_cons (pv 2) (pa_cons (pv 3) (pa_cons (pv 1) pa_nil)))))))))))))))))))), ?_⟩
    -- operations
    refine ⟨_, rfl, ⟨_, rfl, a, 4, x0, y0, z0, rfl, by decide, by decide, src0, fun n x2 y2 z2 J1 n0 n1 b1 f1 => ?_⟩⟩
    obtain ⟨n, rfl⟩ : ∃ m : Nat, n = (m : Int) := ⟨n.toNat, by omega⟩
    refine ⟨_, _, rfl, rfl, ?_⟩
    refine ⟨a, 1 + n, x2, y2, z2, (show [V.ref a, V.int ((1 : Int) + (n : Int))] = [V.ref a, V.int ((1 + n : Nat) : Int)] by rw [show ((1 + n : Nat) : Int) = 1 + (n : Int) by omega]), f1, by omega, fun po o x3 y3 z3 J2 npo ol onm ond b2 f2 fo => ?_⟩
    have npoa : po ≠ a := (ne_of_none f1 npo).symm
    have few : o.length < 64 := by omega
    -- rows
    refine ⟨_, rfl, _, rfl, ⟨_, rfl, a, 12, x3, y3, z3, rfl, by decide, by decide, f2, fun n2 x4 y4 z4 J3 m0 m1 b3 f3 => ?_⟩⟩
    obtain ⟨n2, rfl⟩ : ∃ m : Nat, n2 = (m : Int) := ⟨n2.toNat, by omega⟩
    refine ⟨_, _, rfl, rfl, ?_⟩
    refine ⟨a, po, o, 1 + n2, x4, y4, z4, (show [V.ref a, V.ref po, V.int ((1 : Int) + (n2 : Int))] = [V.ref a, V.ref po, V.int ((1 + n2 : Nat) : Int)] by rw [show ((1 + n2 : Nat) : Int) = 1 + (n2 : Int) by omega]), f3, b3 _ _ npoa fo, ond, few, onm, by omega, by omega, fun pr xs rs x5 y5 z5 J4 npr rl okr fine b4 f4 fr rows => ?_⟩
    have npra : pr ≠ a := (ne_of_none f3 npr).symm
    have fo4 := b4 _ _ npoa (b3 _ _ npoa fo)
    have lx : xs.length = rs.length := rows.1
    have bd4 : But H J4 a := b1.trans (b2.trans (b3.trans b4))
    -- the beginning
    refine ⟨_, rfl, _, rfl, pr, xs, rfl, .inl (SqL.of fr), a, (xs.length : Int), x5, y5, z5, rfl, by omega, by
      rw [Int.natAbs_natCast]
      exact Nat.lt_of_le_of_lt (show xs.length ≤ 400 by omega) (by decide), f4, fun bb x6 y6 z6 J5 k0 k1 b5 f5 => ?_⟩
    obtain ⟨bb, rfl⟩ : ∃ m : Nat, bb = (m : Int) := ⟨bb.toNat, by omega⟩
    have oko : OkOps o := ⟨by omega, fun q hq => ⟨names8_ok _ (onm q hq).1, (onm q hq).2.1, by have := (onm q hq).2.2; omega⟩, ond⟩
    have ok1 : OkB o rs bb := ⟨oko, by omega, by omega, okr, by omega⟩
    have RR : RowsR rs bb := rows_r ok1 (by omega) okr fine (fun q hq => (onm q hq).1)
    have st45 : TupStay J4 J5 := b5.tup ⟨x5, y5, z5, f4⟩
    have st5d : TupStay J5 (del J5 a) := fun q zs e => by
      rw [del_ne (fun z => by rw [z, f5] at e; cases e)]
      exact e
    have fod : del J5 a po = some (.dK (opsK o)) := by rw [del_ne npoa]; exact b5 _ _ npoa fo4
    have frd : del J5 a pr = some (.lst xs) := by rw [del_ne npra]; exact b5 _ _ npra fr
    have rowsd : Rows (del J5 a) xs rs := (rows.stay st45).stay st5d
    -- the body
    refine ⟨a, _, f5, ?_⟩
    refine ⟨_, rfl, _, rfl, _, rfl, po, pr, xs, rs, o, bb, rfl, rfl, fod, .inl frd, rows_in rowsd, ok1, fun L G nL sL BL mG => ?_⟩
    have sG6 : Same G (upd G a (.lst [.int x6, .int y6, .int z6])) := sameNew mG _
    have e6 : upd G a (.lst [.int x6, .int y6, .int z6]) a = some (.lst [.int x6, .int y6, .int z6]) := upd_same
    generalize upd G a (.lst [.int x6, .int y6, .int z6]) = J6 at sG6 e6 ⊢
    have BG : BodyAt CB CM G L o rs bb := BL.at
    have b56 : But J5 J6 a := fun b o nb e => sG6 _ _ (sL _ _ (by rw [del_ne nb]; exact e))
    have bd6 : But H J6 a := (bd4.trans b5).trans b56
    have frG := sL _ _ frd
    have foG := sL _ _ fod
    have rowsG : Rows G xs rs := rowsd.same sL
    have ask := ask_ok okr
    have fit := RR.fit
    have blt := RR.lt
    -- histories
    refine ⟨_, rfl, _, rfl, pr, xs, rs, bb, rfl, sG6 _ _ frG, rowsG.same sG6, fit, blt, by omega, RR.few, fun fa us J7 nfa s7 efa upos u60 all7 => ?_⟩
    have nfaa : fa ≠ a := (ne_of_none e6 nfa).symm
    have sG7 : Same G J7 := sG6.trans s7
    have bd7 : But H J7 a := bd6.sm s7
    have e7 := s7 _ _ e6
    -- what is shown behind each
    refine ⟨_, rfl, fa, rfl, ⟨_, SqL.of efa⟩, for_list (K := K) (a := fa) (xs := us) (fun i σ H' => ∃ v6 v7 v8 v9 v10 v11 v12 v13 : Option V, σ = [some (.ref a), some (.ref po), some (.ref pr), some (.int (bb : Int)), some (.ref L), some (.ref fa), v6, v7, v8, v9, v10, v11, v12, v13] ∧ Same J7 H') ⟨_, _, _, _, _, _, _, _, rfl, Same.refl _⟩ (fun i σ H' _ z => by obtain ⟨_, _, _, _, _, _, _, _, _, s⟩ := z; exact s.seq (SqL.of efa)) ?_ ?_⟩
    · rintro i v σ Hc hi ⟨v6, v7, v8, v9, v10, v11, v12, v13, rfl, sc⟩
      obtain ⟨t, hh, ws, p, rfl, ht, hist, wl, plt, go⟩ := (all7 v (List.mem_of_getElem? hi)).stay (Same.tup sc)
      have sGc := sG7.trans sc
      refine ⟨t, _, rfl, .inl (.inl ht), rfl, _, _, rfl, _, _, rfl, rfl, ?_⟩
      refine ⟨_, rfl, _, rfl, pr, xs, rs, p, rfl, sGc _ _ frG, rowsG.same sGc, fit.go, plt, by omega, fun ts Hd sd et => ?_⟩
      have sGd := sGc.trans sd
      have slt := stp_lt fit.go plt
      obtain ⟨d, ed⟩ : ∃ d, rs[stp rs p]? = some d := ⟨_, List.getElem?_eq_getElem slt⟩
      have tx := showS_shaped (show_tx (RR.tx d (List.mem_of_getElem? ed)))
      rw [showAt_of ed] at et
      obtain ⟨hvs, sqh, lh, hps⟩ := (hist.stay (Same.tup sd)).a
      obtain ⟨ty, bt, ebt⟩ := btSeq (K := K) sqh
      refine ⟨_, rfl, _, rfl, L, .ref hh, ty, o, rs, bb, rfl, BG.same sGd, ond, ask, fit, bt, .inr ⟨ebt, hh, hvs, ws, stp rs p, rfl, sqh, hps, go, .inl ⟨lh, fun t2 He se et2 => ?_⟩⟩⟩
      rw [showAt_of ed] at et2
      refine ⟨_, rfl, _, _, .tup (SqT.of et2) (strs_all _), .tup (SqT.of (se _ _ et)) (strs_all _), tx, tx, _, rfl, ?_⟩
      rw [show PyData.eqv (.tuple ((showD d).map PyData.str)) (.tuple ((showD d).map PyData.str)) = true from SeqAt.eqv_refl _ (SeqAt.canLay_of_shaped tx)]
      refine iteF ?_
      refine ⟨_, rfl, hh, ws, _, _, _, _, _, _, _, _, _, _, _, _, _, rfl, hist.stay (Same.tup (sd.trans se)), wl, fun D2 ls Hf sf eD2 ll hp2 => ?_⟩
      have sGf := sGd.trans (se.trans sf)
      obtain ⟨ty2, bt2, ebt2⟩ := btSeq (K := K) (.inl eD2)
      refine ⟨L, .ref D2, ty2, o, rs, bb, rfl, BG.same sGf, ond, ask, fit, bt2, .inr ⟨ebt2, D2, ls, ws, stp rs p, rfl, .inl eD2, hp2, go, .inl ⟨ll, fun t3 Hg sg et3 => ?_⟩⟩⟩
      rw [showAt_of ed] at et3
      have sdg := se.trans (sf.trans sg)
      refine ⟨_, rfl, _, _, .tup (SqT.of et3) (strs_all _), .tup (SqT.of (sdg _ _ et)) (strs_all _), tx, tx, _, rfl, ?_⟩
      rw [show PyData.eqv (.tuple ((showD d).map PyData.str)) (.tuple ((showD d).map PyData.str)) = true from SeqAt.eqv_refl _ (SeqAt.canLay_of_shaped tx)]
      exact iteF ⟨_, _, _, _, _, _, _, _, rfl, sc.trans (sd.trans sdg)⟩
    rintro σ J8 ⟨v6, v7, v8, v9, v10, v11, v12, v13, rfl, s8⟩
    have e8 := s8 _ _ e7
    have sG8 := sG7.trans s8
    have bd8 : But H J8 a := bd7.sm s8
    -- one of them
    refine ⟨_, rfl, _, rfl, a, fa, us, x6, y6, z6, rfl, e8, s8 _ _ efa, upos, by omega, Ne.symm nfaa, fun v x9 y9 z9 J9 mv b9 f9 => ?_⟩
    have sG9 : Same G J9 := fun c o e => b9 c o (ne_of_none e mG) (sG8 _ _ e)
    have st89 : TupStay J8 J9 := b9.tup ⟨x6, y6, z6, e8⟩
    obtain ⟨t, hh, ws, p, rfl, ht, hist, wl, plt, go⟩ := ((all7 v mv).stay (Same.tup s8)).stay st89
    have bd9 : But H J9 a := bd8.trans b9
    refine ⟨t, _, rfl, .inl (.inl ht), rfl, _, _, rfl, _, _, rfl, rfl, ?_⟩
    refine ⟨_, rfl, _, rfl, pr, xs, rs, p, rfl, sG9 _ _ frG, rowsG.same sG9, fit.go, plt, by omega, fun ts JA sA et => ?_⟩
    have slt := stp_lt fit.go plt
    obtain ⟨d, ed⟩ : ∃ d, rs[stp rs p]? = some d := ⟨_, List.getElem?_eq_getElem slt⟩
    rw [showAt_of ed] at et
    have sGA := sG9.trans sA
    refine ⟨_, rfl, _, rfl, pr, xs, rs, p, rfl, sGA _ _ frG, rowsG.same sGA, fit.go, plt, by omega, fun D JB nD sB eD => ?_⟩
    rw [stepsAt_of ed] at eD
    refine ⟨D, _, rfl, .inl (SqL.of eD), ?_⟩
    rw [List.length_map]
    refine ⟨_, _, rfl, ?_⟩
    have s9B : Same J9 JB := sA.trans sB
    have fB' := s9B _ _ f9
    have etB := sB _ _ et
    -- things that cannot come
    refine ⟨Nat.zero_le _, fun q1 H1 n1 s1 e1 => ⟨one_ok _, fun q2 H2 n2 s2 e2 => ⟨three_ok _ _ _, fun q3 H3 n3 s3 e3 => ⟨two_ok _ _, fun q4 H4 n4 s4 e4 => ⟨two_ok _ _, fun q5 H5 n5 s5 e5 => ⟨Nat.zero_le _, fun q6 H6 n6 s6 e6' => ⟨two_ok _ _, fun q7 H7 n7 s7' e7' => fun q8 n8 => ?_⟩⟩⟩⟩⟩⟩⟩
    have s8u := sameNew n8 (.dK [])
    have e8' : upd H7 q8 (.dK []) q8 = some (.dK []) := upd_same
    generalize upd H7 q8 (.dK []) = H8 at s8u e8' ⊢
    refine ⟨two_ok _ _, fun q9 H9 n9 s9 e9 => ⟨eleven _ _ _ _ _ _ _ _ _ _ _, fun q10 HC n10 s10 e10 => ?_⟩⟩
    have g1 := s1 _ _ fB'
    have g2 := s2 _ _ g1
    have g3 := s3 _ _ g2
    have g4 := s4 _ _ g3
    have g5 := s5 _ _ g4
    have g6 := s6 _ _ g5
    have g7 := s7' _ _ g6
    have g8 := s8u _ _ g7
    have g9 := s9 _ _ g8
    have a1 : q1 ≠ a := (ne_of_none fB' n1).symm
    have a2 : q2 ≠ a := (ne_of_none g1 n2).symm
    have a3 : q3 ≠ a := (ne_of_none g2 n3).symm
    have a4 : q4 ≠ a := (ne_of_none g3 n4).symm
    have a5 : q5 ≠ a := (ne_of_none g4 n5).symm
    have a6 : q6 ≠ a := (ne_of_none g5 n6).symm
    have a7 : q7 ≠ a := (ne_of_none g6 n7).symm
    have a8 : q8 ≠ a := (ne_of_none g7 n8).symm
    have a9 : q9 ≠ a := (ne_of_none g8 n9).symm
    have t9 : Same H9 HC := s10
    have t8 := s9.trans t9
    have t7 := s8u.trans t8
    have t6 := s7'.trans t7
    have t5 := s6.trans t6
    have t4 := s5.trans t5
    have t3 := s4.trans t4
    have t2 := s3.trans t3
    have t1 := s2.trans t2
    have sBC : Same JB HC := s1.trans t1
    have nmd : ∀ op ns, d = .ask op ns → op ≠ "nobody" := fun op ns e z => by
      have h0 : OkRow o rs.length (.ask op ns) := okr (stp rs p) (.ask op ns) (by rw [ed, e])
      have hq := (onm _ (opLook_mem h0.1)).1
      have key : ∀ t ∈ names8, t ≠ "nobody" := by decide +kernel
      exact key _ hq z
    have allC : ∀ v ∈ [V.non, V.int 5, V.str "ab", V.ref q1, V.ref q2, V.ref q3, V.ref q4, V.ref q5, V.ref q7, V.ref q8, V.ref q9], OddV K HC a d v := fun v hv => by
      simp only [List.mem_cons, List.not_mem_nil, or_false] at hv
      rcases hv with rfl | rfl | rfl | rfl | rfl | rfl | rfl | rfl | rfl | rfl | rfl
      · exact oddS (fun _ => btNon) rfl
      · exact oddS (fun _ => btInt _) rfl
      · exact oddS (fun _ => btStr _) rfl
      · exact oddT (t1 _ _ e1) a1 (fun y hy => nomatch hy) (comeL_no (by decide))
      · exact oddT (t2 _ _ e2) a2 (fun y hy H' _ => by rw [List.mem_singleton.mp hy]; exact ⟨_, btStr _⟩) (comeL_no (by decide))
      · refine oddT (t3 _ _ e3) a3 (fun y hy H' _ => ?_) (comeL_no (by decide))
        simp only [List.mem_cons, List.not_mem_nil, or_false] at hy
        rcases hy with rfl | rfl | rfl
        · exact ⟨_, btStr _⟩
        · exact ⟨_, btInt _⟩
        · exact ⟨_, btInt _⟩
      · refine oddT (t4 _ _ e4) a4 (fun y hy H' _ => ?_) (come2_int fun op ns e z => absurd z.symm (nmd op ns e))
        simp only [List.mem_cons, List.not_mem_nil, or_false] at hy
        rcases hy with rfl | rfl
        · exact ⟨_, btStr _⟩
        · exact ⟨_, btInt _⟩
      · refine oddT (t5 _ _ e5) a5 (fun y hy H' _ => ?_) (come2_no (.inl fun z h => nomatch h))
        simp only [List.mem_cons, List.not_mem_nil, or_false] at hy
        rcases hy with rfl | rfl
        · exact ⟨_, btNon⟩
        · exact ⟨_, btInt _⟩
      · refine oddT (t7 _ _ e7') a7 (fun y hy H' bt => ?_) (come2_no (.inl fun z h => nomatch h))
        simp only [List.mem_cons, List.not_mem_nil, or_false] at hy
        rcases hy with rfl | rfl
        · obtain ⟨u, bu, _⟩ := btSeq (K := K) (H := H') (a := q6) (.inl (bt _ _ a6 (t6 _ _ e6')))
          exact ⟨u, bu⟩
        · exact ⟨_, btInt _⟩
      · exact fun H' bt => ⟨"dict", btDict (bt _ _ a8 (t8 _ _ e8')), .inl ⟨rfl, rfl⟩⟩
      · refine oddT (t9 _ _ e9) a9 (fun y hy H' _ => ?_) (come2_no (.inr fun i h => nomatch h))
        simp only [List.mem_cons, List.not_mem_nil, or_false] at hy
        rcases hy with rfl | rfl
        · exact ⟨_, btStr _⟩
        · exact ⟨_, btStr _⟩
    refine ⟨a, ts, q10, d, _, K, _, _, _, _, _, _, _, _, _, _, _, rfl, ⟨_, _, _, sBC _ _ fB'⟩, sBC _ _ etB, e10, rfl, (ne_of_none g9 n10).symm, allC, fun od vs' HD sD eod pos le odd noda => ?_⟩
    have s9D : Same J9 HD := s9B.trans (sBC.trans sD)
    have fD := s9D _ _ f9
    obtain ⟨hvs, eh, lh, hp⟩ := hist.stay (Same.tup s9D)
    clear allC e1 e2 e3 e4 e5 e6' e7' e8' e9 e10 t1 t2 t3 t4 t5 t6 t7 t8 t9
    have sGD : Same G HD := sG9.trans s9D
    have bdD : But H HD a := bd9.sm s9D
    have mGs : ∀ {Ha Hb : Hp}, Same G Ha → But Ha Hb a → Same G Hb := fun s b c o e => b c o (ne_of_none e mG) (s _ _ e)
    -- a history that cannot come
    refine ⟨_, rfl, hh, hvs, rfl, .inr eh, fun pA HE nA sE eA => ?_⟩
    have fE := sE _ _ fD
    have neA : pA ≠ a := (ne_of_none fD nA).symm
    refine ⟨_, rfl, _, rfl, a, od, vs', x9, y9, z9, rfl, fE, sE _ _ eod, pos, by omega, Ne.symm noda, fun x xF yF zF HF mvF bF fF => ?_⟩
    have bd0 : But H HF a := (bdD.sm sE).trans bF
    have sG0 : Same G HF := mGs (sGD.trans sE) bF
    have stEF : TupStay HE HF := bF.tup ⟨_, _, _, fE⟩
    have no0 : OddV K HE a d x := (odd x mvF).go sE
    have hp0 : ∀ (k : Nat) (p : Str × Nat), ws[k]? = some p → ∃ q, hvs[k]? = some (.ref q) ∧ HF q = some (.tup [.str p.1, .int (p.2 : Int)]) := fun k p e => by
      obtain ⟨q, h1, h2⟩ := hp k p e
      exact ⟨q, h1, stEF _ _ (sE _ _ h2)⟩
    have eh0 : HF hh = some (.tup hvs) := stEF _ _ (sE _ _ eh)
    have eA0 : HF pA = some (.lst hvs) := bF _ _ neA eA
    clear hp eh eod odd
    refine ⟨one_ok _, fun pC HG nC sG' eC => ?_⟩
    have lt10 : hvs.length ≤ 6 := by omega
    refine ⟨pA, pC, _, _, rfl, rfl, sG' _ _ eA0, eC, by rw [sizeLine_eq]; exact Nat.le_trans (show hvs.length + 1 ≤ 7 by omega) (by decide), fun pD HH nD' sH eD' => ?_⟩
    refine ⟨one_ok _, fun pE HI nE sI eE => ?_⟩
    have s0I : Same HF HI := sG'.trans (sH.trans sI)
    have fI := s0I _ _ fF
    have neE : pE ≠ a := (ne_of_none (sH _ _ (sG' _ _ fF)) nE).symm
    have neD : pD ≠ a := (ne_of_none (sG' _ _ fF) nD').symm
    refine ⟨_, rfl, a, 2, xF, yF, zF, rfl, by decide, by decide, fI, fun m xJ yJ zJ HJ m0 m1 bJ fJ => ?_⟩
    obtain ⟨m, rfl⟩ : ∃ k : Nat, m = (k : Int) := ⟨m.toNat, by omega⟩
    have m2 : m < 2 := by omega
    have stFJ : TupStay HF HJ := fun q zs e => (bJ.tup ⟨_, _, _, fI⟩) _ _ (s0I _ _ e)
    have lk : ∀ k : Nat, k < 2 → 1 * ((k : Int)).toNat ≤ sizeLine := fun k hk => by
      rw [sizeLine_eq, Nat.one_mul, Int.toNat_natCast]
      exact Nat.le_trans (show k ≤ 2 by omega) (by decide)
    refine ⟨pE, m, _, rfl, rfl, bJ _ _ neE eE, by omega, by omega, lk m m2, fun pG HK nG sK eG => ?_⟩
    have lr : (List.replicate ((m : Int)).toNat [V.non]).flatten.length = m := by
      rw [Int.toNat_natCast, List.length_flatten, List.map_replicate, List.sum_replicate_nat]
      exact Nat.mul_one m
    generalize (List.replicate ((m : Int)).toNat [V.non]).flatten = rl at lr eG
    refine ⟨pD, pG, _, _, rfl, rfl, sK _ _ (bJ _ _ neD (sI _ _ eD')), eG, by
      rw [sizeLine_eq, List.length_append, lr]
      exact Nat.le_trans (show hvs.length + 1 + m ≤ 9 by omega) (by decide), fun pH HL nH sL' eH => ?_⟩
    have sGL : Same G HL := ((mGs (sG0.trans s0I) bJ).trans sK).trans sL'
    have bdL : But H HL a := (((bd0.sm s0I).trans bJ).sm sK).sm sL'
    have fL := sL' _ _ (sK _ _ fJ)
    have stL : TupStay HF HL := fun q zs e => sL' _ _ (sK _ _ (stFJ _ _ e))
    have hpL : HPsA HL ((hvs ++ [x]) ++ rl) ws := ⟨by
      rw [List.length_append, List.length_append]
      omega, fun k p e => by
      obtain ⟨q, h1, h2⟩ := hp0 k p e
      have hk : k < hvs.length := (List.getElem?_eq_some_iff.mp h1).1
      refine ⟨q, ?_, .inr (stL _ _ h2)⟩
      rw [List.getElem?_append_left (by rw [List.length_append]; omega), List.getElem?_append_left hk]
      exact h1⟩
    have exL : ((hvs ++ [x]) ++ rl)[ws.length]? = some x := by
      rw [← lh, List.getElem?_append_left (by rw [List.length_append]; exact Nat.lt_succ_self _), List.getElem?_append_right (Nat.le_refl _), Nat.sub_self]
      rfl
    have noL : CanP K HL d x false := no0 HL ((((bF.sm s0I).trans bJ).sm sK).sm sL')
    have ehL : HL hh = some (.tup hvs) := stL _ _ eh0
    obtain ⟨ty, bt, ebt⟩ := btSeq (K := K) (.inl eH)
    refine ⟨_, rfl, _, rfl, L, .ref pH, ty, o, rs, bb, rfl, BG.same sGL, ond, ask, fit, bt, .inr ⟨ebt, pH, _, ws, stp rs p, rfl, .inl eH, hpL, go, .inr ⟨x, d, exL, ed, noL, fun dM HM _ sM eM => ⟨rfl, dM, _, rfl, eM, ?_⟩⟩⟩⟩
    refine ⟨_, rfl, hh, hvs, rfl, .inr (SqT.of (sM _ _ ehL)), ?_⟩
    have sameLen : (!decide (V.int ((ws.length : Nat) : Int) = V.int ((hvs.length : Nat) : Int))) = false := by
      rw [lh, decide_eq_true rfl]
      rfl
    refine ⟨rfl, _, rfl, ?_⟩
    rw [sameLen]
    refine iteF ?_
    have eHM := sM _ _ eH
    refine ⟨_, rfl, _, rfl, pH, _, rfl, .inl eHM, fun pT HT sT eT => ?_⟩
    have sMT := sM.trans sT
    obtain ⟨ty2, bt2, ebt2⟩ := btSeq (K := K) (.inr eT)
    refine ⟨L, .ref pT, ty2, o, rs, bb, rfl, BG.same (sGL.trans sMT), ond, ask, fit, bt2, .inr ⟨ebt2, pT, _, ws, stp rs p, rfl, .inr eT, hpL.same sMT, go, .inr ⟨x, d, exL, ed, noL.same sMT, fun dN HN _ sN eN => ⟨rfl, dN, _, rfl, eN, ?_⟩⟩⟩⟩
    have sLN := sMT.trans sN
    refine ⟨_, rfl, hh, hvs, rfl, .inr (SqT.of (sLN _ _ ehL)), ?_⟩
    refine ⟨rfl, _, rfl, ?_⟩
    rw [sameLen]
    refine iteF ?_
    -- what is no history
    refine fun q11 n11 => ?_
    have sN1 := sameNew n11 (.dK [])
    have e11' : upd HN q11 (.dK []) q11 = some (.dK []) := upd_same
    generalize upd HN q11 (.dK []) = HO1 at sN1 e11' ⊢
    refine ⟨five_ok _ _ _ _ _, fun q12 HP n12 s12 e12 => ?_⟩
    have sLP := sLN.trans (sN1.trans s12)
    have e11 := s12 _ _ e11'
    have no5 : ∀ v ∈ [V.non, V.int 5, V.str "ab", V.ref q11, V.bl true], ∃ t, Bt K HP v t ∧ (t == "list" || t == "tuple") = false := fun v hv => by
      simp only [List.mem_cons, List.not_mem_nil, or_false] at hv
      rcases hv with rfl | rfl | rfl | rfl | rfl
      · exact ⟨_, btNon, rfl⟩
      · exact ⟨_, btInt _, rfl⟩
      · exact ⟨_, btStr _, rfl⟩
      · exact ⟨_, btDict e11, rfl⟩
      · exact ⟨_, btBl _, rfl⟩
    refine ⟨q12, rfl, ⟨_, SqL.of e12⟩, for_list (K := K) (a := q12) (fun i σ H' => ∃ w13 : Option V, σ = [some (.ref a), some (.ref po), some (.ref pr), some (.int (bb : Int)), some (.ref L), some (.ref fa), some (.ref hh), some (.int (p : Int)), some (.ref ts), v9, some (.int ((nextsD d).length : Int)), some (.ref od), some (.ref pH), w13] ∧ Same HP H') ⟨_, rfl, Same.refl _⟩ (fun i σ H' _ z => by obtain ⟨_, _, s⟩ := z; exact s.seq (SqL.of e12)) ?_ ?_⟩
    · rintro i v σ Hc hi ⟨w13, rfl, sc⟩
      obtain ⟨t, bt, nrow⟩ := no5 v (List.mem_of_getElem? hi)
      refine ⟨_, rfl, _, rfl, L, v, t, o, rs, bb, rfl, BG.same (sGL.trans (sLP.trans sc)), ond, ask, fit, bt.same sc, .inl ⟨nrow, fun dQ HQ _ sQ eQ => ⟨rfl, dQ, _, rfl, eQ, ?_⟩⟩⟩
      refine ⟨1, rfl, rfl, _, rfl, ?_⟩
      rw [show (!decide (V.int (-1) = V.int (-1))) = false from rfl]
      exact iteF ⟨_, rfl, sc.trans sQ⟩
    rintro σ HR ⟨w13, rfl, sR⟩
    have sLR := sLP.trans sR
    have sGR := sGL.trans sLR
    exact ⟨_, rfl, _, rfl, _, rfl, _, rfl, L, pr, po, xs, o, o, rs, bb, rfl, BG.same sGR, sGR _ _ frG, rowsG.same sGR, RR, sGR _ _ foG, by omega, fun H' s' => k H' ((bdL.sm sLR).sm s') ⟨_, _, _, s' _ _ (sLR _ _ fL)⟩⟩
end
end Mine

set_option maxRecDepth 100000
set_option maxHeartbeats 4000000
set_option pp.maxSteps 400
namespace Mine
open PySem L2
abbrev s_law : Stmt := top 56
def spLaw (K : PySem.W.Frag) : Sp := fun vs H Q _ => ∃ (a : Addr) (ns : List Int), vs = [.ref a] ∧ SqL K H a (ns.map V.int) ∧ ns.length ≤ 63 ∧ ∀ H', Q (.bl true) H'
section
variable {P : Program} {w : World} {K : PySem.W.Frag} {mg : Str → Option Value} {base : Heap}
variable {a_src a_right : Addr}
theorem sc_law : FnScope ["_law_script", "_law_cell", "_law_source", "_law_turn"] ["_law_script"] (defScope s_law) := ⟨rfl, rfl, rfl, by decide +kernel, rfl, by decide +kernel, by decide +kernel⟩
theorem ok_law {f : Addr} {fd fd_src fd_right : FuncData} (F : Fun K "law" "law" s_law f fd) (h_range : mg "range" = none)
    (GSr : FnOk P w K mg base CX0 1 a_src fd_src ["_law_cell"] spSrc) (b_src : Binds K fd_src ["_law_cell"] []) (g_src : mg "_law_source_of" = some (.ref a_src)) (k_src : PySem.W.keepIn K (.ref a_src) = true)
    (GRi : FnOk P w K mg base CX0 9 a_right fd_right ["_law_source"] spRight) (b_right : Binds K fd_right ["_law_source"] []) (g_right : mg "_law_right" = some (.ref a_right)) (k_right : PySem.W.keepIn K (.ref a_right) = true) : FnOk P w K mg base CX0 10 f fd ["_law_script"] (spLaw K) := by
  refine F.ok sc_law (fun vs H Q E h => ?_) (fun cdv A outer s H vs Q E hr h => ?_)
  · obtain ⟨a, ns, rfl, _⟩ := h
    rfl
  · obtain ⟨a, ns, rfl, hS, hlen, k⟩ := h
    refine ⟨_, (pss_cons (ps_for PassesOwn.never rfl (pi_list (pe_op op_catG (pe_slice sl_listG (pv 0) po_none (po_some pe_int)) (pe_lstG (pa_cons pe_int pa_nil)))) (pg_name (i := 1) sc_law.nd rfl (Or.inl rfl)) (pss_cons (ps_set (i := 2) sc_law.nd rfl (Or.inl rfl) (pe_call GSr (hr.mono (by decide)) (by rfl) g_src k_src b_src .nil pass0 (pa_cons (pv 1) pa_nil)))
      (pss_one (ps_for PassesOwn.never rfl (pi_range1 (by rfl) h_range (pa_cons pe_int pa_nil)) (pg_name (i := 3) sc_law.nd rfl (Or.inl rfl)) (pss_one (ps_if (pt_not (pt_truth (pe_call GRi (hr.mono (by decide)) (by rfl) g_right k_right b_right .nil pass0 (pa_cons (pv 2) pa_nil)) (by intro _; rfl))) (pss_one (ps_ret pe_bl)) pss_nil))))))
      (pss_one (ps_ret pe_bl))), ?_⟩
    refine ⟨_, rfl, 6, rfl, a, _, rfl, hS, fun p1 H1 n1 s1 e1 => ?_⟩
    refine ⟨one_ok _, fun p2 H2 n2 s2 e2 => ?_⟩
    refine ⟨p1, p2, _, _, rfl, rfl, s2 _ _ e1, e2, ?_, fun p3 H3 n3 s3 e3 => ?_⟩
    · have := ints_cut_len (lo := none) (hi := some 6) hlen
      show _ + 1 ≤ sizeLine
      rw [sizeLine_eq]
      omega
    refine ⟨p3, rfl, ⟨_, SqL.of e3⟩, for_list (K := K) (a := p3) (xs := cutV (ns.map V.int) none (some 6) ++ [.int 0]) (fun i σ H' => ∃ v1 v2 v3 : Option V, σ = [some (.ref a), v1, v2, v3] ∧ Same H3 H') ⟨_, _, _, rfl, Same.refl _⟩ (fun i σ H' _ z => by obtain ⟨_, _, _, _, s⟩ := z; exact s.seq (SqL.of e3)) ?_ ?_⟩
    · rintro i y σ Hc hi ⟨v1, v2, v3, rfl, sc⟩
      obtain ⟨c, rfl⟩ := ints_cut hi
      refine ⟨_, rfl, c, rfl, fun x0 y0 z0 p4 H4 n4 s4 e4 => ?_⟩
      refine ⟨6, rfl, by decide, by decide, for_range (n := 6) (fun j σ H' => ∃ v3 : Option V, σ = [some (.ref a), some (.int c), some (.ref p4), v3] ∧ Same Hc H' ∧ SrcAt H' p4) ⟨_, rfl, s4, x0, y0, z0, e4⟩ ?_ ?_⟩
      · rintro j σ Hd hj ⟨v3, rfl, sd, src⟩
        exact ⟨_, rfl, p4, rfl, src, fun H' b s' => ⟨_, rfl, _, rfl, But.same sd b n4, s'⟩⟩
      · rintro σ Hd ⟨v3, rfl, sd, _⟩
        exact ⟨_, _, _, rfl, sc.trans sd⟩
    · rintro σ Hc ⟨v1, v2, v3, rfl, sc⟩
      exact k _
end
end Mine

set_option maxRecDepth 100000
set_option maxHeartbeats 4000000
namespace Mine
open PySem L2
abbrev veRow : List Value := [.type "ValueError", .type "Exception", .type "BaseException", .type "object"]
/-- what the written part holds of an error class -/
structure Raw (K : PySem.W.Frag) (cA C : Addr) : Prop where
  xL : ∃ nm q N bs sn sub ab col dd m0 m1 m2 m3 m5, K.lookup C = some (excClassObj nm q C N bs [.ref cA, .type "ValueError", .type "Exception", .type "BaseException", .type "object"] true sn sub ab col dd m0 m1 m2 m3 m5 "ValueError.__new__")
  ga : PySem.W.findIn K (.ref C) "__getattribute__" = some (some (.builtin "BaseException.__getattribute__"))
  gg : PySem.W.findIn K (.ref C) "__getattr__" = some none
  ca : PySem.W.findIn K (.ref C) "__class__" = some (some (.builtin "object.__class__"))
  sa : PySem.W.findIn K (.ref C) "__setattr__" = some (some (.builtin "object.__setattr__"))
  ty : PySem.W.typeIn K (.ref C) = some (.type "type")
  hd : PySem.W.hasDictIn K C = true
  kC : PySem.W.keepIn K (.ref C) = true
theorem Raw.mro {K : PySem.W.Frag} {cA C : Addr} (r : Raw K cA C) : ∃ cd : ClassData, PySem.W.clsIn K C = some cd ∧ cd.mro = [.ref C, .ref cA, .type "ValueError", .type "Exception", .type "BaseException", .type "object"] := by
  obtain ⟨nm, q, N, bs, sn, sub, ab, col, dd, m0, m1, m2, m3, m5, hC⟩ := r.xL
  refine ⟨{ name := nm, bases := bs, mro := [.ref C, .ref cA, .type "ValueError", .type "Exception", .type "BaseException", .type "object"], ns := N, qualname := q, hasDict := true, slotNames := sn, subclasses := sub, abstract := ab, collection := col, hasDel := false }, ?_, rfl⟩
  unfold PySem.W.clsIn
  rw [hC] <;> rfl
theorem Raw.sub {K : PySem.W.Frag} {cA C : Addr} (r : Raw K cA C) (b : Value) (hb : ([.ref C, .ref cA, .type "ValueError", .type "Exception", .type "BaseException", .type "object"] : List Value).contains b = true) :
    PySem.W.mroIn K C b = some true := by
  obtain ⟨cd, h1, h2⟩ := r.mro
  show (PySem.W.clsIn K C).bind _ = _
  rw [h1, Option.bind_some, h2]
  show some _ = some true
  rw [hb]
theorem Raw.exc {K : PySem.W.Frag} {cA C : Addr} (r : Raw K cA C) (hn : PySem.W.specialIn K (.builtin "object.__class__") "__get__" = some (some (.builtin "getset_descriptor.__get__"))) (ht : PySem.W.takesIn K (.builtin "object.__class__") = some true) : ExcC K C :=
  ⟨r.ga, r.gg, r.sub _ (by simp [List.contains_cons]), r.hd, r.ca, hn, ht, r.sub _ (by simp [List.contains_cons])⟩
theorem Raw.oex {K : PySem.W.Frag} {cA C : Addr} (r : Raw K cA C) : OexC K C := by
  obtain ⟨nm, q, N, bs, sn, sub, ab, col, dd, m0, m1, m2, m3, m5, hC⟩ := r.xL
  exact ⟨⟨nm, q, N, bs, _, sn, sub, ab, col, dd, m0, m1, m2, m3, m5, hC, by show PySem.HandSPX.refsVE veRow = true; decide +kernel⟩, r.sa, r.sub _ (by simp [List.contains_cons]), r.ty, r.kC⟩
theorem all_mk {l : PySem.W.OpenLaw} {w : World} {K : PySem.W.Frag} {h : Heap} {mg : Str → Option Value} {fa a_is_integer a_is_within a_is_index a_is_row a_is_name a_is_text_in a_are_counts a_are_operations a_in_order a_word_of a_are_nexts a_stops_of a_rest_of a_rests_from a_nexts_of a_shows_of a_firsts_of a_lines_read a_is_line a_line_of a_can_come a_shown a_law_source_of a_law_next a_law_one a_law_mixed a_law_operations a_law_rows a_law_landed a_law_shows a_law_steps a_law_histories a_law_met a_law_said a_law_reached_right a_law_right a_law fM fB fH CA CB CM CH DK m_asked m_words m_hangs m_contains : Addr} {fd_is_integer fd_is_within fd_is_index fd_is_row fd_is_name fd_is_text_in fd_are_counts fd_are_operations fd_in_order fd_word_of fd_are_nexts fd_stops_of fd_rest_of fd_rests_from fd_nexts_of fd_shows_of fd_firsts_of fd_lines_read fd_is_line fd_line_of fd_can_come fd_shown fd_law_source_of fd_law_next fd_law_one fd_law_mixed fd_law_operations fd_law_rows fd_law_landed fd_law_shows fd_law_steps fd_law_histories fd_law_met fd_law_said fd_law_reached_right fd_law_right fd_law fdM fdB fdH fdm_asked fdm_words fdm_hangs fdm_contains : FuncData} {tD tL t1 t2 t3 t4 : Tok} (X : K.In h) (G : h.Ns mainGlobals mg) (hfa : mg "law" = some (.ref fa))
    (g_is_integer : PySem.W.nsIn K mainGlobals "is_integer" = some (some (.ref a_is_integer)))
    (F_is_integer : Fun K "is_integer" "is_integer" s_is_integer a_is_integer fd_is_integer)
    (g_is_within : PySem.W.nsIn K mainGlobals "is_within" = some (some (.ref a_is_within)))
    (F_is_within : Fun K "is_within" "is_within" s_is_within a_is_within fd_is_within)
    (g_is_index : PySem.W.nsIn K mainGlobals "is_index" = some (some (.ref a_is_index)))
    (F_is_index : Fun K "is_index" "is_index" s_is_index a_is_index fd_is_index)
    (g_is_row : PySem.W.nsIn K mainGlobals "is_row" = some (some (.ref a_is_row)))
    (F_is_row : Fun K "is_row" "is_row" s_is_row a_is_row fd_is_row)
    (g_is_name : PySem.W.nsIn K mainGlobals "is_name" = some (some (.ref a_is_name)))
    (F_is_name : Fun K "is_name" "is_name" s_is_name a_is_name fd_is_name)
    (g_is_text_in : PySem.W.nsIn K mainGlobals "is_text_in" = some (some (.ref a_is_text_in)))
    (F_is_text_in : Fun K "is_text_in" "is_text_in" s_is_text_in a_is_text_in fd_is_text_in)
    (g_are_counts : PySem.W.nsIn K mainGlobals "are_counts" = some (some (.ref a_are_counts)))
    (F_are_counts : Fun K "are_counts" "are_counts" s_are_counts a_are_counts fd_are_counts)
    (g_are_operations : PySem.W.nsIn K mainGlobals "are_operations" = some (some (.ref a_are_operations)))
    (F_are_operations : Fun K "are_operations" "are_operations" s_are_operations a_are_operations fd_are_operations)
    (g_in_order : PySem.W.nsIn K mainGlobals "in_order" = some (some (.ref a_in_order)))
    (F_in_order : Fun K "in_order" "in_order" s_in_order a_in_order fd_in_order)
    (g_word_of : PySem.W.nsIn K mainGlobals "word_of" = some (some (.ref a_word_of)))
    (F_word_of : Fun K "word_of" "word_of" s_word_of a_word_of fd_word_of)
    (g_are_nexts : PySem.W.nsIn K mainGlobals "are_nexts" = some (some (.ref a_are_nexts)))
    (F_are_nexts : Fun K "are_nexts" "are_nexts" s_are_nexts a_are_nexts fd_are_nexts)
    (g_stops_of : PySem.W.nsIn K mainGlobals "stops_of" = some (some (.ref a_stops_of)))
    (F_stops_of : Fun K "stops_of" "stops_of" s_stops_of a_stops_of fd_stops_of)
    (g_rest_of : PySem.W.nsIn K mainGlobals "rest_of" = some (some (.ref a_rest_of)))
    (F_rest_of : Fun K "rest_of" "rest_of" s_rest_of a_rest_of fd_rest_of)
    (g_rests_from : PySem.W.nsIn K mainGlobals "rests_from" = some (some (.ref a_rests_from)))
    (F_rests_from : Fun K "rests_from" "rests_from" s_rests_from a_rests_from fd_rests_from)
    (g_nexts_of : PySem.W.nsIn K mainGlobals "nexts_of" = some (some (.ref a_nexts_of)))
    (F_nexts_of : Fun K "nexts_of" "nexts_of" s_nexts_of a_nexts_of fd_nexts_of)
    (g_shows_of : PySem.W.nsIn K mainGlobals "shows_of" = some (some (.ref a_shows_of)))
    (F_shows_of : Fun K "shows_of" "shows_of" s_shows_of a_shows_of fd_shows_of)
    (g_firsts_of : PySem.W.nsIn K mainGlobals "firsts_of" = some (some (.ref a_firsts_of)))
    (F_firsts_of : Fun K "firsts_of" "firsts_of" s_firsts_of a_firsts_of fd_firsts_of)
    (g_lines_read : PySem.W.nsIn K mainGlobals "lines_read" = some (some (.ref a_lines_read)))
    (F_lines_read : Fun K "lines_read" "lines_read" s_lines_read a_lines_read fd_lines_read)
    (g_is_line : PySem.W.nsIn K mainGlobals "is_line" = some (some (.ref a_is_line)))
    (F_is_line : Fun K "is_line" "is_line" s_is_line a_is_line fd_is_line)
    (g_line_of : PySem.W.nsIn K mainGlobals "line_of" = some (some (.ref a_line_of)))
    (F_line_of : Fun K "line_of" "line_of" s_line_of a_line_of fd_line_of)
    (g_can_come : PySem.W.nsIn K mainGlobals "can_come" = some (some (.ref a_can_come)))
    (F_can_come : Fun K "can_come" "can_come" s_can_come a_can_come fd_can_come)
    (g_shown : PySem.W.nsIn K mainGlobals "shown" = some (some (.ref a_shown)))
    (F_shown : Fun K "shown" "shown" s_shown a_shown fd_shown)
    (g_law_source_of : PySem.W.nsIn K mainGlobals "_law_source_of" = some (some (.ref a_law_source_of)))
    (F_law_source_of : Fun K "_law_source_of" "_law_source_of" sSrc a_law_source_of fd_law_source_of)
    (g_law_next : PySem.W.nsIn K mainGlobals "_law_next" = some (some (.ref a_law_next)))
    (F_law_next : Fun K "_law_next" "_law_next" sNext a_law_next fd_law_next)
    (g_law_one : PySem.W.nsIn K mainGlobals "_law_one" = some (some (.ref a_law_one)))
    (F_law_one : Fun K "_law_one" "_law_one" sOne a_law_one fd_law_one)
    (g_law_mixed : PySem.W.nsIn K mainGlobals "_law_mixed" = some (some (.ref a_law_mixed)))
    (F_law_mixed : Fun K "_law_mixed" "_law_mixed" s_mixed a_law_mixed fd_law_mixed)
    (g_law_operations : PySem.W.nsIn K mainGlobals "_law_operations" = some (some (.ref a_law_operations)))
    (F_law_operations : Fun K "_law_operations" "_law_operations" s_ops a_law_operations fd_law_operations)
    (g_law_rows : PySem.W.nsIn K mainGlobals "_law_rows" = some (some (.ref a_law_rows)))
    (F_law_rows : Fun K "_law_rows" "_law_rows" s_rows a_law_rows fd_law_rows)
    (g_law_landed : PySem.W.nsIn K mainGlobals "_law_landed" = some (some (.ref a_law_landed)))
    (F_law_landed : Fun K "_law_landed" "_law_landed" s_landed a_law_landed fd_law_landed)
    (g_law_shows : PySem.W.nsIn K mainGlobals "_law_shows" = some (some (.ref a_law_shows)))
    (F_law_shows : Fun K "_law_shows" "_law_shows" s_showsL a_law_shows fd_law_shows)
    (g_law_steps : PySem.W.nsIn K mainGlobals "_law_steps" = some (some (.ref a_law_steps)))
    (F_law_steps : Fun K "_law_steps" "_law_steps" s_stepsL a_law_steps fd_law_steps)
    (g_law_histories : PySem.W.nsIn K mainGlobals "_law_histories" = some (some (.ref a_law_histories)))
    (F_law_histories : Fun K "_law_histories" "_law_histories" s_histories a_law_histories fd_law_histories)
    (g_law_met : PySem.W.nsIn K mainGlobals "_law_met" = some (some (.ref a_law_met)))
    (F_law_met : Fun K "_law_met" "_law_met" s_met a_law_met fd_law_met)
    (g_law_said : PySem.W.nsIn K mainGlobals "_law_said" = some (some (.ref a_law_said)))
    (F_law_said : Fun K "_law_said" "_law_said" s_said a_law_said fd_law_said)
    (g_law_reached_right : PySem.W.nsIn K mainGlobals "_law_reached_right" = some (some (.ref a_law_reached_right)))
    (F_law_reached_right : Fun K "_law_reached_right" "_law_reached_right" s_reached a_law_reached_right fd_law_reached_right)
    (g_law_right : PySem.W.nsIn K mainGlobals "_law_right" = some (some (.ref a_law_right)))
    (F_law_right : Fun K "_law_right" "_law_right" s_right a_law_right fd_law_right)
    (g_law : PySem.W.nsIn K mainGlobals "law" = some (some (.ref a_law)))
    (F_law : Fun K "law" "law" s_law a_law fd_law)
    (gc_AskError : PySem.W.nsIn K mainGlobals "AskError" = some (some (.ref CA)))
    (gc_Body : PySem.W.nsIn K mainGlobals "Body" = some (some (.ref CB)))
    (gc_Machine : PySem.W.nsIn K mainGlobals "Machine" = some (some (.ref CM)))
    (gc_BadHistory : PySem.W.nsIn K mainGlobals "BadHistory" = some (some (.ref CH)))
    (clB : Cls K CB)
    (mkB : PySem.W.makesIn K CB = true)
    (inB : PySem.W.findIn K (.ref CB) "__init__" = some (some (.ref fB)))
    (fnB : PySem.W.isFn K (.ref fB) = true)
    (kpB : PySem.W.keepIn K (.ref CB) = true)
    (clM : Cls K CM)
    (mkM : PySem.W.makesIn K CM = true)
    (inM : PySem.W.findIn K (.ref CM) "__init__" = some (some (.ref fM)))
    (fnM : PySem.W.isFn K (.ref fM) = true)
    (kpM : PySem.W.keepIn K (.ref CM) = true)
    (FM : Fun K "__init__" "Machine.__init__" s_mach fM fdM)
    (rH : Raw K CA CH)
    (iH : PySem.W.findIn K (.ref CH) "__init__" = some (some (.ref fH)))
    (tH : PySem.W.typeIn K (.ref fH) = some (.type "function"))
    (nH : PySem.W.findIn K (.ref CH) "index" = some none)
    (FH : Fun K "__init__" "BadHistory.__init__" s_i_BadHistory fH fdH)
    (sbA : PySem.W.subIn K (.ref CA) (.type "BaseException") = some true)
    (hdA : PySem.W.hasDictIn K CA = true)
    (tyA : PySem.W.typeIn K (.ref CA) = some (.type "type"))
    (hn : PySem.W.specialIn K (.builtin "object.__class__") "__get__" = some (some (.builtin "getset_descriptor.__get__")))
    (ht : PySem.W.takesIn K (.builtin "object.__class__") = some true)
    (at_asked : PySem.W.findIn K (.ref CB) "asked" = some (some (.ref m_asked)))
    (fn_asked : PySem.W.isFn K (.ref m_asked) = true)
    (FM_asked : Fun K "asked" "Body.asked" s_b_asked m_asked fdm_asked)
    (at_words : PySem.W.findIn K (.ref CB) "words" = some (some (.ref m_words)))
    (fn_words : PySem.W.isFn K (.ref m_words) = true)
    (FM_words : Fun K "words" "Body.words" s_b_words m_words fdm_words)
    (at_hangs : PySem.W.findIn K (.ref CB) "hangs" = some (some (.ref m_hangs)))
    (fn_hangs : PySem.W.isFn K (.ref m_hangs) = true)
    (FM_hangs : Fun K "hangs" "Body.hangs" s_b_hangs m_hangs fdm_hangs)
    (at_contains : PySem.W.findIn K (.ref CB) "__contains__" = some (some (.ref m_contains)))
    (fn_contains : PySem.W.isFn K (.ref m_contains) = true)
    (FM_contains : Fun K "__contains__" "Body.__contains__" s_b_contains m_contains fdm_contains)
    (FB : ∃ (oc : Value) (od : Option Addr) (doc pm : Value) (an : Option Addr) (cdv ct : Value) (osl : Array (Option Value)), fdB = PySem.W.fnOf "__init__" "Body.__init__" (defArgs s_body) (defBody s_body) (defScope s_body) .none (.ref DK) doc pm an cdv ct ∧ K.lookup fB = some ⟨oc, od, .func fdB, osl⟩ ∧ PySem.W.codeIn K cdv "Body.__init__" = true)
    (kfB : PySem.W.keepIn K (.ref fB) = true)
    (nsD : PySem.W.nsIn K DK "start" = some (some (.int 0 tD)))
    (nm_counts : NoAttr K CM "counts")
    (nm_lines : NoAttr K CM "lines")
    (nm_begin : NoAttr K CM "begin")
    (nm_stops : NoAttr K CM "stops")
    (nm_asks : NoAttr K CM "asks")
    (nm_endings : NoAttr K CM "endings")
    (nm_endless : NoAttr K CM "endless")
    (nb_machine : NoAttr K CB "machine")
    (z_int : PySem.W.nsIn K mainGlobals "int" = some none)
    (z_isinstance : PySem.W.nsIn K mainGlobals "isinstance" = some none)
    (z_bool : PySem.W.nsIn K mainGlobals "bool" = some none)
    (z_str : PySem.W.nsIn K mainGlobals "str" = some none)
    (z_list : PySem.W.nsIn K mainGlobals "list" = some none)
    (z_tuple : PySem.W.nsIn K mainGlobals "tuple" = some none)
    (z_dict : PySem.W.nsIn K mainGlobals "dict" = some none)
    (z_len : PySem.W.nsIn K mainGlobals "len" = some none)
    (z_all : PySem.W.nsIn K mainGlobals "all" = some none)
    (z_range : PySem.W.nsIn K mainGlobals "range" = some none)
    (z_sorted : PySem.W.nsIn K mainGlobals "sorted" = some none)
    (z_min : PySem.W.nsIn K mainGlobals "min" = some none)
    (z_enumerate : PySem.W.nsIn K mainGlobals "enumerate" = some none)
    (z_set : PySem.W.nsIn K mainGlobals "set" = some none)
    (cLET : PySem.W.nsIn K mainGlobals "LETTERS" = some (some (.str lettersS tL)))
    (c_LONGEST_NAME : PySem.W.nsIn K mainGlobals "LONGEST_NAME" = some (some (.int 8 t1)))
    (c_MOST_OPERATIONS : PySem.W.nsIn K mainGlobals "MOST_OPERATIONS" = some (some (.int 8 t2)))
    (c_MOST_ANSWERS : PySem.W.nsIn K mainGlobals "MOST_ANSWERS" = some (some (.int 6 t3)))
    (c_MOST_ROWS : PySem.W.nsIn K mainGlobals "MOST_ROWS" = some (some (.int 400 t4)))
    : ∃ fd : FuncData, (∀ (s : Shared) (v : Value), BindsTo s fd ⟨[v], []⟩ [("_law_script", v)]) ∧ ∀ base : Heap, K.In base → base.Ns mainGlobals mg → FnOk l.prog w K mg base CX0 10 fa fd ["_law_script"] (spLaw K) := by
  have e := hfa.symm.trans (PySem.W.mg_of X G g_law)
  cases e
  obtain ⟨oc, od, doc, pm, an, cdv, ct, osl, eB, lB, cB⟩ := FB
  have FB1 : Fun K "__init__" "Body.__init__" s_body fB fdB := ⟨⟨oc, od, .ref DK, doc, pm, an, cdv, ct, osl, eB, lB, cB⟩, kfB⟩
  have kB : KBn K fdB PB (2 + 1) KS (fun us ws => us ++ ws) (fun vs zs => vs ++ zs) := bindB fun a b c d => by
    rw [eB]
    rfl
  have EN : ErrC K CH fH := ⟨rH.oex, iH, tH⟩
  have XH : XfC K CH := ⟨rH.ga, rH.gg, rH.sub _ (by simp [List.contains_cons]), rH.hd⟩
  have TH : ExcC K CH := rH.exc hn ht
  have eP : PySem.W.exmOne K (.ref CH) (.ref CA) = some true := PySem.W.exm_ref sbA hdA tyA (rH.sub _ (by simp [List.contains_cons]))
  have kH : PySem.W.kitOne K (.ref CH) (.ref CH) = some true := by
    unfold PySem.W.kitOne
    simp
  have T : TxtF K mg a_is_integer a_is_within := ⟨(PySem.W.mg_none_of X G z_isinstance), (PySem.W.mg_none_of X G z_int), (PySem.W.mg_none_of X G z_bool), (PySem.W.mg_none_of X G z_str), (PySem.W.mg_none_of X G z_list), (PySem.W.mg_none_of X G z_tuple), (PySem.W.mg_none_of X G z_dict), (PySem.W.mg_none_of X G z_len), (PySem.W.mg_none_of X G z_all), ⟨_, PySem.W.mg_of X G cLET⟩, ⟨_, PySem.W.mg_of X G c_LONGEST_NAME⟩, (PySem.W.mg_of X G g_is_integer), F_is_integer.kp, (PySem.W.mg_of X G g_is_within), F_is_within.kp⟩
  have TG : TxtG K mg a_is_row a_is_index a_is_name a_is_text_in a_are_counts a_word_of a_are_nexts a_is_line a_line_of a_are_operations := ⟨⟨_, PySem.W.mg_of X G c_MOST_OPERATIONS⟩, ⟨_, PySem.W.mg_of X G c_MOST_ANSWERS⟩, (PySem.W.mg_of X G g_is_row), F_is_row.kp, (PySem.W.mg_of X G g_is_index), F_is_index.kp, (PySem.W.mg_of X G g_is_name), F_is_name.kp, (PySem.W.mg_of X G g_is_text_in), F_is_text_in.kp, (PySem.W.mg_of X G g_are_counts), F_are_counts.kp, (PySem.W.mg_of X G g_word_of), F_word_of.kp, (PySem.W.mg_of X G g_are_nexts), F_are_nexts.kp, (PySem.W.mg_of X G g_is_line), F_is_line.kp, (PySem.W.mg_of X G g_line_of), F_line_of.kp, (PySem.W.mg_of X G g_are_operations), F_are_operations.kp⟩
  have TD : TxtD K mg a_law_next := ⟨(PySem.W.mg_none_of X G z_int), (PySem.W.mg_none_of X G z_len), (PySem.W.mg_of X G g_law_next), F_law_next.kp⟩
  have TM : MachC K CM := ⟨clM, nm_counts, nm_lines, nm_begin, nm_stops, nm_asks, nm_endings, nm_endless⟩
  have TB : BodyC K CB := ⟨clB, nb_machine⟩
  refine ⟨fd_law, fun s v => ?_, fun base _ _ => ?_⟩
  · obtain ⟨_, _, _, _, _, _, _, _, _, rfl, _, _⟩ := F_law.ex
    exact .of_eq rfl
  · skip
    have G_is_integer : FnOk l.prog w K mg base CX0 1 a_is_integer fd_is_integer ["thing"] (spInt K) := ok_is_integer F_is_integer T
    have G_is_index : FnOk l.prog w K mg base CX0 3 a_is_index fd_is_index ["thing", "many"] (spIndex K) := ok_is_index F_is_index T F_is_integer (F_is_integer.binds (ps := ["thing"]) fun _ _ _ _ _ _ us hl => match us, hl with | [_], _ => rfl) F_is_within (F_is_within.binds (ps := ["thing", "low", "high"]) fun _ _ _ _ _ _ us hl => match us, hl with | [_, _, _], _ => rfl)
    have G_is_row : FnOk l.prog w K mg base CX0 1 a_is_row fd_is_row ["thing"] (spIsRow K) := ok_is_row F_is_row T
    have G_is_name : FnOk l.prog w K mg base CX0 1 a_is_name fd_is_name ["thing"] (spName K) := ok_is_name F_is_name T
    have G_is_text_in : FnOk l.prog w K mg base CX0 1 a_is_text_in fd_is_text_in ["thing", "table"] (spTextIn K) := ok_is_text_in F_is_text_in T
    have G_are_counts : FnOk l.prog w K mg base CX0 3 a_are_counts fd_are_counts ["thing", "most", "low", "high"] spCounts := ok_are_counts F_are_counts T TG F_is_name (F_is_name.binds (ps := ["thing"]) fun _ _ _ _ _ _ us hl => match us, hl with | [_], _ => rfl) F_is_integer (F_is_integer.binds (ps := ["thing"]) fun _ _ _ _ _ _ us hl => match us, hl with | [_], _ => rfl) F_is_within (F_is_within.binds (ps := ["thing", "low", "high"]) fun _ _ _ _ _ _ us hl => match us, hl with | [_, _, _], _ => rfl)
    have G_are_operations : FnOk l.prog w K mg base CX0 4 a_are_operations fd_are_operations ["thing"] spOps := ok_are_operations F_are_operations TG G_are_counts (F_are_counts.binds (ps := ["thing", "most", "low", "high"]) fun _ _ _ _ _ _ us hl => match us, hl with | [_, _, _, _], _ => rfl)
    have G_word_of : FnOk l.prog w K mg base CX0 2 a_word_of fd_word_of ["row"] spWord := ok_word_of F_word_of T TG G_is_row (F_is_row.binds (ps := ["thing"]) fun _ _ _ _ _ _ us hl => match us, hl with | [_], _ => rfl)
    have G_are_nexts : FnOk l.prog w K mg base CX0 4 a_are_nexts fd_are_nexts ["nexts", "operation", "counts", "many"] spNexts := ok_are_nexts F_are_nexts T TG G_is_row (F_is_row.binds (ps := ["thing"]) fun _ _ _ _ _ _ us hl => match us, hl with | [_], _ => rfl) G_is_index (F_is_index.binds (ps := ["thing", "many"]) fun _ _ _ _ _ _ us hl => match us, hl with | [_, _], _ => rfl)
    have G_is_line : FnOk l.prog w K mg base CX0 5 a_is_line fd_is_line ["row", "counts", "many"] spIsLine := ok_is_line F_is_line T TG G_word_of (F_word_of.binds (ps := ["row"]) fun _ _ _ _ _ _ us hl => match us, hl with | [_], _ => rfl) G_is_text_in (F_is_text_in.binds (ps := ["thing", "table"]) fun _ _ _ _ _ _ us hl => match us, hl with | [_, _], _ => rfl) G_are_nexts (F_are_nexts.binds (ps := ["nexts", "operation", "counts", "many"]) fun _ _ _ _ _ _ us hl => match us, hl with | [_, _, _, _], _ => rfl) G_is_name (F_is_name.binds (ps := ["thing"]) fun _ _ _ _ _ _ us hl => match us, hl with | [_], _ => rfl) G_is_index (F_is_index.binds (ps := ["thing", "many"]) fun _ _ _ _ _ _ us hl => match us, hl with | [_, _], _ => rfl)
    have G_line_of : FnOk l.prog w K mg base CX0 1 a_line_of fd_line_of ["row"] spLineOf := ok_line_of F_line_of T
    have G_rest_of : FnOk l.prog w K mg base CX0 1 a_rest_of fd_rest_of ["trail", "at"] (spRest K) := ok_rest_of F_rest_of (PySem.W.mg_none_of X G z_min)
    have G_stops_of : FnOk l.prog w K mg base CX0 2 a_stops_of fd_stops_of ["lines"] spStops := ok_stops_of F_stops_of T (PySem.W.mg_none_of X G z_range) G_rest_of (F_rest_of.binds (ps := ["trail", "at"]) fun _ _ _ _ _ _ us hl => match us, hl with | [_, _], _ => rfl) (PySem.W.mg_of X G g_rest_of) F_rest_of.kp
    have G_nexts_of : FnOk l.prog w K mg base CX0 1 a_nexts_of fd_nexts_of ["line"] spNextsOf := ok_nexts_of F_nexts_of
    have G_rests_from : FnOk l.prog w K mg base CX0 2 a_rests_from fd_rests_from ["lines", "stops", "begin"] spRests := ok_rests_from F_rests_from T G_nexts_of (F_nexts_of.binds (ps := ["line"]) fun _ _ _ _ _ _ us hl => match us, hl with | [_], _ => rfl) (PySem.W.mg_of X G g_nexts_of) F_nexts_of.kp
    have G_in_order : FnOk l.prog w K mg base CX0 1 a_in_order fd_in_order ["table"] spOrder := ok_in_order F_in_order (PySem.W.mg_none_of X G z_sorted)
    have G_firsts_of : FnOk l.prog w K mg base CX0 1 a_firsts_of fd_firsts_of ["lines", "word"] spFirsts := ok_firsts_of F_firsts_of (PySem.W.mg_none_of X G z_sorted)
    have G_mach : FnOk l.prog w K mg base CX0 3 fM fdM ["self", "counts", "lines", "begin"] (spMach CM) := ok_mach FM TM G_rests_from (F_rests_from.binds (ps := ["lines", "stops", "begin"]) fun _ _ _ _ _ _ us hl => match us, hl with | [_, _, _], _ => rfl) (PySem.W.mg_of X G g_rests_from) F_rests_from.kp G_stops_of (F_stops_of.binds (ps := ["lines"]) fun _ _ _ _ _ _ us hl => match us, hl with | [_], _ => rfl) (PySem.W.mg_of X G g_stops_of) F_stops_of.kp G_firsts_of (F_firsts_of.binds (ps := ["lines", "word"]) fun _ _ _ _ _ _ us hl => match us, hl with | [_, _], _ => rfl) (PySem.W.mg_of X G g_firsts_of) F_firsts_of.kp
    have G_lines_read : FnOk l.prog w K mg base CX0 6 a_lines_read fd_lines_read ["rows", "counts"] spRead := ok_lines_read F_lines_read T TG (PySem.W.mg_none_of X G z_enumerate) (PySem.W.mg_of X G c_MOST_ROWS) G_is_row (F_is_row.binds (ps := ["thing"]) fun _ _ _ _ _ _ us hl => match us, hl with | [_], _ => rfl) G_is_line (F_is_line.binds (ps := ["row", "counts", "many"]) fun _ _ _ _ _ _ us hl => match us, hl with | [_, _, _], _ => rfl) G_line_of (F_line_of.binds (ps := ["row"]) fun _ _ _ _ _ _ us hl => match us, hl with | [_], _ => rfl)
    have MM : Mk K CM fM := ⟨mkM, inM, fnM, kpM⟩
    have MB : Mk K CB fB := ⟨mkB, inB, fnB, kpB⟩
    have GB : FnOk l.prog w K mg base CX0 7 fB fdB PB (spBody CB CM) := ok_body FB1 T TG TB G_are_operations (F_are_operations.binds (ps := ["thing"]) fun _ _ _ _ _ _ us hl => match us, hl with | [_], _ => rfl) G_lines_read (F_lines_read.binds (ps := ["rows", "counts"]) fun _ _ _ _ _ _ us hl => match us, hl with | [_, _], _ => rfl) (PySem.W.mg_of X G g_lines_read) F_lines_read.kp G_is_index (F_is_index.binds (ps := ["thing", "many"]) fun _ _ _ _ _ _ us hl => match us, hl with | [_, _], _ => rfl) G_in_order (F_in_order.binds (ps := ["table"]) fun _ _ _ _ _ _ us hl => match us, hl with | [_], _ => rfl) (PySem.W.mg_of X G g_in_order) F_in_order.kp MM G_mach (FM.binds (ps := ["self", "counts", "lines", "begin"]) fun _ _ _ _ _ _ us hl => match us, hl with | [_, _, _, _], _ => rfl) (PySem.W.mg_of X G gc_Machine)
    have G_law_source_of : FnOk l.prog w K mg base CX0 1 a_law_source_of fd_law_source_of ["_law_cell"] spSrc := ok_src F_law_source_of TD
    have G_law_next : FnOk l.prog w K mg base CX0 1 a_law_next fd_law_next ["_law_source", "_law_many"] spNext := ok_next F_law_next TD
    have G_law_mixed : FnOk l.prog w K mg base CX0 2 a_law_mixed fd_law_mixed ["_law_source", "_law_some"] spMixed := ok_mixed F_law_mixed T G_law_next (F_law_next.binds (ps := ["_law_source", "_law_many"]) fun _ _ _ _ _ _ us hl => match us, hl with | [_, _], _ => rfl) (PySem.W.mg_of X G g_law_next) F_law_next.kp
    have G_shows_of : FnOk l.prog w K mg base CX0 1 a_shows_of fd_shows_of ["line"] spShows := ok_shows_of F_shows_of
    have GM_asked : FnOk l.prog w K mg base CX0 1 m_asked fdm_asked ["self"] (spBAsked CB CM) := ok_b_asked FM_asked T TB TM
    have GM_words : FnOk l.prog w K mg base CX0 1 m_words fdm_words ["self"] (spBWords CB CM) := ok_b_words FM_words T TB TM
    have GM_hangs : FnOk l.prog w K mg base CX0 1 m_hangs fdm_hangs ["self"] (spBHangs CB CM) := ok_b_hangs FM_hangs T TB TM
    have G_is_text_inL : FnOk l.prog w K mg base CX0 1 a_is_text_in fd_is_text_in ["thing", "table"] (spTextInL K) := ok_text_inL F_is_text_in T
    have GM_contains : FnOk l.prog w K mg base CX0 2 m_contains fdm_contains ["self", "operation"] (spBContains K CB CM) := ok_b_contains FM_contains TG TB TM G_is_text_inL (F_is_text_in.binds (ps := ["thing", "table"]) fun _ _ _ _ _ _ us hl => match us, hl with | [_, _], _ => rfl)
    have G_can_come : FnOk l.prog w K mg base CX0 4 a_can_come fd_can_come ["told", "line", "counts"] (spCanComeF K) := ok_can_comeF F_can_come T TG G_is_row (F_is_row.binds (ps := ["thing"]) fun _ _ _ _ _ _ us hl => match us, hl with | [_], _ => rfl) G_is_index (F_is_index.binds (ps := ["thing", "many"]) fun _ _ _ _ _ _ us hl => match us, hl with | [_, _], _ => rfl)
    have G_BadHistory : FnOk l.prog w K mg base CX0 1 fH fdH ["self", "index"] (spInitF CH "index") := ok_i_BadHistory FH rH.oex nH
    have G_shown : FnOk l.prog w K mg base (L2.CX l.prog w) 5 a_shown fd_shown ["body", "history"] (spShownF K CB CM CH) := ok_shownF F_shown T TG TB TM (PySem.W.mg_none_of X G z_enumerate) G_is_row (F_is_row.binds (ps := ["thing"]) fun _ _ _ _ _ _ us hl => match us, hl with | [_], _ => rfl) G_can_come (F_can_come.binds (ps := ["told", "line", "counts"]) fun _ _ _ _ _ _ us hl => match us, hl with | [_, _, _], _ => rfl) (PySem.W.mg_of X G g_can_come) F_can_come.kp G_shows_of (F_shows_of.binds (ps := ["line"]) fun _ _ _ _ _ _ us hl => match us, hl with | [_], _ => rfl) (PySem.W.mg_of X G g_shows_of) F_shows_of.kp EN G_BadHistory (FH.binds (ps := ["self", "index"]) fun _ _ _ _ _ _ us hl => match us, hl with | [_, _], _ => rfl) (PySem.W.mg_of X G gc_BadHistory)
    have G_law_one : FnOk l.prog w K mg base CX0 2 a_law_one fd_law_one ["_law_source", "_law_some"] spOne := ok_one F_law_one TD F_law_next (F_law_next.binds (ps := ["_law_source", "_law_many"]) fun _ _ _ _ _ _ us hl => match us, hl with | [_, _], _ => rfl)
    have G_law_operations : FnOk l.prog w K mg base CX0 3 a_law_operations fd_law_operations ["_law_source", "_law_many"] spDrawOps := ok_draw_ops F_law_operations T G_law_mixed (F_law_mixed.binds (ps := ["_law_source", "_law_some"]) fun _ _ _ _ _ _ us hl => match us, hl with | [_, _], _ => rfl) (PySem.W.mg_of X G g_law_mixed) F_law_mixed.kp G_law_one (F_law_one.binds (ps := ["_law_source", "_law_some"]) fun _ _ _ _ _ _ us hl => match us, hl with | [_, _], _ => rfl) (PySem.W.mg_of X G g_law_one) F_law_one.kp
    have G_law_rows : FnOk l.prog w K mg base CX0 3 a_law_rows fd_law_rows ["_law_source", "_law_operations_here", "_law_many"] spDrawRows := ok_draw_rows F_law_rows T (PySem.W.mg_none_of X G z_range) (PySem.W.mg_none_of X G z_sorted) G_law_next (F_law_next.binds (ps := ["_law_source", "_law_many"]) fun _ _ _ _ _ _ us hl => match us, hl with | [_, _], _ => rfl) (PySem.W.mg_of X G g_law_next) F_law_next.kp G_law_one (F_law_one.binds (ps := ["_law_source", "_law_some"]) fun _ _ _ _ _ _ us hl => match us, hl with | [_, _], _ => rfl) (PySem.W.mg_of X G g_law_one) F_law_one.kp
    have G_law_landed : FnOk l.prog w K mg base CX0 1 a_law_landed fd_law_landed ["_law_rows_here", "_law_at"] spLanded := ok_landed F_law_landed T (PySem.W.mg_none_of X G z_range)
    have G_law_shows : FnOk l.prog w K mg base CX0 2 a_law_shows fd_law_shows ["_law_rows_here", "_law_at"] spShowsL := ok_showsL F_law_shows T G_law_landed (F_law_landed.binds (ps := ["_law_rows_here", "_law_at"]) fun _ _ _ _ _ _ us hl => match us, hl with | [_, _], _ => rfl) (PySem.W.mg_of X G g_law_landed) F_law_landed.kp
    have G_law_steps : FnOk l.prog w K mg base CX0 2 a_law_steps fd_law_steps ["_law_rows_here", "_law_at"] spStepsL := ok_stepsL F_law_steps T G_law_landed (F_law_landed.binds (ps := ["_law_rows_here", "_law_at"]) fun _ _ _ _ _ _ us hl => match us, hl with | [_, _], _ => rfl) (PySem.W.mg_of X G g_law_landed) F_law_landed.kp
    have G_law_histories : FnOk l.prog w K mg base CX0 3 a_law_histories fd_law_histories ["_law_rows_here", "_law_at", "_law_many", "_law_limit"] spHist := ok_histories F_law_histories T (PySem.W.mg_none_of X G z_enumerate) G_law_shows (F_law_shows.binds (ps := ["_law_rows_here", "_law_at"]) fun _ _ _ _ _ _ us hl => match us, hl with | [_, _], _ => rfl) (PySem.W.mg_of X G g_law_shows) F_law_shows.kp G_law_steps (F_law_steps.binds (ps := ["_law_rows_here", "_law_at"]) fun _ _ _ _ _ _ us hl => match us, hl with | [_, _], _ => rfl) (PySem.W.mg_of X G g_law_steps) F_law_steps.kp
    have G_law_met : FnOk l.prog w K mg base CX0 3 a_law_met fd_law_met ["_law_rows_here", "_law_at"] spMet := ok_metL F_law_met T G_law_landed (F_law_landed.binds (ps := ["_law_rows_here", "_law_at"]) fun _ _ _ _ _ _ us hl => match us, hl with | [_, _], _ => rfl) (PySem.W.mg_of X G g_law_landed) F_law_landed.kp G_law_steps (F_law_steps.binds (ps := ["_law_rows_here", "_law_at"]) fun _ _ _ _ _ _ us hl => match us, hl with | [_, _], _ => rfl) (PySem.W.mg_of X G g_law_steps) F_law_steps.kp
    have G_law_said : FnOk l.prog w K mg base CX0 6 a_law_said fd_law_said ["_law_body", "_law_history"] (spSaid K CB CM CH) := ok_said F_law_said T G_shown (F_shown.binds (ps := ["body", "history"]) fun _ _ _ _ _ _ us hl => match us, hl with | [_, _], _ => rfl) (PySem.W.mg_of X G g_shown) F_shown.kp (PySem.W.mg_of X G gc_AskError) (PySem.W.mg_of X G gc_BadHistory) XH TH nH eP kH
    have G_law_reached_right : FnOk l.prog w K mg base CX0 5 a_law_reached_right fd_law_reached_right ["_law_body", "_law_rows_here", "_law_begin", "_law_operations_here"] (spReached K CB CM) := ok_reached F_law_reached_right T TB (PySem.W.mg_none_of X G z_sorted) (PySem.W.mg_none_of X G z_set) G_law_met (F_law_met.binds (ps := ["_law_rows_here", "_law_at"]) fun _ _ _ _ _ _ us hl => match us, hl with | [_, _], _ => rfl) (PySem.W.mg_of X G g_law_met) F_law_met.kp ⟨at_asked, fn_asked, FM_asked.kp⟩ GM_asked (FM_asked.binds (ps := ["self"]) fun _ _ _ _ _ _ us hl => match us, hl with | [_], _ => rfl) ⟨at_words, fn_words, FM_words.kp⟩ GM_words (FM_words.binds (ps := ["self"]) fun _ _ _ _ _ _ us hl => match us, hl with | [_], _ => rfl) ⟨at_hangs, fn_hangs, FM_hangs.kp⟩ GM_hangs (FM_hangs.binds (ps := ["self"]) fun _ _ _ _ _ _ us hl => match us, hl with | [_], _ => rfl) at_contains fn_contains GM_contains (FM_contains.binds (ps := ["self", "operation"]) fun _ _ _ _ _ _ us hl => match us, hl with | [_, _], _ => rfl)
    have G_law_right : FnOk l.prog w K mg base CX0 9 a_law_right fd_law_right ["_law_source"] spRight := ok_right F_law_right T MB GB kB (PySem.W.mg_of X G gc_Body) G_law_next (F_law_next.binds (ps := ["_law_source", "_law_many"]) fun _ _ _ _ _ _ us hl => match us, hl with | [_, _], _ => rfl) (PySem.W.mg_of X G g_law_next) F_law_next.kp G_law_operations (F_law_operations.binds (ps := ["_law_source", "_law_many"]) fun _ _ _ _ _ _ us hl => match us, hl with | [_, _], _ => rfl) (PySem.W.mg_of X G g_law_operations) F_law_operations.kp G_law_rows (F_law_rows.binds (ps := ["_law_source", "_law_operations_here", "_law_many"]) fun _ _ _ _ _ _ us hl => match us, hl with | [_, _, _], _ => rfl) (PySem.W.mg_of X G g_law_rows) F_law_rows.kp G_law_one (F_law_one.binds (ps := ["_law_source", "_law_some"]) fun _ _ _ _ _ _ us hl => match us, hl with | [_, _], _ => rfl) (PySem.W.mg_of X G g_law_one) F_law_one.kp G_law_histories (F_law_histories.binds (ps := ["_law_rows_here", "_law_at", "_law_many", "_law_limit"]) fun _ _ _ _ _ _ us hl => match us, hl with | [_, _, _, _], _ => rfl) (PySem.W.mg_of X G g_law_histories) F_law_histories.kp G_law_shows (F_law_shows.binds (ps := ["_law_rows_here", "_law_at"]) fun _ _ _ _ _ _ us hl => match us, hl with | [_, _], _ => rfl) (PySem.W.mg_of X G g_law_shows) F_law_shows.kp G_law_steps (F_law_steps.binds (ps := ["_law_rows_here", "_law_at"]) fun _ _ _ _ _ _ us hl => match us, hl with | [_, _], _ => rfl) (PySem.W.mg_of X G g_law_steps) F_law_steps.kp G_law_said (F_law_said.binds (ps := ["_law_body", "_law_history"]) fun _ _ _ _ _ _ us hl => match us, hl with | [_, _], _ => rfl) (PySem.W.mg_of X G g_law_said) F_law_said.kp G_law_reached_right (F_law_reached_right.binds (ps := ["_law_body", "_law_rows_here", "_law_begin", "_law_operations_here"]) fun _ _ _ _ _ _ us hl => match us, hl with | [_, _, _, _], _ => rfl) (PySem.W.mg_of X G g_law_reached_right) F_law_reached_right.kp G_shown (F_shown.binds (ps := ["body", "history"]) fun _ _ _ _ _ _ us hl => match us, hl with | [_, _], _ => rfl) (PySem.W.mg_of X G g_shown) F_shown.kp
    exact ok_law F_law (PySem.W.mg_none_of X G z_range) G_law_source_of (F_law_source_of.binds (ps := ["_law_cell"]) fun _ _ _ _ _ _ us hl => match us, hl with | [_], _ => rfl) (PySem.W.mg_of X G g_law_source_of) F_law_source_of.kp G_law_right (F_law_right.binds (ps := ["_law_source"]) fun _ _ _ _ _ _ us hl => match us, hl with | [_], _ => rfl) (PySem.W.mg_of X G g_law_right) F_law_right.kp
theorem walk {l : PySem.W.OpenLaw} {q : Program} {loose : List Str} {XP : (Str → Option Value) → Heap → Prop} {YP : World → Heap → Prop} {d : DefRec} {K : Params → PySem.W.Frag} (hn : l.most = some 63) (hdf : d.params.defaults = [])
    (hY : ∀ (w : World) (h : Heap), YP w h → (K w.params).In h)
    (F : ∀ (w : World) (mg : Str → Option Value) (fa : Addr) (h : Heap), (K w.params).In h → h.Ns mainGlobals mg → mg d.name = some (.ref fa) →
      ∃ fd : FuncData, (∀ (s : Shared) (u : Value), BindsTo s fd ⟨[u], []⟩ [("_law_script", u)]) ∧ ∀ base : Heap, (K w.params).In base → base.Ns mainGlobals mg → FnOk l.prog w (K w.params) mg base CX0 10 fa fd ["_law_script"] (spLaw (K w.params))) :
    PySem.W.WalkO q loose XP YP l.row.toRowW d [] (fun f vs => PySem.call f vs) :=
  L2.walk_of (n := 63) (k := 10) (x := "_law_script") (CX := fun _ => CX0) (sp := fun w => spLaw (K w.params)) hn (by decide) hdf ⟨rfl, by decide, by decide⟩ hY F (fun _ _ a ns hl _ hS => ⟨a, ns, rfl, hS, hl, fun _ => rfl⟩) fun _ _ _ _ _ z => z
end Mine

set_option maxRecDepth 100000
set_option maxHeartbeats 4000000
open PySem PySem.W PyProof.Rows
set_option maxRecDepth 100000 in
set_option maxHeartbeats 0 in
theorem PySem.Challenge.cw_askfurther_k03_whole_what_bodies_show_holds : PySem.Challenge.rw_askfurther_k03_whole_what_bodies_show.Holds := by
  w_on; o_law; k_head; (case hw => w_witness2)
  k_fill
  refine Mine.walk (l := PySem.Challenge.rw_askfurther_k03_whole_what_bodies_show) rfl rfl (fun w h Y => PySem.W.kIn_of Y) ?F
  case F =>
    intro w mg fa h KX G hmg
    refine' Mine.all_mk KX G hmg ?g_is_integer ?F_is_integer ?g_is_within ?F_is_within ?g_is_index ?F_is_index ?g_is_row ?F_is_row ?g_is_name ?F_is_name ?g_is_text_in ?F_is_text_in ?g_are_counts ?F_are_counts ?g_are_operations ?F_are_operations ?g_in_order ?F_in_order ?g_word_of ?F_word_of ?g_are_nexts ?F_are_nexts ?g_stops_of ?F_stops_of ?g_rest_of ?F_rest_of ?g_rests_from ?F_rests_from ?g_nexts_of ?F_nexts_of ?g_shows_of ?F_shows_of ?g_firsts_of ?F_firsts_of ?g_lines_read ?F_lines_read ?g_is_line ?F_is_line ?g_line_of ?F_line_of ?g_can_come ?F_can_come ?g_shown ?F_shown ?g_law_source_of ?F_law_source_of ?g_law_next ?F_law_next ?g_law_one ?F_law_one ?g_law_mixed ?F_law_mixed ?g_law_operations ?F_law_operations ?g_law_rows ?F_law_rows ?g_law_landed ?F_law_landed ?g_law_shows ?F_law_shows ?g_law_steps ?F_law_steps ?g_law_histories ?F_law_histories ?g_law_met ?F_law_met ?g_law_said ?F_law_said ?g_law_reached_right ?F_law_reached_right ?g_law_right ?F_law_right ?g_law ?F_law ?gc_AskError ?gc_Body ?gc_Machine ?gc_BadHistory ?clB ?mkB ?inB ?fnB ?kpB ?clM ?mkM ?inM ?fnM ?kpM ?FM ?rH ?iH ?tH ?nH ?FH ?sbA ?hdA ?tyA ?hn ?ht ?at_asked ?fn_asked ?FM_asked ?at_words ?fn_words ?FM_words ?at_hangs ?fn_hangs ?FM_hangs ?at_contains ?fn_contains ?FM_contains ?FB ?kfB ?nsD ?nm_counts ?nm_lines ?nm_begin ?nm_stops ?nm_asks ?nm_endings ?nm_endless ?nb_machine ?z_int ?z_isinstance ?z_bool ?z_str ?z_list ?z_tuple ?z_dict ?z_len ?z_all ?z_range ?z_sorted ?z_min ?z_enumerate ?z_set ?cLET ?c_LONGEST_NAME ?c_MOST_OPERATIONS ?c_MOST_ANSWERS ?c_MOST_ROWS
    (case g_is_integer => k_is)
    (case F_is_integer => exact ⟨⟨_, _, _, _, _, _, _, _, _, rfl, by k_is, by k_is⟩, by k_is⟩)
    (case g_is_within => k_is)
    (case F_is_within => exact ⟨⟨_, _, _, _, _, _, _, _, _, rfl, by k_is, by k_is⟩, by k_is⟩)
    (case g_is_index => k_is)
    (case F_is_index => exact ⟨⟨_, _, _, _, _, _, _, _, _, rfl, by k_is, by k_is⟩, by k_is⟩)
    (case g_is_row => k_is)
    (case F_is_row => exact ⟨⟨_, _, _, _, _, _, _, _, _, rfl, by k_is, by k_is⟩, by k_is⟩)
    (case g_is_name => k_is)
    (case F_is_name => exact ⟨⟨_, _, _, _, _, _, _, _, _, rfl, by k_is, by k_is⟩, by k_is⟩)
    (case g_is_text_in => k_is)
    (case F_is_text_in => exact ⟨⟨_, _, _, _, _, _, _, _, _, rfl, by k_is, by k_is⟩, by k_is⟩)
    (case g_are_counts => k_is)
    (case F_are_counts => exact ⟨⟨_, _, _, _, _, _, _, _, _, rfl, by k_is, by k_is⟩, by k_is⟩)
    (case g_are_operations => k_is)
    (case F_are_operations => exact ⟨⟨_, _, _, _, _, _, _, _, _, rfl, by k_is, by k_is⟩, by k_is⟩)
    (case g_in_order => k_is)
    (case F_in_order => exact ⟨⟨_, _, _, _, _, _, _, _, _, rfl, by k_is, by k_is⟩, by k_is⟩)
    (case g_word_of => k_is)
    (case F_word_of => exact ⟨⟨_, _, _, _, _, _, _, _, _, rfl, by k_is, by k_is⟩, by k_is⟩)
    (case g_are_nexts => k_is)
    (case F_are_nexts => exact ⟨⟨_, _, _, _, _, _, _, _, _, rfl, by k_is, by k_is⟩, by k_is⟩)
    (case g_stops_of => k_is)
    (case F_stops_of => exact ⟨⟨_, _, _, _, _, _, _, _, _, rfl, by k_is, by k_is⟩, by k_is⟩)
    (case g_rest_of => k_is)
    (case F_rest_of => exact ⟨⟨_, _, _, _, _, _, _, _, _, rfl, by k_is, by k_is⟩, by k_is⟩)
    (case g_rests_from => k_is)
    (case F_rests_from => exact ⟨⟨_, _, _, _, _, _, _, _, _, rfl, by k_is, by k_is⟩, by k_is⟩)
    (case g_nexts_of => k_is)
    (case F_nexts_of => exact ⟨⟨_, _, _, _, _, _, _, _, _, rfl, by k_is, by k_is⟩, by k_is⟩)
    (case g_shows_of => k_is)
    (case F_shows_of => exact ⟨⟨_, _, _, _, _, _, _, _, _, rfl, by k_is, by k_is⟩, by k_is⟩)
    (case g_firsts_of => k_is)
    (case F_firsts_of => exact ⟨⟨_, _, _, _, _, _, _, _, _, rfl, by k_is, by k_is⟩, by k_is⟩)
    (case g_lines_read => k_is)
    (case F_lines_read => exact ⟨⟨_, _, _, _, _, _, _, _, _, rfl, by k_is, by k_is⟩, by k_is⟩)
    (case g_is_line => k_is)
    (case F_is_line => exact ⟨⟨_, _, _, _, _, _, _, _, _, rfl, by k_is, by k_is⟩, by k_is⟩)
    (case g_line_of => k_is)
    (case F_line_of => exact ⟨⟨_, _, _, _, _, _, _, _, _, rfl, by k_is, by k_is⟩, by k_is⟩)
    (case g_can_come => k_is)
    (case F_can_come => exact ⟨⟨_, _, _, _, _, _, _, _, _, rfl, by k_is, by k_is⟩, by k_is⟩)
    (case g_shown => k_is)
    (case F_shown => exact ⟨⟨_, _, _, _, _, _, _, _, _, rfl, by k_is, by k_is⟩, by k_is⟩)
    (case g_law_source_of => k_is)
    (case F_law_source_of => exact ⟨⟨_, _, _, _, _, _, _, _, _, rfl, by k_is, by k_is⟩, by k_is⟩)
    (case g_law_next => k_is)
    (case F_law_next => exact ⟨⟨_, _, _, _, _, _, _, _, _, rfl, by k_is, by k_is⟩, by k_is⟩)
    (case g_law_one => k_is)
    (case F_law_one => exact ⟨⟨_, _, _, _, _, _, _, _, _, rfl, by k_is, by k_is⟩, by k_is⟩)
    (case g_law_mixed => k_is)
    (case F_law_mixed => exact ⟨⟨_, _, _, _, _, _, _, _, _, rfl, by k_is, by k_is⟩, by k_is⟩)
    (case g_law_operations => k_is)
    (case F_law_operations => exact ⟨⟨_, _, _, _, _, _, _, _, _, rfl, by k_is, by k_is⟩, by k_is⟩)
    (case g_law_rows => k_is)
    (case F_law_rows => exact ⟨⟨_, _, _, _, _, _, _, _, _, rfl, by k_is, by k_is⟩, by k_is⟩)
    (case g_law_landed => k_is)
    (case F_law_landed => exact ⟨⟨_, _, _, _, _, _, _, _, _, rfl, by k_is, by k_is⟩, by k_is⟩)
    (case g_law_shows => k_is)
    (case F_law_shows => exact ⟨⟨_, _, _, _, _, _, _, _, _, rfl, by k_is, by k_is⟩, by k_is⟩)
    (case g_law_steps => k_is)
    (case F_law_steps => exact ⟨⟨_, _, _, _, _, _, _, _, _, rfl, by k_is, by k_is⟩, by k_is⟩)
    (case g_law_histories => k_is)
    (case F_law_histories => exact ⟨⟨_, _, _, _, _, _, _, _, _, rfl, by k_is, by k_is⟩, by k_is⟩)
    (case g_law_met => k_is)
    (case F_law_met => exact ⟨⟨_, _, _, _, _, _, _, _, _, rfl, by k_is, by k_is⟩, by k_is⟩)
    (case g_law_said => k_is)
    (case F_law_said => exact ⟨⟨_, _, _, _, _, _, _, _, _, rfl, by k_is, by k_is⟩, by k_is⟩)
    (case g_law_reached_right => k_is)
    (case F_law_reached_right => exact ⟨⟨_, _, _, _, _, _, _, _, _, rfl, by k_is, by k_is⟩, by k_is⟩)
    (case g_law_right => k_is)
    (case F_law_right => exact ⟨⟨_, _, _, _, _, _, _, _, _, rfl, by k_is, by k_is⟩, by k_is⟩)
    (case g_law => k_is)
    (case F_law => exact ⟨⟨_, _, _, _, _, _, _, _, _, rfl, by k_is, by k_is⟩, by k_is⟩)
    (case gc_AskError => k_is)
    (case gc_Body => k_is)
    (case gc_Machine => k_is)
    (case gc_BadHistory => k_is)
    (case clB => exact ⟨by k_is, by k_is, by k_is, by k_is⟩)
    (case mkB => k_is)
    (case inB => k_is)
    (case fnB => k_is)
    (case kpB => k_is)
    (case clM => exact ⟨by k_is, by k_is, by k_is, by k_is⟩)
    (case mkM => k_is)
    (case inM => k_is)
    (case fnM => k_is)
    (case kpM => k_is)
    (case FM => exact ⟨⟨_, _, _, _, _, _, _, _, _, rfl, by k_is, by k_is⟩, by k_is⟩)
    (case rH => exact ⟨⟨_, _, _, _, _, _, _, _, _, _, _, _, _, _, by k_is⟩, by k_is, by k_is, by k_is, by k_is, by k_is, by k_is, by k_is⟩)
    (case iH => k_is)
    (case tH => k_is)
    (case nH => k_is)
    (case FH => exact ⟨⟨_, _, _, _, _, _, _, _, _, rfl, by k_is, by k_is⟩, by k_is⟩)
    (case sbA => k_is)
    (case hdA => k_is)
    (case tyA => k_is)
    (case hn => k_is)
    (case ht => k_is)
    (case at_asked => k_is)
    (case fn_asked => k_is)
    (case FM_asked => exact ⟨⟨_, _, _, _, _, _, _, _, _, rfl, by k_is, by k_is⟩, by k_is⟩)
    (case at_words => k_is)
    (case fn_words => k_is)
    (case FM_words => exact ⟨⟨_, _, _, _, _, _, _, _, _, rfl, by k_is, by k_is⟩, by k_is⟩)
    (case at_hangs => k_is)
    (case fn_hangs => k_is)
    (case FM_hangs => exact ⟨⟨_, _, _, _, _, _, _, _, _, rfl, by k_is, by k_is⟩, by k_is⟩)
    (case at_contains => k_is)
    (case fn_contains => k_is)
    (case FM_contains => exact ⟨⟨_, _, _, _, _, _, _, _, _, rfl, by k_is, by k_is⟩, by k_is⟩)
    (case FB => exact ⟨_, _, _, _, _, _, _, _, rfl, by k_is, by k_is⟩)
    (case kfB => k_is)
    (case nsD => k_is)
    (case nm_counts => (show PySem.W.findIn _ _ _ = _); k_is)
    (case nm_lines => (show PySem.W.findIn _ _ _ = _); k_is)
    (case nm_begin => (show PySem.W.findIn _ _ _ = _); k_is)
    (case nm_stops => (show PySem.W.findIn _ _ _ = _); k_is)
    (case nm_asks => (show PySem.W.findIn _ _ _ = _); k_is)
    (case nm_endings => (show PySem.W.findIn _ _ _ = _); k_is)
    (case nm_endless => (show PySem.W.findIn _ _ _ = _); k_is)
    (case nb_machine => (show PySem.W.findIn _ _ _ = _); k_is)
    (case z_int => k_is)
    (case z_isinstance => k_is)
    (case z_bool => k_is)
    (case z_str => k_is)
    (case z_list => k_is)
    (case z_tuple => k_is)
    (case z_dict => k_is)
    (case z_len => k_is)
    (case z_all => k_is)
    (case z_range => k_is)
    (case z_sorted => k_is)
    (case z_min => k_is)
    (case z_enumerate => k_is)
    (case z_set => k_is)
    (case cLET => k_is)
    (case c_LONGEST_NAME => k_is)
    (case c_MOST_OPERATIONS => k_is)
    (case c_MOST_ANSWERS => k_is)
    (case c_MOST_ROWS => k_is)
