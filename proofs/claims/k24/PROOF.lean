import PyProof.Rows.All
import Wide.All
import OpenK.AllK
import Wide.FinOn
import HandS.Head0
import HandS.Head1
import HandS.Head2
import HandS.HeadEnd
import HandS.HeadHook1
import HandS.HeadHook2
import HandS.HeadHook3
import HandS.HeadHook4
import HandS.HeadWalk
import HandS.ForMost
import HandS.Exc
import HandS.ExcInit
import HandS.ExcIs
import HandS.IsInst
import HandS.Wide
import HandS.Defaults
import HandS.ExcValue
import HandS.ExcOwn
import HandS.Ends
import PyProof.EnumMake
import KE.GoesMore
import KE.GoesEnum
import HandS.DictComp
import HandS.Walk
import HandS.Small
import HandS.Zip
import HandS.Conv
import HandS.SetKeys
import HandS.SortRule
import HandS.MakeKwOnly
import HandS.TupAny
import HandS.Lambda
import HandS.EndTab
import HandS.EndOwn
import HandS.NestedK
import HandS.Words
import HandS.Nested
import KE.KDflt
import KE.DatumOrd
import HandS.WordsExc
import HandS.Style
import HandS.ExcField
import HandS.Deep
import PySem.Challenge.RW_askfurther_k24_what_are_no_pairs
set_option Elab.async false
set_option linter.all false
set_option maxRecDepth 100000
set_option maxHeartbeats 2000000
/-! a head by facts for a program of many defs: what is looked at is reached by few steps, no address is asked twice -/
namespace He2
open PySem PySem.Spec PyProof.Rows L2
/-- what is followed: a namespace's values, a def's code and its keyword defaults, a class's namespace -/
def refs1 (o : Obj) : List Addr := match o.data with
  | .dict es _ => es.toList.flatMap fun e => He.refV e.val
  | .func fd => He.refV fd.code ++ He.refV fd.kwdefaults
  | .cls cd => [cd.ns]
  | _ => []
def nxt (g : Addr → Option Obj) (as : List Addr) : List Addr := as.flatMap fun a => match g a with
  | some o => refs1 o
  | none => []
def reach (g : Addr → Option Obj) : List Addr := [mainGlobals] ++ (nxt g [mainGlobals] ++ (nxt g (nxt g [mainGlobals]) ++ (nxt g (nxt g (nxt g [mainGlobals])) ++ nxt g (nxt g (nxt g (nxt g [mainGlobals]))))))
structure SaysY (fa : List He.Fa) (fn : List He.DefD) (tf : List He.Defn) (ex : PySem.W.Frag → Bool) (h : Heap) (K : PySem.W.Frag) : Prop where
  d : He.SaysD fa fn K
  more : ex K = true
  hd : ∀ p ∈ tf, PySem.W.codeHdIn K (He.cT K p).1 (He.cT K p).2 = true
  out : ∀ p ∈ tf, K.lookup (He.cT K p).2 = none
  empty : ∀ p ∈ tf, h.get? (He.cT K p).2 = some { cls := .none, data := .fields #[] }
abbrev AlY : Type := He.AlD × Bool
def obsK (fa : List He.Fa) (fn : List He.DefD) (tf : List He.Defn) (ex : PySem.W.Frag → Bool) (g : Addr → Option Obj) (K : PySem.W.Frag) : AlY := (He.obsD fa fn K, ex K && He.tabsB g tf K)
def obsY (fa : List He.Fa) (fn : List He.DefD) (tf : List He.Defn) (ex : PySem.W.Frag → Bool) (g : Addr → Option Obj) : AlY := obsK fa fn tf ex g (He.frT g (reach g))
def valY (fn : List He.DefD) : AlY := (He.valD fn, true)
theorem saysY_of {fa : List He.Fa} {fn : List He.DefD} {tf : List He.Defn} {ex : PySem.W.Frag → Bool} {h : Heap} (e : obsY fa fn tf ex h.get? = valY fn) : SaysY fa fn tf ex h (He.frT h.get? (reach h.get?)) := by
  have e1 : He.obsD fa fn (He.frT h.get? (reach h.get?)) = He.valD fn := congrArg (fun z : AlY => z.1) e
  have e2 : (ex (He.frT h.get? (reach h.get?)) && He.tabsB h.get? tf (He.frT h.get? (reach h.get?))) = true := congrArg (fun z : AlY => z.2) e
  obtain ⟨h1, h2⟩ := He.ba e2
  have key : ∀ p ∈ tf, PySem.W.codeHdIn (He.frT h.get? (reach h.get?)) (He.cT (He.frT h.get? (reach h.get?)) p).1 (He.cT (He.frT h.get? (reach h.get?)) p).2 = true ∧ ∃ o, h.get? (He.cT (He.frT h.get? (reach h.get?)) p).2 = some o ∧ He.emptyTab o = true := fun p hp => by
    obtain ⟨h3, h4⟩ := He.ba (List.all_eq_true.mp h2 p hp)
    refine ⟨h3, ?_⟩
    cases q : h.get? (He.cT (He.frT h.get? (reach h.get?)) p).2 with
    | none =>
      rw [q] at h4
      cases h4
    | some o =>
      rw [q] at h4
      exact ⟨o, rfl, h4⟩
  exact ⟨e1, h1, fun p hp => (key p hp).1, fun p hp => by
    obtain ⟨_, o, q, z⟩ := key p hp
    exact He.frT_none q z, fun p hp => by
    obtain ⟨_, o, q, z⟩ := key p hp
    rw [q, He.emptyTab_eq z]⟩
def hookY (fa : List He.Fa) (fn : List He.DefD) (tf : List He.Defn) (ex : PySem.W.Frag → Bool) : PySem.W.Hook where
  α := AlY
  obs := fun s => obsY fa fn tf ex s.heap.get?
  val := fun _ => valY fn
  says := fun _ h => ∃ K : PySem.W.Frag, K.In h ∧ SaysY fa fn tf ex h K
  of := fun _ _ e => ⟨_, He.frT_in, saysY_of e⟩
  keeps := fun _ _ _ ⟨K, hK, c⟩ k => ⟨K, PySem.W.Frag.In.keeps hK k, ⟨c.d, c.more, c.hd, c.out, fun p hp => k _ _ (c.empty p hp)⟩⟩
theorem obsY_eq {fa : List He.Fa} {fn : List He.DefD} {tf : List He.Defn} {ex : PySem.W.Frag → Bool} {g : Addr → Option Obj} {s : Shared} (h : ∀ a, g a = s.heap.get? a) : obsY fa fn tf ex g = (hookY fa fn tf ex).obs s := by
  have e : g = s.heap.get? := funext h
  rw [e] <;> rfl
end He2

set_option maxRecDepth 100000
set_option maxHeartbeats 4000000
/-! Own error classes over ValueError, made as values: with keywords, without an own __init__; what isinstance says of them; their fields. -/
namespace PySem
namespace ExoX
open PySem.HandSPX
open Builtin Builtin.ObjectAttr
section
variable {prog : Program} {w : World} {A : Around} {R : Result → Shared → Prop} {Er : Value → Shared → Prop}
variable {hp : Heap} {gs : Array GenState} {dr : Drawn} {tk : Nat} {os : OsState} {kw : List (Str × Value)} {rs : List Value}
variable {nm qn : Str} {Cl Nm : Addr} {bss bm bB sb : List Value} {hd ab : Bool} {sl : List Str} {cl : Option Bool} {dd : Option Addr} {y0 y1 y2 y3 y5 : Option Value} {Bs nI iI : String}
abbrev cobj (nm qn : Str) (Cl Nm : Addr) (bss bm : List Value) (hd : Bool) (sl : List Str) (sb : List Value) (ab : Bool) (cl : Option Bool) (dd : Option Addr) (y0 y1 y2 y3 y5 : Option Value) (nI : String) : Obj :=
  excClassObj nm qn Cl Nm bss bm hd sl sb ab cl dd y0 y1 y2 y3 y5 nI
/-- the check ahead of __new__, with keywords -/
theorem checkNewKw (F : ExcBaseFacts Bs nI iI bB) (hc : ∀ T : String, bm.contains (.type T) = bB.contains (.type T)) {Q : Unit → Shared → Prop}
    (ho : hp.get? Cl = some (cobj nm qn Cl Nm bss bm hd sl sb ab cl dd y0 y1 y2 y3 y5 nI)) (q : Q () ⟨hp, gs, dr, tk, os⟩) :
    wpAny (model prog w) A (checkBuiltinCall nI ⟨.ref Cl :: rs, kw⟩) Q Er ⟨hp, gs, dr, tk, os⟩ := by
  have c1 : (Value.ref Cl :: bm).contains (.type Bs) = true := by
    rw [List.contains_cons, hc, F.hasB, Bool.or_true]
  have c2 := F.noStar
  simp only [checkBuiltinCall, F.newKind, F.newSplit, F.newRow]
  repeat (first
    | refine wpAny_loadPart_at ho ?_
    | (refine wpAny_isSubtype_exc ho ?_; rw [c1])
    | refine wpAny_staticBase_exc ho ?_
    | refine wpAny_madeBy_exc ho ?_
    | simp only [bne_self_eq_false, Bool.false_eq_true, if_false]
    | wp_step)
  exact q
end
section
variable {prog : Program} {w : World} {A : Around} {R : Result → Shared → Prop} {Er : Value → Shared → Prop}
variable {hp : Heap} {gs : Array GenState} {dr : Drawn} {tk : Nat} {os : OsState} {kw : List (Str × Value)} {rs : List Value}
variable {nm qn : Str} {Cl Nm fI : Addr} {bss bm bB sb : List Value} {hd ab : Bool} {sl : List Str} {cl : Option Bool} {dd : Option Addr} {y0 y1 y2 y3 y5 : Option Value} {Bs nI iI : String}
/-- the two objects that __new__ lays -/
abbrev laid (hp : Heap) (rs : List Value) (Cl : Addr) : Heap := (hp.push (PySem.W.kdv_tup rs)).push (excO Cl hp.objs.size)
theorem newKw (F : ExcBaseFacts Bs nI iI bB) (hc : ∀ T : String, bm.contains (.type T) = bB.contains (.type T))
    (ho : hp.get? Cl = some (cobj nm qn Cl Nm bss bm hd sl sb ab cl dd y0 y1 y2 y3 y5 nI)) (hl : rs.length ≤ sizeLine)
    (q : R (.ok (.ret (.ref (hp.objs.size + 1)))) ⟨laid hp rs Cl, gs, dr, tk, os⟩) :
    codeAny (model prog w) A (.builtin nI ⟨.ref Cl :: rs, kw⟩) R ⟨hp, gs, dr, tk, os⟩ := by
  have c0 := F.ends
  have c1 : (Value.ref Cl :: bm).contains (.type Bs) = true := by
    rw [List.contains_cons, hc, F.hasB, Bool.or_true]
  have c2 : (Value.ref Cl :: bm).contains (.type "AttributeError") = false := by
    rw [List.contains_cons, hc, F.noAttr]
    rfl
  have c3 : (Value.ref Cl :: bm).contains (.type "NameError") = false := by
    rw [List.contains_cons, hc, F.noName]
    rfl
  refine codeAny_builtinAt F.entry ?_
  unfold Builtin.«BaseException.__new__»
  refine wpAt_bind ?_
  show wpAt _ _ _ (stack >>= _) _ _ _
  refine wpAt_bind (wpAt_stack fun p below => wpAt_of_wpAny ?_)
  wp_walk
  refine wpAt_of_wpAny ?_
  rw [F.owner]
  repeat (first
    | with_reducible refine wpAny_madeHere_exc F.canon ho ?_
    | with_reducible refine wpAny_loadPart_at ho ?_
    | (with_reducible refine wpAny_isSubtype_exc ho ?_; first | rw [c1] | rw [c2] | rw [c3])
    | wp_step)
  show R _ _
  rw [Heap.size_push]
  exact q
theorem typeCallKw (F : ExcBaseFacts Bs nI iI bB) (hc : ∀ T : String, bm.contains (.type T) = bB.contains (.type T)) {Q : Fin → Shared → Prop}
    (ho : hp.get? Cl = some (cobj nm qn Cl Nm bss bm hd sl sb ab cl dd y0 y1 y2 y3 y5 nI))
    (li : PySem.W.Looks (model prog w) hp (typeLookup (.ref Cl) "__init__") (some (.ref fI)))
    (lb : ∀ self, PySem.W.Looks (model prog w) hp (bindSpecial (.ref fI) self) (.ref fI, [self])) (hl : rs.length ≤ sizeLine)
    (q : codeAny (model prog w) A (.call (.ref fI) ⟨.ref (hp.objs.size + 1) :: rs, kw⟩)
      (fun r s' => match r with | .ok (.ret v) => v = .none ∧ Q (.done (.ret (.ref (hp.objs.size + 1)))) s' | .ok _ => False | .error e => Er e s')
      ⟨laid hp rs Cl, gs, dr, tk, os⟩) :
    wpAny (model prog w) A (Builtin.«type.__call__» ⟨.ref Cl :: rs, kw⟩) Q Er ⟨hp, gs, dr, tk, os⟩ := by
  repeat (first
    | with_reducible refine wpAny_loadPart_at ho ?_
    | with_reducible refine wpAny_madeBy_exc ho ?_
    | wp_step)
  refine codeAny_call_builtin_code (Code.quiet_builtin _ F.quiet) (checkNewKw F hc ho ?_)
  refine newKw F hc ho hl ?_
  show wpAny _ _ _ _ _ _
  have kp : ∀ b o, hp.get? b = some o → (laid hp rs Cl).get? b = some o := fun b o e =>
    Heap.get?_push_of_some _ (Heap.get?_push_of_some _ e)
  have ho1 := kp _ _ ho
  have hx : (laid hp rs Cl).get? (hp.objs.size + 1) = some (excO Cl hp.objs.size) := by heap_get
  have cc : (Value.ref Cl :: bm).contains (.ref Cl) = true := by simp
  have li1 := li.keeps kp
  have lb1 := (lb (.ref (hp.objs.size + 1))).keeps kp
  unfold isInstance
  repeat (first
    | with_reducible refine wpAny_loadPart_at hx ?_
    | (with_reducible refine wpAny_isSubtype_exc ho1 ?_; rw [cc])
    | wp_step)
  show wpAny _ _ (typeLookup (.ref Cl) _) _ _ _
  refine li1.at ?_
  refine wpAny_holding (wpAny_bind (lb1.at ?_))
  refine wpAny_bind (wpAny_call (codeAny_mono q fun r s' z => ?_))
  rcases r with e | (v | _ | _ | _) <;> first | exact z | exact z.elim | skip
  obtain ⟨rfl, z⟩ := z
  first
    | exact wpAny_pure (wpAny_pure z)
    | (wp_walk; exact z)
/-- C(.., k = v ..): the object is laid, then C's own __init__ runs -/
theorem callKw (F : ExcBaseFacts Bs nI iI bB) (hc : ∀ T : String, bm.contains (.type T) = bB.contains (.type T))
    (ho : hp.get? Cl = some (cobj nm qn Cl Nm bss bm hd sl sb ab cl dd y0 y1 y2 y3 y5 nI))
    (li : PySem.W.Looks (model prog w) hp (typeLookup (.ref Cl) "__init__") (some (.ref fI)))
    (lb : ∀ self, PySem.W.Looks (model prog w) hp (bindSpecial (.ref fI) self) (.ref fI, [self])) (hl : rs.length ≤ sizeLine)
    (q : codeAny (model prog w) (A.under (.builtin "type.__call__" ⟨.ref Cl :: rs, kw⟩)) (.call (.ref fI) ⟨.ref (hp.objs.size + 1) :: rs, kw⟩)
      (PySem.W.InitBack (hp.objs.size + 1) R) ⟨laid hp rs Cl, gs, dr, tk, os⟩) :
    codeAny (model prog w) A (.call (.ref Cl) ⟨rs, kw⟩) R ⟨hp, gs, dr, tk, os⟩ := by
  have f1 := tc_lookup
  have f2 := tc_bind (.ref Cl)
  have hty : (⟨hp, gs, dr, tk, os⟩ : Shared).TypeIs (.ref Cl) "type" := ⟨_, ho, rfl⟩
  refine codeAny_of_tree ?_
  show wpAny _ _ (callAny (.ref Cl) _) _ _ _
  repeat (any_goals (first
    | assumption
    | with_reducible refine wpAny_loadPart_at ho ?_
    | wp_step))
  refine ⟨rfl, ?_⟩
  refine codeAny_call_builtin_at (Code.quiet_builtin _ (by decide +kernel)) entry_typeCall (wpAny_check_type_call_sub ho (typeCallKw F hc ho li lb hl ?_))
  refine codeAny_mono q fun r s' z => ?_
  rcases r with e | (v | _ | _ | _) <;> exact z
end
end ExoX
end PySem

set_option maxRecDepth 100000
set_option maxHeartbeats 4000000
namespace L2
open PySem PySem.Spec PyProof.Rows
section
variable {X : Cx} {CX : CXT} {k n : Nat} {fI C : Addr} {fd : FuncData} {ps ks : List Str} {sp : Sp} {E : XK} {g : List Value → List Value → List Value} {gV : List V → List V → List V}
variable {pins : List (Addr × Obj)} {σ : St} {H : Hp} {s : Shared} {x : Str} {p pos : Pos} {e : Expr} {es : List Expr} {kws : List Keyword} {t tk : TA}
/-- the object is laid, C's own __init__ keeps sp -/
theorem run_exo {Q : VK} {us ws : List Value} {vs zs : List V} (T : OexC X.K C) (iC : PySem.W.findIn X.K (.ref C) "__init__" = some (some (.ref fI)))
    (tI : PySem.W.typeIn X.K (.ref fI) = some (.type "function")) (F : FnOk X.prog X.w X.K X.mg X.base CX k fI fd ps sp) (hr : Room (k + 1) X.A)
    (hb : KBn X.K fd ps (n + 1) ks g gV) (hx : Passes CX X E) (I : Inv X pins σ H s) (r : Vals vs us) (rz : Vals zs ws) (l1 : vs.length = n) (l2 : zs.length = ks.length) (l3 : n ≤ 1000)
    (h : ∀ a, H a = none → sp (gV (.ref a :: vs) zs) (upd H a (exo a C none)) (fun v H2 => v = .non ∧ Q (.ref a) H2) E) :
    wpAny (model X.prog X.w) X.A (call (.ref C) us (ks.zip ws)) (EP X pins σ Q) X.xe s := by
  obtain ⟨nm, q, N, bs, bm, sn, sub, ab, col, dd, k0, k1, k2, k3, k5, hC, hbm⟩ := T.cls
  obtain ⟨hp, gs, dr, t0, os⟩ := s
  have up : hp.objs.size ≤ hp.objs.size + 1 := Nat.le_succ _
  have hq := h (hp.objs.size + 1) (I.hok.fresh up)
  have kk : ∀ b o, hp.get? b = some o → (PySem.ExoX.laid hp us C).get? b = some o := fun b o z =>
    Heap.get?_push_of_some _ (Heap.get?_push_of_some _ z)
  have hg : (PySem.ExoX.laid hp us C).get? (hp.objs.size + 1) = some (PySem.HandSPX.excO C hp.objs.size) := by heap_get
  have I2 : Inv X pins σ (upd H (hp.objs.size + 1) (exo (hp.objs.size + 1) C none)) ⟨PySem.ExoX.laid hp us C, gs, dr, t0, os⟩ :=
    I.laid (t' := t0) (a := hp.objs.size + 1) (o := exo (hp.objs.size + 1) C none) (h' := PySem.ExoX.laid hp us C) kk up (exo_ok hg)
  have r1 : Vals (V.ref (hp.objs.size + 1) :: vs) (Value.ref (hp.objs.size + 1) :: us) := .cons rfl r
  have r2 := hb.rel r1 rz
  have e1 : (Value.ref (hp.objs.size + 1) :: us).length = n + 1 := r1.length.symm.trans (congrArg Nat.succ l1)
  have e2 : ws.length = ks.length := rz.length.symm.trans l2
  have hus : us.length ≤ sizeLine := by
    rw [← r.length, l1, sizeLine_eq]
    omega
  refine wpAny_call (PySem.ExoX.callKw PySem.F.excBase_ValueError (fun Y => PySem.HandSPX.refsVE_contains Y bm hbm) (I.kIn _ _ hC) (PySem.W.looks_findIn I.kIn iC) (fun self => PySem.W.bind_fn I.kIn self tI) hus ?_)
  refine codeAny_mono (F.run _ X.stack _ _ ⟨Value.ref (hp.objs.size + 1) :: us, ks.zip ws⟩ (g (Value.ref (hp.objs.size + 1) :: us) ws) _ _ E (hr.make C us (ks.zip ws)) (I2.env0.make C us (ks.zip ws)) (hb.to _ (Value.ref (hp.objs.size + 1) :: us) ws I2.kIn e1 e2) r2 hq) fun r s' hq' => ?_
  cases r with
  | error er => exact hx pins σ _ _ er s' I2 hq'
  | ok fl =>
    cases fl with
    | ret u =>
      obtain ⟨v, H', I3, rv, ev, q3⟩ := I2.after hq'
      subst ev
      exact ⟨rv, ⟨V.ref (hp.objs.size + 1), H', I3, rfl, q3⟩⟩
    | next => exact False.elim hq'
    | brk => exact False.elim hq'
    | cont => exact False.elim hq'
/-- C(e, .., k = v, ..) as a value -/
def tExoN (C : Addr) (n m : Nat) (sp : Sp) (gV : List V → List V → List V) (E : XK) (t tk : TA) : TE := fun σ H Q => t σ H fun vs H1 => tk σ H1 fun zs H2 => vs.length = n ∧ zs.length = m ∧
  ∀ a, H2 a = none → sp (gV (.ref a :: vs) zs) (upd H2 a (exo a C none)) (fun v H3 => v = .non ∧ Q (.ref a) H3) E
theorem pe_exo1 (T : OexC X.K C) (iC : PySem.W.findIn X.K (.ref C) "__init__" = some (some (.ref fI))) (tI : PySem.W.typeIn X.K (.ref fI) = some (.type "function"))
    (F : FnOk X.prog X.w X.K X.mg X.base CX k fI fd ps sp) (hr : Room (k + 1) X.A) (hg : Gl X x) (hm : X.mg x = some (.ref C)) (hb : KBn X.K fd ps (n + 1) [] g gV) (hx : Passes CX X E) (l3 : n ≤ 1000)
    (ha : PA X (e :: es) t) (hdb : (x == ("__debug__" : Str)) = false := by decide) (he : starEach (e :: es) X.env = (false, eval e X.env) :: starEach es X.env := by rfl)
    (hpl : (backTo pos (starEach es X.env)).any (·.1) = false := by rfl) :
    PE X (.Call (.Name x p) (e :: es) [] pos) (tExoN C n 0 sp gV E t tNil) := by
  refine ⟨fun pins s σ H Q I h => ?_⟩
  refine wpAny_Call_Name_kw (ld_glob I hg hm ?_ hdb)
  refine PySem.W.callWith_K (h₀ := X.base) I.ok.mod.kin T.kC (thn (ha.run pos pins s σ H _ I h) fun us s1 ⟨vs, H1, I1, r, l1, l2, q⟩ => ⟨I1.kIn, ?_⟩) he hpl
  exact run_exo (ks := []) (ws := []) (zs := []) T iC tI F hr hb hx I1 r .nil l1 rfl l3 q
/-- keywords alone -/
theorem pe_exoK (T : OexC X.K C) (iC : PySem.W.findIn X.K (.ref C) "__init__" = some (some (.ref fI))) (tI : PySem.W.typeIn X.K (.ref fI) = some (.type "function"))
    (F : FnOk X.prog X.w X.K X.mg X.base CX k fI fd ps sp) (hr : Room (k + 1) X.A) (hg : Gl X x) (hm : X.mg x = some (.ref C)) (hb : KBn X.K fd ps (0 + 1) ks g gV) (hx : Passes CX X E)
    (hkw : PK X kws tk) (hall : (backToKw pos (keywordEach kws X.env)).all (·.1.isSome) = true := by rfl) (hks : (backToKw pos (keywordEach kws X.env)).filterMap (·.1) = ks := by rfl)
    (hdb : (x == ("__debug__" : Str)) = false := by decide)
    (hpl : ((backTo pos (starEach [] X.env)).any (·.1) || (backToKw pos (keywordEach kws X.env)).any (·.1.isNone)) = false := by rfl) :
    PE X (.Call (.Name x p) [] kws pos) (tExoN C 0 ks.length sp gV E tNil tk) := by
  refine ⟨fun pins s σ H Q I h => ?_⟩
  refine wpAny_Call_Name_kw (ld_glob I hg hm ?_ hdb)
  refine PySem.W.callWith_KW0 (h₀ := X.base) I.ok.mod.kin T.kC hall (thn (hkw.run pos pins s σ H _ I h) fun ws s2 ⟨zs, H2, I2, rz, l1, l2, q2⟩ => ⟨I2.kIn, ?_⟩) hpl
  rw [hks]
  exact run_exo (us := []) (vs := []) T iC tI F hr hb hx I2 .nil rz l1 l2 (Nat.zero_le _) q2
/-- C(), a class without an own __init__ -/
def tExo0 (C : Addr) : TE := fun _ H Q => ∀ a, H a = none → Q (.ref a) (upd H a (exo a C none))
theorem pe_exo0 (q : PySem.W.excIn X.K C [.type "ValueError", .type "Exception", .type "BaseException", .type "object"] "ValueError.__new__" = true) (kC : PySem.W.keepIn X.K (.ref C) = true) (hg : Gl X x) (hm : X.mg x = some (.ref C))
    (hdb : (x == ("__debug__" : Str)) = false := by decide) : PE X (.Call (.Name x p) [] [] pos) (tExo0 C) := by
  refine ⟨fun pins s σ H Q I h => ?_⟩
  refine wpAny_Call_Name_kw (ld_glob I hg hm ?_ hdb)
  refine PySem.W.callWith_K0 I.kIn kC ?_
  show wpAny _ _ (call (.ref C) []) _ _ _
  obtain ⟨bm, N, nm, qn, bs, hdct, sn, sub, ab, col, dd, k0, k1, k2, k3, k5, mN, hC, hN, hni, T⟩ := exc_obj I.kIn q
  refine wpAny_call_exc_subT PySem.F.excBase_ValueError T hC hN hni (fun h' a hm => ?_) (by show 0 ≤ sizeLine; rw [sizeLine_eq]; omega)
  have hn : H a = none := I.hok.gone hm.new
  obtain ⟨t, ht, _, _⟩ := hm.there
  exact ⟨.ref a, upd H a (exo a C none), I.laidN hm.keeps hm.new hn (exo_ok ht), rfl, h a hn⟩
end
end L2

set_option maxRecDepth 100000
set_option maxHeartbeats 4000000
namespace PySem.ExoX
open PySem PySem.W PySem.Calls PyProof.Rows PySem.Spec
section
variable {prog : Program} {w : World} {A : Around} {Er : Value → Shared → Prop} {s : Shared} {K : Frag} {x D : Addr} {ob : Obj} {own : Option Obj}
/-- a class's own attribute that takes what is read off an instance, whatever the instance's dict holds -/
theorem find_data {nm : Str} {a g : Value} (c0 : (clsIn K D).isSome = true) (c1 : findIn K (.ref D) nm = some (some a)) (c2 : specialIn K a "__get__" = some (some g)) (c3 : takesIn K a = some true) :
    findObj K D own nm = some (.bind g a) := by
  obtain ⟨cd, c0⟩ := Option.isSome_iff_exists.mp c0
  unfold findObj
  rw [c0, Option.bind_some, c1, Option.bind_some]
  simp [c2, c3]
/-- e.__class__ of such an error, with or without a dict -/
theorem class_of {Q : Option Value → Shared → Prop} (T : L2.ExcC K D) (X : K.In s.heap) (I : InstAt s.heap x ob D own) (q : Q (some (.ref D)) { s with toks := s.toks + 1 }) :
    wpAny (model prog w) A (getAttr? (.ref x) "__class__") Q Er s := by
  have fd : findObj K D own "__class__" = some (.bind (.builtin "getset_descriptor.__get__") (.builtin "object.__class__")) :=
    find_data (by
      obtain ⟨cd, z, _⟩ := any_some T.hd
      rw [z]
      rfl) T.ha T.hn T.ht
  obtain ⟨hh, gg, dd, tt, oo⟩ := s
  have l0 := I.type (M := model prog w)
  have l1 := looks_findIn (M := model prog w) X T.hg
  have l2 := looks_findIn (M := model prog w) X T.hk
  have l3 := looks_find (M := model prog w) X I fd
  have l4 : Looks (model prog w) hh (isInstance (.ref x) (.type "BaseException")) true := l0.andThen (looks_subIn X T.hs)
  have n0 : (false && onTheHeap (Value.builtin "BaseException.__getattribute__")) = false := rfl
  have n2 : (Value.builtin "BaseException.__getattribute__" == Value.builtin "object.__getattribute__") = false := by
    decide +kernel
  have n1 : (onTheHeap (Value.ref D) && Value.builtin "BaseException.__getattribute__" == Value.builtin "object.__getattribute__") = false := by
    rw [n2]
    rfl
  unfold getAttr? getAttrBy? getAttrBy
  refine wpAny_bind (wpAny_mkText (wpAny_bind (wpAny_attempt (wpAny_holding (wpAny_bind (l0.at (wpAny_bind (l1.at ?_))))))))
  show wpAny _ _ (if (onTheHeap (Value.ref D) && Value.builtin "BaseException.__getattribute__" == Value.builtin "object.__getattribute__") = true then _ else _) _ _ _
  rw [n1, if_neg Bool.false_ne_true]
  unfold getAttrByItsOwn hookBefore
  refine wpAny_bind ?_
  rw [if_pos (show onTheHeap (Value.ref D) = true from rfl)]
  refine l2.at ?_
  refine wpAny_bind (wpAny_attempt (wpAny_holding ?_))
  unfold callGetattribute
  rw [n0, if_neg Bool.false_ne_true]
  unfold boundAndCalled
  rw [PySem.F.excAttr_ValueError.ga.bind (.ref x)]
  refine wpAny_bind (wpAny_pure ?_)
  show wpAny _ _ (call (.builtin "BaseException.__getattribute__") [.ref x, .str "__class__" tt]) _ _ _
  refine wpAny_call (codeAny_call_builtin PySem.F.excAttr_ValueError.ga.plain PySem.F.entry_bexc_ga ?_)
  refine @check_slot (model prog w) _ _ ⟨hh, gg, dd, tt + 1, oo⟩ "BaseException.__getattribute__" "BaseException" "__getattribute__" (.ref x) [.str "__class__" tt] [] _
    (by decide +kernel) (by decide +kernel) l4 (PySem.F.args_bexc_ga (.ref x) (.str "__class__" tt)) ?_
  unfold Builtin.«object.__getattribute__»
  refine wpAny_bind (wpAny_of_eq (a := ((Value.ref x : Value), [Value.str "__class__" tt])) (by first | rfl | (simp only [slotArgs]; rfl)) ?_)
  refine wpAny_bind (wpAny_pure (wpAny_bind (l0.at (wpAny_bind (l3.at ?_)))))
  show wpAny _ _ (holding [Value.builtin "object.__class__"] (call (.builtin "getset_descriptor.__get__") [.builtin "object.__class__", .ref x, .ref D]) >>= ret) _ _ _
  refine wpAny_bind (wpAny_holding (wpAny_call (class_get (s := ⟨hh, gg, dd, tt + 1, oo⟩) (ox := ob) (od := own) X I T.hm ?_)))
  refine wpAny_pure ?_
  show wpAny _ _ (handedOut (.ref D)) _ _ _
  rw [handedOut_of (v := .ref D) rfl]
  first
    | exact wpAny_pure (wpAny_pure q)
    | exact wpAny_pure q
    | exact wpAny_pure (wpAny_bind (wpAny_pure (wpAny_pure q)))
theorem kitExo (T : L2.ExcC K D) : KitX K (.ref x) (.ref D) (fun h => ∃ ob own, InstAt h x ob D own) where
  ty := fun _ _ _ ⟨_, _, I⟩ => I.type
  it := fun _ _ X _ => by
    obtain ⟨cd, z, _⟩ := any_some T.hd
    unfold clsIn at z
    split at z
    · rename_i c1 c2 c3 c4 lk
      intro A' Q' E' s' kp q
      unfold isType loadHead
      exact wpAny_bind (wpAny_loadPart (kp _ _ (X _ _ lk)) (wpAny_pure q))
    · cases z
  ne := fun h tp dd its n sl X lk2 => by
    obtain ⟨cd, z, _⟩ := any_some T.hd
    refine Bool.eq_false_iff.mpr fun q => ?_
    have e : D = tp := Value.ref.inj (beq_iff_eq.mp q)
    subst e
    unfold clsIn at z
    split at z
    · rename_i c1 c2 c3 c4 lk
      have y := (X _ _ lk).symm.trans lk2
      cases y
    · cases z
  ca := fun X ⟨_, _, I⟩ q => class_of T X I q
end
end PySem.ExoX
namespace L2
open PySem PySem.Spec PyProof.Rows
/-- an error of the class at C stands at a, with no dict or with its own -/
def ErrAt (H : Hp) (a C : Addr) : Prop := H a = some (exo a C none) ∨ ∃ dx fs, H a = some (exo a C (some dx)) ∧ H dx = some (exd dx fs)
theorem inst_exo {X : Cx} {pins : List (Addr × Obj)} {σ : St} {H : Hp} {s : Shared} {a C : Addr} (I : Inv X pins σ H s) (e : ErrAt H a C) : ∃ ob own, PySem.W.InstAt s.heap a ob C own := by
  rcases e with e | ⟨dx, fs, e, ed⟩
  · obtain ⟨t, ho⟩ := exo_at I.hok e
    exact ⟨_, none, ho, rfl, rfl, trivial⟩
  · obtain ⟨t, ho⟩ := exo_at I.hok e
    obtain ⟨mA, hns, _⟩ := exd_at I.hok ed
    obtain ⟨o, _, _, ho2, _⟩ := hns
    exact ⟨_, some o, ho, rfl, rfl, ho2⟩
def rIsExo (K : PySem.W.Frag) : List V → Hp → VK → Prop := fun xs H Q => ∃ (a C : Addr) (c : V) (u : Value) (b : Bool), xs = [.ref a, c] ∧ ErrAt H a C ∧ ClsV c u ∧ ExcC K C ∧ PySem.W.kitOne K (.ref C) u = some b ∧ Q (.bl b) H
theorem call_isExo {X : Cx} : CallR X (.builtin "isinstance") (rIsExo X.K) := by
  intro pins s σ H xs us Q I r h
  obtain ⟨a, C, c, u, b, rfl, ea, k, T, e, q⟩ := h
  obtain ⟨u1, u2, rfl, r1, r2⟩ := vals2 r
  cases (show u1 = Value.ref a from r1)
  have e2 := k.eq r2
  subst e2
  exact PySem.W.kia_one (PySem.ExoX.kitExo T) I.kIn (inst_exo I ea) e (fun z => nomatch z) fun tk => ⟨.bl b, H, I.tok tk, rfl, q⟩
/-- e.f of such an error -/
def tExoF (K : PySem.W.Frag) (te : TE) (f : Str) : TE := fun σ H Q => te σ H fun x H1 => ∃ (a C dx : Addr) (fs : List (Str × V)) (v : V), x = .ref a ∧ H1 a = some (exo a C (some dx)) ∧ H1 dx = some (exd dx fs) ∧
  ExcC K C ∧ PySem.W.findIn K (.ref C) f = some none ∧ fs.lookup f = some v ∧ Q v H1
theorem pe_exoF {X : Cx} {e : Expr} {te : TE} {f : Str} {pos : Pos} (he : PE X e te) (hb : attributeBase e f X.env (eval e X.env) = eval e X.env := by rfl) : PE X (.Attribute e f pos) (tExoF X.K te f) := by
  refine ⟨fun pins s σ H Q I h => ?_⟩
  refine attr_of hb (thn (he.run pins s σ H _ I h) fun u s1 ⟨x, H1, I1, rx, a, C, dx, fs, v, ex, ea, ed, T, hno, lf, q⟩ => ?_)
  subst ex
  obtain rfl : u = Value.ref a := rx
  obtain ⟨t, ho⟩ := exo_at I1.hok ea
  obtain ⟨mA, hns, hr⟩ := exd_at I1.hok ed
  obtain ⟨od, ho2, hl⟩ := lookIn_ns hns
  obtain ⟨u, hu, ru⟩ := RelO.some_of (v := v) (o := mA f) (by rw [← lf]; exact hr f)
  have J : PySem.W.InstAt s1.heap a _ C (some od) := ⟨ho, rfl, rfl, ho2⟩
  exact HandSPX.exc_get I1.kIn J T.hg T.hk T.hs (PySem.W.findObj_own T.hd hno rfl (by rw [hl, hu])) (handed_of ru) ⟨v, H1, I1.tok _, ru, q⟩
end L2

set_option maxRecDepth 100000
set_option maxHeartbeats 4000000
/-! Rules whose reading hands on a heap by what is true of it: all that was tracked stands, the new thing is there. -/
namespace L2
open PySem PySem.Spec PyProof.Rows
theorem sameNew {H : Hp} {p : Addr} (n : H p = none) (o : HO) : Same H (upd H p o) := fun b u e => by
  rw [upd_ne (ne_of_none e n)]
  exact e
section
variable {X : Cx} {es : List Expr} {t : TA} {pos : Pos}
/-- a new thing at p -/
def New (H : Hp) (o : HO) (Q : VK) : Prop := ∀ (p : Addr) (H' : Hp), H p = none → Same H H' → H' p = some o → Q (.ref p) H'
theorem New.at {H : Hp} {o : HO} {Q : VK} (h : New H o Q) {p : Addr} (n : H p = none) : Q (.ref p) (upd H p o) := h p _ n (sameNew n o) upd_same
def gLstN (t : TA) : TE := fun σ H Q => t σ H fun xs H1 => xs.length ≤ sizeLine ∧ New H1 (.lst xs) Q
def gTup' (t : TA) : TE := fun σ H Q => t σ H fun xs H1 => xs.length ≤ sizeLine ∧ New H1 (.tup xs) Q
theorem PA.imp {t' : TA} (h : PA X es t) (m : ∀ σ H Q, t' σ H Q → t σ H Q) : PA X es t' := ⟨fun pos pins s σ H Q I q => h.run pos pins s σ H Q I (m σ H Q q)⟩
/-- what is asked behind a list of arguments may be read in a weaker way -/
theorem pe_lstG (h : PA X es t) : PE X (.List es pos) (gLstN t) := by
  have z : PE X (.List es pos) (tLst fun σ H R => ∃ R', t σ H R' ∧ ∀ xs H1, R' xs H1 → R xs H1) := by
    refine pe_lst ⟨fun pos pins s σ H R I ⟨R', h1, h2⟩ => ?_⟩
    refine thn (h.run pos pins s σ H R' I h1) fun us s1 ⟨vs, H1, I1, r, q⟩ => ⟨vs, H1, I1, r, h2 _ _ q⟩
  exact ⟨fun pins s σ H Q I q => z.run pins s σ H Q I ⟨_, q, fun xs H1 ⟨l, k⟩ => ⟨l, fun p n => k.at n⟩⟩⟩
theorem pe_tupG {x1} (h : PA X es t) : PE X (.Tuple es x1 pos) (gTup' t) := by
  have z : PE X (.Tuple es x1 pos) (tTup fun σ H R => ∃ R', t σ H R' ∧ ∀ xs H1, R' xs H1 → R xs H1) := by
    refine pe_tup ⟨fun pos pins s σ H R I ⟨R', h1, h2⟩ => ?_⟩
    refine thn (h.run pos pins s σ H R' I h1) fun us s1 ⟨vs, H1, I1, r, q⟩ => ⟨vs, H1, I1, r, h2 _ _ q⟩
  exact ⟨fun pins s σ H Q I q => z.run pins s σ H Q I ⟨_, q, fun xs H1 ⟨l, k⟩ => ⟨l, fun p n => k.at n⟩⟩⟩
def rCatG : R2 := fun x y H Q => ∃ l b xs zs, x = .ref l ∧ y = .ref b ∧ H l = some (.lst xs) ∧ H b = some (.lst zs) ∧ xs.length + zs.length ≤ sizeLine ∧ New H (.lst (xs ++ zs)) Q
theorem op_catG : OpR X (binaryOp .Add) rCatG := fun pins s σ H x y v u Q I rx ry ⟨l, b, xs, zs, e1, e2, e3, e4, e5, k⟩ => op_cat pins s σ H x y v u Q I rx ry ⟨l, b, xs, zs, e1, e2, e3, e4, e5, fun p n => k.at n⟩
def rSlLG (K : PySem.W.Frag) : V → Option Int → Option Int → Hp → VK → Prop := fun x lo hi H Q => ∃ a xs, x = .ref a ∧ SqL K H a xs ∧ New H (.lst (cutV xs lo hi)) Q
theorem sl_listG : SlR X (rSlLG X.K) := fun pins s σ H x v vl vu lo hi sl Q I rx hs pl pu ⟨a, xs, e, hx, k⟩ => sl_list pins s σ H x v vl vu lo hi sl Q I rx hs pl pu ⟨a, xs, e, hx, fun p n => k.at n⟩
end
theorem pe_imp {X : Cx} {e : Expr} {t t' : TE} (h : PE X e t) (m : ∀ σ H Q, t' σ H Q → t σ H Q) : PE X e t' := ⟨fun pins s σ H Q I q => h.run pins s σ H Q I (m σ H Q q)⟩
theorem Same.err {H H' : Hp} {a C : Addr} (s : Same H H') (e : ErrAt H a C) : ErrAt H' a C := by
  rcases e with e | ⟨dx, fs, e, ed⟩
  · exact .inl (s _ _ e)
  · exact .inr ⟨dx, fs, s _ _ e, s _ _ ed⟩
/-- the field is kept: __init__(self, f) -/
def spInit (C : Addr) (fld : Str) : Sp := fun vs H Q _ => ∃ (a : Addr) (v : V), vs = [.ref a, v] ∧ H a = some (exo a C none) ∧
  ∀ (dx : Addr) (H' : Hp), (∀ b o, b ≠ a → H b = some o → H' b = some o) → H' a = some (exo a C (some dx)) → H' dx = some (exd dx [(fld, v)]) → Q .non H'
/-- a new error with a field -/
def NewE (C : Addr) (fld : Str) (v : V) (H : Hp) (Q : VK) : Prop := ∀ (a dx : Addr) (H' : Hp), H a = none → Same H H' → H' a = some (exo a C (some dx)) → H' dx = some (exd dx [(fld, v)]) → Q (.ref a) H'
section
variable {X : Cx} {CX : CXT} {k : Nat} {fI C : Addr} {fd : FuncData} {fld : Str} {E : XK} {x : Str} {p pos : Pos} {e : Expr} {te : TE} {nm : Option Str} {kpos : Pos}
theorem bind1 {K : PySem.W.Frag} {n : Str} (h : ∀ (a b : Value), bindArgs fd ⟨[a], [(n, b)]⟩ = pure ([(("self" : Str), a), (n, b)] : List (Str × Value))) : KBn K fd ["self", n] (0 + 1) [n] (fun us ws => us ++ ws) (fun vs zs => vs ++ zs) where
  to := fun s us ws _ l1 l2 => match us, ws, l1, l2 with
    | [a], [b], _, _ => .of_eq (h a b)
  rel := fun r rz => r.append rz
theorem bind2 {K : PySem.W.Frag} {n : Str} (h : ∀ (a b : Value), bindArgs fd ⟨[a, b], []⟩ = pure ([(("self" : Str), a), (n, b)] : List (Str × Value))) : KBn K fd ["self", n] (1 + 1) [] (fun us ws => us ++ ws) (fun vs zs => vs ++ zs) where
  to := fun s us ws _ l1 l2 => match us, ws, l1, l2 with
    | [a, b], [], _, _ => .of_eq (h a b)
  rel := fun r rz => r.append rz
/-- C(f = e) -/
def gExoK (C : Addr) (fld : Str) (te : TE) : TE := fun σ H Q => te σ H fun v H1 => NewE C fld v H1 Q
theorem exo_end {v : V} {H1 : Hp} {Q : VK} {E : XK} (q : NewE C fld v H1 Q) (a : Addr) (n : H1 a = none) : spInit C fld [.ref a, v] (upd H1 a (exo a C none)) (fun u H3 => u = .non ∧ Q (.ref a) H3) E :=
  ⟨a, v, rfl, upd_same, fun dx H' s e1 e2 => ⟨rfl, q a dx H' n (fun b o hb => s b o (ne_of_none hb n) (by rw [upd_ne (ne_of_none hb n)]; exact hb)) e1 e2⟩⟩
theorem pe_exoKG (T : OexC X.K C) (iC : PySem.W.findIn X.K (.ref C) "__init__" = some (some (.ref fI))) (tI : PySem.W.typeIn X.K (.ref fI) = some (.type "function"))
    (F : FnOk X.prog X.w X.K X.mg X.base CX k fI fd ["self", fld] (spInit C fld)) (hr : Room (k + 1) X.A) (hg : Gl X x) (hm : X.mg x = some (.ref C)) (hb : ∀ (a b : Value), bindArgs fd ⟨[a], [(fld, b)]⟩ = pure ([(("self" : Str), a), (fld, b)] : List (Str × Value))) (hx : Passes CX X E)
    (he : PE X e te) (hall : (backToKw pos (keywordEach [⟨nm, e, kpos⟩] X.env)).all (·.1.isSome) = true := by rfl) (hks : (backToKw pos (keywordEach [⟨nm, e, kpos⟩] X.env)).filterMap (·.1) = [fld] := by rfl)
    (hdb : (x == ("__debug__" : Str)) = false := by decide)
    (hpl : ((backTo pos (starEach [] X.env)).any (·.1) || (backToKw pos (keywordEach [⟨nm, e, kpos⟩] X.env)).any (·.1.isNone)) = false := by rfl) :
    PE X (.Call (.Name x p) [] [⟨nm, e, kpos⟩] pos) (gExoK C fld te) := by
  have z : PE X e (fun σ H R => ∃ R', te σ H R' ∧ ∀ v H1, R' v H1 → R v H1) := ⟨fun pins s σ H R I ⟨R', h1, h2⟩ => thn (he.run pins s σ H R' I h1) fun us s1 ⟨v, H1, I1, r, q⟩ => ⟨v, H1, I1, r, h2 _ _ q⟩⟩
  refine pe_imp (pe_exoK (E := E) T iC tI F hr hg hm (bind1 (K := X.K) hb) hx (pk_cons z pk_nil) hall hks hdb hpl) fun σ H Q q => ?_
  exact ⟨_, q, fun v H1 q1 => ⟨rfl, rfl, fun a n => exo_end q1 a n⟩⟩
theorem pe_exoPG (T : OexC X.K C) (iC : PySem.W.findIn X.K (.ref C) "__init__" = some (some (.ref fI))) (tI : PySem.W.typeIn X.K (.ref fI) = some (.type "function"))
    (F : FnOk X.prog X.w X.K X.mg X.base CX k fI fd ["self", fld] (spInit C fld)) (hr : Room (k + 1) X.A) (hg : Gl X x) (hm : X.mg x = some (.ref C)) (hb : ∀ (a b : Value), bindArgs fd ⟨[a, b], []⟩ = pure ([(("self" : Str), a), (fld, b)] : List (Str × Value))) (hx : Passes CX X E)
    (he : PE X e te) (hdb : (x == ("__debug__" : Str)) = false := by decide) (hs : starEach [e] X.env = (false, eval e X.env) :: starEach [] X.env := by rfl)
    (hpl : (backTo pos (starEach [] X.env)).any (·.1) = false := by rfl) :
    PE X (.Call (.Name x p) [e] [] pos) (gExoK C fld te) := by
  have z : PE X e (fun σ H R => ∃ R', te σ H R' ∧ ∀ v H1, R' v H1 → R v H1) := ⟨fun pins s σ H R I ⟨R', h1, h2⟩ => thn (he.run pins s σ H R' I h1) fun us s1 ⟨v, H1, I1, r, q⟩ => ⟨v, H1, I1, r, h2 _ _ q⟩⟩
  refine pe_imp (pe_exo1 (E := E) T iC tI F hr hg hm (bind2 (K := X.K) hb) hx (by decide) (pa_cons z pa_nil hs) hdb hs hpl) fun σ H Q q => ?_
  exact ⟨_, q, fun v H1 q1 => ⟨rfl, rfl, fun a n => exo_end q1 a n⟩⟩
/-- C(), no __init__ of its own -/
def gExo0 (C : Addr) : TE := fun _ H Q => New0 H C Q where New0 (H : Hp) (C : Addr) (Q : VK) : Prop := ∀ (a : Addr) (H' : Hp), H a = none → Same H H' → H' a = some (exo a C none) → Q (.ref a) H'
theorem pe_exo0G (q : PySem.W.excIn X.K C [.type "ValueError", .type "Exception", .type "BaseException", .type "object"] "ValueError.__new__" = true) (kC : PySem.W.keepIn X.K (.ref C) = true) (hg : Gl X x) (hm : X.mg x = some (.ref C))
    (hdb : (x == ("__debug__" : Str)) = false := by decide) : PE X (.Call (.Name x p) [] [] pos) (gExo0 C) :=
  pe_imp (pe_exo0 q kC hg hm hdb) fun σ H Q k a n => k a _ n (sameNew n _) upd_same
end
end L2

set_option maxRecDepth 100000
set_option maxHeartbeats 4000000
namespace L2
open PySem PySem.Spec PyProof.Rows
/-- over enumerate(a list that stands) -/
theorem for_enumL {K : PySem.W.Frag} {a : Addr} {xs : List V} {g : TG} {tb : TS} {D : Ends} {σ : St} {H : Hp} (Pv : Nat → St → Hp → Prop) (h0 : Pv 0 σ H) (hl : ∀ i σ H, i ≤ xs.length → Pv i σ H → SqL K H a xs)
    (hs : ∀ i x σ H T H', xs[i]? = some x → Pv i σ H → H T = none → Same H H' → H' T = some (.tup [.int (i : Nat), x]) → g (.ref T) σ H' fun σ2 H2 => tb { D with nx := Pv (i + 1), ct := Pv (i + 1), bk := D.nx } σ2 H2)
    (hd : ∀ σ H, Pv xs.length σ H → D.nx σ H) :
    ∃ W : Nat → Nat → St → Hp → Prop, (∃ m, W 0 m σ H) ∧ ∀ i m σ H, W i m σ H →
      ((Ite K a).stop i H ∧ D.nx σ H) ∨ ((Ite K a).go i H ∧ ∃ N : St → Hp → Prop, (∀ σ' H', N σ' H' → ∃ m', m' < m ∧ W (i + 1) m' σ' H') ∧ ∀ x H', (Ite K a).yld i H x H' → g x σ H' fun σ2 H2 => tb { D with nx := N, ct := N, bk := D.nx } σ2 H2) := by
  refine ⟨fun i m σ H => m = xs.length - i ∧ i ≤ xs.length ∧ Pv i σ H, ⟨xs.length, by simp, Nat.zero_le _, h0⟩, ?_⟩
  rintro i m σ H ⟨rfl, hi, p⟩
  have q := hl i σ H hi p
  by_cases hlt : i < xs.length
  · refine .inr ⟨⟨xs, xs[i], q, by simp [hlt]⟩, Pv (i + 1), fun σ' H' p' => ⟨xs.length - (i + 1), by omega, rfl, hlt, p'⟩, fun v H' y => ?_⟩
    obtain ⟨T, x, e, n, e2, y⟩ := y
    subst e e2
    exact hs i x σ H T _ (y xs q) p n (sameNew n _) upd_same
  · have e : i = xs.length := by omega
    subst e
    exact .inl ⟨⟨xs, q, Nat.le_refl _⟩, hd σ H p⟩
/-! lists of truth values as data -/
theorem bools_lay : ∀ bs : List Bool, PyData.canLayAll0 (bs.map PyData.bool) = true
  | [] => rfl
  | b :: bs => by
    show (PyData.canLay0 (.bool b) && PyData.canLayAll0 (bs.map PyData.bool)) = true
    rw [bools_lay bs]
    rfl
theorem bools_flat : ∀ bs : List Bool, PyData.depthAll (bs.map PyData.bool) = 0
  | [] => rfl
  | b :: bs => by
    show max (PyData.depth (.bool b)) (PyData.depthAll (bs.map PyData.bool)) = 0
    rw [bools_flat bs]
    rfl
theorem bools_shaped (bs : List Bool) : SeqAt.shaped (.list (bs.map PyData.bool)) = true := by
  have h1 : PyData.canLay0 (.list (bs.map PyData.bool)) = true := bools_lay bs
  have h2 : PyData.depth (.list (bs.map PyData.bool)) = 1 := by
    show PyData.depthAll (bs.map PyData.bool) + 1 = 1
    rw [bools_flat bs]
  unfold SeqAt.shaped
  rw [h1, h2]
  rfl
theorem bools_all {K : PySem.W.Frag} {H : Hp} : ∀ bs : List Bool, DpAll K H (bs.map V.bl) (bs.map PyData.bool)
  | [] => .nil
  | b :: bs => .cons (.bl b) (bools_all bs)
theorem bools_dp {K : PySem.W.Frag} {H : Hp} {p : Addr} {bs : List Bool} (h : H p = some (.lst (bs.map V.bl))) : Dp K H (.ref p) (.list (bs.map PyData.bool)) := .lst (SqL.of h) (bools_all bs)
theorem bools_same (bs : List Bool) : PyData.eqv (.list (bs.map PyData.bool)) (.list (bs.map PyData.bool)) = true := SeqAt.eqv_refl _ (bools_lay bs)
/-- a display of one entry, text to value -/
def gDict1 (k : Str) (te : TE) : TE := fun σ H Q => ∀ p : Addr, H p = none → te σ (upd H p (.dK [])) fun v H2 => H2 p = some (.dK []) ∧ Q (.ref p) (upd H2 p (.dK [(.inr k, v)]))
theorem pe_disp1 {X : Cx} {pos p1 : Pos} {v : Expr} {k : Str} {j : Nat} {te : TE} (hv : PE X v te) : PE X (.Dict [some (.Constant (.str k) j p1)] [v] pos) (gDict1 k te) := by
  have z : PE X v (fun σ H R => ∃ R', te σ H R' ∧ ∀ v H1, R' v H1 → R v H1) := ⟨fun pins s σ H R I ⟨R', h1, h2⟩ => thn (hv.run pins s σ H R' I h1) fun us s1 ⟨v, H1, I1, r, q⟩ => ⟨v, H1, I1, r, h2 _ _ q⟩⟩
  refine pe_imp (pe_disp (pps_cons pe_str z pps_nil) rfl rfl (fun z => by cases z) (by show 1 ≤ 15; decide)) fun σ H Q q p n => ?_
  exact ⟨_, q p n, fun u H2 ⟨e, k2⟩ => ⟨e, [(.inr k, u)], rfl, by show 1 ≤ 15; decide, k2⟩⟩
/-- the cut and what is put behind it -/
theorem ints_cut {ns : List Int} {lo hi : Option Int} {i : Nat} {y : V} (h : (cutV (ns.map V.int) lo hi ++ [.int 0])[i]? = some y) : ∃ c : Int, y = .int c := by
  have m := List.mem_of_getElem? h
  rcases List.mem_append.mp m with m | m
  · unfold cutV at m
    have m2 := List.mem_of_mem_drop (List.mem_of_mem_take m)
    obtain ⟨c, _, e⟩ := List.mem_map.mp m2
    exact ⟨c, e.symm⟩
  · exact ⟨0, by simpa using m⟩
theorem ints_cut_len {ns : List Int} {lo hi : Option Int} (h : ns.length ≤ 63) : (cutV (ns.map V.int) lo hi).length ≤ 63 := by
  have := cutV_length (ns.map V.int) lo hi
  rw [List.length_map] at this
  omega
end L2

set_option maxRecDepth 100000
set_option maxHeartbeats 4000000
/-! Defs that are run where nothing is being shown (repr of containers asks for it): the same promise, at such places alone. -/
namespace L2
open PySem PySem.Spec PyProof.Rows
def Bare (A : Around) : Prop := A.guards = some []
theorem Bare.deeper {A : Around} (h : Bare A) (env : Env) : Bare (A.deeper env) := h
structure FnG (P : Program) (w : World) (K : PySem.W.Frag) (mg : Str → Option Value) (base : Heap) (CX : CXT) (k : Nat) (f : Addr) (fd : FuncData) (ps : List Str) (sp : Sp) : Prop where
  len : ∀ vs H Q E, sp vs H Q E → vs.length = ps.length
  run : ∀ (A : Around) (outer : List Env) (s : Shared) (H : Hp) (args : Args) (us : List Value) (vs : List V) (Q : VK) (E : XK), Bare A → Room k A → Env0 P w K mg base A outer s H → BindsTo s fd args (ps.zip us) → Vals vs us → sp vs H Q E →
    codeAny (model P w) A (.call (.ref f) args) (CR CX outer P w H s Q E) s
theorem FnOk.toG {P : Program} {w : World} {K : PySem.W.Frag} {mg : Str → Option Value} {base : Heap} {CX : CXT} {k : Nat} {f : Addr} {fd : FuncData} {ps : List Str} {sp : Sp} (F : FnOk P w K mg base CX k f fd ps sp) : FnG P w K mg base CX k f fd ps sp :=
  ⟨F.len, fun A outer s H args us vs Q E _ => F.run A outer s H args us vs Q E⟩
section
variable {P : Program} {w : World} {K : PySem.W.Frag} {mg : Str → Option Value} {base : Heap} {CX : CXT} {k : Nat} {f : Addr} {x qual : Str} {st : Stmt} {fd : FuncData} {N ps : List Str} {sp : Sp}
/-- a def by its body, at places where nothing is being shown -/
theorem Fun.okGX (F : Fun K x qual st f fd) (S : FnScope N ps (defScope st)) (len : ∀ vs H Q E, sp vs H Q E → vs.length = ps.length)
    (hbody : ∀ (cdv : Value) (A : Around) (outer : List Env) (s : Shared) (H : Hp) (vs : List V) (Q : VK) (E : XK), Bare A → Room k (A.deeper (envOfC qual (defScope st) s.heap.objs.size f cdv)) → sp vs H Q E →
      ∃ t, PSs (cxOf CX P w K mg base N qual (defScope st) f cdv A outer s H E) (defBody st) t ∧ t { nx := fun _ H' => Q .non H', rt := Q } (start N vs) H) : FnG P w K mg base CX (k + 1) f fd ps sp := by
  obtain ⟨oc, od, kV, doc, pm, an, cdv, ct, osl, rfl, lk, hcd⟩ := F.ex
  refine ⟨len, fun A outer s H args us vs Q E bare hr e0 hb r hsp => ?_⟩
  have same : ∀ b o, base.get? b = some o → s.heap.get? b = some o := fun b o e => (e0.bs b o e).1
  have KX : K.In s.heap := e0.mod.kin.keeps same
  have hkind : ∀ y ∈ ps.zip us, (defScope st).names.lookup y.1 = some .local ∨ ((defScope st).names.lookup y.1 = some .cell ∧ ((cellsFrom (s.heap.objs.size + 1) (defScope st).names []).lookup y.1).isSome = true) := by
    rintro ⟨n, v⟩ hy
    rcases S.par n (List.of_mem_zip hy).1 with q | q
    · exact .inl q
    · exact .inr ⟨q, PySem.W.cellsFrom_some _ _ _ (.inl q)⟩
  refine codeAny_call_function hr.depth (KX _ _ lk) rfl S.co S.gen rfl (PySem.W.codeRec_of KX hcd) (hb _ _ _ _ ?_)
  refine wpAny_newFunctionEnv_cells S.kind hkind fun env he s1 ic => ?_
  subst he
  refine ⟨(e0.mod.nolimit.keeps same).keeps ic.toInCall.keep, codeAny_func ?_⟩
  obtain ⟨t, ht, hq⟩ := hbody cdv A outer s H vs Q E bare (hr.deeper _) hsp
  have I := inv_start (CX := CX) (E := E) S hr.hd e0 (len _ _ _ _ hsp) r ic
  refine wpAny_mono (ht.run [] s1 (start N vs) H _ I hq) (fun fl s' hs => ?_) fun e s' hs => hs
  cases fl with
  | ret u =>
    obtain ⟨v, σ', H', J, rv, q⟩ := hs
    exact ⟨v, H', J.os, J.bare, J.base, J.hok, rv, q⟩
  | next =>
    obtain ⟨σ', H', J, q⟩ := hs
    exact ⟨V.non, H', J.os, J.bare, J.base, J.hok, rfl, q⟩
  | brk =>
    obtain ⟨_, _, _, q⟩ := hs
    exact False.elim q
  | cont =>
    obtain ⟨_, _, _, q⟩ := hs
    exact False.elim q
/-- the same for a def that lets nothing out -/
theorem Fun.okG (F : Fun K x qual st f fd) (S : FnScope N ps (defScope st)) (len : ∀ vs H Q E, sp vs H Q E → vs.length = ps.length)
    (hbody : ∀ (cdv : Value) (A : Around) (outer : List Env) (s : Shared) (H : Hp) (vs : List V) (Q : VK) (E : XK), Bare A → Room k (A.deeper (envOfC qual (defScope st) s.heap.objs.size f cdv)) → sp vs H Q E →
      ∃ t, PSs (cxOf CX0 P w K mg base N qual (defScope st) f cdv A outer s H E).nox (defBody st) t ∧ t { nx := fun _ H' => Q .non H', rt := Q } (start N vs) H) : FnG P w K mg base CX0 (k + 1) f fd ps sp :=
  F.okGX S len fun cdv A outer s H vs Q E hA hr h => by
    obtain ⟨t, h1, h2⟩ := hbody cdv A outer s H vs Q E hA hr h
    exact ⟨t, h1.nox, h2⟩
end
section
variable {X : Cx} {CX : CXT} {k : Nat} {f : Addr} {fd : FuncData} {ps : List Str} {sp : Sp} {dvs : List V} {ds : List Value} {E : XK} {x : Str} {p pos : Pos} {e : Expr} {es : List Expr} {t : TA}
theorem run_fnG {pins : List (Addr × Obj)} {σ : St} {H : Hp} {s : Shared} {Q : VK} {us : List Value} {vs : List V} (F : FnG X.prog X.w X.K X.mg X.base CX k f fd ps sp) (hA : Bare X.A) (hr : Room k X.A) (hb : Binds X.K fd ps ds) (hd : Vals dvs ds) (hx : Passes CX X E)
    (I : Inv X pins σ H s) (r : Vals vs us) (h : sp (vs ++ dvs) H Q E) : wpAny (model X.prog X.w) X.A (call (.ref f) us) (EP X pins σ Q) X.xe s := by
  have r2 : Vals (vs ++ dvs) (us ++ ds) := r.append hd
  have hl : (us ++ ds).length = ps.length := by
    rw [← r2.length]
    exact F.len _ _ _ _ h
  refine wpAny_call (codeAny_mono (F.run X.A X.stack s H ⟨us, []⟩ (us ++ ds) (vs ++ dvs) Q E hA hr I.env0 (hb s us I.kIn hl) r2 h) fun r s' hq => ?_)
  cases r with
  | error er => exact hx pins σ H s er s' I hq
  | ok fl =>
    cases fl with
    | ret u => exact I.after hq
    | next => exact False.elim hq
    | brk => exact False.elim hq
    | cont => exact False.elim hq
theorem pe_callG (F : FnG X.prog X.w X.K X.mg X.base CX k f fd ps sp) (hA : Bare X.A) (hr : Room k X.A) (hg : Gl X x) (hm : X.mg x = some (.ref f)) (hk : PySem.W.keepIn X.K (.ref f) = true) (hb : Binds X.K fd ps ds) (hd : Vals dvs ds) (hx : Passes CX X E)
    (ha : PA X (e :: es) t) (hdb : (x == ("__debug__" : Str)) = false := by decide) (he : starEach (e :: es) X.env = (false, eval e X.env) :: starEach es X.env := by rfl) (hpl : (backTo pos (starEach es X.env)).any (·.1) = false := by rfl) :
    PE X (.Call (.Name x p) (e :: es) [] pos) (tCall sp dvs E t) := by
  refine ⟨fun pins s σ H Q I h => ?_⟩
  refine wpAny_Call_Name_kw (ld_glob I hg hm ?_ hdb)
  exact PySem.W.callWith_K (h₀ := X.base) I.ok.mod.kin hk (thn (ha.run pos pins s σ H _ I h) fun us s1 ⟨vs, H1, I1, r, q⟩ => ⟨I1.kIn, run_fnG F hA hr hb hd hx I1 r q⟩) he hpl
end
/-! ### what repr says -/
def keyD : Key → PyData
  | .inl i => .int i
  | .inr x => .str x
/-- x, shown as d: data without dicts, or a dict of ints -/
def Shw (K : PySem.W.Frag) (H : Hp) (x : V) (d : PyData) : Prop :=
  (Dp K H x d ∧ d.hasDict = false) ∨ ∃ (a : Addr) (kvs : List (Key × Int)), x = .ref a ∧ H a = some (.dK (kvs.map fun kv => (kv.1, V.int kv.2))) ∧ d = .dict (kvs.map fun kv => (keyD kv.1, .int kv.2))
theorem reads_dict {P : Program} {w : World} {h : Heap} : ∀ {es : List DictEntry} {vs : List (Key × Value)} {kvs : List (Key × Int)}, Pairs (mixKind P w) es vs → KV (kvs.map fun kv => (kv.1, V.int kv.2)) vs →
    ReadsAll h (es.map (·.key)) ((kvs.map fun kv => (keyD kv.1, PyData.int kv.2)).map (·.1)) [] ∧ ReadsAll h (es.map (·.val)) ((kvs.map fun kv => (keyD kv.1, PyData.int kv.2)).map (·.2)) []
  | [], vs, [], _, _ => ⟨.nil, .nil⟩
  | [], vs, k :: kvs, p, r => by
    cases p
    cases r
  | e :: es, vs, [], p, r => by
    cases r
    cases p
  | e :: es, vs, k :: kvs, p, r => by
    cases r with
    | cons r1 rr =>
      cases p with
      | cons q1 q2 pr =>
        obtain ⟨h1, h2⟩ := reads_dict (h := h) pr rr
        obtain ⟨e1, t, e2⟩ := r1
        refine ⟨ReadsAll.cons (as := []) (bs := []) ?_ h1, ReadsAll.cons (as := []) (bs := []) ?_ h2⟩
        · have z : keyIs k.1 e.key = true := by
            have e1' : k.1 = _ := e1
            rw [e1']
            exact q1
          rcases keyIs_shape z with ⟨i, t', e3, e4⟩ | ⟨y, t', e3, e4⟩
          · show Reads h e.key (keyD k.1) []
            rw [e3, e4]
            exact Reads.int i t'
          · show Reads h e.key (keyD k.1) []
            rw [e3, e4]
            exact Reads.str y t'
        · show Reads h e.val (.int k.2) []
          rw [q2, e2]
          exact Reads.int _ t
theorem shw_reads {X : Cx} {pins : List (Addr × Obj)} {σ : St} {H : Hp} {s : Shared} {x : V} {u : Value} {d : PyData} (I : Inv X pins σ H s) (h : Shw X.K H x d) (r : RelV x u) : ∃ as, Reads s.heap u d as ∧ (d.hasDict = true → sysModules ∉ as) := by
  rcases h with ⟨h, nd⟩ | ⟨a, kvs, rfl, e, rfl⟩
  · obtain ⟨as, q⟩ := Dp.reads I d x u h r
    exact ⟨as, q, fun z => by rw [nd] at z; cases z⟩
  · cases (show u = Value.ref a from r)
    obtain ⟨_, ns, vs, rk, o, es, ep, ho, hx, hd, _, hp, _⟩ := (show ObjOk X.prog X.w H s.heap a (.dK _) from I.hok a _ e)
    obtain ⟨h1, h2⟩ := reads_dict (h := s.heap) hp rk
    refine ⟨_, Reads.dict ho hx.1 hd h1 h2, fun _ m => ?_⟩
    have : sysModules = a := by simpa using m
    rw [this] at ns
    simp at ns
def rRepr (K : PySem.W.Frag) : List V → Hp → VK → Prop := fun xs H Q => ∃ (x : V) (d : PyData), xs = [x] ∧ Shw K H x d ∧ d.showable = true ∧ d.depth ≤ 60 ∧ d.shown.length ≤ sizeLine ∧ Q (.str d.shown) H
theorem call_repr {X : Cx} (hA : Bare X.A) (hu : X.A.units + 64 < cLine) : CallR X (.builtin "repr") (rRepr X.K) := by
  intro pins s σ H xs us Q I r h
  obtain ⟨x, d, rfl, hs, sh, dp, sz, q⟩ := h
  obtain ⟨u, rfl, rx⟩ := vals1 r
  obtain ⟨as, rd, nsys⟩ := shw_reads I hs rx
  cases rd with
  | none => exact PySem.P.repr_of_none ⟨.str "None", H, I.tok _, ⟨_, rfl⟩, q⟩
  | bool b => exact PySem.P.repr_of_bool ⟨.str (if b then "True" else "False"), H, I.tok _, ⟨_, rfl⟩, q⟩
  | int i t => exact PySem.P.repr_of_int (of_decide_eq_true sh) ⟨.str (toString i), H, I.tok _, ⟨_, rfl⟩, q⟩
  | str y t => exact PySem.P.repr_of_str ⟨.str (reprText y), H, I.tok _, ⟨_, rfl⟩, q⟩ sz
  | list h1 h2 h3 h4 =>
    exact repr_of_reads' (Reads.list h1 h2 h3 h4) sh nsys hA (by omega) (fun b o e => e) (fun h' u tk k => ⟨.str _, H, I.kept (t' := tk) k, ⟨_, rfl⟩, q⟩) sz
  | tuple h1 h2 h3 h4 =>
    exact repr_of_reads' (Reads.tuple h1 h2 h3 h4) sh nsys hA (by omega) (fun b o e => e) (fun h' u tk k => ⟨.str _, H, I.kept (t' := tk) k, ⟨_, rfl⟩, q⟩) sz
  | dict h1 h2 h3 h4 h5 =>
    exact repr_of_reads' (Reads.dict h1 h2 h3 h4 h5) sh nsys hA (by omega) (fun b o e => e) (fun h' u tk k => ⟨.str _, H, I.kept (t' := tk) k, ⟨_, rfl⟩, q⟩) sz
end L2

set_option maxRecDepth 100000
set_option maxHeartbeats 4000000
/-! The end of a law row for a promise that holds where nothing is being shown: the claim's caller shows nothing. -/
namespace L2
open PySem PySem.Spec PyProof.Rows
section
variable {P : Program} {w : World} {K : PySem.W.Frag} {mg mb : Str → Option Value} {CX : CXT} {k : Nat} {fa sc : Addr} {fd : FuncData} {x : Str} {sp : Sp} {st : Shared} {its : List Value} {ns : List Int}
/-- from an abstract heap in which at most the script is tracked -/
theorem callG_at (KX : K.In st.heap) (gN : st.heap.Ns mainGlobals mg) (bN : st.heap.Ns builtinsNs mb) (bb : ∀ x : Str, x ≠ "__name__" → mb x = bootBuiltins x) (nl : st.heap.NoLimit) (gz : st.gens = #[])
    (hs : st.heap.get? sc = some { cls := .type "list", data := .seq its.toArray }) (hr : Room k callerA)
    (F : ∀ base : Heap, K.In base → base.Ns mainGlobals mg → FnG P w K mg base CX k fa fd [x] sp) (hb : ∀ (s : Shared) (u : Value), BindsTo s fd ⟨[u], []⟩ [(x, u)])
    (noX : ∀ H e s', CX [] H st (fun _ _ _ => False) e s' → False) (H : Hp) (hO : Only H) (hsp : sp [.ref sc] H (fun v _ => v = .bl true) fun _ _ _ => False)
    (ok : HOk P w H st.heap) (one : ∀ b, H b ≠ none → b = sc) (hK : H sc ≠ none → K.lookup sc = none) :
    codeAny (model P w) callerA (.call (.ref fa) ⟨[.ref sc], []⟩) (fun r s' => r = .ok (.ret (.bool true)) ∧ OldK st.heap s'.heap ∧ s'.os = st.os ∧ AllBare s'.gens) st := by
  have low : ∀ {b : Addr} {o : Obj}, st.heap.get? b = some o → H b = none → (hidT st.heap H).get? b = some o := fun e n => hidT_get e n
  have isSc : ∀ {b : Addr}, (∃ u, H b = some u) → b = sc := fun {b} ⟨u, q⟩ => one b (by rw [q]; simp)
  have free : ∀ {b : Addr}, b ≠ sc → H b = none := fun {b} ne => by
    cases q : H b with
    | none => rfl
    | some u => exact absurd (isSc ⟨u, q⟩) ne
  have notDict : ∀ {b : Addr} {o : Obj} {es : Array DictEntry} {ep : Nat}, st.heap.get? b = some o → o.data = .dict es ep → H b = none := fun {b o es ep} e d => by
    refine free fun z => ?_
    rw [z, hs] at e
    have e2 := Option.some.inj e
    subst e2
    have d2 : Data.seq its.toArray _ = Data.dict es ep := d
    cases d2
  have nsLow : ∀ {b : Addr} {m : Str → Option Value}, st.heap.Ns b m → (hidT st.heap H).Ns b m := fun {b m} z => by
    obtain ⟨o, es, ep, e, d, r⟩ := z
    exact ⟨o, es, ep, low e (notDict e d), d, r⟩
  have KL : K.In (hidT st.heap H) := fun b o e => low (KX b o e) (by
    cases q : H b with
    | none => rfl
    | some u =>
      have z := isSc ⟨u, q⟩
      subst z
      rw [hK (by rw [q]; simp)] at e
      cases e)
  obtain ⟨mc, l1, l2⟩ := nl
  have M : Mod K mg (hidT st.heap H) := ⟨KL, nsLow gN, ⟨mb, nsLow bN, bb⟩, ⟨mc, nsLow l1, l2⟩⟩
  have e0 : Env0 P w K mg (hidT st.heap H) callerA [] st H := ⟨rfl, M, fun b o e => of_hidT e, Nat.le_of_eq (hidT_size _ _), trivial, fun b hb => absurd (show b ∈ ([] : List Addr) from hb) (by simp), ok, .of_eq gz⟩
  refine codeAny_mono ((F _ KL (nsLow gN)).run callerA [] st H ⟨[.ref sc], []⟩ [.ref sc] [.ref sc] _ _ rfl hr e0 (hb st (.ref sc)) (.cons rfl .nil) hsp) fun r s' h => ?_
  cases r with
  | error e => exact (noX H e s' h).elim
  | ok fl =>
    cases fl with
    | next => exact False.elim h
    | brk => exact False.elim h
    | cont => exact False.elim h
    | ret u =>
      obtain ⟨v, H', os, bare, un, ok', r', q⟩ := h
      have q' : v = .bl true := q
      subst q'
      obtain rfl : u = Value.bool true := r'
      refine ⟨rfl, OldK.of_keep fun b o e => ?_, os, bare⟩
      rcases hO b with z | ⟨ob, xs, z⟩
      · exact un.keep b o e z (fun z => absurd (show b ∈ ([] : List Addr) from z) (by simp)) (by simp)
      · obtain ⟨e1, _⟩ := ok b _ z
        obtain ⟨e2, _⟩ := ok' b _ (un.frzs b ob _ z)
        rw [e] at e1
        cases e1
        exact e2
theorem law_callG (KX : K.In st.heap) (gN : st.heap.Ns mainGlobals mg) (bN : st.heap.Ns builtinsNs mb) (bb : ∀ x : Str, x ≠ "__name__" → mb x = bootBuiltins x) (nl : st.heap.NoLimit) (gz : st.gens = #[])
    (hs : st.heap.get? sc = some { cls := .type "list", data := .seq its.toArray }) (hi : IntsAre its ns) (hl : ns.length ≤ sizeLine) (hr : Room k callerA)
    (F : ∀ base : Heap, K.In base → base.Ns mainGlobals mg → FnG P w K mg base CX k fa fd [x] sp) (hb : ∀ (s : Shared) (u : Value), BindsTo s fd ⟨[u], []⟩ [(x, u)])
    (hsp : ∀ H : Hp, Only H → SqL K H sc (ns.map V.int) → sp [.ref sc] H (fun v _ => v = .bl true) fun _ _ _ => False) (noX : ∀ H e s', CX [] H st (fun _ _ _ => False) e s' → False) :
    codeAny (model P w) callerA (.call (.ref fa) ⟨[.ref sc], []⟩) (fun r s' => r = .ok (.ret (.bool true)) ∧ OldK st.heap s'.heap ∧ s'.os = st.os ∧ AllBare s'.gens) st := by
  have rv := vals_ints hi
  cases hk : K.lookup sc with
  | some o =>
    have e := KX sc o hk
    rw [hs] at e
    cases e
    have only : Only (fun _ => none) := fun _ => .inl rfl
    refine callG_at KX gN bN bb nl gz hs hr F hb noX (fun _ => none) only (hsp _ only (.inr ⟨_, its.toArray, _, hk, rfl, rfl, rfl, by rw [List.size_toArray, hi.length]; exact hl, by simpa using rv⟩)) (fun b u z => nomatch z) (fun b z => absurd rfl z) fun z => absurd rfl z
  | none =>
    let H : Hp := fun b => if b = sc then some (.frz { cls := .type "list", data := .seq its.toArray } (.lst (ns.map V.int))) else none
    have at' : H sc = some (.frz { cls := .type "list", data := .seq its.toArray } (.lst (ns.map V.int))) := if_pos rfl
    have off : ∀ {b : Addr}, b ≠ sc → H b = none := fun ne => if_neg ne
    have only : Only H := fun b => by
      by_cases z : b = sc
      · rw [z]
        exact .inr ⟨_, _, at'⟩
      · exact .inl (off z)
    refine callG_at KX gN bN bb nl gz hs hr F hb noX H only (hsp H only (.inl (.inr ⟨_, at'⟩))) (fun b u z => ?_) (fun b z => ?_) fun _ => hk
    · by_cases q : b = sc
      · subst q
        rw [at'] at z
        cases z
        exact ⟨hs, by rw [List.length_map]; exact hl, its, _, rv, hs⟩
      · rw [off q] at z
        cases z
    · by_cases q : b = sc
      · exact q
      · exact absurd (off q) z
end
theorem walk_ofG {l : PySem.W.OpenLaw} {n k : Nat} {q : Program} {loose : List Str} {XP : (Str → Option Value) → Heap → Prop} {YP : World → Heap → Prop} {d : DefRec} {K : Params → PySem.W.Frag} {CX : World → CXT} {sp : World → Sp} {x : Str}
    (hn : l.most = some n) (hn2 : n ≤ sizeLine) (hdf : d.params.defaults = []) (hr : Room k callerA) (hY : ∀ (w : World) (h : Heap), YP w h → (K w.params).In h)
    (F : ∀ (w : World) (mg : Str → Option Value) (fa : Addr) (h : Heap), (K w.params).In h → h.Ns mainGlobals mg → mg d.name = some (.ref fa) →
      ∃ fd : FuncData, (∀ (s : Shared) (u : Value), BindsTo s fd ⟨[u], []⟩ [(x, u)]) ∧ ∀ base : Heap, (K w.params).In base → base.Ns mainGlobals mg → FnG l.prog w (K w.params) mg base (CX w) k fa fd [x] (sp w))
    (hsp : ∀ (w : World) (H : Hp) (a : Addr) (ns : List Int), ns.length ≤ n → Only H → SqL (K w.params) H a (ns.map V.int) → sp w [.ref a] H (fun v _ => v = .bl true) fun _ _ _ => False)
    (hCX : ∀ (w : World) (H : Hp) (s : Shared) (e : Value) (s' : Shared), CX w [] H s (fun _ _ _ => False) e s' → False) :
    PySem.W.WalkO q loose XP YP l.row.toRowW d [] (fun f vs => PySem.call f vs) := by
  refine Att.attach_call hn hdf fun w s₀ s₁ mg mb fa o pm cd doc a vs ns G Y ho hd hcd hmg hobj hints hlen hg => ?_
  have KX := hY w _ Y
  obtain ⟨fd, hb, hF⟩ := F w mg fa _ KX G.T.g hmg
  exact law_callG KX G.T.g G.T.b G.T.builtins G.T.nolimit hg hobj hints (Nat.le_trans hlen hn2) hr hF hb (fun H hO hS => hsp w H a ns hlen hO hS) fun H e s' => hCX w H s₁ e s'
end L2

set_option maxRecDepth 100000
set_option maxHeartbeats 4000000
/-! Things that are shown by repr: what is kept of them in later heaps. -/
namespace L2
open PySem PySem.Spec PyProof.Rows
theorem Same.seqT {K : PySem.W.Frag} {H H' : Hp} {a : Addr} {xs : List V} (s : Same H H') (h : SqT K H a xs) : SqT K H' a xs := by
  rcases h with (h | ⟨o, h⟩) | h
  · exact .inl (.inl (s _ _ h))
  · exact .inl (.inr ⟨o, s _ _ h⟩)
  · exact .inr h
mutual
theorem Dp.same {K : PySem.W.Frag} {H H' : Hp} (s : Same H H') : ∀ (d : PyData) (v : V), Dp K H v d → Dp K H' v d
  | .none, _, h => by
    cases h
    exact .non
  | .bool b, _, h => by
    cases h
    exact .bl b
  | .int i, _, h => by
    cases h
    exact .int i
  | .str x, _, h => by
    cases h
    exact .str x
  | .list ds, _, h => by
    cases h with
    | lst q ha => exact .lst (s.seq q) (DpAll.same s ds _ ha)
  | .tuple ds, _, h => by
    cases h with
    | tup q ha => exact .tup (s.seqT q) (DpAll.same s ds _ ha)
  | .dict _, _, h => by cases h
theorem DpAll.same {K : PySem.W.Frag} {H H' : Hp} (s : Same H H') : ∀ (ds : List PyData) (vs : List V), DpAll K H vs ds → DpAll K H' vs ds
  | [], _, h => by
    cases h
    exact .nil
  | d :: ds, _, h => by
    cases h with
    | cons h1 h2 => exact .cons (Dp.same s d _ h1) (DpAll.same s ds _ h2)
end
theorem Shw.same {K : PySem.W.Frag} {H H' : Hp} {x : V} {d : PyData} (s : Same H H') (h : Shw K H x d) : Shw K H' x d := by
  rcases h with ⟨h, n⟩ | ⟨a, kvs, e1, e2, e3⟩
  · exact .inl ⟨h.same s d x, n⟩
  · exact .inr ⟨a, kvs, e1, s _ _ e2, e3⟩
/-- what is asked of a thing that is shown -/
structure Fine (d : PyData) : Prop where
  sh : d.showable = true
  dp : d.depth ≤ 60
  sz : d.shown.length ≤ sizeLine
  ok : PyData.strOk d.shown = true
def Good (K : PySem.W.Frag) (H : Hp) (v : V) : Prop := ∃ d, Shw K H v d ∧ Fine d
theorem Good.same {K : PySem.W.Frag} {H H' : Hp} {v : V} (s : Same H H') (h : Good K H v) : Good K H' v := by
  obtain ⟨d, a, b⟩ := h
  exact ⟨d, a.same s, b⟩
theorem strOk_of (s : String) : PyData.strOk (Str.ofString s) = true := by
  unfold PyData.strOk
  rw [Str.ofString_eq_toList]
  simp only [List.all_toArray, List.all_map, List.all_eq_true, Function.comp, decide_eq_true_eq]
  intro c _
  have := c.valid
  show c.toNat < 0x110000
  have z : c.val.toNat < 0x110000 := by
    rcases this with h | ⟨_, h⟩
    · have h' : c.val.toNat < 0xd800 := h
      omega
    · exact h
  exact z
theorem fine_int {n : Int} (h0 : 0 ≤ n) (h : n < 10 ^ 30) : Fine (.int n) := by
  have l : n.natAbs < 2 ^ 100 := by
    have : (n.natAbs : Int) = n := by omega
    have h2 : (n.natAbs : Int) < 10 ^ 30 := by omega
    have h3 : n.natAbs < 10 ^ 30 := by exact_mod_cast h2
    exact Nat.lt_trans h3 (by decide)
  have l2 : n.natAbs.log2 < 1920 := Nat.lt_trans (PySem.Flt.log2_lt_of (by decide) l) (by decide)
  exact ⟨decide_eq_true l2, Nat.zero_le _, int_text_fits l2, strOk_of _⟩
/-! lists of texts as data -/
theorem strs_lay : ∀ ts : List Str, (∀ t ∈ ts, PyData.strOk t = true) → PyData.canLayAll0 (ts.map PyData.str) = true
  | [], _ => rfl
  | t :: ts, h => by
    show (PyData.strOk t && PyData.canLayAll0 (ts.map PyData.str)) = true
    rw [strs_lay ts fun u m => h u (List.mem_cons_of_mem _ m), h t List.mem_cons_self]
    rfl
theorem strs_flat : ∀ ts : List Str, PyData.depthAll (ts.map PyData.str) = 0
  | [] => rfl
  | t :: ts => by
    show max (PyData.depth (.str t)) (PyData.depthAll (ts.map PyData.str)) = 0
    rw [strs_flat ts]
    rfl
theorem strs_shaped (ts : List Str) (h : ∀ t ∈ ts, PyData.strOk t = true) : SeqAt.shaped (.list (ts.map PyData.str)) = true := by
  have h1 : PyData.canLay0 (.list (ts.map PyData.str)) = true := strs_lay ts h
  have h2 : PyData.depth (.list (ts.map PyData.str)) = 1 := by
    show PyData.depthAll (ts.map PyData.str) + 1 = 1
    rw [strs_flat ts]
  unfold SeqAt.shaped
  rw [h1, h2]
  rfl
theorem strs_all {K : PySem.W.Frag} {H : Hp} : ∀ ts : List Str, DpAll K H (ts.map V.str) (ts.map PyData.str)
  | [] => .nil
  | t :: ts => .cons (.str t) (strs_all ts)
theorem strs_dp {K : PySem.W.Frag} {H : Hp} {p : Addr} {ts : List Str} (h : H p = some (.lst (ts.map V.str))) : Dp K H (.ref p) (.list (ts.map PyData.str)) := .lst (SqL.of h) (strs_all ts)
theorem strs_same (ts : List Str) (h : ∀ t ∈ ts, PyData.strOk t = true) : PyData.eqv (.list (ts.map PyData.str)) (.list (ts.map PyData.str)) = true := SeqAt.eqv_refl _ (strs_lay ts h)
def rRepG : R2 := fun x y H Q => ∃ l k xs, x = .ref l ∧ y = .int k ∧ H l = some (.lst xs) ∧ -(2 ^ 63) ≤ k ∧ k < 2 ^ 63 ∧ xs.length * k.toNat ≤ sizeLine ∧ New H (.lst (List.replicate k.toNat xs).flatten) Q
theorem op_repG {X : Cx} : OpR X (binaryOp .Mult) rRepG := fun pins s σ H x y v u Q I rx ry ⟨l, k, xs, e1, e2, e3, e4, e5, e6, q⟩ => op_rep pins s σ H x y v u Q I rx ry ⟨l, k, xs, e1, e2, e3, e4, e5, e6, fun p n => q.at n⟩
end L2

set_option maxRecDepth 100000
set_option maxHeartbeats 4000000
/-! for .. in enumerate(a tuple), as the hand layer has it for a list -/
namespace PySem
open Sem (wp)
open AutoSeq1 (wpAny_loadPart')
theorem my_enumerate_newT (l : Addr) (items : Array Value) (n : Nat) (dct : Option Addr) (sl : Array (Option Value)) :
    Meets (Builtin.«enumerate.__new__» ⟨[.type "enumerate", .ref l], []⟩) (fun _ R s => s.heap.get? l = some { cls := .type "tuple", dict := dct, data := .seq items n, slots := sl } ∧
      R (.ok (.ret (.ref (s.heap.push { cls := .type "tuple_iterator", data := .fields #[.ref l, .int 0 0] }).objs.size)))
        { s with heap := (s.heap.push { cls := .type "tuple_iterator", data := .fields #[.ref l, .int 0 0] }).push { cls := .type "enumerate", data := .fields #[.none, .bool false, .ref s.heap.objs.size, rawInt 0, .none, .none] } }) :=
  .of_wp fun prog w A R s h => by
    obtain ⟨hp, g, d, tk, os⟩ := s; obtain ⟨hl, h⟩ := h
    have hsub := sub_enumerate
    have hL : Heap.IsTuple (Shared.heap ⟨hp, g, d, tk, os⟩) l items := ⟨_, hl, rfl, n, rfl⟩
    wp_walk using wpAny_loadPart' hl
    refine wpAny_stack_any fun st => wpAny_pure ?_
    split
    · rename_i c _ _ _ _ _
      cases (c == Value.type "enumerate")
      · wp_walk using wpAny_loadPart' hl, wpAny_pyIter_tuple hL
        exact ⟨_, rfl, h⟩
      · wp_walk using wpAny_loadPart' hl, wpAny_pyIter_tuple hL
        exact ⟨_, rfl, h⟩
    · wp_walk using wpAny_loadPart' hl, wpAny_pyIter_tuple hL
      exact ⟨_, rfl, h⟩
section
variable {prog : Program} {w : World} {A : Around} {E : Value → Shared → Prop} {s : Shared}
theorem my_enumerate_tuple {l : Addr} {items : Array Value} {Q : Value → Shared → Prop} (hL : s.heap.IsTuple l items)
    (h : ∀ h', IsEnum h' (s.heap.objs.size + 1) s.heap.objs.size 0 .none → h'.IsTupleIter s.heap.objs.size l 0 → h'.objs.size = s.heap.objs.size + 2 →
      (∀ b o, s.heap.get? b = some o → h'.get? b = some o) → Q (.ref (s.heap.objs.size + 1)) { s with heap := h' }) :
    wpAny (model prog w) A (call (.type "enumerate") [.ref l]) Q E s := by
  obtain ⟨⟨c, dct, dt, sl⟩, hl, hc, n, hd⟩ := hL
  replace hc : c = .type "tuple" := hc
  replace hd : dt = .seq items n := hd
  subst hc hd
  refine callType_new F.called_enumerate (by decide) (F.typeCall_enumerate_1 _) (F.newCall_enumerate_1 _) (fun obj => F.args_object_init_2 obj _) F.entry_enumerate_new
    (my_enumerate_newT l items n dct sl) ⟨hl, ?_⟩
  have hz : (s.heap.push { cls := .type "tuple_iterator", data := .fields #[.ref l, .int 0 0] }).objs.size = s.heap.objs.size + 1 := Heap.size_push ..
  show _ ∧ _
  rw [hz]
  have he : IsEnum ((s.heap.push { cls := .type "tuple_iterator", data := .fields #[.ref l, .int 0 0] }).push
      { cls := .type "enumerate", data := .fields #[.none, .bool false, .ref s.heap.objs.size, rawInt 0, .none, .none] }) (s.heap.objs.size + 1) s.heap.objs.size 0 .none := by
    have := Heap.get?_push_size (s.heap.push { cls := .type "tuple_iterator", data := .fields #[.ref l, .int 0 0] })
      (o := { cls := .type "enumerate", data := .fields #[.none, .bool false, .ref s.heap.objs.size, rawInt 0, .none, .none] }) rfl
    rw [hz] at this; exact this
  refine ⟨⟨_, he, rfl⟩, h _ he ⟨_, Heap.get?_push_of_some _ (Heap.get?_push_size _ rfl), rfl, rfl⟩ (by rw [Heap.size_push, hz]) fun b o x => Heap.get?_push_of_some _ (Heap.get?_push_of_some _ x)⟩
end
end PySem
namespace L2
open PySem PySem.Spec PyProof.Rows
/-- the tuple at a, each item in a new pair -/
def IteT (K : PySem.W.Frag) (a : Addr) : It :=
  ⟨fun i H => ∃ (xs : List V) (x : V), SqT K H a xs ∧ xs[i]? = some x, fun i H v H' => ∃ T x, v = .ref T ∧ H T = none ∧ H' = upd H T (.tup [.int (i : Nat), x]) ∧ ∀ xs, SqT K H a xs → xs[i]? = some x, fun i H => ∃ xs : List V, SqT K H a xs ∧ xs.length = i⟩
theorem turn_enumT {P : Program} {w : World} {K : PySem.W.Frag} {elts : List Expr} {kk : Nat} {tpos : Pos} (a e it : Addr) (nae : a ≠ e) (nai : a ≠ it) :
    Turn P w K (.Tuple elts kk tpos) (IteT K a) [e, it] e (fun i h => (∃ old, IsEnum h e it ((i : Nat) : Int) old) ∧ h.IsTupleIter it a i ∧ e ≠ it) where
  mem := by simp
  obj := fun i h st b hb => by
    obtain ⟨⟨old, he⟩, ⟨o, ho, hc, hd⟩, _⟩ := st
    have e' : b = e ∨ b = it := by simpa using hb
    rcases e' with z | z
    · rw [z]; exact ⟨_, he, fun v q => nomatch q⟩
    · rw [z]; exact ⟨o, ho, fun v q => by rw [hd] at q; cases q⟩
  keep := fun i h h' st k => by
    obtain ⟨⟨old, he⟩, ⟨o, ho, r⟩, hne⟩ := st
    exact ⟨⟨old, k e (by simp) _ he⟩, ⟨o, k it (by simp) o ho, r⟩, hne⟩
  item := by
    intro X hP hw hK hc i pins s σ H E I hf st hg
    subst hP hw hK
    obtain ⟨⟨old, he⟩, hit, hne⟩ := st
    obtain ⟨xs, x, hq, hx⟩ := hg
    obtain ⟨its, rv, p, hz⟩ := I.tuple hq
    obtain ⟨u, hu, ru⟩ := rv.get hx
    have hel : e < s.heap.objs.size := Heap.lt_size he
    have hil : it < s.heap.objs.size := by obtain ⟨_, q, _⟩ := hit; exact Heap.lt_size q
    have hi : i < its.toArray.size := by
      have := (List.getElem?_eq_some_iff.mp hu).1
      simpa using this
    refine wpAny_pyNext_enum_itemD (Draws.tuple (prog := X.prog) (w := X.w) (A := X.A.in1) (I.ok.hd hc) it a nai its.toArray) he ⟨hit, show s.heap.IsTuple a its.toArray from p⟩ hi hne (by simp [Ne.symm nae, hne]) fun x2 h' tk hx2 ho hit' hT hsz hk => ?_
    have ex : x2 = u := by
      have e1 : its.toArray[i]? = some u := by simpa using hu
      rw [e1] at hx2
      exact (Option.some.inj hx2).symm
    subst ex
    refine ⟨_, rfl, wpAny_letOwnedTupleGo_enum (s := { s with heap := h', toks := tk + 1 }) ho fun h'' he' sb => ?_⟩
    have hT2 : h''.get? s.heap.objs.size = some { cls := .type "tuple", data := .seq #[.int i tk, x2] } := (sb.2 _ (Nat.ne_of_gt hel)).trans hT
    have new : ObjOk X.prog X.w (upd H s.heap.objs.size (.tup [.int (i : Nat), x])) h'' s.heap.objs.size (.tup [.int (i : Nat), x]) :=
      ⟨by show 2 ≤ sizeLine; decide, [.int i tk, x2], .cons ⟨_, rfl⟩ (.cons ru .nil), ⟨_, hT2, rfl, _, rfl⟩⟩
    have I1 : Inv X pins σ (upd H s.heap.objs.size (.tup [.int (i : Nat), x])) { s with heap := h'', toks := tk + 1 } :=
      I.turnedNew (ch := [e, it]) (fun b ob hb q => (sb.2 b (fun z => hb (by simp [z]))).trans (hk b ob (fun z => hb (by simp [z])) (fun z => hb (by simp [z])) q)) hf (Nat.le_refl _) new
    refine ⟨.ref s.heap.objs.size, _, I1, rfl, ⟨_, x, rfl, I.hok.fresh (Nat.le_refl _), rfl, fun ys hy => by rw [I.tuple_inj hy hq]; exact hx⟩, ⟨⟨x2, ?_⟩, ?_, hne⟩, fun b hb => ?_⟩
    · have e1 : ((i + 1 : Nat) : Int) = (i : Int) + 1 := by omega
      rw [e1]; exact he'
    · obtain ⟨o, ho2, r⟩ := hit'.1
      exact ⟨o, (sb.2 it (Ne.symm hne)).trans ho2, r⟩
    · have hb' : b < s.heap.objs.size := by
        have e' : b = e ∨ b = it := by simpa using hb
        rcases e' with z | z
        · rw [z]; exact hel
        · rw [z]; exact hil
      rw [upd_ne (Nat.ne_of_lt hb')]
      exact (hf b hb).1
  done := by
    intro X hP hw hK hc i pins s σ H E I hf st hg
    subst hP hw hK
    obtain ⟨⟨old, he⟩, hit, hne⟩ := st
    obtain ⟨xs, hq, hx⟩ := hg
    obtain ⟨its, rv, p, hz⟩ := I.tuple hq
    obtain ⟨f0, f1, f2, f3, f4, f5⟩ := hf it (by simp)
    have hl := rv.length
    have ei : i = its.toArray.size := by simp; omega
    subst ei
    exact wpAny_pyNext_enum_endD (Draws.tuple (prog := X.prog) (w := X.w) (A := X.A.in1) (I.ok.hd hc) it a nai its.toArray) he ⟨hit, show s.heap.IsTuple a its.toArray from p⟩ fun h' eb => ⟨rfl, I.turned (t' := s.toks) (fun b o hb q => eb b o hb q) f0 f1 f3 f4 f5⟩
  self := fun A i s Q E st h => let ⟨⟨_, he⟩, _⟩ := st; wpAny_pyIter_enum he h
def iEnumT (K : PySem.W.Frag) (ta : TA) : TI := fun σ H R => ta σ H fun vs H1 => ∃ a xs, vs = [.ref a] ∧ SqT K H1 a xs ∧ R (IteT K a) H1
theorem pi_enumT {X : Cx} {e : Expr} {ta : TA} {p pos tpos : Pos} {elts : List Expr} {kk : Nat} (hg : Gl X "enumerate") (hm : X.mg "enumerate" = none) (ha : PA X [e] ta) (hs : starEach [e] X.env = [(false, eval e X.env)] := by rfl) :
    PI X (.Tuple elts kk tpos) (.Call (.Name "enumerate" p) [e] [] pos) (iEnumT X.K ta) := by
  refine ⟨fun pins s σ H R I h => ?_⟩
  refine Call_ (ld_blt I hg hm boot_enumerate (PyProof.Rows.callWith_type1 (thn (ha.run pos pins s σ H _ I h) fun us s1 ⟨vs, H1, I1, r1, q1⟩ => ?_) hs rfl))
  obtain ⟨a, xs, ex, hq, q⟩ := q1
  subst ex
  cases r1 with
  | cons r rr =>
    cases rr
    cases r
    obtain ⟨its, rv, p', hz⟩ := I1.tuple hq
    have hal : a < s1.heap.objs.size := by obtain ⟨o, ho, _⟩ := p'; exact Heap.lt_size ho
    refine my_enumerate_tuple (show s1.heap.IsTuple a its.toArray from p') fun h' he hit hsz hk => wpAny_pyIter_enum he ?_
    have I2 : Inv X pins σ H1 { s1 with heap := h' } := I1.kept (t' := s1.toks) hk
    refine ⟨s1.heap.objs.size + 1, [s1.heap.objs.size + 1, s1.heap.objs.size], _, _, H1, rfl, I2, turn_enumT a (s1.heap.objs.size + 1) s1.heap.objs.size (Nat.ne_of_lt (Nat.lt_succ_of_lt hal)) (Nat.ne_of_lt hal), ⟨⟨.none, he⟩, hit, Nat.succ_ne_self _⟩, fun b hb => ?_, q⟩
    have e' : b = s1.heap.objs.size + 1 ∨ b = s1.heap.objs.size := by simpa using hb
    have hle : s1.heap.objs.size ≤ b := by
      rcases e' with z | z
      · rw [z]; exact Nat.le_add_right _ _
      · rw [z]; exact Nat.le_refl _
    exact I1.fpOk hle (I1.hok.fresh hle)
/-- over enumerate(a tuple that stands) -/
theorem for_enumT {K : PySem.W.Frag} {a : Addr} {xs : List V} {g : TG} {tb : TS} {D : Ends} {σ : St} {H : Hp} (Pv : Nat → St → Hp → Prop) (h0 : Pv 0 σ H) (hl : ∀ i σ H, i ≤ xs.length → Pv i σ H → SqT K H a xs)
    (hs : ∀ i x σ H T H', xs[i]? = some x → Pv i σ H → H T = none → Same H H' → H' T = some (.tup [.int (i : Nat), x]) → g (.ref T) σ H' fun σ2 H2 => tb { D with nx := Pv (i + 1), ct := Pv (i + 1), bk := D.nx } σ2 H2)
    (hd : ∀ σ H, Pv xs.length σ H → D.nx σ H) :
    ∃ W : Nat → Nat → St → Hp → Prop, (∃ m, W 0 m σ H) ∧ ∀ i m σ H, W i m σ H →
      ((IteT K a).stop i H ∧ D.nx σ H) ∨ ((IteT K a).go i H ∧ ∃ N : St → Hp → Prop, (∀ σ' H', N σ' H' → ∃ m', m' < m ∧ W (i + 1) m' σ' H') ∧ ∀ x H', (IteT K a).yld i H x H' → g x σ H' fun σ2 H2 => tb { D with nx := N, ct := N, bk := D.nx } σ2 H2) := by
  refine ⟨fun i m σ H => m = xs.length - i ∧ i ≤ xs.length ∧ Pv i σ H, ⟨xs.length, by simp, Nat.zero_le _, h0⟩, ?_⟩
  rintro i m σ H ⟨rfl, hi, p⟩
  have q := hl i σ H hi p
  by_cases hlt : i < xs.length
  · refine .inr ⟨⟨xs, xs[i], q, by simp [hlt]⟩, Pv (i + 1), fun σ' H' p' => ⟨xs.length - (i + 1), by omega, rfl, hlt, p'⟩, fun v H' y => ?_⟩
    obtain ⟨T, x, e, n, e2, y⟩ := y
    subst e e2
    exact hs i x σ H T _ (y xs q) p n (sameNew n _) upd_same
  · have e : i = xs.length := by omega
    subst e
    exact .inl ⟨⟨xs, q, rfl⟩, hd σ H p⟩
end L2

set_option maxRecDepth 100000
set_option maxHeartbeats 4000000
namespace Mine
open PySem L2
def top (i : Nat) : Stmt := PySem.Challenge.pw_askfurther_k24_what_are_no_pairs.main.body.getD i (.Pass ⟨0, 0, 0, 0⟩)
abbrev s_is_integer : Stmt := top 15
abbrev s_is_within : Stmt := top 16
abbrev s_is_index : Stmt := top 17
abbrev s_is_row : Stmt := top 18
abbrev s_is_name : Stmt := top 19
abbrev s_is_text_in : Stmt := top 21
/-- the built-in types whose things are passed -/
def bts : List String := ["NoneType", "bool", "int", "str", "float", "list", "tuple", "dict", "bytes", "set"]
def kb (t u : String) : Bool := t == u || (t == "bool" && u == "int")
theorem kit_b : ∀ t ∈ bts, ∀ u ∈ bts, kitB t u = some (kb t u) := by decide +kernel
/-- a thing of a built-in type -/
structure Bt (K : PySem.W.Frag) (H : Hp) (v : V) (t : String) : Prop where
  ty : TyX K H v (.type t)
  m : t ∈ bts
theorem Bt.kit {K : PySem.W.Frag} {H : Hp} {v : V} {t u : String} (b : Bt K H v t) (hu : u ∈ bts) : PySem.W.kitOne K (.type t) (.type u) = some (kb t u) := kit_ty (kit_b t b.m u hu)
theorem Bt.int {K : PySem.W.Frag} {H : Hp} {v : V} {t : String} (b : Bt K H v t) (h : (t == "int") = true) : ∃ i : Int, v = .int i := by
  cases b.ty with
  | base z => cases z <;> first | exact ⟨_, rfl⟩ | (exact absurd h (by decide))
  | _ => exact absurd h (by decide)
theorem Bt.str {K : PySem.W.Frag} {H : Hp} {v : V} {t : String} (b : Bt K H v t) (h : (t == "str") = true) : ∃ x : Str, v = .str x := by
  cases b.ty with
  | base z => cases z <;> first | exact ⟨_, rfl⟩ | (exact absurd h (by decide))
  | _ => exact absurd h (by decide)
theorem Bt.same {K : PySem.W.Frag} {H H' : Hp} {v : V} {t : String} (s : Same H H') (b : Bt K H v t) : Bt K H' v t := by
  refine ⟨?_, b.m⟩
  cases b.ty with
  | base h =>
    cases h with
    | non => exact .base .non
    | bl x => exact .base (.bl x)
    | int i => exact .base (.int i)
    | str x => exact .base (.str x)
    | flt x => exact .base (.flt x)
    | lst e => exact .base (.lst (s _ _ e))
    | frz e => exact .base (.frz (s _ _ e))
    | tup e => exact .base (.tup (s _ _ e))
    | dK e => exact .base (.dK (s _ _ e))
    | dT e => exact .base (.dT (s _ _ e))
  | byt x => exact .byt x
  | set e => exact .set (s _ _ e)
  | kList e c => exact .kList e c
  | kTuple e c => exact .kTuple e c
  | kDict e c => exact .kDict e c
  | fTuple e => exact .fTuple (s _ _ e)
  | fDict e => exact .fDict (s _ _ e)
/-- an integer in bounds; a name; what else is none -/
def inW (v : V) (lo hi : Int) : Bool := match v with
  | .int i => decide (lo ≤ i) && decide (i ≤ hi)
  | _ => false
def lettersS : Str := "abcdefghijklmnopqrstuvwxyz"
def isNm (x : Str) : Bool := decide (1 ≤ x.length) && decide (x.length ≤ 8) && x.cps.toList.all fun c => decide (c ∈ lettersS.cps.toList)
def nameV (v : V) : Bool := match v with
  | .str x => isNm x
  | _ => false
theorem inW_of {K : PySem.W.Frag} {H : Hp} {v : V} {t : String} (b : Bt K H v t) (h : (t == "int") = false) (lo hi : Int) : inW v lo hi = false := by
  cases b.ty with
  | base z => cases z <;> first | rfl | (exact absurd h (by decide))
  | _ => rfl
theorem nameV_of {K : PySem.W.Frag} {H : Hp} {v : V} {t : String} (b : Bt K H v t) (h : (t == "str") = false) : nameV v = false := by
  cases b.ty with
  | base z => cases z <;> first | rfl | (exact absurd h (by decide))
  | _ => rfl
def spInt (K : PySem.W.Frag) : Sp := fun vs H Q _ => ∃ (v : V) (t : String), vs = [v] ∧ Bt K H v t ∧ Q (.bl (t == "int")) H
def spWithin (K : PySem.W.Frag) : Sp := fun vs H Q _ => ∃ (v : V) (t : String) (lo hi : Int), vs = [v, .int lo, .int hi] ∧ Bt K H v t ∧ Q (.bl (inW v lo hi)) H
def spIndex (K : PySem.W.Frag) : Sp := fun vs H Q _ => ∃ (v : V) (t : String) (m : Int), vs = [v, .int m] ∧ Bt K H v t ∧ Q (.bl (inW v 0 (m - 1))) H
def spIsRow (K : PySem.W.Frag) : Sp := fun vs H Q _ => ∃ (v : V) (t : String), vs = [v] ∧ Bt K H v t ∧ ∀ H', Same H H' → Q (.bl (t == "list" || t == "tuple")) H'
def spName (K : PySem.W.Frag) : Sp := fun vs H Q _ => ∃ (v : V) (t : String), vs = [v] ∧ Bt K H v t ∧ (∀ x, v = .str x → x.length ≤ sizeLine) ∧ ∀ H', Same H H' → Q (.bl (nameV v)) H'
/-- a text's place in a dict of texts -/
def hasT (kvs : List (Key × V)) (v : V) : Bool := match v with
  | .str x => (valV kvs (.inr x)).isSome
  | _ => false
def spTextIn (K : PySem.W.Frag) : Sp := fun vs H Q _ => ∃ (v : V) (t : String) (d : Addr) (kvs : List (Key × V)), vs = [v, .ref d] ∧ Bt K H v t ∧ Rd H d (.dK kvs) ∧ Q (.bl (hasT kvs v)) H
structure TxtF (K : PySem.W.Frag) (mg : Str → Option Value) (fII fIW : Addr) : Prop where
  b_isinstance : mg "isinstance" = none
  b_int : mg "int" = none
  b_bool : mg "bool" = none
  b_str : mg "str" = none
  b_list : mg "list" = none
  b_tuple : mg "tuple" = none
  b_dict : mg "dict" = none
  b_len : mg "len" = none
  b_all : mg "all" = none
  c_LETTERS : ∃ t, mg "LETTERS" = some (.str lettersS t)
  c_LONGEST_NAME : ∃ t, mg "LONGEST_NAME" = some (.int 8 t)
  g_is_integer : mg "is_integer" = some (.ref fII)
  k_is_integer : PySem.W.keepIn K (.ref fII) = true
  g_is_within : mg "is_within" = some (.ref fIW)
  k_is_within : PySem.W.keepIn K (.ref fIW) = true
section
variable {P : Program} {w : World} {K : PySem.W.Frag} {mg : Str → Option Value} {base : Heap}
variable {fII fIW : Addr} {fdII fdIW : FuncData}
theorem sc_is_integer : FnScope ["thing"] ["thing"] (defScope s_is_integer) := ⟨rfl, rfl, rfl, by decide +kernel, rfl, by decide +kernel, by decide +kernel⟩
theorem ok_is_integer {f : Addr} {fd : FuncData} (F : Fun K "is_integer" "is_integer" s_is_integer f fd) (T : TxtF K mg fII fIW) : FnOk P w K mg base CX0 1 f fd ["thing"] (spInt K) := by
  refine F.ok sc_is_integer (fun vs H Q E h => ?_) (fun cdv A outer s H vs Q E hr h => ?_)
  · obtain ⟨v, t, rfl, _⟩ := h
    rfl
  · obtain ⟨v, t, rfl, b, k⟩ := h
    refine ⟨_, (pss_one (ps_ret (pe_and (pe_callB call_isi (by rfl) T.b_isinstance (by decide +kernel) (pa_cons (pv 0) (pa_cons (pe_bltn (v := .ty "int") rfl T.b_int (by decide +kernel) rfl) pa_nil))) (pe_one (pe_not (pe_callB call_isi (by rfl) T.b_isinstance (by decide +kernel) (pa_cons (pv 0) (pa_cons (pe_bltn (v := .ty "bool") rfl T.b_bool (by decide +kernel) rfl) pa_nil)))))))), ?_⟩
    refine ⟨_, rfl, v, _, _, _, _, rfl, .ty _, b.ty, b.kit (u := "int") (by decide), _, rfl, ?_⟩
    refine ite2 (fun h1 => ?_) (fun h1 => ?_)
    · refine ⟨_, rfl, v, _, _, _, _, rfl, .ty _, b.ty, b.kit (u := "bool") (by decide), _, rfl, ?_⟩
      have e : (!kb t "bool") = (t == "int") := by
        have := b.m
        revert h1
        simp only [bts, List.mem_cons, List.not_mem_nil, or_false] at this
        rcases this with rfl | rfl | rfl | rfl | rfl | rfl | rfl | rfl | rfl | rfl <;> decide
      rw [e]
      exact k
    · have e : (t == "int") = false := by
        have := b.m
        revert h1
        simp only [bts, List.mem_cons, List.not_mem_nil, or_false] at this
        rcases this with rfl | rfl | rfl | rfl | rfl | rfl | rfl | rfl | rfl | rfl <;> decide
      rw [e] at k
      exact k
theorem sc_is_within : FnScope ["thing", "low", "high"] ["thing", "low", "high"] (defScope s_is_within) := ⟨rfl, rfl, rfl, by decide +kernel, rfl, by decide +kernel, by decide +kernel⟩
theorem ok_is_within {f : Addr} {fd : FuncData} (F : Fun K "is_within" "is_within" s_is_within f fd) (T : TxtF K mg fII fIW) (FI : Fun K "is_integer" "is_integer" s_is_integer fII fdII) (bI : Binds K fdII ["thing"] []) : FnOk P w K mg base CX0 2 f fd ["thing", "low", "high"] (spWithin K) := by
  have GI : FnOk P w K mg base CX0 1 fII fdII ["thing"] (spInt K) := ok_is_integer FI T
  refine F.ok sc_is_within (fun vs H Q E h => ?_) (fun cdv A outer s H vs Q E hr h => ?_)
  · obtain ⟨v, t, lo, hi, rfl, _⟩ := h
    rfl
  · obtain ⟨v, t, lo, hi, rfl, b, k⟩ := h
    refine ⟨_, (pss_one (ps_ret (pe_and (pe_call GI hr (by rfl) T.g_is_integer T.k_is_integer bI .nil pass0 (pa_cons (pv 0) pa_nil)) (pe_one (pe_chain op_le op_le (pv 1) (pv 0) (pv 2)))))), ?_⟩
    refine ⟨_, rfl, v, t, rfl, b, _, rfl, ?_⟩
    refine ite2 (fun h1 => ?_) (fun h1 => ?_)
    · obtain ⟨i, rfl⟩ := b.int h1
      refine ⟨_, rfl, _, rfl, _, _, rfl, rfl, _, rfl, ?_⟩
      refine ite2 (fun h2 => ?_) (fun h2 => ?_)
      · refine ⟨_, rfl, _, _, rfl, rfl, ?_⟩
        have e : inW (.int i) lo hi = decide (i ≤ hi) := by
          show (decide (lo ≤ i) && decide (i ≤ hi)) = _
          rw [h2, Bool.true_and]
        show Q (.bl (decide (i ≤ hi))) H
        rw [← e]
        exact k
      · have e : inW (.int i) lo hi = false := by
          show (decide (lo ≤ i) && decide (i ≤ hi)) = _
          rw [Bool.eq_false_iff.mpr h2, Bool.false_and]
        rw [e] at k
        exact k
    · rw [inW_of b (Bool.eq_false_iff.mpr h1)] at k
      exact k
theorem sc_is_index : FnScope ["thing", "many"] ["thing", "many"] (defScope s_is_index) := ⟨rfl, rfl, rfl, by decide +kernel, rfl, by decide +kernel, by decide +kernel⟩
theorem ok_is_index {f : Addr} {fd : FuncData} (F : Fun K "is_index" "is_index" s_is_index f fd) (T : TxtF K mg fII fIW) (FI : Fun K "is_integer" "is_integer" s_is_integer fII fdII) (bI : Binds K fdII ["thing"] [])
    (FW : Fun K "is_within" "is_within" s_is_within fIW fdIW) (bW : Binds K fdIW ["thing", "low", "high"] []) : FnOk P w K mg base CX0 3 f fd ["thing", "many"] (spIndex K) := by
  have GW : FnOk P w K mg base CX0 2 fIW fdIW ["thing", "low", "high"] (spWithin K) := ok_is_within FW T FI bI
  refine F.ok sc_is_index (fun vs H Q E h => ?_) (fun cdv A outer s H vs Q E hr h => ?_)
  · obtain ⟨v, t, m, rfl, _⟩ := h
    rfl
  · obtain ⟨v, t, m, rfl, b, k⟩ := h
    refine ⟨_, (pss_one (ps_ret (pe_call GW hr (by rfl) T.g_is_within T.k_is_within bW .nil pass0 (pa_cons (pv 0) (pa_cons pe_int (pa_cons (pe_op op_sub (pv 1) pe_int) pa_nil)))))), ?_⟩
    exact ⟨_, rfl, _, rfl, _, _, rfl, rfl, v, t, 0, m - 1, rfl, b, k⟩
theorem sc_is_row : FnScope ["thing"] ["thing"] (defScope s_is_row) := ⟨rfl, rfl, rfl, by decide +kernel, rfl, by decide +kernel, by decide +kernel⟩
theorem ok_is_row {f : Addr} {fd : FuncData} (F : Fun K "is_row" "is_row" s_is_row f fd) (T : TxtF K mg fII fIW) : FnOk P w K mg base CX0 1 f fd ["thing"] (spIsRow K) := by
  refine F.ok sc_is_row (fun vs H Q E h => ?_) (fun cdv A outer s H vs Q E hr h => ?_)
  · obtain ⟨v, t, rfl, _⟩ := h
    rfl
  · obtain ⟨v, t, rfl, b, k⟩ := h
    refine ⟨_, (pss_one (ps_ret (pe_callB call_isiT (by rfl) T.b_isinstance (by decide +kernel) (pa_cons (pv 0) (pa_cons (pe_tupG (pa_cons (pe_bltn (v := .ty "list") rfl T.b_list (by decide +kernel) rfl) (pa_cons (pe_bltn (v := .ty "tuple") rfl T.b_tuple (by decide +kernel) rfl) pa_nil))) pa_nil))))), ?_⟩
    refine ⟨_, rfl, by show 2 ≤ sizeLine; decide, fun p H1 n1 s1 e1 => ?_⟩
    have b1 := b.same s1
    have kk : PySem.W.kitAny K (.type t) [.type "list", .type "tuple"] = some (t == "list" || t == "tuple") := by
      have h1 : kb t "list" = (t == "list") := by simp [kb]
      have h2 : kb t "tuple" = (t == "tuple") := by simp [kb]
      refine kitAny_cons (b1.kit (u := "list") (by decide)) (fun z => ?_) (fun z => ?_)
      · rw [h1] at z
        refine kitAny_cons (b1.kit (u := "tuple") (by decide)) (fun y => ?_) (fun y => ?_)
        · rw [h2] at y
          rw [z, y]
          exact kitAny_nil
        · rw [h2] at y
          rw [y, Bool.or_true]
      · rw [h1] at z
        rw [z, Bool.true_or]
    exact ⟨v, p, _, _, _, _, rfl, e1, .cons (.ty _) (.cons (.ty _) .nil), b1.ty, kk, k _ s1⟩
end
end Mine

set_option maxRecDepth 100000
set_option maxHeartbeats 4000000
namespace Mine
open PySem L2
abbrev s_are_counts : Stmt := top 22
abbrev s_are_operations : Stmt := top 23
abbrev s_word_of : Stmt := top 25
abbrev s_are_nexts : Stmt := top 26
abbrev s_line_of : Stmt := top 61
abbrev s_is_line : Stmt := top 60
structure TxtG (K : PySem.W.Frag) (mg : Str → Option Value) (a_is_row a_is_index a_is_name a_is_text_in a_are_counts a_word_of a_are_nexts a_is_line a_line_of a_are_operations : Addr) : Prop where
  c_MOST_OPERATIONS : ∃ t, mg "MOST_OPERATIONS" = some (.int 8 t)
  c_MOST_ANSWERS : ∃ t, mg "MOST_ANSWERS" = some (.int 6 t)
  g_is_row : mg "is_row" = some (.ref a_is_row)
  k_is_row : PySem.W.keepIn K (.ref a_is_row) = true
  g_is_index : mg "is_index" = some (.ref a_is_index)
  k_is_index : PySem.W.keepIn K (.ref a_is_index) = true
  g_is_name : mg "is_name" = some (.ref a_is_name)
  k_is_name : PySem.W.keepIn K (.ref a_is_name) = true
  g_is_text_in : mg "is_text_in" = some (.ref a_is_text_in)
  k_is_text_in : PySem.W.keepIn K (.ref a_is_text_in) = true
  g_are_counts : mg "are_counts" = some (.ref a_are_counts)
  k_are_counts : PySem.W.keepIn K (.ref a_are_counts) = true
  g_word_of : mg "word_of" = some (.ref a_word_of)
  k_word_of : PySem.W.keepIn K (.ref a_word_of) = true
  g_are_nexts : mg "are_nexts" = some (.ref a_are_nexts)
  k_are_nexts : PySem.W.keepIn K (.ref a_are_nexts) = true
  g_is_line : mg "is_line" = some (.ref a_is_line)
  k_is_line : PySem.W.keepIn K (.ref a_is_line) = true
  g_line_of : mg "line_of" = some (.ref a_line_of)
  k_line_of : PySem.W.keepIn K (.ref a_line_of) = true
  g_are_operations : mg "are_operations" = some (.ref a_are_operations)
  k_are_operations : PySem.W.keepIn K (.ref a_are_operations) = true
theorem globI {X : Cx} {x : Str} {i : Int} {pos : Pos} (hg : Gl X x) (h : ∃ t, X.mg x = some (.int i t)) (hd : (x == ("__debug__" : Str)) = false := by decide) : PE X (.Name x pos) (tC (.int i)) := by
  obtain ⟨t, e⟩ := h
  exact pe_glob hg e ⟨t, rfl⟩ hd
theorem globS {X : Cx} {x y : Str} {pos : Pos} (hg : Gl X x) (h : ∃ t, X.mg x = some (.str y t)) (hd : (x == ("__debug__" : Str)) = false := by decide) : PE X (.Name x pos) (tC (.str y)) := by
  obtain ⟨t, e⟩ := h
  exact pe_glob hg e ⟨t, rfl⟩ hd
/-- the letters of a text are looked at one by one -/
def lets (x : Str) (i : Nat) : List Bool := (x.cps.toList.take i).map fun c => decide (c ∈ lettersS.cps.toList)
theorem lets_succ {x : Str} {i c : Nat} (h : x.cps[i]? = some c) : lets x (i + 1) = lets x i ++ [decide (c ∈ lettersS.cps.toList)] := by
  have h' : x.cps.toList[i]? = some c := by rw [← h]; simp
  unfold lets
  rw [List.take_add_one, h', List.map_append]
  rfl
theorem lets_all (x : Str) : (lets x x.cps.size).all id = x.cps.toList.all fun c => decide (c ∈ lettersS.cps.toList) := by
  unfold lets
  rw [show x.cps.size = x.cps.toList.length by simp, List.take_length, List.all_map]
  rfl
section
variable {P : Program} {w : World} {K : PySem.W.Frag} {mg : Str → Option Value} {base : Heap}
variable {fII fIW : Addr}
theorem sc_is_name : FnScope ["thing", "letter"] ["thing"] (defScope s_is_name) := ⟨rfl, rfl, rfl, by decide +kernel, rfl, by decide +kernel, by decide +kernel⟩
theorem ok_is_name {f : Addr} {fd : FuncData} (F : Fun K "is_name" "is_name" s_is_name f fd) (T : TxtF K mg fII fIW) : FnOk P w K mg base CX0 1 f fd ["thing"] (spName K) := by
  refine F.ok sc_is_name (fun vs H Q E h => ?_) (fun cdv A outer s H vs Q E hr h => ?_)
  · obtain ⟨v, t, rfl, _⟩ := h
    rfl
  · obtain ⟨v, t, rfl, b, sz, k⟩ := h
    refine ⟨_, (pss_cons (ps_if (PW.pt (pw_or (pt_not (pt_val (pe_callB call_isi (by rfl) T.b_isinstance (by decide +kernel) (pa_cons (pv 0) (pa_cons (pe_bltn (v := .ty "str") rfl T.b_str (by decide +kernel) rfl) pa_nil))))) (pw_or1 (pt_not (pt_chain op_le op_le pe_int (pe_callB call_len_str (by rfl) T.b_len PySem.boot_len (pa_cons (pv 0) pa_nil)) (globI rfl T.c_LONGEST_NAME)))))) (pss_one (ps_ret pe_bl)) pss_nil)
      (pss_one (ps_ret (pe_callB (cr_all rfl) (by rfl) T.b_all (by decide +kernel) (pa_cons (pe_lc (own := [("letter", 1)]) (g := gName 1) (tt := tYes) rfl sc_is_name.nd (pi_str (pv 0)) (blkOk_by (own := [("letter", 1)]) (N := ["thing", "letter"]) (sc := defScope s_is_name) (by decide +kernel)) (fun _ _ _ _ _ => pg_name (i := 1) sc_is_name.nd rfl (Or.inl rfl)) (fun _ _ _ _ _ => pts_nil) (fun _ _ _ _ _ => (pe_cmpR op_in_sign (pv 1) (globS rfl T.c_LETTERS) (by rfl)))) pa_nil))))), ?_⟩
    have hk : ∀ t', (kb t' "str") = (t' == "str") := fun t' => by simp [kb]
    refine ⟨_, rfl, v, _, _, _, _, rfl, .ty _, b.ty, b.kit (u := "str") (by decide), _, rfl, ?_⟩
    rw [hk]
    by_cases h1 : (t == "str") = true
    · obtain ⟨x, rfl⟩ := b.str h1
      rw [h1]
      refine iteF ?_
      refine ⟨_, rfl, ?_⟩
      refine ⟨x, rfl, sz x rfl, _, _, rfl, rfl, _, rfl, ?_⟩
      have bad : ¬ (1 ≤ x.length ∧ x.length ≤ 8) → isNm x = false := fun z => by
        unfold isNm
        by_cases y : 1 ≤ x.length
        · rw [decide_eq_true y, decide_eq_false (fun u => z ⟨y, u⟩)]
          rfl
        · rw [decide_eq_false y]
          rfl
      by_cases h2 : 1 ≤ x.length
      · rw [decide_eq_true (show (1 : Int) ≤ (x.length : Int) by omega)]
        refine iteT ?_
        refine ⟨_, _, rfl, rfl, _, rfl, ?_⟩
        by_cases h3 : x.length ≤ 8
        · rw [decide_eq_true (show (x.length : Int) ≤ 8 by omega)]
          refine iteF ?_
          refine ⟨_, rfl, x, rfl, fun D nD => lc_it walk_str (fun i Hx => Same H Hx ∧ Hx D = some (.lst ((lets x i).map V.bl))) ⟨sameNew nD _, upd_same⟩ (fun _ _ _ _ => trivial) (fun i y Ha Hb hi z1 z2 => ?_) fun Hx z => ?_⟩
          · obtain ⟨sx, ex⟩ := z1
            obtain ⟨rfl, c, hc, rfl⟩ := z2
            refine ⟨rfl, _, rfl, c, lettersS, rfl, rfl, _, ex, ?_, fun b o e => ?_, ?_⟩
            · rw [List.length_map]
              show ((x.cps.toList.take i).map _).length < _
              rw [List.length_map, List.length_take, sizeLine_eq]
              have : x.cps.toList.length ≤ 8 := by
                have : x.length = x.cps.toList.length := by simp [Str.length]
                omega
              omega
            · rw [upd_ne (ne_of_none e nD)]
              exact sx _ _ e
            · rw [lets_succ hc, List.map_append]
              exact upd_same
          · obtain ⟨sx, ex⟩ := z
            refine ⟨D, _, rfl, SqL.of ex, ?_⟩
            rw [lets_all]
            have e : nameV (.str x) = x.cps.toList.all fun c => decide (c ∈ lettersS.cps.toList) := by
              show isNm x = _
              unfold isNm
              rw [decide_eq_true h2, decide_eq_true h3, Bool.true_and, Bool.true_and]
            rw [← e]
            exact k _ sx
        · rw [decide_eq_false (show ¬ (x.length : Int) ≤ 8 by omega)]
          refine iteT ?_
          have e : nameV (.str x) = false := bad fun z => h3 z.2
          rw [e] at k
          exact k _ (Same.refl _)
      · rw [decide_eq_false (show ¬ (1 : Int) ≤ (x.length : Int) by omega)]
        refine iteF ?_
        refine ⟨_, rfl, ?_⟩
        refine iteT ?_
        have e : nameV (.str x) = false := bad fun z => h2 z.1
        rw [e] at k
        exact k _ (Same.refl _)
    · rw [Bool.eq_false_iff.mpr h1]
      refine iteT ?_
      have e := nameV_of b (Bool.eq_false_iff.mpr h1)
      rw [e] at k
      exact k _ (Same.refl _)
end
end Mine

set_option maxRecDepth 100000
set_option maxHeartbeats 4000000
namespace L2
open PySem PySem.Spec PyProof.Rows
/-- a list or a tuple -/
def SqA (H : Hp) (a : Addr) (xs : List V) : Prop := H a = some (.lst xs) ∨ H a = some (.tup xs)
theorem Same.sqa {H H' : Hp} {a : Addr} {xs : List V} (s : Same H H') (h : SqA H a xs) : SqA H' a xs := h.elim (fun h => .inl (s _ _ h)) fun h => .inr (s _ _ h)
theorem SqA.ix {K : PySem.W.Frag} {H : Hp} {a : Addr} {xs : List V} {i : Int} {v : V} {Q : VK} (h : SqA H a xs) (e : atI xs i = some v) (q : Q v H) : rIx K (.ref a) (.int i) H Q := by
  rcases h with h | h
  · exact .inl ⟨a, xs, i, v, rfl, rfl, SqL.of h, e, q⟩
  · exact .inr (.inl ⟨a, xs, i, v, rfl, rfl, .inl (.inl h), e, q⟩)
theorem SqA.sq {K : PySem.W.Frag} {H : Hp} {a : Addr} {xs : List V} (h : SqA H a xs) : SqL K H a xs ∨ SqT K H a xs := h.elim (fun h => .inl (SqL.of h)) fun h => .inr (.inl (.inl h))
theorem pi_or {X : Cx} {tg iter : Expr} {w1 w2 : TI} (h1 : PI X tg iter w1) (h2 : PI X tg iter w2) : PI X tg iter (fun σ H R => w1 σ H R ∨ w2 σ H R) :=
  ⟨fun pins s σ H R I h => h.elim (h1.run pins s σ H R I) (h2.run pins s σ H R I)⟩
def iSeq (K : PySem.W.Frag) (tl : TE) : TI := fun σ H R => iList K tl σ H R ∨ iTup K tl σ H R
theorem pi_seq {X : Cx} {tg l : Expr} {tl : TE} (hl : PE X l tl) : PI X tg l (iSeq X.K tl) := pi_or (pi_list hl) (pi_tup hl)
theorem same_unlock {H Hx : Hp} {a : Addr} {u : HO} {od : Obj} (e : H a = some u) (s : Same (upd H a (.frz od u)) Hx) : Same H (upd Hx a u) := fun b o h => by
  by_cases z : b = a
  · subst z
    rw [e] at h
    rw [upd_same, h]
  · rw [upd_ne z]
    exact s b o (by rw [upd_ne z]; exact h)
end L2
namespace Mine
open PySem L2
abbrev Ops := List (Str × Int)
def opsK (o : Ops) : List (Key × V) := o.map fun p => (Sum.inr p.1, V.int p.2)
def opLook (o : Ops) (x : Str) : Option Int := (o.find? fun p => decide (p.1 = x)).map (·.2)
theorem val_ops (o : Ops) (x : Str) : valV (opsK o) (.inr x) = (opLook o x).map V.int := by
  unfold valV opsK opLook
  induction o with
  | nil => rfl
  | cons p o ih =>
    by_cases h : p.1 = x
    · simp [h]
    · have h2 : ¬ (Sum.inr p.1 : Key) = Sum.inr x := fun z => h (Sum.inr.inj z)
      simp only [List.map_cons, List.find?_cons, decide_eq_false h, decide_eq_false h2]
      exact ih
/-- operations that are right -/
structure OkOps (o : Ops) : Prop where
  few : o.length ≤ 8
  each : ∀ p ∈ o, isNm p.1 = true ∧ 0 ≤ p.2 ∧ p.2 ≤ 6
  nd : (o.map (·.1)).Nodup
def spCounts : Sp := fun vs H Q _ => ∃ (a : Addr) (o : Ops) (most lo hi : Int), vs = [.ref a, .int most, .int lo, .int hi] ∧ H a = some (.dK (opsK o)) ∧ (o.length : Int) ≤ most ∧ o.length ≤ 1000 ∧ (∀ p ∈ o, isNm p.1 = true ∧ lo ≤ p.2 ∧ p.2 ≤ hi) ∧ ∀ H', Same H H' → Q (.bl true) H'
def spOps : Sp := fun vs H Q _ => ∃ (a : Addr) (o : Ops), vs = [.ref a] ∧ H a = some (.dK (opsK o)) ∧ OkOps o ∧ ∀ H', Same H H' → Q (.bl true) H'
/-- what a row of a body says -/
inductive RowD where
  | ask (op : Str) (ns : List Int)
  | go (n : Int)
  | fin (w : Str)
/-- the row stands there, in lists or tuples -/
def RowAt (H : Hp) (v : V) : RowD → Prop
  | .ask op ns => ∃ a t, v = .ref a ∧ SqA H a [.str "ask", .str op, .ref t] ∧ SqA H t (ns.map V.int)
  | .go n => ∃ a, v = .ref a ∧ SqA H a [.str "go", .int n]
  | .fin w => ∃ a, v = .ref a ∧ SqA H a [.str "end", .str w]
/-- .. in tuples -/
def TRow (H : Hp) (v : V) : RowD → Prop
  | .ask op ns => ∃ a t, v = .ref a ∧ H a = some (.tup [.str "ask", .str op, .ref t]) ∧ H t = some (.tup (ns.map V.int))
  | .go n => ∃ a, v = .ref a ∧ H a = some (.tup [.str "go", .int n])
  | .fin w => ∃ a, v = .ref a ∧ H a = some (.tup [.str "end", .str w])
theorem RowAt.same {H H' : Hp} {v : V} {r : RowD} (s : Same H H') (h : RowAt H v r) : RowAt H' v r := by
  cases r with
  | ask op ns =>
    obtain ⟨a, t, e, h1, h2⟩ := h
    exact ⟨a, t, e, s.sqa h1, s.sqa h2⟩
  | go n =>
    obtain ⟨a, e, h1⟩ := h
    exact ⟨a, e, s.sqa h1⟩
  | fin w =>
    obtain ⟨a, e, h1⟩ := h
    exact ⟨a, e, s.sqa h1⟩
theorem TRow.same {H H' : Hp} {v : V} {r : RowD} (s : Same H H') (h : TRow H v r) : TRow H' v r := by
  cases r with
  | ask op ns =>
    obtain ⟨a, t, e, h1, h2⟩ := h
    exact ⟨a, t, e, s _ _ h1, s _ _ h2⟩
  | go n =>
    obtain ⟨a, e, h1⟩ := h
    exact ⟨a, e, s _ _ h1⟩
  | fin w =>
    obtain ⟨a, e, h1⟩ := h
    exact ⟨a, e, s _ _ h1⟩
theorem TRow.row {H : Hp} {v : V} {r : RowD} (h : TRow H v r) : RowAt H v r := by
  cases r with
  | ask op ns =>
    obtain ⟨a, t, e, h1, h2⟩ := h
    exact ⟨a, t, e, .inr h1, .inr h2⟩
  | go n =>
    obtain ⟨a, e, h1⟩ := h
    exact ⟨a, e, .inr h1⟩
  | fin w =>
    obtain ⟨a, e, h1⟩ := h
    exact ⟨a, e, .inr h1⟩
/-- the row is one of a body with these operations and so many rows -/
def OkRow (o : Ops) (many : Int) : RowD → Prop
  | .ask op ns => opLook o op = some (ns.length : Int) ∧ ns.length ≤ 1000 ∧ ∀ n ∈ ns, 0 ≤ n ∧ n < many
  | .go n => 0 ≤ n ∧ n < many
  | .fin w => isNm w = true ∧ w.length ≤ 8
def spWord : Sp := fun vs H Q _ => ∃ (a : Addr) (x : Str) (xs : List V), vs = [.ref a] ∧ SqA H a (.str x :: xs) ∧ ∀ H', Same H H' → Q (.str x) H'
def spNexts : Sp := fun vs H Q _ => ∃ (t d : Addr) (ns : List Int) (op : Str) (o : Ops) (many : Int), vs = [.ref t, .str op, .ref d, .int many] ∧ SqA H t (ns.map V.int) ∧ Rd H d (.dK (opsK o)) ∧
  opLook o op = some (ns.length : Int) ∧ ns.length ≤ 1000 ∧ (∀ n ∈ ns, 0 ≤ n ∧ n < many) ∧ ∀ H', Same H H' → Q (.bl true) H'
def spIsLine : Sp := fun vs H Q _ => ∃ (v : V) (d : Addr) (o : Ops) (many : Int) (r : RowD), vs = [v, .ref d, .int many] ∧ RowAt H v r ∧ Rd H d (.dK (opsK o)) ∧ OkRow o many r ∧ ∀ H', Same H H' → Q (.bl true) H'
def spLineOf : Sp := fun vs H Q _ => ∃ (v : V) (r : RowD), vs = [v] ∧ RowAt H v r ∧ ∀ (v' : V) (H' : Hp), Same H H' → TRow H' v' r → Q v' H'
theorem inW_int {i lo hi : Int} (h1 : lo ≤ i) (h2 : i ≤ hi) : inW (.int i) lo hi = true := by
  show (decide (lo ≤ i) && decide (i ≤ hi)) = true
  rw [decide_eq_true h1, decide_eq_true h2]
  rfl
theorem btInt {K : PySem.W.Frag} {H : Hp} (i : Int) : Bt K H (.int i) "int" := ⟨.base (.int i), by decide⟩
theorem btStr {K : PySem.W.Frag} {H : Hp} (x : Str) : Bt K H (.str x) "str" := ⟨.base (.str x), by decide⟩
theorem btSeq {K : PySem.W.Frag} {H : Hp} {a : Addr} {xs : List V} (h : SqA H a xs) : ∃ t, Bt K H (.ref a) t ∧ (t == "list" || t == "tuple") = true := by
  rcases h with h | h
  · exact ⟨"list", ⟨.base (.lst h), by decide⟩, by decide⟩
  · exact ⟨"tuple", ⟨.base (.tup h), by decide⟩, by decide⟩
theorem nm_len {x : Str} (h : isNm x = true) : x.length ≤ 8 := by
  unfold isNm at h
  rw [Bool.and_eq_true, Bool.and_eq_true] at h
  exact of_decide_eq_true h.1.2
theorem trues_all (n : Nat) : (List.replicate n true).all id = true := by simp
theorem trues_map (n : Nat) : (List.replicate n true).map V.bl = List.replicate n (V.bl true) := by simp
section
variable {P : Program} {w : World} {K : PySem.W.Frag} {mg : Str → Option Value} {base : Heap}
variable {fII fIW a_is_row a_is_index a_is_name a_is_text_in a_are_counts a_word_of a_are_nexts a_is_line a_line_of a_are_operations : Addr}
theorem sc_is_text_in : FnScope ["thing", "table"] ["thing", "table"] (defScope s_is_text_in) := ⟨rfl, rfl, rfl, by decide +kernel, rfl, by decide +kernel, by decide +kernel⟩
theorem ok_is_text_in {f : Addr} {fd : FuncData} (F : Fun K "is_text_in" "is_text_in" s_is_text_in f fd) (T : TxtF K mg fII fIW) : FnOk P w K mg base CX0 1 f fd ["thing", "table"] (spTextIn K) := by
  refine F.ok sc_is_text_in (fun vs H Q E h => ?_) (fun cdv A outer s H vs Q E hr h => ?_)
  · obtain ⟨v, t, d, kvs, rfl, _⟩ := h
    rfl
  · obtain ⟨v, t, d, kvs, rfl, b, hd, k⟩ := h
    refine ⟨_, (pss_one (ps_ret (pe_and (pe_callB call_isi (by rfl) T.b_isinstance (by decide +kernel) (pa_cons (pv 0) (pa_cons (pe_bltn (v := .ty "str") rfl T.b_str (by decide +kernel) rfl) pa_nil))) (pe_one (pe_cmp (pc_din (hu_of hr) (pv 0) (pv 1)) rfl))))), ?_⟩
    have hk : (kb t "str") = (t == "str") := by simp [kb]
    refine ⟨_, rfl, v, _, _, _, _, rfl, .ty _, b.ty, b.kit (u := "str") (by decide), _, rfl, ?_⟩
    rw [hk]
    by_cases h1 : (t == "str") = true
    · obtain ⟨x, rfl⟩ := b.str h1
      rw [h1]
      refine iteT ?_
      exact ⟨_, rfl, _, rfl, d, _, rfl, .inl ⟨kvs, .inr x, hd, rfl, rfl⟩, k⟩
    · rw [Bool.eq_false_iff.mpr h1]
      refine iteF ?_
      have e : hasT kvs v = false := by
        cases b.ty with
        | base z => cases z <;> first | rfl | (exact absurd (by decide) h1)
        | _ => rfl
      rw [e] at k
      exact k
theorem sc_are_counts : FnScope ["thing", "most", "low", "high", "name", "many"] ["thing", "most", "low", "high"] (defScope s_are_counts) := ⟨rfl, rfl, rfl, by decide +kernel, rfl, by decide +kernel, by decide +kernel⟩
theorem ok_are_counts {f : Addr} {fd fd_is_name fd_is_integer fd_is_within : FuncData} (F : Fun K "are_counts" "are_counts" s_are_counts f fd) (T : TxtF K mg fII fIW) (TG : TxtG K mg a_is_row a_is_index a_is_name a_is_text_in a_are_counts a_word_of a_are_nexts a_is_line a_line_of a_are_operations)
    (F_is_name : Fun K "is_name" "is_name" s_is_name a_is_name fd_is_name) (b_is_name : Binds K fd_is_name ["thing"] []) (FI : Fun K "is_integer" "is_integer" s_is_integer fII fd_is_integer) (bI : Binds K fd_is_integer ["thing"] [])
    (FW : Fun K "is_within" "is_within" s_is_within fIW fd_is_within) (b_is_within : Binds K fd_is_within ["thing", "low", "high"] []) : FnOk P w K mg base CX0 3 f fd ["thing", "most", "low", "high"] spCounts := by
  have GN : FnOk P w K mg base CX0 1 a_is_name fd_is_name ["thing"] (spName K) := ok_is_name F_is_name T
  have GW : FnOk P w K mg base CX0 2 fIW fd_is_within ["thing", "low", "high"] (spWithin K) := ok_is_within FW T FI bI
  refine F.ok sc_are_counts (fun vs H Q E h => ?_) (fun cdv A outer s H vs Q E hr h => ?_)
  · obtain ⟨a, o, most, lo, hi, rfl, _⟩ := h
    rfl
  · obtain ⟨a, o, most, lo, hi, rfl, ha, l1, l2, all, k⟩ := h
    refine ⟨_, (pss_cons (ps_if (PW.pt (pw_or (pt_not (pt_val (pe_callB call_isi (by rfl) T.b_isinstance (by decide +kernel) (pa_cons (pv 0) (pa_cons (pe_bltn (v := .ty "dict") rfl T.b_dict (by decide +kernel) rfl) pa_nil))))) (pw_or1 (pt_cmpR op_gt (pe_callB call_lenD (by rfl) T.b_len PySem.boot_len (pa_cons (pv 0) pa_nil)) (pv 1) (nomark _))))) (pss_one (ps_ret pe_bl)) pss_nil)
      (pss_one (ps_ret (pe_callB (cr_all rfl) (by rfl) T.b_all (by decide +kernel) (pa_cons (pe_lock (pe_lc (own := [("name", 4), ("many", 5)]) (g := gTup K 2 (gCons (gName 4) (gCons (gName 5) gNil))) (tt := tYes) rfl sc_are_counts.nd (pi_items (pv 0)) (blkOk_by (own := [("name", 4), ("many", 5)]) (N := ["thing", "most", "low", "high", "name", "many"]) (sc := defScope s_are_counts) (by decide +kernel)) (fun _ _ _ _ _ => pg_tup rfl (pgs_cons (pg_name (i := 4) sc_are_counts.nd rfl (Or.inl rfl)) (pgs_cons (pg_name (i := 5) sc_are_counts.nd rfl (Or.inl rfl)) pgs_nil))) (fun _ _ _ _ _ => pts_nil) (fun _ _ _ _ _ => (pe_and (pe_call GN (hr.mono (by decide)) (by rfl) TG.g_is_name TG.k_is_name b_is_name .nil pass0 (pa_cons (pv 4) pa_nil)) (pe_one (pe_call GW hr (by rfl) T.g_is_within T.k_is_within b_is_within .nil pass0 (pa_cons (pv 5) (pa_cons (pv 2) (pa_cons (pv 3) pa_nil))))))))) pa_nil))))), ?_⟩
    have bD : Bt K H (.ref a) "dict" := ⟨.base (.dK ha), by decide⟩
    refine ⟨_, rfl, _, _, _, _, _, rfl, .ty _, bD.ty, bD.kit (u := "dict") (by decide), _, rfl, ?_⟩
    refine iteF ?_
    refine ⟨_, rfl, a, _, rfl, ha, _, rfl, _, _, rfl, rfl, _, rfl, ?_⟩
    have lk : (opsK o).length = o.length := List.length_map ..
    rw [lk, decide_eq_false (show ¬ most < (o.length : Int) by omega)]
    refine iteF ?_
    refine ⟨a, _, ha, trivial, fun od => ⟨_, rfl, a, od, opsK o, rfl, upd_same, fun D nD => lc_it walk_items (fun i Hx => Same (upd H a (.frz od (.dK (opsK o)))) Hx ∧ Hx D = some (.lst (List.replicate i (V.bl true)))) ⟨sameNew nD _, upd_same⟩ (fun i Hx _ z => z.1 _ _ upd_same) (fun i y Ha Hb hi' z1 z2 => ?_) fun Hx z => ?_⟩⟩
    · obtain ⟨sx, ex⟩ := z1
      obtain ⟨T', x, y, rfl, nT, rfl, h1, h2⟩ := z2
      have hi2 : i < o.length := by rw [← lk]; exact hi'
      have e1 : (opsK o)[i]? = some (Sum.inr (o[i]).1, V.int (o[i]).2) := by
        unfold opsK
        rw [List.getElem?_map, List.getElem?_eq_getElem hi2]
        rfl
      dsimp only at h1 h2
      rw [e1] at h1 h2
      have h1' : V.str (o[i]).1 = x := Option.some.inj h1
      have h2' : V.int (o[i]).2 = y := Option.some.inj h2
      subst h1' h2'
      obtain ⟨g1, g2, g3⟩ := all _ (List.getElem_mem hi2)
      refine ⟨T', _, rfl, .inl (.inl upd_same), rfl, _, _, rfl, _, _, rfl, rfl, rfl, ?_⟩
      refine ⟨_, rfl, _, _, rfl, btStr _, fun x' e' => ?_, fun Hy sy => ⟨_, rfl, ?_⟩⟩
      · have e2 : (o[i]).1 = x' := V.str.inj e'
        rw [← e2]
        have := nm_len g1
        rw [sizeLine_eq]
        omega
      · rw [show nameV (.str (o[i]).1) = true from g1]
        refine iteT ?_
        refine ⟨_, rfl, _, rfl, _, rfl, _, _, _, _, rfl, btInt _, ?_⟩
        rw [inW_int g2 g3]
        have exy := sy _ _ (show upd Ha T' _ D = _ by rw [upd_ne (ne_of_none ex nT)]; exact ex)
        refine ⟨_, exy, ?_, fun b u e => ?_, ?_⟩
        · rw [List.length_replicate, sizeLine_eq]
          omega
        · have nb : b ≠ D := fun z => by
            rw [z] at e
            exact absurd (e.symm.trans nD) (by simp)
          rw [upd_ne nb]
          exact sy _ _ (by rw [upd_ne (ne_of_none (sx _ _ e) nT)]; exact sx _ _ e)
        · rw [List.replicate_succ']
          exact upd_same
    · obtain ⟨sx, ex⟩ := z
      have nDa : D ≠ a := fun z => by
        rw [z, upd_same] at nD
        cases nD
      refine ⟨sx _ _ upd_same, D, List.replicate (opsK o).length true, rfl, SqL.of (by rw [upd_ne nDa, trues_map]; exact ex), ?_⟩
      rw [trues_all]
      exact k _ (same_unlock ha sx)
end
end Mine

set_option maxRecDepth 100000
set_option maxHeartbeats 4000000
namespace Mine
open PySem L2
theorem at0' {α : Type} {a : α} {l : List α} : atI (a :: l) 0 = some a := atI_nat (j := 0) rfl
theorem at1' {α : Type} {a b : α} {l : List α} : atI (a :: b :: l) 1 = some b := atI_nat (j := 1) rfl
theorem at2' {α : Type} {a b c : α} {l : List α} : atI (a :: b :: c :: l) 2 = some c := atI_nat (j := 2) rfl
theorem nx_all {ns : List Int} {t : Addr} : (ns.map V.int).length = ns.length := List.length_map ..
section
variable {P : Program} {w : World} {K : PySem.W.Frag} {mg : Str → Option Value} {base : Heap}
variable {fII fIW a_is_row a_is_index a_is_name a_is_text_in a_are_counts a_word_of a_are_nexts a_is_line a_line_of a_are_operations : Addr}
theorem sc_are_operations : FnScope ["thing"] ["thing"] (defScope s_are_operations) := ⟨rfl, rfl, rfl, by decide +kernel, rfl, by decide +kernel, by decide +kernel⟩
theorem ok_are_operations {f : Addr} {fd fd_are_counts : FuncData} (F : Fun K "are_operations" "are_operations" s_are_operations f fd) (TG : TxtG K mg a_is_row a_is_index a_is_name a_is_text_in a_are_counts a_word_of a_are_nexts a_is_line a_line_of a_are_operations)
    (GC : FnOk P w K mg base CX0 3 a_are_counts fd_are_counts ["thing", "most", "low", "high"] spCounts) (b_are_counts : Binds K fd_are_counts ["thing", "most", "low", "high"] []) : FnOk P w K mg base CX0 4 f fd ["thing"] spOps := by
  refine F.ok sc_are_operations (fun vs H Q E h => ?_) (fun cdv A outer s H vs Q E hr h => ?_)
  · obtain ⟨a, o, rfl, _⟩ := h
    rfl
  · obtain ⟨a, o, rfl, ha, ok, k⟩ := h
    refine ⟨_, (pss_one (ps_ret (pe_call GC (hr.mono (by decide)) (by rfl) TG.g_are_counts TG.k_are_counts b_are_counts .nil pass0 (pa_cons (pv 0) (pa_cons (globI rfl TG.c_MOST_OPERATIONS) (pa_cons pe_int (pa_cons (globI rfl TG.c_MOST_ANSWERS) pa_nil))))))), ?_⟩
    have := ok.few
    exact ⟨_, rfl, a, o, 8, 0, 6, rfl, ha, by omega, by omega, ok.each, k⟩
theorem sc_word_of : FnScope ["row"] ["row"] (defScope s_word_of) := ⟨rfl, rfl, rfl, by decide +kernel, rfl, by decide +kernel, by decide +kernel⟩
theorem ok_word_of {f : Addr} {fd fd_is_row : FuncData} (F : Fun K "word_of" "word_of" s_word_of f fd) (T : TxtF K mg fII fIW) (TG : TxtG K mg a_is_row a_is_index a_is_name a_is_text_in a_are_counts a_word_of a_are_nexts a_is_line a_line_of a_are_operations)
    (GR : FnOk P w K mg base CX0 1 a_is_row fd_is_row ["thing"] (spIsRow K)) (b_is_row : Binds K fd_is_row ["thing"] []) : FnOk P w K mg base CX0 2 f fd ["row"] spWord := by
  refine F.ok sc_word_of (fun vs H Q E h => ?_) (fun cdv A outer s H vs Q E hr h => ?_)
  · obtain ⟨a, x, xs, rfl, _⟩ := h
    rfl
  · obtain ⟨a, x, xs, rfl, ha, k⟩ := h
    refine ⟨_, (pss_cons (ps_if (PW.pt (pw_and (pt_val (pe_call GR (hr.mono (by decide)) (by rfl) TG.g_is_row TG.k_is_row b_is_row .nil pass0 (pa_cons (pv 0) pa_nil))) (pw_and (pt_cmpR op_gt (pe_callB call_len_seq (by rfl) T.b_len PySem.boot_len (pa_cons (pv 0) pa_nil)) pe_int (nomark _)) (pw_and1 (pt_val (pe_callB call_isi (by rfl) T.b_isinstance (by decide +kernel) (pa_cons (pe_ix ix_seq (pv 0) pe_int (fun _ _ => rfl)) (pa_cons (pe_bltn (v := .ty "str") rfl T.b_str (by decide +kernel) rfl) pa_nil)))))))) (pss_one (ps_ret (pe_ix ix_seq (pv 0) pe_int (fun _ _ => rfl)))) pss_nil)
      (pss_one (ps_ret pe_str))), ?_⟩
    obtain ⟨t, b, e⟩ := btSeq (K := K) ha
    refine ⟨_, rfl, _, t, rfl, b, fun H1 s1 => ⟨_, rfl, ?_⟩⟩
    rw [e]
    refine iteT ?_
    have ha1 := s1.sqa ha
    refine ⟨_, rfl, a, _, rfl, ha1.sq, _, _, rfl, rfl, _, rfl, ?_⟩
    rw [decide_eq_true (show (0 : Int) < (((V.str x :: xs).length : Nat) : Int) by rw [List.length_cons]; omega)]
    refine iteT ?_
    refine ⟨_, rfl, ha1.ix at0' ?_⟩
    refine ⟨_, _, _, _, _, rfl, .ty _, (btStr (K := K) (H := H1) x).ty, (btStr (K := K) (H := H1) x).kit (u := "str") (by decide), _, rfl, ?_⟩
    refine iteT ?_
    exact ⟨_, rfl, ha1.ix at0' (k _ s1)⟩
theorem sc_are_nexts : FnScope ["nexts", "operation", "counts", "many", "index"] ["nexts", "operation", "counts", "many"] (defScope s_are_nexts) := ⟨rfl, rfl, rfl, by decide +kernel, rfl, by decide +kernel, by decide +kernel⟩
theorem ok_are_nexts {f : Addr} {fd fd_is_row fd_is_index : FuncData} (F : Fun K "are_nexts" "are_nexts" s_are_nexts f fd) (T : TxtF K mg fII fIW) (TG : TxtG K mg a_is_row a_is_index a_is_name a_is_text_in a_are_counts a_word_of a_are_nexts a_is_line a_line_of a_are_operations)
    (GR : FnOk P w K mg base CX0 1 a_is_row fd_is_row ["thing"] (spIsRow K)) (b_is_row : Binds K fd_is_row ["thing"] [])
    (GI : FnOk P w K mg base CX0 3 a_is_index fd_is_index ["thing", "many"] (spIndex K)) (b_is_index : Binds K fd_is_index ["thing", "many"] []) : FnOk P w K mg base CX0 4 f fd ["nexts", "operation", "counts", "many"] spNexts := by
  refine F.ok sc_are_nexts (fun vs H Q E h => ?_) (fun cdv A outer s H vs Q E hr h => ?_)
  · obtain ⟨t, d, ns, op, o, many, rfl, _⟩ := h
    rfl
  · obtain ⟨t, d, ns, op, o, many, rfl, ht, hd, hl, l2, all, k⟩ := h
    refine ⟨_, (pss_cons (ps_if (PW.pt (pw_or (pt_not (pt_val (pe_call GR (hr.mono (by decide)) (by rfl) TG.g_is_row TG.k_is_row b_is_row .nil pass0 (pa_cons (pv 0) pa_nil)))) (pw_or1 (pt_cmpR op_ne (pe_callB call_len_seq (by rfl) T.b_len PySem.boot_len (pa_cons (pv 0) pa_nil)) (pe_dget (hu_of hr) (pv 2) (pv 1) (fun _ _ => rfl)) (nomark _))))) (pss_one (ps_ret pe_bl)) pss_nil)
      (pss_one (ps_ret (pe_callB (cr_all rfl) (by rfl) T.b_all (by decide +kernel) (pa_cons (pe_lc (own := [("index", 4)]) (g := gName 4) (tt := tYes) (wi := iSeq K (tVar 0)) rfl sc_are_nexts.nd (pi_seq (pv 0)) (blkOk_by (own := [("index", 4)]) (N := ["nexts", "operation", "counts", "many", "index"]) (sc := defScope s_are_nexts) (by decide +kernel)) (fun _ _ _ _ _ => pg_name (i := 4) sc_are_nexts.nd rfl (Or.inl rfl)) (fun _ _ _ _ _ => pts_nil) (fun _ _ _ _ _ => (pe_call GI (hr.mono (by decide)) (by rfl) TG.g_is_index TG.k_is_index b_is_index .nil pass0 (pa_cons (pv 4) (pa_cons (pv 3) pa_nil))))) pa_nil))))), ?_⟩
    obtain ⟨ty, b, e⟩ := btSeq (K := K) ht
    refine ⟨_, rfl, _, ty, rfl, b, fun H1 s1 => ⟨_, rfl, ?_⟩⟩
    rw [e]
    refine iteF ?_
    have ht1 := s1.sqa ht
    have hd1 : Rd H1 d (.dK (opsK o)) := hd.elim (fun z => .inl (s1 _ _ z)) fun ⟨od, z⟩ => .inr ⟨od, s1 _ _ z⟩
    refine ⟨_, rfl, t, _, rfl, ht1.sq, _, rfl, _, rfl, d, _, rfl, .inl ⟨opsK o, .inr op, hd1, rfl, (by rw [val_ops, hl]; rfl)⟩, rfl, _, rfl, ?_⟩
    rw [List.length_map, decide_eq_true (show V.int (ns.length : Int) = V.int (ns.length : Int) from rfl)]
    refine iteF ?_
    have turn : ∀ (Hf : Hp) (D : Addr), Same H1 Hf → Hf D = none → ∀ i (y : V) Ha, i < (ns.map V.int).length → (Same Hf Ha ∧ Ha D = some (.lst (List.replicate i (V.bl true)))) → (ns.map V.int)[i]? = some y →
        inW y 0 (many - 1) = true ∧ (∃ z : Int, y = .int z) ∧ Ha D = some (.lst (List.replicate i (V.bl true))) ∧ (List.replicate i (V.bl true)).length < sizeLine ∧ (Same Hf (upd Ha D (.lst (List.replicate i (V.bl true) ++ [.bl true]))) ∧ upd Ha D (.lst (List.replicate i (V.bl true) ++ [.bl true])) D = some (.lst (List.replicate (i + 1) (V.bl true)))) := by
      intro Hf D sf nD i y Ha hi ⟨sx, ex⟩ hy
      rw [List.getElem?_map] at hy
      rw [List.length_map] at hi
      rw [List.getElem?_eq_getElem hi] at hy
      have e1 : V.int ns[i] = y := Option.some.inj hy
      subst e1
      obtain ⟨b1, b2⟩ := all _ (List.getElem_mem hi)
      refine ⟨inW_int b1 (by omega), ⟨_, rfl⟩, ex, ?_, fun b u e => ?_, ?_⟩
      · rw [List.length_replicate, sizeLine_eq]
        omega
      · have nb : b ≠ D := fun z => by
          rw [z] at e
          exact absurd (e.symm.trans nD) (by simp)
        rw [upd_ne nb]
        exact sx _ _ e
      · rw [List.replicate_succ']
        exact upd_same
    have fin : ∀ (D : Addr) (Hx : Hp), H1 D = none → (Same H1 Hx ∧ Hx D = some (.lst (List.replicate (ns.map V.int).length (V.bl true)))) → rAll K [.ref D] Hx fun v H' => Q v H' := by
      intro D Hx nD ⟨sx, ex⟩
      refine ⟨D, List.replicate (ns.map V.int).length true, rfl, SqL.of (by rw [trues_map]; exact ex), ?_⟩
      rw [trues_all]
      exact k _ (s1.trans sx)
    rcases ht1 with ht1 | ht1
    · refine .inl ⟨_, rfl, t, rfl, ⟨_, SqL.of ht1⟩, fun D nD => lc_it walk_list (fun i Hx => Same H1 Hx ∧ Hx D = some (.lst (List.replicate i (V.bl true)))) ⟨sameNew nD _, upd_same⟩ (fun i Hx _ z => SqL.of (z.1 _ _ ht1)) (fun i y Ha Hb hi z1 z2 => ?_) fun Hx z => fin D Hx nD z⟩
      obtain ⟨rfl, hy⟩ := z2
      obtain ⟨w1, ⟨z, rfl⟩, w3, w4, w5⟩ := turn H1 D (Same.refl _) nD i y _ hi z1 hy
      refine ⟨rfl, _, rfl, _, rfl, _, _, many, rfl, btInt z, ?_⟩
      rw [w1]
      exact ⟨_, w3, w4, w5⟩
    · refine .inr ⟨_, rfl, t, rfl, ⟨_, .inl (.inl ht1)⟩, fun D nD => lc_it walk_tup (fun i Hx => Same H1 Hx ∧ Hx D = some (.lst (List.replicate i (V.bl true)))) ⟨sameNew nD _, upd_same⟩ (fun i Hx _ z => .inl (.inl (z.1 _ _ ht1))) (fun i y Ha Hb hi z1 z2 => ?_) fun Hx z => fin D Hx nD z⟩
      obtain ⟨rfl, hy⟩ := z2
      obtain ⟨w1, ⟨z, rfl⟩, w3, w4, w5⟩ := turn H1 D (Same.refl _) nD i y _ hi z1 hy
      refine ⟨rfl, _, rfl, _, rfl, _, _, many, rfl, btInt z, ?_⟩
      rw [w1]
      exact ⟨_, w3, w4, w5⟩
end
end Mine

set_option maxRecDepth 100000
set_option maxHeartbeats 4000000
namespace L2
open PySem PySem.Spec PyProof.Rows
/-- tuple(x), x a list or a tuple: some tuple of the same things -/
def rTupG : List V → Hp → VK → Prop := fun xs H Q => ∃ p ys, xs = [.ref p] ∧ SqA H p ys ∧ ∀ (q : Addr) (H' : Hp), Same H H' → H' q = some (.tup ys) → Q (.ref q) H'
theorem call_tupleG {X : Cx} : CallR X (.type "tuple") rTupG := fun pins s σ H xs us Q I r ⟨p, ys, e, h, k⟩ => call_tuple_of pins s σ H xs us Q I r ⟨p, ys, e, h.elim (fun h => .inl ⟨SqL.of h, fun l hl => k l _ (sameNew hl _) upd_same⟩) fun h => .inr ⟨.inl (.inl h), k p H (Same.refl _) h⟩⟩
/-- list(x): a new list of the same things -/
def rLstG : List V → Hp → VK → Prop := fun xs H Q => ∃ p ys, xs = [.ref p] ∧ SqA H p ys ∧ New H (.lst ys) Q
theorem call_listG {X : Cx} : CallR X (.type "list") rLstG := fun pins s σ H xs us Q I r ⟨p, ys, e, h, k⟩ => call_list_of pins s σ H xs us Q I r ⟨p, ys, e, h.sq, fun l hl => k.at hl⟩
end L2
namespace Mine
open PySem L2
theorem strNe {x y : Str} (h : x ≠ y) : decide (V.str x = V.str y) = false := decide_eq_false fun z => h (V.str.inj z)
theorem strEq (x : Str) : decide (V.str x = V.str x) = true := decide_eq_true rfl
theorem intEq (i : Int) : decide (V.int i = V.int i) = true := decide_eq_true rfl
theorem ask_end : ("ask" : Str) ≠ "end" := by decide +kernel
theorem end_ask : ("end" : Str) ≠ "ask" := by decide +kernel
theorem go_ask : ("go" : Str) ≠ "ask" := by decide +kernel
theorem go_end : ("go" : Str) ≠ "end" := by decide +kernel
section
variable {P : Program} {w : World} {K : PySem.W.Frag} {mg : Str → Option Value} {base : Heap}
variable {fII fIW a_is_row a_is_index a_is_name a_is_text_in a_are_counts a_word_of a_are_nexts a_is_line a_line_of a_are_operations : Addr}
theorem sc_is_line : FnScope ["row", "counts", "many", "word"] ["row", "counts", "many"] (defScope s_is_line) := ⟨rfl, rfl, rfl, by decide +kernel, rfl, by decide +kernel, by decide +kernel⟩
theorem ok_is_line {f : Addr} {fd fd_word_of fd_is_text_in fd_are_nexts fd_is_name fd_is_index : FuncData} (F : Fun K "is_line" "is_line" s_is_line f fd) (T : TxtF K mg fII fIW) (TG : TxtG K mg a_is_row a_is_index a_is_name a_is_text_in a_are_counts a_word_of a_are_nexts a_is_line a_line_of a_are_operations)
    (GWo : FnOk P w K mg base CX0 2 a_word_of fd_word_of ["row"] spWord) (b_word_of : Binds K fd_word_of ["row"] [])
    (GT : FnOk P w K mg base CX0 1 a_is_text_in fd_is_text_in ["thing", "table"] (spTextIn K)) (b_is_text_in : Binds K fd_is_text_in ["thing", "table"] [])
    (GX : FnOk P w K mg base CX0 4 a_are_nexts fd_are_nexts ["nexts", "operation", "counts", "many"] spNexts) (b_are_nexts : Binds K fd_are_nexts ["nexts", "operation", "counts", "many"] [])
    (GNm : FnOk P w K mg base CX0 1 a_is_name fd_is_name ["thing"] (spName K)) (b_is_name : Binds K fd_is_name ["thing"] [])
    (GI : FnOk P w K mg base CX0 3 a_is_index fd_is_index ["thing", "many"] (spIndex K)) (b_is_index : Binds K fd_is_index ["thing", "many"] []) : FnOk P w K mg base CX0 5 f fd ["row", "counts", "many"] spIsLine := by
  refine F.ok sc_is_line (fun vs H Q E h => ?_) (fun cdv A outer s H vs Q E hr h => ?_)
  · obtain ⟨v, d, o, many, r, rfl, _⟩ := h
    rfl
  · obtain ⟨v, d, o, many, r, rfl, hv, hd, ok, k⟩ := h
    refine ⟨_, (pss_cons (ps_set (i := 3) sc_is_line.nd rfl (Or.inl rfl) (pe_call GWo (hr.mono (by decide)) (by rfl) TG.g_word_of TG.k_word_of b_word_of .nil pass0 (pa_cons (pv 0) pa_nil)))
      (pss_cons (ps_if (pt_cmpR op_eq (pv 3) pe_str (nomark _)) (pss_one (ps_ret (pe_and (pe_cmpR op_eq (pe_callB call_len_seq (by rfl) T.b_len PySem.boot_len (pa_cons (pv 0) pa_nil)) pe_int (nomark _)) (pe_and (pe_call GT (hr.mono (by decide)) (by rfl) TG.g_is_text_in TG.k_is_text_in b_is_text_in .nil pass0 (pa_cons (pe_ix ix_seq (pv 0) pe_int (fun _ _ => rfl)) (pa_cons (pv 1) pa_nil))) (pe_one (pe_call GX (hr.mono (by decide)) (by rfl) TG.g_are_nexts TG.k_are_nexts b_are_nexts .nil pass0 (pa_cons (pe_ix ix_seq (pv 0) pe_int (fun _ _ => rfl)) (pa_cons (pe_ix ix_seq (pv 0) pe_int (fun _ _ => rfl)) (pa_cons (pv 1) (pa_cons (pv 2) pa_nil)))))))))) pss_nil)
      (pss_cons (ps_if (pt_cmpR op_eq (pv 3) pe_str (nomark _)) (pss_one (ps_ret (pe_and (pe_cmpR op_eq (pe_callB call_len_seq (by rfl) T.b_len PySem.boot_len (pa_cons (pv 0) pa_nil)) pe_int (nomark _)) (pe_one (pe_call GNm (hr.mono (by decide)) (by rfl) TG.g_is_name TG.k_is_name b_is_name .nil pass0 (pa_cons (pe_ix ix_seq (pv 0) pe_int (fun _ _ => rfl)) pa_nil)))))) pss_nil)
      (pss_one (ps_ret (pe_and (pe_cmpR op_eq (pv 3) pe_str (nomark _)) (pe_and (pe_cmpR op_eq (pe_callB call_len_seq (by rfl) T.b_len PySem.boot_len (pa_cons (pv 0) pa_nil)) pe_int (nomark _)) (pe_one (pe_call GI (hr.mono (by decide)) (by rfl) TG.g_is_index TG.k_is_index b_is_index .nil pass0 (pa_cons (pe_ix ix_seq (pv 0) pe_int (fun _ _ => rfl)) (pa_cons (pv 2) pa_nil))))))))))), ?_⟩
    have rd : ∀ {H' : Hp}, Same H H' → Rd H' d (.dK (opsK o)) := fun s => hd.elim (fun z => .inl (s _ _ z)) fun ⟨od, z⟩ => .inr ⟨od, s _ _ z⟩
    cases r with
    | ask op ns =>
      obtain ⟨a, t, rfl, ha, ht⟩ := hv
      obtain ⟨o1, o2, o3⟩ := ok
      refine ⟨_, rfl, a, _, _, rfl, ha, fun H1 s1 => ?_⟩
      have ha1 := s1.sqa ha
      refine ⟨_, rfl, rfl, _, rfl, ?_⟩
      rw [strEq]
      refine iteT ?_
      refine ⟨_, rfl, a, _, rfl, ha1.sq, rfl, _, rfl, ?_⟩
      refine iteT ?_
      refine ⟨_, rfl, ha1.ix at1' ⟨_, rfl, _, _, d, _, rfl, btStr _, rd s1, _, rfl, ?_⟩⟩
      have hh : hasT (opsK o) (.str op) = true := by
        show (valV (opsK o) (.inr op)).isSome = true
        rw [val_ops, o1]
        rfl
      rw [hh]
      refine iteT ?_
      refine ⟨_, rfl, ha1.ix at2' ⟨_, rfl, ha1.ix at1' ⟨_, rfl, _, rfl, t, d, ns, op, o, many, rfl, s1.sqa ht, rd s1, o1, o2, o3, fun H2 s2 => k _ (s1.trans s2)⟩⟩⟩
    | fin x =>
      obtain ⟨a, rfl, ha⟩ := hv
      refine ⟨_, rfl, a, _, _, rfl, ha, fun H1 s1 => ?_⟩
      have ha1 := s1.sqa ha
      refine ⟨_, rfl, rfl, _, rfl, ?_⟩
      rw [strNe end_ask]
      refine iteF ?_
      refine ⟨_, rfl, rfl, _, rfl, ?_⟩
      rw [strEq]
      refine iteT ?_
      refine ⟨_, rfl, a, _, rfl, ha1.sq, rfl, _, rfl, ?_⟩
      refine iteT ?_
      refine ⟨_, rfl, ha1.ix at1' ⟨_, _, rfl, btStr _, fun x' e' => ?_, fun H2 s2 => ?_⟩⟩
      · have e2 : x = x' := V.str.inj e'
        rw [← e2, sizeLine_eq]
        have := ok.2
        omega
      · rw [show nameV (.str x) = true from ok.1]
        exact k _ (s1.trans s2)
    | go n =>
      obtain ⟨a, rfl, ha⟩ := hv
      refine ⟨_, rfl, a, _, _, rfl, ha, fun H1 s1 => ?_⟩
      have ha1 := s1.sqa ha
      refine ⟨_, rfl, rfl, _, rfl, ?_⟩
      rw [strNe go_ask]
      refine iteF ?_
      refine ⟨_, rfl, rfl, _, rfl, ?_⟩
      rw [strNe go_end]
      refine iteF ?_
      refine ⟨_, rfl, rfl, _, rfl, ?_⟩
      rw [strEq]
      refine iteT ?_
      refine ⟨_, rfl, a, _, rfl, ha1.sq, rfl, _, rfl, ?_⟩
      refine iteT ?_
      refine ⟨_, rfl, ha1.ix at1' ⟨_, rfl, _, _, many, rfl, btInt n, ?_⟩⟩
      rw [inW_int ok.1 (by have := ok.2; omega)]
      exact k _ s1
theorem sc_line_of : FnScope ["row"] ["row"] (defScope s_line_of) := ⟨rfl, rfl, rfl, by decide +kernel, rfl, by decide +kernel, by decide +kernel⟩
theorem ok_line_of {f : Addr} {fd : FuncData} (F : Fun K "line_of" "line_of" s_line_of f fd) (T : TxtF K mg fII fIW) : FnOk P w K mg base CX0 1 f fd ["row"] spLineOf := by
  refine F.ok sc_line_of (fun vs H Q E h => ?_) (fun cdv A outer s H vs Q E hr h => ?_)
  · obtain ⟨v, r, rfl, _⟩ := h
    rfl
  · obtain ⟨v, r, rfl, hv, k⟩ := h
    refine ⟨_, (pss_cons (ps_if (pt_cmpR op_eq (pe_ix ix_seq (pv 0) pe_int (fun _ _ => rfl)) pe_str (nomark _)) (pss_one (ps_ret (pe_tupG (pa_cons pe_str (pa_cons (pe_ix ix_seq (pv 0) pe_int (fun _ _ => rfl)) (pa_cons (pe_callTy call_tupleG (by rfl) T.b_tuple (by decide +kernel) (pa_cons (pe_ix ix_seq (pv 0) pe_int (fun _ _ => rfl)) pa_nil)) pa_nil)))))) pss_nil)
      (pss_one (ps_ret (pe_callTy call_tupleG (by rfl) T.b_tuple (by decide +kernel) (pa_cons (pv 0) pa_nil))))), ?_⟩
    cases r with
    | ask op ns =>
      obtain ⟨a, t, rfl, ha, ht⟩ := hv
      refine ⟨_, rfl, ha.ix at0' ⟨rfl, _, rfl, ?_⟩⟩
      rw [strEq]
      refine iteT ?_
      refine ⟨_, rfl, ha.ix at1' ⟨_, rfl, ha.ix at2' ⟨t, _, rfl, ht, fun p H1 s1 e1 => ?_⟩⟩⟩
      refine ⟨by show 3 ≤ sizeLine; decide, fun p2 H2 n2 s2 e2 => ?_⟩
      exact k _ _ (s1.trans s2) ⟨p2, p, rfl, e2, s2 _ _ e1⟩
    | fin x =>
      obtain ⟨a, rfl, ha⟩ := hv
      refine ⟨_, rfl, ha.ix at0' ⟨rfl, _, rfl, ?_⟩⟩
      rw [strNe end_ask]
      refine iteF ?_
      exact ⟨_, rfl, a, _, rfl, ha, fun p H1 s1 e1 => k _ _ s1 ⟨p, rfl, e1⟩⟩
    | go n =>
      obtain ⟨a, rfl, ha⟩ := hv
      refine ⟨_, rfl, ha.ix at0' ⟨rfl, _, rfl, ?_⟩⟩
      rw [strNe go_ask]
      refine iteF ?_
      exact ⟨_, rfl, a, _, rfl, ha, fun p H1 s1 e1 => k _ _ s1 ⟨p, rfl, e1⟩⟩
end
end Mine

/-! Where a walk along a function of the numbers below n comes to rest: plain mathematics. -/
namespace Mach
def itr (f : Nat → Nat) : Nat → Nat → Nat
  | 0, i => i
  | k + 1, i => itr f k (f i)
theorem itr_add (f : Nat → Nat) : ∀ a b i, itr f (a + b) i = itr f b (itr f a i)
  | 0, b, i => by rw [Nat.zero_add]; rfl
  | a + 1, b, i => by
    rw [Nat.succ_add]
    exact itr_add f a b (f i)
theorem itr_succ (f : Nat → Nat) (k i : Nat) : itr f (k + 1) i = f (itr f k i) := by
  rw [itr_add f k 1 i]
  rfl
theorem itr_lt {f : Nat → Nat} {n : Nat} (hf : ∀ i, i < n → f i < n) : ∀ k i, i < n → itr f k i < n
  | 0, _, h => h
  | k + 1, i, h => itr_lt hf k (f i) (hf i h)
theorem pigeon : ∀ (n : Nat) (l : List Nat), l.Nodup → (∀ x ∈ l, x < n) → l.length ≤ n
  | 0, [], _, _ => Nat.le_refl _
  | 0, x :: _, _, h => absurd (h x List.mem_cons_self) (Nat.not_lt_zero _)
  | n + 1, l, nd, h => by
    by_cases m : n ∈ l
    · have e := List.length_erase_of_mem m
      have ih := pigeon n (l.erase n) (nd.erase n) (fun x hx => by
        have h1 := (nd.mem_erase_iff).mp hx
        have h2 := h x h1.2
        have h3 := h1.1
        omega)
      omega
    · have ih := pigeon n l nd (fun x hx => by
        have h2 := h x hx
        have h3 : x ≠ n := fun z => m (z ▸ hx)
        omega)
      omega
/-- two places of the way are the same -/
theorem again {f : Nat → Nat} {n i : Nat} (hf : ∀ i, i < n → f i < n) (hi : i < n) : ∃ a b, a < b ∧ b ≤ n ∧ itr f a i = itr f b i := by
  by_cases h : ∃ a b, a < b ∧ b ≤ n ∧ itr f a i = itr f b i
  · exact h
  · have nd : ((List.range (n + 1)).map fun k => itr f k i).Nodup := by
      rw [List.Nodup, List.pairwise_map]
      refine List.Pairwise.imp_of_mem (fun {a b} ha hb lt e => h ⟨a, b, lt, ?_, e⟩) List.pairwise_lt_range
      have := List.mem_range.mp hb
      omega
    have := pigeon n _ nd (fun x hx => by
      obtain ⟨k, _, e⟩ := List.mem_map.mp hx
      rw [← e]
      exact itr_lt hf k i hi)
    rw [List.length_map, List.length_range] at this
    omega
/-- behind n steps a walk is on its ring -/
theorem ring_of {f : Nat → Nat} {n i : Nat} (hf : ∀ i, i < n → f i < n) (hi : i < n) : ∃ p, 0 < p ∧ itr f p (itr f n i) = itr f n i := by
  obtain ⟨a, b, lt, le, e⟩ := again hf hi
  refine ⟨b - a, by omega, ?_⟩
  have e1 : itr f n i = itr f (n - a) (itr f a i) := by
    rw [← itr_add]
    congr 1
    omega
  have e2 : itr f (b - a) (itr f a i) = itr f b i := by
    rw [← itr_add]
    congr 1
    omega
  rw [e1, ← itr_add, Nat.add_comm, itr_add, e2, ← e]
theorem ring_many {f : Nat → Nat} {p j : Nat} (h : itr f p j = j) : ∀ t, itr f (p * t) j = j
  | 0 => rfl
  | t + 1 => by
    rw [Nat.mul_succ, itr_add, ring_many h t, h]
theorem foldl_min : ∀ (l : List Nat) (a : Nat), (l.foldl Nat.min a = a ∨ l.foldl Nat.min a ∈ l) ∧ l.foldl Nat.min a ≤ a ∧ ∀ x ∈ l, l.foldl Nat.min a ≤ x
  | [], a => ⟨.inl rfl, Nat.le_refl _, fun _ h => nomatch h⟩
  | y :: l, a => by
    obtain ⟨h1, h2, h3⟩ := foldl_min l (Nat.min a y)
    refine ⟨?_, ?_, ?_⟩
    · rcases h1 with h1 | h1
      · by_cases q : a ≤ y
        · left
          show l.foldl Nat.min (Nat.min a y) = a
          rw [h1]
          exact Nat.min_eq_left q
        · right
          show l.foldl Nat.min (Nat.min a y) ∈ y :: l
          rw [h1, show Nat.min a y = y from Nat.min_eq_right (by omega)]
          exact List.mem_cons_self
      · exact .inr (List.mem_cons_of_mem _ h1)
    · exact Nat.le_trans h2 (Nat.min_le_left _ _)
    · intro x hx
      rcases List.mem_cons.mp hx with e | hx
      · rw [e]
        exact Nat.le_trans h2 (Nat.min_le_right _ _)
      · exact h3 x hx
/-- where a walk rests: the least number on the ring to which it comes (a fixed one is a ring by itself) -/
def stopAt (f : Nat → Nat) (n i : Nat) : Nat := ((List.range n).map fun k => itr f k (itr f n i)).foldl Nat.min (itr f n i)
theorem stop_mem (f : Nat → Nat) (n i : Nat) : ∃ k, stopAt f n i = itr f k (itr f n i) := by
  obtain ⟨h, _⟩ := foldl_min ((List.range n).map fun k => itr f k (itr f n i)) (itr f n i)
  rcases h with h | h
  · exact ⟨0, h⟩
  · obtain ⟨k, _, e⟩ := List.mem_map.mp h
    exact ⟨k, e.symm⟩
theorem stop_lt {f : Nat → Nat} {n i : Nat} (hf : ∀ i, i < n → f i < n) (hi : i < n) : stopAt f n i < n := by
  obtain ⟨k, e⟩ := stop_mem f n i
  rw [e]
  exact itr_lt hf k _ (itr_lt hf n i hi)
/-- from a place on the ring each place of the ring is met within n steps -/
theorem ring_short {f : Nat → Nat} {n j : Nat} (hf : ∀ i, i < n → f i < n) (hj : j < n) (k : Nat) : ∃ k', k' < n ∧ itr f k' j = itr f k j := by
  induction k using Nat.strongRecOn with
  | ind k ih =>
    by_cases h : k < n
    · exact ⟨k, h, rfl⟩
    · obtain ⟨a, b, lt, le, e⟩ := again hf hj
      have e2 : itr f k j = itr f (k - (b - a)) j := by
        have h1 : k = b + (k - b) := by omega
        have h2 : k - (b - a) = a + (k - b) := by omega
        rw [h2, itr_add, e, ← itr_add, ← h1]
      obtain ⟨k', h1, h2⟩ := ih (k - (b - a)) (by omega)
      exact ⟨k', h1, h2.trans e2.symm⟩
theorem stop_le {f : Nat → Nat} {n i : Nat} (hf : ∀ i, i < n → f i < n) (hi : i < n) (k : Nat) : stopAt f n i ≤ itr f k (itr f n i) := by
  obtain ⟨_, _, h⟩ := foldl_min ((List.range n).map fun k => itr f k (itr f n i)) (itr f n i)
  obtain ⟨k', lt, e⟩ := ring_short hf (itr_lt hf n i hi) k
  rw [← e]
  exact h _ (List.mem_map.mpr ⟨k', List.mem_range.mpr lt, rfl⟩)
theorem stop_unique {f : Nat → Nat} {n i s : Nat} (hf : ∀ i, i < n → f i < n) (hi : i < n) (h1 : ∃ k, s = itr f k (itr f n i)) (h2 : ∀ k, s ≤ itr f k (itr f n i)) : stopAt f n i = s := by
  obtain ⟨k, e⟩ := h1
  obtain ⟨k', e'⟩ := stop_mem f n i
  have a1 := stop_le hf hi k
  have a2 := h2 k'
  omega
theorem stop_step {f : Nat → Nat} {n i : Nat} (hf : ∀ i, i < n → f i < n) (hi : i < n) : stopAt f n (f i) = stopAt f n i := by
  have e : itr f n (f i) = f (itr f n i) := itr_succ f n i
  obtain ⟨p, p0, hp⟩ := ring_of hf hi
  refine stop_unique hf (hf i hi) ?_ fun k => ?_
  · obtain ⟨k, ek⟩ := stop_mem f n i
    refine ⟨k + p - 1, ?_⟩
    rw [ek, e]
    show _ = itr f (k + p - 1 + 1) (itr f n i)
    rw [show k + p - 1 + 1 = p + k by omega, itr_add, hp]
  · rw [e]
    exact stop_le hf hi (k + 1)
/-- on a ring that is written out: the least of it -/
theorem stop_ring {f : Nat → Nat} {n j m s : Nat} (hf : ∀ i, i < n → f i < n) (hj : j < n) (m0 : 0 < m) (h : itr f m j = j) (h1 : ∃ k, k < m ∧ s = itr f k j) (h2 : ∀ k, k < m → s ≤ itr f k j) : stopAt f n j = s := by
  have all : ∀ k, ∃ k', k' < m ∧ itr f k j = itr f k' j := fun k => by
    refine ⟨k % m, Nat.mod_lt _ m0, ?_⟩
    have e : k = m * (k / m) + k % m := (Nat.div_add_mod k m).symm
    conv => lhs; rw [e]
    rw [itr_add, ring_many h]
  refine stop_unique hf hj ?_ fun k => ?_
  · obtain ⟨k, _, e⟩ := h1
    refine ⟨k + (m * n - n), ?_⟩
    rw [e, ← itr_add]
    have hn : n ≤ m * n := Nat.le_mul_of_pos_left n m0
    rw [show n + (k + (m * n - n)) = m * n + k by omega, itr_add, ring_many h]
  · rw [← itr_add]
    obtain ⟨k', lt, e⟩ := all (n + k)
    rw [e]
    exact h2 k' lt
theorem stop_fix {f : Nat → Nat} {n j : Nat} (hf : ∀ i, i < n → f i < n) (hj : j < n) (h : f j = j) : stopAt f n j = j :=
  stop_ring hf hj (m := 1) (by decide) h ⟨0, by decide, rfl⟩ fun k hk => by
    have : k = 0 := by omega
    subst this
    exact Nat.le_refl _
end Mach

set_option maxRecDepth 100000
set_option maxHeartbeats 4000000
namespace Mine
open PySem L2
abbrev s_rest_of : Stmt := top 33
abbrev s_stops_of : Stmt := top 32
theorem inV_ints {a : Int} : ∀ {ts : List Int}, inV (.int a) (ts.map V.int) = decide (a ∈ ts)
  | [] => by simp [inV]
  | t :: ts => by
    have ih := inV_ints (a := a) (ts := ts)
    unfold inV at ih ⊢
    rw [List.map_cons, List.any_cons, ih]
    show (t == a || decide (a ∈ ts)) = _
    by_cases h : t = a
    · subst h
      simp
    · have h2 : (t == a) = false := beq_eq_false_iff_ne.mpr h
      rw [h2, Bool.false_or]
      by_cases m : a ∈ ts
      · rw [decide_eq_true m, decide_eq_true (List.mem_cons_of_mem _ m)]
      · rw [decide_eq_false m, decide_eq_false (fun z => (List.mem_cons.mp z).elim (fun y => h y.symm) m)]
theorem flat_ints (ts : List Int) : (ts.map V.int).all flatV = true := by
  rw [List.all_map]
  exact List.all_eq_true.mpr fun _ _ => rfl
/-- min of the trail from where `at` stands, or `at` -/
def RestIs (ts : List Int) (a m : Int) : Prop := (a ∉ ts → m = a) ∧ ∀ j, ts[j]? = some a → (∀ i, i < j → ts[i]? ≠ some a) → m ∈ ts.drop j ∧ ∀ x ∈ ts.drop j, m ≤ x
def spRest (K : PySem.W.Frag) : Sp := fun vs H Q _ => ∃ (p : Addr) (ts : List Int) (a : Int), vs = [.ref p, .int a] ∧ H p = some (.lst (ts.map V.int)) ∧ ∀ (m : Int) (H' : Hp), Same H H' → RestIs ts a m → Q (.int m) H'
theorem first_at {a : Int} : ∀ {ts : List Int}, a ∈ ts → ∃ j : Nat, ts[j]? = some a ∧ ∀ i : Nat, i < j → ts[i]? ≠ some a
  | [], h => nomatch h
  | t :: ts, h => by
    by_cases e : t = a
    · exact ⟨0, by rw [e]; rfl, fun i hi => absurd hi (Nat.not_lt_zero i)⟩
    · obtain ⟨j, h1, h2⟩ := first_at (a := a) (ts := ts) ((List.mem_cons.mp h).elim (fun z => absurd z.symm e) id)
      refine ⟨j + 1, by simpa using h1, fun i hi => ?_⟩
      cases i with
      | zero => simpa using e
      | succ i => simpa using h2 i (by omega)
section
variable {P : Program} {w : World} {K : PySem.W.Frag} {mg : Str → Option Value} {base : Heap}
variable {fII fIW a_is_row a_is_index a_is_name a_is_text_in a_are_counts a_word_of a_are_nexts a_is_line a_line_of a_are_operations : Addr}
theorem sc_rest_of : FnScope ["trail", "at"] ["trail", "at"] (defScope s_rest_of) := ⟨rfl, rfl, rfl, by decide +kernel, rfl, by decide +kernel, by decide +kernel⟩
theorem ok_rest_of {f : Addr} {fd : FuncData} (F : Fun K "rest_of" "rest_of" s_rest_of f fd) (hmin : mg "min" = none) : FnOk P w K mg base CX0 1 f fd ["trail", "at"] (spRest K) := by
  refine F.ok sc_rest_of (fun vs H Q E h => ?_) (fun cdv A outer s H vs Q E hr h => ?_)
  · obtain ⟨p, ts, a, rfl, _⟩ := h
    rfl
  · obtain ⟨p, ts, a, rfl, hp, k⟩ := h
    refine ⟨_, (pss_cons (ps_if (pt_cmpR op_in_seq (pv 1) (pv 0) (by rfl)) (pss_one (ps_ret (pe_callB (cr_min rfl) (by rfl) hmin (by decide +kernel) (pa_cons (pe_slice sl_listG (pv 0) (po_some (pe_bm PySem.F.plainAttrs_list PySem.F.slot_list_index PySem.F.type_list_index mt_index (pv 0) (pa_cons (pv 1) pa_nil))) po_none) pa_nil)))) pss_nil)
      (pss_one (ps_ret (pv 1)))), ?_⟩
    refine ⟨_, rfl, _, rfl, p, _, rfl, .inl (SqL.of hp), rfl, flat_ints ts, _, rfl, ?_⟩
    show if inV (.int a) (ts.map V.int) = true then _ else _
    rw [inV_ints]
    refine ite2 (fun h1 => ?_) (fun h1 => ?_)
    · obtain ⟨j, hj, hf⟩ := first_at (of_decide_eq_true h1)
      have hjl : j < ts.length := (List.getElem?_eq_some_iff.mp hj).1
      refine ⟨_, rfl, _, rfl, .inl ⟨rfl, _, SqL.of hp⟩, _, rfl, p, _, _, j, .int a, rfl, rfl, SqL.of hp, rfl, flat_ints ts, by rw [List.getElem?_map, hj]; rfl, by show (a == a) = true; exact beq_self_eq_true a, fun m z hm hz => ?_, ?_⟩
      · rw [List.getElem?_map] at hz
        cases e : ts[m]? with
        | none => rw [e] at hz; cases hz
        | some b =>
          rw [e] at hz
          have e2 : V.int b = z := Option.some.inj hz
          subst e2
          show (b == a) = false
          exact beq_eq_false_iff_ne.mpr fun y => hf m hm (by rw [e, y])
      · refine ⟨_, rfl, p, _, rfl, SqL.of hp, fun q1 H1 n1 s1 e1 => ?_⟩
        have e2 : cutV (ts.map V.int) (some (j : Int)) none = (ts.drop j).map V.int := by
          unfold cutV
          rw [HT.sIx_nat, HT.sIx_none, List.length_map, Nat.min_eq_left (by omega), List.map_drop]
          exact List.take_of_length_le (by rw [List.length_drop, List.length_map]; omega)
        rw [e2] at e1
        refine ⟨q1, ts.drop j, rfl, SqL.of e1, by rw [List.length_drop]; omega, fun m h2 h3 => k m _ s1 ⟨fun z => absurd (of_decide_eq_true h1) z, fun j' hj' hf' => ?_⟩⟩
        have : j' = j := by
          by_cases lt : j' < j
          · exact absurd hj' (hf j' lt)
          · by_cases lt2 : j < j'
            · exact absurd hj (hf' j lt2)
            · omega
        subst this
        exact ⟨h2, h3⟩
    · exact ⟨_, rfl, k a _ (Same.refl _) ⟨fun _ => rfl, fun j hj _ => absurd (decide_eq_true (List.mem_of_getElem? hj)) h1⟩⟩
end
end Mine

set_option maxRecDepth 100000
set_option maxHeartbeats 4000000
namespace Mine
open PySem L2
def nxt (rs : List RowD) (i : Nat) : Nat := match rs[i]? with
  | some (.go k) => k.toNat
  | _ => i
def isGo (rs : List RowD) (i : Nat) : Bool := match rs[i]? with
  | some (.go _) => true
  | _ => false
def GoOk (rs : List RowD) : Prop := ∀ (i : Nat) (k : Int), rs[i]? = some (.go k) → 0 ≤ k ∧ k < rs.length
theorem nxt_lt {rs : List RowD} (h : GoOk rs) (i : Nat) (hi : i < rs.length) : nxt rs i < rs.length := by
  unfold nxt
  split
  · rename_i k e
    have := h i k e
    omega
  · exact hi
theorem nxt_fix {rs : List RowD} {i : Nat} (h : isGo rs i = false) : nxt rs i = i := by
  unfold isGo at h
  unfold nxt
  split
  · rename_i k e
    rw [e] at h
    cases h
  · rfl
abbrev way (rs : List RowD) (k i : Nat) : Nat := Mach.itr (nxt rs) k i
def stp (rs : List RowD) (i : Nat) : Nat := Mach.stopAt (nxt rs) rs.length i
theorem stp_way {rs : List RowD} (h : GoOk rs) : ∀ (k i : Nat), i < rs.length → stp rs (way rs k i) = stp rs i
  | 0, _, _ => rfl
  | k + 1, i, hi => by
    show stp rs (way rs k (nxt rs i)) = _
    rw [stp_way h k _ (nxt_lt h i hi)]
    exact Mach.stop_step (nxt_lt h) hi
/-- a list of ints by its places -/
def fl (n : Nat) (g : Nat → Int) : List V := (List.range n).map fun i => V.int (g i)
theorem fl_len {n : Nat} {g : Nat → Int} : (fl n g).length = n := by
  unfold fl
  rw [List.length_map, List.length_range]
theorem fl_get {n k : Nat} {g : Nat → Int} (h : k < n) : (fl n g)[k]? = some (V.int (g k)) := by
  unfold fl
  rw [List.getElem?_map, List.getElem?_range h]
  rfl
theorem fl_at {n k : Nat} {g : Nat → Int} (h : k < n) : atI (fl n g) (k : Int) = some (V.int (g k)) := atI_nat (fl_get h)
theorem fl_set {n k : Nat} {g : Nat → Int} {v : Int} (h : k < n) : (fl n g).set k (V.int v) = fl n (fun i => if i = k then v else g i) := by
  apply List.ext_getElem?
  intro i
  by_cases hi : i < n
  · rw [fl_get hi]
    by_cases e : i = k
    · subst e
      rw [List.getElem?_set_self (by rw [fl_len]; exact hi), if_pos rfl]
    · rw [List.getElem?_set_ne (Ne.symm e), fl_get hi, if_neg e]
  · rw [List.getElem?_eq_none (by rw [List.length_set, fl_len]; omega), List.getElem?_eq_none (by rw [fl_len]; omega)]
theorem fl_rep (n : Nat) : (List.replicate n [V.int (-1)]).flatten = fl n fun _ => -1 := by
  apply List.ext_getElem?
  intro i
  have e : (List.replicate n [V.int (-1)]).flatten = List.replicate n (V.int (-1)) := by simp
  rw [e]
  by_cases hi : i < n
  · rw [fl_get hi, List.getElem?_replicate, if_pos hi]
  · rw [List.getElem?_eq_none (by rw [List.length_replicate]; omega), List.getElem?_eq_none (by rw [fl_len]; omega)]
theorem ixn {n k : Nat} (h : k < n) : ixN n (k : Int) = some k := by
  unfold ixN
  rw [if_pos (by omega), if_pos (by omega)]
  simp
/-- the rows stand there as tuples -/
def Rows (H : Hp) (xs : List V) (rs : List RowD) : Prop := xs.length = rs.length ∧ ∀ (i : Nat) (r : RowD), rs[i]? = some r → ∃ x, xs[i]? = some x ∧ TRow H x r
theorem Rows.same {H H' : Hp} {xs : List V} {rs : List RowD} (s : Same H H') (h : Rows H xs rs) : Rows H' xs rs := ⟨h.1, fun i r e => by
  obtain ⟨x, h1, h2⟩ := h.2 i r e
  exact ⟨x, h1, h2.same s⟩⟩
def wordOf : RowD → Str
  | .ask _ _ => "ask"
  | .go _ => "go"
  | .fin _ => "end"
theorem TRow.head {H : Hp} {v : V} {r : RowD} (h : TRow H v r) : ∃ a xs, v = .ref a ∧ H a = some (.tup (.str (wordOf r) :: xs)) := by
  cases r with
  | ask op ns =>
    obtain ⟨a, t, e, h1, _⟩ := h
    exact ⟨a, _, e, h1⟩
  | go n =>
    obtain ⟨a, e, h1⟩ := h
    exact ⟨a, _, e, h1⟩
  | fin w =>
    obtain ⟨a, e, h1⟩ := h
    exact ⟨a, _, e, h1⟩
def spStops : Sp := fun vs H Q _ => ∃ (a : Addr) (xs : List V) (rs : List RowD), vs = [.ref a] ∧ H a = some (.lst xs) ∧ Rows H xs rs ∧ GoOk rs ∧ rs.length ≤ 100000 ∧ New H (.lst (fl rs.length fun i => (stp rs i : Int))) Q
/-- what holds ahead of the turn b of stops_of -/
structure StB (rs : List RowD) (b : Nat) (ss ws : Nat → Int) : Prop where
  any : ∀ i, i < rs.length → ss i = -1 ∨ ss i = stp rs i
  done : ∀ i, i < b → ss i = stp rs i
  ws : ∀ i, i < rs.length → ws i < b
/-- what holds within the walk from b, behind k steps -/
structure InW (rs : List RowD) (b k : Nat) (ss ws : Nat → Int) : Prop where
  go : ∀ j, j < k → isGo rs (way rs j b) = true
  new : ∀ j, j < k → ss (way rs j b) = -1
  mark : ∀ i, i < rs.length → (ws i = b ↔ ∃ j, j < k ∧ way rs j b = i)
  le : ∀ i, i < rs.length → ws i ≤ b
  ne : ∀ j j', j < j' → j' < k → way rs j b ≠ way rs j' b
/-- the walk's test -/
def goOn (rs : List RowD) (b k : Nat) (ss ws : Nat → Int) : Bool := decide (ss (way rs k b) < 0) && (!decide (ws (way rs k b) = b) && isGo rs (way rs k b))
theorem InW.room {rs : List RowD} {b k : Nat} {ss ws : Nat → Int} (ok : GoOk rs) (hb : b < rs.length) (w : InW rs b k ss ws) (h : ws (way rs k b) ≠ b) : k < rs.length := by
  have lt : ∀ j, way rs j b < rs.length := fun j => Mach.itr_lt (nxt_lt ok) j b hb
  have nd : ((List.range (k + 1)).map fun j => way rs j b).Nodup := by
    rw [List.Nodup, List.pairwise_map]
    refine List.Pairwise.imp_of_mem (fun {i j} hi hj l e => ?_) List.pairwise_lt_range
    have hj' := List.mem_range.mp hj
    by_cases q : j = k
    · subst q
      exact h (((w.mark _ (lt _)).mpr ⟨i, l, e⟩))
    · exact w.ne i j l (by omega) e
  have := Mach.pigeon _ _ nd (fun x hx => by
    obtain ⟨j, _, e⟩ := List.mem_map.mp hx
    rw [← e]
    exact lt j)
  rw [List.length_map, List.length_range] at this
  omega
theorem InW.more {rs : List RowD} {b k : Nat} {ss ws : Nat → Int} (ok : GoOk rs) (hb : b < rs.length) (w : InW rs b k ss ws) (h0 : ss (way rs k b) = -1) (h1 : ws (way rs k b) ≠ b) (h2 : isGo rs (way rs k b) = true) :
    InW rs b (k + 1) ss (fun i => if i = way rs k b then (b : Int) else ws i) := by
  have lt : ∀ j, way rs j b < rs.length := fun j => Mach.itr_lt (nxt_lt ok) j b hb
  refine ⟨fun j hj => ?_, fun j hj => ?_, fun i hi => ?_, fun i hi => ?_, fun j j' l hj e => ?_⟩
  · by_cases q : j = k
    · rw [q]
      exact h2
    · exact w.go j (by omega)
  · by_cases q : j = k
    · rw [q]
      exact h0
    · exact w.new j (by omega)
  · by_cases q : i = way rs k b
    · rw [if_pos q]
      exact ⟨fun _ => ⟨k, by omega, q.symm⟩, fun _ => rfl⟩
    · rw [if_neg q, w.mark i hi]
      constructor
      · rintro ⟨j, hj, e⟩
        exact ⟨j, by omega, e⟩
      · rintro ⟨j, hj, e⟩
        refine ⟨j, ?_, e⟩
        by_cases z : j = k
        · rw [z] at e
          exact absurd e.symm q
        · omega
  · show (if i = way rs k b then (b : Int) else ws i) ≤ b
    split
    · exact Int.le_refl _
    · exact w.le i hi
  · by_cases q : j' = k
    · subst q
      exact h1 (((w.mark _ (lt _)).mpr ⟨j, l, e⟩))
    · exact w.ne j j' l (by omega) e
/-- where the walk ends, what rest_of hands back is where it rests -/
theorem InW.rest {rs : List RowD} {b k : Nat} {ss ws : Nat → Int} (ok : GoOk rs) (hb : b < rs.length) (w : InW rs b k ss ws) (any : ∀ i, i < rs.length → ss i = -1 ∨ ss i = stp rs i) (hend : goOn rs b k ss ws = false) (neg : ss (way rs k b) < 0) {m : Int}
    (h : RestIs ((List.range k).map fun j => (way rs j b : Int)) (way rs k b : Int) m) : m = stp rs (way rs k b) := by
  have lt : ∀ j, way rs j b < rs.length := fun j => Mach.itr_lt (nxt_lt ok) j b hb
  by_cases mk : ws (way rs k b) = b
  · obtain ⟨j, hj, e⟩ := (w.mark _ (lt k)).mp mk
    have hget : ∀ i, i < k → ((List.range k).map fun j => (way rs j b : Int))[i]? = some (way rs i b : Int) := fun i hi => by
      rw [List.getElem?_map, List.getElem?_range hi]
      rfl
    obtain ⟨h1, h2⟩ := h.2 j (by rw [hget j hj, e]) (fun i hi z => by
      rw [hget i (by omega)] at z
      have z2 : (way rs i b : Int) = (way rs k b : Int) := Option.some.inj z
      exact w.ne i j hi hj (by omega))
    have hmem : ∀ x, x ∈ ((List.range k).map fun j => (way rs j b : Int)).drop j ↔ ∃ i, i < k - j ∧ x = (way rs i (way rs k b) : Int) := fun x => by
      have ee : ∀ i, way rs (j + i) b = way rs i (way rs k b) := fun i => by
        rw [← e]
        exact Mach.itr_add _ j i b
      constructor
      · intro hx
        obtain ⟨i, hi⟩ := List.mem_iff_getElem?.mp hx
        rw [List.getElem?_drop] at hi
        have hik : j + i < k := by
          have := (List.getElem?_eq_some_iff.mp hi).1
          simpa using this
        rw [hget _ hik] at hi
        have z : (way rs (j + i) b : Int) = x := Option.some.inj hi
        refine ⟨i, by omega, ?_⟩
        rw [← ee i]
        exact z.symm
      · rintro ⟨i, hi, rfl⟩
        refine List.mem_iff_getElem?.mpr ⟨i, ?_⟩
        rw [List.getElem?_drop, hget _ (by omega), ee i]
    obtain ⟨i0, hi0, e0⟩ := (hmem m).mp h1
    have st : stp rs (way rs k b) = way rs i0 (way rs k b) := by
      refine Mach.stop_ring (nxt_lt ok) (lt k) (m := k - j) (by omega) ?_ ⟨i0, hi0, rfl⟩ fun i hi => ?_
      · show way rs (k - j) (way rs k b) = way rs k b
        conv => lhs; rw [← e]
        show Mach.itr (nxt rs) (k - j) (Mach.itr (nxt rs) j b) = Mach.itr (nxt rs) k b
        rw [← Mach.itr_add]
        congr 1
        omega
      · have := h2 _ ((hmem _).mpr ⟨i, hi, rfl⟩)
        rw [e0] at this
        exact Int.ofNat_le.mp this
    rw [st]
    exact e0
  · have ng : isGo rs (way rs k b) = false := by
      unfold goOn at hend
      rw [decide_eq_true neg, decide_eq_false mk, Bool.true_and] at hend
      simpa using hend
    have hn : (way rs k b : Int) ∉ ((List.range k).map fun j => (way rs j b : Int)) := fun hx => by
      obtain ⟨j, hj, e⟩ := List.mem_map.mp hx
      have e2 : way rs j b = way rs k b := by omega
      have g := w.go j (List.mem_range.mp hj)
      rw [e2, ng] at g
      cases g
    rw [h.1 hn]
    have : stp rs (way rs k b) = way rs k b := Mach.stop_fix (nxt_lt ok) (lt k) (nxt_fix ng)
    rw [this]
end Mine

set_option maxRecDepth 100000
set_option maxHeartbeats 4000000
namespace Mine
open PySem L2
/-- both lists of marks stand there -/
structure At (H0 : Hp) (sa wa : Addr) (n : Nat) (ss ws : Nat → Int) (H : Hp) : Prop where
  same : Same H0 H
  s : H sa = some (.lst (fl n ss))
  w : H wa = some (.lst (fl n ws))
  ns : H0 sa = none
  nw : H0 wa = none
  ne : sa ≠ wa
theorem same_updN {H H' : Hp} {p : Addr} {o : HO} (s : Same H H') (n : H p = none) : Same H (upd H' p o) := fun b u e => by
  rw [upd_ne (ne_of_none e n)]
  exact s b u e
theorem At.go {H0 H H' : Hp} {sa wa : Addr} {n : Nat} {ss ws : Nat → Int} (t : At H0 sa wa n ss ws H) (s : Same H H') : At H0 sa wa n ss ws H' := ⟨t.same.trans s, s _ _ t.s, s _ _ t.w, t.ns, t.nw, t.ne⟩
def set1 (f : Nat → Int) (k : Nat) (v : Int) : Nat → Int := fun i => if i = k then v else f i
theorem At.setW {H0 H : Hp} {sa wa : Addr} {n k : Nat} {ss ws : Nat → Int} {v : Int} (t : At H0 sa wa n ss ws H) (h : k < n) : At H0 sa wa n ss (set1 ws k v) (upd H wa (.lst ((fl n ws).set k (V.int v)))) := by
  refine ⟨same_updN t.same t.nw, ?_, ?_, t.ns, t.nw, t.ne⟩
  · rw [upd_ne t.ne]
    exact t.s
  · rw [upd_same, fl_set h]
    rfl
theorem At.setS {H0 H : Hp} {sa wa : Addr} {n k : Nat} {ss ws : Nat → Int} {v : Int} (t : At H0 sa wa n ss ws H) (h : k < n) : At H0 sa wa n (set1 ss k v) ws (upd H sa (.lst ((fl n ss).set k (V.int v)))) := by
  refine ⟨same_updN t.same t.ns, ?_, ?_, t.ns, t.nw, t.ne⟩
  · rw [upd_same, fl_set h]
    rfl
  · rw [upd_ne (Ne.symm t.ne)]
    exact t.w
/-- a third list, made behind both -/
theorem At.other {H0 H : Hp} {sa wa ta : Addr} {n : Nat} {ss ws : Nat → Int} {o : HO} (t : At H0 sa wa n ss ws H) (h0 : H0 ta = none) (h1 : ta ≠ sa) (h2 : ta ≠ wa) : At H0 sa wa n ss ws (upd H ta o) := by
  refine ⟨same_updN t.same h0, ?_, ?_, t.ns, t.nw, t.ne⟩
  · rw [upd_ne (Ne.symm h1)]
    exact t.s
  · rw [upd_ne (Ne.symm h2)]
    exact t.w
theorem none_of {H H' : Hp} {p : Addr} (s : Same H H') (h : H' p = none) : H p = none := by
  cases e : H p with
  | none => rfl
  | some u =>
    rw [s _ _ e] at h
    cases h
def Up (rs : List RowD) (ss ss' : Nat → Int) : Prop := ∀ i, i < rs.length → ss' i = ss i ∨ ss' i = stp rs i
theorem Up.refl (rs : List RowD) (ss : Nat → Int) : Up rs ss ss := fun _ _ => .inl rfl
theorem Up.set {rs : List RowD} {ss ss' : Nat → Int} (u : Up rs ss ss') (k : Nat) : Up rs ss (set1 ss' k (stp rs k)) := fun i hi => by
  unfold set1
  by_cases e : i = k
  · rw [if_pos e, e]
    exact .inr rfl
  · rw [if_neg e]
    exact u i hi
theorem set1_same (f : Nat → Int) (k : Nat) (v : Int) : set1 f k v k = v := if_pos rfl
theorem Up.done {rs : List RowD} {ss ss' : Nat → Int} (u : Up rs ss ss') {i : Nat} (hi : i < rs.length) (h : ss i = stp rs i) : ss' i = stp rs i := (u i hi).elim (fun e => e.trans h) id
theorem Up.any {rs : List RowD} {ss ss' : Nat → Int} (u : Up rs ss ss') {i : Nat} (hi : i < rs.length) (h : ss i = -1 ∨ ss i = stp rs i) : ss' i = -1 ∨ ss' i = stp rs i := (u i hi).elim (fun e => by rw [e]; exact h) .inr
theorem set1_done {rs : List RowD} {ss : Nat → Int} {i : Nat} (h : ss i = stp rs i) (k : Nat) : set1 ss k (stp rs k) i = stp rs i := by
  unfold set1
  by_cases e : i = k
  · rw [if_pos e, e]
  · rw [if_neg e]
    exact h
theorem ask_go : ("ask" : Str) ≠ "go" := by decide +kernel
theorem end_go : ("end" : Str) ≠ "go" := by decide +kernel
theorem go_dec {rs : List RowD} {i : Nat} {r : RowD} (e : rs[i]? = some r) : decide (V.str (wordOf r) = V.str "go") = isGo rs i := by
  unfold isGo
  rw [e]
  cases r with
  | ask op ns => exact strNe ask_go
  | go k => exact strEq _
  | fin x => exact strNe end_go
theorem isGo_row {rs : List RowD} {i : Nat} (h : isGo rs i = true) : ∃ k, rs[i]? = some (.go k) := by
  unfold isGo at h
  split at h
  · rename_i k e
    exact ⟨k, e⟩
  · cases h
theorem InW.start {rs : List RowD} {b : Nat} {ss ws : Nat → Int} (t : StB rs b ss ws) : InW rs b 0 ss ws :=
  ⟨fun j hj => absurd hj (Nat.not_lt_zero _), fun j hj => absurd hj (Nat.not_lt_zero _), fun i hi => ⟨fun e => by have := t.ws i hi; omega, fun ⟨j, hj, _⟩ => absurd hj (Nat.not_lt_zero _)⟩, fun i hi => Int.le_of_lt (t.ws i hi), fun j j' _ hj => absurd hj (Nat.not_lt_zero _)⟩
theorem di {i j : Int} : decide (V.int i = V.int j) = decide (i = j) := by
  by_cases h : i = j
  · rw [decide_eq_true h, h]
    exact decide_eq_true rfl
  · rw [decide_eq_false h]
    exact decide_eq_false fun z => h (V.int.inj z)
theorem range_snoc (f : Nat → V) (k : Nat) : (List.range (k + 1)).map f = (List.range k).map f ++ [f k] := by
  rw [List.range_succ, List.map_append]
  rfl
theorem pt_imp {X : Cx} {e : Expr} {t t' : TT} (h : PT X e t) (m : ∀ σ H Q, t' σ H Q → t σ H Q) : PT X e t' := ⟨fun pins s σ H Q I q => h.run pins s σ H Q I (m σ H Q q)⟩
theorem ps_imp {X : Cx} {e : Stmt} {t t' : TS} (h : PS X e t) (m : ∀ D σ H, t' D σ H → t D σ H) : PS X e t' := ⟨fun pins s σ H D I q => h.run pins s σ H D I (m D σ H q)⟩
/-- the walk's test, as it is read -/
def tOn : TT := fun σ H Q => ∃ (a sa wa : Addr) (xs : List V) (rs : List RowD) (b k : Nat) (ss ws : Nat → Int) (v4 v6 : Option V), σ = [some (.ref a), some (.ref sa), some (.ref wa), some (.int b), v4, some (.int (way rs k b : Int)), v6] ∧
  H a = some (.lst xs) ∧ Rows H xs rs ∧ H sa = some (.lst (fl rs.length ss)) ∧ H wa = some (.lst (fl rs.length ws)) ∧ way rs k b < rs.length ∧ Q (goOn rs b k ss ws) H
theorem Rows.at {H : Hp} {xs : List V} {rs : List RowD} (r : Rows H xs rs) {i : Nat} (hi : i < rs.length) : ∃ (q : Addr) (zs : List V) (d : RowD), rs[i]? = some d ∧ xs[i]? = some (.ref q) ∧ TRow H (.ref q) d ∧ H q = some (.tup (.str (wordOf d) :: zs)) := by
  obtain ⟨x, h1, h2⟩ := r.2 i _ (List.getElem?_eq_getElem hi)
  obtain ⟨q, zs, rfl, h3⟩ := h2.head
  exact ⟨q, zs, _, List.getElem?_eq_getElem hi, h1, h2, h3⟩
/-- where the walk rests is set, if it is not known -/
def tSettle : TS := fun D σ H => ∃ (H0 : Hp) (sa wa ta : Addr) (rs : List RowD) (b k : Nat) (ss ws : Nat → Int) (v0 v6 : Option V), σ = [v0, some (.ref sa), some (.ref wa), some (.int b), some (.ref ta), some (.int (way rs k b : Int)), v6] ∧
  GoOk rs ∧ b < rs.length ∧ At H0 sa wa rs.length ss ws H ∧ ta ≠ sa ∧ H ta = some (.lst ((List.range k).map fun j => V.int (way rs j b : Int))) ∧ (∀ i, i < rs.length → ss i = -1 ∨ ss i = stp rs i) ∧ InW rs b k ss ws ∧ goOn rs b k ss ws = false ∧
  ∀ (ss' : Nat → Int) (H' : Hp), At H0 sa wa rs.length ss' ws H' → H' ta = some (.lst ((List.range k).map fun j => V.int (way rs j b : Int))) → Up rs ss ss' → ss' (way rs k b) = stp rs (way rs k b) → D.nx σ H'
section
variable {P : Program} {w : World} {K : PySem.W.Frag} {mg : Str → Option Value} {base : Heap}
variable {fII fIW a_rest : Addr}
theorem sc_stops_of : FnScope ["lines", "stops", "walks", "begin", "trail", "at", "passed"] ["lines"] (defScope s_stops_of) := ⟨rfl, rfl, rfl, by decide +kernel, rfl, by decide +kernel, by decide +kernel⟩
theorem ok_stops_of {f : Addr} {fd fd_rest : FuncData} (F : Fun K "stops_of" "stops_of" s_stops_of f fd) (T : TxtF K mg fII fIW) (h_range : mg "range" = none)
    (GR : FnOk P w K mg base CX0 1 a_rest fd_rest ["trail", "at"] (spRest K)) (b_rest : Binds K fd_rest ["trail", "at"] []) (g_rest : mg "rest_of" = some (.ref a_rest)) (k_rest : PySem.W.keepIn K (.ref a_rest) = true) : FnOk P w K mg base CX0 2 f fd ["lines"] spStops := by
  refine F.ok sc_stops_of (fun vs H Q E h => ?_) (fun cdv A outer s H vs Q E hr h => ?_)
  · obtain ⟨a, xs, rs, rfl, _⟩ := h
    rfl
  · obtain ⟨a, xs, rs, rfl, ha, rows, ok, big, k⟩ := h
    refine ⟨_, (pss_cons (ps_set (i := 1) sc_stops_of.nd rfl (Or.inl rfl) (pe_op op_repG (pe_lstG (pa_cons (pe_un un_neg pe_int) pa_nil)) (pe_callB call_len_seq (by rfl) T.b_len PySem.boot_len (pa_cons (pv 0) pa_nil))))
      (pss_cons (ps_set (i := 2) sc_stops_of.nd rfl (Or.inl rfl) (pe_op op_repG (pe_lstG (pa_cons (pe_un un_neg pe_int) pa_nil)) (pe_callB call_len_seq (by rfl) T.b_len PySem.boot_len (pa_cons (pv 0) pa_nil))))
      (pss_cons (ps_for PassesOwn.never rfl (pi_range1 (by rfl) h_range (pa_cons (pe_callB call_len_seq (by rfl) T.b_len PySem.boot_len (pa_cons (pv 0) pa_nil)) pa_nil)) (pg_name (i := 3) sc_stops_of.nd rfl (Or.inl rfl)) (pss_cons (ps_set (i := 4) sc_stops_of.nd rfl (Or.inl rfl) (pe_lstG pa_nil))
      (pss_cons (ps_set (i := 5) sc_stops_of.nd rfl (Or.inl rfl) (pv 3))
      (pss_cons (ps_while PassesOwn.never (pt_imp (t' := tOn) (PW.pt (pw_and (pt_cmpR op_lt (pe_ix ix_list (pv 1) (pv 5) (fun _ _ => rfl)) pe_int (nomark _)) (pw_and (pt_cmpR op_ne (pe_ix ix_list (pv 2) (pv 5) (fun _ _ => rfl)) (pv 3) (nomark _)) (pw_and1 (pt_cmpR op_eq (pe_ix ix_tup (pe_ix ix_list (pv 0) (pv 5) (fun _ _ => rfl)) pe_int (fun _ _ => rfl)) pe_str (nomark _)))))) (fun σ H Q q => by
      obtain ⟨a, sa, wa, xs, rs, b, k, ss, ws, v4, v6, rfl, ha, rows, hs, hw, lt, q⟩ := q
      obtain ⟨p, zs, d, ed, hx, _, hp⟩ := rows.at lt
      refine ⟨_, rfl, _, rfl, sa, _, _, _, rfl, rfl, SqL.of hs, fl_at lt, _, _, rfl, rfl, _, rfl, ?_⟩
      refine ite2 (fun h1 => ?_) (fun h1 => ?_)
      · refine ⟨_, rfl, _, rfl, wa, _, _, _, rfl, rfl, SqL.of hw, fl_at lt, _, rfl, rfl, _, rfl, ?_⟩
        rw [di]
        refine ite2 (fun h2 => ?_) (fun h2 => ?_)
        · refine ⟨_, rfl, _, rfl, a, xs, _, _, rfl, rfl, SqL.of ha, atI_nat hx, p, _, _, _, rfl, rfl, .inl (.inl hp), at0', rfl, _, rfl, ?_⟩
          rw [go_dec ed]
          have e : goOn rs b k ss ws = isGo rs (way rs k b) := by
            unfold goOn
            rw [h1, h2]
            rfl
          rw [e] at q
          exact q
        · have e : goOn rs b k ss ws = false := by
            unfold goOn
            rw [h1, Bool.eq_false_iff.mpr h2]
            rfl
          rw [e] at q
          exact q
      · have e : goOn rs b k ss ws = false := by
          unfold goOn
          rw [Bool.eq_false_iff.mpr h1]
          rfl
        rw [e] at q
        exact q)) (pss_cons (ps_asg (pv 3) (pg_sub (pv 2) (pv 5) set_list))
      (pss_cons (ps_expr (pe_bm PySem.F.plainAttrs_list PySem.F.slot_list_append PySem.F.type_list_append mt_append (pv 4) (pa_cons (pv 5) pa_nil)))
      (pss_one (ps_set (i := 5) sc_stops_of.nd rfl (Or.inl rfl) (pe_ix ix_tup (pe_ix ix_list (pv 0) (pv 5) (fun _ _ => rfl)) pe_int (fun _ _ => rfl)))))))
      (pss_cons (ps_imp (t' := tSettle) (ps_if (pt_cmpR op_lt (pe_ix ix_list (pv 1) (pv 5) (fun _ _ => rfl)) pe_int (nomark _)) (pss_one (ps_asg (pe_call GR (hr.mono (by decide)) (by rfl) g_rest k_rest b_rest .nil pass0 (pa_cons (pv 4) (pa_cons (pv 5) pa_nil))) (pg_sub (pv 1) (pv 5) set_list))) pss_nil) (fun D σ H q => by
      obtain ⟨H0, sa, wa, ta, rs, b, k, ss, ws, v0, v6, rfl, ok, hb, t, tas, et, any, iw, ge, kk⟩ := q
      have lt : way rs k b < rs.length := Mach.itr_lt (nxt_lt ok) k b hb
      refine ⟨_, rfl, _, rfl, sa, _, _, _, rfl, rfl, SqL.of t.s, fl_at lt, _, _, rfl, rfl, _, rfl, ?_⟩
      refine ite2 (fun h1 => ?_) (fun h1 => ?_)
      · refine ⟨_, rfl, _, rfl, ta, (List.range k).map fun j => (way rs j b : Int), _, rfl, by rw [et, List.map_map]; rfl, fun m H' s1 rest => ?_⟩
        refine ⟨_, rfl, _, rfl, sa, _, _, way rs k b, rfl, rfl, s1 _ _ t.s, by rw [fl_len]; exact ixn lt, ?_⟩
        have e := iw.rest ok hb any ge (of_decide_eq_true h1) rest
        subst e
        exact kk _ _ ((t.go s1).setS lt) (by rw [upd_ne tas]; exact s1 _ _ et) ((Up.refl _ _).set _) (set1_same _ _ _)
      · exact kk ss H t et (Up.refl _ _) ((any _ lt).elim (fun z => absurd (decide_eq_true (by omega)) h1) id)))
      (pss_one (ps_for PassesOwn.never rfl (pi_list (pv 4)) (pg_name (i := 6) sc_stops_of.nd rfl (Or.inl rfl)) (pss_one (ps_asg (pe_ix ix_list (pv 1) (pv 5) (fun _ _ => rfl)) (pg_sub (pv 1) (pv 6) set_list))))))))))
      (pss_one (ps_ret (pv 1)))))), ?_⟩
    have hl : (xs.length : Int) = rs.length := by rw [rows.1]
    have one : ∀ v : V, [v].length ≤ sizeLine := fun v => by rw [sizeLine_eq]; exact Nat.succ_le_of_lt (by decide)
    refine ⟨_, rfl, one _, fun p0 H1 n0 s1 e0 => ?_⟩
    have room : ∀ v : V, [v].length * (xs.length : Int).toNat ≤ sizeLine := fun v => by
      rw [sizeLine_eq, Int.toNat_natCast]
      have := rows.1
      show 1 * xs.length ≤ _
      omega
    refine ⟨_, rfl, a, xs, rfl, .inl (SqL.of (s1 _ _ ha)), ?_⟩
    refine ⟨p0, _, _, rfl, rfl, e0, by omega, by omega, room _, fun sa H2 n2 s2 e2 => ?_⟩
    refine ⟨_, rfl, one _, fun p1 H3 n3 s3 e3 => ?_⟩
    refine ⟨_, rfl, a, xs, rfl, .inl (SqL.of (s3 _ _ (s2 _ _ (s1 _ _ ha)))), ?_⟩
    refine ⟨p1, _, _, rfl, rfl, e3, by omega, by omega, room _, fun wa H4 n4 s4 e4 => ?_⟩
    have nsa : H sa = none := none_of s1 n2
    have nwa : H wa = none := none_of (s1.trans (s2.trans s3)) n4
    have nea : sa ≠ wa := fun z => by
      rw [← z, s3 _ _ e2] at n4
      cases n4
    have at0 : At H sa wa rs.length (fun _ => -1) (fun _ => -1) H4 := by
      refine ⟨s1.trans (s2.trans (s3.trans s4)), ?_, ?_, nsa, nwa, nea⟩
      · rw [s4 _ _ (s3 _ _ e2), Int.toNat_natCast, rows.1]
        exact congrArg (fun z => some (HO.lst z)) (fl_rep _)
      · rw [e4, Int.toNat_natCast, rows.1]
        exact congrArg (fun z => some (HO.lst z)) (fl_rep _)
    refine ⟨_, rfl, a, xs, rfl, .inl (SqL.of (s4 _ _ (s3 _ _ (s2 _ _ (s1 _ _ ha))))), ?_⟩
    rw [rows.1]
    refine ⟨_, rfl, by omega, by omega, for_range (n := rs.length) (fun b σ H' => ∃ (ss ws : Nat → Int) (v3 v4 v5 v6 : Option V), σ = [some (.ref a), some (.ref sa), some (.ref wa), v3, v4, v5, v6] ∧ At H sa wa rs.length ss ws H' ∧ StB rs b ss ws) ?_ (fun b σ H' hb z => ?_) (fun σ H' z => ?_)⟩
    · exact ⟨_, _, _, _, _, _, rfl, at0, fun _ _ => .inl rfl, fun i hi => absurd hi (Nat.not_lt_zero _), fun i hi => by show (-1 : Int) < 0; decide⟩
    · obtain ⟨ss, ws, v3, v4, v5, v6, rfl, t, stb⟩ := z
      have lt : ∀ j, way rs j b < rs.length := fun j => Mach.itr_lt (nxt_lt ok) j b hb
      have rowsIn : ∀ {H''}, Same H H'' → Rows H'' xs rs := fun s => rows.same s
      rw [Int.zero_add]
      refine ⟨Nat.zero_le _, fun ta H5 n5 s5 e5 => ?_⟩
      have t5 := t.go s5
      have nta : H ta = none := none_of t.same n5
      have tas : ta ≠ sa := fun z => by
        rw [z, t.s] at n5
        cases n5
      have taw : ta ≠ wa := fun z => by
        rw [z, t.w] at n5
        cases n5
      refine ⟨_, rfl, ?_⟩
      refine ⟨fun m σ H' => ∃ (k : Nat) (ws' : Nat → Int), m = rs.length - k ∧ σ = [some (.ref a), some (.ref sa), some (.ref wa), some (.int b), some (.ref ta), some (.int (way rs k b : Int)), v6] ∧ At H sa wa rs.length ss ws' H' ∧ H' ta = some (.lst ((List.range k).map fun j => V.int (way rs j b : Int))) ∧ InW rs b k ss ws', ⟨_, 0, ws, rfl, rfl, t5, e5, InW.start stb⟩, ?_⟩
      rintro m σ H' ⟨k', ws', rfl, rfl, t', et, iw⟩
      refine ⟨a, sa, wa, xs, rs, b, k', ss, ws', _, _, rfl, t'.same _ _ ha, rowsIn t'.same, t'.s, t'.w, lt k', ?_⟩
      refine ite2 (fun g => ?_) (fun g => ?_)
      · have g1 : ws' (way rs k' b) ≠ b ∧ isGo rs (way rs k' b) = true ∧ ss (way rs k' b) < 0 := by
          unfold goOn at g
          simp only [Bool.and_eq_true, decide_eq_true_eq, Bool.not_eq_true', decide_eq_false_iff_not] at g
          exact ⟨g.2.1, g.2.2, g.1⟩
        obtain ⟨g1, g2, g3⟩ := g1
        have g4 : ss (way rs k' b) = -1 := (stb.any _ (lt k')).elim id fun z => by omega
        obtain ⟨kk, hkk⟩ := isGo_row g2
        refine ⟨fun σ' H'' => ∃ ws'', σ' = [some (.ref a), some (.ref sa), some (.ref wa), some (.int b), some (.ref ta), some (.int (way rs (k' + 1) b : Int)), v6] ∧ At H sa wa rs.length ss ws'' H'' ∧ H'' ta = some (.lst ((List.range (k' + 1)).map fun j => V.int (way rs j b : Int))) ∧ InW rs b (k' + 1) ss ws'', fun σ' H'' ⟨ws'', z1, z2, z3, z4⟩ => ⟨rs.length - (k' + 1), by have := iw.room ok hb g1; omega, k' + 1, ws'', rfl, z1, z2, z3, z4⟩, ?_⟩
        refine ⟨_, rfl, _, rfl, _, rfl, wa, _, _, way rs k' b, rfl, rfl, t'.w, by rw [fl_len]; exact ixn (lt k'), ?_⟩
        have t2 := t'.setW (v := (b : Int)) (lt k')
        have et2 : upd H' wa (.lst ((fl rs.length ws').set (way rs k' b) (V.int b))) ta = some (.lst ((List.range k').map fun j => V.int (way rs j b : Int))) := by
          rw [upd_ne taw]
          exact et
        refine ⟨_, rfl, .inl ⟨rfl, _, SqL.of et2⟩, _, rfl, ta, _, _, rfl, rfl, et2, by rw [List.length_map, List.length_range, sizeLine_eq]; have := iw.room ok hb g1; omega, ?_⟩
        have t3 := t2.other (o := .lst ((List.range k').map (fun j => V.int (way rs j b : Int)) ++ [V.int (way rs k' b : Int)])) nta tas taw
        obtain ⟨x, hx1, hx2⟩ := rows.2 _ _ hkk
        obtain ⟨q, rfl, hq⟩ := hx2
        refine ⟨_, rfl, _, rfl, a, xs, _, _, rfl, rfl, SqL.of (t3.same _ _ ha), atI_nat hx1, q, _, _, _, rfl, rfl, .inl (.inl (t3.same _ _ hq)), at1', ?_⟩
        have e1 : kk = (way rs (k' + 1) b : Int) := by
          have : way rs (k' + 1) b = nxt rs (way rs k' b) := Mach.itr_succ _ _ _
          rw [this]
          unfold nxt
          rw [hkk]
          have := ok _ _ hkk
          show kk = (kk.toNat : Int)
          omega
        refine ⟨_, ?_, t3, ?_, iw.more ok hb g4 g1 g2⟩
        · rw [e1]
          rfl
        · rw [upd_same, range_snoc]
      · refine ⟨H, sa, wa, ta, rs, b, k', ss, ws', _, _, rfl, ok, hb, t', tas, et, stb.any, iw, Bool.eq_false_iff.mpr g, fun ss1 H6 t6 et6 up6 st6 => ?_⟩
        have stw : ∀ i, stp rs (way rs i b) = stp rs b := fun i => stp_way ok i b hb
        refine ⟨_, rfl, ta, rfl, ⟨_, SqL.of et6⟩, for_list (K := K) (a := ta) (xs := (List.range k').map fun j => V.int (way rs j b : Int)) (fun j σ H7 => ∃ (ss2 : Nat → Int) (v6 : Option V), σ = [some (.ref a), some (.ref sa), some (.ref wa), some (.int b), some (.ref ta), some (.int (way rs k' b : Int)), v6] ∧ At H sa wa rs.length ss2 ws' H7 ∧ H7 ta = some (.lst ((List.range k').map fun j => V.int (way rs j b : Int))) ∧ Up rs ss ss2 ∧ ss2 (way rs k' b) = stp rs b ∧ ∀ i, i < j → ss2 (way rs i b) = stp rs b)
          ⟨ss1, _, rfl, t6, et6, up6, by rw [st6, stw], fun i hi => absurd hi (Nat.not_lt_zero _)⟩ (fun i σ H7 _ z => by obtain ⟨_, _, _, _, z, _⟩ := z; exact SqL.of z) (fun j x σ H7 hx z => ?_) (fun σ H7 z => ?_)⟩
        · obtain ⟨ss2, w6, rfl, t7, et7, up7, st7, dn7⟩ := z
          have hj : j < k' := by
            have := (List.getElem?_eq_some_iff.mp hx).1
            rw [List.length_map, List.length_range] at this
            exact this
          rw [List.getElem?_map, List.getElem?_range hj] at hx
          have hx2 : V.int (way rs j b : Int) = x := Option.some.inj hx
          subst hx2
          refine ⟨_, rfl, _, rfl, sa, _, _, _, rfl, rfl, SqL.of t7.s, fl_at (lt k'), _, rfl, _, rfl, sa, _, _, way rs j b, rfl, rfl, t7.s, by rw [fl_len]; exact ixn (lt j), ?_⟩
          rw [st7]
          refine ⟨set1 ss2 (way rs j b) (stp rs b), _, rfl, t7.setS (lt j), ?_, ?_, ?_, fun i hi => ?_⟩
          · rw [upd_ne tas]
            exact et7
          · have := up7.set (way rs j b)
            rw [stw] at this
            exact this
          · have := set1_done (rs := rs) (ss := ss2) (i := way rs k' b) (by rw [st7, stw]) (way rs j b)
            rw [stw, stw] at this
            exact this
          · by_cases z : i = j
            · rw [z]
              exact set1_same _ _ _
            · have := set1_done (rs := rs) (ss := ss2) (i := way rs i b) (by rw [dn7 i (by omega), stw]) (way rs j b)
              rw [stw, stw] at this
              exact this
        · obtain ⟨ss2, w6, rfl, t7, et7, up7, st7, dn7⟩ := z
          refine ⟨ss2, ws', _, _, _, _, rfl, t7, fun i hi => up7.any hi (stb.any i hi), fun i hi => ?_, fun i hi => ?_⟩
          · by_cases z : i = b
            · subst z
              by_cases k0 : k' = 0
              · subst k0
                exact st7
              · exact dn7 0 (by rw [List.length_map, List.length_range]; omega)
            · exact up7.done (by omega) (stb.done i (by omega))
          · have := iw.le i hi
            omega
    · obtain ⟨ss, ws, v3, v4, v5, v6, rfl, t, stb⟩ := z
      have e : (fl rs.length ss) = fl rs.length fun i => (stp rs i : Int) := List.map_congr_left fun i hi => by rw [stb.done i (List.mem_range.mp hi)]
      exact ⟨_, rfl, k sa H' nsa t.same (by rw [t.s, e])⟩
end
end Mine

set_option maxRecDepth 100000
set_option maxHeartbeats 4000000
namespace Mine
open PySem L2
abbrev s_nexts_of : Stmt := top 35
abbrev s_rests_from : Stmt := top 34
def nextsD : RowD → List Int
  | .ask _ ns => ns
  | _ => []
def targets : RowD → List Int
  | .ask _ ns => ns
  | .go k => [k]
  | .fin _ => []
/-- all rows lead to rows -/
def Fit (rs : List RowD) : Prop := ∀ (i : Nat) (d : RowD), rs[i]? = some d → ∀ n ∈ targets d, 0 ≤ n ∧ n < rs.length
theorem Fit.go {rs : List RowD} (f : Fit rs) : GoOk rs := fun i k e => f i _ e k List.mem_cons_self
theorem Fit.nexts {rs : List RowD} (f : Fit rs) {i : Nat} {d : RowD} (e : rs[i]? = some d) {n : Int} (h : n ∈ nextsD d) : 0 ≤ n ∧ n < rs.length := f i d e n (by cases d <;> first | exact h | exact nomatch h)
def addTo (m : List Nat) (i : Nat) : List Nat := if i ∈ m then m else m ++ [i]
def grow (rs : List RowD) (m : List Nat) (ns : List Int) : List Nat := ns.foldl (fun m n => addTo m (stp rs n.toNat)) m
def metS (rs : List RowD) (m : List Nat) (d : Nat) : List Nat := match m[d]? with
  | some i => grow rs m (match rs[i]? with | some r => nextsD r | none => [])
  | none => m
def metAt (rs : List RowD) (b : Nat) : Nat → List Nat
  | 0 => [stp rs b]
  | d + 1 => metS rs (metAt rs b d) d
/-- the rows of rest that a run can come to, breadth first -/
def metOf (rs : List RowD) (b : Nat) : List Nat := metAt rs b rs.length
theorem stp_lt {rs : List RowD} (h : GoOk rs) {i : Nat} (hi : i < rs.length) : stp rs i < rs.length := Mach.stop_lt (nxt_lt h) hi
/-- no double, all below -/
def Few (n : Nat) (m : List Nat) : Prop := m.Nodup ∧ ∀ x ∈ m, x < n
theorem Few.len {n : Nat} {m : List Nat} (f : Few n m) : m.length ≤ n := Mach.pigeon n m f.1 f.2
theorem Few.add {n i : Nat} {m : List Nat} (f : Few n m) (h : i < n) : Few n (addTo m i) := by
  unfold addTo
  by_cases e : i ∈ m
  · rw [if_pos e]
    exact f
  · rw [if_neg e]
    refine ⟨?_, fun x hx => (List.mem_append.mp hx).elim (f.2 x) fun z => by rw [List.mem_singleton.mp z]; exact h⟩
    rw [List.nodup_append]
    exact ⟨f.1, by simp, fun x hx y hy z => by rw [List.mem_singleton.mp hy] at z; exact e (z ▸ hx)⟩
theorem grow_few {rs : List RowD} (ok : GoOk rs) : ∀ {ns : List Int} {m : List Nat}, Few rs.length m → (∀ n ∈ ns, 0 ≤ n ∧ n < rs.length) → Few rs.length (grow rs m ns)
  | [], _, f, _ => f
  | n :: ns, m, f, h => grow_few ok (ns := ns) (f.add (stp_lt ok (by have := h n List.mem_cons_self; omega))) fun x hx => h x (List.mem_cons_of_mem _ hx)
theorem add_len {m : List Nat} {i : Nat} : m.length ≤ (addTo m i).length := by
  unfold addTo
  split
  · exact Nat.le_refl _
  · rw [List.length_append]
    exact Nat.le_add_right _ _
theorem grow_len {rs : List RowD} : ∀ {ns : List Int} {m : List Nat}, m.length ≤ (grow rs m ns).length
  | [], _ => Nat.le_refl _
  | n :: ns, m => Nat.le_trans add_len (grow_len (ns := ns))
theorem metAt_few {rs : List RowD} (f : Fit rs) {b : Nat} (hb : b < rs.length) : ∀ d, Few rs.length (metAt rs b d)
  | 0 => ⟨by show [stp rs b].Nodup; simp, fun x hx => by rw [List.mem_singleton.mp hx]; exact stp_lt f.go hb⟩
  | d + 1 => by
    have ih := metAt_few f hb d
    show Few _ (metS rs (metAt rs b d) d)
    unfold metS
    split
    · rename_i i e
      refine grow_few f.go ih fun n hn => ?_
      split at hn
      · rename_i r er
        exact f.nexts er hn
      · exact nomatch hn
    · exact ih
theorem metAt_over {rs : List RowD} {b d : Nat} (h : (metAt rs b d).length ≤ d) : ∀ k, metAt rs b (d + k) = metAt rs b d
  | 0 => rfl
  | k + 1 => by
    have ih := metAt_over h k
    show metS rs (metAt rs b (d + k)) (d + k) = _
    rw [ih]
    unfold metS
    rw [List.getElem?_eq_none (by omega)]
theorem metAt_end {rs : List RowD} {b d : Nat} (hd : d ≤ rs.length) (h : (metAt rs b d).length ≤ d) : metAt rs b d = metOf rs b := by
  have := metAt_over h (rs.length - d)
  rw [show d + (rs.length - d) = rs.length by omega] at this
  exact this.symm
theorem metAt_step {rs : List RowD} {b d i : Nat} {r : RowD} (h : (metAt rs b d)[d]? = some i) (hr : rs[i]? = some r) : metAt rs b (d + 1) = grow rs (metAt rs b d) (nextsD r) := by
  show metS rs (metAt rs b d) d = _
  unfold metS
  rw [h]
  show grow rs _ (match rs[i]? with | some r => nextsD r | none => []) = _
  rw [hr]
def natsV (m : List Nat) : List V := m.map fun (i : Nat) => V.int (i : Int)
def knK (m : List Nat) : List (Key × V) := m.map fun (i : Nat) => (Sum.inl (i : Int), V.bl true)
theorem val_kn (m : List Nat) (j : Nat) : (valV (knK m) (.inl (j : Int))).isSome = decide (j ∈ m) := by
  induction m with
  | nil => rfl
  | cons i m ih =>
    by_cases h : i = j
    · subst h
      unfold knK
      rw [List.map_cons, valV_pos rfl]
      simp
    · have h2 : ¬ (Sum.inl (i : Int) : Key) = Sum.inl (j : Int) := fun z => h (by have := Sum.inl.inj z; omega)
      unfold knK at ih ⊢
      rw [List.map_cons, valV_neg h2, ih]
      by_cases q : j ∈ m
      · rw [decide_eq_true q, decide_eq_true (List.mem_cons_of_mem _ q)]
      · rw [decide_eq_false q, decide_eq_false (fun z => (List.mem_cons.mp z).elim (fun y => h y.symm) q)]
/-- both lists of what was met stand there -/
structure MetI (H0 : Hp) (ma ka : Addr) (m : List Nat) (H : Hp) : Prop where
  same : Same H0 H
  em : H ma = some (.lst (natsV m))
  ek : H ka = some (.dK (knK m))
  nm : H0 ma = none
  nk : H0 ka = none
  ne : ma ≠ ka
theorem MetI.go {H0 H H' : Hp} {ma ka : Addr} {m : List Nat} (t : MetI H0 ma ka m H) (s : Same H H') : MetI H0 ma ka m H' := ⟨t.same.trans s, s _ _ t.em, s _ _ t.ek, t.nm, t.nk, t.ne⟩
theorem MetI.put {H0 H : Hp} {ma ka : Addr} {m : List Nat} {i : Nat} (t : MetI H0 ma ka m H) (h : i ∉ m) : MetI H0 ma ka (addTo m i) (upd (upd H ka (.dK (putK (knK m) (.inl (i : Int)) (.bl true)))) ma (.lst (natsV m ++ [.int (i : Int)]))) := by
  have e : addTo m i = m ++ [i] := if_neg h
  refine ⟨same_updN (same_updN t.same t.nk) t.nm, ?_, ?_, t.nm, t.nk, t.ne⟩
  · rw [upd_same, e]
    unfold natsV
    rw [List.map_append]
    rfl
  · rw [upd_ne (Ne.symm t.ne), upd_same, putK_new, e]
    · unfold knK
      rw [List.map_append]
      rfl
    · have := val_kn m i
      rw [decide_eq_false h] at this
      cases q : valV (knK m) (.inl (i : Int)) with
      | none => rfl
      | some v =>
        rw [q] at this
        cases this
def spNextsOf : Sp := fun vs H Q _ => ∃ (q : Addr) (d : RowD), vs = [.ref q] ∧ TRow H (.ref q) d ∧ ∀ (t : Addr) (H' : Hp), Same H H' → H' t = some (.tup ((nextsD d).map V.int)) → Q (.ref t) H'
def spRests : Sp := fun vs H Q _ => ∃ (a sa : Addr) (xs : List V) (rs : List RowD) (b : Nat), vs = [.ref a, .ref sa, .int b] ∧ H a = some (.lst xs) ∧ Rows H xs rs ∧ Fit rs ∧ H sa = some (.lst (fl rs.length fun i => (stp rs i : Int))) ∧ b < rs.length ∧ rs.length ≤ 100000 ∧ New H (.lst (natsV (metOf rs b))) Q
section
variable {P : Program} {w : World} {K : PySem.W.Frag} {mg : Str → Option Value} {base : Heap}
variable {fII fIW a_nexts : Addr}
theorem sc_nexts_of : FnScope ["line"] ["line"] (defScope s_nexts_of) := ⟨rfl, rfl, rfl, by decide +kernel, rfl, by decide +kernel, by decide +kernel⟩
theorem ok_nexts_of {f : Addr} {fd : FuncData} (F : Fun K "nexts_of" "nexts_of" s_nexts_of f fd) : FnOk P w K mg base CX0 1 f fd ["line"] spNextsOf := by
  refine F.ok sc_nexts_of (fun vs H Q E h => ?_) (fun cdv A outer s H vs Q E hr h => ?_)
  · obtain ⟨q, d, rfl, _⟩ := h
    rfl
  · obtain ⟨q, d, rfl, row, k⟩ := h
    refine ⟨_, (pss_cons (ps_if (pt_cmpR op_eq (pe_ix ix_tup (pv 0) pe_int (fun _ _ => rfl)) pe_str (nomark _)) (pss_one (ps_ret (pe_ix ix_tup (pv 0) pe_int (fun _ _ => rfl)))) pss_nil)
      (pss_one (ps_ret (pe_tupG pa_nil)))), ?_⟩
    cases d with
    | ask op ns =>
      obtain ⟨a, t, e, h1, h2⟩ := row
      cases e
      refine ⟨_, rfl, _, _, _, _, rfl, rfl, .inl (.inl h1), at0', rfl, _, rfl, ?_⟩
      rw [strEq]
      refine iteT ?_
      exact ⟨_, rfl, _, _, _, _, rfl, rfl, .inl (.inl h1), at2', k t H (Same.refl _) h2⟩
    | go n =>
      obtain ⟨a, e, h1⟩ := row
      cases e
      refine ⟨_, rfl, _, _, _, _, rfl, rfl, .inl (.inl h1), at0', rfl, _, rfl, ?_⟩
      rw [strNe go_ask]
      refine iteF ?_
      exact ⟨Nat.zero_le _, fun t H' n s e => k t H' s e⟩
    | fin x =>
      obtain ⟨a, e, h1⟩ := row
      cases e
      refine ⟨_, rfl, _, _, _, _, rfl, rfl, .inl (.inl h1), at0', rfl, _, rfl, ?_⟩
      rw [strNe end_ask]
      refine iteF ?_
      exact ⟨Nat.zero_le _, fun t H' n s e => k t H' s e⟩
theorem sc_rests_from : FnScope ["lines", "stops", "begin", "met", "known", "done", "index"] ["lines", "stops", "begin"] (defScope s_rests_from) := ⟨rfl, rfl, rfl, by decide +kernel, rfl, by decide +kernel, by decide +kernel⟩
theorem ok_rests_from {f : Addr} {fd fd_nexts : FuncData} (F : Fun K "rests_from" "rests_from" s_rests_from f fd) (T : TxtF K mg fII fIW)
    (GN : FnOk P w K mg base CX0 1 a_nexts fd_nexts ["line"] spNextsOf) (b_nexts : Binds K fd_nexts ["line"] []) (g_nexts : mg "nexts_of" = some (.ref a_nexts)) (k_nexts : PySem.W.keepIn K (.ref a_nexts) = true) : FnOk P w K mg base CX0 2 f fd ["lines", "stops", "begin"] spRests := by
  refine F.ok sc_rests_from (fun vs H Q E h => ?_) (fun cdv A outer s H vs Q E hr h => ?_)
  · obtain ⟨a, sa, xs, rs, b, rfl, _⟩ := h
    rfl
  · obtain ⟨a, sa, xs, rs, b, rfl, ha, rows, fit, hs, hb, big, k⟩ := h
    refine ⟨_, (pss_cons (ps_set (i := 3) sc_rests_from.nd rfl (Or.inl rfl) (pe_lstG (pa_cons (pe_ix ix_list (pv 1) (pv 2) (fun _ _ => rfl)) pa_nil)))
      (pss_cons (ps_set (i := 4) sc_rests_from.nd rfl (Or.inl rfl) (pe_disp (pps_cons (pe_ix ix_list (pv 1) (pv 2) (fun _ _ => rfl)) pe_bl pps_nil) rfl rfl (fun z => by cases z) (by show 1 ≤ 15; decide)))
      (pss_cons (ps_set (i := 5) sc_rests_from.nd rfl (Or.inl rfl) pe_int)
      (pss_cons (ps_while PassesOwn.never (pt_cmpR op_lt (pv 5) (pe_callB call_len_seq (by rfl) T.b_len PySem.boot_len (pa_cons (pv 3) pa_nil)) (nomark _)) (pss_cons (ps_for PassesOwn.never rfl (pi_tup (pe_call GN (hr.mono (by decide)) (by rfl) g_nexts k_nexts b_nexts .nil pass0 (pa_cons (pe_ix ix_list (pv 0) (pe_ix ix_list (pv 3) (pv 5) (fun _ _ => rfl)) (fun _ _ => rfl)) pa_nil))) (pg_name (i := 6) sc_rests_from.nd rfl (Or.inl rfl)) (pss_one (ps_if (pt_cmp (pc_dnotin (hu_of hr) (pe_ix ix_list (pv 1) (pv 6) (fun _ _ => rfl)) (pv 4)) rfl) (pss_cons (ps_asg pe_bl (pg_sub (pv 4) (pe_ix ix_list (pv 1) (pv 6) (fun _ _ => rfl)) (set_dict (hu_of hr))))
      (pss_one (ps_expr (pe_bm PySem.F.plainAttrs_list PySem.F.slot_list_append PySem.F.type_list_append mt_append (pv 3) (pa_cons (pe_ix ix_list (pv 1) (pv 6) (fun _ _ => rfl)) pa_nil))))) pss_nil)))
      (pss_one (ps_aug (i := 5) sc_rests_from.nd rfl (Or.inl rfl) pe_int ip_add))))
      (pss_one (ps_ret (pv 3))))))), ?_⟩
    have one : ∀ v : V, [v].length ≤ sizeLine := fun v => by rw [sizeLine_eq]; exact Nat.succ_le_of_lt (by decide)
    refine ⟨_, rfl, _, rfl, sa, _, _, _, rfl, rfl, SqL.of hs, fl_at hb, one _, fun ma H1 n1 s1 e1 => ?_⟩
    refine fun ka nk => ?_
    have e2 : upd H1 ka (.dK []) sa = some (.lst (fl rs.length fun i => (stp rs i : Int))) := sameNew nk _ _ _ (s1 _ _ hs)
    refine ⟨_, rfl, _, rfl, sa, _, _, _, rfl, rfl, SqL.of e2, fl_at hb, ?_⟩
    refine ⟨upd_same, [(.inl (stp rs b : Int), .bl true)], rfl, by show 1 ≤ 15; decide, ?_⟩
    have mi : MetI H ma ka [stp rs b] (upd (upd H1 ka (.dK [])) ka (.dK (mergeK [] [(.inl (stp rs b : Int), .bl true)]))) := by
      have ne : ma ≠ ka := fun z => by
        rw [← z, e1] at nk
        cases nk
      refine ⟨?_, ?_, ?_, n1, none_of s1 nk, ne⟩
      · exact same_updN (same_updN s1 (none_of s1 nk)) (none_of s1 nk)
      · rw [upd_ne ne, upd_ne ne]
        exact e1
      · rw [upd_same]
        rfl
    refine ⟨fun m σ H' => ∃ (d : Nat) (v6 : Option V), m = rs.length - d ∧ σ = [some (.ref a), some (.ref sa), some (.int b), some (.ref ma), some (.ref ka), some (.int (d : Int)), v6] ∧ MetI H ma ka (metAt rs b d) H' ∧ d ≤ (metAt rs b d).length, ⟨_, 0, none, rfl, rfl, mi, Nat.zero_le _⟩, ?_⟩
    rintro m σ H' ⟨d, v6, rfl, rfl, t, hd⟩
    have few := metAt_few fit hb d
    have fl1 := few.len
    have nl : ∀ m : List Nat, (natsV m).length = m.length := fun m => List.length_map _
    refine ⟨_, rfl, _, rfl, ma, _, rfl, .inl (SqL.of t.em), _, _, rfl, rfl, _, rfl, ?_⟩
    rw [nl]
    refine ite2 (fun h1 => ?_) (fun h1 => ?_)
    · have hlt : d < (metAt rs b d).length := by
        have := of_decide_eq_true h1
        omega
      obtain ⟨i, ei⟩ : ∃ i, (metAt rs b d)[d]? = some i := ⟨_, List.getElem?_eq_getElem hlt⟩
      have hi : i < rs.length := few.2 _ (List.mem_of_getElem? ei)
      obtain ⟨q, zs, dd, ed, hx, row, hq⟩ := rows.at hi
      have st := metAt_step ei ed
      refine ⟨fun σ' H'' => ∃ v6, σ' = [some (.ref a), some (.ref sa), some (.int b), some (.ref ma), some (.ref ka), some (.int ((d + 1 : Nat) : Int)), v6] ∧ MetI H ma ka (metAt rs b (d + 1)) H'', fun σ' H'' ⟨v6, z1, z2⟩ => ⟨rs.length - (d + 1), by omega, d + 1, v6, rfl, z1, z2, by rw [st]; exact Nat.le_trans hlt grow_len⟩, ?_⟩
      have en : (natsV (metAt rs b d))[d]? = some (.int (i : Int)) := by
        unfold natsV
        rw [List.getElem?_map, ei]
        rfl
      refine ⟨_, rfl, _, rfl, _, rfl, ma, _, _, _, rfl, rfl, SqL.of t.em, atI_nat en, a, xs, _, _, rfl, rfl, SqL.of (t.same _ _ ha), atI_nat hx, q, dd, rfl, row.same t.same, fun tt H2 s2 et => ?_⟩
      refine ⟨tt, rfl, ⟨_, .inl (.inl et)⟩, for_tup (K := K) (a := tt) (xs := (nextsD dd).map V.int) (fun j σ H3 => ∃ v6, σ = [some (.ref a), some (.ref sa), some (.int b), some (.ref ma), some (.ref ka), some (.int (d : Int)), v6] ∧ MetI H ma ka (grow rs (metAt rs b d) ((nextsD dd).take j)) H3 ∧ H3 tt = some (.tup ((nextsD dd).map V.int))) ⟨_, rfl, t.go s2, et⟩ (fun j σ H3 _ z => by obtain ⟨_, _, _, z⟩ := z; exact .inl (.inl z)) (fun j x σ H3 hx z => ?_) (fun σ H3 z => ?_)⟩
      · obtain ⟨w6, rfl, t3, et3⟩ := z
        have hj : j < (nextsD dd).length := by
          have := (List.getElem?_eq_some_iff.mp hx).1
          rw [List.length_map] at this
          exact this
        have ej : (nextsD dd)[j]? = some (nextsD dd)[j] := List.getElem?_eq_getElem hj
        generalize (nextsD dd)[j] = n at ej
        rw [List.getElem?_map, ej] at hx
        have hx2 : V.int n = x := Option.some.inj hx
        subst hx2
        have mem := List.mem_of_getElem? ej
        obtain ⟨n0, n1⟩ := fit.nexts ed mem
        have e0 : n = (n.toNat : Int) := by omega
        have hn : n.toNat < rs.length := by omega
        have atS : atI (fl rs.length fun i => (stp rs i : Int)) n = some (V.int (stp rs n.toNat : Int)) := by
          conv => lhs; rw [e0]
          exact fl_at hn
        have few3 : Few rs.length (grow rs (metAt rs b d) ((nextsD dd).take j)) := grow_few fit.go few fun x hx => fit.nexts ed (List.mem_of_mem_take hx)
        have len3 := few3.len
        have tk : grow rs (metAt rs b d) ((nextsD dd).take (j + 1)) = addTo (grow rs (metAt rs b d) ((nextsD dd).take j)) (stp rs n.toNat) := by
          unfold grow
          rw [List.take_succ, ej, List.foldl_append]
          rfl
        refine ⟨_, rfl, _, rfl, sa, _, _, _, rfl, rfl, SqL.of (t3.same _ _ hs), atS, _, rfl, ka, _, rfl, .inl ⟨_, .inl (stp rs n.toNat : Int), .inl t3.ek, rfl, rfl⟩, _, rfl, ?_⟩
        rw [val_kn]
        refine ite2 (fun h2 => ?_) (fun h2 => ?_)
        · have nin : stp rs n.toNat ∉ grow rs (metAt rs b d) ((nextsD dd).take j) := fun z => by
            rw [decide_eq_true z] at h2
            cases h2
          have kl : (knK (grow rs (metAt rs b d) ((nextsD dd).take j))).length < sizeLine := by
            unfold knK
            rw [List.length_map, sizeLine_eq]
            omega
          refine ⟨_, rfl, _, rfl, _, rfl, sa, _, _, _, rfl, rfl, SqL.of (t3.same _ _ hs), atS, ka, _, rfl, .inl ⟨_, .inl (stp rs n.toNat : Int), t3.ek, rfl, kl, rfl⟩, ?_⟩
          have s4 : Same H (upd H3 ka (.dK (putK (knK (grow rs (metAt rs b d) ((nextsD dd).take j))) (.inl (stp rs n.toNat : Int)) (.bl true)))) := same_updN t3.same t3.nk
          have em4 : upd H3 ka (.dK (putK (knK (grow rs (metAt rs b d) ((nextsD dd).take j))) (.inl (stp rs n.toNat : Int)) (.bl true))) ma = some (.lst (natsV (grow rs (metAt rs b d) ((nextsD dd).take j)))) := by
            rw [upd_ne t3.ne]
            exact t3.em
          refine ⟨_, rfl, .inl ⟨rfl, _, SqL.of em4⟩, _, rfl, _, rfl, sa, _, _, _, rfl, rfl, SqL.of (s4 _ _ hs), atS, ma, _, _, rfl, rfl, em4, by rw [nl, sizeLine_eq]; omega, ?_⟩
          refine ⟨_, rfl, by rw [tk]; exact t3.put nin, ?_⟩
          have a1 : tt ≠ ma := fun z => by
            rw [z, t3.em] at et3
            cases et3
          have a2 : tt ≠ ka := fun z => by
            rw [z, t3.ek] at et3
            cases et3
          rw [upd_ne a1, upd_ne a2]
          exact et3
        · have yin : stp rs n.toNat ∈ grow rs (metAt rs b d) ((nextsD dd).take j) := by
            by_cases z : stp rs n.toNat ∈ grow rs (metAt rs b d) ((nextsD dd).take j)
            · exact z
            · rw [decide_eq_false z] at h2
              exact absurd rfl h2
          have ad : addTo (grow rs (metAt rs b d) ((nextsD dd).take j)) (stp rs n.toNat) = grow rs (metAt rs b d) ((nextsD dd).take j) := if_pos yin
          exact ⟨_, rfl, by rw [tk, ad]; exact t3, et3⟩
      · obtain ⟨w6, rfl, t3, et3⟩ := z
        refine ⟨_, rfl, _, _, rfl, rfl, _, rfl, ?_⟩
        rw [List.length_map, List.take_length, ← st] at t3
        exact t3
    · have hge : (metAt rs b d).length ≤ d := by
        by_cases z : (metAt rs b d).length ≤ d
        · exact z
        · exact absurd (decide_eq_true (by omega)) h1
      exact ⟨_, rfl, k ma H' t.nm t.same (by rw [t.em, metAt_end (by omega) hge])⟩
end
end Mine

set_option maxRecDepth 100000
set_option maxHeartbeats 4000000
namespace L2
open PySem PySem.Spec PyProof.Rows
/-- a dict comprehension over a list that stays -/
theorem dc_list {K : PySem.W.Frag} {a : Addr} {xs : List V} {g : TG} {tt : TT} {tk tv : TE} {vs : List Nat} {σ : St} {H1 : Hp} {D : Addr} {Qd : Hp → Prop} (Pv : Nat → Hp → Prop) (h0 : Pv 0 (upd H1 D (.dK []))) (hl : ∀ i H, i ≤ xs.length → Pv i H → SqL K H a xs)
    (hs : ∀ i x H, xs[i]? = some x → Pv i H → g x (wipe σ vs) H fun σ2 H2 => wipe σ2 vs = wipe σ vs ∧ tt σ2 H2 fun b H3 =>
      if b = true then tk σ2 H3 fun y H4 => tv σ2 H4 fun z H5 => ∃ kvs k, y = kV k ∧ H5 D = some (.dK kvs) ∧ kvs.length < sizeLine ∧ Pv (i + 1) (upd H5 D (.dK (putK kvs k z))) else Pv (i + 1) H3) (hd : ∀ H, Pv xs.length H → Qd H) :
    ∃ W : Nat → Nat → Hp → Prop, (∃ m, W 0 m (upd H1 D (.dK []))) ∧ ∀ i m H, W i m H →
      ((Itl K a).stop i H ∧ Qd H) ∨ ((Itl K a).go i H ∧ ∃ Nx : Hp → Prop, (∀ H', Nx H' → ∃ m', m' < m ∧ W (i + 1) m' H') ∧ ∀ x H', (Itl K a).yld i H x H' → g x (wipe σ vs) H' fun σ2 H2 => wipe σ2 vs = wipe σ vs ∧ tt σ2 H2 fun b H3 =>
        if b = true then tk σ2 H3 fun y H4 => tv σ2 H4 fun z H5 => ∃ kvs k, y = kV k ∧ H5 D = some (.dK kvs) ∧ kvs.length < sizeLine ∧ Nx (upd H5 D (.dK (putK kvs k z))) else Nx H3) := by
  refine ⟨fun i m H => m = xs.length - i ∧ i ≤ xs.length ∧ Pv i H, ⟨xs.length, by simp, Nat.zero_le _, h0⟩, ?_⟩
  rintro i m H ⟨rfl, hi, p⟩
  have q := hl i H hi p
  by_cases hlt : i < xs.length
  · refine .inr ⟨⟨xs, xs[i], q, by simp [hlt]⟩, Pv (i + 1), fun H' p' => ⟨xs.length - (i + 1), by omega, rfl, hlt, p'⟩, fun x H' y => ?_⟩
    obtain ⟨e, y⟩ := y
    subst e
    exact hs i x _ (y xs q) p
  · have e : i = xs.length := by omega
    subst e
    exact .inl ⟨⟨xs, q, Nat.le_refl _⟩, hd H p⟩
end L2
namespace Mine
open PySem L2
abbrev s_in_order : Stmt := top 24
abbrev s_firsts_of : Stmt := top 37
theorem Rd.same {H H' : Hp} {a : Addr} {o : HO} (s : Same H H') (h : Rd H a o) : Rd H' a o := h.elim (fun z => .inl (s _ _ z)) fun ⟨od, z⟩ => .inr ⟨od, s _ _ z⟩
/-- the number of a name -/
def lookI (o : Ops) (x : Str) : Int := (opLook o x).getD 0
theorem look_mem : ∀ {o : Ops}, (o.map (·.1)).Nodup → ∀ p ∈ o, opLook o p.1 = some p.2
  | p0 :: o, nd, p, h => by
    rw [List.map_cons, List.nodup_cons] at nd
    rcases List.mem_cons.mp h with e | h
    · subst e
      simp [opLook]
    · have ne : p0.1 ≠ p.1 := fun z => nd.1 (z ▸ List.mem_map_of_mem h)
      have ih := look_mem nd.2 p h
      unfold opLook at ih ⊢
      rw [List.find?_cons, decide_eq_false ne]
      exact ih
theorem look_some {o : Ops} (nd : (o.map (·.1)).Nodup) {x : Str} (h : x ∈ o.map (·.1)) : opLook o x = some (lookI o x) := by
  obtain ⟨p, hp, rfl⟩ := List.mem_map.mp h
  unfold lookI
  rw [look_mem nd p hp]
  rfl
def pick (o : Ops) (ys : List Str) : Ops := ys.map fun y => (y, lookI o y)
theorem pick_perm {o : Ops} (nd : (o.map (·.1)).Nodup) {ys : List Str} (p : ys.Perm (o.map (·.1))) : (pick o ys).Perm o := by
  have e : o = pick o (o.map (·.1)) := by
    unfold pick
    rw [List.map_map]
    refine (List.map_id o).symm.trans (List.map_congr_left fun q hq => ?_)
    show q = (q.1, lookI o q.1)
    unfold lookI
    rw [look_mem nd q hq]
    rfl
  conv => rhs; rw [e]
  exact p.map _
theorem pick_names {o : Ops} {ys : List Str} : (pick o ys).map (·.1) = ys := by
  unfold pick
  rw [List.map_map]
  exact List.map_id ys
theorem opsK_keys (o : Ops) : (opsK o).map (·.1) = (o.map (·.1)).map Sum.inr := by
  unfold opsK
  rw [List.map_map, List.map_map]
  rfl
theorem opsK_len (o : Ops) : (opsK o).length = o.length := List.length_map _
/-- the same operations, sorted -/
def Ordered (o o' : Ops) : Prop := o'.Perm o ∧ PyProof.Rows.sortedS (o'.map (·.1)) = true
def spOrder : Sp := fun vs H Q _ => ∃ (t : Addr) (o : Ops), vs = [.ref t] ∧ Rd H t (.dK (opsK o)) ∧ (o.map (·.1)).Nodup ∧ o.length < 64 ∧ ∀ o', Ordered o o' → New H (.dK (opsK o')) Q
theorem val_new {o : Ops} {ys : List Str} {i : Nat} {y : Str} (nd : ys.Nodup) (h : ys[i]? = some y) : valV (opsK (pick o (ys.take i))) (.inr y) = none := by
  rw [val_ops]
  have : opLook (pick o (ys.take i)) y = none := by
    unfold opLook
    rw [List.find?_eq_none.mpr]
    · rfl
    · intro p hp
      unfold pick at hp
      obtain ⟨z, hz, rfl⟩ := List.mem_map.mp hp
      intro q
      have e : z = y := of_decide_eq_true q
      subst e
      obtain ⟨j, hj⟩ := List.mem_iff_getElem?.mp hz
      rw [List.getElem?_take] at hj
      split at hj
      · rename_i lt
        have hjl := (List.getElem?_eq_some_iff.mp hj).1
        have hil := (List.getElem?_eq_some_iff.mp h).1
        have := (List.getElem?_inj hjl nd).mp (hj.trans h.symm)
        omega
      · cases hj
  rw [this]
  rfl
section
variable {P : Program} {w : World} {K : PySem.W.Frag} {mg : Str → Option Value} {base : Heap}
theorem sc_in_order : FnScope ["table", "name"] ["table"] (defScope s_in_order) := ⟨rfl, rfl, rfl, by decide +kernel, rfl, by decide +kernel, by decide +kernel⟩
theorem ok_in_order {f : Addr} {fd : FuncData} (F : Fun K "in_order" "in_order" s_in_order f fd) (h_sorted : mg "sorted" = none) : FnOk P w K mg base CX0 1 f fd ["table"] spOrder := by
  refine F.ok sc_in_order (fun vs H Q E h => ?_) (fun cdv A outer s H vs Q E hr h => ?_)
  · obtain ⟨t, o, rfl, _⟩ := h
    rfl
  · obtain ⟨t, o, rfl, ht, nd, few, k⟩ := h
    refine ⟨_, (pss_one (ps_ret (pe_dc (own := [("name", 1)]) (g := gName 1) (tt := tYes) rfl sc_in_order.nd (pi_list (pe_callB (call_sortedD rfl) (by rfl) h_sorted (by decide +kernel) (pa_cons (pv 0) pa_nil))) (blkOk_by (own := [("name", 1)]) (N := ["table", "name"]) (sc := defScope s_in_order) (by decide +kernel)) (fun _ _ _ _ _ => pg_name (i := 1) sc_in_order.nd rfl (Or.inl rfl)) (fun _ _ _ _ _ => pts_nil) (fun _ _ _ _ _ => pv 1) (fun _ _ _ _ _ => pe_dget (hu_of hr) (pv 0) (pv 1) (fun _ _ => rfl))))), ?_⟩
    refine ⟨_, rfl, t, _, o.map (·.1), rfl, ht, opsK_keys o, by rw [List.length_map]; exact few, fun ys p perm srt np => ?_⟩
    have nd2 : ys.Nodup := perm.nodup_iff.mpr nd
    have yl : ys.length < 64 := by
      have := perm.length_eq
      rw [List.length_map] at this
      omega
    refine ⟨p, rfl, ⟨_, SqL.of upd_same⟩, fun D nD => dc_list (xs := ys.map V.str) (fun i Hx => Same H Hx ∧ Hx p = some (.lst (ys.map V.str)) ∧ H D = none ∧ Hx D = some (.dK (opsK (pick o (ys.take i))))) ?_ (fun i Hx _ z => SqL.of z.2.1) (fun i x Hx hx z => ?_) (fun Hx z => ?_)⟩
    · have nD0 : H D = none := none_of (sameNew np _) nD
      have ne : p ≠ D := fun z => by
        rw [← z, upd_same] at nD
        cases nD
      refine ⟨same_updN (sameNew np _) nD0, ?_, nD0, upd_same⟩
      rw [upd_ne ne, upd_same]
    · obtain ⟨z1, z2, z3, z4⟩ := z
      have hi : i < ys.length := by
        have := (List.getElem?_eq_some_iff.mp hx).1
        rw [List.length_map] at this
        exact this
      have ey : ys[i]? = some ys[i] := List.getElem?_eq_getElem hi
      generalize ys[i] = y at ey
      rw [List.getElem?_map, ey] at hx
      have hx2 : V.str y = x := Option.some.inj hx
      subst hx2
      have my : y ∈ o.map (·.1) := perm.mem_iff.mp (List.mem_of_getElem? ey)
      refine ⟨rfl, ?_⟩
      unfold tYes
      simp only [↓reduceIte]
      refine ⟨_, rfl, _, rfl, _, rfl, t, _, rfl, .inl ⟨opsK o, .inr y, Rd.same z1 ht, rfl, (by rw [val_ops, look_some nd my]; rfl)⟩, _, .inr y, rfl, z4, ?_, same_updN z1 z3, ?_, z3, ?_⟩
      · rw [opsK_len, sizeLine_eq]
        unfold pick
        rw [List.length_map, List.length_take]
        omega
      · have ne : p ≠ D := fun z => by
          rw [← z] at z4
          rw [z4] at z2
          cases z2
        rw [upd_ne ne]
        exact z2
      · rw [upd_same, putK_new _ (val_new nd2 ey)]
        unfold pick
        rw [List.take_succ, ey, List.map_append]
        unfold opsK
        rw [List.map_append]
        rfl
    · obtain ⟨z1, z2, z3, z4⟩ := z
      rw [List.length_map, List.take_length] at z4
      exact k _ ⟨pick_perm nd perm, by rw [pick_names]; exact srt⟩ D Hx z3 z1 z4
end
def nameOf : RowD → Str
  | .ask op _ => op
  | .go _ => ""
  | .fin x => x
def addStr (m : List Str) (t : Str) : List Str := if t ∈ m then m else m ++ [t]
def takeIn (x : Str) (m : List Str) (d : RowD) : List Str := if wordOf d = x then addStr m (nameOf d) else m
/-- what stands behind the word, each once -/
def distinct (x : Str) (ds : List RowD) : List Str := ds.foldl (takeIn x) []
def tks (m : List Str) : List (Key × V) := m.map fun t => (Sum.inr t, V.bl true)
theorem val_tks (m : List Str) (t : Str) : (valV (tks m) (.inr t)).isSome = decide (t ∈ m) := by
  induction m with
  | nil => simp [tks, valV_nil]
  | cons y m ih =>
    by_cases h : y = t
    · subst h
      unfold tks
      rw [List.map_cons, valV_pos rfl]
      simp
    · have h2 : ¬ (Sum.inr y : Key) = Sum.inr t := fun z => h (Sum.inr.inj z)
      unfold tks at ih ⊢
      rw [List.map_cons, valV_neg h2, ih]
      by_cases q : t ∈ m
      · rw [decide_eq_true q, decide_eq_true (List.mem_cons_of_mem _ q)]
      · rw [decide_eq_false q, decide_eq_false (fun z => (List.mem_cons.mp z).elim (fun y => h y.symm) q)]
theorem put_tks (m : List Str) (t : Str) : putK (tks m) (.inr t) (.bl true) = tks (addStr m t) := by
  unfold addStr
  by_cases q : t ∈ m
  · rw [if_pos q]
    unfold putK
    have := val_tks m t
    rw [valV_any, this, decide_eq_true q, if_pos rfl]
    unfold tks
    rw [List.map_map]
    refine List.map_congr_left fun y _ => ?_
    show (if (Sum.inr y : Key) = Sum.inr t then ((Sum.inr y : Key), V.bl true) else (Sum.inr y, V.bl true)) = _
    split <;> rfl
  · rw [if_neg q]
    have := val_tks m t
    rw [decide_eq_false q] at this
    cases e : valV (tks m) (.inr t) with
    | none =>
      rw [putK_new _ e]
      unfold tks
      rw [List.map_append]
      rfl
    | some v =>
      rw [e] at this
      cases this
theorem addStr_len (m : List Str) (t : Str) : (addStr m t).length ≤ m.length + 1 := by
  unfold addStr
  split
  · omega
  · rw [List.length_append]
    exact Nat.le_refl _
theorem fold_len (x : Str) : ∀ (ds : List RowD) (m : List Str), (ds.foldl (takeIn x) m).length ≤ m.length + ds.length
  | [], _ => Nat.le_refl _
  | d :: ds, m => by
    have h := fold_len x ds (takeIn x m d)
    have h2 : (takeIn x m d).length ≤ m.length + 1 := by
      unfold takeIn
      split
      · exact addStr_len _ _
      · omega
    show (ds.foldl (takeIn x) (takeIn x m d)).length ≤ m.length + (ds.length + 1)
    omega
theorem distinct_len (x : Str) (ds : List RowD) : (distinct x ds).length ≤ ds.length := by
  have := fold_len x ds []
  rw [List.length_nil, Nat.zero_add] at this
  exact this
theorem distinct_snoc {x : Str} {ds : List RowD} {i : Nat} {d : RowD} (h : ds[i]? = some d) : distinct x (ds.take (i + 1)) = takeIn x (distinct x (ds.take i)) d := by
  unfold distinct
  rw [List.take_succ, h, List.foldl_append]
  rfl
def IsFirsts (x : Str) (ds : List RowD) (ys : List Str) : Prop := ys.Perm (distinct x ds) ∧ PyProof.Rows.sortedS ys = true
def spFirsts : Sp := fun vs H Q _ => ∃ (l : Addr) (xs : List V) (ds : List RowD) (x : Str), vs = [.ref l, .str x] ∧ x ≠ "go" ∧ H l = some (.lst xs) ∧ Rows H xs ds ∧ ds.length ≤ 100000 ∧ (distinct x ds).length < 64 ∧ ∀ ys, IsFirsts x ds ys → New H (.lst (ys.map V.str)) Q
theorem TRow.name {H : Hp} {v : V} {d : RowD} (h : TRow H v d) (g : wordOf d ≠ "go") : ∃ (a : Addr) (zs : List V), v = .ref a ∧ H a = some (.tup (.str (wordOf d) :: .str (nameOf d) :: zs)) := by
  cases d with
  | ask op ns =>
    obtain ⟨a, t, e, h1, _⟩ := h
    exact ⟨a, _, e, h1⟩
  | go n => exact absurd rfl g
  | fin x =>
    obtain ⟨a, e, h1⟩ := h
    exact ⟨a, _, e, h1⟩
section
variable {P : Program} {w : World} {K : PySem.W.Frag} {mg : Str → Option Value} {base : Heap}
theorem sc_firsts_of : FnScope ["lines", "word", "line"] ["lines", "word"] (defScope s_firsts_of) := ⟨rfl, rfl, rfl, by decide +kernel, rfl, by decide +kernel, by decide +kernel⟩
theorem ok_firsts_of {f : Addr} {fd : FuncData} (F : Fun K "firsts_of" "firsts_of" s_firsts_of f fd) (h_sorted : mg "sorted" = none) : FnOk P w K mg base CX0 1 f fd ["lines", "word"] spFirsts := by
  refine F.ok sc_firsts_of (fun vs H Q E h => ?_) (fun cdv A outer s H vs Q E hr h => ?_)
  · obtain ⟨l, xs, ds, x, rfl, _⟩ := h
    rfl
  · obtain ⟨l, xs, ds, x, rfl, ng, hl, rows, big, few, k⟩ := h
    refine ⟨_, (pss_one (ps_ret (pe_callB (call_sortedD rfl) (by rfl) h_sorted (by decide +kernel) (pa_cons (pe_dc (own := [("line", 2)]) (g := gName 2) rfl sc_firsts_of.nd (pi_list (pv 0)) (blkOk_by (own := [("line", 2)]) (N := ["lines", "word", "line"]) (sc := defScope s_firsts_of) (by decide +kernel)) (fun _ _ _ _ _ => pg_name (i := 2) sc_firsts_of.nd rfl (Or.inl rfl)) (fun _ _ _ _ _ => pts_one (pt_cmpR op_eq (pe_ix (show IxR _ (rIxT K) from ix_tup) (pv 2) pe_int (fun _ _ => rfl)) (pv 1) (nomark _))) (fun _ _ _ _ _ => (pe_ix (show IxR _ (rIxT K) from ix_tup) (pv 2) pe_int (fun _ _ => rfl))) (fun _ _ _ _ _ => pe_bl)) pa_nil)))), ?_⟩
    refine ⟨_, rfl, l, rfl, ⟨_, SqL.of hl⟩, fun D nD => dc_list (xs := xs) (fun i Hx => Same H Hx ∧ Hx D = some (.dK (tks (distinct x (ds.take i))))) ⟨sameNew nD _, upd_same⟩ (fun i Hx _ z => SqL.of (z.1 _ _ hl)) (fun i y Hx hy z => ?_) (fun Hx z => ?_)⟩
    · obtain ⟨z1, z2⟩ := z
      have hi : i < ds.length := by
        have := (List.getElem?_eq_some_iff.mp hy).1
        have := rows.1
        omega
      obtain ⟨q, zs, d, ed, hx, row, hq⟩ := rows.at hi
      rw [hy] at hx
      cases hx
      refine ⟨rfl, ?_⟩
      refine ⟨_, rfl, _, _, _, _, rfl, rfl, .inl (.inl (z1 _ _ hq)), at0', _, rfl, rfl, _, rfl, ?_⟩
      by_cases hw : wordOf d = x
      · rw [hw, strEq]
        simp only [↓reduceIte]
        obtain ⟨q2, zs2, e2, hq2⟩ := row.name (by rw [hw]; exact ng)
        cases e2
        refine ⟨_, rfl, _, _, _, _, rfl, rfl, .inl (.inl (z1 _ _ hq2)), at1', _, .inr (nameOf d), rfl, z2, ?_, same_updN z1 nD, ?_⟩
        · have := distinct_len x (ds.take i)
          rw [List.length_take] at this
          unfold tks
          rw [List.length_map, sizeLine_eq]
          omega
        · rw [upd_same, put_tks, distinct_snoc ed]
          unfold takeIn
          rw [if_pos hw]
      · rw [strNe hw]
        simp only [Bool.false_eq_true, ↓reduceIte]
        refine ⟨z1, ?_⟩
        rw [distinct_snoc ed]
        unfold takeIn
        rw [if_neg hw]
        exact z2
    · obtain ⟨z1, z2⟩ := z
      rw [rows.1, List.take_length] at z2
      refine ⟨D, _, distinct x ds, rfl, .inl z2, ?_, few, fun ys p perm srt np => ?_⟩
      · unfold tks
        rw [List.map_map]
        rfl
      · exact k ys ⟨perm, srt⟩ p _ (none_of z1 np) (same_updN z1 (none_of z1 np)) upd_same
end
end Mine

set_option maxRecDepth 100000
set_option maxHeartbeats 4000000
namespace L2
open PySem PySem.Spec PyProof.Rows
/-- a list comprehension whose element leaves the heap -/
theorem lc_pure {K : PySem.W.Frag} {a D : Addr} {xs ys : List V} {te : TE} {i : Nat} {vs : List Nat} {σ : St} {H1 : Hp} {Qd : Hp → Prop} (hl : H1 a = some (.lst xs)) (nD : H1 D = none) (len : ys.length = xs.length) (big : xs.length ≤ 1000000)
    (hw : ∀ x, wipe ((wipe σ vs).set i (some x)) vs = wipe σ vs) (hs : ∀ (j : Nat) (x y : V) (Ha : Hp) (Qe : VK), xs[j]? = some x → ys[j]? = some y → Same H1 Ha → Qe y Ha → te ((wipe σ vs).set i (some x)) Ha Qe)
    (hd : ∀ Hx, Same H1 Hx → Hx D = some (.lst ys) → Qd Hx) :
    ∃ W : Nat → Nat → Hp → Prop, (∃ m, W 0 m (upd H1 D (.lst []))) ∧ ∀ i2 m H, W i2 m H →
      ((Itl K a).stop i2 H ∧ Qd H) ∨ ((Itl K a).go i2 H ∧ ∃ Nx : Hp → Prop, (∀ H', Nx H' → ∃ m', m' < m ∧ W (i2 + 1) m' H') ∧ ∀ x H', (Itl K a).yld i2 H x H' → gName i x (wipe σ vs) H' fun σ2 H2 => wipe σ2 vs = wipe σ vs ∧ tYes σ2 H2 fun b H3 =>
        if b = true then te σ2 H3 fun y H4 => ∃ acc, H4 D = some (.lst acc) ∧ acc.length < sizeLine ∧ Nx (upd H4 D (.lst (acc ++ [y]))) else Nx H3) := by
  refine lc_it (walk_list (xs := xs)) (fun k Hx => Same H1 Hx ∧ Hx D = some (.lst (ys.take k))) ⟨sameNew nD _, upd_same⟩ (fun k Hx _ z => SqL.of (z.1 _ _ hl)) (fun k x Ha Hb hk z1 z2 => ?_) (fun Hx z => hd Hx z.1 (by rw [z.2, ← len, List.take_length]))
  obtain ⟨rfl, hx⟩ := z2
  obtain ⟨s1, e1⟩ := z1
  have ey : ys[k]? = some ys[k] := List.getElem?_eq_getElem (by omega)
  refine ⟨hw x, ?_⟩
  unfold tYes
  simp only [↓reduceIte]
  refine hs k x _ _ _ hx ey s1 ⟨_, e1, ?_, Mine.same_updN s1 nD, ?_⟩
  · rw [List.length_take, sizeLine_eq]
    omega
  · rw [upd_same, List.take_succ, ey]
    rfl
end L2
namespace Mine
open PySem L2
abbrev s_mach : Stmt := inClass (top 30) 0
def SameX (m : Addr) (H H' : Hp) : Prop := ∀ b o, b ≠ m → H b = some o → H' b = some o
theorem SameX.upd {m : Addr} {H H' : Hp} {o : HO} (x : SameX m H H') : SameX m H (upd H' m o) := fun b u n e => by
  rw [upd_ne n]
  exact x b u n e
theorem SameX.go {m : Addr} {H H' H'' : Hp} (x : SameX m H H') (s : Same H' H'') : SameX m H H'' := fun b u n e => s _ _ (x b u n e)
theorem SameX.at {m : Addr} {H H' : Hp} {C dx b : Addr} {fs : List (Str × V)} {o : HO} (x : SameX m H H') (hm : H m = some (.ins C dx fs)) (e : H b = some o) (n : o ≠ .ins C dx fs) : H' b = some o :=
  x b o (fun z => by rw [z, hm] at e; exact n (Option.some.inj e).symm) e
theorem SameX.trow {m : Addr} {H H' : Hp} {C dx : Addr} {fs : List (Str × V)} {v : V} {d : RowD} (x : SameX m H H') (hm : H m = some (.ins C dx fs)) (r : TRow H v d) : TRow H' v d := by
  cases d with
  | ask op ns =>
    obtain ⟨a, t, e, h1, h2⟩ := r
    exact ⟨a, t, e, x.at hm h1 (fun z => nomatch z), x.at hm h2 (fun z => nomatch z)⟩
  | go n =>
    obtain ⟨a, e, h1⟩ := r
    exact ⟨a, e, x.at hm h1 (fun z => nomatch z)⟩
  | fin w =>
    obtain ⟨a, e, h1⟩ := r
    exact ⟨a, e, x.at hm h1 (fun z => nomatch z)⟩
theorem SameX.rows {m : Addr} {H H' : Hp} {C dx : Addr} {fs : List (Str × V)} {xs : List V} {rs : List RowD} (x : SameX m H H') (hm : H m = some (.ins C dx fs)) (r : Rows H xs rs) : Rows H' xs rs := ⟨r.1, fun i d e => by
  obtain ⟨v, h1, h2⟩ := r.2 i d e
  exact ⟨v, h1, x.trow hm h2⟩⟩
/-- the rows of rest that are met -/
def restD (rs : List RowD) (b : Nat) : List RowD := (metOf rs b).map fun i => rs.getD i (.fin "")
def restV (rs : List RowD) (b : Nat) (xs : List V) : List V := (metOf rs b).map fun i => xs.getD i .non
theorem rest_rows {H : Hp} {rs : List RowD} {b : Nat} {xs : List V} (f : Fit rs) (hb : b < rs.length) (r : Rows H xs rs) : Rows H (restV rs b xs) (restD rs b) := by
  refine ⟨by unfold restV restD; rw [List.length_map, List.length_map], fun j d e => ?_⟩
  unfold restD at e
  rw [List.getElem?_map] at e
  cases q : (metOf rs b)[j]? with
  | none => rw [q] at e; cases e
  | some i =>
    rw [q] at e
    have hi : i < rs.length := (metAt_few f hb rs.length).2 i (List.mem_of_getElem? q)
    have e2 : rs.getD i (.fin "") = d := Option.some.inj e
    have e3 : rs[i]? = some d := by
      rw [List.getD_eq_getElem?_getD, List.getElem?_eq_getElem hi] at e2
      rw [List.getElem?_eq_getElem hi]
      exact congrArg some e2
    obtain ⟨x, h1, h2⟩ := r.2 i d e3
    refine ⟨x, ?_, h2⟩
    unfold restV
    rw [List.getElem?_map, q]
    show some (xs.getD i .non) = some x
    rw [List.getD_eq_getElem?_getD, h1]
    rfl
/-- whether a run hangs -/
def endlessD (rs : List RowD) (b : Nat) : Bool := inV (.str "go") ((restD rs b).map fun d => .str (wordOf d))
/-- the fields of a machine, and what stands there -/
structure MachFs (H : Hp) (fs : List (Str × V)) (t l : Addr) (b : Nat) (rs : List RowD) (sa aa ea : Addr) (as es : List Str) : Prop where
  counts : fs.lookup ("counts" : Str) = some (.ref t)
  lines : fs.lookup ("lines" : Str) = some (.ref l)
  begin : fs.lookup ("begin" : Str) = some (.int b)
  stops : fs.lookup ("stops" : Str) = some (.ref sa)
  asks : fs.lookup ("asks" : Str) = some (.ref aa)
  endings : fs.lookup ("endings" : Str) = some (.ref ea)
  endless : fs.lookup ("endless" : Str) = some (.bl (endlessD rs b))
  hs : H sa = some (.lst (fl rs.length fun i => (stp rs i : Int)))
  ha : H aa = some (.lst (as.map V.str))
  he : H ea = some (.lst (es.map V.str))
  fa : IsFirsts "ask" (restD rs b) as
  fe : IsFirsts "end" (restD rs b) es
theorem SameX.off {m a : Addr} {H H' : Hp} (x : SameX m H H') (n : H' a = none) (ne : a ≠ m) : H a = none := by
  cases e : H a with
  | none => rfl
  | some u =>
    rw [x a u ne e] at n
    cases n
def spMach (C : Addr) : Sp := fun vs H Q _ => ∃ (m t l dx : Addr) (xs : List V) (rs : List RowD) (b : Nat), vs = [.ref m, .ref t, .ref l, .int b] ∧ H m = some (.ins C dx []) ∧ H l = some (.lst xs) ∧ Rows H xs rs ∧ Fit rs ∧ b < rs.length ∧ rs.length ≤ 100000 ∧
  (distinct "ask" (restD rs b)).length < 64 ∧ (distinct "end" (restD rs b)).length < 64 ∧ ∀ (fs : List (Str × V)) (H' : Hp) (sa aa ea : Addr) (as es : List Str), H sa = none → H aa = none → H ea = none → SameX m H H' → H' m = some (.ins C dx fs) → MachFs H' fs t l b rs sa aa ea as es → Q .non H'
/-- what is told of the class -/
structure MachC (K : PySem.W.Frag) (C : Addr) : Prop where
  cl : Cls K C
  n_counts : NoAttr K C "counts"
  n_lines : NoAttr K C "lines"
  n_begin : NoAttr K C "begin"
  n_stops : NoAttr K C "stops"
  n_asks : NoAttr K C "asks"
  n_endings : NoAttr K C "endings"
  n_endless : NoAttr K C "endless"
section
variable {P : Program} {w : World} {K : PySem.W.Frag} {mg : Str → Option Value} {base : Heap}
variable {a_rests a_stops a_firsts C : Addr}
theorem sc_mach : FnScope ["self", "counts", "lines", "begin", "rests", "stop", "line"] ["self", "counts", "lines", "begin"] (defScope s_mach) := ⟨rfl, rfl, rfl, by decide +kernel, rfl, by decide +kernel, by decide +kernel⟩
theorem putF_len {fs : List (Str × V)} {f : Str} {v : V} {n : Nat} (h : fs.length ≤ n) : (putF f v fs).length ≤ n + 1 := Nat.le_trans (length_putF f v fs) (Nat.succ_le_succ h)
theorem ok_mach {f : Addr} {fd fd_rests fd_stops fd_firsts : FuncData} (F : Fun K "__init__" "Machine.__init__" s_mach f fd) (TM : MachC K C)
    (GR : FnOk P w K mg base CX0 2 a_rests fd_rests ["lines", "stops", "begin"] spRests) (b_rests : Binds K fd_rests ["lines", "stops", "begin"] []) (g_rests : mg "rests_from" = some (.ref a_rests)) (k_rests : PySem.W.keepIn K (.ref a_rests) = true)
    (GS : FnOk P w K mg base CX0 2 a_stops fd_stops ["lines"] spStops) (b_stops : Binds K fd_stops ["lines"] []) (g_stops : mg "stops_of" = some (.ref a_stops)) (k_stops : PySem.W.keepIn K (.ref a_stops) = true)
    (GF : FnOk P w K mg base CX0 1 a_firsts fd_firsts ["lines", "word"] spFirsts) (b_firsts : Binds K fd_firsts ["lines", "word"] []) (g_firsts : mg "firsts_of" = some (.ref a_firsts)) (k_firsts : PySem.W.keepIn K (.ref a_firsts) = true) : FnOk P w K mg base CX0 3 f fd ["self", "counts", "lines", "begin"] (spMach C) := by
  refine F.ok sc_mach (fun vs H Q E h => ?_) (fun cdv A outer s H vs Q E hr h => ?_)
  · obtain ⟨m, t, l, dx, xs, rs, b, rfl, _⟩ := h
    rfl
  · obtain ⟨m, t, l, dx, xs, rs, b, rfl, hm, hl, rows, fit, hb, big, few1, few2, k⟩ := h
    refine ⟨_, (pss_cons (ps_fld (pv 0) (pv 1) rfl)
      (pss_cons (ps_fld (pv 0) (pv 2) rfl)
      (pss_cons (ps_fld (pv 0) (pv 3) rfl)
      (pss_cons (ps_fld (pv 0) (pe_call GS (hr.mono (by decide)) (by rfl) g_stops k_stops b_stops .nil pass0 (pa_cons (pv 2) pa_nil)) rfl)
      (pss_cons (ps_setLc (i := 4) (own := [("stop", 5)]) (g := gName 5) (tt := tYes) rfl sc_mach.nd rfl rfl (sw_true rfl rfl rfl rfl) (pi_list (pe_call GR (hr.mono (by decide)) (by rfl) g_rests k_rests b_rests .nil pass0 (pa_cons (pv 2) (pa_cons (pe_fld (pv 0) rfl) (pa_cons (pv 3) pa_nil))))) (blkOk_by (own := [("stop", 5)]) (N := ["self", "counts", "lines", "begin", "rests", "stop", "line"]) (sc := defScope s_mach) (by decide +kernel)) (fun _ _ _ _ _ => pg_name (i := 5) sc_mach.nd rfl (Or.inl rfl)) (fun _ _ _ _ _ => pts_nil) (fun _ _ _ _ _ => pe_ix (show IxR _ (rIxL K) from ix_list) (pv 2) (pv 5) (fun _ _ => rfl)))
      (pss_cons (ps_fld (pv 0) (pe_call GF (hr.mono (by decide)) (by rfl) g_firsts k_firsts b_firsts .nil pass0 (pa_cons (pv 4) (pa_cons pe_str pa_nil))) rfl)
      (pss_cons (ps_fld (pv 0) (pe_call GF (hr.mono (by decide)) (by rfl) g_firsts k_firsts b_firsts .nil pass0 (pa_cons (pv 4) (pa_cons pe_str pa_nil))) rfl)
      (pss_one (ps_fld (pv 0) (pe_cmpR op_in_seq pe_str (pe_lc (own := [("line", 6)]) (g := gName 6) (tt := tYes) rfl sc_mach.nd (pi_list (pv 4)) (blkOk_by (own := [("line", 6)]) (N := ["self", "counts", "lines", "begin", "rests", "stop", "line"]) (sc := defScope s_mach) (by decide +kernel)) (fun _ _ _ _ _ => pg_name (i := 6) sc_mach.nd rfl (Or.inl rfl)) (fun _ _ _ _ _ => pts_nil) (fun _ _ _ _ _ => pe_ix (show IxR _ (rIxT K) from ix_tup) (pv 6) pe_int (fun _ _ => rfl))) (by rfl)) rfl))))))))), ?_⟩
    have L0 : ([] : List (Str × V)).length ≤ 0 := Nat.le_refl _
    have L1 := putF_len (f := "counts") (v := .ref t) L0
    have L2 := putF_len (f := "lines") (v := .ref l) L1
    have L3 := putF_len (f := "begin") (v := .int b) L2
    refine ⟨_, rfl, _, rfl, m, C, dx, _, rfl, hm, TM.cl, TM.n_counts, Nat.lt_of_le_of_lt L0 (by decide), ?_⟩
    refine ⟨_, rfl, _, rfl, m, C, dx, _, rfl, upd_same, TM.cl, TM.n_lines, Nat.lt_of_le_of_lt L1 (by decide), ?_⟩
    refine ⟨_, rfl, _, rfl, m, C, dx, _, rfl, upd_same, TM.cl, TM.n_begin, Nat.lt_of_le_of_lt L2 (by decide), ?_⟩
    rw [upd_upd, upd_upd]
    have x3 : SameX m H (upd H m (.ins C dx (putF "begin" (.int b) (putF "lines" (.ref l) (putF "counts" (.ref t) []))))) := SameX.upd fun _ _ _ e => e
    have m3 : upd H m (.ins C dx (putF "begin" (.int b) (putF "lines" (.ref l) (putF "counts" (.ref t) [])))) m = some (.ins C dx (putF "begin" (.int b) (putF "lines" (.ref l) (putF "counts" (.ref t) [])))) := upd_same
    have q1 : (putF ("begin" : Str) (.int b) (putF "lines" (.ref l) (putF "counts" (.ref t) []))).lookup ("counts" : Str) = some (.ref t) := by
      rw [lookup_putF, if_neg (by decide +kernel), lookup_putF, if_neg (by decide +kernel), lookup_putF, if_pos rfl]
    have q2 : (putF ("begin" : Str) (.int b) (putF "lines" (.ref l) (putF "counts" (.ref t) []))).lookup ("lines" : Str) = some (.ref l) := by
      rw [lookup_putF, if_neg (by decide +kernel), lookup_putF, if_pos rfl]
    have q3 : (putF ("begin" : Str) (.int b) (putF "lines" (.ref l) (putF "counts" (.ref t) []))).lookup ("begin" : Str) = some (.int b) := by
      rw [lookup_putF, if_pos rfl]
    generalize (upd H m (.ins C dx (putF "begin" (.int b) (putF "lines" (.ref l) (putF "counts" (.ref t) []))))) = H3 at x3 m3 ⊢
    generalize putF ("begin" : Str) (.int b) (putF "lines" (.ref l) (putF "counts" (.ref t) [])) = f3 at m3 L3 q1 q2 q3
    have l3 : H3 l = some (.lst xs) := x3.at hm hl (fun z => nomatch z)
    refine ⟨_, rfl, l, xs, rs, rfl, l3, x3.rows hm rows, fit.go, big, fun sa H4 n4 s4 e4 => ?_⟩
    refine ⟨_, rfl, m, C, dx, _, rfl, s4 _ _ m3, TM.cl, TM.n_stops, Nat.lt_of_le_of_lt L3 (by decide), ?_⟩
    have L4 := putF_len (f := "stops") (v := .ref sa) L3
    have sm : sa ≠ m := fun z => by
      rw [z, m3] at n4
      cases n4
    have nsa : H sa = none := x3.off n4 sm
    have x4 : SameX m H (upd H4 m (.ins C dx (putF "stops" (.ref sa) f3))) := (x3.go s4).upd
    have m4 : upd H4 m (.ins C dx (putF "stops" (.ref sa) f3)) m = some (.ins C dx (putF "stops" (.ref sa) f3)) := upd_same
    have e5 : upd H4 m (.ins C dx (putF "stops" (.ref sa) f3)) sa = some (.lst (fl rs.length fun i => (stp rs i : Int))) := by
      rw [upd_ne sm]
      exact e4
    have q4 : (putF ("stops" : Str) (.ref sa) f3).lookup ("stops" : Str) = some (.ref sa) := by rw [lookup_putF, if_pos rfl]
    have q1' : (putF ("stops" : Str) (.ref sa) f3).lookup ("counts" : Str) = some (.ref t) := by rw [lookup_putF, if_neg (by decide +kernel)]; exact q1
    have q2' : (putF ("stops" : Str) (.ref sa) f3).lookup ("lines" : Str) = some (.ref l) := by rw [lookup_putF, if_neg (by decide +kernel)]; exact q2
    have q3' : (putF ("stops" : Str) (.ref sa) f3).lookup ("begin" : Str) = some (.int b) := by rw [lookup_putF, if_neg (by decide +kernel)]; exact q3
    clear q1 q2 q3
    generalize (upd H4 m (.ins C dx (putF "stops" (.ref sa) f3))) = H5 at x4 m4 e5 ⊢
    generalize putF ("stops" : Str) (.ref sa) f3 = f4 at m4 L4 q1' q2' q3' q4
    have l5 : H5 l = some (.lst xs) := x4.at hm hl (fun z => nomatch z)
    have rows5 := x4.rows hm rows
    refine ⟨_, rfl, _, rfl, m, C, dx, _, _, rfl, m4, TM.cl, TM.n_stops, q4, _, rfl, l, sa, xs, rs, b, rfl, l5, rows5, fit, e5, hb, big, fun ma H6 n6 s6 e6 => ?_⟩
    have few := metAt_few fit hb rs.length
    have flen := few.len
    have nl : (natsV (metOf rs b)).length = (metOf rs b).length := List.length_map _
    have rvl : (restV rs b xs).length = (metOf rs b).length := List.length_map _
    have fl2 : (metOf rs b).length ≤ rs.length := flen
    refine ⟨ma, rfl, ⟨_, SqL.of e6⟩, fun D nD => lc_pure (ys := restV rs b xs) e6 nD (by rw [nl, rvl]) (by rw [nl]; omega) (fun _ => rfl) (fun j x y Ha Qe hx hy sa6 qe => ?_) (fun H7 s7 e7 => ?_)⟩
    · unfold natsV at hx
      rw [List.getElem?_map] at hx
      unfold restV at hy
      rw [List.getElem?_map] at hy
      cases q : (metOf rs b)[j]? with
      | none => rw [q] at hx; cases hx
      | some i =>
        rw [q] at hx hy
        have hx2 : V.int (i : Int) = x := Option.some.inj hx
        have hy2 : xs.getD i .non = y := Option.some.inj hy
        have hi : i < xs.length := by
          rw [rows.1]
          exact few.2 i (List.mem_of_getElem? q)
        subst hx2
        have ey : xs[i]? = some y := by
          rw [List.getD_eq_getElem?_getD, List.getElem?_eq_getElem hi] at hy2
          rw [List.getElem?_eq_getElem hi]
          exact congrArg some hy2
        exact ⟨_, rfl, _, rfl, l, xs, _, y, rfl, rfl, SqL.of (sa6 _ _ (s6 _ _ l5)), atI_nat ey, qe⟩
    · have s57 : Same H5 H7 := s6.trans s7
      have rr : Rows H7 (restV rs b xs) (restD rs b) := rest_rows fit hb (rows5.same s57)
      have rdl : (restD rs b).length ≤ 100000 := by
        unfold restD
        rw [List.length_map]
        omega
      refine ⟨_, rfl, D, _, _, "ask", rfl, by decide +kernel, e7, rr, rdl, few1, fun as fas aa H8 n8 s8 e8 => ?_⟩
      have m8 : H8 m = some (.ins C dx f4) := s8 _ _ (s57 _ _ m4)
      refine ⟨_, rfl, m, C, dx, _, rfl, m8, TM.cl, TM.n_asks, Nat.lt_of_le_of_lt L4 (by decide), ?_⟩
      have L5 := putF_len (f := "asks") (v := .ref aa) L4
      have am : aa ≠ m := fun z => by
        rw [z, s57 _ _ m4] at n8
        cases n8
      have naa : H aa = none := SameX.off (fun b o n e => s57 _ _ (x4 _ _ n e)) n8 am
      have x9 : SameX m H5 (upd H8 m (.ins C dx (putF "asks" (.ref aa) f4))) := SameX.upd fun b o _ e => s8 _ _ (s57 _ _ e)
      have x79 : SameX m H7 (upd H8 m (.ins C dx (putF "asks" (.ref aa) f4))) := SameX.upd fun b o _ e => s8 _ _ e
      have m9 : upd H8 m (.ins C dx (putF "asks" (.ref aa) f4)) m = some (.ins C dx (putF "asks" (.ref aa) f4)) := upd_same
      have e9 : upd H8 m (.ins C dx (putF "asks" (.ref aa) f4)) aa = some (.lst (as.map V.str)) := by
        rw [upd_ne am]
        exact e8
      have p5 : (putF ("asks" : Str) (.ref aa) f4).lookup ("asks" : Str) = some (.ref aa) := by rw [lookup_putF, if_pos rfl]
      have p1 : (putF ("asks" : Str) (.ref aa) f4).lookup ("counts" : Str) = some (.ref t) := by rw [lookup_putF, if_neg (by decide +kernel)]; exact q1'
      have p2 : (putF ("asks" : Str) (.ref aa) f4).lookup ("lines" : Str) = some (.ref l) := by rw [lookup_putF, if_neg (by decide +kernel)]; exact q2'
      have p3 : (putF ("asks" : Str) (.ref aa) f4).lookup ("begin" : Str) = some (.int b) := by rw [lookup_putF, if_neg (by decide +kernel)]; exact q3'
      have p4 : (putF ("asks" : Str) (.ref aa) f4).lookup ("stops" : Str) = some (.ref sa) := by rw [lookup_putF, if_neg (by decide +kernel)]; exact q4
      have m7 : H7 m = some (.ins C dx f4) := s57 _ _ m4
      generalize (upd H8 m (.ins C dx (putF "asks" (.ref aa) f4))) = H9 at x9 x79 m9 e9 ⊢
      generalize putF ("asks" : Str) (.ref aa) f4 = f5 at m9 L5 p1 p2 p3 p4 p5
      have d9 : H9 D = some (.lst (restV rs b xs)) := x79.at m7 e7 (fun z => nomatch z)
      have rr9 : Rows H9 (restV rs b xs) (restD rs b) := x79.rows m7 rr
      refine ⟨_, rfl, D, _, _, "end", rfl, by decide +kernel, d9, rr9, rdl, few2, fun es fes ea H10 n10 s10 e10 => ?_⟩
      refine ⟨_, rfl, m, C, dx, _, rfl, s10 _ _ m9, TM.cl, TM.n_endings, Nat.lt_of_le_of_lt L5 (by decide), ?_⟩
      have L6 := putF_len (f := "endings") (v := .ref ea) L5
      have em : ea ≠ m := fun z => by
        rw [z, m9] at n10
        cases n10
      have nea : H ea = none := SameX.off (fun b o n e => x9 _ _ n (x4 _ _ n e)) n10 em
      have x11 : SameX m H9 (upd H10 m (.ins C dx (putF "endings" (.ref ea) f5))) := SameX.upd fun b o _ e => s10 _ _ e
      have m11 : upd H10 m (.ins C dx (putF "endings" (.ref ea) f5)) m = some (.ins C dx (putF "endings" (.ref ea) f5)) := upd_same
      have e11 : upd H10 m (.ins C dx (putF "endings" (.ref ea) f5)) ea = some (.lst (es.map V.str)) := by
        rw [upd_ne em]
        exact e10
      have r6 : (putF ("endings" : Str) (.ref ea) f5).lookup ("endings" : Str) = some (.ref ea) := by rw [lookup_putF, if_pos rfl]
      have r1 : (putF ("endings" : Str) (.ref ea) f5).lookup ("counts" : Str) = some (.ref t) := by rw [lookup_putF, if_neg (by decide +kernel)]; exact p1
      have r2 : (putF ("endings" : Str) (.ref ea) f5).lookup ("lines" : Str) = some (.ref l) := by rw [lookup_putF, if_neg (by decide +kernel)]; exact p2
      have r3 : (putF ("endings" : Str) (.ref ea) f5).lookup ("begin" : Str) = some (.int b) := by rw [lookup_putF, if_neg (by decide +kernel)]; exact p3
      have r4 : (putF ("endings" : Str) (.ref ea) f5).lookup ("stops" : Str) = some (.ref sa) := by rw [lookup_putF, if_neg (by decide +kernel)]; exact p4
      have r5 : (putF ("endings" : Str) (.ref ea) f5).lookup ("asks" : Str) = some (.ref aa) := by rw [lookup_putF, if_neg (by decide +kernel)]; exact p5
      generalize (upd H10 m (.ins C dx (putF "endings" (.ref ea) f5))) = H11 at x11 m11 e11 ⊢
      generalize putF ("endings" : Str) (.ref ea) f5 = f6 at m11 L6 r1 r2 r3 r4 r5 r6
      have d11 : H11 D = some (.lst (restV rs b xs)) := x11.at m9 d9 (fun z => nomatch z)
      have rr11 : Rows H11 (restV rs b xs) (restD rs b) := x11.rows m9 rr9
      have rdv : (restD rs b).length = (restV rs b xs).length := rr11.1.symm
      refine ⟨_, rfl, D, rfl, ⟨_, SqL.of d11⟩, fun G nG => lc_pure (ys := (restD rs b).map fun d => .str (wordOf d)) d11 nG (by rw [List.length_map, rdv]) (by rw [← rdv]; omega) (fun _ => rfl) (fun j x y Ha Qe hx hy sa11 qe => ?_) (fun H12 s12 e12 => ?_)⟩
      · have hj : j < (restD rs b).length := by
          have := (List.getElem?_eq_some_iff.mp hx).1
          omega
        obtain ⟨z, zs, d, ed, hx2, row, hz⟩ := rr11.at hj
        rw [hx2] at hx
        cases hx
        rw [List.getElem?_map, ed] at hy
        cases hy
        exact ⟨_, rfl, _, _, _, _, rfl, rfl, .inl (.inl (sa11 _ _ hz)), at0', qe⟩
      · refine ⟨G, _, rfl, .inl (SqL.of e12), rfl, ?_, ?_⟩
        · rw [List.all_map]
          exact List.all_eq_true.mpr fun _ _ => rfl
        · refine ⟨_, rfl, m, C, dx, _, rfl, s12 _ _ m11, TM.cl, TM.n_endless, Nat.lt_of_le_of_lt L6 (by decide), ?_⟩
          have x12 : SameX m H11 (upd H12 m (.ins C dx (putF "endless" (.bl (endlessD rs b)) f6))) := SameX.upd fun b o _ e => s12 _ _ e
          refine k (putF "endless" (.bl (endlessD rs b)) f6) (upd H12 m (.ins C dx (putF "endless" (.bl (endlessD rs b)) f6))) sa aa ea as es nsa naa nea (fun b o n e => x12 _ _ n (x11 _ _ n (x9 _ _ n (x4 _ _ n e)))) upd_same ⟨?_, ?_, ?_, ?_, ?_, ?_, ?_, x12 _ _ sm (x11 _ _ sm (x9 _ _ sm e5)), x12 _ _ am (x11 _ _ am e9), x12 _ _ em e11, fas, fes⟩
          · rw [lookup_putF, if_neg (by decide +kernel)]
            exact r1
          · rw [lookup_putF, if_neg (by decide +kernel)]
            exact r2
          · rw [lookup_putF, if_neg (by decide +kernel)]
            exact r3
          · rw [lookup_putF, if_neg (by decide +kernel)]
            exact r4
          · rw [lookup_putF, if_neg (by decide +kernel)]
            exact r5
          · rw [lookup_putF, if_neg (by decide +kernel)]
            exact r6
          · rw [lookup_putF, if_pos rfl]
end
end Mine

set_option maxRecDepth 100000
set_option maxHeartbeats 4000000
namespace Mine
open PySem L2
abbrev s_lines_read : Stmt := top 59
theorem ps_no {X : Cx} {st : Stmt} : PS X st (fun _ _ _ => False) := ⟨fun _ _ _ _ _ _ h => h.elim⟩
/-- the rows stand there, in lists or tuples -/
def RowsIn (H : Hp) (xs : List V) (rs : List RowD) : Prop := xs.length = rs.length ∧ ∀ (i : Nat) (d : RowD), rs[i]? = some d → ∃ x, xs[i]? = some x ∧ RowAt H x d
def OkRows (o : Ops) (rs : List RowD) : Prop := ∀ (i : Nat) (d : RowD), rs[i]? = some d → OkRow o rs.length d
theorem OkRows.fit {o : Ops} {rs : List RowD} (h : OkRows o rs) : Fit rs := fun i d e n hn => by
  have := h i d e
  cases d with
  | ask op ns => exact this.2.2 n hn
  | go k =>
    rw [List.mem_singleton.mp hn]
    exact this
  | fin w => exact nomatch hn
def spRead : Sp := fun vs H Q _ => ∃ (r d : Addr) (xs : List V) (rs : List RowD) (o : Ops), vs = [.ref r, .ref d] ∧ SqA H r xs ∧ RowsIn H xs rs ∧ Rd H d (.dK (opsK o)) ∧ 1 ≤ rs.length ∧ rs.length ≤ 400 ∧ OkRows o rs ∧
  ∀ (p : Addr) (ys : List V) (H' : Hp), H p = none → Same H H' → H' p = some (.lst ys) → Rows H' ys rs → Q (.ref p) H'
theorem TRow.other {H : Hp} {D : Addr} {ys : List V} {o : HO} {v : V} {d : RowD} (h : TRow H v d) (e : H D = some (.lst ys)) : TRow (upd H D o) v d := by
  have ne : ∀ {a : Addr} {zs : List V}, H a = some (.tup zs) → upd H D o a = some (.tup zs) := fun {a zs} h1 => by
    rw [upd_ne (fun z => by rw [z, e] at h1; cases h1)]
    exact h1
  cases d with
  | ask op ns =>
    obtain ⟨a, t, e, h1, h2⟩ := h
    exact ⟨a, t, e, ne h1, ne h2⟩
  | go n =>
    obtain ⟨a, e, h1⟩ := h
    exact ⟨a, e, ne h1⟩
  | fin w =>
    obtain ⟨a, e, h1⟩ := h
    exact ⟨a, e, ne h1⟩
/-- the first kk rows stand in the new list -/
structure Grown (Hn : Hp) (D : Addr) (rs : List RowD) (kk : Nat) (Hx : Hp) : Prop where
  same : Same Hn Hx
  at_ : ∃ ys : List V, ys.length = kk ∧ Hx D = some (.lst ys) ∧ ∀ (j : Nat) (dj : RowD), j < kk → rs[j]? = some dj → ∃ y, ys[j]? = some y ∧ TRow Hx y dj
section
variable {P : Program} {w : World} {K : PySem.W.Frag} {mg : Str → Option Value} {base : Heap}
variable {fII fIW a_is_row a_is_index a_is_name a_is_text_in a_are_counts a_word_of a_are_nexts a_is_line a_line_of a_are_operations : Addr}
theorem sc_lines_read : FnScope ["rows", "counts", "index", "row"] ["rows", "counts"] (defScope s_lines_read) := ⟨rfl, rfl, rfl, by decide +kernel, rfl, by decide +kernel, by decide +kernel⟩
theorem ok_lines_read {f : Addr} {fd fd_is_row fd_is_line fd_line_of : FuncData} (F : Fun K "lines_read" "lines_read" s_lines_read f fd) (T : TxtF K mg fII fIW) (TG : TxtG K mg a_is_row a_is_index a_is_name a_is_text_in a_are_counts a_word_of a_are_nexts a_is_line a_line_of a_are_operations)
    (h_enum : mg "enumerate" = none) {tm : Tok} (h_most : mg "MOST_ROWS" = some (.int 400 tm))
    (GRw : FnOk P w K mg base CX0 1 a_is_row fd_is_row ["thing"] (spIsRow K)) (b_is_row : Binds K fd_is_row ["thing"] [])
    (GL : FnOk P w K mg base CX0 5 a_is_line fd_is_line ["row", "counts", "many"] spIsLine) (b_is_line : Binds K fd_is_line ["row", "counts", "many"] [])
    (GLo : FnOk P w K mg base CX0 1 a_line_of fd_line_of ["row"] spLineOf) (b_line_of : Binds K fd_line_of ["row"] []) : FnOk P w K mg base CX0 6 f fd ["rows", "counts"] spRead := by
  refine F.ok sc_lines_read (fun vs H Q E h => ?_) (fun cdv A outer s H vs Q E hr h => ?_)
  · obtain ⟨r, d, xs, rs, o, rfl, _⟩ := h
    rfl
  · obtain ⟨r, d, xs, rs, o, rfl, hx, rows, hd, lo, hi, ok, k⟩ := h
    refine ⟨_, (pss_cons (ps_if (PW.pt (pw_or (pt_not (pt_val (pe_call GRw (hr.mono (by decide)) (by rfl) TG.g_is_row TG.k_is_row b_is_row .nil pass0 (pa_cons (pv 0) pa_nil)))) (pw_or1 (pt_not (pt_chain op_le op_le pe_int (pe_callB call_len_seq (by rfl) T.b_len PySem.boot_len (pa_cons (pv 0) pa_nil)) (pe_glob (v := .int 400) rfl h_most ⟨_, rfl⟩)))))) (pss_one ps_no) pss_nil)
      (pss_cons (ps_for PassesOwn.never rfl (pi_or (pi_enum (by rfl) h_enum (pa_cons (pv 0) pa_nil)) (pi_enumT (by rfl) h_enum (pa_cons (pv 0) pa_nil))) (pg_tup rfl (pgs_cons (pg_name (i := 2) sc_lines_read.nd rfl (Or.inl rfl)) (pgs_cons (pg_name (i := 3) sc_lines_read.nd rfl (Or.inl rfl)) pgs_nil)))
        (pss_one (ps_if (pt_not (pt_val (pe_call GL (hr.mono (by decide)) (by rfl) TG.g_is_line TG.k_is_line b_is_line .nil pass0 (pa_cons (pv 3) (pa_cons (pv 1) (pa_cons (pe_callB call_len_seq (by rfl) T.b_len PySem.boot_len (pa_cons (pv 0) pa_nil)) pa_nil)))))) (pss_one ps_no) pss_nil)))
      (pss_one (ps_ret (pe_lc (own := [("row", 3)]) (g := gName 3) (tt := tYes) (wi := iSeq K (tVar 0)) rfl sc_lines_read.nd (pi_seq (pv 0)) (blkOk_by (own := [("row", 3)]) (N := ["rows", "counts", "index", "row"]) (sc := defScope s_lines_read) (by decide +kernel)) (fun _ _ _ _ _ => pg_name (i := 3) sc_lines_read.nd rfl (Or.inl rfl)) (fun _ _ _ _ _ => pts_nil) (fun _ _ _ _ _ => (pe_call GLo (hr.mono (by decide)) (by rfl) TG.g_line_of TG.k_line_of b_line_of .nil pass0 (pa_cons (pv 3) pa_nil)))))))), ?_⟩
    obtain ⟨ty, b, e⟩ := btSeq (K := K) hx
    refine ⟨_, rfl, _, ty, rfl, b, fun H1 s1 => ⟨_, rfl, ?_⟩⟩
    rw [e]
    refine iteF ?_
    have hx1 := s1.sqa hx
    have len : (xs.length : Int) = rs.length := by rw [rows.1]
    refine ⟨_, rfl, r, _, rfl, hx1.sq, _, _, rfl, rfl, _, rfl, ?_⟩
    rw [len, decide_eq_true (show (1 : Int) ≤ (rs.length : Int) by omega)]
    refine iteT ?_
    refine ⟨_, _, rfl, rfl, _, rfl, ?_⟩
    rw [decide_eq_true (show (rs.length : Int) ≤ 400 by omega)]
    refine iteF ?_
    have body : ∀ (i : Nat) (x : V) (Ha : Hp), xs[i]? = some x → Same H1 Ha → ∃ dd : RowD, RowAt Ha x dd ∧ OkRow o (rs.length : Int) dd ∧ rs[i]? = some dd := fun i x Ha hxi sa => by
      have hi2 : i < rs.length := by
        have := (List.getElem?_eq_some_iff.mp hxi).1
        have := rows.1
        omega
      obtain ⟨x2, h1, h2⟩ := rows.2 i _ (List.getElem?_eq_getElem hi2)
      rw [hxi] at h1
      cases h1
      exact ⟨_, h2.same (s1.trans sa), ok i _ (List.getElem?_eq_getElem hi2), List.getElem?_eq_getElem hi2⟩
    have elem : ∀ (Hn Ha : Hp) (D : Addr) (kk : Nat) (x : V), Same H1 Hn → Hn D = none → xs[kk]? = some x → Grown Hn D rs kk Ha → ∃ dd : RowD, RowAt Ha x dd ∧ ∀ (v' : V) (H' : Hp), Same Ha H' → TRow H' v' dd → ∃ acc, H' D = some (.lst acc) ∧ acc.length < sizeLine ∧ Grown Hn D rs (kk + 1) (upd H' D (.lst (acc ++ [v']))) := fun Hn Ha D kk x sn nD hxk gr => by
      obtain ⟨dd, b1, _, b3⟩ := body kk x Ha hxk (sn.trans gr.same)
      refine ⟨dd, b1, fun v' H' sa tr => ?_⟩
      obtain ⟨sx, ys, yl, ye, ya⟩ := gr
      have hk : kk < rs.length := (List.getElem?_eq_some_iff.mp b3).1
      have eD := sa _ _ ye
      refine ⟨ys, eD, by rw [yl, sizeLine_eq]; omega, ⟨same_updN (sx.trans sa) nD, ys ++ [v'], by rw [List.length_append, yl]; rfl, upd_same, fun j dj hj ej => ?_⟩⟩
      by_cases z : j < kk
      · obtain ⟨y, h1, h2⟩ := ya j dj z ej
        exact ⟨y, by rw [List.getElem?_append_left (by omega)]; exact h1, (h2.same sa).other eD⟩
      · have zj : j = kk := by omega
        subst zj
        rw [b3] at ej
        cases ej
        exact ⟨v', by rw [List.getElem?_append_right (by omega), yl, Nat.sub_self]; rfl, tr.other eD⟩
    have fin : ∀ (Hn Hx : Hp) (D : Addr), Same H1 Hn → Hn D = none → Grown Hn D rs xs.length Hx → Q (.ref D) Hx := fun Hn Hx D sn nD gr => by
      obtain ⟨sx, ys, yl, ye, ya⟩ := gr
      rw [rows.1] at yl ya
      exact k D ys Hx (none_of (s1.trans sn) nD) (s1.trans (sn.trans sx)) ye ⟨yl, fun i dd e => ya i dd (List.getElem?_eq_some_iff.mp e).1 e⟩
    rcases hx1 with hx1 | hx1
    · refine .inl ⟨_, rfl, r, xs, rfl, SqL.of hx1, for_enumL (K := K) (a := r) (xs := xs) (fun i σ H' => ∃ v2 v3 : Option V, σ = [some (.ref r), some (.ref d), v2, v3] ∧ Same H1 H') ⟨_, _, rfl, Same.refl _⟩ (fun i σ H' _ z => by obtain ⟨_, _, _, s⟩ := z; exact SqL.of (s _ _ hx1)) ?_ ?_⟩
      · rintro i x σ Ha T Hb hxi ⟨v2, v3, rfl, sa⟩ nT sT eT
        obtain ⟨dd, b1, b2, _⟩ := body i x Hb hxi (sa.trans sT)
        refine ⟨T, _, rfl, .inl (.inl eT), rfl, _, _, rfl, _, _, rfl, rfl, ?_⟩
        refine ⟨_, rfl, _, rfl, _, rfl, r, _, rfl, .inl (SqL.of ((sa.trans sT) _ _ hx1)), ?_⟩
        rw [len]
        refine ⟨x, d, o, _, dd, rfl, b1, Rd.same (s1.trans (sa.trans sT)) hd, b2, fun Hc sc => ⟨_, rfl, ?_⟩⟩
        refine iteF ?_
        exact ⟨_, _, rfl, (sa.trans sT).trans sc⟩
      · rintro σ Hn ⟨v2, v3, rfl, sn⟩
        refine .inl ⟨_, rfl, r, rfl, ⟨_, SqL.of (sn _ _ hx1)⟩, fun D nD => lc_it (walk_list (xs := xs)) (fun kk Hx => Grown Hn D rs kk Hx) ⟨sameNew nD _, [], rfl, upd_same, fun j _ hj => absurd hj (Nat.not_lt_zero j)⟩ (fun kk Hx _ z => SqL.of (z.same _ _ (sn _ _ hx1))) (fun kk x Ha Hb hk z1 z2 => ?_) fun Hx z => fin Hn Hx D sn nD z⟩
        obtain ⟨rfl, hxk⟩ := z2
        obtain ⟨dd, b1, q⟩ := elem Hn _ D kk x sn nD hxk z1
        exact ⟨rfl, _, rfl, x, dd, rfl, b1, q⟩
    · refine .inr ⟨_, rfl, r, xs, rfl, .inl (.inl hx1), for_enumT (K := K) (a := r) (xs := xs) (fun i σ H' => ∃ v2 v3 : Option V, σ = [some (.ref r), some (.ref d), v2, v3] ∧ Same H1 H') ⟨_, _, rfl, Same.refl _⟩ (fun i σ H' _ z => by obtain ⟨_, _, _, s⟩ := z; exact .inl (.inl (s _ _ hx1))) ?_ ?_⟩
      · rintro i x σ Ha T Hb hxi ⟨v2, v3, rfl, sa⟩ nT sT eT
        obtain ⟨dd, b1, b2, _⟩ := body i x Hb hxi (sa.trans sT)
        refine ⟨T, _, rfl, .inl (.inl eT), rfl, _, _, rfl, _, _, rfl, rfl, ?_⟩
        refine ⟨_, rfl, _, rfl, _, rfl, r, _, rfl, .inr (.inl (.inl ((sa.trans sT) _ _ hx1))), ?_⟩
        rw [len]
        refine ⟨x, d, o, _, dd, rfl, b1, Rd.same (s1.trans (sa.trans sT)) hd, b2, fun Hc sc => ⟨_, rfl, ?_⟩⟩
        refine iteF ?_
        exact ⟨_, _, rfl, (sa.trans sT).trans sc⟩
      · rintro σ Hn ⟨v2, v3, rfl, sn⟩
        refine .inr ⟨_, rfl, r, rfl, ⟨_, .inl (.inl (sn _ _ hx1))⟩, fun D nD => lc_it (walk_tup (xs := xs)) (fun kk Hx => Grown Hn D rs kk Hx) ⟨sameNew nD _, [], rfl, upd_same, fun j _ hj => absurd hj (Nat.not_lt_zero j)⟩ (fun kk Hx _ z => .inl (.inl (z.same _ _ (sn _ _ hx1)))) (fun kk x Ha Hb hk z1 z2 => ?_) fun Hx z => fin Hn Hx D sn nD z⟩
        obtain ⟨rfl, hxk⟩ := z2
        obtain ⟨dd, b1, q⟩ := elem Hn _ D kk x sn nD hxk z1
        exact ⟨rfl, _, rfl, x, dd, rfl, b1, q⟩
end
end Mine

set_option maxRecDepth 100000
set_option maxHeartbeats 4000000
namespace Mine
open PySem L2
abbrev s_body : Stmt := inClass (top 56) 0
theorem MachFs.x {m : Addr} {H H' : Hp} {C dx : Addr} {fx : List (Str × V)} {fs : List (Str × V)} {t l : Addr} {b : Nat} {rs : List RowD} {sa aa ea : Addr} {as es : List Str} (x : SameX m H H') (hm : H m = some (.ins C dx fx)) (f : MachFs H fs t l b rs sa aa ea as es) : MachFs H' fs t l b rs sa aa ea as es :=
  ⟨f.counts, f.lines, f.begin, f.stops, f.asks, f.endings, f.endless, x.at hm f.hs (fun z => nomatch z), x.at hm f.ha (fun z => nomatch z), x.at hm f.he (fun z => nomatch z), f.fa, f.fe⟩
theorem MachFs.same {H H' : Hp} {fs : List (Str × V)} {t l : Addr} {b : Nat} {rs : List RowD} {sa aa ea : Addr} {as es : List Str} (s : Same H H') (f : MachFs H fs t l b rs sa aa ea as es) : MachFs H' fs t l b rs sa aa ea as es :=
  ⟨f.counts, f.lines, f.begin, f.stops, f.asks, f.endings, f.endless, s _ _ f.hs, s _ _ f.ha, s _ _ f.he, f.fa, f.fe⟩
/-- a body stands there -/
structure BodyP (CB CM : Addr) (H : Hp) (bd : Addr) (o : Ops) (rs : List RowD) (b : Nat) (m t l sa aa ea : Addr) (o' : Ops) (xs : List V) (as es : List Str) : Prop where
  hb : ∃ dx fb, H bd = some (.ins CB dx fb) ∧ fb.lookup ("machine" : Str) = some (.ref m)
  hm : ∃ dm fm, H m = some (.ins CM dm fm) ∧ MachFs H fm t l b rs sa aa ea as es
  ht : H t = some (.dK (opsK o'))
  ord : Ordered o o'
  hl : H l = some (.lst xs)
  rows : Rows H xs rs
  lt : b < rs.length
  own : ∃ dx, H bd = some (.ins CB dx [("machine", .ref m)])
def BodyAt (CB CM : Addr) (H : Hp) (bd : Addr) (o : Ops) (rs : List RowD) (b : Nat) : Prop := ∃ m t l sa aa ea o' xs as es, BodyP CB CM H bd o rs b m t l sa aa ea o' xs as es
/-- a new body: its parts are new, but for the rows' tuples -/
def BodyN (CB CM : Addr) (H0 H : Hp) (bd : Addr) (o : Ops) (rs : List RowD) (b : Nat) : Prop := ∃ m t l sa aa ea o' xs as es, BodyP CB CM H bd o rs b m t l sa aa ea o' xs as es ∧ H0 m = none ∧ H0 t = none ∧ H0 l = none ∧ H0 sa = none ∧ H0 aa = none ∧ H0 ea = none
theorem BodyN.at {CB CM : Addr} {H0 H : Hp} {bd : Addr} {o : Ops} {rs : List RowD} {b : Nat} (h : BodyN CB CM H0 H bd o rs b) : BodyAt CB CM H bd o rs b := by
  obtain ⟨m, t, l, sa, aa, ea, o', xs, as, es, h, _⟩ := h
  exact ⟨m, t, l, sa, aa, ea, o', xs, as, es, h⟩
/-- what is new, or a tuple, stays: then the body stays -/
theorem BodyN.off {CB CM : Addr} {H0 H H' : Hp} {bd : Addr} {o : Ops} {rs : List RowD} {b : Nat} (h : BodyN CB CM H0 H bd o rs b) (nb : H0 bd = none) (k : ∀ a u, H a = some u → (H0 a = none ∨ ∃ zs, u = .tup zs) → H' a = some u) : BodyAt CB CM H' bd o rs b := by
  obtain ⟨m, t, l, sa, aa, ea, o', xs, as, es, ⟨⟨dx, fb, h1, h2⟩, ⟨dm, fm, h3, h4⟩, h5, h6, h7, h8, h9, dw, hw⟩, n1, n2, n3, n4, n5, n6⟩ := h
  have ku : ∀ {q : Addr} {us : List V}, H q = some (.tup us) → H' q = some (.tup us) := fun e => k _ _ e (.inr ⟨_, rfl⟩)
  refine ⟨m, t, l, sa, aa, ea, o', xs, as, es, ⟨dx, fb, k _ _ h1 (.inl nb), h2⟩, ⟨dm, fm, k _ _ h3 (.inl n1), ⟨h4.counts, h4.lines, h4.begin, h4.stops, h4.asks, h4.endings, h4.endless, k _ _ h4.hs (.inl n4), k _ _ h4.ha (.inl n5), k _ _ h4.he (.inl n6), h4.fa, h4.fe⟩⟩, k _ _ h5 (.inl n2), h6, k _ _ h7 (.inl n3), ⟨h8.1, fun i d e => ?_⟩, h9, dw, k _ _ hw (.inl nb)⟩
  obtain ⟨x, x1, x2⟩ := h8.2 i d e
  refine ⟨x, x1, ?_⟩
  cases d with
  | ask op ns =>
    obtain ⟨q, t', e1, k1, k2⟩ := x2
    exact ⟨q, t', e1, ku k1, ku k2⟩
  | go n =>
    obtain ⟨q, e1, k1⟩ := x2
    exact ⟨q, e1, ku k1⟩
  | fin n =>
    obtain ⟨q, e1, k1⟩ := x2
    exact ⟨q, e1, ku k1⟩
theorem BodyP.same {CB CM : Addr} {H H' : Hp} {bd : Addr} {o : Ops} {rs : List RowD} {b : Nat} {m t l sa aa ea : Addr} {o' : Ops} {xs : List V} {as es : List Str} (s : Same H H') (h : BodyP CB CM H bd o rs b m t l sa aa ea o' xs as es) : BodyP CB CM H' bd o rs b m t l sa aa ea o' xs as es := by
  obtain ⟨⟨dx, fb, h1, h2⟩, ⟨dm, fm, h3, h4⟩, h5, h6, h7, h8, h9, dw, hw⟩ := h
  exact ⟨⟨dx, fb, s _ _ h1, h2⟩, ⟨dm, fm, s _ _ h3, h4.same s⟩, s _ _ h5, h6, s _ _ h7, h8.same s, h9, dw, s _ _ hw⟩
theorem BodyAt.same {CB CM : Addr} {H H' : Hp} {bd : Addr} {o : Ops} {rs : List RowD} {b : Nat} (s : Same H H') (h : BodyAt CB CM H bd o rs b) : BodyAt CB CM H' bd o rs b := by
  obtain ⟨m, t, l, sa, aa, ea, o', xs, as, es, h⟩ := h
  exact ⟨m, t, l, sa, aa, ea, o', xs, as, es, h.same s⟩
theorem RowsIn.same {H H' : Hp} {xs : List V} {rs : List RowD} (s : Same H H') (h : RowsIn H xs rs) : RowsIn H' xs rs := ⟨h.1, fun i d e => by
  obtain ⟨x, h1, h2⟩ := h.2 i d e
  exact ⟨x, h1, h2.same s⟩⟩
def spBody (CB CM : Addr) : Sp := fun vs H Q _ => ∃ (bd d r dx : Addr) (xs : List V) (rs : List RowD) (o : Ops) (b : Nat), vs = [.ref bd, .ref d, .ref r, .int b] ∧ H bd = some (.ins CB dx []) ∧ H d = some (.dK (opsK o)) ∧ OkOps o ∧ SqA H r xs ∧ RowsIn H xs rs ∧ 1 ≤ rs.length ∧ rs.length ≤ 400 ∧ OkRows o rs ∧ b < rs.length ∧
  (distinct "ask" (restD rs b)).length < 64 ∧ (distinct "end" (restD rs b)).length < 64 ∧ ∀ H', SameX bd H H' → BodyN CB CM H H' bd o rs b → Q .non H'
structure BodyC (K : PySem.W.Frag) (C : Addr) : Prop where
  cl : Cls K C
  n_machine : NoAttr K C "machine"
section
variable {P : Program} {w : World} {K : PySem.W.Frag} {mg : Str → Option Value} {base : Heap}
variable {fII fIW a_is_row a_is_index a_is_name a_is_text_in a_are_counts a_word_of a_are_nexts a_is_line a_line_of a_are_operations a_lines_read a_in_order f_mach CB CM : Addr}
theorem sc_body : FnScope ["self", "operations", "rows", "start", "lines"] ["self", "operations", "rows", "start"] (defScope s_body) := ⟨rfl, rfl, rfl, by decide +kernel, rfl, by decide +kernel, by decide +kernel⟩
theorem ok_body {f : Addr} {fd fd_are_operations fd_lines_read fd_is_index fd_in_order fd_mach : FuncData} (F : Fun K "__init__" "Body.__init__" s_body f fd) (T : TxtF K mg fII fIW) (TG : TxtG K mg a_is_row a_is_index a_is_name a_is_text_in a_are_counts a_word_of a_are_nexts a_is_line a_line_of a_are_operations) (TB : BodyC K CB)
    (GO : FnOk P w K mg base CX0 4 a_are_operations fd_are_operations ["thing"] spOps) (b_are_operations : Binds K fd_are_operations ["thing"] [])
    (GLR : FnOk P w K mg base CX0 6 a_lines_read fd_lines_read ["rows", "counts"] spRead) (b_lines_read : Binds K fd_lines_read ["rows", "counts"] []) (g_lines_read : mg "lines_read" = some (.ref a_lines_read)) (k_lines_read : PySem.W.keepIn K (.ref a_lines_read) = true)
    (GIx : FnOk P w K mg base CX0 3 a_is_index fd_is_index ["thing", "many"] (spIndex K)) (b_is_index : Binds K fd_is_index ["thing", "many"] [])
    (GIO : FnOk P w K mg base CX0 1 a_in_order fd_in_order ["table"] spOrder) (b_in_order : Binds K fd_in_order ["table"] []) (g_in_order : mg "in_order" = some (.ref a_in_order)) (k_in_order : PySem.W.keepIn K (.ref a_in_order) = true)
    (MM : Mk K CM f_mach) (GM : FnOk P w K mg base CX0 3 f_mach fd_mach ["self", "counts", "lines", "begin"] (spMach CM)) (b_Machine : Binds K fd_mach ["self", "counts", "lines", "begin"] []) (g_Machine : mg "Machine" = some (.ref CM)) : FnOk P w K mg base CX0 7 f fd ["self", "operations", "rows", "start"] (spBody CB CM) := by
  refine F.ok sc_body (fun vs H Q E h => ?_) (fun cdv A outer s H vs Q E hr h => ?_)
  · obtain ⟨bd, d, r, dx, xs, rs, o, b, rfl, _⟩ := h
    rfl
  · obtain ⟨bd, d, r, dx, xs, rs, o, b, rfl, hbd, hd, oko, hx, rows, lo, hi, ok, hb, few1, few2, k⟩ := h
    refine ⟨_, (pss_cons (ps_if (pt_not (pt_val (pe_call GO (hr.mono (by decide)) (by rfl) TG.g_are_operations TG.k_are_operations b_are_operations .nil pass0 (pa_cons (pv 1) pa_nil)))) (pss_one ps_no) pss_nil)
      (pss_cons (ps_set (i := 4) sc_body.nd rfl (Or.inl rfl) (pe_call GLR (hr.mono (by decide)) (by rfl) g_lines_read k_lines_read b_lines_read .nil pass0 (pa_cons (pv 2) (pa_cons (pv 1) pa_nil))))
      (pss_cons (ps_if (pt_not (pt_val (pe_call GIx (hr.mono (by decide)) (by rfl) TG.g_is_index TG.k_is_index b_is_index .nil pass0 (pa_cons (pv 3) (pa_cons (pe_callB call_len_seq (by rfl) T.b_len PySem.boot_len (pa_cons (pv 4) pa_nil)) pa_nil))))) (pss_one ps_no) pss_nil)
      (pss_one (ps_fld (pv 0) (pe_make MM GM (hr.mono (by decide)) (by rfl) g_Machine b_Machine .nil pass0 (pa_cons (pe_call GIO (hr.mono (by decide)) (by rfl) g_in_order k_in_order b_in_order .nil pass0 (pa_cons (pv 1) pa_nil)) (pa_cons (pv 4) (pa_cons (pv 3) pa_nil)))) rfl))))), ?_⟩
    refine ⟨_, rfl, d, o, rfl, hd, oko, fun H1 s1 => ⟨_, rfl, ?_⟩⟩
    refine iteF ?_
    refine ⟨_, rfl, _, rfl, r, d, xs, rs, o, rfl, s1.sqa hx, rows.same s1, .inl (s1 _ _ hd), lo, hi, ok, fun l ys H2 n2 s2 e2 rr => ?_⟩
    refine ⟨_, rfl, _, rfl, l, _, rfl, .inl (SqL.of e2), .int b, "int", _, rfl, btInt _, _, rfl, ?_⟩
    rw [inW_int (show (0 : Int) ≤ b by omega) (by rw [rr.1]; omega)]
    refine iteF ?_
    refine ⟨_, rfl, d, o, rfl, .inl (s2 _ _ (s1 _ _ hd)), oko.nd, by have := oko.few; omega, fun o' ord t H3 n3 s3 e3 => ?_⟩
    refine ⟨_, rfl, _, rfl, fun m dm nm ndm ne => ?_⟩
    have sm : Same H3 (upd (upd H3 dm (.own m)) m (.ins CM dm [])) := same_updN (same_updN (Same.refl _) ndm) nm
    refine ⟨m, t, l, dm, ys, rs, b, rfl, upd_same, sm _ _ (s3 _ _ e2), rr.same (s3.trans sm), ok.fit, hb, by omega, few1, few2, fun fs H5 sa aa ea as es nsa naa nea x5 m5 mf => ⟨rfl, ?_⟩⟩
    have hbd3 : H3 bd = some (.ins CB dx []) := s3 _ _ (s2 _ _ (s1 _ _ hbd))
    have nbm : bd ≠ m := ne_of_none hbd3 nm
    have hbd5 : H5 bd = some (.ins CB dx []) := x5 bd _ nbm (sm _ _ hbd3)
    refine ⟨_, rfl, bd, CB, dx, _, rfl, hbd5, TB.cl, TB.n_machine, by decide, ?_⟩
    have x6 : SameX bd H5 (upd H5 bd (.ins CB dx (putF "machine" (.ref m) []))) := SameX.upd fun _ _ _ e => e
    have up : ∀ {b2 : Addr} {u : HO}, b2 ≠ bd → H b2 = some u → upd H5 bd (.ins CB dx (putF "machine" (.ref m) [])) b2 = some u := fun {b2 u} nb e => by
      have e3' : H3 b2 = some u := s3 _ _ (s2 _ _ (s1 _ _ e))
      exact x6 b2 u nb (x5 b2 u (ne_of_none e3' nm) (sm _ _ e3'))
    have up3 : ∀ {b2 : Addr} {u : HO}, H3 b2 = some u → b2 ≠ bd → upd H5 bd (.ins CB dx (putF "machine" (.ref m) [])) b2 = some u := fun {b2 u} e nb => x6 b2 u nb (x5 b2 u (ne_of_none e nm) (sm _ _ e))
    have rows6 : Rows (upd H5 bd (.ins CB dx (putF "machine" (.ref m) []))) ys rs := SameX.rows x6 hbd5 (SameX.rows x5 upd_same (rr.same (s3.trans sm)))
    have s12 : Same H H2 := s1.trans s2
    have s13 : Same H H3 := s12.trans s3
    refine k _ (fun b2 u nb e => up nb e) ⟨m, t, l, sa, aa, ea, o', ys, as, es, ⟨⟨dx, _, upd_same, by rw [lookup_putF, if_pos rfl]⟩, ⟨dm, fs, x6 m _ (Ne.symm nbm) m5, mf.x x6 hbd5⟩, up3 e3 (fun z => by rw [z, hbd3] at e3; cases e3), ord, up3 (s3 _ _ e2) (fun z => by rw [z] at e2; rw [s2 _ _ (s1 _ _ hbd)] at e2; cases e2), rows6, hb, dx, upd_same⟩, none_of s13 nm, none_of s12 n3, none_of s1 n2, none_of s13 (none_of sm nsa), none_of s13 (none_of sm naa), none_of s13 (none_of sm nea)⟩
end
end Mine

set_option maxRecDepth 100000
set_option maxHeartbeats 4000000
namespace Mine
open PySem L2
abbrev sSrc : Stmt := top 108
abbrev sNext : Stmt := top 109
abbrev sOne : Stmt := top 110
/-- the source of the draws: three ints -/
def SrcAt (H : Hp) (a : Addr) : Prop := ∃ x y z : Int, H a = some (.lst [.int x, .int y, .int z])
/-- all but what stands at a is as it was -/
def But (H H' : Hp) (a : Addr) : Prop := ∀ b o, b ≠ a → H b = some o → H' b = some o
theorem but_upd {H : Hp} {a : Addr} (o : HO) : But H (upd H a o) a := fun b u ne e => by
  rw [upd_ne ne]
  exact e
theorem But.trans {H H1 H2 : Hp} {a : Addr} (s : But H H1 a) (t : But H1 H2 a) : But H H2 a := fun b o ne e => t b o ne (s b o ne e)
theorem But.same {H H1 H2 : Hp} {a : Addr} (s : Same H H1) (t : But H1 H2 a) (n : H a = none) : Same H H2 := fun b o e => t b o (ne_of_none e n) (s b o e)
def spSrc : Sp := fun vs H Q _ => ∃ c : Int, vs = [.int c] ∧ ∀ (x y z : Int), New H (.lst [.int x, .int y, .int z]) Q
def spNext : Sp := fun vs H Q _ => ∃ (a : Addr) (m x y z : Int), vs = [.ref a, .int m] ∧ 0 < m ∧ m.natAbs < 2 ^ 200 ∧ H a = some (.lst [.int x, .int y, .int z]) ∧
  ∀ (n x' y' z' : Int) (H' : Hp), 0 ≤ n → n < m → But H H' a → H' a = some (.lst [.int x', .int y', .int z']) → Q (.int n) H'
/-- one of the things in a list -/
def spOne : Sp := fun vs H Q _ => ∃ (a b : Addr) (xs : List V) (x y z : Int), vs = [.ref a, .ref b] ∧ H a = some (.lst [.int x, .int y, .int z]) ∧ H b = some (.lst xs) ∧ 0 < xs.length ∧ xs.length ≤ 1000 ∧ a ≠ b ∧
  ∀ (v : V) (x' y' z' : Int) (H' : Hp), v ∈ xs → But H H' a → H' a = some (.lst [.int x', .int y', .int z']) → Q v H'
structure TxtD (K : PySem.W.Frag) (mg : Str → Option Value) (fN : Addr) : Prop where
  int : mg "int" = none
  len : mg "len" = none
  gN : mg "_law_next" = some (.ref fN)
  kN : PySem.W.keepIn K (.ref fN) = true
theorem at0 {α : Type} {a : α} {l : List α} : atI (a :: l) 0 = some a := atI_nat (j := 0) rfl
theorem at1 {α : Type} {a b : α} {l : List α} : atI (a :: b :: l) 1 = some b := atI_nat (j := 1) rfl
theorem at2 {α : Type} {a b c : α} {l : List α} : atI (a :: b :: c :: l) 2 = some c := atI_nat (j := 2) rfl
theorem ix0 {n : Nat} : ixN (n + 1) 0 = some 0 := by
  unfold ixN
  rw [if_pos (Int.le_refl _), if_pos (by omega)]
  rfl
theorem ix2 {n : Nat} : ixN (n + 3) 2 = some 2 := by
  unfold ixN
  rw [if_pos (by decide), if_pos (by omega)]
  rfl
theorem modM {m : Int} (h : 0 < m) (u : Int) : 0 ≤ u % m ∧ u % m < m := ⟨Int.emod_nonneg _ (by omega), Int.emod_lt_of_pos _ h⟩
section
variable {P : Program} {w : World} {K : PySem.W.Frag} {mg : Str → Option Value} {base : Heap}
variable {fN : Addr}
theorem scSrc : FnScope ["_law_cell"] ["_law_cell"] (defScope sSrc) := ⟨rfl, rfl, rfl, by decide +kernel, rfl, by decide +kernel, by decide +kernel⟩
theorem ok_src {f : Addr} {fd : FuncData} (F : Fun K "_law_source_of" "_law_source_of" sSrc f fd) (T : TxtD K mg fN) : FnOk P w K mg base CX0 1 f fd ["_law_cell"] spSrc := by
  refine F.ok scSrc (fun vs H Q E h => ?_) (fun cdv A outer s H vs Q E hr h => ?_)
  · obtain ⟨c, rfl, _⟩ := h
    rfl
  · obtain ⟨c, rfl, k⟩ := h
    refine ⟨_, (pss_cons (ps_set (i := 0) scSrc.nd rfl (Or.inl rfl) (pe_ifExp (pt_cmpR op_ge (pv 0) pe_int (nomark _)) (pv 0) (pe_op op_sub (pe_op op_sub pe_int (pe_op op_mul pe_int (pv 0))) pe_int)))
      (pss_one (ps_ret (pe_lstG (pa_cons (pe_op op_mul (pv 0) (pe_callTy call_int1 (by rfl) T.int (by decide +kernel) (pa_cons (pe_cmpR op_ge (pv 0) (pe_op op_pow pe_int pe_int) (nomark _)) pa_nil))) (pa_cons (pe_op op_mod (pe_callTy call_int1 (by rfl) T.int (by decide +kernel) (pa_cons (pv 0) pa_nil)) pe_int) (pa_cons pe_int pa_nil))))))), ?_⟩
    refine ⟨_, rfl, _, _, rfl, rfl, _, rfl, ?_⟩
    refine ite2 (fun _ => ?_) (fun _ => ?_)
    · refine ⟨_, rfl, _, rfl, _, rfl, _, _, rfl, rfl, ⟨by decide, by decide, by decide⟩, _, _, rfl, rfl, .inr ⟨_, rfl, _, _, rfl, rfl, .inr (by split <;> decide), ?_⟩⟩
      refine ⟨_, rfl, .inl ⟨_, rfl, _, _, rfl, rfl, (by show (0 : Int) < 2147483647; decide), ?_⟩⟩
      exact ⟨by show 3 ≤ sizeLine; decide, fun p H' n s e => k _ _ _ p H' n s e⟩
    · refine ⟨_, rfl, _, _, rfl, rfl, .inl (by decide), _, _, rfl, rfl, _, _, rfl, rfl, ?_⟩
      refine ⟨_, rfl, _, rfl, _, _, rfl, rfl, ⟨by decide, by decide, by decide⟩, _, _, rfl, rfl, .inr ⟨_, rfl, _, _, rfl, rfl, .inr (by split <;> decide), ?_⟩⟩
      refine ⟨_, rfl, .inl ⟨_, rfl, _, _, rfl, rfl, (by show (0 : Int) < 2147483647; decide), ?_⟩⟩
      exact ⟨by show 3 ≤ sizeLine; decide, fun p H' n s e => k _ _ _ p H' n s e⟩
theorem scNext : FnScope ["_law_source", "_law_many", "_law_found", "_law_number"] ["_law_source", "_law_many"] (defScope sNext) := ⟨rfl, rfl, rfl, by decide +kernel, rfl, by decide +kernel, by decide +kernel⟩
theorem divOk {i m : Int} (h0 : 0 < m) (h : m.natAbs < 2 ^ 200) : CDivW i m := wide_div (i := i) h0 h (by decide) (by decide)
theorem ok_next {f : Addr} {fd : FuncData} (F : Fun K "_law_next" "_law_next" sNext f fd) (T : TxtD K mg fN) : FnOk P w K mg base CX0 1 f fd ["_law_source", "_law_many"] spNext := by
  refine F.ok scNext (fun vs H Q E h => ?_) (fun cdv A outer s H vs Q E hr h => ?_)
  · obtain ⟨a, m, x, y, z, rfl, _⟩ := h
    rfl
  · obtain ⟨a, m, x, y, z, rfl, m0, m1, ha, k⟩ := h
    refine ⟨_, (pss_cons (ps_if (pt_cmpR op_gt (pe_ix ix_list (pv 0) pe_int (fun _ _ => rfl)) pe_int (nomark _)) (pss_cons (ps_set (i := 2) scNext.nd rfl (Or.inl rfl) (pe_op op_mod (pe_callTy call_int1 (by rfl) T.int (by decide +kernel) (pa_cons (pe_ix ix_list (pv 0) pe_int (fun _ _ => rfl)) pa_nil)) (pv 1)))
      (pss_cons (ps_asg (pe_op op_fdivW (pe_ix ix_list (pv 0) pe_int (fun _ _ => rfl)) (pv 1)) (pg_sub (pv 0) pe_int set_list))
      (pss_one (ps_ret (pv 2))))) pss_nil)
      (pss_cons (ps_asg (pe_op op_add (pe_ix ix_list (pv 0) pe_int (fun _ _ => rfl)) pe_int) (pg_sub (pv 0) pe_int set_list))
      (pss_cons (ps_set (i := 3) scNext.nd rfl (Or.inl rfl) (pe_op op_mod (pe_callTy call_int1 (by rfl) T.int (by decide +kernel) (pa_cons (pe_op op_add (pe_op op_add (pe_ix ix_list (pv 0) pe_int (fun _ _ => rfl)) (pe_op op_mul pe_int (pe_ix ix_list (pv 0) pe_int (fun _ _ => rfl)))) pe_int) pa_nil)) pe_int))
      (pss_cons (ps_set (i := 3) scNext.nd rfl (Or.inl rfl) (pe_op op_mod (pe_callTy call_int1 (by rfl) T.int (by decide +kernel) (pa_cons (pe_op op_mul (pv 3) pe_int) pa_nil)) pe_int))
      (pss_cons (ps_set (i := 3) scNext.nd rfl (Or.inl rfl) (pe_op op_mod (pe_callTy call_int1 (by rfl) T.int (by decide +kernel) (pa_cons (pe_op op_mul (pv 3) (pe_op op_add (pe_op op_fdiv (pv 3) pe_int) pe_int)) pa_nil)) pe_int))
      (pss_cons (ps_set (i := 3) scNext.nd rfl (Or.inl rfl) (pe_op op_mod (pe_callTy call_int1 (by rfl) T.int (by decide +kernel) (pa_cons (pe_op op_mul (pv 3) (pe_op op_add (pe_op op_fdiv (pv 3) pe_int) pe_int)) pa_nil)) pe_int))
      (pss_one (ps_ret (pe_op op_mod (pe_callTy call_int1 (by rfl) T.int (by decide +kernel) (pa_cons (pe_op op_fdiv (pv 3) pe_int) pa_nil)) (pv 1)))))))))), ?_⟩
    refine ⟨_, rfl, _, _, _, _, rfl, rfl, SqL.of ha, at0, _, _, rfl, rfl, _, rfl, ?_⟩
    refine ite2 (fun _ => ?_) (fun _ => ?_)
    · refine ⟨_, rfl, _, _, _, _, rfl, rfl, SqL.of ha, at0, .inl ⟨_, rfl, _, rfl, _, _, rfl, rfl, m0, ?_⟩⟩
      refine ⟨_, rfl, _, _, _, _, rfl, rfl, SqL.of ha, at0, _, rfl, _, _, rfl, rfl, divOk m0 m1, _, rfl, _, _, _, 0, rfl, rfl, ha, ix0, ?_⟩
      exact ⟨_, rfl, k _ _ y z _ (modM m0 _).1 (modM m0 _).2 (but_upd _) upd_same⟩
    · refine ⟨_, rfl, _, _, _, _, rfl, rfl, SqL.of ha, at2, _, _, rfl, rfl, _, rfl, _, _, _, 2, rfl, rfl, ha, ix2, ?_⟩
      have bd : ∀ u : Int, (-(2 ^ 64) < u % 2147483647 ∧ u % 2147483647 < 2 ^ 64) := fun u => by
        have := modM (show (0 : Int) < 2147483647 by decide) u
        omega
      refine ⟨_, rfl, _, _, _, _, rfl, rfl, SqL.of upd_same, at1, _, rfl, _, _, _, _, rfl, rfl, SqL.of upd_same, at2, _, _, rfl, rfl, .inl (by decide), _, _, rfl, rfl, _, _, rfl, rfl, .inl ⟨_, rfl, _, _, rfl, rfl, (by show (0 : Int) < 2147483647; decide), ?_⟩⟩
      refine ⟨_, rfl, _, _, rfl, rfl, .inr (by decide), .inl ⟨_, rfl, _, _, rfl, rfl, (by show (0 : Int) < 2147483647; decide), ?_⟩⟩
      refine ⟨_, rfl, _, rfl, _, _, rfl, rfl, ⟨by decide, by decide⟩, _, _, rfl, rfl, _, _, rfl, rfl, .inl (bd _), .inl ⟨_, rfl, _, _, rfl, rfl, (by show (0 : Int) < 2147483647; decide), ?_⟩⟩
      refine ⟨_, rfl, _, rfl, _, _, rfl, rfl, ⟨by decide, by decide⟩, _, _, rfl, rfl, _, _, rfl, rfl, .inl (bd _), .inl ⟨_, rfl, _, _, rfl, rfl, (by show (0 : Int) < 2147483399; decide), ?_⟩⟩
      refine ⟨_, rfl, _, _, rfl, rfl, ⟨by decide, by decide⟩, .inl ⟨_, rfl, _, rfl, _, _, rfl, rfl, m0, ?_⟩⟩
      exact k _ x y _ _ (modM m0 _).1 (modM m0 _).2 (but_upd _) upd_same
theorem scOne : FnScope ["_law_source", "_law_some"] ["_law_source", "_law_some"] (defScope sOne) := ⟨rfl, rfl, rfl, by decide +kernel, rfl, by decide +kernel, by decide +kernel⟩
theorem ok_one {f : Addr} {fd fdN : FuncData} (F : Fun K "_law_one" "_law_one" sOne f fd) (T : TxtD K mg fN) (FN : Fun K "_law_next" "_law_next" sNext fN fdN) (bN : Binds K fdN ["_law_source", "_law_many"] []) : FnOk P w K mg base CX0 2 f fd ["_law_source", "_law_some"] spOne := by
  have GN : FnOk P w K mg base CX0 1 fN fdN ["_law_source", "_law_many"] spNext := ok_next FN T
  refine F.ok scOne (fun vs H Q E h => ?_) (fun cdv A outer s H vs Q E hr h => ?_)
  · obtain ⟨a, b, xs, x, y, z, rfl, _⟩ := h
    rfl
  · obtain ⟨a, b, xs, x, y, z, rfl, ha, hb, l0, l1, ne, k⟩ := h
    have hr1 : Room 1 _ := hr.mono (by decide)
    refine ⟨_, (pss_one (ps_ret (pe_ix ix_list (pv 1) (pe_call GN hr1 (by rfl) T.gN T.kN bN .nil pass0 (pa_cons (pv 0) (pa_cons (pe_callB call_len_seq (by rfl) T.len PySem.boot_len (pa_cons (pv 1) pa_nil)) pa_nil))) (fun _ _ => rfl)))), ?_⟩
    refine ⟨_, rfl, _, rfl, _, rfl, _, _, rfl, .inl (SqL.of hb), a, _, x, y, z, rfl, by omega, ?_, ha, fun n x' y' z' H' n0 n1 bt he => ?_⟩
    · have : (((xs.length : Nat) : Int)).natAbs = xs.length := rfl
      rw [this]
      exact Nat.lt_of_le_of_lt l1 (by decide)
    · have hn : n.toNat < xs.length := by omega
      have ei : xs[n.toNat]? = some xs[n.toNat] := List.getElem?_eq_getElem hn
      have e2 : ((n.toNat : Nat) : Int) = n := Int.toNat_of_nonneg n0
      have ea : atI xs ((n.toNat : Nat) : Int) = some xs[n.toNat] := atI_nat ei
      rw [e2] at ea
      exact ⟨_, _, _, _, rfl, rfl, SqL.of (bt _ _ ne.symm hb), ea, k _ _ _ _ _ (List.getElem_mem hn) bt he⟩
end
end Mine

set_option maxRecDepth 100000
set_option maxHeartbeats 4000000
namespace Mine
open PySem L2
abbrev s_mixed : Stmt := top 111
/-- a text, or a pair of a text and a number -/
def El (H : Hp) (v : V) : Prop := (∃ t : Str, v = .str t ∧ PyData.strOk t = true) ∨ ∃ (q : Addr) (t : Str) (i : Int), v = .ref q ∧ H q = some (.tup [.str t, .int i]) ∧ PyData.strOk t = true
def TupStay (H H' : Hp) : Prop := ∀ (q : Addr) (zs : List V), H q = some (.tup zs) → H' q = some (.tup zs)
theorem El.stay {H H' : Hp} {v : V} (s : TupStay H H') (e : El H v) : El H' v := e.elim .inl fun ⟨q, t, i, h1, h2, h3⟩ => .inr ⟨q, t, i, h1, s _ _ h2, h3⟩
theorem El.dp {K : PySem.W.Frag} {H : Hp} {v : V} (e : El H v) : ∃ d : PyData, Dp K H v d ∧ d.canLay0 = true ∧ d.depth ≤ 1 := by
  rcases e with ⟨t, rfl, h⟩ | ⟨q, t, i, rfl, h, h3⟩
  · exact ⟨_, .str t, by simp [PyData.canLay0, h], by simp [PyData.depth]⟩
  · exact ⟨_, .tup (.inl (.inl h)) (.cons (.str t) (.cons (.int i) .nil)), by simp [PyData.canLay0, PyData.canLayAll0, h3], by simp [PyData.depth, PyData.depthAll]⟩
theorem Els.dp {K : PySem.W.Frag} {H : Hp} : ∀ {vs : List V}, (∀ v ∈ vs, El H v) → ∃ ds : List PyData, DpAll K H vs ds ∧ PyData.canLayAll0 ds = true ∧ PyData.depthAll ds ≤ 1 ∧ ds.length = vs.length
  | [], _ => ⟨[], .nil, by simp [PyData.canLayAll0], by simp [PyData.depthAll], rfl⟩
  | v :: vs, h => by
    obtain ⟨d, h1, h2, h3⟩ := (h v List.mem_cons_self).dp (K := K)
    obtain ⟨ds, k1, k2, k3, k4⟩ := Els.dp (K := K) (vs := vs) fun x hx => h x (List.mem_cons_of_mem _ hx)
    refine ⟨d :: ds, .cons h1 k1, by simp [PyData.canLayAll0, h2, k2], ?_, by rw [List.length_cons, k4]; rfl⟩
    simp only [PyData.depthAll]
    omega
def spMixed : Sp := fun vs H Q _ => ∃ (a b : Addr) (xs : List V) (x y z : Int), vs = [.ref a, .ref b] ∧ H a = some (.lst [.int x, .int y, .int z]) ∧ SqA H b xs ∧ xs.length ≤ 1000 ∧ (∀ v ∈ xs, El H v) ∧
  ∀ (p : Addr) (ys : List V) (x' y' z' : Int) (H' : Hp), H p = none → ys.Perm xs → But H H' a → H' a = some (.lst [.int x', .int y', .int z']) → H' p = some (.lst ys) → Q (.ref p) H'
/-- ahead of a turn -/
structure MixI (H : Hp) (a la fa : Addr) (xs lf ff : List V) (H' : Hp) : Prop where
  but : But H H' a
  src : SrcAt H' a
  l : H' la = some (.lst lf)
  f : H' fa = some (.lst ff)
  nl : H la = none
  nf : H fa = none
  ne : la ≠ fa
  perm : (lf ++ ff).Perm xs
theorem erase_perm {α : Type} : ∀ (l : List α) (k : Nat) (y : α), l[k]? = some y → (y :: l.eraseIdx k).Perm l ∧ (l.eraseIdx k).length + 1 = l.length
  | [], k, y, h => by simp at h
  | x :: l, 0, y, h => by
    have e : x = y := Option.some.inj h
    subst e
    exact ⟨.refl _, rfl⟩
  | x :: l, k + 1, y, h => by
    obtain ⟨p, e⟩ := erase_perm l k y (by simpa using h)
    exact ⟨(List.Perm.swap x y _).trans (p.cons x), by show (l.eraseIdx k).length + 1 + 1 = l.length + 1; rw [e]⟩
theorem seq_at {n : Nat} {i : Int} (h0 : 0 ≤ i) (h : i < n) : seqIndex? i n = some i.toNat := (ixN_seq (by unfold ixN; rw [if_pos h0, if_pos h])).1
section
variable {P : Program} {w : World} {K : PySem.W.Frag} {mg : Str → Option Value} {base : Heap}
variable {fII fIW fN : Addr}
theorem sc_mixed : FnScope ["_law_source", "_law_some", "_law_left", "_law_found"] ["_law_source", "_law_some"] (defScope s_mixed) := ⟨rfl, rfl, rfl, by decide +kernel, rfl, by decide +kernel, by decide +kernel⟩
theorem ok_mixed {f : Addr} {fd fdN : FuncData} (F : Fun K "_law_mixed" "_law_mixed" s_mixed f fd) (T : TxtF K mg fII fIW)
    (GN : FnOk P w K mg base CX0 1 fN fdN ["_law_source", "_law_many"] spNext) (b_next : Binds K fdN ["_law_source", "_law_many"] []) (g_next : mg "_law_next" = some (.ref fN)) (k_next : PySem.W.keepIn K (.ref fN) = true) : FnOk P w K mg base CX0 2 f fd ["_law_source", "_law_some"] spMixed := by
  refine F.ok sc_mixed (fun vs H Q E h => ?_) (fun cdv A outer s H vs Q E hr h => ?_)
  · obtain ⟨a, b, xs, x, y, z, rfl, _⟩ := h
    rfl
  · obtain ⟨a, b, xs, x, y, z, rfl, ha, hb, few, els, k⟩ := h
    refine ⟨_, (pss_cons (ps_par (i := 2) (j := 3) rfl sc_mixed.nd rfl rfl (by decide) rfl rfl (pa_cons (pe_callTy call_listG (by rfl) T.b_list (by decide +kernel) (pa_cons (pv 1) pa_nil)) (pa_cons (pe_lstG pa_nil) pa_nil)) rfl)
      (pss_cons (ps_while PassesOwn.never (pt_cmpR (op_neD hr.units) (pv 2) (pe_lstG pa_nil) (nomark _)) (pss_one (ps_expr (pe_bm PySem.F.plainAttrs_list PySem.F.slot_list_append PySem.F.type_list_append mt_append (pv 3) (pa_cons (pe_bm PySem.F.plainAttrs_list PySem.F.slot_list_pop PySem.F.type_list_pop mt_popAt (pv 2) (pa_cons (pe_call GN (hr.mono (by decide)) (by rfl) g_next k_next b_next .nil pass0 (pa_cons (pv 0) (pa_cons (pe_callB call_len_seq (by rfl) T.b_len PySem.boot_len (pa_cons (pv 2) pa_nil)) pa_nil))) pa_nil)) pa_nil)))))
      (pss_one (ps_ret (pv 3))))), ?_⟩
    refine ⟨_, rfl, b, _, rfl, hb, fun la H1 n1 s1 e1 => ⟨Nat.zero_le _, fun fa H2 n2 s2 e2 => ⟨_, _, rfl, ?_⟩⟩⟩
    have nla : la ≠ fa := fun z => by
      rw [← z, e1] at n2
      cases n2
    have start : MixI H a la fa xs xs [] H2 := ⟨fun b2 o _ e => s2 _ _ (s1 _ _ e), ⟨x, y, z, s2 _ _ (s1 _ _ ha)⟩, s2 _ _ e1, e2, n1, none_of s1 n2, nla, by rw [List.append_nil]⟩
    refine ⟨fun m σ H' => ∃ lf ff, m = lf.length ∧ σ = [some (.ref a), some (.ref b), some (.ref la), some (.ref fa)] ∧ MixI H a la fa xs lf ff H', ⟨_, xs, [], rfl, rfl, start⟩, ?_⟩
    rintro m σ H' ⟨lf, ff, rfl, rfl, mi⟩
    have nal : la ≠ a := fun z => by
      have := mi.nl
      rw [z, ha] at this
      cases this
    have naf : fa ≠ a := fun z => by
      have := mi.nf
      rw [z, ha] at this
      cases this
    have tup : ∀ {H'' : Hp}, But H H'' a → TupStay H H'' := fun bt q zs e => bt q _ (fun z => by rw [z, ha] at e; cases e) e
    have len : lf.length + ff.length = xs.length := by
      have := mi.perm.length_eq
      rw [List.length_append] at this
      exact this
    refine ⟨_, rfl, Nat.zero_le _, fun e0 H3 n3 s3 ee => ?_⟩
    have bt3 : But H H3 a := fun b2 o nb e => s3 _ _ (mi.but b2 o nb e)
    obtain ⟨ds, d1, d2, d3, d4⟩ := Els.dp (K := K) (H := H3) (vs := lf) fun v hv => (els v (mi.perm.mem_iff.mp (List.mem_append_left _ hv))).stay (tup bt3)
    have sh : SeqAt.shaped (.list ds) = true := by
      show (PyData.canLay0 (.list ds) && decide (PyData.depth (.list ds) ≤ 64)) = true
      rw [Bool.and_eq_true]
      refine ⟨by simp only [PyData.canLay0]; exact d2, decide_eq_true ?_⟩
      simp only [PyData.depth]
      omega
    refine ⟨.list ds, .list [], .lst (SqL.of (s3 _ _ mi.l)) d1, .lst (SqL.of ee) .nil, sh, by decide +kernel, _, rfl, ?_⟩
    cases lf with
    | nil =>
      have : ds = [] := List.length_eq_zero_iff.mp d4
      subst this
      have e : (!PyData.eqv (.list []) (.list [])) = false := by simp [PyData.eqv, PyData.eqvAll]
      rw [e]
      refine iteF ?_
      obtain ⟨x', y', z', es⟩ := mi.src
      exact ⟨_, rfl, k fa ff x' y' z' H3 mi.nf (by simpa using mi.perm) bt3 (s3 _ _ es) (s3 _ _ mi.f)⟩
    | cons v0 l0 =>
      have e : (!PyData.eqv (.list ds) (.list [])) = true := by
        cases ds with
        | nil => simp at d4
        | cons d ds => simp [PyData.eqv, PyData.eqvAll]
      rw [e]
      refine iteT ?_
      refine ⟨fun σ' H'' => ∃ lf' ff', lf'.length < (v0 :: l0).length ∧ σ' = [some (.ref a), some (.ref b), some (.ref la), some (.ref fa)] ∧ MixI H a la fa xs lf' ff' H'', fun σ' H'' ⟨lf', ff', z1, z2, z3⟩ => ⟨_, z1, lf', ff', rfl, z2, z3⟩, ?_⟩
      obtain ⟨x', y', z', es⟩ := mi.src
      refine ⟨_, rfl, .inl ⟨rfl, _, SqL.of (s3 _ _ mi.f)⟩, _, rfl, .inl ⟨rfl, _, SqL.of (s3 _ _ mi.l)⟩, _, rfl, _, rfl, la, _, rfl, .inl (SqL.of (s3 _ _ mi.l)), a, _, x', y', z', rfl, ?_, ?_, s3 _ _ es, fun n u1 u2 u3 H4 n0 n1' bt4 e4 => ?_⟩
      · show (0 : Int) < ((v0 :: l0).length : Int)
        simp
      · have h1 : (v0 :: l0).length ≤ 1000 := by omega
        rw [Int.natAbs_natCast]
        exact Nat.lt_of_le_of_lt h1 (by decide)
      · have n1' : n < ((v0 :: l0).length : Int) := n1'
        have h1 : (v0 :: l0).length ≤ 1000 := by omega
        have el := bt4 _ _ nal (s3 _ _ mi.l)
        have ef := bt4 _ _ naf (s3 _ _ mi.f)
        have hk : n.toNat < (v0 :: l0).length := by omega
        have ey : (v0 :: l0)[n.toNat]? = some (v0 :: l0)[n.toNat] := List.getElem?_eq_getElem hk
        obtain ⟨pe, le⟩ := erase_perm _ _ _ ey
        generalize (v0 :: l0)[n.toNat] = y at ey pe
        generalize hl2 : (v0 :: l0).eraseIdx n.toNat = l2 at pe le
        refine ⟨la, v0 :: l0, n, n.toNat, y, rfl, rfl, el, by omega, by omega, seq_at n0 n1', ey, ?_⟩
        rw [hl2]
        have ef2 : upd H4 la (.lst l2) fa = some (.lst ff) := by
          rw [upd_ne (Ne.symm nla)]
          exact ef
        refine ⟨fa, ff, y, rfl, rfl, ef2, by rw [sizeLine_eq]; omega, l2, ff ++ [y], by omega, rfl, ?_⟩
        have ne : ∀ {b2 : Addr} {o : HO}, H b2 = some o → b2 ≠ la ∧ b2 ≠ fa := fun {b2 o} e => ⟨fun z => absurd (by rw [← e, z, mi.nl]) (fun q : (none : Option HO) = some o => nomatch q), fun z => absurd (by rw [← e, z, mi.nf]) (fun q : (none : Option HO) = some o => nomatch q)⟩
        refine ⟨fun b2 o nb e => ?_, ⟨u1, u2, u3, ?_⟩, ?_, upd_same, mi.nl, mi.nf, nla, ?_⟩
        · rw [upd_ne (ne e).2, upd_ne (ne e).1]
          exact bt4 _ _ nb (bt3 _ _ nb e)
        · rw [upd_ne (Ne.symm naf), upd_ne (Ne.symm nal)]
          exact e4
        · rw [upd_ne nla, upd_same]
        · have q1 : (l2 ++ (ff ++ [y])).Perm (y :: l2 ++ ff) := by
            rw [← List.append_assoc]
            exact (List.perm_append_comm (l₁ := l2 ++ ff) (l₂ := [y]))
          exact (q1.trans (pe.append_right ff)).trans mi.perm
end
end Mine

set_option maxRecDepth 100000
set_option maxHeartbeats 4000000
/-! things in groups: each leads to another of its group, the last one to itself. Plain mathematics -/
namespace Wk
def put (ls : Nat → Nat) (k v : Nat) : Nat → Nat := fun i => if i = k then v else ls i
theorem put_same (ls : Nat → Nat) (k v : Nat) : put ls k v k = v := if_pos rfl
theorem put_ne {ls : Nat → Nat} {k v i : Nat} (h : i ≠ k) : put ls k v i = ls i := if_neg h
structure Rep (n : Nat) (ls rank rep : Nat → Nat) : Prop where
  lt : ∀ i, i < n → ls i < n
  rlt : ∀ i, i < n → rep i < n
  up : ∀ i, i < n → rep (ls i) = rep i
  own : ∀ i, i < n → ls i = i → rep i = i
  dn : ∀ i, i < n → ls i ≠ i → rank (ls i) < rank i
theorem Rep.root {n : Nat} {ls rank rep : Nat → Nat} (r : Rep n ls rank rep) : ∀ (m i : Nat), rank i ≤ m → i < n → ls (rep i) = rep i ∧ rep (rep i) = rep i
  | m, i, hm, hi => by
    by_cases h : ls i = i
    · have := r.own i hi h
      rw [this]
      exact ⟨h, this⟩
    · have d := r.dn i hi h
      cases m with
      | zero => omega
      | succ m =>
        have := Rep.root r m (ls i) (by omega) (r.lt i hi)
        rw [r.up i hi] at this
        exact this
theorem Rep.root' {n : Nat} {ls rank rep : Nat → Nat} (r : Rep n ls rank rep) {i : Nat} (hi : i < n) : ls (rep i) = rep i ∧ rep (rep i) = rep i := r.root _ i (Nat.le_refl _) hi
theorem Rep.half {n : Nat} {ls rank rep : Nat → Nat} (r : Rep n ls rank rep) {i : Nat} (hi : i < n) (h : ls i ≠ i) :
    Rep n (put ls i (ls (ls i))) rank rep ∧ rank (ls (ls i)) < rank i ∧ rep (ls (ls i)) = rep i := by
  have h1 := r.dn i hi h
  have hl := r.lt i hi
  have h2 : rank (ls (ls i)) < rank i := by
    by_cases z : ls (ls i) = ls i
    · rw [z]
      exact h1
    · have := r.dn _ hl z
      omega
  have h3 : rep (ls (ls i)) = rep i := by rw [r.up _ hl, r.up i hi]
  refine ⟨⟨fun j hj => ?_, r.rlt, fun j hj => ?_, fun j hj e => ?_, fun j hj e => ?_⟩, h2, h3⟩
  · by_cases z : j = i
    · subst z
      rw [put_same]
      exact r.lt _ hl
    · rw [put_ne z]
      exact r.lt j hj
  · by_cases z : j = i
    · subst z
      rw [put_same]
      exact h3
    · rw [put_ne z]
      exact r.up j hj
  · by_cases z : j = i
    · subst z
      rw [put_same] at e
      rw [e] at h2
      omega
    · rw [put_ne z] at e
      exact r.own j hj e
  · by_cases z : j = i
    · subst z
      rw [put_same]
      exact h2
    · rw [put_ne z] at e ⊢
      exact r.dn j hj e
def joinR (rep : Nat → Nat) (a b : Nat) : Nat → Nat := fun i => if rep i = b then a else rep i
theorem Rep.join {n : Nat} {ls rank rep : Nat → Nat} (r : Rep n ls rank rep) {a b : Nat} (ha : a < n) (hb : b < n) (ea : rep a = a) (eb : rep b = b) : ∃ rank', Rep n (put ls b a) rank' (joinR rep a b) := by
  by_cases ab : a = b
  · subst ab
    have l : ls a = a := by
      have := (r.root' ha).1
      rw [ea] at this
      exact this
    have e1 : put ls a a = ls := by
      funext i
      unfold put
      split
      · rename_i z
        rw [z, l]
      · rfl
    have e2 : joinR rep a a = rep := by
      funext i
      unfold joinR
      split
      · rename_i z
        exact z.symm
      · rfl
    rw [e1, e2]
    exact ⟨rank, r⟩
  · have ra : joinR rep a b a = a := by
      unfold joinR
      rw [ea, if_neg ab]
    have rb : joinR rep a b b = a := by
      unfold joinR
      rw [eb, if_pos rfl]
    refine ⟨fun i => if rep i = b then rank i + rank a + 1 else rank i, ⟨fun j hj => ?_, fun j hj => ?_, fun j hj => ?_, fun j hj e => ?_, fun j hj e => ?_⟩⟩
    · by_cases z : j = b
      · subst z
        rw [put_same]
        exact ha
      · rw [put_ne z]
        exact r.lt j hj
    · unfold joinR
      split
      · exact ha
      · exact r.rlt j hj
    · by_cases z : j = b
      · subst z
        rw [put_same, ra, rb]
      · rw [put_ne z]
        unfold joinR
        rw [r.up j hj]
    · by_cases z : j = b
      · subst z
        rw [put_same] at e
        exact absurd e ab
      · rw [put_ne z] at e
        have := r.own j hj e
        unfold joinR
        rw [this, if_neg z]
    · by_cases z : j = b
      · subst z
        rw [put_same]
        show (if rep a = j then rank a + rank a + 1 else rank a) < (if rep j = j then rank j + rank a + 1 else rank j)
        rw [ea, if_neg ab, eb, if_pos rfl]
        omega
      · rw [put_ne z] at e ⊢
        have d := r.dn j hj e
        show (if rep (ls j) = b then rank (ls j) + rank a + 1 else rank (ls j)) < (if rep j = b then rank j + rank a + 1 else rank j)
        rw [r.up j hj]
        split <;> omega
/-- how many groups there are -/
def groups (n : Nat) (rep : Nat → Nat) : Nat := (List.range n).countP fun i => decide (rep i = i)
theorem groups_le (n : Nat) (rep : Nat → Nat) : groups n rep ≤ n := by
  have := List.countP_le_length (p := fun i => decide (rep i = i)) (l := List.range n)
  rw [List.length_range] at this
  exact this
theorem count_less {b : Nat} {p q : Nat → Bool} (hb : p b = true) (hq : q b = false) (he : ∀ i, i ≠ b → q i = p i) : ∀ l : List Nat, l.Nodup → b ∈ l → l.countP q + 1 = l.countP p
  | [], _, h => nomatch h
  | x :: l, nd, h => by
    rw [List.nodup_cons] at nd
    have out : ∀ m : List Nat, b ∉ m → m.countP q = m.countP p := fun m hm => List.countP_congr fun y hy => by rw [he y (fun z => hm (z ▸ hy))]
    by_cases z : x = b
    · subst z
      rw [List.countP_cons_of_pos hb, List.countP_cons_of_neg (by rw [hq]; simp), out l nd.1]
    · have hm : b ∈ l := (List.mem_cons.mp h).elim (fun y => absurd y.symm z) id
      have ih := count_less hb hq he l nd.2 hm
      rw [List.countP_cons, List.countP_cons, he x z]
      omega
theorem groups_join {n : Nat} {ls rank rep : Nat → Nat} (r : Rep n ls rank rep) {a b : Nat} (hb : b < n) (ea : rep a = a) (eb : rep b = b) (ab : a ≠ b) : groups n (joinR rep a b) + 1 = groups n rep := by
  refine count_less (b := b) (decide_eq_true eb) ?_ (fun i hi => ?_) _ List.nodup_range (List.mem_range.mpr hb)
  · refine decide_eq_false ?_
    unfold joinR
    rw [eb, if_pos rfl]
    exact ab
  · refine decide_eq_decide.mpr ?_
    unfold joinR
    by_cases z : rep i = b
    · rw [if_pos z]
      constructor
      · intro y
        rw [← y, ea] at z
        exact absurd z ab
      · intro y
        rw [z] at y
        exact absurd y.symm hi
    · rw [if_neg z]
theorem Rep.start (n : Nat) : Rep n (fun i => i) (fun _ => 0) (fun i => i) := ⟨fun _ h => h, fun _ h => h, fun _ _ => rfl, fun _ _ _ => rfl, fun _ _ h => absurd rfl h⟩
end Wk

set_option maxRecDepth 100000
set_option maxHeartbeats 4000000
namespace L2
open PySem PySem.Spec PyProof.Rows
/-- {k: v}, the key a tuple; the new dict stands empty while the pair is made -/
def tDisp1T (tk tv : TE) : TE := fun σ H Q => ∀ p, H p = none → tk σ (upd H p (.dT [])) fun x H1 => tv σ H1 fun y H2 => H2 p = some (.dT []) ∧
  ∃ (b : Addr) (ks : List Key), x = .ref b ∧ H2 b = some (.tup (ks.map kV)) ∧ Q (.ref p) (upd H2 p (.dT [(ks, y)]))
theorem pe_disp1T {X : Cx} {pos : Pos} {k v : Expr} {tk tv : TE} (hu : X.A.units + 1 < cLine) (hk : PE X k tk) (hv : PE X v tv) : PE X (.Dict [some k] [v] pos) (tDisp1T tk tv) := by
  refine ⟨fun pins s σ H Q I q => ?_⟩
  have hn := I.hok.fresh (Nat.le_refl s.heap.objs.size)
  have I1 := I.laid (a := s.heap.objs.size) (o := .dT []) (h' := s.heap.push { cls := .type "dict", data := .dict #[] }) (t' := s.toks) (fun _ _ q => Heap.get?_push_of_some _ q) (Nat.le_refl _) (dt_empty s.heap I.big)
  rw [arm_eval_Dict, zip_pairTrees [some k] [v] X.env pos (by simp) rfl, dictDisplay_pairs _ (by simp [pairTrees]) (by simp [pairTrees])]
  refine wpAny_bind (wpAny_standAt (wpAny_bind ?_))
  unfold subDict
  refine wpAny_bind (wpAny_alloc ?_)
  refine wpAny_bind (wpAny_holding ?_)
  rw [if_pos (by simp [pairTrees])]
  refine wpAny_bind (pairTrees_cons_walk (thn (hk.run pins _ σ _ _ I1 (q _ hn)) fun u s1 ⟨x, H1, I2, rx, q1⟩ => thn (hv.run pins s1 σ H1 _ I2 q1) fun w2 s2 ⟨y, H2, I3, ry, e, b, ks, ex, eb, q2⟩ => pairTrees_nil_walk ?_))
  subst ex
  cases (show u = Value.ref b from rx)
  obtain ⟨z, hd, xs, rel, dd⟩ := dt_of I3.hok e
  have x0 : xs = [] := by
    have := Paired.length rel
    exact List.length_eq_zero_iff.mp this.symm
  subst x0
  refine wpAny_holding ?_
  rw [List.forIn_cons]
  refine wpAny_bind (wpAny_bind (wpAny_bind (wpAny_dictSet_heap (hsz := Nat.zero_le _) (show (tupleKind (mixKind X.prog X.w)).room X.A from by show X.A.units < cLine; omega) (key_of I3.hok eb) dd fun h' dd' hs => wpAny_pure ?_)))
  show wpAny _ _ (forIn [] PUnit.unit _) _ _ _
  rw [List.forIn_nil]
  refine wpAny_pure (wpAny_pure (wpAny_pure (wpAny_pure ⟨.ref s.heap.objs.size, _, ?_, rfl, q2⟩)))
  obtain ⟨qo, es, ep, hq, h2, h3, h4, _, h5⟩ := dd'
  refine d_write I3 (by rw [e]; exact True.intro) hs ⟨qo, hq⟩ ⟨by rw [sizeLine_eq]; show 1 ≤ _; omega, hd, _, (KT.put rel ks eb ry).keeps fun c ys ec => ?_, qo, es, ep, hq, h2, h3, h4, h5⟩
  rw [upd_ne (ne_of ec e (fun z => nomatch z))]
  exact ec
end L2

set_option maxRecDepth 100000
set_option maxHeartbeats 4000000
namespace Mine
open PySem L2
abbrev s_shows_of : Stmt := top 36
abbrev s_leader_of : Stmt := top 94
abbrev s_are_led_together : Stmt := top 93
theorem But.refl (H : Hp) (a : Addr) : But H H a := fun _ _ _ e => e
def flN (n : Nat) (ls : Nat → Nat) : List V := fl n fun i => (ls i : Int)
theorem flN_at {n k : Nat} {ls : Nat → Nat} (h : k < n) : atI (flN n ls) (k : Int) = some (V.int (ls k : Int)) := fl_at h
theorem flN_len {n : Nat} {ls : Nat → Nat} : (flN n ls).length = n := fl_len
theorem flN_set {n k v : Nat} {ls : Nat → Nat} (h : k < n) : (flN n ls).set k (V.int (v : Int)) = flN n (Wk.put ls k v) := by
  unfold flN
  rw [fl_set h]
  congr 1
  funext i
  unfold Wk.put
  by_cases z : i = k
  · rw [if_pos z, if_pos z]
  · rw [if_neg z, if_neg z]
/-- what is shown at a row -/
def showD : RowD → List Str
  | .ask op _ => ["ask", op]
  | .go _ => ["hang"]
  | .fin w => ["end", w]
def spShows : Sp := fun vs H Q _ => ∃ (q : Addr) (d : RowD), vs = [.ref q] ∧ TRow H (.ref q) d ∧ ∀ (t : Addr) (H' : Hp), Same H H' → H' t = some (.tup ((showD d).map V.str)) → Q (.ref t) H'
def spLeader : Sp := fun vs H Q _ => ∃ (la : Addr) (n t : Nat) (ls rank rep : Nat → Nat), vs = [.ref la, .int (t : Int)] ∧ H la = some (.lst (flN n ls)) ∧ Wk.Rep n ls rank rep ∧ t < n ∧
  ∀ (ls' : Nat → Nat) (H' : Hp), Wk.Rep n ls' rank rep → But H H' la → H' la = some (.lst (flN n ls')) → Q (.int (rep t : Int)) H'
def spLed : Sp := fun vs H Q _ => ∃ (la : Addr) (n a b : Nat) (ls rank rep : Nat → Nat), vs = [.ref la, .int (a : Int), .int (b : Int)] ∧ H la = some (.lst (flN n ls)) ∧ Wk.Rep n ls rank rep ∧ a < n ∧ b < n ∧
  ∀ (ls' rank' : Nat → Nat) (H' : Hp), Wk.Rep n ls' rank' (Wk.joinR rep (rep a) (rep b)) → But H H' la → H' la = some (.lst (flN n ls')) → Q (.bl (decide (rep a = rep b))) H'
theorem natDec (a b : Nat) : decide (V.int (a : Int) = V.int (b : Int)) = decide (a = b) := by
  by_cases h : a = b
  · subst h
    simp
  · rw [decide_eq_false h]
    exact decide_eq_false fun z => h (by have := V.int.inj z; omega)
section
variable {P : Program} {w : World} {K : PySem.W.Frag} {mg : Str → Option Value} {base : Heap}
variable {fII fIW a_leader : Addr}
theorem sc_shows_of : FnScope ["line"] ["line"] (defScope s_shows_of) := ⟨rfl, rfl, rfl, by decide +kernel, rfl, by decide +kernel, by decide +kernel⟩
theorem ok_shows_of {f : Addr} {fd : FuncData} (F : Fun K "shows_of" "shows_of" s_shows_of f fd) : FnOk P w K mg base CX0 1 f fd ["line"] spShows := by
  refine F.ok sc_shows_of (fun vs H Q E h => ?_) (fun cdv A outer s H vs Q E hr h => ?_)
  · obtain ⟨q, d, rfl, _⟩ := h
    rfl
  · obtain ⟨q, d, rfl, row, k⟩ := h
    refine ⟨_, (pss_cons (ps_if (pt_cmpR op_eq (pe_ix ix_tup (pv 0) pe_int (fun _ _ => rfl)) pe_str (nomark _)) (pss_one (ps_ret (pe_tupG (pa_cons pe_str pa_nil)))) pss_nil)
      (pss_one (ps_ret (pe_tupG (pa_cons (pe_ix ix_tup (pv 0) pe_int (fun _ _ => rfl)) (pa_cons (pe_ix ix_tup (pv 0) pe_int (fun _ _ => rfl)) pa_nil)))))), ?_⟩
    have one : ∀ v : V, [v].length ≤ sizeLine := fun v => by rw [sizeLine_eq]; exact Nat.succ_le_of_lt (by decide)
    have two : ∀ v u : V, [v, u].length ≤ sizeLine := fun v u => by rw [sizeLine_eq]; exact Nat.le_trans (show 2 ≤ 2 from Nat.le_refl 2) (by decide)
    cases d with
    | ask op ns =>
      obtain ⟨a, t, e, h1, h2⟩ := row
      cases e
      refine ⟨_, rfl, _, _, _, _, rfl, rfl, .inl (.inl h1), at0', rfl, _, rfl, ?_⟩
      rw [strNe (show ("ask" : Str) ≠ "go" by decide +kernel)]
      refine iteF ?_
      exact ⟨_, rfl, _, _, _, _, rfl, rfl, .inl (.inl h1), at0', _, rfl, _, _, _, _, rfl, rfl, .inl (.inl h1), at1', two _ _, fun t H' n s e => k t H' s e⟩
    | go n =>
      obtain ⟨a, e, h1⟩ := row
      cases e
      refine ⟨_, rfl, _, _, _, _, rfl, rfl, .inl (.inl h1), at0', rfl, _, rfl, ?_⟩
      rw [strEq]
      refine iteT ?_
      exact ⟨one _, fun t H' n s e => k t H' s e⟩
    | fin x =>
      obtain ⟨a, e, h1⟩ := row
      cases e
      refine ⟨_, rfl, _, _, _, _, rfl, rfl, .inl (.inl h1), at0', rfl, _, rfl, ?_⟩
      rw [strNe (show ("end" : Str) ≠ "go" by decide +kernel)]
      refine iteF ?_
      exact ⟨_, rfl, _, _, _, _, rfl, rfl, .inl (.inl h1), at0', _, rfl, _, _, _, _, rfl, rfl, .inl (.inl h1), at1', two _ _, fun t H' n s e => k t H' s e⟩
theorem sc_leader_of : FnScope ["leaders", "thing"] ["leaders", "thing"] (defScope s_leader_of) := ⟨rfl, rfl, rfl, by decide +kernel, rfl, by decide +kernel, by decide +kernel⟩
theorem ok_leader_of {f : Addr} {fd : FuncData} (F : Fun K "leader_of" "leader_of" s_leader_of f fd) : FnOk P w K mg base CX0 1 f fd ["leaders", "thing"] spLeader := by
  refine F.ok sc_leader_of (fun vs H Q E h => ?_) (fun cdv A outer s H vs Q E hr h => ?_)
  · obtain ⟨la, n, t, ls, rank, rep, rfl, _⟩ := h
    rfl
  · obtain ⟨la, n, t, ls, rank, rep, rfl, hl, r, ht, k⟩ := h
    refine ⟨_, (pss_cons (ps_while PassesOwn.never (pt_cmpR op_ne (pe_ix ix_list (pv 0) (pv 1) (fun _ _ => rfl)) (pv 1) (nomark _)) (pss_cons (ps_asg (pe_ix ix_list (pv 0) (pe_ix ix_list (pv 0) (pv 1) (fun _ _ => rfl)) (fun _ _ => rfl)) (pg_sub (pv 0) (pv 1) set_list))
      (pss_one (ps_set (i := 1) sc_leader_of.nd rfl (Or.inl rfl) (pe_ix ix_list (pv 0) (pv 1) (fun _ _ => rfl))))))
      (pss_one (ps_ret (pv 1)))), ?_⟩
    refine ⟨fun m σ H' => ∃ (ls' : Nat → Nat) (u : Nat), m = rank u ∧ σ = [some (.ref la), some (.int (u : Int))] ∧ Wk.Rep n ls' rank rep ∧ u < n ∧ rep u = rep t ∧ But H H' la ∧ H' la = some (.lst (flN n ls')), ⟨_, ls, t, rfl, rfl, r, ht, rfl, But.refl _ _, hl⟩, ?_⟩
    rintro m σ H' ⟨ls', u, rfl, rfl, r', hu, eu, bt, e⟩
    refine ⟨_, rfl, _, rfl, la, _, _, _, rfl, rfl, SqL.of e, flN_at hu, _, rfl, rfl, _, rfl, ?_⟩
    rw [natDec]
    by_cases h1 : ls' u = u
    · rw [decide_eq_true h1]
      refine iteF ?_
      refine ⟨_, rfl, ?_⟩
      have := r'.own u hu h1
      rw [eu] at this
      rw [← this]
      exact k ls' H' r' bt e
    · rw [decide_eq_false h1]
      refine iteT ?_
      obtain ⟨r2, d2, p2⟩ := r'.half hu h1
      refine ⟨fun σ' H'' => ∃ (ls2 : Nat → Nat) (u2 : Nat), rank u2 < rank u ∧ σ' = [some (.ref la), some (.int (u2 : Int))] ∧ Wk.Rep n ls2 rank rep ∧ u2 < n ∧ rep u2 = rep t ∧ But H H'' la ∧ H'' la = some (.lst (flN n ls2)), fun σ' H'' ⟨ls2, u2, z1, z2, z3, z4, z5, z6, z7⟩ => ⟨_, z1, ls2, u2, rfl, z2, z3, z4, z5, z6, z7⟩, ?_⟩
      refine ⟨_, rfl, _, rfl, _, rfl, la, _, _, _, rfl, rfl, SqL.of e, flN_at hu, la, _, _, _, rfl, rfl, SqL.of e, flN_at (r'.lt u hu), _, rfl, _, rfl, la, _, _, u, rfl, rfl, e, by rw [flN_len]; exact ixn hu, ?_⟩
      rw [flN_set hu]
      have at2 := flN_at (ls := Wk.put ls' u (ls' (ls' u))) hu
      rw [Wk.put_same] at at2
      exact ⟨_, rfl, _, rfl, la, _, _, _, rfl, rfl, SqL.of upd_same, at2, _, _, d2, rfl, r2, r'.lt _ (r'.lt u hu), by rw [p2, eu], fun b o nb eb => by rw [upd_ne nb]; exact bt b o nb eb, upd_same⟩
theorem sc_are_led_together : FnScope ["leaders", "one", "other", "first", "second"] ["leaders", "one", "other"] (defScope s_are_led_together) := ⟨rfl, rfl, rfl, by decide +kernel, rfl, by decide +kernel, by decide +kernel⟩
theorem ok_led {f : Addr} {fd fd_leader : FuncData} (F : Fun K "are_led_together" "are_led_together" s_are_led_together f fd)
    (GL : FnOk P w K mg base CX0 1 a_leader fd_leader ["leaders", "thing"] spLeader) (b_leader_of : Binds K fd_leader ["leaders", "thing"] []) (g_leader_of : mg "leader_of" = some (.ref a_leader)) (k_leader_of : PySem.W.keepIn K (.ref a_leader) = true) : FnOk P w K mg base CX0 2 f fd ["leaders", "one", "other"] spLed := by
  refine F.ok sc_are_led_together (fun vs H Q E h => ?_) (fun cdv A outer s H vs Q E hr h => ?_)
  · obtain ⟨la, n, a, b, ls, rank, rep, rfl, _⟩ := h
    rfl
  · obtain ⟨la, n, a, b, ls, rank, rep, rfl, hl, r, ha, hb, k⟩ := h
    refine ⟨_, (pss_cons (ps_par (i := 3) (j := 4) rfl sc_are_led_together.nd rfl rfl (by decide) rfl rfl (pa_cons (pe_call GL (hr.mono (by decide)) (by rfl) g_leader_of k_leader_of b_leader_of .nil pass0 (pa_cons (pv 0) (pa_cons (pv 1) pa_nil))) (pa_cons (pe_call GL (hr.mono (by decide)) (by rfl) g_leader_of k_leader_of b_leader_of .nil pass0 (pa_cons (pv 0) (pa_cons (pv 2) pa_nil))) pa_nil)) rfl)
      (pss_cons (ps_asg (pv 3) (pg_sub (pv 0) (pv 4) set_list))
      (pss_one (ps_ret (pe_cmpR op_eq (pv 3) (pv 4) (nomark _)))))), ?_⟩
    refine ⟨_, rfl, _, rfl, la, n, a, ls, rank, rep, rfl, hl, r, ha, fun ls1 H1 r1 bt1 e1 => ?_⟩
    refine ⟨_, rfl, _, rfl, la, n, b, ls1, rank, rep, rfl, e1, r1, hb, fun ls2 H2 r2 bt2 e2 => ?_⟩
    refine ⟨_, _, rfl, ?_⟩
    refine ⟨_, rfl, _, rfl, _, rfl, la, _, _, rep b, rfl, rfl, e2, by rw [flN_len]; exact ixn (r.rlt b hb), ?_⟩
    rw [flN_set (r.rlt b hb)]
    obtain ⟨rank', r3⟩ := r2.join (r.rlt a ha) (r.rlt b hb) (r.root' ha).2 (r.root' hb).2
    refine ⟨_, rfl, _, rfl, rfl, ?_⟩
    rw [natDec]
    exact k _ rank' _ r3 (fun c o nc ec => by rw [upd_ne nc]; exact bt2 c o nc (bt1 c o nc ec)) upd_same
end
end Mine

set_option maxRecDepth 100000
set_option maxHeartbeats 4000000
namespace L2
open PySem PySem.Spec PyProof.Rows
section
variable {K : PySem.W.Frag} {a b : Addr} {xs ys : List V}
theorem walk_zipT {n : Nat} (hn : n = min xs.length ys.length) : Walk (RZ.ItzT K a b) n (fun H => SqT K H a xs ∧ SqT K H b ys) (YPair (fun i => xs[i]?) (fun i => ys[i]?)) := by
  subst hn
  refine ⟨fun i _ hi q => ?_, fun _ q => ⟨xs, ys, q.1, q.2, by omega⟩, fun i H v H' _ q y => ?_⟩
  · have h1 : i < xs.length := by omega
    have h2 : i < ys.length := by omega
    exact ⟨xs, ys, xs[i], ys[i], q.1, q.2, by simp [h1], by simp [h2]⟩
  · obtain ⟨T, x, z, h1, h2, h3, h4, h5⟩ := y
    exact ⟨T, x, z, h1, h2, h3, h4 xs q.1, h5 ys q.2⟩
end
end L2
namespace Mine
open PySem L2
abbrev s_begin_of : Stmt := top 89
abbrev s_both_shown : Stmt := top 90
abbrev s_pairs_behind : Stmt := top 91
/-- a machine stands there -/
structure MachP (CM : Addr) (H : Hp) (m : Addr) (o : Ops) (rs : List RowD) (b : Nat) (dm : Addr) (fm : List (Str × V)) (t l sa aa ea : Addr) (o' : Ops) (xs : List V) (as es : List Str) : Prop where
  hm : H m = some (.ins CM dm fm)
  fs : MachFs H fm t l b rs sa aa ea as es
  ht : H t = some (.dK (opsK o'))
  ord : Ordered o o'
  hl : H l = some (.lst xs)
  rows : Rows H xs rs
  lt : b < rs.length
def MachV (CM : Addr) (H : Hp) (m : Addr) (o : Ops) (rs : List RowD) (b : Nat) : Prop := ∃ dm fm t l sa aa ea o' xs as es, MachP CM H m o rs b dm fm t l sa aa ea o' xs as es
theorem MachV.same {CM : Addr} {H H' : Hp} {m : Addr} {o : Ops} {rs : List RowD} {b : Nat} (s : Same H H') (h : MachV CM H m o rs b) : MachV CM H' m o rs b := by
  obtain ⟨dm, fm, t, l, sa, aa, ea, o', xs, as, es, h⟩ := h
  exact ⟨dm, fm, t, l, sa, aa, ea, o', xs, as, es, s _ _ h.hm, h.fs.same s, s _ _ h.ht, h.ord, s _ _ h.hl, h.rows.same s, h.lt⟩
theorem BodyAt.mach {CB CM : Addr} {H : Hp} {bd : Addr} {o : Ops} {rs : List RowD} {b : Nat} (h : BodyAt CB CM H bd o rs b) : ∃ m dx fb, H bd = some (.ins CB dx fb) ∧ fb.lookup ("machine" : Str) = some (.ref m) ∧ MachV CM H m o rs b := by
  obtain ⟨m, t, l, sa, aa, ea, o', xs, as, es, ⟨dx, fb, h1, h2⟩, ⟨dm, fm, h3, h4⟩, h5, h6, h7, h8, h9, _⟩ := h
  exact ⟨m, dx, fb, h1, h2, dm, fm, t, l, sa, aa, ea, o', xs, as, es, h3, h4, h5, h6, h7, h8, h9⟩
abbrev Prw := Nat × Nat
/-- the tuple of a pair of rows -/
def PairT (H : Hp) (q : Addr) (p : Prw) : Prop := H q = some (.tup [.int (p.1 : Int), .int (p.2 : Int)])
def Prs (H : Hp) (vs : List V) (ps : List Prw) : Prop := vs.length = ps.length ∧ ∀ (k : Nat) (p : Prw), ps[k]? = some p → ∃ q, vs[k]? = some (.ref q) ∧ PairT H q p
theorem Prs.same {H H' : Hp} {vs : List V} {ps : List Prw} (s : Same H H') (h : Prs H vs ps) : Prs H' vs ps := ⟨h.1, fun k p e => by
  obtain ⟨q, h1, h2⟩ := h.2 k p e
  exact ⟨q, h1, s _ _ h2⟩⟩
theorem Prs.nil (H : Hp) : Prs H [] [] := ⟨rfl, fun k p e => by simp at e⟩
theorem Prs.snoc {H : Hp} {vs : List V} {ps : List Prw} {q : Addr} {p : Prw} (h : Prs H vs ps) (e : PairT H q p) : Prs H (vs ++ [.ref q]) (ps ++ [p]) := by
  refine ⟨by rw [List.length_append, List.length_append, h.1]; rfl, fun k r er => ?_⟩
  by_cases z : k < ps.length
  · rw [List.getElem?_append_left z] at er
    obtain ⟨q', h1, h2⟩ := h.2 k r er
    exact ⟨q', by rw [List.getElem?_append_left (by rw [h.1]; exact z)]; exact h1, h2⟩
  · have hk : k = ps.length := by
      have := (List.getElem?_eq_some_iff.mp er).1
      rw [List.length_append] at this
      simp at this
      omega
    subst hk
    rw [List.getElem?_append_right (Nat.le_refl _), Nat.sub_self] at er
    have er2 : p = r := Option.some.inj er
    subst er2
    exact ⟨q, by rw [List.getElem?_append_right (by rw [h.1]; exact Nat.le_refl _), h.1, Nat.sub_self]; rfl, e⟩
theorem PairT.other {H : Hp} {D q : Addr} {p : Prw} {ys : List V} {o : HO} (e : H D = some (.lst ys)) (h : PairT H q p) : PairT (upd H D o) q p := by
  unfold PairT at h ⊢
  rw [upd_ne (fun z => by rw [z, e] at h; cases h)]
  exact h
theorem Prs.other {H : Hp} {D : Addr} {vs ys : List V} {ps : List Prw} {o : HO} (e : H D = some (.lst ys)) (h : Prs H vs ps) : Prs (upd H D o) vs ps := ⟨h.1, fun k p ek => by
  obtain ⟨q, h1, h2⟩ := h.2 k p ek
  exact ⟨q, h1, h2.other e⟩⟩
/-- where both go on, by the answers -/
def behind (rs1 rs2 : List RowD) (d1 d2 : RowD) : List Prw := List.zipWith (fun (a b : Int) => (stp rs1 a.toNat, stp rs2 b.toNat)) (nextsD d1) (nextsD d2)
def spBegin (CM : Addr) : Sp := fun vs H Q _ => ∃ (m1 m2 : Addr) (o1 o2 : Ops) (rs1 rs2 : List RowD) (b1 b2 : Nat), vs = [.ref m1, .ref m2] ∧ MachV CM H m1 o1 rs1 b1 ∧ MachV CM H m2 o2 rs2 b2 ∧
  ∀ (t : Addr) (H' : Hp), H t = none → Same H H' → PairT H' t (stp rs1 b1, stp rs2 b2) → Q (.ref t) H'
def spBoth (CM : Addr) : Sp := fun vs H Q _ => ∃ (m1 m2 t : Addr) (o1 o2 : Ops) (rs1 rs2 : List RowD) (b1 b2 : Nat) (p : Prw) (d1 d2 : RowD), vs = [.ref m1, .ref m2, .ref t] ∧ MachV CM H m1 o1 rs1 b1 ∧ MachV CM H m2 o2 rs2 b2 ∧ PairT H t p ∧ rs1[p.1]? = some d1 ∧ rs2[p.2]? = some d2 ∧
  ∀ (u s1 s2 : Addr) (H' : Hp), Same H H' → H' u = some (.tup [.ref s1, .ref s2]) → H' s1 = some (.tup ((showD d1).map V.str)) → H' s2 = some (.tup ((showD d2).map V.str)) → Q (.ref u) H'
def spBehind (CM : Addr) : Sp := fun vs H Q _ => ∃ (m1 m2 t : Addr) (o1 o2 : Ops) (rs1 rs2 : List RowD) (b1 b2 : Nat) (p : Prw) (d1 d2 : RowD), vs = [.ref m1, .ref m2, .ref t] ∧ MachV CM H m1 o1 rs1 b1 ∧ MachV CM H m2 o2 rs2 b2 ∧ PairT H t p ∧ rs1[p.1]? = some d1 ∧ rs2[p.2]? = some d2 ∧ Fit rs1 ∧ Fit rs2 ∧ (nextsD d1).length ≤ 1000 ∧
  ∀ (D : Addr) (us : List V) (H' : Hp), H D = none → Same H H' → H' D = some (.lst us) → Prs H' us (behind rs1 rs2 d1 d2) → Q (.ref D) H'
section
variable {P : Program} {w : World} {K : PySem.W.Frag} {mg : Str → Option Value} {base : Heap}
variable {fII fIW CM a_nexts a_shows : Addr}
theorem two_ok (v u : V) : [v, u].length ≤ sizeLine := by rw [sizeLine_eq]; exact Nat.le_trans (show 2 ≤ 2 from Nat.le_refl 2) (by decide)
theorem sc_begin_of : FnScope ["one", "other"] ["one", "other"] (defScope s_begin_of) := ⟨rfl, rfl, rfl, by decide +kernel, rfl, by decide +kernel, by decide +kernel⟩
theorem ok_begin_of {f : Addr} {fd : FuncData} (F : Fun K "begin_of" "begin_of" s_begin_of f fd) (TM : MachC K CM) : FnOk P w K mg base CX0 1 f fd ["one", "other"] (spBegin CM) := by
  refine F.ok sc_begin_of (fun vs H Q E h => ?_) (fun cdv A outer s H vs Q E hr h => ?_)
  · obtain ⟨m1, m2, o1, o2, rs1, rs2, b1, b2, rfl, _⟩ := h
    rfl
  · obtain ⟨m1, m2, o1, o2, rs1, rs2, b1, b2, rfl, ⟨dm1, fm1, t1, l1, sa1, aa1, ea1, o1', xs1, as1, es1, p1⟩, ⟨dm2, fm2, t2, l2, sa2, aa2, ea2, o2', xs2, as2, es2, p2⟩, k⟩ := h
    refine ⟨_, (pss_one (ps_ret (pe_tupG (pa_cons (pe_ix ix_list (pe_fld (pv 0) rfl) (pe_fld (pv 0) rfl) (fun _ _ => rfl)) (pa_cons (pe_ix ix_list (pe_fld (pv 1) rfl) (pe_fld (pv 1) rfl) (fun _ _ => rfl)) pa_nil))))), ?_⟩
    refine ⟨_, rfl, m1, CM, dm1, fm1, _, rfl, p1.hm, TM.cl, TM.n_stops, p1.fs.stops, _, rfl, m1, CM, dm1, fm1, _, rfl, p1.hm, TM.cl, TM.n_begin, p1.fs.begin, sa1, _, _, _, rfl, rfl, SqL.of p1.fs.hs, fl_at p1.lt, ?_⟩
    refine ⟨_, rfl, m2, CM, dm2, fm2, _, rfl, p2.hm, TM.cl, TM.n_stops, p2.fs.stops, _, rfl, m2, CM, dm2, fm2, _, rfl, p2.hm, TM.cl, TM.n_begin, p2.fs.begin, sa2, _, _, _, rfl, rfl, SqL.of p2.fs.hs, fl_at p2.lt, ?_⟩
    exact ⟨two_ok _ _, fun t H' n s e => k t H' n s e⟩
theorem sc_both_shown : FnScope ["one", "other", "pair"] ["one", "other", "pair"] (defScope s_both_shown) := ⟨rfl, rfl, rfl, by decide +kernel, rfl, by decide +kernel, by decide +kernel⟩
theorem ok_both_shown {f : Addr} {fd fd_shows : FuncData} (F : Fun K "both_shown" "both_shown" s_both_shown f fd) (TM : MachC K CM)
    (GS : FnOk P w K mg base CX0 1 a_shows fd_shows ["line"] spShows) (b_shows_of : Binds K fd_shows ["line"] []) (g_shows_of : mg "shows_of" = some (.ref a_shows)) (k_shows_of : PySem.W.keepIn K (.ref a_shows) = true) : FnOk P w K mg base CX0 2 f fd ["one", "other", "pair"] (spBoth CM) := by
  refine F.ok sc_both_shown (fun vs H Q E h => ?_) (fun cdv A outer s H vs Q E hr h => ?_)
  · obtain ⟨m1, m2, t, o1, o2, rs1, rs2, b1, b2, p, d1, d2, rfl, _⟩ := h
    rfl
  · obtain ⟨m1, m2, t, o1, o2, rs1, rs2, b1, b2, p, d1, d2, rfl, ⟨dm1, fm1, t1, l1, sa1, aa1, ea1, o1', xs1, as1, es1, p1⟩, ⟨dm2, fm2, t2, l2, sa2, aa2, ea2, o2', xs2, as2, es2, p2⟩, ht, e1, e2, k⟩ := h
    refine ⟨_, (pss_one (ps_ret (pe_tupG (pa_cons (pe_call GS (hr.mono (by decide)) (by rfl) g_shows_of k_shows_of b_shows_of .nil pass0 (pa_cons (pe_ix ix_list (pe_fld (pv 0) rfl) (pe_ix ix_tup (pv 2) pe_int (fun _ _ => rfl)) (fun _ _ => rfl)) pa_nil)) (pa_cons (pe_call GS (hr.mono (by decide)) (by rfl) g_shows_of k_shows_of b_shows_of .nil pass0 (pa_cons (pe_ix ix_list (pe_fld (pv 1) rfl) (pe_ix ix_tup (pv 2) pe_int (fun _ _ => rfl)) (fun _ _ => rfl)) pa_nil)) pa_nil))))), ?_⟩
    obtain ⟨q1, _, d1', ed1, x1, row1, _⟩ := p1.rows.at (List.getElem?_eq_some_iff.mp e1).1
    rw [e1] at ed1
    cases ed1
    obtain ⟨q2, _, d2', ed2, x2, row2, _⟩ := p2.rows.at (List.getElem?_eq_some_iff.mp e2).1
    rw [e2] at ed2
    cases ed2
    refine ⟨_, rfl, m1, CM, dm1, fm1, _, rfl, p1.hm, TM.cl, TM.n_lines, p1.fs.lines, _, rfl, _, _, _, _, rfl, rfl, .inl (.inl ht), at0', l1, _, _, _, rfl, rfl, SqL.of p1.hl, atI_nat x1, q1, d1, rfl, row1, fun u1 H1 s1 c1 => ?_⟩
    refine ⟨_, rfl, m2, CM, dm2, fm2, _, rfl, s1 _ _ p2.hm, TM.cl, TM.n_lines, p2.fs.lines, _, rfl, _, _, _, _, rfl, rfl, .inl (.inl (s1 _ _ ht)), at1', l2, _, _, _, rfl, rfl, SqL.of (s1 _ _ p2.hl), atI_nat x2, q2, d2, rfl, row2.same s1, fun u2 H2 s2 c2 => ?_⟩
    exact ⟨two_ok _ _, fun u H3 n3 s3 c3 => k u u1 u2 H3 (s1.trans (s2.trans s3)) c3 (s3 _ _ (s2 _ _ c1)) (s3 _ _ c2)⟩
theorem sc_pairs_behind : FnScope ["one", "other", "pair", "nexts", "other_nexts", "index", "other_index"] ["one", "other", "pair"] (defScope s_pairs_behind) := ⟨rfl, rfl, rfl, by decide +kernel, rfl, by decide +kernel, by decide +kernel⟩
theorem ok_pairs_behind {f : Addr} {fd fd_nexts : FuncData} (F : Fun K "pairs_behind" "pairs_behind" s_pairs_behind f fd) (TM : MachC K CM) (h_zip : mg "zip" = none)
    (GN : FnOk P w K mg base CX0 1 a_nexts fd_nexts ["line"] spNextsOf) (b_nexts_of : Binds K fd_nexts ["line"] []) (g_nexts_of : mg "nexts_of" = some (.ref a_nexts)) (k_nexts_of : PySem.W.keepIn K (.ref a_nexts) = true) : FnOk P w K mg base CX0 2 f fd ["one", "other", "pair"] (spBehind CM) := by
  refine F.ok sc_pairs_behind (fun vs H Q E h => ?_) (fun cdv A outer s H vs Q E hr h => ?_)
  · obtain ⟨m1, m2, t, o1, o2, rs1, rs2, b1, b2, p, d1, d2, rfl, _⟩ := h
    rfl
  · obtain ⟨m1, m2, t, o1, o2, rs1, rs2, b1, b2, p, d1, d2, rfl, ⟨dm1, fm1, t1, l1, sa1, aa1, ea1, o1', xs1, as1, es1, p1⟩, ⟨dm2, fm2, t2, l2, sa2, aa2, ea2, o2', xs2, as2, es2, p2⟩, ht, e1, e2, fit1, fit2, few, k⟩ := h
    refine ⟨_, (pss_cons (ps_par (i := 3) (j := 4) rfl sc_pairs_behind.nd rfl rfl (by decide) rfl rfl (pa_cons (pe_call GN (hr.mono (by decide)) (by rfl) g_nexts_of k_nexts_of b_nexts_of .nil pass0 (pa_cons (pe_ix ix_list (pe_fld (pv 0) rfl) (pe_ix ix_tup (pv 2) pe_int (fun _ _ => rfl)) (fun _ _ => rfl)) pa_nil)) (pa_cons (pe_call GN (hr.mono (by decide)) (by rfl) g_nexts_of k_nexts_of b_nexts_of .nil pass0 (pa_cons (pe_ix ix_list (pe_fld (pv 1) rfl) (pe_ix ix_tup (pv 2) pe_int (fun _ _ => rfl)) (fun _ _ => rfl)) pa_nil)) pa_nil)) rfl)
      (pss_one (ps_ret (pe_lc (own := [("index", 5), ("other_index", 6)]) (g := gTup K 2 (gCons (gName 5) (gCons (gName 6) gNil))) (tt := tYes) rfl sc_pairs_behind.nd (RZ.pi_zipA (by rfl) h_zip (pa_cons (pv 3) (pa_cons (pv 4) pa_nil))) (blkOk_by (own := [("index", 5), ("other_index", 6)]) (N := ["one", "other", "pair", "nexts", "other_nexts", "index", "other_index"]) (sc := defScope s_pairs_behind) (by decide +kernel)) (fun _ _ _ _ _ => pg_tup rfl (pgs_cons (pg_name (i := 5) sc_pairs_behind.nd rfl (Or.inl rfl)) (pgs_cons (pg_name (i := 6) sc_pairs_behind.nd rfl (Or.inl rfl)) pgs_nil))) (fun _ _ _ _ _ => pts_nil) (fun _ _ _ _ _ => (pe_tupG (pa_cons (pe_ix (show IxR _ (rIxL K) from ix_list) (show PE _ _ (tFld K (tVar 0) "stops") from pe_fld (pv 0) rfl) (pv 5) (fun _ _ => rfl)) (pa_cons (pe_ix (show IxR _ (rIxL K) from ix_list) (show PE _ _ (tFld K (tVar 1) "stops") from pe_fld (pv 1) rfl) (pv 6) (fun _ _ => rfl)) pa_nil)))))))), ?_⟩
    obtain ⟨q1, _, d1', ed1, x1, row1, _⟩ := p1.rows.at (List.getElem?_eq_some_iff.mp e1).1
    rw [e1] at ed1
    cases ed1
    obtain ⟨q2, _, d2', ed2, x2, row2, _⟩ := p2.rows.at (List.getElem?_eq_some_iff.mp e2).1
    rw [e2] at ed2
    cases ed2
    refine ⟨_, rfl, m1, CM, dm1, fm1, _, rfl, p1.hm, TM.cl, TM.n_lines, p1.fs.lines, _, rfl, _, _, _, _, rfl, rfl, .inl (.inl ht), at0', l1, _, _, _, rfl, rfl, SqL.of p1.hl, atI_nat x1, q1, d1, rfl, row1, fun u1 H1 s1 c1 => ?_⟩
    refine ⟨_, rfl, m2, CM, dm2, fm2, _, rfl, s1 _ _ p2.hm, TM.cl, TM.n_lines, p2.fs.lines, _, rfl, _, _, _, _, rfl, rfl, .inl (.inl (s1 _ _ ht)), at1', l2, _, _, _, rfl, rfl, SqL.of (s1 _ _ p2.hl), atI_nat x2, q2, d2, rfl, row2.same s1, fun u2 H2 s2 c2 => ?_⟩
    refine ⟨_, _, rfl, ?_⟩
    have c1' := s2 _ _ c1
    have s12 : Same H H2 := s1.trans s2
    refine ⟨_, rfl, _, rfl, u1, u2, _, _, rfl, .inr ⟨.inl (.inl c1'), .inl (.inl c2), fun D nD => ?_⟩⟩
    refine lc_it (walk_zipT (xs := (nextsD d1).map V.int) (ys := (nextsD d2).map V.int) rfl) (fun j Hx => Same H2 Hx ∧ ∃ vs, Hx D = some (.lst vs) ∧ Prs Hx vs ((behind rs1 rs2 d1 d2).take j)) ⟨sameNew nD _, [], upd_same, Prs.nil _⟩ (fun j Hx _ z => ⟨.inl (.inl (z.1 _ _ c1')), .inl (.inl (z.1 _ _ c2))⟩) (fun j x Ha Hb hj z1 z2 => ?_) (fun Hx z => ?_)
    · obtain ⟨sx, vs, ev, pv⟩ := z1
      obtain ⟨T', x, y, rfl, nT, rfl, h1, h2⟩ := z2
      rw [List.length_map, List.length_map] at hj
      have hj1 : j < (nextsD d1).length := by omega
      have hj2 : j < (nextsD d2).length := by omega
      have g1 : (nextsD d1)[j]? = some (nextsD d1)[j] := List.getElem?_eq_getElem hj1
      have g2 : (nextsD d2)[j]? = some (nextsD d2)[j] := List.getElem?_eq_getElem hj2
      generalize (nextsD d1)[j] = n1 at g1
      generalize (nextsD d2)[j] = n2 at g2
      dsimp only at h1 h2
      rw [List.getElem?_map, g1] at h1
      rw [List.getElem?_map, g2] at h2
      have h1' : V.int n1 = x := Option.some.inj h1
      have h2' : V.int n2 = y := Option.some.inj h2
      subst h1' h2'
      obtain ⟨a0, a1⟩ := fit1.nexts e1 (List.mem_of_getElem? g1)
      obtain ⟨b0, b1'⟩ := fit2.nexts e2 (List.mem_of_getElem? g2)
      have at1 : atI (fl rs1.length fun i => (stp rs1 i : Int)) n1 = some (V.int (stp rs1 n1.toNat : Int)) := by
        conv => lhs; rw [show n1 = (n1.toNat : Int) by omega]
        exact fl_at (by omega)
      have at2 : atI (fl rs2.length fun i => (stp rs2 i : Int)) n2 = some (V.int (stp rs2 n2.toNat : Int)) := by
        conv => lhs; rw [show n2 = (n2.toNat : Int) by omega]
        exact fl_at (by omega)
      have gb : (behind rs1 rs2 d1 d2)[j]? = some (stp rs1 n1.toNat, stp rs2 n2.toNat) := by
        unfold behind
        rw [List.getElem?_zipWith, g1, g2]
      have sT : Same H2 (upd Ha T' (.tup [.int n1, .int n2])) := fun b o e => by
        rw [upd_ne (ne_of_none (sx _ _ e) nT)]
        exact sx _ _ e
      refine ⟨T', _, rfl, .inl (.inl upd_same), rfl, _, _, rfl, _, _, rfl, rfl, rfl, ?_⟩
      refine ⟨_, rfl, m1, CM, dm1, fm1, _, rfl, sT _ _ (s12 _ _ p1.hm), TM.cl, TM.n_stops, p1.fs.stops, _, rfl, sa1, _, _, _, rfl, rfl, SqL.of (sT _ _ (s12 _ _ p1.fs.hs)), at1, ?_⟩
      refine ⟨_, rfl, m2, CM, dm2, fm2, _, rfl, sT _ _ (s12 _ _ p2.hm), TM.cl, TM.n_stops, p2.fs.stops, _, rfl, sa2, _, _, _, rfl, rfl, SqL.of (sT _ _ (s12 _ _ p2.fs.hs)), at2, ?_⟩
      have lk : vs.length ≤ j := by
        rw [pv.1, List.length_take]
        omega
      have sTa : Same Ha (upd Ha T' (.tup [.int n1, .int n2])) := sameNew nT _
      refine ⟨two_ok _ _, fun p3 H3 n3 s3 c3 => ⟨vs, s3 _ _ (sTa _ _ ev), by rw [sizeLine_eq]; omega, fun b o e => ?_, vs ++ [.ref p3], upd_same, ?_⟩⟩
      · rw [upd_ne (ne_of_none e nD)]
        exact s3 _ _ (sT _ _ e)
      · rw [List.take_succ, gb]
        exact ((pv.same (sTa.trans s3)).snoc (p := (stp rs1 n1.toNat, stp rs2 n2.toNat)) (show PairT H3 p3 _ from c3)).other (s3 _ _ (sTa _ _ ev))
    · obtain ⟨sx, vs, ev, pv⟩ := z
      have le : ((behind rs1 rs2 d1 d2)).length = min ((nextsD d1).map V.int).length ((nextsD d2).map V.int).length := by
        unfold behind
        rw [List.length_zipWith, List.length_map, List.length_map]
      rw [← le, List.take_length] at pv
      exact k D vs Hx (none_of s12 nD) (s12.trans sx) ev pv
end
end Mine

set_option maxRecDepth 100000
set_option maxHeartbeats 4000000
namespace Mine
open PySem L2
abbrev s_walk_init : Stmt := inClass (top 88) 0
abbrev s_walk_take : Stmt := inClass (top 88) 1
structure WalkC (K : PySem.W.Frag) (C : Addr) : Prop where
  cl : Cls K C
  n_one : NoAttr K C "one"
  n_other : NoAttr K C "other"
  n_met : NoAttr K C "met"
  n_origins : NoAttr K C "origins"
structure WalkF (fs : List (Str × V)) (m1 m2 ma oa : Addr) : Prop where
  one : fs.lookup ("one" : Str) = some (.ref m1)
  other : fs.lookup ("other" : Str) = some (.ref m2)
  met : fs.lookup ("met" : Str) = some (.ref ma)
  origins : fs.lookup ("origins" : Str) = some (.ref oa)
  take : fs.lookup ("take" : Str) = none
/-- a walk stands there; what stood at H0 is as it was -/
structure WalkP (CW : Addr) (H0 H : Hp) (wk m1 m2 ma oa : Addr) (met : List Prw) : Prop where
  hw : ∃ dx fs, H wk = some (.ins CW dx fs) ∧ WalkF fs m1 m2 ma oa
  em : ∃ vs, H ma = some (.lst vs) ∧ Prs H vs met
  eo : ∃ vs, H oa = some (.lst vs) ∧ vs.length = met.length
  ne : ma ≠ oa
  same : Same H0 H
  nm : H0 ma = none
  no : H0 oa = none
theorem WalkP.go {CW : Addr} {H0 H H' : Hp} {wk m1 m2 ma oa : Addr} {met : List Prw} (h : WalkP CW H0 H wk m1 m2 ma oa met) (s : Same H H') : WalkP CW H0 H' wk m1 m2 ma oa met := by
  obtain ⟨⟨dx, fs, h1, h2⟩, ⟨vs, h3, h4⟩, ⟨us, h5, h6⟩, h7, h8, h9, h10⟩ := h
  exact ⟨⟨dx, fs, s _ _ h1, h2⟩, ⟨vs, s _ _ h3, h4.same s⟩, ⟨us, s _ _ h5, h6⟩, h7, h8.trans s, h9, h10⟩
/-- another list is changed -/
theorem WalkP.but {CW : Addr} {H0 H H' : Hp} {wk m1 m2 ma oa la : Addr} {met : List Prw} {ls : List V} (h : WalkP CW H0 H wk m1 m2 ma oa met) (s : But H H' la) (el : H la = some (.lst ls)) (n0 : H0 la = none) (a1 : ma ≠ la) (a2 : oa ≠ la) : WalkP CW H0 H' wk m1 m2 ma oa met := by
  obtain ⟨⟨dx, fs, h1, h2⟩, ⟨vs, h3, h4⟩, ⟨us, h5, h6⟩, h7, h8, h9, h10⟩ := h
  refine ⟨⟨dx, fs, s _ _ (fun z => by rw [z, el] at h1; cases h1) h1, h2⟩, ⟨vs, s _ _ a1 h3, h4.1, fun k p e => ?_⟩, ⟨us, s _ _ a2 h5, h6⟩, h7, fun b o e => s _ _ (ne_of_none e n0) (h8 _ _ e), h9, h10⟩
  obtain ⟨q, k1, k2⟩ := h4.2 k p e
  exact ⟨q, k1, s _ _ (fun z => by unfold PairT at k2; rw [z, el] at k2; cases k2) k2⟩
def spWInit (CW : Addr) : Sp := fun vs H Q _ => ∃ (wk m1 m2 q dx : Addr) (p : Prw), vs = [.ref wk, .ref m1, .ref m2, .ref q] ∧ H wk = some (.ins CW dx []) ∧ PairT H q p ∧
  ∀ (fs : List (Str × V)) (ma oa t : Addr) (H' : Hp), H ma = none → H oa = none → ma ≠ oa → SameX wk H H' → H' wk = some (.ins CW dx fs) → WalkF fs m1 m2 ma oa → H' ma = some (.lst [.ref q]) → H' oa = some (.lst [.ref t]) → Q .non H'
def spTake (CW : Addr) : Sp := fun vs H Q _ => ∃ (H0 : Hp) (wk m1 m2 ma oa q : Addr) (n a : Int) (p : Prw) (met : List Prw), vs = [.ref wk, .ref q, .int n, .int a] ∧ WalkP CW H0 H wk m1 m2 ma oa met ∧ PairT H q p ∧ met.length ≤ 1000000 ∧
  ∀ H' : Hp, WalkP CW H0 H' wk m1 m2 ma oa (met ++ [p]) → (∀ b o, b ≠ ma → b ≠ oa → H b = some o → H' b = some o) → Q .non H'
section
variable {P : Program} {w : World} {K : PySem.W.Frag} {mg : Str → Option Value} {base : Heap}
variable {CW : Addr}
theorem one_ok (v : V) : [v].length ≤ sizeLine := by rw [sizeLine_eq]; exact Nat.succ_le_of_lt (by decide)
theorem sc_walk_init : FnScope ["self", "one", "other", "begin"] ["self", "one", "other", "begin"] (defScope s_walk_init) := ⟨rfl, rfl, rfl, by decide +kernel, rfl, by decide +kernel, by decide +kernel⟩
theorem ok_walk_init {f : Addr} {fd : FuncData} (F : Fun K "__init__" "Walk.__init__" s_walk_init f fd) (TW : WalkC K CW) : FnOk P w K mg base CX0 1 f fd ["self", "one", "other", "begin"] (spWInit CW) := by
  refine F.ok sc_walk_init (fun vs H Q E h => ?_) (fun cdv A outer s H vs Q E hr h => ?_)
  · obtain ⟨wk, m1, m2, q, dx, p, rfl, _⟩ := h
    rfl
  · obtain ⟨wk, m1, m2, q, dx, p, rfl, hw, hq, k⟩ := h
    refine ⟨_, (pss_cons (ps_fld (pv 0) (pv 1) rfl)
      (pss_cons (ps_fld (pv 0) (pv 2) rfl)
      (pss_cons (ps_fld (pv 0) (pe_lstG (pa_cons (pv 3) pa_nil)) rfl)
      (pss_one (ps_fld (pv 0) (pe_lstG (pa_cons (pe_tupG (pa_cons (pe_un un_neg pe_int) (pa_cons (pe_un un_neg pe_int) pa_nil))) pa_nil)) rfl))))), ?_⟩
    have L0 : ([] : List (Str × V)).length ≤ 0 := Nat.le_refl _
    have L1 := putF_len (f := "one") (v := .ref m1) L0
    have L2 := putF_len (f := "other") (v := .ref m2) L1
    refine ⟨_, rfl, _, rfl, wk, CW, dx, _, rfl, hw, TW.cl, TW.n_one, Nat.lt_of_le_of_lt L0 (by decide), ?_⟩
    refine ⟨_, rfl, _, rfl, wk, CW, dx, _, rfl, upd_same, TW.cl, TW.n_other, Nat.lt_of_le_of_lt L1 (by decide), ?_⟩
    rw [upd_upd]
    have x2 : SameX wk H (upd H wk (.ins CW dx (putF "other" (.ref m2) (putF "one" (.ref m1) [])))) := SameX.upd fun _ _ _ e => e
    have e2 : upd H wk (.ins CW dx (putF "other" (.ref m2) (putF "one" (.ref m1) []))) wk = some (.ins CW dx (putF "other" (.ref m2) (putF "one" (.ref m1) []))) := upd_same
    generalize upd H wk (.ins CW dx (putF "other" (.ref m2) (putF "one" (.ref m1) []))) = H2 at x2 e2 ⊢
    have L3 : ∀ ma : Addr, (putF ("met" : Str) (V.ref ma) (putF "other" (.ref m2) (putF "one" (.ref m1) []))).length ≤ 0 + 1 + 1 + 1 := fun ma => putF_len L2
    refine ⟨_, rfl, one_ok _, fun ma H3 n3 s3 e3 => ?_⟩
    refine ⟨_, rfl, wk, CW, dx, _, rfl, s3 _ _ e2, TW.cl, TW.n_met, Nat.lt_of_le_of_lt L2 (by decide), ?_⟩
    have nmw : ma ≠ wk := fun z => by
      rw [z, e2] at n3
      cases n3
    have e4 : upd H3 wk (.ins CW dx (putF "met" (.ref ma) (putF "other" (.ref m2) (putF "one" (.ref m1) [])))) wk = some (.ins CW dx (putF "met" (.ref ma) (putF "other" (.ref m2) (putF "one" (.ref m1) [])))) := upd_same
    have e4m : upd H3 wk (.ins CW dx (putF "met" (.ref ma) (putF "other" (.ref m2) (putF "one" (.ref m1) [])))) ma = some (.lst [.ref q]) := by
      rw [upd_ne nmw]
      exact e3
    have x4 : SameX wk H2 (upd H3 wk (.ins CW dx (putF "met" (.ref ma) (putF "other" (.ref m2) (putF "one" (.ref m1) []))))) := SameX.upd fun b o _ e => s3 b o e
    generalize upd H3 wk (.ins CW dx (putF "met" (.ref ma) (putF "other" (.ref m2) (putF "one" (.ref m1) [])))) = H4 at e4 e4m x4 ⊢
    refine ⟨_, rfl, _, rfl, two_ok _ _, fun t H5 n5 s5 e5 => ⟨one_ok _, fun oa H6 n6 s6 e6 => ?_⟩⟩
    refine ⟨_, rfl, wk, CW, dx, _, rfl, s6 _ _ (s5 _ _ e4), TW.cl, TW.n_origins, Nat.lt_of_le_of_lt (L3 ma) (by decide), ?_⟩
    have now : oa ≠ wk := fun z => by
      rw [z, s5 _ _ e4] at n6
      cases n6
    have nom : ma ≠ oa := fun z => by
      rw [← z, s5 _ _ e4m] at n6
      cases n6
    have x6 : SameX wk H (upd H6 wk (.ins CW dx (putF "origins" (.ref oa) (putF "met" (.ref ma) (putF "other" (.ref m2) (putF "one" (.ref m1) [])))))) := SameX.upd fun b o nb e => s6 _ _ (s5 _ _ (x4 _ _ nb (x2 _ _ nb e)))
    have off : ∀ {a : Addr}, a ≠ wk → H2 a = none → H a = none := fun {a} na n => SameX.off x2 n na
    refine k _ ma oa t _ (off nmw n3) (off now (SameX.off x4 (none_of s5 n6) now)) nom x6 upd_same ⟨?_, ?_, ?_, ?_, ?_⟩ ?_ ?_
    · rw [lookup_putF, if_neg (by decide +kernel), lookup_putF, if_neg (by decide +kernel), lookup_putF, if_neg (by decide +kernel), lookup_putF, if_pos rfl]
    · rw [lookup_putF, if_neg (by decide +kernel), lookup_putF, if_neg (by decide +kernel), lookup_putF, if_pos rfl]
    · rw [lookup_putF, if_neg (by decide +kernel), lookup_putF, if_pos rfl]
    · rw [lookup_putF, if_pos rfl]
    · rw [lookup_putF, if_neg (by decide +kernel), lookup_putF, if_neg (by decide +kernel), lookup_putF, if_neg (by decide +kernel), lookup_putF, if_neg (by decide +kernel)]
      rfl
    · rw [upd_ne nmw]
      exact s6 _ _ (s5 _ _ e4m)
    · rw [upd_ne now]
      exact e6
theorem sc_walk_take : FnScope ["self", "pair", "number", "answer"] ["self", "pair", "number", "answer"] (defScope s_walk_take) := ⟨rfl, rfl, rfl, by decide +kernel, rfl, by decide +kernel, by decide +kernel⟩
theorem ok_walk_take {f : Addr} {fd : FuncData} (F : Fun K "take" "Walk.take" s_walk_take f fd) (TW : WalkC K CW) : FnOk P w K mg base CX0 1 f fd ["self", "pair", "number", "answer"] (spTake CW) := by
  refine F.ok sc_walk_take (fun vs H Q E h => ?_) (fun cdv A outer s H vs Q E hr h => ?_)
  · obtain ⟨H0, wk, m1, m2, ma, oa, q, n, a, p, met, rfl, _⟩ := h
    rfl
  · obtain ⟨H0, wk, m1, m2, ma, oa, q, n, a, p, met, rfl, W, hq, few, k⟩ := h
    refine ⟨_, (pss_cons (ps_expr (pe_bm PySem.F.plainAttrs_list PySem.F.slot_list_append PySem.F.type_list_append mt_append (pe_fld (pv 0) rfl) (pa_cons (pv 1) pa_nil)))
      (pss_one (ps_expr (pe_bm PySem.F.plainAttrs_list PySem.F.slot_list_append PySem.F.type_list_append mt_append (pe_fld (pv 0) rfl) (pa_cons (pe_tupG (pa_cons (pv 2) (pa_cons (pv 3) pa_nil))) pa_nil))))), ?_⟩
    obtain ⟨⟨dx, fs, hw, wf⟩, ⟨vs, em, pm⟩, ⟨us, eo, lo⟩, ne, same, nm, no⟩ := W
    refine ⟨_, rfl, wk, CW, dx, fs, _, rfl, hw, TW.cl, TW.n_met, wf.met, .inl ⟨rfl, _, SqL.of em⟩, _, rfl, ma, _, _, rfl, rfl, em, by rw [pm.1, sizeLine_eq]; omega, ?_⟩
    have nwm : wk ≠ ma := fun z => by
      rw [z, em] at hw
      cases hw
    have hw1 : upd H ma (.lst (vs ++ [.ref q])) wk = some (.ins CW dx fs) := by
      rw [upd_ne nwm]
      exact hw
    have eo1 : upd H ma (.lst (vs ++ [.ref q])) oa = some (.lst us) := by
      rw [upd_ne (Ne.symm ne)]
      exact eo
    have em1 : upd H ma (.lst (vs ++ [.ref q])) ma = some (.lst (vs ++ [.ref q])) := upd_same
    have pm1 : Prs (upd H ma (.lst (vs ++ [.ref q]))) (vs ++ [.ref q]) (met ++ [p]) := (pm.snoc hq).other em
    have x1 : ∀ b o, b ≠ ma → H b = some o → upd H ma (.lst (vs ++ [.ref q])) b = some o := fun b o nb e => by
      rw [upd_ne nb]
      exact e
    generalize upd H ma (.lst (vs ++ [.ref q])) = H1 at hw1 eo1 em1 pm1 x1 ⊢
    refine ⟨_, rfl, wk, CW, dx, fs, _, rfl, hw1, TW.cl, TW.n_origins, wf.origins, .inl ⟨rfl, _, SqL.of eo1⟩, _, rfl, _, rfl, two_ok _ _, fun t H2 n2 s2 e2 => ?_⟩
    refine ⟨oa, _, _, rfl, rfl, s2 _ _ eo1, by rw [lo, sizeLine_eq]; omega, ?_⟩
    have nwo : wk ≠ oa := fun z => by
      rw [z, eo1] at hw1
      cases hw1
    refine k _ ⟨⟨dx, fs, by rw [upd_ne nwo]; exact s2 _ _ hw1, wf⟩, ⟨_, by rw [upd_ne ne]; exact s2 _ _ em1, (pm1.same s2).other (s2 _ _ eo1)⟩, ⟨_, upd_same, by rw [List.length_append, List.length_append, lo]; rfl⟩, ne, fun b o e => ?_, nm, no⟩ (fun b o nb1 nb2 e => ?_)
    · rw [upd_ne (ne_of_none e no)]
      exact s2 _ _ (x1 _ _ (ne_of_none e nm) (same _ _ e))
    · rw [upd_ne nb2]
      exact s2 _ _ (x1 _ _ nb1 e)
end
end Mine

set_option maxRecDepth 100000
set_option maxHeartbeats 4000000
namespace Mine
open PySem L2
abbrev s_parting_place : Stmt := top 92
/-- what is shown, as data -/
def showP (d : RowD) : PyData := .tuple ((showD d).map PyData.str)
/-- the text of a row beside its word -/
def rowTx : RowD → Str
  | .ask op _ => op
  | .go _ => "go"
  | .fin w => w
def TxOk (rs : List RowD) : Prop := ∀ d ∈ rs, PyData.strOk (rowTx d) = true
theorem showS_ok {d : RowD} (h : PyData.strOk (rowTx d) = true) : ∀ t ∈ showD d, PyData.strOk t = true := by
  intro t ht
  cases d with
  | ask op ns =>
    rcases List.mem_cons.mp ht with z | z
    · rw [z]
      exact strOk_of "ask"
    · rw [List.mem_singleton.mp z]
      exact h
  | go n =>
    rw [List.mem_singleton.mp ht]
    exact strOk_of "hang"
  | fin w =>
    rcases List.mem_cons.mp ht with z | z
    · rw [z]
      exact strOk_of "end"
    · rw [List.mem_singleton.mp z]
      exact h
theorem strs_all {K : PySem.W.Frag} {H : Hp} : ∀ ts : List Str, DpAll K H (ts.map V.str) (ts.map PyData.str)
  | [] => .nil
  | t :: ts => .cons (.str t) (strs_all ts)
theorem show_dp {K : PySem.W.Frag} {H : Hp} {q : Addr} {d : RowD} (h : H q = some (.tup ((showD d).map V.str))) : Dp K H (.ref q) (showP d) := .tup (.inl (.inl h)) (strs_all _)
theorem strs_dep : ∀ ts : List Str, PyData.depthAll (ts.map PyData.str) = 0
  | [] => by simp [PyData.depthAll]
  | t :: ts => by simp [PyData.depthAll, PyData.depth, strs_dep ts]
theorem show_lay {d : RowD} (h : PyData.strOk (rowTx d) = true) : (showP d).canLay0 = true := by
  show PyData.canLayAll0 _ = true
  exact strs_lay _ (showS_ok h)
theorem show_shaped {d : RowD} (h : PyData.strOk (rowTx d) = true) : SeqAt.shaped (showP d) = true := by
  show (PyData.canLay0 _ && decide (PyData.depth _ ≤ 64)) = true
  rw [Bool.and_eq_true]
  refine ⟨show_lay h, decide_eq_true ?_⟩
  unfold showP
  simp only [PyData.depth]
  rw [strs_dep]
  decide
theorem show_eqv {d1 d2 : RowD} (h : PyData.strOk (rowTx d1) = true) (e : showD d1 = showD d2) : PyData.eqv (showP d1) (showP d2) = true := by
  have : showP d2 = showP d1 := by unfold showP; rw [e]
  rw [this]
  exact SeqAt.eqv_refl _ (show_lay h)
/-- pairs that show the same, and lead to such pairs -/
def Bis (rs1 rs2 : List RowD) (R : Prw → Prop) : Prop := ∀ p, R p → ∃ d1 d2, rs1[p.1]? = some d1 ∧ rs2[p.2]? = some d2 ∧ showD d1 = showD d2 ∧ ∀ q ∈ behind rs1 rs2 d1 d2, R q
def spPart (CW CM : Addr) : Sp := fun vs H Q _ => ∃ (H0 : Hp) (wk m1 m2 ma oa : Addr) (o1 o2 : Ops) (rs1 rs2 : List RowD) (b1 b2 : Nat) (p0 : Prw) (R : Prw → Prop), vs = [.ref wk] ∧ WalkP CW H0 H wk m1 m2 ma oa [p0] ∧ MachV CM H0 m1 o1 rs1 b1 ∧ MachV CM H0 m2 o2 rs2 b2 ∧
  Fit rs1 ∧ Fit rs2 ∧ rs1.length ≤ 100000 ∧ rs2.length ≤ 100000 ∧ TxOk rs1 ∧ TxOk rs2 ∧ (∀ d ∈ rs1, (nextsD d).length ≤ 1000) ∧ Bis rs1 rs2 R ∧ R p0 ∧ ∀ (met : List Prw) (H' : Hp), WalkP CW H0 H' wk m1 m2 ma oa met → Q (.int (-1)) H'
theorem rgV_nat (n : Nat) : rgV 0 (n : Int) = flN n fun i => i := by
  unfold rgV flN fl
  rw [show ((n : Int) - 0).toNat = n by omega]
  refine List.map_congr_left fun i _ => ?_
  rw [Int.zero_add]
theorem joinR_self (rep : Nat → Nat) (x : Nat) : Wk.joinR rep x x = rep := by
  funext i
  unfold Wk.joinR
  split
  · rename_i z
    exact z.symm
  · rfl
/-- ahead of a turn -/
structure PartI (CW : Addr) (H0 : Hp) (wk m1 m2 ma oa la : Addr) (n : Nat) (R : Prw → Prop) (met : List Prw) (ls rank rep : Nat → Nat) (H : Hp) : Prop where
  w : WalkP CW H0 H wk m1 m2 ma oa met
  el : H la = some (.lst (flN n ls))
  n0 : H0 la = none
  a1 : ma ≠ la
  a2 : oa ≠ la
  r : Wk.Rep n ls rank rep
  all : ∀ p ∈ met, R p
theorem PartI.go {CW : Addr} {H0 H H' : Hp} {wk m1 m2 ma oa la : Addr} {n : Nat} {R : Prw → Prop} {met : List Prw} {ls rank rep : Nat → Nat} (h : PartI CW H0 wk m1 m2 ma oa la n R met ls rank rep H) (s : Same H H') : PartI CW H0 wk m1 m2 ma oa la n R met ls rank rep H' :=
  ⟨h.w.go s, s _ _ h.el, h.n0, h.a1, h.a2, h.r, h.all⟩
section
variable {P : Program} {w : World} {K : PySem.W.Frag} {mg : Str → Option Value} {base : Heap}
variable {fII fIW CW CM a_led a_both a_behind f_take : Addr}
theorem sc_parting_place : FnScope ["walk", "many", "leaders", "done", "first", "second", "behind", "answer", "pair"] ["walk"] (defScope s_parting_place) := ⟨rfl, rfl, rfl, by decide +kernel, rfl, by decide +kernel, by decide +kernel⟩
theorem ok_parting_place {f : Addr} {fd fd_led fd_both fd_behind fd_take : FuncData} (F : Fun K "parting_place" "parting_place" s_parting_place f fd) (T : TxtF K mg fII fIW) (TM : MachC K CM) (TW : WalkC K CW) (h_range : mg "range" = none) (h_enum : mg "enumerate" = none)
    (GD : FnOk P w K mg base CX0 2 a_led fd_led ["leaders", "one", "other"] spLed) (b_led : Binds K fd_led ["leaders", "one", "other"] []) (g_led : mg "are_led_together" = some (.ref a_led)) (k_led : PySem.W.keepIn K (.ref a_led) = true)
    (GB : FnOk P w K mg base CX0 2 a_both fd_both ["one", "other", "pair"] (spBoth CM)) (b_both : Binds K fd_both ["one", "other", "pair"] []) (g_both : mg "both_shown" = some (.ref a_both)) (k_both : PySem.W.keepIn K (.ref a_both) = true)
    (GH : FnOk P w K mg base CX0 2 a_behind fd_behind ["one", "other", "pair"] (spBehind CM)) (b_behind : Binds K fd_behind ["one", "other", "pair"] []) (g_behind : mg "pairs_behind" = some (.ref a_behind)) (k_behind : PySem.W.keepIn K (.ref a_behind) = true)
    (GT : FnOk P w K mg base CX0 1 f_take fd_take ["self", "pair", "number", "answer"] (spTake CW)) (b_take : Binds K fd_take ["self", "pair", "number", "answer"] []) (m_take : Meth K CW "take" f_take) : FnOk P w K mg base CX0 3 f fd ["walk"] (spPart CW CM) := by
  refine F.ok sc_parting_place (fun vs H Q E h => ?_) (fun cdv A outer s H vs Q E hr h => ?_)
  · obtain ⟨H0, wk, m1, m2, ma, oa, o1, o2, rs1, rs2, b1, b2, p0, R, rfl, _⟩ := h
    rfl
  · obtain ⟨H0, wk, m1, m2, ma, oa, o1, o2, rs1, rs2, b1, b2, p0, R, rfl, W, M1, M2, fit1, fit2, big1, big2, tx1, tx2, few, bis, rp0, k⟩ := h
    refine ⟨_, (pss_cons (ps_set (i := 1) sc_parting_place.nd rfl (Or.inl rfl) (pe_callB call_len_seq (by rfl) T.b_len PySem.boot_len (pa_cons (pe_fld (pe_fld (pv 0) rfl) rfl) pa_nil)))
      (pss_cons (ps_set (i := 2) sc_parting_place.nd rfl (Or.inl rfl) (pe_listRg rfl (by rfl) T.b_list (prg_1 (by rfl) h_range (pe_op op_add (pv 1) (pe_callB call_len_seq (by rfl) T.b_len PySem.boot_len (pa_cons (pe_fld (pe_fld (pv 0) rfl) rfl) pa_nil))))))
      (pss_cons (ps_expr (pe_call GD (hr.mono (by decide)) (by rfl) g_led k_led b_led .nil pass0 (pa_cons (pv 2) (pa_cons (pe_ix ix_tup (pe_ix ix_list (pe_fld (pv 0) rfl) pe_int (fun _ _ => rfl)) pe_int (fun _ _ => rfl)) (pa_cons (pe_op op_add (pv 1) (pe_ix ix_tup (pe_ix ix_list (pe_fld (pv 0) rfl) pe_int (fun _ _ => rfl)) pe_int (fun _ _ => rfl))) pa_nil)))))
      (pss_cons (ps_set (i := 3) sc_parting_place.nd rfl (Or.inl rfl) pe_int)
      (pss_cons (ps_while PassesOwn.never (pt_cmpR op_lt (pv 3) (pe_callB call_len_seq (by rfl) T.b_len PySem.boot_len (pa_cons (pe_fld (pv 0) rfl) pa_nil)) (nomark _)) (pss_cons (ps_asg (pe_call GB (hr.mono (by decide)) (by rfl) g_both k_both b_both .nil pass0 (pa_cons (pe_fld (pv 0) rfl) (pa_cons (pe_fld (pv 0) rfl) (pa_cons (pe_ix ix_list (pe_fld (pv 0) rfl) (pv 3) (fun _ _ => rfl)) pa_nil)))) (pg_tup rfl (pgs_cons (pg_name (i := 4) sc_parting_place.nd rfl (Or.inl rfl)) (pgs_cons (pg_name (i := 5) sc_parting_place.nd rfl (Or.inl rfl)) pgs_nil))))
      (pss_cons (ps_if (pt_cmpR (op_neD hr.units) (pv 4) (pv 5) (nomark _)) (pss_one (ps_ret (pv 3))) pss_nil)
      (pss_cons (ps_set (i := 6) sc_parting_place.nd rfl (Or.inl rfl) (pe_call GH (hr.mono (by decide)) (by rfl) g_behind k_behind b_behind .nil pass0 (pa_cons (pe_fld (pv 0) rfl) (pa_cons (pe_fld (pv 0) rfl) (pa_cons (pe_ix ix_list (pe_fld (pv 0) rfl) (pv 3) (fun _ _ => rfl)) pa_nil)))))
      (pss_cons (ps_for PassesOwn.never rfl (pi_enum (by rfl) h_enum (pa_cons (pv 6) pa_nil)) (pg_tup rfl (pgs_cons (pg_name (i := 7) sc_parting_place.nd rfl (Or.inl rfl)) (pgs_cons (pg_name (i := 8) sc_parting_place.nd rfl (Or.inl rfl)) pgs_nil))) (pss_one (ps_if (pt_not (pt_val (pe_call GD (hr.mono (by decide)) (by rfl) g_led k_led b_led .nil pass0 (pa_cons (pv 2) (pa_cons (pe_ix ix_tup (pv 8) pe_int (fun _ _ => rfl)) (pa_cons (pe_op op_add (pv 1) (pe_ix ix_tup (pv 8) pe_int (fun _ _ => rfl))) pa_nil)))))) (pss_one (ps_expr (pe_meth (pv 0) TW.cl m_take GT (hr.mono (by decide)) b_take .nil pass0 (pa_cons (pv 8) (pa_cons (pv 3) (pa_cons (pv 7) pa_nil)))))) pss_nil)))
      (pss_one (ps_aug (i := 3) sc_parting_place.nd rfl (Or.inl rfl) pe_int ip_add)))))))
      (pss_one (ps_ret (pe_un un_neg pe_int)))))))), ?_⟩
    obtain ⟨⟨dx, fs, hw, wf⟩, ⟨vs0, em, pm⟩, _⟩ := id W
    have M1' := M1
    have M2' := M2
    obtain ⟨dm1, fm1, t1, l1, sa1, aa1, ea1, o1', xs1, as1, es1, p1⟩ := M1'
    obtain ⟨dm2, fm2, t2, l2, sa2, aa2, ea2, o2', xs2, as2, es2, p2⟩ := M2'
    obtain ⟨d01, d02, i1, i2, _, _⟩ := bis p0 rp0
    have lt1 : p0.1 < rs1.length := (List.getElem?_eq_some_iff.mp i1).1
    have lt2 : p0.2 < rs2.length := (List.getElem?_eq_some_iff.mp i2).1
    refine ⟨_, rfl, wk, CW, dx, fs, _, rfl, hw, TW.cl, TW.n_one, wf.one, m1, CM, dm1, fm1, _, rfl, W.same _ _ p1.hm, TM.cl, TM.n_lines, p1.fs.lines, l1, _, rfl, .inl (SqL.of (W.same _ _ p1.hl)), ?_⟩
    refine ⟨_, rfl, _, rfl, wk, CW, dx, fs, _, rfl, hw, TW.cl, TW.n_other, wf.other, m2, CM, dm2, fm2, _, rfl, W.same _ _ p2.hm, TM.cl, TM.n_lines, p2.fs.lines, l2, _, rfl, .inl (SqL.of (W.same _ _ p2.hl)), _, _, rfl, rfl, _, rfl, ?_⟩
    rw [p1.rows.1, p2.rows.1]
    have en : (rs1.length : Int) + (rs2.length : Int) = ((rs1.length + rs2.length : Nat) : Int) := by omega
    rw [en]
    refine ⟨RgOk.of_le (Int.le_refl _) (by omega) (by omega) (by omega), fun la nla => ?_⟩
    rw [rgV_nat]
    have en1 : rs1.length + rs2.length ≤ 200000 := by omega
    generalize hn : rs1.length + rs2.length = n at en1
    have sl := sameNew nla (.lst (flN n fun i => i))
    have W1 := W.go sl
    have el1 : upd H la (.lst (flN n fun i => i)) la = some (.lst (flN n fun i => i)) := upd_same
    generalize upd H la (.lst (flN n fun i => i)) = H1 at sl W1 el1 ⊢
    have nma : ma ≠ la := ne_of_none em nla
    have noa : oa ≠ la := by
      obtain ⟨_, eo, _⟩ := W.eo
      exact ne_of_none eo nla
    have n0 : H0 la = none := none_of W.same nla
    obtain ⟨q0, v0, pq0⟩ := pm.2 0 p0 rfl
    have a00 : atI vs0 0 = some (.ref q0) := atI_nat (j := 0) v0
    have eadd : ∀ j : Nat, (rs1.length : Int) + (j : Int) = ((rs1.length + j : Nat) : Int) := fun j => by omega
    have ev : ∀ (a j : Nat), ([.ref la, .int (a : Int), .int ((rs1.length : Int) + (j : Int))] : List V) = [.ref la, .int (a : Int), .int ((rs1.length + j : Nat) : Int)] := fun a j => by rw [eadd]
    refine ⟨_, rfl, _, rfl, wk, CW, dx, fs, _, rfl, sl _ _ hw, TW.cl, TW.n_met, wf.met, ma, _, _, _, rfl, rfl, SqL.of (sl _ _ em), a00, _, _, _, _, rfl, rfl, .inl (.inl (sl _ _ pq0)), at0', ?_⟩
    refine ⟨_, rfl, _, rfl, wk, CW, dx, fs, _, rfl, sl _ _ hw, TW.cl, TW.n_met, wf.met, ma, _, _, _, rfl, rfl, SqL.of (sl _ _ em), a00, _, _, _, _, rfl, rfl, .inl (.inl (sl _ _ pq0)), at1', _, _, rfl, rfl, ?_⟩
    refine ⟨la, n, p0.1, rs1.length + p0.2, _, _, _, ev _ _, el1, Wk.Rep.start n, by omega, by omega, fun ls2 rank2 H2 r2 bt2 e2 => ?_⟩
    have W2 := W1.but bt2 el1 n0 nma noa
    have sum2 : Wk.groups n (Wk.joinR (fun i => i) p0.1 (rs1.length + p0.2)) + [p0].length ≤ n + 1 := by
      have := Wk.groups_le n (Wk.joinR (fun i => i) p0.1 (rs1.length + p0.2))
      show _ + 1 ≤ n + 1
      omega
    refine ⟨fun m σ H' => ∃ (d : Nat) (met : List Prw) (ls rank rep : Nat → Nat) (v4 v5 v6 v7 v8 : Option V), m = Wk.groups n rep + met.length - d ∧ σ = [some (.ref wk), some (.int (rs1.length : Int)), some (.ref la), some (.int (d : Int)), v4, v5, v6, v7, v8] ∧ PartI CW H0 wk m1 m2 ma oa la n R met ls rank rep H' ∧ d ≤ met.length ∧ Wk.groups n rep + met.length ≤ n + 1, ⟨_, 0, [p0], ls2, rank2, _, none, none, none, none, none, rfl, rfl, ⟨W2, e2, n0, nma, noa, r2, fun p hp => by rw [List.mem_singleton.mp hp]; exact rp0⟩, Nat.zero_le _, sum2⟩, ?_⟩
    rintro m σ H' ⟨d, met, ls, rank, rep, v4, v5, v6, v7, v8, rfl, rfl, I, hd, sum⟩
    obtain ⟨⟨dx', fs', hw', wf'⟩, ⟨vs', em', pm'⟩, _⟩ := id I.w
    refine ⟨_, rfl, _, rfl, wk, CW, dx', fs', _, rfl, hw', TW.cl, TW.n_met, wf'.met, ma, _, rfl, .inl (SqL.of em'), _, _, rfl, rfl, _, rfl, ?_⟩
    rw [pm'.1]
    refine ite2 (fun h1 => ?_) (fun h1 => ?_)
    · have hlt : d < met.length := by
        have := of_decide_eq_true h1
        omega
      obtain ⟨p, ep⟩ : ∃ p, met[d]? = some p := ⟨_, List.getElem?_eq_getElem hlt⟩
      have rp := I.all p (List.mem_of_getElem? ep)
      obtain ⟨d1, d2, g1, g2, same, next⟩ := bis p rp
      obtain ⟨qd, vd, pqd⟩ := pm'.2 d p ep
      have s0 := I.w.same
      refine ⟨fun σ' H'' => ∃ (met' : List Prw) (ls' rank' rep' : Nat → Nat) (v4 v5 v6 v7 v8 : Option V), σ' = [some (.ref wk), some (.int (rs1.length : Int)), some (.ref la), some (.int ((d + 1 : Nat) : Int)), v4, v5, v6, v7, v8] ∧ PartI CW H0 wk m1 m2 ma oa la n R met' ls' rank' rep' H'' ∧ met.length ≤ met'.length ∧ Wk.groups n rep' + met'.length = Wk.groups n rep + met.length, fun σ' H'' ⟨met', ls', rank', rep', v4, v5, v6, v7, v8, z1, z2, z3, z4⟩ => ⟨Wk.groups n rep + met.length - (d + 1), by omega, d + 1, met', ls', rank', rep', v4, v5, v6, v7, v8, by rw [z4], z1, z2, by omega, by omega⟩, ?_⟩
      refine ⟨_, rfl, wk, CW, dx', fs', _, rfl, hw', TW.cl, TW.n_one, wf'.one, _, rfl, wk, CW, dx', fs', _, rfl, hw', TW.cl, TW.n_other, wf'.other, _, rfl, wk, CW, dx', fs', _, rfl, hw', TW.cl, TW.n_met, wf'.met, _, rfl, ma, _, _, _, rfl, rfl, SqL.of em', atI_nat vd, ?_⟩
      refine ⟨m1, m2, qd, o1, o2, rs1, rs2, b1, b2, p, d1, d2, rfl, M1.same s0, M2.same s0, pqd, g1, g2, fun u s1 s2 H3 s3 eu es1 es2 => ?_⟩
      refine ⟨u, _, rfl, .inl (.inl eu), rfl, _, _, rfl, _, _, rfl, rfl, ?_⟩
      have ok1 := tx1 _ (List.mem_of_getElem? g1)
      have ok2 := tx2 _ (List.mem_of_getElem? g2)
      refine ⟨_, rfl, _, rfl, showP d1, showP d2, show_dp es1, show_dp es2, show_shaped ok1, show_shaped ok2, _, rfl, ?_⟩
      rw [show_eqv ok1 same]
      refine iteF ?_
      have I3 := I.go s3
      refine ⟨_, rfl, wk, CW, dx', fs', _, rfl, s3 _ _ hw', TW.cl, TW.n_one, wf'.one, _, rfl, wk, CW, dx', fs', _, rfl, s3 _ _ hw', TW.cl, TW.n_other, wf'.other, _, rfl, wk, CW, dx', fs', _, rfl, s3 _ _ hw', TW.cl, TW.n_met, wf'.met, _, rfl, ma, _, _, _, rfl, rfl, SqL.of (s3 _ _ em'), atI_nat vd, ?_⟩
      refine ⟨m1, m2, qd, o1, o2, rs1, rs2, b1, b2, p, d1, d2, rfl, M1.same (s0.trans s3), M2.same (s0.trans s3), s3 _ _ pqd, g1, g2, fit1, fit2, few _ (List.mem_of_getElem? g1), fun D us H4 nD s4 eD pD => ?_⟩
      have I4 := I3.go s4
      have nDl : D ≠ la := fun z => by
        rw [z, I3.el] at nD
        cases nD
      have nDm : D ≠ ma := fun z => by
        rw [z, s3 _ _ em'] at nD
        cases nD
      have nDo : D ≠ oa := fun z => by
        obtain ⟨_, eo, _⟩ := I3.w.eo
        rw [z, eo] at nD
        cases nD
      refine ⟨_, rfl, D, us, rfl, SqL.of eD, for_enumL (K := K) (a := D) (xs := us) (fun j σ H5 => ∃ (met' : List Prw) (ls' rank' rep' : Nat → Nat) (v7 v8 : Option V), σ = [some (.ref wk), some (.int (rs1.length : Int)), some (.ref la), some (.int (d : Int)), some (.ref s1), some (.ref s2), some (.ref D), v7, v8] ∧ PartI CW H0 wk m1 m2 ma oa la n R met' ls' rank' rep' H5 ∧ H5 D = some (.lst us) ∧ Prs H5 us (behind rs1 rs2 d1 d2) ∧ met.length ≤ met'.length ∧ Wk.groups n rep' + met'.length = Wk.groups n rep + met.length) ⟨met, ls, rank, rep, _, _, rfl, I4, eD, pD, Nat.le_refl _, rfl⟩ (fun j σ H5 _ z => by obtain ⟨_, _, _, _, _, _, _, _, z, _⟩ := z; exact SqL.of z) ?_ ?_⟩
      · rintro j x σ Ha T' Hb hxj ⟨met', ls', rank', rep', w7, w8, rfl, Ia, eDa, pDa, ge, sm⟩ nT sT eT
        have hj : j < (behind rs1 rs2 d1 d2).length := by
          have := (List.getElem?_eq_some_iff.mp hxj).1
          rw [← pD.1]
          exact this
        obtain ⟨pj, epj⟩ : ∃ pj, (behind rs1 rs2 d1 d2)[j]? = some pj := ⟨_, List.getElem?_eq_getElem hj⟩
        obtain ⟨qj, vj, pqj⟩ := pDa.2 j pj epj
        rw [hxj] at vj
        cases vj
        have rpj := next pj (List.mem_of_getElem? epj)
        obtain ⟨_, _, i1, i2, _, _⟩ := bis pj rpj
        have lj1 : pj.1 < rs1.length := (List.getElem?_eq_some_iff.mp i1).1
        have lj2 : pj.2 < rs2.length := (List.getElem?_eq_some_iff.mp i2).1
        have Ib := Ia.go sT
        refine ⟨T', _, rfl, .inl (.inl eT), rfl, _, _, rfl, _, _, rfl, rfl, ?_⟩
        refine ⟨_, rfl, _, rfl, _, _, _, _, rfl, rfl, .inl (.inl (sT _ _ pqj)), at0', ?_⟩
        refine ⟨_, rfl, _, rfl, _, _, _, _, rfl, rfl, .inl (.inl (sT _ _ pqj)), at1', _, _, rfl, rfl, ?_⟩
        refine ⟨la, n, pj.1, rs1.length + pj.2, _, _, _, ev _ _, Ib.el, Ib.r, by omega, by omega, fun ls6 rank6 H6 r6 bt6 e6 => ⟨_, rfl, ?_⟩⟩
        have W6 := Ib.w.but bt6 Ib.el Ib.n0 Ib.a1 Ib.a2
        have eD6 : H6 D = some (.lst us) := bt6 _ _ nDl (sT _ _ eDa)
        have pD6 : Prs H6 us (behind rs1 rs2 d1 d2) := ⟨pDa.1, fun kk pp ee => by
          obtain ⟨qq, k1, k2⟩ := pDa.2 kk pp ee
          have k3 := sT _ _ k2
          exact ⟨qq, k1, bt6 _ _ (fun z => by rw [z, Ib.el] at k3; cases k3) k3⟩⟩
        have pq6 := (pD6.2 j pj epj)
        rw [hxj] at pq6
        obtain ⟨_, c6, pq6⟩ := pq6
        cases c6
        by_cases hab : rep' pj.1 = rep' (rs1.length + pj.2)
        · rw [decide_eq_true hab]
          refine iteF ?_
          rw [hab, joinR_self] at r6
          exact ⟨met', ls6, rank6, rep', _, _, rfl, ⟨W6, e6, Ib.n0, Ib.a1, Ib.a2, r6, Ib.all⟩, eD6, pD6, ge, sm⟩
        · rw [decide_eq_false hab]
          refine iteT ?_
          have gj := Wk.groups_join Ib.r (a := rep' pj.1) (b := rep' (rs1.length + pj.2)) (Ib.r.rlt _ (by omega)) (Ib.r.root' (by omega)).2 (Ib.r.root' (by omega)).2 hab
          obtain ⟨dx6, fs6, hw6, wf6⟩ := W6.hw
          refine ⟨_, rfl, wk, dx6, fs6, rfl, hw6, wf6.take, _, rfl, _, rfl, _, rfl, H0, wk, m1, m2, ma, oa, qj, (d : Int), ((j : Nat) : Int), pj, met', rfl, W6, pq6, by omega, fun H7 W7 off => ?_⟩
          have el7 := off la _ (Ne.symm Ib.a1) (Ne.symm Ib.a2) e6
          have eD7 := off D _ nDm nDo eD6
          refine ⟨met' ++ [pj], ls6, rank6, _, _, _, rfl, ⟨W7, el7, Ib.n0, Ib.a1, Ib.a2, r6, fun y hy => (List.mem_append.mp hy).elim (Ib.all y) fun z => by rw [List.mem_singleton.mp z]; exact rpj⟩, eD7, ⟨pD6.1, fun kk pp ee => ?_⟩, by rw [List.length_append]; omega, by rw [List.length_append]; show _ + (met'.length + 1) = _; omega⟩
          obtain ⟨qq, k1, k2⟩ := pD6.2 kk pp ee
          refine ⟨qq, k1, off _ _ (fun z => ?_) (fun z => ?_) k2⟩
          · obtain ⟨_, em6, _⟩ := W6.em
            unfold PairT at k2
            rw [z, em6] at k2
            cases k2
          · obtain ⟨_, eo6, _⟩ := W6.eo
            unfold PairT at k2
            rw [z, eo6] at k2
            cases k2
      · rintro σ H5 ⟨met', ls', rank', rep', w7, w8, rfl, I5, _, _, ge, sm⟩
        exact ⟨_, rfl, _, _, rfl, rfl, met', ls', rank', rep', _, _, _, _, _, rfl, I5, ge, sm⟩
    · exact ⟨_, rfl, k met H' I.w⟩
end
end Mine

set_option maxRecDepth 100000
set_option maxHeartbeats 4000000
namespace Mine
open PySem L2
abbrev s_straying_place : Stmt := top 95
def addP (m : List Prw) (p : Prw) : List Prw := if p ∈ m then m else m ++ [p]
def growP (m ps : List Prw) : List Prw := ps.foldl addP m
def behindAt (rs1 rs2 : List RowD) (p : Prw) : List Prw := match rs1[p.1]?, rs2[p.2]? with
  | some d1, some d2 => behind rs1 rs2 d1 d2
  | _, _ => []
def stepP (rs1 rs2 : List RowD) (m : List Prw) (d : Nat) : List Prw := match m[d]? with
  | some p => growP m (behindAt rs1 rs2 p)
  | none => m
def pairAt (rs1 rs2 : List RowD) (p0 : Prw) : Nat → List Prw
  | 0 => [p0]
  | d + 1 => stepP rs1 rs2 (pairAt rs1 rs2 p0 d) d
/-- the pairs that are met, breadth first -/
def pairsOf (rs1 rs2 : List RowD) (p0 : Prw) : List Prw := pairAt rs1 rs2 p0 (rs1.length * rs2.length)
theorem growP_len : ∀ {ps m : List Prw}, m.length ≤ (growP m ps).length
  | [], _ => Nat.le_refl _
  | p :: ps, m => by
    refine Nat.le_trans ?_ (growP_len (ps := ps) (m := addP m p))
    unfold addP
    split
    · exact Nat.le_refl _
    · rw [List.length_append]
      exact Nat.le_add_right _ _
/-- no double, all related -/
def FewP (R : Prw → Prop) (m : List Prw) : Prop := m.Nodup ∧ ∀ x ∈ m, R x
theorem FewP.add {R : Prw → Prop} {m : List Prw} {p : Prw} (f : FewP R m) (h : R p) : FewP R (addP m p) := by
  unfold addP
  by_cases e : p ∈ m
  · rw [if_pos e]
    exact f
  · rw [if_neg e]
    refine ⟨?_, fun x hx => (List.mem_append.mp hx).elim (f.2 x) fun z => by rw [List.mem_singleton.mp z]; exact h⟩
    rw [List.nodup_append]
    exact ⟨f.1, by simp, fun x hx y hy z => by rw [List.mem_singleton.mp hy] at z; exact e (z ▸ hx)⟩
theorem FewP.grow {R : Prw → Prop} : ∀ {ps m : List Prw}, FewP R m → (∀ p ∈ ps, R p) → FewP R (growP m ps)
  | [], _, f, _ => f
  | p :: ps, m, f, h => FewP.grow (ps := ps) (m := addP m p) (f.add (h p List.mem_cons_self)) fun x hx => h x (List.mem_cons_of_mem _ hx)
theorem Bis.in_ {rs1 rs2 : List RowD} {R : Prw → Prop} (b : Bis rs1 rs2 R) {p : Prw} (h : R p) : p.1 < rs1.length ∧ p.2 < rs2.length ∧ ∀ q ∈ behindAt rs1 rs2 p, R q := by
  obtain ⟨d1, d2, e1, e2, _, nx⟩ := b p h
  refine ⟨(List.getElem?_eq_some_iff.mp e1).1, (List.getElem?_eq_some_iff.mp e2).1, fun q hq => ?_⟩
  unfold behindAt at hq
  rw [e1, e2] at hq
  exact nx q hq
theorem pairAt_few {rs1 rs2 : List RowD} {R : Prw → Prop} (b : Bis rs1 rs2 R) {p0 : Prw} (h : R p0) : ∀ d, FewP R (pairAt rs1 rs2 p0 d)
  | 0 => ⟨by show [p0].Nodup; simp, fun x hx => by rw [List.mem_singleton.mp hx]; exact h⟩
  | d + 1 => by
    have ih := pairAt_few b h d
    show FewP R (stepP rs1 rs2 (pairAt rs1 rs2 p0 d) d)
    unfold stepP
    split
    · rename_i p e
      exact ih.grow (b.in_ (ih.2 p (List.mem_of_getElem? e))).2.2
    · exact ih
theorem FewP.len {rs1 rs2 : List RowD} {R : Prw → Prop} (b : Bis rs1 rs2 R) {m : List Prw} (f : FewP R m) : m.length ≤ rs1.length * rs2.length := by
  have := Mach.pigeon (rs1.length * rs2.length) (m.map fun p => p.1 * rs2.length + p.2) (List.pairwise_map.mpr (List.Pairwise.imp_of_mem (fun {p q} hp hq ne z => ?_) f.1)) (fun x hx => ?_)
  · rw [List.length_map] at this
    exact this
  · obtain ⟨p1, p2, _⟩ := b.in_ (f.2 p hp)
    obtain ⟨q1, q2, _⟩ := b.in_ (f.2 q hq)
    have e1 : p.1 = q.1 := by
      have h1 : (p.1 * rs2.length + p.2) / rs2.length = p.1 := by
        rw [Nat.mul_comm, Nat.mul_add_div (by omega), Nat.div_eq_of_lt p2, Nat.add_zero]
      have h2 : (q.1 * rs2.length + q.2) / rs2.length = q.1 := by
        rw [Nat.mul_comm, Nat.mul_add_div (by omega), Nat.div_eq_of_lt q2, Nat.add_zero]
      rw [← h1, ← h2, z]
    rw [e1] at z
    exact ne (Prod.ext e1 (by omega))
  · obtain ⟨p, hp, rfl⟩ := List.mem_map.mp hx
    obtain ⟨p1, p2, _⟩ := b.in_ (f.2 p hp)
    have : (p.1 + 1) * rs2.length ≤ rs1.length * rs2.length := Nat.mul_le_mul_right _ p1
    rw [Nat.add_mul] at this
    omega
theorem pairAt_over {rs1 rs2 : List RowD} {p0 : Prw} {d : Nat} (h : (pairAt rs1 rs2 p0 d).length ≤ d) : ∀ k, pairAt rs1 rs2 p0 (d + k) = pairAt rs1 rs2 p0 d
  | 0 => rfl
  | k + 1 => by
    have ih := pairAt_over h k
    show stepP rs1 rs2 (pairAt rs1 rs2 p0 (d + k)) (d + k) = _
    rw [ih]
    unfold stepP
    rw [List.getElem?_eq_none (by omega)]
theorem pairAt_end {rs1 rs2 : List RowD} {p0 : Prw} {d : Nat} (hd : d ≤ rs1.length * rs2.length) (h : (pairAt rs1 rs2 p0 d).length ≤ d) : pairAt rs1 rs2 p0 d = pairsOf rs1 rs2 p0 := by
  have := pairAt_over h (rs1.length * rs2.length - d)
  rw [show d + (rs1.length * rs2.length - d) = rs1.length * rs2.length by omega] at this
  exact this.symm
theorem pairAt_step {rs1 rs2 : List RowD} {p0 p : Prw} {d : Nat} {d1 d2 : RowD} (h : (pairAt rs1 rs2 p0 d)[d]? = some p) (e1 : rs1[p.1]? = some d1) (e2 : rs2[p.2]? = some d2) : pairAt rs1 rs2 p0 (d + 1) = growP (pairAt rs1 rs2 p0 d) (behind rs1 rs2 d1 d2) := by
  show stepP rs1 rs2 (pairAt rs1 rs2 p0 d) d = _
  unfold stepP
  rw [h]
  show growP _ (behindAt rs1 rs2 p) = _
  unfold behindAt
  rw [e1, e2]
def keyP (p : Prw) : List Key := [.inl (p.1 : Int), .inl (p.2 : Int)]
theorem keyP_inj {p q : Prw} (h : keyP p = keyP q) : p = q := by
  unfold keyP at h
  injection h with h1 h2
  injection h2 with h2 _
  have h1 := Sum.inl.inj h1
  have h2 := Sum.inl.inj h2
  exact Prod.ext (by omega) (by omega)
def knT (m : List Prw) : List (List Key × V) := m.map fun p => (keyP p, V.bl true)
theorem val_knT (m : List Prw) (p : Prw) : (valV (knT m) (keyP p)).isSome = decide (p ∈ m) := by
  induction m with
  | nil => rfl
  | cons r m ih =>
    by_cases h : r = p
    · subst h
      unfold knT
      rw [List.map_cons, valV_pos rfl]
      simp
    · have h2 : ¬ keyP r = keyP p := fun z => h (keyP_inj z)
      unfold knT at ih ⊢
      rw [List.map_cons, valV_neg h2, ih]
      by_cases q : p ∈ m
      · rw [decide_eq_true q, decide_eq_true (List.mem_cons_of_mem _ q)]
      · rw [decide_eq_false q, decide_eq_false (fun z => (List.mem_cons.mp z).elim (fun y => h y.symm) q)]
theorem knT_put {m : List Prw} {p : Prw} (h : p ∉ m) : putK (knT m) (keyP p) (.bl true) = knT (addP m p) := by
  unfold addP
  rw [if_neg h, putK_new]
  · unfold knT
    rw [List.map_append]
    rfl
  · have := val_knT m p
    rw [decide_eq_false h] at this
    cases q : valV (knT m) (keyP p) with
    | none => rfl
    | some v =>
      rw [q] at this
      cases this
def spStray (CW CM : Addr) : Sp := fun vs H Q _ => ∃ (H0 : Hp) (wk m1 m2 ma oa : Addr) (o1 o2 : Ops) (rs1 rs2 : List RowD) (b1 b2 : Nat) (p0 : Prw) (R : Prw → Prop), vs = [.ref wk] ∧ WalkP CW H0 H wk m1 m2 ma oa [p0] ∧ MachV CM H0 m1 o1 rs1 b1 ∧ MachV CM H0 m2 o2 rs2 b2 ∧
  Fit rs1 ∧ Fit rs2 ∧ rs1.length * rs2.length ≤ 1000000 ∧ TxOk rs1 ∧ TxOk rs2 ∧ (∀ d ∈ rs1, (nextsD d).length ≤ 1000) ∧ Bis rs1 rs2 R ∧ R p0 ∧ ∀ H' : Hp, WalkP CW H0 H' wk m1 m2 ma oa (pairsOf rs1 rs2 p0) → Q (.int (-1)) H'
/-- ahead of a turn -/
structure StrayI (CW : Addr) (H0 : Hp) (wk m1 m2 ma oa ka : Addr) (met : List Prw) (H : Hp) : Prop where
  w : WalkP CW H0 H wk m1 m2 ma oa met
  ek : H ka = some (.dT (knT met))
  n0 : H0 ka = none
theorem StrayI.go {CW : Addr} {H0 H H' : Hp} {wk m1 m2 ma oa ka : Addr} {met : List Prw} (h : StrayI CW H0 wk m1 m2 ma oa ka met H) (s : Same H H') : StrayI CW H0 wk m1 m2 ma oa ka met H' := ⟨h.w.go s, s _ _ h.ek, h.n0⟩
/-- the dict is changed -/
theorem WalkP.kn {CW : Addr} {H0 H : Hp} {wk m1 m2 ma oa ka : Addr} {met : List Prw} {kvs : List (List Key × V)} {o : HO} (h : WalkP CW H0 H wk m1 m2 ma oa met) (ek : H ka = some (.dT kvs)) (n0 : H0 ka = none) : WalkP CW H0 (upd H ka o) wk m1 m2 ma oa met := by
  obtain ⟨⟨dx, fs, h1, h2⟩, ⟨vs, h3, h4⟩, ⟨us, h5, h6⟩, h7, h8, h9, h10⟩ := h
  have up : ∀ {b : Addr} {u : HO}, H b = some u → (∀ kvs, u ≠ .dT kvs) → upd H ka o b = some u := fun {b u} e n => by
    rw [upd_ne (fun z => by rw [z, ek] at e; exact n _ (Option.some.inj e).symm)]
    exact e
  refine ⟨⟨dx, fs, up h1 (fun _ z => nomatch z), h2⟩, ⟨vs, up h3 (fun _ z => nomatch z), h4.1, fun k p e => ?_⟩, ⟨us, up h5 (fun _ z => nomatch z), h6⟩, h7, fun b u e => ?_, h9, h10⟩
  · obtain ⟨q, k1, k2⟩ := h4.2 k p e
    exact ⟨q, k1, up k2 (fun _ z => nomatch z)⟩
  · rw [upd_ne (ne_of_none e n0)]
    exact h8 _ _ e
section
variable {P : Program} {w : World} {K : PySem.W.Frag} {mg : Str → Option Value} {base : Heap}
variable {fII fIW CW CM a_both a_behind f_take : Addr}
theorem sc_straying_place : FnScope ["walk", "known", "done", "first", "second", "behind", "answer", "pair"] ["walk"] (defScope s_straying_place) := ⟨rfl, rfl, rfl, by decide +kernel, rfl, by decide +kernel, by decide +kernel⟩
theorem ok_straying_place {f : Addr} {fd fd_both fd_behind fd_take : FuncData} (F : Fun K "straying_place" "straying_place" s_straying_place f fd) (T : TxtF K mg fII fIW) (TM : MachC K CM) (TW : WalkC K CW) (h_enum : mg "enumerate" = none)
    (GB : FnOk P w K mg base CX0 2 a_both fd_both ["one", "other", "pair"] (spBoth CM)) (b_both : Binds K fd_both ["one", "other", "pair"] []) (g_both : mg "both_shown" = some (.ref a_both)) (k_both : PySem.W.keepIn K (.ref a_both) = true)
    (GH : FnOk P w K mg base CX0 2 a_behind fd_behind ["one", "other", "pair"] (spBehind CM)) (b_behind : Binds K fd_behind ["one", "other", "pair"] []) (g_behind : mg "pairs_behind" = some (.ref a_behind)) (k_behind : PySem.W.keepIn K (.ref a_behind) = true)
    (GT : FnOk P w K mg base CX0 1 f_take fd_take ["self", "pair", "number", "answer"] (spTake CW)) (b_take : Binds K fd_take ["self", "pair", "number", "answer"] []) (m_take : Meth K CW "take" f_take) : FnOk P w K mg base CX0 3 f fd ["walk"] (spStray CW CM) := by
  refine F.ok sc_straying_place (fun vs H Q E h => ?_) (fun cdv A outer s H vs Q E hr h => ?_)
  · obtain ⟨H0, wk, m1, m2, ma, oa, o1, o2, rs1, rs2, b1, b2, p0, R, rfl, _⟩ := h
    rfl
  · obtain ⟨H0, wk, m1, m2, ma, oa, o1, o2, rs1, rs2, b1, b2, p0, R, rfl, W, M1, M2, fit1, fit2, big, tx1, tx2, few, bis, rp0, k⟩ := h
    refine ⟨_, (pss_cons (ps_set (i := 1) sc_straying_place.nd rfl (Or.inl rfl) (pe_disp1T (hu_of hr) (pe_ix ix_list (pe_fld (pv 0) rfl) pe_int (fun _ _ => rfl)) pe_bl))
      (pss_cons (ps_set (i := 2) sc_straying_place.nd rfl (Or.inl rfl) pe_int)
      (pss_cons (ps_while PassesOwn.never (pt_cmpR op_lt (pv 2) (pe_callB call_len_seq (by rfl) T.b_len PySem.boot_len (pa_cons (pe_fld (pv 0) rfl) pa_nil)) (nomark _)) (pss_cons (ps_asg (pe_call GB (hr.mono (by decide)) (by rfl) g_both k_both b_both .nil pass0 (pa_cons (pe_fld (pv 0) rfl) (pa_cons (pe_fld (pv 0) rfl) (pa_cons (pe_ix ix_list (pe_fld (pv 0) rfl) (pv 2) (fun _ _ => rfl)) pa_nil)))) (pg_tup rfl (pgs_cons (pg_name (i := 3) sc_straying_place.nd rfl (Or.inl rfl)) (pgs_cons (pg_name (i := 4) sc_straying_place.nd rfl (Or.inl rfl)) pgs_nil))))
      (pss_cons (ps_if (PW.pt (pw_and (pt_cmpR (op_neD hr.units) (pv 3) (pv 4) (nomark _)) (pw_and1 (pt_cmpR (op_neD hr.units) (pv 3) (pe_tupG (pa_cons pe_str pa_nil)) (nomark _))))) (pss_one (ps_ret (pv 2))) pss_nil)
      (pss_cons (ps_set (i := 5) sc_straying_place.nd rfl (Or.inl rfl) (pe_lstG pa_nil))
      (pss_cons (ps_if (pt_cmpR (op_eqD hr.units) (pv 3) (pv 4) (nomark _)) (pss_one (ps_set (i := 5) sc_straying_place.nd rfl (Or.inl rfl) (pe_call GH (hr.mono (by decide)) (by rfl) g_behind k_behind b_behind .nil pass0 (pa_cons (pe_fld (pv 0) rfl) (pa_cons (pe_fld (pv 0) rfl) (pa_cons (pe_ix ix_list (pe_fld (pv 0) rfl) (pv 2) (fun _ _ => rfl)) pa_nil)))))) pss_nil)
      (pss_cons (ps_for PassesOwn.never rfl (pi_enum (by rfl) h_enum (pa_cons (pv 5) pa_nil)) (pg_tup rfl (pgs_cons (pg_name (i := 6) sc_straying_place.nd rfl (Or.inl rfl)) (pgs_cons (pg_name (i := 7) sc_straying_place.nd rfl (Or.inl rfl)) pgs_nil))) (pss_one (ps_if (pt_cmp (pc_dnotin (hu_of hr) (pv 7) (pv 1)) rfl) (pss_cons (ps_asg pe_bl (pg_sub (pv 1) (pv 7) (set_dict (hu_of hr))))
      (pss_one (ps_expr (pe_meth (pv 0) TW.cl m_take GT (hr.mono (by decide)) b_take .nil pass0 (pa_cons (pv 7) (pa_cons (pv 2) (pa_cons (pv 6) pa_nil))))))) pss_nil)))
      (pss_one (ps_aug (i := 2) sc_straying_place.nd rfl (Or.inl rfl) pe_int ip_add))))))))
      (pss_one (ps_ret (pe_un un_neg pe_int)))))), ?_⟩
    obtain ⟨⟨dx, fs, hw, wf⟩, ⟨vs0, em, pm⟩, _⟩ := id W
    obtain ⟨q0, v0, pq0⟩ := pm.2 0 p0 rfl
    have a00 : atI vs0 0 = some (.ref q0) := atI_nat (j := 0) v0
    refine fun ka nka => ?_
    have sk := sameNew nka (.dT [])
    have Wk := W.go sk
    have ek : upd H ka (.dT []) ka = some (.dT []) := upd_same
    generalize upd H ka (.dT []) = H1 at sk Wk ek ⊢
    have n0 : H0 ka = none := none_of W.same nka
    refine ⟨_, rfl, wk, CW, dx, fs, _, rfl, sk _ _ hw, TW.cl, TW.n_met, wf.met, ma, _, _, _, rfl, rfl, SqL.of (sk _ _ em), a00, ek, q0, keyP p0, rfl, sk _ _ pq0, ?_⟩
    have I0 : StrayI CW H0 wk m1 m2 ma oa ka [p0] (upd H1 ka (.dT [(keyP p0, .bl true)])) := ⟨Wk.kn ek n0, upd_same, n0⟩
    refine ⟨fun m σ H' => ∃ (d : Nat) (v3 v4 v5 v6 v7 : Option V), m = rs1.length * rs2.length - d ∧ σ = [some (.ref wk), some (.ref ka), some (.int (d : Int)), v3, v4, v5, v6, v7] ∧ StrayI CW H0 wk m1 m2 ma oa ka (pairAt rs1 rs2 p0 d) H' ∧ d ≤ (pairAt rs1 rs2 p0 d).length, ⟨_, 0, none, none, none, none, none, rfl, rfl, I0, Nat.zero_le _⟩, ?_⟩
    rintro m σ H' ⟨d, v3, v4, v5, v6, v7, rfl, rfl, I, hd⟩
    have few0 := pairAt_few bis rp0 d
    have len0 := few0.len bis
    obtain ⟨⟨dx', fs', hw', wf'⟩, ⟨vs', em', pm'⟩, _⟩ := id I.w
    refine ⟨_, rfl, _, rfl, wk, CW, dx', fs', _, rfl, hw', TW.cl, TW.n_met, wf'.met, ma, _, rfl, .inl (SqL.of em'), _, _, rfl, rfl, _, rfl, ?_⟩
    rw [pm'.1]
    refine ite2 (fun h1 => ?_) (fun h1 => ?_)
    · have hlt : d < (pairAt rs1 rs2 p0 d).length := by
        have := of_decide_eq_true h1
        omega
      obtain ⟨p, ep⟩ : ∃ p, (pairAt rs1 rs2 p0 d)[d]? = some p := ⟨_, List.getElem?_eq_getElem hlt⟩
      have rp := few0.2 p (List.mem_of_getElem? ep)
      obtain ⟨d1, d2, g1, g2, same, next⟩ := bis p rp
      have st := pairAt_step ep g1 g2
      obtain ⟨qd, vd, pqd⟩ := pm'.2 d p ep
      have s0 := I.w.same
      refine ⟨fun σ' H'' => ∃ (v3 v4 v5 v6 v7 : Option V), σ' = [some (.ref wk), some (.ref ka), some (.int ((d + 1 : Nat) : Int)), v3, v4, v5, v6, v7] ∧ StrayI CW H0 wk m1 m2 ma oa ka (pairAt rs1 rs2 p0 (d + 1)) H'', fun σ' H'' ⟨v3, v4, v5, v6, v7, z1, z2⟩ => ⟨rs1.length * rs2.length - (d + 1), by omega, d + 1, v3, v4, v5, v6, v7, rfl, z1, z2, by rw [st]; exact Nat.le_trans hlt growP_len⟩, ?_⟩
      refine ⟨_, rfl, wk, CW, dx', fs', _, rfl, hw', TW.cl, TW.n_one, wf'.one, _, rfl, wk, CW, dx', fs', _, rfl, hw', TW.cl, TW.n_other, wf'.other, _, rfl, wk, CW, dx', fs', _, rfl, hw', TW.cl, TW.n_met, wf'.met, _, rfl, ma, _, _, _, rfl, rfl, SqL.of em', atI_nat vd, ?_⟩
      refine ⟨m1, m2, qd, o1, o2, rs1, rs2, b1, b2, p, d1, d2, rfl, M1.same s0, M2.same s0, pqd, g1, g2, fun u s1 s2 H3 s3 eu es1 es2 => ?_⟩
      refine ⟨u, _, rfl, .inl (.inl eu), rfl, _, _, rfl, _, _, rfl, rfl, ?_⟩
      have ok1 := tx1 _ (List.mem_of_getElem? g1)
      have ok2 := tx2 _ (List.mem_of_getElem? g2)
      refine ⟨_, rfl, _, rfl, showP d1, showP d2, show_dp es1, show_dp es2, show_shaped ok1, show_shaped ok2, _, rfl, ?_⟩
      rw [show_eqv ok1 same]
      refine iteF ?_
      refine iteF ?_
      refine ⟨Nat.zero_le _, fun E0 H4 n4 s4 e4 => ?_⟩
      refine ⟨_, rfl, _, rfl, showP d1, showP d2, show_dp (s4 _ _ es1), show_dp (s4 _ _ es2), show_shaped ok1, show_shaped ok2, _, rfl, ?_⟩
      rw [show_eqv ok1 same]
      refine iteT ?_
      have s34 : Same H' H4 := s3.trans s4
      have I3 := I.go s34
      refine ⟨_, rfl, wk, CW, dx', fs', _, rfl, s34 _ _ hw', TW.cl, TW.n_one, wf'.one, _, rfl, wk, CW, dx', fs', _, rfl, s34 _ _ hw', TW.cl, TW.n_other, wf'.other, _, rfl, wk, CW, dx', fs', _, rfl, s34 _ _ hw', TW.cl, TW.n_met, wf'.met, _, rfl, ma, _, _, _, rfl, rfl, SqL.of (s34 _ _ em'), atI_nat vd, ?_⟩
      refine ⟨m1, m2, qd, o1, o2, rs1, rs2, b1, b2, p, d1, d2, rfl, M1.same (s0.trans s34), M2.same (s0.trans s34), s34 _ _ pqd, g1, g2, fit1, fit2, few _ (List.mem_of_getElem? g1), fun D us H5 nD s5 eD pD => ?_⟩
      have I4 := I3.go s5
      have nDk : D ≠ ka := fun z => by
        rw [z, I3.ek] at nD
        cases nD
      have nDm : D ≠ ma := fun z => by
        rw [z, s34 _ _ em'] at nD
        cases nD
      have nDo : D ≠ oa := fun z => by
        obtain ⟨_, eo, _⟩ := I3.w.eo
        rw [z, eo] at nD
        cases nD
      refine ⟨_, rfl, D, us, rfl, SqL.of eD, for_enumL (K := K) (a := D) (xs := us) (fun j σ H5 => ∃ (v6 v7 : Option V), σ = [some (.ref wk), some (.ref ka), some (.int (d : Int)), some (.ref s1), some (.ref s2), some (.ref D), v6, v7] ∧ StrayI CW H0 wk m1 m2 ma oa ka (growP (pairAt rs1 rs2 p0 d) ((behind rs1 rs2 d1 d2).take j)) H5 ∧ H5 D = some (.lst us) ∧ Prs H5 us (behind rs1 rs2 d1 d2)) ⟨_, _, rfl, I4, eD, pD⟩ (fun j σ H5 _ z => by obtain ⟨_, _, _, _, z, _⟩ := z; exact SqL.of z) ?_ ?_⟩
      · rintro j x σ Ha T' Hb hxj ⟨w6, w7, rfl, Ia, eDa, pDa⟩ nT sT eT
        have hj : j < (behind rs1 rs2 d1 d2).length := by
          have := (List.getElem?_eq_some_iff.mp hxj).1
          rw [← pD.1]
          exact this
        obtain ⟨pj, epj⟩ : ∃ pj, (behind rs1 rs2 d1 d2)[j]? = some pj := ⟨_, List.getElem?_eq_getElem hj⟩
        obtain ⟨qj, vj, pqj⟩ := pDa.2 j pj epj
        rw [hxj] at vj
        cases vj
        have rpj := next pj (List.mem_of_getElem? epj)
        have fewj : FewP R (growP (pairAt rs1 rs2 p0 d) ((behind rs1 rs2 d1 d2).take j)) := few0.grow fun x hx => next x (List.mem_of_mem_take hx)
        have lenj := fewj.len bis
        have tk : growP (pairAt rs1 rs2 p0 d) ((behind rs1 rs2 d1 d2).take (j + 1)) = addP (growP (pairAt rs1 rs2 p0 d) ((behind rs1 rs2 d1 d2).take j)) pj := by
          unfold growP
          rw [List.take_succ, epj, List.foldl_append]
          rfl
        rw [tk]
        generalize growP (pairAt rs1 rs2 p0 d) ((behind rs1 rs2 d1 d2).take j) = met' at Ia fewj lenj
        have Ib := Ia.go sT
        refine ⟨T', _, rfl, .inl (.inl eT), rfl, _, _, rfl, _, _, rfl, rfl, ?_⟩
        refine ⟨_, rfl, _, rfl, ka, _, rfl, DGet.t (k := keyP pj) Ib.ek (sT _ _ pqj), _, rfl, ?_⟩
        rw [val_knT]
        by_cases hin : pj ∈ met'
        · rw [decide_eq_true hin]
          refine iteF ?_
          have ad : addP met' pj = met' := if_pos hin
          rw [ad]
          exact ⟨_, _, rfl, Ib, sT _ _ eDa, pDa.same sT⟩
        · rw [decide_eq_false hin]
          refine iteT ?_
          have kl : (knT met').length < sizeLine := by
            unfold knT
            rw [List.length_map, sizeLine_eq]
            omega
          refine ⟨_, rfl, _, rfl, ka, _, rfl, DPut.t (k := keyP pj) Ib.ek (sT _ _ pqj) kl, ?_⟩
          rw [knT_put hin]
          have W6 := Ib.w.kn (o := .dT (knT (addP met' pj))) Ib.ek Ib.n0
          have e6 : upd Hb ka (.dT (knT (addP met' pj))) ka = some (.dT (knT (addP met' pj))) := upd_same
          have eD6 : upd Hb ka (.dT (knT (addP met' pj))) D = some (.lst us) := by
            rw [upd_ne nDk]
            exact sT _ _ eDa
          have pD6 : Prs (upd Hb ka (.dT (knT (addP met' pj)))) us (behind rs1 rs2 d1 d2) := ⟨pDa.1, fun kk pp ee => by
            obtain ⟨qq, k1, k2⟩ := pDa.2 kk pp ee
            have k3 := sT _ _ k2
            exact ⟨qq, k1, by unfold PairT; rw [upd_ne (fun z => by rw [z, Ib.ek] at k3; cases k3)]; exact k3⟩⟩
          generalize upd Hb ka (.dT (knT (addP met' pj))) = H6 at W6 e6 eD6 pD6 ⊢
          have pq6 := (pD6.2 j pj epj)
          rw [hxj] at pq6
          obtain ⟨_, c6, pq6⟩ := pq6
          cases c6
          obtain ⟨dx6, fs6, hw6, wf6⟩ := W6.hw
          have ad : addP met' pj = met' ++ [pj] := if_neg hin
          refine ⟨_, rfl, wk, dx6, fs6, rfl, hw6, wf6.take, _, rfl, _, rfl, _, rfl, H0, wk, m1, m2, ma, oa, qj, (d : Int), ((j : Nat) : Int), pj, met', rfl, W6, pq6, by omega, fun H7 W7 off => ?_⟩
          have nkm : ka ≠ ma := fun z => by
            obtain ⟨_, em6, _⟩ := W6.em
            rw [z, em6] at e6
            cases e6
          have nko : ka ≠ oa := fun z => by
            obtain ⟨_, eo6, _⟩ := W6.eo
            rw [z, eo6] at e6
            cases e6
          have ek7 := off ka _ nkm nko e6
          have eD7 := off D _ nDm nDo eD6
          refine ⟨_, _, rfl, ⟨by rw [ad]; exact W7, ek7, Ib.n0⟩, eD7, ⟨pD6.1, fun kk pp ee => ?_⟩⟩
          obtain ⟨qq, k1, k2⟩ := pD6.2 kk pp ee
          refine ⟨qq, k1, off _ _ (fun z => ?_) (fun z => ?_) k2⟩
          · obtain ⟨_, em6, _⟩ := W6.em
            unfold PairT at k2
            rw [z, em6] at k2
            cases k2
          · obtain ⟨_, eo6, _⟩ := W6.eo
            unfold PairT at k2
            rw [z, eo6] at k2
            cases k2
      · rintro σ H5 ⟨w6, w7, rfl, I5, _, pD5⟩
        refine ⟨_, rfl, _, _, rfl, rfl, _, _, _, _, _, rfl, ?_⟩
        rw [pD5.1, List.take_length, ← st] at I5
        exact I5
    · have hge : (pairAt rs1 rs2 p0 d).length ≤ d := by
        by_cases z : (pairAt rs1 rs2 p0 d).length ≤ d
        · exact z
        · exact absurd (decide_eq_true (by omega)) h1
      have Iw := I.w
      rw [pairAt_end (by omega) hge] at Iw
      exact ⟨_, rfl, k H' Iw⟩
end
end Mine

set_option maxRecDepth 100000
set_option maxHeartbeats 4000000
namespace Mine
open PySem L2
abbrev s_told_of : Stmt := top 96
abbrev s_joined : Stmt := top 28
abbrev s_walk_of : Stmt := top 99
abbrev s_parted : Stmt := top 98
abbrev s_pairs : Stmt := top 100
theorem opLook_mem {o : Ops} {x : Str} {m : Int} (h : opLook o x = some m) : (x, m) ∈ o := by
  unfold opLook at h
  cases e : o.find? fun p => decide (p.1 = x) with
  | none => rw [e] at h; cases h
  | some p =>
    rw [e] at h
    have h2 := List.find?_some e
    have h3 : p.1 = x := of_decide_eq_true h2
    have h4 : p.2 = m := Option.some.inj h
    rw [← h3, ← h4]
    exact List.mem_of_find?_eq_some e
theorem opLook_none {o : Ops} {x : Str} (h : opLook o x = none) : x ∉ o.map (·.1) := fun z => by
  obtain ⟨p, hp, e⟩ := List.mem_map.mp z
  unfold opLook at h
  have := List.find?_eq_none.mp (Option.map_eq_none_iff.mp h) p hp
  exact this (decide_eq_true e)
/-- the operations of several dicts go together -/
def spJoined : Sp := fun vs H Q _ => ∃ (a : Addr) (ts : List (Addr × Ops)) (g : Str → Option Int), vs = [.ref a] ∧ H a = some (.lst (ts.map fun t => V.ref t.1)) ∧ (∀ t ∈ ts, H t.1 = some (.dK (opsK t.2)) ∧ ∀ p ∈ t.2, g p.1 = some p.2) ∧
  (ts.map fun t => t.2.length).sum < 64 ∧ ∀ (q : Addr) (H' : Hp), Same H H' → Q (.ref q) H'
/-- what was gathered so far -/
structure JoinI (ka ua : Addr) (g : Str → Option Int) (n : Nat) (acc : Ops) (Hx : Hp) : Prop where
  ek : Hx ka = some (.dK (opsK acc))
  eu : Hx ua = some (.lst [])
  nd : (acc.map (·.1)).Nodup
  ok : ∀ p ∈ acc, g p.1 = some p.2
  few : acc.length ≤ n
def spTold : Sp := fun vs H Q _ => ∃ (v : V) (n : Int), vs = [v, .int n] ∧ n < 0 ∧ Q .non H
/-- two bodies whose operations go together -/
structure TwoB (CB CM : Addr) (H : Hp) (bd1 bd2 : Addr) (o1 o2 : Ops) (rs1 rs2 : List RowD) (b1 b2 : Nat) : Prop where
  B1 : BodyAt CB CM H bd1 o1 rs1 b1
  B2 : BodyAt CB CM H bd2 o2 rs2 b2
  f1 : o1.length ≤ 8
  f2 : o2.length ≤ 8
  go : ∃ g : Str → Option Int, (∀ p ∈ o1, g p.1 = some p.2) ∧ ∀ p ∈ o2, g p.1 = some p.2
theorem TwoB.same {CB CM : Addr} {H H' : Hp} {bd1 bd2 : Addr} {o1 o2 : Ops} {rs1 rs2 : List RowD} {b1 b2 : Nat} (h : TwoB CB CM H bd1 bd2 o1 o2 rs1 rs2 b1 b2) (s : Same H H') : TwoB CB CM H' bd1 bd2 o1 o2 rs1 rs2 b1 b2 := ⟨h.B1.same s, h.B2.same s, h.f1, h.f2, h.go⟩
def spWalkOf (CB CM CW : Addr) : Sp := fun vs H Q _ => ∃ (bd1 bd2 : Addr) (o1 o2 : Ops) (rs1 rs2 : List RowD) (b1 b2 : Nat), vs = [.ref bd1, .ref bd2] ∧ TwoB CB CM H bd1 bd2 o1 o2 rs1 rs2 b1 b2 ∧
  ∀ (wk m1 m2 ma oa : Addr) (H' : Hp), MachV CM H m1 o1 rs1 b1 → MachV CM H m2 o2 rs2 b2 → WalkP CW H H' wk m1 m2 ma oa [(stp rs1 b1, stp rs2 b2)] → Q (.ref wk) H'
/-- .. that show the same -/
structure Alike (rs1 rs2 : List RowD) (b1 b2 : Nat) (R : Prw → Prop) : Prop where
  fit1 : Fit rs1
  fit2 : Fit rs2
  big1 : rs1.length ≤ 1000
  big2 : rs2.length ≤ 1000
  tx1 : TxOk rs1
  tx2 : TxOk rs2
  few : ∀ d ∈ rs1, (nextsD d).length ≤ 1000
  bis : Bis rs1 rs2 R
  beg : R (stp rs1 b1, stp rs2 b2)
def spParted (CB CM : Addr) : Sp := fun vs H Q _ => ∃ (bd1 bd2 : Addr) (o1 o2 : Ops) (rs1 rs2 : List RowD) (b1 b2 : Nat) (R : Prw → Prop), vs = [.ref bd1, .ref bd2] ∧ TwoB CB CM H bd1 bd2 o1 o2 rs1 rs2 b1 b2 ∧ Alike rs1 rs2 b1 b2 R ∧
  ∀ H' : Hp, Same H H' → Q .non H'
def leP (p q : Prw) : Prop := p.1 < q.1 ∨ (p.1 = q.1 ∧ p.2 ≤ q.2)
def spPairs (CB CM : Addr) : Sp := fun vs H Q _ => ∃ (bd1 bd2 : Addr) (o1 o2 : Ops) (rs1 rs2 : List RowD) (b1 b2 : Nat) (R : Prw → Prop), vs = [.ref bd1, .ref bd2] ∧ TwoB CB CM H bd1 bd2 o1 o2 rs1 rs2 b1 b2 ∧ Alike rs1 rs2 b1 b2 R ∧
  ∀ (p : Addr) (us : List V) (ps : List Prw) (H' : Hp), H p = none → Same H H' → H' p = some (.lst us) → Prs H' us ps → ps.Perm (pairsOf rs1 rs2 (stp rs1 b1, stp rs2 b2)) → ps.Pairwise leP → Q (.ref p) H'
/-- the pair that stands at a tuple -/
def pairK (H : Hp) (v : V) : Int × Int := match v with
  | .ref t => (match H t with | some (.tup [.int a, .int b]) => (a, b) | _ => (0, 0))
  | _ => (0, 0)
theorem pairK_of {H : Hp} {q : Addr} {p : Prw} (h : PairT H q p) : pairK H (.ref q) = ((p.1 : Int), (p.2 : Int)) := by
  unfold PairT at h
  unfold pairK
  simp only [h]
def pairN (H : Hp) (v : V) : Prw := ((pairK H v).1.toNat, (pairK H v).2.toNat)
theorem Prs.mem {H : Hp} {vs : List V} {ps : List Prw} (h : Prs H vs ps) {v : V} (hv : v ∈ vs) : ∃ q p, v = .ref q ∧ PairT H q p := by
  obtain ⟨k, hk, e⟩ := List.mem_iff_getElem.mp hv
  have hk2 : k < ps.length := by rw [← h.1]; exact hk
  obtain ⟨q, h1, h2⟩ := h.2 k ps[k] (List.getElem?_eq_getElem hk2)
  rw [List.getElem?_eq_getElem hk, e] at h1
  exact ⟨q, _, Option.some.inj h1, h2⟩
theorem Prs.map {H : Hp} {vs : List V} {ps : List Prw} (h : Prs H vs ps) : ps = vs.map (pairN H) := by
  refine List.ext_getElem? fun k => ?_
  rw [List.getElem?_map]
  by_cases hk : k < ps.length
  · have e : ps[k]? = some ps[k] := List.getElem?_eq_getElem hk
    obtain ⟨q, h1, h2⟩ := h.2 k _ e
    rw [h1, e]
    show _ = some (pairN H (.ref q))
    unfold pairN
    rw [pairK_of h2]
    show some ps[k] = some ((ps[k].1 : Int).toNat, (ps[k].2 : Int).toNat)
    rw [Int.toNat_natCast, Int.toNat_natCast]
  · rw [List.getElem?_eq_none (by omega), List.getElem?_eq_none (by rw [h.1]; omega)]
    rfl
theorem leP_of {H : Hp} {x y : V} {p q : Prw} {a b : Addr} (ex : x = .ref a) (ey : y = .ref b) (hx : PairT H a p) (hy : PairT H b q) (h : ltP (pairK H) y x = false) : leP (pairN H x) (pairN H y) := by
  subst ex ey
  have h2 := SrtO.lexB_no.mp h
  unfold pairN
  rw [pairK_of hx, pairK_of hy] at *
  show leP ((p.1 : Int).toNat, (p.2 : Int).toNat) ((q.1 : Int).toNat, (q.2 : Int).toNat)
  rw [Int.toNat_natCast, Int.toNat_natCast, Int.toNat_natCast, Int.toNat_natCast]
  unfold leP
  simp only at h2 ⊢
  omega
section
variable {P : Program} {w : World} {K : PySem.W.Frag} {mg : Str → Option Value} {base : Heap}
variable {fII fIW CB CM CW a_in_order a_joined a_begin a_part a_stray a_walk a_told a_parted f_walk : Addr}
theorem sc_told_of : FnScope ["walk", "number", "first", "second", "history", "answer"] ["walk", "number"] (defScope s_told_of) := ⟨rfl, rfl, rfl, by decide +kernel, rfl, by decide +kernel, by decide +kernel⟩
theorem ok_told_of {f : Addr} {fd : FuncData} (F : Fun K "told_of" "told_of" s_told_of f fd) : FnOk P w K mg base CX0 1 f fd ["walk", "number"] spTold := by
  refine F.ok sc_told_of (fun vs H Q E h => ?_) (fun cdv A outer s H vs Q E hr h => ?_)
  · obtain ⟨v, n, rfl, _⟩ := h
    rfl
  · obtain ⟨v, n, rfl, hn, k⟩ := h
    refine ⟨_, (pss_cons (ps_if (pt_cmpR op_lt (pv 1) pe_int (nomark _)) (pss_one (ps_ret pe_non)) pss_nil) (pss_cons ps_no (pss_cons ps_no (pss_cons ps_no (pss_one ps_no))))), ?_⟩
    refine ⟨_, rfl, _, _, rfl, rfl, _, rfl, ?_⟩
    rw [decide_eq_true hn]
    exact iteT k
theorem sc_joined : FnScope ["tables", "counts", "unlike", "table", "operation", "many"] ["tables"] (defScope s_joined) := ⟨rfl, rfl, rfl, by decide +kernel, rfl, by decide +kernel, by decide +kernel⟩
theorem ok_joined {f : Addr} {fd fd_in_order : FuncData} (F : Fun K "joined" "joined" s_joined f fd)
    (GIO : FnOk P w K mg base CX0 1 a_in_order fd_in_order ["table"] spOrder) (b_in_order : Binds K fd_in_order ["table"] []) (g_in_order : mg "in_order" = some (.ref a_in_order)) (k_in_order : PySem.W.keepIn K (.ref a_in_order) = true) : FnOk P w K mg base CX0 2 f fd ["tables"] spJoined := by
  refine F.ok sc_joined (fun vs H Q E h => ?_) (fun cdv A outer s H vs Q E hr h => ?_)
  · obtain ⟨a, ts, g, rfl, _⟩ := h
    rfl
  · obtain ⟨a, ts, g, rfl, ha, each, few, k⟩ := h
    refine ⟨_, (pss_cons (ps_set (i := 1) sc_joined.nd rfl (Or.inl rfl) pe_dnewK)
      (pss_cons (ps_set (i := 2) sc_joined.nd rfl (Or.inl rfl) (pe_lstG pa_nil))
      (pss_cons (ps_for PassesOwn.never rfl (pi_list (pv 0)) (pg_name (i := 3) sc_joined.nd rfl (Or.inl rfl))
        (pss_one (ps_lock (ps_for PassesOwn.never rfl (pi_items (pv 3)) (pg_tup rfl (pgs_cons (pg_name (i := 4) sc_joined.nd rfl (Or.inl rfl)) (pgs_cons (pg_name (i := 5) sc_joined.nd rfl (Or.inl rfl)) pgs_nil)))
          (pss_one (ps_if (pt_cmpR op_ne (pe_dsetd (pv 1) (pv 4) (pv 5) ⟨by rfl, by rfl, by rfl, by rfl⟩) (pv 5) (nomark _)) (pss_one ps_no) pss_nil))))))
      (pss_cons (ps_if (pt_truth (pv 2) (by intro _; rfl)) (pss_one ps_no) pss_nil)
      (pss_one (ps_ret (pe_call GIO (hr.mono (by decide)) (by rfl) g_in_order k_in_order b_in_order .nil pass0 (pa_cons (pv 1) pa_nil)))))))), ?_⟩
    refine fun ka nka => ?_
    have s1 := sameNew nka (.dK [])
    have ek1 : upd H ka (.dK []) ka = some (.dK (opsK [])) := upd_same
    generalize upd H ka (.dK []) = H1 at s1 ek1 ⊢
    refine ⟨Nat.zero_le _, fun ua H2 n2 s2 e2 => ?_⟩
    have nua : H ua = none := none_of s1 n2
    have neku : ka ≠ ua := fun z => by
      rw [← z, ek1] at n2
      cases n2
    have s12 : Same H H2 := s1.trans s2
    refine ⟨_, rfl, a, rfl, ⟨_, SqL.of (s12 _ _ ha)⟩, for_list (K := K) (a := a) (xs := ts.map fun t => V.ref t.1) (fun i σ H' => ∃ (acc : Ops) (v3 v4 v5 : Option V), σ = [some (.ref a), some (.ref ka), some (.ref ua), v3, v4, v5] ∧ Same H H' ∧ JoinI ka ua g (((ts.take i).map fun t => t.2.length).sum) acc H') ⟨[], _, _, _, rfl, s12, s2 _ _ ek1, e2, List.nodup_nil, (fun _ h => nomatch h), Nat.zero_le _⟩ (fun i σ H' _ z => by obtain ⟨_, _, _, _, _, z, _⟩ := z; exact SqL.of (z _ _ ha)) ?_ ?_⟩
    · rintro i x σ Hc hxi ⟨acc, v3, v4, v5, rfl, sc, J⟩
      have hi : i < ts.length := by
        have := (List.getElem?_eq_some_iff.mp hxi).1
        rw [List.length_map] at this
        exact this
      obtain ⟨t, et⟩ : ∃ t, ts[i]? = some t := ⟨_, List.getElem?_eq_getElem hi⟩
      rw [List.getElem?_map, et] at hxi
      have hx2 : V.ref t.1 = x := Option.some.inj hxi
      subst hx2
      obtain ⟨ht, gt⟩ := each t (List.mem_of_getElem? et)
      have ntk : ka ≠ t.1 := fun z => by
        rw [← z, nka] at ht
        cases ht
      have ntu : ua ≠ t.1 := fun z => by
        rw [← z, nua] at ht
        cases ht
      have lk : (opsK t.2).length = t.2.length := List.length_map ..
      have tot : (((ts.take (i + 1)).map fun t => t.2.length).sum) = (((ts.take i).map fun t => t.2.length).sum) + t.2.length := by
        rw [List.take_succ, et, List.map_append, List.sum_append]
        simp
      have le63 : (((ts.take (i + 1)).map fun t => t.2.length).sum) < 64 := by
        have h1 : (ts.map fun t => t.2.length).sum = (((ts.take (i + 1)).map fun t => t.2.length).sum) + (((ts.drop (i + 1)).map fun t => t.2.length).sum) := by
          rw [← List.sum_append, ← List.map_append, List.take_append_drop]
        omega
      refine ⟨t.1, _, sc _ _ ht, trivial, fun od => ⟨_, rfl, t.1, od, opsK t.2, rfl, upd_same, for_it walk_items (fun j σ Hx => ∃ (acc : Ops) (v4 v5 : Option V), σ = [some (.ref a), some (.ref ka), some (.ref ua), some (.ref t.1), v4, v5] ∧ Same (upd H t.1 (.frz od (.dK (opsK t.2)))) Hx ∧ JoinI ka ua g ((((ts.take i).map fun t => t.2.length).sum) + j) acc Hx) ⟨acc, _, _, rfl, fun b o e => ?_, ?_, ?_, J.nd, J.ok, J.few⟩ (fun j σ Hx _ z => by obtain ⟨_, _, _, _, z, _⟩ := z; exact z _ _ upd_same) ?_ ?_⟩⟩
      · by_cases z : b = t.1
        · subst z
          rw [upd_same] at e ⊢
          exact e
        · rw [upd_ne z] at e ⊢
          exact sc _ _ e
      · rw [upd_ne ntk]
        exact J.ek
      · rw [upd_ne ntu]
        exact J.eu
      · rintro j x σ Ha Hb hj ⟨acc, v4, v5, rfl, sa, J⟩ z2
        obtain ⟨T', x, y, rfl, nT, rfl, h1, h2⟩ := z2
        have hj2 : j < t.2.length := by rw [← lk]; exact hj
        obtain ⟨p, ep⟩ : ∃ p, t.2[j]? = some p := ⟨_, List.getElem?_eq_getElem hj2⟩
        have e1 : (opsK t.2)[j]? = some (Sum.inr p.1, V.int p.2) := by
          unfold opsK
          rw [List.getElem?_map, ep]
          rfl
        dsimp only at h1 h2
        rw [e1] at h1 h2
        have h1' : V.str p.1 = x := Option.some.inj h1
        have h2' : V.int p.2 = y := Option.some.inj h2
        subst h1' h2'
        have gp := gt p (List.mem_of_getElem? ep)
        have sT := sameNew nT (.tup [V.str p.1, V.int p.2])
        have eT : upd Ha T' (.tup [V.str p.1, V.int p.2]) T' = some (.tup [V.str p.1, V.int p.2]) := upd_same
        generalize upd Ha T' (.tup [V.str p.1, V.int p.2]) = Hb at sT eT ⊢
        have ekb := sT _ _ J.ek
        refine ⟨T', _, rfl, .inl (.inl eT), rfl, _, _, rfl, _, _, rfl, rfl, ?_⟩
        have lt : (opsK acc).length < sizeLine := by
          unfold opsK
          rw [List.length_map, sizeLine_eq]
          have := J.few
          omega
        refine ⟨_, rfl, ka, rfl, .inl ⟨_, .inl ekb⟩, _, rfl, _, rfl, opsK acc, .inr p.1, ekb, rfl, lt, fun v ev => ?_, fun en => ?_⟩
        · rw [val_ops] at ev
          cases el : opLook acc p.1 with
          | none => rw [el] at ev; cases ev
          | some m =>
            rw [el] at ev
            have ev2 : V.int m = v := Option.some.inj ev
            subst ev2
            have := J.ok _ (opLook_mem el)
            rw [gp] at this
            cases this
            refine ⟨_, rfl, rfl, _, rfl, ?_⟩
            rw [intEq]
            refine iteF ?_
            exact ⟨acc, _, _, rfl, fun b o e => sT _ _ (sa _ _ e), ekb, sT _ _ J.eu, J.nd, J.ok, by have := J.few; omega⟩
        · refine ⟨_, rfl, rfl, _, rfl, ?_⟩
          rw [intEq]
          refine iteF ?_
          have en2 := en
          rw [val_ops, Option.map_eq_none_iff] at en2
          rw [putK_new _ en]
          have ea : opsK acc ++ [(Sum.inr p.1, V.int p.2)] = opsK (acc ++ [p]) := by
            unfold opsK
            rw [List.map_append]
            rfl
          rw [ea]
          refine ⟨acc ++ [p], _, _, rfl, fun b o e => ?_, upd_same, ?_, ?_, fun q hq => (List.mem_append.mp hq).elim (J.ok q) fun z => by rw [List.mem_singleton.mp z]; exact gp, ?_⟩
          · by_cases z : b = ka
            · subst z
              rw [upd_ne ntk, nka] at e
              cases e
            · rw [upd_ne z]
              exact sT _ _ (sa _ _ e)
          · rw [upd_ne (Ne.symm neku)]
            exact sT _ _ J.eu
          · rw [List.map_append, List.nodup_append]
            refine ⟨J.nd, by simp, fun x hx y hy z => ?_⟩
            have hy2 : y = p.1 := List.mem_singleton.mp hy
            rw [z, hy2] at hx
            exact opLook_none en2 hx
          · rw [List.length_append]
            have := J.few
            show acc.length + 1 ≤ _
            omega
      · rintro σ Hx ⟨acc, v4, v5, rfl, sx, J⟩
        refine ⟨sx _ _ upd_same, acc, _, _, _, rfl, same_unlock ht sx, ?_, ?_, J.nd, J.ok, ?_⟩
        · rw [upd_ne ntk]
          exact J.ek
        · rw [upd_ne ntu]
          exact J.eu
        · have := J.few
          rw [lk] at this
          rw [tot]
          exact this
    · rintro σ Hc ⟨acc, v3, v4, v5, rfl, sc, J⟩
      refine ⟨_, rfl, false, .inl ⟨[], SqL.of J.eu, rfl⟩, ?_⟩
      refine iteF ?_
      have := J.few
      rw [List.length_map, List.take_length] at this
      exact ⟨_, rfl, ka, acc, rfl, .inl J.ek, J.nd, by omega, fun o' ord q H5 n5 s5 e5 => k q H5 (sc.trans s5)⟩
theorem sc_walk_of : FnScope ["one", "other"] ["one", "other"] (defScope s_walk_of) := ⟨rfl, rfl, rfl, by decide +kernel, rfl, by decide +kernel, by decide +kernel⟩
theorem ok_walk_of {f : Addr} {fd fd_joined fd_begin fd_walk : FuncData} (F : Fun K "walk_of" "walk_of" s_walk_of f fd) (TB : BodyC K CB) (TM : MachC K CM)
    (GJ : FnOk P w K mg base CX0 2 a_joined fd_joined ["tables"] spJoined) (b_joined : Binds K fd_joined ["tables"] []) (g_joined : mg "joined" = some (.ref a_joined)) (k_joined : PySem.W.keepIn K (.ref a_joined) = true)
    (GBe : FnOk P w K mg base CX0 1 a_begin fd_begin ["one", "other"] (spBegin CM)) (b_begin_of : Binds K fd_begin ["one", "other"] []) (g_begin_of : mg "begin_of" = some (.ref a_begin)) (k_begin_of : PySem.W.keepIn K (.ref a_begin) = true)
    (MW : Mk K CW f_walk) (GW : FnOk P w K mg base CX0 1 f_walk fd_walk ["self", "one", "other", "begin"] (spWInit CW)) (b_Walk : Binds K fd_walk ["self", "one", "other", "begin"] []) (g_Walk : mg "Walk" = some (.ref CW)) : FnOk P w K mg base CX0 3 f fd ["one", "other"] (spWalkOf CB CM CW) := by
  refine F.ok sc_walk_of (fun vs H Q E h => ?_) (fun cdv A outer s H vs Q E hr h => ?_)
  · obtain ⟨bd1, bd2, o1, o2, rs1, rs2, b1, b2, rfl, _⟩ := h
    rfl
  · obtain ⟨bd1, bd2, o1, o2, rs1, rs2, b1, b2, rfl, ⟨B1, B2, f1, f2, g, ga, gb⟩, k⟩ := h
    refine ⟨_, (pss_cons (ps_expr (pe_call GJ (hr.mono (by decide)) (by rfl) g_joined k_joined b_joined .nil pass0 (pa_cons (pe_lstG (pa_cons (pe_fld (pe_fld (pv 0) rfl) rfl) (pa_cons (pe_fld (pe_fld (pv 1) rfl) rfl) pa_nil))) pa_nil)))
      (pss_one (ps_ret (pe_make MW GW (hr.mono (by decide)) (by rfl) g_Walk b_Walk .nil pass0 (pa_cons (pe_fld (pv 0) rfl) (pa_cons (pe_fld (pv 1) rfl) (pa_cons (pe_call GBe (hr.mono (by decide)) (by rfl) g_begin_of k_begin_of b_begin_of .nil pass0 (pa_cons (pe_fld (pv 0) rfl) (pa_cons (pe_fld (pv 1) rfl) pa_nil))) pa_nil))))))), ?_⟩
    obtain ⟨m1, dx1, fb1, hb1, lb1, M1⟩ := B1.mach
    obtain ⟨m2, dx2, fb2, hb2, lb2, M2⟩ := B2.mach
    have M1' := M1
    have M2' := M2
    obtain ⟨dm1, fm1, t1, l1, sa1, aa1, ea1, o1', xs1, as1, es1, p1⟩ := M1'
    obtain ⟨dm2, fm2, t2, l2, sa2, aa2, ea2, o2', xs2, as2, es2, p2⟩ := M2'
    refine ⟨_, rfl, bd1, CB, dx1, fb1, _, rfl, hb1, TB.cl, TB.n_machine, lb1, m1, CM, dm1, fm1, _, rfl, p1.hm, TM.cl, TM.n_counts, p1.fs.counts, ?_⟩
    refine ⟨_, rfl, bd2, CB, dx2, fb2, _, rfl, hb2, TB.cl, TB.n_machine, lb2, m2, CM, dm2, fm2, _, rfl, p2.hm, TM.cl, TM.n_counts, p2.fs.counts, ?_⟩
    refine ⟨two_ok _ _, fun a H1 n1 s1 e1 => ?_⟩
    refine ⟨a, [(t1, o1'), (t2, o2')], g, rfl, e1, fun t ht => ?_, ?_, fun q H2 s2 => ?_⟩
    · rcases List.mem_cons.mp ht with z | z
      · subst z
        exact ⟨s1 _ _ p1.ht, fun p hp => ga p (p1.ord.1.mem_iff.mp hp)⟩
      · rw [List.mem_singleton.mp z]
        exact ⟨s1 _ _ p2.ht, fun p hp => gb p (p2.ord.1.mem_iff.mp hp)⟩
    · have h1 := p1.ord.1.length_eq
      have h2 := p2.ord.1.length_eq
      show o1'.length + (o2'.length + 0) < 64
      omega
    · have s02 : Same H H2 := s1.trans s2
      refine ⟨_, rfl, bd1, CB, dx1, fb1, _, rfl, s02 _ _ hb1, TB.cl, TB.n_machine, lb1, _, rfl, bd2, CB, dx2, fb2, _, rfl, s02 _ _ hb2, TB.cl, TB.n_machine, lb2, ?_⟩
      refine ⟨_, rfl, bd1, CB, dx1, fb1, _, rfl, s02 _ _ hb1, TB.cl, TB.n_machine, lb1, _, rfl, bd2, CB, dx2, fb2, _, rfl, s02 _ _ hb2, TB.cl, TB.n_machine, lb2, ?_⟩
      refine ⟨m1, m2, o1, o2, rs1, rs2, b1, b2, rfl, M1.same s02, M2.same s02, fun t H3 n3 s3 e3 => ?_⟩
      refine fun wk dx nwk ndx nex => ?_
      have sm : Same H3 (upd (upd H3 dx (.own wk)) wk (.ins CW dx [])) := same_updN (same_updN (Same.refl _) ndx) nwk
      have ew : upd (upd H3 dx (.own wk)) wk (.ins CW dx []) wk = some (.ins CW dx []) := upd_same
      generalize upd (upd H3 dx (.own wk)) wk (.ins CW dx []) = H4 at sm ew ⊢
      have e4 : PairT H4 t (stp rs1 b1, stp rs2 b2) := sm _ _ e3
      refine ⟨wk, m1, m2, t, dx, (stp rs1 b1, stp rs2 b2), rfl, ew, e4, fun fs ma oa tt H5 nma noa neo x5 e5 wf em eo => ⟨rfl, ?_⟩⟩
      have s04 : Same H H4 := s02.trans (s3.trans sm)
      have nwH : H wk = none := none_of (s02.trans s3) nwk
      have s05 : Same H H5 := fun b o e => x5 b o (fun z => by rw [z, nwH] at e; cases e) (s04 b o e)
      have ntw : t ≠ wk := fun z => by
        unfold PairT at e4
        rw [z, ew] at e4
        cases e4
      have e5t : PairT H5 t (stp rs1 b1, stp rs2 b2) := x5 _ _ ntw e4
      exact k wk m1 m2 ma oa H5 M1 M2 ⟨⟨dx, fs, e5, wf⟩, ⟨_, em, (Prs.nil H5).snoc e5t⟩, ⟨_, eo, rfl⟩, neo, s05, none_of s04 nma, none_of s04 noa⟩
theorem sc_parted : FnScope ["one", "other", "walk"] ["one", "other"] (defScope s_parted) := ⟨rfl, rfl, rfl, by decide +kernel, rfl, by decide +kernel, by decide +kernel⟩
theorem ok_parted {f : Addr} {fd fd_walk fd_part fd_told : FuncData} (F : Fun K "parted" "parted" s_parted f fd)
    (GWo : FnOk P w K mg base CX0 3 a_walk fd_walk ["one", "other"] (spWalkOf CB CM CW)) (b_walk_of : Binds K fd_walk ["one", "other"] []) (g_walk_of : mg "walk_of" = some (.ref a_walk)) (k_walk_of : PySem.W.keepIn K (.ref a_walk) = true)
    (GP : FnOk P w K mg base CX0 3 a_part fd_part ["walk"] (spPart CW CM)) (b_parting_place : Binds K fd_part ["walk"] []) (g_parting_place : mg "parting_place" = some (.ref a_part)) (k_parting_place : PySem.W.keepIn K (.ref a_part) = true)
    (GTo : FnOk P w K mg base CX0 1 a_told fd_told ["walk", "number"] spTold) (b_told_of : Binds K fd_told ["walk", "number"] []) (g_told_of : mg "told_of" = some (.ref a_told)) (k_told_of : PySem.W.keepIn K (.ref a_told) = true) : FnOk P w K mg base CX0 4 f fd ["one", "other"] (spParted CB CM) := by
  refine F.ok sc_parted (fun vs H Q E h => ?_) (fun cdv A outer s H vs Q E hr h => ?_)
  · obtain ⟨bd1, bd2, o1, o2, rs1, rs2, b1, b2, R, rfl, _⟩ := h
    rfl
  · obtain ⟨bd1, bd2, o1, o2, rs1, rs2, b1, b2, R, rfl, two, al, k⟩ := h
    refine ⟨_, (pss_cons (ps_set (i := 2) sc_parted.nd rfl (Or.inl rfl) (pe_call GWo (hr.mono (by decide)) (by rfl) g_walk_of k_walk_of b_walk_of .nil pass0 (pa_cons (pv 0) (pa_cons (pv 1) pa_nil))))
      (pss_one (ps_ret (pe_call GTo (hr.mono (by decide)) (by rfl) g_told_of k_told_of b_told_of .nil pass0 (pa_cons (pv 2) (pa_cons (pe_call GP (hr.mono (by decide)) (by rfl) g_parting_place k_parting_place b_parting_place .nil pass0 (pa_cons (pv 2) pa_nil)) pa_nil)))))), ?_⟩
    refine ⟨_, rfl, _, rfl, bd1, bd2, o1, o2, rs1, rs2, b1, b2, rfl, two, fun wk m1 m2 ma oa H1 M1 M2 W => ?_⟩
    have l1 := al.big1
    have l2 := al.big2
    refine ⟨_, rfl, _, rfl, H, wk, m1, m2, ma, oa, o1, o2, rs1, rs2, b1, b2, _, R, rfl, W, M1, M2, al.fit1, al.fit2, by omega, by omega, al.tx1, al.tx2, al.few, al.bis, al.beg, fun met H2 W2 => ?_⟩
    exact ⟨_, -1, rfl, by decide, k H2 W2.same⟩
theorem sc_pairs : FnScope ["one", "other", "told", "walk"] ["one", "other"] (defScope s_pairs) := ⟨rfl, rfl, rfl, by decide +kernel, rfl, by decide +kernel, by decide +kernel⟩
theorem ok_pairs {f : Addr} {fd fd_walk fd_stray fd_parted : FuncData} (F : Fun K "pairs" "pairs" s_pairs f fd) (TW : WalkC K CW) (h_sorted : mg "sorted" = none)
    (GWo : FnOk P w K mg base CX0 3 a_walk fd_walk ["one", "other"] (spWalkOf CB CM CW)) (b_walk_of : Binds K fd_walk ["one", "other"] []) (g_walk_of : mg "walk_of" = some (.ref a_walk)) (k_walk_of : PySem.W.keepIn K (.ref a_walk) = true)
    (GSt : FnOk P w K mg base CX0 3 a_stray fd_stray ["walk"] (spStray CW CM)) (b_straying_place : Binds K fd_stray ["walk"] []) (g_straying_place : mg "straying_place" = some (.ref a_stray)) (k_straying_place : PySem.W.keepIn K (.ref a_stray) = true)
    (GPa : FnOk P w K mg base CX0 4 a_parted fd_parted ["one", "other"] (spParted CB CM)) (b_parted : Binds K fd_parted ["one", "other"] []) (g_parted : mg "parted" = some (.ref a_parted)) (k_parted : PySem.W.keepIn K (.ref a_parted) = true) : FnOk P w K mg base CX0 5 f fd ["one", "other"] (spPairs CB CM) := by
  refine F.ok sc_pairs (fun vs H Q E h => ?_) (fun cdv A outer s H vs Q E hr h => ?_)
  · obtain ⟨bd1, bd2, o1, o2, rs1, rs2, b1, b2, R, rfl, _⟩ := h
    rfl
  · obtain ⟨bd1, bd2, o1, o2, rs1, rs2, b1, b2, R, rfl, two, al, k⟩ := h
    refine ⟨_, (pss_cons (ps_set (i := 2) sc_pairs.nd rfl (Or.inl rfl) (pe_call GPa (hr.mono (by decide)) (by rfl) g_parted k_parted b_parted .nil pass0 (pa_cons (pv 0) (pa_cons (pv 1) pa_nil))))
      (pss_cons (ps_if (pt_cmpR op_notN (pv 2) pe_non (nomark _)) (pss_one ps_no) pss_nil)
      (pss_cons (ps_set (i := 3) sc_pairs.nd rfl (Or.inl rfl) (pe_call GWo (hr.mono (by decide)) (by rfl) g_walk_of k_walk_of b_walk_of .nil pass0 (pa_cons (pv 0) (pa_cons (pv 1) pa_nil))))
      (pss_cons (ps_expr (pe_call GSt (hr.mono (by decide)) (by rfl) g_straying_place k_straying_place b_straying_place .nil pass0 (pa_cons (pv 3) pa_nil)))
      (pss_one (ps_ret (pe_callB cr_sortedPO (by rfl) h_sorted (by decide +kernel) (pa_cons (pe_fld (pv 3) rfl) pa_nil)))))))), ?_⟩
    refine ⟨_, rfl, _, rfl, bd1, bd2, o1, o2, rs1, rs2, b1, b2, R, rfl, two, al, fun H1 s1 => ?_⟩
    refine ⟨_, rfl, rfl, _, rfl, ?_⟩
    refine iteF ?_
    refine ⟨_, rfl, _, rfl, bd1, bd2, o1, o2, rs1, rs2, b1, b2, rfl, two.same s1, fun wk m1 m2 ma oa H2 M1 M2 W => ?_⟩
    have big : rs1.length * rs2.length ≤ 1000000 := Nat.le_trans (Nat.mul_le_mul al.big1 al.big2) (by decide)
    refine ⟨_, rfl, H1, wk, m1, m2, ma, oa, o1, o2, rs1, rs2, b1, b2, _, R, rfl, W, M1, M2, al.fit1, al.fit2, big, al.tx1, al.tx2, al.few, al.bis, al.beg, fun H3 W3 => ?_⟩
    obtain ⟨⟨dx, fs, hw, wf⟩, ⟨vs, em, pm⟩, _⟩ := id W3
    refine ⟨_, rfl, wk, CW, dx, fs, _, rfl, hw, TW.cl, TW.n_met, wf.met, ma, vs, pairK H3, rfl, SqL.of em, fun x hx => ?_, fun ys p srt stb np => ?_⟩
    · obtain ⟨q, p, rfl, h2⟩ := pm.mem hx
      refine ⟨q, rfl, ?_⟩
      rw [pairK_of h2]
      exact h2
    · have s3 : Same H H3 := s1.trans W3.same
      have ymem : ∀ y ∈ ys, ∃ q p, y = .ref q ∧ PairT H3 q p := fun y hy => pm.mem (stb.perm.mem_iff.mp hy)
      have perm : (ys.map (pairN H3)).Perm (pairsOf rs1 rs2 (stp rs1 b1, stp rs2 b2)) := by
        rw [pm.map]
        exact stb.perm.map _
      have sN := sameNew np (.lst ys)
      refine k p ys (ys.map (pairN H3)) _ (none_of s3 np) (s3.trans sN) upd_same ⟨by rw [List.length_map], fun j r er => ?_⟩ perm ?_
      · rw [List.getElem?_map] at er
        cases ey : ys[j]? with
        | none => rw [ey] at er; cases er
        | some y =>
          rw [ey] at er
          obtain ⟨q, p', rfl, h2⟩ := ymem y (List.mem_of_getElem? ey)
          have e2 : pairN H3 (.ref q) = r := Option.some.inj er
          have e3 : r = p' := by
            rw [← e2]
            unfold pairN
            rw [pairK_of h2]
            show ((p'.1 : Int).toNat, (p'.2 : Int).toNat) = p'
            rw [Int.toNat_natCast, Int.toNat_natCast]
          rw [e3]
          exact ⟨q, rfl, sN _ _ h2⟩
      · refine List.pairwise_map.mpr (List.Pairwise.imp_of_mem (fun {x y} hx hy h => ?_) srt)
        obtain ⟨q1, p1, ex, h1⟩ := ymem x hx
        obtain ⟨q2, p2, ey, h2⟩ := ymem y hy
        exact leP_of ex ey h1 h2 h
end
end Mine

set_option maxRecDepth 100000
set_option maxHeartbeats 4000000
namespace L2
open PySem PySem.Spec PyProof.Rows
section
variable {X : Cx} {es : List Expr} {kws : List Keyword} {t : TA}
theorem PA.mono (h : PA X es t) : PA X es (fun σ H R => ∃ R', t σ H R' ∧ ∀ vs H1, R' vs H1 → R vs H1) := ⟨fun pos pins s σ H R I ⟨R', h1, h2⟩ => thn (h.run pos pins s σ H R' I h1) fun us s1 ⟨vs, H1, I1, r, q⟩ => ⟨vs, H1, I1, r, h2 _ _ q⟩⟩
theorem PK.mono (h : PK X kws t) : PK X kws (fun σ H R => ∃ R', t σ H R' ∧ ∀ vs H1, R' vs H1 → R vs H1) := ⟨fun pos pins s σ H R I ⟨R', h1, h2⟩ => thn (h.run pos pins s σ H R' I h1) fun us s1 ⟨vs, H1, I1, r, q⟩ => ⟨vs, H1, I1, r, h2 _ _ q⟩⟩
end
end L2
namespace Mine
open PySem L2
/-- the parts of a right body of fewer than 64 rows -/
structure OkB (o : Ops) (rs : List RowD) (b : Nat) : Prop where
  ops : OkOps o
  lo : 1 ≤ rs.length
  hi : rs.length < 64
  rows : OkRows o rs
  lt : b < rs.length
theorem OkB.few {o : Ops} {rs : List RowD} {b : Nat} (h : OkB o rs b) (x : Str) : (distinct x (restD rs b)).length < 64 := by
  have h1 := distinct_len x (restD rs b)
  have h2 : (restD rs b).length ≤ rs.length := by
    unfold restD
    rw [List.length_map]
    exact (metAt_few h.rows.fit h.lt rs.length).len
  have := h.hi
  omega
/-- Body(d, r, start=b), as it is told here -/
def tBody (CB CM : Addr) (t tk : TA) : TE := fun σ H Q => t σ H fun vs H1 => tk σ H1 fun zs H2 => ∃ (d r : Addr) (xs : List V) (rs : List RowD) (o : Ops) (b : Nat), vs = [.ref d, .ref r] ∧ zs = [.int b] ∧ H2 d = some (.dK (opsK o)) ∧ SqA H2 r xs ∧ RowsIn H2 xs rs ∧ OkB o rs b ∧
  ∀ bd H3, H2 bd = none → Same H2 H3 → BodyN CB CM H2 H3 bd o rs b → Q (.ref bd) H3
abbrev KS : List Str := ["start"]
abbrev PB : List Str := ["self", "operations", "rows", "start"]
theorem bindB {K : PySem.W.Frag} {fd : FuncData} (h : ∀ (a b c d : Value), bindArgs fd ⟨[a, b, c], [(("start" : Str), d)]⟩ = pure ([(("self" : Str), a), ("operations", b), ("rows", c), ("start", d)] : List (Str × Value))) : KBn K fd PB (2 + 1) KS (fun us ws => us ++ ws) (fun vs zs => vs ++ zs) where
  to := fun s us ws _ l1 l2 => match us, ws, l1, l2 with
    | [a, b, c], [d], _, _ => .of_eq (h a b c d)
  rel := fun r rz => r.append rz
section
variable {X : Cx} {CB CM f : Addr} {fd : FuncData} {x : Str} {p pos : Pos} {e : Expr} {es : List Expr} {kws : List Keyword} {t tk : TA}
theorem body_end {H2 : Hp} {Q : VK} {E : XK} {d r : Addr} {xs : List V} {rs : List RowD} {o : Ops} {b : Nat} (hd : H2 d = some (.dK (opsK o))) (hx : SqA H2 r xs) (rows : RowsIn H2 xs rs) (ok : OkB o rs b) (k : ∀ bd H3, H2 bd = none → Same H2 H3 → BodyN CB CM H2 H3 bd o rs b → Q (.ref bd) H3)
    (bd dx : Addr) (nb : H2 bd = none) (nd : H2 dx = none) (ne : dx ≠ bd) : spBody CB CM [.ref bd, .ref d, .ref r, .int b] (upd (upd H2 dx (.own bd)) bd (.ins CB dx [])) (fun v H3 => v = .non ∧ Q (.ref bd) H3) E := by
  have sm : Same H2 (upd (upd H2 dx (.own bd)) bd (.ins CB dx [])) := same_updN (same_updN (Same.refl _) nd) nb
  exact ⟨bd, d, r, dx, xs, rs, o, b, rfl, upd_same, sm _ _ hd, ok.ops, sm.sqa hx, rows.same sm, ok.lo, by have := ok.hi; omega, ok.rows, ok.lt, ok.few "ask", ok.few "end", fun H' s' B => ⟨rfl, k bd H' nb (fun b2 u e => s' b2 u (ne_of_none e nb) (sm _ _ e)) (by
    obtain ⟨m, t, l, sa, aa, ea, o', xs, as, es, h, n1, n2, n3, n4, n5, n6⟩ := B
    exact ⟨m, t, l, sa, aa, ea, o', xs, as, es, h, none_of sm n1, none_of sm n2, none_of sm n3, none_of sm n4, none_of sm n5, none_of sm n6⟩)⟩⟩
theorem pe_body (M : Mk X.K CB f) (F : FnOk X.prog X.w X.K X.mg X.base CX0 7 f fd PB (spBody CB CM)) (hr : Room 8 X.A) (hg : Gl X x) (hm : X.mg x = some (.ref CB)) (hb : KBn X.K fd PB (2 + 1) KS (fun us ws => us ++ ws) (fun vs zs => vs ++ zs)) (ha : PA X (e :: es) t) (hkw : PK X kws tk)
    (hall : (backToKw pos (keywordEach kws X.env)).all (·.1.isSome) = true := by rfl) (hks : (backToKw pos (keywordEach kws X.env)).filterMap (·.1) = KS := by rfl) (hdb : (x == ("__debug__" : Str)) = false := by decide)
    (he : starEach (e :: es) X.env = (false, eval e X.env) :: starEach es X.env := by rfl) (hpl : ((backTo pos (starEach (e :: es) X.env)).any (·.1) || (backToKw pos (keywordEach kws X.env)).any (·.1.isNone)) = false := by rfl) :
    PE X (.Call (.Name x p) (e :: es) kws pos) (tBody CB CM t tk) := by
  refine pe_imp (pe_makeK (E := E0) M F hr hg hm hb pass0 ha.mono hkw.mono hall hks hdb he hpl) fun σ H Q q => ?_
  refine ⟨_, q, fun vs H1 q1 => ⟨_, q1, fun zs H2 q2 => ?_⟩⟩
  obtain ⟨d, r, xs, rs, o, b, rfl, rfl, hd, hx, rows, ok, k⟩ := q2
  exact ⟨rfl, rfl, fun bd dx nb nd ne => body_end hd hx rows ok k bd dx nb nd ne⟩
end
theorem merge_new : ∀ (more kvs : List (Key × V)), (more.map (·.1)).Nodup → (∀ k ∈ more.map (·.1), valV kvs k = none) → mergeK kvs more = kvs ++ more
  | [], kvs, _, _ => by rw [List.append_nil]; rfl
  | p :: more, kvs, nd, h => by
    rw [List.map_cons, List.nodup_cons] at nd
    show mergeK (putK kvs p.1 p.2) more = _
    have hp := h p.1 (by rw [List.map_cons]; exact List.mem_cons_self)
    rw [merge_new more _ nd.2 fun k hk => by
      rw [valV_put, if_neg (fun z : k = p.1 => nd.1 (by rw [← z]; exact hk))]
      exact h k (by rw [List.map_cons]; exact List.mem_cons_of_mem _ hk), putK_new _ hp, List.append_assoc]
    rfl
theorem merge_ops {o : Ops} (nd : (o.map (·.1)).Nodup) : mergeK [] (opsK o) = opsK o := by
  have := merge_new (opsK o) [] (by
    rw [opsK_keys, List.Nodup, List.pairwise_map]
    exact List.Pairwise.imp (fun h z => h (Sum.inr.inj z)) nd) (fun _ _ => rfl)
  rw [this]
  rfl
def unS : V → Str
  | .str t => t
  | _ => ""
theorem perm_strs {ys : List V} {ns : List Str} (h : ys.Perm (ns.map V.str)) : ∃ zs : List Str, zs.Perm ns ∧ ys = zs.map V.str := by
  refine ⟨ys.map unS, ?_, ?_⟩
  · have := h.map unS
    rw [List.map_map] at this
    have e : ns.map (unS ∘ V.str) = ns := (List.map_congr_left fun _ _ => rfl).trans (List.map_id ns)
    rw [e] at this
    exact this
  · rw [List.map_map]
    refine (List.map_id ys).symm.trans (List.map_congr_left fun v hv => ?_)
    obtain ⟨t, _, rfl⟩ := List.mem_map.mp (h.mem_iff.mp hv)
    rfl
theorem paired_imp {α β : Type} {R S : α → β → Prop} (h : ∀ x y, R x y → S x y) : ∀ {xs : List α} {ys : List β}, Paired R xs ys → Paired S xs ys
  | _, _, .nil => .nil
  | _, _, .cons a b => .cons (h _ _ a) (paired_imp h b)
theorem paired_snoc {α β : Type} {R : α → β → Prop} {x : α} {y : β} (h : R x y) : ∀ {xs : List α} {ys : List β}, Paired R xs ys → Paired R (xs ++ [x]) (ys ++ [y])
  | _, _, .nil => .cons h .nil
  | _, _, .cons a b => .cons a (paired_snoc h b)
end Mine

set_option maxRecDepth 100000
set_option maxHeartbeats 4000000
/-! a dict comprehension whose keys are tuples -/
namespace L2
open PySem PySem.Spec PyProof.Rows
theorem dictSet_tupleKey {X : Cx} {pins : List (Addr × Obj)} {σ : St} {H : Hp} {s : Shared} {E : Value → Shared → Prop} {D b : Addr} {kvs : List (List Key × V)} {ks : List Key} {v : V} {r : Value} {Q : Unit → Shared → Prop} (hu : X.A.units + 1 < cLine) (I : Inv X pins σ H s)
    (hD : H D = some (.dT kvs)) (hz : kvs.length < sizeLine) (eb : H b = some (.tup (ks.map kV))) (rv : RelV v r) (h : ∀ s', Inv X pins σ (upd H D (.dT (putK kvs ks v))) s' → Q () s') : wpAny (model X.prog X.w) X.A (dictSet D (.ref b) r) Q E s := by
  obtain ⟨z, hd, xs, rel, dd⟩ := dt_of I.hok hD
  have room : xs.length ≤ sizeLine := by
    have := Paired.length rel
    omega
  have lk := length_putK kvs ks v
  refine wpAny_dictSet_heap (hsz := room) (show (tupleKind (mixKind X.prog X.w)).room X.A from by show X.A.units < cLine; omega) (key_of I.hok eb) dd fun h' dd' hs => h _ ?_
  obtain ⟨qo, es, ep, hq, h2, h3, h4, _, h5⟩ := dd'
  refine d_write I (by rw [hD]; exact True.intro) hs ⟨qo, hq⟩ ⟨by omega, hd, _, (KT.put rel ks eb rv).keeps fun c ys ec => ?_, qo, es, ep, hq, h2, h3, h4, h5⟩
  rw [upd_ne (ne_of ec hD (fun z => nomatch z))]
  exact ec
section
variable {X : Cx}
/-- {k: v for target in iter}, the keys tuples: D the new dict -/
def tDcT (wi : TI) (g : TG) (tk tv : TE) (vs : List Nat) : TE := fun σ H Q => wi σ H fun J H1 => ∀ D, H1 D = none → ∃ W : Nat → Nat → Hp → Prop, (∃ m, W 0 m (upd H1 D (.dT []))) ∧ ∀ i m H, W i m H →
  (J.stop i H ∧ Q (.ref D) H) ∨ (J.go i H ∧ ∃ Nx : Hp → Prop, (∀ H', Nx H' → ∃ m', m' < m ∧ W (i + 1) m' H') ∧ ∀ x H', J.yld i H x H' → g x (wipe σ vs) H' fun σ2 H2 => wipe σ2 vs = wipe σ vs ∧
    tk σ2 H2 fun y H4 => tv σ2 H4 fun z H5 => ∃ (kvs : List (List Key × V)) (b : Addr) (ks : List Key), y = .ref b ∧ H5 b = some (.tup (ks.map kV)) ∧ H5 D = some (.dT kvs) ∧ kvs.length < sizeLine ∧ Nx (upd H5 D (.dT (putK kvs ks z))))
theorem dcT_core {kx vx tg iter : Expr} {scope : Scope} {own : List (Str × Nat)} {pos pos' : Pos} {wi : TI} {g : TG} {tk tv : TE} {use : Option (Value → Sem Unit)} {Qf : Value → Shared → Prop} {pins : List (Addr × Obj)} {s : Shared} {σ : St} {H : Hp} {Q : VK}
    (hu : X.A.units + 1 < cLine) (hc : X.calm = true) (hN : X.N.Nodup) (I : Inv X pins σ H s) (hi : PI X tg iter wi) (ok : BlkOk X.N X.env.scope scope own)
    (hg : ∀ (s : Shared) (H : Hp) (C : Addr) (cl : List (Str × Addr)) (fp : List Addr), PG (X.blk s H scope (compEnvC scope cl C X.env) fp) tg g)
    (hk : ∀ (s : Shared) (H : Hp) (C : Addr) (cl : List (Str × Addr)) (fp : List Addr), PE (X.blk s H scope (compEnvC scope cl C X.env) fp) kx tk)
    (he : ∀ (s : Shared) (H : Hp) (C : Addr) (cl : List (Str × Addr)) (fp : List Addr), PE (X.blk s H scope (compEnvC scope cl C X.env) fp) vx tv) (hs : ∀ x, foldedSetIterable iter X.env x = pure x)
    (h : tDcT wi g tk tv (own.map (·.2)) σ H Q)
    (hRR : ∀ D C s' m H', Inv X pins σ H' s' → Q (.ref D) H' → s'.heap.Ns C m → FpOk X pins H' C → compPost (model X.prog X.w) X.A X.xe use Qf (.ref D) C (.ok .next) s') :
    wpAny (model X.prog X.w) X.A (comprehension (.DictComp kx vx [⟨tg, iter, [], 0⟩] scope pos) scope X.env pos' newDict false (eval iter X.env) use) Qf X.xe s := by
  have closed : ∀ y ∈ scope.names, y.2 = .free → ∃ c, X.env.cells.lookup y.1 = some c := fun y hy e => (ok.free y hy e).elim (fun k => I.ok.has _ (.inl k)) (fun k => I.ok.has _ (.inr k))
  refine wpAny_comprehension_free (use := use) rfl hs (closure_ok closed) ok.kind (fun y hy e => by rw [ok.uniq y hy, e]) (thn (hi.run pins s σ H _ I h) fun xv s1 hx => thn hx fun itv s2 ⟨it, fp, tn, J, H2, e, I2, T, st2, f2, q⟩ => ?_)
  subst e
  refine wpAny_newObj_type (newEnv_comp ?_)
  obtain ⟨D, hD⟩ : ∃ D, s2.heap.objs.size = D := ⟨_, rfl⟩
  rw [hD]
  have newD : H2 D = none := I2.hok.fresh (Nat.le_of_eq hD)
  obtain ⟨W, ⟨m0, w0⟩, turn⟩ := q D newD
  obtain ⟨s3, hs3⟩ : ∃ s3 : Shared, ({ s2 with heap := s2.heap.push { cls := .type "dict", data := .dict #[] } } : Shared) = s3 := ⟨_, rfl⟩
  have I3 : Inv X pins σ (upd H2 D (.dT [])) s3 := by
    rw [← hs3]
    refine I2.laid (t' := s2.toks) (fun b o e => Heap.get?_push_of_some _ e) (Nat.le_of_eq hD) ?_
    rw [← hD]
    exact dt_empty s2.heap I2.big
  have h3 : s3.heap = s2.heap.push { cls := .type "dict", data := .dict #[] } := by rw [← hs3]
  have f3 : ∀ b ∈ fp, FpOk X pins (upd H2 D (.dT [])) b ∧ b < s3.heap.objs.size := fun b hb => by
    obtain ⟨o, e, _⟩ := T.obj _ _ st2 b hb
    have lt := Heap.lt_size e
    refine ⟨⟨?_, (f2 b hb).2⟩, by rw [h3, Heap.size_push]; exact Nat.lt_succ_of_lt lt⟩
    rw [upd_ne (by rw [← hD]; exact Nat.ne_of_lt lt)]
    exact (f2 b hb).1
  have st3 : tn 0 s3.heap := T.keep _ _ _ st2 fun b _ o e => by rw [h3]; exact Heap.get?_push_of_some _ e
  have I4 := block_start I3 ok hN f3
  rw [hs3]
  have pg := hg s3 (upd H2 D (.dT [])) s3.heap.objs.size (cellsFrom (s3.heap.objs.size + 1) scope.names (cloFrom X.env.cells scope.names [])) fp
  have pk := hk s3 (upd H2 D (.dT [])) s3.heap.objs.size (cellsFrom (s3.heap.objs.size + 1) scope.names (cloFrom X.env.cells scope.names [])) fp
  have pv := he s3 (upd H2 D (.dT [])) s3.heap.objs.size (cellsFrom (s3.heap.objs.size + 1) scope.names (cloFrom X.env.cells scope.names [])) fp
  show codeAny _ _ (.compStart _ 0 (.ref it) (.ref D) (compEnvC scope (cellsFrom (s3.heap.objs.size + 1) scope.names (cloFrom X.env.cells scope.names [])) s3.heap.objs.size X.env)) _ { s3 with heap := pushCells (s3.heap.push { cls := .type "dict", data := .dict #[] }) scope.names }
  have off : ∀ b ∈ fp, (upd H2 D (.dT [])) b = none := fun b hb => (f3 b hb).1.1
  have cL : (compEnvC scope (cellsFrom (s3.heap.objs.size + 1) scope.names (cloFrom X.env.cells scope.names [])) s3.heap.objs.size X.env).locals = s3.heap.objs.size := rfl
  generalize compEnvC scope (cellsFrom (s3.heap.objs.size + 1) scope.names (cloFrom X.env.cells scope.names [])) s3.heap.objs.size X.env = ce at I4 pg pk pv cL ⊢
  generalize upd H2 D (.dT []) = H3 at I3 I4 pg pk pv w0 off f3
  generalize hs4 : ({ s3 with heap := pushCells (s3.heap.push { cls := .type "dict", data := .dict #[] }) scope.names } : Shared) = s4 at I4 ⊢
  have st4 : tn 0 s4.heap := T.keep _ _ _ st3 fun b _ o e => by rw [← hs4]; exact pushCells_keeps _ _ _ _ (Heap.get?_push_of_some _ e)
  have ours : ∀ {σ' : St} {H' : Hp} {s' : Shared}, Inv (X.blk s3 H3 scope ce fp) [] σ' H' s' → (∀ b ∈ fp, H' b = none) → ∀ b ∈ fp, FpOk (X.blk s3 H3 scope ce fp) [] H' b := fun I' hn b hb =>
    ⟨hn b hb, (I'.ok.exf b hb).1, I'.ok.exfs b hb, .inl hb, fun x c e => (I'.ok.exf b hb).2 x c e, fun p hp => absurd (show p ∈ ([] : List (Addr × Obj)) ++ [] from hp) (by simp)⟩
  have pt : PTs (X.blk s3 H3 scope ce fp) [] tYes := pts_nil
  suffices loop : codeAny (model X.prog X.w) X.A (.compLoop (.DictComp kx vx [⟨tg, iter, [], 0⟩] scope pos) 0 (.ref it) (.ref D) ce) (compPost (model X.prog X.w) X.A X.xe use Qf (.ref D) s3.heap.objs.size) s4 from codeAny_compStart_dict loop (T.self X.A 0 _ _ _ st4 loop)
  refine compLoop_anyD (fun n s' => ∃ i H', Inv (X.blk s3 H3 scope ce fp) [] (wipe σ (own.map (·.2))) H' s' ∧ tn i s'.heap ∧ (∀ b ∈ fp, H' b = none) ∧ W i n H') ?_ m0 ⟨0, H3, I4, st4, off, w0⟩
  rintro n s5 ⟨i, H5, I5, st5, n5, w5⟩
  rcases turn i n H5 w5 with ⟨stop, qq⟩ | ⟨go, Nx, hNx, step⟩
  · refine thnF (T.done (X.blk s3 H3 scope ce fp) rfl rfl rfl hc i [] s5 _ H5 (fun _ _ => False) I5 (ours I5 n5) st5 stop) fun r s6 ⟨hr, I6⟩ => ?_
    subst hr
    have I7 : Inv X pins σ H5 s6 := I3.call' (ch := fp) I6.os I6.base I6.hok I6.bare fun b hb => ⟨(f3 b hb).1.2.2.2.1, (f3 b hb).1.2.1, (f3 b hb).1.2.2.2.2.1, (f3 b hb).1.2.2.2.2.2⟩
    have nC : H5 s3.heap.objs.size = none := by
      have z : H5 ce.locals = none := I6.free
      rwa [cL] at z
    obtain ⟨m, hn, _⟩ := I6.loc
    have hn : s6.heap.Ns ce.locals m := hn
    rw [cL] at hn
    exact hRR D s3.heap.objs.size s6 m H5 I7 qq hn (I3.fpOk (Nat.le_refl _) nC)
  · refine thnF (T.item (X.blk s3 H3 scope ce fp) rfl rfl rfl hc i [] s5 _ H5 (fun _ _ => False) I5 (ours I5 n5) st5 go) fun r s6 ⟨u, hr, h6⟩ => ?_
    subst hr
    refine thnF h6 fun _ s7 ⟨x, H7, I7, r7, y7, st7, n7⟩ => ?_
    have fixed := I7.pinned (ours I7 n7) (T.obj _ _ st7)
    refine thnF (pg.run _ s7 _ H7 x u _ fixed r7 (step x H7 y7)) fun _ s8 ⟨σ8, H8, I8, hw8, q8⟩ => ?_
    refine thnF (pt.run _ s8 σ8 H8 (fun b H' => b = true ∧ H' = H8) I8 ⟨rfl, rfl⟩) fun b s9 ⟨H9, I9, eb, eH⟩ => ?_
    subst eb eH
    simp only [if_true]
    refine thnF (pk.run _ s9 σ8 H9 _ I9 q8) fun z s10 ⟨yk, H10, I10, r10, q10⟩ => ?_
    refine thnF (pv.run _ s10 σ8 H10 _ I10 q10) fun z2 s11 ⟨yv, H11, I11, r11, kvs, kb, ks, ek, eks, hD11, hz11, nx⟩ => ?_
    subst ek
    cases (show z = Value.ref kb from r10)
    refine dictSet_tupleKey (X := X.blk s3 H3 scope ce fp) hu I11 hD11 hz11 eks r11 fun s12 I12 => ?_
    obtain ⟨m', hm, w'⟩ := hNx _ nx
    have pin' : ∀ b ∈ fp, ∀ o, s7.heap.get? b = some o → s12.heap.get? b = some o ∧ (upd H11 D (.dT (putK kvs ks yv))) b = none := fun b hb o e =>
      let z := I12.pin (b, o) (List.mem_append_right _ (List.mem_append_right _ (mem_pinsAt hb e)))
      ⟨z.1, z.2.1⟩
    have hl : (wipe σ (own.map (·.2))).length = σ8.length := by rw [← hw8, wipe_length]
    refine ⟨m', hm, i + 1, _, (I12.unpinned (pins := [])).weak hl (fun j v e => ?_), T.keep _ _ _ st7 fun b hb o e => (pin' b hb o e).1, fun b hb => ?_, w'⟩
    · rw [← hw8] at e
      exact (wipe_some e).1
    · obtain ⟨o, e, _⟩ := T.obj _ _ st7 b hb
      exact (pin' b hb o e).2
/-- as a value -/
theorem pe_dcT {kx vx tg iter : Expr} {scope : Scope} {own : List (Str × Nat)} {pos : Pos} {wi : TI} {g : TG} {tk tv : TE} (hu : X.A.units + 1 < cLine) (hc : X.calm = true) (hN : X.N.Nodup) (hi : PI X tg iter wi) (ok : BlkOk X.N X.env.scope scope own)
    (hg : ∀ (s : Shared) (H : Hp) (C : Addr) (cl : List (Str × Addr)) (fp : List Addr), PG (X.blk s H scope (compEnvC scope cl C X.env) fp) tg g)
    (hk : ∀ (s : Shared) (H : Hp) (C : Addr) (cl : List (Str × Addr)) (fp : List Addr), PE (X.blk s H scope (compEnvC scope cl C X.env) fp) kx tk)
    (he : ∀ (s : Shared) (H : Hp) (C : Addr) (cl : List (Str × Addr)) (fp : List Addr), PE (X.blk s H scope (compEnvC scope cl C X.env) fp) vx tv) (hs : ∀ x, foldedSetIterable iter X.env x = pure x := by intro _; rfl) :
    PE X (.DictComp kx vx [⟨tg, iter, [], 0⟩] scope pos) (tDcT wi g tk tv (own.map (·.2))) := by
  refine ⟨fun pins s σ H Q I h => ?_⟩
  rw [arm_eval_DictComp]
  refine dcT_core hu hc hN I hi ok hg hk he hs h fun D C s' m H' I' q hn ⟨g0, g1, g2, g3, g4, g5⟩ => ⟨m, hn, fun h'' sb => ?_⟩
  exact ⟨.ref D, H', I'.turned (t' := s'.toks) (fun b o hb e => (sb.2 b hb).trans e) g0 g1 g3 g4 g5, rfl, q⟩
/-- name = {..} on one line, the name a local -/
theorem ps_setDcT {i : Nat} {y : Str} {py : Pos} {kx vx tg iter : Expr} {scope : Scope} {own : List (Str × Nat)} {pos spos : Pos} {wi : TI} {g : TG} {tk tv : TE} (hu : X.A.units + 1 < cLine) (hc : X.calm = true) (hN : X.N.Nodup) (hy : X.N[i]? = some y) (hyl : X.env.scope.names.lookup y = some .local)
    (hsw : swapsWith (.DictComp kx vx [⟨tg, iter, [], 0⟩] scope pos) (some (.Name y py)) spos.line X.env = pure true) (hi : PI X tg iter wi) (ok : BlkOk X.N X.env.scope scope own)
    (hg : ∀ (s : Shared) (H : Hp) (C : Addr) (cl : List (Str × Addr)) (fp : List Addr), PG (X.blk s H scope (compEnvC scope cl C X.env) fp) tg g)
    (hk : ∀ (s : Shared) (H : Hp) (C : Addr) (cl : List (Str × Addr)) (fp : List Addr), PE (X.blk s H scope (compEnvC scope cl C X.env) fp) kx tk)
    (he : ∀ (s : Shared) (H : Hp) (C : Addr) (cl : List (Str × Addr)) (fp : List Addr), PE (X.blk s H scope (compEnvC scope cl C X.env) fp) vx tv) (hs : ∀ x, foldedSetIterable iter X.env x = pure x := by intro _; rfl) :
    PS X (.Assign [.Name y py] (.DictComp kx vx [⟨tg, iter, [], 0⟩] scope pos) spos) (tAsg (tDcT wi g tk tv (own.map (·.2))) (gName i)) := by
  refine ⟨fun pins s σ H D I h => ?_⟩
  rw [exec_Assign_Name_used _ _ _ _ hsw]
  refine wpAny_bind (wpAny_standAt (wpAny_bind ?_))
  show wpAny _ X.A (do let _ ← comprehension (.DictComp kx vx [⟨tg, iter, [], 0⟩] scope pos) scope X.env (firstIterPos [⟨tg, iter, [], 0⟩] pos) newDict false (eval iter X.env) (some (assign (.Name y py) X.env))) _ _ s
  have h : tDcT wi g tk tv (own.map (·.2)) σ H (fun x H1 => gName i x σ H1 D.nx) := h
  refine wpAny_bind (thn (dcT_core (Qf := fun _ s' => SP X pins D .next s') hu hc hN I hi ok hg hk he hs h fun L C s' m H' I' q hn ⟨g0, g1, g2, g3, g4, g5⟩ => ?_) fun _ s' hq => wpAny_pure (wpAny_pure hq))
  show wpAny _ _ (assign (.Name y py) X.env (.ref L)) _ _ _
  refine wpAny_assign_Name (store_ok2 (v := V.ref L) I' hN hy (.inl hyl) rfl (fun s2 I2 ⟨a, sb, ha⟩ => ?_) (.inr hyl))
  have ne : C ≠ a := ha.elim (fun z => by rw [z]; exact g1) (fun z e => g4 y a z e.symm)
  exact ⟨m, hn.sameBut sb ne, fun h3 sb3 => ⟨_, H', I2.turned (t' := s2.toks) (fun b o hb e => (sb3.2 b hb).trans e) g0 g1 g3 g4 g5, q⟩⟩
theorem sw_trueD {kx vx : Expr} {gs : List Comprehension} {scope : Scope} {pos py : Pos} {y : Str} {l : Nat} {env : Env} (hk : env.scope.kind = .function) (hy : env.scope.names.lookup y = some .local) (hl : (py.line == pos.line) = true)
    (ha : (scope.names.any fun (n, k) => n == y && (k == .local || k == .cell)) = false) : swapsWith (.DictComp kx vx gs scope pos) (some (.Name y py)) l env = pure true := by
  have ky : env.kindOf y = some .local := hy
  have hb : env.blockKind = .function := by unfold Env.blockKind; rw [hk]; rfl
  unfold swapsWith
  simp only [hb, ky, ha, Expr.pos, hl]
  rfl
end
end L2

set_option maxRecDepth 100000
set_option maxHeartbeats 4000000
namespace Mine
open PySem L2
abbrev s_is_rest : Stmt := top 103
abbrev s_is_pair : Stmt := top 102
/-- the index of a row at which it rests -/
def standV (rs : List RowD) (v : V) : Bool := match v with
  | .int i => decide (0 ≤ i) && decide (i < rs.length) && decide (stp rs i.toNat = i.toNat)
  | _ => false
def pairL (rs1 rs2 : List RowD) (xs : List V) : Bool := match xs with
  | [x, y] => standV rs1 x && standV rs2 y
  | _ => false
def spIsRest (K : PySem.W.Frag) (CM : Addr) : Sp := fun vs H Q _ => ∃ (v : V) (t : String) (m : Addr) (o : Ops) (rs : List RowD) (b : Nat), vs = [v, .ref m] ∧ Bt K H v t ∧ MachV CM H m o rs b ∧ Q (.bl (standV rs v)) H
/-- whether a thing is a pair of rows at which they rest -/
def IsP (K : PySem.W.Frag) (H : Hp) (rs1 rs2 : List RowD) (x : V) (c : Bool) : Prop := ∃ t, Bt K H x t ∧ (((t == "list" || t == "tuple") = false ∧ c = false) ∨ ((t == "list" || t == "tuple") = true ∧ ∃ a ys, x = .ref a ∧ SqA H a ys ∧ (∀ y ∈ ys, ∃ u, Bt K H y u) ∧ c = pairL rs1 rs2 ys))
theorem IsP.same {K : PySem.W.Frag} {H H' : Hp} {rs1 rs2 : List RowD} {x : V} {c : Bool} (s : Same H H') (h : IsP K H rs1 rs2 x c) : IsP K H' rs1 rs2 x c := by
  obtain ⟨t, b, h⟩ := h
  refine ⟨t, b.same s, h.imp id fun ⟨e, a, ys, h1, h2, h3, h4⟩ => ⟨e, a, ys, h1, s.sqa h2, fun y hy => ?_, h4⟩⟩
  obtain ⟨u, bu⟩ := h3 y hy
  exact ⟨u, bu.same s⟩
def spIsPair (K : PySem.W.Frag) (CM : Addr) : Sp := fun vs H Q _ => ∃ (v : V) (c : Bool) (m1 m2 : Addr) (o1 o2 : Ops) (rs1 rs2 : List RowD) (b1 b2 : Nat), vs = [v, .ref m1, .ref m2] ∧ IsP K H rs1 rs2 v c ∧ MachV CM H m1 o1 rs1 b1 ∧ MachV CM H m2 o2 rs2 b2 ∧ ∀ H', Same H H' → Q (.bl c) H'
section
variable {P : Program} {w : World} {K : PySem.W.Frag} {mg : Str → Option Value} {base : Heap}
variable {fII fIW CM a_is_row a_is_index a_is_name a_is_text_in a_are_counts a_word_of a_are_nexts a_is_line a_line_of a_are_operations a_is_rest : Addr}
theorem sc_is_rest : FnScope ["thing", "machine"] ["thing", "machine"] (defScope s_is_rest) := ⟨rfl, rfl, rfl, by decide +kernel, rfl, by decide +kernel, by decide +kernel⟩
theorem ok_is_rest {f : Addr} {fd fd_is_index : FuncData} (F : Fun K "is_rest" "is_rest" s_is_rest f fd) (T : TxtF K mg fII fIW) (TG : TxtG K mg a_is_row a_is_index a_is_name a_is_text_in a_are_counts a_word_of a_are_nexts a_is_line a_line_of a_are_operations) (TM : MachC K CM)
    (GIx : FnOk P w K mg base CX0 3 a_is_index fd_is_index ["thing", "many"] (spIndex K)) (b_is_index : Binds K fd_is_index ["thing", "many"] []) : FnOk P w K mg base CX0 4 f fd ["thing", "machine"] (spIsRest K CM) := by
  refine F.ok sc_is_rest (fun vs H Q E h => ?_) (fun cdv A outer s H vs Q E hr h => ?_)
  · obtain ⟨v, t, m, o, rs, b, rfl, _⟩ := h
    rfl
  · obtain ⟨v, t, m, o, rs, b, rfl, bt, M, k⟩ := h
    refine ⟨_, (pss_one (ps_ret (pe_and (pe_call GIx (hr.mono (by decide)) (by rfl) TG.g_is_index TG.k_is_index b_is_index .nil pass0 (pa_cons (pv 0) (pa_cons (pe_callB call_len_seq (by rfl) T.b_len PySem.boot_len (pa_cons (pe_fld (pv 1) rfl) pa_nil)) pa_nil))) (pe_one (pe_cmpR op_eq (pe_ix ix_list (pe_fld (pv 1) rfl) (pv 0) (fun _ _ => rfl)) (pv 0) (nomark _)))))), ?_⟩
    have M' := M
    obtain ⟨dm, fm, tt, l, sa, aa, ea, o', xs, as, es, p⟩ := M'
    refine ⟨_, rfl, _, rfl, m, CM, dm, fm, _, rfl, p.hm, TM.cl, TM.n_lines, p.fs.lines, l, xs, rfl, .inl (SqL.of p.hl), v, t, _, rfl, bt, _, rfl, ?_⟩
    rw [p.rows.1]
    by_cases hv : inW v 0 ((rs.length : Int) - 1) = true
    · rw [hv]
      refine iteT ?_
      obtain ⟨i, rfl⟩ : ∃ i : Int, v = .int i := by
        cases v <;> first | exact ⟨_, rfl⟩ | cases hv
      have hv : (decide (0 ≤ i) && decide (i ≤ (rs.length : Int) - 1)) = true := hv
      rw [Bool.and_eq_true] at hv
      have h0 := of_decide_eq_true hv.1
      have h1 := of_decide_eq_true hv.2
      obtain ⟨n, rfl⟩ : ∃ n : Nat, i = (n : Int) := ⟨i.toNat, by omega⟩
      have hn : n < rs.length := by omega
      refine ⟨_, rfl, m, CM, dm, fm, _, rfl, p.hm, TM.cl, TM.n_stops, p.fs.stops, _, rfl, sa, _, _, _, rfl, rfl, SqL.of p.fs.hs, fl_at hn, _, rfl, rfl, ?_⟩
      have : standV rs (.int (n : Int)) = decide (V.int (stp rs n : Int) = V.int (n : Int)) := by
        unfold standV
        rw [natDec]
        simp [hn]
      rw [this] at k
      exact k
    · have hv := Bool.eq_false_iff.mpr hv
      rw [hv]
      refine iteF ?_
      have : standV rs v = false := by
        cases v with
        | int i =>
          have hv : (decide (0 ≤ i) && decide (i ≤ (rs.length : Int) - 1)) = false := hv
          show (decide (0 ≤ i) && decide (i < (rs.length : Int)) && decide (stp rs i.toNat = i.toNat)) = false
          by_cases h0 : 0 ≤ i
          · have h1 : ¬ i ≤ (rs.length : Int) - 1 := fun z => by rw [decide_eq_true h0, decide_eq_true z] at hv; cases hv
            rw [decide_eq_false (show ¬ i < (rs.length : Int) by omega)]
            simp
          · rw [decide_eq_false h0]
            rfl
        | _ => rfl
      rw [this] at k
      exact k
theorem sc_is_pair : FnScope ["thing", "one", "other"] ["thing", "one", "other"] (defScope s_is_pair) := ⟨rfl, rfl, rfl, by decide +kernel, rfl, by decide +kernel, by decide +kernel⟩
theorem ok_is_pair {f : Addr} {fd fd_is_row fd_is_rest : FuncData} (F : Fun K "is_pair" "is_pair" s_is_pair f fd) (T : TxtF K mg fII fIW) (TG : TxtG K mg a_is_row a_is_index a_is_name a_is_text_in a_are_counts a_word_of a_are_nexts a_is_line a_line_of a_are_operations)
    (GRw : FnOk P w K mg base CX0 1 a_is_row fd_is_row ["thing"] (spIsRow K)) (b_is_row : Binds K fd_is_row ["thing"] [])
    (GRe : FnOk P w K mg base CX0 4 a_is_rest fd_is_rest ["thing", "machine"] (spIsRest K CM)) (b_is_rest : Binds K fd_is_rest ["thing", "machine"] []) (g_is_rest : mg "is_rest" = some (.ref a_is_rest)) (k_is_rest : PySem.W.keepIn K (.ref a_is_rest) = true) : FnOk P w K mg base CX0 5 f fd ["thing", "one", "other"] (spIsPair K CM) := by
  refine F.ok sc_is_pair (fun vs H Q E h => ?_) (fun cdv A outer s H vs Q E hr h => ?_)
  · obtain ⟨v, c, m1, m2, o1, o2, rs1, rs2, b1, b2, rfl, _⟩ := h
    rfl
  · obtain ⟨v, c, m1, m2, o1, o2, rs1, rs2, b1, b2, rfl, ⟨t, bt, hc⟩, M1, M2, k⟩ := h
    refine ⟨_, (pss_cons (ps_if (PW.pt (pw_or (pt_not (pt_val (pe_call GRw (hr.mono (by decide)) (by rfl) TG.g_is_row TG.k_is_row b_is_row .nil pass0 (pa_cons (pv 0) pa_nil)))) (pw_or1 (pt_cmpR op_ne (pe_callB call_len_seq (by rfl) T.b_len PySem.boot_len (pa_cons (pv 0) pa_nil)) pe_int (nomark _))))) (pss_one (ps_ret pe_bl)) pss_nil)
      (pss_one (ps_ret (pe_and (pe_call GRe (hr.mono (by decide)) (by rfl) g_is_rest k_is_rest b_is_rest .nil pass0 (pa_cons (pe_ix ix_seq (pv 0) pe_int (fun _ _ => rfl)) (pa_cons (pv 1) pa_nil))) (pe_one (pe_call GRe (hr.mono (by decide)) (by rfl) g_is_rest k_is_rest b_is_rest .nil pass0 (pa_cons (pe_ix ix_seq (pv 0) pe_int (fun _ _ => rfl)) (pa_cons (pv 2) pa_nil)))))))), ?_⟩
    refine ⟨_, rfl, v, t, rfl, bt, fun H1 s1 => ⟨_, rfl, ?_⟩⟩
    rcases hc with ⟨e, rfl⟩ | ⟨e, a, xs, rfl, ha, each, rfl⟩
    · rw [e]
      exact iteT (k H1 s1)
    · rw [e]
      refine iteF ?_
      have ha1 := s1.sqa ha
      refine ⟨_, rfl, a, xs, rfl, ha1.sq, rfl, _, rfl, ?_⟩
      by_cases two : xs.length = 2
      · obtain ⟨x, y, rfl⟩ : ∃ x y, xs = [x, y] := by
          match xs, two with
          | [x, y], _ => exact ⟨x, y, rfl⟩
        refine iteF ?_
        obtain ⟨tx, bx⟩ := each x List.mem_cons_self
        obtain ⟨ty, b_y⟩ := each y (List.mem_cons_of_mem _ List.mem_cons_self)
        refine ⟨_, rfl, ha1.ix at0' ⟨_, rfl, x, tx, m1, o1, rs1, b1, rfl, bx.same s1, M1.same s1, _, rfl, ?_⟩⟩
        have e2 : pairL rs1 rs2 [x, y] = (standV rs1 x && standV rs2 y) := rfl
        rw [e2] at k
        cases h1 : standV rs1 x with
        | false =>
          rw [h1] at k
          exact iteF (k H1 s1)
        | true =>
          rw [h1] at k
          refine iteT ?_
          exact ⟨_, rfl, ha1.ix at1' ⟨_, rfl, y, ty, m2, o2, rs2, b2, rfl, b_y.same s1, M2.same s1, k H1 s1⟩⟩
      · have : pairL rs1 rs2 xs = false := by
          unfold pairL
          match xs, two with
          | [], _ => rfl
          | [_], _ => rfl
          | [_, _], z => exact absurd rfl z
          | _ :: _ :: _ :: _, _ => rfl
        rw [this] at k
        rw [decide_eq_false (fun z => two (by have := V.int.inj z; omega))]
        exact iteT (k H1 s1)
end
end Mine

set_option maxRecDepth 100000
set_option maxHeartbeats 4000000
namespace Mine
open PySem L2
abbrev s_step_fault : Stmt := top 104
/-! the same of pairs in lists or in tuples -/
def spBothA (CM : Addr) : Sp := fun vs H Q _ => ∃ (m1 m2 t : Addr) (o1 o2 : Ops) (rs1 rs2 : List RowD) (b1 b2 : Nat) (p : Prw) (d1 d2 : RowD), vs = [.ref m1, .ref m2, .ref t] ∧ MachV CM H m1 o1 rs1 b1 ∧ MachV CM H m2 o2 rs2 b2 ∧ SqA H t [.int (p.1 : Int), .int (p.2 : Int)] ∧ rs1[p.1]? = some d1 ∧ rs2[p.2]? = some d2 ∧
  ∀ (u s1 s2 : Addr) (H' : Hp), Same H H' → H' u = some (.tup [.ref s1, .ref s2]) → H' s1 = some (.tup ((showD d1).map V.str)) → H' s2 = some (.tup ((showD d2).map V.str)) → Q (.ref u) H'
def spBehindA (CM : Addr) : Sp := fun vs H Q _ => ∃ (m1 m2 t : Addr) (o1 o2 : Ops) (rs1 rs2 : List RowD) (b1 b2 : Nat) (p : Prw) (d1 d2 : RowD), vs = [.ref m1, .ref m2, .ref t] ∧ MachV CM H m1 o1 rs1 b1 ∧ MachV CM H m2 o2 rs2 b2 ∧ SqA H t [.int (p.1 : Int), .int (p.2 : Int)] ∧ rs1[p.1]? = some d1 ∧ rs2[p.2]? = some d2 ∧ Fit rs1 ∧ Fit rs2 ∧ (nextsD d1).length ≤ 1000 ∧
  ∀ (D : Addr) (us : List V) (H' : Hp), H D = none → Same H H' → H' D = some (.lst us) → Prs H' us (behind rs1 rs2 d1 d2) → Q (.ref D) H'
theorem strs_eqvZ : ∀ ns ms : List Str, (PyData.eqvAll (ns.map PyData.str) (ms.map PyData.str) = true) → ns = ms
  | [], [], _ => rfl
  | [], _ :: _, h => by simp [PyData.eqvAll] at h
  | _ :: _, [], h => by simp [PyData.eqvAll] at h
  | n :: ns, m :: ms, h => by
    have ih := strs_eqvZ ns ms
    simp [PyData.eqvAll, PyData.eqv] at h
    rw [h.1, ih h.2]
theorem eqv_show {d1 d2 : RowD} (h : PyData.eqv (showP d1) (showP d2) = true) : showD d1 = showD d2 := by
  unfold showP at h
  rw [PyData.eqv] at h
  exact strs_eqvZ _ _ h
def spStepF (CM : Addr) : Sp := fun vs H Q _ => ∃ (m1 m2 t ka : Addr) (o1 o2 : Ops) (rs1 rs2 : List RowD) (b1 b2 : Nat) (p : Prw) (d1 d2 : RowD) (ps : List Prw), vs = [.ref m1, .ref m2, .ref t, .ref ka] ∧ MachV CM H m1 o1 rs1 b1 ∧ MachV CM H m2 o2 rs2 b2 ∧ SqA H t [.int (p.1 : Int), .int (p.2 : Int)] ∧ rs1[p.1]? = some d1 ∧ rs2[p.2]? = some d2 ∧
  Fit rs1 ∧ Fit rs2 ∧ (nextsD d1).length ≤ 1000 ∧ PyData.strOk (rowTx d1) = true ∧ PyData.strOk (rowTx d2) = true ∧ H ka = some (.dT (knT ps)) ∧
  (showD d1 ≠ showD d2 → ∀ (u : Addr) (H' : Hp), Same H H' → H' u = some (.tup [.str "shows"]) → Q (.ref u) H') ∧
  (showD d1 = showD d2 → (∀ q ∈ behind rs1 rs2 d1 d2, q ∈ ps) → ∀ H' : Hp, Same H H' → Q .non H') ∧
  (showD d1 = showD d2 → ∀ (k : Nat) (q : Prw), (behind rs1 rs2 d1 d2)[k]? = some q → q ∉ ps → (∀ j r, j < k → (behind rs1 rs2 d1 d2)[j]? = some r → r ∈ ps) → ∀ (u x : Addr) (H' : Hp), Same H H' → H' u = some (.tup [.str "step", .ref x]) → PairT H' x q → Q (.ref u) H')
section
variable {P : Program} {w : World} {K : PySem.W.Frag} {mg : Str → Option Value} {base : Heap}
variable {fII fIW CM a_nexts a_shows a_both a_behind : Addr}
theorem ok_both_shownA {f : Addr} {fd fd_shows : FuncData} (F : Fun K "both_shown" "both_shown" s_both_shown f fd) (TM : MachC K CM)
    (GS : FnOk P w K mg base CX0 1 a_shows fd_shows ["line"] spShows) (b_shows_of : Binds K fd_shows ["line"] []) (g_shows_of : mg "shows_of" = some (.ref a_shows)) (k_shows_of : PySem.W.keepIn K (.ref a_shows) = true) : FnOk P w K mg base CX0 2 f fd ["one", "other", "pair"] (spBothA CM) := by
  refine F.ok sc_both_shown (fun vs H Q E h => ?_) (fun cdv A outer s H vs Q E hr h => ?_)
  · obtain ⟨m1, m2, t, o1, o2, rs1, rs2, b1, b2, p, d1, d2, rfl, _⟩ := h
    rfl
  · obtain ⟨m1, m2, t, o1, o2, rs1, rs2, b1, b2, p, d1, d2, rfl, ⟨dm1, fm1, t1, l1, sa1, aa1, ea1, o1', xs1, as1, es1, p1⟩, ⟨dm2, fm2, t2, l2, sa2, aa2, ea2, o2', xs2, as2, es2, p2⟩, ht, e1, e2, k⟩ := h
    refine ⟨_, (pss_one (ps_ret (pe_tupG (pa_cons (pe_call GS (hr.mono (by decide)) (by rfl) g_shows_of k_shows_of b_shows_of .nil pass0 (pa_cons (pe_ix ix_list (pe_fld (pv 0) rfl) (pe_ix ix_seq (pv 2) pe_int (fun _ _ => rfl)) (fun _ _ => rfl)) pa_nil)) (pa_cons (pe_call GS (hr.mono (by decide)) (by rfl) g_shows_of k_shows_of b_shows_of .nil pass0 (pa_cons (pe_ix ix_list (pe_fld (pv 1) rfl) (pe_ix ix_seq (pv 2) pe_int (fun _ _ => rfl)) (fun _ _ => rfl)) pa_nil)) pa_nil))))), ?_⟩
    obtain ⟨q1, _, d1', ed1, x1, row1, _⟩ := p1.rows.at (List.getElem?_eq_some_iff.mp e1).1
    rw [e1] at ed1
    cases ed1
    obtain ⟨q2, _, d2', ed2, x2, row2, _⟩ := p2.rows.at (List.getElem?_eq_some_iff.mp e2).1
    rw [e2] at ed2
    cases ed2
    refine ⟨_, rfl, m1, CM, dm1, fm1, _, rfl, p1.hm, TM.cl, TM.n_lines, p1.fs.lines, _, rfl, ht.ix at0' ⟨l1, _, _, _, rfl, rfl, SqL.of p1.hl, atI_nat x1, q1, d1, rfl, row1, fun u1 H1 s1 c1 => ?_⟩⟩
    refine ⟨_, rfl, m2, CM, dm2, fm2, _, rfl, s1 _ _ p2.hm, TM.cl, TM.n_lines, p2.fs.lines, _, rfl, (s1.sqa ht).ix at1' ⟨l2, _, _, _, rfl, rfl, SqL.of (s1 _ _ p2.hl), atI_nat x2, q2, d2, rfl, row2.same s1, fun u2 H2 s2 c2 => ?_⟩⟩
    exact ⟨two_ok _ _, fun u H3 n3 s3 c3 => k u u1 u2 H3 (s1.trans (s2.trans s3)) c3 (s3 _ _ (s2 _ _ c1)) (s3 _ _ c2)⟩
theorem ok_pairs_behindA {f : Addr} {fd fd_nexts : FuncData} (F : Fun K "pairs_behind" "pairs_behind" s_pairs_behind f fd) (TM : MachC K CM) (h_zip : mg "zip" = none)
    (GN : FnOk P w K mg base CX0 1 a_nexts fd_nexts ["line"] spNextsOf) (b_nexts_of : Binds K fd_nexts ["line"] []) (g_nexts_of : mg "nexts_of" = some (.ref a_nexts)) (k_nexts_of : PySem.W.keepIn K (.ref a_nexts) = true) : FnOk P w K mg base CX0 2 f fd ["one", "other", "pair"] (spBehindA CM) := by
  refine F.ok sc_pairs_behind (fun vs H Q E h => ?_) (fun cdv A outer s H vs Q E hr h => ?_)
  · obtain ⟨m1, m2, t, o1, o2, rs1, rs2, b1, b2, p, d1, d2, rfl, _⟩ := h
    rfl
  · obtain ⟨m1, m2, t, o1, o2, rs1, rs2, b1, b2, p, d1, d2, rfl, ⟨dm1, fm1, t1, l1, sa1, aa1, ea1, o1', xs1, as1, es1, p1⟩, ⟨dm2, fm2, t2, l2, sa2, aa2, ea2, o2', xs2, as2, es2, p2⟩, ht, e1, e2, fit1, fit2, few, k⟩ := h
    refine ⟨_, (pss_cons (ps_par (i := 3) (j := 4) rfl sc_pairs_behind.nd rfl rfl (by decide) rfl rfl (pa_cons (pe_call GN (hr.mono (by decide)) (by rfl) g_nexts_of k_nexts_of b_nexts_of .nil pass0 (pa_cons (pe_ix ix_list (pe_fld (pv 0) rfl) (pe_ix ix_seq (pv 2) pe_int (fun _ _ => rfl)) (fun _ _ => rfl)) pa_nil)) (pa_cons (pe_call GN (hr.mono (by decide)) (by rfl) g_nexts_of k_nexts_of b_nexts_of .nil pass0 (pa_cons (pe_ix ix_list (pe_fld (pv 1) rfl) (pe_ix ix_seq (pv 2) pe_int (fun _ _ => rfl)) (fun _ _ => rfl)) pa_nil)) pa_nil)) rfl)
      (pss_one (ps_ret (pe_lc (own := [("index", 5), ("other_index", 6)]) (g := gTup K 2 (gCons (gName 5) (gCons (gName 6) gNil))) (tt := tYes) rfl sc_pairs_behind.nd (RZ.pi_zipA (by rfl) h_zip (pa_cons (pv 3) (pa_cons (pv 4) pa_nil))) (blkOk_by (own := [("index", 5), ("other_index", 6)]) (N := ["one", "other", "pair", "nexts", "other_nexts", "index", "other_index"]) (sc := defScope s_pairs_behind) (by decide +kernel)) (fun _ _ _ _ _ => pg_tup rfl (pgs_cons (pg_name (i := 5) sc_pairs_behind.nd rfl (Or.inl rfl)) (pgs_cons (pg_name (i := 6) sc_pairs_behind.nd rfl (Or.inl rfl)) pgs_nil))) (fun _ _ _ _ _ => pts_nil) (fun _ _ _ _ _ => (pe_tupG (pa_cons (pe_ix (show IxR _ (rIxL K) from ix_list) (show PE _ _ (tFld K (tVar 0) "stops") from pe_fld (pv 0) rfl) (pv 5) (fun _ _ => rfl)) (pa_cons (pe_ix (show IxR _ (rIxL K) from ix_list) (show PE _ _ (tFld K (tVar 1) "stops") from pe_fld (pv 1) rfl) (pv 6) (fun _ _ => rfl)) pa_nil)))))))), ?_⟩
    obtain ⟨q1, _, d1', ed1, x1, row1, _⟩ := p1.rows.at (List.getElem?_eq_some_iff.mp e1).1
    rw [e1] at ed1
    cases ed1
    obtain ⟨q2, _, d2', ed2, x2, row2, _⟩ := p2.rows.at (List.getElem?_eq_some_iff.mp e2).1
    rw [e2] at ed2
    cases ed2
    refine ⟨_, rfl, m1, CM, dm1, fm1, _, rfl, p1.hm, TM.cl, TM.n_lines, p1.fs.lines, _, rfl, ht.ix at0' ⟨l1, _, _, _, rfl, rfl, SqL.of p1.hl, atI_nat x1, q1, d1, rfl, row1, fun u1 H1 s1 c1 => ?_⟩⟩
    refine ⟨_, rfl, m2, CM, dm2, fm2, _, rfl, s1 _ _ p2.hm, TM.cl, TM.n_lines, p2.fs.lines, _, rfl, (s1.sqa ht).ix at1' ⟨l2, _, _, _, rfl, rfl, SqL.of (s1 _ _ p2.hl), atI_nat x2, q2, d2, rfl, row2.same s1, fun u2 H2 s2 c2 => ?_⟩⟩
    refine ⟨_, _, rfl, ?_⟩
    have c1' := s2 _ _ c1
    have s12 : Same H H2 := s1.trans s2
    refine ⟨_, rfl, _, rfl, u1, u2, _, _, rfl, .inr ⟨.inl (.inl c1'), .inl (.inl c2), fun D nD => ?_⟩⟩
    refine lc_it (walk_zipT (xs := (nextsD d1).map V.int) (ys := (nextsD d2).map V.int) rfl) (fun j Hx => Same H2 Hx ∧ ∃ vs, Hx D = some (.lst vs) ∧ Prs Hx vs ((behind rs1 rs2 d1 d2).take j)) ⟨sameNew nD _, [], upd_same, Prs.nil _⟩ (fun j Hx _ z => ⟨.inl (.inl (z.1 _ _ c1')), .inl (.inl (z.1 _ _ c2))⟩) (fun j x Ha Hb hj z1 z2 => ?_) (fun Hx z => ?_)
    · obtain ⟨sx, vs, ev, pv⟩ := z1
      obtain ⟨T', x, y, rfl, nT, rfl, h1, h2⟩ := z2
      rw [List.length_map, List.length_map] at hj
      have hj1 : j < (nextsD d1).length := by omega
      have hj2 : j < (nextsD d2).length := by omega
      have g1 : (nextsD d1)[j]? = some (nextsD d1)[j] := List.getElem?_eq_getElem hj1
      have g2 : (nextsD d2)[j]? = some (nextsD d2)[j] := List.getElem?_eq_getElem hj2
      generalize (nextsD d1)[j] = n1 at g1
      generalize (nextsD d2)[j] = n2 at g2
      dsimp only at h1 h2
      rw [List.getElem?_map, g1] at h1
      rw [List.getElem?_map, g2] at h2
      have h1' : V.int n1 = x := Option.some.inj h1
      have h2' : V.int n2 = y := Option.some.inj h2
      subst h1' h2'
      obtain ⟨a0, a1⟩ := fit1.nexts e1 (List.mem_of_getElem? g1)
      obtain ⟨b0, b1'⟩ := fit2.nexts e2 (List.mem_of_getElem? g2)
      have at1 : atI (fl rs1.length fun i => (stp rs1 i : Int)) n1 = some (V.int (stp rs1 n1.toNat : Int)) := by
        conv => lhs; rw [show n1 = (n1.toNat : Int) by omega]
        exact fl_at (by omega)
      have at2 : atI (fl rs2.length fun i => (stp rs2 i : Int)) n2 = some (V.int (stp rs2 n2.toNat : Int)) := by
        conv => lhs; rw [show n2 = (n2.toNat : Int) by omega]
        exact fl_at (by omega)
      have gb : (behind rs1 rs2 d1 d2)[j]? = some (stp rs1 n1.toNat, stp rs2 n2.toNat) := by
        unfold behind
        rw [List.getElem?_zipWith, g1, g2]
      have sT : Same H2 (upd Ha T' (.tup [.int n1, .int n2])) := fun b o e => by
        rw [upd_ne (ne_of_none (sx _ _ e) nT)]
        exact sx _ _ e
      refine ⟨T', _, rfl, .inl (.inl upd_same), rfl, _, _, rfl, _, _, rfl, rfl, rfl, ?_⟩
      refine ⟨_, rfl, m1, CM, dm1, fm1, _, rfl, sT _ _ (s12 _ _ p1.hm), TM.cl, TM.n_stops, p1.fs.stops, _, rfl, sa1, _, _, _, rfl, rfl, SqL.of (sT _ _ (s12 _ _ p1.fs.hs)), at1, ?_⟩
      refine ⟨_, rfl, m2, CM, dm2, fm2, _, rfl, sT _ _ (s12 _ _ p2.hm), TM.cl, TM.n_stops, p2.fs.stops, _, rfl, sa2, _, _, _, rfl, rfl, SqL.of (sT _ _ (s12 _ _ p2.fs.hs)), at2, ?_⟩
      have lk : vs.length ≤ j := by
        rw [pv.1, List.length_take]
        omega
      have sTa : Same Ha (upd Ha T' (.tup [.int n1, .int n2])) := sameNew nT _
      refine ⟨two_ok _ _, fun p3 H3 n3 s3 c3 => ⟨vs, s3 _ _ (sTa _ _ ev), by rw [sizeLine_eq]; omega, fun b o e => ?_, vs ++ [.ref p3], upd_same, ?_⟩⟩
      · rw [upd_ne (ne_of_none e nD)]
        exact s3 _ _ (sT _ _ e)
      · rw [List.take_succ, gb]
        exact ((pv.same (sTa.trans s3)).snoc (p := (stp rs1 n1.toNat, stp rs2 n2.toNat)) (show PairT H3 p3 _ from c3)).other (s3 _ _ (sTa _ _ ev))
    · obtain ⟨sx, vs, ev, pv⟩ := z
      have le : ((behind rs1 rs2 d1 d2)).length = min ((nextsD d1).map V.int).length ((nextsD d2).map V.int).length := by
        unfold behind
        rw [List.length_zipWith, List.length_map, List.length_map]
      rw [← le, List.take_length] at pv
      exact k D vs Hx (none_of s12 nD) (s12.trans sx) ev pv
theorem sc_step_fault : FnScope ["one", "other", "pair", "known", "first", "second", "following"] ["one", "other", "pair", "known"] (defScope s_step_fault) := ⟨rfl, rfl, rfl, by decide +kernel, rfl, by decide +kernel, by decide +kernel⟩
theorem ok_step_fault {f : Addr} {fd fd_both fd_behind : FuncData} (F : Fun K "step_fault" "step_fault" s_step_fault f fd) (TM : MachC K CM)
    (GB : FnOk P w K mg base CX0 2 a_both fd_both ["one", "other", "pair"] (spBothA CM)) (b_both : Binds K fd_both ["one", "other", "pair"] []) (g_both : mg "both_shown" = some (.ref a_both)) (k_both : PySem.W.keepIn K (.ref a_both) = true)
    (GH : FnOk P w K mg base CX0 2 a_behind fd_behind ["one", "other", "pair"] (spBehindA CM)) (b_behind : Binds K fd_behind ["one", "other", "pair"] []) (g_behind : mg "pairs_behind" = some (.ref a_behind)) (k_behind : PySem.W.keepIn K (.ref a_behind) = true) : FnOk P w K mg base CX0 3 f fd ["one", "other", "pair", "known"] (spStepF CM) := by
  refine F.ok sc_step_fault (fun vs H Q E h => ?_) (fun cdv A outer s H vs Q E hr h => ?_)
  · obtain ⟨m1, m2, t, ka, o1, o2, rs1, rs2, b1, b2, p, d1, d2, ps, rfl, _⟩ := h
    rfl
  · obtain ⟨m1, m2, t, ka, o1, o2, rs1, rs2, b1, b2, p, d1, d2, ps, rfl, M1, M2, ht, e1, e2, fit1, fit2, few, ok1, ok2, ek, kS, kN, kT⟩ := h
    refine ⟨_, (pss_cons (ps_asg (pe_call GB (hr.mono (by decide)) (by rfl) g_both k_both b_both .nil pass0 (pa_cons (pv 0) (pa_cons (pv 1) (pa_cons (pv 2) pa_nil)))) (pg_tup rfl (pgs_cons (pg_name (i := 4) sc_step_fault.nd rfl (Or.inl rfl)) (pgs_cons (pg_name (i := 5) sc_step_fault.nd rfl (Or.inl rfl)) pgs_nil))))
      (pss_cons (ps_if (pt_cmpR (op_neD hr.units) (pv 4) (pv 5) (nomark _)) (pss_one (ps_ret (pe_tupG (pa_cons pe_str pa_nil)))) pss_nil)
      (pss_cons (ps_for PassesOwn.never rfl (pi_list (pe_call GH (hr.mono (by decide)) (by rfl) g_behind k_behind b_behind .nil pass0 (pa_cons (pv 0) (pa_cons (pv 1) (pa_cons (pv 2) pa_nil))))) (pg_name (i := 6) sc_step_fault.nd rfl (Or.inl rfl)) (pss_one (ps_if (pt_cmp (pc_dnotin (hu_of hr) (pv 6) (pv 3)) rfl) (pss_one (ps_ret (pe_tupG (pa_cons pe_str (pa_cons (pv 6) pa_nil))))) pss_nil)))
      (pss_one (ps_ret pe_non))))), ?_⟩
    refine ⟨_, rfl, _, rfl, _, rfl, m1, m2, t, o1, o2, rs1, rs2, b1, b2, p, d1, d2, rfl, M1, M2, ht, e1, e2, fun u s1 s2 H3 s3 eu es1 es2 => ?_⟩
    refine ⟨u, _, rfl, .inl (.inl eu), rfl, _, _, rfl, _, _, rfl, rfl, ?_⟩
    refine ⟨_, rfl, _, rfl, showP d1, showP d2, show_dp es1, show_dp es2, show_shaped ok1, show_shaped ok2, _, rfl, ?_⟩
    by_cases same : showD d1 = showD d2
    · rw [show_eqv ok1 same]
      refine iteF ?_
      refine ⟨_, rfl, _, rfl, _, rfl, m1, m2, t, o1, o2, rs1, rs2, b1, b2, p, d1, d2, rfl, M1.same s3, M2.same s3, s3.sqa ht, e1, e2, fit1, fit2, few, fun D us H4 nD s4 eD pD => ?_⟩
      have s34 := s3.trans s4
      refine ⟨D, rfl, ⟨_, SqL.of eD⟩, for_list (K := K) (a := D) (xs := us) (fun j σ H' => ∃ v6 : Option V, σ = [some (.ref m1), some (.ref m2), some (.ref t), some (.ref ka), some (.ref s1), some (.ref s2), v6] ∧ Same H4 H' ∧ ∀ i r, i < j → (behind rs1 rs2 d1 d2)[i]? = some r → r ∈ ps) ⟨_, rfl, Same.refl _, fun i r hi => absurd hi (Nat.not_lt_zero i)⟩ (fun j σ H' _ z => by obtain ⟨_, _, z, _⟩ := z; exact SqL.of (z _ _ eD)) ?_ ?_⟩
      · rintro j x σ Ha hxj ⟨v6, rfl, sa, all⟩
        have hj : j < (behind rs1 rs2 d1 d2).length := by
          have := (List.getElem?_eq_some_iff.mp hxj).1
          rw [← pD.1]
          exact this
        obtain ⟨q, eq⟩ : ∃ q, (behind rs1 rs2 d1 d2)[j]? = some q := ⟨_, List.getElem?_eq_getElem hj⟩
        obtain ⟨qa, va, pq⟩ := pD.2 j q eq
        rw [hxj] at va
        cases va
        have s0a := s34.trans sa
        refine ⟨_, rfl, _, rfl, ka, _, rfl, DGet.t (k := keyP q) (s0a _ _ ek) (sa _ _ pq), _, rfl, ?_⟩
        rw [val_knT]
        by_cases hin : q ∈ ps
        · rw [decide_eq_true hin]
          refine iteF ?_
          refine ⟨_, rfl, sa, fun i r hi er => ?_⟩
          by_cases z : i = j
          · subst z
            rw [eq] at er
            cases er
            exact hin
          · exact all i r (by omega) er
        · rw [decide_eq_false hin]
          refine iteT ?_
          exact ⟨_, rfl, two_ok _ _, fun uu H5 n5 s5 e5 => kT same j q eq hin all uu qa H5 (s0a.trans s5) e5 (s5 _ _ (sa _ _ pq))⟩
      · rintro σ H' ⟨v6, rfl, sa, all⟩
        refine kN same (fun q hq => ?_) H' (s34.trans sa)
        obtain ⟨i, hi, ei⟩ := List.mem_iff_getElem.mp hq
        exact all i q (by rw [pD.1]; exact hi) (by rw [List.getElem?_eq_getElem hi, ei])
    · have ne : PyData.eqv (showP d1) (showP d2) = false := Bool.eq_false_iff.mpr fun z => same (eqv_show z)
      rw [ne]
      refine iteT ?_
      exact ⟨by rw [sizeLine_eq]; exact Nat.succ_le_of_lt (by decide), fun uu H4 n4 s4 e4 => kS same uu H4 (s3.trans s4) e4⟩
end
end Mine

set_option maxRecDepth 100000
set_option maxHeartbeats 4000000
set_option pp.maxSteps 300
namespace L2
open PySem PySem.Spec PyProof.Rows
/-- the loop of a dict comprehension with tuple keys -/
theorem dcT_it {J : It} {n : Nat} {G : Hp → Prop} {Y : Nat → Hp → V → Hp → Prop} (wk : Walk J n G Y) {g : TG} {tk tv : TE} {vs : List Nat} {σ : St} {H1 : Hp} {D : Addr} {Qd : Hp → Prop} (Pv : Nat → Hp → Prop) (h0 : Pv 0 (upd H1 D (.dT []))) (hG : ∀ i H, i ≤ n → Pv i H → G H)
    (hs : ∀ i x H H', i < n → Pv i H → Y i H x H' → g x (wipe σ vs) H' fun σ2 H2 => wipe σ2 vs = wipe σ vs ∧ tk σ2 H2 fun y H4 => tv σ2 H4 fun z H5 => ∃ (kvs : List (List Key × V)) (b : Addr) (ks : List Key), y = .ref b ∧ H5 b = some (.tup (ks.map kV)) ∧ H5 D = some (.dT kvs) ∧ kvs.length < sizeLine ∧ Pv (i + 1) (upd H5 D (.dT (putK kvs ks z))))
    (hd : ∀ H, Pv n H → Qd H) :
    ∃ W : Nat → Nat → Hp → Prop, (∃ m, W 0 m (upd H1 D (.dT []))) ∧ ∀ i m H, W i m H →
      (J.stop i H ∧ Qd H) ∨ (J.go i H ∧ ∃ Nx : Hp → Prop, (∀ H', Nx H' → ∃ m', m' < m ∧ W (i + 1) m' H') ∧ ∀ x H', J.yld i H x H' → g x (wipe σ vs) H' fun σ2 H2 => wipe σ2 vs = wipe σ vs ∧ tk σ2 H2 fun y H4 => tv σ2 H4 fun z H5 => ∃ (kvs : List (List Key × V)) (b : Addr) (ks : List Key), y = .ref b ∧ H5 b = some (.tup (ks.map kV)) ∧ H5 D = some (.dT kvs) ∧ kvs.length < sizeLine ∧ Nx (upd H5 D (.dT (putK kvs ks z)))) := by
  refine ⟨fun i m H => m + i = n ∧ Pv i H, ⟨n, by simp, h0⟩, ?_⟩
  rintro i m H ⟨hm, p⟩
  have q := hG i H (by omega) p
  rcases Nat.lt_or_ge i n with lt | ge
  · exact .inr ⟨wk.goes i H lt q, Pv (i + 1), fun H' p' => ⟨m - 1, by omega, by omega, p'⟩, fun x H' y => hs i x H H' lt p (wk.yields i H x H' lt q y)⟩
  · have e : i = n := by omega
    subst e
    exact .inl ⟨wk.stops H q, hd H p⟩
end L2
namespace Mine
open PySem L2
/-- a loop over enumerate of a list or a tuple that stays -/
theorem enumA {K : PySem.W.Frag} {a : Addr} {xs : List V} {g : TG} {tb : TS} {D : Ends} {σ : St} {H : Hp} (ha : SqA H a xs) (Pv : Nat → St → Hp → Prop) (h0 : Pv 0 σ H) (hl : ∀ i σ' H', Pv i σ' H' → Same H H')
    (hs : ∀ i x σ H T H', xs[i]? = some x → Pv i σ H → H T = none → Same H H' → H' T = some (.tup [.int (i : Nat), x]) → g (.ref T) σ H' fun σ2 H2 => tb { D with nx := Pv (i + 1), ct := Pv (i + 1), bk := D.nx } σ2 H2)
    (hd : ∀ σ H, Pv xs.length σ H → D.nx σ H) :
    (SqL K H a xs ∧ ∃ W : Nat → Nat → St → Hp → Prop, (∃ m, W 0 m σ H) ∧ ∀ i m σ H, W i m σ H → ((Ite K a).stop i H ∧ D.nx σ H) ∨ ((Ite K a).go i H ∧ ∃ N : St → Hp → Prop, (∀ σ' H', N σ' H' → ∃ m', m' < m ∧ W (i + 1) m' σ' H') ∧ ∀ x H', (Ite K a).yld i H x H' → g x σ H' fun σ2 H2 => tb { D with nx := N, ct := N, bk := D.nx } σ2 H2)) ∨
    (SqT K H a xs ∧ ∃ W : Nat → Nat → St → Hp → Prop, (∃ m, W 0 m σ H) ∧ ∀ i m σ H, W i m σ H → ((IteT K a).stop i H ∧ D.nx σ H) ∨ ((IteT K a).go i H ∧ ∃ N : St → Hp → Prop, (∀ σ' H', N σ' H' → ∃ m', m' < m ∧ W (i + 1) m' σ' H') ∧ ∀ x H', (IteT K a).yld i H x H' → g x σ H' fun σ2 H2 => tb { D with nx := N, ct := N, bk := D.nx } σ2 H2)) :=
  ha.elim (fun h => .inl ⟨SqL.of h, for_enumL Pv h0 (fun i σ' H' _ p => SqL.of (hl i σ' H' p _ _ h)) hs hd⟩) (fun h => .inr ⟨SqT.of h, for_enumT Pv h0 (fun i σ' H' _ p => SqT.of (hl i σ' H' p _ _ h)) hs hd⟩)
abbrev s_pairs_fault : Stmt := top 101
/-- pairs of rows, in lists or in tuples -/
def PrsA (H : Hp) (xs : List V) (ps : List Prw) : Prop := xs.length = ps.length ∧ ∀ (k : Nat) (p : Prw), ps[k]? = some p → ∃ q, xs[k]? = some (.ref q) ∧ SqA H q [.int (p.1 : Int), .int (p.2 : Int)]
theorem PrsA.same {H H' : Hp} {xs : List V} {ps : List Prw} (s : Same H H') (h : PrsA H xs ps) : PrsA H' xs ps := ⟨h.1, fun k p e => by
  obtain ⟨q, h1, h2⟩ := h.2 k p e
  exact ⟨q, h1, s.sqa h2⟩⟩
def Rests (rs1 rs2 : List RowD) (p : Prw) : Prop := p.1 < rs1.length ∧ p.2 < rs2.length ∧ stp rs1 p.1 = p.1 ∧ stp rs2 p.2 = p.2
theorem stand_of {rs : List RowD} {n : Nat} (h : n < rs.length) (e : stp rs n = n) : standV rs (.int (n : Int)) = true := by
  show (decide ((0 : Int) ≤ n) && decide ((n : Int) < (rs.length : Int)) && decide (stp rs ((n : Int)).toNat = ((n : Int)).toNat)) = true
  rw [Int.toNat_natCast]
  simp [h, e]
theorem PrsA.isP {K : PySem.W.Frag} {H : Hp} {rs1 rs2 : List RowD} {q : Addr} {p : Prw} (h : SqA H q [.int (p.1 : Int), .int (p.2 : Int)]) (r : Rests rs1 rs2 p) : IsP K H rs1 rs2 (.ref q) true := by
  obtain ⟨t, b, e⟩ := btSeq (K := K) h
  refine ⟨t, b, .inr ⟨e, q, _, rfl, h, fun y hy => ?_, ?_⟩⟩
  · rcases List.mem_cons.mp hy with z | z
    · rw [z]; exact ⟨_, btInt _⟩
    · rw [List.mem_singleton.mp z]; exact ⟨_, btInt _⟩
  · show true = (standV rs1 (.int (p.1 : Int)) && standV rs2 (.int (p.2 : Int)))
    rw [stand_of r.1 r.2.2.1, stand_of r.2.1 r.2.2.2]
    rfl
/-- a pair keeps a row of pairs closed -/
def Kept (rs1 rs2 : List RowD) (ps : List Prw) (p : Prw) : Prop := ∃ d1 d2, rs1[p.1]? = some d1 ∧ rs2[p.2]? = some d2 ∧ showD d1 = showD d2 ∧ ∀ q ∈ behind rs1 rs2 d1 d2, q ∈ ps
def spFault (K : PySem.W.Frag) (CB CM : Addr) : Sp := fun vs H Q _ => ∃ (bd1 bd2 : Addr) (v : V) (t : String) (o1 o2 : Ops) (rs1 rs2 : List RowD) (b1 b2 : Nat), vs = [.ref bd1, .ref bd2, v] ∧ TwoB CB CM H bd1 bd2 o1 o2 rs1 rs2 b1 b2 ∧ Fit rs1 ∧ Fit rs2 ∧ TxOk rs1 ∧ TxOk rs2 ∧ (∀ d ∈ rs1, (nextsD d).length ≤ 1000) ∧ Bt K H v t ∧
  (((t == "list" || t == "tuple") = false ∧ ∀ (u : Addr) (H' : Hp), Same H H' → H' u = some (.tup [.str "pairs", .int (-1)]) → Q (.ref u) H') ∨
   ((t == "list" || t == "tuple") = true ∧ ∃ a xs, v = .ref a ∧ SqA H a xs ∧ xs.length ≤ 100000 ∧
    ((∃ (i : Nat) (x : V), xs[i]? = some x ∧ IsP K H rs1 rs2 x false ∧ (∀ (j : Nat) (y : V), j < i → xs[j]? = some y → IsP K H rs1 rs2 y true) ∧ ∀ (u : Addr) (H' : Hp), Same H H' → H' u = some (.tup [.str "pairs", .int (i : Int)]) → Q (.ref u) H') ∨
     (∃ ps : List Prw, PrsA H xs ps ∧ (∀ p ∈ ps, Rests rs1 rs2 p) ∧
      ((stp rs1 b1, stp rs2 b2) ∉ ps → ∀ (u : Addr) (H' : Hp), Same H H' → H' u = some (.tup [.str "begin"]) → Q (.ref u) H') ∧
      ((stp rs1 b1, stp rs2 b2) ∈ ps → (∀ p ∈ ps, Kept rs1 rs2 ps p) → ∀ H' : Hp, Same H H' → Q .non H') ∧
      ((stp rs1 b1, stp rs2 b2) ∈ ps → ∀ (k : Nat) (p : Prw) (d1 d2 : RowD), ps[k]? = some p → rs1[p.1]? = some d1 → rs2[p.2]? = some d2 → (∀ (j : Nat) (r : Prw), j < k → ps[j]? = some r → Kept rs1 rs2 ps r) →
        (showD d1 ≠ showD d2 → ∀ (u : Addr) (H' : Hp), Same H H' → H' u = some (.tup [.str "shows", .int (k : Int)]) → Q (.ref u) H') ∧
        (showD d1 = showD d2 → ∀ (m : Nat) (q : Prw), (behind rs1 rs2 d1 d2)[m]? = some q → q ∉ ps → (∀ (j : Nat) (r : Prw), j < m → (behind rs1 rs2 d1 d2)[j]? = some r → r ∈ ps) → ∀ (u x : Addr) (H' : Hp), Same H H' → H' u = some (.tup [.str "step", .int (k : Int), .ref x]) → PairT H' x q → Q (.ref u) H'))))))
theorem neNon {a : Addr} : (!decide (V.ref a = V.non)) = true := by simp
theorem knT_again {m : List Prw} {p : Prw} (h : p ∈ m) : putK (knT m) (keyP p) (.bl true) = knT m := by
  unfold putK
  have hv := val_knT m p
  rw [decide_eq_true h] at hv
  have : ((knT m).any fun kv => decide (kv.1 = keyP p)) = true := by
    rw [valV_any]
    exact hv
  rw [this]
  show (knT m).map _ = knT m
  unfold knT
  rw [List.map_map]
  refine List.map_congr_left fun q hq => ?_
  show (if keyP q = keyP p then _ else _) = _
  split <;> rfl
theorem knT_any {m : List Prw} {p : Prw} : putK (knT m) (keyP p) (.bl true) = knT (addP m p) := by
  by_cases h : p ∈ m
  · rw [knT_again h]
    unfold addP
    rw [if_pos h]
  · exact knT_put h
theorem addP_mem {m : List Prw} {p q : Prw} : q ∈ addP m p ↔ q ∈ m ∨ q = p := by
  unfold addP
  split
  · rename_i h
    exact ⟨.inl, fun z => z.elim id fun e => by rw [e]; exact h⟩
  · rw [List.mem_append, List.mem_singleton]
theorem growP_mem {m l : List Prw} {q : Prw} : q ∈ growP m l ↔ q ∈ m ∨ q ∈ l := by
  unfold growP
  induction l generalizing m with
  | nil => simp
  | cons p l ih =>
    rw [List.foldl_cons, ih, addP_mem, List.mem_cons]
    constructor
    · rintro ((a | a) | a)
      · exact .inl a
      · exact .inr (.inl a)
      · exact .inr (.inr a)
    · rintro (a | a | a)
      · exact .inl (.inl a)
      · exact .inl (.inr a)
      · exact .inr a
theorem addP_len {m : List Prw} {p : Prw} : (addP m p).length ≤ m.length + 1 := by
  unfold addP
  split
  · omega
  · rw [List.length_append]; exact Nat.le_refl _
theorem growP_few {m l : List Prw} : (growP m l).length ≤ m.length + l.length := by
  unfold growP
  induction l generalizing m with
  | nil => simp
  | cons p l ih =>
    rw [List.foldl_cons, List.length_cons]
    have := ih (m := addP m p)
    have := addP_len (m := m) (p := p)
    omega
def tKnown : TS := fun D σ H => ∃ (bd1 bd2 a : Addr) (xs : List V) (ps : List Prw) (v3 v4 v5 v6 : Option V), σ = [some (.ref bd1), some (.ref bd2), some (.ref a), v3, v4, v5, v6] ∧ SqA H a xs ∧ PrsA H xs ps ∧ ps.length ≤ 100000 ∧
  ∀ (ka : Addr) (H' : Hp), Same H H' → H' ka = some (.dT (knT (growP [] ps))) → D.nx [some (.ref bd1), some (.ref bd2), some (.ref a), v3, v4, some (.ref ka), v6] H'
section
variable {P : Program} {w : World} {K : PySem.W.Frag} {mg : Str → Option Value} {base : Heap}
variable {fII fIW CB CM a_is_row a_is_index a_is_name a_is_text_in a_are_counts a_word_of a_are_nexts a_is_line a_line_of a_are_operations a_joined a_is_pair a_begin a_step : Addr}
theorem sc_pairs_fault : FnScope ["one", "other", "pairs", "number", "pair", "known", "fault"] ["one", "other", "pairs"] (defScope s_pairs_fault) := ⟨rfl, rfl, rfl, by decide +kernel, rfl, by decide +kernel, by decide +kernel⟩
theorem ok_pairs_fault {f : Addr} {fd fd_is_row fd_joined fd_is_pair fd_begin fd_step : FuncData} (F : Fun K "pairs_fault" "pairs_fault" s_pairs_fault f fd) (T : TxtF K mg fII fIW) (TG : TxtG K mg a_is_row a_is_index a_is_name a_is_text_in a_are_counts a_word_of a_are_nexts a_is_line a_line_of a_are_operations) (TB : BodyC K CB) (TM : MachC K CM) (h_enum : mg "enumerate" = none)
    (GRw : FnOk P w K mg base CX0 1 a_is_row fd_is_row ["thing"] (spIsRow K)) (b_is_row : Binds K fd_is_row ["thing"] [])
    (GJ : FnOk P w K mg base CX0 2 a_joined fd_joined ["tables"] spJoined) (b_joined : Binds K fd_joined ["tables"] []) (g_joined : mg "joined" = some (.ref a_joined)) (k_joined : PySem.W.keepIn K (.ref a_joined) = true)
    (GIP : FnOk P w K mg base CX0 5 a_is_pair fd_is_pair ["thing", "one", "other"] (spIsPair K CM)) (b_is_pair : Binds K fd_is_pair ["thing", "one", "other"] []) (g_is_pair : mg "is_pair" = some (.ref a_is_pair)) (k_is_pair : PySem.W.keepIn K (.ref a_is_pair) = true)
    (GBe : FnOk P w K mg base CX0 1 a_begin fd_begin ["one", "other"] (spBegin CM)) (b_begin_of : Binds K fd_begin ["one", "other"] []) (g_begin_of : mg "begin_of" = some (.ref a_begin)) (k_begin_of : PySem.W.keepIn K (.ref a_begin) = true)
    (GSF : FnOk P w K mg base CX0 3 a_step fd_step ["one", "other", "pair", "known"] (spStepF CM)) (b_step_fault : Binds K fd_step ["one", "other", "pair", "known"] []) (g_step_fault : mg "step_fault" = some (.ref a_step)) (k_step_fault : PySem.W.keepIn K (.ref a_step) = true) : FnOk P w K mg base CX0 6 f fd ["one", "other", "pairs"] (spFault K CB CM) := by
  refine F.ok sc_pairs_fault (fun vs H Q E h => ?_) (fun cdv A outer s H vs Q E hr h => ?_)
  · obtain ⟨bd1, bd2, v, t, o1, o2, rs1, rs2, b1, b2, rfl, _⟩ := h
    rfl
  · obtain ⟨bd1, bd2, v, t, o1, o2, rs1, rs2, b1, b2, rfl, two, fit1, fit2, tx1, tx2, few, bt, k⟩ := h
    refine ⟨_, (pss_cons (ps_expr (pe_call GJ (hr.mono (by decide)) (by rfl) g_joined k_joined b_joined .nil pass0 (pa_cons (pe_lstG (pa_cons (pe_fld (pe_fld (pv 0) rfl) rfl) (pa_cons (pe_fld (pe_fld (pv 1) rfl) rfl) pa_nil))) pa_nil)))
      (pss_cons (ps_if (pt_not (pt_val (pe_call GRw (hr.mono (by decide)) (by rfl) TG.g_is_row TG.k_is_row b_is_row .nil pass0 (pa_cons (pv 2) pa_nil)))) (pss_one (ps_ret (pe_tupG (pa_cons pe_str (pa_cons (pe_un un_neg pe_int) pa_nil))))) pss_nil)
      (pss_cons (ps_for PassesOwn.never rfl (pi_or (pi_enum (by rfl) h_enum (pa_cons (pv 2) pa_nil)) (pi_enumT (by rfl) h_enum (pa_cons (pv 2) pa_nil))) (pg_tup rfl (pgs_cons (pg_name (i := 3) sc_pairs_fault.nd rfl (Or.inl rfl)) (pgs_cons (pg_name (i := 4) sc_pairs_fault.nd rfl (Or.inl rfl)) pgs_nil))) (pss_one (ps_if (pt_not (pt_val (pe_call GIP (hr.mono (by decide)) (by rfl) g_is_pair k_is_pair b_is_pair .nil pass0 (pa_cons (pv 4) (pa_cons (pe_fld (pv 0) rfl) (pa_cons (pe_fld (pv 1) rfl) pa_nil)))))) (pss_one (ps_ret (pe_tupG (pa_cons pe_str (pa_cons (pv 3) pa_nil))))) pss_nil)))
      (pss_cons (ps_imp (t' := tKnown) (ps_setDcT (i := 5) (own := [("pair", 4)]) (g := gName 4) (wi := iSeq K (tVar 2)) (hu_of hr) rfl sc_pairs_fault.nd rfl rfl (sw_trueD rfl rfl rfl rfl) (pi_seq (pv 2)) (blkOk_by (own := [("pair", 4)]) (N := ["one", "other", "pairs", "number", "pair", "known", "fault"]) (sc := defScope s_pairs_fault) (by decide +kernel)) (fun _ _ _ _ _ => pg_name (i := 4) sc_pairs_fault.nd rfl (Or.inl rfl)) (fun _ _ _ _ _ => (pe_callTy call_tupleG (by rfl) T.b_tuple (by decide +kernel) (pa_cons (pv 4) pa_nil))) (fun _ _ _ _ _ => pe_bl)) (fun D σ H q => by
        obtain ⟨bd1, bd2, a, xs, ps, v3, v4, v5, v6, rfl, ha, pa, big, kk⟩ := q
        have lps : xs.length = ps.length := pa.1
        have turn : ∀ (D : Addr) (i : Nat) (x : V) (Ha : Hp), H D = none → i < ps.length → xs[i]? = some x → Same H Ha → Ha D = some (.dT (knT (growP [] (ps.take i)))) → ∃ q p, x = .ref q ∧ ps[i]? = some p ∧ SqA Ha q [.int (p.1 : Int), .int (p.2 : Int)] := fun D i x Ha nD hi hx sa eD => by
          obtain ⟨p, ep⟩ : ∃ p, ps[i]? = some p := ⟨_, List.getElem?_eq_getElem hi⟩
          obtain ⟨q, vq, sq⟩ := pa.2 i p ep
          rw [hx] at vq
          cases vq
          exact ⟨q, p, rfl, ep, sa.sqa sq⟩
        have next : ∀ (D q' : Addr) (i : Nat) (p : Prw) (Ha Hb : Hp), H D = none → i < ps.length → ps[i]? = some p → Same H Ha → Ha D = some (.dT (knT (growP [] (ps.take i)))) → Same Ha Hb → Hb q' = some (.tup [.int (p.1 : Int), .int (p.2 : Int)]) →
            ∃ (kvs : List (List Key × V)) (b : Addr) (ks : List Key), V.ref q' = .ref b ∧ Hb b = some (.tup (ks.map kV)) ∧ Hb D = some (.dT kvs) ∧ kvs.length < sizeLine ∧ (Same H (upd Hb D (.dT (putK kvs ks (.bl true)))) ∧ upd Hb D (.dT (putK kvs ks (.bl true))) D = some (.dT (knT (growP [] (ps.take (i + 1)))))) := fun D q' i p Ha Hb nD hi ep sa eD sb eq' => by
          have few0 : (growP [] (ps.take i)).length ≤ ps.length := by
            have := growP_few (m := []) (l := ps.take i)
            rw [List.length_take, List.length_nil] at this
            omega
          refine ⟨_, q', keyP p, rfl, eq', sb _ _ eD, ?_, fun b o e => ?_, ?_⟩
          · unfold knT
            rw [List.length_map, sizeLine_eq]
            omega
          · rw [upd_ne (ne_of_none e nD)]
            exact sb _ _ (sa _ _ e)
          · rw [upd_same, knT_any]
            have : growP [] (ps.take (i + 1)) = addP (growP [] (ps.take i)) p := by
              unfold growP
              rw [List.take_succ, ep, List.foldl_append]
              rfl
            rw [this]
        rcases ha with h4 | h4
        · refine .inl ⟨_, rfl, a, rfl, ⟨_, SqL.of h4⟩, fun D nD => dcT_it walk_list (fun i Hx => Same H Hx ∧ Hx D = some (.dT (knT (growP [] (ps.take i))))) ⟨sameNew nD _, upd_same⟩ (fun i Hx _ z => SqL.of (z.1 _ _ h4)) (fun i x Ha Hb hi z1 z2 => ?_) fun H5 z => ?_⟩
          · obtain ⟨rfl, hx⟩ := z2
            rw [lps] at hi
            obtain ⟨q, p, rfl, ep, sq⟩ := turn D i x _ nD hi hx z1.1 z1.2
            exact ⟨rfl, _, rfl, q, _, rfl, sq, fun q' H' s' e' => next D q' i p _ H' nD hi ep z1.1 z1.2 s' e'⟩
          · rw [lps, List.take_length] at z
            exact kk D H5 z.1 z.2
        · refine .inr ⟨_, rfl, a, rfl, ⟨_, SqT.of h4⟩, fun D nD => dcT_it walk_tup (fun i Hx => Same H Hx ∧ Hx D = some (.dT (knT (growP [] (ps.take i))))) ⟨sameNew nD _, upd_same⟩ (fun i Hx _ z => SqT.of (z.1 _ _ h4)) (fun i x Ha Hb hi z1 z2 => ?_) fun H5 z => ?_⟩
          · obtain ⟨rfl, hx⟩ := z2
            rw [lps] at hi
            obtain ⟨q, p, rfl, ep, sq⟩ := turn D i x _ nD hi hx z1.1 z1.2
            exact ⟨rfl, _, rfl, q, _, rfl, sq, fun q' H' s' e' => next D q' i p _ H' nD hi ep z1.1 z1.2 s' e'⟩
          · rw [lps, List.take_length] at z
            exact kk D H5 z.1 z.2))
      (pss_cons (ps_if (pt_cmp (pc_dnotin (hu_of hr) (pe_call GBe (hr.mono (by decide)) (by rfl) g_begin_of k_begin_of b_begin_of .nil pass0 (pa_cons (pe_fld (pv 0) rfl) (pa_cons (pe_fld (pv 1) rfl) pa_nil))) (pv 5)) rfl) (pss_one (ps_ret (pe_tupG (pa_cons pe_str pa_nil)))) pss_nil)
      (pss_cons (ps_for PassesOwn.never rfl (pi_or (pi_enum (by rfl) h_enum (pa_cons (pv 2) pa_nil)) (pi_enumT (by rfl) h_enum (pa_cons (pv 2) pa_nil))) (pg_tup rfl (pgs_cons (pg_name (i := 3) sc_pairs_fault.nd rfl (Or.inl rfl)) (pgs_cons (pg_name (i := 4) sc_pairs_fault.nd rfl (Or.inl rfl)) pgs_nil))) (pss_cons (ps_set (i := 6) sc_pairs_fault.nd rfl (Or.inl rfl) (pe_call GSF (hr.mono (by decide)) (by rfl) g_step_fault k_step_fault b_step_fault .nil pass0 (pa_cons (pe_fld (pv 0) rfl) (pa_cons (pe_fld (pv 1) rfl) (pa_cons (pv 4) (pa_cons (pv 5) pa_nil))))))
      (pss_one (ps_if (pt_cmpR op_notN (pv 6) pe_non (nomark _)) (pss_one (ps_ret (pe_op op_catA (pe_tupG (pa_cons (pe_ix ix_tup (pv 6) pe_int (fun _ _ => rfl)) (pa_cons (pv 3) pa_nil))) (pe_slice sl_tupA (pv 6) (po_some pe_int) po_none)))) pss_nil))))
      (pss_one (ps_ret pe_non)))))))), ?_⟩
    obtain ⟨m1, dx1, fb1, hb1, lb1, M1⟩ := two.B1.mach
    obtain ⟨m2, dx2, fb2, hb2, lb2, M2⟩ := two.B2.mach
    obtain ⟨g, ga, gb⟩ := two.go
    have f1 := two.f1
    have f2 := two.f2
    have M1' := M1
    have M2' := M2
    obtain ⟨dm1, fm1, t1, l1, sa1, aa1, ea1, o1', xs1, as1, es1, p1⟩ := M1'
    obtain ⟨dm2, fm2, t2, l2, sa2, aa2, ea2, o2', xs2, as2, es2, p2⟩ := M2'
    refine ⟨_, rfl, bd1, CB, dx1, fb1, _, rfl, hb1, TB.cl, TB.n_machine, lb1, m1, CM, dm1, fm1, _, rfl, p1.hm, TM.cl, TM.n_counts, p1.fs.counts, ?_⟩
    refine ⟨_, rfl, bd2, CB, dx2, fb2, _, rfl, hb2, TB.cl, TB.n_machine, lb2, m2, CM, dm2, fm2, _, rfl, p2.hm, TM.cl, TM.n_counts, p2.fs.counts, ?_⟩
    refine ⟨two_ok _ _, fun a0 H1 n1 s1 e1 => ?_⟩
    refine ⟨a0, [(t1, o1'), (t2, o2')], g, rfl, e1, fun t ht => ?_, ?_, fun q H2 s2 => ?_⟩
    · rcases List.mem_cons.mp ht with z | z
      · subst z
        exact ⟨s1 _ _ p1.ht, fun p hp => ga p (p1.ord.1.mem_iff.mp hp)⟩
      · rw [List.mem_singleton.mp z]
        exact ⟨s1 _ _ p2.ht, fun p hp => gb p (p2.ord.1.mem_iff.mp hp)⟩
    · have h1 := p1.ord.1.length_eq
      have h2 := p2.ord.1.length_eq
      show o1'.length + (o2'.length + 0) < 64
      omega
    have s02 : Same H H2 := s1.trans s2
    refine ⟨_, rfl, v, t, rfl, bt.same s02, fun H3 s3 => ⟨_, rfl, ?_⟩⟩
    have s03 : Same H H3 := s02.trans s3
    rcases k with ⟨e, k⟩ | ⟨e, a, xs, rfl, ha, big, k⟩
    · rw [e]
      refine iteT ?_
      exact ⟨_, rfl, two_ok _ _, fun u H4 n4 s4 e4 => k u H4 (s03.trans s4) e4⟩
    · rw [e]
      refine iteF ?_
      have ha3 := s03.sqa ha
      have hb1' := s03 _ _ hb1
      have hb2' := s03 _ _ hb2
      rcases k with ⟨i0, x0, ex0, bad, before, k⟩ | ⟨ps, pa, rest, kB, kN, kF⟩
      · have li0 := (List.getElem?_eq_some_iff.mp ex0).1
        refine (enumA (K := K) ha3 (fun i σ H' => ∃ v3 v4 v5 v6 : Option V, σ = [some (.ref bd1), some (.ref bd2), some (.ref a), v3, v4, v5, v6] ∧ Same H3 H' ∧ i ≤ i0) ⟨_, _, _, _, rfl, Same.refl _, Nat.zero_le _⟩ (fun i σ' H' z => by obtain ⟨_, _, _, _, _, z, _⟩ := z; exact z) ?_ ?_).elim (fun ⟨q, w⟩ => .inl ⟨_, rfl, a, xs, rfl, q, w⟩) (fun ⟨q, w⟩ => .inr ⟨_, rfl, a, xs, rfl, q, w⟩)
        · rintro i x σ Ha T' Hb hxi ⟨v3, v4, v5, v6, rfl, sa, li⟩ nT sT eT
          have s3b : Same H3 Hb := sa.trans sT
          have s0b := s03.trans s3b
          refine ⟨T', _, rfl, .inl (.inl eT), rfl, _, _, rfl, _, _, rfl, rfl, ?_⟩
          obtain ⟨c, isp, hc⟩ : ∃ c, IsP K H rs1 rs2 x c ∧ (c = false → i = i0) ∧ (c = true → i < i0) := by
            by_cases z : i = i0
            · subst z
              rw [hxi] at ex0
              cases ex0
              exact ⟨false, bad, (fun _ => rfl), (fun h => nomatch h)⟩
            · exact ⟨true, before i x (by omega) hxi, (fun h => nomatch h), (fun _ => by omega)⟩
          refine ⟨_, rfl, _, rfl, bd1, CB, dx1, fb1, _, rfl, s3b _ _ hb1', TB.cl, TB.n_machine, lb1, _, rfl, bd2, CB, dx2, fb2, _, rfl, s3b _ _ hb2', TB.cl, TB.n_machine, lb2, x, c, m1, m2, o1, o2, rs1, rs2, b1, b2, rfl, isp.same s0b, M1.same s0b, M2.same s0b, fun H5 s5 => ?_⟩
          refine ⟨_, rfl, ?_⟩
          cases c with
          | true => exact iteF ⟨_, _, _, _, rfl, s3b.trans s5, hc.2 rfl⟩
          | false =>
            refine iteT ?_
            refine ⟨_, rfl, two_ok _ _, fun u H6 n6 s6 e6 => k u H6 (s0b.trans (s5.trans s6)) ?_⟩
            rw [← hc.1 rfl]
            exact e6
        · rintro σ H' ⟨v3, v4, v5, v6, rfl, sa, li⟩
          omega
      · have lps : xs.length = ps.length := pa.1
        refine (enumA (K := K) ha3 (fun i σ H' => ∃ v3 v4 v5 v6 : Option V, σ = [some (.ref bd1), some (.ref bd2), some (.ref a), v3, v4, v5, v6] ∧ Same H3 H') ⟨_, _, _, _, rfl, Same.refl _⟩ (fun i σ' H' z => by obtain ⟨_, _, _, _, _, z⟩ := z; exact z) ?_ ?_).elim (fun ⟨q, w⟩ => .inl ⟨_, rfl, a, xs, rfl, q, w⟩) (fun ⟨q, w⟩ => .inr ⟨_, rfl, a, xs, rfl, q, w⟩)
        · rintro i x σ Ha T' Hb hxi ⟨v3, v4, v5, v6, rfl, sa⟩ nT sT eT
          have s3b : Same H3 Hb := sa.trans sT
          have s0b := s03.trans s3b
          have hi : i < ps.length := by
            have := (List.getElem?_eq_some_iff.mp hxi).1
            omega
          obtain ⟨p, ep⟩ : ∃ p, ps[i]? = some p := ⟨_, List.getElem?_eq_getElem hi⟩
          obtain ⟨qa, va, sq⟩ := pa.2 i p ep
          rw [hxi] at va
          cases va
          have isp : IsP K H rs1 rs2 (.ref qa) true := PrsA.isP sq (rest p (List.mem_of_getElem? ep))
          refine ⟨T', _, rfl, .inl (.inl eT), rfl, _, _, rfl, _, _, rfl, rfl, ?_⟩
          refine ⟨_, rfl, _, rfl, bd1, CB, dx1, fb1, _, rfl, s3b _ _ hb1', TB.cl, TB.n_machine, lb1, _, rfl, bd2, CB, dx2, fb2, _, rfl, s3b _ _ hb2', TB.cl, TB.n_machine, lb2, _, true, m1, m2, o1, o2, rs1, rs2, b1, b2, rfl, isp.same s0b, M1.same s0b, M2.same s0b, fun H5 s5 => ?_⟩
          refine ⟨_, rfl, ?_⟩
          exact iteF ⟨_, _, _, _, rfl, s3b.trans s5⟩
        · rintro σ H4 ⟨v3, v4, v5, v6, rfl, s34⟩
          have s04 := s03.trans s34
          have ha4 := s34.sqa ha3
          refine ⟨bd1, bd2, a, xs, ps, v3, v4, v5, v6, rfl, ha4, pa.same s04, by omega, fun D H5 s45 eD => ?_⟩
          have s05 := s04.trans s45
          have memM : ∀ {q : Prw}, q ∈ growP [] ps ↔ q ∈ ps := fun {q} => by
            rw [growP_mem]
            simp
          refine ⟨_, rfl, bd1, CB, dx1, fb1, _, rfl, s05 _ _ hb1, TB.cl, TB.n_machine, lb1, _, rfl, bd2, CB, dx2, fb2, _, rfl, s05 _ _ hb2, TB.cl, TB.n_machine, lb2, m1, m2, o1, o2, rs1, rs2, b1, b2, rfl, M1.same s05, M2.same s05, fun pb H6 n6 s6 e6 => ?_⟩
          refine ⟨_, rfl, D, _, rfl, DGet.t (k := keyP (stp rs1 b1, stp rs2 b2)) (s6 _ _ eD) e6, _, rfl, ?_⟩
          rw [val_knT]
          have s06 := s05.trans s6
          by_cases hin : (stp rs1 b1, stp rs2 b2) ∈ growP [] ps
          · rw [decide_eq_true hin]
            refine iteF ?_
            have hin' := memM.mp hin
            refine (enumA (K := K) (s6.sqa (s45.sqa ha4)) (fun i σ H' => ∃ v3 v4 v6 : Option V, σ = [some (.ref bd1), some (.ref bd2), some (.ref a), v3, v4, some (.ref D), v6] ∧ Same H6 H' ∧ ∀ (j : Nat) (r : Prw), j < i → ps[j]? = some r → Kept rs1 rs2 ps r) ⟨_, _, _, rfl, Same.refl _, fun j r hj => absurd hj (Nat.not_lt_zero j)⟩ (fun i σ' H' z => by obtain ⟨_, _, _, _, z, _⟩ := z; exact z) ?_ ?_).elim (fun ⟨q, w⟩ => .inl ⟨_, rfl, a, xs, rfl, q, w⟩) (fun ⟨q, w⟩ => .inr ⟨_, rfl, a, xs, rfl, q, w⟩)
            · rintro i x σ Ha T' Hb hxi ⟨v3, v4, v6, rfl, sa, kept⟩ nT sT eT
              have s6b : Same H6 Hb := sa.trans sT
              have s0b := s06.trans s6b
              have hi : i < ps.length := by
                have := (List.getElem?_eq_some_iff.mp hxi).1
                omega
              obtain ⟨p, ep⟩ : ∃ p, ps[i]? = some p := ⟨_, List.getElem?_eq_getElem hi⟩
              obtain ⟨qa, va, sq⟩ := pa.2 i p ep
              rw [hxi] at va
              cases va
              have rp := rest p (List.mem_of_getElem? ep)
              obtain ⟨d1, g1⟩ : ∃ d1, rs1[p.1]? = some d1 := ⟨_, List.getElem?_eq_getElem rp.1⟩
              obtain ⟨d2, g2⟩ : ∃ d2, rs2[p.2]? = some d2 := ⟨_, List.getElem?_eq_getElem rp.2.1⟩
              obtain ⟨fS, fT⟩ := kF hin' i p d1 d2 ep g1 g2 kept
              refine ⟨T', _, rfl, .inl (.inl eT), rfl, _, _, rfl, _, _, rfl, rfl, ?_⟩
              refine ⟨_, rfl, bd1, CB, dx1, fb1, _, rfl, s0b _ _ hb1, TB.cl, TB.n_machine, lb1, _, rfl, bd2, CB, dx2, fb2, _, rfl, s0b _ _ hb2, TB.cl, TB.n_machine, lb2, _, rfl, _, rfl, m1, m2, qa, D, o1, o2, rs1, rs2, b1, b2, p, d1, d2, growP [] ps, rfl, M1.same s0b, M2.same s0b, s0b.sqa sq, g1, g2, fit1, fit2, few _ (List.mem_of_getElem? g1), tx1 _ (List.mem_of_getElem? g1), tx2 _ (List.mem_of_getElem? g2), s6b _ _ (s6 _ _ eD), fun ne u H7 s7 e7 => ?_, fun same all H7 s7 => ?_, fun same m q em nin before u x' H7 s7 e7 px => ?_⟩
              · refine ⟨_, rfl, rfl, _, rfl, ?_⟩
                rw [neNon]
                refine iteT ?_
                refine ⟨_, rfl, _, _, _, _, rfl, rfl, .inl (.inl e7), at0', _, rfl, two_ok _ _, fun ta H8 n8 s8 e8 => ?_⟩
                refine ⟨_, rfl, 1, rfl, u, _, rfl, .inl (.inl (s8 _ _ e7)), fun z => absurd z.1 (show ¬ HT.sIx 1 0 (some 1) = 0 by decide), fun _ tb n9 => ?_⟩
                have s9 := sameNew n9 (.tup (cutV [V.str "shows"] (some 1) none))
                have e9 : upd H8 tb (.tup (cutV [V.str "shows"] (some 1) none)) tb = some (.tup []) := upd_same
                refine ⟨ta, tb, _, [], rfl, rfl, SqT.of (s9 _ _ e8), SqT.of e9, by show 2 ≤ sizeLine; decide, (fun z => nomatch z), (fun _ _ => fS ne ta _ (s0b.trans (s7.trans (s8.trans s9))) ?_), fun _ z => absurd rfl z⟩
                exact s9 _ _ e8
              · refine ⟨_, rfl, rfl, _, rfl, ?_⟩
                refine iteF ?_
                refine ⟨_, _, _, rfl, s6b.trans s7, fun j r hj er => ?_⟩
                by_cases z : j = i
                · subst z
                  rw [ep] at er
                  cases er
                  exact ⟨d1, d2, g1, g2, same, fun q hq => memM.mp (all q hq)⟩
                · exact kept j r (by omega) er
              · refine ⟨_, rfl, rfl, _, rfl, ?_⟩
                rw [neNon]
                refine iteT ?_
                refine ⟨_, rfl, _, _, _, _, rfl, rfl, .inl (.inl e7), at0', _, rfl, two_ok _ _, fun ta H8 n8 s8 e8 => ?_⟩
                refine ⟨_, rfl, 1, rfl, u, _, rfl, .inl (.inl (s8 _ _ e7)), fun z => absurd z.1 (show ¬ HT.sIx 2 0 (some 1) = 0 by decide), fun _ tb n9 => ?_⟩
                have s9 := sameNew n9 (.tup (cutV [V.str "step", V.ref x'] (some 1) none))
                have e9 : upd H8 tb (.tup (cutV [V.str "step", V.ref x'] (some 1) none)) tb = some (.tup [V.ref x']) := upd_same
                refine ⟨ta, tb, _, [V.ref x'], rfl, rfl, SqT.of (s9 _ _ e8), SqT.of e9, by show 3 ≤ sizeLine; decide, (fun z => nomatch z), (fun _ z => nomatch z), fun _ _ tc nc => ?_⟩
                have e8' := s9 _ _ e8
                have sc := sameNew nc (.tup ([V.str "step", V.int (i : Int)] ++ [V.ref x']))
                refine fT same m q em (fun z => nin (memM.mpr z)) (fun j r hj er => memM.mp (before j r hj er)) tc x' _ (s0b.trans (s7.trans (s8.trans (s9.trans sc)))) upd_same ?_
                exact sc _ _ (s9 _ _ (s8 _ _ px))
            · rintro σ H7 ⟨v3, v4, v6, rfl, sa, kept⟩
              refine kN hin' (fun p hp => ?_) H7 (s06.trans sa)
              obtain ⟨j, hj, ej⟩ := List.mem_iff_getElem.mp hp
              exact kept j p (by rw [lps]; exact hj) (by rw [List.getElem?_eq_getElem hj, ej])
          · rw [decide_eq_false hin]
            refine iteT ?_
            exact ⟨by rw [sizeLine_eq]; exact Nat.succ_le_of_lt (by decide), fun u H7 n7 s7 e7 => kB (fun z => hin (memM.mpr z)) u H7 (s06.trans s7) e7⟩
end
end Mine

set_option maxRecDepth 100000
set_option maxHeartbeats 4000000
namespace Mine
open PySem L2
def pairP (p : Prw) : PyData := .tuple [.int (p.1 : Int), .int (p.2 : Int)]
theorem prs_all {K : PySem.W.Frag} {H : Hp} : ∀ {vs : List V} {ps : List Prw}, Prs H vs ps → DpAll K H vs (ps.map pairP)
  | [], [], _ => .nil
  | [], _ :: _, h => by have := h.1; simp at this
  | _ :: _, [], h => by have := h.1; simp at this
  | v :: vs, p :: ps, h => by
    obtain ⟨q, h1, h2⟩ := h.2 0 p rfl
    have e : v = .ref q := Option.some.inj h1
    subst e
    exact .cons (.tup (.inl (.inl h2)) (.cons (.int _) (.cons (.int _) .nil))) (prs_all ⟨by simpa using h.1, fun k r er => by simpa using h.2 (k + 1) r (by simpa using er)⟩)
theorem prs_lay : ∀ ps : List Prw, PyData.canLayAll0 (ps.map pairP) = true
  | [] => by simp [PyData.canLayAll0]
  | p :: ps => by
    show (PyData.canLay0 (pairP p) && PyData.canLayAll0 (ps.map pairP)) = true
    rw [prs_lay ps]
    simp [pairP, PyData.canLay0, PyData.canLayAll0]
theorem prs_dep : ∀ ps : List Prw, PyData.depthAll (ps.map pairP) ≤ 1
  | [] => by simp [PyData.depthAll]
  | p :: ps => by
    have := prs_dep ps
    simp [pairP, PyData.depth, PyData.depthAll, this]
theorem prs_shaped (ps : List Prw) : SeqAt.shaped (.list (ps.map pairP)) = true := by
  show (PyData.canLay0 (.list (ps.map pairP)) && decide (PyData.depth (.list (ps.map pairP)) ≤ 64)) = true
  rw [Bool.and_eq_true]
  refine ⟨by simp only [PyData.canLay0]; exact prs_lay ps, decide_eq_true ?_⟩
  have := prs_dep ps
  simp only [PyData.depth]
  omega
theorem prs_eqv (ps : List Prw) : PyData.eqv (.list (ps.map pairP)) (.list (ps.map pairP)) = true := SeqAt.eqv_refl _ (by simp only [PyData.canLay0]; exact prs_lay ps)
theorem prs_dp {K : PySem.W.Frag} {H : Hp} {a : Addr} {us : List V} {ps : List Prw} (e : H a = some (.lst us)) (p : Prs H us ps) : Dp K H (.ref a) (.list (ps.map pairP)) := .lst (SqL.of e) (prs_all p)
theorem leP_antisymm {p q : Prw} (h : leP p q) (k : leP q p) : p = q := by
  unfold leP at h k
  exact Prod.ext (by omega) (by omega)
theorem perm_sorted : ∀ {l1 l2 : List Prw}, l1.Perm l2 → l1.Pairwise leP → l2.Pairwise leP → l1 = l2
  | [], l2, h, _, _ => by
    have := h.length_eq
    exact (List.eq_nil_of_length_eq_zero (by simpa using this.symm)).symm
  | a :: l1, [], h, _, _ => by
    have := h.length_eq
    simp at this
  | a :: l1, b :: l2, h, s1, s2 => by
    obtain ⟨a1, a2⟩ := List.pairwise_cons.mp s1
    obtain ⟨b1, b2⟩ := List.pairwise_cons.mp s2
    have e : a = b := by
      have ha : a ∈ b :: l2 := h.mem_iff.mp List.mem_cons_self
      have hb : b ∈ a :: l1 := h.mem_iff.mpr List.mem_cons_self
      rcases List.mem_cons.mp ha with z | z
      · exact z
      · rcases List.mem_cons.mp hb with y | y
        · exact y.symm
        · exact leP_antisymm (a1 b y) (b1 a z)
    subst e
    rw [perm_sorted h.cons_inv a2 b2]
/-- the bodies of the law -/
def rsA : List RowD := [.go 1, .ask "coin" [2, 3, 4], .go 3, .go 2, .fin "good", .go 4]
def rsB : List RowD := [.ask "coin" [1, 1, 2], .go 1, .fin "good", .go 0]
def opsC : Ops := [("coin", 3)]
def clo : List Prw := [(1, 0), (2, 1), (4, 2)]
theorem stA0 : stp rsA 0 = 1 := by decide +kernel
theorem stB3 : stp rsB 3 = 0 := by decide +kernel
theorem behA : behind rsA rsB (.ask "coin" [2, 3, 4]) (.ask "coin" [1, 1, 2]) = [(2, 1), (2, 1), (4, 2)] := by decide +kernel
theorem behG : behind rsA rsB (.go 3) (.go 1) = [] := rfl
theorem behE : behind rsA rsB (.fin "good") (.fin "good") = [] := rfl
theorem pairsAB : pairsOf rsA rsB (1, 0) = clo := by
  have s1 : pairAt rsA rsB (1, 0) 1 = clo := (pairAt_step (d := 0) (p := (1, 0)) rfl rfl rfl).trans (by rw [behA]; show growP [(1, 0)] [(2, 1), (2, 1), (4, 2)] = _; decide)
  have s2 : pairAt rsA rsB (1, 0) 2 = clo := (pairAt_step (d := 1) (p := (2, 1)) (by rw [s1]; rfl) rfl rfl).trans (by rw [s1, behG]; rfl)
  have s3 : pairAt rsA rsB (1, 0) 3 = clo := (pairAt_step (d := 2) (p := (4, 2)) (by rw [s2]; rfl) rfl rfl).trans (by rw [s2, behE]; rfl)
  exact (pairAt_end (d := 3) (by show 3 ≤ 24; decide) (by rw [s3]; decide)).symm.trans s3
theorem keptAB : ∀ p ∈ clo, Kept rsA rsB clo p := by
  intro p hp
  simp only [clo, List.mem_cons, List.not_mem_nil, or_false] at hp
  rcases hp with rfl | rfl | rfl
  · exact ⟨_, _, rfl, rfl, rfl, fun q hq => by rw [behA] at hq; revert q; decide⟩
  · exact ⟨_, _, rfl, rfl, rfl, fun q hq => by rw [behG] at hq; cases hq⟩
  · exact ⟨_, _, rfl, rfl, rfl, fun q hq => by rw [behE] at hq; cases hq⟩
theorem bisAB : Bis rsA rsB (fun p => p ∈ clo) := fun p hp => keptAB p hp
theorem restAB : ∀ p ∈ clo, Rests rsA rsB p := by
  intro p hp
  simp only [clo, List.mem_cons, List.not_mem_nil, or_false] at hp
  rcases hp with rfl | rfl | rfl
  · exact ⟨by decide, by decide, by decide +kernel, by decide +kernel⟩
  · exact ⟨by decide, by decide, by decide +kernel, by decide +kernel⟩
  · exact ⟨by decide, by decide, by decide +kernel, by decide +kernel⟩
theorem okC : OkOps opsC := ⟨by decide, fun p hp => by
  rw [List.mem_singleton.mp hp]
  exact ⟨by decide +kernel, by decide, by decide⟩, by simp [opsC]⟩
theorem lookC : opLook opsC "coin" = some 3 := by decide +kernel
theorem rowsA : OkRows opsC rsA := by
  intro i d e
  match i, e with
  | 0, e => have := Option.some.inj e; subst this; exact ⟨by decide, by decide⟩
  | 1, e => have := Option.some.inj e; subst this; exact ⟨lookC, by decide, by decide⟩
  | 2, e => have := Option.some.inj e; subst this; exact ⟨by decide, by decide⟩
  | 3, e => have := Option.some.inj e; subst this; exact ⟨by decide, by decide⟩
  | 4, e => have := Option.some.inj e; subst this; exact ⟨by decide +kernel, by decide +kernel⟩
  | 5, e => have := Option.some.inj e; subst this; exact ⟨by decide, by decide⟩
theorem rowsB : OkRows opsC rsB := by
  intro i d e
  match i, e with
  | 0, e => have := Option.some.inj e; subst this; exact ⟨lookC, by decide, by decide⟩
  | 1, e => have := Option.some.inj e; subst this; exact ⟨by decide, by decide⟩
  | 2, e => have := Option.some.inj e; subst this; exact ⟨by decide +kernel, by decide +kernel⟩
  | 3, e => have := Option.some.inj e; subst this; exact ⟨by decide, by decide⟩
theorem okA : OkB opsC rsA 0 := ⟨okC, by decide, by decide, rowsA, by decide⟩
theorem okBB : OkB opsC rsB 3 := ⟨okC, by decide, by decide, rowsB, by decide⟩
theorem txA : TxOk rsA := by
  intro d hd
  simp only [rsA, List.mem_cons, List.not_mem_nil, or_false] at hd
  rcases hd with rfl | rfl | rfl | rfl | rfl | rfl <;> decide +kernel
theorem txB : TxOk rsB := by
  intro d hd
  simp only [rsB, List.mem_cons, List.not_mem_nil, or_false] at hd
  rcases hd with rfl | rfl | rfl | rfl <;> decide +kernel
theorem fewA : ∀ d ∈ rsA, (nextsD d).length ≤ 1000 := by
  intro d hd
  simp only [rsA, List.mem_cons, List.not_mem_nil, or_false] at hd
  rcases hd with rfl | rfl | rfl | rfl | rfl | rfl <;> decide
theorem goC : ∃ g : Str → Option Int, (∀ p ∈ opsC, g p.1 = some p.2) ∧ ∀ p ∈ opsC, g p.1 = some p.2 := by
  have : ∀ p ∈ opsC, opLook opsC p.1 = some p.2 := fun p hp => by
    rw [List.mem_singleton.mp hp]
    exact lookC
  exact ⟨_, this, this⟩
theorem alAB : Alike rsA rsB 0 3 (fun p => p ∈ clo) := ⟨rowsA.fit, rowsB.fit, by decide, by decide, txA, txB, fewA, bisAB, by rw [stA0, stB3]; exact List.mem_cons_self⟩
theorem cloSorted : clo.Pairwise leP := by
  unfold clo leP
  simp
/-- what is no pair -/
theorem no_val {K : PySem.W.Frag} {H : Hp} {v : V} {t : String} (b : Bt K H v t) (n : (t == "list" || t == "tuple") = false) : IsP K H rsA rsB v false := ⟨t, b, .inl ⟨n, rfl⟩⟩
theorem no_seq {K : PySem.W.Frag} {H : Hp} {a : Addr} {ys : List V} (h : SqA H a ys) (each : ∀ y ∈ ys, ∃ u, Bt K H y u) (n : pairL rsA rsB ys = false) : IsP K H rsA rsB (.ref a) false := by
  obtain ⟨t, b, e⟩ := btSeq (K := K) h
  exact ⟨t, b, .inr ⟨e, a, ys, rfl, h, each, n.symm⟩⟩
theorem btNon {K : PySem.W.Frag} {H : Hp} : Bt K H .non "NoneType" := ⟨.base .non, by decide⟩
theorem btBl {K : PySem.W.Frag} {H : Hp} (b : Bool) : Bt K H (.bl b) "bool" := ⟨.base (.bl b), by decide⟩
theorem btDict {K : PySem.W.Frag} {H : Hp} {a : Addr} {kvs : List (Key × V)} (h : H a = some (.dK kvs)) : Bt K H (.ref a) "dict" := ⟨.base (.dK h), by decide⟩
end Mine

set_option maxRecDepth 100000
set_option maxHeartbeats 2000000
/-! defs whose code objects have tables: the fact, the rule, the end of a row -/
namespace LamB
open PySem PySem.Spec PyProof.Rows L2 LamX
/-- a def as it stands behind the top, its code object at c -/
structure FunC (K : PySem.W.Frag) (x qual : Str) (st : Stmt) (f : Addr) (fd : FuncData) (c : Addr) : Prop where
  ex : ∃ (oc : Value) (od : Option Addr) (kV doc pm : Value) (an : Option Addr) (ct : Value) (osl : Array (Option Value)),
    fd = PySem.W.fnOf x qual (defArgs st) (defBody st) (defScope st) .none kV doc pm an (.ref c) ct ∧ K.lookup f = some ⟨oc, od, .func fd, osl⟩ ∧ PySem.W.codeIn K (.ref c) qual = true
  kp : PySem.W.keepIn K (.ref f) = true
theorem FunC.fn {K : PySem.W.Frag} {x qual : Str} {st : Stmt} {f c : Addr} {fd : FuncData} (F : FunC K x qual st f fd c) : Fun K x qual st f fd := by
  obtain ⟨⟨oc, od, kV, doc, pm, an, ct, osl, e1, e2, e3⟩, kp⟩ := F
  exact ⟨⟨oc, od, kV, doc, pm, an, _, ct, osl, e1, e2, e3⟩, kp⟩
section
variable {P : Program} {w : World} {K : PySem.W.Frag} {mg : Str → Option Value} {base : Heap}
theorem FunC.ok {x qual : Str} {st : Stmt} {f c : Addr} {fd : FuncData} {N ps : List Str} {k : Nat} {sp : Sp} (F : FunC K x qual st f fd c) (S : FnScope N ps (defScope st)) (len : ∀ vs H Q E, sp vs H Q E → vs.length = ps.length)
    (body : ∀ (A : Around) (outer : List Env) (s : Shared) (H : Hp) (vs : List V) (Q : VK) (E : XK), Room k (A.deeper (envOfC qual (defScope st) s.heap.objs.size f (.ref c))) → sp vs H Q E →
      ∃ t, PSs (cxOf CX0 P w K mg base N qual (defScope st) f (.ref c) A outer s H E).nox (defBody st) t ∧ t { nx := fun _ H' => Q .non H', rt := Q } (L2.start N vs) H) : FnOk P w K mg base CX0 (k + 1) f fd ps sp := by
  obtain ⟨oc, od, kV, doc, pm, an, ct, osl, rfl, lk, cd⟩ := F.ex
  refine fn_of lk cd S len fun A outer s H vs Q E hr h => ?_
  obtain ⟨t, ht, q⟩ := body A outer s H vs Q E hr h
  exact ⟨t, ht.nox, q⟩
end
/-- the tables of these defs are empty -/
def DefTabs (K : PySem.W.Frag) (mg : Str → Option Value) (names : List Str) (h : Heap) : Prop := ∀ nm ∈ names, ∀ (a c P : Addr) (o : Obj) (fd : FuncData), mg nm = some (.ref a) → K.lookup a = some o → o.data = .func fd → fd.code = .ref c → PySem.W.codeHdIn K c P = true →
  h.get? P = some { cls := .none, data := .fields #[] }
theorem codeHd_uniq {h : Heap} {c P P' : Addr} (a : PySem.W.CodeHd h c P) (b : h.TableAt c P' #[]) : P = P' := by
  obtain ⟨o, vs, _, _, _, _, _, _, _, a1, _, a3, a4, _⟩ := a
  obtain ⟨⟨o', vs', b1, _, b3, b4⟩, _⟩ := b
  rw [a1] at b1
  cases b1
  rw [a3] at b3
  cases b3
  rw [a4] at b4
  cases b4
  rfl
theorem walk_ofDefs {l : PySem.W.OpenLaw} {n k : Nat} {q : Program} {loose : List Str} {XP : (Str → Option Value) → Heap → Prop} {YP : World → Heap → Prop} {d : DefRec} {K : Params → PySem.W.Frag} {CX : World → CXT} {x : Str} {names : List Str}
    (hn : l.most = some n) (hn2 : n ≤ sizeLine) (hdf : d.params.defaults = []) (hr : Room k callerA) (hrec : (names.all fun nm => (recsOf q).any fun e => e.name == nm) = true) (hY : ∀ (w : World) (h : Heap), YP w h → (K w.params).In h)
    (F : ∀ (w : World) (mg : Str → Option Value) (fa : Addr) (h : Heap), YP w h → (K w.params).In h → h.Ns mainGlobals mg → mg d.name = some (.ref fa) → DefTabs (K w.params) mg names h → LawAtS l w (K w.params) (CX w) k n x mg fa h)
    (hCX : ∀ (w : World) (H : Hp) (s : Shared) (e : Value) (s' : Shared), CX w [] H s (fun _ _ _ => False) e s' → False) :
    PySem.W.WalkO q loose XP YP l.row.toRowW d [] (fun f vs => PySem.call f vs) := by
  refine Att.attach_callB hn hdf fun w s₀ s₁ mg mb fa o pm cd doc a vs ns G Y ho hd hcd hmg hobj hints hlen hbits hg => ?_
  have KX := hY w _ Y
  have tabs : DefTabs (K w.params) mg names s₁.heap := fun nm hnm a1 c P o1 fd1 k1 k2 k3 k4 k5 => by
    obtain ⟨dL, hm, hn1⟩ := List.any_eq_true.mp (List.all_eq_true.mp hrec nm hnm)
    have e1 : dL.name = nm := beq_iff_eq.mp hn1
    obtain ⟨a', o', fd', c', P', h1, h2, h3, h4, h5, h6⟩ := G.T.tab dL hm
    rw [e1, k1] at h1
    cases h1
    have g1 := KX _ _ k2
    rw [g1] at h2
    cases h2
    rw [k3] at h3
    cases h3
    rw [k4] at h4
    cases h4
    have e2 := codeHd_uniq (PySem.W.codeHd_of_K KX k5) h6
    subst e2
    exact h6.2
  obtain ⟨fd, cs, sp, hT, nT, C, hb, hsp, hF⟩ := F w mg fa _ Y KX G.T.g hmg tabs
  exact law_callTs KX G.T.g G.T.b G.T.builtins G.T.nolimit hg hT nT C G.T.bmain hobj hints (Nat.le_trans hlen hn2) hr hF hb (fun H hH hS => hsp H a ns hlen hbits hH hS) fun H e s' => hCX w H s₁ e s'
end LamB

set_option maxRecDepth 100000
set_option maxHeartbeats 2000000
/-! lambdas as values: made, kept, called by whoever holds them. The captured cells stand in a ground that is wider than the law's -/
namespace LamB
open PySem PySem.Spec PyProof.Rows L2 LamX NdefX
/-- a lambda: its words, its cells, its code object, its defaults -/
structure LF where
  qual : Str
  params : Arguments
  body : Expr
  scope : Scope
  cl : List (Str × Addr)
  c : Addr
  dV : Value
abbrev LF.obj (F : LF) (doc pm ctv : Value) : Obj := { cls := .type "function", data := .func (PySem.W.kdv_fn "<lambda>" F.qual F.params (.expr F.body) F.scope F.cl F.dV doc pm (.ref F.c) ctv) }
abbrev LF.nf (F : LF) : NF := ⟨"<lambda>", F.qual, F.params, [], F.scope, F.cl, F.c⟩
def LamO (f : Addr) (F : LF) : HO := .ext fun h => ∃ doc pm ctv : Value, h.get? f = some (F.obj doc pm ctv)
theorem lamO_at {P : Program} {w : World} {H : Hp} {h : Heap} {f : Addr} {F : LF} (ok : HOk P w H h) (e : H f = some (LamO f F)) : ∃ doc pm ctv : Value, h.get? f = some (F.obj doc pm ctv) := (ok f _ e).1
/-! ### a wider ground -/
structure Up (B B' : Heap) : Prop where
  keep : ∀ a o, B.get? a = some o → B'.get? a = some o
  size : B.objs.size ≤ B'.objs.size
theorem Up.refl (B : Heap) : Up B B := ⟨fun _ _ e => e, Nat.le_refl _⟩
theorem none_down {B B' : Heap} (u : Up B B') {L : Addr} (e : B'.get? L = none) : B.get? L = none := by
  cases q : B.get? L with
  | none => rfl
  | some o =>
    rw [u.keep L o q] at e
    cases e
theorem frames_down {B B' : Heap} (u : Up B B') {h : Heap} : ∀ {l : List Env}, h.FunFrames B' l → h.FunFrames B l
  | [], _ => trivial
  | env :: l, ⟨k, ⟨L, o, e1, e2, e3, e4⟩, r⟩ => ⟨k, ⟨L, o, e1, none_down u e2, e3, e4⟩, frames_down u r⟩
section
variable {P : Program} {w : World} {K : PySem.W.Frag} {mg : Str → Option Value} {B B' : Heap}
theorem Mod.up (m : Mod K mg B) (u : Up B B') : Mod K mg B' :=
  ⟨m.kin.keeps u.keep, m.glob.keeps u.keep, m.blt.elim fun mb q => ⟨mb, q.1.keeps u.keep, q.2⟩, m.nolimit.keeps u.keep⟩
theorem env_down {A : Around} {outer : List Env} {s : Shared} {H : Hp} (e : Env0 P w K mg B' A outer s H) (u : Up B B') (m : Mod K mg B) : Env0 P w K mg B A outer s H :=
  ⟨e.frames, m, fun b o q => e.bs b o (u.keep b o q), Nat.le_trans u.size e.bsz, frames_down u e.funs, e.frf, e.hok, e.bare⟩
theorem FnOk_up {CX : CXT} {k : Nat} {f : Addr} {fd : FuncData} {ps : List Str} {sp : Sp} (F : FnOk P w K mg B CX k f fd ps sp) (u : Up B B') (m : Mod K mg B) : FnOk P w K mg B' CX k f fd ps sp :=
  ⟨F.len, fun A outer s H args us vs Q E hr e => F.run A outer s H args us vs Q E hr (env_down e u m)⟩
end
/-- what captured cells hold, in the ground -/
structure CB (B : Heap) (cl : List (Str × Addr)) (fr : List Str) (ws : List (Option V)) : Prop where
  len : ws.length = fr.length
  all : ∀ y c, cl.lookup y = some c → ∃ v, B.IsCell c v
  inj : ∀ x y c, cl.lookup x = some c → cl.lookup y = some c → x = y
  has : ∀ (i : Nat) (y : Str), fr[i]? = some y → ∃ c, cl.lookup y = some c ∧ ∀ v, ws[i]? = some (some v) → ∃ u, L2.RelV v u ∧ B.IsCell c (some u)
theorem CB.at {B h : Heap} {H : Hp} {cl : List (Str × Addr)} {fr : List Str} {ws : List (Option V)} (C : CB B cl fr ws) (bs : ∀ b o, B.get? b = some o → h.get? b = some o ∧ H b = none) : CellsAt cl fr ws h H :=
  ⟨C.len, fun y c e => by
    obtain ⟨v, o, e1, e2⟩ := C.all y c e
    exact ⟨(bs c o e1).2, v, o, (bs c o e1).1, e2⟩, C.inj, fun i y e => by
    obtain ⟨c, e1, e2⟩ := C.has i y e
    refine ⟨c, e1, fun v q => ?_⟩
    obtain ⟨u, r, o, e3, e4⟩ := e2 v q
    exact ⟨u, r, o, (bs c o e3).1, e4⟩⟩
/-- the value at f answers a call by the promise sp, wherever G is true of the heap -/
structure Acts (P : Program) (w : World) (K : PySem.W.Frag) (mg : Str → Option Value) (B : Heap) (CX : CXT) (k : Nat) (f : Addr) (G : Hp → Prop) (sp : Sp) : Prop where
  fn : ∀ (H : Hp) (h : Heap), HOk P w H h → G H → PySem.W.FnAt f h
  run : ∀ (A : Around) (outer : List Env) (s : Shared) (H : Hp) (us : List Value) (vs : List V) (Q : VK) (E : XK), Room k A → Env0 P w K mg B A outer s H → G H → Vals vs us → sp vs H Q E →
    codeAny (model P w) A (.call (.ref f) ⟨us, []⟩) (CR CX outer P w H s Q E) s
/-- the heap holds the lambda, its code and its defaults -/
def LamH (f : Addr) (F : LF) (D : Hp → Prop) (H : Hp) : Prop := H f = some (LamO f F) ∧ H F.c = some (CodeO F.c F.qual) ∧ D H
section
variable {CX : CXT} {P : Program} {w : World} {K : PySem.W.Frag} {mg : Str → Option Value} {B : Heap} {N ps fr : List Str} {F : LF} {f : Addr} {k n : Nat} {ws : List (Option V)} {dvs : List V} {D : Hp → Prop} {tb : XK → TE}
/-- THE RULE: a lambda by its body -/
theorem acts_of (S : NScope N ps fr F.scope) (C : CB B F.cl fr ws) (hn : n + dvs.length = ps.length)
    (hb : ∀ (doc pm ctv : Value) (s : Shared) (H : Hp) (us : List Value), HOk P w H s.heap → D H → us.length = n → ∃ ds, Vals dvs ds ∧ BindsTo s (PySem.W.kdv_fn "<lambda>" F.qual F.params (.expr F.body) F.scope F.cl F.dV doc pm (.ref F.c) ctv) ⟨us, []⟩ (ps.zip (us ++ ds)))
    (hbody : ∀ (A : Around) (outer : List Env) (s : Shared) (H : Hp) (E : XK), Room k (A.deeper (envF F.nf f s.heap.objs.size)) → PE (ncx CX P w K mg B N F.nf f A outer s H E) F.body (tb E)) :
    Acts P w K mg B CX (k + 1) f (LamH f F D) (fun vs H Q E => vs.length = n ∧ tb E (startF N (vs ++ dvs) ws) H Q) := by
  refine ⟨fun H h ok g => ?_, fun A outer s H us vs Q E hr e0 g r sp => ?_⟩
  · obtain ⟨doc, pm, ctv, e⟩ := lamO_at ok g.1
    exact ⟨_, _, _, _, e⟩
  · obtain ⟨hl, ht⟩ := sp
    obtain ⟨doc, pm, ctv, e⟩ := lamO_at e0.hok g.1
    have noLim : s.heap.NoLimit := e0.mod.nolimit.keeps fun b o q => (e0.bs b o q).1
    obtain ⟨ds, rd, bd⟩ := hb doc pm ctv s H us e0.hok g.2.2 (r.length.symm.trans hl)
    have r2 : Vals (vs ++ dvs) (us ++ ds) := r.append rd
    have hlen : (vs ++ dvs).length = ps.length := by rw [List.length_append, hl]; exact hn
    refine PySem.W.kla_callFunE hr.depth e rfl S.co S.gen rfl (codeO_at e0.hok g.2.1) ?_
    refine bd _ _ _ _ ?_
    refine wpAny_newFunctionEnv S.nocell (fun ⟨y, _⟩ hy => S.par y (List.of_mem_zip hy).1) (fun h₁ ns sb => ⟨noLim.fresh _ sb, ?_⟩) S.kind
    show codeAny _ _ (.expr F.body (envF F.nf f s.heap.objs.size)) _ _
    have kp : ∀ b o, s.heap.get? b = some o → h₁.get? b = some o := fun b o q => sb.extBut b o (Nat.ne_of_lt (Heap.lt_size q)) (Heap.get?_push_of_some _ q)
    have J : Inv (ncx CX P w K mg B N F.nf f A outer s H E) [] (startF N (vs ++ dvs) ws) H { s with heap := h₁, toks := s.toks + (ps.zip (us ++ ds)).length } := inv_startN (F := F.nf) S hr.hd e0 hlen r2 (C.at e0.bs) ns kp
    refine PySem.W.kla_codeExpr (wpAny_mono ((hbody A outer s H E (hr.deeper _)).run [] _ _ H Q J ht) (fun v s' q => ?_) fun _ _ q => q)
    obtain ⟨x, H', J', rv, q⟩ := q
    exact ⟨x, H', J'.os, J'.bare, J'.base, J'.hok, rv, q⟩
end
/-! ### the call -/
/-- x(..), the i-th slot holding something that acts -/
def tAct (P : Program) (w : World) (K : PySem.W.Frag) (mg : Str → Option Value) (B : Heap) (CX : CXT) (k i : Nat) (E : XK) (t : TA) : TE := fun σ H Q => ∃ (f : Addr) (G : Hp → Prop) (sp : Sp), σ[i]? = some (some (.ref f)) ∧ Acts P w K mg B CX k f G sp ∧ G H ∧
  t σ H fun vs H1 => G H1 ∧ sp vs H1 Q E
section
variable {X : Cx} {CX : CXT} {i j k : Nat} {x : Str} {E : XK} {t : TA} {e : Expr} {es : List Expr} {p pos : Pos} {pins : List (Addr × Obj)} {σ : L2.St} {H : Hp} {s : Shared}
theorem run_act {Q : VK} {f : Addr} {G : Hp → Prop} {sp : Sp} {us : List Value} {vs : List V} (a : Acts X.prog X.w X.K X.mg X.base CX k f G sp) (hr : Room k X.A) (hx : Passes CX X E) (I : Inv X pins σ H s) (g : G H) (r : Vals vs us) (q : sp vs H Q E) :
    wpAny (model X.prog X.w) X.A (call (.ref f) us) (EP X pins σ Q) X.xe s := by
  refine wpAny_call (codeAny_mono (a.run X.A X.stack s H us vs Q E hr I.env0 g r q) fun res s' z => ?_)
  match res, z with
  | .error _, z => exact hx pins σ H s _ s' I z
  | .ok (.ret _), z => exact I.after z
theorem pe_act (hr : Room k X.A) (hx : Passes CX X E) (hN : X.N[i]? = some x) (hv : Vis X.env.scope x) (ha : PA X (e :: es) t)
    (hd : (x == ("__debug__" : Str)) = false := by decide) (hcd : (x == ("__classdict__" : Str)) = false := by decide)
    (he : starEach (e :: es) X.env = (false, eval e X.env) :: starEach es X.env := by rfl) (hpl : (backTo pos (starEach es X.env)).any (·.1) = false := by rfl) :
    PE X (.Call (.Name x p) (e :: es) [] pos) (tAct X.prog X.w X.K X.mg X.base CX k i E t) := by
  refine ⟨fun pins s σ H Q I ⟨f, G, sp, hs, a, g, ht⟩ => ?_⟩
  refine wpAny_Call_Name_kw (thn ((pe_var (pos := p) hN hv hd hcd).run pins s σ H (fun v H1 => v = .ref f ∧ H1 = H) I ⟨.ref f, hs, rfl, rfl⟩) fun u s1 ⟨v, H1, I1, r1, z⟩ => ?_)
  obtain ⟨z1, z2⟩ := z
  subst z1
  rw [z2] at I1
  obtain rfl : u = Value.ref f := r1
  refine PySem.W.callWith_F (first := []) (a.fn H _ I1.hok g) (thn (ha.run pos pins s1 σ H _ I1 ht) fun us s2 ⟨vs, H2, I2, r, g2, q⟩ => ⟨a.fn H2 _ I2.hok g2, ?_⟩) he hpl
  exact run_act a hr hx I2 g2 r q
theorem pe_act0 (hr : Room k X.A) (hx : Passes CX X E) (hN : X.N[i]? = some x) (hv : Vis X.env.scope x)
    (hd : (x == ("__debug__" : Str)) = false := by decide) (hcd : (x == ("__classdict__" : Str)) = false := by decide) :
    PE X (.Call (.Name x p) [] [] pos) (tAct X.prog X.w X.K X.mg X.base CX k i E tNil) := by
  refine ⟨fun pins s σ H Q I ⟨f, G, sp, hs, a, g, g2, q⟩ => ?_⟩
  refine wpAny_Call_Name_kw (thn ((pe_var (pos := p) hN hv hd hcd).run pins s σ H (fun v H1 => v = .ref f ∧ H1 = H) I ⟨.ref f, hs, rfl, rfl⟩) fun u s1 ⟨v, H1, I1, r1, z⟩ => ?_)
  obtain ⟨z1, z2⟩ := z
  subst z1
  rw [z2] at I1
  obtain rfl : u = Value.ref f := r1
  refine PySem.W.callWith_F0 (first := []) (a.fn H _ I1.hok g) ?_
  exact run_act a hr hx I1 g2 .nil q
end
/-- .. in a try: what is wanted of an exception hangs on the slots -/
def tActS (P : Program) (w : World) (K : PySem.W.Frag) (mg : Str → Option Value) (B : Heap) (CX : CXT) (k i : Nat) (E : L2.St → XK) : TE := fun σ H Q => ∃ (f : Addr) (G : Hp → Prop) (sp : Sp), σ[i]? = some (some (.ref f)) ∧ Acts P w K mg B CX k f G sp ∧ G H ∧ sp [] H Q (E σ)
section
variable {X : Cx} {CX : CXT} {i j k : Nat} {x : Str} {E : L2.St → XK} {p pos : Pos}
theorem pe_actS (hr : Room k X.A) (hx : ∀ σ, PassesAt CX X σ (E σ)) (hN : X.N[i]? = some x) (hv : Vis X.env.scope x)
    (hd : (x == ("__debug__" : Str)) = false := by decide) (hcd : (x == ("__classdict__" : Str)) = false := by decide) :
    PE X (.Call (.Name x p) [] [] pos) (tActS X.prog X.w X.K X.mg X.base CX k i E) := by
  refine ⟨fun pins s σ H Q I ⟨f, G, sp, hs, a, g, q⟩ => ?_⟩
  refine wpAny_Call_Name_kw (thn ((pe_var (pos := p) hN hv hd hcd).run pins s σ H (fun v H1 => v = .ref f ∧ H1 = H) I ⟨.ref f, hs, rfl, rfl⟩) fun u s1 ⟨v, H1, I1, r1, z⟩ => ?_)
  obtain ⟨z1, z2⟩ := z
  subst z1
  rw [z2] at I1
  obtain rfl : u = Value.ref f := r1
  refine PySem.W.callWith_F0 (first := []) (a.fn H _ I1.hok g) ?_
  refine wpAny_call (codeAny_mono (a.run X.A X.stack s1 H [] [] Q (E σ) hr I1.env0 g .nil q) fun res s' z => ?_)
  match res, z with
  | .error _, z => exact hx σ _ _ _ _ _ I1 z
  | .ok (.ret _), z => exact I1.after z
end
/-! ### the making -/
section
variable {X : Cx} {pins : List (Addr × Obj)} {σ : L2.St} {H : Hp} {s : Shared}
theorem inv_lam {F : LF} {t' : Nat} {doc pm ctv : Value} (I : Inv X pins σ H s) :
    Inv X pins σ (upd H s.heap.objs.size (LamO s.heap.objs.size F)) { s with heap := s.heap.push (F.obj doc pm ctv), toks := t' } := by
  have e : (s.heap.push (F.obj doc pm ctv)).get? s.heap.objs.size = some (F.obj doc pm ctv) := Heap.get?_push_size _ rfl
  exact I.laid (a := s.heap.objs.size) (fun b u q => Heap.get?_push_of_some _ q) (Nat.le_refl _) ⟨⟨doc, pm, ctv, e⟩, ⟨_, e⟩, fun h1 h2 ⟨a, b, c, z⟩ st => ⟨a, b, c, st _ z⟩⟩
/-- all but the object at P stays -/
def ButT (P : Addr) (H H' : Hp) : Prop := ∀ b o, b ≠ P → H b = some o → H' b = some o
theorem ButT.refl (P : Addr) (H : Hp) : ButT P H H := fun _ _ _ e => e
theorem ButT.trans {P : Addr} {H H1 H2 : Hp} (a : ButT P H H1) (b : ButT P H1 H2) : ButT P H H2 := fun c o n e => b c o n (a c o n e)
theorem ButT.of {P : Addr} {H H' : Hp} (s : Same H H') : ButT P H H' := fun b o _ e => s b o e
theorem lam_tail {T : List (Addr × Str)} {c P : Addr} {params : Arguments} {body : Expr} {scope : Scope} {pos : Pos} {dV : Value} {E Q : Value → Shared → Prop} (I : Inv X pins σ H s) (TB : TabB X.base X.mg c P) (hcode : X.env.code = .ref c)
    (hm : (P, X.env.qual ++ "<lambda>") ∈ T) (hu : ∀ p ∈ T, p.1 = P → p.2 = X.env.qual ++ "<lambda>") (hT : Tabs T H) (hfree : ∀ y ∈ scope.names, y.2 = .free → ∃ c, X.env.cells.lookup y.1 = some c)
    (go : ∀ (f c' : Addr) (H1 : Hp) (s' : Shared), Inv X pins σ H1 s' → ButT P H H1 → Tabs T H1 → H f = none → H1 f = some (LamO f ⟨X.env.qual ++ "<lambda>", params, body, scope, cloFrom X.env.cells scope.names [], c', dV⟩) → H1 c' = some (CodeO c' (X.env.qual ++ "<lambda>")) → Q (.ref f) s') :
    wpAny (model X.prog X.w) X.A (makeTail "<lambda>" (X.env.qual ++ "<lambda>") params (.expr body) scope X.env dV .none none pos pos.line) Q E s := by
  obtain ⟨qs, tabP, trip, names⟩ := hT _ hm
  have bP : s.heap.BuiltinsAt X.mg P := TB.bm.keeps I.bk
  have atP : s.heap.get? P = some { cls := .none, data := .fields qs } := I.hok P _ tabP
  cases hc : codeAmong pos qs.toList with
  | none =>
    refine PySem.W.kdv_makeTail (mg := X.mg) (c := c) (P := P) (ps := qs) (closure_ok hfree) I.ok.glob (I.mod.glob.keeps I.bk) hcode (TB.code.keeps I.bk) atP trip hc TB.gP bP fun c' ctv doc h' tk ext ge lt rec tab => ?_
    obtain ⟨c2, oc, fs, tq, e2, e3, e4, e5⟩ := rec
    cases e2
    have newC : H c' = none := I.hok.fresh ge
    have J1 := inv_table (t' := tk) (more := #[rawInt pos.line, rawInt pos.col, .ref c']) (h' := h') I tabP (fun b o nb q => ext b o nb q) tab ge ⟨oc, fs, tq, e3, e4, e5⟩
    generalize hG : upd (upd H P (.tbl (qs ++ #[rawInt pos.line, rawInt pos.col, .ref c']))) c' (CodeO c' (X.env.qual ++ "<lambda>")) = G at J1
    have out : ExtN H G := fun b o q nt => by
      rw [← hG, upd_ne (ne_of_none q newC), upd_ne (fun z => nt qs (Option.some.inj (q.symm.trans (by rw [z]; exact tabP))))]
      exact q
    have outP : ButT P H G := fun b o nb q => by
      rw [← hG, upd_ne (ne_of_none q newC), upd_ne nb]
      exact q
    have atC : G c' = some (CodeO c' (X.env.qual ++ "<lambda>")) := by rw [← hG]; exact upd_same
    have tabs : Tabs T G := fun p hp => by
      by_cases hb : p.1 = P
      · rw [hu p hp hb, hb]
        refine ⟨_, by rw [← hG, upd_ne (ne_of_none tabP newC), upd_same], by rw [Array.toList_append]; exact PySem.TriplesOk_snoc _ _ _ _ trip, fun p' cv q => ?_⟩
        rw [Array.toList_append] at q
        rcases among_app _ trip q with z | z
        · obtain ⟨c0, z1, z2⟩ := names p' cv z
          exact ⟨c0, z1, out _ _ z2 codeO_ne⟩
        · exact ⟨c', z, atC⟩
      · obtain ⟨qs', z1, z2, z3⟩ := hT p hp
        refine ⟨qs', by rw [← hG, upd_ne (ne_of_none z1 newC), upd_ne hb]; exact z1, z2, fun p' cv q => ?_⟩
        obtain ⟨c0, y1, y2⟩ := z3 p' cv q
        exact ⟨c0, y1, out _ _ y2 codeO_ne⟩
    have newF := J1.hok.fresh (Nat.le_refl _)
    have J2 := inv_lam (F := ⟨X.env.qual ++ "<lambda>", params, body, scope, cloFrom X.env.cells scope.names [], c', dV⟩) (t' := tk) (doc := doc) (pm := (X.mg "__name__").getD .none) (ctv := ctv) J1
    exact go h'.objs.size c' _ _ J2 (fun b o nb q => (upd_ne (ne_of_none (outP b o nb q) newF)).trans (outP b o nb q)) (tabs.ext fun b o q => (upd_ne (ne_of_none q newF)).trans q)
      (I.hok.fresh (Nat.le_trans ge (Nat.le_of_lt lt))) upd_same ((upd_ne (Nat.ne_of_lt lt)).trans atC)
  | some cv =>
    obtain ⟨c', e, atC⟩ := names pos cv hc
    subst e
    refine PySem.W.kdv_makeTailHit (mg := X.mg) (c := c) (P := P) (ps := qs) (closure_ok hfree) I.ok.glob (I.mod.glob.keeps I.bk) hcode (TB.code.keeps I.bk) atP trip hc bP fun ctv doc h' tk ext sz => ?_
    have J1 : Inv X pins σ H { s with heap := h', toks := tk } := I.kept ext
    have newF : H h'.objs.size = none := J1.hok.fresh (Nat.le_refl _)
    have J2 := inv_lam (F := ⟨X.env.qual ++ "<lambda>", params, body, scope, cloFrom X.env.cells scope.names [], c', dV⟩) (t' := tk) (doc := doc) (pm := (X.mg "__name__").getD .none) (ctv := ctv) J1
    exact go h'.objs.size c' _ _ J2 (fun b o _ q => (upd_ne (ne_of_none q newF)).trans q) (hT.ext fun b o q => (upd_ne (ne_of_none q newF)).trans q) newF upd_same ((upd_ne (ne_of_none atC newF)).trans atC)
/-- a lambda without defaults -/
def tLamV (P : Addr) (T : List (Addr × Str)) (mk : Addr → LF) : TE := fun _ H Q => Tabs T H ∧ ∀ (f c' : Addr) (H1 : Hp), ButT P H H1 → Tabs T H1 → H f = none → H1 f = some (LamO f (mk c')) → H1 c' = some (CodeO c' (mk c').qual) → Q (.ref f) H1
theorem pe_lamV {T : List (Addr × Str)} {c P : Addr} {params : Arguments} {body : Expr} {scope : Scope} {pos : Pos} (TB : TabB X.base X.mg c P) (hcode : X.env.code = .ref c)
    (hm : (P, X.env.qual ++ "<lambda>") ∈ T) (hu : ∀ p ∈ T, p.1 = P → p.2 = X.env.qual ++ "<lambda>") (L : ∀ y ∈ scope.names, y.2 = .free → X.env.scope.names.lookup y.1 = some .cell ∨ X.env.scope.names.lookup y.1 = some .free) (hdef : defaultsOf params X.env = ([], [])) :
    PE X (.Lambda params body scope pos) (tLamV P T fun c' => ⟨X.env.qual ++ "<lambda>", params, body, scope, cloFrom X.env.cells scope.names [], c', .none⟩) := by
  refine ⟨fun pins s σ H Q I ⟨hT, h⟩ => ?_⟩
  refine PySem.W.kla_eval hdef ?_
  rw [makeFunction_eq]
  simp only [List.zip_nil_right, List.filterMap_nil, List.isEmpty_nil, if_true, pure_bind]
  exact lam_tail I TB hcode hm hu hT (fun y hy z => (L y hy z).elim (fun q => I.ok.has _ (.inl q)) fun q => I.ok.has _ (.inr q)) fun f c' H1 s' J x1 x2 x3 x4 x5 => ⟨.ref f, H1, J, rfl, h f c' H1 x1 x2 x3 x4 x5⟩
/-- a lambda with one default -/
def tLamD (P : Addr) (T : List (Addr × Str)) (te : TE) (mk : Addr → Addr → LF) : TE := fun σ H Q => te σ H fun v H0 => Tabs T H0 ∧ ∀ (f c' t : Addr) (H1 : Hp), ButT P H0 H1 → Tabs T H1 → H0 t = none → H1 t = some (.tup [v]) → H0 f = none → H1 f = some (LamO f (mk t c')) → H1 c' = some (CodeO c' (mk t c').qual) → Q (.ref f) H1
theorem pe_lamD {T : List (Addr × Str)} {c P : Addr} {params : Arguments} {body e : Expr} {scope : Scope} {pos : Pos} {te : TE} (TB : TabB X.base X.mg c P) (hcode : X.env.code = .ref c)
    (hm : (P, X.env.qual ++ "<lambda>") ∈ T) (hu : ∀ p ∈ T, p.1 = P → p.2 = X.env.qual ++ "<lambda>") (L : ∀ y ∈ scope.names, y.2 = .free → X.env.scope.names.lookup y.1 = some .cell ∨ X.env.scope.names.lookup y.1 = some .free) (hd : params.defaults = [e]) (hk : params.kw_defaults = []) (he : PE X e te) :
    PE X (.Lambda params body scope pos) (tLamD P T te fun t c' => ⟨X.env.qual ++ "<lambda>", params, body, scope, cloFrom X.env.cells scope.names [], c', .ref t⟩) := by
  refine ⟨fun pins s σ H Q I h => ?_⟩
  refine PySem.W.kdv_lam (by rw [hd]; rfl) hk ?_
  rw [hd]
  refine PySem.W.kdv_all1 (thn (he.run pins s σ H _ I h) fun u s1 ⟨v, H0, J, r, hT, q⟩ => PySem.W.kdv_all0 ?_)
  rw [makeFunction_eq]
  simp only [List.zip_nil_right, List.filterMap_nil, List.isEmpty_nil, List.isEmpty_cons, if_true, pure_bind, Bool.false_eq_true, if_false]
  refine wpAny_bind (wpAny_newTextTuple ?_)
  have newT : H0 s1.heap.objs.size = none := J.hok.fresh (Nat.le_refl _)
  have atT : (s1.heap.push ({ cls := .type "tuple", data := .seq [u].toArray } : Obj)).get? s1.heap.objs.size = some ({ cls := .type "tuple", data := .seq [u].toArray } : Obj) := Heap.get?_push_size _ rfl
  have J1 : Inv X pins σ (upd H0 s1.heap.objs.size (.tup [v])) { s1 with heap := s1.heap.push ({ cls := .type "tuple", data := .seq [u].toArray } : Obj), toks := s1.toks } :=
    J.laid (t' := s1.toks) (fun b o q => Heap.get?_push_of_some _ q) (Nat.le_refl _) ⟨by show 1 ≤ sizeLine; decide, [u], .cons r .nil, _, atT, rfl, _, rfl⟩
  have grow : ∀ b o, H0 b = some o → upd H0 s1.heap.objs.size (.tup [v]) b = some o := fun b o q => (upd_ne (ne_of_none q newT)).trans q
  refine lam_tail J1 TB hcode hm hu (hT.ext grow) (fun y hy z => (L y hy z).elim (fun q => I.ok.has _ (.inl q)) fun q => I.ok.has _ (.inr q)) fun f c' H1 s' J2 x1 x2 x3 x4 x5 => ⟨.ref f, H1, J2, rfl, q f c' _ H1 (fun b o nb z => x1 b o nb (grow b o z)) x2 newT (x1 _ _ ?_ upd_same) ?_ x4 x5⟩
  · intro z
    obtain ⟨qs, z1, _⟩ := hT _ hm
    have z1 : H0 P = some (.tbl qs) := z1
    rw [← z, newT] at z1
    cases z1
  · cases z : H0 f with
    | none => rfl
    | some o =>
      rw [grow f o z] at x3
      cases x3
end
end LamB

set_option maxRecDepth 100000
set_option maxHeartbeats 2000000
/-! a list comprehension whose element knows the state at which the block begins (what cells hold that the block itself doesn't name) -/
namespace LamB
open PySem PySem.Spec PyProof.Rows L2 LamX NdefX
abbrev blkCells (X : Cx) (s : Shared) (scope : Scope) : List (Str × Addr) := cellsFrom (s.heap.objs.size + 1) scope.names (cloFrom X.env.cells scope.names [])
/-- the block's context when it begins at s -/
abbrev blkI (X : Cx) (s : Shared) (H : Hp) (scope : Scope) (C : Addr) (fp : List Addr) : Cx := X.blk s H scope (compEnvC scope (blkCells X s scope) C X.env) fp
theorem pe_lcI {X : Cx} {elt tg iter : Expr} {scope : Scope} {own : List (Str × Nat)} {pos : Pos} {wi : TI} {g : TG} {te : L2.St → TE} (hc : X.calm = true) (hN : X.N.Nodup) (hi : PI X tg iter wi) (ok : BlkOk X.N X.env.scope scope own)
    (hg : ∀ (s : Shared) (H : Hp) (C : Addr) (cl : List (Str × Addr)) (fp : List Addr), PG (X.blk s H scope (compEnvC scope cl C X.env) fp) tg g)
    (he : ∀ (pins : List (Addr × Obj)) (σ : L2.St) (s : Shared) (H : Hp) (C : Addr) (fp : List Addr), Inv X pins σ H s → (∀ b ∈ fp, FpOk X pins H b) → PE (blkI X s H scope C fp) elt (te σ)) (hs : ∀ x, foldedSetIterable iter X.env x = pure x := by intro _; rfl) :
    PE X (.ListComp elt [⟨tg, iter, [], 0⟩] scope pos) (fun σ H Q => tLc wi g tYes (te σ) (own.map (·.2)) σ H Q) := by
  refine ⟨fun pins s σ H Q I0 reading => ?_⟩
  rw [eval_ListComp]
  have frees : ∀ y ∈ scope.names, y.2 = .free → ∃ c, X.env.cells.lookup y.1 = some c := fun y hy z => (ok.free y hy z).elim (fun q => I0.ok.has _ (.inl q)) fun q => I0.ok.has _ (.inr q)
  refine wpAny_comprehension_free (use := none) rfl hs (closure_ok frees) ok.kind (fun y hy z => by rw [ok.uniq y hy, z]) (thn (hi.run pins s σ H _ I0 reading) fun _ sa ha => thn ha fun _ sb hb => ?_)
  obtain ⟨it, fp, tn, J, Hb, rfl, Ib, TT, stb, fpb, rest⟩ := hb
  refine wpAny_newObj_type (newEnv_comp ?_) (Nat.zero_le _)
  obtain ⟨L, hL⟩ : ∃ L, L = sb.heap.objs.size := ⟨_, rfl⟩
  have freshL : Hb L = none := Ib.hok.fresh (Nat.le_of_eq hL.symm)
  obtain ⟨W, ⟨m0, wBegin⟩, turns⟩ := rest L freshL
  rw [← hL]
  obtain ⟨sc, hsc⟩ : ∃ sc : Shared, sc = { sb with heap := sb.heap.push { cls := .type "list", data := .seq ([] : List Value).toArray } } := ⟨_, rfl⟩
  have heapC : sc.heap = sb.heap.push { cls := .type "list", data := .seq ([] : List Value).toArray } := by rw [hsc]
  have more : ∀ b o, sb.heap.get? b = some o → sc.heap.get? b = some o := fun b o q => by rw [heapC]; exact Heap.get?_push_of_some _ q
  obtain ⟨Hc, hHc⟩ : ∃ Hc, Hc = upd Hb L (.lst []) := ⟨_, rfl⟩
  have Ic : Inv X pins σ Hc sc := by
    rw [hHc, hsc]
    exact Ib.laid (t' := sb.toks) (fun b o q => Heap.get?_push_of_some _ q) (Nat.le_of_eq hL.symm) ⟨Nat.zero_le _, [], 0, .nil, by rw [hL]; exact Heap.get?_push_size _ rfl⟩
  rw [← hHc] at wBegin
  have small : ∀ b ∈ fp, b < sb.heap.objs.size := fun b hb => (TT.obj _ _ stb b hb).elim fun o q => Heap.lt_size q.1
  have fpc : ∀ b ∈ fp, FpOk X pins Hc b ∧ b < sc.heap.objs.size := fun b hb =>
    ⟨⟨by rw [hHc, upd_ne (by rw [hL]; exact Nat.ne_of_lt (small b hb))]; exact (fpb b hb).1, (fpb b hb).2⟩, by rw [heapC, Heap.size_push]; exact Nat.lt_succ_of_lt (small b hb)⟩
  have stc : tn 0 sc.heap := TT.keep _ _ _ stb fun b _ o q => more b o q
  have Id := block_start Ic ok hN fpc
  have pg := hg sc Hc sc.heap.objs.size (blkCells X sc scope) fp
  have pe := he pins σ sc Hc sc.heap.objs.size fp Ic fun b hb => (fpc b hb).1
  show codeAny _ _ (.compStart (.ListComp elt [⟨tg, iter, [], 0⟩] scope pos) 0 (.ref it) (.ref L) (compEnvC scope (cellsFrom (({ sb with heap := sb.heap.push { cls := .type "list", data := .seq ([] : List Value).toArray } } : Shared).heap.objs.size + 1) scope.names (cloFrom X.env.cells scope.names [])) _ X.env)) _ _
  rw [← hsc]
  obtain ⟨ce, hce⟩ : ∃ ce, ce = compEnvC scope (blkCells X sc scope) sc.heap.objs.size X.env := ⟨_, rfl⟩
  have ceL : ce.locals = sc.heap.objs.size := by rw [hce]; rfl
  rw [← hce] at Id pg
  rw [show blkI X sc Hc scope sc.heap.objs.size fp = X.blk sc Hc scope ce fp by rw [hce]] at pe
  show codeAny _ _ (.compStart (.ListComp elt [⟨tg, iter, [], 0⟩] scope pos) 0 (.ref it) (.ref L) (compEnvC scope (blkCells X sc scope) sc.heap.objs.size X.env)) (compPost (model X.prog X.w) X.A X.xe none _ (.ref L) sc.heap.objs.size) { sc with heap := pushCells (sc.heap.push { cls := .type "dict", data := .dict #[] }) scope.names }
  rw [← hce]
  obtain ⟨sd, hsd⟩ : ∃ sd : Shared, sd = { sc with heap := pushCells (sc.heap.push { cls := .type "dict", data := .dict #[] }) scope.names } := ⟨_, rfl⟩
  rw [← hsd] at Id ⊢
  have std : tn 0 sd.heap := TT.keep _ _ _ stc fun b _ o q => by rw [hsd]; exact pushCells_keeps _ _ _ _ (Heap.get?_push_of_some _ q)
  have still : ∀ {σ' : L2.St} {H' : Hp} {s' : Shared}, Inv (X.blk sc Hc scope ce fp) [] σ' H' s' → (∀ b ∈ fp, H' b = none) → ∀ b ∈ fp, FpOk (X.blk sc Hc scope ce fp) [] H' b := fun J no b hb =>
    ⟨no b hb, (J.ok.exf b hb).1, J.ok.exfs b hb, .inl hb, fun y c q => (J.ok.exf b hb).2 y c q, fun p hp => absurd (show p ∈ ([] : List (Addr × Obj)) ++ [] from hp) (by simp)⟩
  have whole : codeAny (model X.prog X.w) X.A (.compLoop (.ListComp elt [⟨tg, iter, [], 0⟩] scope pos) 0 (.ref it) (.ref L) ce) (compPost (model X.prog X.w) X.A X.xe none (EP X pins σ Q) (.ref L) sc.heap.objs.size) sd := by
    refine compLoop_any (fun n s' => ∃ i H', Inv (X.blk sc Hc scope ce fp) [] (wipe σ (own.map (·.2))) H' s' ∧ tn i s'.heap ∧ (∀ b ∈ fp, H' b = none) ∧ W i n H') (fun n s1 ⟨i, H1, I1, st1, no1, w1⟩ => ?_) m0 ⟨0, Hc, Id, std, fun b hb => (fpc b hb).1.1, wBegin⟩
    rcases turns i n H1 w1 with ⟨stop, qEnd⟩ | ⟨goes, Nx, later, step⟩
    · refine thnF (TT.done (X.blk sc Hc scope ce fp) rfl rfl rfl hc i [] s1 _ H1 (fun _ _ => False) I1 (still I1 no1) st1 stop) fun r s2 ⟨hr, I2⟩ => ?_
      subst hr
      have back : Inv X pins σ H1 s2 := Ic.call' (ch := fp) I2.os I2.base I2.hok I2.bare fun b hb => ⟨(fpc b hb).1.2.2.2.1, (fpc b hb).1.2.1, (fpc b hb).1.2.2.2.2.1, (fpc b hb).1.2.2.2.2.2⟩
      have noC : H1 sc.heap.objs.size = none := by
        rw [← ceL]
        exact I2.free
      obtain ⟨m, ns, _⟩ := I2.loc
      have ns : s2.heap.Ns ce.locals m := ns
      rw [ceL] at ns
      obtain ⟨f0, f1, f2, f3, f4, f5⟩ := Ic.fpOk (Nat.le_refl _) noC
      exact ⟨m, ns, fun h' sb' => ⟨.ref L, H1, back.turned (t' := s2.toks) (fun b o nb q => (sb'.2 b nb).trans q) f0 f1 f3 f4 f5, rfl, qEnd⟩⟩
    · refine thnF (TT.item (X.blk sc Hc scope ce fp) rfl rfl rfl hc i [] s1 _ H1 (fun _ _ => False) I1 (still I1 no1) st1 goes) fun r s2 ⟨u, hr, h2⟩ => ?_
      subst hr
      refine thnF h2 fun _ s3 ⟨x, H3, I3, r3, y3, st3, no3⟩ => ?_
      refine thnF (pg.run _ s3 _ H3 x u _ (I3.pinned (still I3 no3) (TT.obj _ _ st3)) r3 (step x H3 y3)) fun _ s4 ⟨σ4, H4, I4, same, q4⟩ => ?_
      refine wpAny_tests_nil ?_
      simp only [if_true]
      have q4 : (if true = true then te σ σ4 H4 _ else Nx H4) := q4
      simp only [if_true] at q4
      refine thnF (pe.run _ s4 σ4 H4 _ I4 q4) fun z s5 ⟨y, H5, I5, r5, acc, atL, few, nx⟩ => ?_
      refine app_ok (X := X.blk sc Hc scope ce fp) I5 atL few r5 fun s6 I6 => ?_
      obtain ⟨m', less, w'⟩ := later _ nx
      have keep : ∀ b ∈ fp, ∀ o, s3.heap.get? b = some o → s6.heap.get? b = some o ∧ upd H5 L (.lst (acc ++ [y])) b = none := fun b hb o q =>
        have z := I6.pin (b, o) (List.mem_append_right _ (List.mem_append_right _ (mem_pinsAt hb q)))
        ⟨z.1, z.2.1⟩
      refine ⟨m', less, i + 1, _, (I6.unpinned (pins := [])).weak (by rw [← same, wipe_length]) (fun j v q => ?_), TT.keep _ _ _ st3 fun b hb o q => (keep b hb o q).1, fun b hb => ?_, w'⟩
      · rw [← same] at q
        exact (wipe_some q).1
      · obtain ⟨o, q, _⟩ := TT.obj _ _ st3 b hb
        exact (keep b hb o q).2
  exact codeAny_compStart_list whole (TT.self X.A 0 _ _ _ std whole)
end LamB

set_option maxRecDepth 100000
set_option maxHeartbeats 2000000
/-! the wider ground: what is written, and the cells of a frame as they stand -/
namespace LamB
open PySem PySem.Spec PyProof.Rows L2 LamX NdefX
def ground (h : Heap) (p : Addr → Bool) : Heap := PySem.W.hideAll h ((List.range h.objs.size).filter fun b => !p b)
theorem ground_size (h : Heap) (p : Addr → Bool) : (ground h p).objs.size = h.objs.size := PySem.W.hideAll_size _ _
theorem ground_get {h : Heap} {p : Addr → Bool} {b : Addr} {o : Obj} (e : h.get? b = some o) (hp : p b = true) : (ground h p).get? b = some o :=
  PySem.W.hideAll_get _ e fun z => by
    have := (List.mem_filter.mp z).2
    rw [hp] at this
    cases this
theorem ground_of {h : Heap} {p : Addr → Bool} {b : Addr} {o : Obj} (e : (ground h p).get? b = some o) : h.get? b = some o ∧ p b = true := by
  have q := PySem.W.of_hideAll _ e
  refine ⟨q, ?_⟩
  cases hp : p b with
  | true => rfl
  | false =>
    have z := PySem.W.hideAll_none (h := h) ((List.range h.objs.size).filter fun b => !p b) (b := b) (List.mem_filter.mpr ⟨List.mem_range.mpr (Heap.lt_size q), by rw [hp]; rfl⟩)
    have e : (PySem.W.hideAll h ((List.range h.objs.size).filter fun b => !p b)).get? b = some o := e
    rw [z] at e
    cases e
/-- what is written, and the cells -/
def isGr (X : Cx) (b : Addr) : Bool := (X.base.get? b).isSome || X.env.cells.any fun q => q.2 == b
abbrev grOf (X : Cx) (s : Shared) : Heap := ground s.heap (isGr X)
/-- the cells lie apart from all frames -/
def Far (X : Cx) : Prop := ∀ b, (∃ y, (y, b) ∈ X.env.cells) → b ∉ frs X.stack
section
variable {X : Cx} {pins : List (Addr × Obj)} {σ : L2.St} {H : Hp} {s : Shared}
theorem isGr_or {b : Addr} (h : isGr X b = true) : (∃ o, X.base.get? b = some o) ∨ ∃ y, (y, b) ∈ X.env.cells := by
  unfold isGr at h
  rw [Bool.or_eq_true] at h
  refine h.imp (fun z => Option.isSome_iff_exists.mp z) fun z => ?_
  obtain ⟨q, hq, e⟩ := List.any_eq_true.mp z
  have e : q.2 = b := by simpa using e
  exact ⟨q.1, by rw [← e]; exact hq⟩
theorem up_gr (I : Inv X pins σ H s) : Up X.base (grOf X s) :=
  ⟨fun b o q => ground_get (I.bk b o q) (by unfold isGr; rw [q]; rfl), by rw [ground_size]; exact Nat.le_trans I.ok.bsz I.sz⟩
/-- no cell bears two names, each is told by look-up -/
def Told (X : Cx) : Prop := ∀ y c, (y, c) ∈ X.env.cells → X.env.cells.lookup y = some c
theorem fr_gr (I : Inv X pins σ H s) (far : Far X) : ∀ L ∈ frs X.stack, (grOf X s).get? L = none := fun L hL => by
  cases q : (grOf X s).get? L with
  | none => rfl
  | some o =>
    rcases isGr_or (ground_of q).2 with ⟨o', z⟩ | z
    · have := (I.env0.funs.mem hL).1
      rw [z] at this
      cases this
    · exact absurd hL (far L z)
theorem env_gr (I : Inv X pins σ H s) (far : Far X) (told : Told X) : Env0 X.prog X.w X.K X.mg (grOf X s) X.A X.stack s H := by
  have e := I.env0
  refine ⟨e.frames, Mod.up e.mod (up_gr I), fun b o q => ?_, Nat.le_of_eq (ground_size _ _), funFrames_none e.funs (fr_gr I far), e.frf, e.hok, e.bare⟩
  obtain ⟨z1, z2⟩ := ground_of q
  refine ⟨z1, ?_⟩
  rcases isGr_or z2 with ⟨o', z⟩ | ⟨y, z⟩
  · exact (e.bs b o' z).2
  · exact I.freeC y b (told y b z)
/-- .. within a block that began at s -/
theorem env_blk {scope : Scope} {C : Addr} {fp : List Addr} {pins' : List (Addr × Obj)} {σ' : L2.St} {H' : Hp} {s' : Shared} (I : Inv X pins σ H s) (far : Far X) (told : Told X) (hfp : ∀ b ∈ fp, FpOk X pins H b) (J : Inv (blkI X s H scope C fp) pins' σ' H' s') :
    Env0 X.prog X.w X.K X.mg (grOf X s) X.A X.stack s' H' := by
  have e := J.env0
  refine ⟨e.frames, Mod.up e.mod (up_gr I), fun b o q => ?_, by rw [ground_size]; exact J.sz, funFrames_none e.funs (fr_gr I far), e.frf, e.hok, e.bare⟩
  obtain ⟨z1, z2⟩ := ground_of q
  by_cases hb : ∃ y, (y, b) ∈ X.env.cells
  · obtain ⟨y, z⟩ := hb
    have no : b ∉ fp := fun hm => ((hfp b hm).2.2.2.2.1 y b (told y b z)) rfl
    exact ⟨J.base.keep b o z1 (I.freeC y b (told y b z)) (far b ⟨y, z⟩) no, J.base.free b o z1 (I.freeC y b (told y b z)) no⟩
  · rcases isGr_or z2 with ⟨o', z⟩ | z
    · have q2 := I.bk b o' z
      rw [z1] at q2
      cases q2
      exact e.bs b o z
    · exact absurd z hb
/-- what a function made here captures, in the ground -/
theorem cb_gr {cl : List (Str × Addr)} {fr : List Str} {js : List Nat} (I : Inv X pins σ H s) (cp : Caps X cl fr js) : CB (grOf X s) cl fr (js.map (slotAt σ)) := by
  have C := cells_of I cp
  have up : ∀ {y c v}, cl.lookup y = some c → s.heap.IsCell c v → (grOf X s).IsCell c v := fun {y c v} e ⟨o, e1, e2⟩ =>
    ⟨o, ground_get e1 (by
      unfold isGr
      rw [Bool.or_eq_true]
      exact .inr (List.any_eq_true.mpr ⟨(y, c), PySem.mem_of_lookup (cp.sub y c e), by simp⟩)), e2⟩
  refine ⟨C.len, fun y c e => (C.all y c e).2.elim fun v z => ⟨v, up e z⟩, C.inj, fun i y e => ?_⟩
  obtain ⟨c, e1, e2⟩ := C.has i y e
  exact ⟨c, e1, fun v q => (e2 v q).elim fun u z => ⟨u, z.1, up e1 z.2⟩⟩
/-- the cells of a def's own frame -/
theorem far_own (I : Inv X pins σ H s) (told : Told X) (hfn : ∀ x, X.fn x = true) (hst : X.stack = X.env :: X.outer) (hfr : X.env.frame = some X.env.locals) : Far X := fun b ⟨y, hy⟩ hb => by
  have e := told y b hy
  rw [hst] at hb
  have hb : b ∈ (X.env :: X.outer).filterMap (·.frame) := hb
  rw [List.filterMap_cons, hfr] at hb
  rcases List.mem_cons.mp hb with z | z
  · exact I.cne y b e z
  · obtain ⟨_, o, ho, _⟩ := I.ok.funs.mem z
    exact absurd (Nat.lt_of_lt_of_le (Heap.lt_size ho) (I.ok.cab y b (hfn y) e)) (Nat.lt_irrefl _)
end
/-! ### calls over a wider ground -/
section
variable {X : Cx} {CX : CXT} {k : Nat} {f : Addr} {fd : FuncData} {ps : List Str} {sp : Sp} {dvs : List V} {ds : List Value} {E : XK} {x : Str} {p pos : Pos} {e : Expr} {es : List Expr} {t : TA} {B : Heap}
theorem run_wide {pins : List (Addr × Obj)} {σ : L2.St} {H : Hp} {s : Shared} {Q : VK} {us : List Value} {vs : List V} (hw : Env0 X.prog X.w X.K X.mg B X.A X.stack s H) (F : FnOk X.prog X.w X.K X.mg B CX k f fd ps sp) (hr : Room k X.A) (hb : Binds X.K fd ps ds) (hd : Vals dvs ds) (hx : Passes CX X E)
    (I : Inv X pins σ H s) (r : Vals vs us) (h : sp (vs ++ dvs) H Q E) : wpAny (model X.prog X.w) X.A (call (.ref f) us) (EP X pins σ Q) X.xe s := by
  have r2 := r.append hd
  have len2 : (us ++ ds).length = ps.length := r2.length.symm.trans (F.len _ _ _ _ h)
  refine wpAny_call (codeAny_mono (F.run X.A X.stack s H ⟨us, []⟩ _ _ Q E hr hw (hb s us I.kIn len2) r2 h) fun res s' z => ?_)
  match res, z with
  | .error _, z => exact hx pins σ H s _ s' I z
  | .ok (.ret _), z => exact I.after z
theorem pe_callW (hw : ∀ (pins : List (Addr × Obj)) (σ : L2.St) (H : Hp) (s : Shared), Inv X pins σ H s → Env0 X.prog X.w X.K X.mg B X.A X.stack s H) (F : FnOk X.prog X.w X.K X.mg B CX k f fd ps sp) (hr : Room k X.A) (hg : Gl X x) (hm : X.mg x = some (.ref f)) (hk : PySem.W.keepIn X.K (.ref f) = true)
    (hb : Binds X.K fd ps ds) (hd : Vals dvs ds) (hx : Passes CX X E) (ha : PA X (e :: es) t) (hdb : (x == ("__debug__" : Str)) = false := by decide) (he : starEach (e :: es) X.env = (false, eval e X.env) :: starEach es X.env := by rfl) (hpl : (backTo pos (starEach es X.env)).any (·.1) = false := by rfl) :
    PE X (.Call (.Name x p) (e :: es) [] pos) (tCall sp dvs E t) := by
  refine ⟨fun pins s σ H Q I h => wpAny_Call_Name_kw (ld_glob I hg hm ?_ hdb)⟩
  exact PySem.W.callWith_K (h₀ := X.base) I.ok.mod.kin hk (thn (ha.run pos pins s σ H _ I h) fun us s1 ⟨vs, H1, J, r, q⟩ => ⟨J.kIn, run_wide (hw _ _ _ _ J) F hr hb hd hx J r q⟩) he hpl
end
/-! ### what is known of a def's context when its body is read -/
theorem pss_ok {X : Cx} {ss : List Stmt} {t : TS} (h : (∃ (pins : List (Addr × Obj)) (σ : L2.St) (H : Hp) (s : Shared), Inv X pins σ H s) → PSs X ss t) : PSs X ss t := ⟨fun pins s σ H D I => (h ⟨pins, σ, H, s, I⟩).run pins s σ H D I⟩
theorem pe_ok {X : Cx} {e : Expr} {t : TE} (h : (∃ (pins : List (Addr × Obj)) (σ : L2.St) (H : Hp) (s : Shared), Inv X pins σ H s) → PE X e t) : PE X e t := ⟨fun pins s σ H Q I => (h ⟨pins, σ, H, s, I⟩).run pins s σ H Q I⟩
end LamB

set_option maxRecDepth 100000
set_option maxHeartbeats 2000000
/-! what a lambda answers that was made here, wherever it is called while this frame waits -/
namespace LamB
open PySem PySem.Spec PyProof.Rows L2 LamX NdefX
theorem cells_keys : ∀ (names : List (Str × NameKind)) (n m : Nat) (a b : List (Str × Addr)), a.map (·.1) = b.map (·.1) → (cellsFrom n names a).map (·.1) = (cellsFrom m names b).map (·.1)
  | [], _, _, _, _, h => h
  | (x, k) :: names, n, m, a, b, h => by
    cases k <;> first
      | exact cells_keys names _ _ _ _ h
      | exact cells_keys names _ _ _ _ (by simp [h])
theorem look_nodup : ∀ {l : List (Str × Addr)}, (l.map (·.1)).Nodup → ∀ {y : Str} {c : Addr}, (y, c) ∈ l → l.lookup y = some c
  | [], _, _, _, h => nomatch h
  | (x, d) :: l, nd, y, c, h => by
    rw [List.map_cons, List.nodup_cons] at nd
    rcases List.mem_cons.mp h with z | z
    · cases z
      simp [List.lookup]
    · have ne : (y == x) = false := by
        rw [beq_eq_false_iff_ne]
        intro e
        exact nd.1 (List.mem_map.mpr ⟨(y, c), z, e⟩)
      rw [List.lookup_cons, ne]
      exact look_nodup nd.2 z
/-- the cells of a def's own frame are told by their names -/
theorem told_own {X : Cx} {n : Nat} {names : List (Str × NameKind)} (e : X.env.cells = cellsFrom n names []) (nd : ((cellsFrom 0 names []).map (·.1)).Nodup) : Told X := fun y c h => by
  rw [e] at h ⊢
  exact look_nodup (by rw [cells_keys names n 0 [] [] rfl]; exact nd) h
/-- what functions made here capture, in the ground B -/
def CBall (X : Cx) (B : Heap) (σ : L2.St) : Prop := ∀ (scope : Scope) (fr : List Str) (js : List Nat), (∀ y ∈ scope.names, y.2 = .free → X.env.scope.names.lookup y.1 = some .cell ∨ X.env.scope.names.lookup y.1 = some .free) → (∀ y ∈ fr, (y, NameKind.free) ∈ scope.names) → js.map (fun j => X.N[j]?) = fr.map some →
  CB B (cloFrom X.env.cells scope.names []) fr (js.map (slotAt σ))
theorem cball {X : Cx} {pins : List (Addr × Obj)} {σ : L2.St} {H : Hp} {s : Shared} (I : Inv X pins σ H s) : CBall X (grOf X s) σ := fun _ _ _ h1 h2 h3 => cb_gr I (Caps.made I.ok h1 h2 h3)
/-- the value at f: R tells from which wish (of a value, of an error) on it may be called with no argument -/
def Answers (X : Cx) (CX : CXT) (k : Nat) (σ : L2.St) (H : Hp) (f : Addr) (R : Hp → VK → XK → Prop) : Prop := ∀ B : Heap, Up X.base B → Mod X.K X.mg X.base → CBall X B σ →
  ∃ (G : Hp → Prop) (sp : Sp), Acts X.prog X.w X.K X.mg B CX k f G sp ∧ ∀ H2, Same H H2 → G H2 ∧ ∀ Q E, R H2 Q E → sp [] H2 Q E
theorem Answers.same {X : Cx} {CX : CXT} {k : Nat} {σ : L2.St} {H H' : Hp} {f : Addr} {R : Hp → VK → XK → Prop} (h : Answers X CX k σ H f R) (s : Same H H') : Answers X CX k σ H' f R := fun B u m c => by
  obtain ⟨G, sp, a, q⟩ := h B u m c
  exact ⟨G, sp, a, fun H2 s2 => q H2 (s.trans s2)⟩
theorem answers_of {X : Cx} {CX : CXT} {k : Nat} {σ : L2.St} {H : Hp} {f : Addr} {R : Hp → VK → XK → Prop} {qual : Str} {params : Arguments} {body : Expr} {scope : Scope} {c' : Addr} {dV : Value} {N ps fr : List Str} {js : List Nat} {dvs : List V} {D : Hp → Prop} {tb : XK → TE}
    (hL : H f = some (LamO f ⟨qual, params, body, scope, cloFrom X.env.cells scope.names [], c', dV⟩)) (hc : H c' = some (CodeO c' qual)) (hD : ∀ H2, Same H H2 → D H2) (S : NScope N ps fr scope)
    (h1 : ∀ y ∈ scope.names, y.2 = .free → X.env.scope.names.lookup y.1 = some .cell ∨ X.env.scope.names.lookup y.1 = some .free) (h2 : ∀ y ∈ fr, (y, NameKind.free) ∈ scope.names) (h3 : js.map (fun j => X.N[j]?) = fr.map some) (hn : 0 + dvs.length = ps.length)
    (hb : ∀ (doc pm ctv : Value) (s : Shared) (H : Hp) (us : List Value), HOk X.prog X.w H s.heap → D H → us.length = 0 → ∃ ds, Vals dvs ds ∧ BindsTo s (PySem.W.kdv_fn "<lambda>" qual params (.expr body) scope (cloFrom X.env.cells scope.names []) dV doc pm (.ref c') ctv) ⟨us, []⟩ (ps.zip (us ++ ds)))
    (hbody : ∀ (B : Heap), Up X.base B → Mod X.K X.mg X.base → ∀ (A : Around) (outer : List Env) (s : Shared) (H : Hp) (E : XK), Room k (A.deeper (envF (LF.nf ⟨qual, params, body, scope, cloFrom X.env.cells scope.names [], c', dV⟩) f s.heap.objs.size)) →
      PE (ncx CX X.prog X.w X.K X.mg B N (LF.nf ⟨qual, params, body, scope, cloFrom X.env.cells scope.names [], c', dV⟩) f A outer s H E) body (tb E))
    (hr : ∀ H2, Same H H2 → ∀ Q E, R H2 Q E → tb E (startF N dvs (js.map (slotAt σ))) H2 Q) : Answers X CX (k + 1) σ H f R := fun B u m c =>
  ⟨_, _, acts_of (F := ⟨qual, params, body, scope, cloFrom X.env.cells scope.names [], c', dV⟩) (n := 0) (D := D) S (c scope fr js h1 h2 h3) hn hb (hbody B u m), fun H2 s2 => ⟨⟨s2 _ _ hL, s2 _ _ hc, hD H2 s2⟩, fun Q E r => ⟨rfl, hr H2 s2 Q E r⟩⟩⟩
/-- the defaults stand in a tuple -/
theorem binds_dflt {P : Program} {w : World} {H : Hp} {s : Shared} {t : Addr} {v : V} {fd : FuncData} {p : Str} {us : List Value} {k : Option (Array Value) → Sem (List (Str × Value))} (ok : HOk P w H s.heap) (h : H t = some (.tup [v])) (hu : us.length = 0) (hd : fd.defaults = .ref t)
    (b1 : bindArgs fd ⟨[], []⟩ = seqItems? fd.defaults >>= k) (b2 : ∀ u, k (some [u].toArray) = pure [(p, u)]) : ∃ ds, Vals [v] ds ∧ BindsTo s fd ⟨us, []⟩ ([p].zip (us ++ ds)) := by
  obtain ⟨_, its, r, o, ho, _, n, hdata⟩ := ok t _ h
  obtain ⟨u, rfl, ru⟩ := vals1 r
  have e : us = [] := List.eq_nil_of_length_eq_zero hu
  subst e
  exact ⟨[u], r, BindsTo.of_defaults hd ho hdata b1 (b2 u)⟩
end LamB

set_option maxRecDepth 100000
set_option maxHeartbeats 2000000
/-! min over a list of texts -/
namespace L2
open PySem PySem.Spec PyProof.Rows
/-- the first of some texts by Python's order -/
def IsMin (m : Str) (xs : List Str) : Prop := m ∈ xs ∧ ∀ y ∈ xs, ¬ (y.cps.toList < m.cps.toList)
theorem IsMin.uniq {m n : Str} {xs ys : List Str} (a : IsMin m xs) (b : IsMin n ys) (h : ∀ z, z ∈ xs ↔ z ∈ ys) : m = n := by
  have h1 : ¬ (n.cps.toList < m.cps.toList) := a.2 n ((h n).mpr b.1)
  have h2 : ¬ (m.cps.toList < n.cps.toList) := b.2 m ((h m).mp a.1)
  have e : m.cps.toList = n.cps.toList := List.le_antisymm (List.not_lt.mp h1) (List.not_lt.mp h2)
  obtain ⟨⟨p⟩⟩ := m
  obtain ⟨⟨q⟩⟩ := n
  have e : p = q := e
  rw [e]
theorem min_fold : ∀ (ys seen : List Str) (a : Str), IsMin a seen → IsMin (ys.foldl (fun a y => if PySem.W.DatumOrd.lt y a = true then y else a) a) (seen ++ ys)
  | [], seen, a, h => by rw [List.append_nil]; exact h
  | y :: ys, seen, a, h => by
    rw [List.foldl_cons, show seen ++ y :: ys = (seen ++ [y]) ++ ys by simp]
    refine min_fold ys _ _ ?_
    by_cases q : y.cps.toList < a.cps.toList
    · rw [if_pos (show PySem.W.DatumOrd.lt y a = true from decide_eq_true q)]
      refine ⟨List.mem_append_right _ List.mem_cons_self, fun z hz => ?_⟩
      rcases List.mem_append.mp hz with z1 | z1
      · exact fun lt => h.2 z z1 (List.lt_trans lt q)
      · rw [List.mem_singleton.mp z1]
        exact List.lt_irrefl _
    · rw [if_neg (show ¬ PySem.W.DatumOrd.lt y a = true from fun z => q (of_decide_eq_true z))]
      refine ⟨List.mem_append_left _ h.1, fun z hz => ?_⟩
      rcases List.mem_append.mp hz with z1 | z1
      · exact h.2 z z1
      · rw [List.mem_singleton.mp z1]
        exact q
theorem isMin_of (x : Str) (xs : List Str) : IsMin (PySem.W.minOf x xs) (x :: xs) :=
  min_fold xs [x] x ⟨List.mem_cons_self, fun y hy => by rw [List.mem_singleton.mp hy]; exact List.lt_irrefl _⟩
theorem hold_strs {h : Heap} : ∀ {vs : List Value} {xs : List Str}, StrsAre vs xs → PySem.W.HoldAll h vs xs
  | _, _, .nil => PySem.W.HoldAll.nil
  | _, _, .cons y t r => PySem.W.HoldAll.cons (PySem.W.holds_str y t) (hold_strs r)
def rMinS (K : PySem.W.Frag) : List V → Hp → VK → Prop := fun vs H Q => ∃ (a : Addr) (xs : List Str), vs = [V.ref a] ∧ SqL K H a (xs.map V.str) ∧ xs ≠ [] ∧ ∀ m, IsMin m xs → Q (.str m) H
theorem cr_minS {X : Cx} (hc : X.calm = true) (hu : X.A.units + 1 < cLine) : CallR X (.builtin "min") (rMinS X.K) := by
  intro pins s σ H vs us Q I r h
  obtain ⟨a, xs, rfl, hs, hne, q⟩ := h
  obtain ⟨its, rv, hl, _⟩ := I.list hs
  rw [Vals.ref1 r]
  obtain ⟨x, r, rfl⟩ : ∃ x r, xs = x :: r := by
    cases xs with
    | nil => exact absurd rfl hne
    | cons x r => exact ⟨x, r, rfl⟩
  refine PySem.W.min_list_datum (x := x) (xs := r) (I.ok.hd hc) hl.isList (hold_strs rv.strs) hu fun i v h' tk hi hv hk => ?_
  obtain ⟨as, rd⟩ := hv
  cases rd with
  | str => exact ⟨.str (PySem.W.minOf x r), H, I.kept hk, ⟨_, rfl⟩, q _ (isMin_of x r)⟩
end L2

set_option maxRecDepth 100000
set_option maxHeartbeats 4000000
namespace Mine
open PySem L2
abbrev s_i_Mismatch : Stmt := inClass (top 8) 0
/-- an error class with a field: its own __init__ at fI -/
structure ErrC (K : PySem.W.Frag) (C fI : Addr) : Prop where
  ox : OexC K C
  iC : PySem.W.findIn K (.ref C) "__init__" = some (some (.ref fI))
  tI : PySem.W.typeIn K (.ref fI) = some (.type "function")
/-- the field is kept, in a dict that was not there -/
def spInitF (C : Addr) (fld : Str) : Sp := fun vs H Q _ => ∃ (a : Addr) (v : V), vs = [.ref a, v] ∧ H a = some (exo a C none) ∧
  ∀ (dx : Addr) (H' : Hp), H dx = none → dx ≠ a → (∀ b o, b ≠ a → H b = some o → H' b = some o) → H' a = some (exo a C (some dx)) → H' dx = some (exd dx [(fld, v)]) → Q .non H'
/-- dicts of operations, one behind another: what stands in all of them, and those with unlike numbers -/
def joinStep (s : Ops × List Str) (p : Str × Int) : Ops × List Str := match opLook s.1 p.1 with
  | none => (s.1 ++ [p], s.2)
  | some m => if m = p.2 then s else (s.1, s.2 ++ [p.1])
def joinS (l : Ops) : Ops × List Str := l.foldl joinStep ([], [])
theorem joinS_snoc (l : Ops) (p : Str × Int) : joinS (l ++ [p]) = joinStep (joinS l) p := by
  unfold joinS
  rw [List.foldl_append]
  rfl
theorem joinS_len : ∀ l : Ops, (joinS l).1.length + (joinS l).2.length ≤ l.length := fun l => by
  unfold joinS
  have key : ∀ (l : Ops) (s : Ops × List Str), (l.foldl joinStep s).1.length + (l.foldl joinStep s).2.length ≤ s.1.length + s.2.length + l.length := by
    intro l
    induction l with
    | nil => intro s; exact Nat.le_refl _
    | cons p l ih =>
      intro s
      rw [List.foldl_cons]
      refine Nat.le_trans (ih _) ?_
      rw [List.length_cons]
      unfold joinStep
      split
      · simp only [List.length_append, List.length_cons, List.length_nil]; omega
      · split
        · omega
        · simp only [List.length_append, List.length_cons, List.length_nil]; omega
  have := key l ([], [])
  simpa using this
theorem joinS_nd : ∀ l : Ops, ((joinS l).1.map (·.1)).Nodup := fun l => by
  unfold joinS
  have key : ∀ (l : Ops) (s : Ops × List Str), (s.1.map (·.1)).Nodup → ((l.foldl joinStep s).1.map (·.1)).Nodup := by
    intro l
    induction l with
    | nil => exact fun s h => h
    | cons p l ih =>
      intro s h
      rw [List.foldl_cons]
      refine ih _ ?_
      unfold joinStep
      cases e : opLook s.1 p.1 with
      | none =>
        show ((s.1 ++ [p]).map (·.1)).Nodup
        rw [List.map_append, List.nodup_append]
        refine ⟨h, by simp, fun x hx y hy z => ?_⟩
        have hy2 : y = p.1 := List.mem_singleton.mp hy
        rw [z, hy2] at hx
        exact opLook_none e hx
      | some m =>
        dsimp only
        split
        · exact h
        · exact h
  exact key l _ List.nodup_nil
/-- dicts of operations in one; Mismatch with the first unlike one -/
def spJoinedG (CE : Addr) : Sp := fun vs H Q E => ∃ (a : Addr) (ts : List (Addr × Ops)), vs = [.ref a] ∧ H a = some (.lst (ts.map fun t => V.ref t.1)) ∧ (∀ t ∈ ts, H t.1 = some (.dK (opsK t.2))) ∧ ((ts.map (·.2)).flatten).length < 64 ∧
  ((joinS (ts.map (·.2)).flatten).2 = [] → ∀ (o' : Ops) (q : Addr) (H' : Hp), Ordered (joinS (ts.map (·.2)).flatten).1 o' → H q = none → Same H H' → H' q = some (.dK (opsK o')) → Q (.ref q) H') ∧
  ((joinS (ts.map (·.2)).flatten).2 ≠ [] → ∀ (m : Str) (d : Addr) (H' : Hp), IsMin m (joinS (ts.map (·.2)).flatten).2 → H d = none → Same H H' → H' d = some (.xd [("operation", .str m)]) → E (.ref CE) (some d) H')
/-- what was gathered so far -/
structure JoinG (ka ua : Addr) (l : Ops) (Hx : Hp) : Prop where
  ek : Hx ka = some (.dK (opsK (joinS l).1))
  eu : Hx ua = some (.lst ((joinS l).2.map V.str))
section
variable {P : Program} {w : World} {K : PySem.W.Frag} {mg : Str → Option Value} {base : Heap}
variable {CE fE a_in_order : Addr}
theorem sc_i_Mismatch : FnScope ["self", "operation"] ["self", "operation"] (defScope s_i_Mismatch) := ⟨rfl, rfl, rfl, by decide +kernel, rfl, by decide +kernel, by decide +kernel⟩
theorem ok_i_Mismatch {f C : Addr} {fd : FuncData} (F : Fun K "__init__" "Mismatch.__init__" s_i_Mismatch f fd) (ox : OexC K C) (nf : PySem.W.findIn K (.ref C) "operation" = some none) : FnOk P w K mg base CX0 1 f fd ["self", "operation"] (spInitF C "operation") := by
  refine F.ok sc_i_Mismatch (fun vs H Q E h => ?_) (fun cdv A outer s H vs Q E hr h => ?_)
  · obtain ⟨a, v, rfl, _⟩ := h
    rfl
  · obtain ⟨a, v, rfl, ha, k⟩ := h
    refine ⟨_, pss_one (ps_ost (pv 0) (pv 1)), ?_⟩
    refine ⟨_, rfl, _, rfl, a, C, rfl, ox, nf, .inl ⟨ha, fun dx nd ne => ?_⟩⟩
    refine k dx _ nd ne (fun b o nb hb => ?_) upd_same ?_
    · rw [upd_ne nb, upd_ne (ne_of_none hb nd)]
      exact hb
    · rw [upd_ne ne, upd_same]
theorem ok_joinedG {f : Addr} {fd fd_in_order fdE : FuncData} (F : Fun K "joined" "joined" s_joined f fd)
    (GIO : FnOk P w K mg base CX0 1 a_in_order fd_in_order ["table"] spOrder) (b_in_order : Binds K fd_in_order ["table"] []) (g_in_order : mg "in_order" = some (.ref a_in_order)) (k_in_order : PySem.W.keepIn K (.ref a_in_order) = true)
    (h_min : mg "min" = none) (EN : ErrC K CE fE) (GE : FnOk P w K mg base CX0 1 fE fdE ["self", "operation"] (spInitF CE "operation")) (b_Mismatch : Binds K fdE ["self", "operation"] []) (g_Mismatch : mg "Mismatch" = some (.ref CE)) : FnOk P w K mg base (L2.CX P w) 3 f fd ["tables"] (spJoinedG CE) := by
  refine F.okX sc_joined (fun vs H Q E h => ?_) (fun cdv A outer s H vs Q E hr h => ?_)
  · obtain ⟨a, ts, rfl, _⟩ := h
    rfl
  · obtain ⟨a, ts, rfl, ha, each, few, kN, kE⟩ := h
    refine ⟨_, (pss_cons (ps_set (i := 1) sc_joined.nd rfl (Or.inl rfl) pe_dnewK)
      (pss_cons (ps_set (i := 2) sc_joined.nd rfl (Or.inl rfl) (pe_lstG pa_nil))
      (pss_cons (ps_for (passes_of rfl) rfl (pi_list (pv 0)) (pg_name (i := 3) sc_joined.nd rfl (Or.inl rfl))
        (pss_one (ps_lock (ps_for (passes_of rfl) rfl (pi_items (pv 3)) (pg_tup rfl (pgs_cons (pg_name (i := 4) sc_joined.nd rfl (Or.inl rfl)) (pgs_cons (pg_name (i := 5) sc_joined.nd rfl (Or.inl rfl)) pgs_nil)))
          (pss_one (ps_if (pt_cmpR op_ne (pe_dsetd (pv 1) (pv 4) (pv 5) ⟨by rfl, by rfl, by rfl, by rfl⟩) (pv 5) (nomark _)) (pss_one (ps_expr (pe_bm PySem.F.plainAttrs_list PySem.F.slot_list_append PySem.F.type_list_append mt_append (pv 2) (pa_cons (pv 4) pa_nil)))) pss_nil))))))
      (pss_cons (ps_if (pt_truth (pv 2) (by intro _; rfl)) (pss_one (ps_raise rfl (takes_of rfl rfl rfl rfl) (pmk_oex EN.ox EN.iC EN.tI GE (hr.mono (by decide)) b_Mismatch .nil pass0 (by rfl) g_Mismatch (pa_cons (pe_callB (cr_minS rfl (hu_of hr)) (by rfl) h_min (by decide +kernel) (pa_cons (pv 2) pa_nil)) pa_nil)))) pss_nil)
      (pss_one (ps_ret (pe_call GIO (hr.mono (by decide)) (by rfl) g_in_order k_in_order b_in_order .nil pass0 (pa_cons (pv 1) pa_nil)))))))), ?_⟩
    refine fun ka nka => ?_
    have s1 := sameNew nka (.dK [])
    have ek1 : upd H ka (.dK []) ka = some (.dK (opsK [])) := upd_same
    generalize upd H ka (.dK []) = H1 at s1 ek1 ⊢
    refine ⟨Nat.zero_le _, fun ua H2 n2 s2 e2 => ?_⟩
    have nua : H ua = none := none_of s1 n2
    have neku : ka ≠ ua := fun z => by
      rw [← z, ek1] at n2
      cases n2
    have s12 : Same H H2 := s1.trans s2
    refine ⟨_, rfl, a, rfl, ⟨_, SqL.of (s12 _ _ ha)⟩, for_list (K := K) (a := a) (xs := ts.map fun t => V.ref t.1) (fun i σ H' => ∃ (v3 v4 v5 : Option V), σ = [some (.ref a), some (.ref ka), some (.ref ua), v3, v4, v5] ∧ Same H H' ∧ JoinG ka ua ((ts.take i).map (·.2)).flatten H') ⟨_, _, _, rfl, s12, s2 _ _ ek1, e2⟩ (fun i σ H' _ z => by obtain ⟨_, _, _, _, z, _⟩ := z; exact SqL.of (z _ _ ha)) ?_ ?_⟩
    · rintro i x σ Hc hxi ⟨v3, v4, v5, rfl, sc, J⟩
      have hi : i < ts.length := by
        have := (List.getElem?_eq_some_iff.mp hxi).1
        rw [List.length_map] at this
        exact this
      obtain ⟨t, et⟩ : ∃ t, ts[i]? = some t := ⟨_, List.getElem?_eq_getElem hi⟩
      rw [List.getElem?_map, et] at hxi
      have hx2 : V.ref t.1 = x := Option.some.inj hxi
      subst hx2
      have ht := each t (List.mem_of_getElem? et)
      have ntk : ka ≠ t.1 := fun z => by
        rw [← z, nka] at ht
        cases ht
      have ntu : ua ≠ t.1 := fun z => by
        rw [← z, nua] at ht
        cases ht
      have lk : (opsK t.2).length = t.2.length := List.length_map ..
      have tot : ((ts.take (i + 1)).map (·.2)).flatten = ((ts.take i).map (·.2)).flatten ++ t.2 := by
        rw [List.take_succ, et, List.map_append, List.flatten_append]
        simp
      have le63 : (((ts.take (i + 1)).map (·.2)).flatten).length < 64 := by
        have h1 : ((ts.map (·.2)).flatten).length = (((ts.take (i + 1)).map (·.2)).flatten).length + (((ts.drop (i + 1)).map (·.2)).flatten).length := by
          rw [← List.length_append, ← List.flatten_append, ← List.map_append, List.take_append_drop]
        omega
      generalize ((ts.take i).map (·.2)).flatten = L0 at tot J ⊢
      rw [tot] at le63
      rw [List.length_append] at le63
      refine ⟨t.1, _, sc _ _ ht, trivial, fun od => ⟨_, rfl, t.1, od, opsK t.2, rfl, upd_same, for_it walk_items (fun j σ Hx => ∃ (v4 v5 : Option V), σ = [some (.ref a), some (.ref ka), some (.ref ua), some (.ref t.1), v4, v5] ∧ Same (upd H t.1 (.frz od (.dK (opsK t.2)))) Hx ∧ JoinG ka ua (L0 ++ t.2.take j) Hx) ⟨_, _, rfl, fun b o e => ?_, ?_, ?_⟩ (fun j σ Hx _ z => by obtain ⟨_, _, _, z, _⟩ := z; exact z _ _ upd_same) ?_ ?_⟩⟩
      · by_cases z : b = t.1
        · subst z
          rw [upd_same] at e ⊢
          exact e
        · rw [upd_ne z] at e ⊢
          exact sc _ _ e
      · rw [upd_ne ntk, List.take_zero, List.append_nil]
        exact J.ek
      · rw [upd_ne ntu, List.take_zero, List.append_nil]
        exact J.eu
      · rintro j x σ Ha Hb hj ⟨v4, v5, rfl, sa, J⟩ z2
        obtain ⟨T', x, y, rfl, nT, rfl, h1, h2⟩ := z2
        have hj2 : j < t.2.length := by rw [← lk]; exact hj
        obtain ⟨p, ep⟩ : ∃ p, t.2[j]? = some p := ⟨_, List.getElem?_eq_getElem hj2⟩
        have e1 : (opsK t.2)[j]? = some (Sum.inr p.1, V.int p.2) := by
          unfold opsK
          rw [List.getElem?_map, ep]
          rfl
        dsimp only at h1 h2
        rw [e1] at h1 h2
        have h1' : V.str p.1 = x := Option.some.inj h1
        have h2' : V.int p.2 = y := Option.some.inj h2
        subst h1' h2'
        have nxt : L0 ++ t.2.take (j + 1) = (L0 ++ t.2.take j) ++ [p] := by
          rw [List.take_succ, ep, List.append_assoc]
          rfl
        have lens := joinS_len (L0 ++ t.2.take j)
        rw [List.length_append, List.length_take] at lens
        have sT := sameNew nT (.tup [V.str p.1, V.int p.2])
        have eT : upd Ha T' (.tup [V.str p.1, V.int p.2]) T' = some (.tup [V.str p.1, V.int p.2]) := upd_same
        generalize upd Ha T' (.tup [V.str p.1, V.int p.2]) = Hb at sT eT ⊢
        have ekb := sT _ _ J.ek
        have eub := sT _ _ J.eu
        have nxS := joinS_snoc (L0 ++ t.2.take j) p
        rw [← nxt] at nxS
        generalize joinS (L0 ++ t.2.take j) = S at J lens ekb eub nxS
        obtain ⟨acc, uu⟩ := S
        dsimp only at lens ekb eub
        refine ⟨T', _, rfl, .inl (.inl eT), rfl, _, _, rfl, _, _, rfl, rfl, ?_⟩
        have lt : (opsK acc).length < sizeLine := by
          unfold opsK
          rw [List.length_map, sizeLine_eq]
          omega
        refine ⟨_, rfl, ka, rfl, .inl ⟨_, .inl ekb⟩, _, rfl, _, rfl, opsK acc, .inr p.1, ekb, rfl, lt, fun v ev => ?_, fun en => ?_⟩
        · rw [val_ops] at ev
          cases el : opLook acc p.1 with
          | none => rw [el] at ev; cases ev
          | some m =>
            rw [el] at ev
            have ev2 : V.int m = v := Option.some.inj ev
            subst ev2
            have nxS2 : joinS (L0 ++ t.2.take (j + 1)) = if m = p.2 then (acc, uu) else (acc, uu ++ [p.1]) := by
              rw [nxS]
              unfold joinStep
              dsimp only
              rw [el]
            refine ⟨_, rfl, rfl, _, rfl, ?_⟩
            by_cases same : m = p.2
            · rw [if_pos same] at nxS2
              subst same
              rw [intEq]
              refine iteF ?_
              refine ⟨_, _, rfl, fun b o e => sT _ _ (sa _ _ e), ?_, ?_⟩
              · rw [nxS2]; exact ekb
              · rw [nxS2]; exact eub
            · rw [if_neg same] at nxS2
              rw [show (!decide (V.int m = V.int p.2)) = true by simp [same]]
              refine iteT ?_
              refine ⟨_, rfl, .inl ⟨rfl, _, SqL.of eub⟩, _, rfl, ua, _, _, rfl, rfl, eub, by rw [List.length_map, sizeLine_eq]; omega, ?_⟩
              refine ⟨_, _, rfl, fun b o e => ?_, ?_, ?_⟩
              · by_cases z : b = ua
                · subst z
                  rw [upd_ne ntu, nua] at e
                  cases e
                · rw [upd_ne z]
                  exact sT _ _ (sa _ _ e)
              · rw [nxS2, upd_ne neku]
                exact ekb
              · rw [nxS2, upd_same, List.map_append]
                rfl
        · refine ⟨_, rfl, rfl, _, rfl, ?_⟩
          rw [intEq]
          refine iteF ?_
          have en2 := en
          rw [val_ops, Option.map_eq_none_iff] at en2
          have nxS2 : joinS (L0 ++ t.2.take (j + 1)) = (acc ++ [p], uu) := by
            rw [nxS]
            unfold joinStep
            dsimp only
            rw [en2]
          rw [putK_new _ en]
          have ea : opsK acc ++ [(Sum.inr p.1, V.int p.2)] = opsK (acc ++ [p]) := by
            unfold opsK
            rw [List.map_append]
            rfl
          rw [ea]
          refine ⟨_, _, rfl, fun b o e => ?_, ?_, ?_⟩
          · by_cases z : b = ka
            · subst z
              rw [upd_ne ntk, nka] at e
              cases e
            · rw [upd_ne z]
              exact sT _ _ (sa _ _ e)
          · rw [nxS2]; exact upd_same
          · rw [nxS2, upd_ne (Ne.symm neku)]
            exact eub
      · rintro σ Hx ⟨v4, v5, rfl, sx, J⟩
        rw [lk, List.take_length] at J
        refine ⟨sx _ _ upd_same, _, _, _, rfl, same_unlock ht sx, ?_, ?_⟩
        · rw [upd_ne ntk, tot]
          exact J.ek
        · rw [upd_ne ntu, tot]
          exact J.eu
    · rintro σ Hc ⟨v3, v4, v5, rfl, sc, J⟩
      rw [List.length_map, List.take_length] at J
      have lens := joinS_len (ts.map (·.2)).flatten
      have nd := joinS_nd (ts.map (·.2)).flatten
      have ek := J.ek
      have eu := J.eu
      clear J
      generalize joinS (ts.map (·.2)).flatten = S at ek eu kN kE lens nd
      obtain ⟨acc, uu⟩ := S
      dsimp only at ek eu kN kE lens nd
      cases uu with
      | nil =>
        refine ⟨_, rfl, false, .inl ⟨[], SqL.of eu, rfl⟩, ?_⟩
        refine iteF ?_
        exact ⟨_, rfl, ka, acc, rfl, .inl ek, nd, by omega, fun o' ord q H5 n5 s5 e5 => kN rfl o' q H5 ord (none_of sc n5) (sc.trans s5) e5⟩
      | cons u us =>
        refine ⟨_, rfl, true, .inl ⟨_, SqL.of eu, rfl⟩, ?_⟩
        refine iteT ?_
        refine ⟨_, rfl, ua, u :: us, rfl, SqL.of eu, (fun z => nomatch z), fun m hm => ⟨by show 1 ≤ 1000; decide, fun a na => ⟨a, _, rfl, upd_same, fun d H2 nd nda s2 e1 e2 => ⟨rfl, d, _, e1, e2, ?_, ?_⟩⟩⟩⟩
        · rw [upd_ne nda] at nd
          exact nd
        · rw [upd_ne nda] at nd
          have s1d : Same Hc (upd (del H2 a) d (.xd [("operation", .str m)])) := fun b2 u eb => by
            have nb : b2 ≠ a := ne_of_none eb na
            rw [upd_ne (ne_of_none eb nd), del_ne nb]
            exact s2 b2 u nb (by rw [upd_ne nb]; exact eb)
          exact kE (fun z => nomatch z) m d _ hm (none_of sc nd) (sc.trans s1d) upd_same
end
end Mine

set_option maxRecDepth 100000
set_option maxHeartbeats 4000000
namespace Mine
open PySem L2
abbrev s_within : Stmt := top 105
abbrev s_parting_handler : Stmt := top 106
/-- an operation with unlike numbers of answers -/
def Unl2 (o1 o2 : Ops) (x : Str) : Prop := ∃ m n, (x, m) ∈ o1 ∧ (x, n) ∈ o2 ∧ m ≠ n
def Mis (o1 o2 : Ops) (m : Str) : Prop := Unl2 o1 o2 m ∧ ∀ y, Unl2 o1 o2 y → ¬ (y.cps.toList < m.cps.toList)
theorem opLook_snoc (o : Ops) (p : Str × Int) (x : Str) : opLook (o ++ [p]) x = (opLook o x).or (if p.1 = x then some p.2 else none) := by
  unfold opLook
  rw [List.find?_append]
  cases o.find? fun q => decide (q.1 = x) with
  | some q => rfl
  | none =>
    rw [Option.none_or]
    by_cases h : p.1 = x
    · rw [List.find?_cons_of_pos (by simpa using h), if_pos h]
      rfl
    · rw [List.find?_cons_of_neg (by simpa using h), if_neg h]
      rfl
theorem opLook_key {o : Ops} {x : Str} {m : Int} (h : opLook o x = some m) : x ∈ o.map (·.1) := List.mem_map.mpr ⟨(x, m), opLook_mem h, rfl⟩
theorem opLook_nil (x : Str) : opLook [] x = none := rfl
theorem opLook_in {o : Ops} (nd : (o.map (·.1)).Nodup) {x : Str} {m : Int} (h : (x, m) ∈ o) : opLook o x = some m := by
  cases e : opLook o x with
  | none => exact absurd (List.mem_map.mpr ⟨_, h, rfl⟩) (opLook_none e)
  | some m' =>
    have h2 := opLook_mem e
    have key : ∀ {o : Ops}, (o.map (·.1)).Nodup → (x, m) ∈ o → (x, m') ∈ o → m' = m := by
      intro o
      induction o with
      | nil => exact fun _ h => nomatch h
      | cons p o ih =>
        intro nd h1 h2
        rw [List.map_cons, List.nodup_cons] at nd
        rcases List.mem_cons.mp h1 with z1 | z1
        · rcases List.mem_cons.mp h2 with z2 | z2
          · rw [← z1] at z2
            exact (Prod.mk.inj z2).2
          · exact absurd (List.mem_map.mpr ⟨_, z2, by rw [← z1]⟩) nd.1
        · rcases List.mem_cons.mp h2 with z2 | z2
          · exact absurd (List.mem_map.mpr ⟨_, z1, by rw [← z2]⟩) nd.1
          · exact ih nd.2 z1 z2
    rw [key nd h h2]
theorem join_first : ∀ (l acc : Ops), ((acc ++ l).map (·.1)).Nodup → l.foldl joinStep (acc, []) = (acc ++ l, [])
  | [], acc, _ => by rw [List.append_nil]; rfl
  | p :: l, acc, nd => by
    have nd2 : ((acc ++ [p] ++ l).map (·.1)).Nodup := by simpa using nd
    have no : opLook acc p.1 = none := by
      cases e : opLook acc p.1 with
      | none => rfl
      | some m =>
        have h := opLook_key e
        rw [List.map_append, List.nodup_append] at nd
        exact absurd rfl (nd.2.2 _ h _ (List.mem_map.mpr ⟨p, List.mem_cons_self, rfl⟩))
    rw [List.foldl_cons, show joinStep (acc, []) p = (acc ++ [p], []) by unfold joinStep; dsimp only; rw [no], join_first l (acc ++ [p]) nd2, List.append_assoc]
    rfl
structure JoinK (o1 d : Ops) (s : Ops × List Str) : Prop where
  look : ∀ x, opLook s.1 x = (opLook o1 x).or (opLook d x)
  unl : ∀ x, x ∈ s.2 ↔ Unl2 o1 d x
theorem unl_snoc {o1 d : Ops} {p : Str × Int} {x : Str} : Unl2 o1 (d ++ [p]) x ↔ Unl2 o1 d x ∨ (x = p.1 ∧ ∃ m, (x, m) ∈ o1 ∧ m ≠ p.2) := by
  constructor
  · rintro ⟨m, n, h1, h2, h3⟩
    rcases List.mem_append.mp h2 with z | z
    · exact .inl ⟨m, n, h1, z, h3⟩
    · have z := List.mem_singleton.mp z
      exact .inr ⟨by rw [← z], m, h1, by rw [← z]; exact h3⟩
  · rintro (⟨m, n, h1, h2, h3⟩ | ⟨rfl, m, h1, h3⟩)
    · exact ⟨m, n, h1, List.mem_append_left _ h2, h3⟩
    · exact ⟨m, p.2, h1, List.mem_append_right _ (List.mem_singleton.mpr rfl), h3⟩
theorem join_second {o1 : Ops} (n1 : (o1.map (·.1)).Nodup) : ∀ (l d : Ops) (s : Ops × List Str), ((d ++ l).map (·.1)).Nodup → JoinK o1 d s → JoinK o1 (d ++ l) (l.foldl joinStep s)
  | [], d, s, _, h => by rw [List.append_nil]; exact h
  | p :: l, d, s, nd, h => by
    have nd2 : ((d ++ [p] ++ l).map (·.1)).Nodup := by simpa using nd
    rw [List.foldl_cons, show d ++ p :: l = d ++ [p] ++ l by simp]
    refine join_second n1 l (d ++ [p]) _ nd2 ?_
    have noD : opLook d p.1 = none := by
      cases e : opLook d p.1 with
      | none => rfl
      | some m =>
        have h := opLook_key e
        rw [List.map_append, List.nodup_append] at nd
        exact absurd rfl (nd.2.2 _ h _ (List.mem_map.mpr ⟨p, List.mem_cons_self, rfl⟩))
    have at0 := h.look p.1
    rw [noD] at at0
    unfold joinStep
    cases e : opLook s.1 p.1 with
    | none =>
      rw [e] at at0
      have o1n : opLook o1 p.1 = none := by
        cases z : opLook o1 p.1 with
        | none => rfl
        | some m => rw [z] at at0; cases at0
      refine ⟨fun x => ?_, fun x => ?_⟩
      · show opLook (s.1 ++ [p]) x = _
        rw [opLook_snoc, opLook_snoc, h.look x]
        cases opLook o1 x <;> rfl
      · show x ∈ s.2 ↔ _
        rw [h.unl x, unl_snoc]
        refine ⟨.inl, fun z => z.elim id ?_⟩
        rintro ⟨rfl, m, h1, _⟩
        rw [opLook_in n1 h1] at o1n
        cases o1n
    | some m =>
      rw [e] at at0
      have o1m : opLook o1 p.1 = some m := by
        cases z : opLook o1 p.1 with
        | none => rw [z] at at0; cases at0
        | some m' => rw [z] at at0; exact at0.symm
      have same : ∀ x, opLook s.1 x = (opLook o1 x).or (opLook (d ++ [p]) x) := fun x => by
        rw [h.look x, opLook_snoc]
        by_cases hx : p.1 = x
        · subst hx
          rw [o1m]
          rfl
        · rw [if_neg hx]
          cases opLook o1 x with
          | some _ => rfl
          | none => cases opLook d x <;> rfl
      dsimp only
      by_cases hm : m = p.2
      · rw [if_pos hm]
        refine ⟨same, fun x => ?_⟩
        rw [h.unl x, unl_snoc]
        refine ⟨.inl, fun z => z.elim id ?_⟩
        rintro ⟨rfl, m', h1, h2⟩
        rw [opLook_in n1 h1] at o1m
        exact absurd ((Option.some.inj o1m).trans hm) h2
      · rw [if_neg hm]
        refine ⟨same, fun x => ?_⟩
        show x ∈ s.2 ++ [p.1] ↔ _
        rw [List.mem_append, List.mem_singleton, h.unl x, unl_snoc]
        refine or_congr_right ⟨fun z => ⟨z, m, by rw [z]; exact opLook_mem o1m, hm⟩, fun z => z.1⟩
theorem join_unl {o1 o2 : Ops} (n1 : (o1.map (·.1)).Nodup) (n2 : (o2.map (·.1)).Nodup) (x : Str) : x ∈ (joinS (o1 ++ o2)).2 ↔ Unl2 o1 o2 x := by
  have k := join_second n1 o2 [] (o1, []) n2 ⟨fun x => by show opLook o1 x = _; rw [opLook_nil]; cases opLook o1 x <;> rfl, fun x => ⟨(fun z => nomatch z), (fun ⟨_, _, _, z, _⟩ => nomatch z)⟩⟩
  unfold joinS
  rw [List.foldl_append, join_first o1 [] n1]
  exact k.unl x
theorem Unl2.perm {o1 o2 p1 p2 : Ops} (h1 : p1.Perm o1) (h2 : p2.Perm o2) (x : Str) : Unl2 p1 p2 x ↔ Unl2 o1 o2 x :=
  ⟨fun ⟨m, n, a, b, c⟩ => ⟨m, n, h1.mem_iff.mp a, h2.mem_iff.mp b, c⟩, fun ⟨m, n, a, b, c⟩ => ⟨m, n, h1.mem_iff.mpr a, h2.mem_iff.mpr b, c⟩⟩
/-- two bodies whose operations don't go together -/
structure TwoM (CB CM : Addr) (H : Hp) (bd1 bd2 : Addr) (o1 o2 : Ops) (rs1 rs2 : List RowD) (b1 b2 : Nat) : Prop where
  B1 : BodyAt CB CM H bd1 o1 rs1 b1
  B2 : BodyAt CB CM H bd2 o2 rs2 b2
  f1 : o1.length ≤ 8
  f2 : o2.length ≤ 8
  n1 : (o1.map (·.1)).Nodup
  n2 : (o2.map (·.1)).Nodup
  ex : ∃ x, Unl2 o1 o2 x
theorem TwoM.same {CB CM : Addr} {H H' : Hp} {bd1 bd2 : Addr} {o1 o2 : Ops} {rs1 rs2 : List RowD} {b1 b2 : Nat} (h : TwoM CB CM H bd1 bd2 o1 o2 rs1 rs2 b1 b2) (s : Same H H') : TwoM CB CM H' bd1 bd2 o1 o2 rs1 rs2 b1 b2 := ⟨h.B1.same s, h.B2.same s, h.f1, h.f2, h.n1, h.n2, h.ex⟩
def EMis (CE : Addr) (H : Hp) (o1 o2 : Ops) (E : XK) : Prop := ∀ (m : Str) (d : Addr) (H' : Hp), Mis o1 o2 m → H d = none → Same H H' → H' d = some (.xd [("operation", .str m)]) → E (.ref CE) (some d) H'
def spMis (CB CM CE : Addr) : Sp := fun vs H Q E => ∃ (bd1 bd2 : Addr) (o1 o2 : Ops) (rs1 rs2 : List RowD) (b1 b2 : Nat), vs = [.ref bd1, .ref bd2] ∧ TwoM CB CM H bd1 bd2 o1 o2 rs1 rs2 b1 b2 ∧ EMis CE H o1 o2 E
def spMis3 (CB CM CE : Addr) : Sp := fun vs H Q E => ∃ (bd1 bd2 : Addr) (v : V) (o1 o2 : Ops) (rs1 rs2 : List RowD) (b1 b2 : Nat), vs = [.ref bd1, .ref bd2, v] ∧ TwoM CB CM H bd1 bd2 o1 o2 rs1 rs2 b1 b2 ∧ EMis CE H o1 o2 E
theorem pss_no {X : Cx} {ss : List Stmt} : PSs X ss (fun _ _ _ => False) := ⟨fun _ _ _ _ _ _ h => h.elim⟩
section
variable {P : Program} {w : World} {K : PySem.W.Frag} {mg : Str → Option Value} {base : Heap}
variable {CE CB CM a_joined a_walk a_parted : Addr}
theorem sc_within : FnScope ["one", "other", "walk"] ["one", "other"] (defScope s_within) := ⟨rfl, rfl, rfl, by decide +kernel, rfl, by decide +kernel, by decide +kernel⟩
theorem ok_walk_ofX {f : Addr} {fd fd_joined : FuncData} (F : Fun K "walk_of" "walk_of" s_walk_of f fd) (TB : BodyC K CB) (TM : MachC K CM)
    (GJ : FnOk P w K mg base (L2.CX P w) 3 a_joined fd_joined ["tables"] (spJoinedG CE)) (b_joined : Binds K fd_joined ["tables"] []) (g_joined : mg "joined" = some (.ref a_joined)) (k_joined : PySem.W.keepIn K (.ref a_joined) = true) : FnOk P w K mg base (L2.CX P w) 4 f fd ["one", "other"] (spMis CB CM CE) := by
  refine F.okX sc_walk_of (fun vs H Q E h => ?_) (fun cdv A outer s H vs Q E hr h => ?_)
  · obtain ⟨bd1, bd2, o1, o2, rs1, rs2, b1, b2, rfl, _⟩ := h
    rfl
  · obtain ⟨bd1, bd2, o1, o2, rs1, rs2, b1, b2, rfl, two, kE⟩ := h
    refine ⟨_, (pss_cons (ps_expr (pe_call GJ (hr.mono (by decide)) (by rfl) g_joined k_joined b_joined .nil (passes_call (takes_of rfl rfl rfl rfl) (fun _ _ _ _ h => h)) (pa_cons (pe_lstG (pa_cons (pe_fld (pe_fld (pv 0) rfl) rfl) (pa_cons (pe_fld (pe_fld (pv 1) rfl) rfl) pa_nil))) pa_nil))) pss_no), ?_⟩
    obtain ⟨m1, dx1, fb1, hb1, lb1, M1⟩ := two.B1.mach
    obtain ⟨m2, dx2, fb2, hb2, lb2, M2⟩ := two.B2.mach
    obtain ⟨dm1, fm1, t1, l1, sa1, aa1, ea1, o1', xs1, as1, es1, p1⟩ := M1
    obtain ⟨dm2, fm2, t2, l2, sa2, aa2, ea2, o2', xs2, as2, es2, p2⟩ := M2
    refine ⟨_, rfl, bd1, CB, dx1, fb1, _, rfl, hb1, TB.cl, TB.n_machine, lb1, m1, CM, dm1, fm1, _, rfl, p1.hm, TM.cl, TM.n_counts, p1.fs.counts, ?_⟩
    refine ⟨_, rfl, bd2, CB, dx2, fb2, _, rfl, hb2, TB.cl, TB.n_machine, lb2, m2, CM, dm2, fm2, _, rfl, p2.hm, TM.cl, TM.n_counts, p2.fs.counts, ?_⟩
    refine ⟨two_ok _ _, fun a H1 n1 s1 e1 => ?_⟩
    have len1 := p1.ord.1.length_eq
    have len2 := p2.ord.1.length_eq
    have fl : ([(t1, o1'), (t2, o2')].map (·.2)).flatten = o1' ++ o2' := by simp
    have ul : ∀ x, x ∈ (joinS (o1' ++ o2')).2 ↔ Unl2 o1 o2 x := fun x => (join_unl (p1.ord.1.map (·.1) |>.nodup_iff.mpr two.n1) (p2.ord.1.map (·.1) |>.nodup_iff.mpr two.n2) x).trans (Unl2.perm p1.ord.1 p2.ord.1 x)
    refine ⟨a, [(t1, o1'), (t2, o2')], rfl, e1, fun t ht => ?_, ?_, fun z => ?_, fun _ m d H2 hm nd s2 e2 => ?_⟩
    · rcases List.mem_cons.mp ht with z | z
      · subst z
        exact s1 _ _ p1.ht
      · rw [List.mem_singleton.mp z]
        exact s1 _ _ p2.ht
    · have h1 := two.f1
      have h2 := two.f2
      rw [fl, List.length_append]
      omega
    · rw [fl] at z
      obtain ⟨x, hx⟩ := two.ex
      have := (ul x).mpr hx
      rw [z] at this
      cases this
    · rw [fl] at hm
      exact kE m d H2 ⟨(ul m).mp hm.1, fun y hy => hm.2 y ((ul y).mpr hy)⟩ (none_of s1 nd) (s1.trans s2) e2
theorem ok_partedX {f : Addr} {fd fd_walk : FuncData} (F : Fun K "parted" "parted" s_parted f fd)
    (GWo : FnOk P w K mg base (L2.CX P w) 4 a_walk fd_walk ["one", "other"] (spMis CB CM CE)) (b_walk_of : Binds K fd_walk ["one", "other"] []) (g_walk_of : mg "walk_of" = some (.ref a_walk)) (k_walk_of : PySem.W.keepIn K (.ref a_walk) = true) : FnOk P w K mg base (L2.CX P w) 5 f fd ["one", "other"] (spMis CB CM CE) := by
  refine F.okX sc_parted (fun vs H Q E h => ?_) (fun cdv A outer s H vs Q E hr h => ?_)
  · obtain ⟨bd1, bd2, o1, o2, rs1, rs2, b1, b2, rfl, _⟩ := h
    rfl
  · obtain ⟨bd1, bd2, o1, o2, rs1, rs2, b1, b2, rfl, two, kE⟩ := h
    refine ⟨_, (pss_cons (ps_set (i := 2) sc_parted.nd rfl (Or.inl rfl) (pe_call GWo (hr.mono (by decide)) (by rfl) g_walk_of k_walk_of b_walk_of .nil (passes_call (takes_of rfl rfl rfl rfl) (fun _ _ _ _ h => h)) (pa_cons (pv 0) (pa_cons (pv 1) pa_nil)))) pss_no), ?_⟩
    exact ⟨_, rfl, _, rfl, bd1, bd2, o1, o2, rs1, rs2, b1, b2, rfl, two, kE⟩
theorem ok_withinX {f : Addr} {fd fd_walk : FuncData} (F : Fun K "within" "within" s_within f fd)
    (GWo : FnOk P w K mg base (L2.CX P w) 4 a_walk fd_walk ["one", "other"] (spMis CB CM CE)) (b_walk_of : Binds K fd_walk ["one", "other"] []) (g_walk_of : mg "walk_of" = some (.ref a_walk)) (k_walk_of : PySem.W.keepIn K (.ref a_walk) = true) : FnOk P w K mg base (L2.CX P w) 5 f fd ["one", "other"] (spMis CB CM CE) := by
  refine F.okX sc_within (fun vs H Q E h => ?_) (fun cdv A outer s H vs Q E hr h => ?_)
  · obtain ⟨bd1, bd2, o1, o2, rs1, rs2, b1, b2, rfl, _⟩ := h
    rfl
  · obtain ⟨bd1, bd2, o1, o2, rs1, rs2, b1, b2, rfl, two, kE⟩ := h
    refine ⟨_, (pss_cons (ps_set (i := 2) sc_within.nd rfl (Or.inl rfl) (pe_call GWo (hr.mono (by decide)) (by rfl) g_walk_of k_walk_of b_walk_of .nil (passes_call (takes_of rfl rfl rfl rfl) (fun _ _ _ _ h => h)) (pa_cons (pv 0) (pa_cons (pv 1) pa_nil)))) pss_no), ?_⟩
    exact ⟨_, rfl, _, rfl, bd1, bd2, o1, o2, rs1, rs2, b1, b2, rfl, two, kE⟩
theorem ok_pairsX {f : Addr} {fd fd_parted : FuncData} (F : Fun K "pairs" "pairs" s_pairs f fd)
    (GPa : FnOk P w K mg base (L2.CX P w) 5 a_parted fd_parted ["one", "other"] (spMis CB CM CE)) (b_parted : Binds K fd_parted ["one", "other"] []) (g_parted : mg "parted" = some (.ref a_parted)) (k_parted : PySem.W.keepIn K (.ref a_parted) = true) : FnOk P w K mg base (L2.CX P w) 6 f fd ["one", "other"] (spMis CB CM CE) := by
  refine F.okX sc_pairs (fun vs H Q E h => ?_) (fun cdv A outer s H vs Q E hr h => ?_)
  · obtain ⟨bd1, bd2, o1, o2, rs1, rs2, b1, b2, rfl, _⟩ := h
    rfl
  · obtain ⟨bd1, bd2, o1, o2, rs1, rs2, b1, b2, rfl, two, kE⟩ := h
    refine ⟨_, (pss_cons (ps_set (i := 2) sc_pairs.nd rfl (Or.inl rfl) (pe_call GPa (hr.mono (by decide)) (by rfl) g_parted k_parted b_parted .nil (passes_call (takes_of rfl rfl rfl rfl) (fun _ _ _ _ h => h)) (pa_cons (pv 0) (pa_cons (pv 1) pa_nil)))) pss_no), ?_⟩
    exact ⟨_, rfl, _, rfl, bd1, bd2, o1, o2, rs1, rs2, b1, b2, rfl, two, kE⟩
theorem sc_parting_handler : FnScope ["one", "other", "told", "history", "first", "second", "deeds", "asked", "table", "number", "operation", "answer", "shows", "word", "counts", "handles"] ["one", "other"] (defScope s_parting_handler) := ⟨rfl, rfl, rfl, by decide +kernel, rfl, by decide +kernel, by decide +kernel⟩
theorem ok_parting_handlerX {f : Addr} {fd fd_parted : FuncData} (F : Fun K "parting_handler" "parting_handler" s_parting_handler f fd)
    (GPa : FnOk P w K mg base (L2.CX P w) 5 a_parted fd_parted ["one", "other"] (spMis CB CM CE)) (b_parted : Binds K fd_parted ["one", "other"] []) (g_parted : mg "parted" = some (.ref a_parted)) (k_parted : PySem.W.keepIn K (.ref a_parted) = true) : FnOk P w K mg base (L2.CX P w) 6 f fd ["one", "other"] (spMis CB CM CE) := by
  refine F.okX sc_parting_handler (fun vs H Q E h => ?_) (fun cdv A outer s H vs Q E hr h => ?_)
  · obtain ⟨bd1, bd2, o1, o2, rs1, rs2, b1, b2, rfl, _⟩ := h
    rfl
  · obtain ⟨bd1, bd2, o1, o2, rs1, rs2, b1, b2, rfl, two, kE⟩ := h
    refine ⟨_, (pss_cons (ps_set (i := 2) sc_parting_handler.nd rfl (Or.inl rfl) (pe_call GPa (hr.mono (by decide)) (by rfl) g_parted k_parted b_parted .nil (passes_call (takes_of rfl rfl rfl rfl) (fun _ _ _ _ h => h)) (pa_cons (pv 0) (pa_cons (pv 1) pa_nil)))) pss_no), ?_⟩
    exact ⟨_, rfl, _, rfl, bd1, bd2, o1, o2, rs1, rs2, b1, b2, rfl, two, kE⟩
theorem ok_pairs_faultX {f : Addr} {fd fd_joined : FuncData} (F : Fun K "pairs_fault" "pairs_fault" s_pairs_fault f fd) (TB : BodyC K CB) (TM : MachC K CM)
    (GJ : FnOk P w K mg base (L2.CX P w) 3 a_joined fd_joined ["tables"] (spJoinedG CE)) (b_joined : Binds K fd_joined ["tables"] []) (g_joined : mg "joined" = some (.ref a_joined)) (k_joined : PySem.W.keepIn K (.ref a_joined) = true) : FnOk P w K mg base (L2.CX P w) 4 f fd ["one", "other", "pairs"] (spMis3 CB CM CE) := by
  refine F.okX sc_pairs_fault (fun vs H Q E h => ?_) (fun cdv A outer s H vs Q E hr h => ?_)
  · obtain ⟨bd1, bd2, v, o1, o2, rs1, rs2, b1, b2, rfl, _⟩ := h
    rfl
  · obtain ⟨bd1, bd2, v, o1, o2, rs1, rs2, b1, b2, rfl, two, kE⟩ := h
    refine ⟨_, (pss_cons (ps_expr (pe_call GJ (hr.mono (by decide)) (by rfl) g_joined k_joined b_joined .nil (passes_call (takes_of rfl rfl rfl rfl) (fun _ _ _ _ h => h)) (pa_cons (pe_lstG (pa_cons (pe_fld (pe_fld (pv 0) rfl) rfl) (pa_cons (pe_fld (pe_fld (pv 1) rfl) rfl) pa_nil))) pa_nil))) pss_no), ?_⟩
    obtain ⟨m1, dx1, fb1, hb1, lb1, M1⟩ := two.B1.mach
    obtain ⟨m2, dx2, fb2, hb2, lb2, M2⟩ := two.B2.mach
    obtain ⟨dm1, fm1, t1, l1, sa1, aa1, ea1, o1', xs1, as1, es1, p1⟩ := M1
    obtain ⟨dm2, fm2, t2, l2, sa2, aa2, ea2, o2', xs2, as2, es2, p2⟩ := M2
    refine ⟨_, rfl, bd1, CB, dx1, fb1, _, rfl, hb1, TB.cl, TB.n_machine, lb1, m1, CM, dm1, fm1, _, rfl, p1.hm, TM.cl, TM.n_counts, p1.fs.counts, ?_⟩
    refine ⟨_, rfl, bd2, CB, dx2, fb2, _, rfl, hb2, TB.cl, TB.n_machine, lb2, m2, CM, dm2, fm2, _, rfl, p2.hm, TM.cl, TM.n_counts, p2.fs.counts, ?_⟩
    refine ⟨two_ok _ _, fun a H1 n1 s1 e1 => ?_⟩
    have len1 := p1.ord.1.length_eq
    have len2 := p2.ord.1.length_eq
    have fl : ([(t1, o1'), (t2, o2')].map (·.2)).flatten = o1' ++ o2' := by simp
    have ul : ∀ x, x ∈ (joinS (o1' ++ o2')).2 ↔ Unl2 o1 o2 x := fun x => (join_unl (p1.ord.1.map (·.1) |>.nodup_iff.mpr two.n1) (p2.ord.1.map (·.1) |>.nodup_iff.mpr two.n2) x).trans (Unl2.perm p1.ord.1 p2.ord.1 x)
    refine ⟨a, [(t1, o1'), (t2, o2')], rfl, e1, fun t ht => ?_, ?_, fun z => ?_, fun _ m d H2 hm nd s2 e2 => ?_⟩
    · rcases List.mem_cons.mp ht with z | z
      · subst z
        exact s1 _ _ p1.ht
      · rw [List.mem_singleton.mp z]
        exact s1 _ _ p2.ht
    · have h1 := two.f1
      have h2 := two.f2
      rw [fl, List.length_append]
      omega
    · rw [fl] at z
      obtain ⟨x, hx⟩ := two.ex
      have := (ul x).mpr hx
      rw [z] at this
      cases this
    · rw [fl] at hm
      exact kE m d H2 ⟨(ul m).mp hm.1, fun y hy => hm.2 y ((ul y).mpr hy)⟩ (none_of s1 nd) (s1.trans s2) e2
end
end Mine

set_option maxRecDepth 100000
set_option maxHeartbeats 4000000
namespace L2
open PySem PySem.Spec PyProof.Rows
theorem takesNo {X : Cx} : Takes X (fun _ _ _ _ => False) := fun _ _ x => by
  obtain ⟨_, _, _, _, _, _, _, _, _, _, _, _, _, _, _, _, z⟩ := x
  exact z.elim
/-- isinstance of the caught error, which has its own dict -/
def rIsE2 (K : PySem.W.Frag) (a : Addr) (cls : Value) (d : Option Addr) : List V → Hp → VK → Prop := fun xs H Q => ∃ (C : Addr) (c : V) (cv : Value) (b : Bool) (dd : Addr) (fs : List (Str × V)), xs = [.ref a, c] ∧ cls = .ref C ∧ ExcC K C ∧ d = some dd ∧ H dd = some (.xd fs) ∧ ClsV c cv ∧ PySem.W.kitOne K (.ref C) cv = some b ∧ Q (.bl b) H
theorem call_isE2 {X : Cx} {a : Addr} {oe : Obj} {cls : Value} {d : Option Addr} {pn : List (Addr × Obj)} (hz : Zc cls d oe) (hf : ∃ vs, oe.data = .fields vs) : CallR (X.suite a ((a, oe) :: pn)) (.builtin "isinstance") (rIsE2 X.K a cls d) := by
  intro pins s σ H xs us Q I r h
  obtain ⟨C, c, cv, b, dd, fs, rfl, rfl, T, rfl, ed, kc, e, q⟩ := h
  obtain ⟨u1, u2, rfl, r1, r2⟩ := vals2 r
  cases (show u1 = Value.ref a from r1)
  have e2 := kc.eq r2
  subst e2
  obtain ⟨ha, _⟩ := I.pin (a, oe) (List.mem_append_left _ List.mem_cons_self)
  obtain ⟨vs, hd⟩ := hf
  have hx : ObjOk X.prog X.w H s.heap dd (.xd fs) := I.hok dd _ ed
  obtain ⟨mA, hns, hr⟩ := hx
  obtain ⟨od, ho, hl⟩ := lookIn_ns hns
  have J : PySem.W.InstAt s.heap a oe C (some od) := ⟨ha, hz.1, by unfold PySem.W.notCls; rw [hd] <;> rfl, by rw [hz.2]; exact ho⟩
  exact PySem.W.kia_one (PySem.ExoX.kitExo T) I.kIn ⟨_, _, J⟩ e (fun z => nomatch z) fun tk => ⟨.bl b, H, I.tok tk, rfl, q⟩
end L2
namespace Mine
open PySem L2 LamB
abbrev s_said : Stmt := top 112
/-- what a thing tells that raises Mismatch -/
def spSaidM (P : Program) (w : World) (K : PySem.W.Frag) (mg : Str → Option Value) (base : Heap) (k : Nat) (CE : Addr) : Sp := fun vs H Q _ => ∃ (f : Addr) (G : Hp → Prop) (sp : Sp) (m : Str), vs = [.ref f] ∧ Acts P w K mg base (L2.CX P w) k f G sp ∧ G H ∧
  (∀ (Q' : VK) (E' : XK), (∀ d H', H d = none → Same H H' → H' d = some (.xd [("operation", .str m)]) → E' (.ref CE) (some d) H') → sp [] H Q' E') ∧
  ∀ (u : Addr) (H' : Hp), Same H H' → H u = none → H' u = some (.tup [.str "mismatch", .str m]) → Q (.ref u) H'
section
variable {P : Program} {w : World} {K : PySem.W.Frag} {mg : Str → Option Value} {base : Heap}
variable {fII fIW CA CE : Addr}
theorem sc_said : FnScope ["_law_ask", "e"] ["_law_ask"] (defScope s_said) := ⟨rfl, rfl, rfl, by decide +kernel, rfl, by decide +kernel, by decide +kernel⟩
theorem ok_said {f : Addr} {fd : FuncData} {k : Nat} (F : Fun K "_law_said" "_law_said" s_said f fd) (T : TxtF K mg fII fIW)
    (g_AskError : mg "AskError" = some (.ref CA)) (g_Mismatch : mg "Mismatch" = some (.ref CE)) (XH : XfC K CE) (TH : ExcC K CE) (nf : PySem.W.findIn K (.ref CE) "operation" = some none) (eP : PySem.W.exmOne K (.ref CE) (.ref CA) = some true) (kH : PySem.W.kitOne K (.ref CE) (.ref CE) = some true) : FnOk P w K mg base CX0 (k + 1) f fd ["_law_ask"] (spSaidM P w K mg base k CE) := by
  refine F.ok sc_said (fun vs H Q E h => ?_) (fun cdv A outer s H vs Q E hr h => ?_)
  · obtain ⟨f, G, sp, m, rfl, _⟩ := h
    rfl
  · obtain ⟨f, G, sp, m, rfl, a, g, hs, kQ⟩ := h
    refine ⟨_, (pss_one (ps_try_as (i := 1) rfl rfl sc_said.nd rfl rfl ⟨rfl, by decide, .inl g_AskError⟩ takesNo
      (fun W pn xe tk _ => pss_one (ps_ret (show PE _ _ (tActS P w K mg base (L2.CX P w) k 0 (WE W)) from pe_actS hr (fun σ => passAt tk σ) rfl (.inl rfl))))
      (fun a oe cls d pn hz hf => pss_one (ps_ret (pe_ifExp (pt_val (pe_callB (call_isE2 hz hf) (by rfl) T.b_isinstance (by decide +kernel) (pa_cons (pv 1) (pa_cons (pe_glob (v := .ref CE) rfl g_Mismatch rfl) pa_nil)))) (pe_tupG (pa_cons pe_str (pa_cons (pe_xf XH nf hz hf (pv 1)) pa_nil))) pe_str))))), ?_⟩
    refine ⟨f, G, sp, rfl, a, g, hs _ _ fun d H' nd s' ed => ?_⟩
    refine ⟨true, eP, fun _ a ha => ?_, fun q => nomatch q⟩
    refine ⟨_, rfl, CE, _, _, _, d, _, rfl, rfl, TH, rfl, ed, .own CE, kH, _, rfl, ?_⟩
    refine iteT ?_
    exact ⟨_, rfl, rfl, rfl, d, _, .str m, rfl, ed, by simp [List.lookup], two_ok _ _, fun u H1 n1 s1 e1 => kQ u H1 (s'.trans s1) (none_of s' n1) e1⟩
end
end Mine

set_option maxRecDepth 100000
set_option maxHeartbeats 4000000
set_option pp.maxSteps 300
namespace LamB
open PySem PySem.Spec PyProof.Rows L2 LamX NdefX
theorem far_ex {X : Cx} (h : ∃ (pins : List (Addr × Obj)) (σ : L2.St) (H : Hp) (s : Shared), Inv X pins σ H s) (told : Told X) (hfn : ∀ x, X.fn x = true) (hst : X.stack = X.env :: X.outer) (hfr : X.env.frame = some X.env.locals) : Far X := by
  obtain ⟨pins, σ, H, s, I⟩ := h
  exact far_own I told hfn hst hfr
end LamB
namespace Mine
open PySem L2 LamB
abbrev s_mm : Stmt := top 113
abbrev qMM : Str := "_law_mismatch_right" ++ ".<locals>." ++ "<lambda>"
/-- what it is to raise Mismatch with m -/
def RMis (CE : Addr) (m : Str) : Hp → VK → XK → Prop := fun H2 _ E => ∀ (d : Addr) (H' : Hp), H2 d = none → Same H2 H' → H' d = some (.xd [("operation", .str m)]) → E (.ref CE) (some d) H'
/-- _law_said(ask) in the comprehension -/
def tAskE (X : Cx) (CE : Addr) (i : Nat) : St → TE := fun σ σ2 H2 Q => ∃ (f : Addr) (m : Str), σ2[i]? = some (some (.ref f)) ∧ Answers X (L2.CX X.prog X.w) 7 σ H2 f (RMis CE m) ∧
  ∀ (u : Addr) (H' : Hp), Same H2 H' → H2 u = none → H' u = some (.tup [.str "mismatch", .str m]) → Q (.ref u) H'
theorem ask_elem {X : Cx} {CE a_said : Addr} {fd_said : FuncData} {scope : Scope} {C : Addr} {fp : List Addr} {pins : List (Addr × Obj)} {σ : St} {s : Shared} {H : Hp} {e : Expr} {p pos : Pos} (far : Far X) (told : Told X)
    (GSa : ∀ B, LamB.Up X.base B → FnOk X.prog X.w X.K X.mg B CX0 8 a_said fd_said ["_law_ask"] (spSaidM X.prog X.w X.K X.mg B 7 CE)) (hr : Room 8 X.A) (hg : Gl (blkI X s H scope C fp) "_law_said") (g_said : X.mg "_law_said" = some (.ref a_said)) (k_said : PySem.W.keepIn X.K (.ref a_said) = true) (b_said : Binds X.K fd_said ["_law_ask"] [])
    (I : Inv X pins σ H s) (hfp : ∀ b ∈ fp, FpOk X pins H b) (ha : PA (blkI X s H scope C fp) [e] (tCons (tVar 10) tNil))
    (he : starEach [e] (blkI X s H scope C fp).env = (false, eval e (blkI X s H scope C fp).env) :: starEach [] (blkI X s H scope C fp).env := by rfl) :
    PE (blkI X s H scope C fp) (.Call (.Name "_law_said" p) [e] [] pos) (tAskE X CE 10 σ) :=
  pe_imp (pe_callW (X := blkI X s H scope C fp) (B := grOf X s) (E := E0) (dvs := []) (fun _ _ _ _ J => env_blk I far told hfp J) (GSa (grOf X s) (up_gr I)) hr hg g_said k_said b_said .nil pass0 ha (by decide) he rfl) (fun σ2 H2 Q q => by
    obtain ⟨f, m, hs, an, kQ⟩ := q
    obtain ⟨G, sp, a, rd⟩ := an (grOf X s) (up_gr I) I.ok.mod (cball I)
    have z := rd H2 (Same.refl _)
    exact ⟨_, hs, f, G, sp, m, rfl, a, z.1, fun Q' E' h => z.2 Q' E' h, kQ⟩)
/-- unlike numbers of answers are told: true, whatever is drawn -/
def spMR (PM : Addr) : Sp := fun vs H Q _ => ∃ (a : Addr) (x y z : Int), vs = [.ref a] ∧ H a = some (.lst [.int x, .int y, .int z]) ∧ LamX.Tabs [(PM, qMM)] H ∧
  ∀ (x' y' z' : Int) (H' : Hp), (∀ b o, b ≠ a → b ≠ PM → H b = some o → H' b = some o) → LamX.Tabs [(PM, qMM)] H' → H' a = some (.lst [.int x', .int y', .int z']) → Q (.bl true) H'
section
variable {P : Program} {w : World} {K : PySem.W.Frag} {mg : Str → Option Value} {base : Heap}
variable {fII fIW CB CM CE PM cM fB a_mixed a_next a_said a_parted a_within a_pairs a_pfault a_phandler : Addr}
def names4 : List Str := ["coin", "tell", "open", "x"]
theorem names4_ok : ∀ t ∈ names4, isNm t = true := by decide +kernel
theorem names4_nd : names4.Nodup := by decide +kernel
theorem names4_str : ∀ t ∈ names4, PyData.strOk t = true := by decide +kernel
/-- those of wr have one answer more -/
def upO (wr : List Str) (o : Ops) : Ops := o.map fun q => (q.1, q.2 + (if inV (.str q.1) (wr.map V.str) = true then 1 else 0))
theorem upO_keys (wr : List Str) (o : Ops) : (upO wr o).map (·.1) = o.map (·.1) := by
  unfold upO
  rw [List.map_map]
  rfl
theorem flat_strs (l : List Str) : (l.map V.str).all flatV = true := by
  rw [List.all_map]
  exact List.all_eq_true.mpr fun _ _ => rfl
theorem okE (o : Ops) (h1 : o.length ≤ 8) (h2 : ∀ q ∈ o, isNm q.1 = true ∧ 0 ≤ q.2 ∧ q.2 ≤ 6) (h3 : (o.map (·.1)).Nodup) : OkB o [.fin "a"] 0 := by
  refine ⟨⟨h1, h2, h3⟩, Nat.le_refl _, by show 1 < 64; decide, fun i d e => ?_, Nat.zero_lt_one⟩
  match i, e with
  | 0, e =>
    have := Option.some.inj e
    subst this
    exact ⟨by decide +kernel, by decide +kernel⟩
theorem rowsE {H : Hp} {T : Addr} (h : H T = some (.tup [.str "end", .str "a"])) : RowsIn H [.ref T] [.fin "a"] := by
  refine ⟨rfl, fun i d e => ?_⟩
  match i, e with
  | 0, e =>
    have := Option.some.inj e
    subst this
    exact ⟨_, rfl, T, rfl, .inr h⟩
theorem body_end0 {CB CM : Addr} {H2 : Hp} {R : Hp → Prop} {E : XK} {d r : Addr} {xs : List V} {rs : List RowD} {o : Ops} (hd : H2 d = some (.dK (opsK o))) (hx : SqA H2 r xs) (rows : RowsIn H2 xs rs) (ok : OkB o rs 0)
    (bd dx : Addr) (nb : H2 bd = none) (nd : H2 dx = none) (ne : dx ≠ bd) (k : ∀ H3, Same H2 H3 → BodyN CB CM H2 H3 bd o rs 0 → R H3) : spBody CB CM [.ref bd, .ref d, .ref r, .int 0] (upd (upd H2 dx (.own bd)) bd (.ins CB dx [])) (fun v H3 => v = .non ∧ R H3) E := by
  have sm : Same H2 (upd (upd H2 dx (.own bd)) bd (.ins CB dx [])) := same_updN (same_updN (Same.refl _) nd) nb
  exact ⟨bd, d, r, dx, xs, rs, o, 0, rfl, upd_same, sm _ _ hd, ok.ops, sm.sqa hx, rows.same sm, ok.lo, by have := ok.hi; omega, ok.rows, ok.lt, ok.few "ask", ok.few "end", fun H' s' B => ⟨rfl, k H' (fun b2 u e => s' b2 u (ne_of_none e nb) (sm _ _ e)) (by
    obtain ⟨m, t, l, sa, aa, ea, o', xs, as, es, h, n1, n2, n3, n4, n5, n6⟩ := B
    exact ⟨m, t, l, sa, aa, ea, o', xs, as, es, h, none_of sm n1, none_of sm n2, none_of sm n3, none_of sm n4, none_of sm n5, none_of sm n6⟩)⟩⟩
theorem three_ok (u v t : V) : [u, v, t].length ≤ sizeLine := by rw [sizeLine_eq]; exact Nat.le_trans (show 3 ≤ 3 from Nat.le_refl 3) (by decide)
theorem inV_strs {t : Str} {l : List Str} : inV (.str t) (l.map V.str) = true ↔ t ∈ l := by
  unfold inV
  rw [List.any_map, List.any_eq_true]
  constructor
  · rintro ⟨u, hu, e⟩
    have e : eqV (.str u) (.str t) = true := e
    have e2 : u = t := by simpa [eqV] using e
    rw [← e2]
    exact hu
  · exact fun h => ⟨t, h, by show eqV (.str t) (.str t) = true; simp [eqV]⟩
theorem upO_unl {wr : List Str} {o : Ops} (nd : (o.map (·.1)).Nodup) (hw : ∀ t ∈ wr, t ∈ o.map (·.1)) (t : Str) : Unl2 o (upO wr o) t ↔ t ∈ wr := by
  constructor
  · rintro ⟨m, n, h1, h2, h3⟩
    obtain ⟨q, hq, e⟩ := List.mem_map.mp h2
    have e1 : q.1 = t := congrArg Prod.fst e
    have e2 : q.2 + (if inV (.str q.1) (wr.map V.str) = true then 1 else 0) = n := congrArg Prod.snd e
    have e3 : q.2 = m := by
      have a := opLook_in nd h1
      have b := opLook_in nd (show (t, q.2) ∈ o by rw [← e1]; exact hq)
      rw [a] at b
      exact (Option.some.inj b).symm
    by_cases z : inV (.str q.1) (wr.map V.str) = true
    · rw [← e1]
      exact inV_strs.mp z
    · rw [if_neg z, e3] at e2
      exact absurd (by omega) h3
  · intro h
    obtain ⟨q, hq, e⟩ := List.mem_map.mp (hw t h)
    have e : q.1 = t := e
    have z : inV (.str q.1) (wr.map V.str) = true := inV_strs.mpr (by rw [e]; exact h)
    refine ⟨q.2, q.2 + 1, by rw [← e]; exact hq, List.mem_map.mpr ⟨q, hq, ?_⟩, by omega⟩
    rw [if_pos z, e]
theorem unl_symm {o1 o2 : Ops} {t : Str} : Unl2 o1 o2 t ↔ Unl2 o2 o1 t := ⟨fun ⟨m, n, a, b, c⟩ => ⟨n, m, b, a, Ne.symm c⟩, fun ⟨m, n, a, b, c⟩ => ⟨n, m, b, a, Ne.symm c⟩⟩
theorem tabs_but {PM a : Addr} {q : Str} {H H' : Hp} {x y z : V} (t : LamX.Tabs [(PM, q)] H) (ha : H a = some (.lst [x, y, z])) (b : But H H' a) : LamX.Tabs [(PM, q)] H' := fun p hp => by
  obtain ⟨ps, e1, e2, e3⟩ := t p hp
  refine ⟨ps, b _ _ (fun z => ?_) e1, e2, fun pos cv h => ?_⟩
  · rw [z, ha] at e1
    cases e1
  · obtain ⟨c, e4, e5⟩ := e3 pos cv h
    refine ⟨c, e4, b _ _ (fun z => ?_) e5⟩
    rw [z, ha] at e5
    have e5 := Option.some.inj e5
    unfold LamX.CodeO at e5
    cases e5
theorem five_ok (a b c d e : V) : [a, b, c].length + [d, e].length ≤ sizeLine := by rw [sizeLine_eq]; exact Nat.le_trans (show 5 ≤ 5 from Nat.le_refl 5) (by decide)
theorem seven_ok (a b c d e f g : V) : ([a, b, c] ++ [d, e]).length + [f, g].length ≤ sizeLine := by rw [sizeLine_eq]; exact Nat.le_trans (show 7 ≤ 7 from Nat.le_refl 7) (by decide)
theorem go {PM : Addr} {q : Str} {H H' : Hp} (u : ButT PM H H') (t : LamX.Tabs [(PM, q)] H) {b : Addr} {o : HO} (e : H b = some o) (nt : ∀ ps, o ≠ .tbl ps) : H' b = some o := u b o (fun z => by
  obtain ⟨ps, e1, _⟩ := t (PM, q) (List.mem_singleton.mpr rfl)
  have e1 : H PM = some (.tbl ps) := e1
  rw [z, e1] at e
  exact nt ps (Option.some.inj e).symm) e
theorem tabs_same {T : List (Addr × Str)} {H H' : Hp} (t : LamX.Tabs T H) (s : Same H H') : LamX.Tabs T H' := t.ext fun b o e => s b o e
theorem mis_uniq {o1 o2 : Ops} {m n : Str} (a : Mis o1 o2 m) (b : Mis o1 o2 n) : m = n :=
  IsMin.uniq (xs := [m, n]) (ys := [m, n]) ⟨List.mem_cons_self, fun y hy => by
    simp only [List.mem_cons, List.not_mem_nil, or_false] at hy
    rcases hy with rfl | rfl
    · exact List.lt_irrefl _
    · exact a.2 _ b.1⟩ ⟨by simp, fun y hy => by
    simp only [List.mem_cons, List.not_mem_nil, or_false] at hy
    rcases hy with rfl | rfl
    · exact b.2 _ a.1
    · exact List.lt_irrefl _⟩ fun _ => Iff.rfl
theorem mis_all {K : PySem.W.Frag} {H : Hp} {m : Str} : ∀ {ps : List Addr}, (∀ p ∈ ps, H p = some (.tup [.str "mismatch", .str m])) → DpAll K H (ps.map V.ref) (List.replicate ps.length (.tuple [.str "mismatch", .str m]))
  | [], _ => .nil
  | p :: ps, h => .cons (.tup (.inl (.inl (h p List.mem_cons_self))) (strs_all ["mismatch", m])) (mis_all fun q hq => h q (List.mem_cons_of_mem _ hq))
theorem mis_lay {m : Str} (h : PyData.strOk m = true) : PyData.canLay0 (.list (List.replicate 7 (.tuple [.str "mismatch", .str m]))) = true := by
  have h0 : PyData.strOk "mismatch" = true := by decide +kernel
  simp [List.replicate, PyData.canLay0, PyData.canLayAll0, h, h0]
theorem mis_shaped {m : Str} (h : PyData.strOk m = true) : SeqAt.shaped (.list (List.replicate 7 (.tuple [.str "mismatch", .str m]))) = true := by
  show (PyData.canLay0 _ && decide (PyData.depth _ ≤ 64)) = true
  rw [mis_lay h, Bool.true_and]
  refine decide_eq_true ?_
  simp [List.replicate, PyData.depth, PyData.depthAll]
/-- the pairs that are made so far -/
structure PairI (Hn : Hp) (a D : Addr) (zs : List Str) (j : Nat) (Hx : Hp) : Prop where
  but : But Hn Hx a
  src : SrcAt Hx a
  made : ∃ (ps : List Addr) (o : Ops), Hx D = some (.lst (ps.map V.ref)) ∧ o.map (·.1) = zs.take j ∧ (∀ q ∈ o, 1 ≤ q.2 ∧ q.2 ≤ 2) ∧ Paired (fun p kv => Hx p = some (.tup [kV kv.1, kv.2])) ps (opsK o) ∧ ps.length = j
theorem sc_mm : FnScope ["_law_source", "_law_names", "_law_first", "_law_name", "_law_wrong", "_law_second", "_law_one_here", "_law_other", "_law_due", "_law_asks", "_law_ask"] ["_law_source"] (defScope s_mm) := ⟨rfl, rfl, rfl, by decide +kernel, rfl, by decide +kernel, by decide +kernel⟩
theorem mm_nd : ((cellsFrom 0 (defScope s_mm).names []).map (·.1)).Nodup := by decide +kernel
theorem ok_mm {f : Addr} {fd fd_mixed fd_next fd_said fd_parted fd_within fd_pairs fd_pfault fd_phandler fdB : FuncData} {ds : List Value} (F : FunC K "_law_mismatch_right" "_law_mismatch_right" s_mm f fd cM) (T : TxtF K mg fII fIW)
    (MB : Mk K CB fB) (GB : FnOk P w K mg base CX0 7 fB fdB PB (spBody CB CM)) (hds : Vals [V.int 0] ds) (bB : Binds K fdB PB ds) (g_Body : mg "Body" = some (.ref CB)) (h_min : mg "min" = none) (TBm : LamX.TabB base mg cM PM)
    (GMx : FnOk P w K mg base CX0 2 a_mixed fd_mixed ["_law_source", "_law_some"] spMixed) (b_mixed : Binds K fd_mixed ["_law_source", "_law_some"] []) (g_mixed : mg "_law_mixed" = some (.ref a_mixed)) (k_mixed : PySem.W.keepIn K (.ref a_mixed) = true)
    (GN : FnOk P w K mg base CX0 1 a_next fd_next ["_law_source", "_law_many"] spNext) (b_next : Binds K fd_next ["_law_source", "_law_many"] []) (g_next : mg "_law_next" = some (.ref a_next)) (k_next : PySem.W.keepIn K (.ref a_next) = true)
    (GSa : ∀ B, LamB.Up base B → FnOk P w K mg B CX0 8 a_said fd_said ["_law_ask"] (spSaidM P w K mg B 7 CE)) (b_said : Binds K fd_said ["_law_ask"] []) (g_said : mg "_law_said" = some (.ref a_said)) (k_said : PySem.W.keepIn K (.ref a_said) = true)
    (GPa : FnOk P w K mg base (L2.CX P w) 5 a_parted fd_parted ["one", "other"] (spMis CB CM CE)) (b_parted : Binds K fd_parted ["one", "other"] []) (g_parted : mg "parted" = some (.ref a_parted)) (k_parted : PySem.W.keepIn K (.ref a_parted) = true)
    (GWi : FnOk P w K mg base (L2.CX P w) 5 a_within fd_within ["one", "other"] (spMis CB CM CE)) (b_within : Binds K fd_within ["one", "other"] []) (g_within : mg "within" = some (.ref a_within)) (k_within : PySem.W.keepIn K (.ref a_within) = true)
    (GPr : FnOk P w K mg base (L2.CX P w) 6 a_pairs fd_pairs ["one", "other"] (spMis CB CM CE)) (b_pairs : Binds K fd_pairs ["one", "other"] []) (g_pairs : mg "pairs" = some (.ref a_pairs)) (k_pairs : PySem.W.keepIn K (.ref a_pairs) = true)
    (GPh : FnOk P w K mg base (L2.CX P w) 6 a_phandler fd_phandler ["one", "other"] (spMis CB CM CE)) (b_phandler : Binds K fd_phandler ["one", "other"] []) (g_phandler : mg "parting_handler" = some (.ref a_phandler)) (k_phandler : PySem.W.keepIn K (.ref a_phandler) = true)
    (GPf : FnOk P w K mg base (L2.CX P w) 4 a_pfault fd_pfault ["one", "other", "pairs"] (spMis3 CB CM CE)) (b_pfault : Binds K fd_pfault ["one", "other", "pairs"] []) (g_pfault : mg "pairs_fault" = some (.ref a_pfault)) (k_pfault : PySem.W.keepIn K (.ref a_pfault) = true) :
    FnOk P w K mg base CX0 9 f fd ["_law_source"] (spMR PM) := by
  refine F.ok sc_mm (fun vs H Q E h => ?_) (fun A outer s H vs Q E hr h => ?_)
  · obtain ⟨a, x, y, z, rfl, _⟩ := h
    rfl
  · obtain ⟨a, x, y, z, rfl, ha, tabs, k⟩ := h
    have told : Told (cxOf CX0 P w K mg base ["_law_source", "_law_names", "_law_first", "_law_name", "_law_wrong", "_law_second", "_law_one_here", "_law_other", "_law_due", "_law_asks", "_law_ask"] "_law_mismatch_right" (defScope s_mm) f (.ref cM) A outer s H E).nox := told_own (n := s.heap.objs.size + 1) rfl mm_nd
    refine ⟨_, pss_ok (fun h0 => (pss_cons (ps_set (i := 1) sc_mm.nd rfl (Or.inl rfl) (pe_slice sl_listG (pe_call GMx (hr.mono (by decide)) (by rfl) g_mixed k_mixed b_mixed .nil pass0 (pa_cons (pv 0) (pa_cons (pe_lstG (pa_cons pe_str (pa_cons pe_str (pa_cons pe_str (pa_cons pe_str pa_nil))))) pa_nil))) po_none (po_some pe_int)))
      (pss_cons (ps_set (i := 2) sc_mm.nd rfl (Or.inr rfl) (pe_callTy (call_dictP rfl) (by rfl) T.b_dict (by decide +kernel) (pa_cons (pe_lc (own := [("_law_name", 3)]) (g := gName 3) (tt := tYes) rfl sc_mm.nd (pi_list (pv 1)) (blkOk_by (own := [("_law_name", 3)]) (N := ["_law_source", "_law_names", "_law_first", "_law_name", "_law_wrong", "_law_second", "_law_one_here", "_law_other", "_law_due", "_law_asks", "_law_ask"]) (sc := defScope s_mm) (by decide +kernel)) (fun _ _ _ _ _ => pg_name (i := 3) sc_mm.nd rfl (Or.inl rfl)) (fun _ _ _ _ _ => pts_nil) (fun _ _ _ _ _ => (pe_tupG (pa_cons (pv 3) (pa_cons (pe_op op_add pe_int (pe_call GN (hr.mono (by decide)) (by rfl) g_next k_next b_next .nil pass0 (pa_cons (pv 0) (pa_cons pe_int pa_nil)))) pa_nil))))) pa_nil)))
      (pss_cons (ps_set (i := 4) sc_mm.nd rfl (Or.inr rfl) (pe_slice sl_listG (pv 1) po_none (po_some (pe_op op_add pe_int (pe_call GN (hr.mono (by decide)) (by rfl) g_next k_next b_next .nil pass0 (pa_cons (pv 0) (pa_cons pe_int pa_nil)))))))
      (pss_cons (ps_set (i := 5) sc_mm.nd rfl (Or.inl rfl) (pe_callTy (call_dictP rfl) (by rfl) T.b_dict (by decide +kernel) (pa_cons (pe_lc (own := [("_law_name", 3)]) (g := gName 3) (tt := tYes) rfl sc_mm.nd (pi_list (pv 1)) (blkOk_by (own := [("_law_name", 3)]) (N := ["_law_source", "_law_names", "_law_first", "_law_name", "_law_wrong", "_law_second", "_law_one_here", "_law_other", "_law_due", "_law_asks", "_law_ask"]) (sc := defScope s_mm) (by decide +kernel)) (fun _ _ _ _ _ => pg_name (i := 3) sc_mm.nd rfl (Or.inl rfl)) (fun _ _ _ _ _ => pts_nil) (fun _ _ _ _ _ => (pe_tupG (pa_cons (pv 3) (pa_cons (pe_op op_add (pe_dget (hu_of hr) (pv 2) (pv 3) (fun _ _ => rfl)) (pe_callTy call_int1 (by rfl) T.b_int (by decide +kernel) (pa_cons (pe_cmpR (show OpR _ _ (rIn K false) from op_in_seq) (pv 3) (pv 4) (by rfl)) pa_nil))) pa_nil))))) pa_nil)))
      (pss_cons (ps_asg (pe_tupG (pa_cons (pe_make (dvs := [V.int 0]) MB GB (hr.mono (by decide)) (by rfl) g_Body bB hds pass0 (pa_cons (pv 2) (pa_cons (pe_lstG (pa_cons (pe_tupG (pa_cons pe_str (pa_cons pe_str pa_nil))) pa_nil)) pa_nil))) (pa_cons (pe_make (dvs := [V.int 0]) MB GB (hr.mono (by decide)) (by rfl) g_Body bB hds pass0 (pa_cons (pv 5) (pa_cons (pe_lstG (pa_cons (pe_tupG (pa_cons pe_str (pa_cons pe_str pa_nil))) pa_nil)) pa_nil))) (pa_cons (pe_tupG (pa_cons pe_str (pa_cons (pe_callB (cr_minS rfl (hu_of hr)) (by rfl) h_min (by decide +kernel) (pa_cons (pv 4) pa_nil)) pa_nil))) pa_nil)))) (pg_tup rfl (pgs_cons (pg_name (i := 6) sc_mm.nd rfl (Or.inr rfl)) (pgs_cons (pg_name (i := 7) sc_mm.nd rfl (Or.inr rfl)) (pgs_cons (pg_name (i := 8) sc_mm.nd rfl (Or.inl rfl)) pgs_nil)))))
      (pss_cons (ps_set (i := 9) sc_mm.nd rfl (Or.inl rfl) (pe_lstG (pa_cons (pe_lamV (T := [(PM, qMM)]) TBm rfl (List.mem_singleton.mpr rfl) (fun p hp _ => by rw [List.mem_singleton.mp hp]; rfl) (NdefX.ndef_free (sc := defScope s_mm) (fr := []) (by decide +kernel)) rfl) (pa_cons (pe_lamD (T := [(PM, qMM)]) TBm rfl (List.mem_singleton.mpr rfl) (fun p hp _ => by rw [List.mem_singleton.mp hp]; rfl) (NdefX.ndef_free (sc := defScope s_mm) (fr := []) (by decide +kernel)) rfl rfl pe_int) (pa_cons (pe_lamD (T := [(PM, qMM)]) TBm rfl (List.mem_singleton.mpr rfl) (fun p hp _ => by rw [List.mem_singleton.mp hp]; rfl) (NdefX.ndef_free (sc := defScope s_mm) (fr := []) (by decide +kernel)) rfl rfl pe_int) pa_nil)))))
      (pss_cons (ps_set (i := 9) sc_mm.nd rfl (Or.inl rfl) (pe_op op_catG (pv 9) (pe_lstG (pa_cons (pe_lamV (T := [(PM, qMM)]) TBm rfl (List.mem_singleton.mpr rfl) (fun p hp _ => by rw [List.mem_singleton.mp hp]; rfl) (NdefX.ndef_free (sc := defScope s_mm) (fr := []) (by decide +kernel)) rfl) (pa_cons (pe_lamD (T := [(PM, qMM)]) TBm rfl (List.mem_singleton.mpr rfl) (fun p hp _ => by rw [List.mem_singleton.mp hp]; rfl) (NdefX.ndef_free (sc := defScope s_mm) (fr := []) (by decide +kernel)) rfl rfl pe_int) pa_nil)))))
      (pss_cons (ps_set (i := 9) sc_mm.nd rfl (Or.inl rfl) (pe_op op_catG (pv 9) (pe_lstG (pa_cons (pe_lamV (T := [(PM, qMM)]) TBm rfl (List.mem_singleton.mpr rfl) (fun p hp _ => by rw [List.mem_singleton.mp hp]; rfl) (NdefX.ndef_free (sc := defScope s_mm) (fr := []) (by decide +kernel)) rfl) (pa_cons (pe_lamD (T := [(PM, qMM)]) TBm rfl (List.mem_singleton.mpr rfl) (fun p hp _ => by rw [List.mem_singleton.mp hp]; rfl) (NdefX.ndef_free (sc := defScope s_mm) (fr := []) (by decide +kernel)) rfl rfl pe_int) pa_nil)))))
      (pss_one (ps_ret (pe_cmpR (op_eqD hr.units) (pe_lcI (own := [("_law_ask", 10)]) (g := gName 10) (te := tAskE _ CE 10) rfl sc_mm.nd (pi_list (pv 9)) (blkOk_by (own := [("_law_ask", 10)]) (N := ["_law_source", "_law_names", "_law_first", "_law_name", "_law_wrong", "_law_second", "_law_one_here", "_law_other", "_law_due", "_law_asks", "_law_ask"]) (sc := defScope s_mm) (by decide +kernel)) (fun _ _ _ _ _ => pg_name (i := 10) sc_mm.nd rfl (Or.inl rfl)) (fun pins σ s1 H1 C fp I hfp => ask_elem (far_ex h0 told (fun _ => rfl) rfl rfl) told GSa hr (by rfl) g_said k_said b_said I hfp (pa_cons (pv 10) pa_nil))) (pe_op op_repG (pe_lstG (pa_cons (pv 8) pa_nil)) pe_int) (nomark _))))))))))))), ?_⟩
    have nl : ∀ n : Nat, n ≤ 8 → n ≤ sizeLine := fun n h => by rw [sizeLine_eq]; omega
    obtain ⟨qs, ePM, _, _⟩ := tabs (PM, qMM) (List.mem_singleton.mpr rfl)
    have ePM : H PM = some (.tbl qs) := ePM
    have aPM : a ≠ PM := fun z => by rw [z, ePM] at ha; cases ha
    -- names
    refine ⟨_, rfl, nl 4 (by decide), fun p1 H1 n1 s1 e1 => ?_⟩
    refine ⟨a, p1, _, x, y, z, rfl, s1 _ _ ha, .inl e1, by show 4 ≤ 1000; decide, fun v hv => ?_, fun p2 ys x2 y2 z2 H2 n2 perm bt e2 e3 => ?_⟩
    · have hv : v ∈ names4.map V.str := hv
      obtain ⟨t, ht, rfl⟩ := List.mem_map.mp hv
      exact .inl ⟨t, rfl, names4_str t ht⟩
    obtain ⟨zs, pz, rfl⟩ := perm_strs (ns := names4) perm
    have zl : zs.length = 4 := pz.length_eq
    refine ⟨3, rfl, p2, _, rfl, SqL.of e3, fun p3 H3 n3 s3 e4 => ?_⟩
    have ec : cutV (zs.map V.str) none (some 3) = (zs.take 3).map V.str := by
      unfold cutV
      rw [HT.sIx_none, show ((3 : Int)) = ((3 : Nat) : Int) from rfl, HT.sIx_nat, List.length_map, List.drop_zero, List.map_take, Nat.sub_zero, Nat.min_eq_left (by omega)]
    rw [ec] at e4
    have nmOk : ∀ t ∈ zs.take 3, t ∈ names4 := fun t ht => pz.mem_iff.mp (List.mem_of_mem_take ht)
    have nmNd : (zs.take 3).Nodup := (pz.nodup_iff.mpr names4_nd).sublist (List.take_sublist _ _)
    have nmL : (zs.take 3).length = 3 := by rw [List.length_take]; omega
    generalize zs.take 3 = nm at e4 nmOk nmNd nmL
    have b3 : But H H3 a := fun b o nb e => s3 _ _ (bt _ _ nb (s1 _ _ e))
    have src3 := s3 _ _ e2
    have ap3 : p3 ≠ a := fun z => by rw [z, e2] at n3; cases n3
    -- the first dict
    refine ⟨_, rfl, p3, rfl, ⟨_, SqL.of e4⟩, fun D nD => ?_⟩
    have nDa : D ≠ a := fun z => by rw [z, src3] at nD; cases nD
    refine lc_it (walk_list (xs := nm.map V.str)) (fun j Hx => PairI H3 a D nm j Hx) ⟨fun b o _ e => ?_, ⟨x2, y2, z2, ?_⟩, [], [], upd_same, rfl, (fun _ h => (nomatch h)), .nil, rfl⟩ (fun j Hx _ z => SqL.of (z.but _ _ ap3 e4)) (fun j x Ha Hb hj z1 z2 => ?_) (fun Hx z => ?_)
    · rw [upd_ne (ne_of_none e nD)]
      exact e
    · rw [upd_ne (Ne.symm nDa)]
      exact src3
    · obtain ⟨rfl, hx⟩ := z2
      obtain ⟨but, ⟨x1, y1, z1', src⟩, ps, o, q1, q2, q3, q4, q5⟩ := z1
      rw [List.length_map] at hj
      have et : nm[j]? = some nm[j] := List.getElem?_eq_getElem hj
      generalize nm[j] = t at et
      rw [List.getElem?_map, et] at hx
      have hx2 : V.str t = x := Option.some.inj hx
      subst hx2
      refine ⟨rfl, _, rfl, _, rfl, a, 2, x1, y1, z1', rfl, by decide, by decide, src, fun n x5 y5 z5 H5 lo hi bt5 e6 => ⟨_, _, rfl, rfl, ?_⟩⟩
      refine ⟨two_ok _ _, fun T H6 n6 s6 e7 => ⟨_, s6 _ _ (bt5 _ _ nDa q1), by rw [List.length_map, q5, sizeLine_eq]; omega, ?_⟩⟩
      have hD6 := s6 _ _ (bt5 _ _ nDa q1)
      refine ⟨fun b o nb e => ?_, ⟨x5, y5, z5, ?_⟩, ps ++ [T], o ++ [(t, 1 + n)], ?_, ?_, fun q hq => ?_, ?_, by rw [List.length_append, q5]; rfl⟩
      · rw [upd_ne (ne_of_none e nD)]
        exact s6 _ _ (bt5 _ _ nb (but _ _ nb e))
      · rw [upd_ne (Ne.symm nDa)]
        exact s6 _ _ e6
      · rw [upd_same, List.map_append]
        rfl
      · rw [List.map_append, q2, List.take_succ, et]
        rfl
      · rcases List.mem_append.mp hq with h | h
        · exact q3 q h
        · rw [List.mem_singleton.mp h]
          exact ⟨by show 1 ≤ 1 + n; omega, by show 1 + n ≤ 2; omega⟩
      · have up : ∀ {p : Addr} {us : List V}, H6 p = some (.tup us) → upd H6 D (.lst (ps.map V.ref ++ [.ref T])) p = some (.tup us) := fun {p us} e => by
          rw [upd_ne (fun z => by rw [z, hD6] at e; cases e)]
          exact e
        have e8 : opsK (o ++ [(t, 1 + n)]) = opsK o ++ [(Sum.inr t, V.int (1 + n))] := by
          unfold opsK
          rw [List.map_append]
          rfl
        rw [e8]
        refine paired_snoc (R := fun (p : Addr) (kv : Key × V) => upd H6 D (.lst (ps.map V.ref ++ [.ref T])) p = some (.tup [kV kv.1, kv.2])) (x := T) (y := ((Sum.inr t, V.int (1 + n)) : Key × V)) (up e7) (paired_imp (fun p kv e => up (s6 _ _ (bt5 _ _ (fun z => ?_) e))) q4)
        rw [z, src] at e
        cases e
    obtain ⟨but, ⟨x4, y4, z4, src4⟩, ps1, o1, q1, q2, q3, q4, q5⟩ := z
    rw [List.length_map, List.take_length] at q2
    have nd1 : (o1.map (·.1)).Nodup := by rw [q2]; exact nmNd
    refine ⟨D, ps1, opsK o1, rfl, SqL.of q1, paired_imp (fun _ _ e => .inl (.inl e)) q4, fun d1 nd1' => ?_⟩
    rw [merge_ops nd1]
    have sd1 := sameNew nd1' (.dK (opsK o1))
    have ed1 : upd Hx d1 (.dK (opsK o1)) d1 = some (.dK (opsK o1)) := upd_same
    have b4 : But H (upd Hx d1 (.dK (opsK o1))) a := fun b o nb e => sd1 _ _ (but _ _ nb (b3 _ _ nb e))
    have src5 := sd1 _ _ src4
    have e4' := sd1 _ _ (but _ _ ap3 e4)
    generalize upd Hx d1 (.dK (opsK o1)) = H4 at sd1 ed1 b4 src5 e4' ⊢
    -- the wrong ones
    refine ⟨_, rfl, _, rfl, a, 3, x4, y4, z4, rfl, by decide, by decide, src5, fun n x5 y5 z5 H5 lo hi bt5 src6 => ⟨_, _, rfl, rfl, _, rfl, p3, _, rfl, SqL.of (bt5 _ _ ap3 e4'), fun p4 H6 n6 s6 e6 => ?_⟩⟩
    obtain ⟨kk, rfl⟩ : ∃ kk : Nat, n = (kk : Int) := ⟨n.toNat, by omega⟩
    have ec2 : cutV (nm.map V.str) none (some (1 + (kk : Int))) = (nm.take (1 + kk)).map V.str := by
      unfold cutV
      rw [HT.sIx_none, show (1 + (kk : Int)) = ((1 + kk : Nat) : Int) by omega, HT.sIx_nat, List.length_map, List.drop_zero, List.map_take, Nat.sub_zero, Nat.min_eq_left (by omega)]
    rw [ec2] at e6
    have wrIn : ∀ t ∈ nm.take (1 + kk), t ∈ nm := fun t ht => List.mem_of_mem_take ht
    have wrNe : nm.take (1 + kk) ≠ [] := fun z => by
      have := congrArg List.length z
      rw [List.length_take, nmL, List.length_nil] at this
      omega
    generalize nm.take (1 + kk) = wr at e6 wrIn wrNe
    have b6 : But H H6 a := fun b o nb e => s6 _ _ (bt5 _ _ nb (b4 _ _ nb e))
    have src7 := s6 _ _ src6
    have e4'' := s6 _ _ (bt5 _ _ ap3 e4')
    have d1a : d1 ≠ a := fun z => by rw [z, src4] at nd1'; cases nd1'
    have ed1' := s6 _ _ (bt5 _ _ d1a ed1)
    -- the second dict
    refine ⟨_, rfl, p3, rfl, ⟨_, SqL.of e4''⟩, fun D2 nD2 => ?_⟩
    have o1n : ∀ j : Nat, (o1.map (·.1))[j]? = nm[j]? := fun j => by rw [q2]
    refine lc_it (walk_list (xs := nm.map V.str)) (fun j Hx => Same H6 Hx ∧ ∃ ps : List Addr, Hx D2 = some (.lst (ps.map V.ref)) ∧ Paired (fun p kv => Hx p = some (.tup [kV kv.1, kv.2])) ps (opsK ((upO wr o1).take j)) ∧ ps.length = j) ⟨sameNew nD2 _, [], upd_same, .nil, rfl⟩ (fun j Hx _ z => SqL.of (z.1 _ _ e4'')) (fun j x Ha Hb hj z1 z2 => ?_) (fun Hx z => ?_)
    · obtain ⟨rfl, hx⟩ := z2
      obtain ⟨sa, ps, r1, r2, r3⟩ := z1
      rw [List.length_map] at hj
      have oj : j < o1.length := by
        have := congrArg List.length q2
        rw [List.length_map] at this
        omega
      obtain ⟨q, eq⟩ : ∃ q, o1[j]? = some q := ⟨_, List.getElem?_eq_getElem oj⟩
      have et := o1n j
      rw [List.getElem?_map, eq] at et
      have et : nm[j]? = some q.1 := et.symm
      rw [List.getElem?_map, et] at hx
      have hx2 : V.str q.1 = x := Option.some.inj hx
      subst hx2
      have hv : valV (opsK o1) (.inr q.1) = some (.int q.2) := by
        rw [val_ops, opLook_in nd1 (List.mem_of_getElem? eq)]
        rfl
      have dg := DGet.k (k := .inr q.1) (sa _ _ ed1')
      rw [hv] at dg
      refine ⟨rfl, _, rfl, _, rfl, _, rfl, d1, _, rfl, dg, _, rfl, _, rfl, p4, _, rfl, .inl (SqL.of (sa _ _ e6)), rfl, flat_strs _, .inr ⟨_, rfl, _, _, rfl, rfl, ?_⟩⟩
      refine ⟨two_ok _ _, fun T H7 n7 s7 e7 => ⟨_, s7 _ _ r1, by rw [List.length_map, r3, sizeLine_eq]; omega, ?_⟩⟩
      have hD7 := s7 _ _ r1
      refine ⟨fun b o e => ?_, ps ++ [T], ?_, ?_, by rw [List.length_append, r3]; rfl⟩
      · rw [upd_ne (ne_of_none e nD2)]
        exact s7 _ _ (sa _ _ e)
      · rw [upd_same, List.map_append]
        rfl
      · have up : ∀ {p : Addr} {us : List V}, H7 p = some (.tup us) → upd H7 D2 (.lst (ps.map V.ref ++ [.ref T])) p = some (.tup us) := fun {p us} e => by
          rw [upd_ne (fun z => by rw [z, hD7] at e; cases e)]
          exact e
        have e8 : opsK ((upO wr o1).take (j + 1)) = opsK ((upO wr o1).take j) ++ [(Sum.inr q.1, V.int (q.2 + (if inV (.str q.1) (wr.map V.str) = true then 1 else 0)))] := by
          unfold opsK upO
          rw [List.take_succ, List.getElem?_map, eq, List.map_append]
          rfl
        rw [e8]
        exact paired_snoc (R := fun (p : Addr) (kv : Key × V) => upd H7 D2 (.lst (ps.map V.ref ++ [.ref T])) p = some (.tup [kV kv.1, kv.2])) (x := T) (y := ((Sum.inr q.1, V.int (q.2 + (if inV (.str q.1) (wr.map V.str) = true then 1 else 0))) : Key × V)) (up e7) (paired_imp (fun p kv e => up (s7 _ _ e)) r2)
    obtain ⟨sx, ps2, r1, r2, r3⟩ := z
    have ol : o1.length = nm.length := by
      have := congrArg List.length q2
      rw [List.length_map] at this
      exact this
    rw [List.length_map, List.take_of_length_le (by unfold upO; rw [List.length_map, ol]; exact Nat.le_refl _)] at r2
    have nd2 : ((upO wr o1).map (·.1)).Nodup := by rw [upO_keys]; exact nd1
    refine ⟨D2, ps2, _, rfl, SqL.of r1, paired_imp (fun _ _ e => .inl (.inl e)) r2, fun d2 nd2' => ?_⟩
    rw [merge_ops nd2]
    have sd2 := sameNew nd2' (.dK (opsK (upO wr o1)))
    have ed2 : upd Hx d2 (.dK (opsK (upO wr o1))) d2 = some (.dK (opsK (upO wr o1))) := upd_same
    have s68 : Same H6 (upd Hx d2 (.dK (opsK (upO wr o1)))) := sx.trans sd2
    generalize upd Hx d2 (.dK (opsK (upO wr o1))) = H8 at sd2 ed2 s68 ⊢
    -- the bodies
    have len1 : o1.length = 3 := ol.trans nmL
    have keyIn : ∀ q ∈ o1, q.1 ∈ names4 := fun q hq => nmOk _ (by rw [← q2]; exact List.mem_map_of_mem hq)
    have ok1 : OkB o1 [.fin "a"] 0 := okE o1 (by omega) (fun q hq => ⟨names4_ok _ (keyIn q hq), by have := (q3 q hq).1; omega, by have := (q3 q hq).2; omega⟩) nd1
    have ok2 : OkB (upO wr o1) [.fin "a"] 0 := okE _ (by unfold upO; rw [List.length_map]; omega) (fun q hq => by
      obtain ⟨p, hp, rfl⟩ := List.mem_map.mp hq
      have h1 := (q3 p hp).1
      have h2 := (q3 p hp).2
      refine ⟨names4_ok _ (keyIn p hp), ?_, ?_⟩ <;> · dsimp only; split <;> omega) nd2
    refine ⟨_, rfl, two_ok _ _, fun T1 H9 m1 g9 c1 => ⟨one_ok _, fun L1 H10 m2 g10 c2 => ?_⟩⟩
    refine fun bd1 dx1 nb1 ndx1 ne1 => ?_
    refine body_end0 (CB := CB) (CM := CM) (g10 _ _ (g9 _ _ (s68 _ _ ed1'))) (.inl c2) (rowsE (g10 _ _ c1)) ok1 bd1 dx1 nb1 ndx1 ne1 (fun H11 g11 BN1 => ?_)
    have sB1 : Same H8 H11 := g9.trans (g10.trans g11)
    refine ⟨_, rfl, two_ok _ _, fun T2 H12 m3 g12 c3 => ⟨one_ok _, fun Lq H13 m4 g13 c4 => ?_⟩⟩
    refine fun bd2 dx2 nb2 ndx2 ne2 => ?_
    refine body_end0 (CB := CB) (CM := CM) (g13 _ _ (g12 _ _ (sB1 _ _ ed2))) (.inl c4) (rowsE (g13 _ _ c3)) ok2 bd2 dx2 nb2 ndx2 ne2 (fun H14 g14 BN2 => ?_)
    have sB2 : Same H11 H14 := g12.trans (g13.trans g14)
    have s14 : Same H6 H14 := s68.trans (sB1.trans sB2)
    refine ⟨_, rfl, p4, wr, rfl, SqL.of (s14 _ _ e6), wrNe, fun m hm => ⟨two_ok _ _, fun TD H15 m5 g15 c5 => ⟨three_ok _ _ _, fun TT H16 m6 g16 c6 => ?_⟩⟩⟩
    refine ⟨TT, _, rfl, .inl (.inl c6), rfl, _, _, rfl, _, _, rfl, _, _, rfl, rfl, ?_⟩
    have s16 : Same H6 H16 := s14.trans (g15.trans g16)
    have B1 := (BN1.at.same sB2).same (g15.trans g16)
    have B2 := BN2.at.same (g15.trans g16)
    have c5' := g16 _ _ c5
    have unl : ∀ t, Unl2 o1 (upO wr o1) t ↔ t ∈ wr := upO_unl nd1 fun t ht => by rw [q2]; exact wrIn t ht
    have mis : Mis o1 (upO wr o1) m := ⟨(unl m).mpr hm.1, fun t ht => hm.2 t ((unl t).mp ht)⟩
    have two12 : TwoM CB CM H16 bd1 bd2 o1 (upO wr o1) [.fin "a"] [.fin "a"] 0 0 := ⟨B1, B2, by omega, by unfold upO; rw [List.length_map]; omega, nd1, nd2, ⟨m, mis.1⟩⟩
    have mis2 : Mis (upO wr o1) o1 m := ⟨unl_symm.mp mis.1, fun t ht => mis.2 t (unl_symm.mp ht)⟩
    have two21 : TwoM CB CM H16 bd2 bd1 (upO wr o1) o1 [.fin "a"] [.fin "a"] 0 0 := ⟨B2, B1, two12.f2, two12.f1, nd2, nd1, ⟨m, mis2.1⟩⟩
    have src16 := s16 _ _ src7
    have b16 : But H H16 a := fun b o nb e => s16 _ _ (b6 _ _ nb e)
    have tabs16 : LamX.Tabs [(PM, qMM)] H16 := tabs_but tabs ha b16
    have hPM6 : H6 PM = some (.tbl qs) := b6 _ _ (Ne.symm aPM) ePM
    have hPM10 : H10 PM = some (.tbl qs) := g10 _ _ (g9 _ _ (s68 _ _ hPM6))
    have hPM11 : H11 PM = some (.tbl qs) := g11 _ _ hPM10
    have hPM13 : H13 PM = some (.tbl qs) := g13 _ _ (g12 _ _ hPM11)
    have hPM14 : H14 PM = some (.tbl qs) := g14 _ _ hPM13
    have s11 : Same H11 H16 := sB2.trans (g15.trans g16)
    have s1416 : Same H14 H16 := g15.trans g16
    clear B1 B2 two12 two21
    clear b3 bt perm pz zl n3 s3 e4 ec src3 nDa nD but src4 q1 q4 q5 nd1' sd1 b4 src5 e4' ec2 b6 s6 bt5 src6 src7 e4'' d1a
    -- the lambdas
    refine ⟨tabs16, fun f1 k1 H17 u1 t17 nf1 l1 m1' => ⟨t17, fun f2 k2 r2' H18 u2 t18 nr2 w2 nf2 l2 m2' => ⟨t18, fun f3 k3 r3' H19 u3 t19 nr3 w3 nf3 l3 m3' => ⟨three_ok _ _ _, fun A1 H20 nA1 sA1 eA1 => ?_⟩⟩⟩⟩
    have t20 := tabs_same t19 sA1
    refine ⟨_, rfl, t20, fun f4 k4 H21 u4 t21 nf4 l4 m4' => ⟨t21, fun f5 k5 r5' H22 u5 t22 nr5 w5 nf5 l5 m5' => ⟨two_ok _ _, fun A2 H23 nA2 sA2 eA2 => ?_⟩⟩⟩
    have t23 := tabs_same t22 sA2
    refine ⟨A1, A2, _, _, rfl, rfl, sA2 _ _ (go u5 t21 (go u4 t20 eA1 nofun) nofun), eA2, five_ok _ _ _ _ _, fun A3 H24 nA3 sA3 eA3 => ?_⟩
    have t24 := tabs_same t23 sA3
    refine ⟨_, rfl, t24, fun f6 k6 H25 u6 t25 nf6 l6 m6' => ⟨t25, fun f7 k7 r7' H26 u7 t26 nr7 w7 nf7 l7 m7' => ⟨two_ok _ _, fun A4 H27 nA4 sA4 eA4 => ?_⟩⟩⟩
    have t27 := tabs_same t26 sA4
    refine ⟨A3, A4, _, _, rfl, rfl, sA4 _ _ (go u7 t25 (go u6 t24 eA3 nofun) nofun), eA4, seven_ok _ _ _ _ _ _ _, fun A5 H28 nA5 sA5 eA5 => ?_⟩
    have t28 := tabs_same t27 sA5
    have U27 : ButT PM H26 H28 := .of (sA4.trans sA5)
    have U25 : ButT PM H25 H28 := u7.trans U27
    have U24 : ButT PM H24 H28 := u6.trans U25
    have U22 : ButT PM H22 H28 := (ButT.of (sA2.trans sA3)).trans U24
    have U21 : ButT PM H21 H28 := u5.trans U22
    have U20 : ButT PM H20 H28 := u4.trans U21
    have U19 : ButT PM H19 H28 := (ButT.of sA1).trans U20
    have U18 : ButT PM H18 H28 := u3.trans U19
    have U17 : ButT PM H17 H28 := u2.trans U18
    have U16 : ButT PM H16 H28 := u1.trans U17
    have B1 : BodyAt CB CM H28 bd1 o1 [.fin "a"] 0 := BN1.off nb1 fun b u e h => U16 _ _ (fun z => by
      rw [z] at e h
      rw [hPM11] at e
      rcases h with h | ⟨zs, h⟩
      · rw [hPM10] at h; cases h
      · rw [h] at e; cases e) (s11 _ _ e)
    have B2 : BodyAt CB CM H28 bd2 (upO wr o1) [.fin "a"] 0 := BN2.off nb2 fun b u e h => U16 _ _ (fun z => by
      rw [z] at e h
      rw [hPM14] at e
      rcases h with h | ⟨zs, h⟩
      · rw [hPM13] at h; cases h
      · rw [h] at e; cases e) (s1416 _ _ e)
    have upl : (upO wr o1).length ≤ 8 := by unfold upO; rw [List.length_map]; omega
    have two12 : TwoM CB CM H28 bd1 bd2 o1 (upO wr o1) [.fin "a"] [.fin "a"] 0 0 := ⟨B1, B2, by omega, upl, nd1, nd2, ⟨m, mis.1⟩⟩
    have two21 : TwoM CB CM H28 bd2 bd1 (upO wr o1) o1 [.fin "a"] [.fin "a"] 0 0 := ⟨B2, B1, upl, by omega, nd2, nd1, ⟨m, mis2.1⟩⟩
    have src28 := go U16 tabs16 src16 nofun
    have due28 := go U16 tabs16 c5' nofun
    have an1 : LamB.Answers (cxOf CX0 P w K mg base ["_law_source", "_law_names", "_law_first", "_law_name", "_law_wrong", "_law_second", "_law_one_here", "_law_other", "_law_due", "_law_asks", "_law_ask"] "_law_mismatch_right" (defScope s_mm) f (.ref cM) A outer s H E).nox (L2.CX P w) 7 [some (V.ref a), some (V.ref p3), some (V.ref d1), none, some (V.ref p4), some (V.ref d2), some (V.ref bd1), some (V.ref bd2), some (V.ref TD), some (V.ref A5), none] H28 f1 (RMis CE m) :=
      answers_of (N := ["_law_one_here", "_law_other"]) (ps := []) (fr := ["_law_one_here", "_law_other"]) (js := [6, 7]) (dvs := []) (D := (fun _ => True)) (go U17 t17 l1 nofun) (go U17 t17 m1' nofun) (fun _ _ => trivial) (NdefX.nscope_by (by decide +kernel)) (NdefX.ndef_free (sc := defScope s_mm) (fr := []) (by decide +kernel)) (by decide +kernel) rfl rfl (fun doc pm ctv s9 H9 us _ _ hu => ⟨[], .nil, by rw [List.eq_nil_of_length_eq_zero hu]; exact BindsTo.of_eq rfl⟩)
        (fun B up md A9 outer9 s9 H9 E9 hr9 => pe_call (FnOk_up GPa up md) (hr9.mono (by decide)) (by rfl) g_parted k_parted b_parted .nil (passes_call (takes_of rfl rfl rfl rfl) (fun _ _ _ _ h => h)) (pa_cons (pv 0) (pa_cons (pv 1) pa_nil)))
        (fun H2 s2 Q E r => ⟨_, rfl, _, rfl, bd1, bd2, o1, (upO wr o1), _, _, _, _, rfl, two12.same s2, fun m9 d9 H9 hm9 nd9 s9 e9 => by rw [mis_uniq hm9 mis] at e9; exact r d9 H9 nd9 s9 e9⟩)
    have an2 : LamB.Answers (cxOf CX0 P w K mg base ["_law_source", "_law_names", "_law_first", "_law_name", "_law_wrong", "_law_second", "_law_one_here", "_law_other", "_law_due", "_law_asks", "_law_ask"] "_law_mismatch_right" (defScope s_mm) f (.ref cM) A outer s H E).nox (L2.CX P w) 7 [some (V.ref a), some (V.ref p3), some (V.ref d1), none, some (V.ref p4), some (V.ref d2), some (V.ref bd1), some (V.ref bd2), some (V.ref TD), some (V.ref A5), none] H28 f2 (RMis CE m) :=
      answers_of (N := ["_law_of", "_law_one_here", "_law_other"]) (ps := ["_law_of"]) (fr := ["_law_one_here", "_law_other"]) (js := [6, 7]) (dvs := [V.int 0]) (D := (fun H9 => H9 r2' = some (.tup [.int 0]))) (go U18 t18 l2 nofun) (go U18 t18 m2' nofun) (fun H9 s9 => s9 _ _ (go U18 t18 w2 nofun)) (NdefX.nscope_by (by decide +kernel)) (NdefX.ndef_free (sc := defScope s_mm) (fr := []) (by decide +kernel)) (by decide +kernel) rfl rfl (fun doc pm ctv s9 H9 us ok hd hu => binds_dflt ok hd hu rfl rfl fun _ => rfl)
        (fun B up md A9 outer9 s9 H9 E9 hr9 => pe_call (FnOk_up GWi up md) (hr9.mono (by decide)) (by rfl) g_within k_within b_within .nil (passes_call (takes_of rfl rfl rfl rfl) (fun _ _ _ _ h => h)) (pa_cons (pv 1) (pa_cons (pv 2) pa_nil)))
        (fun H2 s2 Q E r => ⟨_, rfl, _, rfl, bd1, bd2, o1, (upO wr o1), _, _, _, _, rfl, two12.same s2, fun m9 d9 H9 hm9 nd9 s9 e9 => by rw [mis_uniq hm9 mis] at e9; exact r d9 H9 nd9 s9 e9⟩)
    have an3 : LamB.Answers (cxOf CX0 P w K mg base ["_law_source", "_law_names", "_law_first", "_law_name", "_law_wrong", "_law_second", "_law_one_here", "_law_other", "_law_due", "_law_asks", "_law_ask"] "_law_mismatch_right" (defScope s_mm) f (.ref cM) A outer s H E).nox (L2.CX P w) 7 [some (V.ref a), some (V.ref p3), some (V.ref d1), none, some (V.ref p4), some (V.ref d2), some (V.ref bd1), some (V.ref bd2), some (V.ref TD), some (V.ref A5), none] H28 f3 (RMis CE m) :=
      answers_of (N := ["_law_at", "_law_one_here", "_law_other"]) (ps := ["_law_at"]) (fr := ["_law_one_here", "_law_other"]) (js := [6, 7]) (dvs := [V.int 0]) (D := (fun H9 => H9 r3' = some (.tup [.int 0]))) (go U19 t19 l3 nofun) (go U19 t19 m3' nofun) (fun H9 s9 => s9 _ _ (go U19 t19 w3 nofun)) (NdefX.nscope_by (by decide +kernel)) (NdefX.ndef_free (sc := defScope s_mm) (fr := []) (by decide +kernel)) (by decide +kernel) rfl rfl (fun doc pm ctv s9 H9 us ok hd hu => binds_dflt ok hd hu rfl rfl fun _ => rfl)
        (fun B up md A9 outer9 s9 H9 E9 hr9 => pe_call (FnOk_up GPr up md) (hr9.mono (by decide)) (by rfl) g_pairs k_pairs b_pairs .nil (passes_call (takes_of rfl rfl rfl rfl) (fun _ _ _ _ h => h)) (pa_cons (pv 1) (pa_cons (pv 2) pa_nil)))
        (fun H2 s2 Q E r => ⟨_, rfl, _, rfl, bd1, bd2, o1, (upO wr o1), _, _, _, _, rfl, two12.same s2, fun m9 d9 H9 hm9 nd9 s9 e9 => by rw [mis_uniq hm9 mis] at e9; exact r d9 H9 nd9 s9 e9⟩)
    have an4 : LamB.Answers (cxOf CX0 P w K mg base ["_law_source", "_law_names", "_law_first", "_law_name", "_law_wrong", "_law_second", "_law_one_here", "_law_other", "_law_due", "_law_asks", "_law_ask"] "_law_mismatch_right" (defScope s_mm) f (.ref cM) A outer s H E).nox (L2.CX P w) 7 [some (V.ref a), some (V.ref p3), some (V.ref d1), none, some (V.ref p4), some (V.ref d2), some (V.ref bd1), some (V.ref bd2), some (V.ref TD), some (V.ref A5), none] H28 f4 (RMis CE m) :=
      answers_of (N := ["_law_one_here", "_law_other"]) (ps := []) (fr := ["_law_one_here", "_law_other"]) (js := [6, 7]) (dvs := []) (D := (fun _ => True)) (go U21 t21 l4 nofun) (go U21 t21 m4' nofun) (fun _ _ => trivial) (NdefX.nscope_by (by decide +kernel)) (NdefX.ndef_free (sc := defScope s_mm) (fr := []) (by decide +kernel)) (by decide +kernel) rfl rfl (fun doc pm ctv s9 H9 us _ _ hu => ⟨[], .nil, by rw [List.eq_nil_of_length_eq_zero hu]; exact BindsTo.of_eq rfl⟩)
        (fun B up md A9 outer9 s9 H9 E9 hr9 => pe_call (FnOk_up GPf up md) (hr9.mono (by decide)) (by rfl) g_pfault k_pfault b_pfault .nil (passes_call (takes_of rfl rfl rfl rfl) (fun _ _ _ _ h => h)) (pa_cons (pv 0) (pa_cons (pv 1) (pa_cons pe_non pa_nil))))
        (fun H2 s2 Q E r => ⟨_, rfl, _, rfl, bd1, bd2, _, o1, (upO wr o1), _, _, _, _, rfl, two12.same s2, fun m9 d9 H9 hm9 nd9 s9 e9 => by rw [mis_uniq hm9 mis] at e9; exact r d9 H9 nd9 s9 e9⟩)
    have an5 : LamB.Answers (cxOf CX0 P w K mg base ["_law_source", "_law_names", "_law_first", "_law_name", "_law_wrong", "_law_second", "_law_one_here", "_law_other", "_law_due", "_law_asks", "_law_ask"] "_law_mismatch_right" (defScope s_mm) f (.ref cM) A outer s H E).nox (L2.CX P w) 7 [some (V.ref a), some (V.ref p3), some (V.ref d1), none, some (V.ref p4), some (V.ref d2), some (V.ref bd1), some (V.ref bd2), some (V.ref TD), some (V.ref A5), none] H28 f5 (RMis CE m) :=
      answers_of (N := ["_law_of", "_law_one_here", "_law_other"]) (ps := ["_law_of"]) (fr := ["_law_one_here", "_law_other"]) (js := [6, 7]) (dvs := [V.int 0]) (D := (fun H9 => H9 r5' = some (.tup [.int 0]))) (go U22 t22 l5 nofun) (go U22 t22 m5' nofun) (fun H9 s9 => s9 _ _ (go U22 t22 w5 nofun)) (NdefX.nscope_by (by decide +kernel)) (NdefX.ndef_free (sc := defScope s_mm) (fr := []) (by decide +kernel)) (by decide +kernel) rfl rfl (fun doc pm ctv s9 H9 us ok hd hu => binds_dflt ok hd hu rfl rfl fun _ => rfl)
        (fun B up md A9 outer9 s9 H9 E9 hr9 => pe_call (FnOk_up GPh up md) (hr9.mono (by decide)) (by rfl) g_phandler k_phandler b_phandler .nil (passes_call (takes_of rfl rfl rfl rfl) (fun _ _ _ _ h => h)) (pa_cons (pv 1) (pa_cons (pv 2) pa_nil)))
        (fun H2 s2 Q E r => ⟨_, rfl, _, rfl, bd1, bd2, o1, (upO wr o1), _, _, _, _, rfl, two12.same s2, fun m9 d9 H9 hm9 nd9 s9 e9 => by rw [mis_uniq hm9 mis] at e9; exact r d9 H9 nd9 s9 e9⟩)
    have an6 : LamB.Answers (cxOf CX0 P w K mg base ["_law_source", "_law_names", "_law_first", "_law_name", "_law_wrong", "_law_second", "_law_one_here", "_law_other", "_law_due", "_law_asks", "_law_ask"] "_law_mismatch_right" (defScope s_mm) f (.ref cM) A outer s H E).nox (L2.CX P w) 7 [some (V.ref a), some (V.ref p3), some (V.ref d1), none, some (V.ref p4), some (V.ref d2), some (V.ref bd1), some (V.ref bd2), some (V.ref TD), some (V.ref A5), none] H28 f6 (RMis CE m) :=
      answers_of (N := ["_law_one_here", "_law_other"]) (ps := []) (fr := ["_law_one_here", "_law_other"]) (js := [6, 7]) (dvs := []) (D := (fun _ => True)) (go U25 t25 l6 nofun) (go U25 t25 m6' nofun) (fun _ _ => trivial) (NdefX.nscope_by (by decide +kernel)) (NdefX.ndef_free (sc := defScope s_mm) (fr := []) (by decide +kernel)) (by decide +kernel) rfl rfl (fun doc pm ctv s9 H9 us _ _ hu => ⟨[], .nil, by rw [List.eq_nil_of_length_eq_zero hu]; exact BindsTo.of_eq rfl⟩)
        (fun B up md A9 outer9 s9 H9 E9 hr9 => pe_call (FnOk_up GPf up md) (hr9.mono (by decide)) (by rfl) g_pfault k_pfault b_pfault .nil (passes_call (takes_of rfl rfl rfl rfl) (fun _ _ _ _ h => h)) (pa_cons (pv 1) (pa_cons (pv 0) (pa_cons (pe_lstG (pa_cons (pe_tupG (pa_cons pe_int (pa_cons pe_int pa_nil))) pa_nil)) pa_nil))))
        (fun H2 s2 Q E r => ⟨_, rfl, _, rfl, two_ok _ _, fun T9 K1 j1 v1 e1' => ⟨one_ok _, fun L9 K2 j2 v2 e2' => ⟨bd2, bd1, _, (upO wr o1), o1, _, _, _, _, rfl, two21.same (s2.trans (v1.trans v2)), fun m9 d9 H9 hm9 nd9 s9 e9 => by rw [mis_uniq hm9 mis2] at e9; exact r d9 H9 (none_of (v1.trans v2) nd9) ((v1.trans v2).trans s9) e9⟩⟩⟩)
    have an7 : LamB.Answers (cxOf CX0 P w K mg base ["_law_source", "_law_names", "_law_first", "_law_name", "_law_wrong", "_law_second", "_law_one_here", "_law_other", "_law_due", "_law_asks", "_law_ask"] "_law_mismatch_right" (defScope s_mm) f (.ref cM) A outer s H E).nox (L2.CX P w) 7 [some (V.ref a), some (V.ref p3), some (V.ref d1), none, some (V.ref p4), some (V.ref d2), some (V.ref bd1), some (V.ref bd2), some (V.ref TD), some (V.ref A5), none] H28 f7 (RMis CE m) :=
      answers_of (N := ["_law_of", "_law_one_here", "_law_other"]) (ps := ["_law_of"]) (fr := ["_law_one_here", "_law_other"]) (js := [6, 7]) (dvs := [V.int 0]) (D := (fun H9 => H9 r7' = some (.tup [.int 0]))) (go U27 t26 l7 nofun) (go U27 t26 m7' nofun) (fun H9 s9 => s9 _ _ (go U27 t26 w7 nofun)) (NdefX.nscope_by (by decide +kernel)) (NdefX.ndef_free (sc := defScope s_mm) (fr := []) (by decide +kernel)) (by decide +kernel) rfl rfl (fun doc pm ctv s9 H9 us ok hd hu => binds_dflt ok hd hu rfl rfl fun _ => rfl)
        (fun B up md A9 outer9 s9 H9 E9 hr9 => pe_call (FnOk_up GPa up md) (hr9.mono (by decide)) (by rfl) g_parted k_parted b_parted .nil (passes_call (takes_of rfl rfl rfl rfl) (fun _ _ _ _ h => h)) (pa_cons (pv 2) (pa_cons (pv 1) pa_nil)))
        (fun H2 s2 Q E r => ⟨_, rfl, _, rfl, bd2, bd1, (upO wr o1), o1, _, _, _, _, rfl, two21.same s2, fun m9 d9 H9 hm9 nd9 s9 e9 => by rw [mis_uniq hm9 mis2] at e9; exact r d9 H9 nd9 s9 e9⟩)
    have all : ∀ v ∈ [V.ref f1, .ref f2, .ref f3, .ref f4, .ref f5, .ref f6, .ref f7], ∃ fi, v = .ref fi ∧ LamB.Answers (cxOf CX0 P w K mg base ["_law_source", "_law_names", "_law_first", "_law_name", "_law_wrong", "_law_second", "_law_one_here", "_law_other", "_law_due", "_law_asks", "_law_ask"] "_law_mismatch_right" (defScope s_mm) f (.ref cM) A outer s H E).nox (L2.CX P w) 7 [some (V.ref a), some (V.ref p3), some (V.ref d1), none, some (V.ref p4), some (V.ref d2), some (V.ref bd1), some (V.ref bd2), some (V.ref TD), some (V.ref A5), none] H28 fi (RMis CE m) := by
      intro v hv
      simp only [List.mem_cons, List.not_mem_nil, or_false] at hv
      rcases hv with rfl | rfl | rfl | rfl | rfl | rfl | rfl
      · exact ⟨_, rfl, an1⟩
      · exact ⟨_, rfl, an2⟩
      · exact ⟨_, rfl, an3⟩
      · exact ⟨_, rfl, an4⟩
      · exact ⟨_, rfl, an5⟩
      · exact ⟨_, rfl, an6⟩
      · exact ⟨_, rfl, an7⟩
    clear an1 an2 an3 an4 an5 an6 an7
    refine ⟨_, rfl, A5, rfl, ⟨_, SqL.of eA5⟩, fun D9 nD9 => ?_⟩
    refine lc_it (walk_list (xs := [V.ref f1, .ref f2, .ref f3, .ref f4, .ref f5, .ref f6, .ref f7])) (fun j Hx => Same H28 Hx ∧ ∃ ps : List Addr, Hx D9 = some (.lst (ps.map V.ref)) ∧ (∀ p ∈ ps, Hx p = some (.tup [.str "mismatch", .str m])) ∧ ps.length = j) ⟨sameNew nD9 _, [], upd_same, (fun _ h => nomatch h), rfl⟩ (fun j Hx _ z => SqL.of (z.1 _ _ eA5)) (fun j v Ha Hb hj z1 z2 => ?_) (fun Hx z => ?_)
    · obtain ⟨rfl, hx⟩ := z2
      obtain ⟨sa, ps, r1, r2, r3⟩ := z1
      obtain ⟨fi, rfl, an⟩ := all v (List.mem_of_getElem? hx)
      refine ⟨rfl, fi, m, rfl, an.same sa, fun u H' s' nu eu => ⟨_, s' _ _ r1, by rw [List.length_map, r3, sizeLine_eq]; have : j < 7 := hj; omega, ?_⟩⟩
      refine ⟨fun b o e => ?_, ps ++ [u], ?_, fun p hp => ?_, by rw [List.length_append, r3]; rfl⟩
      · rw [upd_ne (ne_of_none e nD9)]
        exact s' _ _ (sa _ _ e)
      · rw [upd_same, List.map_append]
        rfl
      · have up : ∀ {p : Addr} {us : List V}, H' p = some (.tup us) → upd H' D9 (.lst (ps.map V.ref ++ [.ref u])) p = some (.tup us) := fun {p us} e => by
          rw [upd_ne (fun z => by rw [z, s' _ _ r1] at e; cases e)]
          exact e
        rcases List.mem_append.mp hp with z | z
        · exact up (s' _ _ (r2 p z))
        · rw [List.mem_singleton.mp z]
          exact up eu
    obtain ⟨sx, ps, r1, r2, r3⟩ := z
    refine ⟨_, rfl, one_ok _, fun Ld K1 j1 v1 w1' => ⟨Ld, 7, _, rfl, rfl, w1', by decide, by decide, by show 7 ≤ sizeLine; rw [sizeLine_eq]; exact Nat.le_trans (show 7 ≤ 7 from Nat.le_refl 7) (by decide), fun Lr K2 j2 v2 w2' => ?_⟩⟩
    have mOk : PyData.strOk m = true := names4_str m (nmOk m (wrIn m hm.1))
    have hps : ps.length = 7 := r3
    refine ⟨.list (List.replicate 7 (.tuple [.str "mismatch", .str m])), .list (List.replicate 7 (.tuple [.str "mismatch", .str m])), .lst (SqL.of (v2 _ _ (v1 _ _ r1))) ?_, .lst (SqL.of w2') ?_, mis_shaped mOk, mis_shaped mOk, ?_⟩
    · rw [← hps]
      exact mis_all fun p hp => v2 _ _ (v1 _ _ (r2 p hp))
    · exact mis_all (ps := List.replicate 7 TD) fun p hp => by
        rw [List.eq_of_mem_replicate hp]
        exact v2 _ _ (v1 _ _ (sx _ _ due28))
    · rw [SeqAt.eqv_refl _ (mis_lay mOk)]
      have sEnd : Same H28 K2 := sx.trans (v1.trans v2)
      exact k _ _ _ K2 (fun b o nb nP e => sEnd _ _ (U16 _ _ nP (b16 _ _ nb e))) (tabs_same t28 sEnd) (sEnd _ _ src28)
end
end Mine

set_option maxRecDepth 100000
set_option maxHeartbeats 8000000
set_option pp.maxSteps 300
namespace Mine
open PySem L2 LamB
abbrev s_law : Stmt := top 114
def spLaw24 (K : PySem.W.Frag) (PM : Addr) : Sp := fun vs H Q _ => ∃ (a : Addr) (ns : List Int), vs = [.ref a] ∧ SqL K H a (ns.map V.int) ∧ ns.length ≤ 63 ∧ LamX.Tabs [(PM, qMM)] H ∧ ∀ H', Q (.bl true) H'
theorem wi_dp {K : PySem.W.Frag} {H : Hp} {u : Addr} {x : Str} {i : Int} (h : H u = some (.tup [.str x, .int i])) : Dp K H (.ref u) (.tuple [.str x, .int i]) := .tup (.inl (.inl h)) (.cons (.str x) (.cons (.int i) .nil))
theorem wi_lay {x : Str} {i : Int} (h : PyData.strOk x = true) : PyData.canLay0 (.tuple [.str x, .int i]) = true := by simp [PyData.canLay0, PyData.canLayAll0, h]
theorem wi_shaped {x : Str} {i : Int} (h : PyData.strOk x = true) : SeqAt.shaped (.tuple [.str x, .int i]) = true := by
  show (PyData.canLay0 _ && decide (PyData.depth _ ≤ 64)) = true
  rw [wi_lay h, Bool.true_and]
  refine decide_eq_true ?_
  simp [PyData.depth, PyData.depthAll]
theorem wi_eqv {x : Str} {i : Int} (h : PyData.strOk x = true) : PyData.eqv (.tuple [.str x, .int i]) (.tuple [.str x, .int i]) = true := SeqAt.eqv_refl _ (wi_lay h)
theorem w_dp {K : PySem.W.Frag} {H : Hp} {u : Addr} {x : Str} (h : H u = some (.tup [.str x])) : Dp K H (.ref u) (.tuple [.str x]) := .tup (.inl (.inl h)) (.cons (.str x) .nil)
theorem w_lay {x : Str} (h : PyData.strOk x = true) : PyData.canLay0 (.tuple [.str x]) = true := by simp [PyData.canLay0, PyData.canLayAll0, h]
theorem w_shaped {x : Str} (h : PyData.strOk x = true) : SeqAt.shaped (.tuple [.str x]) = true := by
  show (PyData.canLay0 _ && decide (PyData.depth _ ≤ 64)) = true
  rw [w_lay h, Bool.true_and]
  refine decide_eq_true ?_
  simp [PyData.depth, PyData.depthAll]
theorem w_eqv {x : Str} (h : PyData.strOk x = true) : PyData.eqv (.tuple [.str x]) (.tuple [.str x]) = true := SeqAt.eqv_refl _ (w_lay h)
theorem strOk_pairs : PyData.strOk "pairs" = true := by decide +kernel
theorem strOk_begin : PyData.strOk "begin" = true := by decide +kernel
theorem dl {H : Hp} {a b : Addr} {o : HO} (h : H b = some o) (ne : b ≠ a) : del H a b = some o := (del_ne ne).trans h
theorem none_butT {PM : Addr} {q : Str} {H H' : Hp} {a : Addr} (u : ButT PM H H') (t : LamX.Tabs [(PM, q)] H') (n : H' a = none) : H a = none := by
  cases e : H a with
  | none => rfl
  | some o =>
    by_cases z : a = PM
    · obtain ⟨ps, e1, _⟩ := t (PM, q) (List.mem_singleton.mpr rfl)
      have e1 : H' PM = some (.tbl ps) := e1
      rw [← z, n] at e1
      cases e1
    · rw [u a o z e] at n
      cases n
theorem butT_but {PM a : Addr} {H H1 H2 : Hp} (u : ButT PM H H1) (b : But H1 H2 a) (n : H a = none) : ButT PM H H2 := fun c o nc h => b c o (fun z => by rw [z, n] at h; cases h) (u c o nc h)
/-- two objects of unlike contents -/
theorem ne_at {H : Hp} {a b : Addr} {o1 o2 : HO} (h1 : H a = some o1) (h2 : H b = some o2) (n : o2 ≠ o1) : b ≠ a := fun z => by
  rw [z, h1] at h2
  exact n (Option.some.inj h2).symm
theorem same_del {H H' : Hp} {a : Addr} (b : But H H' a) : Same (del H a) H' := fun c o h => by
  have ne : c ≠ a := fun z => by rw [z, del_same] at h; cases h
  rw [del_ne ne] at h
  exact b c o ne h
theorem prsA_of {H : Hp} {xs : List V} {ps : List Prw} (h : Prs H xs ps) : PrsA H xs ps := ⟨h.1, fun k p e => by
  obtain ⟨q, h1, h2⟩ := h.2 k p e
  exact ⟨q, h1, .inr h2⟩⟩
section
variable {K : PySem.W.Frag} {CB CM bd1 bd2 : Addr} {H : Hp} {Q : VK} {E : XK}
abbrev Two24 (CB CM : Addr) (H : Hp) (bd1 bd2 : Addr) : Prop := TwoB CB CM H bd1 bd2 opsC opsC rsA rsB 0 3
/-- .. not to be looked into -/
@[irreducible] def spFaultI (K : PySem.W.Frag) (CB CM : Addr) : Sp := spFault K CB CM
theorem spFaultI_eq : spFaultI K CB CM = spFault K CB CM := by unfold spFaultI; rfl
theorem fault_none {v : Addr} {xs : List V} (two : Two24 CB CM H bd1 bd2) (hx : SqA H v xs) (pr : PrsA H xs clo) (k : ∀ H', Same H H' → Q .non H') : spFaultI K CB CM [.ref bd1, .ref bd2, .ref v] H Q E := by
  rw [spFaultI_eq]
  obtain ⟨t, b, e⟩ := btSeq (K := K) hx
  refine ⟨bd1, bd2, .ref v, t, opsC, opsC, rsA, rsB, 0, 3, rfl, two, rowsA.fit, rowsB.fit, txA, txB, fewA, b, .inr ⟨e, v, xs, rfl, hx, by rw [pr.1]; decide, .inr ⟨clo, pr, restAB, fun h => absurd ?_ h, fun _ _ H' s => k H' s, fun _ j p d1 d2 e1 e2 e3 _ => ?_⟩⟩⟩
  · rw [stA0, stB3]
    exact List.mem_cons_self
  · obtain ⟨c1, c2, f1, f2, f3, f4⟩ := keptAB p (List.mem_of_getElem? e1)
    rw [f1] at e2
    rw [f2] at e3
    cases e2
    cases e3
    exact ⟨fun z => absurd f3 z, fun _ m q hq nq _ => absurd (f4 q (List.mem_of_getElem? hq)) nq⟩
theorem fault_val {v : V} {t : String} (two : Two24 CB CM H bd1 bd2) (b : Bt K H v t) (n : (t == "list" || t == "tuple") = false) (k : ∀ (u : Addr) (H' : Hp), Same H H' → H' u = some (.tup [.str "pairs", .int (-1)]) → Q (.ref u) H') : spFaultI K CB CM [.ref bd1, .ref bd2, v] H Q E := by
  rw [spFaultI_eq]
  exact ⟨bd1, bd2, v, t, opsC, opsC, rsA, rsB, 0, 3, rfl, two, rowsA.fit, rowsB.fit, txA, txB, fewA, b, .inl ⟨n, k⟩⟩
theorem fault_bad {v : Addr} {xs : List V} {i : Nat} {x : V} (two : Two24 CB CM H bd1 bd2) (hx : SqA H v xs) (few : xs.length ≤ 100000) (ei : xs[i]? = some x) (no : IsP K H rsA rsB x false) (yes : ∀ (j : Nat) (y : V), j < i → xs[j]? = some y → IsP K H rsA rsB y true)
    (k : ∀ (u : Addr) (H' : Hp), Same H H' → H' u = some (.tup [.str "pairs", .int (i : Int)]) → Q (.ref u) H') : spFaultI K CB CM [.ref bd1, .ref bd2, .ref v] H Q E := by
  rw [spFaultI_eq]
  obtain ⟨t, b, e⟩ := btSeq (K := K) hx
  exact ⟨bd1, bd2, .ref v, t, opsC, opsC, rsA, rsB, 0, 3, rfl, two, rowsA.fit, rowsB.fit, txA, txB, fewA, b, .inr ⟨e, v, xs, rfl, hx, few, .inl ⟨i, x, ei, no, yes, k⟩⟩⟩
theorem fault_begin {v : Addr} (two : Two24 CB CM H bd1 bd2) (hx : SqA H v []) (k : ∀ (u : Addr) (H' : Hp), Same H H' → H' u = some (.tup [.str "begin"]) → Q (.ref u) H') : spFaultI K CB CM [.ref bd1, .ref bd2, .ref v] H Q E := by
  rw [spFaultI_eq]
  obtain ⟨t, b, e⟩ := btSeq (K := K) hx
  exact ⟨bd1, bd2, .ref v, t, opsC, opsC, rsA, rsB, 0, 3, rfl, two, rowsA.fit, rowsB.fit, txA, txB, fewA, b, .inr ⟨e, v, [], rfl, hx, Nat.zero_le _, .inr ⟨[], ⟨rfl, fun k p z => by simp at z⟩, (fun p hp => nomatch hp), fun _ => k, (fun h => nomatch h), (fun h => nomatch h)⟩⟩⟩
end
section
variable {P : Program} {w : World} {K : PySem.W.Frag} {mg : Str → Option Value} {base : Heap}
variable {fII fIW CB CM PM fB a_src a_next a_one a_mm a_pairs a_pfault : Addr}
theorem sc_law : FnScope ["_law_script", "_law_rows", "_law_others", "_law_one_here", "_law_other", "_law_closed", "_law_cell", "_law_source", "_law_turn", "_law_odd", "_law_at", "_law_bad", "_law_none"] ["_law_script"] (defScope s_law) := ⟨rfl, rfl, rfl, by decide +kernel, rfl, by decide +kernel, by decide +kernel⟩
theorem ok_law {f : Addr} {fd fd_src fd_next fd_one fd_mm fd_pairs fd_pfault fdB : FuncData} {ds : List Value} (F : Fun K "law" "law" s_law f fd) (T : TxtF K mg fII fIW)
    (MB : Mk K CB fB) (GB : FnOk P w K mg base CX0 7 fB fdB PB (spBody CB CM)) (hds : Vals [V.int 0] ds) (bB : Binds K fdB PB ds) (kB : KBn K fdB PB (2 + 1) KS (fun us ws => us ++ ws) (fun vs zs => vs ++ zs)) (g_Body : mg "Body" = some (.ref CB)) (h_min : mg "min" = none) (h_range : mg "range" = none)
    (GSr : FnOk P w K mg base CX0 1 a_src fd_src ["_law_cell"] spSrc) (b_src : Binds K fd_src ["_law_cell"] []) (g_src : mg "_law_source_of" = some (.ref a_src)) (k_src : PySem.W.keepIn K (.ref a_src) = true)
    (GN : FnOk P w K mg base CX0 1 a_next fd_next ["_law_source", "_law_many"] spNext) (b_next : Binds K fd_next ["_law_source", "_law_many"] []) (g_next : mg "_law_next" = some (.ref a_next)) (k_next : PySem.W.keepIn K (.ref a_next) = true)
    (GOn : FnOk P w K mg base CX0 2 a_one fd_one ["_law_source", "_law_some"] spOne) (b_one : Binds K fd_one ["_law_source", "_law_some"] []) (g_one : mg "_law_one" = some (.ref a_one)) (k_one : PySem.W.keepIn K (.ref a_one) = true)
    (GMM : FnOk P w K mg base CX0 9 a_mm fd_mm ["_law_source"] (spMR PM)) (b_mm : Binds K fd_mm ["_law_source"] []) (g_mm : mg "_law_mismatch_right" = some (.ref a_mm)) (k_mm : PySem.W.keepIn K (.ref a_mm) = true)
    (GPr : FnOk P w K mg base CX0 5 a_pairs fd_pairs ["one", "other"] (spPairs CB CM)) (b_pairs : Binds K fd_pairs ["one", "other"] []) (g_pairs : mg "pairs" = some (.ref a_pairs)) (k_pairs : PySem.W.keepIn K (.ref a_pairs) = true)
    (GPf : FnOk P w K mg base CX0 6 a_pfault fd_pfault ["one", "other", "pairs"] (spFaultI K CB CM)) (b_pfault : Binds K fd_pfault ["one", "other", "pairs"] []) (g_pfault : mg "pairs_fault" = some (.ref a_pfault)) (k_pfault : PySem.W.keepIn K (.ref a_pfault) = true) :
    FnOk P w K mg base CX0 10 f fd ["_law_script"] (spLaw24 K PM) := by
  refine F.ok sc_law (fun vs H Q E h => ?_) (fun cdv A outer s H vs Q E hr h => ?_)
  · obtain ⟨a, ns, rfl, _⟩ := h
    rfl
  · obtain ⟨a, ns, rfl, hS, hlen, tabs, k⟩ := h
    refine ⟨_, (pss_cons (ps_set (i := 1) sc_law.nd rfl (Or.inl rfl) (pe_lstG (pa_cons (pe_tupG (pa_cons pe_str (pa_cons pe_int pa_nil))) (pa_cons (pe_tupG (pa_cons pe_str (pa_cons pe_str (pa_cons (pe_tupG (pa_cons pe_int (pa_cons pe_int (pa_cons pe_int pa_nil)))) pa_nil)))) (pa_cons (pe_tupG (pa_cons pe_str (pa_cons pe_int pa_nil))) (pa_cons (pe_tupG (pa_cons pe_str (pa_cons pe_int pa_nil))) (pa_cons (pe_tupG (pa_cons pe_str (pa_cons pe_str pa_nil))) (pa_cons (pe_tupG (pa_cons pe_str (pa_cons pe_int pa_nil))) pa_nil))))))))
      (pss_cons (ps_set (i := 2) sc_law.nd rfl (Or.inl rfl) (pe_lstG (pa_cons (pe_tupG (pa_cons pe_str (pa_cons pe_str (pa_cons (pe_tupG (pa_cons pe_int (pa_cons pe_int (pa_cons pe_int pa_nil)))) pa_nil)))) (pa_cons (pe_tupG (pa_cons pe_str (pa_cons pe_int pa_nil))) (pa_cons (pe_tupG (pa_cons pe_str (pa_cons pe_str pa_nil))) (pa_cons (pe_tupG (pa_cons pe_str (pa_cons pe_int pa_nil))) pa_nil))))))
      (pss_cons (ps_par (i := 3) (j := 4) rfl sc_law.nd rfl rfl (by decide) rfl rfl (pa_cons (pe_make (dvs := [V.int 0]) MB GB (hr.mono (by decide)) (by rfl) g_Body bB hds pass0 (pa_cons (pe_disp (pps_cons pe_str pe_int pps_nil) rfl rfl (fun z => by cases z) (by show 1 ≤ 15; decide)) (pa_cons (pv 1) pa_nil))) (pa_cons (pe_body MB GB (hr.mono (by decide)) (by rfl) g_Body kB (pa_cons (pe_disp (pps_cons pe_str pe_int pps_nil) rfl rfl (fun z => by cases z) (by show 1 ≤ 15; decide)) (pa_cons (pv 2) pa_nil)) (pk_cons pe_int pk_nil)) pa_nil)) rfl)
      (pss_cons (ps_set (i := 5) sc_law.nd rfl (Or.inl rfl) (pe_lstG (pa_cons (pe_tupG (pa_cons pe_int (pa_cons pe_int pa_nil))) (pa_cons (pe_tupG (pa_cons pe_int (pa_cons pe_int pa_nil))) (pa_cons (pe_tupG (pa_cons pe_int (pa_cons pe_int pa_nil))) pa_nil)))))
      (pss_cons (ps_if (PW.pt (pw_or (pt_cmpR (op_neD hr.units) (pe_call GPr (hr.mono (by decide)) (by rfl) g_pairs k_pairs b_pairs .nil pass0 (pa_cons (pv 3) (pa_cons (pv 4) pa_nil))) (pv 5) (nomark _)) (pw_or1 (pt_cmpR op_notN (pe_call GPf (hr.mono (by decide)) (by rfl) g_pfault k_pfault b_pfault .nil pass0 (pa_cons (pv 3) (pa_cons (pv 4) (pa_cons (pv 5) pa_nil)))) pe_non (nomark _))))) (pss_one (ps_ret pe_bl)) pss_nil)
      (pss_cons (ps_for PassesOwn.never rfl (pi_list (pe_op op_catG (pe_slice sl_listG (pv 0) po_none (po_some pe_int)) (pe_lstG (pa_cons pe_int pa_nil)))) (pg_name (i := 6) sc_law.nd rfl (Or.inl rfl)) (pss_cons (ps_set (i := 7) sc_law.nd rfl (Or.inl rfl) (pe_call GSr (hr.mono (by decide)) (by rfl) g_src k_src b_src .nil pass0 (pa_cons (pv 6) pa_nil)))
      (pss_cons (ps_for PassesOwn.never rfl (pi_range1 (by rfl) h_range (pa_cons pe_int pa_nil)) (pg_name (i := 8) sc_law.nd rfl (Or.inl rfl)) (pss_cons (ps_set (i := 9) sc_law.nd rfl (Or.inl rfl) (pe_lstG (pa_cons pe_non (pa_cons pe_int (pa_cons pe_str (pa_cons (pe_tupG pa_nil) (pa_cons (pe_tupG (pa_cons pe_int pa_nil)) (pa_cons (pe_tupG (pa_cons pe_int (pa_cons pe_int (pa_cons pe_int pa_nil)))) (pa_cons (pe_tupG (pa_cons pe_int (pa_cons pe_int pa_nil))) (pa_cons (pe_tupG (pa_cons (pe_un un_neg pe_int) (pa_cons pe_int pa_nil))) (pa_cons (pe_tupG (pa_cons pe_int (pa_cons pe_int pa_nil))) (pa_cons (pe_tupG (pa_cons pe_bl (pa_cons pe_int pa_nil))) (pa_cons (pe_tupG (pa_cons pe_int (pa_cons pe_bl pa_nil))) (pa_cons (pe_tupG (pa_cons pe_str (pa_cons pe_int pa_nil))) (pa_cons pe_dnewK pa_nil)))))))))))))))
      (pss_cons (ps_set (i := 9) sc_law.nd rfl (Or.inl rfl) (pe_op op_catG (pv 9) (pe_lstG (pa_cons (pe_tupG (pa_cons pe_int (pa_cons pe_int pa_nil))) (pa_cons (pe_tupG (pa_cons pe_int (pa_cons pe_int pa_nil))) (pa_cons (pe_tupG (pa_cons pe_int (pa_cons pe_int pa_nil))) (pa_cons (pe_tupG (pa_cons pe_int (pa_cons pe_int pa_nil))) (pa_cons (pe_tupG (pa_cons pe_int (pa_cons pe_non pa_nil))) (pa_cons (pe_lstG (pa_cons pe_int (pa_cons pe_int pa_nil))) (pa_cons (pe_tupG (pa_cons (pe_tupG (pa_cons pe_int pa_nil)) (pa_cons pe_int pa_nil))) pa_nil))))))))))
      (pss_cons (ps_set (i := 10) sc_law.nd rfl (Or.inl rfl) (pe_call GN (hr.mono (by decide)) (by rfl) g_next k_next b_next .nil pass0 (pa_cons (pv 7) (pa_cons (pe_op op_add (pe_callB call_len_seq (by rfl) T.b_len PySem.boot_len (pa_cons (pv 5) pa_nil)) pe_int) pa_nil))))
      (pss_cons (ps_set (i := 11) sc_law.nd rfl (Or.inl rfl) (pe_op op_catG (pe_op op_catG (pe_op op_catG (pe_slice sl_listG (pe_slice sl_listG (pv 5) (po_some pe_int) po_none) po_none (po_some (pv 10))) (pe_lstG (pa_cons (pe_call GOn (hr.mono (by decide)) (by rfl) g_one k_one b_one .nil pass0 (pa_cons (pv 7) (pa_cons (pv 9) pa_nil))) pa_nil))) (pe_slice sl_listG (pv 5) (po_some (pv 10)) po_none)) (pe_op op_repG (pe_lstG (pa_cons pe_non pa_nil)) (pe_call GN (hr.mono (by decide)) (by rfl) g_next k_next b_next .nil pass0 (pa_cons (pv 7) (pa_cons pe_int pa_nil))))))
      (pss_cons (ps_if (pt_cmpR (op_neD hr.units) (pe_call GPf (hr.mono (by decide)) (by rfl) g_pfault k_pfault b_pfault .nil pass0 (pa_cons (pv 3) (pa_cons (pv 4) (pa_cons (pv 11) pa_nil)))) (pe_tupG (pa_cons pe_str (pa_cons (pe_callB (call_min2 rfl) (by rfl) h_min (by decide +kernel) (pa_cons (pv 10) (pa_cons pe_int pa_nil))) pa_nil))) (nomark _)) (pss_one (ps_ret pe_bl)) pss_nil)
      (pss_one (ps_for PassesOwn.never rfl (pi_tup (pe_tupG (pa_cons pe_non (pa_cons pe_int (pa_cons pe_str (pa_cons pe_dnewK (pa_cons pe_bl pa_nil))))))) (pg_name (i := 12) sc_law.nd rfl (Or.inl rfl)) (pss_one (ps_if (pt_cmpR (op_neD hr.units) (pe_call GPf (hr.mono (by decide)) (by rfl) g_pfault k_pfault b_pfault .nil pass0 (pa_cons (pv 3) (pa_cons (pv 4) (pa_cons (pv 12) pa_nil)))) (pe_tupG (pa_cons pe_str (pa_cons (pe_un un_neg pe_int) pa_nil))) (nomark _)) (pss_one (ps_ret pe_bl)) pss_nil))))))))))
      (pss_one (ps_if (PW.pt (pw_or (pt_cmpR (op_neD hr.units) (pe_call GPf (hr.mono (by decide)) (by rfl) g_pfault k_pfault b_pfault .nil pass0 (pa_cons (pv 3) (pa_cons (pv 4) (pa_cons (pe_lstG pa_nil) pa_nil)))) (pe_tupG (pa_cons pe_str pa_nil)) (nomark _)) (pw_or1 (pt_not (pt_val (pe_call GMM (hr.mono (by decide)) (by rfl) g_mm k_mm b_mm .nil pass0 (pa_cons (pv 7) pa_nil))))))) (pss_one (ps_ret pe_bl)) pss_nil)))))
      (pss_one (ps_ret (pe_cmpR op_isN (pe_call GPf (hr.mono (by decide)) (by rfl) g_pfault k_pfault b_pfault .nil pass0 (pa_cons (pv 3) (pa_cons (pv 4) (pa_cons (pe_lstG (pa_cons (pe_lstG (pa_cons pe_int (pa_cons pe_int pa_nil))) (pa_cons (pe_tupG (pa_cons pe_int (pa_cons pe_int pa_nil))) (pa_cons (pe_lstG (pa_cons pe_int (pa_cons pe_int pa_nil))) pa_nil)))) pa_nil)))) pe_non (nomark _)))))))))), ?_⟩
    refine ⟨(by show 2 ≤ sizeLine; decide), fun ra0 X1 n1 s1 e1 => ?_⟩
    refine ⟨(by show 3 ≤ sizeLine; decide), fun rat X2 n2 s2 e2 => ?_⟩
    refine ⟨(by show 3 ≤ sizeLine; decide), fun ra1 X3 n3 s3 e3 => ?_⟩
    refine ⟨(by show 2 ≤ sizeLine; decide), fun ra2 X4 n4 s4 e4 => ?_⟩
    refine ⟨(by show 2 ≤ sizeLine; decide), fun ra3 X5 n5 s5 e5 => ?_⟩
    refine ⟨(by show 2 ≤ sizeLine; decide), fun ra4 X6 n6 s6 e6 => ?_⟩
    refine ⟨(by show 2 ≤ sizeLine; decide), fun ra5 X7 n7 s7 e7 => ?_⟩
    refine ⟨(by show 6 ≤ sizeLine; decide), fun LA X8 n8 s8 e8 => ?_⟩
    refine ⟨(by show 3 ≤ sizeLine; decide), fun rbt X9 n9 s9 e9 => ?_⟩
    refine ⟨(by show 3 ≤ sizeLine; decide), fun rb0 X10 n10 s10 e10 => ?_⟩
    refine ⟨(by show 2 ≤ sizeLine; decide), fun rb1 X11 n11 s11 e11 => ?_⟩
    refine ⟨(by show 2 ≤ sizeLine; decide), fun rb2 X12 n12 s12 e12 => ?_⟩
    refine ⟨(by show 2 ≤ sizeLine; decide), fun rb3 X13 n13 s13 e13 => ?_⟩
    refine ⟨(by show 4 ≤ sizeLine; decide), fun LB X14 n14 s14 e14 => ?_⟩
    have em : mergeK [] [((Sum.inr "coin" : Key), V.int 3)] = opsK opsC := merge_ops (o := opsC) okC.nd
    refine fun d1 nd1 => ⟨upd_same, [(.inr "coin", .int 3)], rfl, by show 1 ≤ 15; decide, ?_⟩
    rw [em]
    have sD := same_updN (o := .dK (opsK opsC)) (sameNew nd1 (.dK [])) nd1
    have eD : upd (upd X14 d1 (.dK [])) d1 (.dK (opsK opsC)) d1 = some (.dK (opsK opsC)) := upd_same
    generalize upd (upd X14 d1 (.dK [])) d1 (.dK (opsK opsC)) = Y1 at sD eD ⊢
    refine ⟨_, rfl, ?_⟩
    refine fun bd1 dx1 nb1 ndx1 ne1 => ?_
    have rowsIA : RowsIn Y1 [.ref ra0, .ref ra1, .ref ra2, .ref ra3, .ref ra4, .ref ra5] rsA := ⟨rfl, fun i d e => by
      match i, e with
      | 0, e => have := Option.some.inj e; subst this; exact ⟨_, rfl, ra0, rfl, .inr (sD _ _ ((s2.trans (s3.trans (s4.trans (s5.trans (s6.trans (s7.trans (s8.trans (s9.trans (s10.trans (s11.trans (s12.trans (s13.trans (s14))))))))))))) _ _ e1))⟩
      | 1, e => have := Option.some.inj e; subst this; exact ⟨_, rfl, ra1, rat, rfl, .inr (sD _ _ ((s4.trans (s5.trans (s6.trans (s7.trans (s8.trans (s9.trans (s10.trans (s11.trans (s12.trans (s13.trans (s14))))))))))) _ _ e3)), .inr (sD _ _ ((s3.trans (s4.trans (s5.trans (s6.trans (s7.trans (s8.trans (s9.trans (s10.trans (s11.trans (s12.trans (s13.trans (s14)))))))))))) _ _ e2))⟩
      | 2, e => have := Option.some.inj e; subst this; exact ⟨_, rfl, ra2, rfl, .inr (sD _ _ ((s5.trans (s6.trans (s7.trans (s8.trans (s9.trans (s10.trans (s11.trans (s12.trans (s13.trans (s14)))))))))) _ _ e4))⟩
      | 3, e => have := Option.some.inj e; subst this; exact ⟨_, rfl, ra3, rfl, .inr (sD _ _ ((s6.trans (s7.trans (s8.trans (s9.trans (s10.trans (s11.trans (s12.trans (s13.trans (s14))))))))) _ _ e5))⟩
      | 4, e => have := Option.some.inj e; subst this; exact ⟨_, rfl, ra4, rfl, .inr (sD _ _ ((s7.trans (s8.trans (s9.trans (s10.trans (s11.trans (s12.trans (s13.trans (s14)))))))) _ _ e6))⟩
      | 5, e => have := Option.some.inj e; subst this; exact ⟨_, rfl, ra5, rfl, .inr (sD _ _ ((s8.trans (s9.trans (s10.trans (s11.trans (s12.trans (s13.trans (s14))))))) _ _ e7))⟩⟩
    refine body_end0 (CB := CB) (CM := CM) eD (.inl (sD _ _ ((s9.trans (s10.trans (s11.trans (s12.trans (s13.trans (s14)))))) _ _ e8))) rowsIA okA bd1 dx1 nb1 ndx1 ne1 (fun Y2 gA BN1 => ?_)
    refine fun d2 nd2 => ⟨upd_same, [(.inr "coin", .int 3)], rfl, by show 1 ≤ 15; decide, ?_⟩
    rw [em]
    have sD2 := same_updN (o := .dK (opsK opsC)) (sameNew nd2 (.dK [])) nd2
    have eD2 : upd (upd Y2 d2 (.dK [])) d2 (.dK (opsK opsC)) d2 = some (.dK (opsK opsC)) := upd_same
    generalize upd (upd Y2 d2 (.dK [])) d2 (.dK (opsK opsC)) = Y3 at sD2 eD2 ⊢
    have rowsIB : RowsIn Y3 [.ref rb0, .ref rb1, .ref rb2, .ref rb3] rsB := ⟨rfl, fun i d e => by
      match i, e with
      | 0, e => have := Option.some.inj e; subst this; exact ⟨_, rfl, rb0, rbt, rfl, .inr (sD2 _ _ (gA _ _ (sD _ _ ((s11.trans (s12.trans (s13.trans (s14)))) _ _ e10)))), .inr (sD2 _ _ (gA _ _ (sD _ _ ((s10.trans (s11.trans (s12.trans (s13.trans (s14))))) _ _ e9))))⟩
      | 1, e => have := Option.some.inj e; subst this; exact ⟨_, rfl, rb1, rfl, .inr (sD2 _ _ (gA _ _ (sD _ _ ((s12.trans (s13.trans (s14))) _ _ e11))))⟩
      | 2, e => have := Option.some.inj e; subst this; exact ⟨_, rfl, rb2, rfl, .inr (sD2 _ _ (gA _ _ (sD _ _ ((s13.trans (s14)) _ _ e12))))⟩
      | 3, e => have := Option.some.inj e; subst this; exact ⟨_, rfl, rb3, rfl, .inr (sD2 _ _ (gA _ _ (sD _ _ ((s14) _ _ e13))))⟩⟩
    refine ⟨_, rfl, d2, LB, _, rsB, opsC, 3, rfl, rfl, eD2, .inl (sD2 _ _ (gA _ _ (sD _ _ e14))), rowsIB, okBB, fun bd2 Y4 nb2 gB BN2 => ⟨_, _, rfl, ?_⟩⟩
    have s04 : Same H Y4 := (s1.trans (s2.trans (s3.trans (s4.trans (s5.trans (s6.trans (s7.trans (s8.trans (s9.trans (s10.trans (s11.trans (s12.trans (s13.trans (s14)))))))))))))).trans (sD.trans (gA.trans (sD2.trans gB)))
    clear rowsIA rowsIB
    refine ⟨two_ok _ _, fun c0 Z1 m1 t1 f1 => ⟨two_ok _ _, fun c1 Z2 m2 t2 f2 => ⟨two_ok _ _, fun c2 Z3 m3 t3 f3 => ⟨three_ok _ _ _, fun LC Ha m4 t4 f4 => ?_⟩⟩⟩⟩
    have s4a : Same Y4 Ha := t1.trans (t2.trans (t3.trans t4))
    have s0a : Same H Ha := s04.trans s4a
    obtain ⟨qs, ePM, _, _⟩ := tabs (PM, qMM) (List.mem_singleton.mpr rfl)
    have ePM : H PM = some (.tbl qs) := ePM
    have hPa : Ha PM = some (.tbl qs) := s0a _ _ ePM
    have tabsA : LamX.Tabs [(PM, qMM)] Ha := tabs_same tabs s0a
    have hP2 : Y1 PM = some (.tbl qs) := sD _ _ ((s2.trans (s3.trans (s4.trans (s5.trans (s6.trans (s7.trans (s8.trans (s9.trans (s10.trans (s11.trans (s12.trans (s13.trans (s14))))))))))))) _ _ (s1 _ _ ePM))
    have hP2' : Y2 PM = some (.tbl qs) := gA _ _ hP2
    have hP3 : Y3 PM = some (.tbl qs) := sD2 _ _ hP2'
    have hP4 : Y4 PM = some (.tbl qs) := gB _ _ hP3
    have twoAt : ∀ Hx, ButT PM Ha Hx → Two24 CB CM Hx bd1 bd2 := fun Hx U => ⟨BN1.off nb1 fun b u e h => U _ _ (fun z => by
        rw [z] at e h
        rw [hP2'] at e
        rcases h with h | ⟨zs, h⟩
        · rw [hP2] at h; cases h
        · rw [h] at e; cases e) ((sD2.trans (gB.trans s4a)) _ _ e), BN2.off nb2 fun b u e h => U _ _ (fun z => by
        rw [z] at e h
        rw [hP4] at e
        rcases h with h | ⟨zs, h⟩
        · rw [hP3] at h; cases h
        · rw [h] at e; cases e) (s4a _ _ e), by decide, by decide, goC⟩
    have cloAt : ∀ Hx, ButT PM Ha Hx → Hx LC = some (.lst [.ref c0, .ref c1, .ref c2]) ∧ PairT Hx c0 (1, 0) ∧ PairT Hx c1 (2, 1) ∧ PairT Hx c2 (4, 2) := fun Hx U =>
      ⟨go U tabsA f4 nofun, go U tabsA (t4 _ _ (t3 _ _ (t2 _ _ f1))) nofun, go U tabsA (t4 _ _ (t3 _ _ f2)) nofun, go U tabsA (t4 _ _ f3) nofun⟩
    have scr : SqL K Ha a (ns.map V.int) := s0a.seq hS
    clear BN1 BN2 s1 n1 e1 s2 n2 e2 s3 n3 e3 s4 n4 e4 s5 n5 e5 s6 n6 e6 s7 n7 e7 s8 n8 e8 s9 n9 e9 s10 n10 e10 s11 n11 e11 s12 n12 e12 s13 n13 e13 s14 n14 e14
    clear sD eD nd1 nd2 sD2 eD2 gA gB hP2 hP2' hP3 hP4 s4a s04 ePM tabs hS em t1 t2 t3 t4 f1 f2 f3 f4 m1 m2 m3 m4
    refine ⟨_, rfl, _, rfl, bd1, bd2, opsC, opsC, rsA, rsB, 0, 3, _, rfl, twoAt _ (.refl _ _), alAB, fun tp us ps K1 ntp r1 etp prt perm srt => ?_⟩
    rw [stA0, stB3, pairsAB] at perm
    have eps := perm_sorted perm srt cloSorted
    subst eps
    obtain ⟨h1, h2, h3, h4⟩ := cloAt K1 (.of r1)
    have pr1 : Prs K1 [.ref c0, .ref c1, .ref c2] clo := (((Prs.nil K1).snoc h2).snoc h3).snoc h4
    refine ⟨_, rfl, _, _, prs_dp etp prt, prs_dp h1 pr1, prs_shaped _, prs_shaped _, _, rfl, ?_⟩
    rw [prs_eqv]
    refine iteF ?_
    refine ⟨_, rfl, _, rfl, _, rfl, ?_⟩
    refine fault_none (K := K) (CB := CB) (CM := CM) (twoAt _ (.of r1)) (.inl h1) (prsA_of pr1) (fun K2 r2 => ?_)
    refine ⟨rfl, _, rfl, ?_⟩
    refine iteF ?_
    have sK : Same Ha K2 := r1.trans r2
    refine ⟨_, rfl, 5, rfl, a, _, rfl, sK.seq scr, fun p1 J1 n1 s1 e1 => ?_⟩
    refine ⟨one_ok _, fun p2 J2 n2 s2 e2 => ?_⟩
    refine ⟨p1, p2, _, _, rfl, rfl, s2 _ _ e1, e2, ?_, fun p3 J3 n3 s3 e3 => ?_⟩
    · have := ints_cut_len (lo := none) (hi := some 5) hlen
      show _ + 1 ≤ sizeLine
      rw [sizeLine_eq]
      omega
    have sJ : Same Ha J3 := sK.trans (s1.trans (s2.trans s3))
    have p3P : p3 ≠ PM := fun z => by rw [z, (sJ.trans (Same.refl _)) _ _ hPa] at e3; cases e3
    refine ⟨p3, rfl, ⟨_, SqL.of e3⟩, for_list (K := K) (a := p3) (xs := cutV (ns.map V.int) none (some 5) ++ [.int 0]) (fun i σ H' => ∃ v6 v7 v8 v9 v10 v11 v12 : Option V, σ = [some (.ref a), some (.ref LA), some (.ref LB), some (.ref bd1), some (.ref bd2), some (.ref LC), v6, v7, v8, v9, v10, v11, v12] ∧ ButT PM J3 H' ∧ LamX.Tabs [(PM, qMM)] H') ⟨_, _, _, _, _, _, _, rfl, .refl _ _, tabs_same tabsA sJ⟩ (fun i σ H' _ z => by obtain ⟨_, _, _, _, _, _, _, _, u, _⟩ := z; exact SqL.of (u _ _ p3P e3)) ?_ ?_⟩
    · rintro i y σ Hc hi ⟨v6, v7, v8, v9, v10, v11, v12, rfl, uc, tc⟩
      obtain ⟨c, rfl⟩ := ints_cut hi
      refine ⟨_, rfl, c, rfl, fun x0 y0 z0 p4 J4 n4 s4 e4 => ?_⟩
      have p4n : J3 p4 = none := none_butT uc tc n4
      have p4a : Ha p4 = none := none_of sJ p4n
      refine ⟨8, rfl, by decide, by decide, for_range (n := 8) (fun j σ H' => ∃ v8 v9 v10 v11 v12 : Option V, σ = [some (.ref a), some (.ref LA), some (.ref LB), some (.ref bd1), some (.ref bd2), some (.ref LC), some (.int c), some (.ref p4), v8, v9, v10, v11, v12] ∧ ButT PM J3 H' ∧ LamX.Tabs [(PM, qMM)] H' ∧ SrcAt H' p4) ⟨_, _, _, _, _, rfl, uc.trans (.of s4), tabs_same tc s4, x0, y0, z0, e4⟩ ?_ ?_⟩
      · rintro j σ Hj hj ⟨v8, v9, v10, v11, v12, rfl, uj, tj, x1, y1, z1, e5⟩
        clear e4
        refine ⟨(by show 0 ≤ sizeLine; decide), fun t0 O1 on1 os1 oe1 => ?_⟩
        refine ⟨(by show 1 ≤ sizeLine; decide), fun t1 O2 on2 os2 oe2 => ?_⟩
        refine ⟨(by show 3 ≤ sizeLine; decide), fun t2 O3 on3 os3 oe3 => ?_⟩
        refine ⟨(by show 2 ≤ sizeLine; decide), fun t3 O4 on4 os4 oe4 => ?_⟩
        refine ⟨1, rfl, (by show 2 ≤ sizeLine; decide), fun t4 O5 on5 os5 oe5 => ?_⟩
        refine ⟨(by show 2 ≤ sizeLine; decide), fun t5 O6 on6 os6 oe6 => ?_⟩
        refine ⟨(by show 2 ≤ sizeLine; decide), fun t6 O7 on7 os7 oe7 => ?_⟩
        refine ⟨(by show 2 ≤ sizeLine; decide), fun t7 O8 on8 os8 oe8 => ?_⟩
        refine ⟨(by show 2 ≤ sizeLine; decide), fun t8 O9 on9 os9 oe9 => ?_⟩
        refine fun t9 on10 => ?_
        have os10 := sameNew on10 (.dK [])
        have oe10 : upd O9 t9 (.dK []) t9 = some (.dK []) := upd_same
        generalize upd O9 t9 (.dK []) = O10 at os10 oe10 ⊢
        refine ⟨(by show 13 ≤ sizeLine; decide), fun L1 O11 on11 os11 oe11 => ?_⟩
        refine ⟨_, rfl, (by show 2 ≤ sizeLine; decide), fun w0 O12 on12 os12 oe12 => ?_⟩
        refine ⟨(by show 2 ≤ sizeLine; decide), fun w1 O13 on13 os13 oe13 => ?_⟩
        refine ⟨(by show 2 ≤ sizeLine; decide), fun w2 O14 on14 os14 oe14 => ?_⟩
        refine ⟨(by show 2 ≤ sizeLine; decide), fun w3 O15 on15 os15 oe15 => ?_⟩
        refine ⟨(by show 2 ≤ sizeLine; decide), fun w4 O16 on16 os16 oe16 => ?_⟩
        refine ⟨(by show 2 ≤ sizeLine; decide), fun w5 O17 on17 os17 oe17 => ?_⟩
        refine ⟨(by show 1 ≤ sizeLine; decide), fun w6 O18 on18 os18 oe18 => ?_⟩
        refine ⟨(by show 2 ≤ sizeLine; decide), fun w7 O19 on19 os19 oe19 => ?_⟩
        refine ⟨(by show 7 ≤ sizeLine; decide), fun L2 O20 on20 os20 oe20 => ?_⟩
        refine ⟨L1, L2, _, _, rfl, rfl, os20 _ _ (os19 _ _ (os18 _ _ (os17 _ _ (os16 _ _ (os15 _ _ (os14 _ _ (os13 _ _ (os12 _ _ (oe11))))))))), oe20, (by show 20 ≤ sizeLine; decide), fun LO XO on os oe => ?_⟩
        have sO : Same Hj XO := os1.trans (os2.trans (os3.trans (os4.trans (os5.trans (os6.trans (os7.trans (os8.trans (os9.trans (os10.trans (os11.trans (os12.trans (os13.trans (os14.trans (os15.trans (os16.trans (os17.trans (os18.trans (os19.trans (os20.trans (os))))))))))))))))))))
        have src1 := sO _ _ e5
        have odd : ∀ x ∈ [V.non, .int 5, .str "ab", .ref t0, .ref t1, .ref t2, .ref t3, .ref t4, .ref t5, .ref t6, .ref t7, .ref t8, .ref t9, .ref w0, .ref w1, .ref w2, .ref w3, .ref w4, .ref w5, .ref w7], IsP K (del XO p4) rsA rsB x false := by
          intro x hx
          simp only [List.mem_cons, List.not_mem_nil, or_false] at hx
          rcases hx with rfl | rfl | rfl | rfl | rfl | rfl | rfl | rfl | rfl | rfl | rfl | rfl | rfl | rfl | rfl | rfl | rfl | rfl | rfl | rfl
          · exact no_val btNon (by decide)
          · exact no_val (btInt 5) (by decide)
          · exact no_val (btStr "ab") (by decide)
          · refine no_seq (.inr (dl ((os2.trans (os3.trans (os4.trans (os5.trans (os6.trans (os7.trans (os8.trans (os9.trans (os10.trans (os11.trans (os12.trans (os13.trans (os14.trans (os15.trans (os16.trans (os17.trans (os18.trans (os19.trans (os20.trans (os)))))))))))))))))))) _ _ oe1) (ne_at src1 ((os2.trans (os3.trans (os4.trans (os5.trans (os6.trans (os7.trans (os8.trans (os9.trans (os10.trans (os11.trans (os12.trans (os13.trans (os14.trans (os15.trans (os16.trans (os17.trans (os18.trans (os19.trans (os20.trans (os)))))))))))))))))))) _ _ oe1) (by simp)))) ?_ ?_
            · intro y hy
              cases hy
            · first | rfl | decide +kernel
          · refine no_seq (.inr (dl ((os3.trans (os4.trans (os5.trans (os6.trans (os7.trans (os8.trans (os9.trans (os10.trans (os11.trans (os12.trans (os13.trans (os14.trans (os15.trans (os16.trans (os17.trans (os18.trans (os19.trans (os20.trans (os))))))))))))))))))) _ _ oe2) (ne_at src1 ((os3.trans (os4.trans (os5.trans (os6.trans (os7.trans (os8.trans (os9.trans (os10.trans (os11.trans (os12.trans (os13.trans (os14.trans (os15.trans (os16.trans (os17.trans (os18.trans (os19.trans (os20.trans (os))))))))))))))))))) _ _ oe2) (by simp)))) ?_ ?_
            · intro y hy
              simp only [List.mem_cons, List.not_mem_nil, or_false] at hy
              rcases hy with rfl
              · exact ⟨_, btInt _⟩
            · first | rfl | decide +kernel
          · refine no_seq (.inr (dl ((os4.trans (os5.trans (os6.trans (os7.trans (os8.trans (os9.trans (os10.trans (os11.trans (os12.trans (os13.trans (os14.trans (os15.trans (os16.trans (os17.trans (os18.trans (os19.trans (os20.trans (os)))))))))))))))))) _ _ oe3) (ne_at src1 ((os4.trans (os5.trans (os6.trans (os7.trans (os8.trans (os9.trans (os10.trans (os11.trans (os12.trans (os13.trans (os14.trans (os15.trans (os16.trans (os17.trans (os18.trans (os19.trans (os20.trans (os)))))))))))))))))) _ _ oe3) (by simp)))) ?_ ?_
            · intro y hy
              simp only [List.mem_cons, List.not_mem_nil, or_false] at hy
              rcases hy with rfl | rfl | rfl
              · exact ⟨_, btInt _⟩
              · exact ⟨_, btInt _⟩
              · exact ⟨_, btInt _⟩
            · first | rfl | decide +kernel
          · refine no_seq (.inr (dl ((os5.trans (os6.trans (os7.trans (os8.trans (os9.trans (os10.trans (os11.trans (os12.trans (os13.trans (os14.trans (os15.trans (os16.trans (os17.trans (os18.trans (os19.trans (os20.trans (os))))))))))))))))) _ _ oe4) (ne_at src1 ((os5.trans (os6.trans (os7.trans (os8.trans (os9.trans (os10.trans (os11.trans (os12.trans (os13.trans (os14.trans (os15.trans (os16.trans (os17.trans (os18.trans (os19.trans (os20.trans (os))))))))))))))))) _ _ oe4) (by simp)))) ?_ ?_
            · intro y hy
              simp only [List.mem_cons, List.not_mem_nil, or_false] at hy
              rcases hy with rfl | rfl
              · exact ⟨_, btInt _⟩
              · exact ⟨_, btInt _⟩
            · first | rfl | decide +kernel
          · refine no_seq (.inr (dl ((os6.trans (os7.trans (os8.trans (os9.trans (os10.trans (os11.trans (os12.trans (os13.trans (os14.trans (os15.trans (os16.trans (os17.trans (os18.trans (os19.trans (os20.trans (os)))))))))))))))) _ _ oe5) (ne_at src1 ((os6.trans (os7.trans (os8.trans (os9.trans (os10.trans (os11.trans (os12.trans (os13.trans (os14.trans (os15.trans (os16.trans (os17.trans (os18.trans (os19.trans (os20.trans (os)))))))))))))))) _ _ oe5) (by simp)))) ?_ ?_
            · intro y hy
              simp only [List.mem_cons, List.not_mem_nil, or_false] at hy
              rcases hy with rfl | rfl
              · exact ⟨_, btInt _⟩
              · exact ⟨_, btInt _⟩
            · first | rfl | decide +kernel
          · refine no_seq (.inr (dl ((os7.trans (os8.trans (os9.trans (os10.trans (os11.trans (os12.trans (os13.trans (os14.trans (os15.trans (os16.trans (os17.trans (os18.trans (os19.trans (os20.trans (os))))))))))))))) _ _ oe6) (ne_at src1 ((os7.trans (os8.trans (os9.trans (os10.trans (os11.trans (os12.trans (os13.trans (os14.trans (os15.trans (os16.trans (os17.trans (os18.trans (os19.trans (os20.trans (os))))))))))))))) _ _ oe6) (by simp)))) ?_ ?_
            · intro y hy
              simp only [List.mem_cons, List.not_mem_nil, or_false] at hy
              rcases hy with rfl | rfl
              · exact ⟨_, btInt _⟩
              · exact ⟨_, btInt _⟩
            · first | rfl | decide +kernel
          · refine no_seq (.inr (dl ((os8.trans (os9.trans (os10.trans (os11.trans (os12.trans (os13.trans (os14.trans (os15.trans (os16.trans (os17.trans (os18.trans (os19.trans (os20.trans (os)))))))))))))) _ _ oe7) (ne_at src1 ((os8.trans (os9.trans (os10.trans (os11.trans (os12.trans (os13.trans (os14.trans (os15.trans (os16.trans (os17.trans (os18.trans (os19.trans (os20.trans (os)))))))))))))) _ _ oe7) (by simp)))) ?_ ?_
            · intro y hy
              simp only [List.mem_cons, List.not_mem_nil, or_false] at hy
              rcases hy with rfl | rfl
              · exact ⟨_, btBl _⟩
              · exact ⟨_, btInt _⟩
            · first | rfl | decide +kernel
          · refine no_seq (.inr (dl ((os9.trans (os10.trans (os11.trans (os12.trans (os13.trans (os14.trans (os15.trans (os16.trans (os17.trans (os18.trans (os19.trans (os20.trans (os))))))))))))) _ _ oe8) (ne_at src1 ((os9.trans (os10.trans (os11.trans (os12.trans (os13.trans (os14.trans (os15.trans (os16.trans (os17.trans (os18.trans (os19.trans (os20.trans (os))))))))))))) _ _ oe8) (by simp)))) ?_ ?_
            · intro y hy
              simp only [List.mem_cons, List.not_mem_nil, or_false] at hy
              rcases hy with rfl | rfl
              · exact ⟨_, btInt _⟩
              · exact ⟨_, btBl _⟩
            · first | rfl | decide +kernel
          · refine no_seq (.inr (dl ((os10.trans (os11.trans (os12.trans (os13.trans (os14.trans (os15.trans (os16.trans (os17.trans (os18.trans (os19.trans (os20.trans (os)))))))))))) _ _ oe9) (ne_at src1 ((os10.trans (os11.trans (os12.trans (os13.trans (os14.trans (os15.trans (os16.trans (os17.trans (os18.trans (os19.trans (os20.trans (os)))))))))))) _ _ oe9) (by simp)))) ?_ ?_
            · intro y hy
              simp only [List.mem_cons, List.not_mem_nil, or_false] at hy
              rcases hy with rfl | rfl
              · exact ⟨_, btStr _⟩
              · exact ⟨_, btInt _⟩
            · first | rfl | decide +kernel
          · exact no_val (btDict (dl ((os11.trans (os12.trans (os13.trans (os14.trans (os15.trans (os16.trans (os17.trans (os18.trans (os19.trans (os20.trans (os))))))))))) _ _ oe10) (ne_at src1 ((os11.trans (os12.trans (os13.trans (os14.trans (os15.trans (os16.trans (os17.trans (os18.trans (os19.trans (os20.trans (os))))))))))) _ _ oe10) nofun))) (by decide)
          · refine no_seq (.inr (dl ((os13.trans (os14.trans (os15.trans (os16.trans (os17.trans (os18.trans (os19.trans (os20.trans (os))))))))) _ _ oe12) (ne_at src1 ((os13.trans (os14.trans (os15.trans (os16.trans (os17.trans (os18.trans (os19.trans (os20.trans (os))))))))) _ _ oe12) (by simp)))) ?_ ?_
            · intro y hy
              simp only [List.mem_cons, List.not_mem_nil, or_false] at hy
              rcases hy with rfl | rfl
              · exact ⟨_, btInt _⟩
              · exact ⟨_, btInt _⟩
            · first | rfl | decide +kernel
          · refine no_seq (.inr (dl ((os14.trans (os15.trans (os16.trans (os17.trans (os18.trans (os19.trans (os20.trans (os)))))))) _ _ oe13) (ne_at src1 ((os14.trans (os15.trans (os16.trans (os17.trans (os18.trans (os19.trans (os20.trans (os)))))))) _ _ oe13) (by simp)))) ?_ ?_
            · intro y hy
              simp only [List.mem_cons, List.not_mem_nil, or_false] at hy
              rcases hy with rfl | rfl
              · exact ⟨_, btInt _⟩
              · exact ⟨_, btInt _⟩
            · first | rfl | decide +kernel
          · refine no_seq (.inr (dl ((os15.trans (os16.trans (os17.trans (os18.trans (os19.trans (os20.trans (os))))))) _ _ oe14) (ne_at src1 ((os15.trans (os16.trans (os17.trans (os18.trans (os19.trans (os20.trans (os))))))) _ _ oe14) (by simp)))) ?_ ?_
            · intro y hy
              simp only [List.mem_cons, List.not_mem_nil, or_false] at hy
              rcases hy with rfl | rfl
              · exact ⟨_, btInt _⟩
              · exact ⟨_, btInt _⟩
            · first | rfl | decide +kernel
          · refine no_seq (.inr (dl ((os16.trans (os17.trans (os18.trans (os19.trans (os20.trans (os)))))) _ _ oe15) (ne_at src1 ((os16.trans (os17.trans (os18.trans (os19.trans (os20.trans (os)))))) _ _ oe15) (by simp)))) ?_ ?_
            · intro y hy
              simp only [List.mem_cons, List.not_mem_nil, or_false] at hy
              rcases hy with rfl | rfl
              · exact ⟨_, btInt _⟩
              · exact ⟨_, btInt _⟩
            · first | rfl | decide +kernel
          · refine no_seq (.inr (dl ((os17.trans (os18.trans (os19.trans (os20.trans (os))))) _ _ oe16) (ne_at src1 ((os17.trans (os18.trans (os19.trans (os20.trans (os))))) _ _ oe16) (by simp)))) ?_ ?_
            · intro y hy
              simp only [List.mem_cons, List.not_mem_nil, or_false] at hy
              rcases hy with rfl | rfl
              · exact ⟨_, btInt _⟩
              · exact ⟨_, btNon⟩
            · first | rfl | decide +kernel
          · refine no_seq (.inl (dl ((os18.trans (os19.trans (os20.trans (os)))) _ _ oe17) (ne_at src1 ((os18.trans (os19.trans (os20.trans (os)))) _ _ oe17) (by simp)))) ?_ ?_
            · intro y hy
              simp only [List.mem_cons, List.not_mem_nil, or_false] at hy
              rcases hy with rfl | rfl
              · exact ⟨_, btInt _⟩
              · exact ⟨_, btInt _⟩
            · first | rfl | decide +kernel
          · refine no_seq (.inr (dl ((os20.trans (os)) _ _ oe19) (ne_at src1 ((os20.trans (os)) _ _ oe19) (by simp)))) ?_ ?_
            · intro y hy
              simp only [List.mem_cons, List.not_mem_nil, or_false] at hy
              rcases hy with rfl | rfl
              · exact (btSeq (.inr (dl ((os19.trans (os20.trans (os))) _ _ oe18) (ne_at src1 ((os19.trans (os20.trans (os))) _ _ oe18) (by simp))))).elim fun t z => ⟨t, z.1⟩
              · exact ⟨_, btInt _⟩
            · first | rfl | decide +kernel
        have uO : ButT PM J3 XO := uj.trans (.of sO)
        have tO := tabs_same tj sO
        have nLO : LO ≠ p4 := fun z => by rw [z] at oe; rw [src1] at oe; cases oe
        clear os1 oe1 on1 os2 oe2 on2 os3 oe3 on3 os4 oe4 on4 os5 oe5 on5 os6 oe6 on6 os7 oe7 on7 os8 oe8 on8 os9 oe9 on9 os10 oe10 on10 os11 oe11 on11 os12 oe12 on12 os13 oe13 on13 os14 oe14 on14 os15 oe15 on15 os16 oe16 on16 os17 oe17 on17 os18 oe18 on18 os19 oe19 on19 os20 oe20 on20 on os
        have uA : ButT PM Ha XO := (ButT.of sJ).trans uO
        refine ⟨_, rfl, _, rfl, LC, _, rfl, .inl (SqL.of (cloAt _ uA).1), _, _, rfl, rfl, p4, 4, x1, y1, z1, rfl, by decide, by decide, src1, fun n x2 y2 z2 P1 lo hi bt1 src2 => ?_⟩
        obtain ⟨kk, rfl⟩ : ∃ kk : Nat, n = (kk : Int) := ⟨n.toNat, by omega⟩
        have uP1 : ButT PM Ha P1 := butT_but uA bt1 p4a
        have oe1 := bt1 _ _ nLO oe
        refine ⟨_, rfl, 1, rfl, LC, _, rfl, SqL.of (cloAt _ uP1).1, fun q1 P2 b2n b2s b2e => ⟨_, rfl, (kk : Int), rfl, q1, _, rfl, SqL.of b2e, fun q2 P3 b3n b3s b3e => ?_⟩⟩
        have ecut : cutV (cutV [V.ref c0, .ref c1, .ref c2] (some 1) none) none (some (kk : Int)) = [V.ref c1, .ref c2].take kk := by
          show cutV [V.ref c1, .ref c2] none (some (kk : Int)) = _
          unfold cutV
          rw [HT.sIx_none, HT.sIx_nat, List.drop_zero, Nat.sub_zero]
          show [V.ref c1, .ref c2].take (min kk 2) = _
          rw [List.take_eq_take_iff]
          simp
        rw [ecut] at b3e
        refine ⟨_, rfl, _, rfl, p4, LO, _, x2, y2, z2, rfl, b3s _ _ (b2s _ _ src2), b3s _ _ (b2s _ _ oe1), (by show 0 < 20; decide), (by show 20 ≤ 1000; decide), Ne.symm nLO, fun vv x3 y3 z3 P4 mv bt4 src4 => ⟨one_ok _, fun q3 P5 b5n b5s b5e => ?_⟩⟩
        have nq2 : q2 ≠ p4 := fun z => by rw [z, b2s _ _ src2] at b3n; cases b3n
        have lenT : ([V.ref c1, .ref c2].take kk).length ≤ 2 := by rw [List.length_take]; exact Nat.min_le_right _ _
        refine ⟨q2, q3, _, _, rfl, rfl, b5s _ _ (bt4 _ _ nq2 b3e), b5e, by rw [sizeLine_eq]; show _ + 1 ≤ _; omega, fun q4 P6 b6n b6s b6e => ?_⟩
        have s16 : But XO P6 p4 := fun b o nb h => b6s _ _ (b5s _ _ (bt4 _ _ nb (b3s _ _ (b2s _ _ (bt1 _ _ nb h)))))
        have uP6 : ButT PM Ha P6 := butT_but uA s16 p4a
        refine ⟨_, rfl, _, rfl, _, rfl, LC, _, rfl, SqL.of (cloAt _ uP6).1, fun q5 P7 b7n b7s b7e => ?_⟩
        have cl5 := cutV_length [V.ref c0, .ref c1, .ref c2] (some (kk : Int)) none
        generalize cutV [V.ref c0, .ref c1, .ref c2] (some (kk : Int)) none = tl at b7e cl5
        have cl5 : tl.length ≤ 3 := cl5
        refine ⟨q4, q5, _, _, rfl, rfl, b7s _ _ b6e, b7e, by rw [sizeLine_eq, List.length_append]; show _ + 1 + _ ≤ _; omega, fun q6 P8 b8n b8s b8e => ?_⟩
        have src8 := b8s _ _ (b7s _ _ (b6s _ _ (b5s _ _ src4)))
        refine ⟨one_ok _, fun q7 P9 b9n b9s b9e => ⟨_, rfl, p4, 2, x3, y3, z3, rfl, by decide, by decide, b9s _ _ src8, fun r x4 y4 z4 P10 lo2 hi2 bt10 src10 => ?_⟩⟩
        have nq7 : q7 ≠ p4 := fun z => by rw [z, src8] at b9n; cases b9n
        have nq6 : q6 ≠ p4 := fun z => by rw [z, b7s _ _ (b6s _ _ (b5s _ _ src4))] at b8n; cases b8n
        have uP9 : ButT PM Ha P10 := butT_but (butT_but uA s16 p4a) (fun b o nb h => bt10 _ _ nb (b9s _ _ (b8s _ _ (b7s _ _ h)))) p4a
        have b9f := bt10 _ _ nq7 b9e
        have b8f := bt10 _ _ nq6 (b9s _ _ b8e)
        refine ⟨q7, r, _, rfl, rfl, b9f, by omega, by omega, ?_, fun q8 P11 b11n b11s b11e => ?_⟩
        · show 1 * r.toNat ≤ sizeLine
          rw [sizeLine_eq]
          omega
        have lenR : ((List.replicate r.toNat [V.non]).flatten).length ≤ 1 := by
          have : ∀ m : Nat, ((List.replicate m [V.non]).flatten).length = m := fun m => by
            induction m with
            | zero => rfl
            | succ m ih => rw [List.replicate_succ, List.flatten_cons, List.length_append, ih]; simp only [List.length_cons, List.length_nil]; omega
          rw [this]
          omega
        generalize (List.replicate r.toNat [V.non]).flatten = nn at b11e lenR
        refine ⟨q6, q8, _, _, rfl, rfl, b11s _ _ b8f, b11e, by rw [sizeLine_eq, List.length_append, List.length_append]; show _ + 1 + _ + _ ≤ _; omega, fun q9 P12 b12n b12s b12e => ?_⟩
        have b1c : But XO P12 p4 := fun b o nb h => b12s _ _ (b11s _ _ (bt10 _ _ nb (b9s _ _ (b8s _ _ (b7s _ _ (s16 b o nb h))))))
        have uP12 : ButT PM Ha P12 := butT_but uA b1c p4a
        have src12 := b12s _ _ (b11s _ _ src10)
        have tP12 : LamX.Tabs [(PM, qMM)] P12 := tabs_but tO src1 b1c
        have uJ12 : ButT PM J3 P12 := butT_but uO b1c p4n
        have noV : IsP K P12 rsA rsB vv false := (odd vv mv).same (same_del b1c)
        obtain ⟨_, f1, f2, f3⟩ := cloAt _ uP12
        clear odd b1c b12n b12s b11n b11s b11e b9n b9s b9e b8n b8s b8e b7n b7s b7e b6n b6s b6e b5n b5s b5e b3n b3s b3e b2n b2s b2e bt10 bt4 bt1
        refine ⟨_, rfl, _, rfl, _, rfl, ?_⟩
        have lenI : ([V.ref c1, .ref c2].take kk).length = min kk 2 := by rw [List.length_take]; rfl
        refine fault_bad (K := K) (CB := CB) (CM := CM) (i := ([V.ref c1, .ref c2].take kk).length) (x := vv) (twoAt _ uP12) (.inl b12e) (by rw [List.length_append, List.length_append, List.length_append, lenI]; show _ + 1 + _ + _ ≤ _; omega) ?_ noV (fun i y hi ey => ?_) (fun p5 P13 gD gE => ?_)
        · rw [List.append_assoc, List.append_assoc, List.getElem?_append_right (Nat.le_refl _), Nat.sub_self]
          rfl
        · rw [List.append_assoc, List.append_assoc, List.getElem?_append_left hi] at ey
          rw [List.getElem?_take] at ey
          rw [lenI] at hi
          rw [if_pos (by omega)] at ey
          match i, ey with
          | 0, e => have := Option.some.inj e; subst this; exact PrsA.isP (p := (2, 1)) (.inr f2) (restAB _ (by decide))
          | 1, e => have := Option.some.inj e; subst this; exact PrsA.isP (p := (4, 2)) (.inr f3) (restAB _ (by decide))
        refine ⟨_, rfl, _, _, rfl, two_ok _ _, fun p6 P14 b14n b14s b14e => ?_⟩
        have emin : (if (2 : Int) < (kk : Int) then (2 : Int) else (kk : Int)) = (([V.ref c1, .ref c2].take kk).length : Int) := by rw [lenI]; split <;> omega
        refine ⟨_, _, wi_dp (b14s _ _ gE), wi_dp b14e, wi_shaped strOk_pairs, wi_shaped strOk_pairs, ?_⟩
        rw [emin, wi_eqv strOk_pairs]
        refine ⟨_, rfl, iteF ?_⟩
        refine fun t10 on10 => ?_
        have s10 := sameNew on10 (.dK [])
        have e10 : upd P14 t10 (.dK []) t10 = some (.dK []) := upd_same
        generalize upd P14 t10 (.dK []) = P15 at s10 e10 ⊢
        refine ⟨(by show 5 ≤ sizeLine; decide), fun t11 P16 n11 s11 e11 => ?_⟩
        have sP : Same P12 P16 := gD.trans (b14s.trans (s10.trans s11))
        have uQ : ButT PM J3 P16 := uJ12.trans (.of sP)
        have tQ := tabs_same tP12 sP
        have srcQ := sP _ _ src12
        have e10' := s11 _ _ e10
        refine ⟨t11, rfl, ⟨_, SqT.of e11⟩, for_tup (K := K) (a := t11) (xs := [.non, .int 5, .str "ab", .ref t10, .bl true]) (fun i σ H' => ∃ v12 : Option V, σ = [some (.ref a), some (.ref LA), some (.ref LB), some (.ref bd1), some (.ref bd2), some (.ref LC), some (.int c), some (.ref p4), some (.int (0 + (j : Int))), some (.ref LO), some (.int (kk : Int)), some (.ref q9), v12] ∧ Same P16 H') ⟨_, rfl, .refl _⟩ (fun i σ H' _ z => by obtain ⟨_, _, u⟩ := z; exact SqT.of (u _ _ e11)) ?_ ?_⟩
        · rintro i x σ Hx hx ⟨v12, rfl, sx⟩
          have uX : ButT PM Ha Hx := (ButT.of sJ).trans (uQ.trans (.of sx))
          have bt : ∃ t, Bt K Hx x t ∧ (t == "list" || t == "tuple") = false := by
            match i, hx with
            | 0, e => have := Option.some.inj e; subst this; exact ⟨_, btNon, by decide⟩
            | 1, e => have := Option.some.inj e; subst this; exact ⟨_, btInt 5, by decide⟩
            | 2, e => have := Option.some.inj e; subst this; exact ⟨_, btStr _, by decide⟩
            | 3, e => have := Option.some.inj e; subst this; exact ⟨_, btDict (sx _ _ e10'), by decide⟩
            | 4, e => have := Option.some.inj e; subst this; exact ⟨_, btBl _, by decide⟩
          obtain ⟨t, bt, nt⟩ := bt
          refine ⟨_, rfl, _, rfl, _, rfl, fault_val (K := K) (CB := CB) (CM := CM) (twoAt _ uX) bt nt (fun u1 Hy sy ey => ⟨1, rfl, two_ok _ _, fun u2 Hz nz sz ez => ⟨_, _, wi_dp (sz _ _ ey), wi_dp ez, wi_shaped strOk_pairs, wi_shaped strOk_pairs, ?_⟩⟩)⟩
          rw [wi_eqv strOk_pairs]
          exact ⟨_, rfl, iteF ⟨_, rfl, sx.trans (sy.trans sz)⟩⟩
        · rintro σ Hx ⟨v12, rfl, sx⟩
          exact ⟨_, _, _, _, _, rfl, uQ.trans (.of sx), tabs_same tQ sx, x4, y4, z4, sx _ _ srcQ⟩
      · rintro σ Hk ⟨v8, v9, v10, v11, v12, rfl, uk, tk, x2, y2, z2, e6⟩
        have uA : ButT PM Ha Hk := (ButT.of sJ).trans uk
        refine ⟨_, rfl, _, rfl, Nat.zero_le _, fun le G1 o1 g1 w1 => ?_⟩
        refine fault_begin (K := K) (CB := CB) (CM := CM) (twoAt _ (uA.trans (.of g1))) (.inl w1) (fun u G2 g2 w2 => ?_)
        refine ⟨one_ok _, fun t G3 o3 g3 w3 => ⟨_, _, w_dp (g3 _ _ w2), w_dp w3, w_shaped strOk_begin, w_shaped strOk_begin, _, rfl, ?_⟩⟩
        rw [w_eqv strOk_begin]
        refine iteF ?_
        have sG : Same Hk G3 := g1.trans (g2.trans g3)
        refine ⟨_, rfl, p4, x2, y2, z2, rfl, sG _ _ e6, tabs_same tk sG, fun x3 y3 z3 G4 bt t4' e7 => ⟨_, rfl, ?_⟩⟩
        refine iteF ?_
        exact ⟨_, _, _, _, _, _, _, rfl, fun b o nb h => bt _ _ (fun z => by rw [z, p4n] at h; cases h) nb (sG _ _ (uk _ _ nb h)), t4'⟩
    · rintro σ Hc ⟨v6, v7, v8, v9, v10, v11, v12, rfl, uc, tc⟩
      have ua : ButT PM Ha Hc := (ButT.of sJ).trans uc
      refine ⟨_, rfl, _, rfl, two_ok _ _, fun q0 G1 o1 g1 w1 => ⟨two_ok _ _, fun q1 G2 o2 g2 w2 => ⟨two_ok _ _, fun q2 G3 o3 g3 w3 => ⟨three_ok _ _ _, fun q3 G4 o4 g4 w4 => ?_⟩⟩⟩⟩
      refine fault_none (K := K) (CB := CB) (CM := CM) (twoAt _ (ua.trans (.of (g1.trans (g2.trans (g3.trans g4)))))) (.inl w4) ⟨rfl, fun i p e => ?_⟩ (fun G5 g5 => ⟨rfl, k _⟩)
      match i, e with
      | 0, e => have := Option.some.inj e; subst this; exact ⟨q0, rfl, .inl (g4 _ _ (g3 _ _ (g2 _ _ w1)))⟩
      | 1, e => have := Option.some.inj e; subst this; exact ⟨q1, rfl, .inr (g4 _ _ (g3 _ _ w2))⟩
      | 2, e => have := Option.some.inj e; subst this; exact ⟨q2, rfl, .inl (g4 _ _ w3)⟩

end
end Mine

set_option maxRecDepth 100000
set_option maxHeartbeats 4000000
namespace Mine
open PySem L2
abbrev veRow : List Value := [.type "ValueError", .type "Exception", .type "BaseException", .type "object"]
def codeHdV (vs : Array Value) : Bool := (match vs.getD 18 .none with | .str _ _ => true | _ => false) && (match vs.getD 7 .none with | .int _ _ => true | _ => false) && (match vs.getD 9 .none with | .bool _ => true | _ => false) && (match vs.getD 10 .none with | .int _ _ => true | _ => false)
theorem codeHd_mk {K : PySem.W.Frag} {c P : Addr} {od : Option Addr} {vs : Array Value} {sl : Array (Option Value)} (l : K.lookup c = some ⟨.type "code", od, .fields vs, sl⟩) (v : vs[11]? = some (.ref P)) (t : codeHdV vs = true) (n : (c != P) = true) : PySem.W.codeHdIn K c P = true := by
  unfold PySem.W.codeHdIn
  rw [l]
  simp only []
  rw [v]
  unfold codeHdV at t
  simp only [Bool.and_eq_true] at t ⊢
  obtain ⟨⟨⟨t1, t2⟩, t3⟩, t4⟩ := t
  exact ⟨⟨⟨⟨⟨by simp, t1⟩, t2⟩, t3⟩, t4⟩, n⟩
/-- what the written part holds of an error class -/
structure Raw (K : PySem.W.Frag) (cA C : Addr) : Prop where
  xL : ∃ nm q N bs sn sub ab col dd m0 m1 m2 m3 m5, K.lookup C = some (excClassObj nm q C N bs [.ref cA, .type "ValueError", .type "Exception", .type "BaseException", .type "object"] true sn sub ab col dd m0 m1 m2 m3 m5 "ValueError.__new__")
  ga : PySem.W.findIn K (.ref C) "__getattribute__" = some (some (.builtin "BaseException.__getattribute__"))
  gg : PySem.W.findIn K (.ref C) "__getattr__" = some none
  ca : PySem.W.findIn K (.ref C) "__class__" = some (some (.builtin "object.__class__"))
  sa : PySem.W.findIn K (.ref C) "__setattr__" = some (some (.builtin "object.__setattr__"))
  ty : PySem.W.typeIn K (.ref C) = some (.type "type")
  hd : PySem.W.hasDictIn K C = true
  kC : PySem.W.keepIn K (.ref C) = true
theorem Raw.mro {K : PySem.W.Frag} {cA C : Addr} (r : Raw K cA C) : ∃ cd : ClassData, PySem.W.clsIn K C = some cd ∧ cd.mro = [.ref C, .ref cA, .type "ValueError", .type "Exception", .type "BaseException", .type "object"] := by
  obtain ⟨nm, q, N, bs, sn, sub, ab, col, dd, m0, m1, m2, m3, m5, hC⟩ := r.xL
  refine ⟨{ name := nm, bases := bs, mro := [.ref C, .ref cA, .type "ValueError", .type "Exception", .type "BaseException", .type "object"], ns := N, qualname := q, hasDict := true, slotNames := sn, subclasses := sub, abstract := ab, collection := col, hasDel := false }, ?_, rfl⟩
  unfold PySem.W.clsIn
  rw [hC] <;> rfl
theorem Raw.sub {K : PySem.W.Frag} {cA C : Addr} (r : Raw K cA C) (b : Value) (hb : ([.ref C, .ref cA, .type "ValueError", .type "Exception", .type "BaseException", .type "object"] : List Value).contains b = true) :
    PySem.W.mroIn K C b = some true := by
  obtain ⟨cd, h1, h2⟩ := r.mro
  show (PySem.W.clsIn K C).bind _ = _
  rw [h1, Option.bind_some, h2]
  show some _ = some true
  rw [hb]
theorem Raw.exc {K : PySem.W.Frag} {cA C : Addr} (r : Raw K cA C) (hn : PySem.W.specialIn K (.builtin "object.__class__") "__get__" = some (some (.builtin "getset_descriptor.__get__"))) (ht : PySem.W.takesIn K (.builtin "object.__class__") = some true) : ExcC K C :=
  ⟨r.ga, r.gg, r.sub _ (by simp [List.contains_cons]), r.hd, r.ca, hn, ht, r.sub _ (by simp [List.contains_cons])⟩
theorem Raw.oex {K : PySem.W.Frag} {cA C : Addr} (r : Raw K cA C) : OexC K C := by
  obtain ⟨nm, q, N, bs, sn, sub, ab, col, dd, m0, m1, m2, m3, m5, hC⟩ := r.xL
  exact ⟨⟨nm, q, N, bs, _, sn, sub, ab, col, dd, m0, m1, m2, m3, m5, hC, by show PySem.HandSPX.refsVE veRow = true; decide +kernel⟩, r.sa, r.sub _ (by simp [List.contains_cons]), r.ty, r.kC⟩
theorem all_mk {l : PySem.W.OpenLaw} {w : World} {K : PySem.W.Frag} {h : Heap} {mg : Str → Option Value} {fa a_is_integer a_is_within a_is_index a_is_row a_is_name a_is_text_in a_are_counts a_are_operations a_in_order a_word_of a_are_nexts a_joined a_stops_of a_rest_of a_rests_from a_nexts_of a_shows_of a_firsts_of a_lines_read a_is_line a_line_of a_begin_of a_both_shown a_pairs_behind a_parting_place a_are_led_together a_leader_of a_straying_place a_told_of a_parted a_walk_of a_pairs a_pairs_fault a_is_pair a_is_rest a_step_fault a_within a_parting_handler a_law_source_of a_law_next a_law_one a_law_mixed a_law_said a_law_mismatch_right a_law fM fB fW fE f_take CA CB CM CE CW DK cM PM : Addr} {fd_is_integer fd_is_within fd_is_index fd_is_row fd_is_name fd_is_text_in fd_are_counts fd_are_operations fd_in_order fd_word_of fd_are_nexts fd_joined fd_stops_of fd_rest_of fd_rests_from fd_nexts_of fd_shows_of fd_firsts_of fd_lines_read fd_is_line fd_line_of fd_begin_of fd_both_shown fd_pairs_behind fd_parting_place fd_are_led_together fd_leader_of fd_straying_place fd_told_of fd_parted fd_walk_of fd_pairs fd_pairs_fault fd_is_pair fd_is_rest fd_step_fault fd_within fd_parting_handler fd_law_source_of fd_law_next fd_law_one fd_law_mixed fd_law_said fd_law_mismatch_right fd_law fdM fdB fdW fdE fd_take : FuncData} {tD tL t1 t2 t3 t4 : Tok} (X : K.In h) (G : h.Ns mainGlobals mg) (hfa : mg "law" = some (.ref fa))
    (g_is_integer : PySem.W.nsIn K mainGlobals "is_integer" = some (some (.ref a_is_integer)))
    (F_is_integer : Fun K "is_integer" "is_integer" s_is_integer a_is_integer fd_is_integer)
    (g_is_within : PySem.W.nsIn K mainGlobals "is_within" = some (some (.ref a_is_within)))
    (F_is_within : Fun K "is_within" "is_within" s_is_within a_is_within fd_is_within)
    (g_is_index : PySem.W.nsIn K mainGlobals "is_index" = some (some (.ref a_is_index)))
    (F_is_index : Fun K "is_index" "is_index" s_is_index a_is_index fd_is_index)
    (g_is_row : PySem.W.nsIn K mainGlobals "is_row" = some (some (.ref a_is_row)))
    (F_is_row : Fun K "is_row" "is_row" s_is_row a_is_row fd_is_row)
    (g_is_name : PySem.W.nsIn K mainGlobals "is_name" = some (some (.ref a_is_name)))
    (F_is_name : Fun K "is_name" "is_name" s_is_name a_is_name fd_is_name)
    (g_is_text_in : PySem.W.nsIn K mainGlobals "is_text_in" = some (some (.ref a_is_text_in)))
    (F_is_text_in : Fun K "is_text_in" "is_text_in" s_is_text_in a_is_text_in fd_is_text_in)
    (g_are_counts : PySem.W.nsIn K mainGlobals "are_counts" = some (some (.ref a_are_counts)))
    (F_are_counts : Fun K "are_counts" "are_counts" s_are_counts a_are_counts fd_are_counts)
    (g_are_operations : PySem.W.nsIn K mainGlobals "are_operations" = some (some (.ref a_are_operations)))
    (F_are_operations : Fun K "are_operations" "are_operations" s_are_operations a_are_operations fd_are_operations)
    (g_in_order : PySem.W.nsIn K mainGlobals "in_order" = some (some (.ref a_in_order)))
    (F_in_order : Fun K "in_order" "in_order" s_in_order a_in_order fd_in_order)
    (g_word_of : PySem.W.nsIn K mainGlobals "word_of" = some (some (.ref a_word_of)))
    (F_word_of : Fun K "word_of" "word_of" s_word_of a_word_of fd_word_of)
    (g_are_nexts : PySem.W.nsIn K mainGlobals "are_nexts" = some (some (.ref a_are_nexts)))
    (F_are_nexts : Fun K "are_nexts" "are_nexts" s_are_nexts a_are_nexts fd_are_nexts)
    (g_joined : PySem.W.nsIn K mainGlobals "joined" = some (some (.ref a_joined)))
    (F_joined : Fun K "joined" "joined" s_joined a_joined fd_joined)
    (g_stops_of : PySem.W.nsIn K mainGlobals "stops_of" = some (some (.ref a_stops_of)))
    (F_stops_of : Fun K "stops_of" "stops_of" s_stops_of a_stops_of fd_stops_of)
    (g_rest_of : PySem.W.nsIn K mainGlobals "rest_of" = some (some (.ref a_rest_of)))
    (F_rest_of : Fun K "rest_of" "rest_of" s_rest_of a_rest_of fd_rest_of)
    (g_rests_from : PySem.W.nsIn K mainGlobals "rests_from" = some (some (.ref a_rests_from)))
    (F_rests_from : Fun K "rests_from" "rests_from" s_rests_from a_rests_from fd_rests_from)
    (g_nexts_of : PySem.W.nsIn K mainGlobals "nexts_of" = some (some (.ref a_nexts_of)))
    (F_nexts_of : Fun K "nexts_of" "nexts_of" s_nexts_of a_nexts_of fd_nexts_of)
    (g_shows_of : PySem.W.nsIn K mainGlobals "shows_of" = some (some (.ref a_shows_of)))
    (F_shows_of : Fun K "shows_of" "shows_of" s_shows_of a_shows_of fd_shows_of)
    (g_firsts_of : PySem.W.nsIn K mainGlobals "firsts_of" = some (some (.ref a_firsts_of)))
    (F_firsts_of : Fun K "firsts_of" "firsts_of" s_firsts_of a_firsts_of fd_firsts_of)
    (g_lines_read : PySem.W.nsIn K mainGlobals "lines_read" = some (some (.ref a_lines_read)))
    (F_lines_read : Fun K "lines_read" "lines_read" s_lines_read a_lines_read fd_lines_read)
    (g_is_line : PySem.W.nsIn K mainGlobals "is_line" = some (some (.ref a_is_line)))
    (F_is_line : Fun K "is_line" "is_line" s_is_line a_is_line fd_is_line)
    (g_line_of : PySem.W.nsIn K mainGlobals "line_of" = some (some (.ref a_line_of)))
    (F_line_of : Fun K "line_of" "line_of" s_line_of a_line_of fd_line_of)
    (g_begin_of : PySem.W.nsIn K mainGlobals "begin_of" = some (some (.ref a_begin_of)))
    (F_begin_of : Fun K "begin_of" "begin_of" s_begin_of a_begin_of fd_begin_of)
    (g_both_shown : PySem.W.nsIn K mainGlobals "both_shown" = some (some (.ref a_both_shown)))
    (F_both_shown : Fun K "both_shown" "both_shown" s_both_shown a_both_shown fd_both_shown)
    (g_pairs_behind : PySem.W.nsIn K mainGlobals "pairs_behind" = some (some (.ref a_pairs_behind)))
    (F_pairs_behind : Fun K "pairs_behind" "pairs_behind" s_pairs_behind a_pairs_behind fd_pairs_behind)
    (g_parting_place : PySem.W.nsIn K mainGlobals "parting_place" = some (some (.ref a_parting_place)))
    (F_parting_place : Fun K "parting_place" "parting_place" s_parting_place a_parting_place fd_parting_place)
    (g_are_led_together : PySem.W.nsIn K mainGlobals "are_led_together" = some (some (.ref a_are_led_together)))
    (F_are_led_together : Fun K "are_led_together" "are_led_together" s_are_led_together a_are_led_together fd_are_led_together)
    (g_leader_of : PySem.W.nsIn K mainGlobals "leader_of" = some (some (.ref a_leader_of)))
    (F_leader_of : Fun K "leader_of" "leader_of" s_leader_of a_leader_of fd_leader_of)
    (g_straying_place : PySem.W.nsIn K mainGlobals "straying_place" = some (some (.ref a_straying_place)))
    (F_straying_place : Fun K "straying_place" "straying_place" s_straying_place a_straying_place fd_straying_place)
    (g_told_of : PySem.W.nsIn K mainGlobals "told_of" = some (some (.ref a_told_of)))
    (F_told_of : Fun K "told_of" "told_of" s_told_of a_told_of fd_told_of)
    (g_parted : PySem.W.nsIn K mainGlobals "parted" = some (some (.ref a_parted)))
    (F_parted : Fun K "parted" "parted" s_parted a_parted fd_parted)
    (g_walk_of : PySem.W.nsIn K mainGlobals "walk_of" = some (some (.ref a_walk_of)))
    (F_walk_of : Fun K "walk_of" "walk_of" s_walk_of a_walk_of fd_walk_of)
    (g_pairs : PySem.W.nsIn K mainGlobals "pairs" = some (some (.ref a_pairs)))
    (F_pairs : Fun K "pairs" "pairs" s_pairs a_pairs fd_pairs)
    (g_pairs_fault : PySem.W.nsIn K mainGlobals "pairs_fault" = some (some (.ref a_pairs_fault)))
    (F_pairs_fault : Fun K "pairs_fault" "pairs_fault" s_pairs_fault a_pairs_fault fd_pairs_fault)
    (g_is_pair : PySem.W.nsIn K mainGlobals "is_pair" = some (some (.ref a_is_pair)))
    (F_is_pair : Fun K "is_pair" "is_pair" s_is_pair a_is_pair fd_is_pair)
    (g_is_rest : PySem.W.nsIn K mainGlobals "is_rest" = some (some (.ref a_is_rest)))
    (F_is_rest : Fun K "is_rest" "is_rest" s_is_rest a_is_rest fd_is_rest)
    (g_step_fault : PySem.W.nsIn K mainGlobals "step_fault" = some (some (.ref a_step_fault)))
    (F_step_fault : Fun K "step_fault" "step_fault" s_step_fault a_step_fault fd_step_fault)
    (g_within : PySem.W.nsIn K mainGlobals "within" = some (some (.ref a_within)))
    (F_within : Fun K "within" "within" s_within a_within fd_within)
    (g_parting_handler : PySem.W.nsIn K mainGlobals "parting_handler" = some (some (.ref a_parting_handler)))
    (F_parting_handler : Fun K "parting_handler" "parting_handler" s_parting_handler a_parting_handler fd_parting_handler)
    (g_law_source_of : PySem.W.nsIn K mainGlobals "_law_source_of" = some (some (.ref a_law_source_of)))
    (F_law_source_of : Fun K "_law_source_of" "_law_source_of" sSrc a_law_source_of fd_law_source_of)
    (g_law_next : PySem.W.nsIn K mainGlobals "_law_next" = some (some (.ref a_law_next)))
    (F_law_next : Fun K "_law_next" "_law_next" sNext a_law_next fd_law_next)
    (g_law_one : PySem.W.nsIn K mainGlobals "_law_one" = some (some (.ref a_law_one)))
    (F_law_one : Fun K "_law_one" "_law_one" sOne a_law_one fd_law_one)
    (g_law_mixed : PySem.W.nsIn K mainGlobals "_law_mixed" = some (some (.ref a_law_mixed)))
    (F_law_mixed : Fun K "_law_mixed" "_law_mixed" s_mixed a_law_mixed fd_law_mixed)
    (g_law_said : PySem.W.nsIn K mainGlobals "_law_said" = some (some (.ref a_law_said)))
    (F_law_said : Fun K "_law_said" "_law_said" s_said a_law_said fd_law_said)
    (g_law_mismatch_right : PySem.W.nsIn K mainGlobals "_law_mismatch_right" = some (some (.ref a_law_mismatch_right)))
    (F_law_mismatch_right : LamB.FunC K "_law_mismatch_right" "_law_mismatch_right" s_mm a_law_mismatch_right fd_law_mismatch_right cM)
    (g_law : PySem.W.nsIn K mainGlobals "law" = some (some (.ref a_law)))
    (F_law : Fun K "law" "law" s_law a_law fd_law)
    (gc_AskError : PySem.W.nsIn K mainGlobals "AskError" = some (some (.ref CA)))
    (gc_Mismatch : PySem.W.nsIn K mainGlobals "Mismatch" = some (some (.ref CE)))
    (gc_Body : PySem.W.nsIn K mainGlobals "Body" = some (some (.ref CB)))
    (gc_Machine : PySem.W.nsIn K mainGlobals "Machine" = some (some (.ref CM)))
    (gc_Walk : PySem.W.nsIn K mainGlobals "Walk" = some (some (.ref CW)))
    (clB : Cls K CB)
    (mkB : PySem.W.makesIn K CB = true)
    (inB : PySem.W.findIn K (.ref CB) "__init__" = some (some (.ref fB)))
    (fnB : PySem.W.isFn K (.ref fB) = true)
    (kpB : PySem.W.keepIn K (.ref CB) = true)
    (clM : Cls K CM)
    (mkM : PySem.W.makesIn K CM = true)
    (inM : PySem.W.findIn K (.ref CM) "__init__" = some (some (.ref fM)))
    (fnM : PySem.W.isFn K (.ref fM) = true)
    (kpM : PySem.W.keepIn K (.ref CM) = true)
    (clW : Cls K CW)
    (mkW : PySem.W.makesIn K CW = true)
    (inW : PySem.W.findIn K (.ref CW) "__init__" = some (some (.ref fW)))
    (fnW : PySem.W.isFn K (.ref fW) = true)
    (kpW : PySem.W.keepIn K (.ref CW) = true)
    (FM : Fun K "__init__" "Machine.__init__" s_mach fM fdM)
    (FW : Fun K "__init__" "Walk.__init__" s_walk_init fW fdW)
    (at_take : PySem.W.findIn K (.ref CW) "take" = some (some (.ref f_take)))
    (rH : Raw K CA CE)
    (iH : PySem.W.findIn K (.ref CE) "__init__" = some (some (.ref fE)))
    (tH : PySem.W.typeIn K (.ref fE) = some (.type "function"))
    (nH : PySem.W.findIn K (.ref CE) "operation" = some none)
    (FE : Fun K "__init__" "Mismatch.__init__" s_i_Mismatch fE fdE)
    (sbA : PySem.W.subIn K (.ref CA) (.type "BaseException") = some true)
    (hdA : PySem.W.hasDictIn K CA = true)
    (tyA : PySem.W.typeIn K (.ref CA) = some (.type "type"))
    (hn : PySem.W.specialIn K (.builtin "object.__class__") "__get__" = some (some (.builtin "getset_descriptor.__get__")))
    (ht : PySem.W.takesIn K (.builtin "object.__class__") = some true)
    (hPM : PySem.W.codeHdIn K cM PM = true)
    (nPM : K.lookup PM = none)
    (FT : Fun K "take" "Walk.take" s_walk_take f_take fd_take)
    (fn_take : PySem.W.isFn K (.ref f_take) = true)
    (FB : ∃ (oc : Value) (od : Option Addr) (doc pm : Value) (an : Option Addr) (cdv ct : Value) (osl : Array (Option Value)), fdB = PySem.W.fnOf "__init__" "Body.__init__" (defArgs s_body) (defBody s_body) (defScope s_body) .none (.ref DK) doc pm an cdv ct ∧ K.lookup fB = some ⟨oc, od, .func fdB, osl⟩ ∧ PySem.W.codeIn K cdv "Body.__init__" = true)
    (kfB : PySem.W.keepIn K (.ref fB) = true)
    (nsD : PySem.W.nsIn K DK "start" = some (some (.int 0 tD)))
    (nm_counts : NoAttr K CM "counts")
    (nm_lines : NoAttr K CM "lines")
    (nm_begin : NoAttr K CM "begin")
    (nm_stops : NoAttr K CM "stops")
    (nm_asks : NoAttr K CM "asks")
    (nm_endings : NoAttr K CM "endings")
    (nm_endless : NoAttr K CM "endless")
    (nb_machine : NoAttr K CB "machine")
    (nw_one : NoAttr K CW "one")
    (nw_other : NoAttr K CW "other")
    (nw_met : NoAttr K CW "met")
    (nw_origins : NoAttr K CW "origins")
    (z_int : PySem.W.nsIn K mainGlobals "int" = some none)
    (z_isinstance : PySem.W.nsIn K mainGlobals "isinstance" = some none)
    (z_bool : PySem.W.nsIn K mainGlobals "bool" = some none)
    (z_str : PySem.W.nsIn K mainGlobals "str" = some none)
    (z_list : PySem.W.nsIn K mainGlobals "list" = some none)
    (z_tuple : PySem.W.nsIn K mainGlobals "tuple" = some none)
    (z_dict : PySem.W.nsIn K mainGlobals "dict" = some none)
    (z_len : PySem.W.nsIn K mainGlobals "len" = some none)
    (z_all : PySem.W.nsIn K mainGlobals "all" = some none)
    (z_range : PySem.W.nsIn K mainGlobals "range" = some none)
    (z_sorted : PySem.W.nsIn K mainGlobals "sorted" = some none)
    (z_min : PySem.W.nsIn K mainGlobals "min" = some none)
    (z_enumerate : PySem.W.nsIn K mainGlobals "enumerate" = some none)
    (z_zip : PySem.W.nsIn K mainGlobals "zip" = some none)
    (cLET : PySem.W.nsIn K mainGlobals "LETTERS" = some (some (.str lettersS tL)))
    (c_LONGEST_NAME : PySem.W.nsIn K mainGlobals "LONGEST_NAME" = some (some (.int 8 t1)))
    (c_MOST_OPERATIONS : PySem.W.nsIn K mainGlobals "MOST_OPERATIONS" = some (some (.int 8 t2)))
    (c_MOST_ANSWERS : PySem.W.nsIn K mainGlobals "MOST_ANSWERS" = some (some (.int 6 t3)))
    (c_MOST_ROWS : PySem.W.nsIn K mainGlobals "MOST_ROWS" = some (some (.int 400 t4)))
    (hT : h.get? PM = some { cls := .none, data := .fields #[] }) : LamX.LawAtS l w K CX0 10 63 "_law_script" mg fa h := by
  have e := hfa.symm.trans (PySem.W.mg_of X G g_law)
  cases e
  obtain ⟨oc, od, doc, pm, an, cdv, ct, osl, eB, lB, cB⟩ := FB
  have FB1 : Fun K "__init__" "Body.__init__" s_body fB fdB := ⟨⟨oc, od, .ref DK, doc, pm, an, cdv, ct, osl, eB, lB, cB⟩, kfB⟩
  have FDB : FunD K "__init__" "Body.__init__" (defArgs s_body) (defBody s_body) (defScope s_body) [] [("start", V.int 0)] fB fdB := ⟨⟨oc, od, .none, .ref DK, doc, pm, an, cdv, ct, osl, eB, lB, cB, .inl ⟨rfl, rfl⟩, .inr ⟨DK, rfl, fun q hq => by
    rw [List.mem_singleton.mp hq]
    exact ⟨_, nsD, ⟨_, rfl⟩⟩⟩⟩, kfB⟩
  obtain ⟨ds, hds, bB0⟩ := FDB.binds0 (ps := PB) 3 (by simp) rfl fun D doc pm an cdv ct us ks l1 l2 => match us, ks, l1, l2 with | [_, _, _], [_], _, _ => ⟨_, _, _, _, _, _, rfl, rfl, rfl⟩
  have T : TxtF K mg a_is_integer a_is_within := ⟨(PySem.W.mg_none_of X G z_isinstance), (PySem.W.mg_none_of X G z_int), (PySem.W.mg_none_of X G z_bool), (PySem.W.mg_none_of X G z_str), (PySem.W.mg_none_of X G z_list), (PySem.W.mg_none_of X G z_tuple), (PySem.W.mg_none_of X G z_dict), (PySem.W.mg_none_of X G z_len), (PySem.W.mg_none_of X G z_all), ⟨_, PySem.W.mg_of X G cLET⟩, ⟨_, PySem.W.mg_of X G c_LONGEST_NAME⟩, (PySem.W.mg_of X G g_is_integer), F_is_integer.kp, (PySem.W.mg_of X G g_is_within), F_is_within.kp⟩
  have TG : TxtG K mg a_is_row a_is_index a_is_name a_is_text_in a_are_counts a_word_of a_are_nexts a_is_line a_line_of a_are_operations := ⟨⟨_, PySem.W.mg_of X G c_MOST_OPERATIONS⟩, ⟨_, PySem.W.mg_of X G c_MOST_ANSWERS⟩, (PySem.W.mg_of X G g_is_row), F_is_row.kp, (PySem.W.mg_of X G g_is_index), F_is_index.kp, (PySem.W.mg_of X G g_is_name), F_is_name.kp, (PySem.W.mg_of X G g_is_text_in), F_is_text_in.kp, (PySem.W.mg_of X G g_are_counts), F_are_counts.kp, (PySem.W.mg_of X G g_word_of), F_word_of.kp, (PySem.W.mg_of X G g_are_nexts), F_are_nexts.kp, (PySem.W.mg_of X G g_is_line), F_is_line.kp, (PySem.W.mg_of X G g_line_of), F_line_of.kp, (PySem.W.mg_of X G g_are_operations), F_are_operations.kp⟩
  have TD : TxtD K mg a_law_next := ⟨(PySem.W.mg_none_of X G z_int), (PySem.W.mg_none_of X G z_len), (PySem.W.mg_of X G g_law_next), F_law_next.kp⟩
  have TM : MachC K CM := ⟨clM, nm_counts, nm_lines, nm_begin, nm_stops, nm_asks, nm_endings, nm_endless⟩
  have TB : BodyC K CB := ⟨clB, nb_machine⟩
  have TW : WalkC K CW := ⟨clW, nw_one, nw_other, nw_met, nw_origins⟩
  have kB : KBn K fdB PB (2 + 1) KS (fun us ws => us ++ ws) (fun vs zs => vs ++ zs) := bindB fun a b c d => by
    rw [eB]
    rfl
  have EN : ErrC K CE fE := ⟨rH.oex, iH, tH⟩
  have XH : XfC K CE := ⟨rH.ga, rH.gg, rH.sub _ (by simp [List.contains_cons]), rH.hd⟩
  have TH : ExcC K CE := rH.exc hn ht
  have eP : PySem.W.exmOne K (.ref CE) (.ref CA) = some true := PySem.W.exm_ref sbA hdA tyA (rH.sub _ (by simp [List.contains_cons]))
  have kH : PySem.W.kitOne K (.ref CE) (.ref CE) = some true := by
    unfold PySem.W.kitOne
    simp
  refine ⟨fd_law, [(cM, PM)], spLaw24 K PM, fun p hp => by rw [List.mem_singleton.mp hp]; exact hT, fun p hp => by rw [List.mem_singleton.mp hp]; exact nPM, fun p hp => by rw [List.mem_singleton.mp hp]; exact PySem.W.codeHd_of_K X hPM, fun s v => ?_, fun H a ns hl _ hH hS => ⟨a, ns, rfl, hS, hl, fun p hp => by rw [List.mem_singleton.mp hp]; exact LamX.TabS.nil (hH _ List.mem_cons_self), fun _ => rfl⟩, fun base _ _ tb => ?_⟩
  · obtain ⟨_, _, _, _, _, _, _, _, _, rfl, _, _⟩ := F_law.ex
    exact .of_eq rfl
  · have TBm := tb _ List.mem_cons_self
    have G_is_integer : FnOk l.prog w K mg base CX0 1 a_is_integer fd_is_integer ["thing"] (spInt K) := ok_is_integer F_is_integer T
    have G_is_index : FnOk l.prog w K mg base CX0 3 a_is_index fd_is_index ["thing", "many"] (spIndex K) := ok_is_index F_is_index T F_is_integer (F_is_integer.binds (ps := ["thing"]) fun _ _ _ _ _ _ us hl => match us, hl with | [_], _ => rfl) F_is_within (F_is_within.binds (ps := ["thing", "low", "high"]) fun _ _ _ _ _ _ us hl => match us, hl with | [_, _, _], _ => rfl)
    have G_is_row : FnOk l.prog w K mg base CX0 1 a_is_row fd_is_row ["thing"] (spIsRow K) := ok_is_row F_is_row T
    have G_is_name : FnOk l.prog w K mg base CX0 1 a_is_name fd_is_name ["thing"] (spName K) := ok_is_name F_is_name T
    have G_is_text_in : FnOk l.prog w K mg base CX0 1 a_is_text_in fd_is_text_in ["thing", "table"] (spTextIn K) := ok_is_text_in F_is_text_in T
    have G_are_counts : FnOk l.prog w K mg base CX0 3 a_are_counts fd_are_counts ["thing", "most", "low", "high"] spCounts := ok_are_counts F_are_counts T TG F_is_name (F_is_name.binds (ps := ["thing"]) fun _ _ _ _ _ _ us hl => match us, hl with | [_], _ => rfl) F_is_integer (F_is_integer.binds (ps := ["thing"]) fun _ _ _ _ _ _ us hl => match us, hl with | [_], _ => rfl) F_is_within (F_is_within.binds (ps := ["thing", "low", "high"]) fun _ _ _ _ _ _ us hl => match us, hl with | [_, _, _], _ => rfl)
    have G_are_operations : FnOk l.prog w K mg base CX0 4 a_are_operations fd_are_operations ["thing"] spOps := ok_are_operations F_are_operations TG G_are_counts (F_are_counts.binds (ps := ["thing", "most", "low", "high"]) fun _ _ _ _ _ _ us hl => match us, hl with | [_, _, _, _], _ => rfl)
    have G_word_of : FnOk l.prog w K mg base CX0 2 a_word_of fd_word_of ["row"] spWord := ok_word_of F_word_of T TG G_is_row (F_is_row.binds (ps := ["thing"]) fun _ _ _ _ _ _ us hl => match us, hl with | [_], _ => rfl)
    have G_are_nexts : FnOk l.prog w K mg base CX0 4 a_are_nexts fd_are_nexts ["nexts", "operation", "counts", "many"] spNexts := ok_are_nexts F_are_nexts T TG G_is_row (F_is_row.binds (ps := ["thing"]) fun _ _ _ _ _ _ us hl => match us, hl with | [_], _ => rfl) G_is_index (F_is_index.binds (ps := ["thing", "many"]) fun _ _ _ _ _ _ us hl => match us, hl with | [_, _], _ => rfl)
    have G_is_line : FnOk l.prog w K mg base CX0 5 a_is_line fd_is_line ["row", "counts", "many"] spIsLine := ok_is_line F_is_line T TG G_word_of (F_word_of.binds (ps := ["row"]) fun _ _ _ _ _ _ us hl => match us, hl with | [_], _ => rfl) G_is_text_in (F_is_text_in.binds (ps := ["thing", "table"]) fun _ _ _ _ _ _ us hl => match us, hl with | [_, _], _ => rfl) G_are_nexts (F_are_nexts.binds (ps := ["nexts", "operation", "counts", "many"]) fun _ _ _ _ _ _ us hl => match us, hl with | [_, _, _, _], _ => rfl) G_is_name (F_is_name.binds (ps := ["thing"]) fun _ _ _ _ _ _ us hl => match us, hl with | [_], _ => rfl) G_is_index (F_is_index.binds (ps := ["thing", "many"]) fun _ _ _ _ _ _ us hl => match us, hl with | [_, _], _ => rfl)
    have G_line_of : FnOk l.prog w K mg base CX0 1 a_line_of fd_line_of ["row"] spLineOf := ok_line_of F_line_of T
    have G_rest_of : FnOk l.prog w K mg base CX0 1 a_rest_of fd_rest_of ["trail", "at"] (spRest K) := ok_rest_of F_rest_of (PySem.W.mg_none_of X G z_min)
    have G_stops_of : FnOk l.prog w K mg base CX0 2 a_stops_of fd_stops_of ["lines"] spStops := ok_stops_of F_stops_of T (PySem.W.mg_none_of X G z_range) G_rest_of (F_rest_of.binds (ps := ["trail", "at"]) fun _ _ _ _ _ _ us hl => match us, hl with | [_, _], _ => rfl) (PySem.W.mg_of X G g_rest_of) F_rest_of.kp
    have G_nexts_of : FnOk l.prog w K mg base CX0 1 a_nexts_of fd_nexts_of ["line"] spNextsOf := ok_nexts_of F_nexts_of
    have G_rests_from : FnOk l.prog w K mg base CX0 2 a_rests_from fd_rests_from ["lines", "stops", "begin"] spRests := ok_rests_from F_rests_from T G_nexts_of (F_nexts_of.binds (ps := ["line"]) fun _ _ _ _ _ _ us hl => match us, hl with | [_], _ => rfl) (PySem.W.mg_of X G g_nexts_of) F_nexts_of.kp
    have G_in_order : FnOk l.prog w K mg base CX0 1 a_in_order fd_in_order ["table"] spOrder := ok_in_order F_in_order (PySem.W.mg_none_of X G z_sorted)
    have G_firsts_of : FnOk l.prog w K mg base CX0 1 a_firsts_of fd_firsts_of ["lines", "word"] spFirsts := ok_firsts_of F_firsts_of (PySem.W.mg_none_of X G z_sorted)
    have G_mach : FnOk l.prog w K mg base CX0 3 fM fdM ["self", "counts", "lines", "begin"] (spMach CM) := ok_mach FM TM G_rests_from (F_rests_from.binds (ps := ["lines", "stops", "begin"]) fun _ _ _ _ _ _ us hl => match us, hl with | [_, _, _], _ => rfl) (PySem.W.mg_of X G g_rests_from) F_rests_from.kp G_stops_of (F_stops_of.binds (ps := ["lines"]) fun _ _ _ _ _ _ us hl => match us, hl with | [_], _ => rfl) (PySem.W.mg_of X G g_stops_of) F_stops_of.kp G_firsts_of (F_firsts_of.binds (ps := ["lines", "word"]) fun _ _ _ _ _ _ us hl => match us, hl with | [_, _], _ => rfl) (PySem.W.mg_of X G g_firsts_of) F_firsts_of.kp
    have G_lines_read : FnOk l.prog w K mg base CX0 6 a_lines_read fd_lines_read ["rows", "counts"] spRead := ok_lines_read F_lines_read T TG (PySem.W.mg_none_of X G z_enumerate) (PySem.W.mg_of X G c_MOST_ROWS) G_is_row (F_is_row.binds (ps := ["thing"]) fun _ _ _ _ _ _ us hl => match us, hl with | [_], _ => rfl) G_is_line (F_is_line.binds (ps := ["row", "counts", "many"]) fun _ _ _ _ _ _ us hl => match us, hl with | [_, _, _], _ => rfl) G_line_of (F_line_of.binds (ps := ["row"]) fun _ _ _ _ _ _ us hl => match us, hl with | [_], _ => rfl)
    have MM : Mk K CM fM := ⟨mkM, inM, fnM, kpM⟩
    have MB : Mk K CB fB := ⟨mkB, inB, fnB, kpB⟩
    have MW : Mk K CW fW := ⟨mkW, inW, fnW, kpW⟩
    have GB : FnOk l.prog w K mg base CX0 7 fB fdB PB (spBody CB CM) := ok_body FB1 T TG TB G_are_operations (F_are_operations.binds (ps := ["thing"]) fun _ _ _ _ _ _ us hl => match us, hl with | [_], _ => rfl) G_lines_read (F_lines_read.binds (ps := ["rows", "counts"]) fun _ _ _ _ _ _ us hl => match us, hl with | [_, _], _ => rfl) (PySem.W.mg_of X G g_lines_read) F_lines_read.kp G_is_index (F_is_index.binds (ps := ["thing", "many"]) fun _ _ _ _ _ _ us hl => match us, hl with | [_, _], _ => rfl) G_in_order (F_in_order.binds (ps := ["table"]) fun _ _ _ _ _ _ us hl => match us, hl with | [_], _ => rfl) (PySem.W.mg_of X G g_in_order) F_in_order.kp MM G_mach (FM.binds (ps := ["self", "counts", "lines", "begin"]) fun _ _ _ _ _ _ us hl => match us, hl with | [_, _, _, _], _ => rfl) (PySem.W.mg_of X G gc_Machine)
    have G_law_source_of : FnOk l.prog w K mg base CX0 1 a_law_source_of fd_law_source_of ["_law_cell"] spSrc := ok_src F_law_source_of TD
    have G_law_next : FnOk l.prog w K mg base CX0 1 a_law_next fd_law_next ["_law_source", "_law_many"] spNext := ok_next F_law_next TD
    have G_law_mixed : FnOk l.prog w K mg base CX0 2 a_law_mixed fd_law_mixed ["_law_source", "_law_some"] spMixed := ok_mixed F_law_mixed T G_law_next (F_law_next.binds (ps := ["_law_source", "_law_many"]) fun _ _ _ _ _ _ us hl => match us, hl with | [_, _], _ => rfl) (PySem.W.mg_of X G g_law_next) F_law_next.kp
    have G_shows_of : FnOk l.prog w K mg base CX0 1 a_shows_of fd_shows_of ["line"] spShows := ok_shows_of F_shows_of
    have G_leader_of : FnOk l.prog w K mg base CX0 1 a_leader_of fd_leader_of ["leaders", "thing"] spLeader := ok_leader_of F_leader_of
    have G_are_led_together : FnOk l.prog w K mg base CX0 2 a_are_led_together fd_are_led_together ["leaders", "one", "other"] spLed := ok_led F_are_led_together G_leader_of (F_leader_of.binds (ps := ["leaders", "thing"]) fun _ _ _ _ _ _ us hl => match us, hl with | [_, _], _ => rfl) (PySem.W.mg_of X G g_leader_of) F_leader_of.kp
    have G_begin_of : FnOk l.prog w K mg base CX0 1 a_begin_of fd_begin_of ["one", "other"] (spBegin CM) := ok_begin_of F_begin_of TM
    have G_both_shown : FnOk l.prog w K mg base CX0 2 a_both_shown fd_both_shown ["one", "other", "pair"] (spBoth CM) := ok_both_shown F_both_shown TM G_shows_of (F_shows_of.binds (ps := ["line"]) fun _ _ _ _ _ _ us hl => match us, hl with | [_], _ => rfl) (PySem.W.mg_of X G g_shows_of) F_shows_of.kp
    have G_pairs_behind : FnOk l.prog w K mg base CX0 2 a_pairs_behind fd_pairs_behind ["one", "other", "pair"] (spBehind CM) := ok_pairs_behind F_pairs_behind TM (PySem.W.mg_none_of X G z_zip) G_nexts_of (F_nexts_of.binds (ps := ["line"]) fun _ _ _ _ _ _ us hl => match us, hl with | [_], _ => rfl) (PySem.W.mg_of X G g_nexts_of) F_nexts_of.kp
    have GW : FnOk l.prog w K mg base CX0 1 fW fdW ["self", "one", "other", "begin"] (spWInit CW) := ok_walk_init FW TW
    have GT : FnOk l.prog w K mg base CX0 1 f_take fd_take ["self", "pair", "number", "answer"] (spTake CW) := ok_walk_take FT TW
    have G_parting_place : FnOk l.prog w K mg base CX0 3 a_parting_place fd_parting_place ["walk"] (spPart CW CM) := ok_parting_place F_parting_place T TM TW (PySem.W.mg_none_of X G z_range) (PySem.W.mg_none_of X G z_enumerate) G_are_led_together (F_are_led_together.binds (ps := ["leaders", "one", "other"]) fun _ _ _ _ _ _ us hl => match us, hl with | [_, _, _], _ => rfl) (PySem.W.mg_of X G g_are_led_together) F_are_led_together.kp G_both_shown (F_both_shown.binds (ps := ["one", "other", "pair"]) fun _ _ _ _ _ _ us hl => match us, hl with | [_, _, _], _ => rfl) (PySem.W.mg_of X G g_both_shown) F_both_shown.kp G_pairs_behind (F_pairs_behind.binds (ps := ["one", "other", "pair"]) fun _ _ _ _ _ _ us hl => match us, hl with | [_, _, _], _ => rfl) (PySem.W.mg_of X G g_pairs_behind) F_pairs_behind.kp GT (FT.binds (ps := ["self", "pair", "number", "answer"]) fun _ _ _ _ _ _ us hl => match us, hl with | [_, _, _, _], _ => rfl) ⟨at_take, fn_take, FT.kp⟩
    have G_straying_place : FnOk l.prog w K mg base CX0 3 a_straying_place fd_straying_place ["walk"] (spStray CW CM) := ok_straying_place F_straying_place T TM TW (PySem.W.mg_none_of X G z_enumerate) G_both_shown (F_both_shown.binds (ps := ["one", "other", "pair"]) fun _ _ _ _ _ _ us hl => match us, hl with | [_, _, _], _ => rfl) (PySem.W.mg_of X G g_both_shown) F_both_shown.kp G_pairs_behind (F_pairs_behind.binds (ps := ["one", "other", "pair"]) fun _ _ _ _ _ _ us hl => match us, hl with | [_, _, _], _ => rfl) (PySem.W.mg_of X G g_pairs_behind) F_pairs_behind.kp GT (FT.binds (ps := ["self", "pair", "number", "answer"]) fun _ _ _ _ _ _ us hl => match us, hl with | [_, _, _, _], _ => rfl) ⟨at_take, fn_take, FT.kp⟩
    have G_told_of : FnOk l.prog w K mg base CX0 1 a_told_of fd_told_of ["walk", "number"] spTold := ok_told_of F_told_of
    have G_joined : FnOk l.prog w K mg base CX0 2 a_joined fd_joined ["tables"] spJoined := ok_joined F_joined G_in_order (F_in_order.binds (ps := ["table"]) fun _ _ _ _ _ _ us hl => match us, hl with | [_], _ => rfl) (PySem.W.mg_of X G g_in_order) F_in_order.kp
    have G_walk_of : FnOk l.prog w K mg base CX0 3 a_walk_of fd_walk_of ["one", "other"] (spWalkOf CB CM CW) := ok_walk_of F_walk_of TB TM G_joined (F_joined.binds (ps := ["tables"]) fun _ _ _ _ _ _ us hl => match us, hl with | [_], _ => rfl) (PySem.W.mg_of X G g_joined) F_joined.kp G_begin_of (F_begin_of.binds (ps := ["one", "other"]) fun _ _ _ _ _ _ us hl => match us, hl with | [_, _], _ => rfl) (PySem.W.mg_of X G g_begin_of) F_begin_of.kp MW GW (FW.binds (ps := ["self", "one", "other", "begin"]) fun _ _ _ _ _ _ us hl => match us, hl with | [_, _, _, _], _ => rfl) (PySem.W.mg_of X G gc_Walk)
    have G_parted : FnOk l.prog w K mg base CX0 4 a_parted fd_parted ["one", "other"] (spParted CB CM) := ok_parted F_parted G_walk_of (F_walk_of.binds (ps := ["one", "other"]) fun _ _ _ _ _ _ us hl => match us, hl with | [_, _], _ => rfl) (PySem.W.mg_of X G g_walk_of) F_walk_of.kp G_parting_place (F_parting_place.binds (ps := ["walk"]) fun _ _ _ _ _ _ us hl => match us, hl with | [_], _ => rfl) (PySem.W.mg_of X G g_parting_place) F_parting_place.kp G_told_of (F_told_of.binds (ps := ["walk", "number"]) fun _ _ _ _ _ _ us hl => match us, hl with | [_, _], _ => rfl) (PySem.W.mg_of X G g_told_of) F_told_of.kp
    have G_pairs : FnOk l.prog w K mg base CX0 5 a_pairs fd_pairs ["one", "other"] (spPairs CB CM) := ok_pairs F_pairs TW (PySem.W.mg_none_of X G z_sorted) G_walk_of (F_walk_of.binds (ps := ["one", "other"]) fun _ _ _ _ _ _ us hl => match us, hl with | [_, _], _ => rfl) (PySem.W.mg_of X G g_walk_of) F_walk_of.kp G_straying_place (F_straying_place.binds (ps := ["walk"]) fun _ _ _ _ _ _ us hl => match us, hl with | [_], _ => rfl) (PySem.W.mg_of X G g_straying_place) F_straying_place.kp G_parted (F_parted.binds (ps := ["one", "other"]) fun _ _ _ _ _ _ us hl => match us, hl with | [_, _], _ => rfl) (PySem.W.mg_of X G g_parted) F_parted.kp
    have G_law_one : FnOk l.prog w K mg base CX0 2 a_law_one fd_law_one ["_law_source", "_law_some"] spOne := ok_one F_law_one TD F_law_next (F_law_next.binds (ps := ["_law_source", "_law_many"]) fun _ _ _ _ _ _ us hl => match us, hl with | [_, _], _ => rfl)
    have G_is_rest : FnOk l.prog w K mg base CX0 4 a_is_rest fd_is_rest ["thing", "machine"] (spIsRest K CM) := ok_is_rest F_is_rest T TG TM G_is_index (F_is_index.binds (ps := ["thing", "many"]) fun _ _ _ _ _ _ us hl => match us, hl with | [_, _], _ => rfl)
    have G_is_pair : FnOk l.prog w K mg base CX0 5 a_is_pair fd_is_pair ["thing", "one", "other"] (spIsPair K CM) := ok_is_pair F_is_pair T TG G_is_row (F_is_row.binds (ps := ["thing"]) fun _ _ _ _ _ _ us hl => match us, hl with | [_], _ => rfl) G_is_rest (F_is_rest.binds (ps := ["thing", "machine"]) fun _ _ _ _ _ _ us hl => match us, hl with | [_, _], _ => rfl) (PySem.W.mg_of X G g_is_rest) F_is_rest.kp
    have G_both_shownA : FnOk l.prog w K mg base CX0 2 a_both_shown fd_both_shown ["one", "other", "pair"] (spBothA CM) := ok_both_shownA F_both_shown TM G_shows_of (F_shows_of.binds (ps := ["line"]) fun _ _ _ _ _ _ us hl => match us, hl with | [_], _ => rfl) (PySem.W.mg_of X G g_shows_of) F_shows_of.kp
    have G_pairs_behindA : FnOk l.prog w K mg base CX0 2 a_pairs_behind fd_pairs_behind ["one", "other", "pair"] (spBehindA CM) := ok_pairs_behindA F_pairs_behind TM (PySem.W.mg_none_of X G z_zip) G_nexts_of (F_nexts_of.binds (ps := ["line"]) fun _ _ _ _ _ _ us hl => match us, hl with | [_], _ => rfl) (PySem.W.mg_of X G g_nexts_of) F_nexts_of.kp
    have G_step_fault : FnOk l.prog w K mg base CX0 3 a_step_fault fd_step_fault ["one", "other", "pair", "known"] (spStepF CM) := ok_step_fault F_step_fault TM G_both_shownA (F_both_shown.binds (ps := ["one", "other", "pair"]) fun _ _ _ _ _ _ us hl => match us, hl with | [_, _, _], _ => rfl) (PySem.W.mg_of X G g_both_shown) F_both_shown.kp G_pairs_behindA (F_pairs_behind.binds (ps := ["one", "other", "pair"]) fun _ _ _ _ _ _ us hl => match us, hl with | [_, _, _], _ => rfl) (PySem.W.mg_of X G g_pairs_behind) F_pairs_behind.kp
    have G_pairs_fault : FnOk l.prog w K mg base CX0 6 a_pairs_fault fd_pairs_fault ["one", "other", "pairs"] (spFault K CB CM) := ok_pairs_fault F_pairs_fault T TG TB TM (PySem.W.mg_none_of X G z_enumerate) G_is_row (F_is_row.binds (ps := ["thing"]) fun _ _ _ _ _ _ us hl => match us, hl with | [_], _ => rfl) G_joined (F_joined.binds (ps := ["tables"]) fun _ _ _ _ _ _ us hl => match us, hl with | [_], _ => rfl) (PySem.W.mg_of X G g_joined) F_joined.kp G_is_pair (F_is_pair.binds (ps := ["thing", "one", "other"]) fun _ _ _ _ _ _ us hl => match us, hl with | [_, _, _], _ => rfl) (PySem.W.mg_of X G g_is_pair) F_is_pair.kp G_begin_of (F_begin_of.binds (ps := ["one", "other"]) fun _ _ _ _ _ _ us hl => match us, hl with | [_, _], _ => rfl) (PySem.W.mg_of X G g_begin_of) F_begin_of.kp G_step_fault (F_step_fault.binds (ps := ["one", "other", "pair", "known"]) fun _ _ _ _ _ _ us hl => match us, hl with | [_, _, _, _], _ => rfl) (PySem.W.mg_of X G g_step_fault) F_step_fault.kp
    have G_pfI : FnOk l.prog w K mg base CX0 6 a_pairs_fault fd_pairs_fault ["one", "other", "pairs"] (spFaultI K CB CM) := by rw [spFaultI_eq]; exact G_pairs_fault
    have G_Mismatch : FnOk l.prog w K mg base CX0 1 fE fdE ["self", "operation"] (spInitF CE "operation") := ok_i_Mismatch FE rH.oex nH
    have X_joined : FnOk l.prog w K mg base (L2.CX l.prog w) 3 a_joined fd_joined ["tables"] (spJoinedG CE) := ok_joinedG F_joined G_in_order (F_in_order.binds (ps := ["table"]) fun _ _ _ _ _ _ us hl => match us, hl with | [_], _ => rfl) (PySem.W.mg_of X G g_in_order) F_in_order.kp (PySem.W.mg_none_of X G z_min) EN G_Mismatch (FE.binds (ps := ["self", "operation"]) fun _ _ _ _ _ _ us hl => match us, hl with | [_, _], _ => rfl) (PySem.W.mg_of X G gc_Mismatch)
    have X_walk_of : FnOk l.prog w K mg base (L2.CX l.prog w) 4 a_walk_of fd_walk_of ["one", "other"] (spMis CB CM CE) := ok_walk_ofX F_walk_of TB TM X_joined (F_joined.binds (ps := ["tables"]) fun _ _ _ _ _ _ us hl => match us, hl with | [_], _ => rfl) (PySem.W.mg_of X G g_joined) F_joined.kp
    have X_parted : FnOk l.prog w K mg base (L2.CX l.prog w) 5 a_parted fd_parted ["one", "other"] (spMis CB CM CE) := ok_partedX F_parted X_walk_of (F_walk_of.binds (ps := ["one", "other"]) fun _ _ _ _ _ _ us hl => match us, hl with | [_, _], _ => rfl) (PySem.W.mg_of X G g_walk_of) F_walk_of.kp
    have X_within : FnOk l.prog w K mg base (L2.CX l.prog w) 5 a_within fd_within ["one", "other"] (spMis CB CM CE) := ok_withinX F_within X_walk_of (F_walk_of.binds (ps := ["one", "other"]) fun _ _ _ _ _ _ us hl => match us, hl with | [_, _], _ => rfl) (PySem.W.mg_of X G g_walk_of) F_walk_of.kp
    have X_pairs : FnOk l.prog w K mg base (L2.CX l.prog w) 6 a_pairs fd_pairs ["one", "other"] (spMis CB CM CE) := ok_pairsX F_pairs X_parted (F_parted.binds (ps := ["one", "other"]) fun _ _ _ _ _ _ us hl => match us, hl with | [_, _], _ => rfl) (PySem.W.mg_of X G g_parted) F_parted.kp
    have X_handler : FnOk l.prog w K mg base (L2.CX l.prog w) 6 a_parting_handler fd_parting_handler ["one", "other"] (spMis CB CM CE) := ok_parting_handlerX F_parting_handler X_parted (F_parted.binds (ps := ["one", "other"]) fun _ _ _ _ _ _ us hl => match us, hl with | [_, _], _ => rfl) (PySem.W.mg_of X G g_parted) F_parted.kp
    have X_fault : FnOk l.prog w K mg base (L2.CX l.prog w) 4 a_pairs_fault fd_pairs_fault ["one", "other", "pairs"] (spMis3 CB CM CE) := ok_pairs_faultX F_pairs_fault TB TM X_joined (F_joined.binds (ps := ["tables"]) fun _ _ _ _ _ _ us hl => match us, hl with | [_], _ => rfl) (PySem.W.mg_of X G g_joined) F_joined.kp
    have G_said : ∀ B, LamB.Up base B → FnOk l.prog w K mg B CX0 8 a_law_said fd_law_said ["_law_ask"] (spSaidM l.prog w K mg B 7 CE) := fun B _ => ok_said F_law_said T (PySem.W.mg_of X G gc_AskError) (PySem.W.mg_of X G gc_Mismatch) XH TH nH eP kH
    have G_mm : FnOk l.prog w K mg base CX0 9 a_law_mismatch_right fd_law_mismatch_right ["_law_source"] (spMR PM) := ok_mm F_law_mismatch_right T MB GB hds bB0 (PySem.W.mg_of X G gc_Body) (PySem.W.mg_none_of X G z_min) TBm G_law_mixed (F_law_mixed.binds (ps := ["_law_source", "_law_some"]) fun _ _ _ _ _ _ us hl => match us, hl with | [_, _], _ => rfl) (PySem.W.mg_of X G g_law_mixed) F_law_mixed.kp G_law_next (F_law_next.binds (ps := ["_law_source", "_law_many"]) fun _ _ _ _ _ _ us hl => match us, hl with | [_, _], _ => rfl) (PySem.W.mg_of X G g_law_next) F_law_next.kp G_said (F_law_said.binds (ps := ["_law_ask"]) fun _ _ _ _ _ _ us hl => match us, hl with | [_], _ => rfl) (PySem.W.mg_of X G g_law_said) F_law_said.kp X_parted (F_parted.binds (ps := ["one", "other"]) fun _ _ _ _ _ _ us hl => match us, hl with | [_, _], _ => rfl) (PySem.W.mg_of X G g_parted) F_parted.kp X_within (F_within.binds (ps := ["one", "other"]) fun _ _ _ _ _ _ us hl => match us, hl with | [_, _], _ => rfl) (PySem.W.mg_of X G g_within) F_within.kp X_pairs (F_pairs.binds (ps := ["one", "other"]) fun _ _ _ _ _ _ us hl => match us, hl with | [_, _], _ => rfl) (PySem.W.mg_of X G g_pairs) F_pairs.kp X_handler (F_parting_handler.binds (ps := ["one", "other"]) fun _ _ _ _ _ _ us hl => match us, hl with | [_, _], _ => rfl) (PySem.W.mg_of X G g_parting_handler) F_parting_handler.kp X_fault (F_pairs_fault.binds (ps := ["one", "other", "pairs"]) fun _ _ _ _ _ _ us hl => match us, hl with | [_, _, _], _ => rfl) (PySem.W.mg_of X G g_pairs_fault) F_pairs_fault.kp
    exact ok_law F_law T MB GB hds bB0 kB (PySem.W.mg_of X G gc_Body) (PySem.W.mg_none_of X G z_min) (PySem.W.mg_none_of X G z_range) G_law_source_of (F_law_source_of.binds (ps := ["_law_cell"]) fun _ _ _ _ _ _ us hl => match us, hl with | [_], _ => rfl) (PySem.W.mg_of X G g_law_source_of) F_law_source_of.kp G_law_next (F_law_next.binds (ps := ["_law_source", "_law_many"]) fun _ _ _ _ _ _ us hl => match us, hl with | [_, _], _ => rfl) (PySem.W.mg_of X G g_law_next) F_law_next.kp G_law_one (F_law_one.binds (ps := ["_law_source", "_law_some"]) fun _ _ _ _ _ _ us hl => match us, hl with | [_, _], _ => rfl) (PySem.W.mg_of X G g_law_one) F_law_one.kp G_mm (F_law_mismatch_right.fn.binds (ps := ["_law_source"]) fun _ _ _ _ _ _ us hl => match us, hl with | [_], _ => rfl) (PySem.W.mg_of X G g_law_mismatch_right) F_law_mismatch_right.kp G_pairs (F_pairs.binds (ps := ["one", "other"]) fun _ _ _ _ _ _ us hl => match us, hl with | [_, _], _ => rfl) (PySem.W.mg_of X G g_pairs) F_pairs.kp G_pfI (F_pairs_fault.binds (ps := ["one", "other", "pairs"]) fun _ _ _ _ _ _ us hl => match us, hl with | [_, _, _], _ => rfl) (PySem.W.mg_of X G g_pairs_fault) F_pairs_fault.kp
end Mine

set_option maxRecDepth 100000
set_option maxHeartbeats 4000000
namespace Mine
open PySem PySem.Spec PyProof.Rows L2
theorem fun_of {K : PySem.W.Frag} {x q : Str} {st : Stmt} {f : Addr} {fd : FuncData} {kws : List (Str × V)} (F : FunD K x q (defArgs st) (defBody st) (defScope st) [] kws f fd) : Fun K x q st f fd := by
  obtain ⟨⟨oc, od, dV, kV, doc, pm, an, cdv, ct, osl, e, l, c, hd, hk⟩, kp⟩ := F
  have : dV = .none := hd.elim (·.2) fun z => absurd rfl z.1
  subst this
  exact ⟨⟨oc, od, kV, doc, pm, an, cdv, ct, osl, e, l, c⟩, kp⟩
theorem funC_of {K : PySem.W.Frag} {x q : Str} {st : Stmt} {p : Str × Option Str} {fd : FuncData} {kws : List (Str × V)} (F : FunD K x q (defArgs st) (defBody st) (defScope st) [] kws (He.fAd K p) fd) : LamB.FunC K x q st (He.fAd K p) fd (He.codeOf K p) := by
  obtain ⟨⟨oc, od, dV, kV, doc, pm, an, cdv, ct, osl, e, l, c, hd, hk⟩, kp⟩ := F
  have : dV = .none := hd.elim (·.2) fun z => absurd rfl z.1
  subst this
  obtain ⟨cc, rfl⟩ := He.codeIn_ref c
  have e2 : He.codeOf K p = cc := He.codeOf_eq l (by rw [e])
  rw [e2]
  exact ⟨⟨oc, od, kV, doc, pm, an, ct, osl, e, l, c⟩, kp⟩
theorem nsStr {K : PySem.W.Frag} {x z : Str} (c : (He.Fa.str x z).ok K = true) : ∃ t, PySem.W.nsIn K mainGlobals x = some (some (.str z t)) := by
  have c2 : (match PySem.W.nsIn K mainGlobals x with
    | some (some (.str y _)) => decide (y = z)
    | _ => false) = true := c
  split at c2
  · rename_i y t q
    rw [q, of_decide_eq_true c2]
    exact ⟨t, rfl⟩
  · cases c2
theorem nsInt {K : PySem.W.Frag} {x : Str} {i : Int} (c : (He.Fa.int x i).ok K = true) : ∃ t, PySem.W.nsIn K mainGlobals x = some (some (.int i t)) := by
  have c2 : (match PySem.W.nsIn K mainGlobals x with
    | some (some (.int j _)) => decide (j = i)
    | _ => false) = true := c
  split at c2
  · rename_i y t q
    rw [q, of_decide_eq_true c2]
    exact ⟨t, rfl⟩
  · cases c2
def rawX (K : PySem.W.Frag) (cA C : Addr) : Bool := match K.lookup C with
  | some ⟨.type t, _, .cls cd, sl⟩ => (match sl.toList with
    | [_, _, _, _, some (.builtin n), _] => decide (t = "type") && (decide (cd.mro = [.ref C, .ref cA, .type "ValueError", .type "Exception", .type "BaseException", .type "object"]) && (decide (n = "ValueError.__new__") && (cd.hasDict && !cd.hasDel)))
    | _ => false)
  | _ => false
theorem rawX_ok {K : PySem.W.Frag} {cA C : Addr} (q : rawX K cA C = true) : ∃ nm q N bs sn sub ab col dd m0 m1 m2 m3 m5, K.lookup C = some (excClassObj nm q C N bs [.ref cA, .type "ValueError", .type "Exception", .type "BaseException", .type "object"] true sn sub ab col dd m0 m1 m2 m3 m5 "ValueError.__new__") := by
  unfold rawX at q
  split at q
  · rename_i t dd cd sl ho
    split at q
    · rename_i k0 k1 k2 k3 n k5 hs
      simp only [Bool.and_eq_true, decide_eq_true_eq, Bool.not_eq_true'] at q
      obtain ⟨rfl, hm, rfl, hdi, hdel⟩ := q
      obtain ⟨nm, bs, mro, ns, qn, hd, sn, sub, ab, col, del⟩ := cd
      dsimp only at hm hdel hdi
      subst hm hdel hdi
      have hsl : sl = #[k0, k1, k2, k3, some (.builtin "ValueError.__new__"), k5] := by
        obtain ⟨l⟩ := sl
        simp only at hs
        rw [hs]
      subst hsl
      exact ⟨nm, qn, ns, bs, sn, sub, ab, col, dd, k0, k1, k2, k3, k5, ho⟩
    · cases q
  · cases q
def d_is_integer : He.DefD := ⟨("is_integer", none), "is_integer", "is_integer", defArgs s_is_integer, defBody s_is_integer, defScope s_is_integer, [], []⟩
def d_is_within : He.DefD := ⟨("is_within", none), "is_within", "is_within", defArgs s_is_within, defBody s_is_within, defScope s_is_within, [], []⟩
def d_is_index : He.DefD := ⟨("is_index", none), "is_index", "is_index", defArgs s_is_index, defBody s_is_index, defScope s_is_index, [], []⟩
def d_is_row : He.DefD := ⟨("is_row", none), "is_row", "is_row", defArgs s_is_row, defBody s_is_row, defScope s_is_row, [], []⟩
def d_is_name : He.DefD := ⟨("is_name", none), "is_name", "is_name", defArgs s_is_name, defBody s_is_name, defScope s_is_name, [], []⟩
def d_is_text_in : He.DefD := ⟨("is_text_in", none), "is_text_in", "is_text_in", defArgs s_is_text_in, defBody s_is_text_in, defScope s_is_text_in, [], []⟩
def d_are_counts : He.DefD := ⟨("are_counts", none), "are_counts", "are_counts", defArgs s_are_counts, defBody s_are_counts, defScope s_are_counts, [], []⟩
def d_are_operations : He.DefD := ⟨("are_operations", none), "are_operations", "are_operations", defArgs s_are_operations, defBody s_are_operations, defScope s_are_operations, [], []⟩
def d_in_order : He.DefD := ⟨("in_order", none), "in_order", "in_order", defArgs s_in_order, defBody s_in_order, defScope s_in_order, [], []⟩
def d_word_of : He.DefD := ⟨("word_of", none), "word_of", "word_of", defArgs s_word_of, defBody s_word_of, defScope s_word_of, [], []⟩
def d_are_nexts : He.DefD := ⟨("are_nexts", none), "are_nexts", "are_nexts", defArgs s_are_nexts, defBody s_are_nexts, defScope s_are_nexts, [], []⟩
def d_joined : He.DefD := ⟨("joined", none), "joined", "joined", defArgs s_joined, defBody s_joined, defScope s_joined, [], []⟩
def d_stops_of : He.DefD := ⟨("stops_of", none), "stops_of", "stops_of", defArgs s_stops_of, defBody s_stops_of, defScope s_stops_of, [], []⟩
def d_rest_of : He.DefD := ⟨("rest_of", none), "rest_of", "rest_of", defArgs s_rest_of, defBody s_rest_of, defScope s_rest_of, [], []⟩
def d_rests_from : He.DefD := ⟨("rests_from", none), "rests_from", "rests_from", defArgs s_rests_from, defBody s_rests_from, defScope s_rests_from, [], []⟩
def d_nexts_of : He.DefD := ⟨("nexts_of", none), "nexts_of", "nexts_of", defArgs s_nexts_of, defBody s_nexts_of, defScope s_nexts_of, [], []⟩
def d_shows_of : He.DefD := ⟨("shows_of", none), "shows_of", "shows_of", defArgs s_shows_of, defBody s_shows_of, defScope s_shows_of, [], []⟩
def d_firsts_of : He.DefD := ⟨("firsts_of", none), "firsts_of", "firsts_of", defArgs s_firsts_of, defBody s_firsts_of, defScope s_firsts_of, [], []⟩
def d_lines_read : He.DefD := ⟨("lines_read", none), "lines_read", "lines_read", defArgs s_lines_read, defBody s_lines_read, defScope s_lines_read, [], []⟩
def d_is_line : He.DefD := ⟨("is_line", none), "is_line", "is_line", defArgs s_is_line, defBody s_is_line, defScope s_is_line, [], []⟩
def d_line_of : He.DefD := ⟨("line_of", none), "line_of", "line_of", defArgs s_line_of, defBody s_line_of, defScope s_line_of, [], []⟩
def d_begin_of : He.DefD := ⟨("begin_of", none), "begin_of", "begin_of", defArgs s_begin_of, defBody s_begin_of, defScope s_begin_of, [], []⟩
def d_both_shown : He.DefD := ⟨("both_shown", none), "both_shown", "both_shown", defArgs s_both_shown, defBody s_both_shown, defScope s_both_shown, [], []⟩
def d_pairs_behind : He.DefD := ⟨("pairs_behind", none), "pairs_behind", "pairs_behind", defArgs s_pairs_behind, defBody s_pairs_behind, defScope s_pairs_behind, [], []⟩
def d_parting_place : He.DefD := ⟨("parting_place", none), "parting_place", "parting_place", defArgs s_parting_place, defBody s_parting_place, defScope s_parting_place, [], []⟩
def d_are_led_together : He.DefD := ⟨("are_led_together", none), "are_led_together", "are_led_together", defArgs s_are_led_together, defBody s_are_led_together, defScope s_are_led_together, [], []⟩
def d_leader_of : He.DefD := ⟨("leader_of", none), "leader_of", "leader_of", defArgs s_leader_of, defBody s_leader_of, defScope s_leader_of, [], []⟩
def d_straying_place : He.DefD := ⟨("straying_place", none), "straying_place", "straying_place", defArgs s_straying_place, defBody s_straying_place, defScope s_straying_place, [], []⟩
def d_told_of : He.DefD := ⟨("told_of", none), "told_of", "told_of", defArgs s_told_of, defBody s_told_of, defScope s_told_of, [], []⟩
def d_parted : He.DefD := ⟨("parted", none), "parted", "parted", defArgs s_parted, defBody s_parted, defScope s_parted, [], []⟩
def d_walk_of : He.DefD := ⟨("walk_of", none), "walk_of", "walk_of", defArgs s_walk_of, defBody s_walk_of, defScope s_walk_of, [], []⟩
def d_pairs : He.DefD := ⟨("pairs", none), "pairs", "pairs", defArgs s_pairs, defBody s_pairs, defScope s_pairs, [], []⟩
def d_pairs_fault : He.DefD := ⟨("pairs_fault", none), "pairs_fault", "pairs_fault", defArgs s_pairs_fault, defBody s_pairs_fault, defScope s_pairs_fault, [], []⟩
def d_is_pair : He.DefD := ⟨("is_pair", none), "is_pair", "is_pair", defArgs s_is_pair, defBody s_is_pair, defScope s_is_pair, [], []⟩
def d_is_rest : He.DefD := ⟨("is_rest", none), "is_rest", "is_rest", defArgs s_is_rest, defBody s_is_rest, defScope s_is_rest, [], []⟩
def d_step_fault : He.DefD := ⟨("step_fault", none), "step_fault", "step_fault", defArgs s_step_fault, defBody s_step_fault, defScope s_step_fault, [], []⟩
def d_within : He.DefD := ⟨("within", none), "within", "within", defArgs s_within, defBody s_within, defScope s_within, [], []⟩
def d_parting_handler : He.DefD := ⟨("parting_handler", none), "parting_handler", "parting_handler", defArgs s_parting_handler, defBody s_parting_handler, defScope s_parting_handler, [], []⟩
def d_law_source_of : He.DefD := ⟨("_law_source_of", none), "_law_source_of", "_law_source_of", defArgs sSrc, defBody sSrc, defScope sSrc, [], []⟩
def d_law_next : He.DefD := ⟨("_law_next", none), "_law_next", "_law_next", defArgs sNext, defBody sNext, defScope sNext, [], []⟩
def d_law_one : He.DefD := ⟨("_law_one", none), "_law_one", "_law_one", defArgs sOne, defBody sOne, defScope sOne, [], []⟩
def d_law_mixed : He.DefD := ⟨("_law_mixed", none), "_law_mixed", "_law_mixed", defArgs s_mixed, defBody s_mixed, defScope s_mixed, [], []⟩
def d_law_said : He.DefD := ⟨("_law_said", none), "_law_said", "_law_said", defArgs s_said, defBody s_said, defScope s_said, [], []⟩
def d_law_mismatch_right : He.DefD := ⟨("_law_mismatch_right", none), "_law_mismatch_right", "_law_mismatch_right", defArgs s_mm, defBody s_mm, defScope s_mm, [], []⟩
def d_law : He.DefD := ⟨("law", none), "law", "law", defArgs s_law, defBody s_law, defScope s_law, [], []⟩
def d_FM : He.DefD := ⟨("Machine", some "__init__"), "__init__", "Machine.__init__", defArgs s_mach, defBody s_mach, defScope s_mach, [], []⟩
def d_FW : He.DefD := ⟨("Walk", some "__init__"), "__init__", "Walk.__init__", defArgs s_walk_init, defBody s_walk_init, defScope s_walk_init, [], []⟩
def d_FE : He.DefD := ⟨("Mismatch", some "__init__"), "__init__", "Mismatch.__init__", defArgs s_i_Mismatch, defBody s_i_Mismatch, defScope s_i_Mismatch, [], []⟩
def d_FT : He.DefD := ⟨("Walk", some "take"), "take", "Walk.take", defArgs s_walk_take, defBody s_walk_take, defScope s_walk_take, [], []⟩
def d_FB : He.DefD := ⟨("Body", some "__init__"), "__init__", "Body.__init__", defArgs s_body, defBody s_body, defScope s_body, [], [("start", .int 0)]⟩
def fnL : List He.DefD := ([d_is_integer, d_is_within, d_is_index, d_is_row, d_is_name, d_is_text_in, d_are_counts, d_are_operations, d_in_order, d_word_of, d_are_nexts, d_joined, d_stops_of, d_rest_of, d_rests_from, d_nexts_of, d_shows_of, d_firsts_of, d_lines_read, d_is_line, d_line_of, d_begin_of, d_both_shown, d_pairs_behind, d_parting_place, d_are_led_together, d_leader_of, d_straying_place, d_told_of, d_parted] : List He.DefD) ++ ([d_walk_of, d_pairs, d_pairs_fault, d_is_pair, d_is_rest, d_step_fault, d_within, d_parting_handler, d_law_source_of, d_law_next, d_law_one, d_law_mixed, d_law_said, d_law_mismatch_right, d_law, d_FM, d_FW, d_FE, d_FT, d_FB] : List He.DefD)
def faL : List He.Fa := [.cls "Body", .cls "Machine", .cls "Walk", .str "LETTERS" lettersS, .int "LONGEST_NAME" 8, .int "MOST_OPERATIONS" 8, .int "MOST_ANSWERS" 6, .int "MOST_ROWS" 400]
def exs0 (K : PySem.W.Frag) : List Bool := [decide (PySem.W.nsIn K mainGlobals "is_integer" = some (some (.ref (He.ga K "is_integer")))),
  decide (PySem.W.nsIn K mainGlobals "is_within" = some (some (.ref (He.ga K "is_within")))),
  decide (PySem.W.nsIn K mainGlobals "is_index" = some (some (.ref (He.ga K "is_index")))),
  decide (PySem.W.nsIn K mainGlobals "is_row" = some (some (.ref (He.ga K "is_row")))),
  decide (PySem.W.nsIn K mainGlobals "is_name" = some (some (.ref (He.ga K "is_name")))),
  decide (PySem.W.nsIn K mainGlobals "is_text_in" = some (some (.ref (He.ga K "is_text_in")))),
  decide (PySem.W.nsIn K mainGlobals "are_counts" = some (some (.ref (He.ga K "are_counts")))),
  decide (PySem.W.nsIn K mainGlobals "are_operations" = some (some (.ref (He.ga K "are_operations")))),
  decide (PySem.W.nsIn K mainGlobals "in_order" = some (some (.ref (He.ga K "in_order")))),
  decide (PySem.W.nsIn K mainGlobals "word_of" = some (some (.ref (He.ga K "word_of")))),
  decide (PySem.W.nsIn K mainGlobals "are_nexts" = some (some (.ref (He.ga K "are_nexts")))),
  decide (PySem.W.nsIn K mainGlobals "joined" = some (some (.ref (He.ga K "joined")))),
  decide (PySem.W.nsIn K mainGlobals "stops_of" = some (some (.ref (He.ga K "stops_of")))),
  decide (PySem.W.nsIn K mainGlobals "rest_of" = some (some (.ref (He.ga K "rest_of")))),
  decide (PySem.W.nsIn K mainGlobals "rests_from" = some (some (.ref (He.ga K "rests_from")))),
  decide (PySem.W.nsIn K mainGlobals "nexts_of" = some (some (.ref (He.ga K "nexts_of")))),
  decide (PySem.W.nsIn K mainGlobals "shows_of" = some (some (.ref (He.ga K "shows_of")))),
  decide (PySem.W.nsIn K mainGlobals "firsts_of" = some (some (.ref (He.ga K "firsts_of")))),
  decide (PySem.W.nsIn K mainGlobals "lines_read" = some (some (.ref (He.ga K "lines_read")))),
  decide (PySem.W.nsIn K mainGlobals "is_line" = some (some (.ref (He.ga K "is_line")))),
  decide (PySem.W.nsIn K mainGlobals "line_of" = some (some (.ref (He.ga K "line_of")))),
  decide (PySem.W.nsIn K mainGlobals "begin_of" = some (some (.ref (He.ga K "begin_of")))),
  decide (PySem.W.nsIn K mainGlobals "both_shown" = some (some (.ref (He.ga K "both_shown")))),
  decide (PySem.W.nsIn K mainGlobals "pairs_behind" = some (some (.ref (He.ga K "pairs_behind")))),
  decide (PySem.W.nsIn K mainGlobals "parting_place" = some (some (.ref (He.ga K "parting_place"))))]
def exs1 (K : PySem.W.Frag) : List Bool := [decide (PySem.W.nsIn K mainGlobals "are_led_together" = some (some (.ref (He.ga K "are_led_together")))),
  decide (PySem.W.nsIn K mainGlobals "leader_of" = some (some (.ref (He.ga K "leader_of")))),
  decide (PySem.W.nsIn K mainGlobals "straying_place" = some (some (.ref (He.ga K "straying_place")))),
  decide (PySem.W.nsIn K mainGlobals "told_of" = some (some (.ref (He.ga K "told_of")))),
  decide (PySem.W.nsIn K mainGlobals "parted" = some (some (.ref (He.ga K "parted")))),
  decide (PySem.W.nsIn K mainGlobals "walk_of" = some (some (.ref (He.ga K "walk_of")))),
  decide (PySem.W.nsIn K mainGlobals "pairs" = some (some (.ref (He.ga K "pairs")))),
  decide (PySem.W.nsIn K mainGlobals "pairs_fault" = some (some (.ref (He.ga K "pairs_fault")))),
  decide (PySem.W.nsIn K mainGlobals "is_pair" = some (some (.ref (He.ga K "is_pair")))),
  decide (PySem.W.nsIn K mainGlobals "is_rest" = some (some (.ref (He.ga K "is_rest")))),
  decide (PySem.W.nsIn K mainGlobals "step_fault" = some (some (.ref (He.ga K "step_fault")))),
  decide (PySem.W.nsIn K mainGlobals "within" = some (some (.ref (He.ga K "within")))),
  decide (PySem.W.nsIn K mainGlobals "parting_handler" = some (some (.ref (He.ga K "parting_handler")))),
  decide (PySem.W.nsIn K mainGlobals "_law_source_of" = some (some (.ref (He.ga K "_law_source_of")))),
  decide (PySem.W.nsIn K mainGlobals "_law_next" = some (some (.ref (He.ga K "_law_next")))),
  decide (PySem.W.nsIn K mainGlobals "_law_one" = some (some (.ref (He.ga K "_law_one")))),
  decide (PySem.W.nsIn K mainGlobals "_law_mixed" = some (some (.ref (He.ga K "_law_mixed")))),
  decide (PySem.W.nsIn K mainGlobals "_law_said" = some (some (.ref (He.ga K "_law_said")))),
  decide (PySem.W.nsIn K mainGlobals "_law_mismatch_right" = some (some (.ref (He.ga K "_law_mismatch_right")))),
  decide (PySem.W.nsIn K mainGlobals "law" = some (some (.ref (He.ga K "law")))),
  decide (PySem.W.nsIn K mainGlobals "AskError" = some (some (.ref (He.ga K "AskError")))),
  decide (PySem.W.nsIn K mainGlobals "Mismatch" = some (some (.ref (He.ga K "Mismatch")))),
  decide (PySem.W.nsIn K mainGlobals "Body" = some (some (.ref (He.ga K "Body")))),
  decide (PySem.W.nsIn K mainGlobals "Machine" = some (some (.ref (He.ga K "Machine")))),
  decide (PySem.W.nsIn K mainGlobals "Walk" = some (some (.ref (He.ga K "Walk"))))]
def exs2 (K : PySem.W.Frag) : List Bool := [PySem.W.makesIn K (He.ga K "Body"),
  decide (PySem.W.findIn K (.ref (He.ga K "Body")) "__init__" = some (some (.ref (He.ma K (He.ga K "Body") "__init__")))),
  PySem.W.isFn K (.ref (He.ma K (He.ga K "Body") "__init__")),
  PySem.W.keepIn K (.ref (He.ga K "Body")),
  PySem.W.makesIn K (He.ga K "Machine"),
  decide (PySem.W.findIn K (.ref (He.ga K "Machine")) "__init__" = some (some (.ref (He.ma K (He.ga K "Machine") "__init__")))),
  PySem.W.isFn K (.ref (He.ma K (He.ga K "Machine") "__init__")),
  PySem.W.keepIn K (.ref (He.ga K "Machine")),
  PySem.W.makesIn K (He.ga K "Walk"),
  decide (PySem.W.findIn K (.ref (He.ga K "Walk")) "__init__" = some (some (.ref (He.ma K (He.ga K "Walk") "__init__")))),
  PySem.W.isFn K (.ref (He.ma K (He.ga K "Walk") "__init__")),
  PySem.W.keepIn K (.ref (He.ga K "Walk")),
  decide (PySem.W.findIn K (.ref (He.ga K "Walk")) "take" = some (some (.ref (He.ma K (He.ga K "Walk") "take")))),
  rawX K (He.ga K "AskError") (He.ga K "Mismatch"),
  decide (PySem.W.findIn K (.ref (He.ga K "Mismatch")) "__getattribute__" = some (some (.builtin "BaseException.__getattribute__"))),
  decide (PySem.W.findIn K (.ref (He.ga K "Mismatch")) "__getattr__" = some none),
  decide (PySem.W.findIn K (.ref (He.ga K "Mismatch")) "__class__" = some (some (.builtin "object.__class__"))),
  decide (PySem.W.findIn K (.ref (He.ga K "Mismatch")) "__setattr__" = some (some (.builtin "object.__setattr__"))),
  decide (PySem.W.typeIn K (.ref (He.ga K "Mismatch")) = some (.type "type")),
  PySem.W.hasDictIn K (He.ga K "Mismatch"),
  PySem.W.keepIn K (.ref (He.ga K "Mismatch")),
  decide (PySem.W.findIn K (.ref (He.ga K "Mismatch")) "__init__" = some (some (.ref (He.ma K (He.ga K "Mismatch") "__init__")))),
  decide (PySem.W.typeIn K (.ref (He.ma K (He.ga K "Mismatch") "__init__")) = some (.type "function")),
  decide (PySem.W.findIn K (.ref (He.ga K "Mismatch")) "operation" = some none),
  decide (PySem.W.subIn K (.ref (He.ga K "AskError")) (.type "BaseException") = some true)]
def exs3 (K : PySem.W.Frag) : List Bool := [PySem.W.hasDictIn K (He.ga K "AskError"),
  decide (PySem.W.typeIn K (.ref (He.ga K "AskError")) = some (.type "type")),
  decide (PySem.W.specialIn K (.builtin "object.__class__") "__get__" = some (some (.builtin "getset_descriptor.__get__"))),
  decide (PySem.W.takesIn K (.builtin "object.__class__") = some true),
  PySem.W.isFn K (.ref (He.ma K (He.ga K "Walk") "take")),
  decide (PySem.W.findIn K (.ref (He.ga K "Machine")) "counts" = some none),
  decide (PySem.W.findIn K (.ref (He.ga K "Machine")) "lines" = some none),
  decide (PySem.W.findIn K (.ref (He.ga K "Machine")) "begin" = some none),
  decide (PySem.W.findIn K (.ref (He.ga K "Machine")) "stops" = some none),
  decide (PySem.W.findIn K (.ref (He.ga K "Machine")) "asks" = some none),
  decide (PySem.W.findIn K (.ref (He.ga K "Machine")) "endings" = some none),
  decide (PySem.W.findIn K (.ref (He.ga K "Machine")) "endless" = some none),
  decide (PySem.W.findIn K (.ref (He.ga K "Body")) "machine" = some none),
  decide (PySem.W.findIn K (.ref (He.ga K "Walk")) "one" = some none),
  decide (PySem.W.findIn K (.ref (He.ga K "Walk")) "other" = some none),
  decide (PySem.W.findIn K (.ref (He.ga K "Walk")) "met" = some none),
  decide (PySem.W.findIn K (.ref (He.ga K "Walk")) "origins" = some none),
  decide (PySem.W.nsIn K mainGlobals "int" = some none),
  decide (PySem.W.nsIn K mainGlobals "isinstance" = some none),
  decide (PySem.W.nsIn K mainGlobals "bool" = some none),
  decide (PySem.W.nsIn K mainGlobals "str" = some none),
  decide (PySem.W.nsIn K mainGlobals "list" = some none),
  decide (PySem.W.nsIn K mainGlobals "tuple" = some none),
  decide (PySem.W.nsIn K mainGlobals "dict" = some none),
  decide (PySem.W.nsIn K mainGlobals "len" = some none)]
def exs4 (K : PySem.W.Frag) : List Bool := [decide (PySem.W.nsIn K mainGlobals "all" = some none),
  decide (PySem.W.nsIn K mainGlobals "range" = some none),
  decide (PySem.W.nsIn K mainGlobals "sorted" = some none),
  decide (PySem.W.nsIn K mainGlobals "min" = some none),
  decide (PySem.W.nsIn K mainGlobals "enumerate" = some none),
  decide (PySem.W.nsIn K mainGlobals "zip" = some none)]
def exL (K : PySem.W.Frag) : List Bool := exs0 K ++ exs1 K ++ exs2 K ++ exs3 K ++ exs4 K
def exB (K : PySem.W.Frag) : Bool := (exL K).all id
def tfL : List He.Defn := [("_law_mismatch_right", none)]
abbrev Rw : PySem.W.OpenRow := PySem.W.OpenLaw.row PySem.Challenge.rw_askfurther_k24_what_are_no_pairs
abbrev hkL : PySem.W.Hook := He2.hookY faL fnL tfL exB
def obL (s : PySem.W.SharedT) : He2.AlY := He2.obsY faL fnL tfL exB (HandSHeadRun.getT s)
theorem obL_eq (s : PySem.W.SharedT) : obL s = hkL.obs s.abs := He2.obsY_eq (HandSHeadRun.getT_eq s)
def looseL : List Str := (["__name__", "AskError", "BadOperations", "BadBody", "BadStart", "NoRow", "BadOthers", "BadHandler", "Mismatch", "Parted", "LETTERS", "LONGEST_NAME", "MOST_OPERATIONS", "MOST_ANSWERS", "is_integer", "is_within", "is_index", "is_row", "is_name", "name_of", "is_text_in", "are_counts", "are_operations", "in_order", "word_of", "are_nexts", "are_unlike", "joined", "Machine", "are_equal"] : List Str) ++ (["stops_of", "rest_of", "rests_from", "nexts_of", "shows_of", "firsts_of", "cut", "mapped", "followed", "begin_among", "led_on", "MOST_ROUNDS", "Parting", "groups_of", "numbered", "groups_in", "sources_of", "split_all", "split", "merged", "MOST_ROWS", "MOST_OTHERS", "Body", "body_of", "are_others", "lines_read", "is_line", "line_of", "Pool", "pool_of"] : List Str) ++ (["shifted", "Keeper", "keeper_of_table", "are_same", "stands_of", "clauses_for", "MOST_STATES", "MOST_LINES", "Handler", "passing", "handler_of", "is_pair_of_texts", "is_pair_of_names", "are_clauses", "are_ends", "is_clause", "is_clause_line", "clause_of", "states_told", "are_complete", "Walk", "begin_of", "both_shown", "pairs_behind", "parting_place", "are_led_together", "leader_of", "straying_place", "told_of", "parted"] : List Str) ++ (["walk_of", "pairs", "pairs_fault", "is_pair", "is_rest", "step_fault", "within", "parting_handler", "_law_source_of", "_law_next", "_law_one", "_law_mixed", "_law_said", "_law_mismatch_right"] : List Str)
theorem all24 {l : PySem.W.OpenLaw} {w : World} {K : PySem.W.Frag} {h : Heap} {mg : Str → Option Value} {fa : Addr} (X : K.In h) (G : h.Ns mainGlobals mg) (hfa : mg "law" = some (.ref fa)) (c : He2.SaysY faL fnL tfL exB h K) : LamX.LawAtS l w K CX0 10 63 "_law_script" mg fa h := by
  have gx : ∀ (i : Nat) {b : Bool}, (exL K)[i]? = some b → b = true := fun i b e => List.all_eq_true.mp (show (exL K).all id = true from c.more) b (List.mem_of_getElem? e)
  obtain ⟨fd_is_integer, E_is_integer⟩ := c.d.def_ 0 (d := d_is_integer) rfl
  obtain ⟨fd_is_within, E_is_within⟩ := c.d.def_ 1 (d := d_is_within) rfl
  obtain ⟨fd_is_index, E_is_index⟩ := c.d.def_ 2 (d := d_is_index) rfl
  obtain ⟨fd_is_row, E_is_row⟩ := c.d.def_ 3 (d := d_is_row) rfl
  obtain ⟨fd_is_name, E_is_name⟩ := c.d.def_ 4 (d := d_is_name) rfl
  obtain ⟨fd_is_text_in, E_is_text_in⟩ := c.d.def_ 5 (d := d_is_text_in) rfl
  obtain ⟨fd_are_counts, E_are_counts⟩ := c.d.def_ 6 (d := d_are_counts) rfl
  obtain ⟨fd_are_operations, E_are_operations⟩ := c.d.def_ 7 (d := d_are_operations) rfl
  obtain ⟨fd_in_order, E_in_order⟩ := c.d.def_ 8 (d := d_in_order) rfl
  obtain ⟨fd_word_of, E_word_of⟩ := c.d.def_ 9 (d := d_word_of) rfl
  obtain ⟨fd_are_nexts, E_are_nexts⟩ := c.d.def_ 10 (d := d_are_nexts) rfl
  obtain ⟨fd_joined, E_joined⟩ := c.d.def_ 11 (d := d_joined) rfl
  obtain ⟨fd_stops_of, E_stops_of⟩ := c.d.def_ 12 (d := d_stops_of) rfl
  obtain ⟨fd_rest_of, E_rest_of⟩ := c.d.def_ 13 (d := d_rest_of) rfl
  obtain ⟨fd_rests_from, E_rests_from⟩ := c.d.def_ 14 (d := d_rests_from) rfl
  obtain ⟨fd_nexts_of, E_nexts_of⟩ := c.d.def_ 15 (d := d_nexts_of) rfl
  obtain ⟨fd_shows_of, E_shows_of⟩ := c.d.def_ 16 (d := d_shows_of) rfl
  obtain ⟨fd_firsts_of, E_firsts_of⟩ := c.d.def_ 17 (d := d_firsts_of) rfl
  obtain ⟨fd_lines_read, E_lines_read⟩ := c.d.def_ 18 (d := d_lines_read) rfl
  obtain ⟨fd_is_line, E_is_line⟩ := c.d.def_ 19 (d := d_is_line) rfl
  obtain ⟨fd_line_of, E_line_of⟩ := c.d.def_ 20 (d := d_line_of) rfl
  obtain ⟨fd_begin_of, E_begin_of⟩ := c.d.def_ 21 (d := d_begin_of) rfl
  obtain ⟨fd_both_shown, E_both_shown⟩ := c.d.def_ 22 (d := d_both_shown) rfl
  obtain ⟨fd_pairs_behind, E_pairs_behind⟩ := c.d.def_ 23 (d := d_pairs_behind) rfl
  obtain ⟨fd_parting_place, E_parting_place⟩ := c.d.def_ 24 (d := d_parting_place) rfl
  obtain ⟨fd_are_led_together, E_are_led_together⟩ := c.d.def_ 25 (d := d_are_led_together) rfl
  obtain ⟨fd_leader_of, E_leader_of⟩ := c.d.def_ 26 (d := d_leader_of) rfl
  obtain ⟨fd_straying_place, E_straying_place⟩ := c.d.def_ 27 (d := d_straying_place) rfl
  obtain ⟨fd_told_of, E_told_of⟩ := c.d.def_ 28 (d := d_told_of) rfl
  obtain ⟨fd_parted, E_parted⟩ := c.d.def_ 29 (d := d_parted) rfl
  obtain ⟨fd_walk_of, E_walk_of⟩ := c.d.def_ 30 (d := d_walk_of) rfl
  obtain ⟨fd_pairs, E_pairs⟩ := c.d.def_ 31 (d := d_pairs) rfl
  obtain ⟨fd_pairs_fault, E_pairs_fault⟩ := c.d.def_ 32 (d := d_pairs_fault) rfl
  obtain ⟨fd_is_pair, E_is_pair⟩ := c.d.def_ 33 (d := d_is_pair) rfl
  obtain ⟨fd_is_rest, E_is_rest⟩ := c.d.def_ 34 (d := d_is_rest) rfl
  obtain ⟨fd_step_fault, E_step_fault⟩ := c.d.def_ 35 (d := d_step_fault) rfl
  obtain ⟨fd_within, E_within⟩ := c.d.def_ 36 (d := d_within) rfl
  obtain ⟨fd_parting_handler, E_parting_handler⟩ := c.d.def_ 37 (d := d_parting_handler) rfl
  obtain ⟨fd_law_source_of, E_law_source_of⟩ := c.d.def_ 38 (d := d_law_source_of) rfl
  obtain ⟨fd_law_next, E_law_next⟩ := c.d.def_ 39 (d := d_law_next) rfl
  obtain ⟨fd_law_one, E_law_one⟩ := c.d.def_ 40 (d := d_law_one) rfl
  obtain ⟨fd_law_mixed, E_law_mixed⟩ := c.d.def_ 41 (d := d_law_mixed) rfl
  obtain ⟨fd_law_said, E_law_said⟩ := c.d.def_ 42 (d := d_law_said) rfl
  obtain ⟨fd_law_mismatch_right, E_law_mismatch_right⟩ := c.d.def_ 43 (d := d_law_mismatch_right) rfl
  obtain ⟨fd_law, E_law⟩ := c.d.def_ 44 (d := d_law) rfl
  obtain ⟨fdM, E_FM⟩ := c.d.def_ 45 (d := d_FM) rfl
  obtain ⟨fdW, E_FW⟩ := c.d.def_ 46 (d := d_FW) rfl
  obtain ⟨fdE, E_FE⟩ := c.d.def_ 47 (d := d_FE) rfl
  obtain ⟨fd_take, E_FT⟩ := c.d.def_ 48 (d := d_FT) rfl
  obtain ⟨fdB, E_FB⟩ := c.d.def_ 49 (d := d_FB) rfl
  obtain ⟨tL, eL⟩ := nsStr (c.d.fact 3 (f := .str "LETTERS" lettersS) rfl)
  obtain ⟨t1, e_t1⟩ := nsInt (c.d.fact 4 (f := .int "LONGEST_NAME" 8) rfl)
  obtain ⟨t2, e_t2⟩ := nsInt (c.d.fact 5 (f := .int "MOST_OPERATIONS" 8) rfl)
  obtain ⟨t3, e_t3⟩ := nsInt (c.d.fact 6 (f := .int "MOST_ANSWERS" 6) rfl)
  obtain ⟨t4, e_t4⟩ := nsInt (c.d.fact 7 (f := .int "MOST_ROWS" 400) rfl)
  obtain ⟨⟨oc, od, dV, kV, doc, pm, an, cdv, ct, osl, eB, lB, cB, hdB, hkB⟩, kpB⟩ := id E_FB
  have zD : dV = .none := hdB.elim (·.2) fun z => absurd rfl z.1
  subst zD
  obtain ⟨DK, rfl, hst⟩ := hkB.resolve_left (fun z => nomatch z)
  obtain ⟨u, eD, tD, rfl⟩ := hst _ List.mem_cons_self
  exact all_mk X G hfa (show PySem.W.nsIn K mainGlobals "is_integer" = some (some (.ref (He.ga K "is_integer"))) from of_decide_eq_true (gx 0 rfl))
    (fun_of E_is_integer)
    (show PySem.W.nsIn K mainGlobals "is_within" = some (some (.ref (He.ga K "is_within"))) from of_decide_eq_true (gx 1 rfl))
    (fun_of E_is_within)
    (show PySem.W.nsIn K mainGlobals "is_index" = some (some (.ref (He.ga K "is_index"))) from of_decide_eq_true (gx 2 rfl))
    (fun_of E_is_index)
    (show PySem.W.nsIn K mainGlobals "is_row" = some (some (.ref (He.ga K "is_row"))) from of_decide_eq_true (gx 3 rfl))
    (fun_of E_is_row)
    (show PySem.W.nsIn K mainGlobals "is_name" = some (some (.ref (He.ga K "is_name"))) from of_decide_eq_true (gx 4 rfl))
    (fun_of E_is_name)
    (show PySem.W.nsIn K mainGlobals "is_text_in" = some (some (.ref (He.ga K "is_text_in"))) from of_decide_eq_true (gx 5 rfl))
    (fun_of E_is_text_in)
    (show PySem.W.nsIn K mainGlobals "are_counts" = some (some (.ref (He.ga K "are_counts"))) from of_decide_eq_true (gx 6 rfl))
    (fun_of E_are_counts)
    (show PySem.W.nsIn K mainGlobals "are_operations" = some (some (.ref (He.ga K "are_operations"))) from of_decide_eq_true (gx 7 rfl))
    (fun_of E_are_operations)
    (show PySem.W.nsIn K mainGlobals "in_order" = some (some (.ref (He.ga K "in_order"))) from of_decide_eq_true (gx 8 rfl))
    (fun_of E_in_order)
    (show PySem.W.nsIn K mainGlobals "word_of" = some (some (.ref (He.ga K "word_of"))) from of_decide_eq_true (gx 9 rfl))
    (fun_of E_word_of)
    (show PySem.W.nsIn K mainGlobals "are_nexts" = some (some (.ref (He.ga K "are_nexts"))) from of_decide_eq_true (gx 10 rfl))
    (fun_of E_are_nexts)
    (show PySem.W.nsIn K mainGlobals "joined" = some (some (.ref (He.ga K "joined"))) from of_decide_eq_true (gx 11 rfl))
    (fun_of E_joined)
    (show PySem.W.nsIn K mainGlobals "stops_of" = some (some (.ref (He.ga K "stops_of"))) from of_decide_eq_true (gx 12 rfl))
    (fun_of E_stops_of)
    (show PySem.W.nsIn K mainGlobals "rest_of" = some (some (.ref (He.ga K "rest_of"))) from of_decide_eq_true (gx 13 rfl))
    (fun_of E_rest_of)
    (show PySem.W.nsIn K mainGlobals "rests_from" = some (some (.ref (He.ga K "rests_from"))) from of_decide_eq_true (gx 14 rfl))
    (fun_of E_rests_from)
    (show PySem.W.nsIn K mainGlobals "nexts_of" = some (some (.ref (He.ga K "nexts_of"))) from of_decide_eq_true (gx 15 rfl))
    (fun_of E_nexts_of)
    (show PySem.W.nsIn K mainGlobals "shows_of" = some (some (.ref (He.ga K "shows_of"))) from of_decide_eq_true (gx 16 rfl))
    (fun_of E_shows_of)
    (show PySem.W.nsIn K mainGlobals "firsts_of" = some (some (.ref (He.ga K "firsts_of"))) from of_decide_eq_true (gx 17 rfl))
    (fun_of E_firsts_of)
    (show PySem.W.nsIn K mainGlobals "lines_read" = some (some (.ref (He.ga K "lines_read"))) from of_decide_eq_true (gx 18 rfl))
    (fun_of E_lines_read)
    (show PySem.W.nsIn K mainGlobals "is_line" = some (some (.ref (He.ga K "is_line"))) from of_decide_eq_true (gx 19 rfl))
    (fun_of E_is_line)
    (show PySem.W.nsIn K mainGlobals "line_of" = some (some (.ref (He.ga K "line_of"))) from of_decide_eq_true (gx 20 rfl))
    (fun_of E_line_of)
    (show PySem.W.nsIn K mainGlobals "begin_of" = some (some (.ref (He.ga K "begin_of"))) from of_decide_eq_true (gx 21 rfl))
    (fun_of E_begin_of)
    (show PySem.W.nsIn K mainGlobals "both_shown" = some (some (.ref (He.ga K "both_shown"))) from of_decide_eq_true (gx 22 rfl))
    (fun_of E_both_shown)
    (show PySem.W.nsIn K mainGlobals "pairs_behind" = some (some (.ref (He.ga K "pairs_behind"))) from of_decide_eq_true (gx 23 rfl))
    (fun_of E_pairs_behind)
    (show PySem.W.nsIn K mainGlobals "parting_place" = some (some (.ref (He.ga K "parting_place"))) from of_decide_eq_true (gx 24 rfl))
    (fun_of E_parting_place)
    (show PySem.W.nsIn K mainGlobals "are_led_together" = some (some (.ref (He.ga K "are_led_together"))) from of_decide_eq_true (gx 25 rfl))
    (fun_of E_are_led_together)
    (show PySem.W.nsIn K mainGlobals "leader_of" = some (some (.ref (He.ga K "leader_of"))) from of_decide_eq_true (gx 26 rfl))
    (fun_of E_leader_of)
    (show PySem.W.nsIn K mainGlobals "straying_place" = some (some (.ref (He.ga K "straying_place"))) from of_decide_eq_true (gx 27 rfl))
    (fun_of E_straying_place)
    (show PySem.W.nsIn K mainGlobals "told_of" = some (some (.ref (He.ga K "told_of"))) from of_decide_eq_true (gx 28 rfl))
    (fun_of E_told_of)
    (show PySem.W.nsIn K mainGlobals "parted" = some (some (.ref (He.ga K "parted"))) from of_decide_eq_true (gx 29 rfl))
    (fun_of E_parted)
    (show PySem.W.nsIn K mainGlobals "walk_of" = some (some (.ref (He.ga K "walk_of"))) from of_decide_eq_true (gx 30 rfl))
    (fun_of E_walk_of)
    (show PySem.W.nsIn K mainGlobals "pairs" = some (some (.ref (He.ga K "pairs"))) from of_decide_eq_true (gx 31 rfl))
    (fun_of E_pairs)
    (show PySem.W.nsIn K mainGlobals "pairs_fault" = some (some (.ref (He.ga K "pairs_fault"))) from of_decide_eq_true (gx 32 rfl))
    (fun_of E_pairs_fault)
    (show PySem.W.nsIn K mainGlobals "is_pair" = some (some (.ref (He.ga K "is_pair"))) from of_decide_eq_true (gx 33 rfl))
    (fun_of E_is_pair)
    (show PySem.W.nsIn K mainGlobals "is_rest" = some (some (.ref (He.ga K "is_rest"))) from of_decide_eq_true (gx 34 rfl))
    (fun_of E_is_rest)
    (show PySem.W.nsIn K mainGlobals "step_fault" = some (some (.ref (He.ga K "step_fault"))) from of_decide_eq_true (gx 35 rfl))
    (fun_of E_step_fault)
    (show PySem.W.nsIn K mainGlobals "within" = some (some (.ref (He.ga K "within"))) from of_decide_eq_true (gx 36 rfl))
    (fun_of E_within)
    (show PySem.W.nsIn K mainGlobals "parting_handler" = some (some (.ref (He.ga K "parting_handler"))) from of_decide_eq_true (gx 37 rfl))
    (fun_of E_parting_handler)
    (show PySem.W.nsIn K mainGlobals "_law_source_of" = some (some (.ref (He.ga K "_law_source_of"))) from of_decide_eq_true (gx 38 rfl))
    (fun_of E_law_source_of)
    (show PySem.W.nsIn K mainGlobals "_law_next" = some (some (.ref (He.ga K "_law_next"))) from of_decide_eq_true (gx 39 rfl))
    (fun_of E_law_next)
    (show PySem.W.nsIn K mainGlobals "_law_one" = some (some (.ref (He.ga K "_law_one"))) from of_decide_eq_true (gx 40 rfl))
    (fun_of E_law_one)
    (show PySem.W.nsIn K mainGlobals "_law_mixed" = some (some (.ref (He.ga K "_law_mixed"))) from of_decide_eq_true (gx 41 rfl))
    (fun_of E_law_mixed)
    (show PySem.W.nsIn K mainGlobals "_law_said" = some (some (.ref (He.ga K "_law_said"))) from of_decide_eq_true (gx 42 rfl))
    (fun_of E_law_said)
    (show PySem.W.nsIn K mainGlobals "_law_mismatch_right" = some (some (.ref (He.ga K "_law_mismatch_right"))) from of_decide_eq_true (gx 43 rfl))
    (funC_of (p := ("_law_mismatch_right", none)) E_law_mismatch_right)
    (show PySem.W.nsIn K mainGlobals "law" = some (some (.ref (He.ga K "law"))) from of_decide_eq_true (gx 44 rfl))
    (fun_of E_law)
    (show PySem.W.nsIn K mainGlobals "AskError" = some (some (.ref (He.ga K "AskError"))) from of_decide_eq_true (gx 45 rfl))
    (show PySem.W.nsIn K mainGlobals "Mismatch" = some (some (.ref (He.ga K "Mismatch"))) from of_decide_eq_true (gx 46 rfl))
    (show PySem.W.nsIn K mainGlobals "Body" = some (some (.ref (He.ga K "Body"))) from of_decide_eq_true (gx 47 rfl))
    (show PySem.W.nsIn K mainGlobals "Machine" = some (some (.ref (He.ga K "Machine"))) from of_decide_eq_true (gx 48 rfl))
    (show PySem.W.nsIn K mainGlobals "Walk" = some (some (.ref (He.ga K "Walk"))) from of_decide_eq_true (gx 49 rfl))
    (He.cls_ok (c.d.fact 0 (f := .cls "Body") rfl))
    (gx 50 rfl)
    (show PySem.W.findIn K (.ref (He.ga K "Body")) "__init__" = some (some (.ref (He.ma K (He.ga K "Body") "__init__"))) from of_decide_eq_true (gx 51 rfl))
    (gx 52 rfl)
    (gx 53 rfl)
    (He.cls_ok (c.d.fact 1 (f := .cls "Machine") rfl))
    (gx 54 rfl)
    (show PySem.W.findIn K (.ref (He.ga K "Machine")) "__init__" = some (some (.ref (He.ma K (He.ga K "Machine") "__init__"))) from of_decide_eq_true (gx 55 rfl))
    (gx 56 rfl)
    (gx 57 rfl)
    (He.cls_ok (c.d.fact 2 (f := .cls "Walk") rfl))
    (gx 58 rfl)
    (show PySem.W.findIn K (.ref (He.ga K "Walk")) "__init__" = some (some (.ref (He.ma K (He.ga K "Walk") "__init__"))) from of_decide_eq_true (gx 59 rfl))
    (gx 60 rfl)
    (gx 61 rfl)
    (fun_of E_FM)
    (fun_of E_FW)
    (show PySem.W.findIn K (.ref (He.ga K "Walk")) "take" = some (some (.ref (He.ma K (He.ga K "Walk") "take"))) from of_decide_eq_true (gx 62 rfl))
    ⟨rawX_ok (gx 63 rfl), (show PySem.W.findIn K (.ref (He.ga K "Mismatch")) "__getattribute__" = some (some (.builtin "BaseException.__getattribute__")) from of_decide_eq_true (gx 64 rfl)), (show PySem.W.findIn K (.ref (He.ga K "Mismatch")) "__getattr__" = some none from of_decide_eq_true (gx 65 rfl)), (show PySem.W.findIn K (.ref (He.ga K "Mismatch")) "__class__" = some (some (.builtin "object.__class__")) from of_decide_eq_true (gx 66 rfl)), (show PySem.W.findIn K (.ref (He.ga K "Mismatch")) "__setattr__" = some (some (.builtin "object.__setattr__")) from of_decide_eq_true (gx 67 rfl)), (show PySem.W.typeIn K (.ref (He.ga K "Mismatch")) = some (.type "type") from of_decide_eq_true (gx 68 rfl)), (gx 69 rfl), (gx 70 rfl)⟩
    (show PySem.W.findIn K (.ref (He.ga K "Mismatch")) "__init__" = some (some (.ref (He.ma K (He.ga K "Mismatch") "__init__"))) from of_decide_eq_true (gx 71 rfl))
    (show PySem.W.typeIn K (.ref (He.ma K (He.ga K "Mismatch") "__init__")) = some (.type "function") from of_decide_eq_true (gx 72 rfl))
    (show PySem.W.findIn K (.ref (He.ga K "Mismatch")) "operation" = some none from of_decide_eq_true (gx 73 rfl))
    (fun_of E_FE)
    (show PySem.W.subIn K (.ref (He.ga K "AskError")) (.type "BaseException") = some true from of_decide_eq_true (gx 74 rfl))
    (gx 75 rfl)
    (show PySem.W.typeIn K (.ref (He.ga K "AskError")) = some (.type "type") from of_decide_eq_true (gx 76 rfl))
    (show PySem.W.specialIn K (.builtin "object.__class__") "__get__" = some (some (.builtin "getset_descriptor.__get__")) from of_decide_eq_true (gx 77 rfl))
    (show PySem.W.takesIn K (.builtin "object.__class__") = some true from of_decide_eq_true (gx 78 rfl))
    (c.hd _ List.mem_cons_self)
    (c.out _ List.mem_cons_self)
    (fun_of E_FT)
    (gx 79 rfl)
    ⟨oc, od, doc, pm, an, cdv, ct, osl, eB, lB, cB⟩
    E_FB.kp
    eD
    (show PySem.W.findIn K (.ref (He.ga K "Machine")) "counts" = some none from of_decide_eq_true (gx 80 rfl))
    (show PySem.W.findIn K (.ref (He.ga K "Machine")) "lines" = some none from of_decide_eq_true (gx 81 rfl))
    (show PySem.W.findIn K (.ref (He.ga K "Machine")) "begin" = some none from of_decide_eq_true (gx 82 rfl))
    (show PySem.W.findIn K (.ref (He.ga K "Machine")) "stops" = some none from of_decide_eq_true (gx 83 rfl))
    (show PySem.W.findIn K (.ref (He.ga K "Machine")) "asks" = some none from of_decide_eq_true (gx 84 rfl))
    (show PySem.W.findIn K (.ref (He.ga K "Machine")) "endings" = some none from of_decide_eq_true (gx 85 rfl))
    (show PySem.W.findIn K (.ref (He.ga K "Machine")) "endless" = some none from of_decide_eq_true (gx 86 rfl))
    (show PySem.W.findIn K (.ref (He.ga K "Body")) "machine" = some none from of_decide_eq_true (gx 87 rfl))
    (show PySem.W.findIn K (.ref (He.ga K "Walk")) "one" = some none from of_decide_eq_true (gx 88 rfl))
    (show PySem.W.findIn K (.ref (He.ga K "Walk")) "other" = some none from of_decide_eq_true (gx 89 rfl))
    (show PySem.W.findIn K (.ref (He.ga K "Walk")) "met" = some none from of_decide_eq_true (gx 90 rfl))
    (show PySem.W.findIn K (.ref (He.ga K "Walk")) "origins" = some none from of_decide_eq_true (gx 91 rfl))
    (show PySem.W.nsIn K mainGlobals "int" = some none from of_decide_eq_true (gx 92 rfl))
    (show PySem.W.nsIn K mainGlobals "isinstance" = some none from of_decide_eq_true (gx 93 rfl))
    (show PySem.W.nsIn K mainGlobals "bool" = some none from of_decide_eq_true (gx 94 rfl))
    (show PySem.W.nsIn K mainGlobals "str" = some none from of_decide_eq_true (gx 95 rfl))
    (show PySem.W.nsIn K mainGlobals "list" = some none from of_decide_eq_true (gx 96 rfl))
    (show PySem.W.nsIn K mainGlobals "tuple" = some none from of_decide_eq_true (gx 97 rfl))
    (show PySem.W.nsIn K mainGlobals "dict" = some none from of_decide_eq_true (gx 98 rfl))
    (show PySem.W.nsIn K mainGlobals "len" = some none from of_decide_eq_true (gx 99 rfl))
    (show PySem.W.nsIn K mainGlobals "all" = some none from of_decide_eq_true (gx 100 rfl))
    (show PySem.W.nsIn K mainGlobals "range" = some none from of_decide_eq_true (gx 101 rfl))
    (show PySem.W.nsIn K mainGlobals "sorted" = some none from of_decide_eq_true (gx 102 rfl))
    (show PySem.W.nsIn K mainGlobals "min" = some none from of_decide_eq_true (gx 103 rfl))
    (show PySem.W.nsIn K mainGlobals "enumerate" = some none from of_decide_eq_true (gx 104 rfl))
    (show PySem.W.nsIn K mainGlobals "zip" = some none from of_decide_eq_true (gx 105 rfl))
    eL
    e_t1
    e_t2
    e_t3
    e_t4
    (c.empty _ List.mem_cons_self)
end Mine

set_option maxRecDepth 100000
set_option maxHeartbeats 4000000
namespace Mine
theorem runL (w : PySem.World) : HandSHeadRun.RunEq Rw (PySem.W.view Rw.prog [114]) hkL obL 9000 looseL w := by
  intro os
  kernel_rfl
end Mine
open PySem PySem.W PySem.Calls PyProof.Rows
set_option maxHeartbeats 0 in
theorem PySem.Challenge.cw_askfurther_k24_what_are_no_pairs_holds : PySem.Challenge.rw_askfurther_k24_what_are_no_pairs.Holds := by
  w_on; o_law
  refine HandSHeadRun.head_any (r := OpenLaw.row PySem.Challenge.rw_askfurther_k24_what_are_no_pairs) (q := view (OpenLaw.row PySem.Challenge.rw_askfurther_k24_what_are_no_pairs).prog [114]) (H := Mine.hkL) (ob := Mine.obL) (M := 9000) (loose := Mine.looseL) (d := HandSHeadRun.topDef (OpenLaw.row PySem.Challenge.rw_askfurther_k24_what_are_no_pairs).prog 114) (kwd := []) Mine.obL_eq
    (by kernel_rfl) (fun s => by kernel_rfl) Mine.runL (by kernel_rfl) (by kernel_rfl) (by kernel_rfl) (by rfl) (by first | assumption | decide +kernel) (by decide +kernel) ⟨rfl, rfl, rfl, rfl, rfl, by decide +kernel⟩ ?hw ?hc
  case hw => w_witness2
  case hc =>
    refine LamX.walk_ofTsE (l := PySem.Challenge.rw_askfurther_k24_what_are_no_pairs) (n := 63) (k := 10) (x := "_law_script") (CX := fun _ => L2.CX0) rfl (by decide) (by kernel_rfl) ⟨rfl, by decide, by decide⟩ ?F (fun _ _ _ _ _ z => z)
    intro w mg fa h Y G hmg0
    obtain ⟨K, KX, c⟩ := Y
    have hmg : mg ("law" : PySem.Str) = some (.ref fa) := by
      have e : (HandSHeadRun.topDef (OpenLaw.row PySem.Challenge.rw_askfurther_k24_what_are_no_pairs).prog 114).name = ("law" : PySem.Str) := by kernel_rfl
      rw [← e]
      exact hmg0
    exact ⟨K, KX, Mine.all24 KX G hmg c⟩
