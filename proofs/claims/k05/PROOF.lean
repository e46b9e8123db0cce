import PyProof.Rows.All
import Wide.All
import OpenK.AllK
import Wide.FinOn
import HandS.Head0
import HandS.Head1
import HandS.Head2
import HandS.HeadEnd
import HandS.HeadHook1
import HandS.HeadHook2
import HandS.HeadHook3
import HandS.HeadHook4
import HandS.HeadWalk
import HandS.ForMost
import HandS.Exc
import HandS.ExcInit
import HandS.ExcIs
import HandS.IsInst
import HandS.Wide
import HandS.Defaults
import HandS.ExcValue
import HandS.ExcOwn
import HandS.Lambda
import HandS.EndTab
import HandS.EndOwn
import HandS.NestedK
import HandS.Words
import PyProof.EnumMake
import KE.GoesMore
import KE.GoesEnum
import KE.KDictLaws
import PyProof.DictMoreH
import HandS.SetKeys
import PyProof.WalksS
import PyProof.ConsumeS
import PyProof.WalkInts
import HandS.SortKw
import HandS.DictComp
import HandS.Walk
import HandS.Ends
import HandS.Small
import PyProof.Rows.SortStr
import PyProof.Rows.StrMeet
import KE.SortData
import HandS.More
import HandS.TupLen
import HandS.Nested
import KE.KDflt
import HandS.Comp
import HandS.Conv
import HandS.Text
import HandS.FStr
import HandS.RaiseMore
import HandS.OwnEq
import HandS.Property
import PyProof.InstNe
import HandS.WordsDict
import HandS.TupAny
import HandS.Zip
import HandS.Style
import HandS.MakeKwOnly
import PySem.Challenge.RW_askfurther_k05_great_bodies
set_option Elab.async false
set_option linter.all false
set_option maxRecDepth 100000
set_option maxHeartbeats 2000000
/-! a head by facts for a program of many defs: what is looked at is reached by few steps, no address is asked twice -/
namespace He2
open PySem PySem.Spec PyProof.Rows L2
/-- what is followed: a namespace's values, a def's code and its keyword defaults, a class's namespace -/
def refs1 (o : Obj) : List Addr := match o.data with
  | .dict es _ => es.toList.flatMap fun e => He.refV e.val
  | .func fd => He.refV fd.code ++ He.refV fd.kwdefaults
  | .cls cd => [cd.ns]
  | _ => []
def nxt (g : Addr → Option Obj) (as : List Addr) : List Addr := as.flatMap fun a => match g a with
  | some o => refs1 o
  | none => []
def reach (g : Addr → Option Obj) : List Addr := [mainGlobals] ++ (nxt g [mainGlobals] ++ (nxt g (nxt g [mainGlobals]) ++ (nxt g (nxt g (nxt g [mainGlobals])) ++ nxt g (nxt g (nxt g (nxt g [mainGlobals]))))))
structure SaysY (fa : List He.Fa) (fn : List He.DefD) (tf : List He.Defn) (ex : PySem.W.Frag → Bool) (h : Heap) (K : PySem.W.Frag) : Prop where
  d : He.SaysD fa fn K
  more : ex K = true
  hd : ∀ p ∈ tf, PySem.W.codeHdIn K (He.cT K p).1 (He.cT K p).2 = true
  out : ∀ p ∈ tf, K.lookup (He.cT K p).2 = none
  empty : ∀ p ∈ tf, h.get? (He.cT K p).2 = some { cls := .none, data := .fields #[] }
abbrev AlY : Type := He.AlD × Bool
def obsK (fa : List He.Fa) (fn : List He.DefD) (tf : List He.Defn) (ex : PySem.W.Frag → Bool) (g : Addr → Option Obj) (K : PySem.W.Frag) : AlY := (He.obsD fa fn K, ex K && He.tabsB g tf K)
def obsY (fa : List He.Fa) (fn : List He.DefD) (tf : List He.Defn) (ex : PySem.W.Frag → Bool) (g : Addr → Option Obj) : AlY := obsK fa fn tf ex g (He.frT g (reach g))
def valY (fn : List He.DefD) : AlY := (He.valD fn, true)
theorem saysY_of {fa : List He.Fa} {fn : List He.DefD} {tf : List He.Defn} {ex : PySem.W.Frag → Bool} {h : Heap} (e : obsY fa fn tf ex h.get? = valY fn) : SaysY fa fn tf ex h (He.frT h.get? (reach h.get?)) := by
  have e1 : He.obsD fa fn (He.frT h.get? (reach h.get?)) = He.valD fn := congrArg (fun z : AlY => z.1) e
  have e2 : (ex (He.frT h.get? (reach h.get?)) && He.tabsB h.get? tf (He.frT h.get? (reach h.get?))) = true := congrArg (fun z : AlY => z.2) e
  obtain ⟨h1, h2⟩ := He.ba e2
  have key : ∀ p ∈ tf, PySem.W.codeHdIn (He.frT h.get? (reach h.get?)) (He.cT (He.frT h.get? (reach h.get?)) p).1 (He.cT (He.frT h.get? (reach h.get?)) p).2 = true ∧ ∃ o, h.get? (He.cT (He.frT h.get? (reach h.get?)) p).2 = some o ∧ He.emptyTab o = true := fun p hp => by
    obtain ⟨h3, h4⟩ := He.ba (List.all_eq_true.mp h2 p hp)
    refine ⟨h3, ?_⟩
    cases q : h.get? (He.cT (He.frT h.get? (reach h.get?)) p).2 with
    | none =>
      rw [q] at h4
      cases h4
    | some o =>
      rw [q] at h4
      exact ⟨o, rfl, h4⟩
  exact ⟨e1, h1, fun p hp => (key p hp).1, fun p hp => by
    obtain ⟨_, o, q, z⟩ := key p hp
    exact He.frT_none q z, fun p hp => by
    obtain ⟨_, o, q, z⟩ := key p hp
    rw [q, He.emptyTab_eq z]⟩
def hookY (fa : List He.Fa) (fn : List He.DefD) (tf : List He.Defn) (ex : PySem.W.Frag → Bool) : PySem.W.Hook where
  α := AlY
  obs := fun s => obsY fa fn tf ex s.heap.get?
  val := fun _ => valY fn
  says := fun _ h => ∃ K : PySem.W.Frag, K.In h ∧ SaysY fa fn tf ex h K
  of := fun _ _ e => ⟨_, He.frT_in, saysY_of e⟩
  keeps := fun _ _ _ ⟨K, hK, c⟩ k => ⟨K, PySem.W.Frag.In.keeps hK k, ⟨c.d, c.more, c.hd, c.out, fun p hp => k _ _ (c.empty p hp)⟩⟩
theorem obsY_eq {fa : List He.Fa} {fn : List He.DefD} {tf : List He.Defn} {ex : PySem.W.Frag → Bool} {g : Addr → Option Obj} {s : Shared} (h : ∀ a, g a = s.heap.get? a) : obsY fa fn tf ex g = (hookY fa fn tf ex).obs s := by
  have e : g = s.heap.get? := funext h
  rw [e] <;> rfl
end He2

set_option maxRecDepth 100000
set_option maxHeartbeats 4000000
/-! Own error classes over ValueError, made as values: with keywords, without an own __init__; what isinstance says of them; their fields. -/
namespace PySem
namespace ExoX
open PySem.HandSPX
open Builtin Builtin.ObjectAttr
section
variable {prog : Program} {w : World} {A : Around} {R : Result → Shared → Prop} {Er : Value → Shared → Prop}
variable {hp : Heap} {gs : Array GenState} {dr : Drawn} {tk : Nat} {os : OsState} {kw : List (Str × Value)} {rs : List Value}
variable {nm qn : Str} {Cl Nm : Addr} {bss bm bB sb : List Value} {hd ab : Bool} {sl : List Str} {cl : Option Bool} {dd : Option Addr} {y0 y1 y2 y3 y5 : Option Value} {Bs nI iI : String}
abbrev cobj (nm qn : Str) (Cl Nm : Addr) (bss bm : List Value) (hd : Bool) (sl : List Str) (sb : List Value) (ab : Bool) (cl : Option Bool) (dd : Option Addr) (y0 y1 y2 y3 y5 : Option Value) (nI : String) : Obj :=
  excClassObj nm qn Cl Nm bss bm hd sl sb ab cl dd y0 y1 y2 y3 y5 nI
/-- the check ahead of __new__, with keywords -/
theorem checkNewKw (F : ExcBaseFacts Bs nI iI bB) (hc : ∀ T : String, bm.contains (.type T) = bB.contains (.type T)) {Q : Unit → Shared → Prop}
    (ho : hp.get? Cl = some (cobj nm qn Cl Nm bss bm hd sl sb ab cl dd y0 y1 y2 y3 y5 nI)) (q : Q () ⟨hp, gs, dr, tk, os⟩) :
    wpAny (model prog w) A (checkBuiltinCall nI ⟨.ref Cl :: rs, kw⟩) Q Er ⟨hp, gs, dr, tk, os⟩ := by
  have c1 : (Value.ref Cl :: bm).contains (.type Bs) = true := by
    rw [List.contains_cons, hc, F.hasB, Bool.or_true]
  have c2 := F.noStar
  simp only [checkBuiltinCall, F.newKind, F.newSplit, F.newRow]
  repeat (first
    | refine wpAny_loadPart_at ho ?_
    | (refine wpAny_isSubtype_exc ho ?_; rw [c1])
    | refine wpAny_staticBase_exc ho ?_
    | refine wpAny_madeBy_exc ho ?_
    | simp only [bne_self_eq_false, Bool.false_eq_true, if_false]
    | wp_step)
  exact q
end
section
variable {prog : Program} {w : World} {A : Around} {R : Result → Shared → Prop} {Er : Value → Shared → Prop}
variable {hp : Heap} {gs : Array GenState} {dr : Drawn} {tk : Nat} {os : OsState} {kw : List (Str × Value)} {rs : List Value}
variable {nm qn : Str} {Cl Nm fI : Addr} {bss bm bB sb : List Value} {hd ab : Bool} {sl : List Str} {cl : Option Bool} {dd : Option Addr} {y0 y1 y2 y3 y5 : Option Value} {Bs nI iI : String}
/-- the two objects that __new__ lays -/
abbrev laid (hp : Heap) (rs : List Value) (Cl : Addr) : Heap := (hp.push (PySem.W.kdv_tup rs)).push (excO Cl hp.objs.size)
theorem newKw (F : ExcBaseFacts Bs nI iI bB) (hc : ∀ T : String, bm.contains (.type T) = bB.contains (.type T))
    (ho : hp.get? Cl = some (cobj nm qn Cl Nm bss bm hd sl sb ab cl dd y0 y1 y2 y3 y5 nI)) (hl : rs.length ≤ sizeLine)
    (q : R (.ok (.ret (.ref (hp.objs.size + 1)))) ⟨laid hp rs Cl, gs, dr, tk, os⟩) :
    codeAny (model prog w) A (.builtin nI ⟨.ref Cl :: rs, kw⟩) R ⟨hp, gs, dr, tk, os⟩ := by
  have c0 := F.ends
  have c1 : (Value.ref Cl :: bm).contains (.type Bs) = true := by
    rw [List.contains_cons, hc, F.hasB, Bool.or_true]
  have c2 : (Value.ref Cl :: bm).contains (.type "AttributeError") = false := by
    rw [List.contains_cons, hc, F.noAttr]
    rfl
  have c3 : (Value.ref Cl :: bm).contains (.type "NameError") = false := by
    rw [List.contains_cons, hc, F.noName]
    rfl
  refine codeAny_builtinAt F.entry ?_
  unfold Builtin.«BaseException.__new__»
  refine wpAt_bind ?_
  show wpAt _ _ _ (stack >>= _) _ _ _
  refine wpAt_bind (wpAt_stack fun p below => wpAt_of_wpAny ?_)
  wp_walk
  refine wpAt_of_wpAny ?_
  rw [F.owner]
  repeat (first
    | with_reducible refine wpAny_madeHere_exc F.canon ho ?_
    | with_reducible refine wpAny_loadPart_at ho ?_
    | (with_reducible refine wpAny_isSubtype_exc ho ?_; first | rw [c1] | rw [c2] | rw [c3])
    | wp_step)
  show R _ _
  rw [Heap.size_push]
  exact q
theorem typeCallKw (F : ExcBaseFacts Bs nI iI bB) (hc : ∀ T : String, bm.contains (.type T) = bB.contains (.type T)) {Q : Fin → Shared → Prop}
    (ho : hp.get? Cl = some (cobj nm qn Cl Nm bss bm hd sl sb ab cl dd y0 y1 y2 y3 y5 nI))
    (li : PySem.W.Looks (model prog w) hp (typeLookup (.ref Cl) "__init__") (some (.ref fI)))
    (lb : ∀ self, PySem.W.Looks (model prog w) hp (bindSpecial (.ref fI) self) (.ref fI, [self])) (hl : rs.length ≤ sizeLine)
    (q : codeAny (model prog w) A (.call (.ref fI) ⟨.ref (hp.objs.size + 1) :: rs, kw⟩)
      (fun r s' => match r with | .ok (.ret v) => v = .none ∧ Q (.done (.ret (.ref (hp.objs.size + 1)))) s' | .ok _ => False | .error e => Er e s')
      ⟨laid hp rs Cl, gs, dr, tk, os⟩) :
    wpAny (model prog w) A (Builtin.«type.__call__» ⟨.ref Cl :: rs, kw⟩) Q Er ⟨hp, gs, dr, tk, os⟩ := by
  repeat (first
    | with_reducible refine wpAny_loadPart_at ho ?_
    | with_reducible refine wpAny_madeBy_exc ho ?_
    | wp_step)
  refine codeAny_call_builtin_code (Code.quiet_builtin _ F.quiet) (checkNewKw F hc ho ?_)
  refine newKw F hc ho hl ?_
  show wpAny _ _ _ _ _ _
  have kp : ∀ b o, hp.get? b = some o → (laid hp rs Cl).get? b = some o := fun b o e =>
    Heap.get?_push_of_some _ (Heap.get?_push_of_some _ e)
  have ho1 := kp _ _ ho
  have hx : (laid hp rs Cl).get? (hp.objs.size + 1) = some (excO Cl hp.objs.size) := by heap_get
  have cc : (Value.ref Cl :: bm).contains (.ref Cl) = true := by simp
  have li1 := li.keeps kp
  have lb1 := (lb (.ref (hp.objs.size + 1))).keeps kp
  unfold isInstance
  repeat (first
    | with_reducible refine wpAny_loadPart_at hx ?_
    | (with_reducible refine wpAny_isSubtype_exc ho1 ?_; rw [cc])
    | wp_step)
  show wpAny _ _ (typeLookup (.ref Cl) _) _ _ _
  refine li1.at ?_
  refine wpAny_holding (wpAny_bind (lb1.at ?_))
  refine wpAny_bind (wpAny_call (codeAny_mono q fun r s' z => ?_))
  rcases r with e | (v | _ | _ | _) <;> first | exact z | exact z.elim | skip
  obtain ⟨rfl, z⟩ := z
  first
    | exact wpAny_pure (wpAny_pure z)
    | (wp_walk; exact z)
/-- C(.., k = v ..): the object is laid, then C's own __init__ runs -/
theorem callKw (F : ExcBaseFacts Bs nI iI bB) (hc : ∀ T : String, bm.contains (.type T) = bB.contains (.type T))
    (ho : hp.get? Cl = some (cobj nm qn Cl Nm bss bm hd sl sb ab cl dd y0 y1 y2 y3 y5 nI))
    (li : PySem.W.Looks (model prog w) hp (typeLookup (.ref Cl) "__init__") (some (.ref fI)))
    (lb : ∀ self, PySem.W.Looks (model prog w) hp (bindSpecial (.ref fI) self) (.ref fI, [self])) (hl : rs.length ≤ sizeLine)
    (q : codeAny (model prog w) (A.under (.builtin "type.__call__" ⟨.ref Cl :: rs, kw⟩)) (.call (.ref fI) ⟨.ref (hp.objs.size + 1) :: rs, kw⟩)
      (PySem.W.InitBack (hp.objs.size + 1) R) ⟨laid hp rs Cl, gs, dr, tk, os⟩) :
    codeAny (model prog w) A (.call (.ref Cl) ⟨rs, kw⟩) R ⟨hp, gs, dr, tk, os⟩ := by
  have f1 := tc_lookup
  have f2 := tc_bind (.ref Cl)
  have hty : (⟨hp, gs, dr, tk, os⟩ : Shared).TypeIs (.ref Cl) "type" := ⟨_, ho, rfl⟩
  refine codeAny_of_tree ?_
  show wpAny _ _ (callAny (.ref Cl) _) _ _ _
  repeat (any_goals (first
    | assumption
    | with_reducible refine wpAny_loadPart_at ho ?_
    | wp_step))
  refine ⟨rfl, ?_⟩
  refine codeAny_call_builtin_at (Code.quiet_builtin _ (by decide +kernel)) entry_typeCall (wpAny_check_type_call_sub ho (typeCallKw F hc ho li lb hl ?_))
  refine codeAny_mono q fun r s' z => ?_
  rcases r with e | (v | _ | _ | _) <;> exact z
end
end ExoX
end PySem

set_option maxRecDepth 100000
set_option maxHeartbeats 4000000
namespace L2
open PySem PySem.Spec PyProof.Rows
section
variable {X : Cx} {CX : CXT} {k n : Nat} {fI C : Addr} {fd : FuncData} {ps ks : List Str} {sp : Sp} {E : XK} {g : List Value → List Value → List Value} {gV : List V → List V → List V}
variable {pins : List (Addr × Obj)} {σ : St} {H : Hp} {s : Shared} {x : Str} {p pos : Pos} {e : Expr} {es : List Expr} {kws : List Keyword} {t tk : TA}
/-- the object is laid, C's own __init__ keeps sp -/
theorem run_exo {Q : VK} {us ws : List Value} {vs zs : List V} (T : OexC X.K C) (iC : PySem.W.findIn X.K (.ref C) "__init__" = some (some (.ref fI)))
    (tI : PySem.W.typeIn X.K (.ref fI) = some (.type "function")) (F : FnOk X.prog X.w X.K X.mg X.base CX k fI fd ps sp) (hr : Room (k + 1) X.A)
    (hb : KBn X.K fd ps (n + 1) ks g gV) (hx : Passes CX X E) (I : Inv X pins σ H s) (r : Vals vs us) (rz : Vals zs ws) (l1 : vs.length = n) (l2 : zs.length = ks.length) (l3 : n ≤ 1000)
    (h : ∀ a, H a = none → sp (gV (.ref a :: vs) zs) (upd H a (exo a C none)) (fun v H2 => v = .non ∧ Q (.ref a) H2) E) :
    wpAny (model X.prog X.w) X.A (call (.ref C) us (ks.zip ws)) (EP X pins σ Q) X.xe s := by
  obtain ⟨nm, q, N, bs, bm, sn, sub, ab, col, dd, k0, k1, k2, k3, k5, hC, hbm⟩ := T.cls
  obtain ⟨hp, gs, dr, t0, os⟩ := s
  have up : hp.objs.size ≤ hp.objs.size + 1 := Nat.le_succ _
  have hq := h (hp.objs.size + 1) (I.hok.fresh up)
  have kk : ∀ b o, hp.get? b = some o → (PySem.ExoX.laid hp us C).get? b = some o := fun b o z =>
    Heap.get?_push_of_some _ (Heap.get?_push_of_some _ z)
  have hg : (PySem.ExoX.laid hp us C).get? (hp.objs.size + 1) = some (PySem.HandSPX.excO C hp.objs.size) := by heap_get
  have I2 : Inv X pins σ (upd H (hp.objs.size + 1) (exo (hp.objs.size + 1) C none)) ⟨PySem.ExoX.laid hp us C, gs, dr, t0, os⟩ :=
    I.laid (t' := t0) (a := hp.objs.size + 1) (o := exo (hp.objs.size + 1) C none) (h' := PySem.ExoX.laid hp us C) kk up (exo_ok hg)
  have r1 : Vals (V.ref (hp.objs.size + 1) :: vs) (Value.ref (hp.objs.size + 1) :: us) := .cons rfl r
  have r2 := hb.rel r1 rz
  have e1 : (Value.ref (hp.objs.size + 1) :: us).length = n + 1 := r1.length.symm.trans (congrArg Nat.succ l1)
  have e2 : ws.length = ks.length := rz.length.symm.trans l2
  have hus : us.length ≤ sizeLine := by
    rw [← r.length, l1, sizeLine_eq]
    omega
  refine wpAny_call (PySem.ExoX.callKw PySem.F.excBase_ValueError (fun Y => PySem.HandSPX.refsVE_contains Y bm hbm) (I.kIn _ _ hC) (PySem.W.looks_findIn I.kIn iC) (fun self => PySem.W.bind_fn I.kIn self tI) hus ?_)
  refine codeAny_mono (F.run _ X.stack _ _ ⟨Value.ref (hp.objs.size + 1) :: us, ks.zip ws⟩ (g (Value.ref (hp.objs.size + 1) :: us) ws) _ _ E (hr.make C us (ks.zip ws)) (I2.env0.make C us (ks.zip ws)) (hb.to _ (Value.ref (hp.objs.size + 1) :: us) ws I2.kIn e1 e2) r2 hq) fun r s' hq' => ?_
  cases r with
  | error er => exact hx pins σ _ _ er s' I2 hq'
  | ok fl =>
    cases fl with
    | ret u =>
      obtain ⟨v, H', I3, rv, ev, q3⟩ := I2.after hq'
      subst ev
      exact ⟨rv, ⟨V.ref (hp.objs.size + 1), H', I3, rfl, q3⟩⟩
    | next => exact False.elim hq'
    | brk => exact False.elim hq'
    | cont => exact False.elim hq'
/-- C(e, .., k = v, ..) as a value -/
def tExoN (C : Addr) (n m : Nat) (sp : Sp) (gV : List V → List V → List V) (E : XK) (t tk : TA) : TE := fun σ H Q => t σ H fun vs H1 => tk σ H1 fun zs H2 => vs.length = n ∧ zs.length = m ∧
  ∀ a, H2 a = none → sp (gV (.ref a :: vs) zs) (upd H2 a (exo a C none)) (fun v H3 => v = .non ∧ Q (.ref a) H3) E
theorem pe_exo1 (T : OexC X.K C) (iC : PySem.W.findIn X.K (.ref C) "__init__" = some (some (.ref fI))) (tI : PySem.W.typeIn X.K (.ref fI) = some (.type "function"))
    (F : FnOk X.prog X.w X.K X.mg X.base CX k fI fd ps sp) (hr : Room (k + 1) X.A) (hg : Gl X x) (hm : X.mg x = some (.ref C)) (hb : KBn X.K fd ps (n + 1) [] g gV) (hx : Passes CX X E) (l3 : n ≤ 1000)
    (ha : PA X (e :: es) t) (hdb : (x == ("__debug__" : Str)) = false := by decide) (he : starEach (e :: es) X.env = (false, eval e X.env) :: starEach es X.env := by rfl)
    (hpl : (backTo pos (starEach es X.env)).any (·.1) = false := by rfl) :
    PE X (.Call (.Name x p) (e :: es) [] pos) (tExoN C n 0 sp gV E t tNil) := by
  refine ⟨fun pins s σ H Q I h => ?_⟩
  refine wpAny_Call_Name_kw (ld_glob I hg hm ?_ hdb)
  refine PySem.W.callWith_K (h₀ := X.base) I.ok.mod.kin T.kC (thn (ha.run pos pins s σ H _ I h) fun us s1 ⟨vs, H1, I1, r, l1, l2, q⟩ => ⟨I1.kIn, ?_⟩) he hpl
  exact run_exo (ks := []) (ws := []) (zs := []) T iC tI F hr hb hx I1 r .nil l1 rfl l3 q
/-- keywords alone -/
theorem pe_exoK (T : OexC X.K C) (iC : PySem.W.findIn X.K (.ref C) "__init__" = some (some (.ref fI))) (tI : PySem.W.typeIn X.K (.ref fI) = some (.type "function"))
    (F : FnOk X.prog X.w X.K X.mg X.base CX k fI fd ps sp) (hr : Room (k + 1) X.A) (hg : Gl X x) (hm : X.mg x = some (.ref C)) (hb : KBn X.K fd ps (0 + 1) ks g gV) (hx : Passes CX X E)
    (hkw : PK X kws tk) (hall : (backToKw pos (keywordEach kws X.env)).all (·.1.isSome) = true := by rfl) (hks : (backToKw pos (keywordEach kws X.env)).filterMap (·.1) = ks := by rfl)
    (hdb : (x == ("__debug__" : Str)) = false := by decide)
    (hpl : ((backTo pos (starEach [] X.env)).any (·.1) || (backToKw pos (keywordEach kws X.env)).any (·.1.isNone)) = false := by rfl) :
    PE X (.Call (.Name x p) [] kws pos) (tExoN C 0 ks.length sp gV E tNil tk) := by
  refine ⟨fun pins s σ H Q I h => ?_⟩
  refine wpAny_Call_Name_kw (ld_glob I hg hm ?_ hdb)
  refine PySem.W.callWith_KW0 (h₀ := X.base) I.ok.mod.kin T.kC hall (thn (hkw.run pos pins s σ H _ I h) fun ws s2 ⟨zs, H2, I2, rz, l1, l2, q2⟩ => ⟨I2.kIn, ?_⟩) hpl
  rw [hks]
  exact run_exo (us := []) (vs := []) T iC tI F hr hb hx I2 .nil rz l1 l2 (Nat.zero_le _) q2
/-- C(), a class without an own __init__ -/
def tExo0 (C : Addr) : TE := fun _ H Q => ∀ a, H a = none → Q (.ref a) (upd H a (exo a C none))
theorem pe_exo0 (q : PySem.W.excIn X.K C [.type "ValueError", .type "Exception", .type "BaseException", .type "object"] "ValueError.__new__" = true) (kC : PySem.W.keepIn X.K (.ref C) = true) (hg : Gl X x) (hm : X.mg x = some (.ref C))
    (hdb : (x == ("__debug__" : Str)) = false := by decide) : PE X (.Call (.Name x p) [] [] pos) (tExo0 C) := by
  refine ⟨fun pins s σ H Q I h => ?_⟩
  refine wpAny_Call_Name_kw (ld_glob I hg hm ?_ hdb)
  refine PySem.W.callWith_K0 I.kIn kC ?_
  show wpAny _ _ (call (.ref C) []) _ _ _
  obtain ⟨bm, N, nm, qn, bs, hdct, sn, sub, ab, col, dd, k0, k1, k2, k3, k5, mN, hC, hN, hni, T⟩ := exc_obj I.kIn q
  refine wpAny_call_exc_subT PySem.F.excBase_ValueError T hC hN hni (fun h' a hm => ?_) (by show 0 ≤ sizeLine; rw [sizeLine_eq]; omega)
  have hn : H a = none := I.hok.gone hm.new
  obtain ⟨t, ht, _, _⟩ := hm.there
  exact ⟨.ref a, upd H a (exo a C none), I.laidN hm.keeps hm.new hn (exo_ok ht), rfl, h a hn⟩
end
end L2

set_option maxRecDepth 100000
set_option maxHeartbeats 4000000
namespace PySem.ExoX
open PySem PySem.W PySem.Calls PyProof.Rows PySem.Spec
section
variable {prog : Program} {w : World} {A : Around} {Er : Value → Shared → Prop} {s : Shared} {K : Frag} {x D : Addr} {ob : Obj} {own : Option Obj}
/-- a class's own attribute that takes what is read off an instance, whatever the instance's dict holds -/
theorem find_data {nm : Str} {a g : Value} (c0 : (clsIn K D).isSome = true) (c1 : findIn K (.ref D) nm = some (some a)) (c2 : specialIn K a "__get__" = some (some g)) (c3 : takesIn K a = some true) :
    findObj K D own nm = some (.bind g a) := by
  obtain ⟨cd, c0⟩ := Option.isSome_iff_exists.mp c0
  unfold findObj
  rw [c0, Option.bind_some, c1, Option.bind_some]
  simp [c2, c3]
/-- e.__class__ of such an error, with or without a dict -/
theorem class_of {Q : Option Value → Shared → Prop} (T : L2.ExcC K D) (X : K.In s.heap) (I : InstAt s.heap x ob D own) (q : Q (some (.ref D)) { s with toks := s.toks + 1 }) :
    wpAny (model prog w) A (getAttr? (.ref x) "__class__") Q Er s := by
  have fd : findObj K D own "__class__" = some (.bind (.builtin "getset_descriptor.__get__") (.builtin "object.__class__")) :=
    find_data (by
      obtain ⟨cd, z, _⟩ := any_some T.hd
      rw [z]
      rfl) T.ha T.hn T.ht
  obtain ⟨hh, gg, dd, tt, oo⟩ := s
  have l0 := I.type (M := model prog w)
  have l1 := looks_findIn (M := model prog w) X T.hg
  have l2 := looks_findIn (M := model prog w) X T.hk
  have l3 := looks_find (M := model prog w) X I fd
  have l4 : Looks (model prog w) hh (isInstance (.ref x) (.type "BaseException")) true := l0.andThen (looks_subIn X T.hs)
  have n0 : (false && onTheHeap (Value.builtin "BaseException.__getattribute__")) = false := rfl
  have n2 : (Value.builtin "BaseException.__getattribute__" == Value.builtin "object.__getattribute__") = false := by
    decide +kernel
  have n1 : (onTheHeap (Value.ref D) && Value.builtin "BaseException.__getattribute__" == Value.builtin "object.__getattribute__") = false := by
    rw [n2]
    rfl
  unfold getAttr? getAttrBy? getAttrBy
  refine wpAny_bind (wpAny_mkText (wpAny_bind (wpAny_attempt (wpAny_holding (wpAny_bind (l0.at (wpAny_bind (l1.at ?_))))))))
  show wpAny _ _ (if (onTheHeap (Value.ref D) && Value.builtin "BaseException.__getattribute__" == Value.builtin "object.__getattribute__") = true then _ else _) _ _ _
  rw [n1, if_neg Bool.false_ne_true]
  unfold getAttrByItsOwn hookBefore
  refine wpAny_bind ?_
  rw [if_pos (show onTheHeap (Value.ref D) = true from rfl)]
  refine l2.at ?_
  refine wpAny_bind (wpAny_attempt (wpAny_holding ?_))
  unfold callGetattribute
  rw [n0, if_neg Bool.false_ne_true]
  unfold boundAndCalled
  rw [PySem.F.excAttr_ValueError.ga.bind (.ref x)]
  refine wpAny_bind (wpAny_pure ?_)
  show wpAny _ _ (call (.builtin "BaseException.__getattribute__") [.ref x, .str "__class__" tt]) _ _ _
  refine wpAny_call (codeAny_call_builtin PySem.F.excAttr_ValueError.ga.plain PySem.F.entry_bexc_ga ?_)
  refine @check_slot (model prog w) _ _ ⟨hh, gg, dd, tt + 1, oo⟩ "BaseException.__getattribute__" "BaseException" "__getattribute__" (.ref x) [.str "__class__" tt] [] _
    (by decide +kernel) (by decide +kernel) l4 (PySem.F.args_bexc_ga (.ref x) (.str "__class__" tt)) ?_
  unfold Builtin.«object.__getattribute__»
  refine wpAny_bind (wpAny_of_eq (a := ((Value.ref x : Value), [Value.str "__class__" tt])) (by first | rfl | (simp only [slotArgs]; rfl)) ?_)
  refine wpAny_bind (wpAny_pure (wpAny_bind (l0.at (wpAny_bind (l3.at ?_)))))
  show wpAny _ _ (holding [Value.builtin "object.__class__"] (call (.builtin "getset_descriptor.__get__") [.builtin "object.__class__", .ref x, .ref D]) >>= ret) _ _ _
  refine wpAny_bind (wpAny_holding (wpAny_call (class_get (s := ⟨hh, gg, dd, tt + 1, oo⟩) (ox := ob) (od := own) X I T.hm ?_)))
  refine wpAny_pure ?_
  show wpAny _ _ (handedOut (.ref D)) _ _ _
  rw [handedOut_of (v := .ref D) rfl]
  first
    | exact wpAny_pure (wpAny_pure q)
    | exact wpAny_pure q
    | exact wpAny_pure (wpAny_bind (wpAny_pure (wpAny_pure q)))
theorem kitExo (T : L2.ExcC K D) : KitX K (.ref x) (.ref D) (fun h => ∃ ob own, InstAt h x ob D own) where
  ty := fun _ _ _ ⟨_, _, I⟩ => I.type
  it := fun _ _ X _ => by
    obtain ⟨cd, z, _⟩ := any_some T.hd
    unfold clsIn at z
    split at z
    · rename_i c1 c2 c3 c4 lk
      intro A' Q' E' s' kp q
      unfold isType loadHead
      exact wpAny_bind (wpAny_loadPart (kp _ _ (X _ _ lk)) (wpAny_pure q))
    · cases z
  ne := fun h tp dd its n sl X lk2 => by
    obtain ⟨cd, z, _⟩ := any_some T.hd
    refine Bool.eq_false_iff.mpr fun q => ?_
    have e : D = tp := Value.ref.inj (beq_iff_eq.mp q)
    subst e
    unfold clsIn at z
    split at z
    · rename_i c1 c2 c3 c4 lk
      have y := (X _ _ lk).symm.trans lk2
      cases y
    · cases z
  ca := fun X ⟨_, _, I⟩ q => class_of T X I q
end
end PySem.ExoX
namespace L2
open PySem PySem.Spec PyProof.Rows
/-- an error of the class at C stands at a, with no dict or with its own -/
def ErrAt (H : Hp) (a C : Addr) : Prop := H a = some (exo a C none) ∨ ∃ dx fs, H a = some (exo a C (some dx)) ∧ H dx = some (exd dx fs)
theorem inst_exo {X : Cx} {pins : List (Addr × Obj)} {σ : St} {H : Hp} {s : Shared} {a C : Addr} (I : Inv X pins σ H s) (e : ErrAt H a C) : ∃ ob own, PySem.W.InstAt s.heap a ob C own := by
  rcases e with e | ⟨dx, fs, e, ed⟩
  · obtain ⟨t, ho⟩ := exo_at I.hok e
    exact ⟨_, none, ho, rfl, rfl, trivial⟩
  · obtain ⟨t, ho⟩ := exo_at I.hok e
    obtain ⟨mA, hns, _⟩ := exd_at I.hok ed
    obtain ⟨o, _, _, ho2, _⟩ := hns
    exact ⟨_, some o, ho, rfl, rfl, ho2⟩
def rIsExo (K : PySem.W.Frag) : List V → Hp → VK → Prop := fun xs H Q => ∃ (a C : Addr) (c : V) (u : Value) (b : Bool), xs = [.ref a, c] ∧ ErrAt H a C ∧ ClsV c u ∧ ExcC K C ∧ PySem.W.kitOne K (.ref C) u = some b ∧ Q (.bl b) H
theorem call_isExo {X : Cx} : CallR X (.builtin "isinstance") (rIsExo X.K) := by
  intro pins s σ H xs us Q I r h
  obtain ⟨a, C, c, u, b, rfl, ea, k, T, e, q⟩ := h
  obtain ⟨u1, u2, rfl, r1, r2⟩ := vals2 r
  cases (show u1 = Value.ref a from r1)
  have e2 := k.eq r2
  subst e2
  exact PySem.W.kia_one (PySem.ExoX.kitExo T) I.kIn (inst_exo I ea) e (fun z => nomatch z) fun tk => ⟨.bl b, H, I.tok tk, rfl, q⟩
/-- e.f of such an error -/
def tExoF (K : PySem.W.Frag) (te : TE) (f : Str) : TE := fun σ H Q => te σ H fun x H1 => ∃ (a C dx : Addr) (fs : List (Str × V)) (v : V), x = .ref a ∧ H1 a = some (exo a C (some dx)) ∧ H1 dx = some (exd dx fs) ∧
  ExcC K C ∧ PySem.W.findIn K (.ref C) f = some none ∧ fs.lookup f = some v ∧ Q v H1
theorem pe_exoF {X : Cx} {e : Expr} {te : TE} {f : Str} {pos : Pos} (he : PE X e te) (hb : attributeBase e f X.env (eval e X.env) = eval e X.env := by rfl) : PE X (.Attribute e f pos) (tExoF X.K te f) := by
  refine ⟨fun pins s σ H Q I h => ?_⟩
  refine attr_of hb (thn (he.run pins s σ H _ I h) fun u s1 ⟨x, H1, I1, rx, a, C, dx, fs, v, ex, ea, ed, T, hno, lf, q⟩ => ?_)
  subst ex
  obtain rfl : u = Value.ref a := rx
  obtain ⟨t, ho⟩ := exo_at I1.hok ea
  obtain ⟨mA, hns, hr⟩ := exd_at I1.hok ed
  obtain ⟨od, ho2, hl⟩ := lookIn_ns hns
  obtain ⟨u, hu, ru⟩ := RelO.some_of (v := v) (o := mA f) (by rw [← lf]; exact hr f)
  have J : PySem.W.InstAt s1.heap a _ C (some od) := ⟨ho, rfl, rfl, ho2⟩
  exact HandSPX.exc_get I1.kIn J T.hg T.hk T.hs (PySem.W.findObj_own T.hd hno rfl (by rw [hl, hu])) (handed_of ru) ⟨v, H1, I1.tok _, ru, q⟩
end L2

set_option maxRecDepth 100000
set_option maxHeartbeats 4000000
/-! Rules whose reading hands on a heap by what is true of it: all that was tracked stands, the new thing is there. -/
namespace L2
open PySem PySem.Spec PyProof.Rows
theorem sameNew {H : Hp} {p : Addr} (n : H p = none) (o : HO) : Same H (upd H p o) := fun b u e => by
  rw [upd_ne (ne_of_none e n)]
  exact e
section
variable {X : Cx} {es : List Expr} {t : TA} {pos : Pos}
/-- a new thing at p -/
def New (H : Hp) (o : HO) (Q : VK) : Prop := ∀ (p : Addr) (H' : Hp), H p = none → Same H H' → H' p = some o → Q (.ref p) H'
theorem New.at {H : Hp} {o : HO} {Q : VK} (h : New H o Q) {p : Addr} (n : H p = none) : Q (.ref p) (upd H p o) := h p _ n (sameNew n o) upd_same
def gLstN (t : TA) : TE := fun σ H Q => t σ H fun xs H1 => xs.length ≤ sizeLine ∧ New H1 (.lst xs) Q
def gTup' (t : TA) : TE := fun σ H Q => t σ H fun xs H1 => xs.length ≤ sizeLine ∧ New H1 (.tup xs) Q
theorem PA.imp {t' : TA} (h : PA X es t) (m : ∀ σ H Q, t' σ H Q → t σ H Q) : PA X es t' := ⟨fun pos pins s σ H Q I q => h.run pos pins s σ H Q I (m σ H Q q)⟩
/-- what is asked behind a list of arguments may be read in a weaker way -/
theorem pe_lstG (h : PA X es t) : PE X (.List es pos) (gLstN t) := by
  have z : PE X (.List es pos) (tLst fun σ H R => ∃ R', t σ H R' ∧ ∀ xs H1, R' xs H1 → R xs H1) := by
    refine pe_lst ⟨fun pos pins s σ H R I ⟨R', h1, h2⟩ => ?_⟩
    refine thn (h.run pos pins s σ H R' I h1) fun us s1 ⟨vs, H1, I1, r, q⟩ => ⟨vs, H1, I1, r, h2 _ _ q⟩
  exact ⟨fun pins s σ H Q I q => z.run pins s σ H Q I ⟨_, q, fun xs H1 ⟨l, k⟩ => ⟨l, fun p n => k.at n⟩⟩⟩
theorem pe_tupG {x1} (h : PA X es t) : PE X (.Tuple es x1 pos) (gTup' t) := by
  have z : PE X (.Tuple es x1 pos) (tTup fun σ H R => ∃ R', t σ H R' ∧ ∀ xs H1, R' xs H1 → R xs H1) := by
    refine pe_tup ⟨fun pos pins s σ H R I ⟨R', h1, h2⟩ => ?_⟩
    refine thn (h.run pos pins s σ H R' I h1) fun us s1 ⟨vs, H1, I1, r, q⟩ => ⟨vs, H1, I1, r, h2 _ _ q⟩
  exact ⟨fun pins s σ H Q I q => z.run pins s σ H Q I ⟨_, q, fun xs H1 ⟨l, k⟩ => ⟨l, fun p n => k.at n⟩⟩⟩
def rCatG : R2 := fun x y H Q => ∃ l b xs zs, x = .ref l ∧ y = .ref b ∧ H l = some (.lst xs) ∧ H b = some (.lst zs) ∧ xs.length + zs.length ≤ sizeLine ∧ New H (.lst (xs ++ zs)) Q
theorem op_catG : OpR X (binaryOp .Add) rCatG := fun pins s σ H x y v u Q I rx ry ⟨l, b, xs, zs, e1, e2, e3, e4, e5, k⟩ => op_cat pins s σ H x y v u Q I rx ry ⟨l, b, xs, zs, e1, e2, e3, e4, e5, fun p n => k.at n⟩
def rSlLG (K : PySem.W.Frag) : V → Option Int → Option Int → Hp → VK → Prop := fun x lo hi H Q => ∃ a xs, x = .ref a ∧ SqL K H a xs ∧ New H (.lst (cutV xs lo hi)) Q
theorem sl_listG : SlR X (rSlLG X.K) := fun pins s σ H x v vl vu lo hi sl Q I rx hs pl pu ⟨a, xs, e, hx, k⟩ => sl_list pins s σ H x v vl vu lo hi sl Q I rx hs pl pu ⟨a, xs, e, hx, fun p n => k.at n⟩
end
theorem pe_imp {X : Cx} {e : Expr} {t t' : TE} (h : PE X e t) (m : ∀ σ H Q, t' σ H Q → t σ H Q) : PE X e t' := ⟨fun pins s σ H Q I q => h.run pins s σ H Q I (m σ H Q q)⟩
theorem Same.err {H H' : Hp} {a C : Addr} (s : Same H H') (e : ErrAt H a C) : ErrAt H' a C := by
  rcases e with e | ⟨dx, fs, e, ed⟩
  · exact .inl (s _ _ e)
  · exact .inr ⟨dx, fs, s _ _ e, s _ _ ed⟩
/-- the field is kept: __init__(self, f) -/
def spInit (C : Addr) (fld : Str) : Sp := fun vs H Q _ => ∃ (a : Addr) (v : V), vs = [.ref a, v] ∧ H a = some (exo a C none) ∧
  ∀ (dx : Addr) (H' : Hp), (∀ b o, b ≠ a → H b = some o → H' b = some o) → H' a = some (exo a C (some dx)) → H' dx = some (exd dx [(fld, v)]) → Q .non H'
/-- a new error with a field -/
def NewE (C : Addr) (fld : Str) (v : V) (H : Hp) (Q : VK) : Prop := ∀ (a dx : Addr) (H' : Hp), H a = none → Same H H' → H' a = some (exo a C (some dx)) → H' dx = some (exd dx [(fld, v)]) → Q (.ref a) H'
section
variable {X : Cx} {CX : CXT} {k : Nat} {fI C : Addr} {fd : FuncData} {fld : Str} {E : XK} {x : Str} {p pos : Pos} {e : Expr} {te : TE} {nm : Option Str} {kpos : Pos}
theorem bind1 {K : PySem.W.Frag} {n : Str} (h : ∀ (a b : Value), bindArgs fd ⟨[a], [(n, b)]⟩ = pure ([(("self" : Str), a), (n, b)] : List (Str × Value))) : KBn K fd ["self", n] (0 + 1) [n] (fun us ws => us ++ ws) (fun vs zs => vs ++ zs) where
  to := fun s us ws _ l1 l2 => match us, ws, l1, l2 with
    | [a], [b], _, _ => .of_eq (h a b)
  rel := fun r rz => r.append rz
theorem bind2 {K : PySem.W.Frag} {n : Str} (h : ∀ (a b : Value), bindArgs fd ⟨[a, b], []⟩ = pure ([(("self" : Str), a), (n, b)] : List (Str × Value))) : KBn K fd ["self", n] (1 + 1) [] (fun us ws => us ++ ws) (fun vs zs => vs ++ zs) where
  to := fun s us ws _ l1 l2 => match us, ws, l1, l2 with
    | [a, b], [], _, _ => .of_eq (h a b)
  rel := fun r rz => r.append rz
/-- C(f = e) -/
def gExoK (C : Addr) (fld : Str) (te : TE) : TE := fun σ H Q => te σ H fun v H1 => NewE C fld v H1 Q
theorem exo_end {v : V} {H1 : Hp} {Q : VK} {E : XK} (q : NewE C fld v H1 Q) (a : Addr) (n : H1 a = none) : spInit C fld [.ref a, v] (upd H1 a (exo a C none)) (fun u H3 => u = .non ∧ Q (.ref a) H3) E :=
  ⟨a, v, rfl, upd_same, fun dx H' s e1 e2 => ⟨rfl, q a dx H' n (fun b o hb => s b o (ne_of_none hb n) (by rw [upd_ne (ne_of_none hb n)]; exact hb)) e1 e2⟩⟩
theorem pe_exoKG (T : OexC X.K C) (iC : PySem.W.findIn X.K (.ref C) "__init__" = some (some (.ref fI))) (tI : PySem.W.typeIn X.K (.ref fI) = some (.type "function"))
    (F : FnOk X.prog X.w X.K X.mg X.base CX k fI fd ["self", fld] (spInit C fld)) (hr : Room (k + 1) X.A) (hg : Gl X x) (hm : X.mg x = some (.ref C)) (hb : ∀ (a b : Value), bindArgs fd ⟨[a], [(fld, b)]⟩ = pure ([(("self" : Str), a), (fld, b)] : List (Str × Value))) (hx : Passes CX X E)
    (he : PE X e te) (hall : (backToKw pos (keywordEach [⟨nm, e, kpos⟩] X.env)).all (·.1.isSome) = true := by rfl) (hks : (backToKw pos (keywordEach [⟨nm, e, kpos⟩] X.env)).filterMap (·.1) = [fld] := by rfl)
    (hdb : (x == ("__debug__" : Str)) = false := by decide)
    (hpl : ((backTo pos (starEach [] X.env)).any (·.1) || (backToKw pos (keywordEach [⟨nm, e, kpos⟩] X.env)).any (·.1.isNone)) = false := by rfl) :
    PE X (.Call (.Name x p) [] [⟨nm, e, kpos⟩] pos) (gExoK C fld te) := by
  have z : PE X e (fun σ H R => ∃ R', te σ H R' ∧ ∀ v H1, R' v H1 → R v H1) := ⟨fun pins s σ H R I ⟨R', h1, h2⟩ => thn (he.run pins s σ H R' I h1) fun us s1 ⟨v, H1, I1, r, q⟩ => ⟨v, H1, I1, r, h2 _ _ q⟩⟩
  refine pe_imp (pe_exoK (E := E) T iC tI F hr hg hm (bind1 (K := X.K) hb) hx (pk_cons z pk_nil) hall hks hdb hpl) fun σ H Q q => ?_
  exact ⟨_, q, fun v H1 q1 => ⟨rfl, rfl, fun a n => exo_end q1 a n⟩⟩
theorem pe_exoPG (T : OexC X.K C) (iC : PySem.W.findIn X.K (.ref C) "__init__" = some (some (.ref fI))) (tI : PySem.W.typeIn X.K (.ref fI) = some (.type "function"))
    (F : FnOk X.prog X.w X.K X.mg X.base CX k fI fd ["self", fld] (spInit C fld)) (hr : Room (k + 1) X.A) (hg : Gl X x) (hm : X.mg x = some (.ref C)) (hb : ∀ (a b : Value), bindArgs fd ⟨[a, b], []⟩ = pure ([(("self" : Str), a), (fld, b)] : List (Str × Value))) (hx : Passes CX X E)
    (he : PE X e te) (hdb : (x == ("__debug__" : Str)) = false := by decide) (hs : starEach [e] X.env = (false, eval e X.env) :: starEach [] X.env := by rfl)
    (hpl : (backTo pos (starEach [] X.env)).any (·.1) = false := by rfl) :
    PE X (.Call (.Name x p) [e] [] pos) (gExoK C fld te) := by
  have z : PE X e (fun σ H R => ∃ R', te σ H R' ∧ ∀ v H1, R' v H1 → R v H1) := ⟨fun pins s σ H R I ⟨R', h1, h2⟩ => thn (he.run pins s σ H R' I h1) fun us s1 ⟨v, H1, I1, r, q⟩ => ⟨v, H1, I1, r, h2 _ _ q⟩⟩
  refine pe_imp (pe_exo1 (E := E) T iC tI F hr hg hm (bind2 (K := X.K) hb) hx (by decide) (pa_cons z pa_nil hs) hdb hs hpl) fun σ H Q q => ?_
  exact ⟨_, q, fun v H1 q1 => ⟨rfl, rfl, fun a n => exo_end q1 a n⟩⟩
/-- C(), no __init__ of its own -/
def gExo0 (C : Addr) : TE := fun _ H Q => New0 H C Q where New0 (H : Hp) (C : Addr) (Q : VK) : Prop := ∀ (a : Addr) (H' : Hp), H a = none → Same H H' → H' a = some (exo a C none) → Q (.ref a) H'
theorem pe_exo0G (q : PySem.W.excIn X.K C [.type "ValueError", .type "Exception", .type "BaseException", .type "object"] "ValueError.__new__" = true) (kC : PySem.W.keepIn X.K (.ref C) = true) (hg : Gl X x) (hm : X.mg x = some (.ref C))
    (hdb : (x == ("__debug__" : Str)) = false := by decide) : PE X (.Call (.Name x p) [] [] pos) (gExo0 C) :=
  pe_imp (pe_exo0 q kC hg hm hdb) fun σ H Q k a n => k a _ n (sameNew n _) upd_same
end
end L2

set_option maxRecDepth 100000
set_option maxHeartbeats 4000000
namespace L2
open PySem PySem.Spec PyProof.Rows
/-- over enumerate(a list that stands) -/
theorem for_enumL {K : PySem.W.Frag} {a : Addr} {xs : List V} {g : TG} {tb : TS} {D : Ends} {σ : St} {H : Hp} (Pv : Nat → St → Hp → Prop) (h0 : Pv 0 σ H) (hl : ∀ i σ H, i ≤ xs.length → Pv i σ H → SqL K H a xs)
    (hs : ∀ i x σ H T H', xs[i]? = some x → Pv i σ H → H T = none → Same H H' → H' T = some (.tup [.int (i : Nat), x]) → g (.ref T) σ H' fun σ2 H2 => tb { D with nx := Pv (i + 1), ct := Pv (i + 1), bk := D.nx } σ2 H2)
    (hd : ∀ σ H, Pv xs.length σ H → D.nx σ H) :
    ∃ W : Nat → Nat → St → Hp → Prop, (∃ m, W 0 m σ H) ∧ ∀ i m σ H, W i m σ H →
      ((Ite K a).stop i H ∧ D.nx σ H) ∨ ((Ite K a).go i H ∧ ∃ N : St → Hp → Prop, (∀ σ' H', N σ' H' → ∃ m', m' < m ∧ W (i + 1) m' σ' H') ∧ ∀ x H', (Ite K a).yld i H x H' → g x σ H' fun σ2 H2 => tb { D with nx := N, ct := N, bk := D.nx } σ2 H2) := by
  refine ⟨fun i m σ H => m = xs.length - i ∧ i ≤ xs.length ∧ Pv i σ H, ⟨xs.length, by simp, Nat.zero_le _, h0⟩, ?_⟩
  rintro i m σ H ⟨rfl, hi, p⟩
  have q := hl i σ H hi p
  by_cases hlt : i < xs.length
  · refine .inr ⟨⟨xs, xs[i], q, by simp [hlt]⟩, Pv (i + 1), fun σ' H' p' => ⟨xs.length - (i + 1), by omega, rfl, hlt, p'⟩, fun v H' y => ?_⟩
    obtain ⟨T, x, e, n, e2, y⟩ := y
    subst e e2
    exact hs i x σ H T _ (y xs q) p n (sameNew n _) upd_same
  · have e : i = xs.length := by omega
    subst e
    exact .inl ⟨⟨xs, q, Nat.le_refl _⟩, hd σ H p⟩
/-! lists of truth values as data -/
theorem bools_lay : ∀ bs : List Bool, PyData.canLayAll0 (bs.map PyData.bool) = true
  | [] => rfl
  | b :: bs => by
    show (PyData.canLay0 (.bool b) && PyData.canLayAll0 (bs.map PyData.bool)) = true
    rw [bools_lay bs]
    rfl
theorem bools_flat : ∀ bs : List Bool, PyData.depthAll (bs.map PyData.bool) = 0
  | [] => rfl
  | b :: bs => by
    show max (PyData.depth (.bool b)) (PyData.depthAll (bs.map PyData.bool)) = 0
    rw [bools_flat bs]
    rfl
theorem bools_shaped (bs : List Bool) : SeqAt.shaped (.list (bs.map PyData.bool)) = true := by
  have h1 : PyData.canLay0 (.list (bs.map PyData.bool)) = true := bools_lay bs
  have h2 : PyData.depth (.list (bs.map PyData.bool)) = 1 := by
    show PyData.depthAll (bs.map PyData.bool) + 1 = 1
    rw [bools_flat bs]
  unfold SeqAt.shaped
  rw [h1, h2]
  rfl
theorem bools_all {K : PySem.W.Frag} {H : Hp} : ∀ bs : List Bool, DpAll K H (bs.map V.bl) (bs.map PyData.bool)
  | [] => .nil
  | b :: bs => .cons (.bl b) (bools_all bs)
theorem bools_dp {K : PySem.W.Frag} {H : Hp} {p : Addr} {bs : List Bool} (h : H p = some (.lst (bs.map V.bl))) : Dp K H (.ref p) (.list (bs.map PyData.bool)) := .lst (SqL.of h) (bools_all bs)
theorem bools_same (bs : List Bool) : PyData.eqv (.list (bs.map PyData.bool)) (.list (bs.map PyData.bool)) = true := SeqAt.eqv_refl _ (bools_lay bs)
/-- a display of one entry, text to value -/
def gDict1 (k : Str) (te : TE) : TE := fun σ H Q => ∀ p : Addr, H p = none → te σ (upd H p (.dK [])) fun v H2 => H2 p = some (.dK []) ∧ Q (.ref p) (upd H2 p (.dK [(.inr k, v)]))
theorem pe_disp1 {X : Cx} {pos p1 : Pos} {v : Expr} {k : Str} {j : Nat} {te : TE} (hv : PE X v te) : PE X (.Dict [some (.Constant (.str k) j p1)] [v] pos) (gDict1 k te) := by
  have z : PE X v (fun σ H R => ∃ R', te σ H R' ∧ ∀ v H1, R' v H1 → R v H1) := ⟨fun pins s σ H R I ⟨R', h1, h2⟩ => thn (hv.run pins s σ H R' I h1) fun us s1 ⟨v, H1, I1, r, q⟩ => ⟨v, H1, I1, r, h2 _ _ q⟩⟩
  refine pe_imp (pe_disp (pps_cons pe_str z pps_nil) rfl rfl (fun z => by cases z) (by show 1 ≤ 15; decide)) fun σ H Q q p n => ?_
  exact ⟨_, q p n, fun u H2 ⟨e, k2⟩ => ⟨e, [(.inr k, u)], rfl, by show 1 ≤ 15; decide, k2⟩⟩
/-- the cut and what is put behind it -/
theorem ints_cut {ns : List Int} {lo hi : Option Int} {i : Nat} {y : V} (h : (cutV (ns.map V.int) lo hi ++ [.int 0])[i]? = some y) : ∃ c : Int, y = .int c := by
  have m := List.mem_of_getElem? h
  rcases List.mem_append.mp m with m | m
  · unfold cutV at m
    have m2 := List.mem_of_mem_drop (List.mem_of_mem_take m)
    obtain ⟨c, _, e⟩ := List.mem_map.mp m2
    exact ⟨c, e.symm⟩
  · exact ⟨0, by simpa using m⟩
theorem ints_cut_len {ns : List Int} {lo hi : Option Int} (h : ns.length ≤ 63) : (cutV (ns.map V.int) lo hi).length ≤ 63 := by
  have := cutV_length (ns.map V.int) lo hi
  rw [List.length_map] at this
  omega
end L2

set_option maxRecDepth 100000
set_option maxHeartbeats 2000000
/-! defs whose code objects have tables: the fact, the rule, the end of a row -/
namespace LamB
open PySem PySem.Spec PyProof.Rows L2 LamX
/-- a def as it stands behind the top, its code object at c -/
structure FunC (K : PySem.W.Frag) (x qual : Str) (st : Stmt) (f : Addr) (fd : FuncData) (c : Addr) : Prop where
  ex : ∃ (oc : Value) (od : Option Addr) (kV doc pm : Value) (an : Option Addr) (ct : Value) (osl : Array (Option Value)),
    fd = PySem.W.fnOf x qual (defArgs st) (defBody st) (defScope st) .none kV doc pm an (.ref c) ct ∧ K.lookup f = some ⟨oc, od, .func fd, osl⟩ ∧ PySem.W.codeIn K (.ref c) qual = true
  kp : PySem.W.keepIn K (.ref f) = true
theorem FunC.fn {K : PySem.W.Frag} {x qual : Str} {st : Stmt} {f c : Addr} {fd : FuncData} (F : FunC K x qual st f fd c) : Fun K x qual st f fd := by
  obtain ⟨⟨oc, od, kV, doc, pm, an, ct, osl, e1, e2, e3⟩, kp⟩ := F
  exact ⟨⟨oc, od, kV, doc, pm, an, _, ct, osl, e1, e2, e3⟩, kp⟩
section
variable {P : Program} {w : World} {K : PySem.W.Frag} {mg : Str → Option Value} {base : Heap}
theorem FunC.ok {x qual : Str} {st : Stmt} {f c : Addr} {fd : FuncData} {N ps : List Str} {k : Nat} {sp : Sp} (F : FunC K x qual st f fd c) (S : FnScope N ps (defScope st)) (len : ∀ vs H Q E, sp vs H Q E → vs.length = ps.length)
    (body : ∀ (A : Around) (outer : List Env) (s : Shared) (H : Hp) (vs : List V) (Q : VK) (E : XK), Room k (A.deeper (envOfC qual (defScope st) s.heap.objs.size f (.ref c))) → sp vs H Q E →
      ∃ t, PSs (cxOf CX0 P w K mg base N qual (defScope st) f (.ref c) A outer s H E).nox (defBody st) t ∧ t { nx := fun _ H' => Q .non H', rt := Q } (L2.start N vs) H) : FnOk P w K mg base CX0 (k + 1) f fd ps sp := by
  obtain ⟨oc, od, kV, doc, pm, an, ct, osl, rfl, lk, cd⟩ := F.ex
  refine fn_of lk cd S len fun A outer s H vs Q E hr h => ?_
  obtain ⟨t, ht, q⟩ := body A outer s H vs Q E hr h
  exact ⟨t, ht.nox, q⟩
end
/-- the tables of these defs are empty -/
def DefTabs (K : PySem.W.Frag) (mg : Str → Option Value) (names : List Str) (h : Heap) : Prop := ∀ nm ∈ names, ∀ (a c P : Addr) (o : Obj) (fd : FuncData), mg nm = some (.ref a) → K.lookup a = some o → o.data = .func fd → fd.code = .ref c → PySem.W.codeHdIn K c P = true →
  h.get? P = some { cls := .none, data := .fields #[] }
theorem codeHd_uniq {h : Heap} {c P P' : Addr} (a : PySem.W.CodeHd h c P) (b : h.TableAt c P' #[]) : P = P' := by
  obtain ⟨o, vs, _, _, _, _, _, _, _, a1, _, a3, a4, _⟩ := a
  obtain ⟨⟨o', vs', b1, _, b3, b4⟩, _⟩ := b
  rw [a1] at b1
  cases b1
  rw [a3] at b3
  cases b3
  rw [a4] at b4
  cases b4
  rfl
theorem walk_ofDefs {l : PySem.W.OpenLaw} {n k : Nat} {q : Program} {loose : List Str} {XP : (Str → Option Value) → Heap → Prop} {YP : World → Heap → Prop} {d : DefRec} {K : Params → PySem.W.Frag} {CX : World → CXT} {x : Str} {names : List Str}
    (hn : l.most = some n) (hn2 : n ≤ sizeLine) (hdf : d.params.defaults = []) (hr : Room k callerA) (hrec : (names.all fun nm => (recsOf q).any fun e => e.name == nm) = true) (hY : ∀ (w : World) (h : Heap), YP w h → (K w.params).In h)
    (F : ∀ (w : World) (mg : Str → Option Value) (fa : Addr) (h : Heap), YP w h → (K w.params).In h → h.Ns mainGlobals mg → mg d.name = some (.ref fa) → DefTabs (K w.params) mg names h → LawAtS l w (K w.params) (CX w) k n x mg fa h)
    (hCX : ∀ (w : World) (H : Hp) (s : Shared) (e : Value) (s' : Shared), CX w [] H s (fun _ _ _ => False) e s' → False) :
    PySem.W.WalkO q loose XP YP l.row.toRowW d [] (fun f vs => PySem.call f vs) := by
  refine Att.attach_callB hn hdf fun w s₀ s₁ mg mb fa o pm cd doc a vs ns G Y ho hd hcd hmg hobj hints hlen hbits hg => ?_
  have KX := hY w _ Y
  have tabs : DefTabs (K w.params) mg names s₁.heap := fun nm hnm a1 c P o1 fd1 k1 k2 k3 k4 k5 => by
    obtain ⟨dL, hm, hn1⟩ := List.any_eq_true.mp (List.all_eq_true.mp hrec nm hnm)
    have e1 : dL.name = nm := beq_iff_eq.mp hn1
    obtain ⟨a', o', fd', c', P', h1, h2, h3, h4, h5, h6⟩ := G.T.tab dL hm
    rw [e1, k1] at h1
    cases h1
    have g1 := KX _ _ k2
    rw [g1] at h2
    cases h2
    rw [k3] at h3
    cases h3
    rw [k4] at h4
    cases h4
    have e2 := codeHd_uniq (PySem.W.codeHd_of_K KX k5) h6
    subst e2
    exact h6.2
  obtain ⟨fd, cs, sp, hT, nT, C, hb, hsp, hF⟩ := F w mg fa _ Y KX G.T.g hmg tabs
  exact law_callTs KX G.T.g G.T.b G.T.builtins G.T.nolimit hg hT nT C G.T.bmain hobj hints (Nat.le_trans hlen hn2) hr hF hb (fun H hH hS => hsp H a ns hlen hbits hH hS) fun H e s' => hCX w H s₁ e s'
end LamB

set_option maxRecDepth 100000
set_option maxHeartbeats 4000000
/-! for .. in enumerate(a tuple), as the hand layer has it for a list -/
namespace PySem
open Sem (wp)
open AutoSeq1 (wpAny_loadPart')
theorem my_enumerate_newT (l : Addr) (items : Array Value) (n : Nat) (dct : Option Addr) (sl : Array (Option Value)) :
    Meets (Builtin.«enumerate.__new__» ⟨[.type "enumerate", .ref l], []⟩) (fun _ R s => s.heap.get? l = some { cls := .type "tuple", dict := dct, data := .seq items n, slots := sl } ∧
      R (.ok (.ret (.ref (s.heap.push { cls := .type "tuple_iterator", data := .fields #[.ref l, .int 0 0] }).objs.size)))
        { s with heap := (s.heap.push { cls := .type "tuple_iterator", data := .fields #[.ref l, .int 0 0] }).push { cls := .type "enumerate", data := .fields #[.none, .bool false, .ref s.heap.objs.size, rawInt 0, .none, .none] } }) :=
  .of_wp fun prog w A R s h => by
    obtain ⟨hp, g, d, tk, os⟩ := s; obtain ⟨hl, h⟩ := h
    have hsub := sub_enumerate
    have hL : Heap.IsTuple (Shared.heap ⟨hp, g, d, tk, os⟩) l items := ⟨_, hl, rfl, n, rfl⟩
    wp_walk using wpAny_loadPart' hl
    refine wpAny_stack_any fun st => wpAny_pure ?_
    split
    · rename_i c _ _ _ _ _
      cases (c == Value.type "enumerate")
      · wp_walk using wpAny_loadPart' hl, wpAny_pyIter_tuple hL
        exact ⟨_, rfl, h⟩
      · wp_walk using wpAny_loadPart' hl, wpAny_pyIter_tuple hL
        exact ⟨_, rfl, h⟩
    · wp_walk using wpAny_loadPart' hl, wpAny_pyIter_tuple hL
      exact ⟨_, rfl, h⟩
section
variable {prog : Program} {w : World} {A : Around} {E : Value → Shared → Prop} {s : Shared}
theorem my_enumerate_tuple {l : Addr} {items : Array Value} {Q : Value → Shared → Prop} (hL : s.heap.IsTuple l items)
    (h : ∀ h', IsEnum h' (s.heap.objs.size + 1) s.heap.objs.size 0 .none → h'.IsTupleIter s.heap.objs.size l 0 → h'.objs.size = s.heap.objs.size + 2 →
      (∀ b o, s.heap.get? b = some o → h'.get? b = some o) → Q (.ref (s.heap.objs.size + 1)) { s with heap := h' }) :
    wpAny (model prog w) A (call (.type "enumerate") [.ref l]) Q E s := by
  obtain ⟨⟨c, dct, dt, sl⟩, hl, hc, n, hd⟩ := hL
  replace hc : c = .type "tuple" := hc
  replace hd : dt = .seq items n := hd
  subst hc hd
  refine callType_new F.called_enumerate (by decide) (F.typeCall_enumerate_1 _) (F.newCall_enumerate_1 _) (fun obj => F.args_object_init_2 obj _) F.entry_enumerate_new
    (my_enumerate_newT l items n dct sl) ⟨hl, ?_⟩
  have hz : (s.heap.push { cls := .type "tuple_iterator", data := .fields #[.ref l, .int 0 0] }).objs.size = s.heap.objs.size + 1 := Heap.size_push ..
  show _ ∧ _
  rw [hz]
  have he : IsEnum ((s.heap.push { cls := .type "tuple_iterator", data := .fields #[.ref l, .int 0 0] }).push
      { cls := .type "enumerate", data := .fields #[.none, .bool false, .ref s.heap.objs.size, rawInt 0, .none, .none] }) (s.heap.objs.size + 1) s.heap.objs.size 0 .none := by
    have := Heap.get?_push_size (s.heap.push { cls := .type "tuple_iterator", data := .fields #[.ref l, .int 0 0] })
      (o := { cls := .type "enumerate", data := .fields #[.none, .bool false, .ref s.heap.objs.size, rawInt 0, .none, .none] }) rfl
    rw [hz] at this; exact this
  refine ⟨⟨_, he, rfl⟩, h _ he ⟨_, Heap.get?_push_of_some _ (Heap.get?_push_size _ rfl), rfl, rfl⟩ (by rw [Heap.size_push, hz]) fun b o x => Heap.get?_push_of_some _ (Heap.get?_push_of_some _ x)⟩
end
end PySem
namespace L2
open PySem PySem.Spec PyProof.Rows
/-- the tuple at a, each item in a new pair -/
def IteT (K : PySem.W.Frag) (a : Addr) : It :=
  ⟨fun i H => ∃ (xs : List V) (x : V), SqT K H a xs ∧ xs[i]? = some x, fun i H v H' => ∃ T x, v = .ref T ∧ H T = none ∧ H' = upd H T (.tup [.int (i : Nat), x]) ∧ ∀ xs, SqT K H a xs → xs[i]? = some x, fun i H => ∃ xs : List V, SqT K H a xs ∧ xs.length = i⟩
theorem turn_enumT {P : Program} {w : World} {K : PySem.W.Frag} {elts : List Expr} {kk : Nat} {tpos : Pos} (a e it : Addr) (nae : a ≠ e) (nai : a ≠ it) :
    Turn P w K (.Tuple elts kk tpos) (IteT K a) [e, it] e (fun i h => (∃ old, IsEnum h e it ((i : Nat) : Int) old) ∧ h.IsTupleIter it a i ∧ e ≠ it) where
  mem := by simp
  obj := fun i h st b hb => by
    obtain ⟨⟨old, he⟩, ⟨o, ho, hc, hd⟩, _⟩ := st
    have e' : b = e ∨ b = it := by simpa using hb
    rcases e' with z | z
    · rw [z]; exact ⟨_, he, fun v q => nomatch q⟩
    · rw [z]; exact ⟨o, ho, fun v q => by rw [hd] at q; cases q⟩
  keep := fun i h h' st k => by
    obtain ⟨⟨old, he⟩, ⟨o, ho, r⟩, hne⟩ := st
    exact ⟨⟨old, k e (by simp) _ he⟩, ⟨o, k it (by simp) o ho, r⟩, hne⟩
  item := by
    intro X hP hw hK hc i pins s σ H E I hf st hg
    subst hP hw hK
    obtain ⟨⟨old, he⟩, hit, hne⟩ := st
    obtain ⟨xs, x, hq, hx⟩ := hg
    obtain ⟨its, rv, p, hz⟩ := I.tuple hq
    obtain ⟨u, hu, ru⟩ := rv.get hx
    have hel : e < s.heap.objs.size := Heap.lt_size he
    have hil : it < s.heap.objs.size := by obtain ⟨_, q, _⟩ := hit; exact Heap.lt_size q
    have hi : i < its.toArray.size := by
      have := (List.getElem?_eq_some_iff.mp hu).1
      simpa using this
    refine wpAny_pyNext_enum_itemD (Draws.tuple (prog := X.prog) (w := X.w) (A := X.A.in1) (I.ok.hd hc) it a nai its.toArray) he ⟨hit, show s.heap.IsTuple a its.toArray from p⟩ hi hne (by simp [Ne.symm nae, hne]) fun x2 h' tk hx2 ho hit' hT hsz hk => ?_
    have ex : x2 = u := by
      have e1 : its.toArray[i]? = some u := by simpa using hu
      rw [e1] at hx2
      exact (Option.some.inj hx2).symm
    subst ex
    refine ⟨_, rfl, wpAny_letOwnedTupleGo_enum (s := { s with heap := h', toks := tk + 1 }) ho fun h'' he' sb => ?_⟩
    have hT2 : h''.get? s.heap.objs.size = some { cls := .type "tuple", data := .seq #[.int i tk, x2] } := (sb.2 _ (Nat.ne_of_gt hel)).trans hT
    have new : ObjOk X.prog X.w (upd H s.heap.objs.size (.tup [.int (i : Nat), x])) h'' s.heap.objs.size (.tup [.int (i : Nat), x]) :=
      ⟨by show 2 ≤ sizeLine; decide, [.int i tk, x2], .cons ⟨_, rfl⟩ (.cons ru .nil), ⟨_, hT2, rfl, _, rfl⟩⟩
    have I1 : Inv X pins σ (upd H s.heap.objs.size (.tup [.int (i : Nat), x])) { s with heap := h'', toks := tk + 1 } :=
      I.turnedNew (ch := [e, it]) (fun b ob hb q => (sb.2 b (fun z => hb (by simp [z]))).trans (hk b ob (fun z => hb (by simp [z])) (fun z => hb (by simp [z])) q)) hf (Nat.le_refl _) new
    refine ⟨.ref s.heap.objs.size, _, I1, rfl, ⟨_, x, rfl, I.hok.fresh (Nat.le_refl _), rfl, fun ys hy => by rw [I.tuple_inj hy hq]; exact hx⟩, ⟨⟨x2, ?_⟩, ?_, hne⟩, fun b hb => ?_⟩
    · have e1 : ((i + 1 : Nat) : Int) = (i : Int) + 1 := by omega
      rw [e1]; exact he'
    · obtain ⟨o, ho2, r⟩ := hit'.1
      exact ⟨o, (sb.2 it (Ne.symm hne)).trans ho2, r⟩
    · have hb' : b < s.heap.objs.size := by
        have e' : b = e ∨ b = it := by simpa using hb
        rcases e' with z | z
        · rw [z]; exact hel
        · rw [z]; exact hil
      rw [upd_ne (Nat.ne_of_lt hb')]
      exact (hf b hb).1
  done := by
    intro X hP hw hK hc i pins s σ H E I hf st hg
    subst hP hw hK
    obtain ⟨⟨old, he⟩, hit, hne⟩ := st
    obtain ⟨xs, hq, hx⟩ := hg
    obtain ⟨its, rv, p, hz⟩ := I.tuple hq
    obtain ⟨f0, f1, f2, f3, f4, f5⟩ := hf it (by simp)
    have hl := rv.length
    have ei : i = its.toArray.size := by simp; omega
    subst ei
    exact wpAny_pyNext_enum_endD (Draws.tuple (prog := X.prog) (w := X.w) (A := X.A.in1) (I.ok.hd hc) it a nai its.toArray) he ⟨hit, show s.heap.IsTuple a its.toArray from p⟩ fun h' eb => ⟨rfl, I.turned (t' := s.toks) (fun b o hb q => eb b o hb q) f0 f1 f3 f4 f5⟩
  self := fun A i s Q E st h => let ⟨⟨_, he⟩, _⟩ := st; wpAny_pyIter_enum he h
def iEnumT (K : PySem.W.Frag) (ta : TA) : TI := fun σ H R => ta σ H fun vs H1 => ∃ a xs, vs = [.ref a] ∧ SqT K H1 a xs ∧ R (IteT K a) H1
theorem pi_enumT {X : Cx} {e : Expr} {ta : TA} {p pos tpos : Pos} {elts : List Expr} {kk : Nat} (hg : Gl X "enumerate") (hm : X.mg "enumerate" = none) (ha : PA X [e] ta) (hs : starEach [e] X.env = [(false, eval e X.env)] := by rfl) :
    PI X (.Tuple elts kk tpos) (.Call (.Name "enumerate" p) [e] [] pos) (iEnumT X.K ta) := by
  refine ⟨fun pins s σ H R I h => ?_⟩
  refine Call_ (ld_blt I hg hm boot_enumerate (PyProof.Rows.callWith_type1 (thn (ha.run pos pins s σ H _ I h) fun us s1 ⟨vs, H1, I1, r1, q1⟩ => ?_) hs rfl))
  obtain ⟨a, xs, ex, hq, q⟩ := q1
  subst ex
  cases r1 with
  | cons r rr =>
    cases rr
    cases r
    obtain ⟨its, rv, p', hz⟩ := I1.tuple hq
    have hal : a < s1.heap.objs.size := by obtain ⟨o, ho, _⟩ := p'; exact Heap.lt_size ho
    refine my_enumerate_tuple (show s1.heap.IsTuple a its.toArray from p') fun h' he hit hsz hk => wpAny_pyIter_enum he ?_
    have I2 : Inv X pins σ H1 { s1 with heap := h' } := I1.kept (t' := s1.toks) hk
    refine ⟨s1.heap.objs.size + 1, [s1.heap.objs.size + 1, s1.heap.objs.size], _, _, H1, rfl, I2, turn_enumT a (s1.heap.objs.size + 1) s1.heap.objs.size (Nat.ne_of_lt (Nat.lt_succ_of_lt hal)) (Nat.ne_of_lt hal), ⟨⟨.none, he⟩, hit, Nat.succ_ne_self _⟩, fun b hb => ?_, q⟩
    have e' : b = s1.heap.objs.size + 1 ∨ b = s1.heap.objs.size := by simpa using hb
    have hle : s1.heap.objs.size ≤ b := by
      rcases e' with z | z
      · rw [z]; exact Nat.le_add_right _ _
      · rw [z]; exact Nat.le_refl _
    exact I1.fpOk hle (I1.hok.fresh hle)
/-- over enumerate(a tuple that stands) -/
theorem for_enumT {K : PySem.W.Frag} {a : Addr} {xs : List V} {g : TG} {tb : TS} {D : Ends} {σ : St} {H : Hp} (Pv : Nat → St → Hp → Prop) (h0 : Pv 0 σ H) (hl : ∀ i σ H, i ≤ xs.length → Pv i σ H → SqT K H a xs)
    (hs : ∀ i x σ H T H', xs[i]? = some x → Pv i σ H → H T = none → Same H H' → H' T = some (.tup [.int (i : Nat), x]) → g (.ref T) σ H' fun σ2 H2 => tb { D with nx := Pv (i + 1), ct := Pv (i + 1), bk := D.nx } σ2 H2)
    (hd : ∀ σ H, Pv xs.length σ H → D.nx σ H) :
    ∃ W : Nat → Nat → St → Hp → Prop, (∃ m, W 0 m σ H) ∧ ∀ i m σ H, W i m σ H →
      ((IteT K a).stop i H ∧ D.nx σ H) ∨ ((IteT K a).go i H ∧ ∃ N : St → Hp → Prop, (∀ σ' H', N σ' H' → ∃ m', m' < m ∧ W (i + 1) m' σ' H') ∧ ∀ x H', (IteT K a).yld i H x H' → g x σ H' fun σ2 H2 => tb { D with nx := N, ct := N, bk := D.nx } σ2 H2) := by
  refine ⟨fun i m σ H => m = xs.length - i ∧ i ≤ xs.length ∧ Pv i σ H, ⟨xs.length, by simp, Nat.zero_le _, h0⟩, ?_⟩
  rintro i m σ H ⟨rfl, hi, p⟩
  have q := hl i σ H hi p
  by_cases hlt : i < xs.length
  · refine .inr ⟨⟨xs, xs[i], q, by simp [hlt]⟩, Pv (i + 1), fun σ' H' p' => ⟨xs.length - (i + 1), by omega, rfl, hlt, p'⟩, fun v H' y => ?_⟩
    obtain ⟨T, x, e, n, e2, y⟩ := y
    subst e e2
    exact hs i x σ H T _ (y xs q) p n (sameNew n _) upd_same
  · have e : i = xs.length := by omega
    subst e
    exact .inl ⟨⟨xs, q, rfl⟩, hd σ H p⟩
end L2

set_option maxRecDepth 100000
set_option maxHeartbeats 4000000
/-! d.setdefault(k, v), the keys tuples of ints and texts -/
namespace L2
open PySem PySem.Spec PyProof.Rows
/-- d.setdefault(y, z), the keys tuples -/
def tDSetdT (td ty tx : TE) : TE := fun σ H Q => td σ H fun x H1 => ∃ a, x = .ref a ∧ IsD H1 a ∧ ty σ H1 fun y H2 => tx σ H2 fun z H3 => ∃ (kvs : List (List Key × V)) (k : List Key) (b : Addr), H3 a = some (.dT kvs) ∧ y = .ref b ∧ H3 b = some (.tup (k.map kV)) ∧ kvs.length < sizeLine ∧
  (∀ v, valV kvs k = some v → Q v H3) ∧ (valV kvs k = none → Q z (upd H3 a (.dT (putK kvs k z))))
section
variable {X : Cx} {o e f : Expr} {td ty tx : TE} {apos cpos : Pos}
theorem pe_dsetdT (hu : X.A.units + 1 < cLine) (ho : PE X o td) (he : PE X e ty) (hf : PE X f tx) (m : M2 X o "setdefault" apos e f cpos) : PE X (.Call (.Attribute o "setdefault" apos) [e, f] [] cpos) (tDSetdT td ty tx) := by
  refine ⟨fun pins s σ H Q I h => ?_⟩
  refine wpAny_Call_method m.base m.few m.line PySem.F.plainAttrs_dict PySem.F.slot_dict_setdefault PySem.F.type_dict_setdefault (thn (ho.run pins s σ H _ I h) fun u s1 ⟨x, H1, I1, rx, a, ex, d, q1⟩ => ?_)
  subst ex
  obtain rfl : u = Value.ref a := rx
  obtain ⟨t1, t2, _⟩ := isD_at I1 d
  refine ⟨t1, t2, ?_⟩
  rw [m.trees]
  refine Calls.callWith_builtin rfl (Calls.evalArgs_plain (Calls.spliced_cons (thn (he.run pins s1 σ H1 _ I1 q1) fun iv s2 ⟨y, H2, I2, ry, q2⟩ =>
    Calls.spliced_cons (thn (hf.run pins s2 σ H2 _ I2 q2) fun fv s3 ⟨z, H3, I3, rz, kvs, k, b, ea, ey, eb, hl, q3, q4⟩ => Calls.spliced_nil ?_))))
  subst ey
  obtain rfl : iv = Value.ref b := ry
  obtain ⟨zz, hd, xs, rel, dd⟩ := dt_of I3.hok ea
  have hz : xs.length ≤ sizeLine := by rw [← Paired.length rel]; exact zz
  refine call_meetsIn PySem.F.slot_dict_setdefault dd.typeIs PySem.F.entry_dict_setdefault (PySem.F.args_dict_setdefault_3 _ _ _) (meetsH_dict_setdefault (tupleKind (mixKind X.prog X.w)) a b hd fv)
    ⟨tupleKind_room_in1 hu, k, xs, key_of I3.hok eb, dd, hz, fun p hp => ?_, fun hn h' dd' hs => ?_⟩
  · have r := rel.val k
    rw [hp] at r
    obtain ⟨v0, ev, rv⟩ : ∃ v0, valV kvs k = some v0 ∧ RelV v0 p.2 := by
      cases ev : valV kvs k with
      | none =>
        rw [ev] at r
        exact (show False from r).elim
      | some v0 =>
        rw [ev] at r
        exact ⟨v0, rfl, r⟩
    exact ⟨v0, H3, I3.tok _, rv, q3 v0 ev⟩
  · have r := rel.val k
    rw [hn] at r
    have ev : valV kvs k = none := by
      cases ev : valV kvs k with
      | none => rfl
      | some v0 =>
        rw [ev] at r
        exact (show False from r).elim
    obtain ⟨qo, es, ep, hq, h2, h3, h4, _, h5⟩ := dd'
    have hl2 : (putK kvs k z).length ≤ sizeLine := by have := length_putK kvs k z; omega
    refine ⟨z, upd H3 a (.dT (putK kvs k z)), d_write I3 (by rw [ea]; exact True.intro) hs ⟨qo, hq⟩ ⟨hl2, hd, _, (KT.put rel k eb rz).keeps fun c ys ec => ?_, qo, es, ep, hq, h2, h3, h4, h5⟩, rz, q4 ev⟩
    rw [upd_ne (fun zc => by rw [zc, ea] at ec; cases ec)]
    exact ec
end
end L2

set_option maxRecDepth 100000
set_option maxHeartbeats 4000000
/-! max(xs, default = d) of a list of ints, which may be empty -/
namespace MaxD
open PySem
section
variable {prog : Program} {w : World} {A : Around} {E : Value → Shared → Prop} {s : Shared}
theorem tree_kw {id : String} {b : Builtin} {args : List Value} {kw : List (Str × Value)} {Q : Value → Shared → Prop} (hk : builtinKind id = none) (hp : plainId id = true)
    (hb : entryFor table id = some b) (ha : argsOk id ⟨args, kw⟩)
    (hc : wpAny (model prog w) A.in1 (b ⟨args, kw⟩) (fun fin s' => match fin with
      | .done f => (match (Except.ok f : Result) with | .ok (.ret v) => Q v s' | .ok _ => False | .error e => E e s')
      | .again c' => c'.quiet = true ∧ codeAny (model prog w) A c' (fun r s' => match r with | .ok (.ret v) => Q v s' | .ok _ => False | .error e => E e s') s') E s) :
    wpAny (model prog w) A (call (.builtin id) args kw) Q E s := by
  refine wpAny_call (codeAny_call_builtin hp hb ?_)
  simp only [checkBuiltinCall, hk]
  cases hsig : Manifest.signature? id with
  | none => exact wpAny_pure hc
  | some sig =>
    have ha' : Bind.checkArgs id sig ⟨args, kw⟩ = pure () := by simpa only [argsOk, hsig] using ha
    simp only [ha']
    exact wpAny_pure hc
end
section
variable {prog : Program} {w : World} {A : Around} {R : Result → Shared → Prop} {I : Addr} {fp wr : List Addr} {G : Array GenState → Array GenState → Prop} {n : Nat} {P : Nat → Value → Prop} {St : Nat → Shared → Prop} {d : Value}
abbrev kwD (d : Value) : List (Str × Value) := [(Str.ofString "default", d)]
theorem loop (W : WalksS prog w A.in1 I fp wr G n P St) (bt : Nat → Nat → Bool) (hcmp : CmpOf prog w A.in1 .Gt P bt) (S : Addr) (hSf : S ∉ fp) :
    ∀ (k j : Nat) (s : Shared) (vb : Value) (c : Nat), n - (j + 1) = k → j + 1 ≤ n → St (j + 1) s → P (argBest bt j) vb →
    s.heap.get? S = some { cls := .type "list", dict := none, data := .seq #[vb, vb] c, slots := #[] } →
    (∀ v s', P (argBest bt (n - 1)) v → Moved (S :: wr) G s s' → R (.ok (.ret v)) s') → codeAny (model prog w) A (.builtin "max.loop" ⟨[.ref I, .none, .ref S], kwD d⟩) R s := by
  have hSw : S ∉ wr := fun h => hSf (W.sub _ h)
  have up : ∀ b ∈ wr, b ∈ S :: wr := fun b hb => List.mem_cons_of_mem _ hb
  have hname : (toString "max" ++ toString ".loop" : String) = "max.loop" := by decide
  have off : ∀ {b : Addr}, b ∉ S :: wr → S ≠ b := fun hb h => hb (h ▸ List.mem_cons_self)
  intro k
  induction k with
  | zero =>
    intro j s vb c hk hj hst hPb hS hR
    have hin : j + 1 = n := by omega
    refine codeAny_builtin F.entry_max_loop ?_
    rw [Around.under_plainId F.plain_max_loop _]
    show wpAny _ A.in1 (seqItems? (.ref S) >>= _) _ _ s
    refine wpAny_bind (wpAny_seqItems hS rfl ?_)
    show wpAny _ A.in1 (tryCatch (pyNext (.ref I)) _ >>= _) _ _ s
    refine wpAny_bind (wpAny_tryCatch (W.done s _ _ (hin ▸ hst) fun s' hm => ?_))
    have hS' := hm.heap S _ hSw hS
    show wpAny _ A.in1 (updateSeq S (fun _ => #[]) >>= _) _ _ _
    refine wpAny_bind (wpAny_updateSeq hS' rfl (wpAny_bind (wpAny_letGo (wpAny_pure ?_))))
    exact hR vb _ (by rw [← hin]; exact hPb) ((hm.mono up).then_heap (tk := s'.toks) (Nat.le_refl _) fun b o hb e => (Heap.get?_update_other _ _ (off hb)).trans e)
  | succ k ih =>
    intro j s vb c hk hj hst hPb hS hR
    have hlt : j + 1 < n := by omega
    refine codeAny_builtin F.entry_max_loop ?_
    rw [Around.under_plainId F.plain_max_loop _]
    show wpAny _ A.in1 (seqItems? (.ref S) >>= _) _ _ s
    refine wpAny_bind (wpAny_seqItems hS rfl ?_)
    show wpAny _ A.in1 (tryCatch (pyNext (.ref I)) _ >>= _) _ _ s
    refine wpAny_bind (wpAny_tryCatch (W.item (j + 1) s _ _ hlt hst fun v s' hP hst' hm => ?_))
    have hS' := hm.heap S _ hSw hS
    show wpAny _ A.in1 (tryCatch (holding [v, v] (richCompare .Gt v vb >>= _)) _ >>= _) _ _ _
    refine wpAny_bind (wpAny_tryCatch (wpAny_holding (wpAny_bind (hcmp (j + 1) (argBest bt j) v vb _ _ _ hP hPb ?_))))
    refine wpAny_bind (wpAny_holding (wpAny_truthy_bool ?_))
    refine wpAny_bind (wpAny_letGo (wpAny_pure ?_))
    cases hb : bt (j + 1) (argBest bt j) with
    | true =>
      simp only [if_true]
      refine wpAny_bind (wpAny_updateSeq hS' rfl (wpAny_bind (wpAny_letGo ?_)))
      rw [hname]
      refine wpAny_pure ⟨plainId_quiet F.plain_max_loop _, ih (j + 1) _ v _ (by omega) hlt (W.frame _ s' _ s'.toks hst' (Nat.le_refl _) fun b hbf o e => ?_) (by simp only [argBest, hb, if_true]; exact hP) (Heap.get?_update_self _ hS' rfl)
        fun v' s'' hP' hm'' => ?_⟩
      · exact (Heap.get?_update_other _ _ (fun h : S = b => hSf (h ▸ hbf))).trans e
      · exact hR v' s'' hP' (Moved.trans W.gtrans ((hm.mono up).then_heap (Nat.le_refl _) fun b o hb e => (Heap.get?_update_other _ _ (off hb)).trans e) hm'')
    | false =>
      simp only [Bool.false_eq_true, if_false]
      refine wpAny_bind (wpAny_letGo ?_)
      rw [hname]
      refine wpAny_pure ⟨plainId_quiet F.plain_max_loop _, ih (j + 1) _ vb c (by omega) hlt hst' (by simp only [argBest, hb, Bool.false_eq_true, if_false]; exact hPb) hS' fun v' s'' hP' hm'' => ?_⟩
      exact hR v' s'' hP' (Moved.trans W.gtrans (hm.mono up) hm'')
theorem first (W : WalksS prog w A.in1 I fp wr G n P St) (bt : Nat → Nat → Bool) (hcmp : CmpOf prog w A.in1 .Gt P bt) (S : Addr) (hSf : S ∉ fp) {s : Shared} {c : Nat} (hst : St 0 s)
    (hS : s.heap.get? S = some { cls := .type "list", dict := none, data := .seq #[] c, slots := #[] })
    (hE : n = 0 → ∀ s', Moved (S :: wr) G s s' → R (.ok (.ret d)) s')
    (hR : 0 < n → ∀ v s', P (argBest bt (n - 1)) v → Moved (S :: wr) G s s' → R (.ok (.ret v)) s') : codeAny (model prog w) A (.builtin "max.loop" ⟨[.ref I, .none, .ref S], kwD d⟩) R s := by
  have hSw : S ∉ wr := fun h => hSf (W.sub _ h)
  have up : ∀ b ∈ wr, b ∈ S :: wr := fun b hb => List.mem_cons_of_mem _ hb
  have hname : (toString "max" ++ toString ".loop" : String) = "max.loop" := by decide
  have off : ∀ {b : Addr}, b ∉ S :: wr → S ≠ b := fun hb h => hb (h ▸ List.mem_cons_self)
  refine codeAny_builtin F.entry_max_loop ?_
  rw [Around.under_plainId F.plain_max_loop _]
  show wpAny _ A.in1 (seqItems? (.ref S) >>= _) _ _ s
  refine wpAny_bind (wpAny_seqItems hS rfl ?_)
  show wpAny _ A.in1 (tryCatch (pyNext (.ref I)) _ >>= _) _ _ s
  by_cases hn : 0 < n
  · refine wpAny_bind (wpAny_tryCatch (W.item 0 s _ _ hn hst fun v s' hP hst' hm => ?_))
    have hS' := hm.heap S _ hSw hS
    show wpAny _ A.in1 (updateSeq S (fun _ => #[v, v]) >>= _) _ _ _
    refine wpAny_bind (wpAny_updateSeq hS' rfl ?_)
    rw [hname]
    refine wpAny_pure ⟨plainId_quiet F.plain_max_loop _, loop W bt hcmp S hSf _ 0 _ v _ rfl hn (W.frame _ s' _ s'.toks hst' (Nat.le_refl _) fun b hbf o e => ?_) hP (Heap.get?_update_self _ hS' rfl) fun v' s'' hP' hm'' => ?_⟩
    · exact (Heap.get?_update_other _ _ (fun h : S = b => hSf (h ▸ hbf))).trans e
    · exact hR hn v' s'' hP' (Moved.trans W.gtrans ((hm.mono up).then_heap (Nat.le_refl _) fun b o hb e => (Heap.get?_update_other _ _ (off hb)).trans e) hm'')
  · have h0 : n = 0 := by omega
    refine wpAny_bind (wpAny_tryCatch (W.done s _ _ (h0 ▸ hst) fun s' hm => ?_))
    show wpAny _ A.in1 (rule _ >>= _) _ _ _
    refine wpAny_bind (wpAny_rule (wpAny_pure ?_))
    exact hE h0 s' (hm.mono up)
end
section
variable {prog : Program} {w : World} {A : Around} {E : Value → Shared → Prop} {s : Shared} {d : Value}
theorem args_maxD (a d : Value) : argsOk "max" ⟨[a], kwD d⟩ := by unfold argsOk; kernel_rfl
theorem call_maxD {x : Value} {Q : Value → Shared → Prop}
    (h : wpAny (model prog w) A.in1 (pyIter x) (fun it s₂ => ∃ I fp wr G n P St bt, it = .ref I ∧ WalksS prog w A.in1 I fp wr G n P St ∧ St 0 s₂ ∧ (∀ b ∈ fp, b < s₂.heap.objs.size) ∧ CmpOf prog w A.in1 .Gt P bt ∧
      (n = 0 → ∀ s', Moved wr G s₂ s' → Q d s') ∧ (0 < n → ∀ v s', P (argBest bt (n - 1)) v → Moved wr G s₂ s' → Q v s')) E s) :
    wpAny (model prog w) A (call (.builtin "max") [x] (kwD d)) Q E s := by
  have hname : (toString "max" ++ toString ".loop" : String) = "max.loop" := by decide
  refine tree_kw F.kind_max F.plain_max F.entry_max (args_maxD _ _) ?_
  show wpAny _ A.in1 (Builtin.Builtins.bindParams "max" ["key", "default"] 0 ⟨[], kwD d⟩ >>= _) _ _ s
  refine wpAny_bind (wpAny_of_eq (show Builtin.Builtins.bindParams "max" ["key", "default"] 0 ⟨[], kwD d⟩ = pure [none, some d] from by first | rfl | kernel_rfl) ?_)
  refine wpAny_bind (wpAny_pure ?_)
  refine wpAny_bind (wpAny_mono h (fun it s₂ h₂ => ?_) fun _ _ e => e)
  obtain ⟨I, fp, wr, G, n, P, St, bt, rfl, W, hst, hfp, hcmp, hE, hQ⟩ := h₂
  refine wpAny_bind (wpAny_newObj_type ?_)
  have hSf : s₂.heap.objs.size ∉ fp := fun hm => Nat.lt_irrefl _ (hfp _ hm)
  rw [hname]
  refine wpAny_pure ⟨plainId_quiet F.plain_max_loop _, first W bt hcmp s₂.heap.objs.size hSf (W.frame 0 s₂ _ s₂.toks hst (Nat.le_refl _) fun b _ o e => Heap.get?_push_of_some _ e) (Heap.get?_push_size _ rfl) (fun h0 s' hm => ?_) fun hn v s' hP hm => ?_⟩
  · exact hE h0 s' (Moved.drop_new (tk := s₂.toks) hm (Nat.le_refl _))
  · exact hQ hn v s' hP (Moved.drop_new (tk := s₂.toks) hm (Nat.le_refl _))
theorem max_ints {l : Addr} {xs : Array (Int × Tok)} {Q : Value → Shared → Prop} (hh : A.handled = none) (hl : s.heap.IsList l (intItems xs))
    (hE : xs.size = 0 → ∀ h' tk, s.toks ≤ tk → (∀ b o, s.heap.get? b = some o → h'.get? b = some o) → Q d { s with heap := h', toks := tk })
    (h : 0 < xs.size → ∀ v h' tk, s.toks ≤ tk → (intItems xs)[argBest (fun i j => decide (numAt xs i > numAt xs j)) (xs.size - 1)]? = some v → (∀ b o, s.heap.get? b = some o → h'.get? b = some o) → Q v { s with heap := h', toks := tk }) :
    wpAny (model prog w) A (call (.builtin "max") [.ref l] (kwD d)) Q E s := by
  have esz : (intItems xs).size = xs.size := by simp [intItems]
  have old : ∀ {s2 s' : Shared} {b : Addr} {o : Obj}, s2 = { s with heap := s.heap.push { cls := .type "list_iterator", data := .fields #[.ref l, .int 0 0] } } → Moved [s.heap.objs.size] (fun a b => b = a) s2 s' → s.heap.get? b = some o → s'.heap.get? b = some o := fun e hm hb => by
    subst e
    exact hm.heap _ _ (fun z => Nat.lt_irrefl _ (by have := Heap.lt_size hb; rw [List.mem_singleton.mp z] at this; exact this)) (Heap.get?_push_of_some _ hb)
  have same : ∀ (s2 s' : Shared), s2 = { s with heap := s.heap.push { cls := .type "list_iterator", data := .fields #[.ref l, .int 0 0] } } → Moved [s.heap.objs.size] (fun a b => b = a) s2 s' → s' = { s with heap := s'.heap, toks := s'.toks } := fun s2 s' e hm => by
    subst e
    obtain ⟨_, g, dr, os, _⟩ := hm
    obtain ⟨a1, a2, a3, a4, a5⟩ := s'
    obtain rfl : a2 = s.gens := g
    obtain rfl : a3 = s.drawn := dr
    obtain rfl : a5 = s.os := os
    rfl
  refine call_maxD (iter_intList hl fun s₂ e st hfp hlI => ?_)
  refine ⟨_, _, _, _, _, _, _, _, rfl, (Walks.list (A := A.in1) hh _ l hlI (intItems xs)).toS, st, hfp, CmpOf.ints_gt (numAt xs) (fun _ _ => intItems_at), fun h0 s' hm => ?_, fun hn v s' hP hm => ?_⟩
  · rw [same _ _ e hm]
    exact hE (by rw [← esz]; exact h0) _ _ (by have := hm.toks; rw [e] at this; exact this) fun b o q => old e hm q
  · rw [same _ _ e hm]
    refine h (by rw [← esz]; exact hn) v _ _ (by have := hm.toks; rw [e] at this; exact this) (by rw [esz] at hP; exact hP) fun b o q => old e hm q
end
end MaxD

namespace L2
open PySem PySem.Spec PyProof.Rows
/-- max(xs, default = d) -/
def rMaxD (K : PySem.W.Frag) : List V → List V → Hp → VK → Prop := fun vs zs H Q => ∃ (a : Addr) (ns : List Int) (d : Int), vs = [V.ref a] ∧ zs = [.int d] ∧ SqL K H a (ns.map V.int) ∧ ∀ m, (ns = [] ∧ m = d) ∨ (m ∈ ns ∧ ∀ x, x ∈ ns → x ≤ m) → Q (.int m) H
theorem cr_maxD {X : Cx} (hc : X.calm = true) : CallRK X (.builtin "max") [Str.ofString "default"] (rMaxD X.K) := by
  intro pins s σ H vs zs us ws Q I r rz h
  obtain ⟨a, ns, d, rfl, rfl, hs, q2⟩ := h
  obtain ⟨its, rv, hl, hz⟩ := I.list hs
  obtain rfl := Vals.ref1 r
  obtain ⟨w1, rfl, e1⟩ := vals1 rz
  have hi := rv.ints
  obtain ⟨xs, e⟩ := hi.allInts.items
  have hns : ns = xs.toList.map (·.1) := by rw [← hi.numsOf, ← nums_intItems, ← e]
  have hl2 := hl.isList
  rw [e] at hl2
  refine MaxD.max_ints (I.ok.hd hc) hl2 (fun h0 h' tk ht hk => ?_) fun hn v h' tk ht hv hk => ?_
  · refine ⟨.int d, H, I.kept hk, e1, q2 d (.inl ⟨?_, rfl⟩)⟩
    rw [hns, List.map_eq_nil_iff]
    exact List.length_eq_zero_iff.mp (by rw [Array.length_toList]; exact h0)
  · obtain ⟨t, rfl⟩ := intItems_at hv
    obtain ⟨h1, h2⟩ := argBest_gt (numAt xs) (xs.size - 1)
    refine ⟨.int _, H, I.kept hk, ⟨t, rfl⟩, q2 _ (.inr ⟨?_, fun x hx => ?_⟩)⟩
    · rw [hns, numAt_eq]
      exact getD_mem (by rw [List.length_map, Array.length_toList]; omega)
    · rw [hns] at hx
      obtain ⟨j, hj, rfl⟩ := mem_getD hx
      rw [List.length_map, Array.length_toList] at hj
      rw [← numAt_eq]
      exact h2 j (by omega)
end L2

/-! parting things into groups, as Hopcroft does: nothing but mathematics -/
namespace Wk
/-- what leads on: thing x at place p leads to nx x p, where p < len x -/
structure Net (n : Nat) (nx : Nat → Nat → Nat) (len : Nat → Nat) : Prop where
  lt : ∀ x, x < n → ∀ p, p < len x → nx x p < n
/-- groups of the things below n: m of them, none empty -/
structure Grp (n m : Nat) (own : Nat → Nat) : Prop where
  lt : ∀ x, x < n → own x < m
  some_ : ∀ g, g < m → ∃ x, x < n ∧ own x = g
/-- at most as many groups as things -/
theorem inj_le : ∀ (m n : Nat) (f : Nat → Nat), (∀ i, i < m → f i < n) → (∀ i j, i < m → j < m → f i = f j → i = j) → m ≤ n
  | 0, _, _, _, _ => Nat.zero_le _
  | m + 1, 0, f, h, _ => absurd (h 0 (Nat.succ_pos _)) (Nat.not_lt_zero _)
  | m + 1, n + 1, f, h, inj => by
    refine Nat.succ_le_succ (inj_le m n (fun i => if f i < f m then f i else f i - 1) (fun i hi => ?_) (fun i j hi hj e => ?_))
    · have h1 := h i (by omega)
      have h2 := h m (by omega)
      have h3 : f i ≠ f m := fun q => by have := inj i m (by omega) (by omega) q; omega
      show (if f i < f m then f i else f i - 1) < n
      split <;> omega
    · have h1 : f i ≠ f m := fun q => by have := inj i m (by omega) (by omega) q; omega
      have h2 : f j ≠ f m := fun q => by have := inj j m (by omega) (by omega) q; omega
      have e : (if f i < f m then f i else f i - 1) = (if f j < f m then f j else f j - 1) := e
      refine inj i j (by omega) (by omega) ?_
      split at e <;> split at e <;> omega
theorem Grp.few {n m : Nat} {own : Nat → Nat} (h : Grp n m own) : m ≤ n := by
  have : ∀ g : Nat, ∃ x, g < m → x < n ∧ own x = g := fun g => by
    by_cases hg : g < m
    · obtain ⟨x, h1, h2⟩ := h.some_ g hg
      exact ⟨x, fun _ => ⟨h1, h2⟩⟩
    · exact ⟨0, fun z => absurd z hg⟩
  refine inj_le m n (fun g => (this g).choose) (fun g hg => ((this g).choose_spec hg).1) fun g k hg hk e => ?_
  have h1 := ((this g).choose_spec hg).2
  have h2 := ((this k).choose_spec hk).2
  have e : (this g).choose = (this k).choose := e
  rw [e] at h1
  exact h1.symm.trans h2
/-- the group g parted: those of it in X go to the group f -/
def part (own : Nat → Nat) (g f : Nat) (X : Nat → Prop) [DecidablePred X] (x : Nat) : Nat := if own x = g ∧ X x then f else own x
section
variable {n m : Nat} {own : Nat → Nat} {g : Nat} {X : Nat → Prop} [DecidablePred X]
theorem part_old {x : Nat} (hm : ∀ x, x < n → own x < m) (hx : x < n) (h : part own g m X x ≠ m) : part own g m X x = own x ∧ ¬ (own x = g ∧ X x) := by
  unfold part at h ⊢
  split at h
  · exact absurd rfl h
  · rename_i z
    rw [if_neg z]
    exact ⟨rfl, z⟩
theorem part_new {x : Nat} (hm : ∀ x, x < n → own x < m) (hx : x < n) (h : part own g m X x = m) : own x = g ∧ X x := by
  unfold part at h
  split at h
  · assumption
  · have := hm x hx
    omega
/-- what is together behind was together before -/
theorem part_fine {x y : Nat} (hm : ∀ x, x < n → own x < m) (hx : x < n) (hy : y < n) (h : part own g m X x = part own g m X y) : own x = own y ∧ (own x = g → (X x ↔ X y)) := by
  by_cases z : part own g m X x = m
  · obtain ⟨h1, h2⟩ := part_new hm hx z
    obtain ⟨h3, h4⟩ := part_new hm hy (h ▸ z)
    exact ⟨h1.trans h3.symm, fun _ => ⟨fun _ => h4, fun _ => h2⟩⟩
  · obtain ⟨h1, h2⟩ := part_old hm hx z
    obtain ⟨h3, h4⟩ := part_old hm hy (h ▸ z)
    have e : own x = own y := by rw [← h1, ← h3, h]
    exact ⟨e, fun q => ⟨fun a => absurd ⟨q, a⟩ h2, fun a => absurd ⟨e ▸ q, a⟩ h4⟩⟩
theorem Grp.part (h : Grp n m own) (hg : g < m) (h1 : ∃ x, x < n ∧ own x = g ∧ X x) (h2 : ∃ x, x < n ∧ own x = g ∧ ¬ X x) : Grp n (m + 1) (part own g m X) := by
  refine ⟨fun x hx => ?_, fun k hk => ?_⟩
  · have := h.lt x hx
    unfold Wk.part
    split <;> omega
  · by_cases e : k = m
    · obtain ⟨x, a, b, c⟩ := h1
      exact ⟨x, a, by unfold Wk.part; rw [if_pos ⟨b, c⟩, e]⟩
    · by_cases eg : k = g
      · obtain ⟨x, a, b, c⟩ := h2
        exact ⟨x, a, by unfold Wk.part; rw [if_neg fun z => c z.2, b, eg]⟩
      · obtain ⟨x, a, b⟩ := h.some_ k (by omega)
        exact ⟨x, a, by unfold Wk.part; rw [if_neg fun z => eg (b ▸ z.1), b]⟩
end
/-- R: things that are never to be parted -/
structure Bis (n : Nat) (nx : Nat → Nat → Nat) (len : Nat → Nat) (R : Nat → Nat → Prop) : Prop where
  lenE : ∀ x y, R x y → len x = len y
  nxR : ∀ x y, R x y → ∀ p, p < len x → R (nx x p) (nx y p)
def Coarse (n : Nat) (own : Nat → Nat) (R : Nat → Nat → Prop) : Prop := ∀ x y, x < n → y < n → R x y → own x = own y
theorem Coarse.part {n m : Nat} {own : Nat → Nat} {g : Nat} {X : Nat → Prop} [DecidablePred X] {R : Nat → Nat → Prop} (h : Coarse n own R) (cl : ∀ x y, x < n → y < n → R x y → (X x ↔ X y)) : Coarse n (part own g m X) R := fun x y hx hy r => by
  have e := h x y hx hy r
  have c := cl x y hx hy r
  unfold Wk.part
  by_cases z : own x = g ∧ X x
  · rw [if_pos z, if_pos ⟨e ▸ z.1, c.mp z.2⟩]
  · rw [if_neg z, if_neg fun q => z ⟨e.trans q.1, c.mpr q.2⟩, e]
/-- what is still to be done: where two things of one group lead to two groups, one of them waits, or the place is not yet done and the splitter S parts them -/
def Due (n : Nat) (nx : Nat → Nat → Nat) (len : Nat → Nat) (own : Nat → Nat) (wait : Nat → Prop) (S : Nat → Prop) (done : Nat → Prop) : Prop := ∀ x y p, x < n → y < n → own x = own y → p < len x → p < len y → own (nx x p) ≠ own (nx y p) →
  wait (own (nx x p)) ∨ wait (own (nx y p)) ∨ (¬ done p ∧ ¬ (S (nx x p) ↔ S (nx y p)))
section
variable {n m : Nat} {nx : Nat → Nat → Nat} {len : Nat → Nat} {own : Nat → Nat} {wait wait' : Nat → Prop} {S done : Nat → Prop} {g : Nat} {X : Nat → Prop} [DecidablePred X]
/-- a group is taken off what waits: it is the splitter, no place is done -/
theorem Due.pop (h : Due n nx len own wait (fun _ => False) (fun _ => True)) (w : ∀ k, k ≠ g → wait k → wait' k) : Due n nx len own wait' (fun x => own x = g) (fun _ => False) := fun x y p hx hy e h1 h2 ne => by
  rcases h x y p hx hy e h1 h2 ne with z | z | ⟨z, _⟩
  · by_cases eg : own (nx x p) = g
    · exact .inr (.inr ⟨id, fun q => ne (eg.trans (q.mp eg).symm)⟩)
    · exact .inl (w _ eg z)
  · by_cases eg : own (nx y p) = g
    · exact .inr (.inr ⟨id, fun q => ne ((q.mpr eg).trans eg.symm)⟩)
    · exact .inr (.inl (w _ eg z))
  · exact absurd trivial z
/-- a group is parted: one of the two waits, both if the group did -/
theorem Due.split (net : Net n nx len) (hm : ∀ x, x < n → own x < m) (h : Due n nx len own wait S done) (keep : ∀ k, k ≠ g → k ≠ m → wait k → wait' k) (both : wait g → wait' g ∧ wait' m) (one : wait' g ∨ wait' m) : Due n nx len (part own g m X) wait' S done := fun x y p hx hy e h1 h2 ne => by
  have ex := (part_fine hm hx hy e).1
  have hu := net.lt x hx p h1
  have hv := net.lt y hy p h2
  have val : ∀ u, part own g m X u = own u ∨ (own u = g ∧ part own g m X u = m) := fun u => by
    unfold part
    split
    · rename_i z
      exact .inr ⟨z.1, rfl⟩
    · exact .inl rfl
  have up : ∀ u, u < n → wait (own u) → wait' (part own g m X u) := fun u hu w => by
    by_cases eg : own u = g
    · obtain ⟨b1, b2⟩ := both (eg ▸ w)
      rcases val u with q | ⟨_, q⟩
      · rw [q, eg]
        exact b1
      · rw [q]
        exact b2
    · rcases val u with q | ⟨z, _⟩
      · rw [q]
        have := hm u hu
        exact keep _ eg (by omega) w
      · exact absurd z eg
  by_cases eq : own (nx x p) = own (nx y p)
  · rcases val (nx x p) with q1 | ⟨z1, q1⟩ <;> rcases val (nx y p) with q2 | ⟨z2, q2⟩
    · exact absurd (q1.trans (eq.trans q2.symm)) ne
    · rw [q1, q2, eq, z2]
      exact one.elim .inl fun w => .inr (.inl w)
    · rw [q1, q2, ← eq, z1]
      exact one.elim (fun w => .inr (.inl w)) .inl
    · exact absurd (q1.trans q2.symm) ne
  · rcases h x y p hx hy ex h1 h2 eq with w | w | w
    · exact .inl (up _ hu w)
    · exact .inr (.inl (up _ hv w))
    · exact .inr (.inr w)
/-- a place is done -/
theorem Due.place {q : Nat} (h : Due n nx len own wait S done) (sep : ∀ x y, x < n → y < n → own x = own y → q < len x → q < len y → (S (nx x q) ↔ S (nx y q))) : Due n nx len own wait S (fun p => done p ∨ p = q) := fun x y p hx hy e h1 h2 ne => by
  rcases h x y p hx hy e h1 h2 ne with w | w | ⟨w1, w2⟩
  · exact .inl w
  · exact .inr (.inl w)
  · by_cases eq : p = q
    · subst eq
      exact absurd (sep x y hx hy e h1 h2) w2
    · exact .inr (.inr ⟨fun z => z.elim w1 eq, w2⟩)
/-- all places are done -/
theorem Due.rest (h : Due n nx len own wait S done) (all : ∀ x p, x < n → p < len x → done p) : Due n nx len own wait (fun _ => False) (fun _ => True) := fun x y p hx hy e h1 h2 ne => by
  rcases h x y p hx hy e h1 h2 ne with w | w | ⟨w1, _⟩
  · exact .inl w
  · exact .inr (.inl w)
  · exact absurd (all x p hx h1) w1
/-- nothing waits: what is together leads to what is together -/
theorem Due.done_ (h : Due n nx len own wait (fun _ => False) (fun _ => True)) (no : ∀ k, ¬ wait k) (x y p : Nat) (hx : x < n) (hy : y < n) (e : own x = own y) (h1 : p < len x) (h2 : p < len y) : own (nx x p) = own (nx y p) := by
  refine Decidable.byContradiction fun ne => ?_
  rcases h x y p hx hy e h1 h2 ne with w | w | ⟨w, _⟩
  · exact no _ w
  · exact no _ w
  · exact w trivial
/-- at the start all groups wait -/
theorem Due.start (all : ∀ x, x < n → wait (own x)) (net : Net n nx len) : Due n nx len own wait (fun _ => False) (fun _ => True) := fun x y p hx hy e h1 h2 ne => .inl (all _ (net.lt x hx p h1))
end
/-- the groups of a parting that is done are the alike things: R the likeness, own coarser, finer than the marks, led on together -/
theorem parted_all {n : Nat} {nx : Nat → Nat → Nat} {len own mark : Nat → Nat} {R : Nat → Nat → Prop} (co : Coarse n own R) (mk : ∀ x y, x < n → y < n → own x = own y → mark x = mark y ∧ len x = len y) (st : ∀ x y p, x < n → y < n → own x = own y → p < len x → p < len y → own (nx x p) = own (nx y p)) (net : Net n nx len)
    (great : ∀ T : Nat → Nat → Prop, (∀ x y, T x y → x < n ∧ y < n ∧ mark x = mark y ∧ len x = len y ∧ ∀ p, p < len x → T (nx x p) (nx y p)) → ∀ x y, T x y → R x y) (x y : Nat) (hx : x < n) (hy : y < n) : own x = own y ↔ R x y := by
  refine ⟨fun e => great (fun x y => x < n ∧ y < n ∧ own x = own y) (fun x y h => ?_) x y ⟨hx, hy, e⟩, co x y hx hy⟩
  obtain ⟨h1, h2, h3⟩ := h
  obtain ⟨m1, m2⟩ := mk x y h1 h2 h3
  exact ⟨h1, h2, m1, m2, fun p hp => ⟨net.lt x h1 p hp, net.lt y h2 p (m2 ▸ hp), st x y p h1 h2 h3 hp (m2 ▸ hp)⟩⟩
/-! the rounds ahead of it: things numbered by marks, as they come -/
/-- a finer grouping with as many groups is the same -/
theorem same_groups {n m : Nat} {own fin : Nat → Nat} (h1 : Grp n m own) (h2 : Grp n m fin) (fine : ∀ x y, x < n → y < n → fin x = fin y → own x = own y) (x y : Nat) (hx : x < n) (hy : y < n) (e : own x = own y) : fin x = fin y := by
  refine Decidable.byContradiction fun ne => ?_
  have rep : ∀ k : Nat, ∃ z, k < m → z < n ∧ own z = k ∧ (k = own x → z = x) := fun k => by
    by_cases hk : k < m
    · by_cases ek : k = own x
      · exact ⟨x, fun _ => ⟨hx, ek.symm, fun _ => rfl⟩⟩
      · obtain ⟨z, a, b⟩ := h1.some_ k hk
        exact ⟨z, fun _ => ⟨a, b, fun q => absurd q ek⟩⟩
    · exact ⟨0, fun z => absurd z hk⟩
  have spec := fun k => (rep k).choose_spec
  have : m + 1 ≤ m := inj_le (m + 1) m (fun i => if i < m then fin (rep i).choose else fin y) (fun i hi => by
    show (if i < m then fin (rep i).choose else fin y) < m
    split
    · rename_i z
      exact h2.lt _ (spec i z).1
    · exact h2.lt y hy) (fun i j hi hj q => by
    have q : (if i < m then fin (rep i).choose else fin y) = (if j < m then fin (rep j).choose else fin y) := q
    have out : ∀ k, k < m → fin (rep k).choose ≠ fin y := fun k hk z => by
      obtain ⟨a, b, c⟩ := spec k hk
      have e2 := fine _ _ a hy z
      have e3 : k = own x := by rw [← b, e2, e]
      rw [c e3] at z
      exact ne z
    by_cases zi : i < m <;> by_cases zj : j < m
    · rw [if_pos zi, if_pos zj] at q
      have e2 := fine _ _ (spec i zi).1 (spec j zj).1 q
      rw [(spec i zi).2.1, (spec j zj).2.1] at e2
      exact e2
    · rw [if_pos zi, if_neg zj] at q
      exact absurd q (out i zi)
    · rw [if_neg zi, if_pos zj] at q
      exact absurd q.symm (out j zj)
    · omega)
  omega
/-- the marks met so far, each once: pushed behind when new -/
def push {α : Type} [DecidableEq α] (l : List α) (a : α) : List α := if a ∈ l then l else l ++ [a]
def seen {α : Type} [DecidableEq α] (l : List α) : List α := l.foldl push []
section
variable {α : Type} [DecidableEq α]
theorem push_nodup {l : List α} {a : α} (h : l.Nodup) : (push l a).Nodup := by
  unfold push
  split
  · exact h
  · rename_i z
    rw [List.nodup_append]
    exact ⟨h, by simp, fun b hb c hc e => by rw [List.mem_singleton.mp hc] at e; exact z (e ▸ hb)⟩
theorem push_mem {l : List α} {a b : α} : b ∈ push l a ↔ b ∈ l ∨ b = a := by
  unfold push
  split
  · rename_i z
    exact ⟨.inl, fun q => q.elim id fun e => e ▸ z⟩
  · rw [List.mem_append, List.mem_singleton]
theorem fold_nodup : ∀ (l : List α) (s : List α), s.Nodup → (l.foldl push s).Nodup
  | [], _, h => h
  | _ :: l, _, h => fold_nodup l _ (push_nodup h)
theorem fold_mem : ∀ (l : List α) (s : List α) (b : α), b ∈ l.foldl push s ↔ b ∈ s ∨ b ∈ l
  | [], s, b => by simp
  | a :: l, s, b => by
    rw [List.foldl_cons, fold_mem l (push s a) b, push_mem, List.mem_cons]
    exact ⟨fun q => q.elim (fun z => z.elim .inl fun e => .inr (.inl e)) fun z => .inr (.inr z), fun q => q.elim (fun z => .inl (.inl z)) fun z => z.elim (fun e => .inl (.inr e)) .inr⟩
theorem push_pre {l : List α} {a : α} : l <+: push l a := by
  unfold push
  split
  · exact List.prefix_refl l
  · exact List.prefix_append l [a]
theorem fold_pre : ∀ (l : List α) (s : List α), s <+: l.foldl push s
  | [], s => List.prefix_refl s
  | a :: l, s => push_pre.trans (fold_pre l (push s a))
theorem seen_nodup (l : List α) : (seen l).Nodup := fold_nodup l [] .nil
theorem seen_mem {l : List α} {b : α} : b ∈ seen l ↔ b ∈ l := by
  unfold seen
  rw [fold_mem]
  simp
/-- the number of a mark -/
def numOf (l : List α) (a : α) : Nat := (seen l).idxOf a
theorem numOf_lt {l : List α} {a : α} (h : a ∈ l) : numOf l a < (seen l).length := List.idxOf_lt_length_of_mem (seen_mem.mpr h)
theorem numOf_inj {l : List α} {a b : α} (ha : a ∈ l) (e : numOf l a = numOf l b) : a = b := by
  have h1 := numOf_lt ha
  have h2 : numOf l b < (seen l).length := e ▸ h1
  have e1 : (seen l)[numOf l a] = a := List.getElem_idxOf h1
  have e2 : (seen l)[numOf l b] = b := List.getElem_idxOf h2
  rw [← e1, ← e2]
  congr 1
theorem seen_step {l : List α} {i : Nat} {a : α} (h : l[i]? = some a) : seen (l.take (i + 1)) = push (seen (l.take i)) a := by
  unfold seen
  rw [List.take_add_one, h, List.foldl_append]
  rfl
theorem seen_pre (l : List α) (i : Nat) : seen (l.take i) <+: seen l := by
  have e : seen l = (l.drop i).foldl push (seen (l.take i)) := by
    unfold seen
    rw [← List.foldl_append, List.take_append_drop]
  rw [e]
  exact fold_pre _ _
theorem idxOf_pre {s t : List α} {a : α} (h : s <+: t) (m : a ∈ s) : t.idxOf a = s.idxOf a := by
  obtain ⟨r, rfl⟩ := h
  rw [List.idxOf_append, if_pos m]
/-- a mark met before has its number -/
theorem numOf_old {l : List α} {i : Nat} {a : α} (m : a ∈ seen (l.take i)) : numOf l a = (seen (l.take i)).idxOf a := idxOf_pre (seen_pre l i) m
/-- a new one takes the next -/
theorem numOf_new {l : List α} {i : Nat} {a : α} (h : l[i]? = some a) (m : a ∉ seen (l.take i)) : numOf l a = (seen (l.take i)).length := by
  have e := seen_step h
  unfold push at e
  rw [if_neg m] at e
  have ma : a ∈ seen (l.take (i + 1)) := by rw [e]; simp
  rw [numOf_old ma, e, List.idxOf_append, if_neg m]
  simp
/-- numbered(marks) -/
def nums (l : List α) : List Nat := l.map (numOf l)
theorem nums_get {l : List α} {x : Nat} {a : α} (h : l[x]? = some a) : (nums l).getD x 0 = numOf l a := by
  unfold nums
  rw [List.getD_eq_getElem?_getD, List.getElem?_map, h]
  rfl
theorem grp_nums (l : List α) : Grp l.length (seen l).length (fun x => (nums l).getD x 0) := by
  refine ⟨fun x hx => ?_, fun g hg => ?_⟩
  · have h : l[x]? = some l[x] := List.getElem?_eq_getElem hx
    show (nums l).getD x 0 < _
    rw [nums_get h]
    exact numOf_lt (List.mem_of_getElem? h)
  · have hm : (seen l)[g] ∈ l := seen_mem.mp (List.getElem_mem hg)
    obtain ⟨x, hx⟩ := List.mem_iff_getElem?.mp hm
    refine ⟨x, (List.getElem?_eq_some_iff.mp hx).1, ?_⟩
    show (nums l).getD x 0 = g
    rw [nums_get hx]
    have h2 : (seen l).idxOf (seen l)[g] < (seen l).length := List.idxOf_lt_length_of_mem (List.getElem_mem hg)
    have h3 : (seen l)[(seen l).idxOf (seen l)[g]] = (seen l)[g] := List.getElem_idxOf h2
    exact (List.getElem?_inj h2 (seen_nodup l)).mp (by rw [List.getElem?_eq_getElem h2, List.getElem?_eq_getElem hg, h3])
/-- alike numbers, alike marks -/
theorem nums_eq {l : List α} {x y : Nat} {a b : α} (hx : l[x]? = some a) (hy : l[y]? = some b) : (nums l).getD x 0 = (nums l).getD y 0 ↔ a = b := by
  rw [nums_get hx, nums_get hy]
  exact ⟨numOf_inj (List.mem_of_getElem? hx), fun e => by rw [e]⟩
/-- the greatest number and one is how many there are -/
theorem grp_max {n m : Nat} {own : Nat → Nat} (h : Grp n m own) (hm : 0 < m) : (∃ x, x < n ∧ own x + 1 = m) ∧ ∀ x, x < n → own x + 1 ≤ m := by
  obtain ⟨x, a, b⟩ := h.some_ (m - 1) (by omega)
  exact ⟨⟨x, a, by omega⟩, fun x hx => h.lt x hx⟩
end
/-! one round: things numbered by their group and the groups they lead to -/
def keyOf (nx : Nat → Nat → Nat) (len own : Nat → Nat) (x : Nat) : List Nat := own x :: (List.range (len x)).map fun p => own (nx x p)
theorem key_eq {nx : Nat → Nat → Nat} {len own : Nat → Nat} {x y : Nat} (h : keyOf nx len own x = keyOf nx len own y) : own x = own y ∧ len x = len y ∧ ∀ p, p < len x → own (nx x p) = own (nx y p) := by
  unfold keyOf at h
  obtain ⟨h1, h2⟩ := List.cons.inj h
  have hl : len x = len y := by
    have := congrArg List.length h2
    rwa [List.length_map, List.length_map, List.length_range, List.length_range] at this
  refine ⟨h1, hl, fun p hp => ?_⟩
  have e : ((List.range (len x)).map fun p => own (nx x p))[p]? = ((List.range (len y)).map fun p => own (nx y p))[p]? := by rw [h2]
  rw [List.getElem?_map, List.getElem?_map, List.getElem?_range hp, List.getElem?_range (hl ▸ hp)] at e
  exact Option.some.inj e
theorem key_same {nx : Nat → Nat → Nat} {len own : Nat → Nat} {x y : Nat} (h1 : own x = own y) (h2 : len x = len y) (h3 : ∀ p, p < len x → own (nx x p) = own (nx y p)) : keyOf nx len own x = keyOf nx len own y := by
  unfold keyOf
  rw [h1, ← h2]
  congr 1
  exact List.map_congr_left fun p hp => h3 p (List.mem_range.mp hp)
def round (n : Nat) (nx : Nat → Nat → Nat) (len own : Nat → Nat) (x : Nat) : Nat := (nums ((List.range n).map (keyOf nx len own))).getD x 0
section
variable {n : Nat} {nx : Nat → Nat → Nat} {len own : Nat → Nat}
theorem round_iff {x y : Nat} (hx : x < n) (hy : y < n) : round n nx len own x = round n nx len own y ↔ keyOf nx len own x = keyOf nx len own y :=
  nums_eq (l := (List.range n).map (keyOf nx len own)) (by rw [List.getElem?_map, List.getElem?_range hx]; rfl) (by rw [List.getElem?_map, List.getElem?_range hy]; rfl)
theorem round_grp : Grp n (seen ((List.range n).map (keyOf nx len own))).length (round n nx len own) := by
  have := grp_nums ((List.range n).map (keyOf nx len own))
  rwa [List.length_map, List.length_range] at this
/-- a round parts no alike things -/
theorem round_coarse {R : Nat → Nat → Prop} (co : Coarse n own R) (net : Net n nx len) (b : Bis n nx len R) : Coarse n (round n nx len own) R := fun x y hx hy r => (round_iff hx hy).mpr (key_same (co x y hx hy r) (b.lenE x y r) fun p hp => co _ _ (net.lt x hx p hp) (net.lt y hy p (b.lenE x y r ▸ hp)) (b.nxR x y r p hp))
theorem round_fine {x y : Nat} (hx : x < n) (hy : y < n) (e : round n nx len own x = round n nx len own y) : own x = own y := (key_eq ((round_iff hx hy).mp e)).1
/-- a round that finds no more groups: what is together leads to what is together -/
theorem round_done {m : Nat} (g : Grp n m own) (e : (seen ((List.range n).map (keyOf nx len own))).length = m) (x y p : Nat) (hx : x < n) (hy : y < n) (h : own x = own y) (hp : p < len x) : own (nx x p) = own (nx y p) := by
  have g2 := round_grp (n := n) (nx := nx) (len := len) (own := own)
  rw [e] at g2
  exact (key_eq ((round_iff hx hy).mp (same_groups g g2 (fun x y hx hy e => round_fine hx hy e) x y hx hy h))).2.2 p hp
end
/-! all groups that a set cuts -/
structure Pst where
  own : Nat → Nat
  m : Nat
  wait : Nat → Prop
/-- the set X cuts the group g in two -/
def Proper (n : Nat) (X : Nat → Prop) (g : Nat) (s : Pst) : Prop := (∃ x, x < n ∧ s.own x = g ∧ X x) ∧ ∃ x, x < n ∧ s.own x = g ∧ ¬ X x
/-- one group is seen to -/
def Cut (n : Nat) (X : Nat → Prop) (g : Nat) (s s' : Pst) : Prop :=
  (Proper n X g s ∧ (∀ x, x < n → (s.own x = g ∧ X x → s'.own x = s.m) ∧ (¬ (s.own x = g ∧ X x) → s'.own x = s.own x)) ∧ s'.m = s.m + 1 ∧ (∀ k, k ≠ g → k ≠ s.m → s.wait k → s'.wait k) ∧ (s.wait g → s'.wait g ∧ s'.wait s.m) ∧ (s'.wait g ∨ s'.wait s.m)) ∨
  (¬ Proper n X g s ∧ (∀ x, x < n → s'.own x = s.own x) ∧ s'.m = s.m ∧ ∀ k, s.wait k → s'.wait k)
/-- what a parting keeps -/
structure Keeps (n : Nat) (nx : Nat → Nat → Nat) (len : Nat → Nat) (R : Nat → Nat → Prop) (S done : Nat → Prop) (s : Pst) : Prop where
  grp : Grp n s.m s.own
  co : Coarse n s.own R
  due : Due n nx len s.own s.wait S done
section
variable {n : Nat} {nx : Nat → Nat → Nat} {len : Nat → Nat} {R : Nat → Nat → Prop} {S done X : Nat → Prop} {g : Nat} {s s' : Pst}
theorem due_congr {own own' : Nat → Nat} {wait wait' : Nat → Prop} (net : Net n nx len) (e : ∀ x, x < n → own' x = own x) (w : ∀ k, wait k → wait' k) (h : Due n nx len own wait S done) : Due n nx len own' wait' S done := fun x y p hx hy q h1 h2 ne => by
  have hu := net.lt x hx p h1
  have hv := net.lt y hy p h2
  rw [e _ hx, e _ hy] at q
  rw [e _ hu, e _ hv] at ne ⊢
  exact (h x y p hx hy q h1 h2 ne).imp (w _) fun z => z.imp (w _) id
theorem Cut.fine (lt : ∀ x, x < n → s.own x < s.m) (c : Cut n X g s s') {x y : Nat} (hx : x < n) (hy : y < n) (e : s'.own x = s'.own y) : s.own x = s.own y ∧ (s.own x = g → (X x ↔ X y)) := by
  rcases c with ⟨pr, ow, _⟩ | ⟨np, ow, _⟩
  · have a := ow x hx
    have b := ow y hy
    have lx := lt x hx
    have ly := lt y hy
    by_cases zx : s.own x = g ∧ X x <;> by_cases zy : s.own y = g ∧ X y
    · exact ⟨zx.1.trans zy.1.symm, fun _ => ⟨fun _ => zy.2, fun _ => zx.2⟩⟩
    · rw [a.1 zx, b.2 zy] at e
      omega
    · rw [a.2 zx, b.1 zy] at e
      omega
    · rw [a.2 zx, b.2 zy] at e
      exact ⟨e, fun q => ⟨fun u => absurd ⟨q, u⟩ zx, fun u => absurd ⟨e ▸ q, u⟩ zy⟩⟩
  · rw [ow x hx, ow y hy] at e
    exact ⟨e, fun q => ⟨fun u => Classical.byContradiction fun v => np ⟨⟨x, hx, q, u⟩, y, hy, e ▸ q, v⟩, fun u => Classical.byContradiction fun v => np ⟨⟨y, hy, e ▸ q, u⟩, x, hx, q, v⟩⟩⟩
theorem Cut.other (c : Cut n X g s s') {x : Nat} (hx : x < n) (ne : s.own x ≠ g) : s'.own x = s.own x := by
  rcases c with ⟨_, ow, _⟩ | ⟨_, ow, _⟩
  · exact (ow x hx).2 fun z => ne z.1
  · exact ow x hx
theorem Cut.keeps (net : Net n nx len) (hg : g < s.m) (cl : ∀ x y, x < n → y < n → R x y → (X x ↔ X y)) (k : Keeps n nx len R S done s) (c : Cut n X g s s') : Keeps n nx len R S done s' := by
  classical
  rcases c with ⟨pr, ow, em, keep, both, one⟩ | ⟨np, ow, em, w⟩
  · have e : ∀ x, x < n → s'.own x = part s.own g s.m X x := fun x hx => by
      unfold part
      by_cases z : s.own x = g ∧ X x
      · rw [if_pos z]
        exact (ow x hx).1 z
      · rw [if_neg z]
        exact (ow x hx).2 z
    have gp := k.grp.part (X := X) hg pr.1 pr.2
    have cp := Coarse.part (g := g) (m := s.m) (X := X) k.co cl
    have dp := Due.split (X := X) (g := g) (wait' := s'.wait) net k.grp.lt k.due keep both one
    exact ⟨⟨fun x hx => by rw [e x hx, em]; exact gp.lt x hx, fun j hj => by
      rw [em] at hj
      obtain ⟨x, a, b⟩ := gp.some_ j hj
      exact ⟨x, a, by rw [e x a]; exact b⟩⟩, fun x y hx hy r => by rw [e x hx, e y hy]; exact cp x y hx hy r, due_congr net e (fun _ z => z) dp⟩
  · exact ⟨⟨fun x hx => by rw [ow x hx, em]; exact k.grp.lt x hx, fun j hj => by
      rw [em] at hj
      obtain ⟨x, a, b⟩ := k.grp.some_ j hj
      exact ⟨x, a, by rw [ow x a]; exact b⟩⟩, fun x y hx hy r => by rw [ow x hx, ow y hy]; exact k.co x y hx hy r, due_congr net ow w k.due⟩
end
/-- the groups of a list are seen to, one after another -/
inductive Cuts (n : Nat) (X : Nat → Prop) : List Nat → Pst → Pst → Prop where
  | nil (s : Pst) : Cuts n X [] s s
  | cons {g : Nat} {gs : List Nat} {s s1 s' : Pst} (c : Cut n X g s s1) (r : Cuts n X gs s1 s') : Cuts n X (g :: gs) s s'
section
variable {n : Nat} {nx : Nat → Nat → Nat} {len : Nat → Nat} {R : Nat → Nat → Prop} {S done X : Nat → Prop} {gs : List Nat} {s s' : Pst}
theorem Cut.more {g : Nat} (c : Cut n X g s s') : s.m ≤ s'.m := by
  rcases c with ⟨_, _, em, _⟩ | ⟨_, _, em, _⟩ <;> omega
theorem Cuts.keeps (net : Net n nx len) (cl : ∀ x y, x < n → y < n → R x y → (X x ↔ X y)) (c : Cuts n X gs s s') : Keeps n nx len R S done s → (∀ g ∈ gs, g < s.m) → Keeps n nx len R S done s' := by
  induction c with
  | nil s => exact fun k _ => k
  | cons c r ih => exact fun k lt => ih (c.keeps net (lt _ List.mem_cons_self) cl k) fun g hg => Nat.lt_of_lt_of_le (lt g (List.mem_cons_of_mem _ hg)) c.more
theorem Cuts.fine (c : Cuts n X gs s s') : (∀ x, x < n → s.own x < s.m) → gs.Nodup → ∀ {x y : Nat}, x < n → y < n → s'.own x = s'.own y → s.own x = s.own y ∧ (s.own x ∈ gs → (X x ↔ X y)) := by
  induction c with
  | nil s => exact fun _ _ x y _ _ e => ⟨e, fun z => nomatch z⟩
  | @cons g gs s s1 s' c r ih =>
    intro lt nd x y hx hy e
    have lt1 : ∀ x, x < n → s1.own x < s1.m := fun x hx => by
      have := lt x hx
      rcases c with ⟨_, ow, em, _⟩ | ⟨_, ow, em, _⟩
      · by_cases z : s.own x = g ∧ X x
        · rw [(ow x hx).1 z]
          omega
        · rw [(ow x hx).2 z]
          omega
      · rw [ow x hx]
        omega
    obtain ⟨h1, h2⟩ := ih lt1 (List.nodup_cons.mp nd).2 hx hy e
    obtain ⟨h3, h4⟩ := c.fine lt hx hy h1
    refine ⟨h3, fun hm => ?_⟩
    rcases List.mem_cons.mp hm with q | q
    · exact h4 q
    · have ne : s.own x ≠ g := fun z => (List.nodup_cons.mp nd).1 (z ▸ q)
      exact h2 (by rw [c.other hx ne]; exact q)
/-- all groups that meet X are seen to: X parts nothing that is together -/
theorem Cuts.sep (c : Cuts n X gs s s') (lt : ∀ x, x < n → s.own x < s.m) (nd : gs.Nodup) (all : ∀ x, x < n → X x → s.own x ∈ gs) {x y : Nat} (hx : x < n) (hy : y < n) (e : s'.own x = s'.own y) : X x ↔ X y := by
  obtain ⟨h1, h2⟩ := c.fine lt nd hx hy e
  exact ⟨fun u => (h2 (all x hx u)).mp u, fun u => (h2 (h1 ▸ all y hy u)).mpr u⟩
end
section
variable {n : Nat} {nx : Nat → Nat → Nat} {len : Nat → Nat} {R : Nat → Nat → Prop} {S done : Nat → Prop} {gs : List Nat} {s s' : Pst} {q : Nat}
/-- one place is seen to -/
theorem Cuts.place (net : Net n nx len) (b : Bis n nx len R) (clS : ∀ x y, x < n → y < n → R x y → (S x ↔ S y)) (k : Keeps n nx len R S done s) (c : Cuts n (fun x => q < len x ∧ S (nx x q)) gs s s') (lt : ∀ g ∈ gs, g < s.m) (nd : gs.Nodup) (all : ∀ x, x < n → q < len x → S (nx x q) → s.own x ∈ gs) :
    Keeps n nx len R S (fun p => done p ∨ p = q) s' := by
  have k2 := c.keeps net (fun x y hx hy r => by
    have e := b.lenE x y r
    exact ⟨fun z => ⟨e ▸ z.1, (clS _ _ (net.lt x hx q z.1) (net.lt y hy q (e ▸ z.1)) (b.nxR x y r q z.1)).mp z.2⟩, fun z => ⟨e ▸ z.1, (clS _ _ (net.lt x hx q (e ▸ z.1)) (net.lt y hy q z.1) (b.nxR x y r q (e ▸ z.1))).mpr z.2⟩⟩) k lt
  exact ⟨k2.grp, k2.co, k2.due.place fun x y hx hy e h1 h2 => by
    have z := c.sep k.grp.lt nd (fun x hx z => all x hx z.1 z.2) hx hy e
    exact ⟨fun u => (z.mp ⟨h1, u⟩).2, fun u => (z.mpr ⟨h2, u⟩).2⟩⟩
/-- a group is taken off what waits -/
theorem Keeps.pop {g : Nat} {wait' : Nat → Prop} (k : Keeps n nx len R (fun _ => False) (fun _ => True) s) (w : ∀ j, j ≠ g → s.wait j → wait' j) : Keeps n nx len R (fun x => s.own x = g) (fun _ => False) { s with wait := wait' } ∧ ∀ x y, x < n → y < n → R x y → (s.own x = g ↔ s.own y = g) :=
  ⟨⟨k.grp, k.co, k.due.pop w⟩, fun x y hx hy r => by rw [k.co x y hx hy r]⟩
/-- all places are seen to -/
theorem Keeps.rest (k : Keeps n nx len R S done s) (all : ∀ x p, x < n → p < len x → done p) : Keeps n nx len R (fun _ => False) (fun _ => True) s := ⟨k.grp, k.co, k.due.rest all⟩
/-- nothing waits: the groups are the likeness -/
theorem Keeps.done_ {mark : Nat → Nat} (k : Keeps n nx len R (fun _ => False) (fun _ => True) s) (no : ∀ j, ¬ s.wait j) (net : Net n nx len) (mk : ∀ x y, x < n → y < n → s.own x = s.own y → mark x = mark y ∧ len x = len y)
    (great : ∀ T : Nat → Nat → Prop, (∀ x y, T x y → x < n ∧ y < n ∧ mark x = mark y ∧ len x = len y ∧ ∀ p, p < len x → T (nx x p) (nx y p)) → ∀ x y, T x y → R x y) (x y : Nat) (hx : x < n) (hy : y < n) : s.own x = s.own y ↔ R x y :=
  parted_all k.co mk (fun x y p hx hy e h1 h2 => k.due.done_ no x y p hx hy e h1 h2) net great x y hx hy
end
end Wk

set_option maxRecDepth 100000
set_option maxHeartbeats 4000000
namespace Mine
open PySem L2
def top (i : Nat) : Stmt := PySem.Challenge.pw_askfurther_k05_great_bodies.main.body.getD i (.Pass ⟨0, 0, 0, 0⟩)
abbrev s_is_integer : Stmt := top 14
abbrev s_is_within : Stmt := top 15
abbrev s_is_index : Stmt := top 16
abbrev s_is_row : Stmt := top 17
abbrev s_is_name : Stmt := top 18
abbrev s_is_text_in : Stmt := top 19
/-- the built-in types whose things are passed -/
def bts : List String := ["NoneType", "bool", "int", "str", "float", "list", "tuple", "dict", "bytes", "set"]
def kb (t u : String) : Bool := t == u || (t == "bool" && u == "int")
theorem kit_b : ∀ t ∈ bts, ∀ u ∈ bts, kitB t u = some (kb t u) := by decide +kernel
/-- a thing of a built-in type -/
structure Bt (K : PySem.W.Frag) (H : Hp) (v : V) (t : String) : Prop where
  ty : TyX K H v (.type t)
  m : t ∈ bts
theorem Bt.kit {K : PySem.W.Frag} {H : Hp} {v : V} {t u : String} (b : Bt K H v t) (hu : u ∈ bts) : PySem.W.kitOne K (.type t) (.type u) = some (kb t u) := kit_ty (kit_b t b.m u hu)
theorem Bt.int {K : PySem.W.Frag} {H : Hp} {v : V} {t : String} (b : Bt K H v t) (h : (t == "int") = true) : ∃ i : Int, v = .int i := by
  cases b.ty with
  | base z => cases z <;> first | exact ⟨_, rfl⟩ | (exact absurd h (by decide))
  | _ => exact absurd h (by decide)
theorem Bt.str {K : PySem.W.Frag} {H : Hp} {v : V} {t : String} (b : Bt K H v t) (h : (t == "str") = true) : ∃ x : Str, v = .str x := by
  cases b.ty with
  | base z => cases z <;> first | exact ⟨_, rfl⟩ | (exact absurd h (by decide))
  | _ => exact absurd h (by decide)
theorem Bt.same {K : PySem.W.Frag} {H H' : Hp} {v : V} {t : String} (s : Same H H') (b : Bt K H v t) : Bt K H' v t := by
  refine ⟨?_, b.m⟩
  cases b.ty with
  | base h =>
    cases h with
    | non => exact .base .non
    | bl x => exact .base (.bl x)
    | int i => exact .base (.int i)
    | str x => exact .base (.str x)
    | flt x => exact .base (.flt x)
    | lst e => exact .base (.lst (s _ _ e))
    | frz e => exact .base (.frz (s _ _ e))
    | tup e => exact .base (.tup (s _ _ e))
    | dK e => exact .base (.dK (s _ _ e))
    | dT e => exact .base (.dT (s _ _ e))
  | byt x => exact .byt x
  | set e => exact .set (s _ _ e)
  | kList e c => exact .kList e c
  | kTuple e c => exact .kTuple e c
  | kDict e c => exact .kDict e c
  | fTuple e => exact .fTuple (s _ _ e)
  | fDict e => exact .fDict (s _ _ e)
/-- an integer in bounds; a name; what else is none -/
def inW (v : V) (lo hi : Int) : Bool := match v with
  | .int i => decide (lo ≤ i) && decide (i ≤ hi)
  | _ => false
def lettersS : Str := "abcdefghijklmnopqrstuvwxyz"
def isNm (x : Str) : Bool := decide (1 ≤ x.length) && decide (x.length ≤ 8) && x.cps.toList.all fun c => decide (c ∈ lettersS.cps.toList)
def nameV (v : V) : Bool := match v with
  | .str x => isNm x
  | _ => false
theorem inW_of {K : PySem.W.Frag} {H : Hp} {v : V} {t : String} (b : Bt K H v t) (h : (t == "int") = false) (lo hi : Int) : inW v lo hi = false := by
  cases b.ty with
  | base z => cases z <;> first | rfl | (exact absurd h (by decide))
  | _ => rfl
theorem nameV_of {K : PySem.W.Frag} {H : Hp} {v : V} {t : String} (b : Bt K H v t) (h : (t == "str") = false) : nameV v = false := by
  cases b.ty with
  | base z => cases z <;> first | rfl | (exact absurd h (by decide))
  | _ => rfl
def spInt (K : PySem.W.Frag) : Sp := fun vs H Q _ => ∃ (v : V) (t : String), vs = [v] ∧ Bt K H v t ∧ Q (.bl (t == "int")) H
def spWithin (K : PySem.W.Frag) : Sp := fun vs H Q _ => ∃ (v : V) (t : String) (lo hi : Int), vs = [v, .int lo, .int hi] ∧ Bt K H v t ∧ Q (.bl (inW v lo hi)) H
def spIndex (K : PySem.W.Frag) : Sp := fun vs H Q _ => ∃ (v : V) (t : String) (m : Int), vs = [v, .int m] ∧ Bt K H v t ∧ Q (.bl (inW v 0 (m - 1))) H
def spIsRow (K : PySem.W.Frag) : Sp := fun vs H Q _ => ∃ (v : V) (t : String), vs = [v] ∧ Bt K H v t ∧ ∀ H', Same H H' → Q (.bl (t == "list" || t == "tuple")) H'
def spName (K : PySem.W.Frag) : Sp := fun vs H Q _ => ∃ (v : V) (t : String), vs = [v] ∧ Bt K H v t ∧ (∀ x, v = .str x → x.length ≤ sizeLine) ∧ ∀ H', Same H H' → Q (.bl (nameV v)) H'
/-- a text's place in a dict of texts -/
def hasT (kvs : List (Key × V)) (v : V) : Bool := match v with
  | .str x => (valV kvs (.inr x)).isSome
  | _ => false
def spTextIn (K : PySem.W.Frag) : Sp := fun vs H Q _ => ∃ (v : V) (t : String) (d : Addr) (kvs : List (Key × V)), vs = [v, .ref d] ∧ Bt K H v t ∧ Rd H d (.dK kvs) ∧ Q (.bl (hasT kvs v)) H
structure TxtF (K : PySem.W.Frag) (mg : Str → Option Value) (fII fIW : Addr) : Prop where
  b_isinstance : mg "isinstance" = none
  b_int : mg "int" = none
  b_bool : mg "bool" = none
  b_str : mg "str" = none
  b_list : mg "list" = none
  b_tuple : mg "tuple" = none
  b_dict : mg "dict" = none
  b_len : mg "len" = none
  b_all : mg "all" = none
  c_LETTERS : ∃ t, mg "LETTERS" = some (.str lettersS t)
  c_LONGEST_NAME : ∃ t, mg "LONGEST_NAME" = some (.int 8 t)
  g_is_integer : mg "is_integer" = some (.ref fII)
  k_is_integer : PySem.W.keepIn K (.ref fII) = true
  g_is_within : mg "is_within" = some (.ref fIW)
  k_is_within : PySem.W.keepIn K (.ref fIW) = true
section
variable {P : Program} {w : World} {K : PySem.W.Frag} {mg : Str → Option Value} {base : Heap}
variable {fII fIW : Addr} {fdII fdIW : FuncData}
theorem sc_is_integer : FnScope ["thing"] ["thing"] (defScope s_is_integer) := ⟨rfl, rfl, rfl, by decide +kernel, rfl, by decide +kernel, by decide +kernel⟩
theorem ok_is_integer {f : Addr} {fd : FuncData} (F : Fun K "is_integer" "is_integer" s_is_integer f fd) (T : TxtF K mg fII fIW) : FnOk P w K mg base CX0 1 f fd ["thing"] (spInt K) := by
  refine F.ok sc_is_integer (fun vs H Q E h => ?_) (fun cdv A outer s H vs Q E hr h => ?_)
  · obtain ⟨v, t, rfl, _⟩ := h
    rfl
  · obtain ⟨v, t, rfl, b, k⟩ := h
    refine ⟨_, (pss_one (ps_ret (pe_and (pe_callB call_isi (by rfl) T.b_isinstance (by decide +kernel) (pa_cons (pv 0) (pa_cons (pe_bltn (v := .ty "int") rfl T.b_int (by decide +kernel) rfl) pa_nil))) (pe_one (pe_not (pe_callB call_isi (by rfl) T.b_isinstance (by decide +kernel) (pa_cons (pv 0) (pa_cons (pe_bltn (v := .ty "bool") rfl T.b_bool (by decide +kernel) rfl) pa_nil)))))))), ?_⟩
    refine ⟨_, rfl, v, _, _, _, _, rfl, .ty _, b.ty, b.kit (u := "int") (by decide), _, rfl, ?_⟩
    refine ite2 (fun h1 => ?_) (fun h1 => ?_)
    · refine ⟨_, rfl, v, _, _, _, _, rfl, .ty _, b.ty, b.kit (u := "bool") (by decide), _, rfl, ?_⟩
      have e : (!kb t "bool") = (t == "int") := by
        have := b.m
        revert h1
        simp only [bts, List.mem_cons, List.not_mem_nil, or_false] at this
        rcases this with rfl | rfl | rfl | rfl | rfl | rfl | rfl | rfl | rfl | rfl <;> decide
      rw [e]
      exact k
    · have e : (t == "int") = false := by
        have := b.m
        revert h1
        simp only [bts, List.mem_cons, List.not_mem_nil, or_false] at this
        rcases this with rfl | rfl | rfl | rfl | rfl | rfl | rfl | rfl | rfl | rfl <;> decide
      rw [e] at k
      exact k
theorem sc_is_within : FnScope ["thing", "low", "high"] ["thing", "low", "high"] (defScope s_is_within) := ⟨rfl, rfl, rfl, by decide +kernel, rfl, by decide +kernel, by decide +kernel⟩
theorem ok_is_within {f : Addr} {fd : FuncData} (F : Fun K "is_within" "is_within" s_is_within f fd) (T : TxtF K mg fII fIW) (FI : Fun K "is_integer" "is_integer" s_is_integer fII fdII) (bI : Binds K fdII ["thing"] []) : FnOk P w K mg base CX0 2 f fd ["thing", "low", "high"] (spWithin K) := by
  have GI : FnOk P w K mg base CX0 1 fII fdII ["thing"] (spInt K) := ok_is_integer FI T
  refine F.ok sc_is_within (fun vs H Q E h => ?_) (fun cdv A outer s H vs Q E hr h => ?_)
  · obtain ⟨v, t, lo, hi, rfl, _⟩ := h
    rfl
  · obtain ⟨v, t, lo, hi, rfl, b, k⟩ := h
    refine ⟨_, (pss_one (ps_ret (pe_and (pe_call GI hr (by rfl) T.g_is_integer T.k_is_integer bI .nil pass0 (pa_cons (pv 0) pa_nil)) (pe_one (pe_chain op_le op_le (pv 1) (pv 0) (pv 2)))))), ?_⟩
    refine ⟨_, rfl, v, t, rfl, b, _, rfl, ?_⟩
    refine ite2 (fun h1 => ?_) (fun h1 => ?_)
    · obtain ⟨i, rfl⟩ := b.int h1
      refine ⟨_, rfl, _, rfl, _, _, rfl, rfl, _, rfl, ?_⟩
      refine ite2 (fun h2 => ?_) (fun h2 => ?_)
      · refine ⟨_, rfl, _, _, rfl, rfl, ?_⟩
        have e : inW (.int i) lo hi = decide (i ≤ hi) := by
          show (decide (lo ≤ i) && decide (i ≤ hi)) = _
          rw [h2, Bool.true_and]
        show Q (.bl (decide (i ≤ hi))) H
        rw [← e]
        exact k
      · have e : inW (.int i) lo hi = false := by
          show (decide (lo ≤ i) && decide (i ≤ hi)) = _
          rw [Bool.eq_false_iff.mpr h2, Bool.false_and]
        rw [e] at k
        exact k
    · rw [inW_of b (Bool.eq_false_iff.mpr h1)] at k
      exact k
theorem sc_is_index : FnScope ["thing", "many"] ["thing", "many"] (defScope s_is_index) := ⟨rfl, rfl, rfl, by decide +kernel, rfl, by decide +kernel, by decide +kernel⟩
theorem ok_is_index {f : Addr} {fd : FuncData} (F : Fun K "is_index" "is_index" s_is_index f fd) (T : TxtF K mg fII fIW) (FI : Fun K "is_integer" "is_integer" s_is_integer fII fdII) (bI : Binds K fdII ["thing"] [])
    (FW : Fun K "is_within" "is_within" s_is_within fIW fdIW) (bW : Binds K fdIW ["thing", "low", "high"] []) : FnOk P w K mg base CX0 3 f fd ["thing", "many"] (spIndex K) := by
  have GW : FnOk P w K mg base CX0 2 fIW fdIW ["thing", "low", "high"] (spWithin K) := ok_is_within FW T FI bI
  refine F.ok sc_is_index (fun vs H Q E h => ?_) (fun cdv A outer s H vs Q E hr h => ?_)
  · obtain ⟨v, t, m, rfl, _⟩ := h
    rfl
  · obtain ⟨v, t, m, rfl, b, k⟩ := h
    refine ⟨_, (pss_one (ps_ret (pe_call GW hr (by rfl) T.g_is_within T.k_is_within bW .nil pass0 (pa_cons (pv 0) (pa_cons pe_int (pa_cons (pe_op op_sub (pv 1) pe_int) pa_nil)))))), ?_⟩
    exact ⟨_, rfl, _, rfl, _, _, rfl, rfl, v, t, 0, m - 1, rfl, b, k⟩
theorem sc_is_row : FnScope ["thing"] ["thing"] (defScope s_is_row) := ⟨rfl, rfl, rfl, by decide +kernel, rfl, by decide +kernel, by decide +kernel⟩
theorem ok_is_row {f : Addr} {fd : FuncData} (F : Fun K "is_row" "is_row" s_is_row f fd) (T : TxtF K mg fII fIW) : FnOk P w K mg base CX0 1 f fd ["thing"] (spIsRow K) := by
  refine F.ok sc_is_row (fun vs H Q E h => ?_) (fun cdv A outer s H vs Q E hr h => ?_)
  · obtain ⟨v, t, rfl, _⟩ := h
    rfl
  · obtain ⟨v, t, rfl, b, k⟩ := h
    refine ⟨_, (pss_one (ps_ret (pe_callB call_isiT (by rfl) T.b_isinstance (by decide +kernel) (pa_cons (pv 0) (pa_cons (pe_tupG (pa_cons (pe_bltn (v := .ty "list") rfl T.b_list (by decide +kernel) rfl) (pa_cons (pe_bltn (v := .ty "tuple") rfl T.b_tuple (by decide +kernel) rfl) pa_nil))) pa_nil))))), ?_⟩
    refine ⟨_, rfl, by show 2 ≤ sizeLine; decide, fun p H1 n1 s1 e1 => ?_⟩
    have b1 := b.same s1
    have kk : PySem.W.kitAny K (.type t) [.type "list", .type "tuple"] = some (t == "list" || t == "tuple") := by
      have h1 : kb t "list" = (t == "list") := by simp [kb]
      have h2 : kb t "tuple" = (t == "tuple") := by simp [kb]
      refine kitAny_cons (b1.kit (u := "list") (by decide)) (fun z => ?_) (fun z => ?_)
      · rw [h1] at z
        refine kitAny_cons (b1.kit (u := "tuple") (by decide)) (fun y => ?_) (fun y => ?_)
        · rw [h2] at y
          rw [z, y]
          exact kitAny_nil
        · rw [h2] at y
          rw [y, Bool.or_true]
      · rw [h1] at z
        rw [z, Bool.true_or]
    exact ⟨v, p, _, _, _, _, rfl, e1, .cons (.ty _) (.cons (.ty _) .nil), b1.ty, kk, k _ s1⟩
end
end Mine

set_option maxRecDepth 100000
set_option maxHeartbeats 4000000
namespace Mine
open PySem L2
abbrev s_are_counts : Stmt := top 20
abbrev s_are_operations : Stmt := top 21
abbrev s_word_of : Stmt := top 23
abbrev s_are_nexts : Stmt := top 24
abbrev s_line_of : Stmt := top 58
abbrev s_is_line : Stmt := top 57
structure TxtG (K : PySem.W.Frag) (mg : Str → Option Value) (a_is_row a_is_index a_is_name a_is_text_in a_are_counts a_word_of a_are_nexts a_is_line a_line_of a_are_operations : Addr) : Prop where
  c_MOST_OPERATIONS : ∃ t, mg "MOST_OPERATIONS" = some (.int 8 t)
  c_MOST_ANSWERS : ∃ t, mg "MOST_ANSWERS" = some (.int 6 t)
  g_is_row : mg "is_row" = some (.ref a_is_row)
  k_is_row : PySem.W.keepIn K (.ref a_is_row) = true
  g_is_index : mg "is_index" = some (.ref a_is_index)
  k_is_index : PySem.W.keepIn K (.ref a_is_index) = true
  g_is_name : mg "is_name" = some (.ref a_is_name)
  k_is_name : PySem.W.keepIn K (.ref a_is_name) = true
  g_is_text_in : mg "is_text_in" = some (.ref a_is_text_in)
  k_is_text_in : PySem.W.keepIn K (.ref a_is_text_in) = true
  g_are_counts : mg "are_counts" = some (.ref a_are_counts)
  k_are_counts : PySem.W.keepIn K (.ref a_are_counts) = true
  g_word_of : mg "word_of" = some (.ref a_word_of)
  k_word_of : PySem.W.keepIn K (.ref a_word_of) = true
  g_are_nexts : mg "are_nexts" = some (.ref a_are_nexts)
  k_are_nexts : PySem.W.keepIn K (.ref a_are_nexts) = true
  g_is_line : mg "is_line" = some (.ref a_is_line)
  k_is_line : PySem.W.keepIn K (.ref a_is_line) = true
  g_line_of : mg "line_of" = some (.ref a_line_of)
  k_line_of : PySem.W.keepIn K (.ref a_line_of) = true
  g_are_operations : mg "are_operations" = some (.ref a_are_operations)
  k_are_operations : PySem.W.keepIn K (.ref a_are_operations) = true
theorem globI {X : Cx} {x : Str} {i : Int} {pos : Pos} (hg : Gl X x) (h : ∃ t, X.mg x = some (.int i t)) (hd : (x == ("__debug__" : Str)) = false := by decide) : PE X (.Name x pos) (tC (.int i)) := by
  obtain ⟨t, e⟩ := h
  exact pe_glob hg e ⟨t, rfl⟩ hd
theorem globS {X : Cx} {x y : Str} {pos : Pos} (hg : Gl X x) (h : ∃ t, X.mg x = some (.str y t)) (hd : (x == ("__debug__" : Str)) = false := by decide) : PE X (.Name x pos) (tC (.str y)) := by
  obtain ⟨t, e⟩ := h
  exact pe_glob hg e ⟨t, rfl⟩ hd
/-- the letters of a text are looked at one by one -/
def lets (x : Str) (i : Nat) : List Bool := (x.cps.toList.take i).map fun c => decide (c ∈ lettersS.cps.toList)
theorem lets_succ {x : Str} {i c : Nat} (h : x.cps[i]? = some c) : lets x (i + 1) = lets x i ++ [decide (c ∈ lettersS.cps.toList)] := by
  have h' : x.cps.toList[i]? = some c := by rw [← h]; simp
  unfold lets
  rw [List.take_add_one, h', List.map_append]
  rfl
theorem lets_all (x : Str) : (lets x x.cps.size).all id = x.cps.toList.all fun c => decide (c ∈ lettersS.cps.toList) := by
  unfold lets
  rw [show x.cps.size = x.cps.toList.length by simp, List.take_length, List.all_map]
  rfl
section
variable {P : Program} {w : World} {K : PySem.W.Frag} {mg : Str → Option Value} {base : Heap}
variable {fII fIW : Addr}
theorem sc_is_name : FnScope ["thing", "letter"] ["thing"] (defScope s_is_name) := ⟨rfl, rfl, rfl, by decide +kernel, rfl, by decide +kernel, by decide +kernel⟩
theorem ok_is_name {f : Addr} {fd : FuncData} (F : Fun K "is_name" "is_name" s_is_name f fd) (T : TxtF K mg fII fIW) : FnOk P w K mg base CX0 1 f fd ["thing"] (spName K) := by
  refine F.ok sc_is_name (fun vs H Q E h => ?_) (fun cdv A outer s H vs Q E hr h => ?_)
  · obtain ⟨v, t, rfl, _⟩ := h
    rfl
  · obtain ⟨v, t, rfl, b, sz, k⟩ := h
    refine ⟨_, (pss_cons (ps_if (PW.pt (pw_or (pt_not (pt_val (pe_callB call_isi (by rfl) T.b_isinstance (by decide +kernel) (pa_cons (pv 0) (pa_cons (pe_bltn (v := .ty "str") rfl T.b_str (by decide +kernel) rfl) pa_nil))))) (pw_or1 (pt_not (pt_chain op_le op_le pe_int (pe_callB call_len_str (by rfl) T.b_len PySem.boot_len (pa_cons (pv 0) pa_nil)) (globI rfl T.c_LONGEST_NAME)))))) (pss_one (ps_ret pe_bl)) pss_nil)
      (pss_one (ps_ret (pe_callB (cr_all rfl) (by rfl) T.b_all (by decide +kernel) (pa_cons (pe_lc (own := [("letter", 1)]) (g := gName 1) (tt := tYes) rfl sc_is_name.nd (pi_str (pv 0)) (blkOk_by (own := [("letter", 1)]) (N := ["thing", "letter"]) (sc := defScope s_is_name) (by decide +kernel)) (fun _ _ _ _ _ => pg_name (i := 1) sc_is_name.nd rfl (Or.inl rfl)) (fun _ _ _ _ _ => pts_nil) (fun _ _ _ _ _ => (pe_cmpR op_in_sign (pv 1) (globS rfl T.c_LETTERS) (by rfl)))) pa_nil))))), ?_⟩
    have hk : ∀ t', (kb t' "str") = (t' == "str") := fun t' => by simp [kb]
    refine ⟨_, rfl, v, _, _, _, _, rfl, .ty _, b.ty, b.kit (u := "str") (by decide), _, rfl, ?_⟩
    rw [hk]
    by_cases h1 : (t == "str") = true
    · obtain ⟨x, rfl⟩ := b.str h1
      rw [h1]
      refine iteF ?_
      refine ⟨_, rfl, ?_⟩
      refine ⟨x, rfl, sz x rfl, _, _, rfl, rfl, _, rfl, ?_⟩
      have bad : ¬ (1 ≤ x.length ∧ x.length ≤ 8) → isNm x = false := fun z => by
        unfold isNm
        by_cases y : 1 ≤ x.length
        · rw [decide_eq_true y, decide_eq_false (fun u => z ⟨y, u⟩)]
          rfl
        · rw [decide_eq_false y]
          rfl
      by_cases h2 : 1 ≤ x.length
      · rw [decide_eq_true (show (1 : Int) ≤ (x.length : Int) by omega)]
        refine iteT ?_
        refine ⟨_, _, rfl, rfl, _, rfl, ?_⟩
        by_cases h3 : x.length ≤ 8
        · rw [decide_eq_true (show (x.length : Int) ≤ 8 by omega)]
          refine iteF ?_
          refine ⟨_, rfl, x, rfl, fun D nD => lc_it walk_str (fun i Hx => Same H Hx ∧ Hx D = some (.lst ((lets x i).map V.bl))) ⟨sameNew nD _, upd_same⟩ (fun _ _ _ _ => trivial) (fun i y Ha Hb hi z1 z2 => ?_) fun Hx z => ?_⟩
          · obtain ⟨sx, ex⟩ := z1
            obtain ⟨rfl, c, hc, rfl⟩ := z2
            refine ⟨rfl, _, rfl, c, lettersS, rfl, rfl, _, ex, ?_, fun b o e => ?_, ?_⟩
            · rw [List.length_map]
              show ((x.cps.toList.take i).map _).length < _
              rw [List.length_map, List.length_take, sizeLine_eq]
              have : x.cps.toList.length ≤ 8 := by
                have : x.length = x.cps.toList.length := by simp [Str.length]
                omega
              omega
            · rw [upd_ne (ne_of_none e nD)]
              exact sx _ _ e
            · rw [lets_succ hc, List.map_append]
              exact upd_same
          · obtain ⟨sx, ex⟩ := z
            refine ⟨D, _, rfl, SqL.of ex, ?_⟩
            rw [lets_all]
            have e : nameV (.str x) = x.cps.toList.all fun c => decide (c ∈ lettersS.cps.toList) := by
              show isNm x = _
              unfold isNm
              rw [decide_eq_true h2, decide_eq_true h3, Bool.true_and, Bool.true_and]
            rw [← e]
            exact k _ sx
        · rw [decide_eq_false (show ¬ (x.length : Int) ≤ 8 by omega)]
          refine iteT ?_
          have e : nameV (.str x) = false := bad fun z => h3 z.2
          rw [e] at k
          exact k _ (Same.refl _)
      · rw [decide_eq_false (show ¬ (1 : Int) ≤ (x.length : Int) by omega)]
        refine iteF ?_
        refine ⟨_, rfl, ?_⟩
        refine iteT ?_
        have e : nameV (.str x) = false := bad fun z => h2 z.1
        rw [e] at k
        exact k _ (Same.refl _)
    · rw [Bool.eq_false_iff.mpr h1]
      refine iteT ?_
      have e := nameV_of b (Bool.eq_false_iff.mpr h1)
      rw [e] at k
      exact k _ (Same.refl _)
end
end Mine

set_option maxRecDepth 100000
set_option maxHeartbeats 4000000
namespace L2
open PySem PySem.Spec PyProof.Rows
/-- a list or a tuple -/
def SqA (H : Hp) (a : Addr) (xs : List V) : Prop := H a = some (.lst xs) ∨ H a = some (.tup xs)
theorem Same.sqa {H H' : Hp} {a : Addr} {xs : List V} (s : Same H H') (h : SqA H a xs) : SqA H' a xs := h.elim (fun h => .inl (s _ _ h)) fun h => .inr (s _ _ h)
theorem SqA.ix {K : PySem.W.Frag} {H : Hp} {a : Addr} {xs : List V} {i : Int} {v : V} {Q : VK} (h : SqA H a xs) (e : atI xs i = some v) (q : Q v H) : rIx K (.ref a) (.int i) H Q := by
  rcases h with h | h
  · exact .inl ⟨a, xs, i, v, rfl, rfl, SqL.of h, e, q⟩
  · exact .inr (.inl ⟨a, xs, i, v, rfl, rfl, .inl (.inl h), e, q⟩)
theorem SqA.sq {K : PySem.W.Frag} {H : Hp} {a : Addr} {xs : List V} (h : SqA H a xs) : SqL K H a xs ∨ SqT K H a xs := h.elim (fun h => .inl (SqL.of h)) fun h => .inr (.inl (.inl h))
theorem pi_or {X : Cx} {tg iter : Expr} {w1 w2 : TI} (h1 : PI X tg iter w1) (h2 : PI X tg iter w2) : PI X tg iter (fun σ H R => w1 σ H R ∨ w2 σ H R) :=
  ⟨fun pins s σ H R I h => h.elim (h1.run pins s σ H R I) (h2.run pins s σ H R I)⟩
def iSeq (K : PySem.W.Frag) (tl : TE) : TI := fun σ H R => iList K tl σ H R ∨ iTup K tl σ H R
theorem pi_seq {X : Cx} {tg l : Expr} {tl : TE} (hl : PE X l tl) : PI X tg l (iSeq X.K tl) := pi_or (pi_list hl) (pi_tup hl)
theorem same_unlock {H Hx : Hp} {a : Addr} {u : HO} {od : Obj} (e : H a = some u) (s : Same (upd H a (.frz od u)) Hx) : Same H (upd Hx a u) := fun b o h => by
  by_cases z : b = a
  · subst z
    rw [e] at h
    rw [upd_same, h]
  · rw [upd_ne z]
    exact s b o (by rw [upd_ne z]; exact h)
end L2
namespace Mine
open PySem L2
abbrev Ops := List (Str × Int)
def opsK (o : Ops) : List (Key × V) := o.map fun p => (Sum.inr p.1, V.int p.2)
def opLook (o : Ops) (x : Str) : Option Int := (o.find? fun p => decide (p.1 = x)).map (·.2)
theorem val_ops (o : Ops) (x : Str) : valV (opsK o) (.inr x) = (opLook o x).map V.int := by
  unfold valV opsK opLook
  induction o with
  | nil => rfl
  | cons p o ih =>
    by_cases h : p.1 = x
    · simp [h]
    · have h2 : ¬ (Sum.inr p.1 : Key) = Sum.inr x := fun z => h (Sum.inr.inj z)
      simp only [List.map_cons, List.find?_cons, decide_eq_false h, decide_eq_false h2]
      exact ih
/-- operations that are right -/
structure OkOps (o : Ops) : Prop where
  few : o.length ≤ 8
  each : ∀ p ∈ o, isNm p.1 = true ∧ 0 ≤ p.2 ∧ p.2 ≤ 6
  nd : (o.map (·.1)).Nodup
def spCounts : Sp := fun vs H Q _ => ∃ (a : Addr) (o : Ops) (most lo hi : Int), vs = [.ref a, .int most, .int lo, .int hi] ∧ H a = some (.dK (opsK o)) ∧ (o.length : Int) ≤ most ∧ o.length ≤ 1000 ∧ (∀ p ∈ o, isNm p.1 = true ∧ lo ≤ p.2 ∧ p.2 ≤ hi) ∧ ∀ H', Same H H' → Q (.bl true) H'
def spOps : Sp := fun vs H Q _ => ∃ (a : Addr) (o : Ops), vs = [.ref a] ∧ H a = some (.dK (opsK o)) ∧ OkOps o ∧ ∀ H', Same H H' → Q (.bl true) H'
/-- what a row of a body says -/
inductive RowD where
  | ask (op : Str) (ns : List Int)
  | go (n : Int)
  | fin (w : Str)
/-- the row stands there, in lists or tuples -/
def RowAt (H : Hp) (v : V) : RowD → Prop
  | .ask op ns => ∃ a t, v = .ref a ∧ SqA H a [.str "ask", .str op, .ref t] ∧ SqA H t (ns.map V.int)
  | .go n => ∃ a, v = .ref a ∧ SqA H a [.str "go", .int n]
  | .fin w => ∃ a, v = .ref a ∧ SqA H a [.str "end", .str w]
/-- .. in tuples -/
def TRow (H : Hp) (v : V) : RowD → Prop
  | .ask op ns => ∃ a t, v = .ref a ∧ H a = some (.tup [.str "ask", .str op, .ref t]) ∧ H t = some (.tup (ns.map V.int))
  | .go n => ∃ a, v = .ref a ∧ H a = some (.tup [.str "go", .int n])
  | .fin w => ∃ a, v = .ref a ∧ H a = some (.tup [.str "end", .str w])
theorem RowAt.same {H H' : Hp} {v : V} {r : RowD} (s : Same H H') (h : RowAt H v r) : RowAt H' v r := by
  cases r with
  | ask op ns =>
    obtain ⟨a, t, e, h1, h2⟩ := h
    exact ⟨a, t, e, s.sqa h1, s.sqa h2⟩
  | go n =>
    obtain ⟨a, e, h1⟩ := h
    exact ⟨a, e, s.sqa h1⟩
  | fin w =>
    obtain ⟨a, e, h1⟩ := h
    exact ⟨a, e, s.sqa h1⟩
theorem TRow.same {H H' : Hp} {v : V} {r : RowD} (s : Same H H') (h : TRow H v r) : TRow H' v r := by
  cases r with
  | ask op ns =>
    obtain ⟨a, t, e, h1, h2⟩ := h
    exact ⟨a, t, e, s _ _ h1, s _ _ h2⟩
  | go n =>
    obtain ⟨a, e, h1⟩ := h
    exact ⟨a, e, s _ _ h1⟩
  | fin w =>
    obtain ⟨a, e, h1⟩ := h
    exact ⟨a, e, s _ _ h1⟩
theorem TRow.row {H : Hp} {v : V} {r : RowD} (h : TRow H v r) : RowAt H v r := by
  cases r with
  | ask op ns =>
    obtain ⟨a, t, e, h1, h2⟩ := h
    exact ⟨a, t, e, .inr h1, .inr h2⟩
  | go n =>
    obtain ⟨a, e, h1⟩ := h
    exact ⟨a, e, .inr h1⟩
  | fin w =>
    obtain ⟨a, e, h1⟩ := h
    exact ⟨a, e, .inr h1⟩
/-- the row is one of a body with these operations and so many rows -/
def OkRow (o : Ops) (many : Int) : RowD → Prop
  | .ask op ns => opLook o op = some (ns.length : Int) ∧ ns.length ≤ 1000 ∧ ∀ n ∈ ns, 0 ≤ n ∧ n < many
  | .go n => 0 ≤ n ∧ n < many
  | .fin w => isNm w = true ∧ w.length ≤ 8
def spWord : Sp := fun vs H Q _ => ∃ (a : Addr) (x : Str) (xs : List V), vs = [.ref a] ∧ SqA H a (.str x :: xs) ∧ ∀ H', Same H H' → Q (.str x) H'
def spNexts : Sp := fun vs H Q _ => ∃ (t d : Addr) (ns : List Int) (op : Str) (o : Ops) (many : Int), vs = [.ref t, .str op, .ref d, .int many] ∧ SqA H t (ns.map V.int) ∧ Rd H d (.dK (opsK o)) ∧
  opLook o op = some (ns.length : Int) ∧ ns.length ≤ 1000 ∧ (∀ n ∈ ns, 0 ≤ n ∧ n < many) ∧ ∀ H', Same H H' → Q (.bl true) H'
def spIsLine : Sp := fun vs H Q _ => ∃ (v : V) (d : Addr) (o : Ops) (many : Int) (r : RowD), vs = [v, .ref d, .int many] ∧ RowAt H v r ∧ Rd H d (.dK (opsK o)) ∧ OkRow o many r ∧ ∀ H', Same H H' → Q (.bl true) H'
def spLineOf : Sp := fun vs H Q _ => ∃ (v : V) (r : RowD), vs = [v] ∧ RowAt H v r ∧ ∀ (v' : V) (H' : Hp), Same H H' → TRow H' v' r → Q v' H'
theorem inW_int {i lo hi : Int} (h1 : lo ≤ i) (h2 : i ≤ hi) : inW (.int i) lo hi = true := by
  show (decide (lo ≤ i) && decide (i ≤ hi)) = true
  rw [decide_eq_true h1, decide_eq_true h2]
  rfl
theorem btInt {K : PySem.W.Frag} {H : Hp} (i : Int) : Bt K H (.int i) "int" := ⟨.base (.int i), by decide⟩
theorem btStr {K : PySem.W.Frag} {H : Hp} (x : Str) : Bt K H (.str x) "str" := ⟨.base (.str x), by decide⟩
theorem btSeq {K : PySem.W.Frag} {H : Hp} {a : Addr} {xs : List V} (h : SqA H a xs) : ∃ t, Bt K H (.ref a) t ∧ (t == "list" || t == "tuple") = true := by
  rcases h with h | h
  · exact ⟨"list", ⟨.base (.lst h), by decide⟩, by decide⟩
  · exact ⟨"tuple", ⟨.base (.tup h), by decide⟩, by decide⟩
theorem nm_len {x : Str} (h : isNm x = true) : x.length ≤ 8 := by
  unfold isNm at h
  rw [Bool.and_eq_true, Bool.and_eq_true] at h
  exact of_decide_eq_true h.1.2
theorem trues_all (n : Nat) : (List.replicate n true).all id = true := by simp
theorem trues_map (n : Nat) : (List.replicate n true).map V.bl = List.replicate n (V.bl true) := by simp
section
variable {P : Program} {w : World} {K : PySem.W.Frag} {mg : Str → Option Value} {base : Heap}
variable {fII fIW a_is_row a_is_index a_is_name a_is_text_in a_are_counts a_word_of a_are_nexts a_is_line a_line_of a_are_operations : Addr}
theorem sc_is_text_in : FnScope ["thing", "table"] ["thing", "table"] (defScope s_is_text_in) := ⟨rfl, rfl, rfl, by decide +kernel, rfl, by decide +kernel, by decide +kernel⟩
theorem ok_is_text_in {f : Addr} {fd : FuncData} (F : Fun K "is_text_in" "is_text_in" s_is_text_in f fd) (T : TxtF K mg fII fIW) : FnOk P w K mg base CX0 1 f fd ["thing", "table"] (spTextIn K) := by
  refine F.ok sc_is_text_in (fun vs H Q E h => ?_) (fun cdv A outer s H vs Q E hr h => ?_)
  · obtain ⟨v, t, d, kvs, rfl, _⟩ := h
    rfl
  · obtain ⟨v, t, d, kvs, rfl, b, hd, k⟩ := h
    refine ⟨_, (pss_one (ps_ret (pe_and (pe_callB call_isi (by rfl) T.b_isinstance (by decide +kernel) (pa_cons (pv 0) (pa_cons (pe_bltn (v := .ty "str") rfl T.b_str (by decide +kernel) rfl) pa_nil))) (pe_one (pe_cmp (pc_din (hu_of hr) (pv 0) (pv 1)) rfl))))), ?_⟩
    have hk : (kb t "str") = (t == "str") := by simp [kb]
    refine ⟨_, rfl, v, _, _, _, _, rfl, .ty _, b.ty, b.kit (u := "str") (by decide), _, rfl, ?_⟩
    rw [hk]
    by_cases h1 : (t == "str") = true
    · obtain ⟨x, rfl⟩ := b.str h1
      rw [h1]
      refine iteT ?_
      exact ⟨_, rfl, _, rfl, d, _, rfl, .inl ⟨kvs, .inr x, hd, rfl, rfl⟩, k⟩
    · rw [Bool.eq_false_iff.mpr h1]
      refine iteF ?_
      have e : hasT kvs v = false := by
        cases b.ty with
        | base z => cases z <;> first | rfl | (exact absurd (by decide) h1)
        | _ => rfl
      rw [e] at k
      exact k
theorem sc_are_counts : FnScope ["thing", "most", "low", "high", "name", "many"] ["thing", "most", "low", "high"] (defScope s_are_counts) := ⟨rfl, rfl, rfl, by decide +kernel, rfl, by decide +kernel, by decide +kernel⟩
theorem ok_are_counts {f : Addr} {fd fd_is_name fd_is_integer fd_is_within : FuncData} (F : Fun K "are_counts" "are_counts" s_are_counts f fd) (T : TxtF K mg fII fIW) (TG : TxtG K mg a_is_row a_is_index a_is_name a_is_text_in a_are_counts a_word_of a_are_nexts a_is_line a_line_of a_are_operations)
    (F_is_name : Fun K "is_name" "is_name" s_is_name a_is_name fd_is_name) (b_is_name : Binds K fd_is_name ["thing"] []) (FI : Fun K "is_integer" "is_integer" s_is_integer fII fd_is_integer) (bI : Binds K fd_is_integer ["thing"] [])
    (FW : Fun K "is_within" "is_within" s_is_within fIW fd_is_within) (b_is_within : Binds K fd_is_within ["thing", "low", "high"] []) : FnOk P w K mg base CX0 3 f fd ["thing", "most", "low", "high"] spCounts := by
  have GN : FnOk P w K mg base CX0 1 a_is_name fd_is_name ["thing"] (spName K) := ok_is_name F_is_name T
  have GW : FnOk P w K mg base CX0 2 fIW fd_is_within ["thing", "low", "high"] (spWithin K) := ok_is_within FW T FI bI
  refine F.ok sc_are_counts (fun vs H Q E h => ?_) (fun cdv A outer s H vs Q E hr h => ?_)
  · obtain ⟨a, o, most, lo, hi, rfl, _⟩ := h
    rfl
  · obtain ⟨a, o, most, lo, hi, rfl, ha, l1, l2, all, k⟩ := h
    refine ⟨_, (pss_cons (ps_if (PW.pt (pw_or (pt_not (pt_val (pe_callB call_isi (by rfl) T.b_isinstance (by decide +kernel) (pa_cons (pv 0) (pa_cons (pe_bltn (v := .ty "dict") rfl T.b_dict (by decide +kernel) rfl) pa_nil))))) (pw_or1 (pt_cmpR op_gt (pe_callB call_lenD (by rfl) T.b_len PySem.boot_len (pa_cons (pv 0) pa_nil)) (pv 1) (nomark _))))) (pss_one (ps_ret pe_bl)) pss_nil)
      (pss_one (ps_ret (pe_callB (cr_all rfl) (by rfl) T.b_all (by decide +kernel) (pa_cons (pe_lock (pe_lc (own := [("name", 4), ("many", 5)]) (g := gTup K 2 (gCons (gName 4) (gCons (gName 5) gNil))) (tt := tYes) rfl sc_are_counts.nd (pi_items (pv 0)) (blkOk_by (own := [("name", 4), ("many", 5)]) (N := ["thing", "most", "low", "high", "name", "many"]) (sc := defScope s_are_counts) (by decide +kernel)) (fun _ _ _ _ _ => pg_tup rfl (pgs_cons (pg_name (i := 4) sc_are_counts.nd rfl (Or.inl rfl)) (pgs_cons (pg_name (i := 5) sc_are_counts.nd rfl (Or.inl rfl)) pgs_nil))) (fun _ _ _ _ _ => pts_nil) (fun _ _ _ _ _ => (pe_and (pe_call GN (hr.mono (by decide)) (by rfl) TG.g_is_name TG.k_is_name b_is_name .nil pass0 (pa_cons (pv 4) pa_nil)) (pe_one (pe_call GW hr (by rfl) T.g_is_within T.k_is_within b_is_within .nil pass0 (pa_cons (pv 5) (pa_cons (pv 2) (pa_cons (pv 3) pa_nil))))))))) pa_nil))))), ?_⟩
    have bD : Bt K H (.ref a) "dict" := ⟨.base (.dK ha), by decide⟩
    refine ⟨_, rfl, _, _, _, _, _, rfl, .ty _, bD.ty, bD.kit (u := "dict") (by decide), _, rfl, ?_⟩
    refine iteF ?_
    refine ⟨_, rfl, a, _, rfl, ha, _, rfl, _, _, rfl, rfl, _, rfl, ?_⟩
    have lk : (opsK o).length = o.length := List.length_map ..
    rw [lk, decide_eq_false (show ¬ most < (o.length : Int) by omega)]
    refine iteF ?_
    refine ⟨a, _, ha, trivial, fun od => ⟨_, rfl, a, od, opsK o, rfl, upd_same, fun D nD => lc_it walk_items (fun i Hx => Same (upd H a (.frz od (.dK (opsK o)))) Hx ∧ Hx D = some (.lst (List.replicate i (V.bl true)))) ⟨sameNew nD _, upd_same⟩ (fun i Hx _ z => z.1 _ _ upd_same) (fun i y Ha Hb hi' z1 z2 => ?_) fun Hx z => ?_⟩⟩
    · obtain ⟨sx, ex⟩ := z1
      obtain ⟨T', x, y, rfl, nT, rfl, h1, h2⟩ := z2
      have hi2 : i < o.length := by rw [← lk]; exact hi'
      have e1 : (opsK o)[i]? = some (Sum.inr (o[i]).1, V.int (o[i]).2) := by
        unfold opsK
        rw [List.getElem?_map, List.getElem?_eq_getElem hi2]
        rfl
      dsimp only at h1 h2
      rw [e1] at h1 h2
      have h1' : V.str (o[i]).1 = x := Option.some.inj h1
      have h2' : V.int (o[i]).2 = y := Option.some.inj h2
      subst h1' h2'
      obtain ⟨g1, g2, g3⟩ := all _ (List.getElem_mem hi2)
      refine ⟨T', _, rfl, .inl (.inl upd_same), rfl, _, _, rfl, _, _, rfl, rfl, rfl, ?_⟩
      refine ⟨_, rfl, _, _, rfl, btStr _, fun x' e' => ?_, fun Hy sy => ⟨_, rfl, ?_⟩⟩
      · have e2 : (o[i]).1 = x' := V.str.inj e'
        rw [← e2]
        have := nm_len g1
        rw [sizeLine_eq]
        omega
      · rw [show nameV (.str (o[i]).1) = true from g1]
        refine iteT ?_
        refine ⟨_, rfl, _, rfl, _, rfl, _, _, _, _, rfl, btInt _, ?_⟩
        rw [inW_int g2 g3]
        have exy := sy _ _ (show upd Ha T' _ D = _ by rw [upd_ne (ne_of_none ex nT)]; exact ex)
        refine ⟨_, exy, ?_, fun b u e => ?_, ?_⟩
        · rw [List.length_replicate, sizeLine_eq]
          omega
        · have nb : b ≠ D := fun z => by
            rw [z] at e
            exact absurd (e.symm.trans nD) (by simp)
          rw [upd_ne nb]
          exact sy _ _ (by rw [upd_ne (ne_of_none (sx _ _ e) nT)]; exact sx _ _ e)
        · rw [List.replicate_succ']
          exact upd_same
    · obtain ⟨sx, ex⟩ := z
      have nDa : D ≠ a := fun z => by
        rw [z, upd_same] at nD
        cases nD
      refine ⟨sx _ _ upd_same, D, List.replicate (opsK o).length true, rfl, SqL.of (by rw [upd_ne nDa, trues_map]; exact ex), ?_⟩
      rw [trues_all]
      exact k _ (same_unlock ha sx)
end
end Mine

set_option maxRecDepth 100000
set_option maxHeartbeats 4000000
namespace Mine
open PySem L2
theorem at0' {α : Type} {a : α} {l : List α} : atI (a :: l) 0 = some a := atI_nat (j := 0) rfl
theorem at1' {α : Type} {a b : α} {l : List α} : atI (a :: b :: l) 1 = some b := atI_nat (j := 1) rfl
theorem at2' {α : Type} {a b c : α} {l : List α} : atI (a :: b :: c :: l) 2 = some c := atI_nat (j := 2) rfl
theorem nx_all {ns : List Int} {t : Addr} : (ns.map V.int).length = ns.length := List.length_map ..
section
variable {P : Program} {w : World} {K : PySem.W.Frag} {mg : Str → Option Value} {base : Heap}
variable {fII fIW a_is_row a_is_index a_is_name a_is_text_in a_are_counts a_word_of a_are_nexts a_is_line a_line_of a_are_operations : Addr}
theorem sc_are_operations : FnScope ["thing"] ["thing"] (defScope s_are_operations) := ⟨rfl, rfl, rfl, by decide +kernel, rfl, by decide +kernel, by decide +kernel⟩
theorem ok_are_operations {f : Addr} {fd fd_are_counts : FuncData} (F : Fun K "are_operations" "are_operations" s_are_operations f fd) (TG : TxtG K mg a_is_row a_is_index a_is_name a_is_text_in a_are_counts a_word_of a_are_nexts a_is_line a_line_of a_are_operations)
    (GC : FnOk P w K mg base CX0 3 a_are_counts fd_are_counts ["thing", "most", "low", "high"] spCounts) (b_are_counts : Binds K fd_are_counts ["thing", "most", "low", "high"] []) : FnOk P w K mg base CX0 4 f fd ["thing"] spOps := by
  refine F.ok sc_are_operations (fun vs H Q E h => ?_) (fun cdv A outer s H vs Q E hr h => ?_)
  · obtain ⟨a, o, rfl, _⟩ := h
    rfl
  · obtain ⟨a, o, rfl, ha, ok, k⟩ := h
    refine ⟨_, (pss_one (ps_ret (pe_call GC (hr.mono (by decide)) (by rfl) TG.g_are_counts TG.k_are_counts b_are_counts .nil pass0 (pa_cons (pv 0) (pa_cons (globI rfl TG.c_MOST_OPERATIONS) (pa_cons pe_int (pa_cons (globI rfl TG.c_MOST_ANSWERS) pa_nil))))))), ?_⟩
    have := ok.few
    exact ⟨_, rfl, a, o, 8, 0, 6, rfl, ha, by omega, by omega, ok.each, k⟩
theorem sc_word_of : FnScope ["row"] ["row"] (defScope s_word_of) := ⟨rfl, rfl, rfl, by decide +kernel, rfl, by decide +kernel, by decide +kernel⟩
theorem ok_word_of {f : Addr} {fd fd_is_row : FuncData} (F : Fun K "word_of" "word_of" s_word_of f fd) (T : TxtF K mg fII fIW) (TG : TxtG K mg a_is_row a_is_index a_is_name a_is_text_in a_are_counts a_word_of a_are_nexts a_is_line a_line_of a_are_operations)
    (GR : FnOk P w K mg base CX0 1 a_is_row fd_is_row ["thing"] (spIsRow K)) (b_is_row : Binds K fd_is_row ["thing"] []) : FnOk P w K mg base CX0 2 f fd ["row"] spWord := by
  refine F.ok sc_word_of (fun vs H Q E h => ?_) (fun cdv A outer s H vs Q E hr h => ?_)
  · obtain ⟨a, x, xs, rfl, _⟩ := h
    rfl
  · obtain ⟨a, x, xs, rfl, ha, k⟩ := h
    refine ⟨_, (pss_cons (ps_if (PW.pt (pw_and (pt_val (pe_call GR (hr.mono (by decide)) (by rfl) TG.g_is_row TG.k_is_row b_is_row .nil pass0 (pa_cons (pv 0) pa_nil))) (pw_and (pt_cmpR op_gt (pe_callB call_len_seq (by rfl) T.b_len PySem.boot_len (pa_cons (pv 0) pa_nil)) pe_int (nomark _)) (pw_and1 (pt_val (pe_callB call_isi (by rfl) T.b_isinstance (by decide +kernel) (pa_cons (pe_ix ix_seq (pv 0) pe_int (fun _ _ => rfl)) (pa_cons (pe_bltn (v := .ty "str") rfl T.b_str (by decide +kernel) rfl) pa_nil)))))))) (pss_one (ps_ret (pe_ix ix_seq (pv 0) pe_int (fun _ _ => rfl)))) pss_nil)
      (pss_one (ps_ret pe_str))), ?_⟩
    obtain ⟨t, b, e⟩ := btSeq (K := K) ha
    refine ⟨_, rfl, _, t, rfl, b, fun H1 s1 => ⟨_, rfl, ?_⟩⟩
    rw [e]
    refine iteT ?_
    have ha1 := s1.sqa ha
    refine ⟨_, rfl, a, _, rfl, ha1.sq, _, _, rfl, rfl, _, rfl, ?_⟩
    rw [decide_eq_true (show (0 : Int) < (((V.str x :: xs).length : Nat) : Int) by rw [List.length_cons]; omega)]
    refine iteT ?_
    refine ⟨_, rfl, ha1.ix at0' ?_⟩
    refine ⟨_, _, _, _, _, rfl, .ty _, (btStr (K := K) (H := H1) x).ty, (btStr (K := K) (H := H1) x).kit (u := "str") (by decide), _, rfl, ?_⟩
    refine iteT ?_
    exact ⟨_, rfl, ha1.ix at0' (k _ s1)⟩
theorem sc_are_nexts : FnScope ["nexts", "operation", "counts", "many", "index"] ["nexts", "operation", "counts", "many"] (defScope s_are_nexts) := ⟨rfl, rfl, rfl, by decide +kernel, rfl, by decide +kernel, by decide +kernel⟩
theorem ok_are_nexts {f : Addr} {fd fd_is_row fd_is_index : FuncData} (F : Fun K "are_nexts" "are_nexts" s_are_nexts f fd) (T : TxtF K mg fII fIW) (TG : TxtG K mg a_is_row a_is_index a_is_name a_is_text_in a_are_counts a_word_of a_are_nexts a_is_line a_line_of a_are_operations)
    (GR : FnOk P w K mg base CX0 1 a_is_row fd_is_row ["thing"] (spIsRow K)) (b_is_row : Binds K fd_is_row ["thing"] [])
    (GI : FnOk P w K mg base CX0 3 a_is_index fd_is_index ["thing", "many"] (spIndex K)) (b_is_index : Binds K fd_is_index ["thing", "many"] []) : FnOk P w K mg base CX0 4 f fd ["nexts", "operation", "counts", "many"] spNexts := by
  refine F.ok sc_are_nexts (fun vs H Q E h => ?_) (fun cdv A outer s H vs Q E hr h => ?_)
  · obtain ⟨t, d, ns, op, o, many, rfl, _⟩ := h
    rfl
  · obtain ⟨t, d, ns, op, o, many, rfl, ht, hd, hl, l2, all, k⟩ := h
    refine ⟨_, (pss_cons (ps_if (PW.pt (pw_or (pt_not (pt_val (pe_call GR (hr.mono (by decide)) (by rfl) TG.g_is_row TG.k_is_row b_is_row .nil pass0 (pa_cons (pv 0) pa_nil)))) (pw_or1 (pt_cmpR op_ne (pe_callB call_len_seq (by rfl) T.b_len PySem.boot_len (pa_cons (pv 0) pa_nil)) (pe_dget (hu_of hr) (pv 2) (pv 1) (fun _ _ => rfl)) (nomark _))))) (pss_one (ps_ret pe_bl)) pss_nil)
      (pss_one (ps_ret (pe_callB (cr_all rfl) (by rfl) T.b_all (by decide +kernel) (pa_cons (pe_lc (own := [("index", 4)]) (g := gName 4) (tt := tYes) (wi := iSeq K (tVar 0)) rfl sc_are_nexts.nd (pi_seq (pv 0)) (blkOk_by (own := [("index", 4)]) (N := ["nexts", "operation", "counts", "many", "index"]) (sc := defScope s_are_nexts) (by decide +kernel)) (fun _ _ _ _ _ => pg_name (i := 4) sc_are_nexts.nd rfl (Or.inl rfl)) (fun _ _ _ _ _ => pts_nil) (fun _ _ _ _ _ => (pe_call GI (hr.mono (by decide)) (by rfl) TG.g_is_index TG.k_is_index b_is_index .nil pass0 (pa_cons (pv 4) (pa_cons (pv 3) pa_nil))))) pa_nil))))), ?_⟩
    obtain ⟨ty, b, e⟩ := btSeq (K := K) ht
    refine ⟨_, rfl, _, ty, rfl, b, fun H1 s1 => ⟨_, rfl, ?_⟩⟩
    rw [e]
    refine iteF ?_
    have ht1 := s1.sqa ht
    have hd1 : Rd H1 d (.dK (opsK o)) := hd.elim (fun z => .inl (s1 _ _ z)) fun ⟨od, z⟩ => .inr ⟨od, s1 _ _ z⟩
    refine ⟨_, rfl, t, _, rfl, ht1.sq, _, rfl, _, rfl, d, _, rfl, .inl ⟨opsK o, .inr op, hd1, rfl, (by rw [val_ops, hl]; rfl)⟩, rfl, _, rfl, ?_⟩
    rw [List.length_map, decide_eq_true (show V.int (ns.length : Int) = V.int (ns.length : Int) from rfl)]
    refine iteF ?_
    have turn : ∀ (Hf : Hp) (D : Addr), Same H1 Hf → Hf D = none → ∀ i (y : V) Ha, i < (ns.map V.int).length → (Same Hf Ha ∧ Ha D = some (.lst (List.replicate i (V.bl true)))) → (ns.map V.int)[i]? = some y →
        inW y 0 (many - 1) = true ∧ (∃ z : Int, y = .int z) ∧ Ha D = some (.lst (List.replicate i (V.bl true))) ∧ (List.replicate i (V.bl true)).length < sizeLine ∧ (Same Hf (upd Ha D (.lst (List.replicate i (V.bl true) ++ [.bl true]))) ∧ upd Ha D (.lst (List.replicate i (V.bl true) ++ [.bl true])) D = some (.lst (List.replicate (i + 1) (V.bl true)))) := by
      intro Hf D sf nD i y Ha hi ⟨sx, ex⟩ hy
      rw [List.getElem?_map] at hy
      rw [List.length_map] at hi
      rw [List.getElem?_eq_getElem hi] at hy
      have e1 : V.int ns[i] = y := Option.some.inj hy
      subst e1
      obtain ⟨b1, b2⟩ := all _ (List.getElem_mem hi)
      refine ⟨inW_int b1 (by omega), ⟨_, rfl⟩, ex, ?_, fun b u e => ?_, ?_⟩
      · rw [List.length_replicate, sizeLine_eq]
        omega
      · have nb : b ≠ D := fun z => by
          rw [z] at e
          exact absurd (e.symm.trans nD) (by simp)
        rw [upd_ne nb]
        exact sx _ _ e
      · rw [List.replicate_succ']
        exact upd_same
    have fin : ∀ (D : Addr) (Hx : Hp), H1 D = none → (Same H1 Hx ∧ Hx D = some (.lst (List.replicate (ns.map V.int).length (V.bl true)))) → rAll K [.ref D] Hx fun v H' => Q v H' := by
      intro D Hx nD ⟨sx, ex⟩
      refine ⟨D, List.replicate (ns.map V.int).length true, rfl, SqL.of (by rw [trues_map]; exact ex), ?_⟩
      rw [trues_all]
      exact k _ (s1.trans sx)
    rcases ht1 with ht1 | ht1
    · refine .inl ⟨_, rfl, t, rfl, ⟨_, SqL.of ht1⟩, fun D nD => lc_it walk_list (fun i Hx => Same H1 Hx ∧ Hx D = some (.lst (List.replicate i (V.bl true)))) ⟨sameNew nD _, upd_same⟩ (fun i Hx _ z => SqL.of (z.1 _ _ ht1)) (fun i y Ha Hb hi z1 z2 => ?_) fun Hx z => fin D Hx nD z⟩
      obtain ⟨rfl, hy⟩ := z2
      obtain ⟨w1, ⟨z, rfl⟩, w3, w4, w5⟩ := turn H1 D (Same.refl _) nD i y _ hi z1 hy
      refine ⟨rfl, _, rfl, _, rfl, _, _, many, rfl, btInt z, ?_⟩
      rw [w1]
      exact ⟨_, w3, w4, w5⟩
    · refine .inr ⟨_, rfl, t, rfl, ⟨_, .inl (.inl ht1)⟩, fun D nD => lc_it walk_tup (fun i Hx => Same H1 Hx ∧ Hx D = some (.lst (List.replicate i (V.bl true)))) ⟨sameNew nD _, upd_same⟩ (fun i Hx _ z => .inl (.inl (z.1 _ _ ht1))) (fun i y Ha Hb hi z1 z2 => ?_) fun Hx z => fin D Hx nD z⟩
      obtain ⟨rfl, hy⟩ := z2
      obtain ⟨w1, ⟨z, rfl⟩, w3, w4, w5⟩ := turn H1 D (Same.refl _) nD i y _ hi z1 hy
      refine ⟨rfl, _, rfl, _, rfl, _, _, many, rfl, btInt z, ?_⟩
      rw [w1]
      exact ⟨_, w3, w4, w5⟩
end
end Mine

set_option maxRecDepth 100000
set_option maxHeartbeats 4000000
namespace L2
open PySem PySem.Spec PyProof.Rows
/-- tuple(x), x a list or a tuple: some tuple of the same things -/
def rTupG : List V → Hp → VK → Prop := fun xs H Q => ∃ p ys, xs = [.ref p] ∧ SqA H p ys ∧ ∀ (q : Addr) (H' : Hp), Same H H' → H' q = some (.tup ys) → Q (.ref q) H'
theorem call_tupleG {X : Cx} : CallR X (.type "tuple") rTupG := fun pins s σ H xs us Q I r ⟨p, ys, e, h, k⟩ => call_tuple_of pins s σ H xs us Q I r ⟨p, ys, e, h.elim (fun h => .inl ⟨SqL.of h, fun l hl => k l _ (sameNew hl _) upd_same⟩) fun h => .inr ⟨.inl (.inl h), k p H (Same.refl _) h⟩⟩
/-- list(x): a new list of the same things -/
def rLstG : List V → Hp → VK → Prop := fun xs H Q => ∃ p ys, xs = [.ref p] ∧ SqA H p ys ∧ New H (.lst ys) Q
theorem call_listG {X : Cx} : CallR X (.type "list") rLstG := fun pins s σ H xs us Q I r ⟨p, ys, e, h, k⟩ => call_list_of pins s σ H xs us Q I r ⟨p, ys, e, h.sq, fun l hl => k.at hl⟩
end L2
namespace Mine
open PySem L2
theorem strNe {x y : Str} (h : x ≠ y) : decide (V.str x = V.str y) = false := decide_eq_false fun z => h (V.str.inj z)
theorem strEq (x : Str) : decide (V.str x = V.str x) = true := decide_eq_true rfl
theorem intEq (i : Int) : decide (V.int i = V.int i) = true := decide_eq_true rfl
theorem ask_end : ("ask" : Str) ≠ "end" := by decide +kernel
theorem end_ask : ("end" : Str) ≠ "ask" := by decide +kernel
theorem go_ask : ("go" : Str) ≠ "ask" := by decide +kernel
theorem go_end : ("go" : Str) ≠ "end" := by decide +kernel
section
variable {P : Program} {w : World} {K : PySem.W.Frag} {mg : Str → Option Value} {base : Heap}
variable {fII fIW a_is_row a_is_index a_is_name a_is_text_in a_are_counts a_word_of a_are_nexts a_is_line a_line_of a_are_operations : Addr}
theorem sc_is_line : FnScope ["row", "counts", "many", "word"] ["row", "counts", "many"] (defScope s_is_line) := ⟨rfl, rfl, rfl, by decide +kernel, rfl, by decide +kernel, by decide +kernel⟩
theorem ok_is_line {f : Addr} {fd fd_word_of fd_is_text_in fd_are_nexts fd_is_name fd_is_index : FuncData} (F : Fun K "is_line" "is_line" s_is_line f fd) (T : TxtF K mg fII fIW) (TG : TxtG K mg a_is_row a_is_index a_is_name a_is_text_in a_are_counts a_word_of a_are_nexts a_is_line a_line_of a_are_operations)
    (GWo : FnOk P w K mg base CX0 2 a_word_of fd_word_of ["row"] spWord) (b_word_of : Binds K fd_word_of ["row"] [])
    (GT : FnOk P w K mg base CX0 1 a_is_text_in fd_is_text_in ["thing", "table"] (spTextIn K)) (b_is_text_in : Binds K fd_is_text_in ["thing", "table"] [])
    (GX : FnOk P w K mg base CX0 4 a_are_nexts fd_are_nexts ["nexts", "operation", "counts", "many"] spNexts) (b_are_nexts : Binds K fd_are_nexts ["nexts", "operation", "counts", "many"] [])
    (GNm : FnOk P w K mg base CX0 1 a_is_name fd_is_name ["thing"] (spName K)) (b_is_name : Binds K fd_is_name ["thing"] [])
    (GI : FnOk P w K mg base CX0 3 a_is_index fd_is_index ["thing", "many"] (spIndex K)) (b_is_index : Binds K fd_is_index ["thing", "many"] []) : FnOk P w K mg base CX0 5 f fd ["row", "counts", "many"] spIsLine := by
  refine F.ok sc_is_line (fun vs H Q E h => ?_) (fun cdv A outer s H vs Q E hr h => ?_)
  · obtain ⟨v, d, o, many, r, rfl, _⟩ := h
    rfl
  · obtain ⟨v, d, o, many, r, rfl, hv, hd, ok, k⟩ := h
    refine ⟨_, (pss_cons (ps_set (i := 3) sc_is_line.nd rfl (Or.inl rfl) (pe_call GWo (hr.mono (by decide)) (by rfl) TG.g_word_of TG.k_word_of b_word_of .nil pass0 (pa_cons (pv 0) pa_nil)))
      (pss_cons (ps_if (pt_cmpR op_eq (pv 3) pe_str (nomark _)) (pss_one (ps_ret (pe_and (pe_cmpR op_eq (pe_callB call_len_seq (by rfl) T.b_len PySem.boot_len (pa_cons (pv 0) pa_nil)) pe_int (nomark _)) (pe_and (pe_call GT (hr.mono (by decide)) (by rfl) TG.g_is_text_in TG.k_is_text_in b_is_text_in .nil pass0 (pa_cons (pe_ix ix_seq (pv 0) pe_int (fun _ _ => rfl)) (pa_cons (pv 1) pa_nil))) (pe_one (pe_call GX (hr.mono (by decide)) (by rfl) TG.g_are_nexts TG.k_are_nexts b_are_nexts .nil pass0 (pa_cons (pe_ix ix_seq (pv 0) pe_int (fun _ _ => rfl)) (pa_cons (pe_ix ix_seq (pv 0) pe_int (fun _ _ => rfl)) (pa_cons (pv 1) (pa_cons (pv 2) pa_nil)))))))))) pss_nil)
      (pss_cons (ps_if (pt_cmpR op_eq (pv 3) pe_str (nomark _)) (pss_one (ps_ret (pe_and (pe_cmpR op_eq (pe_callB call_len_seq (by rfl) T.b_len PySem.boot_len (pa_cons (pv 0) pa_nil)) pe_int (nomark _)) (pe_one (pe_call GNm (hr.mono (by decide)) (by rfl) TG.g_is_name TG.k_is_name b_is_name .nil pass0 (pa_cons (pe_ix ix_seq (pv 0) pe_int (fun _ _ => rfl)) pa_nil)))))) pss_nil)
      (pss_one (ps_ret (pe_and (pe_cmpR op_eq (pv 3) pe_str (nomark _)) (pe_and (pe_cmpR op_eq (pe_callB call_len_seq (by rfl) T.b_len PySem.boot_len (pa_cons (pv 0) pa_nil)) pe_int (nomark _)) (pe_one (pe_call GI (hr.mono (by decide)) (by rfl) TG.g_is_index TG.k_is_index b_is_index .nil pass0 (pa_cons (pe_ix ix_seq (pv 0) pe_int (fun _ _ => rfl)) (pa_cons (pv 2) pa_nil))))))))))), ?_⟩
    have rd : ∀ {H' : Hp}, Same H H' → Rd H' d (.dK (opsK o)) := fun s => hd.elim (fun z => .inl (s _ _ z)) fun ⟨od, z⟩ => .inr ⟨od, s _ _ z⟩
    cases r with
    | ask op ns =>
      obtain ⟨a, t, rfl, ha, ht⟩ := hv
      obtain ⟨o1, o2, o3⟩ := ok
      refine ⟨_, rfl, a, _, _, rfl, ha, fun H1 s1 => ?_⟩
      have ha1 := s1.sqa ha
      refine ⟨_, rfl, rfl, _, rfl, ?_⟩
      rw [strEq]
      refine iteT ?_
      refine ⟨_, rfl, a, _, rfl, ha1.sq, rfl, _, rfl, ?_⟩
      refine iteT ?_
      refine ⟨_, rfl, ha1.ix at1' ⟨_, rfl, _, _, d, _, rfl, btStr _, rd s1, _, rfl, ?_⟩⟩
      have hh : hasT (opsK o) (.str op) = true := by
        show (valV (opsK o) (.inr op)).isSome = true
        rw [val_ops, o1]
        rfl
      rw [hh]
      refine iteT ?_
      refine ⟨_, rfl, ha1.ix at2' ⟨_, rfl, ha1.ix at1' ⟨_, rfl, _, rfl, t, d, ns, op, o, many, rfl, s1.sqa ht, rd s1, o1, o2, o3, fun H2 s2 => k _ (s1.trans s2)⟩⟩⟩
    | fin x =>
      obtain ⟨a, rfl, ha⟩ := hv
      refine ⟨_, rfl, a, _, _, rfl, ha, fun H1 s1 => ?_⟩
      have ha1 := s1.sqa ha
      refine ⟨_, rfl, rfl, _, rfl, ?_⟩
      rw [strNe end_ask]
      refine iteF ?_
      refine ⟨_, rfl, rfl, _, rfl, ?_⟩
      rw [strEq]
      refine iteT ?_
      refine ⟨_, rfl, a, _, rfl, ha1.sq, rfl, _, rfl, ?_⟩
      refine iteT ?_
      refine ⟨_, rfl, ha1.ix at1' ⟨_, _, rfl, btStr _, fun x' e' => ?_, fun H2 s2 => ?_⟩⟩
      · have e2 : x = x' := V.str.inj e'
        rw [← e2, sizeLine_eq]
        have := ok.2
        omega
      · rw [show nameV (.str x) = true from ok.1]
        exact k _ (s1.trans s2)
    | go n =>
      obtain ⟨a, rfl, ha⟩ := hv
      refine ⟨_, rfl, a, _, _, rfl, ha, fun H1 s1 => ?_⟩
      have ha1 := s1.sqa ha
      refine ⟨_, rfl, rfl, _, rfl, ?_⟩
      rw [strNe go_ask]
      refine iteF ?_
      refine ⟨_, rfl, rfl, _, rfl, ?_⟩
      rw [strNe go_end]
      refine iteF ?_
      refine ⟨_, rfl, rfl, _, rfl, ?_⟩
      rw [strEq]
      refine iteT ?_
      refine ⟨_, rfl, a, _, rfl, ha1.sq, rfl, _, rfl, ?_⟩
      refine iteT ?_
      refine ⟨_, rfl, ha1.ix at1' ⟨_, rfl, _, _, many, rfl, btInt n, ?_⟩⟩
      rw [inW_int ok.1 (by have := ok.2; omega)]
      exact k _ s1
theorem sc_line_of : FnScope ["row"] ["row"] (defScope s_line_of) := ⟨rfl, rfl, rfl, by decide +kernel, rfl, by decide +kernel, by decide +kernel⟩
theorem ok_line_of {f : Addr} {fd : FuncData} (F : Fun K "line_of" "line_of" s_line_of f fd) (T : TxtF K mg fII fIW) : FnOk P w K mg base CX0 1 f fd ["row"] spLineOf := by
  refine F.ok sc_line_of (fun vs H Q E h => ?_) (fun cdv A outer s H vs Q E hr h => ?_)
  · obtain ⟨v, r, rfl, _⟩ := h
    rfl
  · obtain ⟨v, r, rfl, hv, k⟩ := h
    refine ⟨_, (pss_cons (ps_if (pt_cmpR op_eq (pe_ix ix_seq (pv 0) pe_int (fun _ _ => rfl)) pe_str (nomark _)) (pss_one (ps_ret (pe_tupG (pa_cons pe_str (pa_cons (pe_ix ix_seq (pv 0) pe_int (fun _ _ => rfl)) (pa_cons (pe_callTy call_tupleG (by rfl) T.b_tuple (by decide +kernel) (pa_cons (pe_ix ix_seq (pv 0) pe_int (fun _ _ => rfl)) pa_nil)) pa_nil)))))) pss_nil)
      (pss_one (ps_ret (pe_callTy call_tupleG (by rfl) T.b_tuple (by decide +kernel) (pa_cons (pv 0) pa_nil))))), ?_⟩
    cases r with
    | ask op ns =>
      obtain ⟨a, t, rfl, ha, ht⟩ := hv
      refine ⟨_, rfl, ha.ix at0' ⟨rfl, _, rfl, ?_⟩⟩
      rw [strEq]
      refine iteT ?_
      refine ⟨_, rfl, ha.ix at1' ⟨_, rfl, ha.ix at2' ⟨t, _, rfl, ht, fun p H1 s1 e1 => ?_⟩⟩⟩
      refine ⟨by show 3 ≤ sizeLine; decide, fun p2 H2 n2 s2 e2 => ?_⟩
      exact k _ _ (s1.trans s2) ⟨p2, p, rfl, e2, s2 _ _ e1⟩
    | fin x =>
      obtain ⟨a, rfl, ha⟩ := hv
      refine ⟨_, rfl, ha.ix at0' ⟨rfl, _, rfl, ?_⟩⟩
      rw [strNe end_ask]
      refine iteF ?_
      exact ⟨_, rfl, a, _, rfl, ha, fun p H1 s1 e1 => k _ _ s1 ⟨p, rfl, e1⟩⟩
    | go n =>
      obtain ⟨a, rfl, ha⟩ := hv
      refine ⟨_, rfl, ha.ix at0' ⟨rfl, _, rfl, ?_⟩⟩
      rw [strNe go_ask]
      refine iteF ?_
      exact ⟨_, rfl, a, _, rfl, ha, fun p H1 s1 e1 => k _ _ s1 ⟨p, rfl, e1⟩⟩
end
end Mine

/-! Where a walk along a function of the numbers below n comes to rest: plain mathematics. -/
namespace Mach
def itr (f : Nat → Nat) : Nat → Nat → Nat
  | 0, i => i
  | k + 1, i => itr f k (f i)
theorem itr_add (f : Nat → Nat) : ∀ a b i, itr f (a + b) i = itr f b (itr f a i)
  | 0, b, i => by rw [Nat.zero_add]; rfl
  | a + 1, b, i => by
    rw [Nat.succ_add]
    exact itr_add f a b (f i)
theorem itr_succ (f : Nat → Nat) (k i : Nat) : itr f (k + 1) i = f (itr f k i) := by
  rw [itr_add f k 1 i]
  rfl
theorem itr_lt {f : Nat → Nat} {n : Nat} (hf : ∀ i, i < n → f i < n) : ∀ k i, i < n → itr f k i < n
  | 0, _, h => h
  | k + 1, i, h => itr_lt hf k (f i) (hf i h)
theorem pigeon : ∀ (n : Nat) (l : List Nat), l.Nodup → (∀ x ∈ l, x < n) → l.length ≤ n
  | 0, [], _, _ => Nat.le_refl _
  | 0, x :: _, _, h => absurd (h x List.mem_cons_self) (Nat.not_lt_zero _)
  | n + 1, l, nd, h => by
    by_cases m : n ∈ l
    · have e := List.length_erase_of_mem m
      have ih := pigeon n (l.erase n) (nd.erase n) (fun x hx => by
        have h1 := (nd.mem_erase_iff).mp hx
        have h2 := h x h1.2
        have h3 := h1.1
        omega)
      omega
    · have ih := pigeon n l nd (fun x hx => by
        have h2 := h x hx
        have h3 : x ≠ n := fun z => m (z ▸ hx)
        omega)
      omega
/-- two places of the way are the same -/
theorem again {f : Nat → Nat} {n i : Nat} (hf : ∀ i, i < n → f i < n) (hi : i < n) : ∃ a b, a < b ∧ b ≤ n ∧ itr f a i = itr f b i := by
  by_cases h : ∃ a b, a < b ∧ b ≤ n ∧ itr f a i = itr f b i
  · exact h
  · have nd : ((List.range (n + 1)).map fun k => itr f k i).Nodup := by
      rw [List.Nodup, List.pairwise_map]
      refine List.Pairwise.imp_of_mem (fun {a b} ha hb lt e => h ⟨a, b, lt, ?_, e⟩) List.pairwise_lt_range
      have := List.mem_range.mp hb
      omega
    have := pigeon n _ nd (fun x hx => by
      obtain ⟨k, _, e⟩ := List.mem_map.mp hx
      rw [← e]
      exact itr_lt hf k i hi)
    rw [List.length_map, List.length_range] at this
    omega
/-- behind n steps a walk is on its ring -/
theorem ring_of {f : Nat → Nat} {n i : Nat} (hf : ∀ i, i < n → f i < n) (hi : i < n) : ∃ p, 0 < p ∧ itr f p (itr f n i) = itr f n i := by
  obtain ⟨a, b, lt, le, e⟩ := again hf hi
  refine ⟨b - a, by omega, ?_⟩
  have e1 : itr f n i = itr f (n - a) (itr f a i) := by
    rw [← itr_add]
    congr 1
    omega
  have e2 : itr f (b - a) (itr f a i) = itr f b i := by
    rw [← itr_add]
    congr 1
    omega
  rw [e1, ← itr_add, Nat.add_comm, itr_add, e2, ← e]
theorem ring_many {f : Nat → Nat} {p j : Nat} (h : itr f p j = j) : ∀ t, itr f (p * t) j = j
  | 0 => rfl
  | t + 1 => by
    rw [Nat.mul_succ, itr_add, ring_many h t, h]
theorem foldl_min : ∀ (l : List Nat) (a : Nat), (l.foldl Nat.min a = a ∨ l.foldl Nat.min a ∈ l) ∧ l.foldl Nat.min a ≤ a ∧ ∀ x ∈ l, l.foldl Nat.min a ≤ x
  | [], a => ⟨.inl rfl, Nat.le_refl _, fun _ h => nomatch h⟩
  | y :: l, a => by
    obtain ⟨h1, h2, h3⟩ := foldl_min l (Nat.min a y)
    refine ⟨?_, ?_, ?_⟩
    · rcases h1 with h1 | h1
      · by_cases q : a ≤ y
        · left
          show l.foldl Nat.min (Nat.min a y) = a
          rw [h1]
          exact Nat.min_eq_left q
        · right
          show l.foldl Nat.min (Nat.min a y) ∈ y :: l
          rw [h1, show Nat.min a y = y from Nat.min_eq_right (by omega)]
          exact List.mem_cons_self
      · exact .inr (List.mem_cons_of_mem _ h1)
    · exact Nat.le_trans h2 (Nat.min_le_left _ _)
    · intro x hx
      rcases List.mem_cons.mp hx with e | hx
      · rw [e]
        exact Nat.le_trans h2 (Nat.min_le_right _ _)
      · exact h3 x hx
/-- where a walk rests: the least number on the ring to which it comes (a fixed one is a ring by itself) -/
def stopAt (f : Nat → Nat) (n i : Nat) : Nat := ((List.range n).map fun k => itr f k (itr f n i)).foldl Nat.min (itr f n i)
theorem stop_mem (f : Nat → Nat) (n i : Nat) : ∃ k, stopAt f n i = itr f k (itr f n i) := by
  obtain ⟨h, _⟩ := foldl_min ((List.range n).map fun k => itr f k (itr f n i)) (itr f n i)
  rcases h with h | h
  · exact ⟨0, h⟩
  · obtain ⟨k, _, e⟩ := List.mem_map.mp h
    exact ⟨k, e.symm⟩
theorem stop_lt {f : Nat → Nat} {n i : Nat} (hf : ∀ i, i < n → f i < n) (hi : i < n) : stopAt f n i < n := by
  obtain ⟨k, e⟩ := stop_mem f n i
  rw [e]
  exact itr_lt hf k _ (itr_lt hf n i hi)
/-- from a place on the ring each place of the ring is met within n steps -/
theorem ring_short {f : Nat → Nat} {n j : Nat} (hf : ∀ i, i < n → f i < n) (hj : j < n) (k : Nat) : ∃ k', k' < n ∧ itr f k' j = itr f k j := by
  induction k using Nat.strongRecOn with
  | ind k ih =>
    by_cases h : k < n
    · exact ⟨k, h, rfl⟩
    · obtain ⟨a, b, lt, le, e⟩ := again hf hj
      have e2 : itr f k j = itr f (k - (b - a)) j := by
        have h1 : k = b + (k - b) := by omega
        have h2 : k - (b - a) = a + (k - b) := by omega
        rw [h2, itr_add, e, ← itr_add, ← h1]
      obtain ⟨k', h1, h2⟩ := ih (k - (b - a)) (by omega)
      exact ⟨k', h1, h2.trans e2.symm⟩
theorem stop_le {f : Nat → Nat} {n i : Nat} (hf : ∀ i, i < n → f i < n) (hi : i < n) (k : Nat) : stopAt f n i ≤ itr f k (itr f n i) := by
  obtain ⟨_, _, h⟩ := foldl_min ((List.range n).map fun k => itr f k (itr f n i)) (itr f n i)
  obtain ⟨k', lt, e⟩ := ring_short hf (itr_lt hf n i hi) k
  rw [← e]
  exact h _ (List.mem_map.mpr ⟨k', List.mem_range.mpr lt, rfl⟩)
theorem stop_unique {f : Nat → Nat} {n i s : Nat} (hf : ∀ i, i < n → f i < n) (hi : i < n) (h1 : ∃ k, s = itr f k (itr f n i)) (h2 : ∀ k, s ≤ itr f k (itr f n i)) : stopAt f n i = s := by
  obtain ⟨k, e⟩ := h1
  obtain ⟨k', e'⟩ := stop_mem f n i
  have a1 := stop_le hf hi k
  have a2 := h2 k'
  omega
theorem stop_step {f : Nat → Nat} {n i : Nat} (hf : ∀ i, i < n → f i < n) (hi : i < n) : stopAt f n (f i) = stopAt f n i := by
  have e : itr f n (f i) = f (itr f n i) := itr_succ f n i
  obtain ⟨p, p0, hp⟩ := ring_of hf hi
  refine stop_unique hf (hf i hi) ?_ fun k => ?_
  · obtain ⟨k, ek⟩ := stop_mem f n i
    refine ⟨k + p - 1, ?_⟩
    rw [ek, e]
    show _ = itr f (k + p - 1 + 1) (itr f n i)
    rw [show k + p - 1 + 1 = p + k by omega, itr_add, hp]
  · rw [e]
    exact stop_le hf hi (k + 1)
/-- on a ring that is written out: the least of it -/
theorem stop_ring {f : Nat → Nat} {n j m s : Nat} (hf : ∀ i, i < n → f i < n) (hj : j < n) (m0 : 0 < m) (h : itr f m j = j) (h1 : ∃ k, k < m ∧ s = itr f k j) (h2 : ∀ k, k < m → s ≤ itr f k j) : stopAt f n j = s := by
  have all : ∀ k, ∃ k', k' < m ∧ itr f k j = itr f k' j := fun k => by
    refine ⟨k % m, Nat.mod_lt _ m0, ?_⟩
    have e : k = m * (k / m) + k % m := (Nat.div_add_mod k m).symm
    conv => lhs; rw [e]
    rw [itr_add, ring_many h]
  refine stop_unique hf hj ?_ fun k => ?_
  · obtain ⟨k, _, e⟩ := h1
    refine ⟨k + (m * n - n), ?_⟩
    rw [e, ← itr_add]
    have hn : n ≤ m * n := Nat.le_mul_of_pos_left n m0
    rw [show n + (k + (m * n - n)) = m * n + k by omega, itr_add, ring_many h]
  · rw [← itr_add]
    obtain ⟨k', lt, e⟩ := all (n + k)
    rw [e]
    exact h2 k' lt
theorem stop_fix {f : Nat → Nat} {n j : Nat} (hf : ∀ i, i < n → f i < n) (hj : j < n) (h : f j = j) : stopAt f n j = j :=
  stop_ring hf hj (m := 1) (by decide) h ⟨0, by decide, rfl⟩ fun k hk => by
    have : k = 0 := by omega
    subst this
    exact Nat.le_refl _
end Mach

set_option maxRecDepth 100000
set_option maxHeartbeats 4000000
/-! Defs that are run where nothing is being shown (repr of containers asks for it): the same promise, at such places alone. -/
namespace L2
open PySem PySem.Spec PyProof.Rows
def Bare (A : Around) : Prop := A.guards = some []
theorem Bare.deeper {A : Around} (h : Bare A) (env : Env) : Bare (A.deeper env) := h
structure FnG (P : Program) (w : World) (K : PySem.W.Frag) (mg : Str → Option Value) (base : Heap) (CX : CXT) (k : Nat) (f : Addr) (fd : FuncData) (ps : List Str) (sp : Sp) : Prop where
  len : ∀ vs H Q E, sp vs H Q E → vs.length = ps.length
  run : ∀ (A : Around) (outer : List Env) (s : Shared) (H : Hp) (args : Args) (us : List Value) (vs : List V) (Q : VK) (E : XK), Bare A → Room k A → Env0 P w K mg base A outer s H → BindsTo s fd args (ps.zip us) → Vals vs us → sp vs H Q E →
    codeAny (model P w) A (.call (.ref f) args) (CR CX outer P w H s Q E) s
theorem FnOk.toG {P : Program} {w : World} {K : PySem.W.Frag} {mg : Str → Option Value} {base : Heap} {CX : CXT} {k : Nat} {f : Addr} {fd : FuncData} {ps : List Str} {sp : Sp} (F : FnOk P w K mg base CX k f fd ps sp) : FnG P w K mg base CX k f fd ps sp :=
  ⟨F.len, fun A outer s H args us vs Q E _ => F.run A outer s H args us vs Q E⟩
section
variable {P : Program} {w : World} {K : PySem.W.Frag} {mg : Str → Option Value} {base : Heap} {CX : CXT} {k : Nat} {f : Addr} {x qual : Str} {st : Stmt} {fd : FuncData} {N ps : List Str} {sp : Sp}
/-- a def by its body, at places where nothing is being shown -/
theorem Fun.okGX (F : Fun K x qual st f fd) (S : FnScope N ps (defScope st)) (len : ∀ vs H Q E, sp vs H Q E → vs.length = ps.length)
    (hbody : ∀ (cdv : Value) (A : Around) (outer : List Env) (s : Shared) (H : Hp) (vs : List V) (Q : VK) (E : XK), Bare A → Room k (A.deeper (envOfC qual (defScope st) s.heap.objs.size f cdv)) → sp vs H Q E →
      ∃ t, PSs (cxOf CX P w K mg base N qual (defScope st) f cdv A outer s H E) (defBody st) t ∧ t { nx := fun _ H' => Q .non H', rt := Q } (start N vs) H) : FnG P w K mg base CX (k + 1) f fd ps sp := by
  obtain ⟨oc, od, kV, doc, pm, an, cdv, ct, osl, rfl, lk, hcd⟩ := F.ex
  refine ⟨len, fun A outer s H args us vs Q E bare hr e0 hb r hsp => ?_⟩
  have same : ∀ b o, base.get? b = some o → s.heap.get? b = some o := fun b o e => (e0.bs b o e).1
  have KX : K.In s.heap := e0.mod.kin.keeps same
  have hkind : ∀ y ∈ ps.zip us, (defScope st).names.lookup y.1 = some .local ∨ ((defScope st).names.lookup y.1 = some .cell ∧ ((cellsFrom (s.heap.objs.size + 1) (defScope st).names []).lookup y.1).isSome = true) := by
    rintro ⟨n, v⟩ hy
    rcases S.par n (List.of_mem_zip hy).1 with q | q
    · exact .inl q
    · exact .inr ⟨q, PySem.W.cellsFrom_some _ _ _ (.inl q)⟩
  refine codeAny_call_function hr.depth (KX _ _ lk) rfl S.co S.gen rfl (PySem.W.codeRec_of KX hcd) (hb _ _ _ _ ?_)
  refine wpAny_newFunctionEnv_cells S.kind hkind fun env he s1 ic => ?_
  subst he
  refine ⟨(e0.mod.nolimit.keeps same).keeps ic.toInCall.keep, codeAny_func ?_⟩
  obtain ⟨t, ht, hq⟩ := hbody cdv A outer s H vs Q E bare (hr.deeper _) hsp
  have I := inv_start (CX := CX) (E := E) S hr.hd e0 (len _ _ _ _ hsp) r ic
  refine wpAny_mono (ht.run [] s1 (start N vs) H _ I hq) (fun fl s' hs => ?_) fun e s' hs => hs
  cases fl with
  | ret u =>
    obtain ⟨v, σ', H', J, rv, q⟩ := hs
    exact ⟨v, H', J.os, J.bare, J.base, J.hok, rv, q⟩
  | next =>
    obtain ⟨σ', H', J, q⟩ := hs
    exact ⟨V.non, H', J.os, J.bare, J.base, J.hok, rfl, q⟩
  | brk =>
    obtain ⟨_, _, _, q⟩ := hs
    exact False.elim q
  | cont =>
    obtain ⟨_, _, _, q⟩ := hs
    exact False.elim q
/-- the same for a def that lets nothing out -/
theorem Fun.okG (F : Fun K x qual st f fd) (S : FnScope N ps (defScope st)) (len : ∀ vs H Q E, sp vs H Q E → vs.length = ps.length)
    (hbody : ∀ (cdv : Value) (A : Around) (outer : List Env) (s : Shared) (H : Hp) (vs : List V) (Q : VK) (E : XK), Bare A → Room k (A.deeper (envOfC qual (defScope st) s.heap.objs.size f cdv)) → sp vs H Q E →
      ∃ t, PSs (cxOf CX0 P w K mg base N qual (defScope st) f cdv A outer s H E).nox (defBody st) t ∧ t { nx := fun _ H' => Q .non H', rt := Q } (start N vs) H) : FnG P w K mg base CX0 (k + 1) f fd ps sp :=
  F.okGX S len fun cdv A outer s H vs Q E hA hr h => by
    obtain ⟨t, h1, h2⟩ := hbody cdv A outer s H vs Q E hA hr h
    exact ⟨t, h1.nox, h2⟩
end
section
variable {X : Cx} {CX : CXT} {k : Nat} {f : Addr} {fd : FuncData} {ps : List Str} {sp : Sp} {dvs : List V} {ds : List Value} {E : XK} {x : Str} {p pos : Pos} {e : Expr} {es : List Expr} {t : TA}
theorem run_fnG {pins : List (Addr × Obj)} {σ : St} {H : Hp} {s : Shared} {Q : VK} {us : List Value} {vs : List V} (F : FnG X.prog X.w X.K X.mg X.base CX k f fd ps sp) (hA : Bare X.A) (hr : Room k X.A) (hb : Binds X.K fd ps ds) (hd : Vals dvs ds) (hx : Passes CX X E)
    (I : Inv X pins σ H s) (r : Vals vs us) (h : sp (vs ++ dvs) H Q E) : wpAny (model X.prog X.w) X.A (call (.ref f) us) (EP X pins σ Q) X.xe s := by
  have r2 : Vals (vs ++ dvs) (us ++ ds) := r.append hd
  have hl : (us ++ ds).length = ps.length := by
    rw [← r2.length]
    exact F.len _ _ _ _ h
  refine wpAny_call (codeAny_mono (F.run X.A X.stack s H ⟨us, []⟩ (us ++ ds) (vs ++ dvs) Q E hA hr I.env0 (hb s us I.kIn hl) r2 h) fun r s' hq => ?_)
  cases r with
  | error er => exact hx pins σ H s er s' I hq
  | ok fl =>
    cases fl with
    | ret u => exact I.after hq
    | next => exact False.elim hq
    | brk => exact False.elim hq
    | cont => exact False.elim hq
theorem pe_callG (F : FnG X.prog X.w X.K X.mg X.base CX k f fd ps sp) (hA : Bare X.A) (hr : Room k X.A) (hg : Gl X x) (hm : X.mg x = some (.ref f)) (hk : PySem.W.keepIn X.K (.ref f) = true) (hb : Binds X.K fd ps ds) (hd : Vals dvs ds) (hx : Passes CX X E)
    (ha : PA X (e :: es) t) (hdb : (x == ("__debug__" : Str)) = false := by decide) (he : starEach (e :: es) X.env = (false, eval e X.env) :: starEach es X.env := by rfl) (hpl : (backTo pos (starEach es X.env)).any (·.1) = false := by rfl) :
    PE X (.Call (.Name x p) (e :: es) [] pos) (tCall sp dvs E t) := by
  refine ⟨fun pins s σ H Q I h => ?_⟩
  refine wpAny_Call_Name_kw (ld_glob I hg hm ?_ hdb)
  exact PySem.W.callWith_K (h₀ := X.base) I.ok.mod.kin hk (thn (ha.run pos pins s σ H _ I h) fun us s1 ⟨vs, H1, I1, r, q⟩ => ⟨I1.kIn, run_fnG F hA hr hb hd hx I1 r q⟩) he hpl
end
/-! ### what repr says -/
def keyD : Key → PyData
  | .inl i => .int i
  | .inr x => .str x
/-- x, shown as d: data without dicts, or a dict of ints -/
def Shw (K : PySem.W.Frag) (H : Hp) (x : V) (d : PyData) : Prop :=
  (Dp K H x d ∧ d.hasDict = false) ∨ ∃ (a : Addr) (kvs : List (Key × Int)), x = .ref a ∧ H a = some (.dK (kvs.map fun kv => (kv.1, V.int kv.2))) ∧ d = .dict (kvs.map fun kv => (keyD kv.1, .int kv.2))
theorem reads_dict {P : Program} {w : World} {h : Heap} : ∀ {es : List DictEntry} {vs : List (Key × Value)} {kvs : List (Key × Int)}, Pairs (mixKind P w) es vs → KV (kvs.map fun kv => (kv.1, V.int kv.2)) vs →
    ReadsAll h (es.map (·.key)) ((kvs.map fun kv => (keyD kv.1, PyData.int kv.2)).map (·.1)) [] ∧ ReadsAll h (es.map (·.val)) ((kvs.map fun kv => (keyD kv.1, PyData.int kv.2)).map (·.2)) []
  | [], vs, [], _, _ => ⟨.nil, .nil⟩
  | [], vs, k :: kvs, p, r => by
    cases p
    cases r
  | e :: es, vs, [], p, r => by
    cases r
    cases p
  | e :: es, vs, k :: kvs, p, r => by
    cases r with
    | cons r1 rr =>
      cases p with
      | cons q1 q2 pr =>
        obtain ⟨h1, h2⟩ := reads_dict (h := h) pr rr
        obtain ⟨e1, t, e2⟩ := r1
        refine ⟨ReadsAll.cons (as := []) (bs := []) ?_ h1, ReadsAll.cons (as := []) (bs := []) ?_ h2⟩
        · have z : keyIs k.1 e.key = true := by
            have e1' : k.1 = _ := e1
            rw [e1']
            exact q1
          rcases keyIs_shape z with ⟨i, t', e3, e4⟩ | ⟨y, t', e3, e4⟩
          · show Reads h e.key (keyD k.1) []
            rw [e3, e4]
            exact Reads.int i t'
          · show Reads h e.key (keyD k.1) []
            rw [e3, e4]
            exact Reads.str y t'
        · show Reads h e.val (.int k.2) []
          rw [q2, e2]
          exact Reads.int _ t
theorem shw_reads {X : Cx} {pins : List (Addr × Obj)} {σ : St} {H : Hp} {s : Shared} {x : V} {u : Value} {d : PyData} (I : Inv X pins σ H s) (h : Shw X.K H x d) (r : RelV x u) : ∃ as, Reads s.heap u d as ∧ (d.hasDict = true → sysModules ∉ as) := by
  rcases h with ⟨h, nd⟩ | ⟨a, kvs, rfl, e, rfl⟩
  · obtain ⟨as, q⟩ := Dp.reads I d x u h r
    exact ⟨as, q, fun z => by rw [nd] at z; cases z⟩
  · cases (show u = Value.ref a from r)
    obtain ⟨_, ns, vs, rk, o, es, ep, ho, hx, hd, _, hp, _⟩ := (show ObjOk X.prog X.w H s.heap a (.dK _) from I.hok a _ e)
    obtain ⟨h1, h2⟩ := reads_dict (h := s.heap) hp rk
    refine ⟨_, Reads.dict ho hx.1 hd h1 h2, fun _ m => ?_⟩
    have : sysModules = a := by simpa using m
    rw [this] at ns
    simp at ns
def rRepr (K : PySem.W.Frag) : List V → Hp → VK → Prop := fun xs H Q => ∃ (x : V) (d : PyData), xs = [x] ∧ Shw K H x d ∧ d.showable = true ∧ d.depth ≤ 60 ∧ d.shown.length ≤ sizeLine ∧ Q (.str d.shown) H
theorem call_repr {X : Cx} (hA : Bare X.A) (hu : X.A.units + 64 < cLine) : CallR X (.builtin "repr") (rRepr X.K) := by
  intro pins s σ H xs us Q I r h
  obtain ⟨x, d, rfl, hs, sh, dp, sz, q⟩ := h
  obtain ⟨u, rfl, rx⟩ := vals1 r
  obtain ⟨as, rd, nsys⟩ := shw_reads I hs rx
  cases rd with
  | none => exact PySem.P.repr_of_none ⟨.str "None", H, I.tok _, ⟨_, rfl⟩, q⟩
  | bool b => exact PySem.P.repr_of_bool ⟨.str (if b then "True" else "False"), H, I.tok _, ⟨_, rfl⟩, q⟩
  | int i t => exact PySem.P.repr_of_int (of_decide_eq_true sh) ⟨.str (toString i), H, I.tok _, ⟨_, rfl⟩, q⟩
  | str y t => exact PySem.P.repr_of_str ⟨.str (reprText y), H, I.tok _, ⟨_, rfl⟩, q⟩ sz
  | list h1 h2 h3 h4 =>
    exact repr_of_reads' (Reads.list h1 h2 h3 h4) sh nsys hA (by omega) (fun b o e => e) (fun h' u tk k => ⟨.str _, H, I.kept (t' := tk) k, ⟨_, rfl⟩, q⟩) sz
  | tuple h1 h2 h3 h4 =>
    exact repr_of_reads' (Reads.tuple h1 h2 h3 h4) sh nsys hA (by omega) (fun b o e => e) (fun h' u tk k => ⟨.str _, H, I.kept (t' := tk) k, ⟨_, rfl⟩, q⟩) sz
  | dict h1 h2 h3 h4 h5 =>
    exact repr_of_reads' (Reads.dict h1 h2 h3 h4 h5) sh nsys hA (by omega) (fun b o e => e) (fun h' u tk k => ⟨.str _, H, I.kept (t' := tk) k, ⟨_, rfl⟩, q⟩) sz
end L2

set_option maxRecDepth 100000
set_option maxHeartbeats 4000000
/-! The end of a law row for a promise that holds where nothing is being shown: the claim's caller shows nothing. -/
namespace L2
open PySem PySem.Spec PyProof.Rows
section
variable {P : Program} {w : World} {K : PySem.W.Frag} {mg mb : Str → Option Value} {CX : CXT} {k : Nat} {fa sc : Addr} {fd : FuncData} {x : Str} {sp : Sp} {st : Shared} {its : List Value} {ns : List Int}
/-- from an abstract heap in which at most the script is tracked -/
theorem callG_at (KX : K.In st.heap) (gN : st.heap.Ns mainGlobals mg) (bN : st.heap.Ns builtinsNs mb) (bb : ∀ x : Str, x ≠ "__name__" → mb x = bootBuiltins x) (nl : st.heap.NoLimit) (gz : st.gens = #[])
    (hs : st.heap.get? sc = some { cls := .type "list", data := .seq its.toArray }) (hr : Room k callerA)
    (F : ∀ base : Heap, K.In base → base.Ns mainGlobals mg → FnG P w K mg base CX k fa fd [x] sp) (hb : ∀ (s : Shared) (u : Value), BindsTo s fd ⟨[u], []⟩ [(x, u)])
    (noX : ∀ H e s', CX [] H st (fun _ _ _ => False) e s' → False) (H : Hp) (hO : Only H) (hsp : sp [.ref sc] H (fun v _ => v = .bl true) fun _ _ _ => False)
    (ok : HOk P w H st.heap) (one : ∀ b, H b ≠ none → b = sc) (hK : H sc ≠ none → K.lookup sc = none) :
    codeAny (model P w) callerA (.call (.ref fa) ⟨[.ref sc], []⟩) (fun r s' => r = .ok (.ret (.bool true)) ∧ OldK st.heap s'.heap ∧ s'.os = st.os ∧ AllBare s'.gens) st := by
  have low : ∀ {b : Addr} {o : Obj}, st.heap.get? b = some o → H b = none → (hidT st.heap H).get? b = some o := fun e n => hidT_get e n
  have isSc : ∀ {b : Addr}, (∃ u, H b = some u) → b = sc := fun {b} ⟨u, q⟩ => one b (by rw [q]; simp)
  have free : ∀ {b : Addr}, b ≠ sc → H b = none := fun {b} ne => by
    cases q : H b with
    | none => rfl
    | some u => exact absurd (isSc ⟨u, q⟩) ne
  have notDict : ∀ {b : Addr} {o : Obj} {es : Array DictEntry} {ep : Nat}, st.heap.get? b = some o → o.data = .dict es ep → H b = none := fun {b o es ep} e d => by
    refine free fun z => ?_
    rw [z, hs] at e
    have e2 := Option.some.inj e
    subst e2
    have d2 : Data.seq its.toArray _ = Data.dict es ep := d
    cases d2
  have nsLow : ∀ {b : Addr} {m : Str → Option Value}, st.heap.Ns b m → (hidT st.heap H).Ns b m := fun {b m} z => by
    obtain ⟨o, es, ep, e, d, r⟩ := z
    exact ⟨o, es, ep, low e (notDict e d), d, r⟩
  have KL : K.In (hidT st.heap H) := fun b o e => low (KX b o e) (by
    cases q : H b with
    | none => rfl
    | some u =>
      have z := isSc ⟨u, q⟩
      subst z
      rw [hK (by rw [q]; simp)] at e
      cases e)
  obtain ⟨mc, l1, l2⟩ := nl
  have M : Mod K mg (hidT st.heap H) := ⟨KL, nsLow gN, ⟨mb, nsLow bN, bb⟩, ⟨mc, nsLow l1, l2⟩⟩
  have e0 : Env0 P w K mg (hidT st.heap H) callerA [] st H := ⟨rfl, M, fun b o e => of_hidT e, Nat.le_of_eq (hidT_size _ _), trivial, fun b hb => absurd (show b ∈ ([] : List Addr) from hb) (by simp), ok, .of_eq gz⟩
  refine codeAny_mono ((F _ KL (nsLow gN)).run callerA [] st H ⟨[.ref sc], []⟩ [.ref sc] [.ref sc] _ _ rfl hr e0 (hb st (.ref sc)) (.cons rfl .nil) hsp) fun r s' h => ?_
  cases r with
  | error e => exact (noX H e s' h).elim
  | ok fl =>
    cases fl with
    | next => exact False.elim h
    | brk => exact False.elim h
    | cont => exact False.elim h
    | ret u =>
      obtain ⟨v, H', os, bare, un, ok', r', q⟩ := h
      have q' : v = .bl true := q
      subst q'
      obtain rfl : u = Value.bool true := r'
      refine ⟨rfl, OldK.of_keep fun b o e => ?_, os, bare⟩
      rcases hO b with z | ⟨ob, xs, z⟩
      · exact un.keep b o e z (fun z => absurd (show b ∈ ([] : List Addr) from z) (by simp)) (by simp)
      · obtain ⟨e1, _⟩ := ok b _ z
        obtain ⟨e2, _⟩ := ok' b _ (un.frzs b ob _ z)
        rw [e] at e1
        cases e1
        exact e2
theorem law_callG (KX : K.In st.heap) (gN : st.heap.Ns mainGlobals mg) (bN : st.heap.Ns builtinsNs mb) (bb : ∀ x : Str, x ≠ "__name__" → mb x = bootBuiltins x) (nl : st.heap.NoLimit) (gz : st.gens = #[])
    (hs : st.heap.get? sc = some { cls := .type "list", data := .seq its.toArray }) (hi : IntsAre its ns) (hl : ns.length ≤ sizeLine) (hr : Room k callerA)
    (F : ∀ base : Heap, K.In base → base.Ns mainGlobals mg → FnG P w K mg base CX k fa fd [x] sp) (hb : ∀ (s : Shared) (u : Value), BindsTo s fd ⟨[u], []⟩ [(x, u)])
    (hsp : ∀ H : Hp, Only H → SqL K H sc (ns.map V.int) → sp [.ref sc] H (fun v _ => v = .bl true) fun _ _ _ => False) (noX : ∀ H e s', CX [] H st (fun _ _ _ => False) e s' → False) :
    codeAny (model P w) callerA (.call (.ref fa) ⟨[.ref sc], []⟩) (fun r s' => r = .ok (.ret (.bool true)) ∧ OldK st.heap s'.heap ∧ s'.os = st.os ∧ AllBare s'.gens) st := by
  have rv := vals_ints hi
  cases hk : K.lookup sc with
  | some o =>
    have e := KX sc o hk
    rw [hs] at e
    cases e
    have only : Only (fun _ => none) := fun _ => .inl rfl
    refine callG_at KX gN bN bb nl gz hs hr F hb noX (fun _ => none) only (hsp _ only (.inr ⟨_, its.toArray, _, hk, rfl, rfl, rfl, by rw [List.size_toArray, hi.length]; exact hl, by simpa using rv⟩)) (fun b u z => nomatch z) (fun b z => absurd rfl z) fun z => absurd rfl z
  | none =>
    let H : Hp := fun b => if b = sc then some (.frz { cls := .type "list", data := .seq its.toArray } (.lst (ns.map V.int))) else none
    have at' : H sc = some (.frz { cls := .type "list", data := .seq its.toArray } (.lst (ns.map V.int))) := if_pos rfl
    have off : ∀ {b : Addr}, b ≠ sc → H b = none := fun ne => if_neg ne
    have only : Only H := fun b => by
      by_cases z : b = sc
      · rw [z]
        exact .inr ⟨_, _, at'⟩
      · exact .inl (off z)
    refine callG_at KX gN bN bb nl gz hs hr F hb noX H only (hsp H only (.inl (.inr ⟨_, at'⟩))) (fun b u z => ?_) (fun b z => ?_) fun _ => hk
    · by_cases q : b = sc
      · subst q
        rw [at'] at z
        cases z
        exact ⟨hs, by rw [List.length_map]; exact hl, its, _, rv, hs⟩
      · rw [off q] at z
        cases z
    · by_cases q : b = sc
      · exact q
      · exact absurd (off q) z
end
theorem walk_ofG {l : PySem.W.OpenLaw} {n k : Nat} {q : Program} {loose : List Str} {XP : (Str → Option Value) → Heap → Prop} {YP : World → Heap → Prop} {d : DefRec} {K : Params → PySem.W.Frag} {CX : World → CXT} {sp : World → Sp} {x : Str}
    (hn : l.most = some n) (hn2 : n ≤ sizeLine) (hdf : d.params.defaults = []) (hr : Room k callerA) (hY : ∀ (w : World) (h : Heap), YP w h → (K w.params).In h)
    (F : ∀ (w : World) (mg : Str → Option Value) (fa : Addr) (h : Heap), (K w.params).In h → h.Ns mainGlobals mg → mg d.name = some (.ref fa) →
      ∃ fd : FuncData, (∀ (s : Shared) (u : Value), BindsTo s fd ⟨[u], []⟩ [(x, u)]) ∧ ∀ base : Heap, (K w.params).In base → base.Ns mainGlobals mg → FnG l.prog w (K w.params) mg base (CX w) k fa fd [x] (sp w))
    (hsp : ∀ (w : World) (H : Hp) (a : Addr) (ns : List Int), ns.length ≤ n → Only H → SqL (K w.params) H a (ns.map V.int) → sp w [.ref a] H (fun v _ => v = .bl true) fun _ _ _ => False)
    (hCX : ∀ (w : World) (H : Hp) (s : Shared) (e : Value) (s' : Shared), CX w [] H s (fun _ _ _ => False) e s' → False) :
    PySem.W.WalkO q loose XP YP l.row.toRowW d [] (fun f vs => PySem.call f vs) := by
  refine Att.attach_call hn hdf fun w s₀ s₁ mg mb fa o pm cd doc a vs ns G Y ho hd hcd hmg hobj hints hlen hg => ?_
  have KX := hY w _ Y
  obtain ⟨fd, hb, hF⟩ := F w mg fa _ KX G.T.g hmg
  exact law_callG KX G.T.g G.T.b G.T.builtins G.T.nolimit hg hobj hints (Nat.le_trans hlen hn2) hr hF hb (fun H hO hS => hsp w H a ns hlen hO hS) fun H e s' => hCX w H s₁ e s'
end L2

set_option maxRecDepth 100000
set_option maxHeartbeats 4000000
/-! Things that are shown by repr: what is kept of them in later heaps. -/
namespace L2
open PySem PySem.Spec PyProof.Rows
theorem Same.seqT {K : PySem.W.Frag} {H H' : Hp} {a : Addr} {xs : List V} (s : Same H H') (h : SqT K H a xs) : SqT K H' a xs := by
  rcases h with (h | ⟨o, h⟩) | h
  · exact .inl (.inl (s _ _ h))
  · exact .inl (.inr ⟨o, s _ _ h⟩)
  · exact .inr h
mutual
theorem Dp.same {K : PySem.W.Frag} {H H' : Hp} (s : Same H H') : ∀ (d : PyData) (v : V), Dp K H v d → Dp K H' v d
  | .none, _, h => by
    cases h
    exact .non
  | .bool b, _, h => by
    cases h
    exact .bl b
  | .int i, _, h => by
    cases h
    exact .int i
  | .str x, _, h => by
    cases h
    exact .str x
  | .list ds, _, h => by
    cases h with
    | lst q ha => exact .lst (s.seq q) (DpAll.same s ds _ ha)
  | .tuple ds, _, h => by
    cases h with
    | tup q ha => exact .tup (s.seqT q) (DpAll.same s ds _ ha)
  | .dict _, _, h => by cases h
theorem DpAll.same {K : PySem.W.Frag} {H H' : Hp} (s : Same H H') : ∀ (ds : List PyData) (vs : List V), DpAll K H vs ds → DpAll K H' vs ds
  | [], _, h => by
    cases h
    exact .nil
  | d :: ds, _, h => by
    cases h with
    | cons h1 h2 => exact .cons (Dp.same s d _ h1) (DpAll.same s ds _ h2)
end
theorem Shw.same {K : PySem.W.Frag} {H H' : Hp} {x : V} {d : PyData} (s : Same H H') (h : Shw K H x d) : Shw K H' x d := by
  rcases h with ⟨h, n⟩ | ⟨a, kvs, e1, e2, e3⟩
  · exact .inl ⟨h.same s d x, n⟩
  · exact .inr ⟨a, kvs, e1, s _ _ e2, e3⟩
/-- what is asked of a thing that is shown -/
structure Fine (d : PyData) : Prop where
  sh : d.showable = true
  dp : d.depth ≤ 60
  sz : d.shown.length ≤ sizeLine
  ok : PyData.strOk d.shown = true
def Good (K : PySem.W.Frag) (H : Hp) (v : V) : Prop := ∃ d, Shw K H v d ∧ Fine d
theorem Good.same {K : PySem.W.Frag} {H H' : Hp} {v : V} (s : Same H H') (h : Good K H v) : Good K H' v := by
  obtain ⟨d, a, b⟩ := h
  exact ⟨d, a.same s, b⟩
theorem strOk_of (s : String) : PyData.strOk (Str.ofString s) = true := by
  unfold PyData.strOk
  rw [Str.ofString_eq_toList]
  simp only [List.all_toArray, List.all_map, List.all_eq_true, Function.comp, decide_eq_true_eq]
  intro c _
  have := c.valid
  show c.toNat < 0x110000
  have z : c.val.toNat < 0x110000 := by
    rcases this with h | ⟨_, h⟩
    · have h' : c.val.toNat < 0xd800 := h
      omega
    · exact h
  exact z
theorem fine_int {n : Int} (h0 : 0 ≤ n) (h : n < 10 ^ 30) : Fine (.int n) := by
  have l : n.natAbs < 2 ^ 100 := by
    have : (n.natAbs : Int) = n := by omega
    have h2 : (n.natAbs : Int) < 10 ^ 30 := by omega
    have h3 : n.natAbs < 10 ^ 30 := by exact_mod_cast h2
    exact Nat.lt_trans h3 (by decide)
  have l2 : n.natAbs.log2 < 1920 := Nat.lt_trans (PySem.Flt.log2_lt_of (by decide) l) (by decide)
  exact ⟨decide_eq_true l2, Nat.zero_le _, int_text_fits l2, strOk_of _⟩
/-! lists of texts as data -/
theorem strs_lay : ∀ ts : List Str, (∀ t ∈ ts, PyData.strOk t = true) → PyData.canLayAll0 (ts.map PyData.str) = true
  | [], _ => rfl
  | t :: ts, h => by
    show (PyData.strOk t && PyData.canLayAll0 (ts.map PyData.str)) = true
    rw [strs_lay ts fun u m => h u (List.mem_cons_of_mem _ m), h t List.mem_cons_self]
    rfl
theorem strs_flat : ∀ ts : List Str, PyData.depthAll (ts.map PyData.str) = 0
  | [] => rfl
  | t :: ts => by
    show max (PyData.depth (.str t)) (PyData.depthAll (ts.map PyData.str)) = 0
    rw [strs_flat ts]
    rfl
theorem strs_shaped (ts : List Str) (h : ∀ t ∈ ts, PyData.strOk t = true) : SeqAt.shaped (.list (ts.map PyData.str)) = true := by
  have h1 : PyData.canLay0 (.list (ts.map PyData.str)) = true := strs_lay ts h
  have h2 : PyData.depth (.list (ts.map PyData.str)) = 1 := by
    show PyData.depthAll (ts.map PyData.str) + 1 = 1
    rw [strs_flat ts]
  unfold SeqAt.shaped
  rw [h1, h2]
  rfl
theorem strs_all {K : PySem.W.Frag} {H : Hp} : ∀ ts : List Str, DpAll K H (ts.map V.str) (ts.map PyData.str)
  | [] => .nil
  | t :: ts => .cons (.str t) (strs_all ts)
theorem strs_dp {K : PySem.W.Frag} {H : Hp} {p : Addr} {ts : List Str} (h : H p = some (.lst (ts.map V.str))) : Dp K H (.ref p) (.list (ts.map PyData.str)) := .lst (SqL.of h) (strs_all ts)
theorem strs_same (ts : List Str) (h : ∀ t ∈ ts, PyData.strOk t = true) : PyData.eqv (.list (ts.map PyData.str)) (.list (ts.map PyData.str)) = true := SeqAt.eqv_refl _ (strs_lay ts h)
def rRepG : R2 := fun x y H Q => ∃ l k xs, x = .ref l ∧ y = .int k ∧ H l = some (.lst xs) ∧ -(2 ^ 63) ≤ k ∧ k < 2 ^ 63 ∧ xs.length * k.toNat ≤ sizeLine ∧ New H (.lst (List.replicate k.toNat xs).flatten) Q
theorem op_repG {X : Cx} : OpR X (binaryOp .Mult) rRepG := fun pins s σ H x y v u Q I rx ry ⟨l, k, xs, e1, e2, e3, e4, e5, e6, q⟩ => op_rep pins s σ H x y v u Q I rx ry ⟨l, k, xs, e1, e2, e3, e4, e5, e6, fun p n => q.at n⟩
end L2

set_option maxRecDepth 100000
set_option maxHeartbeats 4000000
namespace Mine
open PySem L2
abbrev s_rest_of : Stmt := top 30
abbrev s_stops_of : Stmt := top 29
theorem inV_ints {a : Int} : ∀ {ts : List Int}, inV (.int a) (ts.map V.int) = decide (a ∈ ts)
  | [] => by simp [inV]
  | t :: ts => by
    have ih := inV_ints (a := a) (ts := ts)
    unfold inV at ih ⊢
    rw [List.map_cons, List.any_cons, ih]
    show (t == a || decide (a ∈ ts)) = _
    by_cases h : t = a
    · subst h
      simp
    · have h2 : (t == a) = false := beq_eq_false_iff_ne.mpr h
      rw [h2, Bool.false_or]
      by_cases m : a ∈ ts
      · rw [decide_eq_true m, decide_eq_true (List.mem_cons_of_mem _ m)]
      · rw [decide_eq_false m, decide_eq_false (fun z => (List.mem_cons.mp z).elim (fun y => h y.symm) m)]
theorem flat_ints (ts : List Int) : (ts.map V.int).all flatV = true := by
  rw [List.all_map]
  exact List.all_eq_true.mpr fun _ _ => rfl
/-- min of the trail from where `at` stands, or `at` -/
def RestIs (ts : List Int) (a m : Int) : Prop := (a ∉ ts → m = a) ∧ ∀ j, ts[j]? = some a → (∀ i, i < j → ts[i]? ≠ some a) → m ∈ ts.drop j ∧ ∀ x ∈ ts.drop j, m ≤ x
def spRest (K : PySem.W.Frag) : Sp := fun vs H Q _ => ∃ (p : Addr) (ts : List Int) (a : Int), vs = [.ref p, .int a] ∧ H p = some (.lst (ts.map V.int)) ∧ ∀ (m : Int) (H' : Hp), Same H H' → RestIs ts a m → Q (.int m) H'
theorem first_at {a : Int} : ∀ {ts : List Int}, a ∈ ts → ∃ j : Nat, ts[j]? = some a ∧ ∀ i : Nat, i < j → ts[i]? ≠ some a
  | [], h => nomatch h
  | t :: ts, h => by
    by_cases e : t = a
    · exact ⟨0, by rw [e]; rfl, fun i hi => absurd hi (Nat.not_lt_zero i)⟩
    · obtain ⟨j, h1, h2⟩ := first_at (a := a) (ts := ts) ((List.mem_cons.mp h).elim (fun z => absurd z.symm e) id)
      refine ⟨j + 1, by simpa using h1, fun i hi => ?_⟩
      cases i with
      | zero => simpa using e
      | succ i => simpa using h2 i (by omega)
section
variable {P : Program} {w : World} {K : PySem.W.Frag} {mg : Str → Option Value} {base : Heap}
variable {fII fIW a_is_row a_is_index a_is_name a_is_text_in a_are_counts a_word_of a_are_nexts a_is_line a_line_of a_are_operations : Addr}
theorem sc_rest_of : FnScope ["trail", "at"] ["trail", "at"] (defScope s_rest_of) := ⟨rfl, rfl, rfl, by decide +kernel, rfl, by decide +kernel, by decide +kernel⟩
theorem ok_rest_of {f : Addr} {fd : FuncData} (F : Fun K "rest_of" "rest_of" s_rest_of f fd) (hmin : mg "min" = none) : FnOk P w K mg base CX0 1 f fd ["trail", "at"] (spRest K) := by
  refine F.ok sc_rest_of (fun vs H Q E h => ?_) (fun cdv A outer s H vs Q E hr h => ?_)
  · obtain ⟨p, ts, a, rfl, _⟩ := h
    rfl
  · obtain ⟨p, ts, a, rfl, hp, k⟩ := h
    refine ⟨_, (pss_cons (ps_if (pt_cmpR op_in_seq (pv 1) (pv 0) (by rfl)) (pss_one (ps_ret (pe_callB (cr_min rfl) (by rfl) hmin (by decide +kernel) (pa_cons (pe_slice sl_listG (pv 0) (po_some (pe_bm PySem.F.plainAttrs_list PySem.F.slot_list_index PySem.F.type_list_index mt_index (pv 0) (pa_cons (pv 1) pa_nil))) po_none) pa_nil)))) pss_nil)
      (pss_one (ps_ret (pv 1)))), ?_⟩
    refine ⟨_, rfl, _, rfl, p, _, rfl, .inl (SqL.of hp), rfl, flat_ints ts, _, rfl, ?_⟩
    show if inV (.int a) (ts.map V.int) = true then _ else _
    rw [inV_ints]
    refine ite2 (fun h1 => ?_) (fun h1 => ?_)
    · obtain ⟨j, hj, hf⟩ := first_at (of_decide_eq_true h1)
      have hjl : j < ts.length := (List.getElem?_eq_some_iff.mp hj).1
      refine ⟨_, rfl, _, rfl, .inl ⟨rfl, _, SqL.of hp⟩, _, rfl, p, _, _, j, .int a, rfl, rfl, SqL.of hp, rfl, flat_ints ts, by rw [List.getElem?_map, hj]; rfl, by show (a == a) = true; exact beq_self_eq_true a, fun m z hm hz => ?_, ?_⟩
      · rw [List.getElem?_map] at hz
        cases e : ts[m]? with
        | none => rw [e] at hz; cases hz
        | some b =>
          rw [e] at hz
          have e2 : V.int b = z := Option.some.inj hz
          subst e2
          show (b == a) = false
          exact beq_eq_false_iff_ne.mpr fun y => hf m hm (by rw [e, y])
      · refine ⟨_, rfl, p, _, rfl, SqL.of hp, fun q1 H1 n1 s1 e1 => ?_⟩
        have e2 : cutV (ts.map V.int) (some (j : Int)) none = (ts.drop j).map V.int := by
          unfold cutV
          rw [HT.sIx_nat, HT.sIx_none, List.length_map, Nat.min_eq_left (by omega), List.map_drop]
          exact List.take_of_length_le (by rw [List.length_drop, List.length_map]; omega)
        rw [e2] at e1
        refine ⟨q1, ts.drop j, rfl, SqL.of e1, by rw [List.length_drop]; omega, fun m h2 h3 => k m _ s1 ⟨fun z => absurd (of_decide_eq_true h1) z, fun j' hj' hf' => ?_⟩⟩
        have : j' = j := by
          by_cases lt : j' < j
          · exact absurd hj' (hf j' lt)
          · by_cases lt2 : j < j'
            · exact absurd hj (hf' j lt2)
            · omega
        subst this
        exact ⟨h2, h3⟩
    · exact ⟨_, rfl, k a _ (Same.refl _) ⟨fun _ => rfl, fun j hj _ => absurd (decide_eq_true (List.mem_of_getElem? hj)) h1⟩⟩
end
end Mine

set_option maxRecDepth 100000
set_option maxHeartbeats 4000000
namespace Mine
open PySem L2
def nxt (rs : List RowD) (i : Nat) : Nat := match rs[i]? with
  | some (.go k) => k.toNat
  | _ => i
def isGo (rs : List RowD) (i : Nat) : Bool := match rs[i]? with
  | some (.go _) => true
  | _ => false
def GoOk (rs : List RowD) : Prop := ∀ (i : Nat) (k : Int), rs[i]? = some (.go k) → 0 ≤ k ∧ k < rs.length
theorem nxt_lt {rs : List RowD} (h : GoOk rs) (i : Nat) (hi : i < rs.length) : nxt rs i < rs.length := by
  unfold nxt
  split
  · rename_i k e
    have := h i k e
    omega
  · exact hi
theorem nxt_fix {rs : List RowD} {i : Nat} (h : isGo rs i = false) : nxt rs i = i := by
  unfold isGo at h
  unfold nxt
  split
  · rename_i k e
    rw [e] at h
    cases h
  · rfl
abbrev way (rs : List RowD) (k i : Nat) : Nat := Mach.itr (nxt rs) k i
def stp (rs : List RowD) (i : Nat) : Nat := Mach.stopAt (nxt rs) rs.length i
theorem stp_way {rs : List RowD} (h : GoOk rs) : ∀ (k i : Nat), i < rs.length → stp rs (way rs k i) = stp rs i
  | 0, _, _ => rfl
  | k + 1, i, hi => by
    show stp rs (way rs k (nxt rs i)) = _
    rw [stp_way h k _ (nxt_lt h i hi)]
    exact Mach.stop_step (nxt_lt h) hi
/-- a list of ints by its places -/
def fl (n : Nat) (g : Nat → Int) : List V := (List.range n).map fun i => V.int (g i)
theorem fl_len {n : Nat} {g : Nat → Int} : (fl n g).length = n := by
  unfold fl
  rw [List.length_map, List.length_range]
theorem fl_get {n k : Nat} {g : Nat → Int} (h : k < n) : (fl n g)[k]? = some (V.int (g k)) := by
  unfold fl
  rw [List.getElem?_map, List.getElem?_range h]
  rfl
theorem fl_at {n k : Nat} {g : Nat → Int} (h : k < n) : atI (fl n g) (k : Int) = some (V.int (g k)) := atI_nat (fl_get h)
theorem fl_set {n k : Nat} {g : Nat → Int} {v : Int} (h : k < n) : (fl n g).set k (V.int v) = fl n (fun i => if i = k then v else g i) := by
  apply List.ext_getElem?
  intro i
  by_cases hi : i < n
  · rw [fl_get hi]
    by_cases e : i = k
    · subst e
      rw [List.getElem?_set_self (by rw [fl_len]; exact hi), if_pos rfl]
    · rw [List.getElem?_set_ne (Ne.symm e), fl_get hi, if_neg e]
  · rw [List.getElem?_eq_none (by rw [List.length_set, fl_len]; omega), List.getElem?_eq_none (by rw [fl_len]; omega)]
theorem fl_rep (n : Nat) : (List.replicate n [V.int (-1)]).flatten = fl n fun _ => -1 := by
  apply List.ext_getElem?
  intro i
  have e : (List.replicate n [V.int (-1)]).flatten = List.replicate n (V.int (-1)) := by simp
  rw [e]
  by_cases hi : i < n
  · rw [fl_get hi, List.getElem?_replicate, if_pos hi]
  · rw [List.getElem?_eq_none (by rw [List.length_replicate]; omega), List.getElem?_eq_none (by rw [fl_len]; omega)]
theorem ixn {n k : Nat} (h : k < n) : ixN n (k : Int) = some k := by
  unfold ixN
  rw [if_pos (by omega), if_pos (by omega)]
  simp
/-- the rows stand there as tuples -/
def Rows (H : Hp) (xs : List V) (rs : List RowD) : Prop := xs.length = rs.length ∧ ∀ (i : Nat) (r : RowD), rs[i]? = some r → ∃ x, xs[i]? = some x ∧ TRow H x r
theorem Rows.same {H H' : Hp} {xs : List V} {rs : List RowD} (s : Same H H') (h : Rows H xs rs) : Rows H' xs rs := ⟨h.1, fun i r e => by
  obtain ⟨x, h1, h2⟩ := h.2 i r e
  exact ⟨x, h1, h2.same s⟩⟩
def wordOf : RowD → Str
  | .ask _ _ => "ask"
  | .go _ => "go"
  | .fin _ => "end"
theorem TRow.head {H : Hp} {v : V} {r : RowD} (h : TRow H v r) : ∃ a xs, v = .ref a ∧ H a = some (.tup (.str (wordOf r) :: xs)) := by
  cases r with
  | ask op ns =>
    obtain ⟨a, t, e, h1, _⟩ := h
    exact ⟨a, _, e, h1⟩
  | go n =>
    obtain ⟨a, e, h1⟩ := h
    exact ⟨a, _, e, h1⟩
  | fin w =>
    obtain ⟨a, e, h1⟩ := h
    exact ⟨a, _, e, h1⟩
def spStops : Sp := fun vs H Q _ => ∃ (a : Addr) (xs : List V) (rs : List RowD), vs = [.ref a] ∧ H a = some (.lst xs) ∧ Rows H xs rs ∧ GoOk rs ∧ rs.length ≤ 100000 ∧ New H (.lst (fl rs.length fun i => (stp rs i : Int))) Q
/-- what holds ahead of the turn b of stops_of -/
structure StB (rs : List RowD) (b : Nat) (ss ws : Nat → Int) : Prop where
  any : ∀ i, i < rs.length → ss i = -1 ∨ ss i = stp rs i
  done : ∀ i, i < b → ss i = stp rs i
  ws : ∀ i, i < rs.length → ws i < b
/-- what holds within the walk from b, behind k steps -/
structure InW (rs : List RowD) (b k : Nat) (ss ws : Nat → Int) : Prop where
  go : ∀ j, j < k → isGo rs (way rs j b) = true
  new : ∀ j, j < k → ss (way rs j b) = -1
  mark : ∀ i, i < rs.length → (ws i = b ↔ ∃ j, j < k ∧ way rs j b = i)
  le : ∀ i, i < rs.length → ws i ≤ b
  ne : ∀ j j', j < j' → j' < k → way rs j b ≠ way rs j' b
/-- the walk's test -/
def goOn (rs : List RowD) (b k : Nat) (ss ws : Nat → Int) : Bool := decide (ss (way rs k b) < 0) && (!decide (ws (way rs k b) = b) && isGo rs (way rs k b))
theorem InW.room {rs : List RowD} {b k : Nat} {ss ws : Nat → Int} (ok : GoOk rs) (hb : b < rs.length) (w : InW rs b k ss ws) (h : ws (way rs k b) ≠ b) : k < rs.length := by
  have lt : ∀ j, way rs j b < rs.length := fun j => Mach.itr_lt (nxt_lt ok) j b hb
  have nd : ((List.range (k + 1)).map fun j => way rs j b).Nodup := by
    rw [List.Nodup, List.pairwise_map]
    refine List.Pairwise.imp_of_mem (fun {i j} hi hj l e => ?_) List.pairwise_lt_range
    have hj' := List.mem_range.mp hj
    by_cases q : j = k
    · subst q
      exact h (((w.mark _ (lt _)).mpr ⟨i, l, e⟩))
    · exact w.ne i j l (by omega) e
  have := Mach.pigeon _ _ nd (fun x hx => by
    obtain ⟨j, _, e⟩ := List.mem_map.mp hx
    rw [← e]
    exact lt j)
  rw [List.length_map, List.length_range] at this
  omega
theorem InW.more {rs : List RowD} {b k : Nat} {ss ws : Nat → Int} (ok : GoOk rs) (hb : b < rs.length) (w : InW rs b k ss ws) (h0 : ss (way rs k b) = -1) (h1 : ws (way rs k b) ≠ b) (h2 : isGo rs (way rs k b) = true) :
    InW rs b (k + 1) ss (fun i => if i = way rs k b then (b : Int) else ws i) := by
  have lt : ∀ j, way rs j b < rs.length := fun j => Mach.itr_lt (nxt_lt ok) j b hb
  refine ⟨fun j hj => ?_, fun j hj => ?_, fun i hi => ?_, fun i hi => ?_, fun j j' l hj e => ?_⟩
  · by_cases q : j = k
    · rw [q]
      exact h2
    · exact w.go j (by omega)
  · by_cases q : j = k
    · rw [q]
      exact h0
    · exact w.new j (by omega)
  · by_cases q : i = way rs k b
    · rw [if_pos q]
      exact ⟨fun _ => ⟨k, by omega, q.symm⟩, fun _ => rfl⟩
    · rw [if_neg q, w.mark i hi]
      constructor
      · rintro ⟨j, hj, e⟩
        exact ⟨j, by omega, e⟩
      · rintro ⟨j, hj, e⟩
        refine ⟨j, ?_, e⟩
        by_cases z : j = k
        · rw [z] at e
          exact absurd e.symm q
        · omega
  · show (if i = way rs k b then (b : Int) else ws i) ≤ b
    split
    · exact Int.le_refl _
    · exact w.le i hi
  · by_cases q : j' = k
    · subst q
      exact h1 (((w.mark _ (lt _)).mpr ⟨j, l, e⟩))
    · exact w.ne j j' l (by omega) e
/-- where the walk ends, what rest_of hands back is where it rests -/
theorem InW.rest {rs : List RowD} {b k : Nat} {ss ws : Nat → Int} (ok : GoOk rs) (hb : b < rs.length) (w : InW rs b k ss ws) (any : ∀ i, i < rs.length → ss i = -1 ∨ ss i = stp rs i) (hend : goOn rs b k ss ws = false) (neg : ss (way rs k b) < 0) {m : Int}
    (h : RestIs ((List.range k).map fun j => (way rs j b : Int)) (way rs k b : Int) m) : m = stp rs (way rs k b) := by
  have lt : ∀ j, way rs j b < rs.length := fun j => Mach.itr_lt (nxt_lt ok) j b hb
  by_cases mk : ws (way rs k b) = b
  · obtain ⟨j, hj, e⟩ := (w.mark _ (lt k)).mp mk
    have hget : ∀ i, i < k → ((List.range k).map fun j => (way rs j b : Int))[i]? = some (way rs i b : Int) := fun i hi => by
      rw [List.getElem?_map, List.getElem?_range hi]
      rfl
    obtain ⟨h1, h2⟩ := h.2 j (by rw [hget j hj, e]) (fun i hi z => by
      rw [hget i (by omega)] at z
      have z2 : (way rs i b : Int) = (way rs k b : Int) := Option.some.inj z
      exact w.ne i j hi hj (by omega))
    have hmem : ∀ x, x ∈ ((List.range k).map fun j => (way rs j b : Int)).drop j ↔ ∃ i, i < k - j ∧ x = (way rs i (way rs k b) : Int) := fun x => by
      have ee : ∀ i, way rs (j + i) b = way rs i (way rs k b) := fun i => by
        rw [← e]
        exact Mach.itr_add _ j i b
      constructor
      · intro hx
        obtain ⟨i, hi⟩ := List.mem_iff_getElem?.mp hx
        rw [List.getElem?_drop] at hi
        have hik : j + i < k := by
          have := (List.getElem?_eq_some_iff.mp hi).1
          simpa using this
        rw [hget _ hik] at hi
        have z : (way rs (j + i) b : Int) = x := Option.some.inj hi
        refine ⟨i, by omega, ?_⟩
        rw [← ee i]
        exact z.symm
      · rintro ⟨i, hi, rfl⟩
        refine List.mem_iff_getElem?.mpr ⟨i, ?_⟩
        rw [List.getElem?_drop, hget _ (by omega), ee i]
    obtain ⟨i0, hi0, e0⟩ := (hmem m).mp h1
    have st : stp rs (way rs k b) = way rs i0 (way rs k b) := by
      refine Mach.stop_ring (nxt_lt ok) (lt k) (m := k - j) (by omega) ?_ ⟨i0, hi0, rfl⟩ fun i hi => ?_
      · show way rs (k - j) (way rs k b) = way rs k b
        conv => lhs; rw [← e]
        show Mach.itr (nxt rs) (k - j) (Mach.itr (nxt rs) j b) = Mach.itr (nxt rs) k b
        rw [← Mach.itr_add]
        congr 1
        omega
      · have := h2 _ ((hmem _).mpr ⟨i, hi, rfl⟩)
        rw [e0] at this
        exact Int.ofNat_le.mp this
    rw [st]
    exact e0
  · have ng : isGo rs (way rs k b) = false := by
      unfold goOn at hend
      rw [decide_eq_true neg, decide_eq_false mk, Bool.true_and] at hend
      simpa using hend
    have hn : (way rs k b : Int) ∉ ((List.range k).map fun j => (way rs j b : Int)) := fun hx => by
      obtain ⟨j, hj, e⟩ := List.mem_map.mp hx
      have e2 : way rs j b = way rs k b := by omega
      have g := w.go j (List.mem_range.mp hj)
      rw [e2, ng] at g
      cases g
    rw [h.1 hn]
    have : stp rs (way rs k b) = way rs k b := Mach.stop_fix (nxt_lt ok) (lt k) (nxt_fix ng)
    rw [this]
end Mine

set_option maxRecDepth 100000
set_option maxHeartbeats 4000000
namespace Mine
open PySem L2
/-- both lists of marks stand there -/
structure At (H0 : Hp) (sa wa : Addr) (n : Nat) (ss ws : Nat → Int) (H : Hp) : Prop where
  same : Same H0 H
  s : H sa = some (.lst (fl n ss))
  w : H wa = some (.lst (fl n ws))
  ns : H0 sa = none
  nw : H0 wa = none
  ne : sa ≠ wa
theorem same_updN {H H' : Hp} {p : Addr} {o : HO} (s : Same H H') (n : H p = none) : Same H (upd H' p o) := fun b u e => by
  rw [upd_ne (ne_of_none e n)]
  exact s b u e
theorem At.go {H0 H H' : Hp} {sa wa : Addr} {n : Nat} {ss ws : Nat → Int} (t : At H0 sa wa n ss ws H) (s : Same H H') : At H0 sa wa n ss ws H' := ⟨t.same.trans s, s _ _ t.s, s _ _ t.w, t.ns, t.nw, t.ne⟩
def set1 (f : Nat → Int) (k : Nat) (v : Int) : Nat → Int := fun i => if i = k then v else f i
theorem At.setW {H0 H : Hp} {sa wa : Addr} {n k : Nat} {ss ws : Nat → Int} {v : Int} (t : At H0 sa wa n ss ws H) (h : k < n) : At H0 sa wa n ss (set1 ws k v) (upd H wa (.lst ((fl n ws).set k (V.int v)))) := by
  refine ⟨same_updN t.same t.nw, ?_, ?_, t.ns, t.nw, t.ne⟩
  · rw [upd_ne t.ne]
    exact t.s
  · rw [upd_same, fl_set h]
    rfl
theorem At.setS {H0 H : Hp} {sa wa : Addr} {n k : Nat} {ss ws : Nat → Int} {v : Int} (t : At H0 sa wa n ss ws H) (h : k < n) : At H0 sa wa n (set1 ss k v) ws (upd H sa (.lst ((fl n ss).set k (V.int v)))) := by
  refine ⟨same_updN t.same t.ns, ?_, ?_, t.ns, t.nw, t.ne⟩
  · rw [upd_same, fl_set h]
    rfl
  · rw [upd_ne (Ne.symm t.ne)]
    exact t.w
/-- a third list, made behind both -/
theorem At.other {H0 H : Hp} {sa wa ta : Addr} {n : Nat} {ss ws : Nat → Int} {o : HO} (t : At H0 sa wa n ss ws H) (h0 : H0 ta = none) (h1 : ta ≠ sa) (h2 : ta ≠ wa) : At H0 sa wa n ss ws (upd H ta o) := by
  refine ⟨same_updN t.same h0, ?_, ?_, t.ns, t.nw, t.ne⟩
  · rw [upd_ne (Ne.symm h1)]
    exact t.s
  · rw [upd_ne (Ne.symm h2)]
    exact t.w
theorem none_of {H H' : Hp} {p : Addr} (s : Same H H') (h : H' p = none) : H p = none := by
  cases e : H p with
  | none => rfl
  | some u =>
    rw [s _ _ e] at h
    cases h
def Up (rs : List RowD) (ss ss' : Nat → Int) : Prop := ∀ i, i < rs.length → ss' i = ss i ∨ ss' i = stp rs i
theorem Up.refl (rs : List RowD) (ss : Nat → Int) : Up rs ss ss := fun _ _ => .inl rfl
theorem Up.set {rs : List RowD} {ss ss' : Nat → Int} (u : Up rs ss ss') (k : Nat) : Up rs ss (set1 ss' k (stp rs k)) := fun i hi => by
  unfold set1
  by_cases e : i = k
  · rw [if_pos e, e]
    exact .inr rfl
  · rw [if_neg e]
    exact u i hi
theorem set1_same (f : Nat → Int) (k : Nat) (v : Int) : set1 f k v k = v := if_pos rfl
theorem Up.done {rs : List RowD} {ss ss' : Nat → Int} (u : Up rs ss ss') {i : Nat} (hi : i < rs.length) (h : ss i = stp rs i) : ss' i = stp rs i := (u i hi).elim (fun e => e.trans h) id
theorem Up.any {rs : List RowD} {ss ss' : Nat → Int} (u : Up rs ss ss') {i : Nat} (hi : i < rs.length) (h : ss i = -1 ∨ ss i = stp rs i) : ss' i = -1 ∨ ss' i = stp rs i := (u i hi).elim (fun e => by rw [e]; exact h) .inr
theorem set1_done {rs : List RowD} {ss : Nat → Int} {i : Nat} (h : ss i = stp rs i) (k : Nat) : set1 ss k (stp rs k) i = stp rs i := by
  unfold set1
  by_cases e : i = k
  · rw [if_pos e, e]
  · rw [if_neg e]
    exact h
theorem ask_go : ("ask" : Str) ≠ "go" := by decide +kernel
theorem end_go : ("end" : Str) ≠ "go" := by decide +kernel
theorem go_dec {rs : List RowD} {i : Nat} {r : RowD} (e : rs[i]? = some r) : decide (V.str (wordOf r) = V.str "go") = isGo rs i := by
  unfold isGo
  rw [e]
  cases r with
  | ask op ns => exact strNe ask_go
  | go k => exact strEq _
  | fin x => exact strNe end_go
theorem isGo_row {rs : List RowD} {i : Nat} (h : isGo rs i = true) : ∃ k, rs[i]? = some (.go k) := by
  unfold isGo at h
  split at h
  · rename_i k e
    exact ⟨k, e⟩
  · cases h
theorem InW.start {rs : List RowD} {b : Nat} {ss ws : Nat → Int} (t : StB rs b ss ws) : InW rs b 0 ss ws :=
  ⟨fun j hj => absurd hj (Nat.not_lt_zero _), fun j hj => absurd hj (Nat.not_lt_zero _), fun i hi => ⟨fun e => by have := t.ws i hi; omega, fun ⟨j, hj, _⟩ => absurd hj (Nat.not_lt_zero _)⟩, fun i hi => Int.le_of_lt (t.ws i hi), fun j j' _ hj => absurd hj (Nat.not_lt_zero _)⟩
theorem di {i j : Int} : decide (V.int i = V.int j) = decide (i = j) := by
  by_cases h : i = j
  · rw [decide_eq_true h, h]
    exact decide_eq_true rfl
  · rw [decide_eq_false h]
    exact decide_eq_false fun z => h (V.int.inj z)
theorem range_snoc (f : Nat → V) (k : Nat) : (List.range (k + 1)).map f = (List.range k).map f ++ [f k] := by
  rw [List.range_succ, List.map_append]
  rfl
theorem pt_imp {X : Cx} {e : Expr} {t t' : TT} (h : PT X e t) (m : ∀ σ H Q, t' σ H Q → t σ H Q) : PT X e t' := ⟨fun pins s σ H Q I q => h.run pins s σ H Q I (m σ H Q q)⟩
theorem ps_imp {X : Cx} {e : Stmt} {t t' : TS} (h : PS X e t) (m : ∀ D σ H, t' D σ H → t D σ H) : PS X e t' := ⟨fun pins s σ H D I q => h.run pins s σ H D I (m D σ H q)⟩
/-- the walk's test, as it is read -/
def tOn : TT := fun σ H Q => ∃ (a sa wa : Addr) (xs : List V) (rs : List RowD) (b k : Nat) (ss ws : Nat → Int) (v4 v6 : Option V), σ = [some (.ref a), some (.ref sa), some (.ref wa), some (.int b), v4, some (.int (way rs k b : Int)), v6] ∧
  H a = some (.lst xs) ∧ Rows H xs rs ∧ H sa = some (.lst (fl rs.length ss)) ∧ H wa = some (.lst (fl rs.length ws)) ∧ way rs k b < rs.length ∧ Q (goOn rs b k ss ws) H
theorem Rows.at {H : Hp} {xs : List V} {rs : List RowD} (r : Rows H xs rs) {i : Nat} (hi : i < rs.length) : ∃ (q : Addr) (zs : List V) (d : RowD), rs[i]? = some d ∧ xs[i]? = some (.ref q) ∧ TRow H (.ref q) d ∧ H q = some (.tup (.str (wordOf d) :: zs)) := by
  obtain ⟨x, h1, h2⟩ := r.2 i _ (List.getElem?_eq_getElem hi)
  obtain ⟨q, zs, rfl, h3⟩ := h2.head
  exact ⟨q, zs, _, List.getElem?_eq_getElem hi, h1, h2, h3⟩
/-- where the walk rests is set, if it is not known -/
def tSettle : TS := fun D σ H => ∃ (H0 : Hp) (sa wa ta : Addr) (rs : List RowD) (b k : Nat) (ss ws : Nat → Int) (v0 v6 : Option V), σ = [v0, some (.ref sa), some (.ref wa), some (.int b), some (.ref ta), some (.int (way rs k b : Int)), v6] ∧
  GoOk rs ∧ b < rs.length ∧ At H0 sa wa rs.length ss ws H ∧ ta ≠ sa ∧ H ta = some (.lst ((List.range k).map fun j => V.int (way rs j b : Int))) ∧ (∀ i, i < rs.length → ss i = -1 ∨ ss i = stp rs i) ∧ InW rs b k ss ws ∧ goOn rs b k ss ws = false ∧
  ∀ (ss' : Nat → Int) (H' : Hp), At H0 sa wa rs.length ss' ws H' → H' ta = some (.lst ((List.range k).map fun j => V.int (way rs j b : Int))) → Up rs ss ss' → ss' (way rs k b) = stp rs (way rs k b) → D.nx σ H'
section
variable {P : Program} {w : World} {K : PySem.W.Frag} {mg : Str → Option Value} {base : Heap}
variable {fII fIW a_rest : Addr}
theorem sc_stops_of : FnScope ["lines", "stops", "walks", "begin", "trail", "at", "passed"] ["lines"] (defScope s_stops_of) := ⟨rfl, rfl, rfl, by decide +kernel, rfl, by decide +kernel, by decide +kernel⟩
theorem ok_stops_of {f : Addr} {fd fd_rest : FuncData} (F : Fun K "stops_of" "stops_of" s_stops_of f fd) (T : TxtF K mg fII fIW) (h_range : mg "range" = none)
    (GR : FnOk P w K mg base CX0 1 a_rest fd_rest ["trail", "at"] (spRest K)) (b_rest : Binds K fd_rest ["trail", "at"] []) (g_rest : mg "rest_of" = some (.ref a_rest)) (k_rest : PySem.W.keepIn K (.ref a_rest) = true) : FnOk P w K mg base CX0 2 f fd ["lines"] spStops := by
  refine F.ok sc_stops_of (fun vs H Q E h => ?_) (fun cdv A outer s H vs Q E hr h => ?_)
  · obtain ⟨a, xs, rs, rfl, _⟩ := h
    rfl
  · obtain ⟨a, xs, rs, rfl, ha, rows, ok, big, k⟩ := h
    refine ⟨_, (pss_cons (ps_set (i := 1) sc_stops_of.nd rfl (Or.inl rfl) (pe_op op_repG (pe_lstG (pa_cons (pe_un un_neg pe_int) pa_nil)) (pe_callB call_len_seq (by rfl) T.b_len PySem.boot_len (pa_cons (pv 0) pa_nil))))
      (pss_cons (ps_set (i := 2) sc_stops_of.nd rfl (Or.inl rfl) (pe_op op_repG (pe_lstG (pa_cons (pe_un un_neg pe_int) pa_nil)) (pe_callB call_len_seq (by rfl) T.b_len PySem.boot_len (pa_cons (pv 0) pa_nil))))
      (pss_cons (ps_for PassesOwn.never rfl (pi_range1 (by rfl) h_range (pa_cons (pe_callB call_len_seq (by rfl) T.b_len PySem.boot_len (pa_cons (pv 0) pa_nil)) pa_nil)) (pg_name (i := 3) sc_stops_of.nd rfl (Or.inl rfl)) (pss_cons (ps_set (i := 4) sc_stops_of.nd rfl (Or.inl rfl) (pe_lstG pa_nil))
      (pss_cons (ps_set (i := 5) sc_stops_of.nd rfl (Or.inl rfl) (pv 3))
      (pss_cons (ps_while PassesOwn.never (pt_imp (t' := tOn) (PW.pt (pw_and (pt_cmpR op_lt (pe_ix ix_list (pv 1) (pv 5) (fun _ _ => rfl)) pe_int (nomark _)) (pw_and (pt_cmpR op_ne (pe_ix ix_list (pv 2) (pv 5) (fun _ _ => rfl)) (pv 3) (nomark _)) (pw_and1 (pt_cmpR op_eq (pe_ix ix_tup (pe_ix ix_list (pv 0) (pv 5) (fun _ _ => rfl)) pe_int (fun _ _ => rfl)) pe_str (nomark _)))))) (fun σ H Q q => by
      obtain ⟨a, sa, wa, xs, rs, b, k, ss, ws, v4, v6, rfl, ha, rows, hs, hw, lt, q⟩ := q
      obtain ⟨p, zs, d, ed, hx, _, hp⟩ := rows.at lt
      refine ⟨_, rfl, _, rfl, sa, _, _, _, rfl, rfl, SqL.of hs, fl_at lt, _, _, rfl, rfl, _, rfl, ?_⟩
      refine ite2 (fun h1 => ?_) (fun h1 => ?_)
      · refine ⟨_, rfl, _, rfl, wa, _, _, _, rfl, rfl, SqL.of hw, fl_at lt, _, rfl, rfl, _, rfl, ?_⟩
        rw [di]
        refine ite2 (fun h2 => ?_) (fun h2 => ?_)
        · refine ⟨_, rfl, _, rfl, a, xs, _, _, rfl, rfl, SqL.of ha, atI_nat hx, p, _, _, _, rfl, rfl, .inl (.inl hp), at0', rfl, _, rfl, ?_⟩
          rw [go_dec ed]
          have e : goOn rs b k ss ws = isGo rs (way rs k b) := by
            unfold goOn
            rw [h1, h2]
            rfl
          rw [e] at q
          exact q
        · have e : goOn rs b k ss ws = false := by
            unfold goOn
            rw [h1, Bool.eq_false_iff.mpr h2]
            rfl
          rw [e] at q
          exact q
      · have e : goOn rs b k ss ws = false := by
          unfold goOn
          rw [Bool.eq_false_iff.mpr h1]
          rfl
        rw [e] at q
        exact q)) (pss_cons (ps_asg (pv 3) (pg_sub (pv 2) (pv 5) set_list))
      (pss_cons (ps_expr (pe_bm PySem.F.plainAttrs_list PySem.F.slot_list_append PySem.F.type_list_append mt_append (pv 4) (pa_cons (pv 5) pa_nil)))
      (pss_one (ps_set (i := 5) sc_stops_of.nd rfl (Or.inl rfl) (pe_ix ix_tup (pe_ix ix_list (pv 0) (pv 5) (fun _ _ => rfl)) pe_int (fun _ _ => rfl)))))))
      (pss_cons (ps_imp (t' := tSettle) (ps_if (pt_cmpR op_lt (pe_ix ix_list (pv 1) (pv 5) (fun _ _ => rfl)) pe_int (nomark _)) (pss_one (ps_asg (pe_call GR (hr.mono (by decide)) (by rfl) g_rest k_rest b_rest .nil pass0 (pa_cons (pv 4) (pa_cons (pv 5) pa_nil))) (pg_sub (pv 1) (pv 5) set_list))) pss_nil) (fun D σ H q => by
      obtain ⟨H0, sa, wa, ta, rs, b, k, ss, ws, v0, v6, rfl, ok, hb, t, tas, et, any, iw, ge, kk⟩ := q
      have lt : way rs k b < rs.length := Mach.itr_lt (nxt_lt ok) k b hb
      refine ⟨_, rfl, _, rfl, sa, _, _, _, rfl, rfl, SqL.of t.s, fl_at lt, _, _, rfl, rfl, _, rfl, ?_⟩
      refine ite2 (fun h1 => ?_) (fun h1 => ?_)
      · refine ⟨_, rfl, _, rfl, ta, (List.range k).map fun j => (way rs j b : Int), _, rfl, by rw [et, List.map_map]; rfl, fun m H' s1 rest => ?_⟩
        refine ⟨_, rfl, _, rfl, sa, _, _, way rs k b, rfl, rfl, s1 _ _ t.s, by rw [fl_len]; exact ixn lt, ?_⟩
        have e := iw.rest ok hb any ge (of_decide_eq_true h1) rest
        subst e
        exact kk _ _ ((t.go s1).setS lt) (by rw [upd_ne tas]; exact s1 _ _ et) ((Up.refl _ _).set _) (set1_same _ _ _)
      · exact kk ss H t et (Up.refl _ _) ((any _ lt).elim (fun z => absurd (decide_eq_true (by omega)) h1) id)))
      (pss_one (ps_for PassesOwn.never rfl (pi_list (pv 4)) (pg_name (i := 6) sc_stops_of.nd rfl (Or.inl rfl)) (pss_one (ps_asg (pe_ix ix_list (pv 1) (pv 5) (fun _ _ => rfl)) (pg_sub (pv 1) (pv 6) set_list))))))))))
      (pss_one (ps_ret (pv 1)))))), ?_⟩
    have hl : (xs.length : Int) = rs.length := by rw [rows.1]
    have one : ∀ v : V, [v].length ≤ sizeLine := fun v => by rw [sizeLine_eq]; exact Nat.succ_le_of_lt (by decide)
    refine ⟨_, rfl, one _, fun p0 H1 n0 s1 e0 => ?_⟩
    have room : ∀ v : V, [v].length * (xs.length : Int).toNat ≤ sizeLine := fun v => by
      rw [sizeLine_eq, Int.toNat_natCast]
      have := rows.1
      show 1 * xs.length ≤ _
      omega
    refine ⟨_, rfl, a, xs, rfl, .inl (SqL.of (s1 _ _ ha)), ?_⟩
    refine ⟨p0, _, _, rfl, rfl, e0, by omega, by omega, room _, fun sa H2 n2 s2 e2 => ?_⟩
    refine ⟨_, rfl, one _, fun p1 H3 n3 s3 e3 => ?_⟩
    refine ⟨_, rfl, a, xs, rfl, .inl (SqL.of (s3 _ _ (s2 _ _ (s1 _ _ ha)))), ?_⟩
    refine ⟨p1, _, _, rfl, rfl, e3, by omega, by omega, room _, fun wa H4 n4 s4 e4 => ?_⟩
    have nsa : H sa = none := none_of s1 n2
    have nwa : H wa = none := none_of (s1.trans (s2.trans s3)) n4
    have nea : sa ≠ wa := fun z => by
      rw [← z, s3 _ _ e2] at n4
      cases n4
    have at0 : At H sa wa rs.length (fun _ => -1) (fun _ => -1) H4 := by
      refine ⟨s1.trans (s2.trans (s3.trans s4)), ?_, ?_, nsa, nwa, nea⟩
      · rw [s4 _ _ (s3 _ _ e2), Int.toNat_natCast, rows.1]
        exact congrArg (fun z => some (HO.lst z)) (fl_rep _)
      · rw [e4, Int.toNat_natCast, rows.1]
        exact congrArg (fun z => some (HO.lst z)) (fl_rep _)
    refine ⟨_, rfl, a, xs, rfl, .inl (SqL.of (s4 _ _ (s3 _ _ (s2 _ _ (s1 _ _ ha))))), ?_⟩
    rw [rows.1]
    refine ⟨_, rfl, by omega, by omega, for_range (n := rs.length) (fun b σ H' => ∃ (ss ws : Nat → Int) (v3 v4 v5 v6 : Option V), σ = [some (.ref a), some (.ref sa), some (.ref wa), v3, v4, v5, v6] ∧ At H sa wa rs.length ss ws H' ∧ StB rs b ss ws) ?_ (fun b σ H' hb z => ?_) (fun σ H' z => ?_)⟩
    · exact ⟨_, _, _, _, _, _, rfl, at0, fun _ _ => .inl rfl, fun i hi => absurd hi (Nat.not_lt_zero _), fun i hi => by show (-1 : Int) < 0; decide⟩
    · obtain ⟨ss, ws, v3, v4, v5, v6, rfl, t, stb⟩ := z
      have lt : ∀ j, way rs j b < rs.length := fun j => Mach.itr_lt (nxt_lt ok) j b hb
      have rowsIn : ∀ {H''}, Same H H'' → Rows H'' xs rs := fun s => rows.same s
      rw [Int.zero_add]
      refine ⟨Nat.zero_le _, fun ta H5 n5 s5 e5 => ?_⟩
      have t5 := t.go s5
      have nta : H ta = none := none_of t.same n5
      have tas : ta ≠ sa := fun z => by
        rw [z, t.s] at n5
        cases n5
      have taw : ta ≠ wa := fun z => by
        rw [z, t.w] at n5
        cases n5
      refine ⟨_, rfl, ?_⟩
      refine ⟨fun m σ H' => ∃ (k : Nat) (ws' : Nat → Int), m = rs.length - k ∧ σ = [some (.ref a), some (.ref sa), some (.ref wa), some (.int b), some (.ref ta), some (.int (way rs k b : Int)), v6] ∧ At H sa wa rs.length ss ws' H' ∧ H' ta = some (.lst ((List.range k).map fun j => V.int (way rs j b : Int))) ∧ InW rs b k ss ws', ⟨_, 0, ws, rfl, rfl, t5, e5, InW.start stb⟩, ?_⟩
      rintro m σ H' ⟨k', ws', rfl, rfl, t', et, iw⟩
      refine ⟨a, sa, wa, xs, rs, b, k', ss, ws', _, _, rfl, t'.same _ _ ha, rowsIn t'.same, t'.s, t'.w, lt k', ?_⟩
      refine ite2 (fun g => ?_) (fun g => ?_)
      · have g1 : ws' (way rs k' b) ≠ b ∧ isGo rs (way rs k' b) = true ∧ ss (way rs k' b) < 0 := by
          unfold goOn at g
          simp only [Bool.and_eq_true, decide_eq_true_eq, Bool.not_eq_true', decide_eq_false_iff_not] at g
          exact ⟨g.2.1, g.2.2, g.1⟩
        obtain ⟨g1, g2, g3⟩ := g1
        have g4 : ss (way rs k' b) = -1 := (stb.any _ (lt k')).elim id fun z => by omega
        obtain ⟨kk, hkk⟩ := isGo_row g2
        refine ⟨fun σ' H'' => ∃ ws'', σ' = [some (.ref a), some (.ref sa), some (.ref wa), some (.int b), some (.ref ta), some (.int (way rs (k' + 1) b : Int)), v6] ∧ At H sa wa rs.length ss ws'' H'' ∧ H'' ta = some (.lst ((List.range (k' + 1)).map fun j => V.int (way rs j b : Int))) ∧ InW rs b (k' + 1) ss ws'', fun σ' H'' ⟨ws'', z1, z2, z3, z4⟩ => ⟨rs.length - (k' + 1), by have := iw.room ok hb g1; omega, k' + 1, ws'', rfl, z1, z2, z3, z4⟩, ?_⟩
        refine ⟨_, rfl, _, rfl, _, rfl, wa, _, _, way rs k' b, rfl, rfl, t'.w, by rw [fl_len]; exact ixn (lt k'), ?_⟩
        have t2 := t'.setW (v := (b : Int)) (lt k')
        have et2 : upd H' wa (.lst ((fl rs.length ws').set (way rs k' b) (V.int b))) ta = some (.lst ((List.range k').map fun j => V.int (way rs j b : Int))) := by
          rw [upd_ne taw]
          exact et
        refine ⟨_, rfl, .inl ⟨rfl, _, SqL.of et2⟩, _, rfl, ta, _, _, rfl, rfl, et2, by rw [List.length_map, List.length_range, sizeLine_eq]; have := iw.room ok hb g1; omega, ?_⟩
        have t3 := t2.other (o := .lst ((List.range k').map (fun j => V.int (way rs j b : Int)) ++ [V.int (way rs k' b : Int)])) nta tas taw
        obtain ⟨x, hx1, hx2⟩ := rows.2 _ _ hkk
        obtain ⟨q, rfl, hq⟩ := hx2
        refine ⟨_, rfl, _, rfl, a, xs, _, _, rfl, rfl, SqL.of (t3.same _ _ ha), atI_nat hx1, q, _, _, _, rfl, rfl, .inl (.inl (t3.same _ _ hq)), at1', ?_⟩
        have e1 : kk = (way rs (k' + 1) b : Int) := by
          have : way rs (k' + 1) b = nxt rs (way rs k' b) := Mach.itr_succ _ _ _
          rw [this]
          unfold nxt
          rw [hkk]
          have := ok _ _ hkk
          show kk = (kk.toNat : Int)
          omega
        refine ⟨_, ?_, t3, ?_, iw.more ok hb g4 g1 g2⟩
        · rw [e1]
          rfl
        · rw [upd_same, range_snoc]
      · refine ⟨H, sa, wa, ta, rs, b, k', ss, ws', _, _, rfl, ok, hb, t', tas, et, stb.any, iw, Bool.eq_false_iff.mpr g, fun ss1 H6 t6 et6 up6 st6 => ?_⟩
        have stw : ∀ i, stp rs (way rs i b) = stp rs b := fun i => stp_way ok i b hb
        refine ⟨_, rfl, ta, rfl, ⟨_, SqL.of et6⟩, for_list (K := K) (a := ta) (xs := (List.range k').map fun j => V.int (way rs j b : Int)) (fun j σ H7 => ∃ (ss2 : Nat → Int) (v6 : Option V), σ = [some (.ref a), some (.ref sa), some (.ref wa), some (.int b), some (.ref ta), some (.int (way rs k' b : Int)), v6] ∧ At H sa wa rs.length ss2 ws' H7 ∧ H7 ta = some (.lst ((List.range k').map fun j => V.int (way rs j b : Int))) ∧ Up rs ss ss2 ∧ ss2 (way rs k' b) = stp rs b ∧ ∀ i, i < j → ss2 (way rs i b) = stp rs b)
          ⟨ss1, _, rfl, t6, et6, up6, by rw [st6, stw], fun i hi => absurd hi (Nat.not_lt_zero _)⟩ (fun i σ H7 _ z => by obtain ⟨_, _, _, _, z, _⟩ := z; exact SqL.of z) (fun j x σ H7 hx z => ?_) (fun σ H7 z => ?_)⟩
        · obtain ⟨ss2, w6, rfl, t7, et7, up7, st7, dn7⟩ := z
          have hj : j < k' := by
            have := (List.getElem?_eq_some_iff.mp hx).1
            rw [List.length_map, List.length_range] at this
            exact this
          rw [List.getElem?_map, List.getElem?_range hj] at hx
          have hx2 : V.int (way rs j b : Int) = x := Option.some.inj hx
          subst hx2
          refine ⟨_, rfl, _, rfl, sa, _, _, _, rfl, rfl, SqL.of t7.s, fl_at (lt k'), _, rfl, _, rfl, sa, _, _, way rs j b, rfl, rfl, t7.s, by rw [fl_len]; exact ixn (lt j), ?_⟩
          rw [st7]
          refine ⟨set1 ss2 (way rs j b) (stp rs b), _, rfl, t7.setS (lt j), ?_, ?_, ?_, fun i hi => ?_⟩
          · rw [upd_ne tas]
            exact et7
          · have := up7.set (way rs j b)
            rw [stw] at this
            exact this
          · have := set1_done (rs := rs) (ss := ss2) (i := way rs k' b) (by rw [st7, stw]) (way rs j b)
            rw [stw, stw] at this
            exact this
          · by_cases z : i = j
            · rw [z]
              exact set1_same _ _ _
            · have := set1_done (rs := rs) (ss := ss2) (i := way rs i b) (by rw [dn7 i (by omega), stw]) (way rs j b)
              rw [stw, stw] at this
              exact this
        · obtain ⟨ss2, w6, rfl, t7, et7, up7, st7, dn7⟩ := z
          refine ⟨ss2, ws', _, _, _, _, rfl, t7, fun i hi => up7.any hi (stb.any i hi), fun i hi => ?_, fun i hi => ?_⟩
          · by_cases z : i = b
            · subst z
              by_cases k0 : k' = 0
              · subst k0
                exact st7
              · exact dn7 0 (by rw [List.length_map, List.length_range]; omega)
            · exact up7.done (by omega) (stb.done i (by omega))
          · have := iw.le i hi
            omega
    · obtain ⟨ss, ws, v3, v4, v5, v6, rfl, t, stb⟩ := z
      have e : (fl rs.length ss) = fl rs.length fun i => (stp rs i : Int) := List.map_congr_left fun i hi => by rw [stb.done i (List.mem_range.mp hi)]
      exact ⟨_, rfl, k sa H' nsa t.same (by rw [t.s, e])⟩
end
end Mine

set_option maxRecDepth 100000
set_option maxHeartbeats 4000000
namespace Mine
open PySem L2
abbrev s_nexts_of : Stmt := top 32
abbrev s_rests_from : Stmt := top 31
def nextsD : RowD → List Int
  | .ask _ ns => ns
  | _ => []
def targets : RowD → List Int
  | .ask _ ns => ns
  | .go k => [k]
  | .fin _ => []
/-- all rows lead to rows -/
def Fit (rs : List RowD) : Prop := ∀ (i : Nat) (d : RowD), rs[i]? = some d → ∀ n ∈ targets d, 0 ≤ n ∧ n < rs.length
theorem Fit.go {rs : List RowD} (f : Fit rs) : GoOk rs := fun i k e => f i _ e k List.mem_cons_self
theorem Fit.nexts {rs : List RowD} (f : Fit rs) {i : Nat} {d : RowD} (e : rs[i]? = some d) {n : Int} (h : n ∈ nextsD d) : 0 ≤ n ∧ n < rs.length := f i d e n (by cases d <;> first | exact h | exact nomatch h)
def addTo (m : List Nat) (i : Nat) : List Nat := if i ∈ m then m else m ++ [i]
def grow (rs : List RowD) (m : List Nat) (ns : List Int) : List Nat := ns.foldl (fun m n => addTo m (stp rs n.toNat)) m
def metS (rs : List RowD) (m : List Nat) (d : Nat) : List Nat := match m[d]? with
  | some i => grow rs m (match rs[i]? with | some r => nextsD r | none => [])
  | none => m
def metAt (rs : List RowD) (b : Nat) : Nat → List Nat
  | 0 => [stp rs b]
  | d + 1 => metS rs (metAt rs b d) d
/-- the rows of rest that a run can come to, breadth first -/
def metOf (rs : List RowD) (b : Nat) : List Nat := metAt rs b rs.length
theorem stp_lt {rs : List RowD} (h : GoOk rs) {i : Nat} (hi : i < rs.length) : stp rs i < rs.length := Mach.stop_lt (nxt_lt h) hi
/-- no double, all below -/
def Few (n : Nat) (m : List Nat) : Prop := m.Nodup ∧ ∀ x ∈ m, x < n
theorem Few.len {n : Nat} {m : List Nat} (f : Few n m) : m.length ≤ n := Mach.pigeon n m f.1 f.2
theorem Few.add {n i : Nat} {m : List Nat} (f : Few n m) (h : i < n) : Few n (addTo m i) := by
  unfold addTo
  by_cases e : i ∈ m
  · rw [if_pos e]
    exact f
  · rw [if_neg e]
    refine ⟨?_, fun x hx => (List.mem_append.mp hx).elim (f.2 x) fun z => by rw [List.mem_singleton.mp z]; exact h⟩
    rw [List.nodup_append]
    exact ⟨f.1, by simp, fun x hx y hy z => by rw [List.mem_singleton.mp hy] at z; exact e (z ▸ hx)⟩
theorem grow_few {rs : List RowD} (ok : GoOk rs) : ∀ {ns : List Int} {m : List Nat}, Few rs.length m → (∀ n ∈ ns, 0 ≤ n ∧ n < rs.length) → Few rs.length (grow rs m ns)
  | [], _, f, _ => f
  | n :: ns, m, f, h => grow_few ok (ns := ns) (f.add (stp_lt ok (by have := h n List.mem_cons_self; omega))) fun x hx => h x (List.mem_cons_of_mem _ hx)
theorem add_len {m : List Nat} {i : Nat} : m.length ≤ (addTo m i).length := by
  unfold addTo
  split
  · exact Nat.le_refl _
  · rw [List.length_append]
    exact Nat.le_add_right _ _
theorem grow_len {rs : List RowD} : ∀ {ns : List Int} {m : List Nat}, m.length ≤ (grow rs m ns).length
  | [], _ => Nat.le_refl _
  | n :: ns, m => Nat.le_trans add_len (grow_len (ns := ns))
theorem metAt_few {rs : List RowD} (f : Fit rs) {b : Nat} (hb : b < rs.length) : ∀ d, Few rs.length (metAt rs b d)
  | 0 => ⟨by show [stp rs b].Nodup; simp, fun x hx => by rw [List.mem_singleton.mp hx]; exact stp_lt f.go hb⟩
  | d + 1 => by
    have ih := metAt_few f hb d
    show Few _ (metS rs (metAt rs b d) d)
    unfold metS
    split
    · rename_i i e
      refine grow_few f.go ih fun n hn => ?_
      split at hn
      · rename_i r er
        exact f.nexts er hn
      · exact nomatch hn
    · exact ih
theorem metAt_over {rs : List RowD} {b d : Nat} (h : (metAt rs b d).length ≤ d) : ∀ k, metAt rs b (d + k) = metAt rs b d
  | 0 => rfl
  | k + 1 => by
    have ih := metAt_over h k
    show metS rs (metAt rs b (d + k)) (d + k) = _
    rw [ih]
    unfold metS
    rw [List.getElem?_eq_none (by omega)]
theorem metAt_end {rs : List RowD} {b d : Nat} (hd : d ≤ rs.length) (h : (metAt rs b d).length ≤ d) : metAt rs b d = metOf rs b := by
  have := metAt_over h (rs.length - d)
  rw [show d + (rs.length - d) = rs.length by omega] at this
  exact this.symm
theorem metAt_step {rs : List RowD} {b d i : Nat} {r : RowD} (h : (metAt rs b d)[d]? = some i) (hr : rs[i]? = some r) : metAt rs b (d + 1) = grow rs (metAt rs b d) (nextsD r) := by
  show metS rs (metAt rs b d) d = _
  unfold metS
  rw [h]
  show grow rs _ (match rs[i]? with | some r => nextsD r | none => []) = _
  rw [hr]
def natsV (m : List Nat) : List V := m.map fun (i : Nat) => V.int (i : Int)
def knK (m : List Nat) : List (Key × V) := m.map fun (i : Nat) => (Sum.inl (i : Int), V.bl true)
theorem val_kn (m : List Nat) (j : Nat) : (valV (knK m) (.inl (j : Int))).isSome = decide (j ∈ m) := by
  induction m with
  | nil => rfl
  | cons i m ih =>
    by_cases h : i = j
    · subst h
      unfold knK
      rw [List.map_cons, valV_pos rfl]
      simp
    · have h2 : ¬ (Sum.inl (i : Int) : Key) = Sum.inl (j : Int) := fun z => h (by have := Sum.inl.inj z; omega)
      unfold knK at ih ⊢
      rw [List.map_cons, valV_neg h2, ih]
      by_cases q : j ∈ m
      · rw [decide_eq_true q, decide_eq_true (List.mem_cons_of_mem _ q)]
      · rw [decide_eq_false q, decide_eq_false (fun z => (List.mem_cons.mp z).elim (fun y => h y.symm) q)]
/-- both lists of what was met stand there -/
structure MetI (H0 : Hp) (ma ka : Addr) (m : List Nat) (H : Hp) : Prop where
  same : Same H0 H
  em : H ma = some (.lst (natsV m))
  ek : H ka = some (.dK (knK m))
  nm : H0 ma = none
  nk : H0 ka = none
  ne : ma ≠ ka
theorem MetI.go {H0 H H' : Hp} {ma ka : Addr} {m : List Nat} (t : MetI H0 ma ka m H) (s : Same H H') : MetI H0 ma ka m H' := ⟨t.same.trans s, s _ _ t.em, s _ _ t.ek, t.nm, t.nk, t.ne⟩
theorem MetI.put {H0 H : Hp} {ma ka : Addr} {m : List Nat} {i : Nat} (t : MetI H0 ma ka m H) (h : i ∉ m) : MetI H0 ma ka (addTo m i) (upd (upd H ka (.dK (putK (knK m) (.inl (i : Int)) (.bl true)))) ma (.lst (natsV m ++ [.int (i : Int)]))) := by
  have e : addTo m i = m ++ [i] := if_neg h
  refine ⟨same_updN (same_updN t.same t.nk) t.nm, ?_, ?_, t.nm, t.nk, t.ne⟩
  · rw [upd_same, e]
    unfold natsV
    rw [List.map_append]
    rfl
  · rw [upd_ne (Ne.symm t.ne), upd_same, putK_new, e]
    · unfold knK
      rw [List.map_append]
      rfl
    · have := val_kn m i
      rw [decide_eq_false h] at this
      cases q : valV (knK m) (.inl (i : Int)) with
      | none => rfl
      | some v =>
        rw [q] at this
        cases this
def spNextsOf : Sp := fun vs H Q _ => ∃ (q : Addr) (d : RowD), vs = [.ref q] ∧ TRow H (.ref q) d ∧ ∀ (t : Addr) (H' : Hp), Same H H' → H' t = some (.tup ((nextsD d).map V.int)) → Q (.ref t) H'
def spRests : Sp := fun vs H Q _ => ∃ (a sa : Addr) (xs : List V) (rs : List RowD) (b : Nat), vs = [.ref a, .ref sa, .int b] ∧ H a = some (.lst xs) ∧ Rows H xs rs ∧ Fit rs ∧ H sa = some (.lst (fl rs.length fun i => (stp rs i : Int))) ∧ b < rs.length ∧ rs.length ≤ 100000 ∧ New H (.lst (natsV (metOf rs b))) Q
section
variable {P : Program} {w : World} {K : PySem.W.Frag} {mg : Str → Option Value} {base : Heap}
variable {fII fIW a_nexts : Addr}
theorem sc_nexts_of : FnScope ["line"] ["line"] (defScope s_nexts_of) := ⟨rfl, rfl, rfl, by decide +kernel, rfl, by decide +kernel, by decide +kernel⟩
theorem ok_nexts_of {f : Addr} {fd : FuncData} (F : Fun K "nexts_of" "nexts_of" s_nexts_of f fd) : FnOk P w K mg base CX0 1 f fd ["line"] spNextsOf := by
  refine F.ok sc_nexts_of (fun vs H Q E h => ?_) (fun cdv A outer s H vs Q E hr h => ?_)
  · obtain ⟨q, d, rfl, _⟩ := h
    rfl
  · obtain ⟨q, d, rfl, row, k⟩ := h
    refine ⟨_, (pss_cons (ps_if (pt_cmpR op_eq (pe_ix ix_tup (pv 0) pe_int (fun _ _ => rfl)) pe_str (nomark _)) (pss_one (ps_ret (pe_ix ix_tup (pv 0) pe_int (fun _ _ => rfl)))) pss_nil)
      (pss_one (ps_ret (pe_tupG pa_nil)))), ?_⟩
    cases d with
    | ask op ns =>
      obtain ⟨a, t, e, h1, h2⟩ := row
      cases e
      refine ⟨_, rfl, _, _, _, _, rfl, rfl, .inl (.inl h1), at0', rfl, _, rfl, ?_⟩
      rw [strEq]
      refine iteT ?_
      exact ⟨_, rfl, _, _, _, _, rfl, rfl, .inl (.inl h1), at2', k t H (Same.refl _) h2⟩
    | go n =>
      obtain ⟨a, e, h1⟩ := row
      cases e
      refine ⟨_, rfl, _, _, _, _, rfl, rfl, .inl (.inl h1), at0', rfl, _, rfl, ?_⟩
      rw [strNe go_ask]
      refine iteF ?_
      exact ⟨Nat.zero_le _, fun t H' n s e => k t H' s e⟩
    | fin x =>
      obtain ⟨a, e, h1⟩ := row
      cases e
      refine ⟨_, rfl, _, _, _, _, rfl, rfl, .inl (.inl h1), at0', rfl, _, rfl, ?_⟩
      rw [strNe end_ask]
      refine iteF ?_
      exact ⟨Nat.zero_le _, fun t H' n s e => k t H' s e⟩
theorem sc_rests_from : FnScope ["lines", "stops", "begin", "met", "known", "done", "index"] ["lines", "stops", "begin"] (defScope s_rests_from) := ⟨rfl, rfl, rfl, by decide +kernel, rfl, by decide +kernel, by decide +kernel⟩
theorem ok_rests_from {f : Addr} {fd fd_nexts : FuncData} (F : Fun K "rests_from" "rests_from" s_rests_from f fd) (T : TxtF K mg fII fIW)
    (GN : FnOk P w K mg base CX0 1 a_nexts fd_nexts ["line"] spNextsOf) (b_nexts : Binds K fd_nexts ["line"] []) (g_nexts : mg "nexts_of" = some (.ref a_nexts)) (k_nexts : PySem.W.keepIn K (.ref a_nexts) = true) : FnOk P w K mg base CX0 2 f fd ["lines", "stops", "begin"] spRests := by
  refine F.ok sc_rests_from (fun vs H Q E h => ?_) (fun cdv A outer s H vs Q E hr h => ?_)
  · obtain ⟨a, sa, xs, rs, b, rfl, _⟩ := h
    rfl
  · obtain ⟨a, sa, xs, rs, b, rfl, ha, rows, fit, hs, hb, big, k⟩ := h
    refine ⟨_, (pss_cons (ps_set (i := 3) sc_rests_from.nd rfl (Or.inl rfl) (pe_lstG (pa_cons (pe_ix ix_list (pv 1) (pv 2) (fun _ _ => rfl)) pa_nil)))
      (pss_cons (ps_set (i := 4) sc_rests_from.nd rfl (Or.inl rfl) (pe_disp (pps_cons (pe_ix ix_list (pv 1) (pv 2) (fun _ _ => rfl)) pe_bl pps_nil) rfl rfl (fun z => by cases z) (by show 1 ≤ 15; decide)))
      (pss_cons (ps_set (i := 5) sc_rests_from.nd rfl (Or.inl rfl) pe_int)
      (pss_cons (ps_while PassesOwn.never (pt_cmpR op_lt (pv 5) (pe_callB call_len_seq (by rfl) T.b_len PySem.boot_len (pa_cons (pv 3) pa_nil)) (nomark _)) (pss_cons (ps_for PassesOwn.never rfl (pi_tup (pe_call GN (hr.mono (by decide)) (by rfl) g_nexts k_nexts b_nexts .nil pass0 (pa_cons (pe_ix ix_list (pv 0) (pe_ix ix_list (pv 3) (pv 5) (fun _ _ => rfl)) (fun _ _ => rfl)) pa_nil))) (pg_name (i := 6) sc_rests_from.nd rfl (Or.inl rfl)) (pss_one (ps_if (pt_cmp (pc_dnotin (hu_of hr) (pe_ix ix_list (pv 1) (pv 6) (fun _ _ => rfl)) (pv 4)) rfl) (pss_cons (ps_asg pe_bl (pg_sub (pv 4) (pe_ix ix_list (pv 1) (pv 6) (fun _ _ => rfl)) (set_dict (hu_of hr))))
      (pss_one (ps_expr (pe_bm PySem.F.plainAttrs_list PySem.F.slot_list_append PySem.F.type_list_append mt_append (pv 3) (pa_cons (pe_ix ix_list (pv 1) (pv 6) (fun _ _ => rfl)) pa_nil))))) pss_nil)))
      (pss_one (ps_aug (i := 5) sc_rests_from.nd rfl (Or.inl rfl) pe_int ip_add))))
      (pss_one (ps_ret (pv 3))))))), ?_⟩
    have one : ∀ v : V, [v].length ≤ sizeLine := fun v => by rw [sizeLine_eq]; exact Nat.succ_le_of_lt (by decide)
    refine ⟨_, rfl, _, rfl, sa, _, _, _, rfl, rfl, SqL.of hs, fl_at hb, one _, fun ma H1 n1 s1 e1 => ?_⟩
    refine fun ka nk => ?_
    have e2 : upd H1 ka (.dK []) sa = some (.lst (fl rs.length fun i => (stp rs i : Int))) := sameNew nk _ _ _ (s1 _ _ hs)
    refine ⟨_, rfl, _, rfl, sa, _, _, _, rfl, rfl, SqL.of e2, fl_at hb, ?_⟩
    refine ⟨upd_same, [(.inl (stp rs b : Int), .bl true)], rfl, by show 1 ≤ 15; decide, ?_⟩
    have mi : MetI H ma ka [stp rs b] (upd (upd H1 ka (.dK [])) ka (.dK (mergeK [] [(.inl (stp rs b : Int), .bl true)]))) := by
      have ne : ma ≠ ka := fun z => by
        rw [← z, e1] at nk
        cases nk
      refine ⟨?_, ?_, ?_, n1, none_of s1 nk, ne⟩
      · exact same_updN (same_updN s1 (none_of s1 nk)) (none_of s1 nk)
      · rw [upd_ne ne, upd_ne ne]
        exact e1
      · rw [upd_same]
        rfl
    refine ⟨fun m σ H' => ∃ (d : Nat) (v6 : Option V), m = rs.length - d ∧ σ = [some (.ref a), some (.ref sa), some (.int b), some (.ref ma), some (.ref ka), some (.int (d : Int)), v6] ∧ MetI H ma ka (metAt rs b d) H' ∧ d ≤ (metAt rs b d).length, ⟨_, 0, none, rfl, rfl, mi, Nat.zero_le _⟩, ?_⟩
    rintro m σ H' ⟨d, v6, rfl, rfl, t, hd⟩
    have few := metAt_few fit hb d
    have fl1 := few.len
    have nl : ∀ m : List Nat, (natsV m).length = m.length := fun m => List.length_map _
    refine ⟨_, rfl, _, rfl, ma, _, rfl, .inl (SqL.of t.em), _, _, rfl, rfl, _, rfl, ?_⟩
    rw [nl]
    refine ite2 (fun h1 => ?_) (fun h1 => ?_)
    · have hlt : d < (metAt rs b d).length := by
        have := of_decide_eq_true h1
        omega
      obtain ⟨i, ei⟩ : ∃ i, (metAt rs b d)[d]? = some i := ⟨_, List.getElem?_eq_getElem hlt⟩
      have hi : i < rs.length := few.2 _ (List.mem_of_getElem? ei)
      obtain ⟨q, zs, dd, ed, hx, row, hq⟩ := rows.at hi
      have st := metAt_step ei ed
      refine ⟨fun σ' H'' => ∃ v6, σ' = [some (.ref a), some (.ref sa), some (.int b), some (.ref ma), some (.ref ka), some (.int ((d + 1 : Nat) : Int)), v6] ∧ MetI H ma ka (metAt rs b (d + 1)) H'', fun σ' H'' ⟨v6, z1, z2⟩ => ⟨rs.length - (d + 1), by omega, d + 1, v6, rfl, z1, z2, by rw [st]; exact Nat.le_trans hlt grow_len⟩, ?_⟩
      have en : (natsV (metAt rs b d))[d]? = some (.int (i : Int)) := by
        unfold natsV
        rw [List.getElem?_map, ei]
        rfl
      refine ⟨_, rfl, _, rfl, _, rfl, ma, _, _, _, rfl, rfl, SqL.of t.em, atI_nat en, a, xs, _, _, rfl, rfl, SqL.of (t.same _ _ ha), atI_nat hx, q, dd, rfl, row.same t.same, fun tt H2 s2 et => ?_⟩
      refine ⟨tt, rfl, ⟨_, .inl (.inl et)⟩, for_tup (K := K) (a := tt) (xs := (nextsD dd).map V.int) (fun j σ H3 => ∃ v6, σ = [some (.ref a), some (.ref sa), some (.int b), some (.ref ma), some (.ref ka), some (.int (d : Int)), v6] ∧ MetI H ma ka (grow rs (metAt rs b d) ((nextsD dd).take j)) H3 ∧ H3 tt = some (.tup ((nextsD dd).map V.int))) ⟨_, rfl, t.go s2, et⟩ (fun j σ H3 _ z => by obtain ⟨_, _, _, z⟩ := z; exact .inl (.inl z)) (fun j x σ H3 hx z => ?_) (fun σ H3 z => ?_)⟩
      · obtain ⟨w6, rfl, t3, et3⟩ := z
        have hj : j < (nextsD dd).length := by
          have := (List.getElem?_eq_some_iff.mp hx).1
          rw [List.length_map] at this
          exact this
        have ej : (nextsD dd)[j]? = some (nextsD dd)[j] := List.getElem?_eq_getElem hj
        generalize (nextsD dd)[j] = n at ej
        rw [List.getElem?_map, ej] at hx
        have hx2 : V.int n = x := Option.some.inj hx
        subst hx2
        have mem := List.mem_of_getElem? ej
        obtain ⟨n0, n1⟩ := fit.nexts ed mem
        have e0 : n = (n.toNat : Int) := by omega
        have hn : n.toNat < rs.length := by omega
        have atS : atI (fl rs.length fun i => (stp rs i : Int)) n = some (V.int (stp rs n.toNat : Int)) := by
          conv => lhs; rw [e0]
          exact fl_at hn
        have few3 : Few rs.length (grow rs (metAt rs b d) ((nextsD dd).take j)) := grow_few fit.go few fun x hx => fit.nexts ed (List.mem_of_mem_take hx)
        have len3 := few3.len
        have tk : grow rs (metAt rs b d) ((nextsD dd).take (j + 1)) = addTo (grow rs (metAt rs b d) ((nextsD dd).take j)) (stp rs n.toNat) := by
          unfold grow
          rw [List.take_succ, ej, List.foldl_append]
          rfl
        refine ⟨_, rfl, _, rfl, sa, _, _, _, rfl, rfl, SqL.of (t3.same _ _ hs), atS, _, rfl, ka, _, rfl, .inl ⟨_, .inl (stp rs n.toNat : Int), .inl t3.ek, rfl, rfl⟩, _, rfl, ?_⟩
        rw [val_kn]
        refine ite2 (fun h2 => ?_) (fun h2 => ?_)
        · have nin : stp rs n.toNat ∉ grow rs (metAt rs b d) ((nextsD dd).take j) := fun z => by
            rw [decide_eq_true z] at h2
            cases h2
          have kl : (knK (grow rs (metAt rs b d) ((nextsD dd).take j))).length < sizeLine := by
            unfold knK
            rw [List.length_map, sizeLine_eq]
            omega
          refine ⟨_, rfl, _, rfl, _, rfl, sa, _, _, _, rfl, rfl, SqL.of (t3.same _ _ hs), atS, ka, _, rfl, .inl ⟨_, .inl (stp rs n.toNat : Int), t3.ek, rfl, kl, rfl⟩, ?_⟩
          have s4 : Same H (upd H3 ka (.dK (putK (knK (grow rs (metAt rs b d) ((nextsD dd).take j))) (.inl (stp rs n.toNat : Int)) (.bl true)))) := same_updN t3.same t3.nk
          have em4 : upd H3 ka (.dK (putK (knK (grow rs (metAt rs b d) ((nextsD dd).take j))) (.inl (stp rs n.toNat : Int)) (.bl true))) ma = some (.lst (natsV (grow rs (metAt rs b d) ((nextsD dd).take j)))) := by
            rw [upd_ne t3.ne]
            exact t3.em
          refine ⟨_, rfl, .inl ⟨rfl, _, SqL.of em4⟩, _, rfl, _, rfl, sa, _, _, _, rfl, rfl, SqL.of (s4 _ _ hs), atS, ma, _, _, rfl, rfl, em4, by rw [nl, sizeLine_eq]; omega, ?_⟩
          refine ⟨_, rfl, by rw [tk]; exact t3.put nin, ?_⟩
          have a1 : tt ≠ ma := fun z => by
            rw [z, t3.em] at et3
            cases et3
          have a2 : tt ≠ ka := fun z => by
            rw [z, t3.ek] at et3
            cases et3
          rw [upd_ne a1, upd_ne a2]
          exact et3
        · have yin : stp rs n.toNat ∈ grow rs (metAt rs b d) ((nextsD dd).take j) := by
            by_cases z : stp rs n.toNat ∈ grow rs (metAt rs b d) ((nextsD dd).take j)
            · exact z
            · rw [decide_eq_false z] at h2
              exact absurd rfl h2
          have ad : addTo (grow rs (metAt rs b d) ((nextsD dd).take j)) (stp rs n.toNat) = grow rs (metAt rs b d) ((nextsD dd).take j) := if_pos yin
          exact ⟨_, rfl, by rw [tk, ad]; exact t3, et3⟩
      · obtain ⟨w6, rfl, t3, et3⟩ := z
        refine ⟨_, rfl, _, _, rfl, rfl, _, rfl, ?_⟩
        rw [List.length_map, List.take_length, ← st] at t3
        exact t3
    · have hge : (metAt rs b d).length ≤ d := by
        by_cases z : (metAt rs b d).length ≤ d
        · exact z
        · exact absurd (decide_eq_true (by omega)) h1
      exact ⟨_, rfl, k ma H' t.nm t.same (by rw [t.em, metAt_end (by omega) hge])⟩
end
end Mine

set_option maxRecDepth 100000
set_option maxHeartbeats 4000000
/-! sorted(d), the keys texts, however many -/
namespace L2
open PySem PySem.Spec PyProof.Rows
theorem each_strs : ∀ {vs : List Value} {ks : List Str}, StrsAre vs ks → PySem.W.EachIs (fun v (k : Str) => ∃ t, v = Value.str k t) vs ks
  | _, _, .nil => .nil
  | _, _, .cons y t r => .cons ⟨t, rfl⟩ (each_strs r)
theorem strs_each : ∀ {vs : List Value} {ks : List Str}, PySem.W.EachIs (fun v (k : Str) => ∃ t, v = Value.str k t) vs ks → StrsAre vs ks
  | _, _, .nil => .nil
  | _, _, .cons h r => by
    obtain ⟨t, rfl⟩ := h
    exact .cons _ t (strs_each r)
theorem sorted_strs {ks : List Str} : sortedS (ks.mergeSort (PySem.W.dataLe false PyData.str)) = true := by
  have le : PySem.W.dataLe false PyData.str = fun a b : Str => decide (a.cps.toList ≤ b.cps.toList) := PySem.W.dataLe_str (fun k : Str => k)
  rw [le]
  have tr : ∀ a b c : Str, decide (a.cps.toList ≤ b.cps.toList) = true → decide (b.cps.toList ≤ c.cps.toList) = true → decide (a.cps.toList ≤ c.cps.toList) = true := fun a b c h1 h2 => decide_eq_true (List.le_trans (of_decide_eq_true h1) (of_decide_eq_true h2))
  have to : ∀ a b : Str, (decide (a.cps.toList ≤ b.cps.toList) || decide (b.cps.toList ≤ a.cps.toList)) = true := fun a b => by
    rcases List.le_total a.cps.toList b.cps.toList with h | h
    · rw [decide_eq_true h, Bool.true_or]
    · rw [decide_eq_true h, Bool.or_true]
  have p := List.pairwise_mergeSort tr to ks
  generalize ks.mergeSort (fun a b : Str => decide (a.cps.toList ≤ b.cps.toList)) = l at p
  cases l with
  | nil => rfl
  | cons x r =>
    refine risingS_of_pairwise x r (p.imp fun {a b} h => ?_)
    rw [ltCps_eq]
    exact decide_eq_false (List.not_lt.mpr (of_decide_eq_true h))
section
variable {X : Cx}
theorem call_sortedDA (hcalm : X.calm = true) (hu : X.A.units + 64 < cLine) : CallR X (.builtin "sorted") (fun xs H Q => ∃ (a : Addr) (kvs : List (Key × V)) (ks : List Str), xs = [.ref a] ∧ Rd H a (.dK kvs) ∧ kvs.map (·.1) = ks.map Sum.inr ∧ ks.length ≤ 100000 ∧
    ∀ ys p, ys.Perm ks → sortedS ys = true → H p = none → Q (.ref p) (upd H p (.lst (ys.map V.str)))) := by
  intro pins s σ H xs us Q I r q
  obtain ⟨a, kvs, ks, ex, hd, hks, h64, q⟩ := q
  subst ex
  obtain ⟨u, eu, rx⟩ := vals1 r
  subst eu
  cases rx
  obtain ⟨z, lo, vs, rel, dd⟩ := dk_rd I.hok hd
  obtain ⟨ep, hat⟩ := dd.dictAt
  have hkeys : vs.map (·.1) = ks.map Sum.inr := rel.keys.symm.trans hks
  have hl : vs.length = ks.length := by
    have e := congrArg List.length hkeys
    rw [List.length_map, List.length_map] at e
    exact e
  have h16 : vs.length ≤ sizeLine := by rw [hl, sizeLine_eq]; omega
  refine Calls.call_function_entry PyProof.Rows.kind_sorted PyProof.Rows.plain_sorted PyProof.Rows.entry_sorted (PyProof.Rows.args_sorted1 _) ?_
  unfold Builtin.«sorted»
  refine wpAny_bind (m := checkCount "sorted" 1 1 _) (wpAny_pure ?_)
  refine wpAny_bind (PySem.W.kdu_collect (A := X.A.in1) (PySem.W.kdl_dict (knd := mixKind X.prog X.w) (kvs := vs) (ep := ep) lo) (I.ok.hd hcalm) hat h16 fun h' tk acc hk hacc => ?_)
  have hal : acc.toList.length = ks.length := by rw [Array.length_toList, hacc.1, hl]
  have hS : StrsAre acc.toList ks := strs_at hal fun j v e => by
    obtain ⟨k, x, e1, e2⟩ := hacc.2 j v (by rw [← Array.getElem?_toList]; exact e)
    have e3 : (vs.map (·.1))[j]? = some k := by rw [List.getElem?_map, e1]; all_goals rfl
    rw [hkeys, List.getElem?_map] at e3
    cases e4 : ks[j]? with
    | none => rw [e4] at e3; cases e3
    | some y =>
      rw [e4] at e3
      have e5 : Sum.inr y = k := Option.some.inj e3
      subst e5
      obtain ⟨t, ev⟩ := Value.isStrOf_shape (x := y) (v := v) e2
      exact ⟨y, t, rfl, ev⟩
  have I1 : Inv X pins σ H { s with heap := h', toks := tk } := I.kept hk
  refine wpAny_bind (wpAny_newList ?_ (by rw [hal, sizeLine_eq]; omega))
  have hoL : (h'.push (seqObj "list" acc.toList.toArray 0)).get? h'.objs.size = some (seqObj "list" acc.toList.toArray 0) := Heap.get?_push_size _ rfl
  show wpAny _ _ _ _ _ { s with heap := h'.push (seqObj "list" acc.toList.toArray 0), toks := tk }
  refine wpAny_bind (wpAny_holding (PySem.W.list_sort_data (s := { s with heap := h'.push (seqObj "list" acc.toList.toArray 0), toks := tk }) (R := fun v (k : Str) => ∃ t, v = Value.str k t) (bs := ks) (enc := PyData.str) hoL (each_strs hS) ((each_strs hS).mono fun v k ⟨t, e⟩ => ⟨[], by rw [e]; exact .str k t, by simp⟩) (PySem.W.AllAlike.of fun _ _ => rfl) (PySem.W.Sortable.others fun k => ⟨nofun, nofun⟩) (by rw [sizeLine_eq]; omega) (fun k _ => ?_) fun out ho he => ?_))
  · show X.A.in1.units + 1 + 0 < cLine
    have : X.A.in1.units ≤ X.A.units + 1 := by first | exact Nat.le_refl _ | exact Nat.le_succ _
    omega
  have g1 := strs_each he
  have g2 : (ks.mergeSort (PySem.W.dataLe false PyData.str)).Perm ks := List.mergeSort_perm _ _
  obtain ⟨e', he'⟩ := PyProof.Rows.sortedHeap_at (vs := acc.toList) (out := List.toArray out) hoL
  have hlen : ((ks.mergeSort (PySem.W.dataLe false PyData.str)).map V.str).length ≤ sizeLine := by
    rw [List.length_map, g2.length_eq, sizeLine_eq]
    omega
  refine wpAny_pure ⟨_, rfl, .ref h'.objs.size, upd H h'.objs.size (.lst ((ks.mergeSort (PySem.W.dataLe false PyData.str)).map V.str)), I1.laid (t' := tk) (fun b u e => ?_) (Nat.le_refl _)
    (show ObjOk X.prog X.w _ _ _ (.lst ((ks.mergeSort (PySem.W.dataLe false PyData.str)).map V.str)) from ⟨hlen, out, e', vals_of_strs g1, he'⟩), rfl, q _ _ g2 sorted_strs (I1.hok.fresh (Nat.le_refl _))⟩
  have hb : b < h'.objs.size := Heap.lt_size e
  rw [PyProof.Rows.sortedHeap_old (Nat.ne_of_lt hb) (by rw [size_push']; exact Nat.lt_succ_of_lt hb)]
  exact Heap.get?_push_of_some _ e
end
end L2

set_option maxRecDepth 100000
set_option maxHeartbeats 4000000
namespace L2
open PySem PySem.Spec PyProof.Rows
/-- a dict comprehension over a list that stays -/
theorem dc_list {K : PySem.W.Frag} {a : Addr} {xs : List V} {g : TG} {tt : TT} {tk tv : TE} {vs : List Nat} {σ : St} {H1 : Hp} {D : Addr} {Qd : Hp → Prop} (Pv : Nat → Hp → Prop) (h0 : Pv 0 (upd H1 D (.dK []))) (hl : ∀ i H, i ≤ xs.length → Pv i H → SqL K H a xs)
    (hs : ∀ i x H, xs[i]? = some x → Pv i H → g x (wipe σ vs) H fun σ2 H2 => wipe σ2 vs = wipe σ vs ∧ tt σ2 H2 fun b H3 =>
      if b = true then tk σ2 H3 fun y H4 => tv σ2 H4 fun z H5 => ∃ kvs k, y = kV k ∧ H5 D = some (.dK kvs) ∧ kvs.length < sizeLine ∧ Pv (i + 1) (upd H5 D (.dK (putK kvs k z))) else Pv (i + 1) H3) (hd : ∀ H, Pv xs.length H → Qd H) :
    ∃ W : Nat → Nat → Hp → Prop, (∃ m, W 0 m (upd H1 D (.dK []))) ∧ ∀ i m H, W i m H →
      ((Itl K a).stop i H ∧ Qd H) ∨ ((Itl K a).go i H ∧ ∃ Nx : Hp → Prop, (∀ H', Nx H' → ∃ m', m' < m ∧ W (i + 1) m' H') ∧ ∀ x H', (Itl K a).yld i H x H' → g x (wipe σ vs) H' fun σ2 H2 => wipe σ2 vs = wipe σ vs ∧ tt σ2 H2 fun b H3 =>
        if b = true then tk σ2 H3 fun y H4 => tv σ2 H4 fun z H5 => ∃ kvs k, y = kV k ∧ H5 D = some (.dK kvs) ∧ kvs.length < sizeLine ∧ Nx (upd H5 D (.dK (putK kvs k z))) else Nx H3) := by
  refine ⟨fun i m H => m = xs.length - i ∧ i ≤ xs.length ∧ Pv i H, ⟨xs.length, by simp, Nat.zero_le _, h0⟩, ?_⟩
  rintro i m H ⟨rfl, hi, p⟩
  have q := hl i H hi p
  by_cases hlt : i < xs.length
  · refine .inr ⟨⟨xs, xs[i], q, by simp [hlt]⟩, Pv (i + 1), fun H' p' => ⟨xs.length - (i + 1), by omega, rfl, hlt, p'⟩, fun x H' y => ?_⟩
    obtain ⟨e, y⟩ := y
    subst e
    exact hs i x _ (y xs q) p
  · have e : i = xs.length := by omega
    subst e
    exact .inl ⟨⟨xs, q, Nat.le_refl _⟩, hd H p⟩
end L2
namespace Mine
open PySem L2
abbrev s_in_order : Stmt := top 22
abbrev s_firsts_of : Stmt := top 34
theorem Rd.same {H H' : Hp} {a : Addr} {o : HO} (s : Same H H') (h : Rd H a o) : Rd H' a o := h.elim (fun z => .inl (s _ _ z)) fun ⟨od, z⟩ => .inr ⟨od, s _ _ z⟩
/-- the number of a name -/
def lookI (o : Ops) (x : Str) : Int := (opLook o x).getD 0
theorem look_mem : ∀ {o : Ops}, (o.map (·.1)).Nodup → ∀ p ∈ o, opLook o p.1 = some p.2
  | p0 :: o, nd, p, h => by
    rw [List.map_cons, List.nodup_cons] at nd
    rcases List.mem_cons.mp h with e | h
    · subst e
      simp [opLook]
    · have ne : p0.1 ≠ p.1 := fun z => nd.1 (z ▸ List.mem_map_of_mem h)
      have ih := look_mem nd.2 p h
      unfold opLook at ih ⊢
      rw [List.find?_cons, decide_eq_false ne]
      exact ih
theorem look_some {o : Ops} (nd : (o.map (·.1)).Nodup) {x : Str} (h : x ∈ o.map (·.1)) : opLook o x = some (lookI o x) := by
  obtain ⟨p, hp, rfl⟩ := List.mem_map.mp h
  unfold lookI
  rw [look_mem nd p hp]
  rfl
def pick (o : Ops) (ys : List Str) : Ops := ys.map fun y => (y, lookI o y)
theorem pick_perm {o : Ops} (nd : (o.map (·.1)).Nodup) {ys : List Str} (p : ys.Perm (o.map (·.1))) : (pick o ys).Perm o := by
  have e : o = pick o (o.map (·.1)) := by
    unfold pick
    rw [List.map_map]
    refine (List.map_id o).symm.trans (List.map_congr_left fun q hq => ?_)
    show q = (q.1, lookI o q.1)
    unfold lookI
    rw [look_mem nd q hq]
    rfl
  conv => rhs; rw [e]
  exact p.map _
theorem pick_names {o : Ops} {ys : List Str} : (pick o ys).map (·.1) = ys := by
  unfold pick
  rw [List.map_map]
  exact List.map_id ys
theorem opsK_keys (o : Ops) : (opsK o).map (·.1) = (o.map (·.1)).map Sum.inr := by
  unfold opsK
  rw [List.map_map, List.map_map]
  rfl
theorem opsK_len (o : Ops) : (opsK o).length = o.length := List.length_map _
/-- the same operations, sorted -/
def Ordered (o o' : Ops) : Prop := o'.Perm o ∧ PyProof.Rows.sortedS (o'.map (·.1)) = true
def spOrder : Sp := fun vs H Q _ => ∃ (t : Addr) (o : Ops), vs = [.ref t] ∧ Rd H t (.dK (opsK o)) ∧ (o.map (·.1)).Nodup ∧ o.length < 64 ∧ ∀ o', Ordered o o' → New H (.dK (opsK o')) Q
theorem val_new {o : Ops} {ys : List Str} {i : Nat} {y : Str} (nd : ys.Nodup) (h : ys[i]? = some y) : valV (opsK (pick o (ys.take i))) (.inr y) = none := by
  rw [val_ops]
  have : opLook (pick o (ys.take i)) y = none := by
    unfold opLook
    rw [List.find?_eq_none.mpr]
    · rfl
    · intro p hp
      unfold pick at hp
      obtain ⟨z, hz, rfl⟩ := List.mem_map.mp hp
      intro q
      have e : z = y := of_decide_eq_true q
      subst e
      obtain ⟨j, hj⟩ := List.mem_iff_getElem?.mp hz
      rw [List.getElem?_take] at hj
      split at hj
      · rename_i lt
        have hjl := (List.getElem?_eq_some_iff.mp hj).1
        have hil := (List.getElem?_eq_some_iff.mp h).1
        have := (List.getElem?_inj hjl nd).mp (hj.trans h.symm)
        omega
      · cases hj
  rw [this]
  rfl
section
variable {P : Program} {w : World} {K : PySem.W.Frag} {mg : Str → Option Value} {base : Heap}
theorem sc_in_order : FnScope ["table", "name"] ["table"] (defScope s_in_order) := ⟨rfl, rfl, rfl, by decide +kernel, rfl, by decide +kernel, by decide +kernel⟩
theorem ok_in_order {f : Addr} {fd : FuncData} (F : Fun K "in_order" "in_order" s_in_order f fd) (h_sorted : mg "sorted" = none) : FnOk P w K mg base CX0 1 f fd ["table"] spOrder := by
  refine F.ok sc_in_order (fun vs H Q E h => ?_) (fun cdv A outer s H vs Q E hr h => ?_)
  · obtain ⟨t, o, rfl, _⟩ := h
    rfl
  · obtain ⟨t, o, rfl, ht, nd, few, k⟩ := h
    refine ⟨_, (pss_one (ps_ret (pe_dc (own := [("name", 1)]) (g := gName 1) (tt := tYes) rfl sc_in_order.nd (pi_list (pe_callB (call_sortedD rfl) (by rfl) h_sorted (by decide +kernel) (pa_cons (pv 0) pa_nil))) (blkOk_by (own := [("name", 1)]) (N := ["table", "name"]) (sc := defScope s_in_order) (by decide +kernel)) (fun _ _ _ _ _ => pg_name (i := 1) sc_in_order.nd rfl (Or.inl rfl)) (fun _ _ _ _ _ => pts_nil) (fun _ _ _ _ _ => pv 1) (fun _ _ _ _ _ => pe_dget (hu_of hr) (pv 0) (pv 1) (fun _ _ => rfl))))), ?_⟩
    refine ⟨_, rfl, t, _, o.map (·.1), rfl, ht, opsK_keys o, by rw [List.length_map]; exact few, fun ys p perm srt np => ?_⟩
    have nd2 : ys.Nodup := perm.nodup_iff.mpr nd
    have yl : ys.length < 64 := by
      have := perm.length_eq
      rw [List.length_map] at this
      omega
    refine ⟨p, rfl, ⟨_, SqL.of upd_same⟩, fun D nD => dc_list (xs := ys.map V.str) (fun i Hx => Same H Hx ∧ Hx p = some (.lst (ys.map V.str)) ∧ H D = none ∧ Hx D = some (.dK (opsK (pick o (ys.take i))))) ?_ (fun i Hx _ z => SqL.of z.2.1) (fun i x Hx hx z => ?_) (fun Hx z => ?_)⟩
    · have nD0 : H D = none := none_of (sameNew np _) nD
      have ne : p ≠ D := fun z => by
        rw [← z, upd_same] at nD
        cases nD
      refine ⟨same_updN (sameNew np _) nD0, ?_, nD0, upd_same⟩
      rw [upd_ne ne, upd_same]
    · obtain ⟨z1, z2, z3, z4⟩ := z
      have hi : i < ys.length := by
        have := (List.getElem?_eq_some_iff.mp hx).1
        rw [List.length_map] at this
        exact this
      have ey : ys[i]? = some ys[i] := List.getElem?_eq_getElem hi
      generalize ys[i] = y at ey
      rw [List.getElem?_map, ey] at hx
      have hx2 : V.str y = x := Option.some.inj hx
      subst hx2
      have my : y ∈ o.map (·.1) := perm.mem_iff.mp (List.mem_of_getElem? ey)
      refine ⟨rfl, ?_⟩
      unfold tYes
      simp only [↓reduceIte]
      refine ⟨_, rfl, _, rfl, _, rfl, t, _, rfl, .inl ⟨opsK o, .inr y, Rd.same z1 ht, rfl, (by rw [val_ops, look_some nd my]; rfl)⟩, _, .inr y, rfl, z4, ?_, same_updN z1 z3, ?_, z3, ?_⟩
      · rw [opsK_len, sizeLine_eq]
        unfold pick
        rw [List.length_map, List.length_take]
        omega
      · have ne : p ≠ D := fun z => by
          rw [← z] at z4
          rw [z4] at z2
          cases z2
        rw [upd_ne ne]
        exact z2
      · rw [upd_same, putK_new _ (val_new nd2 ey)]
        unfold pick
        rw [List.take_succ, ey, List.map_append]
        unfold opsK
        rw [List.map_append]
        rfl
    · obtain ⟨z1, z2, z3, z4⟩ := z
      rw [List.length_map, List.take_length] at z4
      exact k _ ⟨pick_perm nd perm, by rw [pick_names]; exact srt⟩ D Hx z3 z1 z4
end
def nameOf : RowD → Str
  | .ask op _ => op
  | .go _ => ""
  | .fin x => x
def addStr (m : List Str) (t : Str) : List Str := if t ∈ m then m else m ++ [t]
def takeIn (x : Str) (m : List Str) (d : RowD) : List Str := if wordOf d = x then addStr m (nameOf d) else m
/-- what stands behind the word, each once -/
def distinct (x : Str) (ds : List RowD) : List Str := ds.foldl (takeIn x) []
def tks (m : List Str) : List (Key × V) := m.map fun t => (Sum.inr t, V.bl true)
theorem val_tks (m : List Str) (t : Str) : (valV (tks m) (.inr t)).isSome = decide (t ∈ m) := by
  induction m with
  | nil => simp [tks, valV_nil]
  | cons y m ih =>
    by_cases h : y = t
    · subst h
      unfold tks
      rw [List.map_cons, valV_pos rfl]
      simp
    · have h2 : ¬ (Sum.inr y : Key) = Sum.inr t := fun z => h (Sum.inr.inj z)
      unfold tks at ih ⊢
      rw [List.map_cons, valV_neg h2, ih]
      by_cases q : t ∈ m
      · rw [decide_eq_true q, decide_eq_true (List.mem_cons_of_mem _ q)]
      · rw [decide_eq_false q, decide_eq_false (fun z => (List.mem_cons.mp z).elim (fun y => h y.symm) q)]
theorem put_tks (m : List Str) (t : Str) : putK (tks m) (.inr t) (.bl true) = tks (addStr m t) := by
  unfold addStr
  by_cases q : t ∈ m
  · rw [if_pos q]
    unfold putK
    have := val_tks m t
    rw [valV_any, this, decide_eq_true q, if_pos rfl]
    unfold tks
    rw [List.map_map]
    refine List.map_congr_left fun y _ => ?_
    show (if (Sum.inr y : Key) = Sum.inr t then ((Sum.inr y : Key), V.bl true) else (Sum.inr y, V.bl true)) = _
    split <;> rfl
  · rw [if_neg q]
    have := val_tks m t
    rw [decide_eq_false q] at this
    cases e : valV (tks m) (.inr t) with
    | none =>
      rw [putK_new _ e]
      unfold tks
      rw [List.map_append]
      rfl
    | some v =>
      rw [e] at this
      cases this
theorem addStr_len (m : List Str) (t : Str) : (addStr m t).length ≤ m.length + 1 := by
  unfold addStr
  split
  · omega
  · rw [List.length_append]
    exact Nat.le_refl _
theorem fold_len (x : Str) : ∀ (ds : List RowD) (m : List Str), (ds.foldl (takeIn x) m).length ≤ m.length + ds.length
  | [], _ => Nat.le_refl _
  | d :: ds, m => by
    have h := fold_len x ds (takeIn x m d)
    have h2 : (takeIn x m d).length ≤ m.length + 1 := by
      unfold takeIn
      split
      · exact addStr_len _ _
      · omega
    show (ds.foldl (takeIn x) (takeIn x m d)).length ≤ m.length + (ds.length + 1)
    omega
theorem distinct_len (x : Str) (ds : List RowD) : (distinct x ds).length ≤ ds.length := by
  have := fold_len x ds []
  rw [List.length_nil, Nat.zero_add] at this
  exact this
theorem distinct_snoc {x : Str} {ds : List RowD} {i : Nat} {d : RowD} (h : ds[i]? = some d) : distinct x (ds.take (i + 1)) = takeIn x (distinct x (ds.take i)) d := by
  unfold distinct
  rw [List.take_succ, h, List.foldl_append]
  rfl
def IsFirsts (x : Str) (ds : List RowD) (ys : List Str) : Prop := ys.Perm (distinct x ds) ∧ PyProof.Rows.sortedS ys = true
def spFirsts : Sp := fun vs H Q _ => ∃ (l : Addr) (xs : List V) (ds : List RowD) (x : Str), vs = [.ref l, .str x] ∧ x ≠ "go" ∧ H l = some (.lst xs) ∧ Rows H xs ds ∧ ds.length ≤ 100000 ∧ (distinct x ds).length ≤ 100000 ∧ ∀ ys, IsFirsts x ds ys → New H (.lst (ys.map V.str)) Q
theorem TRow.name {H : Hp} {v : V} {d : RowD} (h : TRow H v d) (g : wordOf d ≠ "go") : ∃ (a : Addr) (zs : List V), v = .ref a ∧ H a = some (.tup (.str (wordOf d) :: .str (nameOf d) :: zs)) := by
  cases d with
  | ask op ns =>
    obtain ⟨a, t, e, h1, _⟩ := h
    exact ⟨a, _, e, h1⟩
  | go n => exact absurd rfl g
  | fin x =>
    obtain ⟨a, e, h1⟩ := h
    exact ⟨a, _, e, h1⟩
section
variable {P : Program} {w : World} {K : PySem.W.Frag} {mg : Str → Option Value} {base : Heap}
theorem sc_firsts_of : FnScope ["lines", "word", "line"] ["lines", "word"] (defScope s_firsts_of) := ⟨rfl, rfl, rfl, by decide +kernel, rfl, by decide +kernel, by decide +kernel⟩
theorem ok_firsts_of {f : Addr} {fd : FuncData} (F : Fun K "firsts_of" "firsts_of" s_firsts_of f fd) (h_sorted : mg "sorted" = none) : FnOk P w K mg base CX0 1 f fd ["lines", "word"] spFirsts := by
  refine F.ok sc_firsts_of (fun vs H Q E h => ?_) (fun cdv A outer s H vs Q E hr h => ?_)
  · obtain ⟨l, xs, ds, x, rfl, _⟩ := h
    rfl
  · obtain ⟨l, xs, ds, x, rfl, ng, hl, rows, big, few, k⟩ := h
    refine ⟨_, (pss_one (ps_ret (pe_callB (call_sortedDA rfl hr.units) (by rfl) h_sorted (by decide +kernel) (pa_cons (pe_dc (own := [("line", 2)]) (g := gName 2) rfl sc_firsts_of.nd (pi_list (pv 0)) (blkOk_by (own := [("line", 2)]) (N := ["lines", "word", "line"]) (sc := defScope s_firsts_of) (by decide +kernel)) (fun _ _ _ _ _ => pg_name (i := 2) sc_firsts_of.nd rfl (Or.inl rfl)) (fun _ _ _ _ _ => pts_one (pt_cmpR op_eq (pe_ix (show IxR _ (rIxT K) from ix_tup) (pv 2) pe_int (fun _ _ => rfl)) (pv 1) (nomark _))) (fun _ _ _ _ _ => (pe_ix (show IxR _ (rIxT K) from ix_tup) (pv 2) pe_int (fun _ _ => rfl))) (fun _ _ _ _ _ => pe_bl)) pa_nil)))), ?_⟩
    refine ⟨_, rfl, l, rfl, ⟨_, SqL.of hl⟩, fun D nD => dc_list (xs := xs) (fun i Hx => Same H Hx ∧ Hx D = some (.dK (tks (distinct x (ds.take i))))) ⟨sameNew nD _, upd_same⟩ (fun i Hx _ z => SqL.of (z.1 _ _ hl)) (fun i y Hx hy z => ?_) (fun Hx z => ?_)⟩
    · obtain ⟨z1, z2⟩ := z
      have hi : i < ds.length := by
        have := (List.getElem?_eq_some_iff.mp hy).1
        have := rows.1
        omega
      obtain ⟨q, zs, d, ed, hx, row, hq⟩ := rows.at hi
      rw [hy] at hx
      cases hx
      refine ⟨rfl, ?_⟩
      refine ⟨_, rfl, _, _, _, _, rfl, rfl, .inl (.inl (z1 _ _ hq)), at0', _, rfl, rfl, _, rfl, ?_⟩
      by_cases hw : wordOf d = x
      · rw [hw, strEq]
        simp only [↓reduceIte]
        obtain ⟨q2, zs2, e2, hq2⟩ := row.name (by rw [hw]; exact ng)
        cases e2
        refine ⟨_, rfl, _, _, _, _, rfl, rfl, .inl (.inl (z1 _ _ hq2)), at1', _, .inr (nameOf d), rfl, z2, ?_, same_updN z1 nD, ?_⟩
        · have := distinct_len x (ds.take i)
          rw [List.length_take] at this
          unfold tks
          rw [List.length_map, sizeLine_eq]
          omega
        · rw [upd_same, put_tks, distinct_snoc ed]
          unfold takeIn
          rw [if_pos hw]
      · rw [strNe hw]
        simp only [Bool.false_eq_true, ↓reduceIte]
        refine ⟨z1, ?_⟩
        rw [distinct_snoc ed]
        unfold takeIn
        rw [if_neg hw]
        exact z2
    · obtain ⟨z1, z2⟩ := z
      rw [rows.1, List.take_length] at z2
      refine ⟨D, _, distinct x ds, rfl, .inl z2, ?_, few, fun ys p perm srt np => ?_⟩
      · unfold tks
        rw [List.map_map]
        rfl
      · exact k ys ⟨perm, srt⟩ p _ (none_of z1 np) (same_updN z1 (none_of z1 np)) upd_same
end
end Mine

set_option maxRecDepth 100000
set_option maxHeartbeats 4000000
namespace L2
open PySem PySem.Spec PyProof.Rows
/-- a list comprehension whose element leaves the heap -/
theorem lc_pure {K : PySem.W.Frag} {a D : Addr} {xs ys : List V} {te : TE} {i : Nat} {vs : List Nat} {σ : St} {H1 : Hp} {Qd : Hp → Prop} (hl : H1 a = some (.lst xs)) (nD : H1 D = none) (len : ys.length = xs.length) (big : xs.length ≤ 1000000)
    (hw : ∀ x, wipe ((wipe σ vs).set i (some x)) vs = wipe σ vs) (hs : ∀ (j : Nat) (x y : V) (Ha : Hp) (Qe : VK), xs[j]? = some x → ys[j]? = some y → Same H1 Ha → Qe y Ha → te ((wipe σ vs).set i (some x)) Ha Qe)
    (hd : ∀ Hx, Same H1 Hx → Hx D = some (.lst ys) → Qd Hx) :
    ∃ W : Nat → Nat → Hp → Prop, (∃ m, W 0 m (upd H1 D (.lst []))) ∧ ∀ i2 m H, W i2 m H →
      ((Itl K a).stop i2 H ∧ Qd H) ∨ ((Itl K a).go i2 H ∧ ∃ Nx : Hp → Prop, (∀ H', Nx H' → ∃ m', m' < m ∧ W (i2 + 1) m' H') ∧ ∀ x H', (Itl K a).yld i2 H x H' → gName i x (wipe σ vs) H' fun σ2 H2 => wipe σ2 vs = wipe σ vs ∧ tYes σ2 H2 fun b H3 =>
        if b = true then te σ2 H3 fun y H4 => ∃ acc, H4 D = some (.lst acc) ∧ acc.length < sizeLine ∧ Nx (upd H4 D (.lst (acc ++ [y]))) else Nx H3) := by
  refine lc_it (walk_list (xs := xs)) (fun k Hx => Same H1 Hx ∧ Hx D = some (.lst (ys.take k))) ⟨sameNew nD _, upd_same⟩ (fun k Hx _ z => SqL.of (z.1 _ _ hl)) (fun k x Ha Hb hk z1 z2 => ?_) (fun Hx z => hd Hx z.1 (by rw [z.2, ← len, List.take_length]))
  obtain ⟨rfl, hx⟩ := z2
  obtain ⟨s1, e1⟩ := z1
  have ey : ys[k]? = some ys[k] := List.getElem?_eq_getElem (by omega)
  refine ⟨hw x, ?_⟩
  unfold tYes
  simp only [↓reduceIte]
  refine hs k x _ _ _ hx ey s1 ⟨_, e1, ?_, Mine.same_updN s1 nD, ?_⟩
  · rw [List.length_take, sizeLine_eq]
    omega
  · rw [upd_same, List.take_succ, ey]
    rfl
end L2
namespace Mine
open PySem L2
abbrev s_mach : Stmt := inClass (top 27) 0
def SameX (m : Addr) (H H' : Hp) : Prop := ∀ b o, b ≠ m → H b = some o → H' b = some o
theorem SameX.upd {m : Addr} {H H' : Hp} {o : HO} (x : SameX m H H') : SameX m H (upd H' m o) := fun b u n e => by
  rw [upd_ne n]
  exact x b u n e
theorem SameX.go {m : Addr} {H H' H'' : Hp} (x : SameX m H H') (s : Same H' H'') : SameX m H H'' := fun b u n e => s _ _ (x b u n e)
theorem SameX.at {m : Addr} {H H' : Hp} {C dx b : Addr} {fs : List (Str × V)} {o : HO} (x : SameX m H H') (hm : H m = some (.ins C dx fs)) (e : H b = some o) (n : o ≠ .ins C dx fs) : H' b = some o :=
  x b o (fun z => by rw [z, hm] at e; exact n (Option.some.inj e).symm) e
theorem SameX.trow {m : Addr} {H H' : Hp} {C dx : Addr} {fs : List (Str × V)} {v : V} {d : RowD} (x : SameX m H H') (hm : H m = some (.ins C dx fs)) (r : TRow H v d) : TRow H' v d := by
  cases d with
  | ask op ns =>
    obtain ⟨a, t, e, h1, h2⟩ := r
    exact ⟨a, t, e, x.at hm h1 (fun z => nomatch z), x.at hm h2 (fun z => nomatch z)⟩
  | go n =>
    obtain ⟨a, e, h1⟩ := r
    exact ⟨a, e, x.at hm h1 (fun z => nomatch z)⟩
  | fin w =>
    obtain ⟨a, e, h1⟩ := r
    exact ⟨a, e, x.at hm h1 (fun z => nomatch z)⟩
theorem SameX.rows {m : Addr} {H H' : Hp} {C dx : Addr} {fs : List (Str × V)} {xs : List V} {rs : List RowD} (x : SameX m H H') (hm : H m = some (.ins C dx fs)) (r : Rows H xs rs) : Rows H' xs rs := ⟨r.1, fun i d e => by
  obtain ⟨v, h1, h2⟩ := r.2 i d e
  exact ⟨v, h1, x.trow hm h2⟩⟩
/-- the rows of rest that are met -/
def restD (rs : List RowD) (b : Nat) : List RowD := (metOf rs b).map fun i => rs.getD i (.fin "")
def restV (rs : List RowD) (b : Nat) (xs : List V) : List V := (metOf rs b).map fun i => xs.getD i .non
theorem rest_rows {H : Hp} {rs : List RowD} {b : Nat} {xs : List V} (f : Fit rs) (hb : b < rs.length) (r : Rows H xs rs) : Rows H (restV rs b xs) (restD rs b) := by
  refine ⟨by unfold restV restD; rw [List.length_map, List.length_map], fun j d e => ?_⟩
  unfold restD at e
  rw [List.getElem?_map] at e
  cases q : (metOf rs b)[j]? with
  | none => rw [q] at e; cases e
  | some i =>
    rw [q] at e
    have hi : i < rs.length := (metAt_few f hb rs.length).2 i (List.mem_of_getElem? q)
    have e2 : rs.getD i (.fin "") = d := Option.some.inj e
    have e3 : rs[i]? = some d := by
      rw [List.getD_eq_getElem?_getD, List.getElem?_eq_getElem hi] at e2
      rw [List.getElem?_eq_getElem hi]
      exact congrArg some e2
    obtain ⟨x, h1, h2⟩ := r.2 i d e3
    refine ⟨x, ?_, h2⟩
    unfold restV
    rw [List.getElem?_map, q]
    show some (xs.getD i .non) = some x
    rw [List.getD_eq_getElem?_getD, h1]
    rfl
/-- whether a run hangs -/
def endlessD (rs : List RowD) (b : Nat) : Bool := inV (.str "go") ((restD rs b).map fun d => .str (wordOf d))
/-- the fields of a machine, and what stands there -/
structure MachFs (H : Hp) (fs : List (Str × V)) (t l : Addr) (b : Nat) (rs : List RowD) (sa aa ea : Addr) (as es : List Str) : Prop where
  counts : fs.lookup ("counts" : Str) = some (.ref t)
  lines : fs.lookup ("lines" : Str) = some (.ref l)
  begin : fs.lookup ("begin" : Str) = some (.int b)
  stops : fs.lookup ("stops" : Str) = some (.ref sa)
  asks : fs.lookup ("asks" : Str) = some (.ref aa)
  endings : fs.lookup ("endings" : Str) = some (.ref ea)
  endless : fs.lookup ("endless" : Str) = some (.bl (endlessD rs b))
  hs : H sa = some (.lst (fl rs.length fun i => (stp rs i : Int)))
  ha : H aa = some (.lst (as.map V.str))
  he : H ea = some (.lst (es.map V.str))
  fa : IsFirsts "ask" (restD rs b) as
  fe : IsFirsts "end" (restD rs b) es
theorem SameX.off {m a : Addr} {H H' : Hp} (x : SameX m H H') (n : H' a = none) (ne : a ≠ m) : H a = none := by
  cases e : H a with
  | none => rfl
  | some u =>
    rw [x a u ne e] at n
    cases n
def spMach (C : Addr) : Sp := fun vs H Q _ => ∃ (m t l dx : Addr) (xs : List V) (rs : List RowD) (b : Nat), vs = [.ref m, .ref t, .ref l, .int b] ∧ H m = some (.ins C dx []) ∧ H l = some (.lst xs) ∧ Rows H xs rs ∧ Fit rs ∧ b < rs.length ∧ rs.length ≤ 100000 ∧
  (distinct "ask" (restD rs b)).length ≤ 100000 ∧ (distinct "end" (restD rs b)).length ≤ 100000 ∧ ∀ (fs : List (Str × V)) (H' : Hp) (sa aa ea : Addr) (as es : List Str), H sa = none → H aa = none → H ea = none → SameX m H H' → H' m = some (.ins C dx fs) → MachFs H' fs t l b rs sa aa ea as es → Q .non H'
/-- what is told of the class -/
structure MachC (K : PySem.W.Frag) (C : Addr) : Prop where
  cl : Cls K C
  n_counts : NoAttr K C "counts"
  n_lines : NoAttr K C "lines"
  n_begin : NoAttr K C "begin"
  n_stops : NoAttr K C "stops"
  n_asks : NoAttr K C "asks"
  n_endings : NoAttr K C "endings"
  n_endless : NoAttr K C "endless"
section
variable {P : Program} {w : World} {K : PySem.W.Frag} {mg : Str → Option Value} {base : Heap}
variable {a_rests a_stops a_firsts C : Addr}
theorem sc_mach : FnScope ["self", "counts", "lines", "begin", "rests", "stop", "line"] ["self", "counts", "lines", "begin"] (defScope s_mach) := ⟨rfl, rfl, rfl, by decide +kernel, rfl, by decide +kernel, by decide +kernel⟩
theorem putF_len {fs : List (Str × V)} {f : Str} {v : V} {n : Nat} (h : fs.length ≤ n) : (putF f v fs).length ≤ n + 1 := Nat.le_trans (length_putF f v fs) (Nat.succ_le_succ h)
theorem ok_mach {f : Addr} {fd fd_rests fd_stops fd_firsts : FuncData} (F : Fun K "__init__" "Machine.__init__" s_mach f fd) (TM : MachC K C)
    (GR : FnOk P w K mg base CX0 2 a_rests fd_rests ["lines", "stops", "begin"] spRests) (b_rests : Binds K fd_rests ["lines", "stops", "begin"] []) (g_rests : mg "rests_from" = some (.ref a_rests)) (k_rests : PySem.W.keepIn K (.ref a_rests) = true)
    (GS : FnOk P w K mg base CX0 2 a_stops fd_stops ["lines"] spStops) (b_stops : Binds K fd_stops ["lines"] []) (g_stops : mg "stops_of" = some (.ref a_stops)) (k_stops : PySem.W.keepIn K (.ref a_stops) = true)
    (GF : FnOk P w K mg base CX0 1 a_firsts fd_firsts ["lines", "word"] spFirsts) (b_firsts : Binds K fd_firsts ["lines", "word"] []) (g_firsts : mg "firsts_of" = some (.ref a_firsts)) (k_firsts : PySem.W.keepIn K (.ref a_firsts) = true) : FnOk P w K mg base CX0 3 f fd ["self", "counts", "lines", "begin"] (spMach C) := by
  refine F.ok sc_mach (fun vs H Q E h => ?_) (fun cdv A outer s H vs Q E hr h => ?_)
  · obtain ⟨m, t, l, dx, xs, rs, b, rfl, _⟩ := h
    rfl
  · obtain ⟨m, t, l, dx, xs, rs, b, rfl, hm, hl, rows, fit, hb, big, few1, few2, k⟩ := h
    refine ⟨_, (pss_cons (ps_fld (pv 0) (pv 1) rfl)
      (pss_cons (ps_fld (pv 0) (pv 2) rfl)
      (pss_cons (ps_fld (pv 0) (pv 3) rfl)
      (pss_cons (ps_fld (pv 0) (pe_call GS (hr.mono (by decide)) (by rfl) g_stops k_stops b_stops .nil pass0 (pa_cons (pv 2) pa_nil)) rfl)
      (pss_cons (ps_setLc (i := 4) (own := [("stop", 5)]) (g := gName 5) (tt := tYes) rfl sc_mach.nd rfl rfl (sw_true rfl rfl rfl rfl) (pi_list (pe_call GR (hr.mono (by decide)) (by rfl) g_rests k_rests b_rests .nil pass0 (pa_cons (pv 2) (pa_cons (pe_fld (pv 0) rfl) (pa_cons (pv 3) pa_nil))))) (blkOk_by (own := [("stop", 5)]) (N := ["self", "counts", "lines", "begin", "rests", "stop", "line"]) (sc := defScope s_mach) (by decide +kernel)) (fun _ _ _ _ _ => pg_name (i := 5) sc_mach.nd rfl (Or.inl rfl)) (fun _ _ _ _ _ => pts_nil) (fun _ _ _ _ _ => pe_ix (show IxR _ (rIxL K) from ix_list) (pv 2) (pv 5) (fun _ _ => rfl)))
      (pss_cons (ps_fld (pv 0) (pe_call GF (hr.mono (by decide)) (by rfl) g_firsts k_firsts b_firsts .nil pass0 (pa_cons (pv 4) (pa_cons pe_str pa_nil))) rfl)
      (pss_cons (ps_fld (pv 0) (pe_call GF (hr.mono (by decide)) (by rfl) g_firsts k_firsts b_firsts .nil pass0 (pa_cons (pv 4) (pa_cons pe_str pa_nil))) rfl)
      (pss_one (ps_fld (pv 0) (pe_cmpR op_in_seq pe_str (pe_lc (own := [("line", 6)]) (g := gName 6) (tt := tYes) rfl sc_mach.nd (pi_list (pv 4)) (blkOk_by (own := [("line", 6)]) (N := ["self", "counts", "lines", "begin", "rests", "stop", "line"]) (sc := defScope s_mach) (by decide +kernel)) (fun _ _ _ _ _ => pg_name (i := 6) sc_mach.nd rfl (Or.inl rfl)) (fun _ _ _ _ _ => pts_nil) (fun _ _ _ _ _ => pe_ix (show IxR _ (rIxT K) from ix_tup) (pv 6) pe_int (fun _ _ => rfl))) (by rfl)) rfl))))))))), ?_⟩
    have L0 : ([] : List (Str × V)).length ≤ 0 := Nat.le_refl _
    have L1 := putF_len (f := "counts") (v := .ref t) L0
    have L2 := putF_len (f := "lines") (v := .ref l) L1
    have L3 := putF_len (f := "begin") (v := .int b) L2
    refine ⟨_, rfl, _, rfl, m, C, dx, _, rfl, hm, TM.cl, TM.n_counts, Nat.lt_of_le_of_lt L0 (by decide), ?_⟩
    refine ⟨_, rfl, _, rfl, m, C, dx, _, rfl, upd_same, TM.cl, TM.n_lines, Nat.lt_of_le_of_lt L1 (by decide), ?_⟩
    refine ⟨_, rfl, _, rfl, m, C, dx, _, rfl, upd_same, TM.cl, TM.n_begin, Nat.lt_of_le_of_lt L2 (by decide), ?_⟩
    rw [upd_upd, upd_upd]
    have x3 : SameX m H (upd H m (.ins C dx (putF "begin" (.int b) (putF "lines" (.ref l) (putF "counts" (.ref t) []))))) := SameX.upd fun _ _ _ e => e
    have m3 : upd H m (.ins C dx (putF "begin" (.int b) (putF "lines" (.ref l) (putF "counts" (.ref t) [])))) m = some (.ins C dx (putF "begin" (.int b) (putF "lines" (.ref l) (putF "counts" (.ref t) [])))) := upd_same
    have q1 : (putF ("begin" : Str) (.int b) (putF "lines" (.ref l) (putF "counts" (.ref t) []))).lookup ("counts" : Str) = some (.ref t) := by
      rw [lookup_putF, if_neg (by decide +kernel), lookup_putF, if_neg (by decide +kernel), lookup_putF, if_pos rfl]
    have q2 : (putF ("begin" : Str) (.int b) (putF "lines" (.ref l) (putF "counts" (.ref t) []))).lookup ("lines" : Str) = some (.ref l) := by
      rw [lookup_putF, if_neg (by decide +kernel), lookup_putF, if_pos rfl]
    have q3 : (putF ("begin" : Str) (.int b) (putF "lines" (.ref l) (putF "counts" (.ref t) []))).lookup ("begin" : Str) = some (.int b) := by
      rw [lookup_putF, if_pos rfl]
    generalize (upd H m (.ins C dx (putF "begin" (.int b) (putF "lines" (.ref l) (putF "counts" (.ref t) []))))) = H3 at x3 m3 ⊢
    generalize putF ("begin" : Str) (.int b) (putF "lines" (.ref l) (putF "counts" (.ref t) [])) = f3 at m3 L3 q1 q2 q3
    have l3 : H3 l = some (.lst xs) := x3.at hm hl (fun z => nomatch z)
    refine ⟨_, rfl, l, xs, rs, rfl, l3, x3.rows hm rows, fit.go, big, fun sa H4 n4 s4 e4 => ?_⟩
    refine ⟨_, rfl, m, C, dx, _, rfl, s4 _ _ m3, TM.cl, TM.n_stops, Nat.lt_of_le_of_lt L3 (by decide), ?_⟩
    have L4 := putF_len (f := "stops") (v := .ref sa) L3
    have sm : sa ≠ m := fun z => by
      rw [z, m3] at n4
      cases n4
    have nsa : H sa = none := x3.off n4 sm
    have x4 : SameX m H (upd H4 m (.ins C dx (putF "stops" (.ref sa) f3))) := (x3.go s4).upd
    have m4 : upd H4 m (.ins C dx (putF "stops" (.ref sa) f3)) m = some (.ins C dx (putF "stops" (.ref sa) f3)) := upd_same
    have e5 : upd H4 m (.ins C dx (putF "stops" (.ref sa) f3)) sa = some (.lst (fl rs.length fun i => (stp rs i : Int))) := by
      rw [upd_ne sm]
      exact e4
    have q4 : (putF ("stops" : Str) (.ref sa) f3).lookup ("stops" : Str) = some (.ref sa) := by rw [lookup_putF, if_pos rfl]
    have q1' : (putF ("stops" : Str) (.ref sa) f3).lookup ("counts" : Str) = some (.ref t) := by rw [lookup_putF, if_neg (by decide +kernel)]; exact q1
    have q2' : (putF ("stops" : Str) (.ref sa) f3).lookup ("lines" : Str) = some (.ref l) := by rw [lookup_putF, if_neg (by decide +kernel)]; exact q2
    have q3' : (putF ("stops" : Str) (.ref sa) f3).lookup ("begin" : Str) = some (.int b) := by rw [lookup_putF, if_neg (by decide +kernel)]; exact q3
    clear q1 q2 q3
    generalize (upd H4 m (.ins C dx (putF "stops" (.ref sa) f3))) = H5 at x4 m4 e5 ⊢
    generalize putF ("stops" : Str) (.ref sa) f3 = f4 at m4 L4 q1' q2' q3' q4
    have l5 : H5 l = some (.lst xs) := x4.at hm hl (fun z => nomatch z)
    have rows5 := x4.rows hm rows
    refine ⟨_, rfl, _, rfl, m, C, dx, _, _, rfl, m4, TM.cl, TM.n_stops, q4, _, rfl, l, sa, xs, rs, b, rfl, l5, rows5, fit, e5, hb, big, fun ma H6 n6 s6 e6 => ?_⟩
    have few := metAt_few fit hb rs.length
    have flen := few.len
    have nl : (natsV (metOf rs b)).length = (metOf rs b).length := List.length_map _
    have rvl : (restV rs b xs).length = (metOf rs b).length := List.length_map _
    have fl2 : (metOf rs b).length ≤ rs.length := flen
    refine ⟨ma, rfl, ⟨_, SqL.of e6⟩, fun D nD => lc_pure (ys := restV rs b xs) e6 nD (by rw [nl, rvl]) (by rw [nl]; omega) (fun _ => rfl) (fun j x y Ha Qe hx hy sa6 qe => ?_) (fun H7 s7 e7 => ?_)⟩
    · unfold natsV at hx
      rw [List.getElem?_map] at hx
      unfold restV at hy
      rw [List.getElem?_map] at hy
      cases q : (metOf rs b)[j]? with
      | none => rw [q] at hx; cases hx
      | some i =>
        rw [q] at hx hy
        have hx2 : V.int (i : Int) = x := Option.some.inj hx
        have hy2 : xs.getD i .non = y := Option.some.inj hy
        have hi : i < xs.length := by
          rw [rows.1]
          exact few.2 i (List.mem_of_getElem? q)
        subst hx2
        have ey : xs[i]? = some y := by
          rw [List.getD_eq_getElem?_getD, List.getElem?_eq_getElem hi] at hy2
          rw [List.getElem?_eq_getElem hi]
          exact congrArg some hy2
        exact ⟨_, rfl, _, rfl, l, xs, _, y, rfl, rfl, SqL.of (sa6 _ _ (s6 _ _ l5)), atI_nat ey, qe⟩
    · have s57 : Same H5 H7 := s6.trans s7
      have rr : Rows H7 (restV rs b xs) (restD rs b) := rest_rows fit hb (rows5.same s57)
      have rdl : (restD rs b).length ≤ 100000 := by
        unfold restD
        rw [List.length_map]
        omega
      refine ⟨_, rfl, D, _, _, "ask", rfl, by decide +kernel, e7, rr, rdl, few1, fun as fas aa H8 n8 s8 e8 => ?_⟩
      have m8 : H8 m = some (.ins C dx f4) := s8 _ _ (s57 _ _ m4)
      refine ⟨_, rfl, m, C, dx, _, rfl, m8, TM.cl, TM.n_asks, Nat.lt_of_le_of_lt L4 (by decide), ?_⟩
      have L5 := putF_len (f := "asks") (v := .ref aa) L4
      have am : aa ≠ m := fun z => by
        rw [z, s57 _ _ m4] at n8
        cases n8
      have naa : H aa = none := SameX.off (fun b o n e => s57 _ _ (x4 _ _ n e)) n8 am
      have x9 : SameX m H5 (upd H8 m (.ins C dx (putF "asks" (.ref aa) f4))) := SameX.upd fun b o _ e => s8 _ _ (s57 _ _ e)
      have x79 : SameX m H7 (upd H8 m (.ins C dx (putF "asks" (.ref aa) f4))) := SameX.upd fun b o _ e => s8 _ _ e
      have m9 : upd H8 m (.ins C dx (putF "asks" (.ref aa) f4)) m = some (.ins C dx (putF "asks" (.ref aa) f4)) := upd_same
      have e9 : upd H8 m (.ins C dx (putF "asks" (.ref aa) f4)) aa = some (.lst (as.map V.str)) := by
        rw [upd_ne am]
        exact e8
      have p5 : (putF ("asks" : Str) (.ref aa) f4).lookup ("asks" : Str) = some (.ref aa) := by rw [lookup_putF, if_pos rfl]
      have p1 : (putF ("asks" : Str) (.ref aa) f4).lookup ("counts" : Str) = some (.ref t) := by rw [lookup_putF, if_neg (by decide +kernel)]; exact q1'
      have p2 : (putF ("asks" : Str) (.ref aa) f4).lookup ("lines" : Str) = some (.ref l) := by rw [lookup_putF, if_neg (by decide +kernel)]; exact q2'
      have p3 : (putF ("asks" : Str) (.ref aa) f4).lookup ("begin" : Str) = some (.int b) := by rw [lookup_putF, if_neg (by decide +kernel)]; exact q3'
      have p4 : (putF ("asks" : Str) (.ref aa) f4).lookup ("stops" : Str) = some (.ref sa) := by rw [lookup_putF, if_neg (by decide +kernel)]; exact q4
      have m7 : H7 m = some (.ins C dx f4) := s57 _ _ m4
      generalize (upd H8 m (.ins C dx (putF "asks" (.ref aa) f4))) = H9 at x9 x79 m9 e9 ⊢
      generalize putF ("asks" : Str) (.ref aa) f4 = f5 at m9 L5 p1 p2 p3 p4 p5
      have d9 : H9 D = some (.lst (restV rs b xs)) := x79.at m7 e7 (fun z => nomatch z)
      have rr9 : Rows H9 (restV rs b xs) (restD rs b) := x79.rows m7 rr
      refine ⟨_, rfl, D, _, _, "end", rfl, by decide +kernel, d9, rr9, rdl, few2, fun es fes ea H10 n10 s10 e10 => ?_⟩
      refine ⟨_, rfl, m, C, dx, _, rfl, s10 _ _ m9, TM.cl, TM.n_endings, Nat.lt_of_le_of_lt L5 (by decide), ?_⟩
      have L6 := putF_len (f := "endings") (v := .ref ea) L5
      have em : ea ≠ m := fun z => by
        rw [z, m9] at n10
        cases n10
      have nea : H ea = none := SameX.off (fun b o n e => x9 _ _ n (x4 _ _ n e)) n10 em
      have x11 : SameX m H9 (upd H10 m (.ins C dx (putF "endings" (.ref ea) f5))) := SameX.upd fun b o _ e => s10 _ _ e
      have m11 : upd H10 m (.ins C dx (putF "endings" (.ref ea) f5)) m = some (.ins C dx (putF "endings" (.ref ea) f5)) := upd_same
      have e11 : upd H10 m (.ins C dx (putF "endings" (.ref ea) f5)) ea = some (.lst (es.map V.str)) := by
        rw [upd_ne em]
        exact e10
      have r6 : (putF ("endings" : Str) (.ref ea) f5).lookup ("endings" : Str) = some (.ref ea) := by rw [lookup_putF, if_pos rfl]
      have r1 : (putF ("endings" : Str) (.ref ea) f5).lookup ("counts" : Str) = some (.ref t) := by rw [lookup_putF, if_neg (by decide +kernel)]; exact p1
      have r2 : (putF ("endings" : Str) (.ref ea) f5).lookup ("lines" : Str) = some (.ref l) := by rw [lookup_putF, if_neg (by decide +kernel)]; exact p2
      have r3 : (putF ("endings" : Str) (.ref ea) f5).lookup ("begin" : Str) = some (.int b) := by rw [lookup_putF, if_neg (by decide +kernel)]; exact p3
      have r4 : (putF ("endings" : Str) (.ref ea) f5).lookup ("stops" : Str) = some (.ref sa) := by rw [lookup_putF, if_neg (by decide +kernel)]; exact p4
      have r5 : (putF ("endings" : Str) (.ref ea) f5).lookup ("asks" : Str) = some (.ref aa) := by rw [lookup_putF, if_neg (by decide +kernel)]; exact p5
      generalize (upd H10 m (.ins C dx (putF "endings" (.ref ea) f5))) = H11 at x11 m11 e11 ⊢
      generalize putF ("endings" : Str) (.ref ea) f5 = f6 at m11 L6 r1 r2 r3 r4 r5 r6
      have d11 : H11 D = some (.lst (restV rs b xs)) := x11.at m9 d9 (fun z => nomatch z)
      have rr11 : Rows H11 (restV rs b xs) (restD rs b) := x11.rows m9 rr9
      have rdv : (restD rs b).length = (restV rs b xs).length := rr11.1.symm
      refine ⟨_, rfl, D, rfl, ⟨_, SqL.of d11⟩, fun G nG => lc_pure (ys := (restD rs b).map fun d => .str (wordOf d)) d11 nG (by rw [List.length_map, rdv]) (by rw [← rdv]; omega) (fun _ => rfl) (fun j x y Ha Qe hx hy sa11 qe => ?_) (fun H12 s12 e12 => ?_)⟩
      · have hj : j < (restD rs b).length := by
          have := (List.getElem?_eq_some_iff.mp hx).1
          omega
        obtain ⟨z, zs, d, ed, hx2, row, hz⟩ := rr11.at hj
        rw [hx2] at hx
        cases hx
        rw [List.getElem?_map, ed] at hy
        cases hy
        exact ⟨_, rfl, _, _, _, _, rfl, rfl, .inl (.inl (sa11 _ _ hz)), at0', qe⟩
      · refine ⟨G, _, rfl, .inl (SqL.of e12), rfl, ?_, ?_⟩
        · rw [List.all_map]
          exact List.all_eq_true.mpr fun _ _ => rfl
        · refine ⟨_, rfl, m, C, dx, _, rfl, s12 _ _ m11, TM.cl, TM.n_endless, Nat.lt_of_le_of_lt L6 (by decide), ?_⟩
          have x12 : SameX m H11 (upd H12 m (.ins C dx (putF "endless" (.bl (endlessD rs b)) f6))) := SameX.upd fun b o _ e => s12 _ _ e
          refine k (putF "endless" (.bl (endlessD rs b)) f6) (upd H12 m (.ins C dx (putF "endless" (.bl (endlessD rs b)) f6))) sa aa ea as es nsa naa nea (fun b o n e => x12 _ _ n (x11 _ _ n (x9 _ _ n (x4 _ _ n e)))) upd_same ⟨?_, ?_, ?_, ?_, ?_, ?_, ?_, x12 _ _ sm (x11 _ _ sm (x9 _ _ sm e5)), x12 _ _ am (x11 _ _ am e9), x12 _ _ em e11, fas, fes⟩
          · rw [lookup_putF, if_neg (by decide +kernel)]
            exact r1
          · rw [lookup_putF, if_neg (by decide +kernel)]
            exact r2
          · rw [lookup_putF, if_neg (by decide +kernel)]
            exact r3
          · rw [lookup_putF, if_neg (by decide +kernel)]
            exact r4
          · rw [lookup_putF, if_neg (by decide +kernel)]
            exact r5
          · rw [lookup_putF, if_neg (by decide +kernel)]
            exact r6
          · rw [lookup_putF, if_pos rfl]
end
end Mine

set_option maxRecDepth 100000
set_option maxHeartbeats 4000000
namespace Mine
open PySem L2
abbrev s_lines_read : Stmt := top 56
theorem ps_no {X : Cx} {st : Stmt} : PS X st (fun _ _ _ => False) := ⟨fun _ _ _ _ _ _ h => h.elim⟩
/-- the rows stand there, in lists or tuples -/
def RowsIn (H : Hp) (xs : List V) (rs : List RowD) : Prop := xs.length = rs.length ∧ ∀ (i : Nat) (d : RowD), rs[i]? = some d → ∃ x, xs[i]? = some x ∧ RowAt H x d
def OkRows (o : Ops) (rs : List RowD) : Prop := ∀ (i : Nat) (d : RowD), rs[i]? = some d → OkRow o rs.length d
theorem OkRows.fit {o : Ops} {rs : List RowD} (h : OkRows o rs) : Fit rs := fun i d e n hn => by
  have := h i d e
  cases d with
  | ask op ns => exact this.2.2 n hn
  | go k =>
    rw [List.mem_singleton.mp hn]
    exact this
  | fin w => exact nomatch hn
def spRead : Sp := fun vs H Q _ => ∃ (r d : Addr) (xs : List V) (rs : List RowD) (o : Ops), vs = [.ref r, .ref d] ∧ SqA H r xs ∧ RowsIn H xs rs ∧ Rd H d (.dK (opsK o)) ∧ 1 ≤ rs.length ∧ rs.length ≤ 400 ∧ OkRows o rs ∧
  ∀ (p : Addr) (ys : List V) (H' : Hp), H p = none → Same H H' → H' p = some (.lst ys) → Rows H' ys rs → Q (.ref p) H'
theorem TRow.other {H : Hp} {D : Addr} {ys : List V} {o : HO} {v : V} {d : RowD} (h : TRow H v d) (e : H D = some (.lst ys)) : TRow (upd H D o) v d := by
  have ne : ∀ {a : Addr} {zs : List V}, H a = some (.tup zs) → upd H D o a = some (.tup zs) := fun {a zs} h1 => by
    rw [upd_ne (fun z => by rw [z, e] at h1; cases h1)]
    exact h1
  cases d with
  | ask op ns =>
    obtain ⟨a, t, e, h1, h2⟩ := h
    exact ⟨a, t, e, ne h1, ne h2⟩
  | go n =>
    obtain ⟨a, e, h1⟩ := h
    exact ⟨a, e, ne h1⟩
  | fin w =>
    obtain ⟨a, e, h1⟩ := h
    exact ⟨a, e, ne h1⟩
/-- the first kk rows stand in the new list -/
structure Grown (Hn : Hp) (D : Addr) (rs : List RowD) (kk : Nat) (Hx : Hp) : Prop where
  same : Same Hn Hx
  at_ : ∃ ys : List V, ys.length = kk ∧ Hx D = some (.lst ys) ∧ ∀ (j : Nat) (dj : RowD), j < kk → rs[j]? = some dj → ∃ y, ys[j]? = some y ∧ TRow Hx y dj
section
variable {P : Program} {w : World} {K : PySem.W.Frag} {mg : Str → Option Value} {base : Heap}
variable {fII fIW a_is_row a_is_index a_is_name a_is_text_in a_are_counts a_word_of a_are_nexts a_is_line a_line_of a_are_operations : Addr}
theorem sc_lines_read : FnScope ["rows", "counts", "index", "row"] ["rows", "counts"] (defScope s_lines_read) := ⟨rfl, rfl, rfl, by decide +kernel, rfl, by decide +kernel, by decide +kernel⟩
theorem ok_lines_read {f : Addr} {fd fd_is_row fd_is_line fd_line_of : FuncData} (F : Fun K "lines_read" "lines_read" s_lines_read f fd) (T : TxtF K mg fII fIW) (TG : TxtG K mg a_is_row a_is_index a_is_name a_is_text_in a_are_counts a_word_of a_are_nexts a_is_line a_line_of a_are_operations)
    (h_enum : mg "enumerate" = none) {tm : Tok} (h_most : mg "MOST_ROWS" = some (.int 400 tm))
    (GRw : FnOk P w K mg base CX0 1 a_is_row fd_is_row ["thing"] (spIsRow K)) (b_is_row : Binds K fd_is_row ["thing"] [])
    (GL : FnOk P w K mg base CX0 5 a_is_line fd_is_line ["row", "counts", "many"] spIsLine) (b_is_line : Binds K fd_is_line ["row", "counts", "many"] [])
    (GLo : FnOk P w K mg base CX0 1 a_line_of fd_line_of ["row"] spLineOf) (b_line_of : Binds K fd_line_of ["row"] []) : FnOk P w K mg base CX0 6 f fd ["rows", "counts"] spRead := by
  refine F.ok sc_lines_read (fun vs H Q E h => ?_) (fun cdv A outer s H vs Q E hr h => ?_)
  · obtain ⟨r, d, xs, rs, o, rfl, _⟩ := h
    rfl
  · obtain ⟨r, d, xs, rs, o, rfl, hx, rows, hd, lo, hi, ok, k⟩ := h
    refine ⟨_, (pss_cons (ps_if (PW.pt (pw_or (pt_not (pt_val (pe_call GRw (hr.mono (by decide)) (by rfl) TG.g_is_row TG.k_is_row b_is_row .nil pass0 (pa_cons (pv 0) pa_nil)))) (pw_or1 (pt_not (pt_chain op_le op_le pe_int (pe_callB call_len_seq (by rfl) T.b_len PySem.boot_len (pa_cons (pv 0) pa_nil)) (pe_glob (v := .int 400) rfl h_most ⟨_, rfl⟩)))))) (pss_one ps_no) pss_nil)
      (pss_cons (ps_for PassesOwn.never rfl (pi_or (pi_enum (by rfl) h_enum (pa_cons (pv 0) pa_nil)) (pi_enumT (by rfl) h_enum (pa_cons (pv 0) pa_nil))) (pg_tup rfl (pgs_cons (pg_name (i := 2) sc_lines_read.nd rfl (Or.inl rfl)) (pgs_cons (pg_name (i := 3) sc_lines_read.nd rfl (Or.inl rfl)) pgs_nil)))
        (pss_one (ps_if (pt_not (pt_val (pe_call GL (hr.mono (by decide)) (by rfl) TG.g_is_line TG.k_is_line b_is_line .nil pass0 (pa_cons (pv 3) (pa_cons (pv 1) (pa_cons (pe_callB call_len_seq (by rfl) T.b_len PySem.boot_len (pa_cons (pv 0) pa_nil)) pa_nil)))))) (pss_one ps_no) pss_nil)))
      (pss_one (ps_ret (pe_lc (own := [("row", 3)]) (g := gName 3) (tt := tYes) (wi := iSeq K (tVar 0)) rfl sc_lines_read.nd (pi_seq (pv 0)) (blkOk_by (own := [("row", 3)]) (N := ["rows", "counts", "index", "row"]) (sc := defScope s_lines_read) (by decide +kernel)) (fun _ _ _ _ _ => pg_name (i := 3) sc_lines_read.nd rfl (Or.inl rfl)) (fun _ _ _ _ _ => pts_nil) (fun _ _ _ _ _ => (pe_call GLo (hr.mono (by decide)) (by rfl) TG.g_line_of TG.k_line_of b_line_of .nil pass0 (pa_cons (pv 3) pa_nil)))))))), ?_⟩
    obtain ⟨ty, b, e⟩ := btSeq (K := K) hx
    refine ⟨_, rfl, _, ty, rfl, b, fun H1 s1 => ⟨_, rfl, ?_⟩⟩
    rw [e]
    refine iteF ?_
    have hx1 := s1.sqa hx
    have len : (xs.length : Int) = rs.length := by rw [rows.1]
    refine ⟨_, rfl, r, _, rfl, hx1.sq, _, _, rfl, rfl, _, rfl, ?_⟩
    rw [len, decide_eq_true (show (1 : Int) ≤ (rs.length : Int) by omega)]
    refine iteT ?_
    refine ⟨_, _, rfl, rfl, _, rfl, ?_⟩
    rw [decide_eq_true (show (rs.length : Int) ≤ 400 by omega)]
    refine iteF ?_
    have body : ∀ (i : Nat) (x : V) (Ha : Hp), xs[i]? = some x → Same H1 Ha → ∃ dd : RowD, RowAt Ha x dd ∧ OkRow o (rs.length : Int) dd ∧ rs[i]? = some dd := fun i x Ha hxi sa => by
      have hi2 : i < rs.length := by
        have := (List.getElem?_eq_some_iff.mp hxi).1
        have := rows.1
        omega
      obtain ⟨x2, h1, h2⟩ := rows.2 i _ (List.getElem?_eq_getElem hi2)
      rw [hxi] at h1
      cases h1
      exact ⟨_, h2.same (s1.trans sa), ok i _ (List.getElem?_eq_getElem hi2), List.getElem?_eq_getElem hi2⟩
    have elem : ∀ (Hn Ha : Hp) (D : Addr) (kk : Nat) (x : V), Same H1 Hn → Hn D = none → xs[kk]? = some x → Grown Hn D rs kk Ha → ∃ dd : RowD, RowAt Ha x dd ∧ ∀ (v' : V) (H' : Hp), Same Ha H' → TRow H' v' dd → ∃ acc, H' D = some (.lst acc) ∧ acc.length < sizeLine ∧ Grown Hn D rs (kk + 1) (upd H' D (.lst (acc ++ [v']))) := fun Hn Ha D kk x sn nD hxk gr => by
      obtain ⟨dd, b1, _, b3⟩ := body kk x Ha hxk (sn.trans gr.same)
      refine ⟨dd, b1, fun v' H' sa tr => ?_⟩
      obtain ⟨sx, ys, yl, ye, ya⟩ := gr
      have hk : kk < rs.length := (List.getElem?_eq_some_iff.mp b3).1
      have eD := sa _ _ ye
      refine ⟨ys, eD, by rw [yl, sizeLine_eq]; omega, ⟨same_updN (sx.trans sa) nD, ys ++ [v'], by rw [List.length_append, yl]; rfl, upd_same, fun j dj hj ej => ?_⟩⟩
      by_cases z : j < kk
      · obtain ⟨y, h1, h2⟩ := ya j dj z ej
        exact ⟨y, by rw [List.getElem?_append_left (by omega)]; exact h1, (h2.same sa).other eD⟩
      · have zj : j = kk := by omega
        subst zj
        rw [b3] at ej
        cases ej
        exact ⟨v', by rw [List.getElem?_append_right (by omega), yl, Nat.sub_self]; rfl, tr.other eD⟩
    have fin : ∀ (Hn Hx : Hp) (D : Addr), Same H1 Hn → Hn D = none → Grown Hn D rs xs.length Hx → Q (.ref D) Hx := fun Hn Hx D sn nD gr => by
      obtain ⟨sx, ys, yl, ye, ya⟩ := gr
      rw [rows.1] at yl ya
      exact k D ys Hx (none_of (s1.trans sn) nD) (s1.trans (sn.trans sx)) ye ⟨yl, fun i dd e => ya i dd (List.getElem?_eq_some_iff.mp e).1 e⟩
    rcases hx1 with hx1 | hx1
    · refine .inl ⟨_, rfl, r, xs, rfl, SqL.of hx1, for_enumL (K := K) (a := r) (xs := xs) (fun i σ H' => ∃ v2 v3 : Option V, σ = [some (.ref r), some (.ref d), v2, v3] ∧ Same H1 H') ⟨_, _, rfl, Same.refl _⟩ (fun i σ H' _ z => by obtain ⟨_, _, _, s⟩ := z; exact SqL.of (s _ _ hx1)) ?_ ?_⟩
      · rintro i x σ Ha T Hb hxi ⟨v2, v3, rfl, sa⟩ nT sT eT
        obtain ⟨dd, b1, b2, _⟩ := body i x Hb hxi (sa.trans sT)
        refine ⟨T, _, rfl, .inl (.inl eT), rfl, _, _, rfl, _, _, rfl, rfl, ?_⟩
        refine ⟨_, rfl, _, rfl, _, rfl, r, _, rfl, .inl (SqL.of ((sa.trans sT) _ _ hx1)), ?_⟩
        rw [len]
        refine ⟨x, d, o, _, dd, rfl, b1, Rd.same (s1.trans (sa.trans sT)) hd, b2, fun Hc sc => ⟨_, rfl, ?_⟩⟩
        refine iteF ?_
        exact ⟨_, _, rfl, (sa.trans sT).trans sc⟩
      · rintro σ Hn ⟨v2, v3, rfl, sn⟩
        refine .inl ⟨_, rfl, r, rfl, ⟨_, SqL.of (sn _ _ hx1)⟩, fun D nD => lc_it (walk_list (xs := xs)) (fun kk Hx => Grown Hn D rs kk Hx) ⟨sameNew nD _, [], rfl, upd_same, fun j _ hj => absurd hj (Nat.not_lt_zero j)⟩ (fun kk Hx _ z => SqL.of (z.same _ _ (sn _ _ hx1))) (fun kk x Ha Hb hk z1 z2 => ?_) fun Hx z => fin Hn Hx D sn nD z⟩
        obtain ⟨rfl, hxk⟩ := z2
        obtain ⟨dd, b1, q⟩ := elem Hn _ D kk x sn nD hxk z1
        exact ⟨rfl, _, rfl, x, dd, rfl, b1, q⟩
    · refine .inr ⟨_, rfl, r, xs, rfl, .inl (.inl hx1), for_enumT (K := K) (a := r) (xs := xs) (fun i σ H' => ∃ v2 v3 : Option V, σ = [some (.ref r), some (.ref d), v2, v3] ∧ Same H1 H') ⟨_, _, rfl, Same.refl _⟩ (fun i σ H' _ z => by obtain ⟨_, _, _, s⟩ := z; exact .inl (.inl (s _ _ hx1))) ?_ ?_⟩
      · rintro i x σ Ha T Hb hxi ⟨v2, v3, rfl, sa⟩ nT sT eT
        obtain ⟨dd, b1, b2, _⟩ := body i x Hb hxi (sa.trans sT)
        refine ⟨T, _, rfl, .inl (.inl eT), rfl, _, _, rfl, _, _, rfl, rfl, ?_⟩
        refine ⟨_, rfl, _, rfl, _, rfl, r, _, rfl, .inr (.inl (.inl ((sa.trans sT) _ _ hx1))), ?_⟩
        rw [len]
        refine ⟨x, d, o, _, dd, rfl, b1, Rd.same (s1.trans (sa.trans sT)) hd, b2, fun Hc sc => ⟨_, rfl, ?_⟩⟩
        refine iteF ?_
        exact ⟨_, _, rfl, (sa.trans sT).trans sc⟩
      · rintro σ Hn ⟨v2, v3, rfl, sn⟩
        refine .inr ⟨_, rfl, r, rfl, ⟨_, .inl (.inl (sn _ _ hx1))⟩, fun D nD => lc_it (walk_tup (xs := xs)) (fun kk Hx => Grown Hn D rs kk Hx) ⟨sameNew nD _, [], rfl, upd_same, fun j _ hj => absurd hj (Nat.not_lt_zero j)⟩ (fun kk Hx _ z => .inl (.inl (z.same _ _ (sn _ _ hx1)))) (fun kk x Ha Hb hk z1 z2 => ?_) fun Hx z => fin Hn Hx D sn nD z⟩
        obtain ⟨rfl, hxk⟩ := z2
        obtain ⟨dd, b1, q⟩ := elem Hn _ D kk x sn nD hxk z1
        exact ⟨rfl, _, rfl, x, dd, rfl, b1, q⟩
end
end Mine

set_option maxRecDepth 100000
set_option maxHeartbeats 4000000
namespace Mine
open PySem L2
abbrev s_body : Stmt := inClass (top 53) 0
theorem MachFs.x {m : Addr} {H H' : Hp} {C dx : Addr} {fx : List (Str × V)} {fs : List (Str × V)} {t l : Addr} {b : Nat} {rs : List RowD} {sa aa ea : Addr} {as es : List Str} (x : SameX m H H') (hm : H m = some (.ins C dx fx)) (f : MachFs H fs t l b rs sa aa ea as es) : MachFs H' fs t l b rs sa aa ea as es :=
  ⟨f.counts, f.lines, f.begin, f.stops, f.asks, f.endings, f.endless, x.at hm f.hs (fun z => nomatch z), x.at hm f.ha (fun z => nomatch z), x.at hm f.he (fun z => nomatch z), f.fa, f.fe⟩
theorem MachFs.same {H H' : Hp} {fs : List (Str × V)} {t l : Addr} {b : Nat} {rs : List RowD} {sa aa ea : Addr} {as es : List Str} (s : Same H H') (f : MachFs H fs t l b rs sa aa ea as es) : MachFs H' fs t l b rs sa aa ea as es :=
  ⟨f.counts, f.lines, f.begin, f.stops, f.asks, f.endings, f.endless, s _ _ f.hs, s _ _ f.ha, s _ _ f.he, f.fa, f.fe⟩
/-- a body stands there -/
structure BodyP (CB CM : Addr) (H : Hp) (bd : Addr) (o : Ops) (rs : List RowD) (b : Nat) (m t l sa aa ea : Addr) (o' : Ops) (xs : List V) (as es : List Str) : Prop where
  hb : ∃ dx fb, H bd = some (.ins CB dx fb) ∧ fb.lookup ("machine" : Str) = some (.ref m)
  hm : ∃ dm fm, H m = some (.ins CM dm fm) ∧ MachFs H fm t l b rs sa aa ea as es
  ht : H t = some (.dK (opsK o'))
  ord : Ordered o o'
  hl : H l = some (.lst xs)
  rows : Rows H xs rs
  lt : b < rs.length
  own : ∃ dx, H bd = some (.ins CB dx [("machine", .ref m)])
def BodyAt (CB CM : Addr) (H : Hp) (bd : Addr) (o : Ops) (rs : List RowD) (b : Nat) : Prop := ∃ m t l sa aa ea o' xs as es, BodyP CB CM H bd o rs b m t l sa aa ea o' xs as es
/-- a new body: its parts are new, but for the rows' tuples -/
def BodyN (CB CM : Addr) (H0 H : Hp) (bd : Addr) (o : Ops) (rs : List RowD) (b : Nat) : Prop := ∃ m t l sa aa ea o' xs as es, BodyP CB CM H bd o rs b m t l sa aa ea o' xs as es ∧ H0 m = none ∧ H0 t = none ∧ H0 l = none ∧ H0 sa = none ∧ H0 aa = none ∧ H0 ea = none
theorem BodyN.at {CB CM : Addr} {H0 H : Hp} {bd : Addr} {o : Ops} {rs : List RowD} {b : Nat} (h : BodyN CB CM H0 H bd o rs b) : BodyAt CB CM H bd o rs b := by
  obtain ⟨m, t, l, sa, aa, ea, o', xs, as, es, h, _⟩ := h
  exact ⟨m, t, l, sa, aa, ea, o', xs, as, es, h⟩
/-- what is new, or a tuple, stays: then the body stays -/
theorem BodyN.off {CB CM : Addr} {H0 H H' : Hp} {bd : Addr} {o : Ops} {rs : List RowD} {b : Nat} (h : BodyN CB CM H0 H bd o rs b) (nb : H0 bd = none) (k : ∀ a u, H a = some u → (H0 a = none ∨ ∃ zs, u = .tup zs) → H' a = some u) : BodyAt CB CM H' bd o rs b := by
  obtain ⟨m, t, l, sa, aa, ea, o', xs, as, es, ⟨⟨dx, fb, h1, h2⟩, ⟨dm, fm, h3, h4⟩, h5, h6, h7, h8, h9, dw, hw⟩, n1, n2, n3, n4, n5, n6⟩ := h
  have ku : ∀ {q : Addr} {us : List V}, H q = some (.tup us) → H' q = some (.tup us) := fun e => k _ _ e (.inr ⟨_, rfl⟩)
  refine ⟨m, t, l, sa, aa, ea, o', xs, as, es, ⟨dx, fb, k _ _ h1 (.inl nb), h2⟩, ⟨dm, fm, k _ _ h3 (.inl n1), ⟨h4.counts, h4.lines, h4.begin, h4.stops, h4.asks, h4.endings, h4.endless, k _ _ h4.hs (.inl n4), k _ _ h4.ha (.inl n5), k _ _ h4.he (.inl n6), h4.fa, h4.fe⟩⟩, k _ _ h5 (.inl n2), h6, k _ _ h7 (.inl n3), ⟨h8.1, fun i d e => ?_⟩, h9, dw, k _ _ hw (.inl nb)⟩
  obtain ⟨x, x1, x2⟩ := h8.2 i d e
  refine ⟨x, x1, ?_⟩
  cases d with
  | ask op ns =>
    obtain ⟨q, t', e1, k1, k2⟩ := x2
    exact ⟨q, t', e1, ku k1, ku k2⟩
  | go n =>
    obtain ⟨q, e1, k1⟩ := x2
    exact ⟨q, e1, ku k1⟩
  | fin n =>
    obtain ⟨q, e1, k1⟩ := x2
    exact ⟨q, e1, ku k1⟩
theorem BodyP.same {CB CM : Addr} {H H' : Hp} {bd : Addr} {o : Ops} {rs : List RowD} {b : Nat} {m t l sa aa ea : Addr} {o' : Ops} {xs : List V} {as es : List Str} (s : Same H H') (h : BodyP CB CM H bd o rs b m t l sa aa ea o' xs as es) : BodyP CB CM H' bd o rs b m t l sa aa ea o' xs as es := by
  obtain ⟨⟨dx, fb, h1, h2⟩, ⟨dm, fm, h3, h4⟩, h5, h6, h7, h8, h9, dw, hw⟩ := h
  exact ⟨⟨dx, fb, s _ _ h1, h2⟩, ⟨dm, fm, s _ _ h3, h4.same s⟩, s _ _ h5, h6, s _ _ h7, h8.same s, h9, dw, s _ _ hw⟩
theorem BodyAt.same {CB CM : Addr} {H H' : Hp} {bd : Addr} {o : Ops} {rs : List RowD} {b : Nat} (s : Same H H') (h : BodyAt CB CM H bd o rs b) : BodyAt CB CM H' bd o rs b := by
  obtain ⟨m, t, l, sa, aa, ea, o', xs, as, es, h⟩ := h
  exact ⟨m, t, l, sa, aa, ea, o', xs, as, es, h.same s⟩
theorem RowsIn.same {H H' : Hp} {xs : List V} {rs : List RowD} (s : Same H H') (h : RowsIn H xs rs) : RowsIn H' xs rs := ⟨h.1, fun i d e => by
  obtain ⟨x, h1, h2⟩ := h.2 i d e
  exact ⟨x, h1, h2.same s⟩⟩
def spBody (CB CM : Addr) : Sp := fun vs H Q _ => ∃ (bd d r dx : Addr) (xs : List V) (rs : List RowD) (o : Ops) (b : Nat), vs = [.ref bd, .ref d, .ref r, .int b] ∧ H bd = some (.ins CB dx []) ∧ H d = some (.dK (opsK o)) ∧ OkOps o ∧ SqA H r xs ∧ RowsIn H xs rs ∧ 1 ≤ rs.length ∧ rs.length ≤ 400 ∧ OkRows o rs ∧ b < rs.length ∧
  (distinct "ask" (restD rs b)).length ≤ 100000 ∧ (distinct "end" (restD rs b)).length ≤ 100000 ∧ ∀ H', SameX bd H H' → BodyN CB CM H H' bd o rs b → Q .non H'
structure BodyC (K : PySem.W.Frag) (C : Addr) : Prop where
  cl : Cls K C
  n_machine : NoAttr K C "machine"
section
variable {P : Program} {w : World} {K : PySem.W.Frag} {mg : Str → Option Value} {base : Heap}
variable {fII fIW a_is_row a_is_index a_is_name a_is_text_in a_are_counts a_word_of a_are_nexts a_is_line a_line_of a_are_operations a_lines_read a_in_order f_mach CB CM : Addr}
theorem sc_body : FnScope ["self", "operations", "rows", "start", "lines"] ["self", "operations", "rows", "start"] (defScope s_body) := ⟨rfl, rfl, rfl, by decide +kernel, rfl, by decide +kernel, by decide +kernel⟩
theorem ok_body {f : Addr} {fd fd_are_operations fd_lines_read fd_is_index fd_in_order fd_mach : FuncData} (F : Fun K "__init__" "Body.__init__" s_body f fd) (T : TxtF K mg fII fIW) (TG : TxtG K mg a_is_row a_is_index a_is_name a_is_text_in a_are_counts a_word_of a_are_nexts a_is_line a_line_of a_are_operations) (TB : BodyC K CB)
    (GO : FnOk P w K mg base CX0 4 a_are_operations fd_are_operations ["thing"] spOps) (b_are_operations : Binds K fd_are_operations ["thing"] [])
    (GLR : FnOk P w K mg base CX0 6 a_lines_read fd_lines_read ["rows", "counts"] spRead) (b_lines_read : Binds K fd_lines_read ["rows", "counts"] []) (g_lines_read : mg "lines_read" = some (.ref a_lines_read)) (k_lines_read : PySem.W.keepIn K (.ref a_lines_read) = true)
    (GIx : FnOk P w K mg base CX0 3 a_is_index fd_is_index ["thing", "many"] (spIndex K)) (b_is_index : Binds K fd_is_index ["thing", "many"] [])
    (GIO : FnOk P w K mg base CX0 1 a_in_order fd_in_order ["table"] spOrder) (b_in_order : Binds K fd_in_order ["table"] []) (g_in_order : mg "in_order" = some (.ref a_in_order)) (k_in_order : PySem.W.keepIn K (.ref a_in_order) = true)
    (MM : Mk K CM f_mach) (GM : FnOk P w K mg base CX0 3 f_mach fd_mach ["self", "counts", "lines", "begin"] (spMach CM)) (b_Machine : Binds K fd_mach ["self", "counts", "lines", "begin"] []) (g_Machine : mg "Machine" = some (.ref CM)) : FnOk P w K mg base CX0 7 f fd ["self", "operations", "rows", "start"] (spBody CB CM) := by
  refine F.ok sc_body (fun vs H Q E h => ?_) (fun cdv A outer s H vs Q E hr h => ?_)
  · obtain ⟨bd, d, r, dx, xs, rs, o, b, rfl, _⟩ := h
    rfl
  · obtain ⟨bd, d, r, dx, xs, rs, o, b, rfl, hbd, hd, oko, hx, rows, lo, hi, ok, hb, few1, few2, k⟩ := h
    refine ⟨_, (pss_cons (ps_if (pt_not (pt_val (pe_call GO (hr.mono (by decide)) (by rfl) TG.g_are_operations TG.k_are_operations b_are_operations .nil pass0 (pa_cons (pv 1) pa_nil)))) (pss_one ps_no) pss_nil)
      (pss_cons (ps_set (i := 4) sc_body.nd rfl (Or.inl rfl) (pe_call GLR (hr.mono (by decide)) (by rfl) g_lines_read k_lines_read b_lines_read .nil pass0 (pa_cons (pv 2) (pa_cons (pv 1) pa_nil))))
      (pss_cons (ps_if (pt_not (pt_val (pe_call GIx (hr.mono (by decide)) (by rfl) TG.g_is_index TG.k_is_index b_is_index .nil pass0 (pa_cons (pv 3) (pa_cons (pe_callB call_len_seq (by rfl) T.b_len PySem.boot_len (pa_cons (pv 4) pa_nil)) pa_nil))))) (pss_one ps_no) pss_nil)
      (pss_one (ps_fld (pv 0) (pe_make MM GM (hr.mono (by decide)) (by rfl) g_Machine b_Machine .nil pass0 (pa_cons (pe_call GIO (hr.mono (by decide)) (by rfl) g_in_order k_in_order b_in_order .nil pass0 (pa_cons (pv 1) pa_nil)) (pa_cons (pv 4) (pa_cons (pv 3) pa_nil)))) rfl))))), ?_⟩
    refine ⟨_, rfl, d, o, rfl, hd, oko, fun H1 s1 => ⟨_, rfl, ?_⟩⟩
    refine iteF ?_
    refine ⟨_, rfl, _, rfl, r, d, xs, rs, o, rfl, s1.sqa hx, rows.same s1, .inl (s1 _ _ hd), lo, hi, ok, fun l ys H2 n2 s2 e2 rr => ?_⟩
    refine ⟨_, rfl, _, rfl, l, _, rfl, .inl (SqL.of e2), .int b, "int", _, rfl, btInt _, _, rfl, ?_⟩
    rw [inW_int (show (0 : Int) ≤ b by omega) (by rw [rr.1]; omega)]
    refine iteF ?_
    refine ⟨_, rfl, d, o, rfl, .inl (s2 _ _ (s1 _ _ hd)), oko.nd, by have := oko.few; omega, fun o' ord t H3 n3 s3 e3 => ?_⟩
    refine ⟨_, rfl, _, rfl, fun m dm nm ndm ne => ?_⟩
    have sm : Same H3 (upd (upd H3 dm (.own m)) m (.ins CM dm [])) := same_updN (same_updN (Same.refl _) ndm) nm
    refine ⟨m, t, l, dm, ys, rs, b, rfl, upd_same, sm _ _ (s3 _ _ e2), rr.same (s3.trans sm), ok.fit, hb, by omega, few1, few2, fun fs H5 sa aa ea as es nsa naa nea x5 m5 mf => ⟨rfl, ?_⟩⟩
    have hbd3 : H3 bd = some (.ins CB dx []) := s3 _ _ (s2 _ _ (s1 _ _ hbd))
    have nbm : bd ≠ m := ne_of_none hbd3 nm
    have hbd5 : H5 bd = some (.ins CB dx []) := x5 bd _ nbm (sm _ _ hbd3)
    refine ⟨_, rfl, bd, CB, dx, _, rfl, hbd5, TB.cl, TB.n_machine, by decide, ?_⟩
    have x6 : SameX bd H5 (upd H5 bd (.ins CB dx (putF "machine" (.ref m) []))) := SameX.upd fun _ _ _ e => e
    have up : ∀ {b2 : Addr} {u : HO}, b2 ≠ bd → H b2 = some u → upd H5 bd (.ins CB dx (putF "machine" (.ref m) [])) b2 = some u := fun {b2 u} nb e => by
      have e3' : H3 b2 = some u := s3 _ _ (s2 _ _ (s1 _ _ e))
      exact x6 b2 u nb (x5 b2 u (ne_of_none e3' nm) (sm _ _ e3'))
    have up3 : ∀ {b2 : Addr} {u : HO}, H3 b2 = some u → b2 ≠ bd → upd H5 bd (.ins CB dx (putF "machine" (.ref m) [])) b2 = some u := fun {b2 u} e nb => x6 b2 u nb (x5 b2 u (ne_of_none e nm) (sm _ _ e))
    have rows6 : Rows (upd H5 bd (.ins CB dx (putF "machine" (.ref m) []))) ys rs := SameX.rows x6 hbd5 (SameX.rows x5 upd_same (rr.same (s3.trans sm)))
    have s12 : Same H H2 := s1.trans s2
    have s13 : Same H H3 := s12.trans s3
    refine k _ (fun b2 u nb e => up nb e) ⟨m, t, l, sa, aa, ea, o', ys, as, es, ⟨⟨dx, _, upd_same, by rw [lookup_putF, if_pos rfl]⟩, ⟨dm, fs, x6 m _ (Ne.symm nbm) m5, mf.x x6 hbd5⟩, up3 e3 (fun z => by rw [z, hbd3] at e3; cases e3), ord, up3 (s3 _ _ e2) (fun z => by rw [z] at e2; rw [s2 _ _ (s1 _ _ hbd)] at e2; cases e2), rows6, hb, dx, upd_same⟩, none_of s13 nm, none_of s12 n3, none_of s1 n2, none_of s13 (none_of sm nsa), none_of s13 (none_of sm naa), none_of s13 (none_of sm nea)⟩
end
end Mine

set_option maxRecDepth 100000
set_option maxHeartbeats 4000000
namespace Mine
open PySem L2
abbrev s_numbered : Stmt := top 44
abbrev Mark := List Key
abbrev ixM (k : Mark) (s : List Mark) : Nat := @List.idxOf Mark instBEqOfDecidableEq k s
theorem ixG_cons {α : Type} [DecidableEq α] (a k : α) (s : List α) : List.idxOf k (a :: s) = if a = k then 0 else List.idxOf k s + 1 := by
  rw [List.idxOf_cons]
  by_cases e : a = k
  · subst e
    rw [if_pos rfl]
    simp
  · rw [if_neg e]
    have : (a == k) = false := decide_eq_false e
    rw [this]
    rfl
theorem ixM_cons (a k : Mark) (s : List Mark) : ixM k (a :: s) = if a = k then 0 else ixM k s + 1 := ixG_cons a k s
/-- the dict of the marks met so far -/
def dOf (s : List Mark) (n : Nat) : List (Mark × V) := (s.zipIdx n).map fun p => (p.1, V.int (p.2 : Int))
theorem dOf_none : ∀ {s : List Mark} {n : Nat} {k : Mark}, k ∉ s → valV (dOf s n) k = none
  | [], _, _, _ => rfl
  | a :: s, n, k, h => by
    rw [List.mem_cons, not_or] at h
    unfold dOf valV
    rw [List.zipIdx_cons, List.map_cons, List.find?_cons_of_neg (by simpa using Ne.symm h.1)]
    exact dOf_none h.2
theorem dOf_some : ∀ {s : List Mark} {n : Nat} {k : Mark}, k ∈ s → valV (dOf s n) k = some (.int ((n + ixM k s : Nat) : Int))
  | [], _, _, h => nomatch h
  | a :: s, n, k, h => by
    unfold dOf valV
    rw [List.zipIdx_cons, List.map_cons]
    by_cases e : a = k
    · subst e
      rw [List.find?_cons_of_pos (by simp), ixM_cons, if_pos rfl]
      rfl
    · rw [List.find?_cons_of_neg (by simpa using e)]
      have := dOf_some (n := n + 1) ((List.mem_cons.mp h).resolve_left (Ne.symm e))
      unfold dOf valV at this
      rw [this, ixM_cons, if_neg e]
      congr 2
      omega
theorem dOf_len {s : List Mark} {n : Nat} : (dOf s n).length = s.length := by
  unfold dOf
  rw [List.length_map, List.length_zipIdx]
theorem dOf_snoc {s : List Mark} {k : Mark} : dOf s 0 ++ [(k, V.int (s.length : Int))] = dOf (s ++ [k]) 0 := by
  unfold dOf
  rw [List.zipIdx_append, List.map_append]
  simp
/-- the tuples of these marks stand there -/
def Marks (H : Hp) (vs : List V) (ks : List Mark) : Prop := vs.length = ks.length ∧ ∀ (i : Nat) (k : Mark), ks[i]? = some k → ∃ q, vs[i]? = some (.ref q) ∧ H q = some (.tup (k.map kV))
theorem Marks.same {H H' : Hp} {vs : List V} {ks : List Mark} (s : Same H H') (h : Marks H vs ks) : Marks H' vs ks := ⟨h.1, fun i k e => by
  obtain ⟨q, e1, e2⟩ := h.2 i k e
  exact ⟨q, e1, s _ _ e2⟩⟩
def spNumbered : Sp := fun vs H Q _ => ∃ (a : Addr) (xs : List V) (ks : List Mark), vs = [.ref a] ∧ H a = some (.lst xs) ∧ Marks H xs ks ∧ ks.length ≤ 100000 ∧
  ∀ (p : Addr) (H' : Hp), Same H H' → H p = none → H' p = some (.lst ((Wk.nums ks).map fun n : Nat => V.int (n : Int))) → Q (.ref p) H'
section
variable {P : Program} {w : World} {K : PySem.W.Frag} {mg : Str → Option Value} {base : Heap}
variable {fII fIW : Addr}
theorem sc_numbered : FnScope ["marks", "numbers", "mark"] ["marks"] (defScope s_numbered) := ⟨rfl, rfl, rfl, by decide +kernel, rfl, by decide +kernel, by decide +kernel⟩
theorem ok_numbered {f : Addr} {fd : FuncData} (F : Fun K "numbered" "numbered" s_numbered f fd) (T : TxtF K mg fII fIW) : FnOk P w K mg base CX0 1 f fd ["marks"] spNumbered := by
  refine F.ok sc_numbered (fun vs H Q E h => ?_) (fun cdv A outer s H vs Q E hr h => ?_)
  · obtain ⟨a, xs, ks, rfl, _⟩ := h
    rfl
  · obtain ⟨a, xs, ks, rfl, ha, mk, big, k⟩ := h
    refine ⟨_, (pss_cons (ps_set (i := 1) sc_numbered.nd rfl (Or.inr rfl) pe_dnewT)
      (pss_one (ps_ret (pe_lc (own := [("mark", 2)]) (g := (gName 2)) (tt := tYes) rfl sc_numbered.nd (pi_list (pv 0)) (blkOk_by (own := [("mark", 2)]) (N := ["marks", "numbers", "mark"]) (sc := defScope s_numbered) (by decide +kernel)) (fun _ _ _ _ _ => (pg_name (i := 2) sc_numbered.nd rfl (Or.inl rfl))) (fun _ _ _ _ _ => pts_nil) (fun _ _ _ _ _ => (pe_dsetdT (hu_of hr) (pv 1) (pv 2) (pe_callB (show CallR _ (.builtin "len") rLenT from call_len_dT) (by rfl) T.b_len PySem.boot_len (pa_cons (pv 1) pa_nil)) ⟨by rfl, by rfl, by rfl, by rfl⟩)))))), ?_⟩
    refine fun d nd => ⟨_, rfl, a, rfl, ⟨xs, SqL.of ?_⟩, fun D nD => ?_⟩
    · exact sameNew nd _ _ _ ha
    have s1 : Same H (upd H d (.dT [])) := sameNew nd _
    have e1 : upd H d (.dT []) d = some (.dT []) := upd_same
    generalize upd H d (.dT []) = H1 at nD s1 e1 ⊢
    have ndD : d ≠ D := fun z => by rw [z, nD] at e1; cases e1
    refine lc_it (walk_list (xs := xs)) (fun i Hx => Same H Hx ∧ Hx d = some (.dT (dOf (Wk.seen (ks.take i)) 0)) ∧ Hx D = some (.lst (((Wk.nums ks).take i).map fun n : Nat => V.int (n : Int)))) ⟨fun b o e => ?_, ?_, upd_same⟩ (fun i Hx _ z => SqL.of (z.1 _ _ ha)) (fun i x Ha Hc hi z1 z2 => ?_) (fun Hx z => ?_)
    · rw [upd_ne (ne_of_none e (none_of s1 nD))]
      exact s1 _ _ e
    · rw [upd_ne ndD]
      exact e1
    · obtain ⟨rfl, hx⟩ := z2
      obtain ⟨sx, ed, eD⟩ := z1
      have hi2 : i < ks.length := by rw [← mk.1]; exact hi
      obtain ⟨kk, ek⟩ : ∃ kk, ks[i]? = some kk := ⟨_, List.getElem?_eq_getElem hi2⟩
      obtain ⟨q, eq, hq⟩ := mk.2 i kk ek
      rw [hx] at eq
      obtain rfl := Option.some.inj eq
      have sl : (Wk.seen (ks.take i)).length ≤ 100000 := by
        have h1 : (Wk.seen (ks.take i)).length ≤ (ks.take i).length := by
          have := (Wk.grp_nums (ks.take i)).few
          exact this
        rw [List.length_take] at h1
        omega
      have en : (Wk.nums ks)[i]? = some (Wk.numOf ks kk) := by
        unfold Wk.nums
        rw [List.getElem?_map, ek]
        rfl
      have nl : ((Wk.nums ks).take i).length ≤ 100000 := by
        rw [List.length_take]
        omega
      have step : ∀ (Hn : Hp), Hn D = some (.lst (((Wk.nums ks).take i).map fun n : Nat => V.int (n : Int))) → Same H Hn → Hn d = some (.dT (dOf (Wk.seen (ks.take (i + 1))) 0)) →
          ∃ acc, Hn D = some (.lst acc) ∧ acc.length < sizeLine ∧ Same H (upd Hn D (.lst (acc ++ [.int (Wk.numOf ks kk : Int)]))) ∧ upd Hn D (.lst (acc ++ [.int (Wk.numOf ks kk : Int)])) d = some (.dT (dOf (Wk.seen (ks.take (i + 1))) 0)) ∧ upd Hn D (.lst (acc ++ [.int (Wk.numOf ks kk : Int)])) D = some (.lst (((Wk.nums ks).take (i + 1)).map fun n : Nat => V.int (n : Int))) := fun Hn h1 h2 h3 => by
        refine ⟨_, h1, by rw [List.length_map, sizeLine_eq]; omega, fun b o e => ?_, ?_, ?_⟩
        · rw [upd_ne (ne_of_none e (none_of s1 nD))]
          exact h2 _ _ e
        · rw [upd_ne ndD]
          exact h3
        · rw [upd_same, List.take_add_one, en, List.map_append]
          rfl
      refine ⟨rfl, _, rfl, d, rfl, .inr ⟨_, .inl ed⟩, _, rfl, _, rfl, d, _, rfl, ed, _, kk, q, ed, rfl, sx _ _ hq, by rw [dOf_len, sizeLine_eq]; omega, fun v hv => ?_, fun hn => ?_⟩
      · by_cases m : kk ∈ Wk.seen (ks.take i)
        · rw [dOf_some m, Nat.zero_add] at hv
          obtain rfl := Option.some.inj hv
          rw [show ixM kk (Wk.seen (ks.take i)) = Wk.numOf ks kk from (Wk.numOf_old m).symm]
          refine step Hc eD sx ?_
          rw [Wk.seen_step ek]
          unfold Wk.push
          rw [if_pos m]
          exact ed
        · rw [dOf_none m] at hv
          cases hv
      · have m : kk ∉ Wk.seen (ks.take i) := fun z => by
          rw [dOf_some z] at hn
          cases hn
        rw [dOf_len, ← Wk.numOf_new ek m]
        refine step _ ?_ (fun b o e => ?_) ?_
        · rw [upd_ne (Ne.symm ndD)]
          exact eD
        · rw [upd_ne (ne_of_none e nd)]
          exact sx _ _ e
        · rw [upd_same, putK_new _ (dOf_none m), Wk.numOf_new ek m, dOf_snoc, Wk.seen_step ek]
          unfold Wk.push
          rw [if_neg m]
    · obtain ⟨sx, ed, eD⟩ := z
      have e : (Wk.nums ks).take xs.length = Wk.nums ks := List.take_of_length_le (by
        unfold Wk.nums
        rw [List.length_map, mk.1]
        exact Nat.le_refl _)
      rw [e] at eD
      exact k D Hx sx (none_of s1 nD) eD
end
end Mine

set_option maxRecDepth 100000
set_option maxHeartbeats 2000000
/-! lambdas as values: made, kept, called by whoever holds them. The captured cells stand in a ground that is wider than the law's -/
namespace LamB
open PySem PySem.Spec PyProof.Rows L2 LamX NdefX
/-- a lambda: its words, its cells, its code object, its defaults -/
structure LF where
  qual : Str
  params : Arguments
  body : Expr
  scope : Scope
  cl : List (Str × Addr)
  c : Addr
  dV : Value
abbrev LF.obj (F : LF) (doc pm ctv : Value) : Obj := { cls := .type "function", data := .func (PySem.W.kdv_fn "<lambda>" F.qual F.params (.expr F.body) F.scope F.cl F.dV doc pm (.ref F.c) ctv) }
abbrev LF.nf (F : LF) : NF := ⟨"<lambda>", F.qual, F.params, [], F.scope, F.cl, F.c⟩
def LamO (f : Addr) (F : LF) : HO := .ext fun h => ∃ doc pm ctv : Value, h.get? f = some (F.obj doc pm ctv)
theorem lamO_at {P : Program} {w : World} {H : Hp} {h : Heap} {f : Addr} {F : LF} (ok : HOk P w H h) (e : H f = some (LamO f F)) : ∃ doc pm ctv : Value, h.get? f = some (F.obj doc pm ctv) := (ok f _ e).1
/-! ### a wider ground -/
structure Up (B B' : Heap) : Prop where
  keep : ∀ a o, B.get? a = some o → B'.get? a = some o
  size : B.objs.size ≤ B'.objs.size
theorem Up.refl (B : Heap) : Up B B := ⟨fun _ _ e => e, Nat.le_refl _⟩
theorem none_down {B B' : Heap} (u : Up B B') {L : Addr} (e : B'.get? L = none) : B.get? L = none := by
  cases q : B.get? L with
  | none => rfl
  | some o =>
    rw [u.keep L o q] at e
    cases e
theorem frames_down {B B' : Heap} (u : Up B B') {h : Heap} : ∀ {l : List Env}, h.FunFrames B' l → h.FunFrames B l
  | [], _ => trivial
  | env :: l, ⟨k, ⟨L, o, e1, e2, e3, e4⟩, r⟩ => ⟨k, ⟨L, o, e1, none_down u e2, e3, e4⟩, frames_down u r⟩
section
variable {P : Program} {w : World} {K : PySem.W.Frag} {mg : Str → Option Value} {B B' : Heap}
theorem Mod.up (m : Mod K mg B) (u : Up B B') : Mod K mg B' :=
  ⟨m.kin.keeps u.keep, m.glob.keeps u.keep, m.blt.elim fun mb q => ⟨mb, q.1.keeps u.keep, q.2⟩, m.nolimit.keeps u.keep⟩
theorem env_down {A : Around} {outer : List Env} {s : Shared} {H : Hp} (e : Env0 P w K mg B' A outer s H) (u : Up B B') (m : Mod K mg B) : Env0 P w K mg B A outer s H :=
  ⟨e.frames, m, fun b o q => e.bs b o (u.keep b o q), Nat.le_trans u.size e.bsz, frames_down u e.funs, e.frf, e.hok, e.bare⟩
theorem FnOk_up {CX : CXT} {k : Nat} {f : Addr} {fd : FuncData} {ps : List Str} {sp : Sp} (F : FnOk P w K mg B CX k f fd ps sp) (u : Up B B') (m : Mod K mg B) : FnOk P w K mg B' CX k f fd ps sp :=
  ⟨F.len, fun A outer s H args us vs Q E hr e => F.run A outer s H args us vs Q E hr (env_down e u m)⟩
end
/-- what captured cells hold, in the ground -/
structure CB (B : Heap) (cl : List (Str × Addr)) (fr : List Str) (ws : List (Option V)) : Prop where
  len : ws.length = fr.length
  all : ∀ y c, cl.lookup y = some c → ∃ v, B.IsCell c v
  inj : ∀ x y c, cl.lookup x = some c → cl.lookup y = some c → x = y
  has : ∀ (i : Nat) (y : Str), fr[i]? = some y → ∃ c, cl.lookup y = some c ∧ ∀ v, ws[i]? = some (some v) → ∃ u, L2.RelV v u ∧ B.IsCell c (some u)
theorem CB.at {B h : Heap} {H : Hp} {cl : List (Str × Addr)} {fr : List Str} {ws : List (Option V)} (C : CB B cl fr ws) (bs : ∀ b o, B.get? b = some o → h.get? b = some o ∧ H b = none) : CellsAt cl fr ws h H :=
  ⟨C.len, fun y c e => by
    obtain ⟨v, o, e1, e2⟩ := C.all y c e
    exact ⟨(bs c o e1).2, v, o, (bs c o e1).1, e2⟩, C.inj, fun i y e => by
    obtain ⟨c, e1, e2⟩ := C.has i y e
    refine ⟨c, e1, fun v q => ?_⟩
    obtain ⟨u, r, o, e3, e4⟩ := e2 v q
    exact ⟨u, r, o, (bs c o e3).1, e4⟩⟩
/-- the value at f answers a call by the promise sp, wherever G is true of the heap -/
structure Acts (P : Program) (w : World) (K : PySem.W.Frag) (mg : Str → Option Value) (B : Heap) (CX : CXT) (k : Nat) (f : Addr) (G : Hp → Prop) (sp : Sp) : Prop where
  fn : ∀ (H : Hp) (h : Heap), HOk P w H h → G H → PySem.W.FnAt f h
  run : ∀ (A : Around) (outer : List Env) (s : Shared) (H : Hp) (us : List Value) (vs : List V) (Q : VK) (E : XK), Room k A → Env0 P w K mg B A outer s H → G H → Vals vs us → sp vs H Q E →
    codeAny (model P w) A (.call (.ref f) ⟨us, []⟩) (CR CX outer P w H s Q E) s
/-- the heap holds the lambda, its code and its defaults -/
def LamH (f : Addr) (F : LF) (D : Hp → Prop) (H : Hp) : Prop := H f = some (LamO f F) ∧ H F.c = some (CodeO F.c F.qual) ∧ D H
section
variable {CX : CXT} {P : Program} {w : World} {K : PySem.W.Frag} {mg : Str → Option Value} {B : Heap} {N ps fr : List Str} {F : LF} {f : Addr} {k n : Nat} {ws : List (Option V)} {dvs : List V} {D : Hp → Prop} {tb : XK → TE}
/-- THE RULE: a lambda by its body -/
theorem acts_of (S : NScope N ps fr F.scope) (C : CB B F.cl fr ws) (hn : n + dvs.length = ps.length)
    (hb : ∀ (doc pm ctv : Value) (s : Shared) (H : Hp) (us : List Value), HOk P w H s.heap → D H → us.length = n → ∃ ds, Vals dvs ds ∧ BindsTo s (PySem.W.kdv_fn "<lambda>" F.qual F.params (.expr F.body) F.scope F.cl F.dV doc pm (.ref F.c) ctv) ⟨us, []⟩ (ps.zip (us ++ ds)))
    (hbody : ∀ (A : Around) (outer : List Env) (s : Shared) (H : Hp) (E : XK), Room k (A.deeper (envF F.nf f s.heap.objs.size)) → PE (ncx CX P w K mg B N F.nf f A outer s H E) F.body (tb E)) :
    Acts P w K mg B CX (k + 1) f (LamH f F D) (fun vs H Q E => vs.length = n ∧ tb E (startF N (vs ++ dvs) ws) H Q) := by
  refine ⟨fun H h ok g => ?_, fun A outer s H us vs Q E hr e0 g r sp => ?_⟩
  · obtain ⟨doc, pm, ctv, e⟩ := lamO_at ok g.1
    exact ⟨_, _, _, _, e⟩
  · obtain ⟨hl, ht⟩ := sp
    obtain ⟨doc, pm, ctv, e⟩ := lamO_at e0.hok g.1
    have noLim : s.heap.NoLimit := e0.mod.nolimit.keeps fun b o q => (e0.bs b o q).1
    obtain ⟨ds, rd, bd⟩ := hb doc pm ctv s H us e0.hok g.2.2 (r.length.symm.trans hl)
    have r2 : Vals (vs ++ dvs) (us ++ ds) := r.append rd
    have hlen : (vs ++ dvs).length = ps.length := by rw [List.length_append, hl]; exact hn
    refine PySem.W.kla_callFunE hr.depth e rfl S.co S.gen rfl (codeO_at e0.hok g.2.1) ?_
    refine bd _ _ _ _ ?_
    refine wpAny_newFunctionEnv S.nocell (fun ⟨y, _⟩ hy => S.par y (List.of_mem_zip hy).1) (fun h₁ ns sb => ⟨noLim.fresh _ sb, ?_⟩) S.kind
    show codeAny _ _ (.expr F.body (envF F.nf f s.heap.objs.size)) _ _
    have kp : ∀ b o, s.heap.get? b = some o → h₁.get? b = some o := fun b o q => sb.extBut b o (Nat.ne_of_lt (Heap.lt_size q)) (Heap.get?_push_of_some _ q)
    have J : Inv (ncx CX P w K mg B N F.nf f A outer s H E) [] (startF N (vs ++ dvs) ws) H { s with heap := h₁, toks := s.toks + (ps.zip (us ++ ds)).length } := inv_startN (F := F.nf) S hr.hd e0 hlen r2 (C.at e0.bs) ns kp
    refine PySem.W.kla_codeExpr (wpAny_mono ((hbody A outer s H E (hr.deeper _)).run [] _ _ H Q J ht) (fun v s' q => ?_) fun _ _ q => q)
    obtain ⟨x, H', J', rv, q⟩ := q
    exact ⟨x, H', J'.os, J'.bare, J'.base, J'.hok, rv, q⟩
end
/-! ### the call -/
/-- x(..), the i-th slot holding something that acts -/
def tAct (P : Program) (w : World) (K : PySem.W.Frag) (mg : Str → Option Value) (B : Heap) (CX : CXT) (k i : Nat) (E : XK) (t : TA) : TE := fun σ H Q => ∃ (f : Addr) (G : Hp → Prop) (sp : Sp), σ[i]? = some (some (.ref f)) ∧ Acts P w K mg B CX k f G sp ∧ G H ∧
  t σ H fun vs H1 => G H1 ∧ sp vs H1 Q E
section
variable {X : Cx} {CX : CXT} {i j k : Nat} {x : Str} {E : XK} {t : TA} {e : Expr} {es : List Expr} {p pos : Pos} {pins : List (Addr × Obj)} {σ : L2.St} {H : Hp} {s : Shared}
theorem run_act {Q : VK} {f : Addr} {G : Hp → Prop} {sp : Sp} {us : List Value} {vs : List V} (a : Acts X.prog X.w X.K X.mg X.base CX k f G sp) (hr : Room k X.A) (hx : Passes CX X E) (I : Inv X pins σ H s) (g : G H) (r : Vals vs us) (q : sp vs H Q E) :
    wpAny (model X.prog X.w) X.A (call (.ref f) us) (EP X pins σ Q) X.xe s := by
  refine wpAny_call (codeAny_mono (a.run X.A X.stack s H us vs Q E hr I.env0 g r q) fun res s' z => ?_)
  match res, z with
  | .error _, z => exact hx pins σ H s _ s' I z
  | .ok (.ret _), z => exact I.after z
theorem pe_act (hr : Room k X.A) (hx : Passes CX X E) (hN : X.N[i]? = some x) (hv : Vis X.env.scope x) (ha : PA X (e :: es) t)
    (hd : (x == ("__debug__" : Str)) = false := by decide) (hcd : (x == ("__classdict__" : Str)) = false := by decide)
    (he : starEach (e :: es) X.env = (false, eval e X.env) :: starEach es X.env := by rfl) (hpl : (backTo pos (starEach es X.env)).any (·.1) = false := by rfl) :
    PE X (.Call (.Name x p) (e :: es) [] pos) (tAct X.prog X.w X.K X.mg X.base CX k i E t) := by
  refine ⟨fun pins s σ H Q I ⟨f, G, sp, hs, a, g, ht⟩ => ?_⟩
  refine wpAny_Call_Name_kw (thn ((pe_var (pos := p) hN hv hd hcd).run pins s σ H (fun v H1 => v = .ref f ∧ H1 = H) I ⟨.ref f, hs, rfl, rfl⟩) fun u s1 ⟨v, H1, I1, r1, z⟩ => ?_)
  obtain ⟨z1, z2⟩ := z
  subst z1
  rw [z2] at I1
  obtain rfl : u = Value.ref f := r1
  refine PySem.W.callWith_F (first := []) (a.fn H _ I1.hok g) (thn (ha.run pos pins s1 σ H _ I1 ht) fun us s2 ⟨vs, H2, I2, r, g2, q⟩ => ⟨a.fn H2 _ I2.hok g2, ?_⟩) he hpl
  exact run_act a hr hx I2 g2 r q
theorem pe_act0 (hr : Room k X.A) (hx : Passes CX X E) (hN : X.N[i]? = some x) (hv : Vis X.env.scope x)
    (hd : (x == ("__debug__" : Str)) = false := by decide) (hcd : (x == ("__classdict__" : Str)) = false := by decide) :
    PE X (.Call (.Name x p) [] [] pos) (tAct X.prog X.w X.K X.mg X.base CX k i E tNil) := by
  refine ⟨fun pins s σ H Q I ⟨f, G, sp, hs, a, g, g2, q⟩ => ?_⟩
  refine wpAny_Call_Name_kw (thn ((pe_var (pos := p) hN hv hd hcd).run pins s σ H (fun v H1 => v = .ref f ∧ H1 = H) I ⟨.ref f, hs, rfl, rfl⟩) fun u s1 ⟨v, H1, I1, r1, z⟩ => ?_)
  obtain ⟨z1, z2⟩ := z
  subst z1
  rw [z2] at I1
  obtain rfl : u = Value.ref f := r1
  refine PySem.W.callWith_F0 (first := []) (a.fn H _ I1.hok g) ?_
  exact run_act a hr hx I1 g2 .nil q
end
/-- .. in a try: what is wanted of an exception hangs on the slots -/
def tActS (P : Program) (w : World) (K : PySem.W.Frag) (mg : Str → Option Value) (B : Heap) (CX : CXT) (k i : Nat) (E : L2.St → XK) : TE := fun σ H Q => ∃ (f : Addr) (G : Hp → Prop) (sp : Sp), σ[i]? = some (some (.ref f)) ∧ Acts P w K mg B CX k f G sp ∧ G H ∧ sp [] H Q (E σ)
section
variable {X : Cx} {CX : CXT} {i j k : Nat} {x : Str} {E : L2.St → XK} {p pos : Pos}
theorem pe_actS (hr : Room k X.A) (hx : ∀ σ, PassesAt CX X σ (E σ)) (hN : X.N[i]? = some x) (hv : Vis X.env.scope x)
    (hd : (x == ("__debug__" : Str)) = false := by decide) (hcd : (x == ("__classdict__" : Str)) = false := by decide) :
    PE X (.Call (.Name x p) [] [] pos) (tActS X.prog X.w X.K X.mg X.base CX k i E) := by
  refine ⟨fun pins s σ H Q I ⟨f, G, sp, hs, a, g, q⟩ => ?_⟩
  refine wpAny_Call_Name_kw (thn ((pe_var (pos := p) hN hv hd hcd).run pins s σ H (fun v H1 => v = .ref f ∧ H1 = H) I ⟨.ref f, hs, rfl, rfl⟩) fun u s1 ⟨v, H1, I1, r1, z⟩ => ?_)
  obtain ⟨z1, z2⟩ := z
  subst z1
  rw [z2] at I1
  obtain rfl : u = Value.ref f := r1
  refine PySem.W.callWith_F0 (first := []) (a.fn H _ I1.hok g) ?_
  refine wpAny_call (codeAny_mono (a.run X.A X.stack s1 H [] [] Q (E σ) hr I1.env0 g .nil q) fun res s' z => ?_)
  match res, z with
  | .error _, z => exact hx σ _ _ _ _ _ I1 z
  | .ok (.ret _), z => exact I1.after z
end
/-! ### the making -/
section
variable {X : Cx} {pins : List (Addr × Obj)} {σ : L2.St} {H : Hp} {s : Shared}
theorem inv_lam {F : LF} {t' : Nat} {doc pm ctv : Value} (I : Inv X pins σ H s) :
    Inv X pins σ (upd H s.heap.objs.size (LamO s.heap.objs.size F)) { s with heap := s.heap.push (F.obj doc pm ctv), toks := t' } := by
  have e : (s.heap.push (F.obj doc pm ctv)).get? s.heap.objs.size = some (F.obj doc pm ctv) := Heap.get?_push_size _ rfl
  exact I.laid (a := s.heap.objs.size) (fun b u q => Heap.get?_push_of_some _ q) (Nat.le_refl _) ⟨⟨doc, pm, ctv, e⟩, ⟨_, e⟩, fun h1 h2 ⟨a, b, c, z⟩ st => ⟨a, b, c, st _ z⟩⟩
/-- all but the object at P stays -/
def ButT (P : Addr) (H H' : Hp) : Prop := ∀ b o, b ≠ P → H b = some o → H' b = some o
theorem ButT.refl (P : Addr) (H : Hp) : ButT P H H := fun _ _ _ e => e
theorem ButT.trans {P : Addr} {H H1 H2 : Hp} (a : ButT P H H1) (b : ButT P H1 H2) : ButT P H H2 := fun c o n e => b c o n (a c o n e)
theorem ButT.of {P : Addr} {H H' : Hp} (s : Same H H') : ButT P H H' := fun b o _ e => s b o e
theorem lam_tail {T : List (Addr × Str)} {c P : Addr} {params : Arguments} {body : Expr} {scope : Scope} {pos : Pos} {dV : Value} {E Q : Value → Shared → Prop} (I : Inv X pins σ H s) (TB : TabB X.base X.mg c P) (hcode : X.env.code = .ref c)
    (hm : (P, X.env.qual ++ "<lambda>") ∈ T) (hu : ∀ p ∈ T, p.1 = P → p.2 = X.env.qual ++ "<lambda>") (hT : Tabs T H) (hfree : ∀ y ∈ scope.names, y.2 = .free → ∃ c, X.env.cells.lookup y.1 = some c)
    (go : ∀ (f c' : Addr) (H1 : Hp) (s' : Shared), Inv X pins σ H1 s' → ButT P H H1 → Tabs T H1 → H f = none → H1 f = some (LamO f ⟨X.env.qual ++ "<lambda>", params, body, scope, cloFrom X.env.cells scope.names [], c', dV⟩) → H1 c' = some (CodeO c' (X.env.qual ++ "<lambda>")) → Q (.ref f) s') :
    wpAny (model X.prog X.w) X.A (makeTail "<lambda>" (X.env.qual ++ "<lambda>") params (.expr body) scope X.env dV .none none pos pos.line) Q E s := by
  obtain ⟨qs, tabP, trip, names⟩ := hT _ hm
  have bP : s.heap.BuiltinsAt X.mg P := TB.bm.keeps I.bk
  have atP : s.heap.get? P = some { cls := .none, data := .fields qs } := I.hok P _ tabP
  cases hc : codeAmong pos qs.toList with
  | none =>
    refine PySem.W.kdv_makeTail (mg := X.mg) (c := c) (P := P) (ps := qs) (closure_ok hfree) I.ok.glob (I.mod.glob.keeps I.bk) hcode (TB.code.keeps I.bk) atP trip hc TB.gP bP fun c' ctv doc h' tk ext ge lt rec tab => ?_
    obtain ⟨c2, oc, fs, tq, e2, e3, e4, e5⟩ := rec
    cases e2
    have newC : H c' = none := I.hok.fresh ge
    have J1 := inv_table (t' := tk) (more := #[rawInt pos.line, rawInt pos.col, .ref c']) (h' := h') I tabP (fun b o nb q => ext b o nb q) tab ge ⟨oc, fs, tq, e3, e4, e5⟩
    generalize hG : upd (upd H P (.tbl (qs ++ #[rawInt pos.line, rawInt pos.col, .ref c']))) c' (CodeO c' (X.env.qual ++ "<lambda>")) = G at J1
    have out : ExtN H G := fun b o q nt => by
      rw [← hG, upd_ne (ne_of_none q newC), upd_ne (fun z => nt qs (Option.some.inj (q.symm.trans (by rw [z]; exact tabP))))]
      exact q
    have outP : ButT P H G := fun b o nb q => by
      rw [← hG, upd_ne (ne_of_none q newC), upd_ne nb]
      exact q
    have atC : G c' = some (CodeO c' (X.env.qual ++ "<lambda>")) := by rw [← hG]; exact upd_same
    have tabs : Tabs T G := fun p hp => by
      by_cases hb : p.1 = P
      · rw [hu p hp hb, hb]
        refine ⟨_, by rw [← hG, upd_ne (ne_of_none tabP newC), upd_same], by rw [Array.toList_append]; exact PySem.TriplesOk_snoc _ _ _ _ trip, fun p' cv q => ?_⟩
        rw [Array.toList_append] at q
        rcases among_app _ trip q with z | z
        · obtain ⟨c0, z1, z2⟩ := names p' cv z
          exact ⟨c0, z1, out _ _ z2 codeO_ne⟩
        · exact ⟨c', z, atC⟩
      · obtain ⟨qs', z1, z2, z3⟩ := hT p hp
        refine ⟨qs', by rw [← hG, upd_ne (ne_of_none z1 newC), upd_ne hb]; exact z1, z2, fun p' cv q => ?_⟩
        obtain ⟨c0, y1, y2⟩ := z3 p' cv q
        exact ⟨c0, y1, out _ _ y2 codeO_ne⟩
    have newF := J1.hok.fresh (Nat.le_refl _)
    have J2 := inv_lam (F := ⟨X.env.qual ++ "<lambda>", params, body, scope, cloFrom X.env.cells scope.names [], c', dV⟩) (t' := tk) (doc := doc) (pm := (X.mg "__name__").getD .none) (ctv := ctv) J1
    exact go h'.objs.size c' _ _ J2 (fun b o nb q => (upd_ne (ne_of_none (outP b o nb q) newF)).trans (outP b o nb q)) (tabs.ext fun b o q => (upd_ne (ne_of_none q newF)).trans q)
      (I.hok.fresh (Nat.le_trans ge (Nat.le_of_lt lt))) upd_same ((upd_ne (Nat.ne_of_lt lt)).trans atC)
  | some cv =>
    obtain ⟨c', e, atC⟩ := names pos cv hc
    subst e
    refine PySem.W.kdv_makeTailHit (mg := X.mg) (c := c) (P := P) (ps := qs) (closure_ok hfree) I.ok.glob (I.mod.glob.keeps I.bk) hcode (TB.code.keeps I.bk) atP trip hc bP fun ctv doc h' tk ext sz => ?_
    have J1 : Inv X pins σ H { s with heap := h', toks := tk } := I.kept ext
    have newF : H h'.objs.size = none := J1.hok.fresh (Nat.le_refl _)
    have J2 := inv_lam (F := ⟨X.env.qual ++ "<lambda>", params, body, scope, cloFrom X.env.cells scope.names [], c', dV⟩) (t' := tk) (doc := doc) (pm := (X.mg "__name__").getD .none) (ctv := ctv) J1
    exact go h'.objs.size c' _ _ J2 (fun b o _ q => (upd_ne (ne_of_none q newF)).trans q) (hT.ext fun b o q => (upd_ne (ne_of_none q newF)).trans q) newF upd_same ((upd_ne (ne_of_none atC newF)).trans atC)
/-- a lambda without defaults -/
def tLamV (P : Addr) (T : List (Addr × Str)) (mk : Addr → LF) : TE := fun _ H Q => Tabs T H ∧ ∀ (f c' : Addr) (H1 : Hp), ButT P H H1 → Tabs T H1 → H f = none → H1 f = some (LamO f (mk c')) → H1 c' = some (CodeO c' (mk c').qual) → Q (.ref f) H1
theorem pe_lamV {T : List (Addr × Str)} {c P : Addr} {params : Arguments} {body : Expr} {scope : Scope} {pos : Pos} (TB : TabB X.base X.mg c P) (hcode : X.env.code = .ref c)
    (hm : (P, X.env.qual ++ "<lambda>") ∈ T) (hu : ∀ p ∈ T, p.1 = P → p.2 = X.env.qual ++ "<lambda>") (L : ∀ y ∈ scope.names, y.2 = .free → X.env.scope.names.lookup y.1 = some .cell ∨ X.env.scope.names.lookup y.1 = some .free) (hdef : defaultsOf params X.env = ([], [])) :
    PE X (.Lambda params body scope pos) (tLamV P T fun c' => ⟨X.env.qual ++ "<lambda>", params, body, scope, cloFrom X.env.cells scope.names [], c', .none⟩) := by
  refine ⟨fun pins s σ H Q I ⟨hT, h⟩ => ?_⟩
  refine PySem.W.kla_eval hdef ?_
  rw [makeFunction_eq]
  simp only [List.zip_nil_right, List.filterMap_nil, List.isEmpty_nil, if_true, pure_bind]
  exact lam_tail I TB hcode hm hu hT (fun y hy z => (L y hy z).elim (fun q => I.ok.has _ (.inl q)) fun q => I.ok.has _ (.inr q)) fun f c' H1 s' J x1 x2 x3 x4 x5 => ⟨.ref f, H1, J, rfl, h f c' H1 x1 x2 x3 x4 x5⟩
/-- a lambda with one default -/
def tLamD (P : Addr) (T : List (Addr × Str)) (te : TE) (mk : Addr → Addr → LF) : TE := fun σ H Q => te σ H fun v H0 => Tabs T H0 ∧ ∀ (f c' t : Addr) (H1 : Hp), ButT P H0 H1 → Tabs T H1 → H0 t = none → H1 t = some (.tup [v]) → H0 f = none → H1 f = some (LamO f (mk t c')) → H1 c' = some (CodeO c' (mk t c').qual) → Q (.ref f) H1
theorem pe_lamD {T : List (Addr × Str)} {c P : Addr} {params : Arguments} {body e : Expr} {scope : Scope} {pos : Pos} {te : TE} (TB : TabB X.base X.mg c P) (hcode : X.env.code = .ref c)
    (hm : (P, X.env.qual ++ "<lambda>") ∈ T) (hu : ∀ p ∈ T, p.1 = P → p.2 = X.env.qual ++ "<lambda>") (L : ∀ y ∈ scope.names, y.2 = .free → X.env.scope.names.lookup y.1 = some .cell ∨ X.env.scope.names.lookup y.1 = some .free) (hd : params.defaults = [e]) (hk : params.kw_defaults = []) (he : PE X e te) :
    PE X (.Lambda params body scope pos) (tLamD P T te fun t c' => ⟨X.env.qual ++ "<lambda>", params, body, scope, cloFrom X.env.cells scope.names [], c', .ref t⟩) := by
  refine ⟨fun pins s σ H Q I h => ?_⟩
  refine PySem.W.kdv_lam (by rw [hd]; rfl) hk ?_
  rw [hd]
  refine PySem.W.kdv_all1 (thn (he.run pins s σ H _ I h) fun u s1 ⟨v, H0, J, r, hT, q⟩ => PySem.W.kdv_all0 ?_)
  rw [makeFunction_eq]
  simp only [List.zip_nil_right, List.filterMap_nil, List.isEmpty_nil, List.isEmpty_cons, if_true, pure_bind, Bool.false_eq_true, if_false]
  refine wpAny_bind (wpAny_newTextTuple ?_)
  have newT : H0 s1.heap.objs.size = none := J.hok.fresh (Nat.le_refl _)
  have atT : (s1.heap.push ({ cls := .type "tuple", data := .seq [u].toArray } : Obj)).get? s1.heap.objs.size = some ({ cls := .type "tuple", data := .seq [u].toArray } : Obj) := Heap.get?_push_size _ rfl
  have J1 : Inv X pins σ (upd H0 s1.heap.objs.size (.tup [v])) { s1 with heap := s1.heap.push ({ cls := .type "tuple", data := .seq [u].toArray } : Obj), toks := s1.toks } :=
    J.laid (t' := s1.toks) (fun b o q => Heap.get?_push_of_some _ q) (Nat.le_refl _) ⟨by show 1 ≤ sizeLine; decide, [u], .cons r .nil, _, atT, rfl, _, rfl⟩
  have grow : ∀ b o, H0 b = some o → upd H0 s1.heap.objs.size (.tup [v]) b = some o := fun b o q => (upd_ne (ne_of_none q newT)).trans q
  refine lam_tail J1 TB hcode hm hu (hT.ext grow) (fun y hy z => (L y hy z).elim (fun q => I.ok.has _ (.inl q)) fun q => I.ok.has _ (.inr q)) fun f c' H1 s' J2 x1 x2 x3 x4 x5 => ⟨.ref f, H1, J2, rfl, q f c' _ H1 (fun b o nb z => x1 b o nb (grow b o z)) x2 newT (x1 _ _ ?_ upd_same) ?_ x4 x5⟩
  · intro z
    obtain ⟨qs, z1, _⟩ := hT _ hm
    have z1 : H0 P = some (.tbl qs) := z1
    rw [← z, newT] at z1
    cases z1
  · cases z : H0 f with
    | none => rfl
    | some o =>
      rw [grow f o z] at x3
      cases x3
end
end LamB

set_option maxRecDepth 100000
set_option maxHeartbeats 2000000
/-! a list comprehension whose element knows the state at which the block begins (what cells hold that the block itself doesn't name) -/
namespace LamB
open PySem PySem.Spec PyProof.Rows L2 LamX NdefX
abbrev blkCells (X : Cx) (s : Shared) (scope : Scope) : List (Str × Addr) := cellsFrom (s.heap.objs.size + 1) scope.names (cloFrom X.env.cells scope.names [])
/-- the block's context when it begins at s -/
abbrev blkI (X : Cx) (s : Shared) (H : Hp) (scope : Scope) (C : Addr) (fp : List Addr) : Cx := X.blk s H scope (compEnvC scope (blkCells X s scope) C X.env) fp
theorem pe_lcI {X : Cx} {elt tg iter : Expr} {scope : Scope} {own : List (Str × Nat)} {pos : Pos} {wi : TI} {g : TG} {te : L2.St → TE} (hc : X.calm = true) (hN : X.N.Nodup) (hi : PI X tg iter wi) (ok : BlkOk X.N X.env.scope scope own)
    (hg : ∀ (s : Shared) (H : Hp) (C : Addr) (cl : List (Str × Addr)) (fp : List Addr), PG (X.blk s H scope (compEnvC scope cl C X.env) fp) tg g)
    (he : ∀ (pins : List (Addr × Obj)) (σ : L2.St) (s : Shared) (H : Hp) (C : Addr) (fp : List Addr), Inv X pins σ H s → (∀ b ∈ fp, FpOk X pins H b) → PE (blkI X s H scope C fp) elt (te σ)) (hs : ∀ x, foldedSetIterable iter X.env x = pure x := by intro _; rfl) :
    PE X (.ListComp elt [⟨tg, iter, [], 0⟩] scope pos) (fun σ H Q => tLc wi g tYes (te σ) (own.map (·.2)) σ H Q) := by
  refine ⟨fun pins s σ H Q I0 reading => ?_⟩
  rw [eval_ListComp]
  have frees : ∀ y ∈ scope.names, y.2 = .free → ∃ c, X.env.cells.lookup y.1 = some c := fun y hy z => (ok.free y hy z).elim (fun q => I0.ok.has _ (.inl q)) fun q => I0.ok.has _ (.inr q)
  refine wpAny_comprehension_free (use := none) rfl hs (closure_ok frees) ok.kind (fun y hy z => by rw [ok.uniq y hy, z]) (thn (hi.run pins s σ H _ I0 reading) fun _ sa ha => thn ha fun _ sb hb => ?_)
  obtain ⟨it, fp, tn, J, Hb, rfl, Ib, TT, stb, fpb, rest⟩ := hb
  refine wpAny_newObj_type (newEnv_comp ?_) (Nat.zero_le _)
  obtain ⟨L, hL⟩ : ∃ L, L = sb.heap.objs.size := ⟨_, rfl⟩
  have freshL : Hb L = none := Ib.hok.fresh (Nat.le_of_eq hL.symm)
  obtain ⟨W, ⟨m0, wBegin⟩, turns⟩ := rest L freshL
  rw [← hL]
  obtain ⟨sc, hsc⟩ : ∃ sc : Shared, sc = { sb with heap := sb.heap.push { cls := .type "list", data := .seq ([] : List Value).toArray } } := ⟨_, rfl⟩
  have heapC : sc.heap = sb.heap.push { cls := .type "list", data := .seq ([] : List Value).toArray } := by rw [hsc]
  have more : ∀ b o, sb.heap.get? b = some o → sc.heap.get? b = some o := fun b o q => by rw [heapC]; exact Heap.get?_push_of_some _ q
  obtain ⟨Hc, hHc⟩ : ∃ Hc, Hc = upd Hb L (.lst []) := ⟨_, rfl⟩
  have Ic : Inv X pins σ Hc sc := by
    rw [hHc, hsc]
    exact Ib.laid (t' := sb.toks) (fun b o q => Heap.get?_push_of_some _ q) (Nat.le_of_eq hL.symm) ⟨Nat.zero_le _, [], 0, .nil, by rw [hL]; exact Heap.get?_push_size _ rfl⟩
  rw [← hHc] at wBegin
  have small : ∀ b ∈ fp, b < sb.heap.objs.size := fun b hb => (TT.obj _ _ stb b hb).elim fun o q => Heap.lt_size q.1
  have fpc : ∀ b ∈ fp, FpOk X pins Hc b ∧ b < sc.heap.objs.size := fun b hb =>
    ⟨⟨by rw [hHc, upd_ne (by rw [hL]; exact Nat.ne_of_lt (small b hb))]; exact (fpb b hb).1, (fpb b hb).2⟩, by rw [heapC, Heap.size_push]; exact Nat.lt_succ_of_lt (small b hb)⟩
  have stc : tn 0 sc.heap := TT.keep _ _ _ stb fun b _ o q => more b o q
  have Id := block_start Ic ok hN fpc
  have pg := hg sc Hc sc.heap.objs.size (blkCells X sc scope) fp
  have pe := he pins σ sc Hc sc.heap.objs.size fp Ic fun b hb => (fpc b hb).1
  show codeAny _ _ (.compStart (.ListComp elt [⟨tg, iter, [], 0⟩] scope pos) 0 (.ref it) (.ref L) (compEnvC scope (cellsFrom (({ sb with heap := sb.heap.push { cls := .type "list", data := .seq ([] : List Value).toArray } } : Shared).heap.objs.size + 1) scope.names (cloFrom X.env.cells scope.names [])) _ X.env)) _ _
  rw [← hsc]
  obtain ⟨ce, hce⟩ : ∃ ce, ce = compEnvC scope (blkCells X sc scope) sc.heap.objs.size X.env := ⟨_, rfl⟩
  have ceL : ce.locals = sc.heap.objs.size := by rw [hce]; rfl
  rw [← hce] at Id pg
  rw [show blkI X sc Hc scope sc.heap.objs.size fp = X.blk sc Hc scope ce fp by rw [hce]] at pe
  show codeAny _ _ (.compStart (.ListComp elt [⟨tg, iter, [], 0⟩] scope pos) 0 (.ref it) (.ref L) (compEnvC scope (blkCells X sc scope) sc.heap.objs.size X.env)) (compPost (model X.prog X.w) X.A X.xe none _ (.ref L) sc.heap.objs.size) { sc with heap := pushCells (sc.heap.push { cls := .type "dict", data := .dict #[] }) scope.names }
  rw [← hce]
  obtain ⟨sd, hsd⟩ : ∃ sd : Shared, sd = { sc with heap := pushCells (sc.heap.push { cls := .type "dict", data := .dict #[] }) scope.names } := ⟨_, rfl⟩
  rw [← hsd] at Id ⊢
  have std : tn 0 sd.heap := TT.keep _ _ _ stc fun b _ o q => by rw [hsd]; exact pushCells_keeps _ _ _ _ (Heap.get?_push_of_some _ q)
  have still : ∀ {σ' : L2.St} {H' : Hp} {s' : Shared}, Inv (X.blk sc Hc scope ce fp) [] σ' H' s' → (∀ b ∈ fp, H' b = none) → ∀ b ∈ fp, FpOk (X.blk sc Hc scope ce fp) [] H' b := fun J no b hb =>
    ⟨no b hb, (J.ok.exf b hb).1, J.ok.exfs b hb, .inl hb, fun y c q => (J.ok.exf b hb).2 y c q, fun p hp => absurd (show p ∈ ([] : List (Addr × Obj)) ++ [] from hp) (by simp)⟩
  have whole : codeAny (model X.prog X.w) X.A (.compLoop (.ListComp elt [⟨tg, iter, [], 0⟩] scope pos) 0 (.ref it) (.ref L) ce) (compPost (model X.prog X.w) X.A X.xe none (EP X pins σ Q) (.ref L) sc.heap.objs.size) sd := by
    refine compLoop_any (fun n s' => ∃ i H', Inv (X.blk sc Hc scope ce fp) [] (wipe σ (own.map (·.2))) H' s' ∧ tn i s'.heap ∧ (∀ b ∈ fp, H' b = none) ∧ W i n H') (fun n s1 ⟨i, H1, I1, st1, no1, w1⟩ => ?_) m0 ⟨0, Hc, Id, std, fun b hb => (fpc b hb).1.1, wBegin⟩
    rcases turns i n H1 w1 with ⟨stop, qEnd⟩ | ⟨goes, Nx, later, step⟩
    · refine thnF (TT.done (X.blk sc Hc scope ce fp) rfl rfl rfl hc i [] s1 _ H1 (fun _ _ => False) I1 (still I1 no1) st1 stop) fun r s2 ⟨hr, I2⟩ => ?_
      subst hr
      have back : Inv X pins σ H1 s2 := Ic.call' (ch := fp) I2.os I2.base I2.hok I2.bare fun b hb => ⟨(fpc b hb).1.2.2.2.1, (fpc b hb).1.2.1, (fpc b hb).1.2.2.2.2.1, (fpc b hb).1.2.2.2.2.2⟩
      have noC : H1 sc.heap.objs.size = none := by
        rw [← ceL]
        exact I2.free
      obtain ⟨m, ns, _⟩ := I2.loc
      have ns : s2.heap.Ns ce.locals m := ns
      rw [ceL] at ns
      obtain ⟨f0, f1, f2, f3, f4, f5⟩ := Ic.fpOk (Nat.le_refl _) noC
      exact ⟨m, ns, fun h' sb' => ⟨.ref L, H1, back.turned (t' := s2.toks) (fun b o nb q => (sb'.2 b nb).trans q) f0 f1 f3 f4 f5, rfl, qEnd⟩⟩
    · refine thnF (TT.item (X.blk sc Hc scope ce fp) rfl rfl rfl hc i [] s1 _ H1 (fun _ _ => False) I1 (still I1 no1) st1 goes) fun r s2 ⟨u, hr, h2⟩ => ?_
      subst hr
      refine thnF h2 fun _ s3 ⟨x, H3, I3, r3, y3, st3, no3⟩ => ?_
      refine thnF (pg.run _ s3 _ H3 x u _ (I3.pinned (still I3 no3) (TT.obj _ _ st3)) r3 (step x H3 y3)) fun _ s4 ⟨σ4, H4, I4, same, q4⟩ => ?_
      refine wpAny_tests_nil ?_
      simp only [if_true]
      have q4 : (if true = true then te σ σ4 H4 _ else Nx H4) := q4
      simp only [if_true] at q4
      refine thnF (pe.run _ s4 σ4 H4 _ I4 q4) fun z s5 ⟨y, H5, I5, r5, acc, atL, few, nx⟩ => ?_
      refine app_ok (X := X.blk sc Hc scope ce fp) I5 atL few r5 fun s6 I6 => ?_
      obtain ⟨m', less, w'⟩ := later _ nx
      have keep : ∀ b ∈ fp, ∀ o, s3.heap.get? b = some o → s6.heap.get? b = some o ∧ upd H5 L (.lst (acc ++ [y])) b = none := fun b hb o q =>
        have z := I6.pin (b, o) (List.mem_append_right _ (List.mem_append_right _ (mem_pinsAt hb q)))
        ⟨z.1, z.2.1⟩
      refine ⟨m', less, i + 1, _, (I6.unpinned (pins := [])).weak (by rw [← same, wipe_length]) (fun j v q => ?_), TT.keep _ _ _ st3 fun b hb o q => (keep b hb o q).1, fun b hb => ?_, w'⟩
      · rw [← same] at q
        exact (wipe_some q).1
      · obtain ⟨o, q, _⟩ := TT.obj _ _ st3 b hb
        exact (keep b hb o q).2
  exact codeAny_compStart_list whole (TT.self X.A 0 _ _ _ std whole)
end LamB

set_option maxRecDepth 100000
set_option maxHeartbeats 2000000
/-! the wider ground: what is written, and the cells of a frame as they stand -/
namespace LamB
open PySem PySem.Spec PyProof.Rows L2 LamX NdefX
def ground (h : Heap) (p : Addr → Bool) : Heap := PySem.W.hideAll h ((List.range h.objs.size).filter fun b => !p b)
theorem ground_size (h : Heap) (p : Addr → Bool) : (ground h p).objs.size = h.objs.size := PySem.W.hideAll_size _ _
theorem ground_get {h : Heap} {p : Addr → Bool} {b : Addr} {o : Obj} (e : h.get? b = some o) (hp : p b = true) : (ground h p).get? b = some o :=
  PySem.W.hideAll_get _ e fun z => by
    have := (List.mem_filter.mp z).2
    rw [hp] at this
    cases this
theorem ground_of {h : Heap} {p : Addr → Bool} {b : Addr} {o : Obj} (e : (ground h p).get? b = some o) : h.get? b = some o ∧ p b = true := by
  have q := PySem.W.of_hideAll _ e
  refine ⟨q, ?_⟩
  cases hp : p b with
  | true => rfl
  | false =>
    have z := PySem.W.hideAll_none (h := h) ((List.range h.objs.size).filter fun b => !p b) (b := b) (List.mem_filter.mpr ⟨List.mem_range.mpr (Heap.lt_size q), by rw [hp]; rfl⟩)
    have e : (PySem.W.hideAll h ((List.range h.objs.size).filter fun b => !p b)).get? b = some o := e
    rw [z] at e
    cases e
/-- what is written, and the cells -/
def isGr (X : Cx) (b : Addr) : Bool := (X.base.get? b).isSome || X.env.cells.any fun q => q.2 == b
abbrev grOf (X : Cx) (s : Shared) : Heap := ground s.heap (isGr X)
/-- the cells lie apart from all frames -/
def Far (X : Cx) : Prop := ∀ b, (∃ y, (y, b) ∈ X.env.cells) → b ∉ frs X.stack
section
variable {X : Cx} {pins : List (Addr × Obj)} {σ : L2.St} {H : Hp} {s : Shared}
theorem isGr_or {b : Addr} (h : isGr X b = true) : (∃ o, X.base.get? b = some o) ∨ ∃ y, (y, b) ∈ X.env.cells := by
  unfold isGr at h
  rw [Bool.or_eq_true] at h
  refine h.imp (fun z => Option.isSome_iff_exists.mp z) fun z => ?_
  obtain ⟨q, hq, e⟩ := List.any_eq_true.mp z
  have e : q.2 = b := by simpa using e
  exact ⟨q.1, by rw [← e]; exact hq⟩
theorem up_gr (I : Inv X pins σ H s) : Up X.base (grOf X s) :=
  ⟨fun b o q => ground_get (I.bk b o q) (by unfold isGr; rw [q]; rfl), by rw [ground_size]; exact Nat.le_trans I.ok.bsz I.sz⟩
/-- no cell bears two names, each is told by look-up -/
def Told (X : Cx) : Prop := ∀ y c, (y, c) ∈ X.env.cells → X.env.cells.lookup y = some c
theorem fr_gr (I : Inv X pins σ H s) (far : Far X) : ∀ L ∈ frs X.stack, (grOf X s).get? L = none := fun L hL => by
  cases q : (grOf X s).get? L with
  | none => rfl
  | some o =>
    rcases isGr_or (ground_of q).2 with ⟨o', z⟩ | z
    · have := (I.env0.funs.mem hL).1
      rw [z] at this
      cases this
    · exact absurd hL (far L z)
theorem env_gr (I : Inv X pins σ H s) (far : Far X) (told : Told X) : Env0 X.prog X.w X.K X.mg (grOf X s) X.A X.stack s H := by
  have e := I.env0
  refine ⟨e.frames, Mod.up e.mod (up_gr I), fun b o q => ?_, Nat.le_of_eq (ground_size _ _), funFrames_none e.funs (fr_gr I far), e.frf, e.hok, e.bare⟩
  obtain ⟨z1, z2⟩ := ground_of q
  refine ⟨z1, ?_⟩
  rcases isGr_or z2 with ⟨o', z⟩ | ⟨y, z⟩
  · exact (e.bs b o' z).2
  · exact I.freeC y b (told y b z)
/-- .. within a block that began at s -/
theorem env_blk {scope : Scope} {C : Addr} {fp : List Addr} {pins' : List (Addr × Obj)} {σ' : L2.St} {H' : Hp} {s' : Shared} (I : Inv X pins σ H s) (far : Far X) (told : Told X) (hfp : ∀ b ∈ fp, FpOk X pins H b) (J : Inv (blkI X s H scope C fp) pins' σ' H' s') :
    Env0 X.prog X.w X.K X.mg (grOf X s) X.A X.stack s' H' := by
  have e := J.env0
  refine ⟨e.frames, Mod.up e.mod (up_gr I), fun b o q => ?_, by rw [ground_size]; exact J.sz, funFrames_none e.funs (fr_gr I far), e.frf, e.hok, e.bare⟩
  obtain ⟨z1, z2⟩ := ground_of q
  by_cases hb : ∃ y, (y, b) ∈ X.env.cells
  · obtain ⟨y, z⟩ := hb
    have no : b ∉ fp := fun hm => ((hfp b hm).2.2.2.2.1 y b (told y b z)) rfl
    exact ⟨J.base.keep b o z1 (I.freeC y b (told y b z)) (far b ⟨y, z⟩) no, J.base.free b o z1 (I.freeC y b (told y b z)) no⟩
  · rcases isGr_or z2 with ⟨o', z⟩ | z
    · have q2 := I.bk b o' z
      rw [z1] at q2
      cases q2
      exact e.bs b o z
    · exact absurd z hb
/-- what a function made here captures, in the ground -/
theorem cb_gr {cl : List (Str × Addr)} {fr : List Str} {js : List Nat} (I : Inv X pins σ H s) (cp : Caps X cl fr js) : CB (grOf X s) cl fr (js.map (slotAt σ)) := by
  have C := cells_of I cp
  have up : ∀ {y c v}, cl.lookup y = some c → s.heap.IsCell c v → (grOf X s).IsCell c v := fun {y c v} e ⟨o, e1, e2⟩ =>
    ⟨o, ground_get e1 (by
      unfold isGr
      rw [Bool.or_eq_true]
      exact .inr (List.any_eq_true.mpr ⟨(y, c), PySem.mem_of_lookup (cp.sub y c e), by simp⟩)), e2⟩
  refine ⟨C.len, fun y c e => (C.all y c e).2.elim fun v z => ⟨v, up e z⟩, C.inj, fun i y e => ?_⟩
  obtain ⟨c, e1, e2⟩ := C.has i y e
  exact ⟨c, e1, fun v q => (e2 v q).elim fun u z => ⟨u, z.1, up e1 z.2⟩⟩
/-- the cells of a def's own frame -/
theorem far_own (I : Inv X pins σ H s) (told : Told X) (hfn : ∀ x, X.fn x = true) (hst : X.stack = X.env :: X.outer) (hfr : X.env.frame = some X.env.locals) : Far X := fun b ⟨y, hy⟩ hb => by
  have e := told y b hy
  rw [hst] at hb
  have hb : b ∈ (X.env :: X.outer).filterMap (·.frame) := hb
  rw [List.filterMap_cons, hfr] at hb
  rcases List.mem_cons.mp hb with z | z
  · exact I.cne y b e z
  · obtain ⟨_, o, ho, _⟩ := I.ok.funs.mem z
    exact absurd (Nat.lt_of_lt_of_le (Heap.lt_size ho) (I.ok.cab y b (hfn y) e)) (Nat.lt_irrefl _)
end
/-! ### calls over a wider ground -/
section
variable {X : Cx} {CX : CXT} {k : Nat} {f : Addr} {fd : FuncData} {ps : List Str} {sp : Sp} {dvs : List V} {ds : List Value} {E : XK} {x : Str} {p pos : Pos} {e : Expr} {es : List Expr} {t : TA} {B : Heap}
theorem run_wide {pins : List (Addr × Obj)} {σ : L2.St} {H : Hp} {s : Shared} {Q : VK} {us : List Value} {vs : List V} (hw : Env0 X.prog X.w X.K X.mg B X.A X.stack s H) (F : FnOk X.prog X.w X.K X.mg B CX k f fd ps sp) (hr : Room k X.A) (hb : Binds X.K fd ps ds) (hd : Vals dvs ds) (hx : Passes CX X E)
    (I : Inv X pins σ H s) (r : Vals vs us) (h : sp (vs ++ dvs) H Q E) : wpAny (model X.prog X.w) X.A (call (.ref f) us) (EP X pins σ Q) X.xe s := by
  have r2 := r.append hd
  have len2 : (us ++ ds).length = ps.length := r2.length.symm.trans (F.len _ _ _ _ h)
  refine wpAny_call (codeAny_mono (F.run X.A X.stack s H ⟨us, []⟩ _ _ Q E hr hw (hb s us I.kIn len2) r2 h) fun res s' z => ?_)
  match res, z with
  | .error _, z => exact hx pins σ H s _ s' I z
  | .ok (.ret _), z => exact I.after z
theorem pe_callW (hw : ∀ (pins : List (Addr × Obj)) (σ : L2.St) (H : Hp) (s : Shared), Inv X pins σ H s → Env0 X.prog X.w X.K X.mg B X.A X.stack s H) (F : FnOk X.prog X.w X.K X.mg B CX k f fd ps sp) (hr : Room k X.A) (hg : Gl X x) (hm : X.mg x = some (.ref f)) (hk : PySem.W.keepIn X.K (.ref f) = true)
    (hb : Binds X.K fd ps ds) (hd : Vals dvs ds) (hx : Passes CX X E) (ha : PA X (e :: es) t) (hdb : (x == ("__debug__" : Str)) = false := by decide) (he : starEach (e :: es) X.env = (false, eval e X.env) :: starEach es X.env := by rfl) (hpl : (backTo pos (starEach es X.env)).any (·.1) = false := by rfl) :
    PE X (.Call (.Name x p) (e :: es) [] pos) (tCall sp dvs E t) := by
  refine ⟨fun pins s σ H Q I h => wpAny_Call_Name_kw (ld_glob I hg hm ?_ hdb)⟩
  exact PySem.W.callWith_K (h₀ := X.base) I.ok.mod.kin hk (thn (ha.run pos pins s σ H _ I h) fun us s1 ⟨vs, H1, J, r, q⟩ => ⟨J.kIn, run_wide (hw _ _ _ _ J) F hr hb hd hx J r q⟩) he hpl
end
/-! ### what is known of a def's context when its body is read -/
theorem pss_ok {X : Cx} {ss : List Stmt} {t : TS} (h : (∃ (pins : List (Addr × Obj)) (σ : L2.St) (H : Hp) (s : Shared), Inv X pins σ H s) → PSs X ss t) : PSs X ss t := ⟨fun pins s σ H D I => (h ⟨pins, σ, H, s, I⟩).run pins s σ H D I⟩
theorem pe_ok {X : Cx} {e : Expr} {t : TE} (h : (∃ (pins : List (Addr × Obj)) (σ : L2.St) (H : Hp) (s : Shared), Inv X pins σ H s) → PE X e t) : PE X e t := ⟨fun pins s σ H Q I => (h ⟨pins, σ, H, s, I⟩).run pins s σ H Q I⟩
end LamB

set_option maxRecDepth 100000
set_option maxHeartbeats 2000000
/-! what a lambda answers that was made here, wherever it is called while this frame waits -/
namespace LamB
open PySem PySem.Spec PyProof.Rows L2 LamX NdefX
theorem cells_keys : ∀ (names : List (Str × NameKind)) (n m : Nat) (a b : List (Str × Addr)), a.map (·.1) = b.map (·.1) → (cellsFrom n names a).map (·.1) = (cellsFrom m names b).map (·.1)
  | [], _, _, _, _, h => h
  | (x, k) :: names, n, m, a, b, h => by
    cases k <;> first
      | exact cells_keys names _ _ _ _ h
      | exact cells_keys names _ _ _ _ (by simp [h])
theorem look_nodup : ∀ {l : List (Str × Addr)}, (l.map (·.1)).Nodup → ∀ {y : Str} {c : Addr}, (y, c) ∈ l → l.lookup y = some c
  | [], _, _, _, h => nomatch h
  | (x, d) :: l, nd, y, c, h => by
    rw [List.map_cons, List.nodup_cons] at nd
    rcases List.mem_cons.mp h with z | z
    · cases z
      simp [List.lookup]
    · have ne : (y == x) = false := by
        rw [beq_eq_false_iff_ne]
        intro e
        exact nd.1 (List.mem_map.mpr ⟨(y, c), z, e⟩)
      rw [List.lookup_cons, ne]
      exact look_nodup nd.2 z
/-- the cells of a def's own frame are told by their names -/
theorem told_own {X : Cx} {n : Nat} {names : List (Str × NameKind)} (e : X.env.cells = cellsFrom n names []) (nd : ((cellsFrom 0 names []).map (·.1)).Nodup) : Told X := fun y c h => by
  rw [e] at h ⊢
  exact look_nodup (by rw [cells_keys names n 0 [] [] rfl]; exact nd) h
/-- what functions made here capture, in the ground B -/
def CBall (X : Cx) (B : Heap) (σ : L2.St) : Prop := ∀ (scope : Scope) (fr : List Str) (js : List Nat), (∀ y ∈ scope.names, y.2 = .free → X.env.scope.names.lookup y.1 = some .cell ∨ X.env.scope.names.lookup y.1 = some .free) → (∀ y ∈ fr, (y, NameKind.free) ∈ scope.names) → js.map (fun j => X.N[j]?) = fr.map some →
  CB B (cloFrom X.env.cells scope.names []) fr (js.map (slotAt σ))
theorem cball {X : Cx} {pins : List (Addr × Obj)} {σ : L2.St} {H : Hp} {s : Shared} (I : Inv X pins σ H s) : CBall X (grOf X s) σ := fun _ _ _ h1 h2 h3 => cb_gr I (Caps.made I.ok h1 h2 h3)
/-- the value at f: R tells from which wish (of a value, of an error) on it may be called with no argument -/
def Answers (X : Cx) (CX : CXT) (k : Nat) (σ : L2.St) (H : Hp) (f : Addr) (R : Hp → VK → XK → Prop) : Prop := ∀ B : Heap, Up X.base B → Mod X.K X.mg X.base → CBall X B σ →
  ∃ (G : Hp → Prop) (sp : Sp), Acts X.prog X.w X.K X.mg B CX k f G sp ∧ ∀ H2, Same H H2 → G H2 ∧ ∀ Q E, R H2 Q E → sp [] H2 Q E
theorem Answers.same {X : Cx} {CX : CXT} {k : Nat} {σ : L2.St} {H H' : Hp} {f : Addr} {R : Hp → VK → XK → Prop} (h : Answers X CX k σ H f R) (s : Same H H') : Answers X CX k σ H' f R := fun B u m c => by
  obtain ⟨G, sp, a, q⟩ := h B u m c
  exact ⟨G, sp, a, fun H2 s2 => q H2 (s.trans s2)⟩
theorem answers_of {X : Cx} {CX : CXT} {k : Nat} {σ : L2.St} {H : Hp} {f : Addr} {R : Hp → VK → XK → Prop} {qual : Str} {params : Arguments} {body : Expr} {scope : Scope} {c' : Addr} {dV : Value} {N ps fr : List Str} {js : List Nat} {dvs : List V} {D : Hp → Prop} {tb : XK → TE}
    (hL : H f = some (LamO f ⟨qual, params, body, scope, cloFrom X.env.cells scope.names [], c', dV⟩)) (hc : H c' = some (CodeO c' qual)) (hD : ∀ H2, Same H H2 → D H2) (S : NScope N ps fr scope)
    (h1 : ∀ y ∈ scope.names, y.2 = .free → X.env.scope.names.lookup y.1 = some .cell ∨ X.env.scope.names.lookup y.1 = some .free) (h2 : ∀ y ∈ fr, (y, NameKind.free) ∈ scope.names) (h3 : js.map (fun j => X.N[j]?) = fr.map some) (hn : 0 + dvs.length = ps.length)
    (hb : ∀ (doc pm ctv : Value) (s : Shared) (H : Hp) (us : List Value), HOk X.prog X.w H s.heap → D H → us.length = 0 → ∃ ds, Vals dvs ds ∧ BindsTo s (PySem.W.kdv_fn "<lambda>" qual params (.expr body) scope (cloFrom X.env.cells scope.names []) dV doc pm (.ref c') ctv) ⟨us, []⟩ (ps.zip (us ++ ds)))
    (hbody : ∀ (B : Heap), Up X.base B → Mod X.K X.mg X.base → ∀ (A : Around) (outer : List Env) (s : Shared) (H : Hp) (E : XK), Room k (A.deeper (envF (LF.nf ⟨qual, params, body, scope, cloFrom X.env.cells scope.names [], c', dV⟩) f s.heap.objs.size)) →
      PE (ncx CX X.prog X.w X.K X.mg B N (LF.nf ⟨qual, params, body, scope, cloFrom X.env.cells scope.names [], c', dV⟩) f A outer s H E) body (tb E))
    (hr : ∀ H2, Same H H2 → ∀ Q E, R H2 Q E → tb E (startF N dvs (js.map (slotAt σ))) H2 Q) : Answers X CX (k + 1) σ H f R := fun B u m c =>
  ⟨_, _, acts_of (F := ⟨qual, params, body, scope, cloFrom X.env.cells scope.names [], c', dV⟩) (n := 0) (D := D) S (c scope fr js h1 h2 h3) hn hb (hbody B u m), fun H2 s2 => ⟨⟨s2 _ _ hL, s2 _ _ hc, hD H2 s2⟩, fun Q E r => ⟨rfl, hr H2 s2 Q E r⟩⟩⟩
/-- the defaults stand in a tuple -/
theorem binds_dflt {P : Program} {w : World} {H : Hp} {s : Shared} {t : Addr} {v : V} {fd : FuncData} {p : Str} {us : List Value} {k : Option (Array Value) → Sem (List (Str × Value))} (ok : HOk P w H s.heap) (h : H t = some (.tup [v])) (hu : us.length = 0) (hd : fd.defaults = .ref t)
    (b1 : bindArgs fd ⟨[], []⟩ = seqItems? fd.defaults >>= k) (b2 : ∀ u, k (some [u].toArray) = pure [(p, u)]) : ∃ ds, Vals [v] ds ∧ BindsTo s fd ⟨us, []⟩ ([p].zip (us ++ ds)) := by
  obtain ⟨_, its, r, o, ho, _, n, hdata⟩ := ok t _ h
  obtain ⟨u, rfl, ru⟩ := vals1 r
  have e : us = [] := List.eq_nil_of_length_eq_zero hu
  subst e
  exact ⟨[u], r, BindsTo.of_defaults hd ho hdata b1 (b2 u)⟩
end LamB

set_option maxRecDepth 100000
set_option maxHeartbeats 2000000
/-! a parameter that is called: by a lambda made here, or by a def of the module; the call over a ground chosen when it is made -/
namespace LamB
open PySem PySem.Spec PyProof.Rows L2 LamX NdefX
/-- as Acts, what the value at f is told by the whole environment -/
structure Acts2 (P : Program) (w : World) (K : PySem.W.Frag) (mg : Str → Option Value) (B : Heap) (CX : CXT) (k : Nat) (f : Addr) (G : Hp → Prop) (sp : Sp) : Prop where
  fn : ∀ (A : Around) (outer : List Env) (s : Shared) (H : Hp), Env0 P w K mg B A outer s H → G H → PySem.W.FnAt f s.heap
  run : ∀ (A : Around) (outer : List Env) (s : Shared) (H : Hp) (us : List Value) (vs : List V) (Q : VK) (E : XK), Room k A → Env0 P w K mg B A outer s H → G H → Vals vs us → sp vs H Q E →
    codeAny (model P w) A (.call (.ref f) ⟨us, []⟩) (CR CX outer P w H s Q E) s
section
variable {P : Program} {w : World} {K : PySem.W.Frag} {mg : Str → Option Value} {B : Heap} {CX : CXT} {k : Nat} {f : Addr} {G : Hp → Prop} {sp : Sp}
theorem acts2_of (a : Acts P w K mg B CX k f G sp) : Acts2 P w K mg B CX k f G sp := ⟨fun _ _ _ H e g => a.fn H _ e.hok g, a.run⟩
theorem kin_env {A : Around} {outer : List Env} {s : Shared} {H : Hp} (e : Env0 P w K mg B A outer s H) : K.In s.heap := fun b o q => (e.bs b o (e.mod.kin _ _ q)).1
/-- a def of the module -/
theorem acts2_fun {x q : Str} {st : Stmt} {fd : FuncData} {ps : List Str} (F : Fun K x q st f fd) (O : FnOk P w K mg B CX k f fd ps sp) (hb : Binds K fd ps []) : Acts2 P w K mg B CX k f (fun _ => True) sp := by
  refine ⟨fun A outer s H e _ => ?_, fun A outer s H us vs Q E hr e _ r h => ?_⟩
  · obtain ⟨oc, od, kV, doc, pm, an, cdv, ct, osl, rfl, lk, cd⟩ := F.ex
    exact ⟨_, _, _, _, kin_env e _ _ lk⟩
  · have len := O.len _ _ _ _ h
    have z := hb s us (kin_env e) (by rw [List.append_nil]; exact r.length.symm.trans len)
    rw [List.append_nil] at z
    exact O.run A outer s H ⟨us, []⟩ us vs Q E hr e z r h
end
/-- x(..), the i-th slot holding something that acts -/
def tAct2 (P : Program) (w : World) (K : PySem.W.Frag) (mg : Str → Option Value) (B : Heap) (CX : CXT) (k i : Nat) (E : XK) (t : TA) : TE := fun σ H Q => ∃ (f : Addr) (G : Hp → Prop) (sp : Sp), σ[i]? = some (some (.ref f)) ∧ Acts2 P w K mg B CX k f G sp ∧
  G H ∧ t σ H fun vs H1 => G H1 ∧ sp vs H1 Q E
section
variable {X : Cx} {CX : CXT} {i j k : Nat} {x : Str} {E : XK} {t : TA} {e : Expr} {es : List Expr} {p pos : Pos} {pins : List (Addr × Obj)} {σ : L2.St} {H : Hp} {s : Shared}
theorem run_act2 {Q : VK} {f : Addr} {G : Hp → Prop} {sp : Sp} {us : List Value} {vs : List V} (a : Acts2 X.prog X.w X.K X.mg X.base CX k f G sp) (hr : Room k X.A) (hx : Passes CX X E) (I : Inv X pins σ H s) (g : G H) (r : Vals vs us) (q : sp vs H Q E) :
    wpAny (model X.prog X.w) X.A (call (.ref f) us) (EP X pins σ Q) X.xe s := by
  refine wpAny_call (codeAny_mono (a.run X.A X.stack s H us vs Q E hr I.env0 g r q) fun res s' z => ?_)
  match res, z with
  | .error _, z => exact hx pins σ H s _ s' I z
  | .ok (.ret _), z => exact I.after z
theorem pe_act2 (hr : Room k X.A) (hx : Passes CX X E) (hN : X.N[i]? = some x) (hv : Vis X.env.scope x) (ha : PA X (e :: es) t)
    (hd : (x == ("__debug__" : Str)) = false := by decide) (hcd : (x == ("__classdict__" : Str)) = false := by decide)
    (he : starEach (e :: es) X.env = (false, eval e X.env) :: starEach es X.env := by rfl) (hpl : (backTo pos (starEach es X.env)).any (·.1) = false := by rfl) :
    PE X (.Call (.Name x p) (e :: es) [] pos) (tAct2 X.prog X.w X.K X.mg X.base CX k i E t) := by
  refine ⟨fun pins s σ H Q I ⟨f, G, sp, hs, a, g, ht⟩ => ?_⟩
  refine wpAny_Call_Name_kw (thn ((pe_var (pos := p) hN hv hd hcd).run pins s σ H (fun v H1 => v = .ref f ∧ H1 = H) I ⟨.ref f, hs, rfl, rfl⟩) fun u s1 ⟨v, H1, I1, r1, z⟩ => ?_)
  obtain ⟨z1, z2⟩ := z
  subst z1
  rw [z2] at I1
  obtain rfl : u = Value.ref f := r1
  refine PySem.W.callWith_F (first := []) (a.fn _ _ _ H I1.env0 g) (thn (ha.run pos pins s1 σ H _ I1 ht) fun us s2 ⟨vs, H2, I2, r, g2, q⟩ => ⟨a.fn _ _ _ H2 I2.env0 g2, ?_⟩) he hpl
  exact run_act2 a hr hx I2 g2 r q
/-- a call over the ground as it stands then -/
def tCallGr (X : Cx) (sp : Heap → Sp) (E : XK) (t : TA) : TE := fun σ H Q => t σ H fun vs H1 => ∀ B : Heap, Up X.base B → Mod X.K X.mg X.base → CBall X B σ → sp B vs H1 Q E
theorem pe_callGr {f : Addr} {fd : FuncData} {ps : List Str} {sp : Heap → Sp} (far : Far X) (told : Told X) (F : ∀ B, Up X.base B → FnOk X.prog X.w X.K X.mg B CX k f fd ps (sp B)) (hr : Room k X.A) (hg : Gl X x) (hm : X.mg x = some (.ref f)) (hk : PySem.W.keepIn X.K (.ref f) = true)
    (hb : Binds X.K fd ps []) (hx : Passes CX X E) (ha : PA X (e :: es) t) (hdb : (x == ("__debug__" : Str)) = false := by decide) (he : starEach (e :: es) X.env = (false, eval e X.env) :: starEach es X.env := by rfl) (hpl : (backTo pos (starEach es X.env)).any (·.1) = false := by rfl) :
    PE X (.Call (.Name x p) (e :: es) [] pos) (tCallGr X sp E t) := by
  refine ⟨fun pins s σ H Q I h => wpAny_Call_Name_kw (ld_glob I hg hm ?_ hdb)⟩
  exact PySem.W.callWith_K (h₀ := X.base) I.ok.mod.kin hk (thn (ha.run pos pins s σ H _ I h) fun us s1 ⟨vs, H1, J, r, q⟩ => ⟨J.kIn, run_wide (B := grOf X s1) (dvs := []) (ds := []) (env_gr J far told) (F _ (up_gr J)) hr hb .nil hx J r (by
    rw [List.append_nil]
    exact q _ (up_gr J) J.ok.mod (cball J))⟩) he hpl
end
end LamB
namespace LamB
open PySem PySem.Spec PyProof.Rows L2 LamX NdefX
theorem far_ex {X : Cx} (h : ∃ (pins : List (Addr × Obj)) (σ : L2.St) (H : Hp) (s : Shared), Inv X pins σ H s) (told : Told X) (hfn : ∀ x, X.fn x = true) (hst : X.stack = X.env :: X.outer) (hfr : X.env.frame = some X.env.locals) : Far X := by
  obtain ⟨pins, σ, H, s, I⟩ := h
  exact far_own I told hfn hst hfr
end LamB
namespace LamB
open PySem PySem.Spec PyProof.Rows L2 LamX NdefX
/-- a lambda without defaults that was made here acts over the ground of now -/
theorem acts_mk {X : Cx} {B : Heap} {CX : CXT} {k : Nat} {σ : L2.St} {H : Hp} {f c' : Addr} {qual : Str} {params : Arguments} {body : Expr} {scope : Scope} {N ps fr : List Str} {js : List Nat} {n : Nat} {tb : XK → TE}
    (hL : H f = some (LamO f ⟨qual, params, body, scope, cloFrom X.env.cells scope.names [], c', .none⟩)) (hc : H c' = some (CodeO c' qual)) (cb : CBall X B σ) (S : NScope N ps fr scope)
    (h1 : ∀ y ∈ scope.names, y.2 = .free → X.env.scope.names.lookup y.1 = some .cell ∨ X.env.scope.names.lookup y.1 = some .free) (h2 : ∀ y ∈ fr, (y, NameKind.free) ∈ scope.names) (h3 : js.map (fun j => X.N[j]?) = fr.map some) (hn : n = ps.length)
    (hb : ∀ (doc pm ctv : Value) (s : Shared) (us : List Value), us.length = n → BindsTo s (PySem.W.kdv_fn "<lambda>" qual params (.expr body) scope (cloFrom X.env.cells scope.names []) .none doc pm (.ref c') ctv) ⟨us, []⟩ (ps.zip (us ++ [])))
    (hbody : ∀ (A : Around) (outer : List Env) (s : Shared) (H : Hp) (E : XK), Room k (A.deeper (envF (LF.nf ⟨qual, params, body, scope, cloFrom X.env.cells scope.names [], c', .none⟩) f s.heap.objs.size)) →
      PE (ncx CX X.prog X.w X.K X.mg B N (LF.nf ⟨qual, params, body, scope, cloFrom X.env.cells scope.names [], c', .none⟩) f A outer s H E) body (tb E)) :
    ∃ G : Hp → Prop, G H ∧ Acts2 X.prog X.w X.K X.mg B CX (k + 1) f G (fun vs H Q E => vs.length = n ∧ tb E (startF N (vs ++ []) (js.map (slotAt σ))) H Q) :=
  ⟨LamH f ⟨qual, params, body, scope, cloFrom X.env.cells scope.names [], c', .none⟩ (fun _ => True), ⟨hL, hc, trivial⟩, acts2_of (acts_of (F := ⟨qual, params, body, scope, cloFrom X.env.cells scope.names [], c', .none⟩) (n := n) (dvs := []) (D := fun _ => True) S (cb scope fr js h1 h2 h3) (by rw [hn]; rfl) (fun doc pm ctv s _ us _ _ hu => ⟨[], .nil, hb doc pm ctv s us hu⟩) hbody)⟩
end LamB

set_option maxRecDepth 100000
set_option maxHeartbeats 2000000
/-! a lambda that was made here goes on to act while nothing old changes -/
namespace LamB
open PySem PySem.Spec PyProof.Rows L2 LamX NdefX
theorem acts_mkS {X : Cx} {B : Heap} {CX : CXT} {k : Nat} {σ : L2.St} {H : Hp} {f c' : Addr} {qual : Str} {params : Arguments} {body : Expr} {scope : Scope} {N ps fr : List Str} {js : List Nat} {n : Nat} {tb : XK → TE}
    (hL : H f = some (LamO f ⟨qual, params, body, scope, cloFrom X.env.cells scope.names [], c', .none⟩)) (hc : H c' = some (CodeO c' qual)) (cb : CBall X B σ) (S : NScope N ps fr scope)
    (h1 : ∀ y ∈ scope.names, y.2 = .free → X.env.scope.names.lookup y.1 = some .cell ∨ X.env.scope.names.lookup y.1 = some .free) (h2 : ∀ y ∈ fr, (y, NameKind.free) ∈ scope.names) (h3 : js.map (fun j => X.N[j]?) = fr.map some) (hn : n = ps.length)
    (hb : ∀ (doc pm ctv : Value) (s : Shared) (us : List Value), us.length = n → BindsTo s (PySem.W.kdv_fn "<lambda>" qual params (.expr body) scope (cloFrom X.env.cells scope.names []) .none doc pm (.ref c') ctv) ⟨us, []⟩ (ps.zip (us ++ [])))
    (hbody : ∀ (A : Around) (outer : List Env) (s : Shared) (H : Hp) (E : XK), Room k (A.deeper (envF (LF.nf ⟨qual, params, body, scope, cloFrom X.env.cells scope.names [], c', .none⟩) f s.heap.objs.size)) →
      PE (ncx CX X.prog X.w X.K X.mg B N (LF.nf ⟨qual, params, body, scope, cloFrom X.env.cells scope.names [], c', .none⟩) f A outer s H E) body (tb E)) :
    ∃ G : Hp → Prop, G H ∧ (∀ H1 H2, L2.Same H1 H2 → G H1 → G H2) ∧ Acts2 X.prog X.w X.K X.mg B CX (k + 1) f G (fun vs H Q E => vs.length = n ∧ tb E (startF N (vs ++ []) (js.map (slotAt σ))) H Q) :=
  ⟨LamH f ⟨qual, params, body, scope, cloFrom X.env.cells scope.names [], c', .none⟩ (fun _ => True), ⟨hL, hc, trivial⟩, fun _ _ s g => ⟨s _ _ g.1, s _ _ g.2.1, trivial⟩, acts2_of (acts_of (F := ⟨qual, params, body, scope, cloFrom X.env.cells scope.names [], c', .none⟩) (n := n) (dvs := []) (D := fun _ => True) S (cb scope fr js h1 h2 h3) (by rw [hn]; rfl) (fun doc pm ctv s _ us _ _ hu => ⟨[], .nil, hb doc pm ctv s us hu⟩) hbody)⟩
end LamB

set_option maxRecDepth 100000
set_option maxHeartbeats 2000000
/-! a dict comprehension whose value knows the state at which the block begins -/
namespace LamB
open PySem PySem.Spec PyProof.Rows L2 LamX NdefX
theorem dcI_core {X : Cx} {pins : List (Addr × Obj)} {s : Shared} {σ : L2.St} {H : Hp} {Q : VK} {kx vx tg iter : Expr} {scope : Scope} {own : List (Str × Nat)} {pos pos' : Pos} {wi : TI} {g : TG} {tk : TE} {te : L2.St → TE} {use : Option (Value → Sem Unit)} {Qf : Value → Shared → Prop} (hc : X.calm = true) (hN : X.N.Nodup) (I0 : Inv X pins σ H s) (hi : PI X tg iter wi) (ok : BlkOk X.N X.env.scope scope own)
    (hg : ∀ (s : Shared) (H : Hp) (C : Addr) (cl : List (Str × Addr)) (fp : List Addr), PG (X.blk s H scope (compEnvC scope cl C X.env) fp) tg g)
    (hk : ∀ (s : Shared) (H : Hp) (C : Addr) (cl : List (Str × Addr)) (fp : List Addr), PE (X.blk s H scope (compEnvC scope cl C X.env) fp) kx tk)
    (he : ∀ (pins : List (Addr × Obj)) (σ : L2.St) (s : Shared) (H : Hp) (C : Addr) (fp : List Addr), Inv X pins σ H s → (∀ b ∈ fp, FpOk X pins H b) → PE (blkI X s H scope C fp) vx (te σ)) (hs : ∀ x, foldedSetIterable iter X.env x = pure x)
    (reading : tDc wi g tYes tk (te σ) (own.map (·.2)) σ H Q)
    (hRR : ∀ D C s' m H', Inv X pins σ H' s' → Q (.ref D) H' → s'.heap.Ns C m → FpOk X pins H' C → compPost (model X.prog X.w) X.A X.xe use Qf (.ref D) C (.ok .next) s') :
    wpAny (model X.prog X.w) X.A (comprehension (.DictComp kx vx [⟨tg, iter, [], 0⟩] scope pos) scope X.env pos' newDict false (eval iter X.env) use) Qf X.xe s := by
  have frees : ∀ y ∈ scope.names, y.2 = .free → ∃ c, X.env.cells.lookup y.1 = some c := fun y hy z => (ok.free y hy z).elim (fun q => I0.ok.has _ (.inl q)) fun q => I0.ok.has _ (.inr q)
  refine wpAny_comprehension_free (use := use) rfl hs (closure_ok frees) ok.kind (fun y hy z => by rw [ok.uniq y hy, z]) (thn (hi.run pins s σ H _ I0 reading) fun _ sa ha => thn ha fun _ sb hb => ?_)
  obtain ⟨it, fp, tn, J, Hb, rfl, Ib, TT, stb, fpb, rest⟩ := hb
  refine wpAny_newObj_type (newEnv_comp ?_)
  obtain ⟨L, hL⟩ : ∃ L, L = sb.heap.objs.size := ⟨_, rfl⟩
  have freshL : Hb L = none := Ib.hok.fresh (Nat.le_of_eq hL.symm)
  obtain ⟨W, ⟨m0, wBegin⟩, turns⟩ := rest L freshL
  rw [← hL]
  obtain ⟨sc, hsc⟩ : ∃ sc : Shared, sc = { sb with heap := sb.heap.push { cls := .type "dict", data := .dict #[] } } := ⟨_, rfl⟩
  have heapC : sc.heap = sb.heap.push { cls := .type "dict", data := .dict #[] } := by rw [hsc]
  have more : ∀ b o, sb.heap.get? b = some o → sc.heap.get? b = some o := fun b o q => by rw [heapC]; exact Heap.get?_push_of_some _ q
  obtain ⟨Hc, hHc⟩ : ∃ Hc, Hc = upd Hb L (.dK []) := ⟨_, rfl⟩
  have Ic : Inv X pins σ Hc sc := by
    rw [hHc, hsc]
    refine Ib.laid (t' := sb.toks) (fun b o q => Heap.get?_push_of_some _ q) (Nat.le_of_eq hL.symm) ?_
    rw [hL]
    exact dk_empty sb.heap Ib.big
  rw [← hHc] at wBegin
  have small : ∀ b ∈ fp, b < sb.heap.objs.size := fun b hb => (TT.obj _ _ stb b hb).elim fun o q => Heap.lt_size q.1
  have fpc : ∀ b ∈ fp, FpOk X pins Hc b ∧ b < sc.heap.objs.size := fun b hb =>
    ⟨⟨by rw [hHc, upd_ne (by rw [hL]; exact Nat.ne_of_lt (small b hb))]; exact (fpb b hb).1, (fpb b hb).2⟩, by rw [heapC, Heap.size_push]; exact Nat.lt_succ_of_lt (small b hb)⟩
  have stc : tn 0 sc.heap := TT.keep _ _ _ stb fun b _ o q => more b o q
  have Id := block_start Ic ok hN fpc
  have pk := hk sc Hc sc.heap.objs.size (blkCells X sc scope) fp
  have pg := hg sc Hc sc.heap.objs.size (blkCells X sc scope) fp
  have pe := he pins σ sc Hc sc.heap.objs.size fp Ic fun b hb => (fpc b hb).1
  show codeAny _ _ (.compStart (.DictComp kx vx [⟨tg, iter, [], 0⟩] scope pos) 0 (.ref it) (.ref L) (compEnvC scope (cellsFrom (({ sb with heap := sb.heap.push { cls := .type "dict", data := .dict #[] } } : Shared).heap.objs.size + 1) scope.names (cloFrom X.env.cells scope.names [])) _ X.env)) _ _
  rw [← hsc]
  obtain ⟨ce, hce⟩ : ∃ ce, ce = compEnvC scope (blkCells X sc scope) sc.heap.objs.size X.env := ⟨_, rfl⟩
  have ceL : ce.locals = sc.heap.objs.size := by rw [hce]; rfl
  rw [← hce] at Id pg pk
  rw [show blkI X sc Hc scope sc.heap.objs.size fp = X.blk sc Hc scope ce fp by rw [hce]] at pe
  show codeAny _ _ (.compStart (.DictComp kx vx [⟨tg, iter, [], 0⟩] scope pos) 0 (.ref it) (.ref L) (compEnvC scope (blkCells X sc scope) sc.heap.objs.size X.env)) (compPost (model X.prog X.w) X.A X.xe use Qf (.ref L) sc.heap.objs.size) { sc with heap := pushCells (sc.heap.push { cls := .type "dict", data := .dict #[] }) scope.names }
  rw [← hce]
  obtain ⟨sd, hsd⟩ : ∃ sd : Shared, sd = { sc with heap := pushCells (sc.heap.push { cls := .type "dict", data := .dict #[] }) scope.names } := ⟨_, rfl⟩
  rw [← hsd] at Id ⊢
  have std : tn 0 sd.heap := TT.keep _ _ _ stc fun b _ o q => by rw [hsd]; exact pushCells_keeps _ _ _ _ (Heap.get?_push_of_some _ q)
  have still : ∀ {σ' : L2.St} {H' : Hp} {s' : Shared}, Inv (X.blk sc Hc scope ce fp) [] σ' H' s' → (∀ b ∈ fp, H' b = none) → ∀ b ∈ fp, FpOk (X.blk sc Hc scope ce fp) [] H' b := fun J no b hb =>
    ⟨no b hb, (J.ok.exf b hb).1, J.ok.exfs b hb, .inl hb, fun y c q => (J.ok.exf b hb).2 y c q, fun p hp => absurd (show p ∈ ([] : List (Addr × Obj)) ++ [] from hp) (by simp)⟩
  have whole : codeAny (model X.prog X.w) X.A (.compLoop (.DictComp kx vx [⟨tg, iter, [], 0⟩] scope pos) 0 (.ref it) (.ref L) ce) (compPost (model X.prog X.w) X.A X.xe use Qf (.ref L) sc.heap.objs.size) sd := by
    refine compLoop_anyD (fun n s' => ∃ i H', Inv (X.blk sc Hc scope ce fp) [] (wipe σ (own.map (·.2))) H' s' ∧ tn i s'.heap ∧ (∀ b ∈ fp, H' b = none) ∧ W i n H') (fun n s1 ⟨i, H1, I1, st1, no1, w1⟩ => ?_) m0 ⟨0, Hc, Id, std, fun b hb => (fpc b hb).1.1, wBegin⟩
    rcases turns i n H1 w1 with ⟨stop, qEnd⟩ | ⟨goes, Nx, later, step⟩
    · refine thnF (TT.done (X.blk sc Hc scope ce fp) rfl rfl rfl hc i [] s1 _ H1 (fun _ _ => False) I1 (still I1 no1) st1 stop) fun r s2 ⟨hr, I2⟩ => ?_
      subst hr
      have back : Inv X pins σ H1 s2 := Ic.call' (ch := fp) I2.os I2.base I2.hok I2.bare fun b hb => ⟨(fpc b hb).1.2.2.2.1, (fpc b hb).1.2.1, (fpc b hb).1.2.2.2.2.1, (fpc b hb).1.2.2.2.2.2⟩
      have noC : H1 sc.heap.objs.size = none := by
        rw [← ceL]
        exact I2.free
      obtain ⟨m, ns, _⟩ := I2.loc
      have ns : s2.heap.Ns ce.locals m := ns
      rw [ceL] at ns
      exact hRR L sc.heap.objs.size s2 m H1 back qEnd ns (Ic.fpOk (Nat.le_refl _) noC)
    · refine thnF (TT.item (X.blk sc Hc scope ce fp) rfl rfl rfl hc i [] s1 _ H1 (fun _ _ => False) I1 (still I1 no1) st1 goes) fun r s2 ⟨u, hr, h2⟩ => ?_
      subst hr
      refine thnF h2 fun _ s3 ⟨x, H3, I3, r3, y3, st3, no3⟩ => ?_
      refine thnF (pg.run _ s3 _ H3 x u _ (I3.pinned (still I3 no3) (TT.obj _ _ st3)) r3 (step x H3 y3)) fun _ s4 ⟨σ4, H4, I4, same, q4⟩ => ?_
      refine wpAny_tests_nil ?_
      simp only [if_true]
      have q4 : (if true = true then tk σ4 H4 _ else Nx H4) := q4
      simp only [if_true] at q4
      refine thnF (pk.run _ s4 σ4 H4 _ I4 q4) fun z0 s4b ⟨y0, H4b, I4b, r4b, q4b⟩ => ?_
      refine thnF (pe.run _ s4b σ4 H4b _ I4b q4b) fun z s5 ⟨y, H5, I5, r5, acc, kk, ek, atL, few, nx⟩ => ?_
      subst ek
      refine d_dictSet (X := X.blk sc Hc scope ce fp) I5 atL few r4b r5 fun s6 I6 => ?_
      obtain ⟨m', less, w'⟩ := later _ nx
      have keep : ∀ b ∈ fp, ∀ o, s3.heap.get? b = some o → s6.heap.get? b = some o ∧ upd H5 L (.dK (putK acc kk y)) b = none := fun b hb o q =>
        have z := I6.pin (b, o) (List.mem_append_right _ (List.mem_append_right _ (mem_pinsAt hb q)))
        ⟨z.1, z.2.1⟩
      refine ⟨m', less, i + 1, _, (I6.unpinned (pins := [])).weak (by rw [← same, wipe_length]) (fun j v q => ?_), TT.keep _ _ _ st3 fun b hb o q => (keep b hb o q).1, fun b hb => ?_, w'⟩
      · rw [← same] at q
        exact (wipe_some q).1
      · obtain ⟨o, q, _⟩ := TT.obj _ _ st3 b hb
        exact (keep b hb o q).2
  exact codeAny_compStart_dict whole (TT.self X.A 0 _ _ _ std whole)
theorem pe_dcI {X : Cx} {kx vx tg iter : Expr} {scope : Scope} {own : List (Str × Nat)} {pos : Pos} {wi : TI} {g : TG} {tk : TE} {te : L2.St → TE} (hc : X.calm = true) (hN : X.N.Nodup) (hi : PI X tg iter wi) (ok : BlkOk X.N X.env.scope scope own)
    (hg : ∀ (s : Shared) (H : Hp) (C : Addr) (cl : List (Str × Addr)) (fp : List Addr), PG (X.blk s H scope (compEnvC scope cl C X.env) fp) tg g)
    (hk : ∀ (s : Shared) (H : Hp) (C : Addr) (cl : List (Str × Addr)) (fp : List Addr), PE (X.blk s H scope (compEnvC scope cl C X.env) fp) kx tk)
    (he : ∀ (pins : List (Addr × Obj)) (σ : L2.St) (s : Shared) (H : Hp) (C : Addr) (fp : List Addr), Inv X pins σ H s → (∀ b ∈ fp, FpOk X pins H b) → PE (blkI X s H scope C fp) vx (te σ)) (hs : ∀ x, foldedSetIterable iter X.env x = pure x := by intro _; rfl) :
    PE X (.DictComp kx vx [⟨tg, iter, [], 0⟩] scope pos) (fun σ H Q => tDc wi g tYes tk (te σ) (own.map (·.2)) σ H Q) := by
  refine ⟨fun pins s σ H Q I h => ?_⟩
  rw [arm_eval_DictComp]
  refine dcI_core hc hN I hi ok hg hk he hs h fun D C s' m H' I' q hn f => ⟨m, hn, fun h'' sb => ?_⟩
  obtain ⟨f0, f1, f2, f3, f4, f5⟩ := f
  exact ⟨.ref D, H', I'.turned (t' := s'.toks) (fun b o hb e => (sb.2 b hb).trans e) f0 f1 f3 f4 f5, rfl, q⟩
/-- name = {..} on one line, the name a local -/
theorem ps_setDcI {X : Cx} {i : Nat} {y : Str} {py spos : Pos} {kx vx tg iter : Expr} {scope : Scope} {own : List (Str × Nat)} {pos : Pos} {wi : TI} {g : TG} {tk : TE} {te : L2.St → TE} (hc : X.calm = true) (hN : X.N.Nodup) (hy : X.N[i]? = some y) (hyl : X.env.scope.names.lookup y = some .local)
    (hsw : swapsWith (.DictComp kx vx [⟨tg, iter, [], 0⟩] scope pos) (some (.Name y py)) spos.line X.env = pure true) (hi : PI X tg iter wi) (ok : BlkOk X.N X.env.scope scope own)
    (hg : ∀ (s : Shared) (H : Hp) (C : Addr) (cl : List (Str × Addr)) (fp : List Addr), PG (X.blk s H scope (compEnvC scope cl C X.env) fp) tg g)
    (hk : ∀ (s : Shared) (H : Hp) (C : Addr) (cl : List (Str × Addr)) (fp : List Addr), PE (X.blk s H scope (compEnvC scope cl C X.env) fp) kx tk)
    (he : ∀ (pins : List (Addr × Obj)) (σ : L2.St) (s : Shared) (H : Hp) (C : Addr) (fp : List Addr), Inv X pins σ H s → (∀ b ∈ fp, FpOk X pins H b) → PE (blkI X s H scope C fp) vx (te σ)) (hs : ∀ x, foldedSetIterable iter X.env x = pure x := by intro _; rfl) :
    PS X (.Assign [.Name y py] (.DictComp kx vx [⟨tg, iter, [], 0⟩] scope pos) spos) (tAsg (fun σ H Q => tDc wi g tYes tk (te σ) (own.map (·.2)) σ H Q) (gName i)) := by
  refine ⟨fun pins s σ H D I h => ?_⟩
  rw [exec_Assign_Name_used _ _ _ _ hsw]
  refine wpAny_bind (wpAny_standAt (wpAny_bind ?_))
  show wpAny _ X.A (do let _ ← comprehension (.DictComp kx vx [⟨tg, iter, [], 0⟩] scope pos) scope X.env (firstIterPos [⟨tg, iter, [], 0⟩] pos) newDict false (eval iter X.env) (some (assign (.Name y py) X.env))) _ _ s
  have h : tDc wi g tYes tk (te σ) (own.map (·.2)) σ H (fun x H1 => gName i x σ H1 D.nx) := h
  refine wpAny_bind (thn (dcI_core (Qf := fun _ s' => SP X pins D .next s') hc hN I hi ok hg hk he hs h fun L C s' m H' I' q hn f => ?_) fun _ s' hq => wpAny_pure (wpAny_pure hq))
  show wpAny _ _ (assign (.Name y py) X.env (.ref L)) _ _ _
  refine wpAny_assign_Name (store_ok2 (v := V.ref L) I' hN hy (.inl hyl) rfl (fun s2 I2 ⟨a, sb, ha⟩ => ?_) (.inr hyl))
  obtain ⟨f0, f1, f2, f3, f4, f5⟩ := f
  have haC : C ≠ a := by
    rcases ha with z | z
    · rw [z]; exact f1
    · exact fun e => f4 y a z e.symm
  refine ⟨m, hn.sameBut sb haC, fun h3 sb3 => ?_⟩
  exact ⟨_, H', I2.turned (t' := s2.toks) (fun b o hb e => (sb3.2 b hb).trans e) f0 f1 f3 f4 f5, q⟩
theorem sw_trueD {kx vx : Expr} {gs : List Comprehension} {scope : Scope} {pos py : Pos} {y : Str} {l : Nat} {env : Env} (hk : env.scope.kind = .function) (hy : env.scope.names.lookup y = some .local) (hl : (py.line == pos.line) = true)
    (ha : (scope.names.any fun (n, k) => n == y && (k == .local || k == .cell)) = false) : swapsWith (.DictComp kx vx gs scope pos) (some (.Name y py)) l env = pure true := by
  have ky : env.kindOf y = some .local := hy
  have hb : env.blockKind = .function := by unfold Env.blockKind; rw [hk]; rfl
  unfold swapsWith
  simp only [hb, ky, ha, Expr.pos, hl]
  rfl
end LamB

set_option maxRecDepth 100000
set_option maxHeartbeats 4000000
namespace Mine
open PySem L2
abbrev s_sources_of : Stmt := top 46
def nxF (ns : List (List Nat)) (x p : Nat) : Nat := (ns.getD x []).getD p 0
def lenF (ns : List (List Nat)) (x : Nat) : Nat := (ns.getD x []).length
/-- the things below i that have k at place p -/
def col (ns : List (List Nat)) (i p k : Nat) : List Nat := (List.range i).filter fun x => decide (p < lenF ns x ∧ nxF ns x p = k)
def colB (ns : List (List Nat)) (i j p k : Nat) : List Nat := col ns i p k ++ if p < j ∧ nxF ns i p = k then [i] else []
theorem col_succ {ns : List (List Nat)} {i p k : Nat} : col ns (i + 1) p k = colB ns i (lenF ns i) p k := by
  unfold colB col
  rw [List.range_succ, List.filter_append]
  congr 1
  by_cases h : p < lenF ns i ∧ nxF ns i p = k
  · rw [if_pos h, List.filter_cons_of_pos (by simpa using h)]
    rfl
  · rw [if_neg h, List.filter_cons_of_neg (by simpa using h)]
    rfl
theorem colB_zero {ns : List (List Nat)} {i p k : Nat} : colB ns i 0 p k = col ns i p k := by
  unfold colB
  rw [if_neg (by omega), List.append_nil]
theorem colB_succ {ns : List (List Nat)} {i j p k : Nat} : colB ns i (j + 1) p k = if p = j ∧ k = nxF ns i j then colB ns i j p k ++ [i] else colB ns i j p k := by
  unfold colB
  by_cases e : p = j
  · subst e
    by_cases z : k = nxF ns i p
    · subst z
      rw [if_pos ⟨Nat.lt_succ_self _, rfl⟩, if_pos ⟨rfl, rfl⟩, if_neg (by omega), List.append_nil]
    · rw [if_neg fun h => z h.2.symm, if_neg fun h => z h.2, if_neg (by omega)]
  · rw [if_neg (c := p = j ∧ k = nxF ns i j) fun h => e h.1]
    by_cases q : p < j ∧ nxF ns i p = k
    · rw [if_pos q, if_pos ⟨by omega, q.2⟩]
    · rw [if_neg q, if_neg fun h => q ⟨by omega, h.2⟩]
theorem col_nodup {ns : List (List Nat)} {i p k : Nat} : (col ns i p k).Nodup := List.nodup_range.filter _
theorem col_mem {ns : List (List Nat)} {i p k x : Nat} : x ∈ col ns i p k ↔ x < i ∧ p < lenF ns x ∧ nxF ns x p = k := by
  unfold col
  rw [List.mem_filter, List.mem_range, decide_eq_true_eq]
theorem col_len {ns : List (List Nat)} {i p k : Nat} : (col ns i p k).length ≤ i := by
  have h := List.length_filter_le (fun x => decide (p < lenF ns x ∧ nxF ns x p = k)) (List.range i)
  rw [List.length_range] at h
  exact h
theorem colB_len {ns : List (List Nat)} {i j p k : Nat} : (colB ns i j p k).length ≤ i + 1 := by
  unfold colB
  rw [List.length_append]
  have := @col_len ns i p k
  have : (if p < j ∧ nxF ns i p = k then [i] else []).length ≤ 1 := by
    split
    · exact Nat.le_refl _
    · exact Nat.zero_le _
  omega
/-- rows of numbers stand there as tuples -/
def Nx (H : Hp) (vs : List V) (ns : List (List Nat)) : Prop := vs.length = ns.length ∧ ∀ (i : Nat) (r : List Nat), ns[i]? = some r → ∃ q, vs[i]? = some (.ref q) ∧ H q = some (.tup (natsV r))
theorem Nx.same {H H' : Hp} {vs : List V} {ns : List (List Nat)} (s : Same H H') (h : Nx H vs ns) : Nx H' vs ns := ⟨h.1, fun i k e => by
  obtain ⟨q, e1, e2⟩ := h.2 i k e
  exact ⟨q, e1, s _ _ e2⟩⟩
abbrev refsV (n : Nat) (f : Nat → Addr) : List V := (List.range n).map fun i => V.ref (f i)
theorem refsV_succ {n : Nat} {f : Nat → Addr} : refsV n f ++ [.ref (f n)] = refsV (n + 1) f := by
  unfold refsV
  rw [List.range_succ, List.map_append]
  rfl
theorem refsV_congr {n : Nat} {f g : Nat → Addr} (h : ∀ i, i < n → f i = g i) : refsV n f = refsV n g := List.map_congr_left fun i hi => by rw [h i (List.mem_range.mp hi)]
theorem refsV_get {n i : Nat} {f : Nat → Addr} (h : i < n) : (refsV n f)[i]? = some (.ref (f i)) := by
  unfold refsV
  rw [List.getElem?_map, List.getElem?_range h]
  rfl
/-- the lists for each place and thing -/
structure SrcI (H0 : Hp) (n lg : Nat) (S : Addr) (pa : Nat → Addr) (ca : Nat → Nat → Addr) (c : Nat → Nat → List Nat) (H : Hp) : Prop where
  same : Same H0 H
  s : H S = some (.lst (refsV lg pa))
  p : ∀ p, p < lg → H (pa p) = some (.lst (refsV n (ca p)))
  c : ∀ p i, p < lg → i < n → H (ca p i) = some (.lst (natsV (c p i)))
  nS : H0 S = none
  np : ∀ p, p < lg → H0 (pa p) = none
  nc : ∀ p i, p < lg → i < n → H0 (ca p i) = none
  pq : ∀ p q, p < lg → q < lg → pa p = pa q → p = q
  cq : ∀ p q i j, p < lg → q < lg → i < n → j < n → ca p i = ca q j → p = q ∧ i = j
  pc : ∀ p q j, p < lg → q < lg → j < n → pa p ≠ ca q j
  sp : ∀ p, p < lg → S ≠ pa p
  sc : ∀ p i, p < lg → i < n → S ≠ ca p i
theorem SrcI.later {H0 H H' : Hp} {n lg : Nat} {S : Addr} {pa : Nat → Addr} {ca : Nat → Nat → Addr} {c : Nat → Nat → List Nat} (h : SrcI H0 n lg S pa ca c H) (s : Same H H') : SrcI H0 n lg S pa ca c H' :=
  ⟨h.same.trans s, s _ _ h.s, fun p hp => s _ _ (h.p p hp), fun p i hp hi => s _ _ (h.c p i hp hi), h.nS, h.np, h.nc, h.pq, h.cq, h.pc, h.sp, h.sc⟩
theorem SrcI.put {H0 H : Hp} {n lg : Nat} {S : Addr} {pa : Nat → Addr} {ca : Nat → Nat → Addr} {c c' : Nat → Nat → List Nat} (h : SrcI H0 n lg S pa ca c H) {p0 k0 x : Nat} (hp : p0 < lg) (hk : k0 < n) (e : ∀ p k, p < lg → k < n → c' p k = if p = p0 ∧ k = k0 then c p k ++ [x] else c p k) :
    SrcI H0 n lg S pa ca c' (upd H (ca p0 k0) (.lst (natsV (c p0 k0) ++ [.int (x : Int)]))) := by
  refine ⟨fun b o eb => ?_, ?_, fun p hp1 => ?_, fun p i hp1 hi => ?_, h.nS, h.np, h.nc, h.pq, h.cq, h.pc, h.sp, h.sc⟩
  · rw [upd_ne (fun z => by rw [z, h.nc _ _ hp hk] at eb; cases eb)]
    exact h.same _ _ eb
  · rw [upd_ne (h.sc _ _ hp hk)]
    exact h.s
  · rw [upd_ne (h.pc _ _ _ hp1 hp hk)]
    exact h.p p hp1
  · rw [e p i hp1 hi]
    by_cases z : p = p0 ∧ i = k0
    · obtain ⟨rfl, rfl⟩ := z
      rw [upd_same, if_pos ⟨rfl, rfl⟩]
      unfold natsV
      rw [List.map_append]
      rfl
    · rw [if_neg z, upd_ne (fun q => z (h.cq _ _ _ _ hp1 hp hi hk q))]
      exact h.c p i hp1 hi
theorem SrcI.re {H0 H : Hp} {n lg : Nat} {S : Addr} {pa : Nat → Addr} {ca : Nat → Nat → Addr} {c c' : Nat → Nat → List Nat} (h : SrcI H0 n lg S pa ca c H) (e : ∀ p k, p < lg → k < n → c' p k = c p k) : SrcI H0 n lg S pa ca c' H :=
  ⟨h.same, h.s, h.p, fun p i hp hi => by rw [e p i hp hi]; exact h.c p i hp hi, h.nS, h.np, h.nc, h.pq, h.cq, h.pc, h.sp, h.sc⟩
theorem SrcI.base {H0 H1 H : Hp} {n lg : Nat} {S : Addr} {pa : Nat → Addr} {ca : Nat → Nat → Addr} {c : Nat → Nat → List Nat} (h : SrcI H1 n lg S pa ca c H) (s : Same H0 H1) : SrcI H0 n lg S pa ca c H :=
  ⟨s.trans h.same, h.s, h.p, h.c, none_of s h.nS, fun p hp => none_of s (h.np p hp), fun p i hp hi => none_of s (h.nc p i hp hi), h.pq, h.cq, h.pc, h.sp, h.sc⟩
/-- one place's lists, as they are made -/
structure RowI (H0 : Hp) (D : Addr) (ca : Nat → Addr) (k : Nat) (H : Hp) : Prop where
  same : Same H0 H
  nD : H0 D = none
  d : H D = some (.lst (refsV k ca))
  c : ∀ i, i < k → H (ca i) = some (.lst [])
  nc : ∀ i, i < k → H0 (ca i) = none
  cq : ∀ i j, i < k → j < k → ca i = ca j → i = j
  dc : ∀ i, i < k → D ≠ ca i
theorem RowI.step {H0 H H' : Hp} {D c0 : Addr} {ca : Nat → Addr} {k : Nat} (h : RowI H0 D ca k H) (n : H c0 = none) (s : Same H H') (e : H' c0 = some (.lst [])) :
    RowI H0 D (fun i => if i = k then c0 else ca i) (k + 1) (upd H' D (.lst (refsV k ca ++ [.ref c0]))) := by
  have old : ∀ i, i < k → (if i = k then c0 else ca i) = ca i := fun i hi => if_neg (by omega)
  have nd : D ≠ c0 := fun z => by have := h.d; rw [z, n] at this; cases this
  have ne : ∀ i, i < k → ca i ≠ c0 := fun i hi z => by have := h.c i hi; rw [z, n] at this; cases this
  have bnd : ∀ i, i < k + 1 → i = k ∨ i < k := fun i hi => by omega
  refine ⟨fun b o eb => ?_, h.nD, ?_, fun i hi => ?_, fun i hi => ?_, fun i j hi hj z => ?_, fun i hi => ?_⟩
  · rw [upd_ne (fun z => by rw [z, h.nD] at eb; cases eb)]
    exact s _ _ (h.same _ _ eb)
  · rw [upd_same, ← refsV_succ, if_pos rfl, refsV_congr (fun i hi => (old i hi))]
  · rcases bnd i hi with rfl | q
    · rw [if_pos rfl, upd_ne (Ne.symm nd)]
      exact e
    · rw [old i q, upd_ne (Ne.symm (h.dc i q))]
      exact s _ _ (h.c i q)
  · rcases bnd i hi with rfl | q
    · rw [if_pos rfl]
      exact none_of h.same n
    · rw [old i q]
      exact h.nc i q
  · rcases bnd i hi with rfl | qi <;> rcases bnd j hj with rfl | qj
    · rfl
    · rw [if_pos rfl, old j qj] at z
      exact absurd z.symm (ne j qj)
    · rw [old i qi, if_pos rfl] at z
      exact absurd z (ne i qi)
    · rw [old i qi, old j qj] at z
      exact h.cq i j qi qj z
  · rcases bnd i hi with rfl | q
    · rw [if_pos rfl]
      exact nd
    · rw [old i q]
      exact h.dc i q
theorem SrcI.step {H0 H H' : Hp} {n p : Nat} {S D : Addr} {pa : Nat → Addr} {ca : Nat → Nat → Addr} {c2 : Nat → Addr} (h : SrcI H0 n p S pa ca (fun _ _ => []) H) (r : RowI H D c2 n H') :
    SrcI H0 n (p + 1) S (fun q => if q = p then D else pa q) (fun q => if q = p then c2 else ca q) (fun _ _ => []) (upd H' S (.lst (refsV p pa ++ [.ref D]))) := by
  have olp : ∀ q, q < p → (if q = p then D else pa q) = pa q := fun q hq => if_neg (by omega)
  have olc : ∀ q, q < p → (if q = p then c2 else ca q) = ca q := fun q hq => if_neg (by omega)
  have nw : (if p = p then c2 else ca p) = c2 := if_pos rfl
  have ndS : S ≠ D := fun z => by have := h.s; rw [z, r.nD] at this; cases this
  have ncS : ∀ i, i < n → S ≠ c2 i := fun i hi z => by have := h.s; rw [z, r.nc i hi] at this; cases this
  have ndp : ∀ q, q < p → pa q ≠ D := fun q hq z => by have := h.p q hq; rw [z, r.nD] at this; cases this
  have ncp : ∀ q i, q < p → i < n → pa q ≠ c2 i := fun q i hq hi z => by have := h.p q hq; rw [z, r.nc i hi] at this; cases this
  have ndc : ∀ q j, q < p → j < n → ca q j ≠ D := fun q j hq hj z => by have := h.c q j hq hj; rw [z, r.nD] at this; cases this
  have ncc : ∀ q j i, q < p → j < n → i < n → ca q j ≠ c2 i := fun q j i hq hj hi z => by have := h.c q j hq hj; rw [z, r.nc i hi] at this; cases this
  have bnd : ∀ q, q < p + 1 → q = p ∨ q < p := fun q hq => by omega
  refine ⟨fun b o eb => ?_, ?_, fun q hq => ?_, fun q i hq hi => ?_, h.nS, fun q hq => ?_, fun q i hq hi => ?_, fun q q' hq hq' z => ?_, fun q q' i j hq hq' hi hj z => ?_, fun q q' j hq hq' hj => ?_, fun q hq => ?_, fun q i hq hi => ?_⟩
  · rw [upd_ne (fun z => by rw [z, h.nS] at eb; cases eb)]
    exact r.same _ _ (h.same _ _ eb)
  · rw [upd_same, ← refsV_succ, if_pos rfl, refsV_congr (fun i hi => (olp i hi))]
  · rcases bnd q hq with rfl | z
    · rw [if_pos rfl, if_pos rfl, upd_ne (Ne.symm ndS)]
      exact r.d
    · rw [olp q z, olc q z, upd_ne (Ne.symm (h.sp q z))]
      exact r.same _ _ (h.p q z)
  · rcases bnd q hq with rfl | z
    · rw [if_pos rfl, upd_ne (Ne.symm (ncS i hi))]
      exact r.c i hi
    · rw [olc q z, upd_ne (Ne.symm (h.sc q i z hi))]
      exact r.same _ _ (h.c q i z hi)
  · rcases bnd q hq with rfl | z
    · rw [if_pos rfl]
      exact none_of h.same r.nD
    · rw [olp q z]
      exact h.np q z
  · rcases bnd q hq with rfl | z
    · rw [if_pos rfl]
      exact none_of h.same (r.nc i hi)
    · rw [olc q z]
      exact h.nc q i z hi
  · rcases bnd q hq with rfl | a <;> rcases bnd q' hq' with rfl | b
    · rfl
    · rw [if_pos rfl, olp _ b] at z
      exact absurd z.symm (ndp _ b)
    · rw [if_pos rfl, olp _ a] at z
      exact absurd z (ndp _ a)
    · rw [olp _ a, olp _ b] at z
      exact h.pq _ _ a b z
  · rcases bnd q hq with rfl | a <;> rcases bnd q' hq' with rfl | b
    · rw [if_pos rfl] at z
      exact ⟨rfl, r.cq _ _ hi hj z⟩
    · rw [if_pos rfl, olc _ b] at z
      exact absurd z.symm (ncc _ _ _ b hj hi)
    · rw [if_pos rfl, olc _ a] at z
      exact absurd z (ncc _ _ _ a hi hj)
    · rw [olc _ a, olc _ b] at z
      exact h.cq _ _ _ _ a b hi hj z
  · rcases bnd q hq with rfl | a <;> rcases bnd q' hq' with rfl | b
    · rw [if_pos rfl, if_pos rfl]
      exact r.dc j hj
    · rw [if_pos rfl, olc _ b]
      exact Ne.symm (ndc _ _ b hj)
    · rw [if_pos rfl, olp _ a]
      exact ncp _ _ a hj
    · rw [olp _ a, olc _ b]
      exact h.pc _ _ _ a b hj
  · rcases bnd q hq with rfl | a
    · rw [if_pos rfl]
      exact ndS
    · rw [olp _ a]
      exact h.sp _ a
  · rcases bnd q hq with rfl | a
    · rw [if_pos rfl]
      exact ncS i hi
    · rw [olc _ a]
      exact h.sc _ _ a hi
def rLenSq (K : PySem.W.Frag) : List V → Hp → VK → Prop := fun xs H Q => ∃ p ys, xs = [V.ref p] ∧ (SqL K H p ys ∨ SqT K H p ys) ∧ Q (V.int ys.length) H
def InN (ns : List (List Nat)) : Prop := ∀ x p, x < ns.length → p < lenF ns x → nxF ns x p < ns.length
def spSources : Sp := fun vs H Q _ => ∃ (a : Addr) (xs : List V) (ns : List (List Nat)), vs = [.ref a] ∧ H a = some (.lst xs) ∧ Nx H xs ns ∧ ns.length ≤ 100000 ∧ (∀ r ∈ ns, r.length ≤ 100000) ∧ InN ns ∧
  ∀ (S : Addr) (H' : Hp) (lg : Nat) (pa : Nat → Addr) (ca : Nat → Nat → Addr), (∀ x, x < ns.length → lenF ns x ≤ lg) → SrcI H ns.length lg S pa ca (fun p k => col ns ns.length p k) H' → Q (.ref S) H'
section
variable {P : Program} {w : World} {K : PySem.W.Frag} {mg : Str → Option Value} {base : Heap}
variable {fII fIW : Addr}
theorem sc_sources_of : FnScope ["nexts", "longest", "sources", "thing", "row", "place", "following"] ["nexts"] (defScope s_sources_of) := ⟨rfl, rfl, rfl, by decide +kernel, rfl, by decide +kernel, by decide +kernel⟩
theorem ok_sources_of {f : Addr} {fd : FuncData} (F : Fun K "sources_of" "sources_of" s_sources_of f fd) (T : TxtF K mg fII fIW) (h_max : mg "max" = none) (h_range : mg "range" = none) (h_enum : mg "enumerate" = none) : FnOk P w K mg base CX0 1 f fd ["nexts"] spSources := by
  refine F.ok sc_sources_of (fun vs H Q E h => ?_) (fun cdv A outer s H vs Q E hr h => ?_)
  · obtain ⟨a, xs, ns, rfl, _⟩ := h
    rfl
  · obtain ⟨a, xs, ns, rfl, ha, nx, big, wide, inn, k⟩ := h
    refine ⟨_, (pss_cons (ps_set (i := 1) sc_sources_of.nd rfl (Or.inl rfl) (pe_callBK (cr_maxD rfl) (by rfl) h_max (by decide +kernel) (pa_cons (pe_lc (own := [("row", 4)]) (g := (gName 4)) (tt := tYes) rfl sc_sources_of.nd (pi_list (pv 0)) (blkOk_by (own := [("row", 4)]) (N := ["nexts", "longest", "sources", "thing", "row", "place", "following"]) (sc := defScope s_sources_of) (by decide +kernel)) (fun _ _ _ _ _ => (pg_name (i := 4) sc_sources_of.nd rfl (Or.inl rfl))) (fun _ _ _ _ _ => pts_nil) (fun _ _ _ _ _ => (pe_callB (show CallR _ (.builtin "len") (rLenSq K) from call_len_seq) (by rfl) T.b_len PySem.boot_len (pa_cons (pv 4) pa_nil)))) pa_nil) (pk_cons pe_int pk_nil)))
      (pss_cons (ps_setLc (i := 2) (own := [("place", 5)]) (g := (gName 5)) (tt := tYes) (te := tLc (iList K (tVar 0)) (gName 4) tYes (gLstN tNil) ([(("row" : Str), 4)].map (·.2))) rfl sc_sources_of.nd rfl rfl (sw_true rfl rfl rfl rfl) (pi_range1 (by rfl) h_range (pa_cons (pv 1) pa_nil)) (blkOk_by (own := [("place", 5)]) (N := ["nexts", "longest", "sources", "thing", "row", "place", "following"]) (sc := defScope s_sources_of) (by decide +kernel)) (fun _ _ _ _ _ => (pg_name (i := 5) sc_sources_of.nd rfl (Or.inl rfl))) (fun _ _ _ _ _ => pts_nil) (fun _ _ _ _ _ => (pe_lc (own := [("row", 4)]) (g := (gName 4)) (tt := tYes) rfl sc_sources_of.nd (pi_list (pv 0)) (blkOk_by (own := [("row", 4)]) (N := ["nexts", "longest", "sources", "thing", "row", "place", "following"]) (by kernel_rfl)) (fun _ _ _ _ _ => (pg_name (i := 4) sc_sources_of.nd rfl (Or.inl rfl))) (fun _ _ _ _ _ => pts_nil) (fun _ _ _ _ _ => (pe_lstG pa_nil)))))
      (pss_cons (ps_for PassesOwn.never rfl (pi_enum (by rfl) h_enum (pa_cons (pv 0) pa_nil)) (pg_tup rfl (pgs_cons (pg_name (i := 3) sc_sources_of.nd rfl (Or.inl rfl)) (pgs_cons (pg_name (i := 4) sc_sources_of.nd rfl (Or.inl rfl)) pgs_nil))) (pss_one (ps_for PassesOwn.never rfl (pi_enumT (by rfl) h_enum (pa_cons (pv 4) pa_nil)) (pg_tup rfl (pgs_cons (pg_name (i := 5) sc_sources_of.nd rfl (Or.inl rfl)) (pgs_cons (pg_name (i := 6) sc_sources_of.nd rfl (Or.inl rfl)) pgs_nil))) (pss_one (ps_expr (pe_bm PySem.F.plainAttrs_list PySem.F.slot_list_append PySem.F.type_list_append mt_append (pe_ix ix_list (pe_ix ix_list (pv 2) (pv 5) (fun _ _ => rfl)) (pv 6) (fun _ _ => rfl)) (pa_cons (pv 3) pa_nil)))))))
      (pss_one (ps_ret (pv 2)))))), ?_⟩
    have wx : ∀ x, x < ns.length → ∃ r q, ns[x]? = some r ∧ xs[x]? = some (.ref q) ∧ H q = some (.tup (natsV r)) ∧ lenF ns x = r.length ∧ r.length ≤ 100000 := fun x hx => by
      have e : ns[x]? = some ns[x] := List.getElem?_eq_getElem hx
      obtain ⟨q, e1, e2⟩ := nx.2 x _ e
      exact ⟨_, q, e, e1, e2, by unfold lenF; rw [List.getD_eq_getElem?_getD, e]; rfl, wide _ (List.getElem_mem hx)⟩
    refine ⟨_, rfl, a, rfl, ⟨xs, SqL.of ha⟩, fun D nD => lc_it (walk_list (xs := xs)) (fun i Hx => Same H Hx ∧ Hx D = some (.lst ((ns.take i).map fun r => V.int (r.length : Int)))) ⟨sameNew nD _, upd_same⟩ (fun i Hx _ z => SqL.of (z.1 _ _ ha)) (fun i x Ha Hb hi z1 z2 => ?_) fun Hx z => ?_⟩
    · obtain ⟨rfl, hx⟩ := z2
      obtain ⟨sx, eD⟩ := z1
      obtain ⟨r, q, e1, e2, e3, e4, e5⟩ := wx i (nx.1 ▸ hi)
      rw [hx] at e2
      obtain rfl := Option.some.inj e2
      refine ⟨rfl, _, rfl, q, _, rfl, .inr (.inl (.inl (sx _ _ e3))), _, eD, ?_, ?_, ?_⟩
      · rw [List.length_map, List.length_take, sizeLine_eq]
        omega
      · exact same_updN sx nD
      · rw [upd_same, List.take_add_one, e1, List.map_append]
        unfold natsV
        rw [List.length_map]
        rfl
    obtain ⟨s1, e1⟩ := z
    rw [nx.1, List.take_length] at e1
    refine ⟨D, ns.map (fun r => (r.length : Int)), 0, rfl, rfl, SqL.of (by rw [List.map_map]; exact e1), fun m hm => ?_⟩
    obtain ⟨lg, rfl, hlg, blg⟩ : ∃ lg : Nat, m = (lg : Int) ∧ (∀ x, x < ns.length → lenF ns x ≤ lg) ∧ lg ≤ 100000 := by
      rcases hm with ⟨h0, rfl⟩ | ⟨h1, h2⟩
      · have : ns = [] := List.map_eq_nil_iff.mp h0
        subst this
        exact ⟨0, rfl, fun x hx => absurd hx (Nat.not_lt_zero x), Nat.zero_le _⟩
      · obtain ⟨r, hr1, rfl⟩ := List.mem_map.mp h1
        refine ⟨r.length, rfl, fun x hx => ?_, wide r hr1⟩
        obtain ⟨r2, q, g1, g2, g3, g4, g5⟩ := wx x hx
        rw [g4]
        have := h2 (r2.length : Int) (List.mem_map.mpr ⟨r2, List.mem_of_getElem? g1, rfl⟩)
        omega
    clear e1 nD hm
    generalize Hx = H1 at s1 ⊢
    have rows1 : H1 a = some (.lst xs) := s1 _ _ ha
    refine ⟨_, rfl, lg, rfl, by omega, by omega, fun S nS => lc_range (lo := 0) (n := lg) (fun p Hx => ∃ pa ca, SrcI H1 ns.length p S pa ca (fun _ _ => []) Hx) ⟨fun _ => 0, fun _ _ => 0, ⟨sameNew nS _, upd_same, fun _ h => absurd h (Nat.not_lt_zero _), fun _ _ h => absurd h (Nat.not_lt_zero _), nS, fun _ h => absurd h (Nat.not_lt_zero _), fun _ _ h => absurd h (Nat.not_lt_zero _), fun _ _ h => absurd h (Nat.not_lt_zero _), fun _ _ _ _ h => absurd h (Nat.not_lt_zero _), fun _ _ _ h => absurd h (Nat.not_lt_zero _), fun _ h => absurd h (Nat.not_lt_zero _), fun _ _ h => absurd h (Nat.not_lt_zero _)⟩⟩ (fun p Hx hp z => ?_) fun Hx z => ?_⟩
    · obtain ⟨pa, ca, h⟩ := z
      refine ⟨rfl, _, rfl, a, rfl, ⟨xs, SqL.of (h.same _ _ rows1)⟩, fun D nD => lc_it (walk_list (xs := xs)) (fun i Hy => ∃ c2, RowI Hx D c2 i Hy) ⟨fun _ => 0, ⟨sameNew nD _, nD, upd_same, fun _ h => absurd h (Nat.not_lt_zero _), fun _ h => absurd h (Nat.not_lt_zero _), fun _ _ h => absurd h (Nat.not_lt_zero _), fun _ h => absurd h (Nat.not_lt_zero _)⟩⟩ (fun i Hy _ z => by obtain ⟨_, z⟩ := z; exact SqL.of (z.same _ _ (h.same _ _ rows1))) (fun i x Ha Hb hi z1 z2 => ?_) fun Hy z => ?_⟩
      · obtain ⟨rfl, hx⟩ := z2
        obtain ⟨c2, r⟩ := z1
        refine ⟨rfl, Nat.zero_le _, fun c0 H' n0 s0 e0 => ⟨_, s0 _ _ r.d, ?_, _, r.step n0 s0 e0⟩⟩
        rw [List.length_map, List.length_range, sizeLine_eq]
        have := nx.1
        omega
      · obtain ⟨c2, r⟩ := z
        rw [nx.1] at r
        refine ⟨_, r.same _ _ h.s, ?_, _, _, h.step r⟩
        rw [List.length_map, List.length_range, sizeLine_eq]
        omega
    obtain ⟨pa, ca, h⟩ := z
    have h : SrcI H1 ns.length lg S pa ca (fun p k => col ns 0 p k) Hx := h.re fun p k _ _ => rfl
    refine ⟨_, rfl, a, xs, rfl, SqL.of (h.same _ _ rows1), for_enumL (K := K) (a := a) (xs := xs) (fun i σ Hy => ∃ v3 v4 v5 v6 : Option V, σ = [some (.ref a), some (.int (lg : Int)), some (.ref S), v3, v4, v5, v6] ∧ SrcI H1 ns.length lg S pa ca (fun p k => col ns i p k) Hy) ⟨_, _, _, _, rfl, h⟩ (fun i σ Hy _ z => by obtain ⟨_, _, _, _, _, z⟩ := z; exact SqL.of (z.same _ _ rows1)) ?_ ?_⟩
    · rintro i x σ Ha T Hb hxi ⟨v3, v4, v5, v6, rfl, z⟩ nT sT eT
      have hi : i < ns.length := by rw [← nx.1]; exact (List.getElem?_eq_some_iff.mp hxi).1
      obtain ⟨r, q, g1, g2, g3, g4, g5⟩ := wx i hi
      rw [hxi] at g2
      obtain rfl := Option.some.inj g2
      have zb := z.later sT
      have row : ∀ Hz, Same H1 Hz → Hz q = some (.tup (natsV r)) := fun Hz sz => (s1.trans sz) _ _ g3
      have rl : (natsV r).length = lenF ns i := by unfold natsV; rw [List.length_map, g4]
      refine ⟨T, _, rfl, .inl (.inl eT), rfl, _, _, rfl, _, _, rfl, rfl, ?_⟩
      refine ⟨_, rfl, q, natsV r, rfl, .inl (.inl (row _ zb.same)), for_enumT (K := K) (a := q) (xs := natsV r) (fun j σ Hy => ∃ v5 v6 : Option V, σ = [some (.ref a), some (.int (lg : Int)), some (.ref S), some (.int (i : Int)), some (.ref q), v5, v6] ∧ SrcI H1 ns.length lg S pa ca (fun p k => colB ns i j p k) Hy) ⟨_, _, rfl, zb.re fun p k _ _ => colB_zero⟩ (fun j σ Hy _ z => by obtain ⟨_, _, _, z⟩ := z; exact .inl (.inl (row _ z.same))) ?_ ?_⟩
      · rintro j y σ Hc T2 Hd hyj ⟨v5, v6, rfl, zc⟩ nT2 sT2 eT2
        have zd := zc.later sT2
        have hj : j < lenF ns i := by rw [← rl]; exact (List.getElem?_eq_some_iff.mp hyj).1
        have ey : y = .int ((nxF ns i j : Nat) : Int) := by
          unfold natsV at hyj
          rw [List.getElem?_map] at hyj
          obtain ⟨m, hm, rfl⟩ := Option.map_eq_some_iff.mp hyj
          have e : nxF ns i j = m := by
            unfold nxF
            rw [List.getD_eq_getElem?_getD, List.getD_eq_getElem?_getD, g1]
            show (r[j]?).getD 0 = m
            rw [hm]
            rfl
          rw [e]
        subst ey
        have hjl : j < lg := Nat.lt_of_lt_of_le hj (hlg i hi)
        have hk := inn i j hi hj
        refine ⟨T2, _, rfl, .inl (.inl eT2), rfl, _, _, rfl, _, _, rfl, rfl, ?_⟩
        refine ⟨_, rfl, _, rfl, S, _, (j : Int), .ref (pa j), rfl, rfl, SqL.of zd.s, atI_nat (refsV_get hjl), _, rfl, pa j, _, ((nxF ns i j : Nat) : Int), .ref (ca j (nxF ns i j)), rfl, rfl, SqL.of (zd.p j hjl), atI_nat (refsV_get hk), ?_⟩
        refine ⟨.inl ⟨rfl, _, SqL.of (zd.c j _ hjl hk)⟩, _, rfl, _, _, _, rfl, rfl, zd.c j _ hjl hk, ?_, _, _, rfl, zd.put hjl hk fun p k _ _ => colB_succ⟩
        have := @colB_len ns i j j (nxF ns i j)
        unfold natsV
        rw [List.length_map, sizeLine_eq]
        omega
      · rintro σ Hy ⟨v5, v6, rfl, zy⟩
        rw [rl] at zy
        exact ⟨_, _, _, _, rfl, zy.re fun p k _ _ => col_succ⟩
    · rintro σ Hy ⟨v3, v4, v5, v6, rfl, z⟩
      rw [nx.1] at z
      exact ⟨_, rfl, k S Hy lg pa ca hlg (z.base s1)⟩
end
end Mine

set_option maxRecDepth 100000
set_option maxHeartbeats 4000000
namespace Mine
open PySem L2
/-- where the parts of a Parting stand -/
structure PAd where
  P : Addr
  dx : Addr
  ow : Addr
  mb : Addr
  wt : Addr
  ws : Addr
/-- what a Parting tells -/
structure PSt where
  m : Nat
  own : Nat → Nat
  ms : Nat → List Nat
  wl : List Nat
  w : Nat → Bool
  mem : Nat → Addr
abbrev natF (n : Nat) (f : Nat → Nat) : List V := fl n fun i => (f i : Int)
abbrev blsV (n : Nat) (f : Nat → Bool) : List V := (List.range n).map fun i => V.bl (f i)
def fieldsP (a : PAd) : List (Str × V) := [("owners", .ref a.ow), ("members", .ref a.mb), ("waiting", .ref a.wt), ("waits", .ref a.ws)]
structure PartAt (C : Addr) (n : Nat) (a : PAd) (s : PSt) (q : Nat) (H : Hp) : Prop where
  i : H a.P = some (.ins C a.dx (fieldsP a))
  ow : H a.ow = some (.lst (natF n s.own))
  mb : H a.mb = some (.lst (refsV s.m s.mem))
  mem : ∀ g, g < s.m → H (s.mem g) = some (.dK (knK (s.ms g)))
  wt : H a.wt = some (.lst (natsV s.wl))
  ws : H a.ws = some (.lst (blsV q s.w))
  inj : ∀ g k, g < s.m → k < s.m → s.mem g = s.mem k → g = k
  d1 : a.ow ≠ a.mb
  d2 : a.ow ≠ a.wt
  d3 : a.ow ≠ a.ws
  d4 : a.mb ≠ a.wt
  d5 : a.mb ≠ a.ws
  d6 : a.wt ≠ a.ws
/-- what belongs together -/
structure PartOk (n : Nat) (s : PSt) : Prop where
  lt : ∀ x, x < n → s.own x < s.m
  nd : ∀ g, g < s.m → (s.ms g).Nodup
  mem : ∀ g x, g < s.m → (x ∈ s.ms g ↔ x < n ∧ s.own x = g)
  wnd : s.wl.Nodup
  wl : ∀ g, g ∈ s.wl ↔ g < s.m ∧ s.w g = true
/-- all but the parts stays -/
def Oth (a : PAd) (s : PSt) (H H' : Hp) : Prop := ∀ b o, H b = some o → b ≠ a.ow → b ≠ a.mb → b ≠ a.wt → b ≠ a.ws → (∀ g, g < s.m → b ≠ s.mem g) → H' b = some o
theorem dif {H : Hp} {b c : Addr} {o o' : HO} (h : H b = some o) (h' : H c = some o') (n : o ≠ o') : b ≠ c := fun z => n (Option.some.inj (by rw [← h, ← h', z]))
section
variable {C : Addr} {n q : Nat} {a : PAd} {s : PSt} {H H' : Hp}
theorem PartAt.same (p : PartAt C n a s q H) (e : Same H H') : PartAt C n a s q H' :=
  ⟨e _ _ p.i, e _ _ p.ow, e _ _ p.mb, fun g hg => e _ _ (p.mem g hg), e _ _ p.wt, e _ _ p.ws, p.inj, p.d1, p.d2, p.d3, p.d4, p.d5, p.d6⟩
theorem PartAt.re {s' : PSt} (p : PartAt C n a s q H) (e1 : s'.m = s.m) (e2 : ∀ x, x < n → s'.own x = s.own x) (e3 : ∀ g, g < s.m → s'.ms g = s.ms g) (e4 : s'.wl = s.wl) (e5 : ∀ g, g < q → s'.w g = s.w g) (e6 : ∀ g, g < s.m → s'.mem g = s.mem g) : PartAt C n a s' q H := by
  refine ⟨p.i, ?_, ?_, fun g hg => ?_, ?_, ?_, fun g k hg hk z => ?_, p.d1, p.d2, p.d3, p.d4, p.d5, p.d6⟩
  · rw [show natF n s'.own = natF n s.own from List.map_congr_left fun i hi => by
      show V.int (s'.own i : Int) = V.int (s.own i : Int)
      rw [e2 i (List.mem_range.mp hi)]]
    exact p.ow
  · rw [e1, refsV_congr e6]
    exact p.mb
  · rw [e1] at hg
    rw [e6 g hg, e3 g hg]
    exact p.mem g hg
  · rw [e4]
    exact p.wt
  · rw [show blsV q s'.w = blsV q s.w from List.map_congr_left fun i hi => by rw [e5 i (List.mem_range.mp hi)]]
    exact p.ws
  · rw [e1] at hg hk
    rw [e6 g hg, e6 k hk] at z
    exact p.inj g k hg hk z
theorem PartAt.mi (p : PartAt C n a s q H) {g : Nat} (hg : g < s.m) : s.mem g ≠ a.P := dif (p.mem g hg) p.i (fun z => nomatch z)
theorem PartAt.mo (p : PartAt C n a s q H) {g : Nat} (hg : g < s.m) : s.mem g ≠ a.ow := dif (p.mem g hg) p.ow (fun z => nomatch z)
theorem PartAt.mm (p : PartAt C n a s q H) {g : Nat} (hg : g < s.m) : s.mem g ≠ a.mb := dif (p.mem g hg) p.mb (fun z => nomatch z)
theorem PartAt.mt (p : PartAt C n a s q H) {g : Nat} (hg : g < s.m) : s.mem g ≠ a.wt := dif (p.mem g hg) p.wt (fun z => nomatch z)
theorem PartAt.mw (p : PartAt C n a s q H) {g : Nat} (hg : g < s.m) : s.mem g ≠ a.ws := dif (p.mem g hg) p.ws (fun z => nomatch z)
theorem PartAt.oi (p : PartAt C n a s q H) : a.P ≠ a.ow := dif p.i p.ow (fun z => nomatch z)
theorem PartAt.bi (p : PartAt C n a s q H) : a.P ≠ a.mb := dif p.i p.mb (fun z => nomatch z)
theorem PartAt.ti (p : PartAt C n a s q H) : a.P ≠ a.wt := dif p.i p.wt (fun z => nomatch z)
theorem PartAt.si (p : PartAt C n a s q H) : a.P ≠ a.ws := dif p.i p.ws (fun z => nomatch z)
/-- owners[x] = v -/
theorem PartAt.putOwn (p : PartAt C n a s q H) {x v : Nat} (hx : x < n) : PartAt C n a { s with own := fun y => if y = x then v else s.own y } q (upd H a.ow (.lst ((natF n s.own).set x (.int (v : Int))))) := by
  refine ⟨?_, ?_, ?_, fun g hg => ?_, ?_, ?_, p.inj, p.d1, p.d2, p.d3, p.d4, p.d5, p.d6⟩
  · rw [upd_ne p.oi]
    exact p.i
  · rw [upd_same, fl_set hx]
    refine congrArg (fun l => some (HO.lst l)) (List.map_congr_left fun i _ => ?_)
    show V.int (if i = x then (v : Int) else (s.own i : Int)) = V.int ((if i = x then v else s.own i : Nat) : Int)
    split <;> rfl
  · rw [upd_ne (Ne.symm p.d1)]
    exact p.mb
  · rw [upd_ne (p.mo hg)]
    exact p.mem g hg
  · rw [upd_ne (Ne.symm p.d2)]
    exact p.wt
  · rw [upd_ne (Ne.symm p.d3)]
    exact p.ws
/-- members[g] = l -/
theorem PartAt.putMem (p : PartAt C n a s q H) {g : Nat} {l : List Nat} (hg : g < s.m) : PartAt C n a { s with ms := fun k => if k = g then l else s.ms k } q (upd H (s.mem g) (.dK (knK l))) := by
  refine ⟨?_, ?_, ?_, fun k hk => ?_, ?_, ?_, p.inj, p.d1, p.d2, p.d3, p.d4, p.d5, p.d6⟩
  · rw [upd_ne (Ne.symm (p.mi hg))]
    exact p.i
  · rw [upd_ne (Ne.symm (p.mo hg))]
    exact p.ow
  · rw [upd_ne (Ne.symm (p.mm hg))]
    exact p.mb
  · show upd H (s.mem g) (.dK (knK l)) (s.mem k) = some (.dK (knK (if k = g then l else s.ms k)))
    by_cases e : k = g
    · subst e
      rw [upd_same, if_pos rfl]
    · rw [if_neg e, upd_ne (fun z => e (p.inj k g hk hg z))]
      exact p.mem k hk
  · rw [upd_ne (Ne.symm (p.mt hg))]
    exact p.wt
  · rw [upd_ne (Ne.symm (p.mw hg))]
    exact p.ws
/-- members.append(a new dict) -/
theorem PartAt.addMem (p : PartAt C n a s q H) {D : Addr} {l : List Nat} (nD : H D = none) (e : Same H H') (eD : H' D = some (.dK (knK l))) :
    PartAt C n a { s with m := s.m + 1, ms := fun k => if k = s.m then l else s.ms k, mem := fun k => if k = s.m then D else s.mem k } q (upd H' a.mb (.lst (refsV s.m s.mem ++ [.ref D]))) := by
  have p' := p.same e
  have old : ∀ k, k < s.m → (if k = s.m then D else s.mem k) = s.mem k := fun k hk => if_neg (by omega)
  have bnd : ∀ k, k < s.m + 1 → k = s.m ∨ k < s.m := fun k hk => by omega
  have nm : ∀ k, k < s.m → s.mem k ≠ D := fun k hk z => by have := p.mem k hk; rw [z, nD] at this; cases this
  refine ⟨?_, ?_, ?_, fun k hk => ?_, ?_, ?_, fun g k hg hk z => ?_, p.d1, p.d2, p.d3, p.d4, p.d5, p.d6⟩
  · rw [upd_ne p.bi]
    exact p'.i
  · rw [upd_ne p.d1]
    exact p'.ow
  · show upd H' a.mb _ a.mb = some (.lst (refsV (s.m + 1) fun k => if k = s.m then D else s.mem k))
    rw [upd_same, ← refsV_succ, if_pos rfl, refsV_congr old]
  · show upd H' a.mb _ (if k = s.m then D else s.mem k) = some (.dK (knK (if k = s.m then l else s.ms k)))
    rcases bnd k hk with rfl | hk
    · rw [if_pos rfl, if_pos rfl, upd_ne (dif eD p'.mb (fun z => nomatch z))]
      exact eD
    · rw [old k hk, if_neg (by omega), upd_ne (p'.mm hk)]
      exact p'.mem k hk
  · rw [upd_ne (Ne.symm p.d4)]
    exact p'.wt
  · rw [upd_ne (Ne.symm p.d5)]
    exact p'.ws
  · have z : (if g = s.m then D else s.mem g) = (if k = s.m then D else s.mem k) := z
    rcases bnd g hg with rfl | hg <;> rcases bnd k hk with rfl | hk
    · rfl
    · rw [if_pos rfl, old k hk] at z
      exact absurd z.symm (nm k hk)
    · rw [if_pos rfl, old g hg] at z
      exact absurd z (nm g hg)
    · rw [old g hg, old k hk] at z
      exact p.inj g k hg hk z
/-- waiting -/
theorem PartAt.putWt (p : PartAt C n a s q H) {l : List Nat} {l' : List V} (e : l' = natsV l) : PartAt C n a { s with wl := l } q (upd H a.wt (.lst l')) := by
  subst e
  refine ⟨?_, ?_, ?_, fun k hk => ?_, ?_, ?_, p.inj, p.d1, p.d2, p.d3, p.d4, p.d5, p.d6⟩
  · rw [upd_ne p.ti]
    exact p.i
  · rw [upd_ne p.d2]
    exact p.ow
  · rw [upd_ne p.d4]
    exact p.mb
  · rw [upd_ne (p.mt hk)]
    exact p.mem k hk
  · rw [upd_same]
  · rw [upd_ne (Ne.symm p.d6)]
    exact p.ws
/-- waits -/
theorem PartAt.putWs (p : PartAt C n a s q H) {w' : Nat → Bool} {q' : Nat} {l' : List V} (e : l' = blsV q' w') : PartAt C n a { s with w := w' } q' (upd H a.ws (.lst l')) := by
  subst e
  refine ⟨?_, ?_, ?_, fun k hk => ?_, ?_, ?_, p.inj, p.d1, p.d2, p.d3, p.d4, p.d5, p.d6⟩
  · rw [upd_ne p.si]
    exact p.i
  · rw [upd_ne p.d3]
    exact p.ow
  · rw [upd_ne p.d5]
    exact p.mb
  · rw [upd_ne (p.mw hk)]
    exact p.mem k hk
  · rw [upd_ne p.d6]
    exact p.wt
  · rw [upd_same]
theorem Oth.refl : Oth a s H H := fun _ _ e _ _ _ _ _ => e
theorem Oth.same (e : Same H H') : Oth a s H H' := fun b o h _ _ _ _ _ => e b o h
/-- later on: the parts are the same, or new ones -/
theorem Oth.trans {s' : PSt} {H2 : Hp} (h : Oth a s H H') (h2 : Oth a s' H' H2) (new : ∀ g, g < s'.m → (g < s.m ∧ s'.mem g = s.mem g) ∨ H (s'.mem g) = none) : Oth a s H H2 := fun b o e n1 n2 n3 n4 n5 => by
  refine h2 b o (h b o e n1 n2 n3 n4 n5) n1 n2 n3 n4 fun g hg z => ?_
  rcases new g hg with ⟨hg', e'⟩ | e'
  · exact n5 g hg' (z.trans e')
  · rw [← z, e] at e'
    cases e'
theorem Oth.updo {o : HO} (h : Oth a s H H') {c : Addr} (hc : c = a.ow ∨ c = a.mb ∨ c = a.wt ∨ c = a.ws ∨ (∃ g, g < s.m ∧ c = s.mem g) ∨ H c = none) : Oth a s H (upd H' c o) := fun b o e n1 n2 n3 n4 n5 => by
  have : b ≠ c := by
    rintro rfl
    rcases hc with z | z | z | z | ⟨g, hg, z⟩ | z
    · exact n1 z
    · exact n2 z
    · exact n3 z
    · exact n4 z
    · exact n5 g hg z
    · rw [e] at z
      cases z
  rw [upd_ne this]
  exact h b o e n1 n2 n3 n4 n5
end
/-- a group is split: these things of it stand in a new one -/
def splitS (s : PSt) (g : Nat) (ts : List Nat) (nm : Addr) (sm : Nat) : PSt :=
  { m := s.m + 1, own := fun x => if x ∈ ts then s.m else s.own x, ms := fun k => if k = s.m then ts else if k = g then (s.ms g).filter (fun x => decide (x ∉ ts)) else s.ms k, wl := s.wl ++ [sm],
    w := fun k => if k = sm then true else if k = s.m then false else s.w k, mem := fun k => if k = s.m then nm else s.mem k }
theorem PartOk.split {n g sm : Nat} {s : PSt} {ts : List Nat} {nm : Addr} (h : PartOk n s) (hg : g < s.m) (nd : ts.Nodup) (sub : ∀ x ∈ ts, x < n ∧ s.own x = g) (hs : sm = s.m ∨ (sm = g ∧ s.w g = false)) : PartOk n (splitS s g ts nm sm) := by
  refine ⟨fun x hx => ?_, fun k hk => ?_, fun k x hk => ?_, ?_, fun k => ?_⟩
  · have := h.lt x hx
    show (if x ∈ ts then s.m else s.own x) < s.m + 1
    split <;> omega
  · have hk : k < s.m + 1 := hk
    show (if k = s.m then ts else if k = g then (s.ms g).filter (fun x => decide (x ∉ ts)) else s.ms k).Nodup
    by_cases e : k = s.m
    · rw [if_pos e]
      exact nd
    · rw [if_neg e]
      by_cases e2 : k = g
      · rw [if_pos e2]
        exact (h.nd g hg).filter _
      · rw [if_neg e2]
        exact h.nd k (by omega)
  · have hk : k < s.m + 1 := hk
    show x ∈ (if k = s.m then ts else if k = g then (s.ms g).filter (fun x => decide (x ∉ ts)) else s.ms k) ↔ x < n ∧ (if x ∈ ts then s.m else s.own x) = k
    by_cases e : k = s.m
    · rw [if_pos e]
      subst e
      constructor
      · intro z
        exact ⟨(sub x z).1, if_pos z⟩
      · rintro ⟨z1, z2⟩
        by_cases m : x ∈ ts
        · exact m
        · rw [if_neg m] at z2
          have := h.lt x z1
          omega
    · rw [if_neg e]
      by_cases e2 : k = g
      · rw [if_pos e2]
        subst e2
        rw [List.mem_filter, h.mem k x hg, decide_eq_true_eq]
        by_cases m : x ∈ ts
        · rw [if_pos m]
          exact ⟨fun z => absurd m z.2, fun z => absurd z.2.symm e⟩
        · rw [if_neg m]
          exact ⟨fun z => z.1, fun z => ⟨z, m⟩⟩
      · rw [if_neg e2, h.mem k x (by omega)]
        by_cases m : x ∈ ts
        · rw [if_pos m]
          exact ⟨fun z => absurd (z.2.symm.trans (sub x m).2) e2, fun z => absurd z.2.symm e⟩
        · rw [if_neg m]
  · show (s.wl ++ [sm]).Nodup
    rw [List.nodup_append]
    refine ⟨h.wnd, by simp, fun x hx y hy z => ?_⟩
    rw [List.mem_singleton.mp hy] at z
    subst z
    obtain ⟨z1, z2⟩ := (h.wl x).mp hx
    rcases hs with q | ⟨q1, q2⟩
    · omega
    · rw [q1, q2] at z2
      cases z2
  · show k ∈ s.wl ++ [sm] ↔ k < s.m + 1 ∧ (if k = sm then true else if k = s.m then false else s.w k) = true
    rw [List.mem_append, List.mem_singleton, h.wl k]
    by_cases e : k = sm
    · rw [if_pos e]
      refine ⟨fun _ => ⟨?_, rfl⟩, fun _ => .inr e⟩
      rcases hs with q | ⟨q, _⟩ <;> omega
    · rw [if_neg e]
      by_cases e2 : k = s.m
      · rw [if_pos e2]
        exact ⟨fun z => z.elim (fun z => by omega) fun z => absurd z e, fun z => by cases z.2⟩
      · rw [if_neg e2]
        exact ⟨fun z => z.elim (fun z => ⟨by omega, z.2⟩) fun z => absurd z e, fun z => .inl ⟨by omega, z.2⟩⟩
theorem kn_drop {l : List Nat} {x : Nat} : dropK (knK l) (.inl (x : Int)) = knK (l.filter fun y => decide (y ≠ x)) := by
  unfold dropK knK
  rw [List.filter_map]
  congr 1
  refine List.filter_congr fun y _ => ?_
  show decide ((Sum.inl (y : Int) : Key) ≠ .inl (x : Int)) = decide (y ≠ x)
  by_cases e : y = x
  · subst e
    simp
  · rw [decide_eq_true e, decide_eq_true]
    intro z
    exact e (by have := Sum.inl.inj z; omega)
theorem filter_step {l ts : List Nat} {k x : Nat} (e : ts[k]? = some x) : (l.filter (fun y => decide (y ∉ ts.take k))).filter (fun y => decide (y ≠ x)) = l.filter fun y => decide (y ∉ ts.take (k + 1)) := by
  rw [List.filter_filter]
  refine List.filter_congr fun y _ => ?_
  rw [List.take_add_one, e]
  show (decide (y ≠ x) && decide (y ∉ ts.take k)) = decide (y ∉ ts.take k ++ [x])
  rw [← Bool.decide_and]
  refine decide_eq_decide.mpr ?_
  rw [List.mem_append, List.mem_singleton]
  exact ⟨fun z q => q.elim z.2 z.1, fun z => ⟨fun q => z (.inr q), fun q => z (.inl q)⟩⟩
theorem bls_set {n k : Nat} {f : Nat → Bool} {v : Bool} (h : k < n) : (blsV n f).set k (V.bl v) = blsV n (fun i => if i = k then v else f i) := by
  refine List.ext_getElem? fun i => ?_
  rw [List.getElem?_set]
  unfold blsV
  rw [List.length_map, List.length_range, List.getElem?_map, List.getElem?_map]
  by_cases e : k = i
  · subst e
    rw [if_pos rfl, if_pos h, List.getElem?_range h]
    show some (V.bl v) = some (V.bl (if k = k then v else f k))
    rw [if_pos rfl]
  · rw [if_neg e]
    by_cases hi : i < n
    · rw [List.getElem?_range hi]
      show some (V.bl (f i)) = some (V.bl (if i = k then v else f i))
      rw [if_neg (fun z => e z.symm)]
    · rw [List.getElem?_eq_none (by rw [List.length_range]; omega)]
      rfl
end Mine

set_option maxRecDepth 100000
set_option maxHeartbeats 4000000
namespace Mine
open PySem L2
abbrev s_split : Stmt := top 48
structure PartC (K : PySem.W.Frag) (C : Addr) : Prop where
  cl : Cls K C
  n_owners : NoAttr K C "owners"
  n_members : NoAttr K C "members"
  n_waiting : NoAttr K C "waiting"
  n_waits : NoAttr K C "waits"
theorem natsV_get {l : List Nat} {i : Nat} {x : V} (h : (natsV l)[i]? = some x) : ∃ y, l[i]? = some y ∧ x = .int (y : Int) := by
  unfold natsV at h
  rw [List.getElem?_map] at h
  obtain ⟨y, h1, h2⟩ := Option.map_eq_some_iff.mp h
  exact ⟨y, h1, h2.symm⟩
theorem nodup_take {l : List Nat} {i y : Nat} (nd : l.Nodup) (h : l[i]? = some y) : y ∉ l.take i := fun m => by
  obtain ⟨hi, e⟩ := List.getElem?_eq_some_iff.mp h
  have e2 : l = l.take i ++ l.drop i := (List.take_append_drop i l).symm
  rw [e2, List.nodup_append] at nd
  refine nd.2.2 y m y ?_ rfl
  rw [List.drop_eq_getElem_cons hi, e]
  exact List.mem_cons_self
theorem kn_snoc {l : List Nat} {i y : Nat} (h : l[i]? = some y) (nd : l.Nodup) : putK (knK (l.take i)) (.inl (y : Int)) (.bl true) = knK (l.take (i + 1)) := by
  have : valV (knK (l.take i)) (.inl (y : Int)) = none := by
    have z := val_kn (l.take i) y
    rw [decide_eq_false (nodup_take nd h)] at z
    exact Option.not_isSome_iff_eq_none.mp (by rw [z]; exact Bool.false_ne_true)
  rw [putK_new _ this, List.take_add_one, h]
  unfold knK
  rw [List.map_append]
  rfl
def spSplit (C : Addr) : Sp := fun vs H Q _ => ∃ (n : Nat) (a : PAd) (s : PSt) (g : Nat) (t : Addr) (ts : List Nat), vs = [.ref a.P, .int (g : Int), .ref t] ∧ PartAt C n a s s.m H ∧ PartOk n s ∧ H t = some (.lst (natsV ts)) ∧ (t ≠ a.ow ∧ t ≠ a.mb ∧ t ≠ a.wt ∧ t ≠ a.ws) ∧ ts.Nodup ∧ (∀ x ∈ ts, x < n ∧ s.own x = g) ∧ g < s.m ∧ s.m < n ∧ n ≤ 100000 ∧
  ∀ (H' : Hp) (nm : Addr) (sm : Nat), H nm = none → Oth a s H H' → (sm = s.m ∨ (sm = g ∧ s.w g = false)) → PartAt C n a (splitS s g ts nm sm) (s.m + 1) H' → Q .non H'
theorem bls_at {n k : Nat} {f : Nat → Bool} (h : k < n) : atI (blsV n f) (k : Int) = some (.bl (f k)) := atI_nat (by
  unfold blsV
  rw [List.getElem?_map, List.getElem?_range h]
  rfl)
/-- which of the two waits -/
def tSm (C : Addr) : TS := fun D σ H => ∃ (a : PAd) (n q : Nat) (p : PSt) (g fr : Nat) (t : Addr) (ts : List Nat) (v4 : Option V), σ = [some (.ref a.P), some (.int (g : Int)), some (.ref t), some (.int (fr : Int)), v4, some (.int (fr : Int))] ∧ PartAt C n a p q H ∧ g < p.m ∧ g < q ∧ H t = some (.lst (natsV ts)) ∧
  ∀ sm : Nat, (sm = fr ∨ (sm = g ∧ p.w g = false)) → D.nx [some (.ref a.P), some (.int (g : Int)), some (.ref t), some (.int (fr : Int)), v4, some (.int (sm : Int))] H
section
variable {P : Program} {w : World} {K : PySem.W.Frag} {mg : Str → Option Value} {base : Heap}
variable {fII fIW C : Addr}
theorem sc_split : FnScope ["parting", "group", "things", "fresh", "thing", "smaller"] ["parting", "group", "things"] (defScope s_split) := ⟨rfl, rfl, rfl, by decide +kernel, rfl, by decide +kernel, by decide +kernel⟩
theorem ok_split {f : Addr} {fd : FuncData} (F : Fun K "split" "split" s_split f fd) (T : TxtF K mg fII fIW) (PC : PartC K C) : FnOk P w K mg base CX0 1 f fd ["parting", "group", "things"] (spSplit C) := by
  refine F.ok sc_split (fun vs H Q E h => ?_) (fun cdv A outer s H vs Q E hr h => ?_)
  · obtain ⟨n, a, s, g, t, ts, rfl, _⟩ := h
    rfl
  · obtain ⟨n, a, s, g, t, ts, rfl, pa, ok, ht, ⟨t1, t2, t3, t4⟩, nd, sub, hg, hm, big, k⟩ := h
    refine ⟨_, (pss_cons (ps_set (i := 3) sc_split.nd rfl (Or.inl rfl) (pe_callB call_len_seq (by rfl) T.b_len PySem.boot_len (pa_cons (pe_fld (pv 0) rfl) pa_nil)))
      (pss_cons (ps_expr (pe_bm PySem.F.plainAttrs_list PySem.F.slot_list_append PySem.F.type_list_append mt_append (pe_fld (pv 0) rfl) (pa_cons (pe_dc (own := [("thing", 4)]) (g := gName 4) rfl sc_split.nd (pi_list (pv 2)) (blkOk_by (own := [("thing", 4)]) (N := ["parting", "group", "things", "fresh", "thing", "smaller"]) (sc := defScope s_split) (by decide +kernel)) (fun _ _ _ _ _ => pg_name (i := 4) sc_split.nd rfl (Or.inl rfl)) (fun _ _ _ _ _ => pts_nil) (fun _ _ _ _ _ => (pv 4)) (fun _ _ _ _ _ => pe_bl)) pa_nil)))
      (pss_cons (ps_for PassesOwn.never rfl (pi_list (pv 2)) (pg_name (i := 4) sc_split.nd rfl (Or.inl rfl)) (pss_cons (ps_asg (pv 3) (pg_sub (pe_fld (pv 0) rfl) (pv 4) set_list))
      (pss_one (ps_ddel (pe_ix ix_list (pe_fld (pv 0) rfl) (pv 1) (fun _ _ => rfl)) (pv 4)))))
      (pss_cons (ps_set (i := 5) sc_split.nd rfl (Or.inl rfl) (pv 3))
      (pss_cons (ps_imp (ps_if (PW.pt (pw_and (pt_not (pt_val (pe_ix ix_list (pe_fld (pv 0) rfl) (pv 1) (fun _ _ => rfl)))) (pw_and1 (pt_cmpR op_lt (pe_callB call_lenD (by rfl) T.b_len PySem.boot_len (pa_cons (pe_ix ix_list (pe_fld (pv 0) rfl) (pv 1) (fun _ _ => rfl)) pa_nil)) (pe_callB call_len_seq (by rfl) T.b_len PySem.boot_len (pa_cons (pv 2) pa_nil)) (nomark _))))) (pss_one (ps_set (i := 5) sc_split.nd rfl (Or.inl rfl) (pv 1))) pss_nil) (t' := tSm C) (fun D σ H h => by
        obtain ⟨a, n, q, p, g, fr, t, ts, v4, rfl, pa, g1, g2, et, k⟩ := h
        refine ⟨_, rfl, a.P, C, a.dx, fieldsP a, .ref a.ws, rfl, pa.i, PC.cl, PC.n_waits, rfl, _, rfl, a.ws, _, (g : Int), .bl (p.w g), rfl, rfl, SqL.of pa.ws, bls_at g2, p.w g, rfl, ?_⟩
        cases hw : p.w g with
        | true => exact iteF (k fr (.inl rfl))
        | false =>
          refine iteT ?_
          refine ⟨_, rfl, a.P, C, a.dx, fieldsP a, .ref a.mb, rfl, pa.i, PC.cl, PC.n_members, rfl, _, rfl, a.mb, _, (g : Int), .ref (p.mem g), rfl, rfl, SqL.of pa.mb, atI_nat (refsV_get g1), p.mem g, _, rfl, pa.mem g g1, _, rfl, t, _, rfl, .inl (SqL.of et), ?_⟩
          refine ⟨_, _, rfl, rfl, _, rfl, ?_⟩
          by_cases z : ((knK (p.ms g)).length : Int) < (natsV ts).length
          · rw [decide_eq_true z]
            exact iteT ⟨_, rfl, k g (.inr ⟨rfl, hw⟩)⟩
          · rw [decide_eq_false z]
            exact iteF (k fr (.inl rfl))))
      (pss_cons (ps_expr (pe_bm PySem.F.plainAttrs_list PySem.F.slot_list_append PySem.F.type_list_append mt_append (pe_fld (pv 0) rfl) (pa_cons pe_bl pa_nil)))
      (pss_cons (ps_asg pe_bl (pg_sub (pe_fld (pv 0) rfl) (pv 5) set_list))
      (pss_one (ps_expr (pe_bm PySem.F.plainAttrs_list PySem.F.slot_list_append PySem.F.type_list_append mt_append (pe_fld (pv 0) rfl) (pa_cons (pv 5) pa_nil))))))))))), ?_⟩
    have tmem : ∀ {s' : PSt} {q : Nat} {H' : Hp} {k : Nat}, PartAt C n a s' q H' → H' t = some (.lst (natsV ts)) → k < s'.m → t ≠ s'.mem k := fun p e hk => dif e (p.mem _ hk) (fun z => nomatch z)
    have tl : ts.length ≤ n := by
      exact Mach.pigeon n ts nd fun x hx => (sub x hx).1
    refine ⟨_, rfl, a.P, C, a.dx, fieldsP a, .ref a.mb, rfl, pa.i, PC.cl, PC.n_members, rfl, a.mb, _, rfl, .inl (SqL.of pa.mb), ?_⟩
    rw [show (refsV s.m s.mem).length = s.m from by rw [List.length_map, List.length_range]]
    refine ⟨_, rfl, a.P, C, a.dx, fieldsP a, .ref a.mb, rfl, pa.i, PC.cl, PC.n_members, rfl, .inl ⟨rfl, _, SqL.of pa.mb⟩, _, rfl, t, rfl, ⟨_, SqL.of ht⟩, fun D nD => dc_list (xs := natsV ts) (fun i Hx => Same H Hx ∧ Hx D = some (.dK (knK (ts.take i)))) ⟨sameNew nD _, upd_same⟩ (fun i Hx _ z => SqL.of (z.1 _ _ ht)) (fun i x Hx hx z => ?_) (fun Hx z => ?_)⟩
    · obtain ⟨y, hy, rfl⟩ := natsV_get hx
      obtain ⟨z1, z2⟩ := z
      refine ⟨rfl, _, rfl, _, .inl (y : Int), rfl, z2, ?_, same_updN z1 nD, ?_⟩
      · unfold knK
        rw [List.length_map, List.length_take, sizeLine_eq]
        omega
      · rw [upd_same, kn_snoc hy nd]
    obtain ⟨z1, z2⟩ := z
    rw [show (natsV ts).length = ts.length from List.length_map .., List.take_length] at z2
    refine ⟨a.mb, _, .ref D, rfl, rfl, z1 _ _ pa.mb, by rw [List.length_map, List.length_range, sizeLine_eq]; omega, ?_⟩
    have p1 := pa.addMem nD z1 z2
    have o1 : Oth a s H (upd Hx a.mb (.lst (refsV s.m s.mem ++ [.ref D]))) := (Oth.same z1).updo (.inr (.inl rfl))
    have e1 : upd Hx a.mb (.lst (refsV s.m s.mem ++ [.ref D])) t = some (.lst (natsV ts)) := by rw [upd_ne t2]; exact z1 _ _ ht
    generalize upd Hx a.mb (.lst (refsV s.m s.mem ++ [.ref D])) = H1 at p1 o1 e1 ⊢
    have gl : ∀ {j : Nat}, (if g = s.m then ts else if g = g then (s.ms g).filter (fun x => decide (x ∉ ts.take j)) else s.ms g) = (s.ms g).filter (fun x => decide (x ∉ ts.take j)) := by
      intro j
      rw [if_neg (by omega), if_pos rfl]
    have stI : ∃ st : Nat → PSt, st = fun j => { m := s.m + 1, own := fun x => if x ∈ ts.take j then s.m else s.own x, ms := fun k => if k = s.m then ts else if k = g then (s.ms g).filter (fun x => decide (x ∉ ts.take j)) else s.ms k, wl := s.wl, w := s.w, mem := fun k => if k = s.m then D else s.mem k } := ⟨_, rfl⟩
    obtain ⟨st, est⟩ := stI
    have p1 : PartAt C n a (st 0) s.m H1 := by
      rw [est]
      refine p1.re rfl (fun x _ => rfl) (fun k hk => ?_) rfl (fun _ _ => rfl) (fun _ _ => rfl)
      show (if k = s.m then ts else if k = g then (s.ms g).filter (fun x => decide (x ∉ ts.take 0)) else s.ms k) = if k = s.m then ts else s.ms k
      by_cases e : k = g
      · subst e
        rw [gl, if_neg (by omega)]
        exact List.filter_eq_self.mpr fun x _ => by simp
      · rw [if_neg e]
    refine ⟨_, rfl, t, rfl, ⟨_, SqL.of e1⟩, for_list (K := K) (a := t) (xs := natsV ts) (fun i σ Hx => ∃ v4 : Option V, σ = [some (.ref a.P), some (.int (g : Int)), some (.ref t), some (.int (s.m : Int)), v4, none] ∧ PartAt C n a (st i) s.m Hx ∧ Oth a s H Hx ∧ Hx t = some (.lst (natsV ts))) ⟨_, rfl, p1, o1, e1⟩ (fun i σ Hx _ z => by obtain ⟨_, _, _, _, z⟩ := z; exact SqL.of z) ?_ ?_⟩
    · rintro i x σ Hx hx ⟨v4, rfl, p2, o2, e2⟩
      obtain ⟨y, hy, rfl⟩ := natsV_get hx
      have my := List.mem_of_getElem? hy
      have yn := (sub y my).1
      have fresh : y ∉ ts.take i := nodup_take nd hy
      have hgs : g < (st i).m := by rw [est]; exact Nat.lt_succ_of_lt hg
      have sti : (st i).ms g = (s.ms g).filter (fun x => decide (x ∉ ts.take i)) := by rw [est]; exact gl
      have mem0 : (st i).mem g = s.mem g := by rw [est]; exact if_neg (by omega)
      refine ⟨_, rfl, _, rfl, a.P, C, a.dx, fieldsP a, .ref a.ow, rfl, p2.i, PC.cl, PC.n_owners, rfl, _, rfl, a.ow, _, (y : Int), y, rfl, rfl, p2.ow, by rw [fl_len]; exact ixn yn, ?_⟩
      have p3 := p2.putOwn (v := s.m) yn
      have o3 : Oth a s H (upd Hx a.ow (.lst ((natF n (st i).own).set y (.int (s.m : Int))))) := o2.updo (.inl rfl)
      have e3 : upd Hx a.ow (.lst ((natF n (st i).own).set y (.int (s.m : Int)))) t = some (.lst (natsV ts)) := by rw [upd_ne t1]; exact e2
      generalize upd Hx a.ow (.lst ((natF n (st i).own).set y (.int (s.m : Int)))) = H3 at p3 o3 e3 ⊢
      refine ⟨_, rfl, a.P, C, a.dx, fieldsP a, .ref a.mb, rfl, p3.i, PC.cl, PC.n_members, rfl, _, rfl, a.mb, _, (g : Int), .ref ((st i).mem g), rfl, rfl, SqL.of p3.mb, atI_nat (refsV_get hgs), _, rfl, (st i).mem g, knK ((st i).ms g), .inl (y : Int), rfl, p3.mem g hgs, rfl, ?_, ?_⟩
      · rw [val_kn, sti, decide_eq_true_eq, List.mem_filter]
        exact ⟨(ok.mem g y hg).mpr (sub y my), decide_eq_true fresh⟩
      rw [kn_drop]
      refine ⟨_, rfl, ?_, o3.updo (.inr (.inr (.inr (.inr (.inl ⟨g, hg, mem0⟩))))), ?_⟩
      · refine (p3.putMem hgs).re ?_ (fun x _ => ?_) (fun k hk => ?_) ?_ (fun k _ => ?_) (fun k _ => ?_)
        · rw [est]
        · rw [est]
          show (if x ∈ ts.take (i + 1) then s.m else s.own x) = if x = y then s.m else if x ∈ ts.take i then s.m else s.own x
          rw [List.take_add_one, hy]
          by_cases e : x = y
          · rw [if_pos e, if_pos (by rw [e]; simp)]
          · rw [if_neg e]
            by_cases m : x ∈ ts.take i
            · rw [if_pos m, if_pos (List.mem_append_left _ m)]
            · rw [if_neg m, if_neg (fun z => (List.mem_append.mp z).elim m (by simpa using e))]
        · rw [sti, filter_step hy, est]
          show (if k = s.m then ts else if k = g then (s.ms g).filter (fun x => decide (x ∉ ts.take (i + 1))) else s.ms k) = if k = g then (s.ms g).filter (fun x => decide (x ∉ ts.take (i + 1))) else if k = s.m then ts else if k = g then (s.ms g).filter (fun x => decide (x ∉ ts.take i)) else s.ms k
          by_cases e : k = g
          · subst e
            rw [if_neg (by omega)]
            rw [if_pos rfl, if_pos rfl]
          · rw [if_neg e, if_neg e, if_neg e]
        · rw [est]
        · rw [est]
        · rw [est]
      · rw [upd_ne (tmem p3 e3 hgs)]
        exact e3
    · rintro σ Hx ⟨v4, rfl, p2, o2, e2⟩
      rw [show (natsV ts).length = ts.length from List.length_map ..] at p2
      have pw : (st ts.length).w = s.w := by rw [est]
      have pm : (st ts.length).m = s.m + 1 := by rw [est]
      have pl : (st ts.length).wl = s.wl := by rw [est]
      refine ⟨_, rfl, a, n, s.m, st ts.length, g, s.m, t, ts, v4, rfl, p2, by omega, hg, e2, fun sm hs => ?_⟩
      rw [pw] at hs
      have ws0 := p2.ws
      refine ⟨_, rfl, a.P, C, a.dx, fieldsP a, .ref a.ws, rfl, p2.i, PC.cl, PC.n_waits, rfl, .inl ⟨rfl, _, SqL.of ws0⟩, a.ws, _, .bl false, rfl, rfl, ws0, by rw [List.length_map, List.length_range, sizeLine_eq]; omega, ?_⟩
      have ap : blsV s.m (st ts.length).w ++ [.bl false] = blsV (s.m + 1) fun k => if k = s.m then false else s.w k := by
        rw [pw]
        unfold blsV
        rw [List.range_succ, List.map_append]
        congr 1
        · exact List.map_congr_left fun k hk => by
            show V.bl (s.w k) = V.bl (if k = s.m then false else s.w k)
            rw [if_neg (by have := List.mem_range.mp hk; omega)]
        · show [V.bl false] = [V.bl (if s.m = s.m then false else s.w s.m)]
          rw [if_pos rfl]
      have p3 := p2.putWs ap
      have o3 : Oth a s H (upd Hx a.ws (.lst (blsV s.m (st ts.length).w ++ [.bl false]))) := o2.updo (.inr (.inr (.inr (.inl rfl))))
      generalize upd Hx a.ws (.lst (blsV s.m (st ts.length).w ++ [.bl false])) = H3 at p3 o3 ⊢
      have sml : sm < s.m + 1 := by rcases hs with z | ⟨z, _⟩ <;> omega
      refine ⟨_, rfl, a.P, C, a.dx, fieldsP a, .ref a.ws, rfl, p3.i, PC.cl, PC.n_waits, rfl, _, rfl, a.ws, _, (sm : Int), sm, rfl, rfl, p3.ws, by rw [List.length_map, List.length_range]; exact ixn sml, ?_⟩
      have bs := bls_set (n := s.m + 1) (f := fun k => if k = s.m then false else s.w k) (v := true) sml
      have p4 := p3.putWs bs
      have o4 := o3.updo (c := a.ws) (o := .lst ((blsV (s.m + 1) fun k => if k = s.m then false else s.w k).set sm (V.bl true))) (.inr (.inr (.inr (.inl rfl))))
      generalize upd H3 a.ws _ = H4 at p4 o4 ⊢
      have wl4 : s.wl.length ≤ s.m := Mach.pigeon s.m s.wl ok.wnd fun x hx => ((ok.wl x).mp hx).1
      refine ⟨_, rfl, a.P, C, a.dx, fieldsP a, .ref a.wt, rfl, p4.i, PC.cl, PC.n_waiting, rfl, .inl ⟨rfl, _, SqL.of p4.wt⟩, _, rfl, a.wt, _, _, rfl, rfl, p4.wt, ?_, ?_⟩
      · show (natsV (st ts.length).wl).length < sizeLine
        rw [pl]
        unfold natsV
        rw [List.length_map, sizeLine_eq]
        omega
      have p5 := p4.putWt (l := s.wl ++ [sm]) (l' := natsV (st ts.length).wl ++ [.int (sm : Int)]) (by
        rw [pl]
        unfold natsV
        rw [List.map_append]
        rfl)
      have o5 := o4.updo (c := a.wt) (o := .lst (natsV (st ts.length).wl ++ [.int (sm : Int)])) (.inr (.inr (.inl rfl)))
      refine k _ D sm nD o5 hs (p5.re pm.symm (fun x _ => ?_) (fun j _ => ?_) rfl (fun _ _ => rfl) fun j _ => ?_)
      · show (if x ∈ ts then s.m else s.own x) = (st ts.length).own x
        rw [est]
        show _ = if x ∈ ts.take ts.length then s.m else s.own x
        rw [List.take_length]
      · show (if j = s.m then ts else if j = g then (s.ms g).filter (fun x => decide (x ∉ ts)) else s.ms j) = (st ts.length).ms j
        rw [est]
        show _ = if j = s.m then ts else if j = g then (s.ms g).filter (fun x => decide (x ∉ ts.take ts.length)) else s.ms j
        rw [List.take_length]
      · rw [est]
        rfl
end
end Mine

set_option maxRecDepth 100000
set_option maxHeartbeats 4000000
namespace Mine
open PySem L2
abbrev s_split_all : Stmt := top 47
def toP (s : PSt) : Wk.Pst := ⟨s.own, s.m, fun k => k < s.m ∧ s.w k = true⟩
/-- the groups of the first i things -/
abbrev gsI (own : Nat → Nat) (ts : List Nat) (i : Nat) : List Nat := Wk.seen ((ts.map own).take i)
/-- those of the first i things that are in a group -/
abbrev ptsI (own : Nat → Nat) (ts : List Nat) (i g : Nat) : List Nat := (ts.take i).filter fun x => decide (own x = g)
abbrev tchK (la : Nat → Addr) (gs : List Nat) : List (Key × V) := gs.map fun (g : Nat) => (.inl (g : Int), V.ref (la g))
theorem tch_val {la : Nat → Addr} : ∀ {gs : List Nat} {k : Nat}, valV (tchK la gs) (.inl (k : Int)) = if k ∈ gs then some (.ref (la k)) else none
  | [], k => rfl
  | g :: gs, k => by
    show valV ((.inl (g : Int), V.ref (la g)) :: tchK la gs) (.inl (k : Int)) = _
    by_cases e : g = k
    · subst e
      rw [valV_pos rfl, if_pos List.mem_cons_self]
    · rw [valV_neg (fun z => e (by have := Sum.inl.inj z; omega)), tch_val]
      by_cases m : k ∈ gs
      · rw [if_pos m, if_pos (List.mem_cons_of_mem _ m)]
      · rw [if_neg m, if_neg (fun z => (List.mem_cons.mp z).elim (fun z => e z.symm) m)]
theorem gsI_step {own : Nat → Nat} {ts : List Nat} {i x : Nat} (e : ts[i]? = some x) : gsI own ts (i + 1) = Wk.push (gsI own ts i) (own x) := Wk.seen_step (by rw [List.getElem?_map, e]; rfl)
theorem ptsI_step {own : Nat → Nat} {ts : List Nat} {i x g : Nat} (e : ts[i]? = some x) : ptsI own ts (i + 1) g = if g = own x then ptsI own ts i g ++ [x] else ptsI own ts i g := by
  unfold ptsI
  rw [List.take_add_one, e, List.filter_append]
  by_cases z : g = own x
  · rw [if_pos z]
    show _ ++ List.filter (fun x => decide (own x = g)) [x] = _
    rw [List.filter_cons_of_pos (by simp [z])]
    rfl
  · rw [if_neg z]
    show _ ++ List.filter (fun x => decide (own x = g)) [x] = _
    rw [List.filter_cons_of_neg (by simpa using Ne.symm z)]
    show _ ++ [] = _
    rw [List.append_nil]
theorem gsI_mem {own : Nat → Nat} {ts : List Nat} {i g : Nat} : g ∈ gsI own ts i ↔ ∃ x ∈ ts.take i, own x = g := by
  unfold gsI
  rw [Wk.seen_mem, ← List.map_take, List.mem_map]
theorem ptsI_none {own : Nat → Nat} {ts : List Nat} {i g : Nat} (h : g ∉ gsI own ts i) : ptsI own ts i g = [] :=
  List.filter_eq_nil_iff.mpr fun x hx z => h (gsI_mem.mpr ⟨x, hx, of_decide_eq_true z⟩)
theorem ptsI_len {own : Nat → Nat} {ts : List Nat} {i g : Nat} : (ptsI own ts i g).length ≤ ts.length := by
  have h1 := List.length_filter_le (fun x => decide (own x = g)) (ts.take i)
  have h2 : (ts.take i).length ≤ ts.length := by
    rw [List.length_take]
    omega
  exact Nat.le_trans h1 h2
theorem gsI_len {own : Nat → Nat} {ts : List Nat} {i : Nat} : (gsI own ts i).length ≤ ts.length := by
  have h1 : (gsI own ts i).length ≤ ((ts.map own).take i).length := (Wk.grp_nums ((ts.map own).take i)).few
  rw [List.length_take, List.length_map] at h1
  omega
/-- which groups are touched, as told so far -/
structure TchI (H0 : Hp) (d : Addr) (own : Nat → Nat) (ts : List Nat) (i : Nat) (la : Nat → Addr) (H : Hp) : Prop where
  same : Same H0 H
  nd : H0 d = none
  d : H d = some (.dK (tchK la (gsI own ts i)))
  ls : ∀ g, g ∈ gsI own ts i → H (la g) = some (.lst (natsV (ptsI own ts i g)))
  nl : ∀ g, g ∈ gsI own ts i → H0 (la g) = none
  inj : ∀ g k, g ∈ gsI own ts i → k ∈ gsI own ts i → la g = la k → g = k
section
variable {H0 H H' : Hp} {d : Addr} {own : Nat → Nat} {ts : List Nat} {i x : Nat} {la : Nat → Addr}
theorem TchI.later (h : TchI H0 d own ts i la H) (s : Same H H') : TchI H0 d own ts i la H' := ⟨h.same.trans s, h.nd, s _ _ h.d, fun g hg => s _ _ (h.ls g hg), h.nl, h.inj⟩
theorem TchI.old (h : TchI H0 d own ts i la H) (e : ts[i]? = some x) (m : own x ∈ gsI own ts i) : TchI H0 d own ts (i + 1) la (upd H (la (own x)) (.lst (natsV (ptsI own ts i (own x)) ++ [.int (x : Int)]))) := by
  have gs : gsI own ts (i + 1) = gsI own ts i := by
    rw [gsI_step e]
    unfold Wk.push
    rw [if_pos m]
  refine ⟨fun b o eb => ?_, h.nd, ?_, fun g hg => ?_, fun g hg => h.nl g (gs ▸ hg), fun g k hg hk => h.inj g k (gs ▸ hg) (gs ▸ hk)⟩
  · rw [upd_ne (fun z => by rw [z, h.nl _ m] at eb; cases eb)]
    exact h.same _ _ eb
  · rw [upd_ne (dif h.d (h.ls _ m) (fun z => nomatch z)), gs]
    exact h.d
  · rw [gs] at hg
    rw [ptsI_step e]
    by_cases z : g = own x
    · subst z
      rw [upd_same, if_pos rfl]
      unfold natsV
      rw [List.map_append]
      rfl
    · rw [if_neg z, upd_ne (fun q => z (h.inj _ _ hg m q))]
      exact h.ls g hg
theorem TchI.new {c0 : Addr} (h : TchI H0 d own ts i la H) (e : ts[i]? = some x) (m : own x ∉ gsI own ts i) (n0 : H c0 = none) (s : Same H H') (e0 : H' c0 = some (.lst [])) :
    TchI H0 d own ts (i + 1) (fun g => if g = own x then c0 else la g) (upd (upd H' d (.dK (putK (tchK la (gsI own ts i)) (.inl (own x : Int)) (.ref c0)))) c0 (.lst ([] ++ [.int (x : Int)]))) := by
  have h' := h.later s
  have gs : gsI own ts (i + 1) = gsI own ts i ++ [own x] := by
    rw [gsI_step e]
    unfold Wk.push
    rw [if_neg m]
  have dc : d ≠ c0 := fun z => by have := h.d; rw [z, n0] at this; cases this
  have lc : ∀ g, g ∈ gsI own ts i → la g ≠ c0 := fun g hg z => by have := h.ls g hg; rw [z, n0] at this; cases this
  have ne : ∀ g, g ∈ gsI own ts i → g ≠ own x := fun g hg z => m (z ▸ hg)
  have old : ∀ g, g ∈ gsI own ts i → (if g = own x then c0 else la g) = la g := fun g hg => if_neg (ne g hg)
  have bnd : ∀ g, g ∈ gsI own ts (i + 1) → g = own x ∨ g ∈ gsI own ts i := fun g hg => by
    rw [gs, List.mem_append, List.mem_singleton] at hg
    exact hg.symm
  refine ⟨fun b o eb => ?_, h.nd, ?_, fun g hg => ?_, fun g hg => ?_, fun g k hg hk z => ?_⟩
  · rw [upd_ne (ne_of_none eb (none_of h.same n0)), upd_ne (ne_of_none eb h.nd)]
    exact s _ _ (h.same _ _ eb)
  · rw [upd_ne dc, upd_same, putK_new _ (by rw [tch_val, if_neg m]), gs]
    unfold tchK
    rw [List.map_append]
    congr 3
    · exact List.map_congr_left fun g hg => by
        show ((Sum.inl (g : Int) : Key), V.ref (la g)) = (Sum.inl (g : Int), V.ref (if g = own x then c0 else la g))
        rw [old g hg]
    · show [((Sum.inl (own x : Int) : Key), V.ref c0)] = [((Sum.inl (own x : Int) : Key), V.ref (if own x = own x then c0 else la (own x)))]
      rw [if_pos rfl]
  · rw [ptsI_step e]
    rcases bnd g hg with rfl | hg
    · rw [if_pos rfl, if_pos rfl, upd_same, ptsI_none m]
      rfl
    · rw [old g hg, if_neg (ne g hg), upd_ne (lc g hg), upd_ne (dif (h'.ls g hg) h'.d (fun z => nomatch z))]
      exact h'.ls g hg
  · rcases bnd g hg with rfl | hg
    · rw [if_pos rfl]
      exact none_of h.same n0
    · rw [old g hg]
      exact h.nl g hg
  · rcases bnd g hg with rfl | hg <;> rcases bnd k hk with rfl | hk
    · rfl
    · rw [if_pos rfl, old k hk] at z
      exact absurd z.symm (lc k hk)
    · rw [if_pos rfl, old g hg] at z
      exact absurd z (lc g hg)
    · rw [old g hg, old k hk] at z
      exact h.inj g k hg hk z
end
theorem nodup_len : ∀ {l l' : List Nat}, l.Nodup → (∀ x ∈ l, x ∈ l') → l.length ≤ l'.length
  | [], _, _, _ => Nat.zero_le _
  | a :: l, l', nd, sub => by
    have h1 := nodup_len (l := l) (l' := l'.erase a) (List.nodup_cons.mp nd).2 fun x hx => (List.mem_erase_of_ne (by rintro rfl; exact (List.nodup_cons.mp nd).1 hx)).mpr (sub x (List.mem_cons_of_mem _ hx))
    have m := sub a List.mem_cons_self
    rw [List.length_erase_of_mem m] at h1
    have := List.length_pos_of_mem m
    rw [List.length_cons]
    omega
/-- a part is the whole, or there is another -/
theorem part_whole {l l' : List Nat} (nd : l.Nodup) (nd' : l'.Nodup) (sub : ∀ x ∈ l, x ∈ l') : (l.length < l'.length ↔ ∃ x ∈ l', x ∉ l) := by
  constructor
  · intro h
    refine Classical.byContradiction fun z => ?_
    have := nodup_len nd' fun x hx => Classical.byContradiction fun q => z ⟨x, hx, q⟩
    omega
  · rintro ⟨x, h1, h2⟩
    have := nodup_len (l := x :: l) (l' := l') (List.nodup_cons.mpr ⟨h2, nd⟩) fun y hy => (List.mem_cons.mp hy).elim (fun e => e ▸ h1) (sub y)
    rw [List.length_cons] at this
    omega
theorem Cuts_snoc {n : Nat} {X : Nat → Prop} {gs : List Nat} {g : Nat} {s s' s2 : Wk.Pst} (c : Wk.Cuts n X gs s s') : Wk.Cut n X g s' s2 → Wk.Cuts n X (gs ++ [g]) s s2 := by
  induction c with
  | nil s => exact fun d => .cons d (.nil _)
  | cons c r ih => exact fun d => .cons c (ih d)
theorem Cut_grp {n : Nat} {X : Nat → Prop} {g : Nat} {s s' : Wk.Pst} (h : Wk.Grp n s.m s.own) (hg : g < s.m) (c : Wk.Cut n X g s s') : Wk.Grp n s'.m s'.own := by
  have k : Wk.Keeps n (fun _ _ => 0) (fun _ => 0) (fun _ _ => False) (fun _ => False) (fun _ => True) s := ⟨h, fun _ _ _ _ z => z.elim, fun _ _ _ _ _ _ z => absurd z (Nat.not_lt_zero _)⟩
  exact (c.keeps (nx := fun _ _ => 0) (len := fun _ => 0) (R := fun _ _ => False) ⟨fun _ _ _ z => absurd z (Nat.not_lt_zero _)⟩ hg (fun _ _ _ _ z => z.elim) k).grp
/-- a split is a cut -/
theorem split_cut {n g sm : Nat} {s : PSt} {ts ps : List Nat} {nm : Addr} (ok : PartOk n s) (hg : g < s.m) (e : ∀ x, x ∈ ps ↔ x ∈ ts ∧ s.own x = g) (bd : ∀ x ∈ ts, x < n) (one : ∃ x ∈ ts, s.own x = g) (oth : ∃ x, x < n ∧ s.own x = g ∧ x ∉ ts) (hs : sm = s.m ∨ (sm = g ∧ s.w g = false)) :
    Wk.Cut n (fun x => x ∈ ts) g (toP s) (toP (splitS s g ps nm sm)) := by
  have sml : sm < s.m + 1 := by rcases hs with z | ⟨z, _⟩ <;> omega
  have wv : ∀ k, (toP (splitS s g ps nm sm)).wait k ↔ k < s.m + 1 ∧ (if k = sm then true else if k = s.m then false else s.w k) = true := fun k => Iff.rfl
  refine .inl ⟨⟨?_, ?_⟩, fun x hx => ⟨fun z => ?_, fun z => ?_⟩, rfl, fun k h1 h2 h3 => ?_, fun h3 => ?_, ?_⟩
  · obtain ⟨x, hx, h⟩ := one
    exact ⟨x, bd x hx, h, hx⟩
  · obtain ⟨x, h1, h2, h3⟩ := oth
    exact ⟨x, h1, h2, h3⟩
  · exact if_pos ((e x).mpr ⟨z.2, z.1⟩)
  · exact if_neg fun q => z ⟨((e x).mp q).2, ((e x).mp q).1⟩
  · rw [wv]
    obtain ⟨q1, q2⟩ := h3
    refine ⟨Nat.lt_succ_of_lt q1, ?_⟩
    by_cases z : k = sm
    · rw [if_pos z]
    · rw [if_neg z, if_neg (show ¬ k = s.m from h2)]
      exact q2
  · obtain ⟨q1, q2⟩ := h3
    have e : sm = s.m := hs.elim id fun z => by rw [z.2] at q2; cases q2
    subst e
    refine ⟨(wv g).mpr ⟨Nat.lt_succ_of_lt hg, ?_⟩, (wv s.m).mpr ⟨Nat.lt_succ_self _, if_pos rfl⟩⟩
    rw [if_neg (by omega), if_neg (by omega)]
    exact q2
  · rcases hs with z | ⟨z, _⟩
    · exact .inr ((wv s.m).mpr ⟨Nat.lt_succ_self _, if_pos z.symm⟩)
    · exact .inl ((wv g).mpr ⟨Nat.lt_succ_of_lt hg, if_pos z.symm⟩)
theorem PartAt.off {C : Addr} {n q : Nat} {a : PAd} {s : PSt} {H : Hp} {c : Addr} {od : Obj} {u o : HO} (p : PartAt C n a s q H) (e : H c = some (.frz od u)) : PartAt C n a s q (upd H c o) := by
  have ne : ∀ {b : Addr} {o' : HO}, H b = some o' → (∀ od u, o' ≠ .frz od u) → upd H c o b = some o' := fun h z => by
    rw [upd_ne (dif h e (z _ _))]
    exact h
  exact ⟨ne p.i (fun _ _ z => nomatch z), ne p.ow (fun _ _ z => nomatch z), ne p.mb (fun _ _ z => nomatch z), fun g hg => ne (p.mem g hg) (fun _ _ z => nomatch z), ne p.wt (fun _ _ z => nomatch z), ne p.ws (fun _ _ z => nomatch z), p.inj, p.d1, p.d2, p.d3, p.d4, p.d5, p.d6⟩
/-- new groups' dicts are new -/
def NewM (H : Hp) (s s' : PSt) : Prop := (∀ g, g < s.m → s'.mem g = s.mem g) ∧ ∀ g, s.m ≤ g → g < s'.m → H (s'.mem g) = none
theorem NewM.or {H : Hp} {s s' : PSt} (h : NewM H s s') : ∀ g, g < s'.m → (g < s.m ∧ s'.mem g = s.mem g) ∨ H (s'.mem g) = none := fun g hg => by
  by_cases z : g < s.m
  · exact .inl ⟨z, h.1 g z⟩
  · exact .inr (h.2 g (by omega) hg)
theorem Oth.none {C : Addr} {n q : Nat} {a : PAd} {s s' : PSt} {H H' : Hp} {b : Addr} (o : Oth a s H H') (nw : NewM H s s') (m : s.m ≤ s'.m) (p : PartAt C n a s' q H') (h : H' b = none) : H b = none := by
  cases e : H b with
  | none => rfl
  | some u =>
    have ne : ∀ {c : Addr} {o : HO}, H' c = some o → b ≠ c := fun hc z => by rw [← z, h] at hc; cases hc
    have := o b u e (ne p.ow) (ne p.mb) (ne p.wt) (ne p.ws) fun g hg => by
      have := p.mem g (Nat.lt_of_lt_of_le hg m)
      rw [nw.1 g hg] at this
      exact ne this
    rw [h] at this
    cases this
/-- the groups up to the j-th are seen to -/
structure SplI (C : Addr) (n : Nat) (a : PAd) (s : PSt) (ts gs : List Nat) (H : Hp) (j : Nat) (sj : PSt) (Hy : Hp) : Prop where
  oth : Oth a s H Hy
  new : NewM H s sj
  at_ : PartAt C n a sj sj.m Hy
  ok : PartOk n sj
  grp : Wk.Grp n sj.m sj.own
  cuts : Wk.Cuts n (fun x => x ∈ ts) (gs.take j) (toP s) (toP sj)
  rest : ∀ g, g ∈ gs.drop j → ∀ x, x < n → (sj.own x = g ↔ s.own x = g)
  more : s.m ≤ sj.m
  len : sj.wl.length + s.m = s.wl.length + sj.m
section
variable {C : Addr} {n : Nat} {a : PAd} {s sj : PSt} {ts gs ps : List Nat} {H Hy Hb : Hp} {j g : Nat}
theorem SplI.skip (h : SplI C n a s ts gs H j sj Hy) (e : gs[j]? = some g) (sb : Same Hy Hb) (np : ¬ Wk.Proper n (fun x => x ∈ ts) g (toP sj)) : SplI C n a s ts gs H (j + 1) sj Hb := by
  refine ⟨h.oth.trans (Oth.same (s := sj) sb) h.new.or, h.new, h.at_.same sb, h.ok, h.grp, ?_, fun k hk => h.rest k ?_, h.more, h.len⟩
  · rw [List.take_add_one, e]
    exact Cuts_snoc h.cuts (.inr ⟨np, fun _ _ => rfl, rfl, fun _ z => z⟩)
  · obtain ⟨hj, _⟩ := List.getElem?_eq_some_iff.mp e
    rw [List.drop_eq_getElem_cons hj]
    exact List.mem_cons_of_mem _ hk
theorem SplI.cut {nm : Addr} {sm : Nat} {H' : Hp} (h : SplI C n a s ts gs H j sj Hy) (nd : gs.Nodup) (e : gs[j]? = some g) (hg : g < s.m) (gb : ∀ k ∈ gs, k < s.m) (sb : Same Hy Hb) (pe : ∀ x, x ∈ ps ↔ x ∈ ts ∧ sj.own x = g) (pn : ps.Nodup) (bd : ∀ x ∈ ts, x < n) (one : ∃ x ∈ ts, sj.own x = g) (oth : ∃ x, x < n ∧ sj.own x = g ∧ x ∉ ts)
    (n0 : Hb nm = none) (o : Oth a sj Hb H') (hs : sm = sj.m ∨ (sm = g ∧ sj.w g = false)) (p : PartAt C n a (splitS sj g ps nm sm) (sj.m + 1) H') : SplI C n a s ts gs H (j + 1) (splitS sj g ps nm sm) H' := by
  have gj : g < sj.m := Nat.lt_of_lt_of_le hg h.more
  have c := split_cut (nm := nm) h.ok gj pe bd one oth hs
  have hb : Oth a s H Hb := h.oth.trans (Oth.same (s := sj) sb) h.new.or
  have nH : H nm = none := hb.none h.new h.more (h.at_.same sb) n0
  have mm := h.more
  refine ⟨hb.trans o h.new.or, ⟨fun k hk => ?_, fun k h1 h2 => ?_⟩, p, h.ok.split gj pn (fun x hx => ⟨bd x ((pe x).mp hx).1, ((pe x).mp hx).2⟩) hs, Cut_grp h.grp gj c, ?_, fun k hk x hx => ?_, ?_, ?_⟩
  · show (if k = sj.m then nm else sj.mem k) = s.mem k
    rw [if_neg (by omega)]
    exact h.new.1 k hk
  · have h2 : k < sj.m + 1 := h2
    show H (if k = sj.m then nm else sj.mem k) = none
    by_cases z : k = sj.m
    · rw [if_pos z]
      exact nH
    · rw [if_neg z]
      exact h.new.2 k h1 (by omega)
  · rw [List.take_add_one, e]
    exact Cuts_snoc h.cuts c
  · obtain ⟨hj, ej⟩ := List.getElem?_eq_some_iff.mp e
    have hd : gs.drop j = g :: gs.drop (j + 1) := by rw [List.drop_eq_getElem_cons hj, ej]
    have r := h.rest k (by rw [hd]; exact List.mem_cons_of_mem _ hk) x hx
    have kg : k ≠ g := by
      rintro rfl
      have := (List.drop_sublist j gs).nodup nd
      rw [hd] at this
      exact (List.nodup_cons.mp this).1 hk
    have km := gb k (List.mem_of_mem_drop hk)
    rw [← r]
    show (if x ∈ ps then sj.m else sj.own x) = k ↔ sj.own x = k
    by_cases m : x ∈ ps
    · rw [if_pos m, ((pe x).mp m).2]
      exact ⟨fun z => by omega, fun z => absurd z.symm kg⟩
    · rw [if_neg m]
  · show s.m ≤ sj.m + 1
    omega
  · show (sj.wl ++ [sm]).length + s.m = s.wl.length + (sj.m + 1)
    have := h.len
    rw [List.length_append]
    show sj.wl.length + 1 + s.m = _
    omega
end
def spSplitAll (C : Addr) : Sp := fun vs H Q _ => ∃ (n : Nat) (a : PAd) (s : PSt) (t : Addr) (ts : List Nat), vs = [.ref a.P, .ref t] ∧ PartAt C n a s s.m H ∧ PartOk n s ∧ Wk.Grp n s.m s.own ∧ H t = some (.lst (natsV ts)) ∧ (t ≠ a.ow ∧ t ≠ a.mb ∧ t ≠ a.wt ∧ t ≠ a.ws) ∧ ts.Nodup ∧ (∀ x ∈ ts, x < n) ∧ n ≤ 100000 ∧
  ∀ (H' : Hp) (s' : PSt) (gs : List Nat), Oth a s H H' → NewM H s s' → PartAt C n a s' s'.m H' → PartOk n s' → Wk.Grp n s'.m s'.own → Wk.Cuts n (fun x => x ∈ ts) gs (toP s) (toP s') → gs.Nodup → (∀ g ∈ gs, g < s.m) → (∀ x ∈ ts, s.own x ∈ gs) → s.m ≤ s'.m → s'.wl.length + s.m = s.wl.length + s'.m → Q .non H'
section
variable {P : Program} {w : World} {K : PySem.W.Frag} {mg : Str → Option Value} {base : Heap}
variable {fII fIW C : Addr}
theorem sc_split_all : FnScope ["parting", "things", "touched", "thing", "group", "parts"] ["parting", "things"] (defScope s_split_all) := ⟨rfl, rfl, rfl, by decide +kernel, rfl, by decide +kernel, by decide +kernel⟩
theorem ok_split_all {f f_split : Addr} {fd fd_split : FuncData} (F : Fun K "split_all" "split_all" s_split_all f fd) (T : TxtF K mg fII fIW) (PC : PartC K C)
    (G_split : FnOk P w K mg base CX0 1 f_split fd_split ["parting", "group", "things"] (spSplit C)) (b_split : Binds K fd_split ["parting", "group", "things"] []) (g_split : mg "split" = some (.ref f_split)) (k_split : PySem.W.keepIn K (.ref f_split) = true) : FnOk P w K mg base CX0 2 f fd ["parting", "things"] (spSplitAll C) := by
  refine F.ok sc_split_all (fun vs H Q E h => ?_) (fun cdv A outer s H vs Q E hr h => ?_)
  · obtain ⟨n, a, s, t, ts, rfl, _⟩ := h
    rfl
  · obtain ⟨n, a, s, t, ts, rfl, pa, ok, gr, ht, ⟨t1, t2, t3, t4⟩, nd, bd, big, k⟩ := h
    refine ⟨_, (pss_cons (ps_set (i := 2) sc_split_all.nd rfl (Or.inl rfl) pe_dnewK)
      (pss_cons (ps_for PassesOwn.never rfl (pi_list (pv 1)) (pg_name (i := 3) sc_split_all.nd rfl (Or.inl rfl)) (pss_one (ps_expr (pe_bm PySem.F.plainAttrs_list PySem.F.slot_list_append PySem.F.type_list_append mt_append (pe_dsetd (pv 2) (pe_ix ix_list (pe_fld (pv 0) rfl) (pv 3) (fun _ _ => rfl)) (pe_lstG pa_nil) ⟨by rfl, by rfl, by rfl, by rfl⟩) (pa_cons (pv 3) pa_nil)))))
      (pss_one (ps_lock (ps_for PassesOwn.never rfl (pi_items (pv 2)) (pg_tup rfl (pgs_cons (pg_name (i := 4) sc_split_all.nd rfl (Or.inl rfl)) (pgs_cons (pg_name (i := 5) sc_split_all.nd rfl (Or.inl rfl)) pgs_nil))) (pss_one (ps_if (pt_cmpR op_lt (pe_callB call_len_seq (by rfl) T.b_len PySem.boot_len (pa_cons (pv 5) pa_nil)) (pe_callB call_lenD (by rfl) T.b_len PySem.boot_len (pa_cons (pe_ix ix_list (pe_fld (pv 0) rfl) (pv 4) (fun _ _ => rfl)) pa_nil)) (nomark _)) (pss_one (ps_expr (pe_call G_split (hr.mono (by decide)) (by rfl) g_split k_split b_split .nil pass0 (pa_cons (pv 0) (pa_cons (pv 4) (pa_cons (pv 5) pa_nil)))))) pss_nil))))))), ?_⟩
    have tl : ts.length ≤ n := Mach.pigeon n ts nd bd
    refine fun d nD => ⟨_, rfl, t, rfl, ⟨_, SqL.of (sameNew nD _ _ _ ht)⟩, for_list (K := K) (a := t) (xs := natsV ts) (fun i σ Hx => ∃ (v3 v4 v5 : Option V) (la : Nat → Addr), σ = [some (.ref a.P), some (.ref t), some (.ref d), v3, v4, v5] ∧ TchI H d s.own ts i la Hx) ⟨_, _, _, fun _ => 0, rfl, sameNew nD _, nD, upd_same, (fun g hg => nomatch hg), (fun g hg => nomatch hg), (fun g k hg => nomatch hg)⟩ (fun i σ Hx _ z => by obtain ⟨_, _, _, _, _, z⟩ := z; exact SqL.of (z.same _ _ ht)) ?_ ?_⟩
    · rintro i x σ Hx hx ⟨v3, v4, v5, la, rfl, z⟩
      obtain ⟨y, hy, rfl⟩ := natsV_get hx
      have yn := bd y (List.mem_of_getElem? hy)
      have p1 := pa.same z.same
      refine ⟨_, rfl, d, rfl, .inl ⟨_, .inl z.d⟩, _, rfl, a.P, C, a.dx, fieldsP a, .ref a.ow, rfl, p1.i, PC.cl, PC.n_owners, rfl, _, rfl, a.ow, _, (y : Int), .int (s.own y : Int), rfl, rfl, SqL.of p1.ow, fl_at yn, Nat.zero_le _, fun c0 H' n0 s0 e0 => ⟨_, .inl (s.own y : Int), s0 _ _ z.d, rfl, ?_, fun v hv => ?_, fun hn => ?_⟩⟩
      · unfold tchK
        have := @gsI_len s.own ts i
        rw [List.length_map, sizeLine_eq]
        omega
      · rw [tch_val] at hv
        by_cases m : s.own y ∈ gsI s.own ts i
        · rw [if_pos m] at hv
          obtain rfl := Option.some.inj hv
          have z' := z.later s0
          refine ⟨.inl ⟨rfl, _, SqL.of (z'.ls _ m)⟩, _, rfl, _, _, _, rfl, rfl, z'.ls _ m, ?_, _, _, _, la, rfl, z'.old hy m⟩
          have := @ptsI_len s.own ts i (s.own y)
          unfold natsV
          rw [List.length_map, sizeLine_eq]
          omega
        · rw [if_neg m] at hv
          cases hv
      · rw [tch_val] at hn
        have m : s.own y ∉ gsI s.own ts i := fun m => by rw [if_pos m] at hn; cases hn
        have c1 : upd H' d (.dK (putK (tchK la (gsI s.own ts i)) (.inl (s.own y : Int)) (.ref c0))) c0 = some (.lst []) := by
          rw [upd_ne (dif e0 (s0 _ _ z.d) (fun z => nomatch z))]
          exact e0
        exact ⟨.inl ⟨rfl, _, SqL.of c1⟩, _, rfl, _, _, _, rfl, rfl, c1, by rw [sizeLine_eq]; decide, _, _, _, _, rfl, z.new hy m n0 s0 e0⟩
    · rintro σ Hx ⟨v3, v4, v5, la, rfl, z⟩
      rw [show (natsV ts).length = ts.length from List.length_map ..] at z
      have gnd : (gsI s.own ts ts.length).Nodup := Wk.seen_nodup _
      have gmem : ∀ g, g ∈ gsI s.own ts ts.length ↔ ∃ x ∈ ts, s.own x = g := fun g => by rw [gsI_mem, List.take_length]
      have gb : ∀ g ∈ gsI s.own ts ts.length, g < s.m := fun g hg => by
        obtain ⟨x, h1, rfl⟩ := (gmem g).mp hg
        exact ok.lt x (bd x h1)
      have psm : ∀ g x, x ∈ ptsI s.own ts ts.length g ↔ x ∈ ts ∧ s.own x = g := fun g x => by
        unfold ptsI
        rw [List.take_length, List.mem_filter, decide_eq_true_eq]
      have psn : ∀ g, (ptsI s.own ts ts.length g).Nodup := fun g => by
        unfold ptsI
        rw [List.take_length]
        exact nd.filter _
      generalize hgs : gsI s.own ts ts.length = gs at gnd gmem gb
      have zd := z.d
      have zl := z.ls
      have zn := z.nl
      rw [hgs] at zd zl zn
      have zs := z.same
      refine ⟨d, _, zd, trivial, fun od => ⟨_, rfl, d, od, tchK la gs, rfl, upd_same, ?_⟩⟩
      generalize hHL : upd Hx d (.frz od (.dK (tchK la gs))) = HL
      have HLo : ∀ b o, H b = some o → HL b = some o := fun b o e => by
        rw [← hHL, upd_ne (ne_of_none e nD)]
        exact zs _ _ e
      have HLd : HL d = some (.frz od (.dK (tchK la gs))) := by rw [← hHL]; exact upd_same
      have HLl : ∀ g ∈ gs, HL (la g) = some (.lst (natsV (ptsI s.own ts ts.length g))) := fun g hg => by
        rw [← hHL, upd_ne (dif (zl g hg) zd (fun z => nomatch z))]
        exact zl g hg
      have offp : ∀ {b : Addr}, H b = none → b ≠ a.ow ∧ b ≠ a.mb ∧ b ≠ a.wt ∧ b ≠ a.ws ∧ ∀ g, g < s.m → b ≠ s.mem g := fun {b} hb => by
        have ne : ∀ {c : Addr} {o : HO}, H c = some o → b ≠ c := fun hc z => by rw [← z, hb] at hc; cases hc
        exact ⟨ne pa.ow, ne pa.mb, ne pa.wt, ne pa.ws, fun g hg => ne (pa.mem g hg)⟩
      refine for_it walk_items (fun j σ Hy => ∃ (v3 v4 v5 : Option V) (sj : PSt), σ = [some (.ref a.P), some (.ref t), some (.ref d), v3, v4, v5] ∧ SplI C n a s ts gs HL j sj Hy) ⟨_, _, _, s, rfl, Oth.refl, ⟨fun _ _ => rfl, fun g h1 h2 => absurd h2 (by omega)⟩, ⟨HLo _ _ pa.i, HLo _ _ pa.ow, HLo _ _ pa.mb, fun g hg => HLo _ _ (pa.mem g hg), HLo _ _ pa.wt, HLo _ _ pa.ws, pa.inj, pa.d1, pa.d2, pa.d3, pa.d4, pa.d5, pa.d6⟩, ok, gr, .nil _, fun _ _ _ _ => Iff.rfl, Nat.le_refl _, rfl⟩ (fun j σ Hy _ z => ?_) ?_ ?_
      · obtain ⟨_, _, _, sj, _, z⟩ := z
        obtain ⟨o1, o2, o3, o4, o5⟩ := offp nD
        exact z.oth _ _ HLd o1 o2 o3 o4 o5
      · rintro j x σ Ha Hb hj ⟨v3, v4, v5, sj, rfl, z⟩ z2
        obtain ⟨T', x', y, rfl, nT, rfl, h1, h2⟩ := z2
        have hj2 : j < gs.length := by
          unfold tchK at hj
          rw [List.length_map] at hj
          exact hj
        obtain ⟨g, eg⟩ : ∃ g, gs[j]? = some g := ⟨_, List.getElem?_eq_getElem hj2⟩
        have mg := List.mem_of_getElem? eg
        have e1 : (tchK la gs)[j]? = some (.inl (g : Int), V.ref (la g)) := by
          unfold tchK
          rw [List.getElem?_map, eg]
          rfl
        dsimp only at h1 h2
        rw [e1] at h1 h2
        obtain rfl : V.int (g : Int) = x' := Option.some.inj h1
        obtain rfl : V.ref (la g) = y := Option.some.inj h2
        have sT := sameNew nT (.tup [V.int (g : Int), V.ref (la g)])
        have eT : upd Ha T' (.tup [V.int (g : Int), V.ref (la g)]) T' = some (.tup [V.int (g : Int), V.ref (la g)]) := upd_same
        generalize upd Ha T' (.tup [V.int (g : Int), V.ref (la g)]) = Hb at sT eT ⊢
        have pb := z.at_.same sT
        have gl := gb g mg
        have gj : g < sj.m := Nat.lt_of_lt_of_le gl z.more
        have lb : Hb (la g) = some (.lst (natsV (ptsI s.own ts ts.length g))) := by
          obtain ⟨o1, o2, o3, o4, o5⟩ := offp (zn g mg)
          exact sT _ _ (z.oth _ _ (HLl g mg) o1 o2 o3 o4 o5)
        have own : ∀ x, x < n → (sj.own x = g ↔ s.own x = g) := z.rest g (by
          obtain ⟨hj, ej⟩ := List.getElem?_eq_some_iff.mp eg
          rw [List.drop_eq_getElem_cons hj, ej]
          exact List.mem_cons_self)
        have pe : ∀ x, x ∈ ptsI s.own ts ts.length g ↔ x ∈ ts ∧ sj.own x = g := fun x => by
          rw [psm]
          exact ⟨fun q => ⟨q.1, (own x (bd x q.1)).mpr q.2⟩, fun q => ⟨q.1, (own x (bd x q.1)).mp q.2⟩⟩
        have sub : ∀ x ∈ ptsI s.own ts ts.length g, x ∈ sj.ms g := fun x hx => (z.ok.mem g x gj).mpr ⟨bd x ((pe x).mp hx).1, ((pe x).mp hx).2⟩
        have whole := part_whole (psn g) (z.ok.nd g gj) sub
        have one : ∃ x ∈ ts, sj.own x = g := by
          obtain ⟨x, h1, h2⟩ := (gmem g).mp mg
          exact ⟨x, h1, (own x (bd x h1)).mpr h2⟩
        refine ⟨T', _, rfl, .inl (.inl eT), rfl, _, _, rfl, _, _, rfl, rfl, ?_⟩
        refine ⟨_, rfl, la g, _, rfl, .inl (SqL.of lb), _, rfl, a.P, C, a.dx, fieldsP a, .ref a.mb, rfl, pb.i, PC.cl, PC.n_members, rfl, _, rfl, a.mb, _, (g : Int), .ref (sj.mem g), rfl, rfl, SqL.of pb.mb, atI_nat (refsV_get gj), sj.mem g, _, rfl, pb.mem g gj, _, _, rfl, rfl, _, rfl, ?_⟩
        have l1 : ((natsV (ptsI s.own ts ts.length g)).length : Int) = ((ptsI s.own ts ts.length g).length : Int) := by unfold natsV; rw [List.length_map]
        have l2 : ((knK (sj.ms g)).length : Int) = ((sj.ms g).length : Int) := by unfold knK; rw [List.length_map]
        rw [l1, l2]
        by_cases lt : (ptsI s.own ts ts.length g).length < (sj.ms g).length
        · rw [decide_eq_true (by omega)]
          obtain ⟨x0, x1, x2⟩ := whole.mp lt
          obtain ⟨x3, x4⟩ := (z.ok.mem g x0 gj).mp x1
          have oth : ∃ x, x < n ∧ sj.own x = g ∧ x ∉ ts := ⟨x0, x3, x4, fun q => x2 ((pe x0).mpr ⟨q, x4⟩)⟩
          have room : sj.m + 1 ≤ n := by
            have := Cut_grp z.grp gj (split_cut (nm := 0) (sm := sj.m) z.ok gj pe bd one oth (.inl rfl))
            exact this.few
          obtain ⟨o1, o2, o3, o4, o5⟩ := offp (zn g mg)
          refine iteT ?_
          refine ⟨_, rfl, _, rfl, _, rfl, n, a, sj, g, la g, ptsI s.own ts ts.length g, rfl, pb, z.ok, lb, ⟨o1, o2, o3, o4⟩, psn g, fun x hx => ⟨bd x ((pe x).mp hx).1, ((pe x).mp hx).2⟩, gj, by omega, big, fun H' nm sm n0 ot hs p => ?_⟩
          exact ⟨_, _, _, _, rfl, z.cut gnd eg gl gb sT pe (psn g) bd one oth n0 ot hs p⟩
        · rw [decide_eq_false (by omega)]
          refine iteF ?_
          refine ⟨_, _, _, sj, rfl, z.skip eg sT ?_⟩
          rintro ⟨_, x, q1, q2, q3⟩
          exact lt (whole.mpr ⟨x, (z.ok.mem g x gj).mpr ⟨q1, q2⟩, fun q => q3 ((pe x).mp q).1⟩)
      · rintro σ Hy ⟨v3, v4, v5, sj, rfl, z⟩
        have ll : (tchK la gs).length = gs.length := List.length_map ..
        rw [ll] at z
        obtain ⟨o1, o2, o3, o4, o5⟩ := offp nD
        have yd := z.oth _ _ HLd o1 o2 o3 o4 o5
        refine ⟨yd, k _ sj gs (fun b o e n1 n2 n3 n4 n5 => ?_) ⟨z.new.1, fun g h1 h2 => ?_⟩ (z.at_.off yd) z.ok z.grp ?_ gnd gb (fun x hx => (gmem _).mpr ⟨x, hx, rfl⟩) z.more z.len⟩
        · rw [upd_ne (ne_of_none e nD)]
          exact z.oth _ _ (HLo _ _ e) n1 n2 n3 n4 n5
        · have := z.new.2 g h1 h2
          cases e : H (sj.mem g) with
          | none => rfl
          | some u =>
            rw [HLo _ _ e] at this
            cases this
        · have := z.cuts
          rw [List.take_length] at this
          exact this
end
end Mine

set_option maxRecDepth 100000
set_option maxHeartbeats 4000000
namespace Mine
open PySem L2
abbrev s_groups_in : Stmt := top 45
theorem natsV_snoc {l : List Nat} {y : Nat} : natsV (l ++ [y]) = natsV l ++ [V.int (y : Int)] := by
  unfold natsV
  rw [List.map_append]
  rfl
/-- the inner for of a comprehension with two -/
theorem in_it {J : It} {n : Nat} {G : Hp → Prop} {Y : Nat → Hp → V → Hp → Prop} (w : Walk J n G Y) {g : TG} {tt : TT} {te : TE} {vs : List Nat} {σ : St} {H1 : Hp} {D : Addr} {Nx : Hp → Prop} (Pv : Nat → Hp → Prop) (h0 : Pv 0 H1) (hG : ∀ i H, i ≤ n → Pv i H → G H)
    (hs : ∀ i x H H', i < n → Pv i H → Y i H x H' → g x (wipe σ vs) H' fun σ2 H2 => wipe σ2 vs = wipe σ vs ∧ tt σ2 H2 fun b H3 =>
      if b = true then te σ2 H3 fun y H4 => ∃ acc, H4 D = some (.lst acc) ∧ acc.length < sizeLine ∧ Pv (i + 1) (upd H4 D (.lst (acc ++ [y]))) else Pv (i + 1) H3) (hd : ∀ H, Pv n H → Nx H) :
    ∃ W : Nat → Nat → Hp → Prop, (∃ m, W 0 m H1) ∧ ∀ i m H, W i m H →
      (J.stop i H ∧ Nx H) ∨ (J.go i H ∧ ∃ Nx1 : Hp → Prop, (∀ H', Nx1 H' → ∃ m', m' < m ∧ W (i + 1) m' H') ∧ ∀ x H', J.yld i H x H' → g x (wipe σ vs) H' fun σ2 H2 => wipe σ2 vs = wipe σ vs ∧ tt σ2 H2 fun b H3 =>
        if b = true then te σ2 H3 fun y H4 => ∃ acc, H4 D = some (.lst acc) ∧ acc.length < sizeLine ∧ Nx1 (upd H4 D (.lst (acc ++ [y]))) else Nx1 H3) := by
  refine ⟨fun i m H => m = n - i ∧ i ≤ n ∧ Pv i H, ⟨n, by simp, Nat.zero_le _, h0⟩, ?_⟩
  rintro i m H ⟨rfl, hi, p⟩
  have q := hG i H hi p
  by_cases hlt : i < n
  · refine .inr ⟨w.goes i H hlt q, Pv (i + 1), fun H' p' => ⟨n - (i + 1), by omega, rfl, hlt, p'⟩, fun x H' y => hs i x H H' hlt p (w.yields i H x H' hlt q y)⟩
  · have e : i = n := by omega
    subst e
    exact .inl ⟨w.stops H q, hd H p⟩
/-- the outer one -/
theorem out_it {J : It} {n : Nat} {G : Hp → Prop} {Y : Nat → Hp → V → Hp → Prop} (w : Walk J n G Y) {g g1 : TG} {tt tt1 : TT} {te : TE} {wi1 : TI} {vs vs1 : List Nat} {σ : St} {H1 : Hp} {D : Addr} {Qd : Hp → Prop} (Pv : Nat → Hp → Prop) (h0 : Pv 0 (upd H1 D (.lst []))) (hG : ∀ i H, i ≤ n → Pv i H → G H)
    (hs : ∀ i x H H', i < n → Pv i H → Y i H x H' → g x (wipe σ vs) H' fun σ2 H2 => wipe σ2 vs = wipe σ vs ∧ tt σ2 H2 fun b H3 =>
      if b = true then wi1 σ2 H3 fun J1 H4 => ∃ W1 : Nat → Nat → Hp → Prop, (∃ m, W1 0 m H4) ∧ ∀ j k H, W1 j k H →
        (J1.stop j H ∧ Pv (i + 1) H) ∨ (J1.go j H ∧ ∃ Nx1 : Hp → Prop, (∀ H', Nx1 H' → ∃ k', k' < k ∧ W1 (j + 1) k' H') ∧ ∀ x H', J1.yld j H x H' → g1 x (wipe σ2 vs1) H' fun σ3 H5 => wipe σ3 vs1 = wipe σ2 vs1 ∧ tt1 σ3 H5 fun b H6 =>
          if b = true then te σ3 H6 fun y H7 => ∃ acc, H7 D = some (.lst acc) ∧ acc.length < sizeLine ∧ Nx1 (upd H7 D (.lst (acc ++ [y]))) else Nx1 H6)
      else Pv (i + 1) H3) (hd : ∀ H, Pv n H → Qd H) :
    ∃ W : Nat → Nat → Hp → Prop, (∃ m, W 0 m (upd H1 D (.lst []))) ∧ ∀ i m H, W i m H →
      (J.stop i H ∧ Qd H) ∨ (J.go i H ∧ ∃ Nx : Hp → Prop, (∀ H', Nx H' → ∃ m', m' < m ∧ W (i + 1) m' H') ∧ ∀ x H', J.yld i H x H' → g x (wipe σ vs) H' fun σ2 H2 => wipe σ2 vs = wipe σ vs ∧ tt σ2 H2 fun b H3 =>
        if b = true then wi1 σ2 H3 fun J1 H4 => ∃ W1 : Nat → Nat → Hp → Prop, (∃ m, W1 0 m H4) ∧ ∀ j k H, W1 j k H →
          (J1.stop j H ∧ Nx H) ∨ (J1.go j H ∧ ∃ Nx1 : Hp → Prop, (∀ H', Nx1 H' → ∃ k', k' < k ∧ W1 (j + 1) k' H') ∧ ∀ x H', J1.yld j H x H' → g1 x (wipe σ2 vs1) H' fun σ3 H5 => wipe σ3 vs1 = wipe σ2 vs1 ∧ tt1 σ3 H5 fun b H6 =>
            if b = true then te σ3 H6 fun y H7 => ∃ acc, H7 D = some (.lst acc) ∧ acc.length < sizeLine ∧ Nx1 (upd H7 D (.lst (acc ++ [y]))) else Nx1 H6)
        else Nx H3) := by
  refine ⟨fun i m H => m = n - i ∧ i ≤ n ∧ Pv i H, ⟨n, by simp, Nat.zero_le _, h0⟩, ?_⟩
  rintro i m H ⟨rfl, hi, p⟩
  have q := hG i H hi p
  by_cases hlt : i < n
  · refine .inr ⟨w.goes i H hlt q, Pv (i + 1), fun H' p' => ⟨n - (i + 1), by omega, rfl, hlt, p'⟩, fun x H' y => hs i x H H' hlt p (w.yields i H x H' hlt q y)⟩
  · have e : i = n := by omega
    subst e
    exact .inl ⟨w.stops H q, hd H p⟩
theorem Cut_congr {n : Nat} {X Y : Nat → Prop} {g : Nat} {s s' : Wk.Pst} (e : ∀ x, x < n → (X x ↔ Y x)) (c : Wk.Cut n X g s s') : Wk.Cut n Y g s s' := by
  have pr : Wk.Proper n X g s ↔ Wk.Proper n Y g s := by
    constructor
    · rintro ⟨⟨x, h1, h2, h3⟩, y, h4, h5, h6⟩
      exact ⟨⟨x, h1, h2, (e x h1).mp h3⟩, y, h4, h5, fun q => h6 ((e y h4).mpr q)⟩
    · rintro ⟨⟨x, h1, h2, h3⟩, y, h4, h5, h6⟩
      exact ⟨⟨x, h1, h2, (e x h1).mpr h3⟩, y, h4, h5, fun q => h6 ((e y h4).mp q)⟩
  rcases c with ⟨h1, h2, h3⟩ | ⟨h1, h2⟩
  · exact .inl ⟨pr.mp h1, fun x hx => ⟨fun z => (h2 x hx).1 ⟨z.1, (e x hx).mpr z.2⟩, fun z => (h2 x hx).2 fun q => z ⟨q.1, (e x hx).mp q.2⟩⟩, h3⟩
  · exact .inr ⟨fun z => h1 (pr.mpr z), h2⟩
theorem Cuts_congr {n : Nat} {X Y : Nat → Prop} {gs : List Nat} {s s' : Wk.Pst} (e : ∀ x, x < n → (X x ↔ Y x)) (c : Wk.Cuts n X gs s s') : Wk.Cuts n Y gs s s' := by
  induction c with
  | nil s => exact .nil s
  | cons c r ih => exact .cons (Cut_congr e c) ih
/-- the lists for each place and thing, to be read -/
structure SrcR (n lg : Nat) (S : Addr) (pa : Nat → Addr) (ca : Nat → Nat → Addr) (c : Nat → Nat → List Nat) (H : Hp) : Prop where
  s : H S = some (.lst (refsV lg pa))
  p : ∀ p, p < lg → H (pa p) = some (.lst (refsV n (ca p)))
  c : ∀ p i, p < lg → i < n → H (ca p i) = some (.lst (natsV (c p i)))
def OffP (a : PAd) (s : PSt) (b : Addr) : Prop := b ≠ a.ow ∧ b ≠ a.mb ∧ b ≠ a.wt ∧ b ≠ a.ws ∧ ∀ g, g < s.m → b ≠ s.mem g
structure OffS (a : PAd) (s : PSt) (n lg : Nat) (S : Addr) (pa : Nat → Addr) (ca : Nat → Nat → Addr) : Prop where
  o1 : OffP a s S
  o2 : ∀ p, p < lg → OffP a s (pa p)
  o3 : ∀ p i, p < lg → i < n → OffP a s (ca p i)
theorem OffP.go {a : PAd} {s : PSt} {b : Addr} {H H' : Hp} {o : HO} (f : OffP a s b) (h : Oth a s H H') (e : H b = some o) : H' b = some o := h b o e f.1 f.2.1 f.2.2.1 f.2.2.2.1 f.2.2.2.2
theorem SrcR.go {a : PAd} {s : PSt} {n lg : Nat} {S : Addr} {pa : Nat → Addr} {ca : Nat → Nat → Addr} {c : Nat → Nat → List Nat} {H H' : Hp} (r : SrcR n lg S pa ca c H) (f : OffS a s n lg S pa ca) (h : Oth a s H H') : SrcR n lg S pa ca c H' :=
  ⟨f.o1.go h r.s, fun p hp => (f.o2 p hp).go h (r.p p hp), fun p i hp hi => (f.o3 p i hp hi).go h (r.c p i hp hi)⟩
/-- the groups of the list are taken off from behind -/
def popS (s : PSt) (g : Nat) : PSt := { s with wl := s.wl.dropLast, w := fun k => if k = g then false else s.w k }
theorem last_of {l : List Nat} {g : Nat} (nd : l.Nodup) (e : l[l.length - 1]? = some g) (k : Nat) : k ∈ l.dropLast ↔ k ∈ l ∧ k ≠ g := by
  have hl : l ≠ [] := by rintro rfl; cases e
  have eg : l.getLast hl = g := by
    rw [List.getLast_eq_getElem]
    exact (List.getElem?_eq_some_iff.mp e).2
  have el : l = l.dropLast ++ [g] := by rw [← eg]; exact (List.dropLast_concat_getLast hl).symm
  have nd2 : (l.dropLast ++ [g]).Nodup := el ▸ nd
  rw [List.nodup_append] at nd2
  constructor
  · intro h
    exact ⟨List.dropLast_sublist l |>.subset h, fun z => nd2.2.2 k h g List.mem_cons_self z⟩
  · rintro ⟨h1, h2⟩
    rw [el, List.mem_append, List.mem_singleton] at h1
    exact h1.elim id fun z => absurd z h2
theorem PartOk.pop {n g : Nat} {s : PSt} (h : PartOk n s) (e : s.wl[s.wl.length - 1]? = some g) : PartOk n (popS s g) := by
  refine ⟨h.lt, h.nd, h.mem, (List.dropLast_sublist s.wl).nodup h.wnd, fun k => ?_⟩
  show k ∈ s.wl.dropLast ↔ k < s.m ∧ (if k = g then false else s.w k) = true
  rw [last_of h.wnd e, h.wl]
  by_cases z : k = g
  · rw [if_pos z]
    exact ⟨fun q => absurd z q.2, fun q => by cases q.2⟩
  · rw [if_neg z]
    exact ⟨fun q => q.1, fun q => ⟨q, z⟩⟩
/-- the things that lead to those of a list, at a place -/
abbrev leadTo (ns : List (List Nat)) (sp : List Nat) (p : Nat) : List Nat := sp.flatMap fun k => col ns ns.length p k
theorem lead_mem {ns : List (List Nat)} {sp : List Nat} {p x : Nat} : x ∈ leadTo ns sp p ↔ x < ns.length ∧ p < lenF ns x ∧ nxF ns x p ∈ sp := by
  unfold leadTo
  rw [List.mem_flatMap]
  constructor
  · rintro ⟨k, h1, h2⟩
    obtain ⟨h3, h4, rfl⟩ := col_mem.mp h2
    exact ⟨h3, h4, h1⟩
  · rintro ⟨h1, h2, h3⟩
    exact ⟨_, h3, col_mem.mpr ⟨h1, h2, rfl⟩⟩
theorem lead_nodup {ns : List (List Nat)} {p : Nat} : ∀ {sp : List Nat}, sp.Nodup → (leadTo ns sp p).Nodup
  | [], _ => .nil
  | k :: sp, nd => by
    show (col ns ns.length p k ++ leadTo ns sp p).Nodup
    rw [List.nodup_append]
    refine ⟨col_nodup, lead_nodup (List.nodup_cons.mp nd).2, fun x hx y hy z => ?_⟩
    subst z
    have h1 := (col_mem.mp hx).2.2
    have h2 := (lead_mem.mp hy).2.2
    rw [h1] at h2
    exact (List.nodup_cons.mp nd).1 h2
theorem lead_take {ns : List (List Nat)} {sp : List Nat} {p i k : Nat} (e : sp[i]? = some k) : leadTo ns (sp.take (i + 1)) p = leadTo ns (sp.take i) p ++ col ns ns.length p k := by
  unfold leadTo
  rw [List.take_add_one, e, List.flatMap_append]
  congr 1
  show col ns ns.length p k ++ [] = _
  rw [List.append_nil]
def spGroupsIn (C : Addr) : Sp := fun vs H Q _ => ∃ (a : PAd) (s : PSt) (ns : List (List Nat)) (lg : Nat) (S : Addr) (pa : Nat → Addr) (ca : Nat → Nat → Addr) (R : Nat → Nat → Prop), vs = [.ref a.P, .ref S] ∧ PartAt C ns.length a s s.m H ∧ PartOk ns.length s ∧
  SrcR ns.length lg S pa ca (fun p k => col ns ns.length p k) H ∧ OffS a s ns.length lg S pa ca ∧ InN ns ∧ (∀ x, x < ns.length → lenF ns x ≤ lg) ∧ ns.length ≤ 100000 ∧ Wk.Bis ns.length (nxF ns) (lenF ns) R ∧ Wk.Keeps ns.length (nxF ns) (lenF ns) R (fun _ => False) (fun _ => True) (toP s) ∧
  ∀ (H' : Hp) (s' : PSt), Oth a s H H' → PartAt C ns.length a s' s'.m H' → Wk.Keeps ns.length (nxF ns) (lenF ns) R (fun _ => False) (fun _ => True) (toP s') → (∀ k, ¬ (toP s').wait k) → (∀ x y, x < ns.length → y < ns.length → s'.own x = s'.own y → s.own x = s.own y) → Q (.ref a.ow) H'
/-- what is kept while the groups are split -/
structure GrI (C : Addr) (a : PAd) (s0 : PSt) (ns : List (List Nat)) (R : Nat → Nat → Prop) (S done : Nat → Prop) (H : Hp) (s : PSt) (Hx : Hp) : Prop where
  oth : Oth a s0 H Hx
  new : NewM H s0 s
  more : s0.m ≤ s.m
  at_ : PartAt C ns.length a s s.m Hx
  ok : PartOk ns.length s
  keeps : Wk.Keeps ns.length (nxF ns) (lenF ns) R S done (toP s)
  fine : ∀ x y, x < ns.length → y < ns.length → s.own x = s.own y → s0.own x = s0.own y
theorem Keeps_done {n : Nat} {nx : Nat → Nat → Nat} {len : Nat → Nat} {R : Nat → Nat → Prop} {S done done' : Nat → Prop} {s : Wk.Pst} (e : ∀ q, done' q → done q) (k : Wk.Keeps n nx len R S done s) : Wk.Keeps n nx len R S done' s :=
  ⟨k.grp, k.co, fun x y p hx hy h h1 h2 ne => (k.due x y p hx hy h h1 h2 ne).imp id fun z => z.imp id fun z => ⟨fun q => z.1 (e p q), z.2⟩⟩
section
variable {P : Program} {w : World} {K : PySem.W.Frag} {mg : Str → Option Value} {base : Heap}
variable {fII fIW C : Addr}
theorem sc_groups_in : FnScope ["parting", "sources", "group", "splitter", "led", "thing", "source"] ["parting", "sources"] (defScope s_groups_in) := ⟨rfl, rfl, rfl, by decide +kernel, rfl, by decide +kernel, by decide +kernel⟩
theorem ok_groups_in {f f_split_all : Addr} {fd fd_split_all : FuncData} (F : Fun K "groups_in" "groups_in" s_groups_in f fd) (T : TxtF K mg fII fIW) (PC : PartC K C)
    (G_split_all : FnOk P w K mg base CX0 2 f_split_all fd_split_all ["parting", "things"] (spSplitAll C)) (b_split_all : Binds K fd_split_all ["parting", "things"] []) (g_split_all : mg "split_all" = some (.ref f_split_all)) (k_split_all : PySem.W.keepIn K (.ref f_split_all) = true) : FnOk P w K mg base CX0 3 f fd ["parting", "sources"] (spGroupsIn C) := by
  refine F.ok sc_groups_in (fun vs H Q E h => ?_) (fun cdv A outer s H vs Q E hr h => ?_)
  · obtain ⟨a, s, ns, lg, S, pa, ca, R, rfl, _⟩ := h
    rfl
  · obtain ⟨a, s, ns, lg, S, pa, ca, R, rfl, pt, ok, sr, off, inn, wide, big, bis, kp, k⟩ := h
    refine ⟨_, (pss_cons (ps_while PassesOwn.never (pt_truth (pe_fld (pv 0) rfl) (by intro _; rfl)) (pss_cons (ps_set (i := 2) sc_groups_in.nd rfl (Or.inl rfl) (pe_bm0 PySem.F.plainAttrs_list PySem.F.slot_list_pop PySem.F.type_list_pop mt_pop (pe_fld (pv 0) rfl)))
      (pss_cons (ps_asg pe_bl (pg_sub (pe_fld (pv 0) rfl) (pv 2) set_list))
      (pss_cons (ps_set (i := 3) sc_groups_in.nd rfl (Or.inl rfl) (pe_callTy (call_list_dK rfl) (by rfl) T.b_list (by decide +kernel) (pa_cons (pe_ix ix_list (pe_fld (pv 0) rfl) (pv 2) (fun _ _ => rfl)) pa_nil)))
      (pss_one (ps_for PassesOwn.never rfl (pi_list (pv 1)) (pg_name (i := 4) sc_groups_in.nd rfl (Or.inr rfl)) (pss_one (ps_expr (pe_call G_split_all (hr.mono (by decide)) (by rfl) g_split_all k_split_all b_split_all .nil pass0 (pa_cons (pv 0) (pa_cons (pe_lc2 (own := [("thing", 5), ("source", 6)]) (vs1 := [6]) (g := gName 5) (g1 := gName 6) (tt := tYes) (tt1 := tYes) (wi1 := iList K (tOp (rIxL K) (tVar 4) (tVar 5))) (te := tVar 6) rfl sc_groups_in.nd (pi_list (pv 3)) (blkOk_by (own := [("thing", 5), ("source", 6)]) (N := ["parting", "sources", "group", "splitter", "led", "thing", "source"]) (sc := defScope s_groups_in) (by decide +kernel)) (by decide) (fun _ _ _ _ _ => pg_name (i := 5) sc_groups_in.nd rfl (Or.inl rfl)) (fun _ _ _ _ _ => pts_nil) (fun _ _ _ _ _ => (pi_list (pe_ix (show IxR _ (rIxL K) from ix_list) (pv 4) (pv 5) (fun _ _ => rfl)))) (fun _ _ _ _ _ => pg_name (i := 6) sc_groups_in.nd rfl (Or.inl rfl)) (fun _ _ _ _ _ => pts_nil) (fun _ _ _ _ _ => (pv 6))) pa_nil)))))))))))
      (pss_one (ps_ret (pe_fld (pv 0) rfl)))), ?_⟩
    have offp : ∀ {b : Addr}, H b = none → OffP a s b := fun {b} hb => by
      have ne : ∀ {c : Addr} {o : HO}, H c = some o → b ≠ c := fun hc z => by rw [← z, hb] at hc; cases hc
      exact ⟨ne pt.ow, ne pt.mb, ne pt.wt, ne pt.ws, fun g hg => ne (pt.mem g hg)⟩
    refine ⟨fun m σ Hx => ∃ (sj : PSt) (v2 v3 v4 v5 v6 : Option V), m = sj.wl.length + 2 * (ns.length - sj.m) ∧ σ = [some (.ref a.P), some (.ref S), v2, v3, v4, v5, v6] ∧ GrI C a s ns R (fun _ => False) (fun _ => True) H sj Hx, ⟨_, s, none, none, none, none, none, rfl, rfl, ⟨Oth.refl, ⟨fun _ _ => rfl, fun g h1 h2 => absurd h2 (by omega)⟩, Nat.le_refl _, pt, ok, kp, fun _ _ _ _ e => e⟩⟩, ?_⟩
    rintro m σ Hx ⟨sj, v2, v3, v4, v5, v6, rfl, rfl, z⟩
    have p0 := z.at_
    refine ⟨_, rfl, a.P, C, a.dx, fieldsP a, .ref a.wt, rfl, p0.i, PC.cl, PC.n_waiting, rfl, !(natsV sj.wl).isEmpty, .inl ⟨_, SqL.of p0.wt, rfl⟩, ?_⟩
    by_cases hw : sj.wl = []
    · rw [hw]
      refine iteF ?_
      refine ⟨_, rfl, a.P, C, a.dx, fieldsP a, .ref a.ow, rfl, p0.i, PC.cl, PC.n_owners, rfl, k Hx sj z.oth p0 z.keeps (fun j hj => ?_) z.fine⟩
      have := (z.ok.wl j).mpr hj
      rw [hw] at this
      cases this
    have ne0 : (!(natsV sj.wl).isEmpty) = true := by
      unfold natsV
      cases e : sj.wl with
      | nil => exact absurd e hw
      | cons x l => rfl
    have pos : 0 < sj.wl.length := List.length_pos_iff.mpr hw
    rw [ne0]
    refine iteT ⟨fun σ' H' => ∃ (sk : PSt) (v2 v3 v4 v5 v6 : Option V), sk.wl.length + 2 * (ns.length - sk.m) < sj.wl.length + 2 * (ns.length - sj.m) ∧ σ' = [some (.ref a.P), some (.ref S), v2, v3, v4, v5, v6] ∧ GrI C a s ns R (fun _ => False) (fun _ => True) H sk H', fun σ' H' ⟨sk, v2, v3, v4, v5, v6, lt, e, q⟩ => ⟨_, lt, sk, v2, v3, v4, v5, v6, rfl, e, q⟩, ?_⟩
    obtain ⟨g, eg⟩ : ∃ g, sj.wl[sj.wl.length - 1]? = some g := ⟨_, List.getElem?_eq_getElem (by omega)⟩
    have gm : g < sj.m := ((z.ok.wl g).mp (List.mem_of_getElem? eg)).1
    refine ⟨_, rfl, a.P, C, a.dx, fieldsP a, .ref a.wt, rfl, p0.i, PC.cl, PC.n_waiting, rfl, .inl ⟨rfl, _, SqL.of p0.wt⟩, a.wt, _, .int (g : Int), rfl, rfl, p0.wt, ?_, ?_⟩
    · unfold natsV
      rw [List.length_map, List.getElem?_map, eg]
      rfl
    have p1 := p0.putWt (l := sj.wl.dropLast) (l' := (natsV sj.wl).dropLast) (by
      unfold natsV
      rw [List.map_dropLast])
    have o1 := z.oth.updo (c := a.wt) (o := .lst (natsV sj.wl).dropLast) (.inr (.inr (.inl rfl)))
    generalize upd Hx a.wt (.lst (natsV sj.wl).dropLast) = H1 at p1 o1 ⊢
    refine ⟨_, rfl, a.P, C, a.dx, fieldsP a, .ref a.ws, rfl, p1.i, PC.cl, PC.n_waits, rfl, _, rfl, a.ws, _, (g : Int), g, rfl, rfl, p1.ws, by rw [List.length_map, List.length_range]; exact ixn gm, ?_⟩
    have bs := bls_set (n := sj.m) (f := sj.w) (v := false) gm
    have p2 : PartAt C ns.length a (popS sj g) (popS sj g).m (upd H1 a.ws (.lst ((blsV sj.m sj.w).set g (V.bl false)))) := p1.putWs bs
    have o2 := o1.updo (c := a.ws) (o := .lst ((blsV sj.m sj.w).set g (V.bl false))) (.inr (.inr (.inr (.inl rfl))))
    generalize upd H1 a.ws (.lst ((blsV sj.m sj.w).set g (V.bl false))) = H2 at p2 o2 ⊢
    have ok2 := z.ok.pop eg
    have nw2 : NewM H s (popS sj g) := z.new
    refine ⟨_, rfl, a.P, C, a.dx, fieldsP a, .ref a.mb, rfl, p2.i, PC.cl, PC.n_members, rfl, _, rfl, a.mb, _, (g : Int), .ref (sj.mem g), rfl, rfl, SqL.of p2.mb, atI_nat (refsV_get gm), sj.mem g, knK (sj.ms g), rfl, p2.mem g gm, fun L nL => ?_⟩
    have nLH : H L = none := o2.none nw2 z.more p2 nL
    rw [show (knK (sj.ms g)).map (fun kv => kV kv.1) = natsV (sj.ms g) from by unfold knK natsV; rw [List.map_map]; rfl]
    have s3 := sameNew nL (.lst (natsV (sj.ms g)))
    have e3 : upd H2 L (.lst (natsV (sj.ms g))) L = some (.lst (natsV (sj.ms g))) := upd_same
    have o3 : Oth a s H (upd H2 L (.lst (natsV (sj.ms g)))) := o2.updo (.inr (.inr (.inr (.inr (.inr nLH)))))
    have p3 := p2.same s3
    generalize upd H2 L (.lst (natsV (sj.ms g))) = H3 at s3 e3 o3 p3 ⊢
    obtain ⟨kp1, cl⟩ := z.keeps.pop (g := g) (wait' := (toP (popS sj g)).wait) (fun j h1 h2 => ⟨h2.1, by
      show (if j = g then false else sj.w j) = true
      rw [if_neg h1]
      exact h2.2⟩)
    have spn : (sj.ms g).Nodup := z.ok.nd g gm
    have spm : ∀ x, x < ns.length → (x ∈ sj.ms g ↔ sj.own x = g) := fun x hx => by
      rw [z.ok.mem g x gm]
      exact ⟨fun q => q.2, fun q => ⟨hx, q⟩⟩
    have spb : ∀ x ∈ sj.ms g, x < ns.length := fun x hx => ((z.ok.mem g x gm).mp hx).1
    have mes : (popS sj g).wl.length + 2 * (ns.length - (popS sj g).m) < sj.wl.length + 2 * (ns.length - sj.m) := by
      show sj.wl.dropLast.length + 2 * (ns.length - sj.m) < _
      rw [List.length_dropLast]
      omega
    have offL := offp nLH
    refine ⟨_, rfl, S, rfl, ⟨_, SqL.of (off.o1.go o3 sr.s)⟩, for_list (K := K) (a := S) (xs := refsV lg pa) (fun p σ Hy => ∃ (v4 v5 v6 : Option V) (sk : PSt), σ = [some (.ref a.P), some (.ref S), some (.int (g : Int)), some (.ref L), v4, v5, v6] ∧ GrI C a s ns R (fun x => sj.own x = g) (fun q => q < p) H sk Hy ∧ Hy L = some (.lst (natsV (sj.ms g))) ∧ sk.wl.length + 2 * (ns.length - sk.m) < sj.wl.length + 2 * (ns.length - sj.m)) ⟨_, _, _, popS sj g, rfl, ⟨o3, nw2, z.more, p3, ok2, Keeps_done (fun q hq => absurd hq (Nat.not_lt_zero _)) kp1, z.fine⟩, e3, mes⟩ (fun p σ Hy _ z => by obtain ⟨_, _, _, sk, _, z, _⟩ := z; exact SqL.of (off.o1.go z.oth sr.s)) ?_ ?_⟩
    · rintro p x σ Hy hx ⟨v4, v5, v6, sk, rfl, y, eL, lt⟩
      have hp : p < lg := by
        have := (List.getElem?_eq_some_iff.mp hx).1
        rw [List.length_map, List.length_range] at this
        exact this
      rw [refsV_get hp] at hx
      obtain rfl := Option.some.inj hx
      have sy := sr.go off y.oth
      have pre : ∀ (i k : Nat), (sj.ms g)[i]? = some k → (leadTo ns ((sj.ms g).take i) p ++ col ns ns.length p k).length ≤ ns.length := fun i k e => by
        rw [← lead_take e]
        exact Mach.pigeon _ _ (lead_nodup ((List.take_sublist _ _).nodup spn)) fun x hx => (lead_mem.mp hx).1
      refine ⟨_, rfl, _, rfl, L, rfl, ⟨_, SqL.of eL⟩, fun D nD => out_it (walk_list (xs := natsV (sj.ms g))) (fun i Hz => Same Hy Hz ∧ Hz D = some (.lst (natsV (leadTo ns ((sj.ms g).take i) p)))) ⟨sameNew nD _, upd_same⟩ (fun i Hz _ q => SqL.of (q.1 _ _ eL)) (fun i x Hz Hz' hi q1 q2 => ?_) fun Hz q => ?_⟩
      · obtain ⟨rfl, hx⟩ := q2
        obtain ⟨k0, ek, rfl⟩ := natsV_get hx
        obtain ⟨sz, ed⟩ := q1
        have kn := spb k0 (List.mem_of_getElem? ek)
        refine ⟨rfl, _, rfl, _, rfl, pa p, _, (k0 : Int), .ref (ca p k0), rfl, rfl, SqL.of (sz _ _ (sy.p p hp)), atI_nat (refsV_get kn), ca p k0, rfl, ⟨_, SqL.of (sz _ _ (sy.c p k0 hp kn))⟩, in_it (walk_list (xs := natsV (col ns ns.length p k0))) (fun j Hw => Same Hy Hw ∧ Hw D = some (.lst (natsV (leadTo ns ((sj.ms g).take i) p ++ (col ns ns.length p k0).take j)))) ⟨sz, by rw [List.take_zero, List.append_nil]; exact ed⟩ (fun j Hw _ q => SqL.of (q.1 _ _ (sy.c p k0 hp kn))) (fun j x Hw Hw' hj q1 q2 => ?_) fun Hw q => ?_⟩
        · obtain ⟨rfl, hx⟩ := q2
          obtain ⟨y0, ey, rfl⟩ := natsV_get hx
          obtain ⟨sw, ew⟩ := q1
          refine ⟨rfl, _, rfl, _, ew, ?_, same_updN sw nD, ?_⟩
          · have h1 := pre i k0 ek
            unfold natsV
            rw [List.length_map, sizeLine_eq, List.length_append, List.length_take]
            rw [List.length_append] at h1
            omega
          · have e4 : leadTo ns ((sj.ms g).take i) p ++ (col ns ns.length p k0).take (j + 1) = (leadTo ns ((sj.ms g).take i) p ++ (col ns ns.length p k0).take j) ++ [y0] := by
              rw [List.take_add_one, ey, ← List.append_assoc]
              rfl
            rw [upd_same, e4, natsV_snoc]
        · obtain ⟨sw, ew⟩ := q
          refine ⟨sw, ?_⟩
          rw [lead_take ek]
          rw [show (natsV (col ns ns.length p k0)).length = (col ns ns.length p k0).length from List.length_map .., List.take_length] at ew
          exact ew
      obtain ⟨sz, ed⟩ := q
      rw [show (natsV (sj.ms g)).length = (sj.ms g).length from List.length_map .., List.take_length] at ed
      have pz := y.at_.same sz
      have offD : D ≠ a.ow ∧ D ≠ a.mb ∧ D ≠ a.wt ∧ D ≠ a.ws := by
        have ne : ∀ {c : Addr} {o : HO}, Hy c = some o → D ≠ c := fun hc z => by rw [← z, nD] at hc; cases hc
        exact ⟨ne y.at_.ow, ne y.at_.mb, ne y.at_.wt, ne y.at_.ws⟩
      have oz := y.oth.trans (Oth.same (s := sk) sz) y.new.or
      refine ⟨ns.length, a, sk, D, leadTo ns (sj.ms g) p, rfl, pz, y.ok, y.keeps.grp, ed, offD, lead_nodup spn, fun x hx => (lead_mem.mp hx).1, big, fun H' s' gs ot nw p' ok' gr' cuts gnd gb gall more len => ?_⟩
      have few := gr'.few
      refine ⟨_, _, _, s', rfl, ⟨oz.trans ot y.new.or, ⟨fun j hj => ?_, fun j h1 h2 => ?_⟩, Nat.le_trans y.more more, p', ok', ?_, fun x y' hx hy e => y.fine x y' hx hy (cuts.fine y.keeps.grp.lt gnd hx hy e).1⟩, ?_, by omega⟩
      · rw [nw.1 j (Nat.lt_of_lt_of_le hj y.more)]
        exact y.new.1 j hj
      · by_cases q : j < sk.m
        · rw [nw.1 j q]
          exact y.new.2 j h1 q
        · exact oz.none y.new y.more pz (nw.2 j (by omega) h2)
      · have c2 := Cuts_congr (Y := fun x => p < lenF ns x ∧ sj.own (nxF ns x p) = g) (fun x hx => by
          show x ∈ leadTo ns (sj.ms g) p ↔ _
          rw [lead_mem]
          constructor
          · rintro ⟨_, q2, q3⟩
            exact ⟨q2, (spm _ (inn x p hx q2)).mp q3⟩
          · rintro ⟨q2, q3⟩
            exact ⟨hx, q2, (spm _ (inn x p hx q2)).mpr q3⟩) cuts
        refine Keeps_done (fun q hq => ?_) (Wk.Cuts.place (q := p) ⟨fun x hx q hq => inn x q hx hq⟩ bis cl y.keeps c2 gb gnd fun x hx h1 h2 => gall x (lead_mem.mpr ⟨hx, h1, (spm _ (inn x p hx h1)).mpr h2⟩))
        show q < p ∨ q = p
        have : q < p + 1 := hq
        omega
      · exact ot _ _ (sz _ _ eL) offL.1 offL.2.1 offL.2.2.1 offL.2.2.2.1 fun j hj => dif (sz _ _ eL) (pz.mem j hj) (fun z => nomatch z)
    · rintro σ Hy ⟨v4, v5, v6, sk, rfl, y, eL, lt⟩
      rw [show (refsV lg pa).length = lg from by rw [List.length_map, List.length_range]] at y
      exact ⟨sk, _, _, _, _, _, lt, rfl, y.oth, y.new, y.more, y.at_, y.ok, y.keeps.rest (fun x q hx hq => Nat.lt_of_lt_of_le hq (wide x hx)), y.fine⟩
end
end Mine

set_option maxRecDepth 100000
set_option maxHeartbeats 4000000
namespace Mine
open PySem L2
abbrev s_parting : Stmt := inClass (top 42) 0
/-- new things in a list, as they are made -/
structure RowU (u : HO) (H0 : Hp) (D : Addr) (ca : Nat → Addr) (k : Nat) (H : Hp) : Prop where
  same : Same H0 H
  nD : H0 D = none
  d : H D = some (.lst (refsV k ca))
  c : ∀ i, i < k → H (ca i) = some u
  nc : ∀ i, i < k → H0 (ca i) = none
  cq : ∀ i j, i < k → j < k → ca i = ca j → i = j
  dc : ∀ i, i < k → D ≠ ca i
theorem RowU.step {u : HO} {H0 H H' : Hp} {D c0 : Addr} {ca : Nat → Addr} {k : Nat} (h : RowU u H0 D ca k H) (n : H c0 = none) (s : Same H H') (e : H' c0 = some u) :
    RowU u H0 D (fun i => if i = k then c0 else ca i) (k + 1) (upd H' D (.lst (refsV k ca ++ [.ref c0]))) := by
  have old : ∀ i, i < k → (if i = k then c0 else ca i) = ca i := fun i hi => if_neg (by omega)
  have nd : D ≠ c0 := fun z => by have := h.d; rw [z, n] at this; cases this
  have ne : ∀ i, i < k → ca i ≠ c0 := fun i hi z => by have := h.c i hi; rw [z, n] at this; cases this
  have bnd : ∀ i, i < k + 1 → i = k ∨ i < k := fun i hi => by omega
  refine ⟨fun b o eb => ?_, h.nD, ?_, fun i hi => ?_, fun i hi => ?_, fun i j hi hj z => ?_, fun i hi => ?_⟩
  · rw [upd_ne (fun z => by rw [z, h.nD] at eb; cases eb)]
    exact s _ _ (h.same _ _ eb)
  · rw [upd_same, ← refsV_succ, if_pos rfl, refsV_congr (fun i hi => (old i hi))]
  · rcases bnd i hi with rfl | q
    · rw [if_pos rfl, upd_ne (Ne.symm nd)]
      exact e
    · rw [old i q, upd_ne (Ne.symm (h.dc i q))]
      exact s _ _ (h.c i q)
  · rcases bnd i hi with rfl | q
    · rw [if_pos rfl]
      exact none_of h.same n
    · rw [old i q]
      exact h.nc i q
  · rcases bnd i hi with rfl | qi <;> rcases bnd j hj with rfl | qj
    · rfl
    · rw [if_pos rfl, old j qj] at z
      exact absurd z.symm (ne j qj)
    · rw [old i qi, if_pos rfl] at z
      exact absurd z (ne i qi)
    · rw [old i qi, old j qj] at z
      exact h.cq i j qi qj z
  · rcases bnd i hi with rfl | q
    · rw [if_pos rfl]
      exact nd
    · rw [old i q]
      exact h.dc i q
def iniS (n m : Nat) (own : Nat → Nat) (mem : Nat → Addr) : PSt := { m := m, own := own, ms := fun g => (List.range n).filter fun x => decide (own x = g), wl := List.range m, w := fun _ => true, mem := mem }
theorem iniS_ok {n m : Nat} {own : Nat → Nat} {mem : Nat → Addr} (h : Wk.Grp n m own) : PartOk n (iniS n m own mem) :=
  ⟨h.lt, fun _ _ => List.nodup_range.filter _, fun g x _ => by
    show x ∈ (List.range n).filter (fun x => decide (own x = g)) ↔ _
    rw [List.mem_filter, List.mem_range, decide_eq_true_eq]
    exact Iff.rfl, List.nodup_range, fun g => by
    show g ∈ List.range m ↔ g < m ∧ true = true
    rw [List.mem_range]
    exact ⟨fun z => ⟨z, rfl⟩, fun z => z.1⟩⟩
theorem own_step {n i g : Nat} {own : Nat → Nat} : (List.range (i + 1)).filter (fun x => decide (own x = g)) = if g = own i then (List.range i).filter (fun x => decide (own x = g)) ++ [i] else (List.range i).filter (fun x => decide (own x = g)) := by
  rw [List.range_succ, List.filter_append]
  by_cases z : g = own i
  · rw [if_pos z, List.filter_cons_of_pos (by simp [z])]
    rfl
  · rw [if_neg z, List.filter_cons_of_neg (by simpa using Ne.symm z)]
    show _ ++ [] = _
    rw [List.append_nil]
/-- the groups' dicts, as they are filled -/
structure IniI (H0 : Hp) (P : Addr) (pv : HO) (mb : Addr) (mem : Nat → Addr) (m i : Nat) (own : Nat → Nat) (H : Hp) : Prop where
  keep : SameX P H0 H
  p : H P = some pv
  hb : H mb = some (.lst (refsV m mem))
  hm : ∀ g, g < m → H (mem g) = some (.dK (knK ((List.range i).filter fun x => decide (own x = g))))
  nb : H0 mb = none
  nm : ∀ g, g < m → H0 (mem g) = none
  inj : ∀ g k, g < m → k < m → mem g = mem k → g = k
theorem IniI.same {H0 H H' : Hp} {P mb : Addr} {pv : HO} {mem : Nat → Addr} {m i : Nat} {own : Nat → Nat} (h : IniI H0 P pv mb mem m i own H) (s : Same H H') : IniI H0 P pv mb mem m i own H' :=
  ⟨fun b o nb e => s _ _ (h.keep b o nb e), s _ _ h.p, s _ _ h.hb, fun g hg => s _ _ (h.hm g hg), h.nb, h.nm, h.inj⟩
theorem pf1 {u v : V} : putF ("members" : Str) v [(("owners" : Str), u)] = ([("owners", u), ("members", v)] : List (Str × V)) := by first | rfl | kernel_rfl
theorem pf2 {u v z : V} : putF ("waiting" : Str) z [(("owners" : Str), u), ("members", v)] = ([("owners", u), ("members", v), ("waiting", z)] : List (Str × V)) := by first | rfl | kernel_rfl
theorem pf3 {u v z y : V} : putF ("waits" : Str) y [(("owners" : Str), u), ("members", v), ("waiting", z)] = ([("owners", u), ("members", v), ("waiting", z), ("waits", y)] : List (Str × V)) := by first | rfl | kernel_rfl
theorem kn_new {l : List Nat} {y : Nat} (h : y ∉ l) : putK (knK l) (.inl (y : Int)) (.bl true) = knK (l ++ [y]) := by
  have : valV (knK l) (.inl (y : Int)) = none := by
    have z := val_kn l y
    rw [decide_eq_false h] at z
    exact Option.not_isSome_iff_eq_none.mp (by rw [z]; exact Bool.false_ne_true)
  rw [putK_new _ this]
  unfold knK
  rw [List.map_append]
  rfl
theorem IniI.step {H0 H H' : Hp} {P mb : Addr} {pv : HO} {mem : Nat → Addr} {m i : Nat} {own : Nat → Nat} (h : IniI H0 P pv mb mem m i own H) (s : Same H H') (hp : ∃ o, H0 P = some o) (hg : own i < m) :
    IniI H0 P pv mb mem m (i + 1) own (upd H' (mem (own i)) (.dK (putK (knK ((List.range i).filter fun x => decide (own x = own i))) (.inl (i : Int)) (.bl true)))) := by
  obtain ⟨o, hp⟩ := hp
  have np : P ≠ mem (own i) := ne_of_none hp (h.nm _ hg)
  refine ⟨fun b o nb e => ?_, ?_, ?_, fun g hgm => ?_, h.nb, h.nm, h.inj⟩
  · rw [upd_ne (ne_of_none e (h.nm _ hg))]
    exact s _ _ (h.keep b o nb e)
  · rw [upd_ne np]
    exact s _ _ h.p
  · rw [upd_ne (dif (s _ _ h.hb) (s _ _ (h.hm _ hg)) (fun z => nomatch z))]
    exact s _ _ h.hb
  · rw [own_step (n := 0)]
    by_cases z : g = own i
    · subst z
      rw [upd_same, if_pos rfl, kn_new (fun q => by
        have := (List.mem_filter.mp q).1
        rw [List.mem_range] at this
        omega)]
    · rw [if_neg z, upd_ne (fun q => z (h.inj _ _ hgm hg q))]
      exact s _ _ (h.hm g hgm)
theorem bls_rep (n : Nat) : (List.replicate n [V.bl true]).flatten = blsV n fun _ => true := by
  unfold blsV
  induction n with
  | zero => rfl
  | succ n ih =>
    rw [List.replicate_succ, List.flatten_cons, ih, List.range_succ_eq_map, List.map_cons, List.map_map]
    rfl
theorem rg_nats (m : Nat) : rgV 0 (m : Int) = natsV (List.range m) := by
  unfold rgV natsV
  rw [show ((m : Int) - 0).toNat = m by omega]
  refine List.map_congr_left fun i _ => ?_
  rw [Int.zero_add]
def spParting (C : Addr) : Sp := fun vs H Q _ => ∃ (P ow dx : Addr) (n m : Nat) (own : Nat → Nat), vs = [.ref P, .ref ow] ∧ H P = some (.ins C dx []) ∧ H ow = some (.lst (natF n own)) ∧ Wk.Grp n m own ∧ n ≤ 100000 ∧
  ∀ (H' : Hp) (mb wt ws : Addr) (mem : Nat → Addr), SameX P H H' → H mb = none → H wt = none → H ws = none → (∀ g, g < m → H (mem g) = none) → PartAt C n ⟨P, dx, ow, mb, wt, ws⟩ (iniS n m own mem) m H' → Q .non H'
section
variable {P : Program} {w : World} {K : PySem.W.Frag} {mg : Str → Option Value} {base : Heap}
variable {fII fIW C : Addr}
theorem sc_parting : FnScope ["self", "owners", "many", "group", "thing", "owner"] ["self", "owners"] (defScope s_parting) := ⟨rfl, rfl, rfl, by decide +kernel, rfl, by decide +kernel, by decide +kernel⟩
theorem ok_parting {f : Addr} {fd : FuncData} (F : Fun K "__init__" "Parting.__init__" s_parting f fd) (T : TxtF K mg fII fIW) (PC : PartC K C) (h_max : mg "max" = none) (h_range : mg "range" = none) (h_enum : mg "enumerate" = none) : FnOk P w K mg base CX0 1 f fd ["self", "owners"] (spParting C) := by
  refine F.ok sc_parting (fun vs H Q E h => ?_) (fun cdv A outer s H vs Q E hr h => ?_)
  · obtain ⟨P, ow, dx, n, m, own, rfl, _⟩ := h
    rfl
  · obtain ⟨P, ow, dx, n, m, own, rfl, hP, how, gr, big, k⟩ := h
    refine ⟨_, (pss_cons (ps_fld (pv 0) (pv 1) rfl)
      (pss_cons (ps_set (i := 2) sc_parting.nd rfl (Or.inl rfl) (pe_op op_add pe_int (pe_callBK (cr_maxD rfl) (by rfl) h_max (by decide +kernel) (pa_cons (pv 1) pa_nil) (pk_cons (pe_un un_neg pe_int) pk_nil))))
      (pss_cons (ps_fld (pv 0) (pe_lc (own := [("group", 3)]) (g := (gName 3)) (tt := tYes) rfl sc_parting.nd (pi_range1 (by rfl) h_range (pa_cons (pv 2) pa_nil)) (blkOk_by (own := [("group", 3)]) (N := ["self", "owners", "many", "group", "thing", "owner"]) (sc := defScope s_parting) (by decide +kernel)) (fun _ _ _ _ _ => (pg_name (i := 3) sc_parting.nd rfl (Or.inl rfl))) (fun _ _ _ _ _ => pts_nil) (fun _ _ _ _ _ => pe_dnewK)) rfl)
      (pss_cons (ps_for PassesOwn.never rfl (pi_enum (by rfl) h_enum (pa_cons (pv 1) pa_nil)) (pg_tup rfl (pgs_cons (pg_name (i := 4) sc_parting.nd rfl (Or.inl rfl)) (pgs_cons (pg_name (i := 5) sc_parting.nd rfl (Or.inl rfl)) pgs_nil))) (pss_one (ps_asg pe_bl (pg_sub (pe_ix ix_list (pe_fld (pv 0) rfl) (pv 5) (fun _ _ => rfl)) (pv 4) (set_dict (hu_of hr))))))
      (pss_cons (ps_fld (pv 0) (pe_listRg rfl (by rfl) T.b_list (prg_1 (by rfl) h_range (pv 2))) rfl)
      (pss_one (ps_fld (pv 0) (pe_op op_repG (pe_lstG (pa_cons pe_bl pa_nil)) (pv 2)) rfl))))))), ?_⟩
    have mn : m ≤ n := gr.few
    have pw : P ≠ ow := dif hP how (fun z => nomatch z)
    refine ⟨_, rfl, _, rfl, P, C, dx, _, rfl, hP, PC.cl, PC.n_owners, by decide, ?_⟩
    have x1 : SameX P H (upd H P (.ins C dx (putF "owners" (.ref ow) []))) := SameX.upd fun _ _ _ e => e
    have i1 : upd H P (.ins C dx (putF "owners" (.ref ow) [])) P = some (.ins C dx [("owners", .ref ow)]) := upd_same
    have ow1 : upd H P (.ins C dx (putF "owners" (.ref ow) [])) ow = some (.lst (natF n own)) := x1 _ _ (Ne.symm pw) how
    have off1 : ∀ b, upd H P (.ins C dx (putF "owners" (.ref ow) [])) b = none → b ≠ P → H b = none := fun b e nb => x1.off e nb
    generalize upd H P (.ins C dx (putF "owners" (.ref ow) [])) = H1 at x1 i1 ow1 off1 ⊢
    refine ⟨_, rfl, _, rfl, ow, (List.range n).map (fun i => (own i : Int)), -1, rfl, rfl, SqL.of (by rw [List.map_map]; exact ow1), fun mx hm => ?_⟩
    have em : (1 : Int) + mx = (m : Int) := by
      rcases hm with ⟨h0, rfl⟩ | ⟨h1, h2⟩
      · have : n = 0 := by
          have := congrArg List.length h0
          rw [List.length_map, List.length_range] at this
          exact this
        have : m = 0 := by omega
        subst this
        rfl
      · obtain ⟨x, hx, rfl⟩ := List.mem_map.mp h1
        have xn := List.mem_range.mp hx
        have hm0 : 0 < m := by have := gr.lt x xn; omega
        obtain ⟨⟨y, y1, y2⟩, y3⟩ := Wk.grp_max gr hm0
        have := h2 (own y : Int) (List.mem_map.mpr ⟨y, List.mem_range.mpr y1, rfl⟩)
        have := y3 x xn
        omega
    refine ⟨_, _, rfl, rfl, ?_⟩
    dsimp only
    rw [em]
    clear hm em
    refine ⟨_, rfl, (m : Int), rfl, by omega, by omega, fun mb nmb => lc_range (lo := 0) (n := m) (fun i Hx => ∃ mem, RowU (.dK []) H1 mb mem i Hx) ⟨fun _ => 0, ⟨sameNew nmb _, nmb, upd_same, fun _ h => absurd h (Nat.not_lt_zero _), fun _ h => absurd h (Nat.not_lt_zero _), fun _ _ h => absurd h (Nat.not_lt_zero _), fun _ h => absurd h (Nat.not_lt_zero _)⟩⟩ (fun i Hx hi z => ?_) fun Hx z => ?_⟩
    · obtain ⟨mem, r⟩ := z
      refine ⟨rfl, fun c0 n0 => ⟨_, (sameNew n0 _) _ _ r.d, ?_, _, r.step n0 (sameNew n0 _) upd_same⟩⟩
      rw [List.length_map, List.length_range, sizeLine_eq]
      omega
    obtain ⟨mem, r⟩ := z
    refine ⟨_, rfl, P, C, dx, _, rfl, r.same _ _ i1, PC.cl, PC.n_members, (show 1 < 1000 by decide), ?_⟩
    rw [pf1]
    have ini : IniI H1 P (.ins C dx [("owners", .ref ow), ("members", .ref mb)]) mb mem m 0 own (upd Hx P (.ins C dx [("owners", .ref ow), ("members", .ref mb)])) := by
      refine ⟨fun b o nb e => ?_, upd_same, ?_, fun g hg => ?_, nmb, r.nc, r.cq⟩
      · rw [upd_ne nb]
        exact r.same _ _ e
      · rw [upd_ne (Ne.symm (ne_of_none i1 nmb))]
        exact r.d
      · rw [upd_ne (Ne.symm (ne_of_none i1 (r.nc g hg)))]
        exact r.c g hg
    have hP1 : ∃ o, H1 P = some o := ⟨_, i1⟩
    clear r
    generalize upd Hx P (.ins C dx [("owners", .ref ow), ("members", .ref mb)]) = H2 at ini ⊢
    have owk : ∀ {i : Nat} {pv : HO} {Hy : Hp}, IniI H1 P pv mb mem m i own Hy → Hy ow = some (.lst (natF n own)) := fun z => z.keep _ _ (Ne.symm pw) ow1
    refine ⟨_, rfl, ow, _, rfl, SqL.of (owk ini), for_enumL (K := K) (a := ow) (xs := natF n own) (fun i σ Hy => ∃ v3 v4 v5 : Option V, σ = [some (.ref P), some (.ref ow), some (.int (m : Int)), v3, v4, v5] ∧ IniI H1 P (.ins C dx [("owners", .ref ow), ("members", .ref mb)]) mb mem m i own Hy) ⟨_, _, _, rfl, ini⟩ (fun i σ Hy _ z => by obtain ⟨_, _, _, _, z⟩ := z; exact SqL.of (owk z)) ?_ ?_⟩
    · rintro i x σ Ha T Hb hx ⟨v3, v4, v5, rfl, z⟩ nT sT eT
      have hi : i < n := by
        have := (List.getElem?_eq_some_iff.mp hx).1
        rw [fl_len] at this
        exact this
      rw [fl_get hi] at hx
      obtain rfl := Option.some.inj hx
      have zb := z.same sT
      have hg := gr.lt i hi
      refine ⟨T, _, rfl, .inl (.inl eT), rfl, _, _, rfl, _, _, rfl, rfl, ?_⟩
      refine ⟨_, rfl, P, C, dx, _, .ref mb, rfl, zb.p, PC.cl, PC.n_members, rfl, _, rfl, mb, _, (own i : Int), .ref (mem (own i)), rfl, rfl, SqL.of zb.hb, atI_nat (refsV_get hg), _, rfl, mem (own i), _, rfl, .inl ⟨_, .inl (i : Int), zb.hm _ hg, rfl, ?_, rfl⟩, _, _, _, rfl, z.step sT hP1 hg⟩
      have := List.length_filter_le (fun x => decide (own x = own i)) (List.range i)
      rw [List.length_range] at this
      unfold knK
      rw [List.length_map, sizeLine_eq]
      omega
    · rintro σ Hy ⟨v3, v4, v5, rfl, z⟩
      rw [fl_len] at z
      have nP : ∀ {b : Addr} {H' : Hp}, Same Hy H' → H' b = none → b ≠ P ∧ H b = none := fun {b H'} s e => by
        have n0 : b ≠ P := fun q => by rw [q, s _ _ z.p] at e; cases e
        exact ⟨n0, SameX.off (m := P) (fun b o nb e => z.keep b o nb (x1 b o nb e)) (none_of s e) n0⟩
      refine ⟨_, rfl, (m : Int), rfl, RgOk.of_le (Int.le_refl _) (by omega) (by omega) (by omega), fun wt nwt => ?_⟩
      rw [rg_nats]
      have s4 := sameNew nwt (.lst (natsV (List.range m)))
      have e4 : upd Hy wt (.lst (natsV (List.range m))) wt = some (.lst (natsV (List.range m))) := upd_same
      generalize upd Hy wt (.lst (natsV (List.range m))) = H4 at s4 e4 ⊢
      have z4 := z.same s4
      have wP := (nP (Same.refl _) nwt).1
      refine ⟨_, rfl, P, C, dx, _, rfl, z4.p, PC.cl, PC.n_waiting, (show 2 < 1000 by decide), ?_⟩
      rw [pf2]
      have x5 : SameX P H4 (upd H4 P (.ins C dx [("owners", .ref ow), ("members", .ref mb), ("waiting", .ref wt)])) := SameX.upd fun _ _ _ e => e
      have i5 : upd H4 P (.ins C dx [("owners", .ref ow), ("members", .ref mb), ("waiting", .ref wt)]) P = some (.ins C dx [("owners", .ref ow), ("members", .ref mb), ("waiting", .ref wt)]) := upd_same
      generalize upd H4 P (.ins C dx [("owners", .ref ow), ("members", .ref mb), ("waiting", .ref wt)]) = H5 at x5 i5 ⊢
      refine ⟨by rw [sizeLine_eq]; exact Nat.succ_le_of_lt (by decide), fun p0 Ha n0 s0 e0 => ⟨_, rfl, p0, (m : Int), _, rfl, rfl, e0, by omega, by omega, ?_, fun ws Hb nws sb eb => ?_⟩⟩
      · rw [sizeLine_eq, Int.toNat_natCast]
        show 1 * m ≤ _
        omega
      rw [Int.toNat_natCast, bls_rep] at eb
      have s6 : Same H5 Hb := s0.trans sb
      refine ⟨_, rfl, P, C, dx, _, rfl, s6 _ _ i5, PC.cl, PC.n_waits, (show 3 < 1000 by decide), ?_⟩
      rw [pf3]
      have n5 : H5 ws = none := none_of s0 nws
      have wsP : ws ≠ P := fun q => by rw [q, i5] at n5; cases n5
      have n4 : H4 ws = none := x5.off n5 wsP
      have fin : ∀ {b : Addr} {o : HO}, H4 b = some o → b ≠ P → upd Hb P (.ins C dx [("owners", .ref ow), ("members", .ref mb), ("waiting", .ref wt), ("waits", .ref ws)]) b = some o := fun e nb => by
        rw [upd_ne nb]
        exact s6 _ _ (x5 _ _ nb e)
      have mP : ∀ g, g < m → mem g ≠ P := fun g hg => Ne.symm (ne_of_none i1 (z.nm g hg))
      have bP : mb ≠ P := Ne.symm (ne_of_none i1 z.nb)
      refine k _ mb wt ws mem (fun b o nb e => ?_) (off1 mb z.nb bP) (nP (Same.refl _) nwt).2 (nP s4 n4).2 (fun g hg => off1 _ (z.nm g hg) (mP g hg)) ⟨upd_same, fin (owk z4) (Ne.symm pw), fin z4.hb bP, fun g hg => fin (z4.hm g hg) (mP g hg), fin e4 wP, ?_, z.inj, ?_, ?_, ?_, ?_, ?_, ?_⟩
      · exact fin (s4 _ _ (z.keep b o nb (x1 b o nb e))) nb
      · show upd Hb P _ ws = _
        rw [upd_ne wsP]
        exact eb
      · exact ne_of_none ow1 z.nb
      · exact ne_of_none (owk z) nwt
      · exact ne_of_none (owk z4) n4
      · exact ne_of_none z.hb nwt
      · exact ne_of_none z4.hb n4
      · exact ne_of_none e4 n4
end
end Mine

set_option maxRecDepth 100000
set_option maxHeartbeats 4000000
namespace Mine
open PySem L2 LamB
abbrev s_mapped : Stmt := top 36
/-- a row led elsewhere -/
def mapRow (g : Int → Int) : RowD → RowD
  | .ask op ns => .ask op (ns.map g)
  | .go n => .go (g n)
  | .fin x => .fin x
/-- where a row leads, as it stands written -/
def leads : RowD → List Int
  | .ask _ ns => ns
  | .go n => [n]
  | .fin _ => []
/-- mapped: what the caller hands on tells for each place another -/
def spMapped (P : Program) (w : World) (K : PySem.W.Frag) (mg : Str → Option Value) (B : Heap) (k : Nat) : Sp := fun vs H Q _ => ∃ (v : V) (d : RowD) (f : Addr) (G : Hp → Prop) (sp : Sp) (g : Int → Int), vs = [v, .ref f] ∧ TRow H v d ∧ (leads d).length ≤ 1000 ∧
  Acts2 P w K mg B CX0 k f G sp ∧ G H ∧ (∀ H1 H2, Same H1 H2 → G H1 → G H2) ∧
  (∀ n ∈ leads d, ∀ (H1 : Hp) (Q2 : VK), Same H H1 → (∀ H2, Same H1 H2 → Q2 (.int (g n)) H2) → sp [.int n] H1 Q2 E0) ∧ ∀ v' H', Same H H' → TRow H' v' (mapRow g d) → Q v' H'
theorem int_step {H Hx H2 : Hp} {D : Addr} {ns : List Int} {i : Nat} {n : Int} (nD : H D = none) (sx : Same H Hx) (ex : Hx D = some (.lst ((ns.take i).map V.int))) (s2 : Same Hx H2) (hs : ns[i]? = some n) (few : ns.length ≤ 100000) :
    ∃ acc, H2 D = some (.lst acc) ∧ acc.length < sizeLine ∧ Same H (upd H2 D (.lst (acc ++ [.int n]))) ∧ upd H2 D (.lst (acc ++ [.int n])) D = some (.lst ((ns.take (i + 1)).map V.int)) := by
  refine ⟨_, s2 _ _ ex, ?_, fun b o e => ?_, ?_⟩
  · rw [List.length_map, List.length_take, sizeLine_eq]
    omega
  · rw [upd_ne (ne_of_none e nD)]
    exact s2 _ _ (sx _ _ e)
  · rw [upd_same, List.take_add_one, hs, List.map_append]
    rfl
section
variable {P : Program} {w : World} {K : PySem.W.Frag} {mg : Str → Option Value} {base : Heap}
variable {fII fIW : Addr}
theorem sc_mapped : FnScope ["line", "place_of", "index"] ["line", "place_of"] (defScope s_mapped) := ⟨rfl, rfl, rfl, by decide +kernel, rfl, by decide +kernel, by decide +kernel⟩

theorem ok_mapped {f : Addr} {fd : FuncData} (F : Fun K "mapped" "mapped" s_mapped f fd) (T : TxtF K mg fII fIW) : FnOk P w K mg base CX0 4 f fd ["line", "place_of"] (spMapped P w K mg base 3) := by
  refine F.ok sc_mapped (fun vs H Q E h => ?_) (fun cdv A outer s H vs Q E hr h => ?_)
  · obtain ⟨v, d, f, G, sp, g, rfl, _⟩ := h
    rfl
  · obtain ⟨v, d, f2, G, sp, g, rfl, row, few, act, gh, st, tells, k⟩ := h
    refine ⟨_, (pss_cons (ps_if (pt_cmpR op_eq (pe_ix ix_tup (pv 0) pe_int (fun _ _ => rfl)) pe_str (nomark _)) (pss_one (ps_ret (pe_tupG (pa_cons pe_str (pa_cons (pe_ix ix_tup (pv 0) pe_int (fun _ _ => rfl)) (pa_cons (pe_callTy call_tupleG (by rfl) T.b_tuple (by decide +kernel) (pa_cons (pe_lc (own := [("index", 2)]) (g := (gName 2)) (tt := tYes) (te := tAct2 P w K mg base CX0 3 1 E0 (tCons (tVar 2) tNil)) rfl sc_mapped.nd (pi_tup (pe_ix ix_tup (pv 0) pe_int (fun _ _ => rfl))) (blkOk_by (own := [("index", 2)]) (N := ["line", "place_of", "index"]) (sc := defScope s_mapped) (by decide +kernel)) (fun _ _ _ _ _ => (pg_name (i := 2) sc_mapped.nd rfl (Or.inl rfl))) (fun _ _ _ _ _ => pts_nil) (fun _ _ _ _ _ => (show PE _ _ (tAct2 P w K mg base CX0 3 1 E0 (tCons (tVar 2) tNil)) from pe_act2 (i := 1) hr pass0 rfl (Or.inr (Or.inl rfl)) (pa_cons (pv 2) pa_nil)))) pa_nil)) pa_nil)))))) pss_nil)
      (pss_cons (ps_if (pt_cmpR op_eq (pe_ix ix_tup (pv 0) pe_int (fun _ _ => rfl)) pe_str (nomark _)) (pss_one (ps_ret (pe_tupG (pa_cons pe_str (pa_cons (pe_act2 (i := 1) hr pass0 (by rfl) (by first | exact Or.inl rfl | exact Or.inr (Or.inl rfl)) (pa_cons (pe_ix ix_tup (pv 0) pe_int (fun _ _ => rfl)) pa_nil)) pa_nil))))) pss_nil)
      (pss_one (ps_ret (pv 0))))), ?_⟩
    cases d with
    | ask op ns =>
      obtain ⟨a, t, rfl, ha, ht⟩ := row
      refine ⟨_, rfl, a, _, 0, .str "ask", rfl, rfl, SqT.of ha, rfl, rfl, _, rfl, ?_⟩
      refine iteT ?_
      refine ⟨_, rfl, a, _, 1, .str op, rfl, rfl, SqT.of ha, rfl, _, rfl, a, _, 2, .ref t, rfl, rfl, SqT.of ha, rfl, t, rfl, ⟨_, SqT.of ht⟩, fun D nD => lc_it (walk_tup (xs := ns.map V.int)) (fun j Hx => Same H Hx ∧ Hx D = some (.lst (((ns.map g).take j).map V.int))) ⟨sameNew nD _, upd_same⟩ (fun j Hx _ z => SqT.of (z.1 _ _ ht)) (fun j y Ha Hb hj z1 z2 => ?_) fun Hx z => ?_⟩
      · obtain ⟨sx, ex⟩ := z1
        obtain ⟨rfl, hy⟩ := z2
        have hi2 : j < ns.length := by rw [List.length_map] at hj; exact hj
        have el : ns[j]? = some ns[j] := List.getElem?_eq_getElem hi2
        have ml := List.mem_of_getElem? el
        generalize ns[j] = n at el ml
        have hy : (ns.map V.int)[j]? = some y := hy
        rw [List.getElem?_map, el] at hy
        have hy := Option.some.inj hy
        subst hy
        refine ⟨rfl, f2, G, sp, rfl, act, st _ _ sx gh, _, rfl, st _ _ sx gh, tells n ml _ _ sx fun H2 s2 => ?_⟩
        exact int_step nD sx ex s2 (by rw [List.getElem?_map, el]; rfl) (by rw [List.length_map]; have : ns.length ≤ 1000 := few; omega)
      · obtain ⟨sx, ex⟩ := z
        rw [List.take_of_length_le (by rw [List.length_map, List.length_map]; exact Nat.le_refl _)] at ex
        refine ⟨D, _, rfl, .inl ex, fun t2 X6 s6 e6 => ?_⟩
        refine ⟨by show 3 ≤ sizeLine; decide, fun v X7 n7 s7 e7 => ?_⟩
        exact k _ _ (sx.trans (s6.trans s7)) ⟨v, t2, rfl, e7, s7 _ _ e6⟩
    | go n =>
      obtain ⟨a, rfl, ha⟩ := row
      refine ⟨_, rfl, a, _, 0, .str "go", rfl, rfl, SqT.of ha, rfl, rfl, _, rfl, ?_⟩
      refine iteF ?_
      refine ⟨_, rfl, a, _, 0, .str "go", rfl, rfl, SqT.of ha, rfl, rfl, _, rfl, ?_⟩
      refine iteT ?_
      refine ⟨f2, G, sp, rfl, act, gh, _, rfl, a, _, 1, .int n, rfl, rfl, SqT.of ha, rfl, gh, tells n (List.mem_singleton.mpr rfl) _ _ (Same.refl _) fun H2 s2 => ?_⟩
      refine ⟨by show 2 ≤ sizeLine; decide, fun v X7 n7 s7 e7 => ?_⟩
      exact k _ _ (s2.trans s7) ⟨v, rfl, e7⟩
    | fin x =>
      obtain ⟨a, rfl, ha⟩ := row
      refine ⟨_, rfl, a, _, 0, .str "end", rfl, rfl, SqT.of ha, rfl, rfl, _, rfl, ?_⟩
      refine iteF ?_
      refine ⟨_, rfl, a, _, 0, .str "end", rfl, rfl, SqT.of ha, rfl, rfl, _, rfl, ?_⟩
      refine iteF ?_
      exact ⟨_, rfl, k _ _ (Same.refl _) ⟨a, rfl, ha⟩⟩
end
end Mine

set_option maxRecDepth 100000
set_option maxHeartbeats 4000000
namespace Mine
open PySem L2
/-- rows in a dict, by their numbers -/
def RowsD (H : Hp) (kvs : List (Key × V)) (rs : List RowD) : Prop := ∀ (i : Nat) (d : RowD), rs[i]? = some d → ∃ x, valV kvs (.inl (i : Int)) = some x ∧ TRow H x d
theorem TRow.isRef {H : Hp} {v : V} {d : RowD} (h : TRow H v d) : ∃ q, v = .ref q := by
  cases d with
  | ask op ns =>
    obtain ⟨a, t, e, _⟩ := h
    exact ⟨a, e⟩
  | go n =>
    obtain ⟨a, e, _⟩ := h
    exact ⟨a, e⟩
  | fin x =>
    obtain ⟨a, e, _⟩ := h
    exact ⟨a, e⟩
theorem RowsD.at {H : Hp} {kvs : List (Key × V)} {rs : List RowD} (r : RowsD H kvs rs) {i : Nat} (hi : i < rs.length) : ∃ (q : Addr) (d : RowD), rs[i]? = some d ∧ valV kvs (.inl (i : Int)) = some (.ref q) ∧ TRow H (.ref q) d := by
  obtain ⟨x, h1, h2⟩ := r i rs[i] (List.getElem?_eq_getElem hi)
  obtain ⟨q, rfl⟩ := h2.isRef
  exact ⟨q, _, List.getElem?_eq_getElem hi, h1, h2⟩
theorem RowsD.same {H H' : Hp} {kvs : List (Key × V)} {rs : List RowD} (s : Same H H') (h : RowsD H kvs rs) : RowsD H' kvs rs := fun i d e => by
  obtain ⟨x, h1, h2⟩ := h i d e
  exact ⟨x, h1, h2.same s⟩
def spRestsD : Sp := fun vs H Q _ => ∃ (a sa : Addr) (kvs : List (Key × V)) (rs : List RowD) (b : Nat), vs = [.ref a, .ref sa, .int b] ∧ H a = some (.dK kvs) ∧ RowsD H kvs rs ∧ Fit rs ∧ H sa = some (.lst (fl rs.length fun i => (stp rs i : Int))) ∧ b < rs.length ∧ rs.length ≤ 100000 ∧ New H (.lst (natsV (metOf rs b))) Q
section
variable {P : Program} {w : World} {K : PySem.W.Frag} {mg : Str → Option Value} {base : Heap}
variable {fII fIW a_nexts : Addr}
theorem ok_rests_fromD {f : Addr} {fd fd_nexts : FuncData} (F : Fun K "rests_from" "rests_from" s_rests_from f fd) (T : TxtF K mg fII fIW)
    (GN : FnOk P w K mg base CX0 1 a_nexts fd_nexts ["line"] spNextsOf) (b_nexts : Binds K fd_nexts ["line"] []) (g_nexts : mg "nexts_of" = some (.ref a_nexts)) (k_nexts : PySem.W.keepIn K (.ref a_nexts) = true) : FnOk P w K mg base CX0 2 f fd ["lines", "stops", "begin"] spRestsD := by
  refine F.ok sc_rests_from (fun vs H Q E h => ?_) (fun cdv A outer s H vs Q E hr h => ?_)
  · obtain ⟨a, sa, kvs, rs, b, rfl, _⟩ := h
    rfl
  · obtain ⟨a, sa, kvs, rs, b, rfl, ha, rows, fit, hs, hb, big, k⟩ := h
    refine ⟨_, (pss_cons (ps_set (i := 3) sc_rests_from.nd rfl (Or.inl rfl) (pe_lstG (pa_cons (pe_ix ix_list (pv 1) (pv 2) (fun _ _ => rfl)) pa_nil)))
      (pss_cons (ps_set (i := 4) sc_rests_from.nd rfl (Or.inl rfl) (pe_disp (pps_cons (pe_ix ix_list (pv 1) (pv 2) (fun _ _ => rfl)) pe_bl pps_nil) rfl rfl (fun z => by cases z) (by show 1 ≤ 15; decide)))
      (pss_cons (ps_set (i := 5) sc_rests_from.nd rfl (Or.inl rfl) pe_int)
      (pss_cons (ps_while PassesOwn.never (pt_cmpR op_lt (pv 5) (pe_callB call_len_seq (by rfl) T.b_len PySem.boot_len (pa_cons (pv 3) pa_nil)) (nomark _)) (pss_cons (ps_for PassesOwn.never rfl (pi_tup (pe_call GN (hr.mono (by decide)) (by rfl) g_nexts k_nexts b_nexts .nil pass0 (pa_cons (pe_dget (hu_of hr) (pv 0) (pe_ix ix_list (pv 3) (pv 5) (fun _ _ => rfl)) (fun _ _ => rfl)) pa_nil))) (pg_name (i := 6) sc_rests_from.nd rfl (Or.inl rfl)) (pss_one (ps_if (pt_cmp (pc_dnotin (hu_of hr) (pe_ix ix_list (pv 1) (pv 6) (fun _ _ => rfl)) (pv 4)) rfl) (pss_cons (ps_asg pe_bl (pg_sub (pv 4) (pe_ix ix_list (pv 1) (pv 6) (fun _ _ => rfl)) (set_dict (hu_of hr))))
      (pss_one (ps_expr (pe_bm PySem.F.plainAttrs_list PySem.F.slot_list_append PySem.F.type_list_append mt_append (pv 3) (pa_cons (pe_ix ix_list (pv 1) (pv 6) (fun _ _ => rfl)) pa_nil))))) pss_nil)))
      (pss_one (ps_aug (i := 5) sc_rests_from.nd rfl (Or.inl rfl) pe_int ip_add))))
      (pss_one (ps_ret (pv 3))))))), ?_⟩
    have one : ∀ v : V, [v].length ≤ sizeLine := fun v => by rw [sizeLine_eq]; exact Nat.succ_le_of_lt (by decide)
    refine ⟨_, rfl, _, rfl, sa, _, _, _, rfl, rfl, SqL.of hs, fl_at hb, one _, fun ma H1 n1 s1 e1 => ?_⟩
    refine fun ka nk => ?_
    have e2 : upd H1 ka (.dK []) sa = some (.lst (fl rs.length fun i => (stp rs i : Int))) := sameNew nk _ _ _ (s1 _ _ hs)
    refine ⟨_, rfl, _, rfl, sa, _, _, _, rfl, rfl, SqL.of e2, fl_at hb, ?_⟩
    refine ⟨upd_same, [(.inl (stp rs b : Int), .bl true)], rfl, by show 1 ≤ 15; decide, ?_⟩
    have mi : MetI H ma ka [stp rs b] (upd (upd H1 ka (.dK [])) ka (.dK (mergeK [] [(.inl (stp rs b : Int), .bl true)]))) := by
      have ne : ma ≠ ka := fun z => by
        rw [← z, e1] at nk
        cases nk
      refine ⟨?_, ?_, ?_, n1, none_of s1 nk, ne⟩
      · exact same_updN (same_updN s1 (none_of s1 nk)) (none_of s1 nk)
      · rw [upd_ne ne, upd_ne ne]
        exact e1
      · rw [upd_same]
        rfl
    refine ⟨fun m σ H' => ∃ (d : Nat) (v6 : Option V), m = rs.length - d ∧ σ = [some (.ref a), some (.ref sa), some (.int b), some (.ref ma), some (.ref ka), some (.int (d : Int)), v6] ∧ MetI H ma ka (metAt rs b d) H' ∧ d ≤ (metAt rs b d).length, ⟨_, 0, none, rfl, rfl, mi, Nat.zero_le _⟩, ?_⟩
    rintro m σ H' ⟨d, v6, rfl, rfl, t, hd⟩
    have few := metAt_few fit hb d
    have fl1 := few.len
    have nl : ∀ m : List Nat, (natsV m).length = m.length := fun m => List.length_map _
    refine ⟨_, rfl, _, rfl, ma, _, rfl, .inl (SqL.of t.em), _, _, rfl, rfl, _, rfl, ?_⟩
    rw [nl]
    refine ite2 (fun h1 => ?_) (fun h1 => ?_)
    · have hlt : d < (metAt rs b d).length := by
        have := of_decide_eq_true h1
        omega
      obtain ⟨i, ei⟩ : ∃ i, (metAt rs b d)[d]? = some i := ⟨_, List.getElem?_eq_getElem hlt⟩
      have hi : i < rs.length := few.2 _ (List.mem_of_getElem? ei)
      obtain ⟨q, dd, ed, hx, row⟩ := rows.at hi
      have st := metAt_step ei ed
      refine ⟨fun σ' H'' => ∃ v6, σ' = [some (.ref a), some (.ref sa), some (.int b), some (.ref ma), some (.ref ka), some (.int ((d + 1 : Nat) : Int)), v6] ∧ MetI H ma ka (metAt rs b (d + 1)) H'', fun σ' H'' ⟨v6, z1, z2⟩ => ⟨rs.length - (d + 1), by omega, d + 1, v6, rfl, z1, z2, by rw [st]; exact Nat.le_trans hlt grow_len⟩, ?_⟩
      have en : (natsV (metAt rs b d))[d]? = some (.int (i : Int)) := by
        unfold natsV
        rw [List.getElem?_map, ei]
        rfl
      refine ⟨_, rfl, _, rfl, _, rfl, ma, _, _, _, rfl, rfl, SqL.of t.em, atI_nat en, a, .ref q, rfl, .inl ⟨kvs, .inl (i : Int), .inl (t.same _ _ ha), rfl, hx.symm⟩, q, dd, rfl, row.same t.same, fun tt H2 s2 et => ?_⟩
      refine ⟨tt, rfl, ⟨_, .inl (.inl et)⟩, for_tup (K := K) (a := tt) (xs := (nextsD dd).map V.int) (fun j σ H3 => ∃ v6, σ = [some (.ref a), some (.ref sa), some (.int b), some (.ref ma), some (.ref ka), some (.int (d : Int)), v6] ∧ MetI H ma ka (grow rs (metAt rs b d) ((nextsD dd).take j)) H3 ∧ H3 tt = some (.tup ((nextsD dd).map V.int))) ⟨_, rfl, t.go s2, et⟩ (fun j σ H3 _ z => by obtain ⟨_, _, _, z⟩ := z; exact .inl (.inl z)) (fun j x σ H3 hx z => ?_) (fun σ H3 z => ?_)⟩
      · obtain ⟨w6, rfl, t3, et3⟩ := z
        have hj : j < (nextsD dd).length := by
          have := (List.getElem?_eq_some_iff.mp hx).1
          rw [List.length_map] at this
          exact this
        have ej : (nextsD dd)[j]? = some (nextsD dd)[j] := List.getElem?_eq_getElem hj
        generalize (nextsD dd)[j] = n at ej
        rw [List.getElem?_map, ej] at hx
        have hx2 : V.int n = x := Option.some.inj hx
        subst hx2
        have mem := List.mem_of_getElem? ej
        obtain ⟨n0, n1⟩ := fit.nexts ed mem
        have e0 : n = (n.toNat : Int) := by omega
        have hn : n.toNat < rs.length := by omega
        have atS : atI (fl rs.length fun i => (stp rs i : Int)) n = some (V.int (stp rs n.toNat : Int)) := by
          conv => lhs; rw [e0]
          exact fl_at hn
        have few3 : Few rs.length (grow rs (metAt rs b d) ((nextsD dd).take j)) := grow_few fit.go few fun x hx => fit.nexts ed (List.mem_of_mem_take hx)
        have len3 := few3.len
        have tk : grow rs (metAt rs b d) ((nextsD dd).take (j + 1)) = addTo (grow rs (metAt rs b d) ((nextsD dd).take j)) (stp rs n.toNat) := by
          unfold grow
          rw [List.take_succ, ej, List.foldl_append]
          rfl
        refine ⟨_, rfl, _, rfl, sa, _, _, _, rfl, rfl, SqL.of (t3.same _ _ hs), atS, _, rfl, ka, _, rfl, .inl ⟨_, .inl (stp rs n.toNat : Int), .inl t3.ek, rfl, rfl⟩, _, rfl, ?_⟩
        rw [val_kn]
        refine ite2 (fun h2 => ?_) (fun h2 => ?_)
        · have nin : stp rs n.toNat ∉ grow rs (metAt rs b d) ((nextsD dd).take j) := fun z => by
            rw [decide_eq_true z] at h2
            cases h2
          have kl : (knK (grow rs (metAt rs b d) ((nextsD dd).take j))).length < sizeLine := by
            unfold knK
            rw [List.length_map, sizeLine_eq]
            omega
          refine ⟨_, rfl, _, rfl, _, rfl, sa, _, _, _, rfl, rfl, SqL.of (t3.same _ _ hs), atS, ka, _, rfl, .inl ⟨_, .inl (stp rs n.toNat : Int), t3.ek, rfl, kl, rfl⟩, ?_⟩
          have s4 : Same H (upd H3 ka (.dK (putK (knK (grow rs (metAt rs b d) ((nextsD dd).take j))) (.inl (stp rs n.toNat : Int)) (.bl true)))) := same_updN t3.same t3.nk
          have em4 : upd H3 ka (.dK (putK (knK (grow rs (metAt rs b d) ((nextsD dd).take j))) (.inl (stp rs n.toNat : Int)) (.bl true))) ma = some (.lst (natsV (grow rs (metAt rs b d) ((nextsD dd).take j)))) := by
            rw [upd_ne t3.ne]
            exact t3.em
          refine ⟨_, rfl, .inl ⟨rfl, _, SqL.of em4⟩, _, rfl, _, rfl, sa, _, _, _, rfl, rfl, SqL.of (s4 _ _ hs), atS, ma, _, _, rfl, rfl, em4, by rw [nl, sizeLine_eq]; omega, ?_⟩
          refine ⟨_, rfl, by rw [tk]; exact t3.put nin, ?_⟩
          have a1 : tt ≠ ma := fun z => by
            rw [z, t3.em] at et3
            cases et3
          have a2 : tt ≠ ka := fun z => by
            rw [z, t3.ek] at et3
            cases et3
          rw [upd_ne a1, upd_ne a2]
          exact et3
        · have yin : stp rs n.toNat ∈ grow rs (metAt rs b d) ((nextsD dd).take j) := by
            by_cases z : stp rs n.toNat ∈ grow rs (metAt rs b d) ((nextsD dd).take j)
            · exact z
            · rw [decide_eq_false z] at h2
              exact absurd rfl h2
          have ad : addTo (grow rs (metAt rs b d) ((nextsD dd).take j)) (stp rs n.toNat) = grow rs (metAt rs b d) ((nextsD dd).take j) := if_pos yin
          exact ⟨_, rfl, by rw [tk, ad]; exact t3, et3⟩
      · obtain ⟨w6, rfl, t3, et3⟩ := z
        refine ⟨_, rfl, _, _, rfl, rfl, _, rfl, ?_⟩
        rw [List.length_map, List.take_length, ← st] at t3
        exact t3
    · have hge : (metAt rs b d).length ≤ d := by
        by_cases z : (metAt rs b d).length ≤ d
        · exact z
        · exact absurd (decide_eq_true (by omega)) h1
      exact ⟨_, rfl, k ma H' t.nm t.same (by rw [t.em, metAt_end (by omega) hge])⟩
end
end Mine

set_option maxRecDepth 100000
set_option maxHeartbeats 4000000
namespace LamB
open PySem PySem.Spec PyProof.Rows L2 LamX NdefX
theorem cells_no : ∀ {names : List (Str × NameKind)} {n : Nat} {acc : List (Str × Addr)}, (∀ y ∈ names, y.2 ≠ .cell) → cellsFrom n names acc = acc
  | [], _, _, _ => rfl
  | (x, k) :: r, n, acc, h => by
    have hk : (k == NameKind.cell) = false := by
      have := h (x, k) List.mem_cons_self
      cases k <;> first | rfl | exact absurd rfl this
    show (if k == .cell then cellsFrom (n + 1) r ((x, n) :: acc) else cellsFrom n r acc) = acc
    rw [hk]
    exact cells_no fun y hy => h y (List.mem_cons_of_mem _ hy)
theorem clo_look {cells : List (Str × Addr)} {y : Str} : ∀ {names : List (Str × NameKind)} {acc : List (Str × Addr)}, (y, NameKind.free) ∈ names ∨ acc.lookup y = some ((cells.lookup y).getD 0) → (cloFrom cells names acc).lookup y = some ((cells.lookup y).getD 0)
  | [], acc, h => h.elim (fun z => nomatch z) id
  | (x, k) :: r, acc, h => by
    show (if k == .free then cloFrom cells r ((x, (cells.lookup x).getD 0) :: acc) else cloFrom cells r acc).lookup y = _
    cases hk : (k == NameKind.free) with
    | true =>
      rw [if_pos rfl]
      refine clo_look ?_
      rcases h with h | h
      · rcases List.mem_cons.mp h with z | z
        · cases z
          exact .inr (by simp [List.lookup])
        · exact .inl z
      · refine .inr ?_
        rw [List.lookup_cons]
        cases e : (y == x) with
        | true =>
          have : y = x := beq_iff_eq.mp e
          subst this
          rfl
        | false => exact h
    | false =>
      rw [if_neg Bool.false_ne_true]
      refine clo_look (h.imp (fun z => ?_) id)
      rcases List.mem_cons.mp z with q | q
      · cases q
        cases hk
      · exact q
theorem clo_clo {cells : List (Str × Addr)} {names : List (Str × NameKind)} : ∀ {ln : List (Str × NameKind)} {acc : List (Str × Addr)}, (∀ y ∈ ln, y.2 = .free → (y.1, NameKind.free) ∈ names) → cloFrom (cloFrom cells names []) ln acc = cloFrom cells ln acc
  | [], _, _ => rfl
  | (x, k) :: r, acc, h => by
    show (if k == .free then cloFrom (cloFrom cells names []) r ((x, ((cloFrom cells names []).lookup x).getD 0) :: acc) else cloFrom (cloFrom cells names []) r acc) = (if k == .free then cloFrom cells r ((x, (cells.lookup x).getD 0) :: acc) else cloFrom cells r acc)
    have ih := fun a => clo_clo (cells := cells) (acc := a) fun y hy => h y (List.mem_cons_of_mem _ hy)
    cases hk : (k == NameKind.free) with
    | true =>
      rw [if_pos rfl, if_pos rfl, ih, clo_look (.inl (h (x, k) List.mem_cons_self (by cases k <;> first | rfl | cases hk)))]
      rfl
    | false => rw [if_neg Bool.false_ne_true, if_neg Bool.false_ne_true, ih]
theorem blk_clo {X : Cx} {s : Shared} {scope lsc : Scope} (nc : ∀ y ∈ scope.names, y.2 ≠ .cell) (fs : ∀ y ∈ lsc.names, y.2 = .free → (y.1, NameKind.free) ∈ scope.names) : cloFrom (blkCells X s scope) lsc.names [] = cloFrom X.env.cells lsc.names [] := by
  unfold blkCells
  rw [cells_no nc]
  exact clo_clo fs
end LamB
namespace Mine
open PySem L2 LamB LamX
/-- mapped(e, lambda index: ..) within a comprehension -/
def tMapE (PT : Addr) (T : List (Addr × Str)) (N : List Str) (js : List Nat) (te1 tb : TE) (σ : St) : TE := fun σ2 H2 Q => te1 σ2 H2 fun v H3 => Tabs T H3 ∧ ∀ (H4 : Hp), ButT PT H3 H4 → Tabs T H4 → ∃ (d : RowD) (g : Int → Int), TRow H4 v d ∧ (leads d).length ≤ 1000 ∧
  (∀ n ∈ leads d, ∀ (H5 : Hp) (Q2 : VK), Same H4 H5 → (∀ H6, Same H5 H6 → Q2 (.int (g n)) H6) → tb (NdefX.startF N ([.int n] ++ []) (js.map (NdefX.slotAt σ))) H5 Q2) ∧ ∀ v' H', Same H4 H' → TRow H' v' (mapRow g d) → Q v' H'
theorem map_elem {X : Cx} {scope lscope : Scope} {C c PT a_mapped : Addr} {fd_mapped : FuncData} {fp : List Addr} {pins : List (Addr × Obj)} {σ : St} {s : Shared} {H : Hp} {e1 body : Expr} {params : Arguments} {p pos lpos : Pos} {T : List (Addr × Str)} {N fr : List Str} {js : List Nat} {te1 tb : TE}
    (far : Far X) (told : Told X) (GM : ∀ B, LamB.Up X.base B → FnOk X.prog X.w X.K X.mg B CX0 4 a_mapped fd_mapped ["line", "place_of"] (spMapped X.prog X.w X.K X.mg B 3)) (hr : Room 4 X.A) (hg : Gl (blkI X s H scope C fp) "mapped") (g_mapped : X.mg "mapped" = some (.ref a_mapped)) (k_mapped : PySem.W.keepIn X.K (.ref a_mapped) = true) (b_mapped : Binds X.K fd_mapped ["line", "place_of"] [])
    (I : Inv X pins σ H s) (hfp : ∀ b ∈ fp, FpOk X pins H b) (h1 : PE (blkI X s H scope C fp) e1 te1) (mono : ∀ σ H Q Q', (∀ v H1, Q v H1 → Q' v H1) → te1 σ H Q → te1 σ H Q')
    (TB : TabB X.base X.mg c PT) (hcode : X.env.code = .ref c) (hm : (PT, X.env.qual ++ "<lambda>") ∈ T) (hu : ∀ p ∈ T, p.1 = PT → p.2 = X.env.qual ++ "<lambda>")
    (nc : ∀ y ∈ scope.names, y.2 ≠ .cell) (fs : ∀ y ∈ lscope.names, y.2 = .free → (y.1, NameKind.free) ∈ scope.names) (fX : ∀ y ∈ lscope.names, y.2 = .free → X.env.scope.names.lookup y.1 = some .cell ∨ X.env.scope.names.lookup y.1 = some .free)
    (L : ∀ y ∈ lscope.names, y.2 = .free → (blkI X s H scope C fp).env.scope.names.lookup y.1 = some .cell ∨ (blkI X s H scope C fp).env.scope.names.lookup y.1 = some .free) (hdef : defaultsOf params (blkI X s H scope C fp).env = ([], []))
    (S : NdefX.NScope N ["index"] fr lscope) (h2 : ∀ y ∈ fr, (y, NameKind.free) ∈ lscope.names) (h3 : js.map (fun j => X.N[j]?) = fr.map some)
    (hb : ∀ (cl : List (Str × Addr)) (c' : Addr) (doc pm ctv : Value) (s : Shared) (us : List Value), us.length = 1 → BindsTo s (PySem.W.kdv_fn "<lambda>" (X.env.qual ++ "<lambda>") params (.expr body) lscope cl .none doc pm (.ref c') ctv) ⟨us, []⟩ ((["index"] : List Str).zip (us ++ [])))
    (hbody : ∀ (B : Heap) (cl : List (Str × Addr)) (c' f : Addr) (A : Around) (outer : List Env) (s : Shared) (H : Hp) (E : XK), Room 2 (A.deeper (NdefX.envF (LF.nf ⟨X.env.qual ++ "<lambda>", params, body, lscope, cl, c', .none⟩) f s.heap.objs.size)) →
      PE (NdefX.ncx CX0 X.prog X.w X.K X.mg B N (LF.nf ⟨X.env.qual ++ "<lambda>", params, body, lscope, cl, c', .none⟩) f A outer s H E) body tb)
    (he : starEach [e1, .Lambda params body lscope lpos] (blkI X s H scope C fp).env = (false, eval e1 (blkI X s H scope C fp).env) :: starEach [.Lambda params body lscope lpos] (blkI X s H scope C fp).env := by rfl)
    (he2 : starEach [.Lambda params body lscope lpos] (blkI X s H scope C fp).env = (false, eval (.Lambda params body lscope lpos) (blkI X s H scope C fp).env) :: starEach [] (blkI X s H scope C fp).env := by rfl)
    (hpl : (backTo pos (starEach [.Lambda params body lscope lpos] (blkI X s H scope C fp).env)).any (·.1) = false := by rfl) :
    PE (blkI X s H scope C fp) (.Call (.Name "mapped" p) [e1, .Lambda params body lscope lpos] [] pos) (tMapE PT T N js te1 tb σ) := by
  refine pe_imp (pe_callW (X := blkI X s H scope C fp) (B := grOf X s) (E := E0) (dvs := []) (fun _ _ _ _ J => env_blk I far told hfp J) (GM (grOf X s) (up_gr I)) hr hg g_mapped k_mapped b_mapped .nil pass0 (pa_cons h1 (pa_cons (pe_lamV (X := blkI X s H scope C fp) (T := T) (c := c) (P := PT) TB hcode hm hu L hdef) pa_nil he2) he) (by decide) he hpl) (fun σ2 H2 Q q => ?_)
  refine mono _ _ _ _ (fun v H3 q => ?_) q
  obtain ⟨t3, q⟩ := q
  refine ⟨t3, fun f c' H4 bt t4 nf lf cf => ?_⟩
  obtain ⟨d, g, row, few, tells, k⟩ := q H4 bt t4
  have ce : cloFrom (blkCells X s scope) lscope.names [] = cloFrom X.env.cells lscope.names [] := blk_clo nc fs
  have cb : CB (grOf X s) (cloFrom (blkCells X s scope) lscope.names []) fr (js.map (NdefX.slotAt σ)) := by
    rw [ce]
    exact cball I lscope fr js fX h2 h3
  have ac := acts_of (P := X.prog) (w := X.w) (K := X.K) (mg := X.mg) (B := grOf X s) (CX := CX0) (k := 2) (f := f) (F := ⟨X.env.qual ++ "<lambda>", params, body, lscope, cloFrom (blkCells X s scope) lscope.names [], c', .none⟩) (n := 1) (dvs := []) (ws := js.map (NdefX.slotAt σ)) (D := fun _ => True) (tb := fun _ => tb) S cb rfl (fun doc pm ctv s _ us _ _ hu => ⟨[], .nil, hb _ _ doc pm ctv s us hu⟩) (fun A outer s H E hr => hbody _ _ _ _ A outer s H E hr)
  exact ⟨v, d, f, _, _, g, rfl, row, few, acts2_of ac, ⟨lf, cf, trivial⟩, fun _ _ s z => ⟨s _ _ z.1, s _ _ z.2.1, trivial⟩, fun n hn H5 Q2 s5 hQ => ⟨rfl, tells n hn H5 Q2 s5 hQ⟩, k⟩
end Mine

set_option maxRecDepth 100000
set_option maxHeartbeats 4000000
namespace Mine
open PySem L2 LamB
/-! the rows of rest that some run comes to: two ways to gather them -/
/-- what every closed row of rows has -/
def MetR (rs : List RowD) (b : Nat) (j : Nat) : Prop := ∀ S : Nat → Prop, S (stp rs b) → (∀ (i : Nat) (op : Str) (ns : List Int) (a : Int), S i → rs[i]? = some (.ask op ns) → a ∈ ns → S (stp rs a.toNat)) → S j
theorem MetR.start (rs : List RowD) (b : Nat) : MetR rs b (stp rs b) := fun S h0 _ => h0
theorem MetR.step {rs : List RowD} {b i : Nat} {op : Str} {ns : List Int} {a : Int} (h : MetR rs b i) (e : rs[i]? = some (.ask op ns)) (ha : a ∈ ns) : MetR rs b (stp rs a.toNat) := fun S h0 hs => hs i op ns a (h S h0 hs) e ha
theorem MetR.lt {rs : List RowD} (f : Fit rs) {b j : Nat} (hb : b < rs.length) (h : MetR rs b j) : j < rs.length :=
  h (fun j => j < rs.length) (stp_lt f.go hb) fun i op ns a _ e ha => by
    obtain ⟨z0, z1⟩ := f.nexts e (show a ∈ nextsD (.ask op ns) from ha)
    exact stp_lt f.go (by omega)
theorem addTo_mem {m : List Nat} {i x : Nat} : x ∈ addTo m i ↔ x ∈ m ∨ x = i := by
  unfold addTo
  by_cases h : i ∈ m
  · rw [if_pos h]
    exact ⟨.inl, fun z => z.elim id fun e => e ▸ h⟩
  · rw [if_neg h, List.mem_append, List.mem_singleton]
theorem grow_mem {rs : List RowD} : ∀ {ns : List Int} {m : List Nat} {x : Nat}, x ∈ grow rs m ns ↔ x ∈ m ∨ ∃ n ∈ ns, x = stp rs n.toNat
  | [], m, x => by simp [grow]
  | n :: ns, m, x => by
    have ih := grow_mem (rs := rs) (ns := ns) (m := addTo m (stp rs n.toNat)) (x := x)
    show x ∈ grow rs (addTo m (stp rs n.toNat)) ns ↔ _
    rw [ih, addTo_mem]
    constructor
    · rintro ((h | h) | ⟨k, hk, e⟩)
      · exact .inl h
      · exact .inr ⟨n, List.mem_cons_self, h⟩
      · exact .inr ⟨k, List.mem_cons_of_mem _ hk, e⟩
    · rintro (h | ⟨k, hk, e⟩)
      · exact .inl (.inl h)
      · rcases List.mem_cons.mp hk with z | z
        · exact .inl (.inr (by rw [e, z]))
        · exact .inr ⟨k, z, e⟩
theorem addTo_pre {m : List Nat} {i k x : Nat} (h : m[k]? = some x) : (addTo m i)[k]? = some x := by
  unfold addTo
  split
  · exact h
  · rw [List.getElem?_append_left (List.getElem?_eq_some_iff.mp h).1]
    exact h
theorem grow_pre {rs : List RowD} : ∀ {ns : List Int} {m : List Nat} {k x : Nat}, m[k]? = some x → (grow rs m ns)[k]? = some x
  | [], m, k, x, h => h
  | n :: ns, m, k, x, h => grow_pre (rs := rs) (ns := ns) (addTo_pre h)
theorem metS_pre {rs : List RowD} {m : List Nat} {d k x : Nat} (h : m[k]? = some x) : (metS rs m d)[k]? = some x := by
  unfold metS
  split
  · exact grow_pre h
  · exact h
theorem metAt_sound {rs : List RowD} {b : Nat} : ∀ d x, x ∈ metAt rs b d → MetR rs b x
  | 0, x, h => by
    rw [List.mem_singleton.mp h]
    exact MetR.start rs b
  | d + 1, x, h => by
    have ih := metAt_sound (rs := rs) (b := b) d
    have h : x ∈ metS rs (metAt rs b d) d := h
    unfold metS at h
    split at h
    · rename_i i e
      rcases grow_mem.mp h with z | ⟨n, hn, rfl⟩
      · exact ih x z
      · split at hn
        · rename_i r er
          cases r with
          | ask op ns => exact (ih i (List.mem_of_getElem? e)).step er hn
          | go n => exact nomatch hn
          | fin u => exact nomatch hn
        · exact nomatch hn
    · exact ih x h
theorem metAt_pre {rs : List RowD} {b d k x : Nat} (h : (metAt rs b d)[k]? = some x) : ∀ e, (metAt rs b (d + e))[k]? = some x
  | 0 => h
  | e + 1 => metS_pre (metAt_pre h e)
/-- what stands before the place is done with -/
theorem metAt_done {rs : List RowD} {b : Nat} : ∀ d k i op ns a, k < d → (metAt rs b d)[k]? = some i → rs[i]? = some (.ask op ns) → a ∈ ns → stp rs a.toNat ∈ metAt rs b d
  | 0, k, i, op, ns, a, h, _, _, _ => absurd h (Nat.not_lt_zero k)
  | d + 1, k, i, op, ns, a, h, e, er, ha => by
    by_cases hk : k < (metAt rs b d).length
    · have e1 : (metAt rs b d)[k]? = some (metAt rs b d)[k] := List.getElem?_eq_getElem hk
      have e2 : (metAt rs b (d + 1))[k]? = some (metAt rs b d)[k] := metS_pre e1
      rw [e] at e2
      have e3 := Option.some.inj e2
      rw [← e3] at e1
      by_cases hd : k = d
      · subst hd
        show _ ∈ metS rs (metAt rs b k) k
        unfold metS
        rw [e1]
        refine grow_mem.mpr (.inr ⟨a, ?_, rfl⟩)
        rw [er]
        exact ha
      · have := metAt_done d k i op ns a (by omega) e1 er ha
        obtain ⟨j, hj, ej⟩ := List.mem_iff_getElem.mp this
        have e4 : (metAt rs b d)[j]? = some (stp rs a.toNat) := by rw [List.getElem?_eq_getElem hj, ej]
        exact List.mem_of_getElem? (metS_pre (d := d) e4)
    · have e2 : metAt rs b (d + 1) = metAt rs b d := by
        show metS rs (metAt rs b d) d = _
        unfold metS
        rw [List.getElem?_eq_none (by omega)]
      rw [e2] at e
      exact absurd (List.getElem?_eq_some_iff.mp e).1 hk
theorem metOf_iff {rs : List RowD} (f : Fit rs) {b : Nat} (hb : b < rs.length) (j : Nat) : j ∈ metOf rs b ↔ MetR rs b j := by
  refine ⟨metAt_sound _ j, fun h => h (fun j => j ∈ metOf rs b) ?_ fun i op ns a hi er ha => ?_⟩
  · exact List.mem_of_getElem? (metAt_pre (d := 0) (k := 0) (x := stp rs b) rfl rs.length |> fun z => by rw [Nat.zero_add] at z; exact z)
  · obtain ⟨k, hk, e⟩ := List.mem_iff_getElem.mp hi
    have := (metAt_few f hb rs.length).len
    exact metAt_done rs.length k i op ns a (Nat.lt_of_lt_of_le hk this) (by show (metOf rs b)[k]? = some i; rw [List.getElem?_eq_getElem hk, e]) er ha
theorem stp_stp {rs : List RowD} (ok : GoOk rs) {i : Nat} (hi : i < rs.length) : stp rs (stp rs i) = stp rs i := by
  obtain ⟨k, e⟩ := Mach.stop_mem (nxt rs) rs.length i
  have : stp rs i = way rs (rs.length + k) i := by
    show Mach.stopAt _ _ _ = Mach.itr _ _ _
    rw [e, Mach.itr_add]
  have h2 := stp_way ok (rs.length + k) i hi
  rw [← this] at h2
  exact h2
theorem met_rest {rs : List RowD} (f : Fit rs) {b i : Nat} (hb : b < rs.length) (h : i ∈ metOf rs b) : i < rs.length ∧ stp rs i = i :=
  (metOf_iff f hb i).mp h (fun j => j < rs.length ∧ stp rs j = j) ⟨stp_lt f.go hb, stp_stp f.go hb⟩ fun i op ns a _ e ha => by
    obtain ⟨z0, z1⟩ := f.nexts e (show a ∈ nextsD (.ask op ns) from ha)
    exact ⟨stp_lt f.go (by omega), stp_stp f.go (by omega)⟩
theorem met_leads {rs : List RowD} (f : Fit rs) {b i : Nat} {d : RowD} {n : Int} (hb : b < rs.length) (h : i ∈ metOf rs b) (e : rs[i]? = some d) (hn : n ∈ leads d) : 0 ≤ n ∧ n < rs.length ∧ stp rs n.toNat ∈ metOf rs b := by
  obtain ⟨z0, z1⟩ := f i d e n (by cases d <;> exact hn)
  refine ⟨z0, z1, ?_⟩
  cases d with
  | ask op ns => exact (metOf_iff f hb _).mpr (((metOf_iff f hb i).mp h).step e hn)
  | go k =>
    obtain rfl := List.mem_singleton.mp hn
    obtain ⟨h1, h2⟩ := met_rest f hb h
    have h3 := stp_way f.go 1 i h1
    have h4 : way rs 1 i = n.toNat := by
      show nxt rs i = n.toNat
      unfold nxt
      rw [e]
    rw [h4, h2] at h3
    rw [h3]
    exact h
  | fin x => exact nomatch hn
/-- where a number stands in a list -/
abbrev pl (m : List Nat) (k : Nat) : Nat := @List.idxOf Nat instBEqOfDecidableEq k m
def plK (m : List Nat) (n : Nat) : List (Key × V) := (m.zipIdx n).map fun p => (.inl (p.1 : Int), V.int (p.2 : Int))
theorem plK_some : ∀ {m : List Nat} {n k : Nat}, k ∈ m → valV (plK m n) (.inl (k : Int)) = some (.int ((n + pl m k : Nat) : Int))
  | [], _, _, h => nomatch h
  | a :: m, n, k, h => by
    unfold plK
    rw [List.zipIdx_cons, List.map_cons]
    by_cases e : a = k
    · subst e
      rw [valV_pos rfl]
      unfold pl
      rw [ixG_cons, if_pos rfl]
      rfl
    · rw [valV_neg (fun z => e (by have := Sum.inl.inj z; omega))]
      have := plK_some (n := n + 1) ((List.mem_cons.mp h).resolve_left (Ne.symm e))
      unfold plK at this
      rw [this]
      unfold pl
      rw [ixG_cons, if_neg e]
      congr 2
      omega
theorem plK_none : ∀ {m : List Nat} {n k : Nat}, k ∉ m → valV (plK m n) (.inl (k : Int)) = none
  | [], _, _, _ => rfl
  | a :: m, n, k, h => by
    rw [List.mem_cons, not_or] at h
    unfold plK
    rw [List.zipIdx_cons, List.map_cons, valV_neg (fun z => h.1 (by have := Sum.inl.inj z; omega))]
    exact plK_none h.2
theorem plK_len {m : List Nat} {n : Nat} : (plK m n).length = m.length := by
  unfold plK
  rw [List.length_map, List.length_zipIdx]
theorem plK_snoc {m : List Nat} {k : Nat} : plK m 0 ++ [(.inl (k : Int), V.int (m.length : Int))] = plK (m ++ [k]) 0 := by
  unfold plK
  rw [List.zipIdx_append, List.map_append]
  simp
abbrev plG (rs : List RowD) (b : Nat) : Int → Int := fun n => (pl (metOf rs b) (stp rs n.toNat) : Int)
/-- the rows of rest, numbered as they are met -/
def cutD (rs : List RowD) (b : Nat) : List RowD := (metOf rs b).map fun i => mapRow (plG rs b) (rs.getD i (.fin ""))
/-- a dict comprehension over any walk -/
theorem dc_it {J : It} {n : Nat} {G : Hp → Prop} {Y : Nat → Hp → V → Hp → Prop} (w : Walk J n G Y) {g : TG} {tt : TT} {tk tv : TE} {vs : List Nat} {σ : St} {H1 : Hp} {D : Addr} {Qd : Hp → Prop} (Pv : Nat → Hp → Prop) (h0 : Pv 0 (upd H1 D (.dK []))) (hG : ∀ i H, i ≤ n → Pv i H → G H)
    (hs : ∀ i x H H', i < n → Pv i H → Y i H x H' → g x (wipe σ vs) H' fun σ2 H2 => wipe σ2 vs = wipe σ vs ∧ tt σ2 H2 fun b H3 =>
      if b = true then tk σ2 H3 fun y H4 => tv σ2 H4 fun z H5 => ∃ kvs k, y = kV k ∧ H5 D = some (.dK kvs) ∧ kvs.length < sizeLine ∧ Pv (i + 1) (upd H5 D (.dK (putK kvs k z))) else Pv (i + 1) H3) (hd : ∀ H, Pv n H → Qd H) :
    ∃ W : Nat → Nat → Hp → Prop, (∃ m, W 0 m (upd H1 D (.dK []))) ∧ ∀ i m H, W i m H →
      (J.stop i H ∧ Qd H) ∨ (J.go i H ∧ ∃ Nx : Hp → Prop, (∀ H', Nx H' → ∃ m', m' < m ∧ W (i + 1) m' H') ∧ ∀ x H', J.yld i H x H' → g x (wipe σ vs) H' fun σ2 H2 => wipe σ2 vs = wipe σ vs ∧ tt σ2 H2 fun b H3 =>
        if b = true then tk σ2 H3 fun y H4 => tv σ2 H4 fun z H5 => ∃ kvs k, y = kV k ∧ H5 D = some (.dK kvs) ∧ kvs.length < sizeLine ∧ Nx (upd H5 D (.dK (putK kvs k z))) else Nx H3) := by
  refine ⟨fun i m H => m = n - i ∧ i ≤ n ∧ Pv i H, ⟨n, by simp, Nat.zero_le _, h0⟩, ?_⟩
  rintro i m H ⟨rfl, hi, p⟩
  have q := hG i H hi p
  by_cases hlt : i < n
  · refine .inr ⟨w.goes i H hlt q, Pv (i + 1), fun H' p' => ⟨n - (i + 1), by omega, rfl, hlt, p'⟩, fun x H' y => hs i x H H' hlt p (w.yields i H x H' hlt q y)⟩
  · have e : i = n := by omega
    subst e
    exact .inl ⟨w.stops H q, hd H p⟩
/-! what the table of code objects leaves as it is -/
theorem tabs_same {T : List (Addr × Str)} {H H' : Hp} (t : LamX.Tabs T H) (s : Same H H') : LamX.Tabs T H' := t.ext fun b o e => s b o e
theorem none_butT {PM : Addr} {q : Str} {H H' : Hp} {a : Addr} (u : ButT PM H H') (t : LamX.Tabs [(PM, q)] H') (n : H' a = none) : H a = none := by
  cases e : H a with
  | none => rfl
  | some o =>
    by_cases z : a = PM
    · obtain ⟨ps, e1, _⟩ := t (PM, q) (List.mem_singleton.mpr rfl)
      have e1 : H' PM = some (.tbl ps) := e1
      rw [← z, n] at e1
      cases e1
    · rw [u a o z e] at n
      cases n
theorem goT {PM : Addr} {q : Str} {H H' : Hp} (u : ButT PM H H') (t : LamX.Tabs [(PM, q)] H) {b : Addr} {o : HO} (e : H b = some o) (nt : ∀ ps, o ≠ .tbl ps) : H' b = some o := u b o (fun z => by
  obtain ⟨ps, e1, _⟩ := t (PM, q) (List.mem_singleton.mpr rfl)
  have e1 : H PM = some (.tbl ps) := e1
  rw [z, e1] at e
  exact nt ps (Option.some.inj e).symm) e
theorem tabs_lst {PM a : Addr} {q : Str} {H : Hp} {xs : List V} {o : HO} (t : LamX.Tabs [(PM, q)] H) (ha : H a = some (.lst xs)) : LamX.Tabs [(PM, q)] (upd H a o) := fun p hp => by
  obtain ⟨ps, e1, e2, e3⟩ := t p hp
  refine ⟨ps, by rw [upd_ne (fun z => by rw [z, ha] at e1; cases e1)]; exact e1, e2, fun pos cv h => ?_⟩
  obtain ⟨c, e4, e5⟩ := e3 pos cv h
  refine ⟨c, e4, by
    rw [upd_ne (fun z => by
      rw [z, ha] at e5
      have e5 := Option.some.inj e5
      unfold LamX.CodeO at e5
      cases e5)]
    exact e5⟩
theorem TRow.goT {PM : Addr} {q : Str} {H H' : Hp} {v : V} {d : RowD} (u : ButT PM H H') (t : LamX.Tabs [(PM, q)] H) (h : TRow H v d) : TRow H' v d := by
  cases d with
  | ask op ns =>
    obtain ⟨a, c, e, h1, h2⟩ := h
    exact ⟨a, c, e, Mine.goT u t h1 nofun, Mine.goT u t h2 nofun⟩
  | go n =>
    obtain ⟨a, e, h1⟩ := h
    exact ⟨a, e, Mine.goT u t h1 nofun⟩
  | fin w =>
    obtain ⟨a, e, h1⟩ := h
    exact ⟨a, e, Mine.goT u t h1 nofun⟩
/-- the rows that are made so far -/
structure CutI (PC : Addr) (q : Str) (H0 : Hp) (D : Addr) (f : Nat → RowD) (k : Nat) (Hx : Hp) : Prop where
  but : ButT PC H0 Hx
  tabs : LamX.Tabs [(PC, q)] Hx
  at_ : ∃ vs : List V, Hx D = some (.lst vs) ∧ vs.length = k ∧ ∀ j, j < k → ∃ x, vs[j]? = some x ∧ TRow Hx x (f j)
theorem CutI.step {PC D : Addr} {q : Str} {H0 Hx H' : Hp} {f : Nat → RowD} {k : Nat} {v : V} (h : CutI PC q H0 D f k Hx) (nD : H0 D = none) (u : ButT PC Hx H') (t : LamX.Tabs [(PC, q)] H') (r : TRow H' v (f k)) (hk : k < 100000) :
    ∃ acc, H' D = some (.lst acc) ∧ acc.length < sizeLine ∧ CutI PC q H0 D f (k + 1) (upd H' D (.lst (acc ++ [v]))) := by
  obtain ⟨vs, h1, h2, h3⟩ := h.at_
  have hd := goT u h.tabs h1 nofun
  refine ⟨vs, hd, by rw [h2, sizeLine_eq]; omega, fun b o nb e => ?_, tabs_lst t hd, _, upd_same, by rw [List.length_append, h2]; rfl, fun j hj => ?_⟩
  · rw [upd_ne (ne_of_none e nD)]
    exact u _ _ nb (h.but _ _ nb e)
  · by_cases z : j < k
    · obtain ⟨x, k1, k2⟩ := h3 j z
      exact ⟨x, by rw [List.getElem?_append_left (by omega)]; exact k1, (k2.goT u h.tabs).other hd⟩
    · have zj : j = k := by omega
      subst zj
      exact ⟨v, by rw [List.getElem?_append_right (by omega), h2, Nat.sub_self]; rfl, r.other hd⟩
theorem nc_by {names : List (Str × NameKind)} (h : (names.all fun y => !decide (y.2 = .cell)) = true) : ∀ y ∈ names, y.2 ≠ .cell := fun y hy => by
  have := List.all_eq_true.mp h y hy
  simpa using this
theorem fs_by {ln names : List (Str × NameKind)} (h : (ln.all fun y => !decide (y.2 = .free) || decide ((y.1, NameKind.free) ∈ names)) = true) : ∀ y ∈ ln, y.2 = .free → (y.1, NameKind.free) ∈ names := fun y hy e => by
  have := List.all_eq_true.mp h y hy
  simpa [e] using this
theorem look_ix {K : PySem.W.Frag} {σ : St} {i j : Nat} : ∀ (H : Hp) (Q Q' : VK), (∀ v H1, Q v H1 → Q' v H1) → (tOp (rIxL K) (tVar i) (tVar j)) σ H Q → (tOp (rIxL K) (tVar i) (tVar j)) σ H Q' := fun H Q Q' m ⟨x, hx, y, hy, p, xs, k, v, e1, e2, e3, e4, q⟩ => ⟨x, hx, y, hy, p, xs, k, v, e1, e2, e3, e4, m _ _ q⟩
theorem look_dx {σ : St} {i j : Nat} : ∀ (H : Hp) (Q Q' : VK), (∀ v H1, Q v H1 → Q' v H1) → (tDGet (tVar i) (tVar j)) σ H Q → (tDGet (tVar i) (tVar j)) σ H Q' := fun H Q Q' m ⟨x, hx, y, hy, a, v, e1, e2, q⟩ => ⟨x, hx, y, hy, a, v, e1, e2, m _ _ q⟩
abbrev s_cut : Stmt := top 35
abbrev qCut : Str := "cut" ++ ".<locals>." ++ "<lambda>"
end Mine

set_option maxRecDepth 100000
set_option maxHeartbeats 4000000
namespace Mine
open PySem L2 LamB
def spCut (PC : Addr) : Sp := fun vs H Q _ => ∃ (a sa : Addr) (xs : List V) (rs : List RowD) (b : Nat), vs = [.ref a, .ref sa, .int b] ∧ H a = some (.lst xs) ∧ Rows H xs rs ∧ Fit rs ∧ H sa = some (.lst (fl rs.length fun i => (stp rs i : Int))) ∧ b < rs.length ∧ rs.length ≤ 100000 ∧ (∀ d ∈ rs, (leads d).length ≤ 1000) ∧ LamX.Tabs [(PC, qCut)] H ∧
  ∀ (l : Addr) (H' : Hp) (vs' : List V), ButT PC H H' → LamX.Tabs [(PC, qCut)] H' → H l = none → H' l = some (.lst vs') → Rows H' vs' (cutD rs b) → Q (.ref l) H'
section
variable {P : Program} {w : World} {K : PySem.W.Frag} {mg : Str → Option Value} {base : Heap}
variable {fII fIW PC cC a_rests_from a_mapped : Addr}
theorem sc_cut : FnScope ["lines", "stops", "begin", "met", "places", "place", "stop"] ["lines", "stops", "begin"] (defScope s_cut) := ⟨rfl, rfl, rfl, by decide +kernel, rfl, by decide +kernel, by decide +kernel⟩
theorem cut_nd : ((cellsFrom 0 (defScope s_cut).names []).map (·.1)).Nodup := by decide +kernel
theorem ok_cut {f : Addr} {fd fd_rests_from fd_mapped : FuncData} (F : FunC K "cut" "cut" s_cut f fd cC) (T : TxtF K mg fII fIW) (h_enum : mg "enumerate" = none) (TBc : LamX.TabB base mg cC PC)
    (G_rests_from : FnOk P w K mg base CX0 2 a_rests_from fd_rests_from ["lines", "stops", "begin"] spRests) (b_rests_from : Binds K fd_rests_from ["lines", "stops", "begin"] []) (g_rests_from : mg "rests_from" = some (.ref a_rests_from)) (k_rests_from : PySem.W.keepIn K (.ref a_rests_from) = true)
    (G_mapped : ∀ B, LamB.Up base B → FnOk P w K mg B CX0 4 a_mapped fd_mapped ["line", "place_of"] (spMapped P w K mg B 3)) (b_mapped : Binds K fd_mapped ["line", "place_of"] []) (g_mapped : mg "mapped" = some (.ref a_mapped)) (k_mapped : PySem.W.keepIn K (.ref a_mapped) = true) :
    FnOk P w K mg base CX0 5 f fd ["lines", "stops", "begin"] (spCut PC) := by
  refine F.ok sc_cut (fun vs H Q E h => ?_) (fun A outer s H vs Q E hr h => ?_)
  · obtain ⟨a, sa, xs, rs, b, rfl, _⟩ := h
    rfl
  · obtain ⟨a, sa, xs, rs, b, rfl, ha, rows, fit, hs, hb, big, few, tabs, k⟩ := h
    have told : Told (cxOf CX0 P w K mg base ["lines", "stops", "begin", "met", "places", "place", "stop"] "cut" (defScope s_cut) f (.ref cC) A outer s H E).nox := told_own (n := s.heap.objs.size + 1) rfl cut_nd
    refine ⟨_, pss_ok (fun h0 => (pss_cons (ps_set (i := 3) sc_cut.nd rfl (Or.inl rfl) (pe_call G_rests_from (hr.mono (by decide)) (by rfl) g_rests_from k_rests_from b_rests_from .nil pass0 (pa_cons (pv 0) (pa_cons (pv 1) (pa_cons (pv 2) pa_nil)))))
      (pss_cons (ps_set (i := 4) sc_cut.nd rfl (Or.inr rfl) (pe_dc (own := [("place", 5), ("stop", 6)]) (g := gTup K 2 (gCons (gName 5) (gCons (gName 6) gNil))) (tt := tYes) rfl sc_cut.nd (pi_enum (by rfl) h_enum (pa_cons (pv 3) pa_nil)) (blkOk_by (own := [("place", 5), ("stop", 6)]) (N := ["lines", "stops", "begin", "met", "places", "place", "stop"]) (sc := defScope s_cut) (by decide +kernel)) (fun _ _ _ _ _ => (pg_tup rfl (pgs_cons (pg_name (i := 5) sc_cut.nd rfl (Or.inl rfl)) (pgs_cons (pg_name (i := 6) sc_cut.nd rfl (Or.inl rfl)) pgs_nil)))) (fun _ _ _ _ _ => pts_nil) (fun _ _ _ _ _ => (pv 6)) (fun _ _ _ _ _ => (pv 5))))
      (pss_one (ps_ret (pe_lcI (own := [("stop", 6)]) (g := gName 6) (te := fun σ => tMapE PC [(PC, qCut)] ["index", "places", "stops"] [4, 1] (tOp (rIxL K) (tVar 0) (tVar 6)) (tDGet (tVar 1) (tOp (rIxL K) (tVar 2) (tVar 0))) σ) rfl sc_cut.nd (pi_list (pv 3)) (blkOk_by (own := [("stop", 6)]) (N := ["lines", "stops", "begin", "met", "places", "place", "stop"]) (sc := defScope s_cut) (by decide +kernel)) (fun _ _ _ _ _ => pg_name (i := 6) sc_cut.nd rfl (Or.inl rfl))
        (fun pins σ s1 H1 C fp I hfp => map_elem (fr := ["places", "stops"]) (far_ex h0 told (fun _ => rfl) rfl rfl) told G_mapped hr (by rfl) g_mapped k_mapped b_mapped I hfp (pe_ix (show IxR _ (rIxL K) from ix_list) (pv 0) (pv 6) (fun _ _ => rfl)) (fun _ => look_ix) TBc rfl (List.mem_singleton.mpr rfl) (fun p hp _ => by rw [List.mem_singleton.mp hp]; rfl) (nc_by (by decide +kernel)) (fs_by (by decide +kernel)) (NdefX.ndef_free (sc := defScope s_cut) (fr := []) (by decide +kernel)) (NdefX.ndef_free (fr := []) (by kernel_rfl)) rfl (NdefX.nscope_by (by decide +kernel)) (by decide +kernel) rfl (fun cl c' doc pm ctv s9 us hu => match us, hu with | [u], _ => BindsTo.of_eq rfl)
          (fun B cl c' f9 A9 o9 s9 H9 E9 hr9 => pe_dget (hu_of hr9) (pv 1) (pe_ix (show IxR _ (rIxL K) from ix_list) (pv 2) (pv 0) (fun _ _ => rfl)) (fun _ _ => rfl))))))))), ?_⟩
    have mf := metAt_few fit hb rs.length
    have mnd : (metOf rs b).Nodup := mf.1
    have mlen : (metOf rs b).length ≤ rs.length := mf.len
    refine ⟨_, rfl, _, rfl, _, rfl, a, sa, xs, rs, b, rfl, ha, rows, fit, hs, hb, big, fun ma H1 n1 s1 e1 => ?_⟩
    refine ⟨_, rfl, ma, natsV (metOf rs b), rfl, SqL.of e1, fun D nD => dc_it walk_enum (fun i Hx => Same H1 Hx ∧ Hx D = some (.dK (plK ((metOf rs b).take i) 0))) ⟨sameNew nD _, upd_same⟩ (fun i Hx _ z => SqL.of (z.1 _ _ e1)) (fun i v Ha Hb hi z1 z2 => ?_) fun Hx z => ?_⟩
    · obtain ⟨T', x', y, rfl, nT, rfl, h1, h2⟩ := z2
      obtain ⟨sx, ed⟩ := z1
      dsimp only at h1 h2
      obtain ⟨kk, ek, rfl⟩ := natsV_get h2
      obtain rfl : V.int (i : Int) = x' := Option.some.inj h1
      have sT := sameNew nT (.tup [V.int (i : Int), V.int (kk : Int)])
      have eT : upd Ha T' (.tup [V.int (i : Int), V.int (kk : Int)]) T' = some (.tup [V.int (i : Int), V.int (kk : Int)]) := upd_same
      generalize upd Ha T' (.tup [V.int (i : Int), V.int (kk : Int)]) = Hb at sT eT ⊢
      have hi2 : i < (metOf rs b).length := (List.getElem?_eq_some_iff.mp ek).1
      have tl : ((metOf rs b).take i).length = i := by rw [List.length_take]; omega
      refine ⟨T', _, rfl, .inl (.inl eT), rfl, _, _, rfl, _, _, rfl, rfl, rfl, _, rfl, _, rfl, _, .inl (kk : Int), rfl, sT _ _ ed, ?_, same_updN (sx.trans sT) nD, ?_⟩
      · rw [plK_len, tl, sizeLine_eq]
        omega
      · rw [upd_same, putK_new _ (plK_none (nodup_take mnd ek)), List.take_add_one, ek]
        have := @plK_snoc ((metOf rs b).take i) kk
        rw [tl] at this
        rw [this]
        rfl
    obtain ⟨sx, ed⟩ := z
    rw [show (natsV (metOf rs b)).length = (metOf rs b).length from List.length_map .., List.take_length] at ed
    have s2 : Same H Hx := s1.trans sx
    have nDH : H D = none := none_of s1 nD
    have t2 := tabs_same tabs s2
    refine ⟨_, rfl, ma, rfl, ⟨_, SqL.of (sx _ _ e1)⟩, fun D2 nD2 => lc_it (walk_list (xs := natsV (metOf rs b))) (fun j Hy => CutI PC qCut Hx D2 (fun j => mapRow (plG rs b) (rs.getD ((metOf rs b).getD j 0) (.fin ""))) j Hy) ⟨ButT.of (sameNew nD2 _), tabs_same t2 (sameNew nD2 _), [], upd_same, rfl, fun j hj => absurd hj (Nat.not_lt_zero _)⟩ (fun j Hy _ z => SqL.of (goT z.but t2 (sx _ _ e1) nofun)) (fun j x Ha Hb hj z1 z2 => ?_) fun Hy z => ?_⟩
    · obtain ⟨rfl, hx⟩ := z2
      obtain ⟨kk, ek, rfl⟩ := natsV_get hx
      have mk := List.mem_of_getElem? ek
      have hk := mf.2 kk mk
      obtain ⟨x0, x1, x2⟩ := rows.2 kk _ (List.getElem?_eq_getElem hk)
      have ed2 : rs[kk]? = some rs[kk] := List.getElem?_eq_getElem hk
      have fj : mapRow (plG rs b) (rs.getD ((metOf rs b).getD j 0) (.fin "")) = mapRow (plG rs b) rs[kk] := by
        rw [List.getD_eq_getElem?_getD (l := metOf rs b), ek]
        show mapRow (plG rs b) (rs.getD kk (.fin "")) = _
        rw [List.getD_eq_getElem?_getD, ed2]
        rfl
      have get : ∀ {b2 : Addr} {o : HO}, H b2 = some o → (∀ ps, o ≠ .tbl ps) → Hb b2 = some o := fun e nt => goT z1.but t2 (s2 _ _ e) nt
      refine ⟨rfl, _, rfl, _, rfl, a, xs, (kk : Int), x0, rfl, rfl, SqL.of (get ha nofun), atI_nat x1, z1.tabs, fun H4 bt t4 => ⟨rs[kk], plG rs b, ((x2.same s2).goT z1.but t2).goT bt z1.tabs, few _ (List.getElem_mem hk), fun n hn H5 Q2 s5 hQ => ?_, fun v' H' s' tr => ?_⟩⟩
      · obtain ⟨n0, n1, n2⟩ := met_leads fit hb mk ed2 hn
        have e0 : n = (n.toNat : Int) := by omega
        have atS : atI (fl rs.length fun i => (stp rs i : Int)) n = some (V.int (stp rs n.toNat : Int)) := by
          conv => lhs; rw [e0]
          exact fl_at (by omega)
        have get5 : ∀ {b2 : Addr} {o : HO}, Hb b2 = some o → (∀ ps, o ≠ .tbl ps) → H5 b2 = some o := fun e nt => s5 _ _ (goT bt z1.tabs e nt)
        exact ⟨_, rfl, _, rfl, _, rfl, sa, _, n, _, rfl, rfl, SqL.of (get5 (get hs nofun) nofun), atS, D, .int (plG rs b n), rfl, .inl ⟨_, .inl (stp rs n.toNat : Int), .inl (get5 (goT z1.but t2 ed nofun) nofun), rfl, by rw [plK_some n2, Nat.zero_add]⟩, hQ _ (Same.refl _)⟩
      · exact z1.step nD2 (ButT.trans bt (ButT.of s')) (tabs_same t4 s') (by rw [fj]; exact tr) (by have := (List.getElem?_eq_some_iff.mp ek).1; omega)
    · rw [show (natsV (metOf rs b)).length = (metOf rs b).length from List.length_map ..] at z
      obtain ⟨vs', v1, v2, v3⟩ := z.at_
      refine k D2 Hy vs' (ButT.trans (ButT.of s2) z.but) z.tabs (none_of s2 nD2) v1 ⟨by unfold cutD; rw [List.length_map]; exact v2, fun i d e => ?_⟩
      unfold cutD at e
      rw [List.getElem?_map] at e
      obtain ⟨m, em, rfl⟩ := Option.map_eq_some_iff.mp e
      obtain ⟨x, h1, h2⟩ := v3 i (List.getElem?_eq_some_iff.mp em).1
      refine ⟨x, h1, ?_⟩
      rw [List.getD_eq_getElem?_getD (l := metOf rs b), em] at h2
      exact h2
end
end Mine

set_option maxRecDepth 100000
set_option maxHeartbeats 4000000
namespace Mine
open PySem L2 LamB
def spCutD (PC : Addr) : Sp := fun vs H Q _ => ∃ (a sa : Addr) (kvs : List (Key × V)) (rs : List RowD) (b : Nat), vs = [.ref a, .ref sa, .int b] ∧ H a = some (.dK kvs) ∧ RowsD H kvs rs ∧ Fit rs ∧ H sa = some (.lst (fl rs.length fun i => (stp rs i : Int))) ∧ b < rs.length ∧ rs.length ≤ 100000 ∧ (∀ d ∈ rs, (leads d).length ≤ 1000) ∧ LamX.Tabs [(PC, qCut)] H ∧
  ∀ (l : Addr) (H' : Hp) (vs' : List V), ButT PC H H' → LamX.Tabs [(PC, qCut)] H' → H l = none → H' l = some (.lst vs') → Rows H' vs' (cutD rs b) → Q (.ref l) H'
section
variable {P : Program} {w : World} {K : PySem.W.Frag} {mg : Str → Option Value} {base : Heap}
variable {fII fIW PC cC a_rests_from a_mapped : Addr}
theorem ok_cutD {f : Addr} {fd fd_rests_from fd_mapped : FuncData} (F : FunC K "cut" "cut" s_cut f fd cC) (T : TxtF K mg fII fIW) (h_enum : mg "enumerate" = none) (TBc : LamX.TabB base mg cC PC)
    (G_rests_from : FnOk P w K mg base CX0 2 a_rests_from fd_rests_from ["lines", "stops", "begin"] spRestsD) (b_rests_from : Binds K fd_rests_from ["lines", "stops", "begin"] []) (g_rests_from : mg "rests_from" = some (.ref a_rests_from)) (k_rests_from : PySem.W.keepIn K (.ref a_rests_from) = true)
    (G_mapped : ∀ B, LamB.Up base B → FnOk P w K mg B CX0 4 a_mapped fd_mapped ["line", "place_of"] (spMapped P w K mg B 3)) (b_mapped : Binds K fd_mapped ["line", "place_of"] []) (g_mapped : mg "mapped" = some (.ref a_mapped)) (k_mapped : PySem.W.keepIn K (.ref a_mapped) = true) :
    FnOk P w K mg base CX0 5 f fd ["lines", "stops", "begin"] (spCutD PC) := by
  refine F.ok sc_cut (fun vs H Q E h => ?_) (fun A outer s H vs Q E hr h => ?_)
  · obtain ⟨a, sa, kvs, rs, b, rfl, _⟩ := h
    rfl
  · obtain ⟨a, sa, kvs, rs, b, rfl, ha, rows, fit, hs, hb, big, few, tabs, k⟩ := h
    have told : Told (cxOf CX0 P w K mg base ["lines", "stops", "begin", "met", "places", "place", "stop"] "cut" (defScope s_cut) f (.ref cC) A outer s H E).nox := told_own (n := s.heap.objs.size + 1) rfl cut_nd
    refine ⟨_, pss_ok (fun h0 => (pss_cons (ps_set (i := 3) sc_cut.nd rfl (Or.inl rfl) (pe_call G_rests_from (hr.mono (by decide)) (by rfl) g_rests_from k_rests_from b_rests_from .nil pass0 (pa_cons (pv 0) (pa_cons (pv 1) (pa_cons (pv 2) pa_nil)))))
      (pss_cons (ps_set (i := 4) sc_cut.nd rfl (Or.inr rfl) (pe_dc (own := [("place", 5), ("stop", 6)]) (g := gTup K 2 (gCons (gName 5) (gCons (gName 6) gNil))) (tt := tYes) rfl sc_cut.nd (pi_enum (by rfl) h_enum (pa_cons (pv 3) pa_nil)) (blkOk_by (own := [("place", 5), ("stop", 6)]) (N := ["lines", "stops", "begin", "met", "places", "place", "stop"]) (sc := defScope s_cut) (by decide +kernel)) (fun _ _ _ _ _ => (pg_tup rfl (pgs_cons (pg_name (i := 5) sc_cut.nd rfl (Or.inl rfl)) (pgs_cons (pg_name (i := 6) sc_cut.nd rfl (Or.inl rfl)) pgs_nil)))) (fun _ _ _ _ _ => pts_nil) (fun _ _ _ _ _ => (pv 6)) (fun _ _ _ _ _ => (pv 5))))
      (pss_one (ps_ret (pe_lcI (own := [("stop", 6)]) (g := gName 6) (te := fun σ => tMapE PC [(PC, qCut)] ["index", "places", "stops"] [4, 1] (tDGet (tVar 0) (tVar 6)) (tDGet (tVar 1) (tOp (rIxL K) (tVar 2) (tVar 0))) σ) rfl sc_cut.nd (pi_list (pv 3)) (blkOk_by (own := [("stop", 6)]) (N := ["lines", "stops", "begin", "met", "places", "place", "stop"]) (sc := defScope s_cut) (by decide +kernel)) (fun _ _ _ _ _ => pg_name (i := 6) sc_cut.nd rfl (Or.inl rfl))
        (fun pins σ s1 H1 C fp I hfp => map_elem (fr := ["places", "stops"]) (far_ex h0 told (fun _ => rfl) rfl rfl) told G_mapped hr (by rfl) g_mapped k_mapped b_mapped I hfp (pe_dget (hu_of hr) (pv 0) (pv 6) (fun _ _ => rfl)) (fun _ => look_dx) TBc rfl (List.mem_singleton.mpr rfl) (fun p hp _ => by rw [List.mem_singleton.mp hp]; rfl) (nc_by (by decide +kernel)) (fs_by (by decide +kernel)) (NdefX.ndef_free (sc := defScope s_cut) (fr := []) (by decide +kernel)) (NdefX.ndef_free (fr := []) (by kernel_rfl)) rfl (NdefX.nscope_by (by decide +kernel)) (by decide +kernel) rfl (fun cl c' doc pm ctv s9 us hu => match us, hu with | [u], _ => BindsTo.of_eq rfl)
          (fun B cl c' f9 A9 o9 s9 H9 E9 hr9 => pe_dget (hu_of hr9) (pv 1) (pe_ix (show IxR _ (rIxL K) from ix_list) (pv 2) (pv 0) (fun _ _ => rfl)) (fun _ _ => rfl))))))))), ?_⟩
    have mf := metAt_few fit hb rs.length
    have mnd : (metOf rs b).Nodup := mf.1
    have mlen : (metOf rs b).length ≤ rs.length := mf.len
    refine ⟨_, rfl, _, rfl, _, rfl, a, sa, kvs, rs, b, rfl, ha, rows, fit, hs, hb, big, fun ma H1 n1 s1 e1 => ?_⟩
    refine ⟨_, rfl, ma, natsV (metOf rs b), rfl, SqL.of e1, fun D nD => dc_it walk_enum (fun i Hx => Same H1 Hx ∧ Hx D = some (.dK (plK ((metOf rs b).take i) 0))) ⟨sameNew nD _, upd_same⟩ (fun i Hx _ z => SqL.of (z.1 _ _ e1)) (fun i v Ha Hb hi z1 z2 => ?_) fun Hx z => ?_⟩
    · obtain ⟨T', x', y, rfl, nT, rfl, h1, h2⟩ := z2
      obtain ⟨sx, ed⟩ := z1
      dsimp only at h1 h2
      obtain ⟨kk, ek, rfl⟩ := natsV_get h2
      obtain rfl : V.int (i : Int) = x' := Option.some.inj h1
      have sT := sameNew nT (.tup [V.int (i : Int), V.int (kk : Int)])
      have eT : upd Ha T' (.tup [V.int (i : Int), V.int (kk : Int)]) T' = some (.tup [V.int (i : Int), V.int (kk : Int)]) := upd_same
      generalize upd Ha T' (.tup [V.int (i : Int), V.int (kk : Int)]) = Hb at sT eT ⊢
      have hi2 : i < (metOf rs b).length := (List.getElem?_eq_some_iff.mp ek).1
      have tl : ((metOf rs b).take i).length = i := by rw [List.length_take]; omega
      refine ⟨T', _, rfl, .inl (.inl eT), rfl, _, _, rfl, _, _, rfl, rfl, rfl, _, rfl, _, rfl, _, .inl (kk : Int), rfl, sT _ _ ed, ?_, same_updN (sx.trans sT) nD, ?_⟩
      · rw [plK_len, tl, sizeLine_eq]
        omega
      · rw [upd_same, putK_new _ (plK_none (nodup_take mnd ek)), List.take_add_one, ek]
        have := @plK_snoc ((metOf rs b).take i) kk
        rw [tl] at this
        rw [this]
        rfl
    obtain ⟨sx, ed⟩ := z
    rw [show (natsV (metOf rs b)).length = (metOf rs b).length from List.length_map .., List.take_length] at ed
    have s2 : Same H Hx := s1.trans sx
    have nDH : H D = none := none_of s1 nD
    have t2 := tabs_same tabs s2
    refine ⟨_, rfl, ma, rfl, ⟨_, SqL.of (sx _ _ e1)⟩, fun D2 nD2 => lc_it (walk_list (xs := natsV (metOf rs b))) (fun j Hy => CutI PC qCut Hx D2 (fun j => mapRow (plG rs b) (rs.getD ((metOf rs b).getD j 0) (.fin ""))) j Hy) ⟨ButT.of (sameNew nD2 _), tabs_same t2 (sameNew nD2 _), [], upd_same, rfl, fun j hj => absurd hj (Nat.not_lt_zero _)⟩ (fun j Hy _ z => SqL.of (goT z.but t2 (sx _ _ e1) nofun)) (fun j x Ha Hb hj z1 z2 => ?_) fun Hy z => ?_⟩
    · obtain ⟨rfl, hx⟩ := z2
      obtain ⟨kk, ek, rfl⟩ := natsV_get hx
      have mk := List.mem_of_getElem? ek
      have hk := mf.2 kk mk
      obtain ⟨x0, x1, x2⟩ := rows kk _ (List.getElem?_eq_getElem hk)
      have ed2 : rs[kk]? = some rs[kk] := List.getElem?_eq_getElem hk
      have fj : mapRow (plG rs b) (rs.getD ((metOf rs b).getD j 0) (.fin "")) = mapRow (plG rs b) rs[kk] := by
        rw [List.getD_eq_getElem?_getD (l := metOf rs b), ek]
        show mapRow (plG rs b) (rs.getD kk (.fin "")) = _
        rw [List.getD_eq_getElem?_getD, ed2]
        rfl
      have get : ∀ {b2 : Addr} {o : HO}, H b2 = some o → (∀ ps, o ≠ .tbl ps) → Hb b2 = some o := fun e nt => goT z1.but t2 (s2 _ _ e) nt
      refine ⟨rfl, _, rfl, _, rfl, a, x0, rfl, .inl ⟨kvs, .inl (kk : Int), .inl (get ha nofun), rfl, x1.symm⟩, z1.tabs, fun H4 bt t4 => ⟨rs[kk], plG rs b, ((x2.same s2).goT z1.but t2).goT bt z1.tabs, few _ (List.getElem_mem hk), fun n hn H5 Q2 s5 hQ => ?_, fun v' H' s' tr => ?_⟩⟩
      · obtain ⟨n0, n1, n2⟩ := met_leads fit hb mk ed2 hn
        have e0 : n = (n.toNat : Int) := by omega
        have atS : atI (fl rs.length fun i => (stp rs i : Int)) n = some (V.int (stp rs n.toNat : Int)) := by
          conv => lhs; rw [e0]
          exact fl_at (by omega)
        have get5 : ∀ {b2 : Addr} {o : HO}, Hb b2 = some o → (∀ ps, o ≠ .tbl ps) → H5 b2 = some o := fun e nt => s5 _ _ (goT bt z1.tabs e nt)
        exact ⟨_, rfl, _, rfl, _, rfl, sa, _, n, _, rfl, rfl, SqL.of (get5 (get hs nofun) nofun), atS, D, .int (plG rs b n), rfl, .inl ⟨_, .inl (stp rs n.toNat : Int), .inl (get5 (goT z1.but t2 ed nofun) nofun), rfl, by rw [plK_some n2, Nat.zero_add]⟩, hQ _ (Same.refl _)⟩
      · exact z1.step nD2 (ButT.trans bt (ButT.of s')) (tabs_same t4 s') (by rw [fj]; exact tr) (by have := (List.getElem?_eq_some_iff.mp ek).1; omega)
    · rw [show (natsV (metOf rs b)).length = (metOf rs b).length from List.length_map ..] at z
      obtain ⟨vs', v1, v2, v3⟩ := z.at_
      refine k D2 Hy vs' (ButT.trans (ButT.of s2) z.but) z.tabs (none_of s2 nD2) v1 ⟨by unfold cutD; rw [List.length_map]; exact v2, fun i d e => ?_⟩
      unfold cutD at e
      rw [List.getElem?_map] at e
      obtain ⟨m, em, rfl⟩ := Option.map_eq_some_iff.mp e
      obtain ⟨x, h1, h2⟩ := v3 i (List.getElem?_eq_some_iff.mp em).1
      refine ⟨x, h1, ?_⟩
      rw [List.getD_eq_getElem?_getD (l := metOf rs b), em] at h2
      exact h2
end
end Mine

set_option maxRecDepth 100000
set_option maxHeartbeats 4000000
namespace Mine
open PySem L2 LamB
abbrev s_showsK : Stmt := top 33
/-- what a row of rest shows, as a key -/
def markD : RowD → Mark
  | .ask op _ => [.inr "ask", .inr op]
  | .go _ => [.inr "hang"]
  | .fin x => [.inr "end", .inr x]
def spShowsK : Sp := fun vs H Q _ => ∃ (v : V) (d : RowD), vs = [v] ∧ TRow H v d ∧ ∀ (q : Addr) (H' : Hp), Same H H' → H' q = some (.tup ((markD d).map kV)) → Q (.ref q) H'
section
variable {P : Program} {w : World} {K : PySem.W.Frag} {mg : Str → Option Value} {base : Heap}
theorem sc_showsK : FnScope ["line"] ["line"] (defScope s_showsK) := ⟨rfl, rfl, rfl, by decide +kernel, rfl, by decide +kernel, by decide +kernel⟩
theorem ok_showsK {f : Addr} {fd : FuncData} (F : Fun K "shows_of" "shows_of" s_showsK f fd) : FnOk P w K mg base CX0 1 f fd ["line"] spShowsK := by
  refine F.ok sc_showsK (fun vs H Q E h => ?_) (fun cdv A outer s H vs Q E hr h => ?_)
  · obtain ⟨v, d, rfl, _⟩ := h
    rfl
  · obtain ⟨v, d, rfl, row, k⟩ := h
    refine ⟨_, (pss_cons (ps_if (pt_cmpR op_eq (pe_ix ix_tup (pv 0) pe_int (fun _ _ => rfl)) pe_str (nomark _)) (pss_one (ps_ret (pe_tupG (pa_cons pe_str pa_nil)))) pss_nil)
      (pss_one (ps_ret (pe_tupG (pa_cons (pe_ix ix_tup (pv 0) pe_int (fun _ _ => rfl)) (pa_cons (pe_ix ix_tup (pv 0) pe_int (fun _ _ => rfl)) pa_nil)))))), ?_⟩
    have two : ∀ u v : V, [u, v].length ≤ sizeLine := fun u v => by rw [sizeLine_eq]; show 2 ≤ _; decide
    have one : ∀ u : V, [u].length ≤ sizeLine := fun u => by rw [sizeLine_eq]; show 1 ≤ _; decide
    cases d with
    | ask op ns =>
      obtain ⟨a, t, e, h1, h2⟩ := row
      subst e
      refine ⟨_, rfl, a, _, _, _, rfl, rfl, .inl (.inl h1), at0', rfl, _, rfl, ?_⟩
      rw [strNe ask_go]
      refine iteF ?_
      exact ⟨_, rfl, a, _, _, _, rfl, rfl, .inl (.inl h1), at0', _, rfl, a, _, _, _, rfl, rfl, .inl (.inl h1), at1', two _ _, fun q H' _ s e => k q H' s e⟩
    | go n =>
      obtain ⟨a, e, h1⟩ := row
      subst e
      refine ⟨_, rfl, a, _, _, _, rfl, rfl, .inl (.inl h1), at0', rfl, _, rfl, ?_⟩
      rw [strEq]
      refine iteT ?_
      exact ⟨one _, fun q H' _ s e => k q H' s e⟩
    | fin x =>
      obtain ⟨a, e, h1⟩ := row
      subst e
      refine ⟨_, rfl, a, _, _, _, rfl, rfl, .inl (.inl h1), at0', rfl, _, rfl, ?_⟩
      rw [strNe end_go]
      refine iteF ?_
      exact ⟨_, rfl, a, _, _, _, rfl, rfl, .inl (.inl h1), at0', _, rfl, a, _, _, _, rfl, rfl, .inl (.inl h1), at1', two _ _, fun q H' _ s e => k q H' s e⟩
end
end Mine

set_option maxRecDepth 100000
set_option maxHeartbeats 4000000
namespace Mine
open PySem L2
abbrev s_groups_of : Stmt := top 43
section
variable {α β : Type} [DecidableEq α] [DecidableEq β]
theorem push_map {f : α → β} (inj : ∀ a b, f a = f b → a = b) {l : List α} {a : α} : Wk.push (l.map f) (f a) = (Wk.push l a).map f := by
  unfold Wk.push
  by_cases m : a ∈ l
  · rw [if_pos m, if_pos (List.mem_map_of_mem m)]
  · rw [if_neg m, if_neg (fun z => by
      obtain ⟨b, h1, h2⟩ := List.mem_map.mp z
      exact m (inj _ _ h2 ▸ h1)), List.map_append]
    rfl
theorem fold_map {f : α → β} (inj : ∀ a b, f a = f b → a = b) : ∀ (l s : List α), (l.map f).foldl Wk.push (s.map f) = (l.foldl Wk.push s).map f
  | [], _ => rfl
  | a :: l, s => by
    rw [List.map_cons, List.foldl_cons, push_map inj, fold_map inj l]
    rfl
theorem seen_map {f : α → β} (inj : ∀ a b, f a = f b → a = b) (l : List α) : Wk.seen (l.map f) = (Wk.seen l).map f := fold_map inj l []
theorem idx_map {f : α → β} (inj : ∀ a b, f a = f b → a = b) : ∀ (l : List α) (a : α), (l.map f).idxOf (f a) = l.idxOf a
  | [], _ => rfl
  | b :: l, a => by
    rw [List.map_cons, ixG_cons, ixG_cons, idx_map inj l]
    by_cases z : b = a
    · rw [if_pos z, if_pos (by rw [z])]
    · rw [if_neg z, if_neg (fun q => z (inj _ _ q))]
theorem nums_map {f : α → β} (inj : ∀ a b, f a = f b → a = b) (l : List α) : Wk.nums (l.map f) = Wk.nums l := by
  unfold Wk.nums Wk.numOf
  rw [List.map_map, seen_map inj]
  exact List.map_congr_left fun a _ => idx_map inj _ a
end
/-- numbers as a key's parts -/
def keyN (l : List Nat) : List Key := l.map fun (n : Nat) => Sum.inl (n : Int)
theorem keyN_inj : ∀ a b : List Nat, keyN a = keyN b → a = b
  | [], [], _ => rfl
  | [], _ :: _, h => by cases h
  | _ :: _, [], h => by cases h
  | x :: a, y :: b, h => by
    obtain ⟨h1, h2⟩ := List.cons.inj h
    rw [keyN_inj a b h2, show x = y from by have := Sum.inl.inj h1; omega]
theorem keyN_v (l : List Nat) : (keyN l).map kV = natsV l := by
  unfold keyN natsV
  rw [List.map_map]
  rfl
theorem nums_len {α : Type} [DecidableEq α] (l : List α) : (Wk.nums l).length = l.length := List.length_map ..
/-- a list of numbers as a function's -/
theorem natF_of (l : List Nat) : (l.map fun n : Nat => V.int (n : Int)) = natF l.length fun x => l.getD x 0 := by
  refine List.ext_getElem? fun i => ?_
  by_cases h : i < l.length
  · rw [fl_get h, List.getElem?_map, List.getElem?_eq_getElem h]
    show some (V.int (l[i] : Int)) = some (V.int ((l.getD i 0 : Nat) : Int))
    rw [List.getD_eq_getElem?_getD, List.getElem?_eq_getElem h]
    rfl
  · rw [List.getElem?_eq_none (by rw [List.length_map]; omega), List.getElem?_eq_none (by rw [fl_len]; omega)]
/-- alike things: related by what is kept on every way -/
def LikeB (ks : List Mark) (ns : List (List Nat)) (x y : Nat) : Prop := ∃ T : Nat → Nat → Prop, T x y ∧ ∀ x y, T x y → x < ns.length ∧ y < ns.length ∧ ks[x]? = ks[y]? ∧ lenF ns x = lenF ns y ∧ ∀ p, p < lenF ns x → T (nxF ns x p) (nxF ns y p)
theorem likeB_bis (ks : List Mark) (ns : List (List Nat)) : Wk.Bis ns.length (nxF ns) (lenF ns) (LikeB ks ns) :=
  ⟨fun x y h => by
    obtain ⟨T, h1, h2⟩ := h
    exact (h2 x y h1).2.2.2.1, fun x y h p hp => by
    obtain ⟨T, h1, h2⟩ := h
    exact ⟨T, (h2 x y h1).2.2.2.2 p hp, h2⟩⟩
/-- a finer one goes on -/
structure OwnI (ks : List Mark) (ns : List (List Nat)) (m : Nat) (own : Nat → Nat) : Prop where
  grp : Wk.Grp ns.length m own
  co : Wk.Coarse ns.length own (LikeB ks ns)
  me : ∀ x y, x < ns.length → y < ns.length → own x = own y → ks[x]? = ks[y]?
/-- groups that lead on together are the likeness -/
theorem OwnI.like {ks : List Mark} {ns : List (List Nat)} {m : Nat} {own : Nat → Nat} (h : OwnI ks ns m own) (hl : ∀ x y, x < ns.length → y < ns.length → ks[x]? = ks[y]? → lenF ns x = lenF ns y) (inn : InN ns)
    (st : ∀ x y p, x < ns.length → y < ns.length → own x = own y → p < lenF ns x → p < lenF ns y → own (nxF ns x p) = own (nxF ns y p)) (x y : Nat) (hx : x < ns.length) (hy : y < ns.length) : own x = own y ↔ LikeB ks ns x y := by
  refine ⟨fun e => ⟨fun x y => x < ns.length ∧ y < ns.length ∧ own x = own y, ⟨hx, hy, e⟩, fun x y h => ?_⟩, h.co x y hx hy⟩
  obtain ⟨h1, h2, h3⟩ := h
  have m := h.me x y h1 h2 h3
  have l := hl x y h1 h2 m
  exact ⟨h1, h2, m, l, fun p hp => ⟨inn x p h1 hp, inn y p h2 (l ▸ hp), st x y p h1 h2 h3 hp (l ▸ hp)⟩⟩
/-- the rows of group and groups led to, as they are made -/
structure MkI (Hc : Hp) (D : Addr) (kk : Nat → List Nat) (i : Nat) (Hx : Hp) : Prop where
  same : Same Hc Hx
  at_ : ∃ vs : List V, Hx D = some (.lst vs) ∧ vs.length = i ∧ ∀ j, j < i → ∃ q, vs[j]? = some (.ref q) ∧ Hx q = some (.tup (natsV (kk j)))
theorem MkI.step {Hc Hx H' : Hp} {D q0 : Addr} {kk : Nat → List Nat} {i : Nat} (h : MkI Hc D kk i Hx) (nD : Hc D = none) (s : Same Hx H') (e : H' q0 = some (.tup (natsV (kk i)))) (hi : i < 100000) : ∃ acc, H' D = some (.lst acc) ∧ acc.length < sizeLine ∧ MkI Hc D kk (i + 1) (upd H' D (.lst (acc ++ [.ref q0]))) := by
  obtain ⟨vs, h1, h2, h3⟩ := h.at_
  have hd := s _ _ h1
  refine ⟨vs, hd, by rw [h2, sizeLine_eq]; omega, same_updN (h.same.trans s) nD, _, upd_same, by rw [List.length_append, h2]; rfl, fun j hj => ?_⟩
  by_cases z : j < i
  · obtain ⟨q, k1, k2⟩ := h3 j z
    refine ⟨q, by rw [List.getElem?_append_left (by omega)]; exact k1, ?_⟩
    rw [upd_ne (dif (s _ _ k2) hd (fun z => nomatch z))]
    exact s _ _ k2
  · have zj : j = i := by omega
    subst zj
    refine ⟨q0, by rw [List.getElem?_append_right (by omega), h2, Nat.sub_self]; rfl, ?_⟩
    rw [upd_ne (dif e hd (fun z => nomatch z))]
    exact e
theorem max_of {n m : Nat} {own : Nat → Nat} (g : Wk.Grp n m own) {mx : Int} (h : ((List.range n).map (fun i => (own i : Int)) = [] ∧ mx = 0) ∨ (mx ∈ (List.range n).map (fun i => (own i : Int)) ∧ ∀ x, x ∈ (List.range n).map (fun i => (own i : Int)) → x ≤ mx)) : mx = ((m - 1 : Nat) : Int) := by
  have mn := g.few
  rcases h with ⟨h0, rfl⟩ | ⟨h1, h2⟩
  · have : n = 0 := by
      have := congrArg List.length h0
      rw [List.length_map, List.length_range] at this
      exact this
    have : m = 0 := by omega
    subst this
    rfl
  · obtain ⟨x, hx, rfl⟩ := List.mem_map.mp h1
    have xn := List.mem_range.mp hx
    have hm0 : 0 < m := by have := g.lt x xn; omega
    obtain ⟨⟨y, y1, y2⟩, y3⟩ := Wk.grp_max g hm0
    have := h2 (own y : Int) (List.mem_map.mpr ⟨y, List.mem_range.mpr y1, rfl⟩)
    have := y3 x xn
    omega
theorem grp_same {n m m' : Nat} {own own' : Nat → Nat} (g : Wk.Grp n m own) (g' : Wk.Grp n m' own') (e : m - 1 = m' - 1) : m = m' := by
  have h1 := g.few
  have h2 := g'.few
  by_cases hn : n = 0
  · omega
  · have := g.lt 0 (by omega)
    have := g'.lt 0 (by omega)
    omega
def spGroupsOf : Sp := fun vs H Q _ => ∃ (a b : Addr) (xs ys : List V) (ks : List Mark) (ns : List (List Nat)), vs = [.ref a, .ref b] ∧ H a = some (.lst xs) ∧ Marks H xs ks ∧ H b = some (.lst ys) ∧ Nx H ys ns ∧ ks.length = ns.length ∧ ns.length ≤ 100000 ∧ (∀ r ∈ ns, r.length ≤ 100000) ∧ InN ns ∧
  (∀ x y, x < ns.length → y < ns.length → ks[x]? = ks[y]? → lenF ns x = lenF ns y) ∧
  ∀ (r : Addr) (H' : Hp) (m : Nat) (own : Nat → Nat), Same H H' → H r = none → H' r = some (.lst (natF ns.length own)) → Wk.Grp ns.length m own → (∀ x y, x < ns.length → y < ns.length → (own x = own y ↔ LikeB ks ns x y)) → Q (.ref r) H'
section
variable {P : Program} {w : World} {K : PySem.W.Frag} {mg : Str → Option Value} {base : Heap}
variable {fII fIW C : Addr}
theorem sc_groups_of : FnScope ["marks", "nexts", "owners", "turn", "finer", "thing", "led", "row"] ["marks", "nexts"] (defScope s_groups_of) := ⟨rfl, rfl, rfl, by decide +kernel, rfl, by decide +kernel, by decide +kernel⟩
theorem ok_groups_of {f f_numbered f_sources_of f_groups_in f_parting : Addr} {fd fd_numbered fd_sources_of fd_groups_in fd_parting : FuncData} (F : Fun K "groups_of" "groups_of" s_groups_of f fd) (T : TxtF K mg fII fIW) (PC : PartC K C) (h_max : mg "max" = none) (h_range : mg "range" = none) (h_enum : mg "enumerate" = none) {tr : Tok} (h_rounds : mg "MOST_ROUNDS" = some (.int 8 tr))
    (G_numbered : FnOk P w K mg base CX0 1 f_numbered fd_numbered ["marks"] spNumbered) (b_numbered : Binds K fd_numbered ["marks"] []) (g_numbered : mg "numbered" = some (.ref f_numbered)) (k_numbered : PySem.W.keepIn K (.ref f_numbered) = true)
    (G_sources_of : FnOk P w K mg base CX0 1 f_sources_of fd_sources_of ["nexts"] spSources) (b_sources_of : Binds K fd_sources_of ["nexts"] []) (g_sources_of : mg "sources_of" = some (.ref f_sources_of)) (k_sources_of : PySem.W.keepIn K (.ref f_sources_of) = true)
    (G_groups_in : FnOk P w K mg base CX0 3 f_groups_in fd_groups_in ["parting", "sources"] (spGroupsIn C)) (b_groups_in : Binds K fd_groups_in ["parting", "sources"] []) (g_groups_in : mg "groups_in" = some (.ref f_groups_in)) (k_groups_in : PySem.W.keepIn K (.ref f_groups_in) = true)
    (MP : Mk K C f_parting) (GP : FnOk P w K mg base CX0 1 f_parting fd_parting ["self", "owners"] (spParting C)) (b_Parting : Binds K fd_parting ["self", "owners"] []) (g_Parting : mg "Parting" = some (.ref C)) : FnOk P w K mg base CX0 4 f fd ["marks", "nexts"] spGroupsOf := by
  refine F.ok sc_groups_of (fun vs H Q E h => ?_) (fun cdv A outer s H vs Q E hr h => ?_)
  · obtain ⟨a, b, xs, ys, ks, ns, rfl, _⟩ := h
    rfl
  · obtain ⟨a, b, xs, ys, ks, ns, rfl, ha, mk, hb, nx, kn, big, wide, inn, hl, k⟩ := h
    refine ⟨_, (pss_cons (ps_set (i := 2) sc_groups_of.nd rfl (Or.inr rfl) (pe_call G_numbered (hr.mono (by decide)) (by rfl) g_numbered k_numbered b_numbered .nil pass0 (pa_cons (pv 0) pa_nil)))
      (pss_cons (ps_for PassesOwn.never rfl (pi_range1 (by rfl) h_range (pa_cons (pe_glob (v := .int 8) rfl h_rounds ⟨_, rfl⟩) pa_nil)) (pg_name (i := 3) sc_groups_of.nd rfl (Or.inl rfl)) (pss_cons (ps_set (i := 4) sc_groups_of.nd rfl (Or.inl rfl) (pe_call G_numbered (hr.mono (by decide)) (by rfl) g_numbered k_numbered b_numbered .nil pass0 (pa_cons (pe_lc (own := [("thing", 5), ("row", 7)]) (g := (gTup K 2 (gCons (gName 5) (gCons (gName 7) gNil)))) (tt := tYes) (te := tOp (rCatT K) (gTup' (tCons (tOp (rIxL K) (tVar 2) (tVar 5)) tNil)) (tCB rTupG (tCons (tLc (iTup K (tVar 7)) (gName 6) tYes (tOp (rIxL K) (tVar 2) (tVar 6)) ([(("led" : Str), 6)].map (·.2))) tNil))) rfl sc_groups_of.nd (pi_enum (by rfl) h_enum (pa_cons (pv 1) pa_nil)) (blkOk_by (own := [("thing", 5), ("row", 7)]) (N := ["marks", "nexts", "owners", "turn", "finer", "thing", "led", "row"]) (sc := defScope s_groups_of) (by decide +kernel)) (fun _ _ _ _ _ => (pg_tup rfl (pgs_cons (pg_name (i := 5) sc_groups_of.nd rfl (Or.inl rfl)) (pgs_cons (pg_name (i := 7) sc_groups_of.nd rfl (Or.inl rfl)) pgs_nil)))) (fun _ _ _ _ _ => pts_nil) (fun _ _ _ _ _ => (pe_op (show OpR _ _ (rCatT K) from op_catT) (pe_tupG (pa_cons (pe_ix (show IxR _ (rIxL K) from ix_list) (pv 2) (pv 5) (fun _ _ => rfl)) pa_nil)) (pe_callTy call_tupleG (by rfl) T.b_tuple (by decide +kernel) (pa_cons (pe_lc (own := [("led", 6)]) (g := (gName 6)) (tt := tYes) (te := tOp (rIxL K) (tVar 2) (tVar 6)) rfl sc_groups_of.nd (pi_tup (pv 7)) (blkOk_by (own := [("led", 6)]) (N := ["marks", "nexts", "owners", "turn", "finer", "thing", "led", "row"]) (by kernel_rfl)) (fun _ _ _ _ _ => (pg_name (i := 6) sc_groups_of.nd rfl (Or.inl rfl))) (fun _ _ _ _ _ => pts_nil) (fun _ _ _ _ _ => (pe_ix (show IxR _ (rIxL K) from ix_list) (pv 2) (pv 6) (fun _ _ => rfl)))) pa_nil))))) pa_nil)))
      (pss_cons (ps_if (pt_cmpR op_eq (pe_callBK (cr_maxD rfl) (by rfl) h_max (by decide +kernel) (pa_cons (pv 4) pa_nil) (pk_cons pe_int pk_nil)) (pe_callBK (cr_maxD rfl) (by rfl) h_max (by decide +kernel) (pa_cons (pv 2) pa_nil) (pk_cons pe_int pk_nil)) (nomark _)) (pss_one (ps_ret (pv 2))) pss_nil)
      (pss_one (ps_set (i := 2) sc_groups_of.nd rfl (Or.inr rfl) (pv 4))))))
      (pss_one (ps_ret (pe_call G_groups_in (hr.mono (by decide)) (by rfl) g_groups_in k_groups_in b_groups_in .nil pass0 (pa_cons (pe_make MP GP (hr.mono (by decide)) (by rfl) g_Parting b_Parting .nil pass0 (pa_cons (pv 2) pa_nil)) (pa_cons (pe_call G_sources_of (hr.mono (by decide)) (by rfl) g_sources_of k_sources_of b_sources_of .nil pass0 (pa_cons (pv 1) pa_nil)) pa_nil))))))), ?_⟩
    have mkE : ∀ x y, x < ns.length → y < ns.length → ((Wk.nums ks).getD x 0 = (Wk.nums ks).getD y 0 ↔ ks[x]? = ks[y]?) := fun x y hx hy => by
      have ex : ks[x]? = some (ks[x]'(by omega)) := List.getElem?_eq_getElem (by omega)
      have ey : ks[y]? = some (ks[y]'(by omega)) := List.getElem?_eq_getElem (by omega)
      rw [Wk.nums_eq ex ey, ex, ey]
      exact ⟨fun z => by rw [z], fun z => Option.some.inj z⟩
    refine ⟨_, rfl, a, xs, ks, rfl, ha, mk, by omega, fun ow H1 s1 n1 e1 => ?_⟩
    have wx : ∀ x, x < ns.length → ∃ r q, ns[x]? = some r ∧ ys[x]? = some (.ref q) ∧ H q = some (.tup (natsV r)) ∧ lenF ns x = r.length ∧ r.length ≤ 100000 := fun x hx => by
      have e : ns[x]? = some ns[x] := List.getElem?_eq_getElem hx
      obtain ⟨q, e1, e2⟩ := nx.2 x _ e
      exact ⟨_, q, e, e1, e2, by unfold lenF; rw [List.getD_eq_getElem?_getD, e]; rfl, wide _ (List.getElem_mem hx)⟩
    have net : Wk.Net ns.length (nxF ns) (lenF ns) := ⟨fun x hx p hp => inn x p hx hp⟩
    rw [natF_of, nums_len, kn] at e1
    have own0 : OwnI ks ns (Wk.seen ks).length (fun x => (Wk.nums ks).getD x 0) := by
      have g := Wk.grp_nums ks
      rw [kn] at g
      refine ⟨g, fun x y hx hy r => ?_, fun x y hx hy e => (mkE x y hx hy).mp e⟩
      obtain ⟨T, t1, t2⟩ := r
      exact (mkE x y hx hy).mpr (t2 x y t1).2.2.1
    generalize (Wk.seen ks).length = m0 at own0
    generalize (fun x => (Wk.nums ks).getD x 0) = w0 at own0 e1
    refine ⟨8, rfl, by decide, by decide, for_range (lo := 0) (n := 8) (fun t σ Hx => ∃ (ow : Addr) (m : Nat) (own : Nat → Nat) (v3 v4 v5 v6 v7 : Option V), σ = [some (.ref a), some (.ref b), some (.ref ow), v3, v4, v5, v6, v7] ∧ Same H Hx ∧ H ow = none ∧ Hx ow = some (.lst (natF ns.length own)) ∧ OwnI ks ns m own) ⟨ow, m0, w0, _, _, _, _, _, rfl, s1, n1, e1, own0⟩ (fun t σ Hx ht z => ?_) (fun σ Hx z => ?_)⟩
    · obtain ⟨ow, m, own, v3, v4, v5, v6, v7, rfl, sx, nw, ew, ok⟩ := z
      refine ⟨_, rfl, b, ys, rfl, SqL.of (sx _ _ hb), fun D nD => lc_it (walk_enum (xs := ys)) (fun i Hy => MkI Hx D (Wk.keyOf (nxF ns) (lenF ns) own) i Hy) ⟨sameNew nD _, [], upd_same, rfl, fun j hj => absurd hj (Nat.not_lt_zero _)⟩ (fun i Hy _ z => SqL.of (z.same _ _ (sx _ _ hb))) (fun i v Ha Hb hi z1 z2 => ?_) fun Hy z => ?_⟩
      · obtain ⟨T', x', y, rfl, nT, rfl, h1, h2⟩ := z2
        have hin : i < ns.length := by rw [← nx.1]; exact hi
        obtain ⟨r, q, g1, g2, g3, g4, g5⟩ := wx i hin
        dsimp only at h1 h2
        rw [g2] at h2
        obtain rfl : V.int (i : Int) = x' := Option.some.inj h1
        obtain rfl : V.ref q = y := Option.some.inj h2
        have sT := sameNew nT (.tup [V.int (i : Int), V.ref q])
        have eT : upd Ha T' (.tup [V.int (i : Int), V.ref q]) T' = some (.tup [V.int (i : Int), V.ref q]) := upd_same
        generalize upd Ha T' (.tup [V.int (i : Int), V.ref q]) = Hb at sT eT ⊢
        have zb : Same Hx Hb := z1.same.trans sT
        have one : ∀ v : V, [v].length ≤ sizeLine := fun v => by rw [sizeLine_eq]; exact Nat.succ_le_of_lt (by decide)
        refine ⟨T', _, rfl, .inl (.inl eT), rfl, _, _, rfl, _, _, rfl, rfl, rfl, _, rfl, _, rfl, ow, _, (i : Int), _, rfl, rfl, SqL.of (zb _ _ ew), fl_at hin, one _, fun p1 Hc n1 sc e1 => ⟨_, rfl, q, rfl, ⟨natsV r, .inl (.inl (sc _ _ (zb _ _ (sx _ _ g3))))⟩, fun D2 nD2 => lc_it (walk_tup (xs := natsV r)) (fun j Hd => Same Hc Hd ∧ Hd D2 = some (.lst ((List.range j).map fun p => V.int (own (nxF ns i p) : Int)))) ⟨sameNew nD2 _, upd_same⟩ (fun j Hd _ z => .inl (.inl (z.1 _ _ (sc _ _ (zb _ _ (sx _ _ g3)))))) (fun j x Hd Hd' hj q1 q2 => ?_) fun Hd q => ?_⟩⟩
        · obtain ⟨rfl, hx⟩ := q2
          obtain ⟨sd, ed⟩ := q1
          obtain ⟨y0, ey, rfl⟩ := natsV_get hx
          have jl : j < lenF ns i := by rw [g4]; exact (List.getElem?_eq_some_iff.mp ey).1
          have ny : nxF ns i j = y0 := by
            unfold nxF
            rw [List.getD_eq_getElem?_getD, List.getD_eq_getElem?_getD, g1]
            show (r[j]?).getD 0 = y0
            rw [ey]
            rfl
          have yn : y0 < ns.length := ny ▸ inn i j hin jl
          refine ⟨rfl, _, rfl, _, rfl, ow, _, (y0 : Int), _, rfl, rfl, SqL.of (sd _ _ (sc _ _ (zb _ _ ew))), fl_at yn, _, ed, ?_, same_updN sd nD2, ?_⟩
          · rw [List.length_map, List.length_range, sizeLine_eq]
            omega
          · rw [upd_same, range_snoc, ny]
        · obtain ⟨sd, ed⟩ := q
          rw [show (natsV r).length = lenF ns i from by rw [g4]; exact List.length_map ..] at ed
          have kv : natsV (Wk.keyOf (nxF ns) (lenF ns) own i) = [V.int (own i : Int)] ++ (List.range (lenF ns i)).map fun p => V.int (own (nxF ns i p) : Int) := by
            unfold natsV Wk.keyOf
            rw [List.map_cons, List.map_map]
            rfl
          have i5 : i < 100000 := by omega
          refine ⟨D2, _, rfl, .inl ed, fun p2 He se e2 => ⟨p1, p2, _, _, rfl, rfl, .inl (.inl (se _ _ (sd _ _ e1))), .inl (.inl e2), List.cons_ne_nil _ _, ?_, fun e0 => ?_, fun _ p3 n3 => ?_⟩⟩
          · rw [List.length_map, List.length_range, sizeLine_eq]
            show 1 + lenF ns i ≤ _
            omega
          · exact z1.step nD (sT.trans (sc.trans (sd.trans se))) (by rw [kv, e0]; exact se _ _ (sd _ _ e1)) i5
          · exact z1.step nD (sT.trans (sc.trans (sd.trans (se.trans (sameNew n3 _))))) (by rw [kv]; exact upd_same) i5
      obtain ⟨vs, hD, hvl, hv⟩ := z.at_
      rw [nx.1] at hvl hv
      have mks : Marks Hy vs (((List.range ns.length).map (Wk.keyOf (nxF ns) (lenF ns) own)).map keyN) := by
        refine ⟨by rw [List.length_map, List.length_map, List.length_range, hvl], fun j kq ej => ?_⟩
        rw [List.getElem?_map, List.getElem?_map] at ej
        by_cases hj : j < ns.length
        · rw [List.getElem?_range hj] at ej
          obtain rfl : keyN (Wk.keyOf (nxF ns) (lenF ns) own j) = kq := Option.some.inj ej
          obtain ⟨q, q1, q2⟩ := hv j hj
          exact ⟨q, q1, by rw [keyN_v]; exact q2⟩
        · rw [List.getElem?_eq_none (by rw [List.length_range]; omega)] at ej
          cases ej
      refine ⟨D, vs, _, rfl, hD, mks, by rw [List.length_map, List.length_map, List.length_range]; exact big, fun fi H2 s2 n2 e2 => ?_⟩
      rw [nums_map keyN_inj, natF_of, nums_len, List.length_map, List.length_range] at e2
      have e2 : H2 fi = some (.lst (natF ns.length (Wk.round ns.length (nxF ns) (lenF ns) own))) := e2
      have rg := Wk.round_grp (n := ns.length) (nx := nxF ns) (len := lenF ns) (own := own)
      have sH2 : Same Hx H2 := z.same.trans s2
      have ew2 := sH2 _ _ ew
      have nfi : H fi = none := none_of sx (none_of z.same n2)
      refine ⟨_, rfl, fi, (List.range ns.length).map (fun i => (Wk.round ns.length (nxF ns) (lenF ns) own i : Int)), 0, rfl, rfl, SqL.of (by rw [List.map_map]; exact e2), fun m1 hm1 => ?_⟩
      refine ⟨_, rfl, ow, (List.range ns.length).map (fun i => (own i : Int)), 0, rfl, rfl, SqL.of (by rw [List.map_map]; exact ew2), fun m2 hm2 => ?_⟩
      obtain rfl := max_of rg hm1
      obtain rfl := max_of ok.grp hm2
      refine ⟨rfl, _, rfl, ?_⟩
      rw [di]
      by_cases em : (Wk.seen ((List.range ns.length).map (Wk.keyOf (nxF ns) (lenF ns) own))).length - 1 = m - 1
      · rw [decide_eq_true (by omega)]
        refine iteT ⟨_, rfl, k ow H2 m own (sx.trans sH2) nw ew2 ok.grp (ok.like hl inn fun x y p hx hy e hp _ => ?_)⟩
        exact Wk.round_done ok.grp (grp_same rg ok.grp em) x y p hx hy e hp
      · rw [decide_eq_false (by omega)]
        refine iteF ⟨_, rfl, fi, _, _, _, _, _, _, _, rfl, sx.trans sH2, nfi, e2, rg, Wk.round_coarse ok.co net (likeB_bis ks ns), fun x y hx hy e => ok.me x y hx hy (Wk.round_fine hx hy e)⟩
    · obtain ⟨ow, m, own, v3, v4, v5, v6, v7, rfl, sx, nw, ew, ok⟩ := z
      refine ⟨_, rfl, fun Pa dx nP ndx nne => ?_⟩
      have up : ∀ {b2 : Addr} {o : HO}, Hx b2 = some o → upd (upd Hx dx (.own Pa)) Pa (.ins C dx []) b2 = some o := fun e => by
        rw [upd_ne (ne_of_none e nP), upd_ne (ne_of_none e ndx)]
        exact e
      have sU : Same Hx (upd (upd Hx dx (.own Pa)) Pa (.ins C dx [])) := fun _ _ e => up e
      refine ⟨Pa, ow, dx, ns.length, m, own, rfl, upd_same, up ew, ok.grp, big, fun H3 mb wt ws mem x3 nmb nwt nws nmem pt => ⟨rfl, ?_⟩⟩
      have s3 : Same Hx H3 := fun b2 o e => x3 _ _ (ne_of_none e nP) (up e)
      have sH3 : Same H H3 := sx.trans s3
      refine ⟨_, rfl, b, ys, ns, rfl, sH3 _ _ hb, nx.same sH3, big, wide, inn, fun S H4 lg pa ca wl sr => ?_⟩
      have pt4 := pt.same sr.same
      have offp : ∀ {b2 : Addr}, H3 b2 = none → OffP ⟨Pa, dx, ow, mb, wt, ws⟩ (iniS ns.length m own mem) b2 := fun {b2} hb => by
        have ne : ∀ {c : Addr} {o : HO}, H3 c = some o → b2 ≠ c := fun hc z => by rw [← z, hb] at hc; cases hc
        exact ⟨ne pt.ow, ne pt.mb, ne pt.wt, ne pt.ws, fun g hg => ne (pt.mem g hg)⟩
      have kp : Wk.Keeps ns.length (nxF ns) (lenF ns) (LikeB ks ns) (fun _ => False) (fun _ => True) (toP (iniS ns.length m own mem)) := ⟨ok.grp, ok.co, Wk.Due.start (fun x hx => ⟨ok.grp.lt x hx, rfl⟩) net⟩
      refine ⟨⟨Pa, dx, ow, mb, wt, ws⟩, iniS ns.length m own mem, ns, lg, S, pa, ca, LikeB ks ns, rfl, pt4, iniS_ok ok.grp, ⟨sr.s, sr.p, sr.c⟩, ⟨offp sr.nS, fun p hp => offp (sr.np p hp), fun p i hp hi => offp (sr.nc p i hp hi)⟩, inn, wl, big, likeB_bis ks ns, kp, fun H5 s5 ot p5 k5 no fine => ?_⟩
      have nH : ∀ {c : Addr}, upd (upd Hx dx (.own Pa)) Pa (.ins C dx []) c = none → H c = none := fun e => none_of (sx.trans sU) e
      have keep : Same H H5 := fun b2 o e => by
        have ne : ∀ {c : Addr}, H c = none → b2 ≠ c := fun h => ne_of_none e h
        exact ot _ _ (sr.same _ _ (sH3 _ _ e)) (ne nw) (ne (nH nmb)) (ne (nH nwt)) (ne (nH nws)) fun g hg => ne (nH (nmem g hg))
      have o5 : OwnI ks ns s5.m s5.own := ⟨k5.grp, k5.co, fun x y hx hy e => ok.me x y hx hy (fine x y hx hy e)⟩
      exact k ow H5 s5.m s5.own keep nw p5.ow k5.grp (o5.like hl inn fun x y p hx hy e h1 h2 => k5.due.done_ no x y p hx hy e h1 h2)
end
end Mine

set_option maxRecDepth 100000
set_option maxHeartbeats 4000000
namespace Mine
open PySem L2 LamB
abbrev ownI (own : Nat → Nat) : Int → Int := fun k => (own k.toNat : Int)
def repO (n : Nat) (own : Nat → Nat) (g : Nat) : Nat := ((List.range n).find? fun x => decide (own x = g)).getD 0
theorem repO_spec {n m : Nat} {own : Nat → Nat} (h : Wk.Grp n m own) {g : Nat} (hg : g < m) : repO n own g < n ∧ own (repO n own g) = g := by
  obtain ⟨x, hx, e⟩ := h.some_ g hg
  unfold repO
  cases q : (List.range n).find? fun x => decide (own x = g) with
  | none =>
    have := List.find?_eq_none.mp q x (List.mem_range.mpr hx)
    exact absurd (decide_eq_true e) this
  | some y =>
    have z : decide (own y = g) = true := List.find?_some (p := fun x => decide (own x = g)) q
    exact ⟨List.mem_range.mp (List.mem_of_find?_eq_some q), of_decide_eq_true z⟩
def rows2 (rs1 : List RowD) (own : Nat → Nat) (m : Nat) : List RowD := (List.range m).map fun g => mapRow (ownI own) (rs1.getD (repO rs1.length own g) (.fin ""))
theorem rows2_len {rs1 : List RowD} {own : Nat → Nat} {m : Nat} : (rows2 rs1 own m).length = m := by
  unfold rows2
  rw [List.length_map, List.length_range]
def natsN (d : RowD) : List Nat := (nextsD d).map Int.toNat
/-- rows of rest: none goes on but in a ring by itself -/
structure Rest1 (rs1 : List RowD) : Prop where
  fit : Fit rs1
  self : ∀ (x : Nat) (k : Int), rs1[x]? = some (.go k) → k = (x : Int)
theorem Rest1.stp {rs1 : List RowD} (h : Rest1 rs1) {i : Nat} (hi : i < rs1.length) : stp rs1 i = i := by
  refine Mach.stop_fix (nxt_lt h.fit.go) hi ?_
  unfold nxt
  split
  · rename_i k e
    have := h.self i k e
    omega
  · rfl
theorem leads_map {g : Int → Int} {d : RowD} : leads (mapRow g d) = (leads d).map g := by cases d <;> rfl
theorem nexts_map {g : Int → Int} {d : RowD} : nextsD (mapRow g d) = (nextsD d).map g := by cases d <;> rfl
theorem mark_map {g : Int → Int} {d : RowD} : markD (mapRow g d) = markD d := by cases d <;> rfl
theorem targets_leads (d : RowD) : targets d = leads d := by cases d <;> rfl
theorem pl_lt {m : List Nat} {k : Nat} (h : k ∈ m) : pl m k < m.length := List.idxOf_lt_length_of_mem h
theorem pl_get {m : List Nat} {k : Nat} (h : k ∈ m) : m[pl m k]? = some k := by
  have h1 := pl_lt h
  rw [List.getElem?_eq_getElem h1]
  exact congrArg some (List.getElem_idxOf h1)
theorem cutD_get {rs : List RowD} {b x i : Nat} (e : (metOf rs b)[x]? = some i) : (cutD rs b)[x]? = some (mapRow (plG rs b) (rs.getD i (.fin ""))) := by
  unfold cutD
  rw [List.getElem?_map, e]
  rfl
theorem cutD_len {rs : List RowD} {b : Nat} : (cutD rs b).length = (metOf rs b).length := List.length_map ..
/-- each of them is a row of rest -/
theorem cutD_of {rs : List RowD} (f : Fit rs) {b x : Nat} {d : RowD} (hb : b < rs.length) (e : (cutD rs b)[x]? = some d) : ∃ i d0, (metOf rs b)[x]? = some i ∧ rs[i]? = some d0 ∧ d = mapRow (plG rs b) d0 := by
  unfold cutD at e
  rw [List.getElem?_map] at e
  obtain ⟨i, h1, h2⟩ := Option.map_eq_some_iff.mp e
  have hi := (met_rest f hb (List.mem_of_getElem? h1)).1
  have e2 : rs[i]? = some rs[i] := List.getElem?_eq_getElem hi
  refine ⟨i, rs[i], h1, e2, ?_⟩
  rw [← h2, List.getD_eq_getElem?_getD, e2]
  rfl
theorem cut_rest1 {rs : List RowD} (f : Fit rs) {b : Nat} (hb : b < rs.length) : Rest1 (cutD rs b) := by
  refine ⟨fun x d e n hn => ?_, fun x k e => ?_⟩
  · obtain ⟨i, d0, h1, h2, rfl⟩ := cutD_of f hb e
    rw [targets_leads, leads_map] at hn
    obtain ⟨n0, k1, rfl⟩ := List.mem_map.mp hn
    obtain ⟨z0, z1, z2⟩ := met_leads f hb (List.mem_of_getElem? h1) h2 k1
    have := pl_lt z2
    rw [cutD_len]
    show (0 : Int) ≤ (pl (metOf rs b) (Mine.stp rs n0.toNat) : Int) ∧ (pl (metOf rs b) (Mine.stp rs n0.toNat) : Int) < _
    omega
  · obtain ⟨i, d0, h1, h2, h3⟩ := cutD_of f hb e
    cases d0 with
    | ask op ns => cases h3
    | fin w => cases h3
    | go k0 =>
      have h3 : RowD.go k = .go (plG rs b k0) := h3
      have h3 : k = plG rs b k0 := by injection h3
      have mi := List.mem_of_getElem? h1
      obtain ⟨r1, r2⟩ := met_rest f hb mi
      have h4 := stp_way f.go 1 i r1
      have h5 : way rs 1 i = k0.toNat := by
        show nxt rs i = k0.toNat
        unfold nxt
        rw [h2]
      rw [h5, r2] at h4
      rw [h3]
      show (pl (metOf rs b) (Mine.stp rs k0.toNat) : Int) = (x : Int)
      rw [h4]
      have nd := (metAt_few f hb rs.length).1
      have g := pl_get mi
      have : pl (metOf rs b) i = x := by
        have hx := (List.getElem?_eq_some_iff.mp h1).1
        exact (List.getElem?_inj (pl_lt mi) nd).mp (by rw [g]; exact h1.symm)
      rw [this]
theorem met_pos {rs : List RowD} {b : Nat} (f : Fit rs) (hb : b < rs.length) : 0 < (metOf rs b).length := List.length_pos_of_mem ((metOf_iff f hb _).mpr (MetR.start rs b))
section
variable {rs1 : List RowD} {own : Nat → Nat} {m : Nat}
theorem natsN_at {ds : List RowD} {x : Nat} {d : RowD} (e : ds[x]? = some d) : lenF (ds.map natsN) x = (nextsD d).length ∧ ∀ p n, (nextsD d)[p]? = some n → nxF (ds.map natsN) x p = n.toNat := by
  have e2 : (ds.map natsN).getD x [] = natsN d := by
    rw [List.getD_eq_getElem?_getD, List.getElem?_map, e]
    rfl
  refine ⟨?_, fun p n hn => ?_⟩
  · unfold lenF
    rw [e2]
    exact List.length_map ..
  · unfold nxF
    rw [e2, List.getD_eq_getElem?_getD]
    unfold natsN
    rw [List.getElem?_map, hn]
    rfl
theorem rows_alike (R : Rest1 rs1) (like : ∀ x y, x < rs1.length → y < rs1.length → (own x = own y ↔ LikeB (rs1.map markD) (rs1.map natsN) x y)) {x y : Nat} {d e : RowD} (hd : rs1[x]? = some d) (he : rs1[y]? = some e) (h : own x = own y) : mapRow (ownI own) d = mapRow (ownI own) e := by
  have hx := (List.getElem?_eq_some_iff.mp hd).1
  have hy := (List.getElem?_eq_some_iff.mp he).1
  obtain ⟨T, t1, t2⟩ := (like x y hx hy).mp h
  obtain ⟨_, _, mk, ln, nx⟩ := t2 x y t1
  rw [List.getElem?_map, List.getElem?_map, hd, he] at mk
  have mk : markD d = markD e := Option.some.inj mk
  obtain ⟨l1, n1⟩ := natsN_at hd
  obtain ⟨l2, n2⟩ := natsN_at he
  rw [l1, l2] at ln
  have sub : ∀ (p : Nat) (a c : Int), (nextsD d)[p]? = some a → (nextsD e)[p]? = some c → own a.toNat = own c.toNat := fun p a c ha hc => by
    have hp : p < (nextsD d).length := (List.getElem?_eq_some_iff.mp ha).1
    have r := nx p (by rw [l1]; exact hp)
    have b1 := t2 _ _ r
    rw [n1 p a ha, n2 p c hc] at r b1
    have q1 := b1.1
    have q2 := b1.2.1
    rw [List.length_map] at q1 q2
    exact (like _ _ q1 q2).mpr ⟨T, r, t2⟩
  cases d with
  | ask op ns =>
    cases e with
    | ask op2 ns2 =>
      have : op = op2 := by
        have := List.cons.inj (List.cons.inj mk).2
        exact Sum.inr.inj this.1
      subst this
      show RowD.ask op _ = RowD.ask op _
      congr 1
      refine List.ext_getElem? fun p => ?_
      rw [List.getElem?_map, List.getElem?_map]
      by_cases hp : p < ns.length
      · have hp2 : p < ns2.length := by
          have ln : ns.length = ns2.length := ln
          omega
        rw [List.getElem?_eq_getElem hp, List.getElem?_eq_getElem hp2]
        have := sub p ns[p] ns2[p] (List.getElem?_eq_getElem hp) (List.getElem?_eq_getElem hp2)
        show some (own ns[p].toNat : Int) = some (own ns2[p].toNat : Int)
        rw [this]
      · have hp2 : ¬ p < ns2.length := by
          have ln : ns.length = ns2.length := ln
          omega
        rw [List.getElem?_eq_none (by omega), List.getElem?_eq_none (by omega)]
    | go k => exact absurd (congrArg List.length mk) (by simp [markD])
    | fin w => exact absurd mk (by simp [markD]; intro z; exact absurd z (by decide +kernel))
  | go k =>
    cases e with
    | ask op2 ns2 => exact absurd (congrArg List.length mk) (by simp [markD])
    | go k2 =>
      have e1 := R.self x k hd
      have e2 := R.self y k2 he
      subst e1 e2
      show RowD.go (own (x : Int).toNat : Int) = RowD.go (own (y : Int).toNat : Int)
      rw [Int.toNat_natCast, Int.toNat_natCast, h]
    | fin w => exact absurd (congrArg List.length mk) (by simp [markD])
  | fin w =>
    cases e with
    | ask op2 ns2 => exact absurd mk (by simp [markD]; intro z; exact absurd z (by decide +kernel))
    | go k2 => exact absurd (congrArg List.length mk) (by simp [markD])
    | fin w2 =>
      have : w = w2 := by
        have := List.cons.inj (List.cons.inj mk).2
        exact Sum.inr.inj this.1
      rw [this]
theorem rows2_get (g : Wk.Grp rs1.length m own) (R : Rest1 rs1) (like : ∀ x y, x < rs1.length → y < rs1.length → (own x = own y ↔ LikeB (rs1.map markD) (rs1.map natsN) x y)) {x : Nat} {d : RowD} (hd : rs1[x]? = some d) : (rows2 rs1 own m)[own x]? = some (mapRow (ownI own) d) := by
  have hx := (List.getElem?_eq_some_iff.mp hd).1
  have hg := g.lt x hx
  obtain ⟨r1, r2⟩ := repO_spec g hg
  unfold rows2
  rw [List.getElem?_map, List.getElem?_range hg]
  have e : rs1[repO rs1.length own (own x)]? = some rs1[repO rs1.length own (own x)] := List.getElem?_eq_getElem r1
  show some (mapRow (ownI own) (rs1.getD (repO rs1.length own (own x)) (.fin ""))) = _
  rw [List.getD_eq_getElem?_getD, e]
  exact congrArg some (rows_alike R like e hd r2)
theorem rows2_of (g : Wk.Grp rs1.length m own) {k : Nat} {d : RowD} (e : (rows2 rs1 own m)[k]? = some d) : ∃ x d0, own x = k ∧ rs1[x]? = some d0 ∧ d = mapRow (ownI own) d0 := by
  have hk := (List.getElem?_eq_some_iff.mp e).1
  rw [rows2_len] at hk
  obtain ⟨r1, r2⟩ := repO_spec g hk
  unfold rows2 at e
  rw [List.getElem?_map, List.getElem?_range hk] at e
  have e2 : rs1[repO rs1.length own k]? = some rs1[repO rs1.length own k] := List.getElem?_eq_getElem r1
  have e : mapRow (ownI own) (rs1.getD (repO rs1.length own k) (.fin "")) = d := Option.some.inj e
  rw [List.getD_eq_getElem?_getD, e2] at e
  exact ⟨_, _, r2, e2, e.symm⟩
theorem rows2_rest1 (g : Wk.Grp rs1.length m own) (R : Rest1 rs1) : Rest1 (rows2 rs1 own m) := by
  refine ⟨fun k d e n hn => ?_, fun k n e => ?_⟩
  · obtain ⟨x, d0, h1, h2, rfl⟩ := rows2_of g e
    rw [targets_leads, leads_map] at hn
    obtain ⟨n0, k1, rfl⟩ := List.mem_map.mp hn
    obtain ⟨z0, z1⟩ := R.fit x d0 h2 n0 (by rw [targets_leads]; exact k1)
    have := g.lt n0.toNat (by omega)
    rw [rows2_len]
    show (0 : Int) ≤ (own n0.toNat : Int) ∧ (own n0.toNat : Int) < _
    omega
  · obtain ⟨x, d0, h1, h2, h3⟩ := rows2_of g e
    cases d0 with
    | ask op ns => cases h3
    | fin w => cases h3
    | go k0 =>
      have h3 : RowD.go n = .go (ownI own k0) := h3
      have h3 : n = ownI own k0 := by injection h3
      have := R.self x k0 h2
      subst this
      rw [h3]
      show (own (x : Int).toNat : Int) = _
      rw [Int.toNat_natCast, h1]
end
/-- at most so many texts -/
theorem distinct_sub {x : Str} {A : List Str} : ∀ {ds : List RowD} {acc : List Str}, (∀ t ∈ acc, t ∈ A) → acc.Nodup → (∀ d ∈ ds, wordOf d = x → nameOf d ∈ A) → (∀ t ∈ ds.foldl (takeIn x) acc, t ∈ A) ∧ (ds.foldl (takeIn x) acc).Nodup
  | [], _, h, nd, _ => ⟨h, nd⟩
  | d :: ds, acc, h, nd, hd => by
    rw [List.foldl_cons]
    refine distinct_sub ?_ ?_ fun e he => hd e (List.mem_cons_of_mem _ he)
    · intro t ht
      unfold takeIn at ht
      split at ht
      · rename_i e
        unfold addStr at ht
        split at ht
        · exact h t ht
        · rcases List.mem_append.mp ht with z | z
          · exact h t z
          · rw [List.mem_singleton.mp z]
            exact hd d List.mem_cons_self e
      · exact h t ht
    · unfold takeIn
      split
      · unfold addStr
        split
        · exact nd
        · rename_i z
          rw [List.nodup_append]
          exact ⟨nd, by simp, fun b hb c hc e => by rw [List.mem_singleton.mp hc] at e; exact z (e ▸ hb)⟩
      · exact nd
theorem str_len : ∀ {l l' : List Str}, l.Nodup → (∀ x ∈ l, x ∈ l') → l.length ≤ l'.length
  | [], _, _, _ => Nat.zero_le _
  | a :: l, l', nd, sub => by
    have h1 := str_len (l := l) (l' := l'.erase a) (List.nodup_cons.mp nd).2 fun x hx => (List.mem_erase_of_ne (by rintro rfl; exact (List.nodup_cons.mp nd).1 hx)).mpr (sub x (List.mem_cons_of_mem _ hx))
    have mm := sub a List.mem_cons_self
    rw [List.length_erase_of_mem mm] at h1
    have := List.length_pos_of_mem mm
    rw [List.length_cons]
    omega
theorem distinct_few {x : Str} {A : List Str} {ds : List RowD} (h : ∀ d ∈ ds, wordOf d = x → nameOf d ∈ A) : (distinct x ds).length ≤ A.length := by
  obtain ⟨h1, h2⟩ := distinct_sub (x := x) (A := A) (ds := ds) (acc := []) (fun _ z => nomatch z) .nil h
  exact str_len h2 h1
theorem word_map {g : Int → Int} {d : RowD} : wordOf (mapRow g d) = wordOf d ∧ nameOf (mapRow g d) = nameOf d := by cases d <;> exact ⟨rfl, rfl⟩
/-- which rows the least machine has -/
def MergedOf (rs : List RowD) (b : Nat) (rs' : List RowD) : Prop := ∃ (own : Nat → Nat) (m : Nat), Wk.Grp (cutD rs b).length m own ∧
  (∀ x y, x < (cutD rs b).length → y < (cutD rs b).length → (own x = own y ↔ LikeB ((cutD rs b).map markD) ((cutD rs b).map natsN) x y)) ∧ rs' = cutD (rows2 (cutD rs b) own m) (own 0)
end Mine

set_option maxRecDepth 100000
set_option maxHeartbeats 4000000
/-! len(o), o[i], ==, != of an own class with its own __len__, __getitem__, __eq__ -/
namespace PySem
open PySem.W PySem.Calls PyProof.Rows Builtin
section
variable {prog : Program} {w : World} {A : Around} {E : Value → Shared → Prop} {s : Shared} {K : Frag} {x C L f : Addr} {h₀ : Heap} {m : Str → Option Value} {ox : Obj} {od : Option Obj} {b tb : Value}
theorem my_objNe (hu : A.units < cLine) (X : K.In s.heap) (I : InstAt s.heap x ox C od) (hs : findIn K (.ref C) "__eq__" = some (some (.ref f))) (hf : isFn K (.ref f) = true) {Q : Fin → Shared → Prop}
    (hcall : wpAny (model prog w) A (call (.ref f) [.ref x, b]) (fun v s' => ∃ r, v = .bool r ∧ Q (.done (.ret (.bool (!r)))) s') E s) : wpAny (model prog w) A (Builtin.«object.__ne__» ⟨[.ref x, b], []⟩) Q E s := by
  unfold Builtin.«object.__ne__»
  repeat (first
    | with_reducible refine wpAny_cRoomFor hu ?_
    | (refine wpAny_bind (m := callSpecialIfBound? (.ref x) (Str.ofString "__eq__") [b])
        (ifBound_K X I hs hf (wpAny_mono hcall (fun r s' hr => by
          obtain ⟨b, rfl, hq⟩ := hr
          repeat (first | exact hq | exact wpAny_pure hq | exact wpAny_truthy_bool hq | (refine wpAny_bind (m := truthy (.bool _)) (wpAny_truthy_bool ?_)) | wp_step)) fun _ _ e => e)))
    | wp_step)
theorem my_ifBoundB {M : Model} {name : Str} {id : String} {args : List Value} {Q : Option Value → Shared → Prop} (X : K.In s.heap) (I : InstAt s.heap x ox C od) (hs : findIn K (.ref C) name = some (some (.builtin id))) (S : Slot "object" name id)
    (h : wpAny M A (call (.builtin id) (.ref x :: args)) (fun v => Q (some v)) E s) : wpAny M A (callSpecialIfBound? (.ref x) name args) Q E s := by
  simp only [callSpecialIfBound?, bindSpecialIfBound?]
  refine wpAny_holding (wpAny_bind (wpAny_bind (wpAny_bind (I.type.here ((looks_findIn X hs).here ?_)))))
  simp only [S.bind]
  refine wpAny_bind (wpAny_askSetting (wpAny_ite ?_))
  have fin : wpAny M A (call (.builtin id) ([.ref x] ++ args) >>= fun v => pure (some v)) Q E s := wpAny_bind (wpAny_mono h (fun v s' h' => wpAny_pure h') fun _ _ h' => h')
  split
  · exact wpAny_bind (wpAny_pure (wpAny_pure fin))
  · exact wpAny_tryCatch (wpAny_bind (wpAny_pure (wpAny_pure fin)))
theorem my_ne {Q : Value → Shared → Prop} (hu : A.units + 1 < cLine) (F : Fr h₀ L s.heap m) (X₀ : K.In h₀) (I : InstAt s.heap x ox C od) (hb : Looks (model prog w) s.heap (typeOf b) tb) (hn : notFirst K C tb = true)
    (hne : findIn K (.ref C) "__ne__" = some (some (.builtin "object.__ne__"))) (hob : subIn K (.ref C) (.type "object") = some true) (hs : findIn K (.ref C) "__eq__" = some (some (.ref f))) (hf : isFn K (.ref f) = true)
    (h : wpAny (model prog w) A.in1 (call (.ref f) [.ref x, b]) (fun v s' => ∃ r, v = .bool r ∧ Q (.bool (!r)) s') E s) : wpAny (model prog w) A (richCompare .NotEq (.ref x) b) Q E s := by
  have X := X₀.keeps F.keep
  have one : wpAny (model prog w) A (tryCompare (.ref x) "__ne__" b) (fun r s' => ∃ v, r = some v ∧ Q v s') E s := by
    unfold tryCompare
    refine wpAny_bind (my_ifBoundB X I hne PySem.F.cmp_object.ne (wpAny_call (codeAny_call_builtin PySem.F.cmp_object.ne.plain PySem.F.cmpEntry_ne (check_slot PySem.F.cmpKind_ne PySem.F.cmpSplit_ne (I.type.andThen (looks_subIn X hob)) (PySem.F.cmpArgs_ne _ _) (my_objNe (A := A.in1) (by show A.units + 1 < cLine; exact hu) X I hs hf (wpAny_mono h (fun v s' hv => ?_) fun _ _ e => e))))))
    obtain ⟨b, rfl, hq⟩ := hv
    first | exact ⟨b, rfl, wpAny_pure ⟨_, rfl, hq⟩⟩ | exact ⟨b, rfl, wpAny_pure (wpAny_pure ⟨_, rfl, hq⟩)⟩ | exact ⟨b, rfl, _, rfl, hq⟩
  unfold richCompare
  simp only [oneThing_ref]
  refine wpAny_holding (wpAny_bind (wpAny_cRoomFor (Nat.lt_of_succ_lt hu) ?_))
  rw [cmpInfo_NotEq]
  dsimp only
  refine wpAny_bind (I.type.here (wpAny_bind (hb.here ?_)))
  split
  · rename_i q
    have e : subIn K tb (.ref C) = some false := by
      rcases Bool.or_eq_true_iff.mp hn with e | e
      · rw [beq_iff_eq.mp e] at q; simp at q
      · exact beq_iff_eq.mp e
    refine wpAny_bind ((looks_subIn X e).here ?_)
    simp only [Bool.false_eq_true, if_false]
    refine wpAny_bind (wpAny_mono one (fun r s' z => ?_) fun _ _ e => e)
    obtain ⟨v, rfl, hq⟩ := z
    exact wpAny_pure hq
  · refine wpAny_bind (wpAny_pure ?_)
    simp only [Bool.false_eq_true, if_false]
    refine wpAny_bind (wpAny_mono one (fun r s' z => ?_) fun _ _ e => e)
    obtain ⟨v, rfl, hq⟩ := z
    exact wpAny_pure hq
end
end PySem
namespace L2
open PySem PySem.Spec PyProof.Rows
section
variable {X : Cx} {CX : CXT} {k : Nat} {C f : Addr} {fd : FuncData} {ps : List Str} {sp : Sp} {E : XK}
theorem run_own1 {pins : List (Addr × Obj)} {σ : St} {H : Hp} {s : Shared} {Q : VK} {us : List Value} {vs : List V} (F : FnOk X.prog X.w X.K X.mg X.base CX k f fd ps sp) (hr : Room (k + 1) X.A) (hb : Binds X.K fd ps []) (hx : Passes CX X E)
    (I : Inv X pins σ H s) (r : Vals vs us) (h : sp vs H Q E) : wpAny (model X.prog X.w) X.A.in1 (call (.ref f) us) (EP X pins σ Q) X.xe s := by
  have hl : us.length = ps.length := by rw [← r.length]; exact F.len _ _ _ _ h
  have hb2 := hb s us I.kIn (by simpa using hl)
  rw [List.append_nil] at hb2
  refine wpAny_call (codeAny_mono (F.run X.A.in1 X.stack s H ⟨us, []⟩ us vs Q E hr.in1 I.env0.in1 hb2 r h) fun r s' hq => ?_)
  cases r with
  | error e => exact hx pins σ H s e s' I hq
  | ok fl =>
    cases fl with
    | ret u => exact I.after hq
    | next => exact False.elim hq
    | brk => exact False.elim hq
    | cont => exact False.elim hq
theorem call_lenO (F : FnOk X.prog X.w X.K X.mg X.base CX k f fd ps sp) (hr : Room (k + 1) X.A) (hb : Binds X.K fd ps []) (hx : Passes CX X E) (hs : PySem.W.findIn X.K (.ref C) "__len__" = some (some (.ref f))) (hf : PySem.W.isFn X.K (.ref f) = true) :
    CallR X (.builtin "len") (fun xs H Q => ∃ (a dx : Addr) (fs : List (Str × V)), xs = [.ref a] ∧ H a = some (.ins C dx fs) ∧ sp [.ref a] H (fun v H' => ∃ n : Int, v = .int n ∧ 0 ≤ n ∧ n < 2 ^ 63 ∧ Q (.int n) H') E) := by
  intro pins s σ H xs us Q I r h
  obtain ⟨a, dx, fs, rfl, ha, h⟩ := h
  obtain rfl := Vals.ref1 r
  obtain ⟨mA, J, _⟩ := ins_get I.hok ha
  obtain ⟨od, J, _⟩ := J.look
  obtain ⟨m, hF⟩ := I.fr
  refine PySem.W.len_K hF I.ok.mod.kin J hs hf (wpAny_mono (run_own1 F hr hb hx I (vs := [.ref a]) (.cons rfl .nil) h) (fun r s' z => ?_) fun _ _ y => y)
  obtain ⟨v, H', I', rv, n, rfl, h0, h1, q⟩ := z
  obtain ⟨t, rfl⟩ := rv
  exact ⟨⟨h0, h1⟩, .int n, H', I'.tok _, ⟨_, rfl⟩, q⟩
/-- o[i] -/
def tIxO (C : Addr) (sp : Sp) (E : XK) (ta tb : TE) : TE := fun σ H Q => ta σ H fun x H1 => tb σ H1 fun y H2 => ∃ (a dx : Addr) (fs : List (Str × V)), x = .ref a ∧ H2 a = some (.ins C dx fs) ∧ sp [.ref a, y] H2 Q E
theorem pe_ixO {o i : Expr} {ta tb : TE} {pos : Pos} (F : FnOk X.prog X.w X.K X.mg X.base CX k f fd ps sp) (hr : Room (k + 1) X.A) (hb : Binds X.K fd ps []) (hx : Passes CX X E) (hs : PySem.W.findIn X.K (.ref C) "__getitem__" = some (some (.ref f))) (hf : PySem.W.fnIn X.K f = true) (hfn : PySem.W.isFn X.K (.ref f) = true)
    (ha : PE X o ta) (hi : PE X i tb) (hsl : ∀ ov iv, subscripted i true ov iv = runValue (.builtin "lifetime.subscript" ⟨[ov, iv], []⟩)) : PE X (.Subscript o i pos) (tIxO C sp E ta tb) := by
  refine ⟨fun pins s σ H Q I h => ?_⟩
  refine Subscript_ (thn (ha.run pins s σ H _ I h) fun v s1 ⟨x, H1, I1, r1, q1⟩ => thn (hi.run pins s1 σ H1 _ I1 q1) fun u s2 ⟨y, H2, I2, r2, q2⟩ => ?_)
  obtain ⟨a, dx, fs, rfl, e, q⟩ := q2
  obtain rfl : v = Value.ref a := r1
  obtain ⟨mA, J, _⟩ := ins_get I2.hok e
  obtain ⟨od, J, _⟩ := J.look
  obtain ⟨m, hF⟩ := I2.fr
  exact PySem.W.sub_K hF I2.ok.mod.kin J hs hf hfn (run_own1 F hr hb hx I2 (vs := [.ref a, y]) (.cons rfl (.cons r2 .nil)) q) (hsl _ _)
/-- a == b by a's own __eq__ -/
def rEqO (K : PySem.W.Frag) (C : Addr) (sp : Sp) (E : XK) : R2 := fun x y H Q => ∃ (a dx : Addr) (fs : List (Str × V)) (t : Value), x = .ref a ∧ H a = some (.ins C dx fs) ∧ TyX K H y t ∧ PySem.W.notFirst K C t = true ∧ sp [.ref a, y] H (fun v H' => ∃ b, v = .bl b ∧ Q (.bl b) H') E
theorem op_eqO (F : FnOk X.prog X.w X.K X.mg X.base CX k f fd ps sp) (hr : Room k X.A) (hb : Binds X.K fd ps []) (hx : Passes CX X E) (hs : PySem.W.findIn X.K (.ref C) "__eq__" = some (some (.ref f))) (hf : PySem.W.isFn X.K (.ref f) = true) : OpR X (compareOp .Eq) (rEqO X.K C sp E) := by
  intro pins s σ H x y v u Q I rx ry h
  obtain ⟨a, dx, fs, t, rfl, ha, ty, nf, h⟩ := h
  obtain rfl : v = Value.ref a := rx
  obtain ⟨P, kx, hp, _⟩ := kit_of I ry ty
  obtain ⟨mA, J, _⟩ := ins_get I.hok ha
  obtain ⟨od, J, _⟩ := J.look
  obtain ⟨m, hF⟩ := I.fr
  show wpAny (model X.prog X.w) X.A (richCompare .Eq (.ref a) u) _ _ _
  refine PySem.W.cmp_K (op := .Eq) hr.units0 hF I.ok.mod.kin J (kx.ty _ _ I.kIn hp) nf hs hf (wpAny_mono (run_fn F hr hb .nil hx I (us := [.ref a, u]) (vs := [.ref a, y]) (.cons rfl (.cons ry .nil)) h) (fun r s' z => ?_) fun _ _ e => e)
  obtain ⟨v, H', I', rv, b, rfl, q⟩ := z
  cases rv
  exact ⟨.bl b, H', I', rfl, q⟩
/-- a != b by a's own __eq__ -/
def rNeO (K : PySem.W.Frag) (C : Addr) (sp : Sp) (E : XK) : R2 := fun x y H Q => ∃ (a dx : Addr) (fs : List (Str × V)) (t : Value), x = .ref a ∧ H a = some (.ins C dx fs) ∧ TyX K H y t ∧ PySem.W.notFirst K C t = true ∧ sp [.ref a, y] H (fun v H' => ∃ b, v = .bl b ∧ Q (.bl (!b)) H') E
theorem op_neO (F : FnOk X.prog X.w X.K X.mg X.base CX k f fd ps sp) (hr : Room (k + 1) X.A) (hb : Binds X.K fd ps []) (hx : Passes CX X E) (hs : PySem.W.findIn X.K (.ref C) "__eq__" = some (some (.ref f))) (hf : PySem.W.isFn X.K (.ref f) = true)
    (hne : PySem.W.findIn X.K (.ref C) "__ne__" = some (some (.builtin "object.__ne__"))) (hob : PySem.W.subIn X.K (.ref C) (.type "object") = some true) (hu : X.A.units + 1 < cLine) : OpR X (compareOp .NotEq) (rNeO X.K C sp E) := by
  intro pins s σ H x y v u Q I rx ry h
  obtain ⟨a, dx, fs, t, rfl, ha, ty, nf, h⟩ := h
  obtain rfl : v = Value.ref a := rx
  obtain ⟨P, kx, hp, _⟩ := kit_of I ry ty
  obtain ⟨mA, J, _⟩ := ins_get I.hok ha
  obtain ⟨od, J, _⟩ := J.look
  obtain ⟨m, hF⟩ := I.fr
  show wpAny (model X.prog X.w) X.A (richCompare .NotEq (.ref a) u) _ _ _
  refine PySem.my_ne hu hF I.ok.mod.kin J (kx.ty _ _ I.kIn hp) nf hne hob hs hf (wpAny_mono (run_own1 F hr hb hx I (us := [.ref a, u]) (vs := [.ref a, y]) (.cons rfl (.cons ry .nil)) h) (fun r s' z => ?_) fun _ _ e => e)
  obtain ⟨v, H', I', rv, b, rfl, q⟩ := z
  cases rv
  exact ⟨b, rfl, .bl (!b), H', I', rfl, q⟩
end
section
variable {X : Cx} {CX : CXT} {k : Nat} {C f : Addr} {fd : FuncData} {ps : List Str} {sp : Sp} {E : St → XK}
theorem run_own1S {pins : List (Addr × Obj)} {σ : St} {H : Hp} {s : Shared} {Q : VK} {us : List Value} {vs : List V} (F : FnOk X.prog X.w X.K X.mg X.base CX k f fd ps sp) (hr : Room (k + 1) X.A) (hb : Binds X.K fd ps []) (hx : PassesAt CX X σ (E σ))
    (I : Inv X pins σ H s) (r : Vals vs us) (h : sp vs H Q (E σ)) : wpAny (model X.prog X.w) X.A.in1 (call (.ref f) us) (EP X pins σ Q) X.xe s := by
  have hl : us.length = ps.length := by rw [← r.length]; exact F.len _ _ _ _ h
  have hb2 := hb s us I.kIn (by simpa using hl)
  rw [List.append_nil] at hb2
  refine wpAny_call (codeAny_mono (F.run X.A.in1 X.stack s H ⟨us, []⟩ us vs Q (E σ) hr.in1 I.env0.in1 hb2 r h) fun r s' hq => ?_)
  cases r with
  | error e => exact hx pins H s e s' I hq
  | ok fl =>
    cases fl with
    | ret u => exact I.after hq
    | next => exact False.elim hq
    | brk => exact False.elim hq
    | cont => exact False.elim hq
/-- o[i], what it lets out told at the slots -/
def tIxOS (C : Addr) (sp : Sp) (E : St → XK) (ta tb : TE) : TE := fun σ H Q => ta σ H fun x H1 => tb σ H1 fun y H2 => ∃ (a dx : Addr) (fs : List (Str × V)), x = .ref a ∧ H2 a = some (.ins C dx fs) ∧ sp [.ref a, y] H2 Q (E σ)
theorem pe_ixOS {o i : Expr} {ta tb : TE} {pos : Pos} (F : FnOk X.prog X.w X.K X.mg X.base CX k f fd ps sp) (hr : Room (k + 1) X.A) (hb : Binds X.K fd ps []) (hx : ∀ σ, PassesAt CX X σ (E σ)) (hs : PySem.W.findIn X.K (.ref C) "__getitem__" = some (some (.ref f))) (hf : PySem.W.fnIn X.K f = true) (hfn : PySem.W.isFn X.K (.ref f) = true)
    (ha : PE X o ta) (hi : PE X i tb) (hsl : ∀ ov iv, subscripted i true ov iv = runValue (.builtin "lifetime.subscript" ⟨[ov, iv], []⟩)) : PE X (.Subscript o i pos) (tIxOS C sp E ta tb) := by
  refine ⟨fun pins s σ H Q I h => ?_⟩
  refine Subscript_ (thn (ha.run pins s σ H _ I h) fun v s1 ⟨x, H1, I1, r1, q1⟩ => thn (hi.run pins s1 σ H1 _ I1 q1) fun u s2 ⟨y, H2, I2, r2, q2⟩ => ?_)
  obtain ⟨a, dx, fs, rfl, e, q⟩ := q2
  obtain rfl : v = Value.ref a := r1
  obtain ⟨mA, J, _⟩ := ins_get I2.hok e
  obtain ⟨od, J, _⟩ := J.look
  obtain ⟨m, hF⟩ := I2.fr
  exact PySem.W.sub_K hF I2.ok.mod.kin J hs hf hfn (run_own1S F hr hb (hx σ) I2 (vs := [.ref a, y]) (.cons rfl (.cons r2 .nil)) q) (hsl _ _)
end
end L2

set_option maxRecDepth 100000
set_option maxHeartbeats 4000000
namespace Mine
open PySem L2 LamB
abbrev s_merged : Stmt := top 49
abbrev qMer : Str := "merged" ++ ".<locals>." ++ "<lambda>"
/-- what another's table leaves -/
theorem tabs_over {PM PC : Addr} {q q2 : Str} {H H' : Hp} (t : LamX.Tabs [(PM, q)] H) (u : ButT PC H H') (t2 : LamX.Tabs [(PC, q2)] H) (ne : PM ≠ PC) : LamX.Tabs [(PM, q)] H' := fun p hp => by
  obtain ⟨ps, e1, e2, e3⟩ := t p hp
  rw [List.mem_singleton.mp hp] at e1 e3 ⊢
  refine ⟨ps, u _ _ ne e1, e2, fun pos cv h => ?_⟩
  obtain ⟨c, e4, e5⟩ := e3 pos cv h
  refine ⟨c, e4, u _ _ (fun z => ?_) e5⟩
  obtain ⟨qs, k1, _⟩ := t2 (PC, q2) (List.mem_singleton.mpr rfl)
  have k1 : H PC = some (.tbl qs) := k1
  rw [z, k1] at e5
  have e5 := Option.some.inj e5
  unfold LamX.CodeO at e5
  cases e5
def But2 (PC PM : Addr) (H H' : Hp) : Prop := ∀ b o, b ≠ PC → b ≠ PM → H b = some o → H' b = some o
theorem But2.c {PC PM : Addr} {H H' : Hp} (u : ButT PC H H') : But2 PC PM H H' := fun b o n _ e => u b o n e
theorem But2.m {PC PM : Addr} {H H' : Hp} (u : ButT PM H H') : But2 PC PM H H' := fun b o _ n e => u b o n e
theorem But2.s {PC PM : Addr} {H H' : Hp} (u : Same H H') : But2 PC PM H H' := fun b o _ _ e => u b o e
theorem But2.trans {PC PM : Addr} {H H1 H2 : Hp} (a : But2 PC PM H H1) (b : But2 PC PM H1 H2) : But2 PC PM H H2 := fun c o n m e => b c o n m (a c o n m e)
/-- some tuples, one after another -/
structure MkV (Hc : Hp) (D : Addr) (f : Nat → List V) (i : Nat) (Hx : Hp) : Prop where
  same : Same Hc Hx
  at_ : ∃ vs : List V, Hx D = some (.lst vs) ∧ vs.length = i ∧ ∀ j, j < i → ∃ q, vs[j]? = some (.ref q) ∧ Hx q = some (.tup (f j))
theorem MkV.step {Hc Hx H' : Hp} {D q0 : Addr} {f : Nat → List V} {i : Nat} (h : MkV Hc D f i Hx) (nD : Hc D = none) (s : Same Hx H') (e : H' q0 = some (.tup (f i))) (hi : i < 100000) : ∃ acc, H' D = some (.lst acc) ∧ acc.length < sizeLine ∧ MkV Hc D f (i + 1) (upd H' D (.lst (acc ++ [.ref q0]))) := by
  obtain ⟨vs, h1, h2, h3⟩ := h.at_
  have hd := s _ _ h1
  refine ⟨vs, hd, by rw [h2, sizeLine_eq]; omega, same_updN (h.same.trans s) nD, _, upd_same, by rw [List.length_append, h2]; rfl, fun j hj => ?_⟩
  by_cases z : j < i
  · obtain ⟨q, k1, k2⟩ := h3 j z
    refine ⟨q, by rw [List.getElem?_append_left (by omega)]; exact k1, ?_⟩
    rw [upd_ne (dif (s _ _ k2) hd (fun z => nomatch z))]
    exact s _ _ k2
  · have zj : j = i := by omega
    subst zj
    refine ⟨q0, by rw [List.getElem?_append_right (by omega), h2, Nat.sub_self]; rfl, ?_⟩
    rw [upd_ne (dif e hd (fun z => nomatch z))]
    exact e
theorem keys_old {kvs : List (Key × V)} {k : Key} {v : V} (h : k ∈ kvs.map (·.1)) : (putK kvs k v).map (·.1) = kvs.map (·.1) := by
  unfold putK
  rw [if_pos (by
    obtain ⟨kv, h1, h2⟩ := List.mem_map.mp h
    exact List.any_eq_true.mpr ⟨kv, h1, decide_eq_true h2⟩), List.map_map]
  refine List.map_congr_left fun kv _ => ?_
  show (if kv.1 = k then (kv.1, v) else kv).1 = kv.1
  split <;> rfl
theorem keys_new {kvs : List (Key × V)} {k : Key} {v : V} (h : k ∉ kvs.map (·.1)) : (putK kvs k v).map (·.1) = kvs.map (·.1) ++ [k] := by
  unfold putK
  rw [if_neg (fun z => by
    obtain ⟨kv, h1, h2⟩ := List.any_eq_true.mp z
    exact h (List.mem_map.mpr ⟨kv, h1, of_decide_eq_true h2⟩)), List.map_append]
  rfl
abbrev inlK (g : Nat) : Key := .inl (g : Int)
theorem inlK_mem {l : List Nat} {g : Nat} : inlK g ∈ l.map inlK ↔ g ∈ l := by
  rw [List.mem_map]
  constructor
  · rintro ⟨x, h1, h2⟩
    have : x = g := by have := Sum.inl.inj h2; omega
    exact this ▸ h1
  · exact fun h => ⟨g, h, rfl⟩
/-- the rows of the groups, as they are gathered -/
structure KeptI (PM : Addr) (H0 : Hp) (D : Addr) (rs1 : List RowD) (own : Nat → Nat) (i : Nat) (Hx : Hp) : Prop where
  but : ButT PM H0 Hx
  tabs : LamX.Tabs [(PM, qMer)] Hx
  at_ : ∃ kvs : List (Key × V), Hx D = some (.dK kvs) ∧ kvs.map (·.1) = (Wk.seen (((List.range rs1.length).map own).take i)).map inlK ∧ ∀ x d, x < i → rs1[x]? = some d → ∃ v, valV kvs (inlK (own x)) = some v ∧ TRow Hx v (mapRow (ownI own) d)
theorem TRow.otherK {H : Hp} {v : V} {d : RowD} {D : Addr} {kvs : List (Key × V)} {o : HO} (h : TRow H v d) (e : H D = some (.dK kvs)) : TRow (upd H D o) v d := by
  cases d with
  | ask op ns =>
    obtain ⟨a, c, e1, h1, h2⟩ := h
    exact ⟨a, c, e1, by rw [upd_ne (dif h1 e (fun z => nomatch z))]; exact h1, by rw [upd_ne (dif h2 e (fun z => nomatch z))]; exact h2⟩
  | go n =>
    obtain ⟨a, e1, h1⟩ := h
    exact ⟨a, e1, by rw [upd_ne (dif h1 e (fun z => nomatch z))]; exact h1⟩
  | fin w =>
    obtain ⟨a, e1, h1⟩ := h
    exact ⟨a, e1, by rw [upd_ne (dif h1 e (fun z => nomatch z))]; exact h1⟩
theorem tabs_dK {PM a : Addr} {q : Str} {H : Hp} {kvs : List (Key × V)} {o : HO} (t : LamX.Tabs [(PM, q)] H) (ha : H a = some (.dK kvs)) : LamX.Tabs [(PM, q)] (upd H a o) := fun p hp => by
  obtain ⟨ps, e1, e2, e3⟩ := t p hp
  refine ⟨ps, by rw [upd_ne (fun z => by rw [z, ha] at e1; cases e1)]; exact e1, e2, fun pos cv h => ?_⟩
  obtain ⟨c, e4, e5⟩ := e3 pos cv h
  refine ⟨c, e4, by
    rw [upd_ne (fun z => by
      rw [z, ha] at e5
      have e5 := Option.some.inj e5
      unfold LamX.CodeO at e5
      cases e5)]
    exact e5⟩
theorem seen_all {n m : Nat} {own : Nat → Nat} (g : Wk.Grp n m own) : (Wk.seen ((List.range n).map own)).length = m ∧ ∀ k, k ∈ Wk.seen ((List.range n).map own) ↔ k < m := by
  have mem : ∀ k, k ∈ Wk.seen ((List.range n).map own) ↔ k < m := fun k => by
    rw [Wk.seen_mem, List.mem_map]
    constructor
    · rintro ⟨x, h1, rfl⟩
      exact g.lt x (List.mem_range.mp h1)
    · intro hk
      obtain ⟨x, h1, h2⟩ := g.some_ k hk
      exact ⟨x, List.mem_range.mpr h1, h2⟩
  refine ⟨?_, mem⟩
  have a := nodup_len (Wk.seen_nodup ((List.range n).map own)) (l' := List.range m) fun x hx => List.mem_range.mpr ((mem x).mp hx)
  have b := nodup_len (List.nodup_range (n := m)) (l' := Wk.seen ((List.range n).map own)) fun x hx => (mem x).mpr (List.mem_range.mp hx)
  rw [List.length_range] at a b
  omega
theorem KeptI.step {PM : Addr} {H0 Hx H' : Hp} {D : Addr} {rs1 : List RowD} {own : Nat → Nat} {m i : Nat} {v : V} {d : RowD} (h : KeptI PM H0 D rs1 own i Hx) (nD : H0 D = none) (R : Rest1 rs1) (like : ∀ x y, x < rs1.length → y < rs1.length → (own x = own y ↔ LikeB (rs1.map markD) (rs1.map natsN) x y)) (big : rs1.length ≤ 100000)
    (ed : rs1[i]? = some d) (u : ButT PM Hx H') (t : LamX.Tabs [(PM, qMer)] H') (r : TRow H' v (mapRow (ownI own) d)) :
    ∃ kvs, H' D = some (.dK kvs) ∧ kvs.length < sizeLine ∧ KeptI PM H0 D rs1 own (i + 1) (upd H' D (.dK (putK kvs (inlK (own i)) v))) := by
  obtain ⟨kvs, h1, h2, h3⟩ := h.at_
  have hd := goT u h.tabs h1 nofun
  have hi := (List.getElem?_eq_some_iff.mp ed).1
  have e0 : ((List.range rs1.length).map own)[i]? = some (own i) := by rw [List.getElem?_map, List.getElem?_range hi]; rfl
  have kl : kvs.length ≤ rs1.length := by
    have h4 : kvs.length = (Wk.seen (((List.range rs1.length).map own).take i)).length := by
      have := congrArg List.length h2
      rw [List.length_map, List.length_map] at this
      exact this
    have h5 := (Wk.grp_nums (((List.range rs1.length).map own).take i)).few
    rw [List.length_take, List.length_map, List.length_range] at h5
    omega
  refine ⟨kvs, hd, by rw [sizeLine_eq]; omega, fun b o nb e => ?_, tabs_dK t hd, _, upd_same, ?_, fun x d' hx ex => ?_⟩
  · rw [upd_ne (ne_of_none e nD)]
    exact u _ _ nb (h.but _ _ nb e)
  · rw [Wk.seen_step e0]
    unfold Wk.push
    by_cases z : own i ∈ Wk.seen (((List.range rs1.length).map own).take i)
    · rw [if_pos z, keys_old (by rw [h2]; exact inlK_mem.mpr z), h2]
    · rw [if_neg z, keys_new (by rw [h2]; exact fun q => z (inlK_mem.mp q)), h2, List.map_append]
      rfl
  · rw [valV_put]
    by_cases z : own x = own i
    · refine ⟨v, by rw [if_pos (by rw [z])], ?_⟩
      rw [rows_alike R like ex ed z]
      exact r.otherK hd
    · rw [if_neg (fun q => z (by have := Sum.inl.inj q; omega))]
      have hx2 : x < i := by
        by_cases q : x = i
        · exact absurd (by rw [q]) z
        · omega
      obtain ⟨w, w1, w2⟩ := h3 x d' hx2 ex
      exact ⟨w, w1, (w2.goT u h.tabs).otherK hd⟩
/-- rows made from others: what they say and how many places they have -/
def From (rs rs' : List RowD) : Prop := ∀ d' ∈ rs', ∃ d ∈ rs, (leads d').length = (leads d).length ∧ wordOf d' = wordOf d ∧ nameOf d' = nameOf d ∧ markD d' = markD d ∧ (nextsD d').length = (nextsD d).length
theorem From.map {g : Int → Int} (d : RowD) : (leads (mapRow g d)).length = (leads d).length ∧ wordOf (mapRow g d) = wordOf d ∧ nameOf (mapRow g d) = nameOf d ∧ markD (mapRow g d) = markD d ∧ (nextsD (mapRow g d)).length = (nextsD d).length := by
  refine ⟨?_, word_map.1, word_map.2, mark_map, ?_⟩
  · rw [leads_map, List.length_map]
  · rw [nexts_map, List.length_map]
theorem From.trans {a b c : List RowD} (h : From a b) (k : From b c) : From a c := fun d hd => by
  obtain ⟨e, he, h1, h2, h3, h4, h5⟩ := k d hd
  obtain ⟨f, hf, k1, k2, k3, k4, k5⟩ := h e he
  exact ⟨f, hf, h1.trans k1, h2.trans k2, h3.trans k3, h4.trans k4, h5.trans k5⟩
theorem from_cut {rs : List RowD} (f : Fit rs) {b : Nat} (hb : b < rs.length) : From rs (cutD rs b) := fun d hd => by
  obtain ⟨x, hx⟩ := List.mem_iff_getElem?.mp hd
  obtain ⟨i, d0, _, h2, rfl⟩ := cutD_of f hb hx
  exact ⟨d0, List.mem_of_getElem? h2, From.map d0⟩
theorem from_rows2 {rs1 : List RowD} {own : Nat → Nat} {m : Nat} (g : Wk.Grp rs1.length m own) : From rs1 (rows2 rs1 own m) := fun d hd => by
  obtain ⟨x, hx⟩ := List.mem_iff_getElem?.mp hd
  obtain ⟨y, d0, _, h2, rfl⟩ := rows2_of g hx
  exact ⟨d0, List.mem_of_getElem? h2, From.map d0⟩
theorem from_rest {rs : List RowD} (f : Fit rs) {b : Nat} (hb : b < rs.length) : ∀ d ∈ restD rs b, d ∈ rs := fun d hd => by
  unfold restD at hd
  obtain ⟨i, h1, rfl⟩ := List.mem_map.mp hd
  have hi := (met_rest f hb h1).1
  rw [List.getD_eq_getElem?_getD, List.getElem?_eq_getElem hi]
  exact List.getElem_mem hi
end Mine

set_option maxRecDepth 100000
set_option maxHeartbeats 4000000
namespace Mine
open PySem L2 LamB
/-- what is asked of rows that are put together -/
structure Tame (rs : List RowD) : Prop where
  few : ∀ d ∈ rs, (leads d).length ≤ 1000
  cons : ∀ d ∈ rs, ∀ e ∈ rs, markD d = markD e → (nextsD d).length = (nextsD e).length
  names : ∃ A B : List Str, A.length ≤ 100000 ∧ B.length ≤ 100000 ∧ ∀ d ∈ rs, (wordOf d = "ask" → nameOf d ∈ A) ∧ (wordOf d = "end" → nameOf d ∈ B)
theorem Tame.of {rs rs' : List RowD} (h : Tame rs) (f : From rs rs') : Tame rs' := by
  refine ⟨fun d hd => ?_, fun d hd e he m => ?_, ?_⟩
  · obtain ⟨d0, h0, h1, _⟩ := f d hd
    rw [h1]
    exact h.few d0 h0
  · obtain ⟨d0, h0, _, _, _, h4, h5⟩ := f d hd
    obtain ⟨e0, k0, _, _, _, k4, k5⟩ := f e he
    rw [h5, k5]
    exact h.cons d0 h0 e0 k0 (by rw [← h4, ← k4, m])
  · obtain ⟨A, B, a, b, hn⟩ := h.names
    refine ⟨A, B, a, b, fun d hd => ?_⟩
    obtain ⟨d0, h0, _, h2, h3, _⟩ := f d hd
    rw [h2, h3]
    exact hn d0 h0
theorem Tame.rest {rs : List RowD} (h : Tame rs) (f : Fit rs) {b : Nat} (hb : b < rs.length) : (distinct "ask" (restD rs b)).length ≤ 100000 ∧ (distinct "end" (restD rs b)).length ≤ 100000 := by
  obtain ⟨A, B, a, b2, hn⟩ := h.names
  have r := from_rest f hb
  exact ⟨Nat.le_trans (distinct_few fun d hd => (hn d (r d hd)).1) a, Nat.le_trans (distinct_few fun d hd => (hn d (r d hd)).2) b2⟩
def spMerged (CM PC PM : Addr) : Sp := fun vs H Q _ => ∃ (t l : Addr) (xs : List V) (rs : List RowD) (b : Nat), vs = [.ref t, .ref l, .int b] ∧ H l = some (.lst xs) ∧ Rows H xs rs ∧ Fit rs ∧ b < rs.length ∧ rs.length ≤ 100000 ∧ Tame rs ∧ LamX.Tabs [(PC, qCut)] H ∧ LamX.Tabs [(PM, qMer)] H ∧
  ∀ (mm dm l' : Addr) (H' : Hp) (fs : List (Str × V)) (xs' : List V) (rs' : List RowD) (sa aa ea : Addr) (as es : List Str), But2 PC PM H H' → LamX.Tabs [(PC, qCut)] H' → LamX.Tabs [(PM, qMer)] H' → H mm = none → H l' = none → H sa = none → H aa = none → H ea = none → H' mm = some (.ins CM dm fs) → MachFs H' fs t l' 0 rs' sa aa ea as es →
    H' l' = some (.lst xs') → Rows H' xs' rs' → Rest1 rs' → Tame rs' → 0 < rs'.length → MergedOf rs b rs' → Q (.ref mm) H'
section
variable {P : Program} {w : World} {K : PySem.W.Frag} {mg : Str → Option Value} {base : Heap}
variable {fII fIW PC PM cM CM CP f_mach a_cut a_mapped a_stops_of a_groups_of a_shows_of a_nexts_of : Addr}
theorem sc_merged : FnScope ["counts", "lines", "begin", "rests", "owners", "kept", "line", "owner"] ["counts", "lines", "begin"] (defScope s_merged) := ⟨rfl, rfl, rfl, by decide +kernel, rfl, by decide +kernel, by decide +kernel⟩
theorem merged_nd : ((cellsFrom 0 (defScope s_merged).names []).map (·.1)).Nodup := by decide +kernel
theorem ok_merged {f : Addr} {fd fd_cut fd_mapped fd_stops_of fd_groups_of fd_shows_of fd_nexts_of fd_mach : FuncData} (F : FunC K "merged" "merged" s_merged f fd cM) (T : TxtF K mg fII fIW) (h_range : mg "range" = none) (h_zip : mg "zip" = none) (TBm : LamX.TabB base mg cM PM) (nPC : PM ≠ PC)
    (G_cut : FnOk P w K mg base CX0 5 a_cut fd_cut ["lines", "stops", "begin"] (spCut PC)) (G_cutD : FnOk P w K mg base CX0 5 a_cut fd_cut ["lines", "stops", "begin"] (spCutD PC)) (b_cut : Binds K fd_cut ["lines", "stops", "begin"] []) (g_cut : mg "cut" = some (.ref a_cut)) (k_cut : PySem.W.keepIn K (.ref a_cut) = true)
    (G_stops_of : FnOk P w K mg base CX0 2 a_stops_of fd_stops_of ["lines"] spStops) (b_stops_of : Binds K fd_stops_of ["lines"] []) (g_stops_of : mg "stops_of" = some (.ref a_stops_of)) (k_stops_of : PySem.W.keepIn K (.ref a_stops_of) = true)
    (G_groups_of : FnOk P w K mg base CX0 4 a_groups_of fd_groups_of ["marks", "nexts"] spGroupsOf) (b_groups_of : Binds K fd_groups_of ["marks", "nexts"] []) (g_groups_of : mg "groups_of" = some (.ref a_groups_of)) (k_groups_of : PySem.W.keepIn K (.ref a_groups_of) = true)
    (G_shows_of : FnOk P w K mg base CX0 1 a_shows_of fd_shows_of ["line"] spShowsK) (b_shows_of : Binds K fd_shows_of ["line"] []) (g_shows_of : mg "shows_of" = some (.ref a_shows_of)) (k_shows_of : PySem.W.keepIn K (.ref a_shows_of) = true)
    (G_nexts_of : FnOk P w K mg base CX0 1 a_nexts_of fd_nexts_of ["line"] spNextsOf) (b_nexts_of : Binds K fd_nexts_of ["line"] []) (g_nexts_of : mg "nexts_of" = some (.ref a_nexts_of)) (k_nexts_of : PySem.W.keepIn K (.ref a_nexts_of) = true)
    (G_mapped : ∀ B, LamB.Up base B → FnOk P w K mg B CX0 4 a_mapped fd_mapped ["line", "place_of"] (spMapped P w K mg B 3)) (b_mapped : Binds K fd_mapped ["line", "place_of"] []) (g_mapped : mg "mapped" = some (.ref a_mapped)) (k_mapped : PySem.W.keepIn K (.ref a_mapped) = true)
    (MM : Mk K CM f_mach) (GM : FnOk P w K mg base CX0 3 f_mach fd_mach ["self", "counts", "lines", "begin"] (spMach CM)) (b_Machine : Binds K fd_mach ["self", "counts", "lines", "begin"] []) (g_Machine : mg "Machine" = some (.ref CM)) :
    FnOk P w K mg base CX0 6 f fd ["counts", "lines", "begin"] (spMerged CM PC PM) := by
  refine F.ok sc_merged (fun vs H Q E h => ?_) (fun A outer s H vs Q E hr h => ?_)
  · obtain ⟨t, l, xs, rs, b, rfl, _⟩ := h
    rfl
  · obtain ⟨t, l, xs, rs, b, rfl, hl, rows, fit, hb, big, tame, tC, tM, k⟩ := h
    have told : Told (cxOf CX0 P w K mg base ["counts", "lines", "begin", "rests", "owners", "kept", "line", "owner"] "merged" (defScope s_merged) f (.ref cM) A outer s H E).nox := told_own (n := s.heap.objs.size + 1) rfl merged_nd
    refine ⟨_, pss_ok (fun h0 => (pss_cons (ps_set (i := 3) sc_merged.nd rfl (Or.inl rfl) (pe_call G_cut (hr.mono (by decide)) (by rfl) g_cut k_cut b_cut .nil pass0 (pa_cons (pv 1) (pa_cons (pe_call G_stops_of (hr.mono (by decide)) (by rfl) g_stops_of k_stops_of b_stops_of .nil pass0 (pa_cons (pv 1) pa_nil)) (pa_cons (pv 2) pa_nil)))))
      (pss_cons (ps_set (i := 4) sc_merged.nd rfl (Or.inr rfl) (pe_call G_groups_of (hr.mono (by decide)) (by rfl) g_groups_of k_groups_of b_groups_of .nil pass0 (pa_cons (pe_lc (own := [("line", 6)]) (g := (gName 6)) (tt := tYes) rfl sc_merged.nd (pi_list (pv 3)) (blkOk_by (own := [("line", 6)]) (N := ["counts", "lines", "begin", "rests", "owners", "kept", "line", "owner"]) (sc := defScope s_merged) (by decide +kernel)) (fun _ _ _ _ _ => (pg_name (i := 6) sc_merged.nd rfl (Or.inl rfl))) (fun _ _ _ _ _ => pts_nil) (fun _ _ _ _ _ => (pe_call G_shows_of (hr.mono (by decide)) (by rfl) g_shows_of k_shows_of b_shows_of .nil pass0 (pa_cons (pv 6) pa_nil)))) (pa_cons (pe_lc (own := [("line", 6)]) (g := (gName 6)) (tt := tYes) rfl sc_merged.nd (pi_list (pv 3)) (blkOk_by (own := [("line", 6)]) (N := ["counts", "lines", "begin", "rests", "owners", "kept", "line", "owner"]) (sc := defScope s_merged) (by decide +kernel)) (fun _ _ _ _ _ => (pg_name (i := 6) sc_merged.nd rfl (Or.inl rfl))) (fun _ _ _ _ _ => pts_nil) (fun _ _ _ _ _ => (pe_call G_nexts_of (hr.mono (by decide)) (by rfl) g_nexts_of k_nexts_of b_nexts_of .nil pass0 (pa_cons (pv 6) pa_nil)))) pa_nil))))
      (pss_cons (ps_setDcI (i := 5) (own := [("owner", 7), ("line", 6)]) (g := gTup K 2 (gCons (gName 7) (gCons (gName 6) gNil))) (tk := tVar 7) (te := fun σ => tMapE PM [(PM, qMer)] ["index", "owners"] [4] (tVar 6) (tOp (rIxL K) (tVar 1) (tVar 0)) σ) rfl sc_merged.nd rfl rfl (sw_trueD rfl rfl rfl rfl) (pi_zip (by rfl) h_zip (pa_cons (pv 4) (pa_cons (pv 3) pa_nil))) (blkOk_by (own := [("owner", 7), ("line", 6)]) (N := ["counts", "lines", "begin", "rests", "owners", "kept", "line", "owner"]) (sc := defScope s_merged) (by decide +kernel)) (fun _ _ _ _ _ => (pg_tup rfl (pgs_cons (pg_name (i := 7) sc_merged.nd rfl (Or.inl rfl)) (pgs_cons (pg_name (i := 6) sc_merged.nd rfl (Or.inl rfl)) pgs_nil)))) (fun _ _ _ _ _ => (pv 7))
        (fun pins σ s1 H1 C fp I hfp => map_elem (fr := ["owners"]) (far_ex h0 told (fun _ => rfl) rfl rfl) told G_mapped (hr.mono (by decide)) (by rfl) g_mapped k_mapped b_mapped I hfp (pv 6) (fun _ _ _ _ m ⟨x, hx, q⟩ => ⟨x, hx, m _ _ q⟩) TBm rfl (List.mem_singleton.mpr rfl) (fun p hp _ => by rw [List.mem_singleton.mp hp]; rfl) (nc_by (by decide +kernel)) (fs_by (by decide +kernel)) (NdefX.ndef_free (sc := defScope s_merged) (fr := []) (by decide +kernel)) (NdefX.ndef_free (fr := []) (by kernel_rfl)) rfl (NdefX.nscope_by (by decide +kernel)) (by decide +kernel) rfl (fun cl c' doc pm ctv s9 us hu => match us, hu with | [u], _ => BindsTo.of_eq rfl)
          (fun B cl c' f9 A9 o9 s9 H9 E9 hr9 => (pe_ix (show IxR _ (rIxL K) from ix_list) (pv 1) (pv 0) (fun _ _ => rfl)))))
      (pss_one (ps_ret (pe_make MM GM (hr.mono (by decide)) (by rfl) g_Machine b_Machine .nil pass0 (pa_cons (pv 0) (pa_cons (pe_call G_cutD (hr.mono (by decide)) (by rfl) g_cut k_cut b_cut .nil pass0 (pa_cons (pv 5) (pa_cons (pe_listRg rfl (by rfl) T.b_list (prg_1 (by rfl) h_range (pe_callB call_lenD (by rfl) T.b_len PySem.boot_len (pa_cons (pv 5) pa_nil)))) (pa_cons (pe_ix ix_list (pv 4) pe_int (fun _ _ => rfl)) pa_nil)))) (pa_cons pe_int pa_nil)))))))))), ?_⟩
    have R1 := cut_rest1 fit hb
    have f1 := from_cut fit hb
    have tame1 := tame.of f1
    have len1 : (cutD rs b).length = (metOf rs b).length := cutD_len
    have pos1 : 0 < (cutD rs b).length := by rw [len1]; exact met_pos fit hb
    have big1 : (cutD rs b).length ≤ 100000 := by rw [len1]; exact Nat.le_trans (metAt_few fit hb rs.length).len big
    refine ⟨_, rfl, _, rfl, l, xs, rs, rfl, hl, rows, fit.go, big, fun sa0 H1 n1 s1 e1 => ⟨_, rfl, l, sa0, xs, rs, b, rfl, s1 _ _ hl, rows.same s1, fit, e1, hb, big, tame.few, tabs_same tC s1, fun Rr H2 vs2 u2 tC2 nR eR rw2 => ?_⟩⟩
    have tM2 := tabs_over (tabs_same tM s1) u2 (tabs_same tC s1) nPC
    have b2 : But2 PC PM H H2 := (But2.s s1).trans (But2.c u2)
    have nRH : H Rr = none := none_of s1 nR
    generalize hrs1 : cutD rs b = rs1 at R1 f1 tame1 len1 pos1 big1 rw2
    have rowAt : ∀ (i : Nat) (x : V), vs2[i]? = some x → ∃ d, rs1[i]? = some d ∧ rs1.getD i (.fin "") = d ∧ i < rs1.length ∧ TRow H2 x d := fun i x hx => by
      have hi : i < rs1.length := by rw [← rw2.1]; exact (List.getElem?_eq_some_iff.mp hx).1
      have ed : rs1[i]? = some rs1[i] := List.getElem?_eq_getElem hi
      obtain ⟨x1, e1, row⟩ := rw2.2 i _ ed
      rw [hx] at e1
      obtain rfl := Option.some.inj e1
      exact ⟨rs1[i], ed, by rw [List.getD_eq_getElem?_getD, ed]; rfl, hi, row⟩
    refine ⟨_, rfl, Rr, rfl, ⟨_, SqL.of eR⟩, fun D1 nD1 => lc_it (walk_list (xs := vs2)) (fun i Hx => MkV H2 D1 (fun j => (markD (rs1.getD j (.fin ""))).map kV) i Hx) ⟨sameNew nD1 _, [], upd_same, rfl, fun j hj => absurd hj (Nat.not_lt_zero _)⟩ (fun i Hx _ z => SqL.of (z.same _ _ eR)) (fun i x Ha Hb hi z1 z2 => ?_) fun Hx z => ?_⟩
    · obtain ⟨rfl, hx⟩ := z2
      obtain ⟨d, ed, eg, hi2, row⟩ := rowAt i x hx
      exact ⟨rfl, _, rfl, x, d, rfl, row.same z1.same, fun q H' s' e' => z1.step nD1 s' (by rw [eg]; exact e') (by omega)⟩
    obtain ⟨ws1, w1, w2, w3⟩ := z.at_
    rw [rw2.1] at w2 w3
    have sx2 := z.same
    refine ⟨_, rfl, Rr, rfl, ⟨_, SqL.of (sx2 _ _ eR)⟩, fun D3 nD3 => lc_it (walk_list (xs := vs2)) (fun i Hy => MkV Hx D3 (fun j => (nextsD (rs1.getD j (.fin ""))).map V.int) i Hy) ⟨sameNew nD3 _, [], upd_same, rfl, fun j hj => absurd hj (Nat.not_lt_zero _)⟩ (fun i Hy _ z => SqL.of (z.same _ _ (sx2 _ _ eR))) (fun i x Ha Hb hi z1 z2 => ?_) fun Hy z => ?_⟩
    · obtain ⟨rfl, hx⟩ := z2
      obtain ⟨d, ed, eg, hi2, row⟩ := rowAt i x hx
      obtain ⟨q0, rfl⟩ := row.isRef
      exact ⟨rfl, _, rfl, q0, d, rfl, (row.same sx2).same z1.same, fun q H' s' e' => z1.step nD3 s' (by rw [eg]; exact e') (by omega)⟩
    obtain ⟨ws3, v1, v2, v3⟩ := z.at_
    rw [rw2.1] at v2 v3
    have sy := z.same
    have getD : ∀ {j : Nat} {d : RowD}, rs1[j]? = some d → rs1.getD j (.fin "") = d := fun e => by rw [List.getD_eq_getElem?_getD, e]; rfl
    have nn : ∀ d ∈ rs1, ∀ a ∈ nextsD d, 0 ≤ a ∧ a < rs1.length := fun d hd a ha => by
      obtain ⟨x, hx⟩ := List.mem_iff_getElem?.mp hd
      exact R1.fit.nexts hx ha
    have mks : Marks Hy ws1 (rs1.map markD) := by
      refine Marks.same sy ⟨by rw [w2, List.length_map], fun j kq ej => ?_⟩
      rw [List.getElem?_map] at ej
      obtain ⟨d, h1, rfl⟩ := Option.map_eq_some_iff.mp ej
      obtain ⟨q, q1, q2⟩ := w3 j (List.getElem?_eq_some_iff.mp h1).1
      rw [getD h1] at q2
      exact ⟨q, q1, q2⟩
    have nxs : Nx Hy ws3 (rs1.map natsN) := by
      refine ⟨by rw [v2, List.length_map], fun j r ej => ?_⟩
      rw [List.getElem?_map] at ej
      obtain ⟨d, h1, rfl⟩ := Option.map_eq_some_iff.mp ej
      obtain ⟨q, q1, q2⟩ := v3 j (List.getElem?_eq_some_iff.mp h1).1
      rw [getD h1] at q2
      refine ⟨q, q1, ?_⟩
      rw [q2]
      congr 2
      unfold natsV natsN
      rw [List.map_map]
      refine List.map_congr_left fun a ha => ?_
      have := (nn d (List.mem_of_getElem? h1) a ha).1
      show V.int a = V.int (a.toNat : Int)
      rw [show (a.toNat : Int) = a by omega]
    have nl : ∀ d : RowD, (natsN d).length = (nextsD d).length := fun d => List.length_map ..
    have nle : ∀ d : RowD, (nextsD d).length ≤ (leads d).length := fun d => by cases d <;> first | exact Nat.le_refl _ | exact Nat.zero_le _
    have lenM : (rs1.map natsN).length = rs1.length := List.length_map ..
    refine ⟨D1, D3, ws1, ws3, rs1.map markD, rs1.map natsN, rfl, sy _ _ w1, mks, v1, nxs, by rw [List.length_map, List.length_map], by rw [lenM]; exact big1, fun r hr => ?_, fun x p hx hp => ?_, fun x y hx hy e => ?_, fun ow H5 m own s5 n5 e5 grp like => ?_⟩
    · obtain ⟨d, hd, rfl⟩ := List.mem_map.mp hr
      have := tame1.few d hd
      have := nle d
      rw [nl]
      omega
    · rw [lenM] at hx ⊢
      have ed : rs1[x]? = some rs1[x] := List.getElem?_eq_getElem hx
      obtain ⟨l1, l2⟩ := natsN_at ed
      rw [l1] at hp
      have := nn _ (List.getElem_mem hx) _ (List.getElem_mem hp)
      rw [l2 p _ (List.getElem?_eq_getElem hp)]
      omega
    · rw [lenM] at hx hy
      have ex : rs1[x]? = some rs1[x] := List.getElem?_eq_getElem hx
      have ey : rs1[y]? = some rs1[y] := List.getElem?_eq_getElem hy
      rw [List.getElem?_map, List.getElem?_map, ex, ey] at e
      rw [(natsN_at ex).1, (natsN_at ey).1]
      exact tame1.cons _ (List.getElem_mem hx) _ (List.getElem_mem hy) (Option.some.inj e)
    rw [lenM] at e5 grp like
    have s25 : Same H2 H5 := sx2.trans (sy.trans s5)
    have eR5 := s25 _ _ eR
    have tM5 := tabs_same tM2 s25
    have tC5 := tabs_same tC2 s25
    have nH2 : ∀ {c : Addr}, H2 c = none → H c = none := fun e => none_of s1 (none_butT u2 tC2 e)
    refine ⟨_, rfl, _, rfl, ow, Rr, _, vs2, rfl, SqL.of e5, SqL.of eR5, fun D5 nD5 => dc_it (walk_zip (xs := natF rs1.length own) (ys := vs2) (n := rs1.length) (by rw [fl_len, rw2.1]; exact (Nat.min_self _).symm)) (fun i Hz => KeptI PM H5 D5 rs1 own i Hz) ⟨ButT.of (sameNew nD5 _), tabs_same tM5 (sameNew nD5 _), [], upd_same, rfl, fun x d hx => absurd hx (Nat.not_lt_zero _)⟩ (fun i Hz _ z => ⟨SqL.of (goT z.but tM5 e5 nofun), SqL.of (goT z.but tM5 eR5 nofun)⟩) (fun i v Ha Hb hi z1 z2 => ?_) fun Hz z => ?_⟩
    · obtain ⟨T', x', y, rfl, nT, rfl, h1, h2⟩ := z2
      dsimp only at h1 h2
      rw [fl_get hi] at h1
      obtain rfl : V.int (own i : Int) = x' := Option.some.inj h1
      obtain ⟨d, ed, eg, hi2, row⟩ := rowAt i y h2
      have sT := sameNew nT (.tup [V.int (own i : Int), y])
      have eT : upd Ha T' (.tup [V.int (own i : Int), y]) T' = some (.tup [V.int (own i : Int), y]) := upd_same
      generalize upd Ha T' (.tup [V.int (own i : Int), y]) = Hb at sT eT ⊢
      have tb := tabs_same z1.tabs sT
      have rb : TRow Hb y d := ((row.same s25).goT z1.but tM5).same sT
      refine ⟨T', _, rfl, .inl (.inl eT), rfl, _, _, rfl, _, _, rfl, rfl, rfl, _, rfl, _, rfl, tb, fun H4 bt t4 => ⟨d, ownI own, rb.goT bt tb, tame1.few d (List.mem_of_getElem? ed), fun n hn H6 Q2 s6 hQ => ?_, fun v' H' s' tr => ?_⟩⟩
      · obtain ⟨n0, n1⟩ := R1.fit i d ed n (by rw [targets_leads]; exact hn)
        have e0 : n = (n.toNat : Int) := by omega
        have atO : atI (natF rs1.length own) n = some (V.int (own n.toNat : Int)) := by
          conv => lhs; rw [e0]
          exact fl_at (by omega)
        exact ⟨_, rfl, _, rfl, ow, _, n, _, rfl, rfl, SqL.of (s6 _ _ (goT bt tb (sT _ _ (goT z1.but tM5 e5 nofun)) nofun)), atO, hQ _ (Same.refl _)⟩
      · obtain ⟨kvs, k1, k2, k3⟩ := z1.step (m := 0) nD5 R1 like big1 ed (ButT.trans (ButT.of sT) (ButT.trans bt (ButT.of s'))) (tabs_same t4 s') tr
        exact ⟨kvs, inlK (own i), rfl, k1, k2, k3⟩
    obtain ⟨kvs, q1, q2, q3⟩ := z.at_
    rw [List.take_of_length_le (by rw [List.length_map, List.length_range]; exact Nat.le_refl _)] at q2
    obtain ⟨sl, sm⟩ := seen_all grp
    have kl : kvs.length = m := by
      have := congrArg List.length q2
      rw [List.length_map, List.length_map, sl] at this
      exact this
    have m1 : 0 < m := by have := grp.lt 0 pos1; omega
    have mbig : m ≤ 100000 := Nat.le_trans grp.few big1
    have R2 := rows2_rest1 grp R1
    have f2 := from_rows2 (own := own) (m := m) grp
    have tame2 := tame1.of f2
    have l2 : (rows2 rs1 own m).length = m := rows2_len
    have o0 : own 0 < m := grp.lt 0 pos1
    have ez : ∀ {b2 : Addr} {o : HO}, H5 b2 = some o → (∀ ps, o ≠ .tbl ps) → Hz b2 = some o := fun e nt => goT z.but tM5 e nt
    have tC6 := tabs_over tC5 z.but tM5 (Ne.symm nPC)
    have rd : RowsD Hz kvs (rows2 rs1 own m) := fun g d e => by
      obtain ⟨x, d0, hx, ex, rfl⟩ := rows2_of grp e
      obtain ⟨v, k1, k2⟩ := q3 x d0 (List.getElem?_eq_some_iff.mp ex).1 ex
      exact ⟨v, by rw [← hx]; exact k1, k2⟩
    refine ⟨_, rfl, _, rfl, _, rfl, D5, kvs, rfl, q1, (kvs.length : Int), rfl, RgOk.of_le (Int.le_refl _) (by omega) (by omega) (by omega), fun sb nsb => ?_⟩
    have s7 := sameNew nsb (.lst (rgV 0 (kvs.length : Int)))
    have e7 : upd Hz sb (.lst (rgV 0 (kvs.length : Int))) sb = some (.lst (fl (rows2 rs1 own m).length fun i => (stp (rows2 rs1 own m) i : Int))) := by
      rw [upd_same, rg_nats, kl, l2]
      refine congrArg (fun l => some (HO.lst l)) (List.map_congr_left fun i hi => ?_)
      show V.int (i : Int) = V.int (stp (rows2 rs1 own m) i : Int)
      rw [R2.stp (by rw [l2]; exact List.mem_range.mp hi)]
    generalize upd Hz sb (.lst (rgV 0 (kvs.length : Int))) = H7 at s7 e7 ⊢
    refine ⟨_, rfl, ow, _, 0, .int (own 0 : Int), rfl, rfl, SqL.of (s7 _ _ (ez e5 nofun)), atI_nat (j := 0) (fl_get pos1), D5, sb, kvs, rows2 rs1 own m, own 0, rfl, s7 _ _ q1, rd.same s7, R2.fit, e7, by rw [l2]; exact o0, by rw [l2]; exact mbig, tame2.few, tabs_same tC6 s7, fun L H8 vs8 u8 tC8 nL eL rw8 => ?_⟩
    have R3 := cut_rest1 R2.fit (b := own 0) (by rw [l2]; exact o0)
    have f3 := from_cut R2.fit (b := own 0) (by rw [l2]; exact o0)
    have tame3 := tame2.of f3
    have pos3 : 0 < (cutD (rows2 rs1 own m) (own 0)).length := by rw [cutD_len]; exact met_pos R2.fit (by rw [l2]; exact o0)
    have big3 : (cutD (rows2 rs1 own m) (own 0)).length ≤ 100000 := by
      rw [cutD_len]
      have := (metAt_few R2.fit (b := own 0) (by rw [l2]; exact o0) (rows2 rs1 own m).length).len
      have : (metOf (rows2 rs1 own m) (own 0)).length ≤ (rows2 rs1 own m).length := this
      omega
    have tM8 := tabs_over (tabs_same z.tabs s7) u8 (tabs_same tC6 s7) nPC
    have b8 : But2 PC PM H H8 := ((b2.trans (But2.s s25)).trans (But2.m z.but)).trans ((But2.s s7).trans (But2.c u8))
    have nz : ∀ {c : Addr}, Hz c = none → H c = none := fun e => nH2 (none_of s25 (none_butT z.but z.tabs e))
    have n7 : ∀ {c : Addr}, H7 c = none → H c = none := fun e => nz (none_of s7 e)
    have n8 : ∀ {c : Addr}, H8 c = none → H c = none := fun e => n7 (none_butT u8 tC8 e)
    refine fun mm dm nm ndm ne => ?_
    have sU : Same H8 (upd (upd H8 dm (.own mm)) mm (.ins CM dm [])) := same_updN (same_updN (Same.refl _) ndm) nm
    refine ⟨mm, t, L, dm, vs8, _, 0, rfl, upd_same, sU _ _ eL, rw8.same sU, R3.fit, pos3, big3, (tame3.rest R3.fit pos3).1, (tame3.rest R3.fit pos3).2, fun fs H9 sa aa ea as es nsa naa nea x9 m9 mf => ⟨rfl, ?_⟩⟩
    have s9 : Same H8 H9 := fun b2 o e => x9 _ _ (ne_of_none e nm) (sU _ _ e)
    exact k mm dm L H9 fs vs8 _ sa aa ea as es (b8.trans (But2.s s9)) (tabs_same tC8 s9) (tabs_same tM8 s9) (n8 nm) (n7 nL) (n8 (none_of sU nsa)) (n8 (none_of sU naa)) (n8 (none_of sU nea)) m9 mf (s9 _ _ eL) (rw8.same s9) R3 tame3 pos3 ⟨own, m, by rw [hrs1]; exact grp, by rw [hrs1]; exact like, by rw [hrs1]⟩
end
end Mine

set_option maxRecDepth 100000
set_option maxHeartbeats 4000000
namespace Mine
open PySem L2 LamB
abbrev PB : List Str := ["self", "operations", "rows", "start"]
abbrev s_body_of : Stmt := top 54
abbrev s_least : Stmt := top 62
theorem opLook_in {o : Ops} {x : Str} {c : Int} (h : opLook o x = some c) : (x, c) ∈ o := by
  unfold opLook at h
  obtain ⟨p, hp, rfl⟩ := Option.map_eq_some_iff.mp h
  have := List.find?_some (p := fun p : Str × Int => decide (p.1 = x)) hp
  have e : p.1 = x := of_decide_eq_true this
  subst e
  exact List.mem_of_find?_eq_some hp
theorem look_perm {o o' : Ops} (h : o'.Perm o) (nd : (o.map (·.1)).Nodup) {x : Str} {c : Int} (e : opLook o x = some c) : opLook o' x = some c := by
  have nd' : (o'.map (·.1)).Nodup := (h.map (·.1)).nodup_iff.mpr nd
  exact look_mem nd' (x, c) (h.mem_iff.mpr (opLook_in e))
def spBodyOf (CB CM : Addr) : Sp := fun vs H Q _ => ∃ (mm : Addr), vs = [.ref mm] ∧ ∀ (bd dx : Addr) (H' : Hp), Same H H' → H bd = none → H' bd = some (.ins CB dx [("machine", .ref mm)]) → Q (.ref bd) H'
theorem pf4 {u v : V} : putF ("machine" : Str) v [(("machine" : Str), u)] = ([("machine", v)] : List (Str × V)) := by first | rfl | kernel_rfl
/-- the operations that are asked, with their numbers of answers -/
def OfAsks (o : Ops) (rs : List RowD) (b : Nat) (o2 : Ops) : Prop := ∃ as, IsFirsts "ask" (restD rs b) as ∧ o2 = as.map fun x => (x, lookI o x)
def spLeast (CB CM PC PM : Addr) : Sp := fun vs H Q _ => ∃ (bd : Addr) (o : Ops) (rs : List RowD) (b : Nat), vs = [.ref bd] ∧ BodyAt CB CM H bd o rs b ∧ Fit rs ∧ Tame rs ∧ rs.length ≤ 100000 ∧ (o.map (·.1)).Nodup ∧ (∀ d ∈ rs, wordOf d = "ask" → ∃ c, opLook o (nameOf d) = some c) ∧ LamX.Tabs [(PC, qCut)] H ∧ LamX.Tabs [(PM, qMer)] H ∧
  ∀ (bd' : Addr) (H' : Hp) (o2 : Ops) (rs' : List RowD), But2 PC PM H H' → LamX.Tabs [(PC, qCut)] H' → LamX.Tabs [(PM, qMer)] H' → H bd' = none → BodyAt CB CM H' bd' o2 rs' 0 → OfAsks o rs b o2 → Rest1 rs' → Tame rs' → 0 < rs'.length → MergedOf rs b rs' → Q (.ref bd') H'
section
variable {P : Program} {w : World} {K : PySem.W.Frag} {mg : Str → Option Value} {base : Heap}
variable {fII fIW CB CM PC PM fB a_body_of a_merged : Addr}
theorem sc_body_of : FnScope ["machine", "body"] ["machine"] (defScope s_body_of) := ⟨rfl, rfl, rfl, by decide +kernel, rfl, by decide +kernel, by decide +kernel⟩
theorem ok_body_of {f : Addr} {fd fdB : FuncData} {ds : List Value} (F : Fun K "body_of" "body_of" s_body_of f fd) (TB : BodyC K CB)
    (MB : Mk K CB fB) (GB : FnOk P w K mg base CX0 7 fB fdB PB (spBody CB CM)) (hds : Vals [V.int 0] ds) (bB : Binds K fdB PB ds) (g_Body : mg "Body" = some (.ref CB)) : FnOk P w K mg base CX0 9 f fd ["machine"] (spBodyOf CB CM) := by
  refine F.ok sc_body_of (fun vs H Q E h => ?_) (fun cdv A outer s H vs Q E hr h => ?_)
  · obtain ⟨mm, rfl, _⟩ := h
    rfl
  · obtain ⟨mm, rfl, k⟩ := h
    refine ⟨_, (pss_cons (ps_set (i := 1) sc_body_of.nd rfl (Or.inl rfl) (pe_make (dvs := [V.int 0]) MB GB (hr.mono (by decide)) (by rfl) g_Body bB hds pass0 (pa_cons pe_dnewK (pa_cons (pe_tupG (pa_cons (pe_tupG (pa_cons pe_str (pa_cons pe_int pa_nil))) pa_nil)) pa_nil))))
      (pss_cons (ps_fld (pv 1) (pv 0) rfl)
      (pss_one (ps_ret (pv 1))))), ?_⟩
    have one : ∀ u : V, [u].length ≤ sizeLine := fun u => by rw [sizeLine_eq]; show 1 ≤ _; decide
    have two : ∀ u v : V, [u, v].length ≤ sizeLine := fun u v => by rw [sizeLine_eq]; show 2 ≤ _; decide
    refine fun d nd => ⟨two _ _, fun q H1 n1 s1 e1 => ⟨one _, fun r H2 n2 s2 e2 => fun bd dx nb ndx ne => ?_⟩⟩
    have sd : Same H (upd H d (.dK [])) := sameNew nd _
    have ed : H2 d = some (.dK (opsK [])) := s2 _ _ (s1 _ _ upd_same)
    have sU : Same H2 (upd (upd H2 dx (.own bd)) bd (.ins CB dx [])) := same_updN (same_updN (Same.refl _) ndx) nb
    have s02 : Same H H2 := sd.trans (s1.trans s2)
    refine ⟨bd, d, r, dx, [.ref q], [.go 0], [], 0, rfl, upd_same, sU _ _ ed, ⟨Nat.zero_le _, (fun _ z => nomatch z), .nil⟩, .inr (sU _ _ e2), ⟨rfl, fun i dd e => ?_⟩, Nat.le_refl _, (by show 1 ≤ 400; decide), fun i dd e => ?_, Nat.zero_lt_one, ?_, ?_, fun H4 x4 B => ⟨rfl, ?_⟩⟩
    · cases i with
      | zero =>
        obtain rfl := Option.some.inj e
        exact ⟨_, rfl, q, rfl, .inr (sU _ _ (s2 _ _ e1))⟩
      | succ i => cases e
    · cases i with
      | zero =>
        obtain rfl := Option.some.inj e
        exact ⟨Int.le_refl _, by show (0 : Int) < 1; decide⟩
      | succ i => cases e
    · exact Nat.le_trans (distinct_few (A := []) fun dd hd e => by
        have := from_rest (rs := [.go 0]) (b := 0) (fun i dd e n hn => by
          cases i with
          | zero =>
            obtain rfl := Option.some.inj e
            rw [List.mem_singleton.mp hn]
            exact ⟨Int.le_refl _, by show (0 : Int) < 1; decide⟩
          | succ i => cases e) Nat.zero_lt_one dd hd
        rw [List.mem_singleton.mp this] at e
        exact absurd e (by decide +kernel)) (by decide)
    · exact Nat.le_trans (distinct_few (A := []) fun dd hd e => by
        have := from_rest (rs := [.go 0]) (b := 0) (fun i dd e n hn => by
          cases i with
          | zero =>
            obtain rfl := Option.some.inj e
            rw [List.mem_singleton.mp hn]
            exact ⟨Int.le_refl _, by show (0 : Int) < 1; decide⟩
          | succ i => cases e) Nat.zero_lt_one dd hd
        rw [List.mem_singleton.mp this] at e
        exact absurd e (by decide +kernel)) (by decide)
    · obtain ⟨m, t, l, sa, aa, ea, o', xs, as, es, h, _⟩ := B
      obtain ⟨dxx, hw⟩ := h.own
      refine ⟨_, rfl, _, rfl, bd, CB, dxx, _, rfl, hw, TB.cl, TB.n_machine, (show 1 < 1000 by decide), ?_⟩
      rw [pf4]
      exact ⟨_, rfl, k bd dxx _ (fun b2 o e => by
        have nb2 := ne_of_none (s02 _ _ e) nb
        rw [upd_ne nb2]
        exact x4 _ _ nb2 (sU _ _ (s02 _ _ e))) (none_of s02 nb) upd_same⟩
theorem sc_least : FnScope ["body", "machine", "counts", "operation"] ["body"] (defScope s_least) := ⟨rfl, rfl, rfl, by decide +kernel, rfl, by decide +kernel, by decide +kernel⟩
theorem ok_least {f : Addr} {fd fd_body_of fd_merged : FuncData} (F : Fun K "least" "least" s_least f fd) (TB : BodyC K CB) (TM : MachC K CM)
    (G_body_of : FnOk P w K mg base CX0 9 a_body_of fd_body_of ["machine"] (spBodyOf CB CM)) (b_body_of : Binds K fd_body_of ["machine"] []) (g_body_of : mg "body_of" = some (.ref a_body_of)) (k_body_of : PySem.W.keepIn K (.ref a_body_of) = true)
    (G_merged : FnOk P w K mg base CX0 6 a_merged fd_merged ["counts", "lines", "begin"] (spMerged CM PC PM)) (b_merged : Binds K fd_merged ["counts", "lines", "begin"] []) (g_merged : mg "merged" = some (.ref a_merged)) (k_merged : PySem.W.keepIn K (.ref a_merged) = true) : FnOk P w K mg base CX0 10 f fd ["body"] (spLeast CB CM PC PM) := by
  refine F.ok sc_least (fun vs H Q E h => ?_) (fun cdv A outer s H vs Q E hr h => ?_)
  · obtain ⟨bd, o, rs, b, rfl, _⟩ := h
    rfl
  · obtain ⟨bd, o, rs, b, rfl, ⟨m, t, l, sa, aa, ea, o', xs, as, es, ⟨⟨dxb, fb, hb, lb⟩, ⟨dm, fm, hm, mf⟩, ht, ord, hl, rows, lt, _⟩⟩, fit, tame, big, nd, asks, tC, tM, k⟩ := h
    refine ⟨_, (pss_cons (ps_set (i := 1) sc_least.nd rfl (Or.inr rfl) (pe_fld (pv 0) rfl))
      (pss_cons (ps_setDcI (i := 2) (own := [("operation", 3)]) (g := gName 3) (tk := tVar 3) (te := fun _ => tDGet (tFld K (tVar 1) "counts") (tVar 3)) rfl sc_least.nd rfl rfl (sw_trueD rfl rfl rfl rfl) (pi_list (pe_fld (pv 1) rfl)) (blkOk_by (own := [("operation", 3)]) (N := ["body", "machine", "counts", "operation"]) (sc := defScope s_least) (by decide +kernel)) (fun _ _ _ _ _ => (pg_name (i := 3) sc_least.nd rfl (Or.inl rfl))) (fun _ _ _ _ _ => (pv 3)) (fun _ _ _ _ _ _ _ _ => pe_dget (hu_of hr) (show PE _ _ (tFld K (tVar 1) "counts") from pe_fld (pv 1) rfl) (pv 3) (fun _ _ => rfl)))
      (pss_one (ps_ret (pe_call G_body_of (hr.mono (by decide)) (by rfl) g_body_of k_body_of b_body_of .nil pass0 (pa_cons (pe_call G_merged (hr.mono (by decide)) (by rfl) g_merged k_merged b_merged .nil pass0 (pa_cons (pv 2) (pa_cons (pe_fld (pv 1) rfl) (pa_cons (pe_fld (pv 1) rfl) pa_nil)))) pa_nil)))))), ?_⟩
    have fa := mf.fa
    have asn : as.Nodup := fa.1.nodup_iff.mpr (distinct_sub (x := "ask") (A := (restD rs b).map nameOf) (ds := restD rs b) (acc := []) (fun _ z => nomatch z) .nil fun d hd _ => List.mem_map_of_mem hd).2
    have asl : as.length ≤ 100000 := by
      have := (tame.rest fit lt).1
      rw [fa.1.length_eq]
      exact this
    have known : ∀ x ∈ as, opLook o' x = some (lookI o x) := fun x hx => by
      have := (distinct_sub (x := "ask") (A := ((restD rs b).filter fun d => decide (wordOf d = "ask")).map nameOf) (ds := restD rs b) (acc := []) (fun _ z => nomatch z) .nil fun d hd e => List.mem_map.mpr ⟨d, List.mem_filter.mpr ⟨hd, decide_eq_true e⟩, rfl⟩).1 x (fa.1.mem_iff.mp hx)
      obtain ⟨d, hd, rfl⟩ := List.mem_map.mp this
      obtain ⟨h1, h2⟩ := List.mem_filter.mp hd
      obtain ⟨c, hc⟩ := asks d (from_rest fit lt d h1) (of_decide_eq_true h2)
      have e : lookI o (nameOf d) = c := by unfold lookI; rw [hc]; rfl
      rw [e]
      exact look_perm ord.1 nd hc
    refine ⟨_, rfl, bd, CB, dxb, fb, .ref m, rfl, hb, TB.cl, TB.n_machine, lb, ?_⟩
    refine ⟨_, rfl, m, CM, dm, fm, .ref aa, rfl, hm, TM.cl, TM.n_asks, mf.asks, aa, rfl, ⟨_, SqL.of mf.ha⟩, fun D nD => dc_it (walk_list (xs := as.map V.str)) (fun i Hx => Same H Hx ∧ Hx D = some (.dK (opsK ((as.take i).map fun x => (x, lookI o x))))) ⟨sameNew nD _, upd_same⟩ (fun i Hx _ z => SqL.of (z.1 _ _ mf.ha)) (fun i v Ha Hb hi z1 z2 => ?_) fun Hx z => ?_⟩
    · obtain ⟨rfl, hx⟩ := z2
      obtain ⟨sx, ed⟩ := z1
      rw [List.getElem?_map] at hx
      obtain ⟨x, ex, rfl⟩ := Option.map_eq_some_iff.mp hx
      have kx := known x (List.mem_of_getElem? ex)
      have nx : opLook ((as.take i).map fun x => (x, lookI o x)) x = none := by
        unfold opLook
        rw [Option.map_eq_none_iff, List.find?_eq_none]
        intro p hp e
        obtain ⟨y, hy, rfl⟩ := List.mem_map.mp hp
        have e : y = x := of_decide_eq_true e
        subst e
        obtain ⟨hlt, ee⟩ := List.getElem?_eq_some_iff.mp ex
        have e2 : as = as.take i ++ as.drop i := (List.take_append_drop i as).symm
        rw [e2, List.nodup_append] at asn
        refine asn.2.2 y hy y ?_ rfl
        rw [List.drop_eq_getElem_cons hlt, ee]
        exact List.mem_cons_self
      refine ⟨rfl, _, rfl, _, rfl, m, CM, dm, fm, .ref t, rfl, sx _ _ hm, TM.cl, TM.n_counts, mf.counts, _, rfl, t, .int (lookI o x), rfl, .inl ⟨_, .inr x, .inl (sx _ _ ht), rfl, by rw [val_ops, kx]; rfl⟩, _, .inr x, rfl, ed, ?_, same_updN sx nD, ?_⟩
      · unfold opsK
        rw [List.length_map, List.length_map, List.length_take, sizeLine_eq]
        omega
      · rw [upd_same, putK_new _ (by rw [val_ops, nx]; rfl), List.take_add_one, ex]
        unfold opsK
        rw [List.map_append, List.map_append]
        rfl
    obtain ⟨sx, ed⟩ := z
    rw [List.length_map, List.take_length] at ed
    refine ⟨_, rfl, _, rfl, m, CM, dm, fm, .ref l, rfl, sx _ _ hm, TM.cl, TM.n_lines, mf.lines, _, rfl, m, CM, dm, fm, .int (b : Int), rfl, sx _ _ hm, TM.cl, TM.n_begin, mf.begin, D, l, xs, rs, b, rfl, sx _ _ hl, rows.same sx, fit, lt, big, tame, tabs_same tC sx, tabs_same tM sx, fun mm dmm l' H' fs xs' rs' sa' aa' ea' as' es' b2 tC' tM' nmm nl nsa naa nea em mf' el rw' R' tame' pos' mo => ?_⟩
    have ed' : H' D = some (.dK (opsK (as.map fun x => (x, lookI o x)))) := b2 _ _ (fun z => by
      obtain ⟨ps, q1, _⟩ := tabs_same tC sx (PC, qCut) (List.mem_singleton.mpr rfl)
      have q1 : Hx PC = some (.tbl ps) := q1
      rw [← z, ed] at q1
      cases q1) (fun z => by
      obtain ⟨ps, q1, _⟩ := tabs_same tM sx (PM, qMer) (List.mem_singleton.mpr rfl)
      have q1 : Hx PM = some (.tbl ps) := q1
      rw [← z, ed] at q1
      cases q1) ed
    refine ⟨mm, rfl, fun bd' dx' H2 s2 nb e2 => ?_⟩
    have keys : ((as.map fun x => (x, lookI o x)).map (·.1)) = as := by
      rw [List.map_map]
      exact List.map_id as
    refine k bd' H2 _ rs' ((But2.s sx).trans (b2.trans (But2.s s2))) (tabs_same tC' s2) (tabs_same tM' s2) ?_ ⟨mm, D, l', sa', aa', ea', _, xs', as', es', ⟨⟨dx', _, e2, rfl⟩, ⟨dmm, fs, s2 _ _ em, mf'.same s2⟩, s2 _ _ ed', ⟨List.Perm.refl _, by rw [keys]; exact fa.2⟩, s2 _ _ el, rw'.same s2, pos', dx', e2⟩⟩ ⟨as, fa, rfl⟩ R' tame' pos' mo
    cases q : H bd' with
    | none => rfl
    | some u =>
      have q1 := sx _ _ q
      by_cases zC : bd' = PC
      · obtain ⟨ps, q2, _⟩ := tC' (PC, qCut) (List.mem_singleton.mpr rfl)
        have q2 : H' PC = some (.tbl ps) := q2
        rw [← zC, nb] at q2
        cases q2
      · by_cases zM : bd' = PM
        · obtain ⟨ps, q2, _⟩ := tM' (PM, qMer) (List.mem_singleton.mpr rfl)
          have q2 : H' PM = some (.tbl ps) := q2
          rw [← zM, nb] at q2
          cases q2
        · have := b2 _ _ zC zM q1
          rw [nb] at this
          cases this
end
end Mine

/-! states numbered as a breadth first walk meets them: where no two are alike there is one numbering; nothing but mathematics -/
namespace Wk
/-- m states are met; these are led to: met ones, or the next new one -/
def adv : Nat → List Nat → Option Nat
  | m, [] => some m
  | m, s :: r => if s < m then adv m r else if s = m then adv (m + 1) r else none
/-- t states are gone through, m are met -/
inductive Upto (succ : Nat → List Nat) : Nat → Nat → Prop where
  | zero : Upto succ 0 1
  | step {t m m' : Nat} (h : Upto succ t m) (lt : t < m) (a : adv m (succ t) = some m') : Upto succ (t + 1) m'
def Canon (succ : Nat → List Nat) (N : Nat) : Prop := Upto succ N N
theorem Upto.prev {succ : Nat → List Nat} {t m : Nat} (h : Upto succ t m) : ∀ s, s ≤ t → ∃ k, Upto succ s k := by
  induction h with
  | zero => exact fun s hs => ⟨1, by have : s = 0 := by omega
                                     rw [this]; exact .zero⟩
  | @step t m m' h lt a ih =>
    intro s hs
    by_cases e : s = t + 1
    · exact ⟨m', e ▸ .step h lt a⟩
    · exact ih s (by omega)
theorem Upto.last {succ : Nat → List Nat} {t m : Nat} (h : Upto succ (t + 1) m) : ∃ k, Upto succ t k ∧ t < k ∧ adv k (succ t) = some m := by
  cases h with
  | step h lt a => exact ⟨_, h, lt, a⟩
/-- likeness of the states of two: it leads on, and no two of one are like one of the other -/
structure Like (s1 s2 : Nat → List Nat) (R : Nat → Nat → Prop) : Prop where
  zero : R 0 0
  on : ∀ i j, R i j → (s1 i).length = (s2 j).length ∧ ∀ (p x y : Nat), (s1 i)[p]? = some x → (s2 j)[p]? = some y → R x y
  one : ∀ i j k, R i j → R i k → j = k
  other : ∀ i j k, R i k → R j k → i = j
theorem adv_like {R : Nat → Nat → Prop} (one : ∀ i j k, R i j → R i k → j = k) (other : ∀ i j k, R i k → R j k → i = j) : ∀ (xs ys : List Nat) (m a b : Nat), (∀ i, i < m → R i i) → xs.length = ys.length → (∀ (p x y : Nat), xs[p]? = some x → ys[p]? = some y → R x y) → adv m xs = some a → adv m ys = some b → a = b ∧ xs = ys ∧ ∀ i, i < a → R i i
  | [], [], m, a, b, h, _, _, ha, hb => by
    have ha : some m = some a := ha
    have hb : some m = some b := hb
    cases ha
    cases hb
    exact ⟨rfl, rfl, h⟩
  | [], _ :: _, _, _, _, _, l, _, _, _ => by simp at l
  | _ :: _, [], _, _, _, _, l, _, _, _ => by simp at l
  | x :: xs, y :: ys, m, a, b, h, l, r, ha, hb => by
    have rxy : R x y := r 0 x y rfl rfl
    have l2 : xs.length = ys.length := by simpa using l
    have r2 : ∀ (p x y : Nat), xs[p]? = some x → ys[p]? = some y → R x y := fun p u v hu hv => r (p + 1) u v hu hv
    have ha : (if x < m then adv m xs else if x = m then adv (m + 1) xs else none) = some a := ha
    have hb : (if y < m then adv m ys else if y = m then adv (m + 1) ys else none) = some b := hb
    by_cases hx : x < m
    · have e : x = y := one x x y (h x hx) rxy
      subst e
      rw [if_pos hx] at ha hb
      obtain ⟨e1, e2, e3⟩ := adv_like one other xs ys m a b h l2 r2 ha hb
      exact ⟨e1, by rw [e2], e3⟩
    · rw [if_neg hx] at ha
      by_cases hy : y < m
      · have e : x = y := other x y y rxy (h y hy)
        omega
      · rw [if_neg hy] at hb
        by_cases ex : x = m
        · by_cases ey : y = m
          · subst ex
            subst ey
            rw [if_pos rfl] at ha hb
            obtain ⟨e1, e2, e3⟩ := adv_like one other xs ys _ a b (fun i hi => by
              by_cases z : i < y
              · exact h i z
              · have : i = y := by omega
                rw [this]
                exact rxy) l2 r2 ha hb
            exact ⟨e1, by rw [e2], e3⟩
          · rw [if_neg ey] at hb
            cases hb
        · rw [if_neg ex] at ha
          cases ha
theorem upto_like {s1 s2 : Nat → List Nat} {R : Nat → Nat → Prop} (L : Like s1 s2 R) : ∀ (t a b : Nat), Upto s1 t a → Upto s2 t b → a = b ∧ (∀ i, i < a → R i i) ∧ ∀ i, i < t → s1 i = s2 i
  | 0, a, b, ha, hb => by
    cases ha
    cases hb
    exact ⟨rfl, fun i hi => by have : i = 0 := by omega
                               rw [this]; exact L.zero, fun i hi => absurd hi (Nat.not_lt_zero _)⟩
  | t + 1, a, b, ha, hb => by
    obtain ⟨k1, u1, lt1, a1⟩ := ha.last
    obtain ⟨k2, u2, lt2, a2⟩ := hb.last
    obtain ⟨e, r, q⟩ := upto_like L t k1 k2 u1 u2
    subst e
    obtain ⟨hl, hp⟩ := L.on t t (r t lt1)
    obtain ⟨e1, e2, e3⟩ := adv_like L.one L.other (s1 t) (s2 t) k1 a b r hl hp a1 a2
    exact ⟨e1, e3, fun i hi => by
      by_cases z : i < t
      · exact q i z
      · have : i = t := by omega
        rw [this]
        exact e2⟩
/-- one numbering: as many states, each like its namesake, led on the same -/
theorem canon_one {s1 s2 : Nat → List Nat} {R : Nat → Nat → Prop} {N M : Nat} (L : Like s1 s2 R) (h1 : Canon s1 N) (h2 : Canon s2 M) : N = M ∧ (∀ i, i < N → R i i) ∧ ∀ i, i < N → s1 i = s2 i := by
  have no : ∀ {s1 s2 : Nat → List Nat} {R : Nat → Nat → Prop} {N M : Nat}, Like s1 s2 R → Canon s1 N → Canon s2 M → ¬ N < M := fun {s1 s2 R N M} L h1 h2 lt => by
    obtain ⟨k, hk⟩ := Upto.prev h2 (N + 1) (by omega)
    obtain ⟨j, hj, ltj, _⟩ := hk.last
    have := (upto_like L N N j h1 hj).1
    omega
  have L' : Like s2 s1 (fun i j => R j i) := ⟨L.zero, fun i j r => ⟨(L.on j i r).1.symm, fun p x y hx hy => (L.on j i r).2 p y x hy hx⟩, fun i j k a b => L.other j k i a b, fun i j k a b => L.one k i j a b⟩
  have e : N = M := by
    have a := no L h1 h2
    have b := no L' h2 h1
    omega
  subst e
  exact ⟨rfl, (upto_like L N N N h1 h2).2⟩
end Wk

set_option maxRecDepth 100000
set_option maxHeartbeats 4000000
namespace Mine
open PySem L2 LamB
/-! likeness of rows, whatever machine they stand in; the least machine is one -/
def BisS (A B : List RowD) (T : Nat → Nat → Prop) : Prop := ∀ i j, T i j → ∃ d e, A[i]? = some d ∧ B[j]? = some e ∧ markD d = markD e ∧ (nextsD d).length = (nextsD e).length ∧ ∀ (p : Nat) (a c : Int), (nextsD d)[p]? = some a → (nextsD e)[p]? = some c → T (stp A a.toNat) (stp B c.toNat)
/-- from row i of the one on and from row j of the other on the same is shown, whatever is answered -/
def Alk (A : List RowD) (i : Nat) (B : List RowD) (j : Nat) : Prop := ∃ T, T (stp A i) (stp B j) ∧ BisS A B T
theorem Alk.symm {A B : List RowD} {i j : Nat} (h : Alk A i B j) : Alk B j A i := by
  obtain ⟨T, t, b⟩ := h
  refine ⟨fun x y => T y x, t, fun x y q => ?_⟩
  obtain ⟨d, e, h1, h2, h3, h4, h5⟩ := b y x q
  exact ⟨e, d, h2, h1, h3.symm, h4.symm, fun p a c ha hc => h5 p c a hc ha⟩
theorem Alk.trans {A B C : List RowD} {i j k : Nat} (h : Alk A i B j) (g : Alk B j C k) : Alk A i C k := by
  obtain ⟨T, t, b⟩ := h
  obtain ⟨S, s, c⟩ := g
  refine ⟨fun x z => ∃ y, T x y ∧ S y z, ⟨_, t, s⟩, fun x z q => ?_⟩
  obtain ⟨y, q1, q2⟩ := q
  obtain ⟨d, e, h1, h2, h3, h4, h5⟩ := b x y q1
  obtain ⟨e', f, k1, k2, k3, k4, k5⟩ := c y z q2
  rw [h2] at k1
  obtain rfl := Option.some.inj k1
  refine ⟨d, f, h1, k2, h3.trans k3, h4.trans k4, fun p a c' ha hc => ?_⟩
  have hp : p < (nextsD e).length := by rw [← h4]; exact (List.getElem?_eq_some_iff.mp ha).1
  exact ⟨_, h5 p a _ ha (List.getElem?_eq_getElem hp), k5 p _ c' (List.getElem?_eq_getElem hp) hc⟩
theorem Alk.stp {A B : List RowD} {i j i' j' : Nat} (h : Alk A i B j) (e1 : Mine.stp A i' = Mine.stp A i) (e2 : Mine.stp B j' = Mine.stp B j) : Alk A i' B j' := by
  obtain ⟨T, t, b⟩ := h
  exact ⟨T, by rw [e1, e2]; exact t, b⟩
theorem met_start {rs : List RowD} {b : Nat} : (metOf rs b)[0]? = some (stp rs b) := by
  have z : (metAt rs b (0 + rs.length))[0]? = some (stp rs b) := metAt_pre (d := 0) (k := 0) (x := stp rs b) rfl rs.length
  rw [Nat.zero_add] at z
  exact z
/-- cut shows the same -/
theorem alk_cut {rs : List RowD} (f : Fit rs) {b : Nat} (hb : b < rs.length) {i x : Nat} (e : (metOf rs b)[x]? = some (stp rs i)) : Alk rs i (cutD rs b) x := by
  have R := cut_rest1 f hb
  have sx : ∀ {v : Nat}, v < (cutD rs b).length → stp (cutD rs b) v = v := fun h => R.stp h
  have hx : x < (cutD rs b).length := by rw [cutD_len]; exact (List.getElem?_eq_some_iff.mp e).1
  refine ⟨fun u v => (metOf rs b)[v]? = some u, by rw [sx hx]; exact e, fun u v q => ?_⟩
  have mu := List.mem_of_getElem? q
  have hu := (met_rest f hb mu).1
  have eu : rs[u]? = some rs[u] := List.getElem?_eq_getElem hu
  have ev := cutD_get q
  rw [List.getD_eq_getElem?_getD, eu] at ev
  refine ⟨rs[u], _, eu, ev, mark_map.symm, by rw [nexts_map, List.length_map]; rfl, fun p a c ha hc => ?_⟩
  rw [nexts_map, List.getElem?_map] at hc
  have hc : Option.map (plG rs b) ((nextsD rs[u])[p]?) = some c := hc
  rw [ha] at hc
  obtain rfl : plG rs b a = c := Option.some.inj hc
  have hl : a ∈ leads rs[u] := by
    have := List.mem_of_getElem? ha
    cases h : rs[u] <;> rw [h] at this <;> first | exact this | exact nomatch this
  obtain ⟨n0, n1, n2⟩ := met_leads f hb mu eu hl
  have hlt := pl_lt n2
  show (metOf rs b)[stp (cutD rs b) (plG rs b a).toNat]? = some (stp rs a.toNat)
  rw [show (plG rs b a).toNat = pl (metOf rs b) (stp rs a.toNat) from Int.toNat_natCast _, sx (by rw [cutD_len]; exact hlt)]
  exact pl_get n2
section
variable {rs1 : List RowD} {own : Nat → Nat} {m : Nat}
theorem nexts_leads {d : RowD} {a : Int} (h : a ∈ nextsD d) : a ∈ leads d := by cases d <;> first | exact h | exact nomatch h
/-- groups show the same -/
theorem alk_rows2 (g : Wk.Grp rs1.length m own) (R : Rest1 rs1) (like : ∀ x y, x < rs1.length → y < rs1.length → (own x = own y ↔ LikeB (rs1.map markD) (rs1.map natsN) x y)) {x : Nat} (hx : x < rs1.length) : Alk rs1 x (rows2 rs1 own m) (own x) := by
  have R2 := rows2_rest1 g R
  have l2 : (rows2 rs1 own m).length = m := rows2_len
  refine ⟨fun u v => u < rs1.length ∧ own u = v, by rw [R.stp hx, R2.stp (by rw [l2]; exact g.lt x hx)]; exact ⟨hx, rfl⟩, fun u v q => ?_⟩
  obtain ⟨hu, rfl⟩ := q
  have eu : rs1[u]? = some rs1[u] := List.getElem?_eq_getElem hu
  refine ⟨rs1[u], _, eu, rows2_get g R like eu, mark_map.symm, by rw [nexts_map, List.length_map], fun p a c ha hc => ?_⟩
  rw [nexts_map, List.getElem?_map, ha] at hc
  obtain rfl : ownI own a = c := Option.some.inj hc
  obtain ⟨a0, a1⟩ := R.fit.nexts eu (List.mem_of_getElem? ha)
  have ha' : a.toNat < rs1.length := by omega
  rw [R.stp ha', show (ownI own a).toNat = own a.toNat from Int.toNat_natCast _, R2.stp (by rw [l2]; exact g.lt _ ha')]
  exact ⟨ha', rfl⟩
end
/-- the least machine shows the same -/
theorem merged_alk {rs rs' : List RowD} {b : Nat} (f : Fit rs) (hb : b < rs.length) (h : MergedOf rs b rs') : Alk rs b rs' 0 := by
  obtain ⟨own, m, g, like, rfl⟩ := h
  have R := cut_rest1 f hb
  have pos : 0 < (cutD rs b).length := by rw [cutD_len]; exact met_pos f hb
  have R2 := rows2_rest1 g R
  have l2 : (rows2 (cutD rs b) own m).length = m := rows2_len
  have o0 : own 0 < (rows2 (cutD rs b) own m).length := by rw [l2]; exact g.lt 0 pos
  exact ((alk_cut f hb met_start).trans (alk_rows2 g R like pos)).trans (alk_cut R2.fit o0 met_start)
/-- no two of its rows show the same -/
theorem merged_apart {rs rs' : List RowD} {b : Nat} (f : Fit rs) (hb : b < rs.length) (h : MergedOf rs b rs') {i j : Nat} (hi : i < rs'.length) (hj : j < rs'.length) (a : Alk rs' i rs' j) : i = j := by
  obtain ⟨own, m, g, like, rfl⟩ := h
  have R := cut_rest1 f hb
  have pos : 0 < (cutD rs b).length := by rw [cutD_len]; exact met_pos f hb
  generalize cutD rs b = rs1 at g like R pos hi hj a
  have R2 := rows2_rest1 g R
  have l2 : (rows2 rs1 own m).length = m := rows2_len
  have o0 : own 0 < (rows2 rs1 own m).length := by rw [l2]; exact g.lt 0 pos
  rw [cutD_len] at hi hj
  have ei : (metOf (rows2 rs1 own m) (own 0))[i]? = some (metOf (rows2 rs1 own m) (own 0))[i] := List.getElem?_eq_getElem hi
  have ej : (metOf (rows2 rs1 own m) (own 0))[j]? = some (metOf (rows2 rs1 own m) (own 0))[j] := List.getElem?_eq_getElem hj
  generalize (metOf (rows2 rs1 own m) (own 0))[i] = gi at ei
  generalize (metOf (rows2 rs1 own m) (own 0))[j] = gj at ej
  have ri := met_rest R2.fit o0 (List.mem_of_getElem? ei)
  have rj := met_rest R2.fit o0 (List.mem_of_getElem? ej)
  obtain ⟨x, hx, rfl⟩ := g.some_ gi (by rw [← l2]; exact ri.1)
  obtain ⟨y, hy, rfl⟩ := g.some_ gj (by rw [← l2]; exact rj.1)
  have ax := (alk_rows2 g R like hx).trans (alk_cut R2.fit o0 (by rw [ri.2]; exact ei))
  have ay := (alk_rows2 g R like hy).trans (alk_cut R2.fit o0 (by rw [rj.2]; exact ej))
  obtain ⟨T, t, bs⟩ := (ax.trans a).trans ay.symm
  rw [R.stp hx, R.stp hy] at t
  have lk : LikeB (rs1.map markD) (rs1.map natsN) x y := by
    refine ⟨T, t, fun u v q => ?_⟩
    obtain ⟨d, e, h1, h2, h3, h4, h5⟩ := bs u v q
    obtain ⟨l3, n3⟩ := natsN_at h1
    obtain ⟨l4, n4⟩ := natsN_at h2
    refine ⟨by rw [List.length_map]; exact (List.getElem?_eq_some_iff.mp h1).1, by rw [List.length_map]; exact (List.getElem?_eq_some_iff.mp h2).1, by rw [List.getElem?_map, List.getElem?_map, h1, h2]; exact congrArg some h3, by rw [l3, l4]; exact h4, fun p hp => ?_⟩
    rw [l3] at hp
    have ha : (nextsD d)[p]? = some (nextsD d)[p] := List.getElem?_eq_getElem hp
    have hc : (nextsD e)[p]? = some ((nextsD e)[p]'(by omega)) := List.getElem?_eq_getElem (by omega)
    have q5 := h5 p _ _ ha hc
    obtain ⟨a0, a1⟩ := R.fit.nexts h1 (List.mem_of_getElem? ha)
    obtain ⟨c0, c1⟩ := R.fit.nexts h2 (List.mem_of_getElem? hc)
    rw [R.stp (by omega), R.stp (by omega)] at q5
    rw [n3 p _ ha, n4 p _ hc]
    exact q5
  have e := (like x y hx hy).mpr lk
  rw [e] at ei
  exact (List.getElem?_inj hi (metAt_few R2.fit o0 (rows2 rs1 own m).length).1).mp (by
    have ei : (metOf (rows2 rs1 own m) (own 0))[i]? = some (own y) := ei
    show (metOf (rows2 rs1 own m) (own 0))[i]? = (metOf (rows2 rs1 own m) (own 0))[j]?
    rw [ei, ej])
/-! its numbering is by breadth -/
def sucD (rs : List RowD) (x : Nat) : List Nat := natsN (rs.getD x (.fin ""))
theorem grow_prefix {rs : List RowD} : ∀ {ns : List Int} {m : List Nat}, m <+: grow rs m ns
  | [], m => List.prefix_refl m
  | n :: ns, m => by
    have h : addTo m (stp rs n.toNat) <+: grow rs m (n :: ns) := grow_prefix (rs := rs) (ns := ns) (m := addTo m (stp rs n.toNat))
    refine List.IsPrefix.trans ?_ h
    unfold addTo
    split
    · exact List.prefix_refl m
    · exact List.prefix_append m _
theorem pl_pre {l m : List Nat} {k : Nat} (h : l <+: m) (hk : k ∈ l) : pl m k = pl l k := Wk.idxOf_pre h hk
theorem adv_grow {rs : List RowD} {M : List Nat} : ∀ {ns : List Int} {m : List Nat}, grow rs m ns <+: M → Wk.adv m.length (ns.map fun n => pl M (stp rs n.toNat)) = some (grow rs m ns).length
  | [], m, _ => rfl
  | n :: ns, m, h => by
    have h1 : grow rs (addTo m (stp rs n.toNat)) ns <+: M := h
    have ih := adv_grow (ns := ns) h1
    have pm : addTo m (stp rs n.toNat) <+: M := grow_prefix.trans h1
    have mem : stp rs n.toNat ∈ addTo m (stp rs n.toNat) := addTo_mem.mpr (.inr rfl)
    rw [List.map_cons]
    show (if pl M (stp rs n.toNat) < m.length then Wk.adv m.length (ns.map fun n => pl M (stp rs n.toNat)) else if pl M (stp rs n.toNat) = m.length then Wk.adv (m.length + 1) (ns.map fun n => pl M (stp rs n.toNat)) else none) = some (grow rs (addTo m (stp rs n.toNat)) ns).length
    rw [pl_pre pm mem]
    by_cases z : stp rs n.toNat ∈ m
    · have e : addTo m (stp rs n.toNat) = m := if_pos z
      rw [e] at ih ⊢
      rw [if_pos (pl_lt z)]
      exact ih
    · have e : addTo m (stp rs n.toNat) = m ++ [stp rs n.toNat] := if_neg z
      rw [e] at ih ⊢
      have p : pl (m ++ [stp rs n.toNat]) (stp rs n.toNat) = m.length := by
        unfold pl
        rw [List.idxOf_append, if_neg z]
        simp
      rw [p, if_neg (Nat.lt_irrefl _), if_pos rfl]
      rw [List.length_append] at ih
      exact ih
end Mine

set_option maxRecDepth 100000
set_option maxHeartbeats 4000000
namespace Mine
open PySem L2 LamB
theorem metAt_prefix {rs : List RowD} {b d : Nat} : ∀ k, metAt rs b d <+: metAt rs b (d + k)
  | 0 => List.prefix_refl _
  | k + 1 => by
    refine List.IsPrefix.trans (metAt_prefix k) ?_
    show metAt rs b (d + k) <+: metS rs (metAt rs b (d + k)) (d + k)
    unfold metS
    split
    · exact grow_prefix
    · exact List.prefix_refl _
theorem metAt_of {rs : List RowD} {b d : Nat} (h : d ≤ rs.length) : metAt rs b d <+: metOf rs b := by
  have := metAt_prefix (rs := rs) (b := b) (d := d) (rs.length - d)
  rw [show d + (rs.length - d) = rs.length by omega] at this
  exact this
theorem pre_get {α : Type} {l m : List α} (h : l <+: m) {i : Nat} {a : α} (e : l[i]? = some a) : m[i]? = some a := by
  obtain ⟨r, rfl⟩ := h
  rw [List.getElem?_append_left (List.getElem?_eq_some_iff.mp e).1]
  exact e
theorem cut_upto {rs : List RowD} (f : Fit rs) {b : Nat} (hb : b < rs.length) : ∀ d, d ≤ (metOf rs b).length → Wk.Upto (sucD (cutD rs b)) d (metAt rs b d).length
  | 0, _ => .zero
  | d + 1, h => by
    have few := (metAt_few f hb rs.length).len
    have few : (metOf rs b).length ≤ rs.length := few
    have ih := cut_upto f hb d (by omega)
    have lt : d < (metAt rs b d).length := by
      refine Nat.lt_of_not_le fun z => ?_
      have := metAt_end (b := b) (show d ≤ rs.length by omega) z
      rw [this] at z
      omega
    obtain ⟨i, ei⟩ : ∃ i, (metAt rs b d)[d]? = some i := ⟨_, List.getElem?_eq_getElem lt⟩
    have em := pre_get (metAt_of (rs := rs) (b := b) (d := d) (by omega)) ei
    have hi := (met_rest f hb (List.mem_of_getElem? em)).1
    have er : rs[i]? = some rs[i] := List.getElem?_eq_getElem hi
    have st := metAt_step ei er
    have ec := cutD_get em
    rw [List.getD_eq_getElem?_getD, er] at ec
    have es : sucD (cutD rs b) d = (nextsD rs[i]).map fun n => pl (metOf rs b) (stp rs n.toNat) := by
      unfold sucD
      rw [List.getD_eq_getElem?_getD, ec]
      show natsN (mapRow (plG rs b) rs[i]) = _
      unfold natsN
      rw [nexts_map, List.map_map]
      exact List.map_congr_left fun n _ => Int.toNat_natCast _
    have pre : grow rs (metAt rs b d) (nextsD rs[i]) <+: metOf rs b := by
      rw [← st]
      exact metAt_of (by omega)
    have ad := adv_grow pre
    rw [← es, ← st] at ad
    exact .step ih lt ad
theorem cut_canon {rs : List RowD} (f : Fit rs) {b : Nat} (hb : b < rs.length) : Wk.Canon (sucD (cutD rs b)) (cutD rs b).length := by
  have few : (metOf rs b).length ≤ rs.length := (metAt_few f hb rs.length).len
  have u := cut_upto f hb (metOf rs b).length (Nat.le_refl _)
  have le : (metAt rs b (metOf rs b).length).length ≤ (metOf rs b).length := (metAt_of few).length_le
  have e := metAt_end few le
  rw [e] at u
  rw [cutD_len]
  exact u
/-- a row of rest by what it shows and where it leads -/
theorem row_same {A B : List RowD} (RA : Rest1 A) (RB : Rest1 B) {i : Nat} {d e : RowD} (hd : A[i]? = some d) (he : B[i]? = some e) (mk : markD d = markD e) (ns : natsN d = natsN e) : d = e := by
  cases d with
  | ask op xs =>
    cases e with
    | ask op2 ys =>
      have : op = op2 := Sum.inr.inj (List.cons.inj (List.cons.inj mk).2).1
      subst this
      congr 1
      have ns : xs.map Int.toNat = ys.map Int.toNat := ns
      refine List.ext_getElem? fun p => ?_
      have e1 := congrArg (fun l => l[p]?) ns
      have e1 : (xs.map Int.toNat)[p]? = (ys.map Int.toNat)[p]? := e1
      rw [List.getElem?_map, List.getElem?_map] at e1
      cases hx : xs[p]? with
      | none =>
        rw [hx] at e1
        cases hy : ys[p]? with
        | none => rfl
        | some y => rw [hy] at e1; cases e1
      | some x =>
        rw [hx] at e1
        cases hy : ys[p]? with
        | none => rw [hy] at e1; cases e1
        | some y =>
          rw [hy] at e1
          have e1 : x.toNat = y.toNat := Option.some.inj e1
          have a := (RA.fit.nexts hd (List.mem_of_getElem? hx)).1
          have b := (RB.fit.nexts he (List.mem_of_getElem? hy)).1
          rw [show x = y by omega]
    | go k => exact absurd (congrArg List.length mk) (by simp [markD])
    | fin w => exact absurd mk (by simp [markD]; intro z; exact absurd z (by decide +kernel))
  | go k =>
    cases e with
    | ask op2 ys => exact absurd (congrArg List.length mk) (by simp [markD])
    | go k2 => rw [RA.self i k hd, RB.self i k2 he]
    | fin w => exact absurd (congrArg List.length mk) (by simp [markD])
  | fin w =>
    cases e with
    | ask op2 ys => exact absurd mk (by simp [markD]; intro z; exact absurd z (by decide +kernel))
    | go k2 => exact absurd (congrArg List.length mk) (by simp [markD])
    | fin w2 => rw [show w = w2 from Sum.inr.inj (List.cons.inj (List.cons.inj mk).2).1]
theorem merged_rest {rs rs' : List RowD} {b : Nat} (f : Fit rs) (hb : b < rs.length) (h : MergedOf rs b rs') : Rest1 rs' ∧ 0 < rs'.length ∧ Wk.Canon (sucD rs') rs'.length := by
  obtain ⟨own, m, g, like, rfl⟩ := h
  have R := cut_rest1 f hb
  have pos : 0 < (cutD rs b).length := by rw [cutD_len]; exact met_pos f hb
  have R2 := rows2_rest1 g R
  have o0 : own 0 < (rows2 (cutD rs b) own m).length := by rw [rows2_len]; exact g.lt 0 pos
  exact ⟨cut_rest1 R2.fit o0, by rw [cutD_len]; exact met_pos R2.fit o0, cut_canon R2.fit o0⟩
/-- rows of rest that are numbered by breadth, none alike, and alike from the start: one -/
theorem one_least {A B : List RowD} (RA : Rest1 A) (RB : Rest1 B) (pA : 0 < A.length) (pB : 0 < B.length) (cA : Wk.Canon (sucD A) A.length) (cB : Wk.Canon (sucD B) B.length) (aA : ∀ i j, i < A.length → j < A.length → Alk A i A j → i = j) (aB : ∀ i j, i < B.length → j < B.length → Alk B i B j → i = j) (h : Alk A 0 B 0) : A = B := by
  have L : Wk.Like (sucD A) (sucD B) (fun i j => i < A.length ∧ j < B.length ∧ Alk A i B j) := by
    refine ⟨⟨pA, pB, h⟩, fun i j q => ?_, fun i j k q1 q2 => aB j k q1.2.1 q2.2.1 (q1.2.2.symm.trans q2.2.2), fun i j k q1 q2 => aA i j q1.1 q2.1 (q1.2.2.trans q2.2.2.symm)⟩
    obtain ⟨hi, hj, T, t, bs⟩ := q
    rw [RA.stp hi, RB.stp hj] at t
    obtain ⟨d, e, h1, h2, h3, h4, h5⟩ := bs i j t
    have s1 : sucD A i = natsN d := by unfold sucD; rw [List.getD_eq_getElem?_getD, h1]; rfl
    have s2 : sucD B j = natsN e := by unfold sucD; rw [List.getD_eq_getElem?_getD, h2]; rfl
    rw [s1, s2]
    unfold natsN
    refine ⟨by rw [List.length_map, List.length_map]; exact h4, fun p x y ex ey => ?_⟩
    rw [List.getElem?_map] at ex ey
    obtain ⟨a, ha, rfl⟩ := Option.map_eq_some_iff.mp ex
    obtain ⟨c, hc, rfl⟩ := Option.map_eq_some_iff.mp ey
    have a1 := RA.fit.nexts h1 (List.mem_of_getElem? ha)
    have c1 := RB.fit.nexts h2 (List.mem_of_getElem? hc)
    exact ⟨by omega, by omega, T, h5 p a c ha hc, bs⟩
  obtain ⟨eN, r, s⟩ := Wk.canon_one L cA cB
  refine List.ext_getElem? fun i => ?_
  by_cases hi : i < A.length
  · obtain ⟨_, hj, T, t, bs⟩ := r i hi
    rw [RA.stp hi, RB.stp hj] at t
    obtain ⟨d, e, h1, h2, h3, _⟩ := bs i i t
    have s0 := s i hi
    unfold sucD at s0
    rw [List.getD_eq_getElem?_getD, List.getD_eq_getElem?_getD, h1, h2] at s0
    rw [h1, h2, row_same RA RB h1 h2 h3 s0]
  · rw [List.getElem?_eq_none (by omega), List.getElem?_eq_none (by omega)]
/-- alike bodies have one least body -/
theorem least_one {rsA rsB A B : List RowD} {bA bB : Nat} (fA : Fit rsA) (fB : Fit rsB) (hA : bA < rsA.length) (hB : bB < rsB.length) (mA : MergedOf rsA bA A) (mB : MergedOf rsB bB B) (h : Alk rsA bA rsB bB) : A = B := by
  obtain ⟨RA, pA, cA⟩ := merged_rest fA hA mA
  obtain ⟨RB, pB, cB⟩ := merged_rest fB hB mB
  exact one_least RA RB pA pB cA cB (fun i j hi hj => merged_apart fA hA mA hi hj) (fun i j hi hj => merged_apart fB hB mB hi hj) (((merged_alk fA hA mA).symm.trans h).trans (merged_alk fB hB mB))
/-- .. and whoever is such a one is it -/
theorem least_is {rs rs' A : List RowD} {b : Nat} (f : Fit rs) (hb : b < rs.length) (mo : MergedOf rs b rs') (RA : Rest1 A) (pA : 0 < A.length) (cA : Wk.Canon (sucD A) A.length) (aA : ∀ i j, i < A.length → j < A.length → Alk A i A j → i = j) (h : Alk rs b A 0) : rs' = A := by
  obtain ⟨RB, pB, cB⟩ := merged_rest f hb mo
  exact one_least RB RA pB pA cB cA (fun i j hi hj => merged_apart f hb mo hi hj) aA ((merged_alk f hb mo).symm.trans h)
end Mine

set_option maxRecDepth 100000
set_option maxHeartbeats 4000000
namespace Mine
open PySem L2
abbrev s_b_operations : Stmt := inClass (top 53) 1
abbrev s_b_rows : Stmt := inClass (top 53) 2
abbrev s_b_asked : Stmt := inClass (top 53) 4
abbrev s_b_words : Stmt := inClass (top 53) 5
abbrev s_b_start : Stmt := inClass (top 53) 3
abbrev s_b_hangs : Stmt := inClass (top 53) 6
abbrev s_b_len : Stmt := inClass (top 53) 8
abbrev s_b_getitem : Stmt := inClass (top 53) 9
def spB (CB CM : Addr) (c : Ops → List RowD → Nat → Hp → VK → Prop) : Sp := fun vs H Q _ => ∃ (bd : Addr) (o : Ops) (rs : List RowD) (b : Nat), vs = [.ref bd] ∧ BodyAt CB CM H bd o rs b ∧ c o rs b H Q
abbrev spBOps (CB CM : Addr) : Sp := spB CB CM fun o _ _ H Q => ∀ o', Ordered o o' → New H (.dK (opsK o')) Q
abbrev spBRows (CB CM : Addr) : Sp := spB CB CM fun _ rs _ H Q => ∀ xs, Rows H xs rs → New H (.lst xs) Q
abbrev spBAsked (CB CM : Addr) : Sp := spB CB CM fun _ rs b H Q => ∀ as, IsFirsts "ask" (restD rs b) as → New H (.lst (as.map V.str)) Q
abbrev spBWords (CB CM : Addr) : Sp := spB CB CM fun _ rs b H Q => ∀ as, IsFirsts "end" (restD rs b) as → New H (.lst (as.map V.str)) Q
abbrev spBStart (CB CM : Addr) : Sp := spB CB CM fun _ _ b H Q => Q (.int b) H
abbrev spBHangs (CB CM : Addr) : Sp := spB CB CM fun _ rs b H Q => Q (.bl (endlessD rs b)) H
abbrev spBLen (CB CM : Addr) : Sp := spB CB CM fun _ rs _ H Q => Q (.int rs.length) H
section
variable {P : Program} {w : World} {K : PySem.W.Frag} {mg : Str → Option Value} {base : Heap}
variable {fII fIW CB CM : Addr}
theorem sc_b_operations : FnScope ["self"] ["self"] (defScope s_b_operations) := ⟨rfl, rfl, rfl, by decide +kernel, rfl, by decide +kernel, by decide +kernel⟩
theorem ok_b_operations {f : Addr} {fd : FuncData} (F : Fun K "operations" "Body.operations" s_b_operations f fd) (T : TxtF K mg fII fIW) (TB : BodyC K CB) (TM : MachC K CM) : FnOk P w K mg base CX0 1 f fd ["self"] (spBOps CB CM) := by
  refine F.ok sc_b_operations (fun vs H Q E h => ?_) (fun cdv A outer s H vs Q E hr h => ?_)
  · obtain ⟨bd, o, rs, b, rfl, _⟩ := h
    rfl
  · obtain ⟨bd, o, rs, b, rfl, ⟨m, t, l, sa, aa, ea, o', xs, as, es, h⟩, k⟩ := h
    obtain ⟨dx, fb, h1, h2⟩ := h.hb
    obtain ⟨dm, fm, h3, mf⟩ := h.hm
    refine ⟨_, (pss_one (ps_ret (pe_callTy call_dictD (by rfl) T.b_dict (by decide +kernel) (pa_cons (pe_fld (pe_fld (pv 0) rfl) rfl) pa_nil)))), ?_⟩
    exact ⟨_, rfl, bd, CB, dx, fb, _, rfl, h1, TB.cl, TB.n_machine, h2, m, CM, dm, fm, _, rfl, h3, TM.cl, TM.n_counts, mf.counts, t, opsK o', rfl, .inl h.ht, fun p n => (k o' h.ord).at n⟩
theorem sc_b_rows : FnScope ["self"] ["self"] (defScope s_b_rows) := ⟨rfl, rfl, rfl, by decide +kernel, rfl, by decide +kernel, by decide +kernel⟩
theorem ok_b_rows {f : Addr} {fd : FuncData} (F : Fun K "rows" "Body.rows" s_b_rows f fd) (T : TxtF K mg fII fIW) (TB : BodyC K CB) (TM : MachC K CM) : FnOk P w K mg base CX0 1 f fd ["self"] (spBRows CB CM) := by
  refine F.ok sc_b_rows (fun vs H Q E h => ?_) (fun cdv A outer s H vs Q E hr h => ?_)
  · obtain ⟨bd, o, rs, b, rfl, _⟩ := h
    rfl
  · obtain ⟨bd, o, rs, b, rfl, ⟨m, t, l, sa, aa, ea, o', xs, as, es, h⟩, k⟩ := h
    obtain ⟨dx, fb, h1, h2⟩ := h.hb
    obtain ⟨dm, fm, h3, mf⟩ := h.hm
    refine ⟨_, (pss_one (ps_ret (pe_callTy call_listG (by rfl) T.b_list (by decide +kernel) (pa_cons (pe_fld (pe_fld (pv 0) rfl) rfl) pa_nil)))), ?_⟩
    exact ⟨_, rfl, bd, CB, dx, fb, _, rfl, h1, TB.cl, TB.n_machine, h2, m, CM, dm, fm, _, rfl, h3, TM.cl, TM.n_lines, mf.lines, l, xs, rfl, .inl h.hl, k xs h.rows⟩
theorem sc_b_asked : FnScope ["self"] ["self"] (defScope s_b_asked) := ⟨rfl, rfl, rfl, by decide +kernel, rfl, by decide +kernel, by decide +kernel⟩
theorem ok_b_asked {f : Addr} {fd : FuncData} (F : Fun K "asked" "Body.asked" s_b_asked f fd) (T : TxtF K mg fII fIW) (TB : BodyC K CB) (TM : MachC K CM) : FnOk P w K mg base CX0 1 f fd ["self"] (spBAsked CB CM) := by
  refine F.ok sc_b_asked (fun vs H Q E h => ?_) (fun cdv A outer s H vs Q E hr h => ?_)
  · obtain ⟨bd, o, rs, b, rfl, _⟩ := h
    rfl
  · obtain ⟨bd, o, rs, b, rfl, ⟨m, t, l, sa, aa, ea, o', xs, as, es, h⟩, k⟩ := h
    obtain ⟨dx, fb, h1, h2⟩ := h.hb
    obtain ⟨dm, fm, h3, mf⟩ := h.hm
    refine ⟨_, (pss_one (ps_ret (pe_callTy call_listG (by rfl) T.b_list (by decide +kernel) (pa_cons (pe_fld (pe_fld (pv 0) rfl) rfl) pa_nil)))), ?_⟩
    exact ⟨_, rfl, bd, CB, dx, fb, _, rfl, h1, TB.cl, TB.n_machine, h2, m, CM, dm, fm, _, rfl, h3, TM.cl, TM.n_asks, mf.asks, aa, _, rfl, .inl mf.ha, k as mf.fa⟩
theorem sc_b_words : FnScope ["self"] ["self"] (defScope s_b_words) := ⟨rfl, rfl, rfl, by decide +kernel, rfl, by decide +kernel, by decide +kernel⟩
theorem ok_b_words {f : Addr} {fd : FuncData} (F : Fun K "words" "Body.words" s_b_words f fd) (T : TxtF K mg fII fIW) (TB : BodyC K CB) (TM : MachC K CM) : FnOk P w K mg base CX0 1 f fd ["self"] (spBWords CB CM) := by
  refine F.ok sc_b_words (fun vs H Q E h => ?_) (fun cdv A outer s H vs Q E hr h => ?_)
  · obtain ⟨bd, o, rs, b, rfl, _⟩ := h
    rfl
  · obtain ⟨bd, o, rs, b, rfl, ⟨m, t, l, sa, aa, ea, o', xs, as, es, h⟩, k⟩ := h
    obtain ⟨dx, fb, h1, h2⟩ := h.hb
    obtain ⟨dm, fm, h3, mf⟩ := h.hm
    refine ⟨_, (pss_one (ps_ret (pe_callTy call_listG (by rfl) T.b_list (by decide +kernel) (pa_cons (pe_fld (pe_fld (pv 0) rfl) rfl) pa_nil)))), ?_⟩
    exact ⟨_, rfl, bd, CB, dx, fb, _, rfl, h1, TB.cl, TB.n_machine, h2, m, CM, dm, fm, _, rfl, h3, TM.cl, TM.n_endings, mf.endings, ea, _, rfl, .inl mf.he, k es mf.fe⟩
theorem sc_b_start : FnScope ["self"] ["self"] (defScope s_b_start) := ⟨rfl, rfl, rfl, by decide +kernel, rfl, by decide +kernel, by decide +kernel⟩
theorem ok_b_start {f : Addr} {fd : FuncData} (F : Fun K "start" "Body.start" s_b_start f fd) (T : TxtF K mg fII fIW) (TB : BodyC K CB) (TM : MachC K CM) : FnOk P w K mg base CX0 1 f fd ["self"] (spBStart CB CM) := by
  refine F.ok sc_b_start (fun vs H Q E h => ?_) (fun cdv A outer s H vs Q E hr h => ?_)
  · obtain ⟨bd, o, rs, b, rfl, _⟩ := h
    rfl
  · obtain ⟨bd, o, rs, b, rfl, ⟨m, t, l, sa, aa, ea, o', xs, as, es, h⟩, k⟩ := h
    obtain ⟨dx, fb, h1, h2⟩ := h.hb
    obtain ⟨dm, fm, h3, mf⟩ := h.hm
    refine ⟨_, (pss_one (ps_ret (pe_fld (pe_fld (pv 0) rfl) rfl))), ?_⟩
    exact ⟨_, rfl, bd, CB, dx, fb, _, rfl, h1, TB.cl, TB.n_machine, h2, m, CM, dm, fm, _, rfl, h3, TM.cl, TM.n_begin, mf.begin, k⟩
theorem sc_b_hangs : FnScope ["self"] ["self"] (defScope s_b_hangs) := ⟨rfl, rfl, rfl, by decide +kernel, rfl, by decide +kernel, by decide +kernel⟩
theorem ok_b_hangs {f : Addr} {fd : FuncData} (F : Fun K "hangs" "Body.hangs" s_b_hangs f fd) (T : TxtF K mg fII fIW) (TB : BodyC K CB) (TM : MachC K CM) : FnOk P w K mg base CX0 1 f fd ["self"] (spBHangs CB CM) := by
  refine F.ok sc_b_hangs (fun vs H Q E h => ?_) (fun cdv A outer s H vs Q E hr h => ?_)
  · obtain ⟨bd, o, rs, b, rfl, _⟩ := h
    rfl
  · obtain ⟨bd, o, rs, b, rfl, ⟨m, t, l, sa, aa, ea, o', xs, as, es, h⟩, k⟩ := h
    obtain ⟨dx, fb, h1, h2⟩ := h.hb
    obtain ⟨dm, fm, h3, mf⟩ := h.hm
    refine ⟨_, (pss_one (ps_ret (pe_fld (pe_fld (pv 0) rfl) rfl))), ?_⟩
    exact ⟨_, rfl, bd, CB, dx, fb, _, rfl, h1, TB.cl, TB.n_machine, h2, m, CM, dm, fm, _, rfl, h3, TM.cl, TM.n_endless, mf.endless, k⟩
theorem sc_b_len : FnScope ["self"] ["self"] (defScope s_b_len) := ⟨rfl, rfl, rfl, by decide +kernel, rfl, by decide +kernel, by decide +kernel⟩
theorem ok_b_len {f : Addr} {fd : FuncData} (F : Fun K "__len__" "Body.__len__" s_b_len f fd) (T : TxtF K mg fII fIW) (TB : BodyC K CB) (TM : MachC K CM) : FnOk P w K mg base CX0 1 f fd ["self"] (spBLen CB CM) := by
  refine F.ok sc_b_len (fun vs H Q E h => ?_) (fun cdv A outer s H vs Q E hr h => ?_)
  · obtain ⟨bd, o, rs, b, rfl, _⟩ := h
    rfl
  · obtain ⟨bd, o, rs, b, rfl, ⟨m, t, l, sa, aa, ea, o', xs, as, es, h⟩, k⟩ := h
    obtain ⟨dx, fb, h1, h2⟩ := h.hb
    obtain ⟨dm, fm, h3, mf⟩ := h.hm
    refine ⟨_, (pss_one (ps_ret (pe_callB call_len_seq (by rfl) T.b_len PySem.boot_len (pa_cons (pe_fld (pe_fld (pv 0) rfl) rfl) pa_nil)))), ?_⟩
    exact ⟨_, rfl, bd, CB, dx, fb, _, rfl, h1, TB.cl, TB.n_machine, h2, m, CM, dm, fm, _, rfl, h3, TM.cl, TM.n_lines, mf.lines, l, xs, rfl, .inl (SqL.of h.hl), by rw [h.rows.1]; exact k⟩
end
end Mine

set_option maxRecDepth 100000
set_option maxHeartbeats 4000000
namespace Mine
open PySem L2
abbrev sSrc : Stmt := top 64
abbrev sNext : Stmt := top 65
abbrev sOne : Stmt := top 66
/-- the source of the draws: three ints -/
def SrcAt (H : Hp) (a : Addr) : Prop := ∃ x y z : Int, H a = some (.lst [.int x, .int y, .int z])
/-- all but what stands at a is as it was -/
def But (H H' : Hp) (a : Addr) : Prop := ∀ b o, b ≠ a → H b = some o → H' b = some o
theorem but_upd {H : Hp} {a : Addr} (o : HO) : But H (upd H a o) a := fun b u ne e => by
  rw [upd_ne ne]
  exact e
theorem But.trans {H H1 H2 : Hp} {a : Addr} (s : But H H1 a) (t : But H1 H2 a) : But H H2 a := fun b o ne e => t b o ne (s b o ne e)
theorem But.same {H H1 H2 : Hp} {a : Addr} (s : Same H H1) (t : But H1 H2 a) (n : H a = none) : Same H H2 := fun b o e => t b o (ne_of_none e n) (s b o e)
def spSrc : Sp := fun vs H Q _ => ∃ c : Int, vs = [.int c] ∧ ∀ (x y z : Int), New H (.lst [.int x, .int y, .int z]) Q
def spNext : Sp := fun vs H Q _ => ∃ (a : Addr) (m x y z : Int), vs = [.ref a, .int m] ∧ 0 < m ∧ m.natAbs < 2 ^ 200 ∧ H a = some (.lst [.int x, .int y, .int z]) ∧
  ∀ (n x' y' z' : Int) (H' : Hp), 0 ≤ n → n < m → But H H' a → H' a = some (.lst [.int x', .int y', .int z']) → Q (.int n) H'
/-- one of the things in a list -/
def spOne : Sp := fun vs H Q _ => ∃ (a b : Addr) (xs : List V) (x y z : Int), vs = [.ref a, .ref b] ∧ H a = some (.lst [.int x, .int y, .int z]) ∧ H b = some (.lst xs) ∧ 0 < xs.length ∧ xs.length ≤ 1000 ∧ a ≠ b ∧
  ∀ (v : V) (x' y' z' : Int) (H' : Hp), v ∈ xs → But H H' a → H' a = some (.lst [.int x', .int y', .int z']) → Q v H'
structure TxtD (K : PySem.W.Frag) (mg : Str → Option Value) (fN : Addr) : Prop where
  int : mg "int" = none
  len : mg "len" = none
  gN : mg "_law_next" = some (.ref fN)
  kN : PySem.W.keepIn K (.ref fN) = true
theorem at0 {α : Type} {a : α} {l : List α} : atI (a :: l) 0 = some a := atI_nat (j := 0) rfl
theorem at1 {α : Type} {a b : α} {l : List α} : atI (a :: b :: l) 1 = some b := atI_nat (j := 1) rfl
theorem at2 {α : Type} {a b c : α} {l : List α} : atI (a :: b :: c :: l) 2 = some c := atI_nat (j := 2) rfl
theorem ix0 {n : Nat} : ixN (n + 1) 0 = some 0 := by
  unfold ixN
  rw [if_pos (Int.le_refl _), if_pos (by omega)]
  rfl
theorem ix2 {n : Nat} : ixN (n + 3) 2 = some 2 := by
  unfold ixN
  rw [if_pos (by decide), if_pos (by omega)]
  rfl
theorem modM {m : Int} (h : 0 < m) (u : Int) : 0 ≤ u % m ∧ u % m < m := ⟨Int.emod_nonneg _ (by omega), Int.emod_lt_of_pos _ h⟩
section
variable {P : Program} {w : World} {K : PySem.W.Frag} {mg : Str → Option Value} {base : Heap}
variable {fN : Addr}
theorem scSrc : FnScope ["_law_cell"] ["_law_cell"] (defScope sSrc) := ⟨rfl, rfl, rfl, by decide +kernel, rfl, by decide +kernel, by decide +kernel⟩
theorem ok_src {f : Addr} {fd : FuncData} (F : Fun K "_law_source_of" "_law_source_of" sSrc f fd) (T : TxtD K mg fN) : FnOk P w K mg base CX0 1 f fd ["_law_cell"] spSrc := by
  refine F.ok scSrc (fun vs H Q E h => ?_) (fun cdv A outer s H vs Q E hr h => ?_)
  · obtain ⟨c, rfl, _⟩ := h
    rfl
  · obtain ⟨c, rfl, k⟩ := h
    refine ⟨_, (pss_cons (ps_set (i := 0) scSrc.nd rfl (Or.inl rfl) (pe_ifExp (pt_cmpR op_ge (pv 0) pe_int (nomark _)) (pv 0) (pe_op op_sub (pe_op op_sub pe_int (pe_op op_mul pe_int (pv 0))) pe_int)))
      (pss_one (ps_ret (pe_lstG (pa_cons (pe_op op_mul (pv 0) (pe_callTy call_int1 (by rfl) T.int (by decide +kernel) (pa_cons (pe_cmpR op_ge (pv 0) (pe_op op_pow pe_int pe_int) (nomark _)) pa_nil))) (pa_cons (pe_op op_mod (pe_callTy call_int1 (by rfl) T.int (by decide +kernel) (pa_cons (pv 0) pa_nil)) pe_int) (pa_cons pe_int pa_nil))))))), ?_⟩
    refine ⟨_, rfl, _, _, rfl, rfl, _, rfl, ?_⟩
    refine ite2 (fun _ => ?_) (fun _ => ?_)
    · refine ⟨_, rfl, _, rfl, _, rfl, _, _, rfl, rfl, ⟨by decide, by decide, by decide⟩, _, _, rfl, rfl, .inr ⟨_, rfl, _, _, rfl, rfl, .inr (by split <;> decide), ?_⟩⟩
      refine ⟨_, rfl, .inl ⟨_, rfl, _, _, rfl, rfl, (by show (0 : Int) < 2147483647; decide), ?_⟩⟩
      exact ⟨by show 3 ≤ sizeLine; decide, fun p H' n s e => k _ _ _ p H' n s e⟩
    · refine ⟨_, rfl, _, _, rfl, rfl, .inl (by decide), _, _, rfl, rfl, _, _, rfl, rfl, ?_⟩
      refine ⟨_, rfl, _, rfl, _, _, rfl, rfl, ⟨by decide, by decide, by decide⟩, _, _, rfl, rfl, .inr ⟨_, rfl, _, _, rfl, rfl, .inr (by split <;> decide), ?_⟩⟩
      refine ⟨_, rfl, .inl ⟨_, rfl, _, _, rfl, rfl, (by show (0 : Int) < 2147483647; decide), ?_⟩⟩
      exact ⟨by show 3 ≤ sizeLine; decide, fun p H' n s e => k _ _ _ p H' n s e⟩
theorem scNext : FnScope ["_law_source", "_law_many", "_law_found", "_law_number"] ["_law_source", "_law_many"] (defScope sNext) := ⟨rfl, rfl, rfl, by decide +kernel, rfl, by decide +kernel, by decide +kernel⟩
theorem divOk {i m : Int} (h0 : 0 < m) (h : m.natAbs < 2 ^ 200) : CDivW i m := wide_div (i := i) h0 h (by decide) (by decide)
theorem ok_next {f : Addr} {fd : FuncData} (F : Fun K "_law_next" "_law_next" sNext f fd) (T : TxtD K mg fN) : FnOk P w K mg base CX0 1 f fd ["_law_source", "_law_many"] spNext := by
  refine F.ok scNext (fun vs H Q E h => ?_) (fun cdv A outer s H vs Q E hr h => ?_)
  · obtain ⟨a, m, x, y, z, rfl, _⟩ := h
    rfl
  · obtain ⟨a, m, x, y, z, rfl, m0, m1, ha, k⟩ := h
    refine ⟨_, (pss_cons (ps_if (pt_cmpR op_gt (pe_ix ix_list (pv 0) pe_int (fun _ _ => rfl)) pe_int (nomark _)) (pss_cons (ps_set (i := 2) scNext.nd rfl (Or.inl rfl) (pe_op op_mod (pe_callTy call_int1 (by rfl) T.int (by decide +kernel) (pa_cons (pe_ix ix_list (pv 0) pe_int (fun _ _ => rfl)) pa_nil)) (pv 1)))
      (pss_cons (ps_asg (pe_op op_fdivW (pe_ix ix_list (pv 0) pe_int (fun _ _ => rfl)) (pv 1)) (pg_sub (pv 0) pe_int set_list))
      (pss_one (ps_ret (pv 2))))) pss_nil)
      (pss_cons (ps_asg (pe_op op_add (pe_ix ix_list (pv 0) pe_int (fun _ _ => rfl)) pe_int) (pg_sub (pv 0) pe_int set_list))
      (pss_cons (ps_set (i := 3) scNext.nd rfl (Or.inl rfl) (pe_op op_mod (pe_callTy call_int1 (by rfl) T.int (by decide +kernel) (pa_cons (pe_op op_add (pe_op op_add (pe_ix ix_list (pv 0) pe_int (fun _ _ => rfl)) (pe_op op_mul pe_int (pe_ix ix_list (pv 0) pe_int (fun _ _ => rfl)))) pe_int) pa_nil)) pe_int))
      (pss_cons (ps_set (i := 3) scNext.nd rfl (Or.inl rfl) (pe_op op_mod (pe_callTy call_int1 (by rfl) T.int (by decide +kernel) (pa_cons (pe_op op_mul (pv 3) pe_int) pa_nil)) pe_int))
      (pss_cons (ps_set (i := 3) scNext.nd rfl (Or.inl rfl) (pe_op op_mod (pe_callTy call_int1 (by rfl) T.int (by decide +kernel) (pa_cons (pe_op op_mul (pv 3) (pe_op op_add (pe_op op_fdiv (pv 3) pe_int) pe_int)) pa_nil)) pe_int))
      (pss_cons (ps_set (i := 3) scNext.nd rfl (Or.inl rfl) (pe_op op_mod (pe_callTy call_int1 (by rfl) T.int (by decide +kernel) (pa_cons (pe_op op_mul (pv 3) (pe_op op_add (pe_op op_fdiv (pv 3) pe_int) pe_int)) pa_nil)) pe_int))
      (pss_one (ps_ret (pe_op op_mod (pe_callTy call_int1 (by rfl) T.int (by decide +kernel) (pa_cons (pe_op op_fdiv (pv 3) pe_int) pa_nil)) (pv 1)))))))))), ?_⟩
    refine ⟨_, rfl, _, _, _, _, rfl, rfl, SqL.of ha, at0, _, _, rfl, rfl, _, rfl, ?_⟩
    refine ite2 (fun _ => ?_) (fun _ => ?_)
    · refine ⟨_, rfl, _, _, _, _, rfl, rfl, SqL.of ha, at0, .inl ⟨_, rfl, _, rfl, _, _, rfl, rfl, m0, ?_⟩⟩
      refine ⟨_, rfl, _, _, _, _, rfl, rfl, SqL.of ha, at0, _, rfl, _, _, rfl, rfl, divOk m0 m1, _, rfl, _, _, _, 0, rfl, rfl, ha, ix0, ?_⟩
      exact ⟨_, rfl, k _ _ y z _ (modM m0 _).1 (modM m0 _).2 (but_upd _) upd_same⟩
    · refine ⟨_, rfl, _, _, _, _, rfl, rfl, SqL.of ha, at2, _, _, rfl, rfl, _, rfl, _, _, _, 2, rfl, rfl, ha, ix2, ?_⟩
      have bd : ∀ u : Int, (-(2 ^ 64) < u % 2147483647 ∧ u % 2147483647 < 2 ^ 64) := fun u => by
        have := modM (show (0 : Int) < 2147483647 by decide) u
        omega
      refine ⟨_, rfl, _, _, _, _, rfl, rfl, SqL.of upd_same, at1, _, rfl, _, _, _, _, rfl, rfl, SqL.of upd_same, at2, _, _, rfl, rfl, .inl (by decide), _, _, rfl, rfl, _, _, rfl, rfl, .inl ⟨_, rfl, _, _, rfl, rfl, (by show (0 : Int) < 2147483647; decide), ?_⟩⟩
      refine ⟨_, rfl, _, _, rfl, rfl, .inr (by decide), .inl ⟨_, rfl, _, _, rfl, rfl, (by show (0 : Int) < 2147483647; decide), ?_⟩⟩
      refine ⟨_, rfl, _, rfl, _, _, rfl, rfl, ⟨by decide, by decide⟩, _, _, rfl, rfl, _, _, rfl, rfl, .inl (bd _), .inl ⟨_, rfl, _, _, rfl, rfl, (by show (0 : Int) < 2147483647; decide), ?_⟩⟩
      refine ⟨_, rfl, _, rfl, _, _, rfl, rfl, ⟨by decide, by decide⟩, _, _, rfl, rfl, _, _, rfl, rfl, .inl (bd _), .inl ⟨_, rfl, _, _, rfl, rfl, (by show (0 : Int) < 2147483399; decide), ?_⟩⟩
      refine ⟨_, rfl, _, _, rfl, rfl, ⟨by decide, by decide⟩, .inl ⟨_, rfl, _, rfl, _, _, rfl, rfl, m0, ?_⟩⟩
      exact k _ x y _ _ (modM m0 _).1 (modM m0 _).2 (but_upd _) upd_same
theorem scOne : FnScope ["_law_source", "_law_some"] ["_law_source", "_law_some"] (defScope sOne) := ⟨rfl, rfl, rfl, by decide +kernel, rfl, by decide +kernel, by decide +kernel⟩
theorem ok_one {f : Addr} {fd fdN : FuncData} (F : Fun K "_law_one" "_law_one" sOne f fd) (T : TxtD K mg fN) (FN : Fun K "_law_next" "_law_next" sNext fN fdN) (bN : Binds K fdN ["_law_source", "_law_many"] []) : FnOk P w K mg base CX0 2 f fd ["_law_source", "_law_some"] spOne := by
  have GN : FnOk P w K mg base CX0 1 fN fdN ["_law_source", "_law_many"] spNext := ok_next FN T
  refine F.ok scOne (fun vs H Q E h => ?_) (fun cdv A outer s H vs Q E hr h => ?_)
  · obtain ⟨a, b, xs, x, y, z, rfl, _⟩ := h
    rfl
  · obtain ⟨a, b, xs, x, y, z, rfl, ha, hb, l0, l1, ne, k⟩ := h
    have hr1 : Room 1 _ := hr.mono (by decide)
    refine ⟨_, (pss_one (ps_ret (pe_ix ix_list (pv 1) (pe_call GN hr1 (by rfl) T.gN T.kN bN .nil pass0 (pa_cons (pv 0) (pa_cons (pe_callB call_len_seq (by rfl) T.len PySem.boot_len (pa_cons (pv 1) pa_nil)) pa_nil))) (fun _ _ => rfl)))), ?_⟩
    refine ⟨_, rfl, _, rfl, _, rfl, _, _, rfl, .inl (SqL.of hb), a, _, x, y, z, rfl, by omega, ?_, ha, fun n x' y' z' H' n0 n1 bt he => ?_⟩
    · have : (((xs.length : Nat) : Int)).natAbs = xs.length := rfl
      rw [this]
      exact Nat.lt_of_le_of_lt l1 (by decide)
    · have hn : n.toNat < xs.length := by omega
      have ei : xs[n.toNat]? = some xs[n.toNat] := List.getElem?_eq_getElem hn
      have e2 : ((n.toNat : Nat) : Int) = n := Int.toNat_of_nonneg n0
      have ea : atI xs ((n.toNat : Nat) : Int) = some xs[n.toNat] := atI_nat ei
      rw [e2] at ea
      exact ⟨_, _, _, _, rfl, rfl, SqL.of (bt _ _ ne.symm hb), ea, k _ _ _ _ _ (List.getElem_mem hn) bt he⟩
end
end Mine

set_option maxRecDepth 100000
set_option maxHeartbeats 4000000
/-! things in groups: each leads to another of its group, the last one to itself. Plain mathematics -/
namespace Wk
def put (ls : Nat → Nat) (k v : Nat) : Nat → Nat := fun i => if i = k then v else ls i
theorem put_same (ls : Nat → Nat) (k v : Nat) : put ls k v k = v := if_pos rfl
theorem put_ne {ls : Nat → Nat} {k v i : Nat} (h : i ≠ k) : put ls k v i = ls i := if_neg h
structure Rep (n : Nat) (ls rank rep : Nat → Nat) : Prop where
  lt : ∀ i, i < n → ls i < n
  rlt : ∀ i, i < n → rep i < n
  up : ∀ i, i < n → rep (ls i) = rep i
  own : ∀ i, i < n → ls i = i → rep i = i
  dn : ∀ i, i < n → ls i ≠ i → rank (ls i) < rank i
theorem Rep.root {n : Nat} {ls rank rep : Nat → Nat} (r : Rep n ls rank rep) : ∀ (m i : Nat), rank i ≤ m → i < n → ls (rep i) = rep i ∧ rep (rep i) = rep i
  | m, i, hm, hi => by
    by_cases h : ls i = i
    · have := r.own i hi h
      rw [this]
      exact ⟨h, this⟩
    · have d := r.dn i hi h
      cases m with
      | zero => omega
      | succ m =>
        have := Rep.root r m (ls i) (by omega) (r.lt i hi)
        rw [r.up i hi] at this
        exact this
theorem Rep.root' {n : Nat} {ls rank rep : Nat → Nat} (r : Rep n ls rank rep) {i : Nat} (hi : i < n) : ls (rep i) = rep i ∧ rep (rep i) = rep i := r.root _ i (Nat.le_refl _) hi
theorem Rep.half {n : Nat} {ls rank rep : Nat → Nat} (r : Rep n ls rank rep) {i : Nat} (hi : i < n) (h : ls i ≠ i) :
    Rep n (put ls i (ls (ls i))) rank rep ∧ rank (ls (ls i)) < rank i ∧ rep (ls (ls i)) = rep i := by
  have h1 := r.dn i hi h
  have hl := r.lt i hi
  have h2 : rank (ls (ls i)) < rank i := by
    by_cases z : ls (ls i) = ls i
    · rw [z]
      exact h1
    · have := r.dn _ hl z
      omega
  have h3 : rep (ls (ls i)) = rep i := by rw [r.up _ hl, r.up i hi]
  refine ⟨⟨fun j hj => ?_, r.rlt, fun j hj => ?_, fun j hj e => ?_, fun j hj e => ?_⟩, h2, h3⟩
  · by_cases z : j = i
    · subst z
      rw [put_same]
      exact r.lt _ hl
    · rw [put_ne z]
      exact r.lt j hj
  · by_cases z : j = i
    · subst z
      rw [put_same]
      exact h3
    · rw [put_ne z]
      exact r.up j hj
  · by_cases z : j = i
    · subst z
      rw [put_same] at e
      rw [e] at h2
      omega
    · rw [put_ne z] at e
      exact r.own j hj e
  · by_cases z : j = i
    · subst z
      rw [put_same]
      exact h2
    · rw [put_ne z] at e ⊢
      exact r.dn j hj e
def joinR (rep : Nat → Nat) (a b : Nat) : Nat → Nat := fun i => if rep i = b then a else rep i
theorem Rep.join {n : Nat} {ls rank rep : Nat → Nat} (r : Rep n ls rank rep) {a b : Nat} (ha : a < n) (hb : b < n) (ea : rep a = a) (eb : rep b = b) : ∃ rank', Rep n (put ls b a) rank' (joinR rep a b) := by
  by_cases ab : a = b
  · subst ab
    have l : ls a = a := by
      have := (r.root' ha).1
      rw [ea] at this
      exact this
    have e1 : put ls a a = ls := by
      funext i
      unfold put
      split
      · rename_i z
        rw [z, l]
      · rfl
    have e2 : joinR rep a a = rep := by
      funext i
      unfold joinR
      split
      · rename_i z
        exact z.symm
      · rfl
    rw [e1, e2]
    exact ⟨rank, r⟩
  · have ra : joinR rep a b a = a := by
      unfold joinR
      rw [ea, if_neg ab]
    have rb : joinR rep a b b = a := by
      unfold joinR
      rw [eb, if_pos rfl]
    refine ⟨fun i => if rep i = b then rank i + rank a + 1 else rank i, ⟨fun j hj => ?_, fun j hj => ?_, fun j hj => ?_, fun j hj e => ?_, fun j hj e => ?_⟩⟩
    · by_cases z : j = b
      · subst z
        rw [put_same]
        exact ha
      · rw [put_ne z]
        exact r.lt j hj
    · unfold joinR
      split
      · exact ha
      · exact r.rlt j hj
    · by_cases z : j = b
      · subst z
        rw [put_same, ra, rb]
      · rw [put_ne z]
        unfold joinR
        rw [r.up j hj]
    · by_cases z : j = b
      · subst z
        rw [put_same] at e
        exact absurd e ab
      · rw [put_ne z] at e
        have := r.own j hj e
        unfold joinR
        rw [this, if_neg z]
    · by_cases z : j = b
      · subst z
        rw [put_same]
        show (if rep a = j then rank a + rank a + 1 else rank a) < (if rep j = j then rank j + rank a + 1 else rank j)
        rw [ea, if_neg ab, eb, if_pos rfl]
        omega
      · rw [put_ne z] at e ⊢
        have d := r.dn j hj e
        show (if rep (ls j) = b then rank (ls j) + rank a + 1 else rank (ls j)) < (if rep j = b then rank j + rank a + 1 else rank j)
        rw [r.up j hj]
        split <;> omega
/-- how many groups there are -/
def groups (n : Nat) (rep : Nat → Nat) : Nat := (List.range n).countP fun i => decide (rep i = i)
theorem groups_le (n : Nat) (rep : Nat → Nat) : groups n rep ≤ n := by
  have := List.countP_le_length (p := fun i => decide (rep i = i)) (l := List.range n)
  rw [List.length_range] at this
  exact this
theorem count_less {b : Nat} {p q : Nat → Bool} (hb : p b = true) (hq : q b = false) (he : ∀ i, i ≠ b → q i = p i) : ∀ l : List Nat, l.Nodup → b ∈ l → l.countP q + 1 = l.countP p
  | [], _, h => nomatch h
  | x :: l, nd, h => by
    rw [List.nodup_cons] at nd
    have out : ∀ m : List Nat, b ∉ m → m.countP q = m.countP p := fun m hm => List.countP_congr fun y hy => by rw [he y (fun z => hm (z ▸ hy))]
    by_cases z : x = b
    · subst z
      rw [List.countP_cons_of_pos hb, List.countP_cons_of_neg (by rw [hq]; simp), out l nd.1]
    · have hm : b ∈ l := (List.mem_cons.mp h).elim (fun y => absurd y.symm z) id
      have ih := count_less hb hq he l nd.2 hm
      rw [List.countP_cons, List.countP_cons, he x z]
      omega
theorem groups_join {n : Nat} {ls rank rep : Nat → Nat} (r : Rep n ls rank rep) {a b : Nat} (hb : b < n) (ea : rep a = a) (eb : rep b = b) (ab : a ≠ b) : groups n (joinR rep a b) + 1 = groups n rep := by
  refine count_less (b := b) (decide_eq_true eb) ?_ (fun i hi => ?_) _ List.nodup_range (List.mem_range.mpr hb)
  · refine decide_eq_false ?_
    unfold joinR
    rw [eb, if_pos rfl]
    exact ab
  · refine decide_eq_decide.mpr ?_
    unfold joinR
    by_cases z : rep i = b
    · rw [if_pos z]
      constructor
      · intro y
        rw [← y, ea] at z
        exact absurd z ab
      · intro y
        rw [z] at y
        exact absurd y.symm hi
    · rw [if_neg z]
theorem Rep.start (n : Nat) : Rep n (fun i => i) (fun _ => 0) (fun i => i) := ⟨fun _ h => h, fun _ h => h, fun _ _ => rfl, fun _ _ _ => rfl, fun _ _ h => absurd rfl h⟩
end Wk

set_option maxRecDepth 100000
set_option maxHeartbeats 4000000
namespace Mine
open PySem L2
def rowStr : RowD → Str
  | .ask op _ => op
  | .go _ => "go"
  | .fin w => w
/-! where a walk lands that goes on at most so often -/
theorem stp_at {rs : List RowD} (ok : GoOk rs) {i : Nat} (hi : i < rs.length) (t : Nat) (h : isGo rs (way rs t i) = false) : stp rs i = way rs t i := by
  have lt : way rs t i < rs.length := Mach.itr_lt (nxt_lt ok) t i hi
  rw [← stp_way ok t i hi]
  exact Mach.stop_fix (nxt_lt ok) lt (nxt_fix h)
theorem all_go {rs : List RowD} (ok : GoOk rs) {i : Nat} (hi : i < rs.length) (h : ∀ t, t ≤ rs.length → isGo rs (way rs t i) = true) : ∀ t, isGo rs (way rs t i) = true := by
  obtain ⟨a, b, ab, bn, e⟩ := Mach.again (nxt_lt ok) hi
  intro t
  induction t using Nat.strongRecOn with
  | _ t ih =>
    by_cases z : t ≤ rs.length
    · exact h t z
    · have e1 : way rs t i = way rs (t - (b - a)) i := by
        have h1 : way rs t i = Mach.itr (nxt rs) (t - b) (way rs b i) := by
          have := Mach.itr_add (nxt rs) b (t - b) i
          rw [show b + (t - b) = t by omega] at this
          exact this
        have h2 : way rs (t - (b - a)) i = Mach.itr (nxt rs) (t - b) (way rs a i) := by
          have := Mach.itr_add (nxt rs) a (t - b) i
          rw [show a + (t - b) = t - (b - a) by omega] at this
          exact this
        rw [h1, h2]
        show Mach.itr _ _ (Mach.itr _ _ _) = Mach.itr _ _ (Mach.itr _ _ _)
        rw [e]
      rw [e1]
      exact ih _ (by omega)
theorem stp_go {rs : List RowD} (ok : GoOk rs) {i : Nat} (hi : i < rs.length) (h : ∀ t, t ≤ rs.length → isGo rs (way rs t i) = true) : isGo rs (stp rs i) = true := by
  obtain ⟨k, e⟩ := Mach.stop_mem (nxt rs) rs.length i
  have : stp rs i = way rs (rs.length + k) i := by
    show Mach.stopAt _ _ _ = Mach.itr _ _ _
    rw [e, Mach.itr_add]
  rw [this]
  exact all_go ok hi h _
/-- the row at which it lands, None in a ring -/
def landV (rs : List RowD) (i : Nat) : V := if isGo rs (stp rs i) then .non else .int (stp rs i : Int)
/-- what is shown there -/
def showD : RowD → List Str
  | .ask op _ => ["ask", op]
  | .go _ => ["hang"]
  | .fin w => ["end", w]
def showAt (rs : List RowD) (j : Nat) : List Str := match rs[j]? with
  | some d => showD d
  | none => []
def stepsAt (rs : List RowD) (j : Nat) : List Int := match rs[j]? with
  | some d => nextsD d
  | none => []
theorem showAt_of {rs : List RowD} {j : Nat} {d : RowD} (e : rs[j]? = some d) : showAt rs j = showD d := by
  unfold showAt
  rw [e]
theorem stepsAt_of {rs : List RowD} {j : Nat} {d : RowD} (e : rs[j]? = some d) : stepsAt rs j = nextsD d := by
  unfold stepsAt
  rw [e]
def landD (d : RowD) (j : Nat) : V := match d with
  | .go _ => .non
  | _ => .int (j : Int)
theorem landV_of {rs : List RowD} {i : Nat} {d : RowD} (e : rs[stp rs i]? = some d) : landV rs i = landD d (stp rs i) := by
  unfold landV isGo
  rw [e]
  cases d <;> rfl
theorem one_ok (v : V) : [v].length ≤ sizeLine := by rw [sizeLine_eq]; exact Nat.succ_le_of_lt (by decide)
theorem two_ok (v u : V) : [v, u].length ≤ sizeLine := by rw [sizeLine_eq]; exact Nat.le_trans (show 2 ≤ 2 from Nat.le_refl 2) (by decide)
end Mine

set_option maxRecDepth 100000
set_option maxHeartbeats 4000000
namespace Mine
open PySem L2
/-- a history's pairs stand there -/
def HPs (H : Hp) (vs : List V) (ws : List (Str × Nat)) : Prop := vs.length = ws.length ∧ ∀ (k : Nat) (p : Str × Nat), ws[k]? = some p → ∃ q, vs[k]? = some (.ref q) ∧ H q = some (.tup [.str p.1, .int (p.2 : Int)])
theorem HPs.same {H H' : Hp} {vs : List V} {ws : List (Str × Nat)} (s : Same H H') (h : HPs H vs ws) : HPs H' vs ws := ⟨h.1, fun k p e => by
  obtain ⟨q, h1, h2⟩ := h.2 k p e
  exact ⟨q, h1, s _ _ h2⟩⟩
theorem HPs.nil (H : Hp) : HPs H [] [] := ⟨rfl, fun k p e => by simp at e⟩
theorem HPs.snoc {H : Hp} {vs : List V} {ws : List (Str × Nat)} {q : Addr} {p : Str × Nat} (h : HPs H vs ws) (e : H q = some (.tup [.str p.1, .int (p.2 : Int)])) : HPs H (vs ++ [.ref q]) (ws ++ [p]) := by
  refine ⟨by rw [List.length_append, List.length_append, h.1]; rfl, fun k r er => ?_⟩
  by_cases z : k < ws.length
  · rw [List.getElem?_append_left z] at er
    obtain ⟨q', h1, h2⟩ := h.2 k r er
    exact ⟨q', by rw [List.getElem?_append_left (by rw [h.1]; exact z)]; exact h1, h2⟩
  · have hk : k = ws.length := by
      have := (List.getElem?_eq_some_iff.mp er).1
      rw [List.length_append] at this
      simp at this
      omega
    subst hk
    rw [List.getElem?_append_right (Nat.le_refl _), Nat.sub_self] at er
    have er2 : p = r := Option.some.inj er
    subst er2
    exact ⟨q, by rw [List.getElem?_append_right (by rw [h.1]; exact Nat.le_refl _), h.1, Nat.sub_self]; rfl, e⟩
def HistL (H : Hp) (h : Addr) (ws : List (Str × Nat)) : Prop := ∃ vs, H h = some (.lst vs) ∧ HPs H vs ws
theorem mark_show {d : RowD} : (markD d).map kV = (showD d).map V.str := by cases d <;> rfl
abbrev s_can_come : Stmt := top 60
abbrev s_shown : Stmt := top 59
theorem opLook_perm {o o' : Ops} (nd : (o.map (·.1)).Nodup) (p : o'.Perm o) {x : Str} {m : Int} (h : opLook o x = some m) : opLook o' x = some m :=
  look_mem ((p.map (·.1)).nodup_iff.mpr nd) (x, m) (p.mem_iff.mpr (opLook_in h))
/-- where a history leads, from a row of rest on -/
def goTo (rs : List RowD) : Nat → List (Str × Nat) → Option Nat
  | i, [] => some i
  | i, (op, k) :: ws => match rs[i]? with
    | some (.ask op' ns) => if op = op' then (match ns[k]? with
      | some a => goTo rs (stp rs a.toNat) ws
      | none => none) else none
    | _ => none
theorem goTo_cons {rs : List RowD} {i j : Nat} {op : Str} {k : Nat} {ws : List (Str × Nat)} (h : goTo rs i ((op, k) :: ws) = some j) : ∃ ns a, rs[i]? = some (.ask op ns) ∧ ns[k]? = some a ∧ goTo rs (stp rs a.toNat) ws = some j := by
  unfold goTo at h
  cases e : rs[i]? with
  | none => rw [e] at h; cases h
  | some d =>
    rw [e] at h
    cases d with
    | go n => cases h
    | fin u => cases h
    | ask op' ns =>
      dsimp only at h
      by_cases z : op = op'
      · rw [if_pos z] at h
        subst z
        cases g : ns[k]? with
        | none => rw [g] at h; cases h
        | some a =>
          rw [g] at h
          exact ⟨ns, a, rfl, g, h⟩
      · rw [if_neg z] at h
        cases h
def AskOk (o : Ops) (rs : List RowD) : Prop := ∀ (i : Nat) (op : Str) (ns : List Int), rs[i]? = some (.ask op ns) → opLook o op = some (ns.length : Int)
def spCanCome : Sp := fun vs H Q _ => ∃ (t : Addr) (ln : V) (c : Addr) (op : Str) (k : Nat) (ns : List Int) (o : Ops), vs = [.ref t, ln, .ref c] ∧ H t = some (.tup [.str op, .int (k : Int)]) ∧ TRow H ln (.ask op ns) ∧ H c = some (.dK (opsK o)) ∧ opLook o op = some (ns.length : Int) ∧ k < ns.length ∧
  ∀ H' : Hp, Same H H' → Q (.bl true) H'
def spShown (CB CM : Addr) : Sp := fun vs H Q _ => ∃ (bd h : Addr) (o : Ops) (rs : List RowD) (b : Nat) (ws : List (Str × Nat)) (j : Nat), vs = [.ref bd, .ref h] ∧ BodyAt CB CM H bd o rs b ∧ HistL H h ws ∧ (o.map (·.1)).Nodup ∧ AskOk o rs ∧ Fit rs ∧ goTo rs (stp rs b) ws = some j ∧
  ∀ (t : Addr) (H' : Hp), Same H H' → H' t = some (.tup ((showAt rs j).map V.str)) → Q (.ref t) H'
section
variable {P : Program} {w : World} {K : PySem.W.Frag} {mg : Str → Option Value} {base : Heap}
variable {fII fIW CB CM a_is_row a_is_index a_is_name a_is_text_in a_are_counts a_word_of a_are_nexts a_is_line a_line_of a_are_operations a_can_come a_shows : Addr}
theorem sc_can_come : FnScope ["told", "line", "counts"] ["told", "line", "counts"] (defScope s_can_come) := ⟨rfl, rfl, rfl, by decide +kernel, rfl, by decide +kernel, by decide +kernel⟩
theorem ok_can_come {f : Addr} {fd fd_is_row fd_is_index : FuncData} (F : Fun K "can_come" "can_come" s_can_come f fd) (T : TxtF K mg fII fIW) (TG : TxtG K mg a_is_row a_is_index a_is_name a_is_text_in a_are_counts a_word_of a_are_nexts a_is_line a_line_of a_are_operations)
    (GRw : FnOk P w K mg base CX0 1 a_is_row fd_is_row ["thing"] (spIsRow K)) (b_is_row : Binds K fd_is_row ["thing"] [])
    (GIx : FnOk P w K mg base CX0 3 a_is_index fd_is_index ["thing", "many"] (spIndex K)) (b_is_index : Binds K fd_is_index ["thing", "many"] []) : FnOk P w K mg base CX0 4 f fd ["told", "line", "counts"] spCanCome := by
  refine F.ok sc_can_come (fun vs H Q E h => ?_) (fun cdv A outer s H vs Q E hr h => ?_)
  · obtain ⟨t, ln, c, op, k, ns, o, rfl, _⟩ := h
    rfl
  · obtain ⟨t, ln, c, op, m, ns, o, rfl, ht, row, hc, look, lt, k⟩ := h
    refine ⟨_, (pss_cons (ps_if (PW.pt (pw_or (pt_cmpR op_ne (pe_ix ix_tup (pv 1) pe_int (fun _ _ => rfl)) pe_str (nomark _)) (pw_or (pt_not (pt_val (pe_call GRw (hr.mono (by decide)) (by rfl) TG.g_is_row TG.k_is_row b_is_row .nil pass0 (pa_cons (pv 0) pa_nil)))) (pw_or1 (pt_cmpR op_ne (pe_callB call_len_seq (by rfl) T.b_len PySem.boot_len (pa_cons (pv 0) pa_nil)) pe_int (nomark _)))))) (pss_one (ps_ret pe_bl)) pss_nil)
      (pss_one (ps_ret (pe_and (pe_callB call_isi (by rfl) T.b_isinstance (by decide +kernel) (pa_cons (pe_ix ix_seq (pv 0) pe_int (fun _ _ => rfl)) (pa_cons (pe_bltn (v := .ty "str") rfl T.b_str (by decide +kernel) rfl) pa_nil))) (pe_and (pe_cmpR op_eq (pe_ix ix_seq (pv 0) pe_int (fun _ _ => rfl)) (pe_ix ix_tup (pv 1) pe_int (fun _ _ => rfl)) (nomark _)) (pe_one (pe_call GIx (hr.mono (by decide)) (by rfl) TG.g_is_index TG.k_is_index b_is_index .nil pass0 (pa_cons (pe_ix ix_seq (pv 0) pe_int (fun _ _ => rfl)) (pa_cons (pe_dget (hu_of hr) (pv 2) (pe_ix ix_tup (pv 1) pe_int (fun _ _ => rfl)) (fun _ _ => rfl)) pa_nil))))))))), ?_⟩
    obtain ⟨ra, rt, rfl, hr1, hr2⟩ := row
    refine ⟨_, rfl, _, _, _, _, rfl, rfl, .inl (.inl hr1), at0', rfl, _, rfl, ?_⟩
    rw [strEq]
    refine iteF ?_
    have ha : SqA H t [V.str op, V.int (m : Int)] := .inr ht
    obtain ⟨ty, b, e⟩ := btSeq (K := K) ha
    refine ⟨_, rfl, _, ty, rfl, b, fun H1 s1 => ⟨_, rfl, ?_⟩⟩
    rw [e]
    refine iteF ?_
    have ha1 := s1.sqa ha
    refine ⟨_, rfl, t, _, rfl, ha1.sq, rfl, _, rfl, ?_⟩
    refine iteF ?_
    refine ⟨_, rfl, ha1.ix at0' ⟨_, _, _, _, _, rfl, .ty _, (btStr (K := K) (H := H1) op).ty, (btStr (K := K) (H := H1) op).kit (u := "str") (by decide), _, rfl, ?_⟩⟩
    refine iteT ?_
    refine ⟨_, rfl, ha1.ix at0' ⟨_, rfl, _, _, _, _, rfl, rfl, .inl (.inl (s1 _ _ hr1)), at1', rfl, _, rfl, ?_⟩⟩
    rw [strEq]
    refine iteT ?_
    refine ⟨_, rfl, ha1.ix at1' ⟨_, rfl, _, rfl, _, _, _, _, rfl, rfl, .inl (.inl (s1 _ _ hr1)), at1', c, _, rfl, .inl ⟨opsK o, .inr op, .inl (s1 _ _ hc), rfl, by rw [val_ops, look]; rfl⟩, _, _, _, rfl, btInt _, ?_⟩⟩
    rw [inW_int (by omega) (by omega)]
    exact k _ s1
theorem sc_shown : FnScope ["body", "history", "machine", "at", "index", "told"] ["body", "history"] (defScope s_shown) := ⟨rfl, rfl, rfl, by decide +kernel, rfl, by decide +kernel, by decide +kernel⟩
theorem ok_shown {f : Addr} {fd fd_is_row fd_can_come fd_shows : FuncData} (F : Fun K "shown" "shown" s_shown f fd) (T : TxtF K mg fII fIW) (TG : TxtG K mg a_is_row a_is_index a_is_name a_is_text_in a_are_counts a_word_of a_are_nexts a_is_line a_line_of a_are_operations) (TB : BodyC K CB) (TM : MachC K CM) (h_enum : mg "enumerate" = none)
    (GRw : FnOk P w K mg base CX0 1 a_is_row fd_is_row ["thing"] (spIsRow K)) (b_is_row : Binds K fd_is_row ["thing"] [])
    (GC : FnOk P w K mg base CX0 4 a_can_come fd_can_come ["told", "line", "counts"] spCanCome) (b_can_come : Binds K fd_can_come ["told", "line", "counts"] []) (g_can_come : mg "can_come" = some (.ref a_can_come)) (k_can_come : PySem.W.keepIn K (.ref a_can_come) = true)
    (GS : FnOk P w K mg base CX0 1 a_shows fd_shows ["line"] spShowsK) (b_shows_of : Binds K fd_shows ["line"] []) (g_shows_of : mg "shows_of" = some (.ref a_shows)) (k_shows_of : PySem.W.keepIn K (.ref a_shows) = true) : FnOk P w K mg base CX0 5 f fd ["body", "history"] (spShown CB CM) := by
  refine F.ok sc_shown (fun vs H Q E h => ?_) (fun cdv A outer s H vs Q E hr h => ?_)
  · obtain ⟨bd, h, o, rs, b, ws, j, rfl, _⟩ := h
    rfl
  · obtain ⟨bd, h, o, rs, b, ws, jend, rfl, B, ⟨hv, hh, ph⟩, nd, askok, fit, go, k⟩ := h
    refine ⟨_, (pss_cons (ps_set (i := 2) sc_shown.nd rfl (Or.inl rfl) (pe_fld (pv 0) rfl))
      (pss_cons (ps_if (pt_not (pt_val (pe_call GRw (hr.mono (by decide)) (by rfl) TG.g_is_row TG.k_is_row b_is_row .nil pass0 (pa_cons (pv 1) pa_nil)))) (pss_one ps_no) pss_nil)
      (pss_cons (ps_set (i := 3) sc_shown.nd rfl (Or.inl rfl) (pe_ix ix_list (pe_fld (pv 2) rfl) (pe_fld (pv 2) rfl) (fun _ _ => rfl)))
      (pss_cons (ps_for PassesOwn.never rfl (pi_enum (by rfl) h_enum (pa_cons (pv 1) pa_nil)) (pg_tup rfl (pgs_cons (pg_name (i := 4) sc_shown.nd rfl (Or.inl rfl)) (pgs_cons (pg_name (i := 5) sc_shown.nd rfl (Or.inl rfl)) pgs_nil))) (pss_cons (ps_if (pt_not (pt_val (pe_call GC (hr.mono (by decide)) (by rfl) g_can_come k_can_come b_can_come .nil pass0 (pa_cons (pv 5) (pa_cons (pe_ix ix_list (pe_fld (pv 2) rfl) (pv 3) (fun _ _ => rfl)) (pa_cons (pe_fld (pv 2) rfl) pa_nil)))))) (pss_one ps_no) pss_nil) (pss_one (ps_set (i := 3) sc_shown.nd rfl (Or.inl rfl) (pe_ix ix_list (pe_fld (pv 2) rfl) (pe_ix ix_tup (pe_ix ix_tup (pe_ix ix_list (pe_fld (pv 2) rfl) (pv 3) (fun _ _ => rfl)) pe_int (fun _ _ => rfl)) (pe_ix ix_tup (pv 5) pe_int (fun _ _ => rfl)) (fun _ _ => rfl)) (fun _ _ => rfl))))))
      (pss_one (ps_ret (pe_call GS (hr.mono (by decide)) (by rfl) g_shows_of k_shows_of b_shows_of .nil pass0 (pa_cons (pe_ix ix_list (pe_fld (pv 2) rfl) (pv 3) (fun _ _ => rfl)) pa_nil)))))))), ?_⟩
    obtain ⟨m, t, l, sa, aa, ea, o', xs, as, es, ⟨⟨dx, fb, hb, lb⟩, ⟨dm, fm, hm, mf⟩, htab, ord, hl, rows, blt, _⟩⟩ := B
    refine ⟨_, rfl, bd, CB, dx, fb, _, rfl, hb, TB.cl, TB.n_machine, lb, ?_⟩
    have hha : SqA H h hv := .inl hh
    obtain ⟨ty, bt, e⟩ := btSeq (K := K) hha
    refine ⟨_, rfl, _, ty, rfl, bt, fun H1 s1 => ⟨_, rfl, ?_⟩⟩
    rw [e]
    refine iteF ?_
    refine ⟨_, rfl, m, CM, dm, fm, _, rfl, s1 _ _ hm, TM.cl, TM.n_stops, mf.stops, _, rfl, m, CM, dm, fm, _, rfl, s1 _ _ hm, TM.cl, TM.n_begin, mf.begin, ?_⟩
    refine ⟨sa, _, _, _, rfl, rfl, SqL.of (s1 _ _ mf.hs), fl_at blt, ?_⟩
    have go0 : stp rs b < rs.length := stp_lt fit.go blt
    refine ⟨_, rfl, h, hv, rfl, SqL.of (s1 _ _ hh), for_enumL (K := K) (a := h) (xs := hv) (fun i σ H' => ∃ (a : Nat) (v4 v5 : Option V), σ = [some (.ref bd), some (.ref h), some (.ref m), some (.int (a : Int)), v4, v5] ∧ Same H1 H' ∧ a < rs.length ∧ goTo rs a (ws.drop i) = some jend) ⟨stp rs b, none, none, rfl, Same.refl _, go0, go⟩ (fun i σ H' _ z => by obtain ⟨_, _, _, _, z, _⟩ := z; exact SqL.of (z _ _ (s1 _ _ hh))) ?_ ?_⟩
    · rintro i x σ Ha T' Hb hxi ⟨a, v4, v5, rfl, sa', lt', go'⟩ nT sT eT
      have hi : i < ws.length := by
        have := (List.getElem?_eq_some_iff.mp hxi).1
        rw [← ph.1]
        exact this
      obtain ⟨p, ep⟩ : ∃ p, ws[i]? = some p := ⟨_, List.getElem?_eq_getElem hi⟩
      obtain ⟨q, vq, hq⟩ := ph.2 i p ep
      rw [hxi] at vq
      cases vq
      have ed : ws.drop i = p :: ws.drop (i + 1) := by
        rw [List.drop_eq_getElem_cons hi]
        have := List.getElem?_eq_getElem hi
        rw [ep] at this
        rw [← Option.some.inj this]
      rw [ed] at go'
      obtain ⟨ns, z, er, ez, go2⟩ := goTo_cons go'
      obtain ⟨x, hx1, hx2⟩ := rows.2 _ _ er
      have s0b : Same H Hb := s1.trans (sa'.trans sT)
      have ltk := (List.getElem?_eq_some_iff.mp ez).1
      refine ⟨T', _, rfl, .inl (.inl eT), rfl, _, _, rfl, _, _, rfl, rfl, ?_⟩
      refine ⟨_, rfl, _, rfl, m, CM, dm, fm, _, rfl, s0b _ _ hm, TM.cl, TM.n_lines, mf.lines, _, rfl, l, _, _, _, rfl, rfl, SqL.of (s0b _ _ hl), atI_nat hx1, ?_⟩
      refine ⟨_, rfl, m, CM, dm, fm, _, rfl, s0b _ _ hm, TM.cl, TM.n_counts, mf.counts, ?_⟩
      refine ⟨q, x, t, p.1, p.2, ns, o', rfl, s0b _ _ hq, hx2.same s0b, s0b _ _ htab, opLook_perm nd ord.1 (askok _ _ _ er), ltk, fun H2 s2 => ⟨_, rfl, ?_⟩⟩
      refine iteF ?_
      have s02 := s0b.trans s2
      obtain ⟨ra, rt, rfl, hr1, hr2⟩ := hx2
      obtain ⟨z0, z1⟩ := fit.nexts er (show z ∈ nextsD (.ask p.1 ns) from List.mem_of_getElem? ez)
      obtain ⟨zn, rfl⟩ : ∃ zn : Nat, z = (zn : Int) := ⟨z.toNat, by omega⟩
      have zlt : zn < rs.length := by omega
      have go3 : goTo rs (stp rs zn) (ws.drop (i + 1)) = some jend := go2
      have ezv : atI (ns.map V.int) ((p.2 : Nat) : Int) = some (V.int (zn : Int)) := atI_nat (by rw [List.getElem?_map, ez]; rfl)
      refine ⟨_, rfl, m, CM, dm, fm, _, rfl, s02 _ _ hm, TM.cl, TM.n_stops, mf.stops, ?_⟩
      refine ⟨_, rfl, m, CM, dm, fm, _, rfl, s02 _ _ hm, TM.cl, TM.n_lines, mf.lines, _, rfl, l, _, _, _, rfl, rfl, SqL.of (s02 _ _ hl), atI_nat hx1, ?_⟩
      refine ⟨_, _, _, _, rfl, rfl, .inl (.inl (s02 _ _ hr1)), at2', ?_⟩
      refine ⟨_, rfl, _, _, _, _, rfl, rfl, .inl (.inl (s02 _ _ hq)), at1', ?_⟩
      refine ⟨_, _, _, _, rfl, rfl, .inl (.inl (s02 _ _ hr2)), ezv, ?_⟩
      refine ⟨sa, _, _, _, rfl, rfl, SqL.of (s02 _ _ mf.hs), fl_at zlt, ?_⟩
      exact ⟨_, _, _, rfl, sa'.trans (sT.trans s2), stp_lt fit.go zlt, go3⟩
    · rintro σ Hb ⟨a, v4, v5, rfl, sa', lt', go'⟩
      rw [ph.1, List.drop_length] at go'
      have ea : a = jend := Option.some.inj go'
      subst ea
      have s0b : Same H Hb := s1.trans sa'
      obtain ⟨d, ed⟩ : ∃ d, rs[a]? = some d := ⟨_, List.getElem?_eq_getElem lt'⟩
      obtain ⟨x, hx1, hx2⟩ := rows.2 _ _ ed
      rw [showAt_of ed] at k
      have hx3 := hx2.same s0b
      obtain ⟨q, rfl⟩ : ∃ q, x = .ref q := by
        cases d with
        | ask op ns => obtain ⟨q, _, e, _⟩ := hx2; exact ⟨q, e⟩
        | go n => obtain ⟨q, e, _⟩ := hx2; exact ⟨q, e⟩
        | fin u => obtain ⟨q, e, _⟩ := hx2; exact ⟨q, e⟩
      exact ⟨_, rfl, m, CM, dm, fm, _, rfl, s0b _ _ hm, TM.cl, TM.n_lines, mf.lines, _, rfl, l, _, _, _, rfl, rfl, SqL.of (s0b _ _ hl), atI_nat hx1, .ref q, d, rfl, hx3, fun t' H' s' e' => k t' H' (s0b.trans s') (by rw [← mark_show]; exact e')⟩
end
end Mine

set_option maxRecDepth 100000
set_option maxHeartbeats 4000000
namespace Mine
open PySem L2
/-! k05's tree: 63 rows that ask, 64 words -/
def letT (i : Nat) : Str := match i with
  | 0 => "a" | 1 => "b" | 2 => "c" | 3 => "d" | 4 => "e" | 5 => "f" | 6 => "g" | _ => "h"
def wordT (i : Nat) : Str := letT (i / 8) ++ letT (i % 8)
def treeR : List RowD := ((List.range 63).map fun (i : Nat) => RowD.ask "coin" [((2 * i + 1 : Nat) : Int), ((2 * i + 2 : Nat) : Int)]) ++ (List.range 64).map fun i => RowD.fin (wordT i)
theorem tree_len : treeR.length = 127 := by
  unfold treeR
  rw [List.length_append, List.length_map, List.length_map, List.length_range, List.length_range]
theorem tree_ask {i : Nat} (h : i < 63) : treeR[i]? = some (.ask "coin" [((2 * i + 1 : Nat) : Int), ((2 * i + 2 : Nat) : Int)]) := by
  unfold treeR
  rw [List.getElem?_append_left (by rw [List.length_map, List.length_range]; exact h), List.getElem?_map, List.getElem?_range h]
  rfl
theorem tree_fin {i : Nat} (h : 63 ≤ i) (h2 : i < 127) : treeR[i]? = some (.fin (wordT (i - 63))) := by
  unfold treeR
  rw [List.getElem?_append_right (by rw [List.length_map, List.length_range]; exact h), List.length_map, List.length_range, List.getElem?_map, List.getElem?_range (by omega)]
  rfl
theorem tree_rest : Rest1 treeR := by
  refine ⟨fun i d e n hn => ?_, fun i k e => ?_⟩
  · have hi := (List.getElem?_eq_some_iff.mp e).1
    rw [tree_len] at hi ⊢
    by_cases h : i < 63
    · rw [tree_ask h] at e
      obtain rfl := Option.some.inj e
      rcases List.mem_cons.mp hn with z | z
      · rw [z]
        omega
      · rw [List.mem_singleton.mp z]
        omega
    · rw [tree_fin (by omega) hi] at e
      obtain rfl := Option.some.inj e
      exact nomatch hn
  · have hi := (List.getElem?_eq_some_iff.mp e).1
    rw [tree_len] at hi
    by_cases h : i < 63
    · rw [tree_ask h] at e
      cases e
    · rw [tree_fin (by omega) hi] at e
      cases e
theorem tree_suc {i : Nat} (h : i < 63) : sucD treeR i = [2 * i + 1, 2 * i + 2] := by
  unfold sucD
  rw [List.getD_eq_getElem?_getD, tree_ask h]
  rfl
theorem tree_suc0 {i : Nat} (h : 63 ≤ i) (h2 : i < 127) : sucD treeR i = [] := by
  unfold sucD
  rw [List.getD_eq_getElem?_getD, tree_fin h h2]
  rfl
theorem tree_up : ∀ t, t ≤ 63 → Wk.Upto (sucD treeR) t (2 * t + 1)
  | 0, _ => .zero
  | t + 1, h => by
    refine .step (tree_up t (by omega)) (by omega) ?_
    rw [tree_suc (by omega)]
    show (if 2 * t + 1 < 2 * t + 1 then _ else if 2 * t + 1 = 2 * t + 1 then Wk.adv (2 * t + 1 + 1) [2 * t + 2] else none) = _
    rw [if_neg (Nat.lt_irrefl _), if_pos rfl]
    show (if 2 * t + 2 < 2 * t + 1 + 1 then _ else if 2 * t + 2 = 2 * t + 1 + 1 then Wk.adv (2 * t + 1 + 1 + 1) [] else none) = _
    rw [if_neg (by omega), if_pos (by omega)]
    show some (2 * t + 1 + 1 + 1) = some (2 * (t + 1) + 1)
    congr 1
theorem tree_up2 : ∀ k, k ≤ 64 → Wk.Upto (sucD treeR) (63 + k) 127
  | 0, _ => tree_up 63 (Nat.le_refl _)
  | k + 1, h => by
    refine Wk.Upto.step (t := 63 + k) (m := 127) (tree_up2 k (by omega)) (by omega) ?_
    rw [tree_suc0 (by omega) (by omega)]
    rfl
theorem tree_canon : Wk.Canon (sucD treeR) treeR.length := by
  rw [tree_len]
  exact tree_up2 64 (Nat.le_refl _)
theorem alk_refl {A : List RowD} (R : Rest1 A) {i : Nat} (h : i < A.length) : Alk A i A i := by
  refine ⟨fun x y => x = y ∧ x < A.length, by rw [R.stp h]; exact ⟨rfl, h⟩, fun x y q => ?_⟩
  obtain ⟨rfl, hx⟩ := q
  have e : A[x]? = some A[x] := List.getElem?_eq_getElem hx
  refine ⟨_, _, e, e, rfl, rfl, fun p a c ha hc => ?_⟩
  rw [ha] at hc
  obtain rfl := Option.some.inj hc
  obtain ⟨a0, a1⟩ := R.fit.nexts e (List.mem_of_getElem? ha)
  rw [R.stp (by omega)]
  exact ⟨rfl, by omega⟩
/-- one step of likeness among rows of rest -/
theorem Alk.step {A B : List RowD} (RA : Rest1 A) (RB : Rest1 B) {i j : Nat} (hi : i < A.length) (hj : j < B.length) (h : Alk A i B j) : ∃ d e, A[i]? = some d ∧ B[j]? = some e ∧ markD d = markD e ∧ (nextsD d).length = (nextsD e).length ∧ ∀ (p : Nat) (a c : Int), (nextsD d)[p]? = some a → (nextsD e)[p]? = some c → Alk A a.toNat B c.toNat := by
  obtain ⟨T, t, bs⟩ := h
  rw [RA.stp hi, RB.stp hj] at t
  obtain ⟨d, e, h1, h2, h3, h4, h5⟩ := bs i j t
  exact ⟨d, e, h1, h2, h3, h4, fun p a c ha hc => ⟨T, h5 p a c ha hc, bs⟩⟩
theorem words_apart : ∀ i, i < 64 → ∀ j, j < 64 → wordT i = wordT j → i = j := by
  have : ((List.range 64).all fun i => (List.range 64).all fun j => !decide (wordT i = wordT j) || decide (i = j)) = true := by decide +kernel
  intro i hi j hj e
  have h1 := List.all_eq_true.mp (List.all_eq_true.mp this i (List.mem_range.mpr hi)) j (List.mem_range.mpr hj)
  rw [decide_eq_true e] at h1
  simpa using h1
theorem tree_apart : ∀ (k i : Nat), 127 - i = k → i < 127 → ∀ j, j < 127 → Alk treeR i treeR j → i = j := by
  intro k
  induction k using Nat.strongRecOn with
  | _ k ih =>
    intro i hk hi j hj h
    obtain ⟨d, e, h1, h2, h3, h4, h5⟩ := h.step tree_rest tree_rest (by rw [tree_len]; exact hi) (by rw [tree_len]; exact hj)
    by_cases zi : i < 63 <;> by_cases zj : j < 63
    · rw [tree_ask zi] at h1
      rw [tree_ask zj] at h2
      obtain rfl := Option.some.inj h1
      obtain rfl := Option.some.inj h2
      have q := h5 0 _ _ rfl rfl
      rw [Int.toNat_natCast, Int.toNat_natCast] at q
      have := ih (127 - (2 * i + 1)) (by omega) (2 * i + 1) rfl (by omega) (2 * j + 1) (by omega) q
      omega
    · rw [tree_ask zi] at h1
      rw [tree_fin (by omega) hj] at h2
      obtain rfl := Option.some.inj h1
      obtain rfl := Option.some.inj h2
      exact absurd h4 (by show ¬ 2 = 0; decide)
    · rw [tree_fin (by omega) hi] at h1
      rw [tree_ask zj] at h2
      obtain rfl := Option.some.inj h1
      obtain rfl := Option.some.inj h2
      exact absurd h4 (by show ¬ 0 = 2; decide)
    · rw [tree_fin (by omega) hi] at h1
      rw [tree_fin (by omega) hj] at h2
      obtain rfl := Option.some.inj h1
      obtain rfl := Option.some.inj h2
      have e1 : wordT (i - 63) = wordT (j - 63) := Sum.inr.inj (List.cons.inj (List.cons.inj h3).2).1
      have := words_apart (i - 63) (by omega) (j - 63) (by omega) e1
      omega
/-- the tree is its own least -/
theorem tree_least {rs' : List RowD} (h : MergedOf treeR 0 rs') : rs' = treeR :=
  least_is tree_rest.fit (by rw [tree_len]; decide) h tree_rest (by rw [tree_len]; decide) tree_canon (fun i j hi hj a => tree_apart _ i rfl (by rw [tree_len] at hi; exact hi) j (by rw [tree_len] at hj; exact hj) a) (alk_refl tree_rest (by rw [tree_len]; decide))
theorem fold_has {x : Str} : ∀ {ds : List RowD} {acc : List Str} {t : Str}, t ∈ acc → t ∈ ds.foldl (takeIn x) acc
  | [], _, _, h => h
  | d :: ds, acc, t, h => by
    rw [List.foldl_cons]
    refine fold_has ?_
    unfold takeIn addStr
    split
    · split
      · exact h
      · exact List.mem_append_left _ h
    · exact h
theorem distinct_has0 {x : Str} : ∀ {ds : List RowD} {acc : List Str} {d : RowD}, d ∈ ds → wordOf d = x → nameOf d ∈ ds.foldl (takeIn x) acc
  | e :: ds, acc, d, h, w => by
    rw [List.foldl_cons]
    rcases List.mem_cons.mp h with z | z
    · subst z
      refine fold_has ?_
      unfold takeIn addStr
      rw [if_pos w]
      split
      · assumption
      · exact List.mem_append_right _ (List.mem_singleton.mpr rfl)
    · exact distinct_has0 z w
theorem distinct_has {x t : Str} {ds : List RowD} {d : RowD} (h : d ∈ ds) (w : wordOf d = x) (e : nameOf d = t := by rfl) : t ∈ distinct x ds := by
  subst e
  exact distinct_has0 h w
/-- what is shown behind six coins -/
def histT (n : Nat) : List (Str × Nat) := [("coin", n / 32 % 2), ("coin", n / 16 % 2), ("coin", n / 8 % 2), ("coin", n / 4 % 2), ("coin", n / 2 % 2), ("coin", n / 1 % 2)]
theorem tree_go {i k : Nat} {ws : List (Str × Nat)} (h : i < 63) (hk : k < 2) : goTo treeR i (("coin", k) :: ws) = goTo treeR (2 * i + 1 + k) ws := by
  have e : goTo treeR i (("coin", k) :: ws) = (match treeR[i]? with
    | some (.ask op' ns) => if ("coin" : Str) = op' then (match ns[k]? with
      | some a => goTo treeR (stp treeR a.toNat) ws
      | none => none) else none
    | _ => none) := rfl
  rw [e, tree_ask h]
  dsimp only
  rw [if_pos rfl]
  rcases (show k = 0 ∨ k = 1 by omega) with rfl | rfl
  · show goTo treeR (stp treeR ((2 * i + 1 : Nat) : Int).toNat) ws = _
    rw [Int.toNat_natCast, tree_rest.stp (by rw [tree_len]; omega)]
  · show goTo treeR (stp treeR ((2 * i + 2 : Nat) : Int).toNat) ws = _
    rw [Int.toNat_natCast, tree_rest.stp (by rw [tree_len]; omega)]
theorem tree_hist {n : Nat} (h : n < 64) : goTo treeR (stp treeR 0) (histT n) = some (63 + n) := by
  rw [tree_rest.stp (by rw [tree_len]; decide)]
  unfold histT
  rw [tree_go (by omega) (by omega), tree_go (by omega) (by omega), tree_go (by omega) (by omega), tree_go (by omega) (by omega), tree_go (by omega) (by omega), tree_go (by omega) (by omega)]
  show some _ = some _
  congr 1
  omega
/-- all rows are met -/
theorem tree_met : ∀ (k i : Nat), i = k → i < 127 → MetR treeR 0 i := by
  intro k
  induction k using Nat.strongRecOn with
  | _ k ih =>
    intro i e hi
    subst e
    by_cases z : i = 0
    · subst z
      have := MetR.start treeR 0
      rw [tree_rest.stp (by rw [tree_len]; decide)] at this
      exact this
    · have p := ih ((i - 1) / 2) (by omega) ((i - 1) / 2) rfl (by omega)
      have q := p.step (tree_ask (i := (i - 1) / 2) (by omega)) (a := (i : Int)) (by
        rcases (show i = 2 * ((i - 1) / 2) + 1 ∨ i = 2 * ((i - 1) / 2) + 2 by omega) with w | w
        · exact List.mem_cons.mpr (.inl (by rw [← w]))
        · exact List.mem_cons.mpr (.inr (List.mem_singleton.mpr (by rw [← w]))))
      rw [Int.toNat_natCast, tree_rest.stp (by rw [tree_len]; exact hi)] at q
      exact q
theorem tree_words {as : List Str} (h : IsFirsts "end" (restD treeR 0) as) : as.length = 64 := by
  have p0 : 0 < treeR.length := by rw [tree_len]; decide
  have mem : ∀ t, t ∈ distinct "end" (restD treeR 0) ↔ t ∈ (List.range 64).map wordT := fun t => by
    constructor
    · intro ht
      refine (distinct_sub (x := "end") (A := (List.range 64).map wordT) (ds := restD treeR 0) (acc := []) (fun _ z => nomatch z) .nil fun d hd e => ?_).1 t ht
      have dm := from_rest tree_rest.fit p0 d hd
      obtain ⟨i, hi⟩ := List.mem_iff_getElem?.mp dm
      have il := (List.getElem?_eq_some_iff.mp hi).1
      rw [tree_len] at il
      by_cases z : i < 63
      · rw [tree_ask z] at hi
        obtain rfl := Option.some.inj hi
        have ne : ("ask" : Str) ≠ "end" := by decide +kernel
        exact absurd (show ("ask" : Str) = "end" from e) ne
      · rw [tree_fin (by omega) il] at hi
        obtain rfl := Option.some.inj hi
        exact List.mem_map.mpr ⟨i - 63, List.mem_range.mpr (by omega), rfl⟩
    · intro ht
      obtain ⟨w, hw, rfl⟩ := List.mem_map.mp ht
      have hw := List.mem_range.mp hw
      have mm : 63 + w ∈ metOf treeR 0 := (metOf_iff tree_rest.fit p0 _).mpr (tree_met _ _ rfl (by omega))
      have dm : RowD.fin (wordT w) ∈ restD treeR 0 := by
        unfold restD
        refine List.mem_map.mpr ⟨63 + w, mm, ?_⟩
        rw [List.getD_eq_getElem?_getD, tree_fin (by omega) (by omega), show 63 + w - 63 = w by omega]
        rfl
      exact distinct_has dm rfl
  have a := str_len (l := as) (l' := (List.range 64).map wordT) (h.1.nodup_iff.mpr (distinct_sub (x := "end") (A := (restD treeR 0).map nameOf) (ds := restD treeR 0) (acc := []) (fun _ z => nomatch z) .nil fun d hd _ => List.mem_map_of_mem hd).2) fun x hx => (mem x).mp (h.1.mem_iff.mp hx)
  have nd : ((List.range 64).map wordT).Nodup := by
    rw [List.Nodup, List.pairwise_map]
    refine List.Pairwise.imp_of_mem (fun {x y} hx hy ne e => ne (words_apart x (List.mem_range.mp hx) y (List.mem_range.mp hy) e)) List.nodup_range
  have b := str_len (l := (List.range 64).map wordT) (l' := as) nd fun x hx => h.1.mem_iff.mpr ((mem x).mpr hx)
  rw [List.length_map, List.length_range] at a b
  omega
end Mine

set_option maxRecDepth 100000
set_option maxHeartbeats 4000000
namespace Mine
open PySem L2
/-! k05's rings: a ring far behind, and none -/
theorem endless_eq (rs : List RowD) (b : Nat) : endlessD rs b = (restD rs b).any fun d => decide (wordOf d = "go") := by
  unfold endlessD inV
  rw [List.any_map]
  rfl
theorem endless_of {rs : List RowD} {b i : Nat} {k : Int} (f : Fit rs) (hb : b < rs.length) (h : MetR rs b i) (e : rs[i]? = some (.go k)) : endlessD rs b = true := by
  rw [endless_eq]
  refine List.any_eq_true.mpr ⟨.go k, ?_, decide_eq_true rfl⟩
  unfold restD
  refine List.mem_map.mpr ⟨i, (metOf_iff f hb i).mpr h, ?_⟩
  rw [List.getD_eq_getElem?_getD, e]
  rfl
theorem endless_no {rs : List RowD} {b : Nat} (f : Fit rs) (hb : b < rs.length) (h : ∀ i, MetR rs b i → isGo rs i = false) : endlessD rs b = false := by
  rw [endless_eq]
  refine List.any_eq_false.mpr fun d hd z => ?_
  unfold restD at hd
  obtain ⟨i, hi, rfl⟩ := List.mem_map.mp hd
  have mi := (metOf_iff f hb i).mp hi
  have g := h i mi
  have il := mi.lt f hb
  rw [List.getD_eq_getElem?_getD, List.getElem?_eq_getElem il] at z
  unfold isGo at g
  rw [List.getElem?_eq_getElem il] at g
  have z : wordOf rs[i] = "go" := of_decide_eq_true z
  cases q : rs[i] with
  | go k => rw [q] at g; cases g
  | ask op ns =>
    rw [q] at z
    have ne : ("ask" : Str) ≠ "go" := by decide +kernel
    exact ne z
  | fin w =>
    rw [q] at z
    have ne : ("end" : Str) ≠ "go" := by decide +kernel
    exact ne z
def ringsR (m x : Nat) : List RowD := [RowD.ask "coin" [1, 2], .fin "good"] ++ ((List.range m).map fun k => RowD.go ((k + 3 : Nat) : Int)) ++ [.go (x : Int)]
theorem rings_len {m x : Nat} : (ringsR m x).length = m + 3 := by
  unfold ringsR
  rw [List.length_append, List.length_append, List.length_map, List.length_range]
  show 2 + m + 1 = _
  omega
theorem rings0 {m x : Nat} : (ringsR m x)[0]? = some (.ask "coin" [1, 2]) := rfl
theorem rings1 {m x : Nat} : (ringsR m x)[1]? = some (.fin "good") := rfl
theorem rings_go {m x k : Nat} (h : k < m) : (ringsR m x)[2 + k]? = some (.go ((k + 3 : Nat) : Int)) := by
  unfold ringsR
  rw [List.getElem?_append_left (by rw [List.length_append, List.length_map, List.length_range]; show 2 + k < 2 + m; omega), List.getElem?_append_right (by show 2 ≤ 2 + k; omega)]
  show (List.map _ _)[2 + k - 2]? = _
  rw [show 2 + k - 2 = k by omega, List.getElem?_map, List.getElem?_range h]
  rfl
theorem rings_last {m x : Nat} : (ringsR m x)[2 + m]? = some (.go (x : Int)) := by
  unfold ringsR
  rw [List.getElem?_append_right (by rw [List.length_append, List.length_map, List.length_range]; show 2 + m ≤ 2 + m; omega), List.length_append, List.length_map, List.length_range]
  show [_][2 + m - (2 + m)]? = _
  rw [Nat.sub_self]
  rfl
theorem rings_cases {m x i : Nat} {d : RowD} (e : (ringsR m x)[i]? = some d) : (i = 0 ∧ d = .ask "coin" [1, 2]) ∨ (i = 1 ∧ d = .fin "good") ∨ (∃ k, k < m ∧ i = 2 + k ∧ d = .go ((k + 3 : Nat) : Int)) ∨ (i = 2 + m ∧ d = .go (x : Int)) := by
  have il := (List.getElem?_eq_some_iff.mp e).1
  rw [rings_len] at il
  rcases (show i = 0 ∨ i = 1 ∨ (2 ≤ i ∧ i - 2 < m) ∨ i = 2 + m by omega) with rfl | rfl | ⟨h1, h2⟩ | rfl
  · exact .inl ⟨rfl, (Option.some.inj e).symm⟩
  · exact .inr (.inl ⟨rfl, (Option.some.inj e).symm⟩)
  · have := rings_go (x := x) h2
    rw [show 2 + (i - 2) = i by omega, e] at this
    exact .inr (.inr (.inl ⟨i - 2, h2, by omega, Option.some.inj this⟩))
  · rw [rings_last] at e
    exact .inr (.inr (.inr ⟨rfl, (Option.some.inj e).symm⟩))
theorem rings_fit {m x : Nat} (h : x < m + 3) : Fit (ringsR m x) := by
  intro i d e n hn
  rw [rings_len]
  rcases rings_cases e with ⟨rfl, rfl⟩ | ⟨rfl, rfl⟩ | ⟨k, hk, rfl, rfl⟩ | ⟨rfl, rfl⟩
  · rcases List.mem_cons.mp hn with z | z
    · omega
    · have := List.mem_singleton.mp z
      omega
  · exact nomatch hn
  · have := List.mem_singleton.mp hn
    omega
  · have := List.mem_singleton.mp hn
    omega
theorem rings_stp {m x i : Nat} (h : x < m + 3) (hi : i < 2) : stp (ringsR m x) i = i := by
  refine Mach.stop_fix (nxt_lt (rings_fit h).go) (by rw [rings_len]; omega) (nxt_fix ?_)
  rcases (show i = 0 ∨ i = 1 by omega) with rfl | rfl <;> rfl
theorem rings_nxt {m x k : Nat} (h : k < m) : nxt (ringsR m x) (2 + k) = 3 + k := by
  unfold nxt
  rw [rings_go h]
  show ((k + 3 : Nat) : Int).toNat = _
  rw [Int.toNat_natCast]
  omega
theorem rings_nxt_last {m x : Nat} : nxt (ringsR m x) (2 + m) = x := by
  unfold nxt
  rw [rings_last]
  exact Int.toNat_natCast _
theorem rings_way {m x f : Nat} : ∀ k, f + k ≤ m → way (ringsR m x) k (2 + f) = 2 + f + k
  | 0, _ => rfl
  | k + 1, h => by
    show Mach.itr _ _ _ = _
    rw [Mach.itr_succ]
    have e := rings_way (m := m) (x := x) (f := f) k (by omega)
    rw [show Mach.itr (nxt (ringsR m x)) k (2 + f) = 2 + f + k from e, show 2 + f + k = 2 + (f + k) by omega, rings_nxt (by omega)]
    omega
/-- far behind it hangs -/
theorem rings_far {m f : Nat} (h : f ≤ m) : stp (ringsR m (2 + f)) 2 = 2 + f := by
  have ok := (rings_fit (m := m) (x := 2 + f) (by omega)).go
  rw [← stp_way ok f 2 (by rw [rings_len]; omega)]
  have e := rings_way (m := m) (x := 2 + f) (f := 0) f (by omega)
  rw [show (2 : Nat) + 0 = 2 from rfl] at e
  rw [e]
  refine Mach.stop_ring (m := m - f + 1) (nxt_lt ok) (by rw [rings_len]; omega) (by omega) ?_ ⟨0, by omega, rfl⟩ fun k hk => ?_
  · rw [Mach.itr_succ]
    have e := rings_way (m := m) (x := 2 + f) (f := f) (m - f) (by omega)
    rw [show Mach.itr (nxt (ringsR m (2 + f))) (m - f) (2 + f) = 2 + f + (m - f) from e, show 2 + f + (m - f) = 2 + m by omega, rings_nxt_last]
  · have e := rings_way (m := m) (x := 2 + f) (f := f) k (by omega)
    rw [show Mach.itr (nxt (ringsR m (2 + f))) k (2 + f) = 2 + f + k from e]
    omega
/-- and here it ends -/
theorem rings_near {m : Nat} : stp (ringsR m 1) 2 = 1 := by
  have ok := (rings_fit (m := m) (x := 1) (by omega)).go
  rw [← stp_way ok (m + 1) 2 (by rw [rings_len]; omega)]
  show stp _ (Mach.itr _ _ _) = _
  rw [Mach.itr_succ]
  have e := rings_way (m := m) (x := 1) (f := 0) m (by omega)
  rw [show (2 : Nat) + 0 = 2 from rfl] at e
  rw [show Mach.itr (nxt (ringsR m 1)) m 2 = 2 + m from e, rings_nxt_last]
  exact rings_stp (by omega) (by decide)
theorem go_one {rs : List RowD} {i : Nat} {op : Str} {ns : List Int} {k : Nat} {a : Int} {ws : List (Str × Nat)} (e : rs[i]? = some (.ask op ns)) (ha : ns[k]? = some a) : goTo rs i ((op, k) :: ws) = goTo rs (stp rs a.toNat) ws := by
  have e0 : goTo rs i ((op, k) :: ws) = (match rs[i]? with
    | some (.ask op' ns) => if op = op' then (match ns[k]? with
      | some a => goTo rs (stp rs a.toNat) ws
      | none => none) else none
    | _ => none) := rfl
  rw [e0, e]
  dsimp only
  rw [if_pos rfl, ha]
theorem rings_hist {m x : Nat} (h : x < m + 3) : goTo (ringsR m x) (stp (ringsR m x) 0) [("coin", 1)] = some (stp (ringsR m x) 2) := by
  rw [rings_stp h (by decide)]
  rw [go_one rings0 (k := 1) (a := 2) rfl]
  rfl
theorem rings_hang {m f : Nat} (h : f ≤ m) : showAt (ringsR m (2 + f)) (2 + f) = [("hang" : Str)] ∧ endlessD (ringsR m (2 + f)) 0 = true := by
  have fit := rings_fit (m := m) (x := 2 + f) (by omega)
  have g : ∃ k, (ringsR m (2 + f))[2 + f]? = some (.go k) := by
    rcases Nat.lt_or_eq_of_le h with z | z
    · exact ⟨_, rings_go z⟩
    · subst z
      exact ⟨_, rings_last⟩
  obtain ⟨k, g⟩ := g
  constructor
  · unfold showAt
    rw [g]
    rfl
  · have m0 : MetR (ringsR m (2 + f)) 0 0 := by
      have := MetR.start (ringsR m (2 + f)) 0
      rw [rings_stp (by omega) (by decide)] at this
      exact this
    have m1 := m0.step rings0 (a := 2) (List.mem_cons_of_mem _ List.mem_cons_self)
    rw [show stp (ringsR m (2 + f)) ((2 : Int).toNat) = 2 + f from rings_far h] at m1
    exact endless_of fit (by rw [rings_len]; omega) m1 g
theorem rings_ends {m : Nat} : showAt (ringsR m 1) 1 = [("end" : Str), "good"] ∧ endlessD (ringsR m 1) 0 = false := by
  refine ⟨rfl, endless_no (rings_fit (by omega)) (by rw [rings_len]; omega) fun i mi => ?_⟩
  have : i = 0 ∨ i = 1 := mi (fun i => i = 0 ∨ i = 1) (.inl (rings_stp (by omega) (by decide))) fun i op ns a hi er ha => by
    rcases hi with rfl | rfl
    · rw [rings0] at er
      obtain ⟨rfl, rfl⟩ := RowD.ask.inj (Option.some.inj er)
      rcases List.mem_cons.mp ha with z | z
      · rw [z]
        exact .inr (rings_stp (by omega) (by decide))
      · rw [List.mem_singleton.mp z]
        exact .inr rings_near
    · rw [rings1] at er
      cases er
  rcases this with rfl | rfl <;> rfl
/-! its least -/
def least3 : List RowD := [.ask "coin" [1, 2], .fin "good", .go 2]
def least2 : List RowD := [.ask "coin" [1, 1], .fin "good"]
theorem few_rest {A : List RowD} (h1 : ∀ d ∈ A, ∀ n ∈ targets d, 0 ≤ n ∧ n < A.length) (h2 : ∀ (x : Nat) (k : Int), A[x]? = some (.go k) → k = (x : Int)) : Rest1 A :=
  ⟨fun _ d e n hn => h1 d (List.mem_of_getElem? e) n hn, h2⟩
theorem least3_rest : Rest1 least3 := by
  refine few_rest (fun d hd n hn => ?_) fun x k e => ?_
  · rcases List.mem_cons.mp hd with rfl | hd
    · rcases List.mem_cons.mp hn with rfl | hn
      · decide
      · rw [List.mem_singleton.mp hn]; decide
    · rcases List.mem_cons.mp hd with rfl | hd
      · exact nomatch hn
      · rw [List.mem_singleton.mp hd] at hn
        rw [List.mem_singleton.mp hn]; decide
  · match x with
    | 0 => cases e
    | 1 => cases e
    | 2 => cases e; rfl
    | x + 3 => cases e
theorem least2_rest : Rest1 least2 := by
  refine few_rest (fun d hd n hn => ?_) fun x k e => ?_
  · rcases List.mem_cons.mp hd with rfl | hd
    · rcases List.mem_cons.mp hn with rfl | hn
      · decide
      · rw [List.mem_singleton.mp hn]; decide
    · rw [List.mem_singleton.mp hd] at hn
      exact nomatch hn
  · match x with
    | 0 => cases e
    | 1 => cases e
    | x + 2 => cases e
theorem apart_by {A : List RowD} (R : Rest1 A) (h : ∀ (i j : Nat) (d e : RowD), i < j → A[i]? = some d → A[j]? = some e → markD d = markD e → (nextsD d).length = (nextsD e).length → False) : ∀ i j, i < A.length → j < A.length → Alk A i A j → i = j := by
  intro i j hi hj a
  obtain ⟨d, e, h1, h2, h3, h4, _⟩ := a.step R R hi hj
  rcases Nat.lt_trichotomy i j with z | z | z
  · exact (h i j d e z h1 h2 h3 h4).elim
  · exact z
  · exact (h j i e d z h2 h1 h3.symm h4.symm).elim
theorem least3_apart : ∀ i j, i < least3.length → j < least3.length → Alk least3 i least3 j → i = j := apart_by least3_rest fun i j d e lt h1 h2 h3 h4 => by
  have jl : j < 3 := (List.getElem?_eq_some_iff.mp h2).1
  rcases (show (i = 0 ∧ j = 1) ∨ (i = 0 ∧ j = 2) ∨ (i = 1 ∧ j = 2) by omega) with ⟨rfl, rfl⟩ | ⟨rfl, rfl⟩ | ⟨rfl, rfl⟩
  · obtain rfl := Option.some.inj h1; obtain rfl := Option.some.inj h2; exact absurd h4 (by decide)
  · obtain rfl := Option.some.inj h1; obtain rfl := Option.some.inj h2; exact absurd h4 (by decide)
  · obtain rfl := Option.some.inj h1; obtain rfl := Option.some.inj h2; exact absurd (congrArg List.length h3) (by decide)
theorem least2_apart : ∀ i j, i < least2.length → j < least2.length → Alk least2 i least2 j → i = j := apart_by least2_rest fun i j d e lt h1 h2 h3 h4 => by
  have jl : j < 2 := (List.getElem?_eq_some_iff.mp h2).1
  obtain ⟨rfl, rfl⟩ : i = 0 ∧ j = 1 := by omega
  obtain rfl := Option.some.inj h1; obtain rfl := Option.some.inj h2; exact absurd h4 (by decide)
theorem rings_least3 {m f : Nat} (h : f ≤ m) {rs' : List RowD} (mo : MergedOf (ringsR m (2 + f)) 0 rs') : rs' = least3 := by
  have fit := rings_fit (m := m) (x := 2 + f) (by omega)
  refine least_is fit (by rw [rings_len]; omega) mo least3_rest (by decide) (.step (.step (.step .zero (by decide) (m' := 3) rfl) (by decide) (m' := 3) rfl) (by decide) rfl) least3_apart ⟨fun i j => (i = 0 ∧ j = 0) ∨ (i = 1 ∧ j = 1) ∨ (i = 2 + f ∧ j = 2), .inl ⟨rings_stp (by omega) (by decide), least3_rest.stp (by decide)⟩, fun i j t => ?_⟩
  have g : ∃ k, (ringsR m (2 + f))[2 + f]? = some (.go k) := by
    rcases Nat.lt_or_eq_of_le h with z | z
    · exact ⟨_, rings_go z⟩
    · subst z
      exact ⟨_, rings_last⟩
  rcases t with ⟨rfl, rfl⟩ | ⟨rfl, rfl⟩ | ⟨rfl, rfl⟩
  · refine ⟨_, _, rings0, rfl, rfl, rfl, fun p a c ha hc => ?_⟩
    match p with
    | 0 =>
      obtain rfl := Option.some.inj ha
      obtain rfl := Option.some.inj hc
      exact .inr (.inl ⟨rings_stp (by omega) (by decide), least3_rest.stp (by decide)⟩)
    | 1 =>
      obtain rfl := Option.some.inj ha
      obtain rfl := Option.some.inj hc
      exact .inr (.inr ⟨rings_far h, least3_rest.stp (by decide)⟩)
    | p + 2 => cases ha
  · exact ⟨_, _, rings1, rfl, rfl, rfl, fun p a c ha hc => by cases ha⟩
  · obtain ⟨k, g⟩ := g
    exact ⟨_, _, g, rfl, rfl, rfl, fun p a c ha hc => by cases ha⟩
theorem rings_least2 {m : Nat} {rs' : List RowD} (mo : MergedOf (ringsR m 1) 0 rs') : rs' = least2 := by
  have fit := rings_fit (m := m) (x := 1) (by omega)
  refine least_is fit (by rw [rings_len]; omega) mo least2_rest (by decide) (.step (.step .zero (by decide) (m' := 2) rfl) (by decide) rfl) least2_apart ⟨fun i j => (i = 0 ∧ j = 0) ∨ (i = 1 ∧ j = 1), .inl ⟨rings_stp (by omega) (by decide), least2_rest.stp (by decide)⟩, fun i j t => ?_⟩
  rcases t with ⟨rfl, rfl⟩ | ⟨rfl, rfl⟩
  · refine ⟨_, _, rings0, rfl, rfl, rfl, fun p a c ha hc => ?_⟩
    match p with
    | 0 =>
      obtain rfl := Option.some.inj ha
      obtain rfl := Option.some.inj hc
      exact .inr ⟨rings_stp (by omega) (by decide), least2_rest.stp (by decide)⟩
    | 1 =>
      obtain rfl := Option.some.inj ha
      obtain rfl := Option.some.inj hc
      exact .inr ⟨rings_near, least2_rest.stp (by decide)⟩
    | p + 2 => cases ha
  · exact ⟨_, _, rings1, rfl, rfl, rfl, fun p a c ha hc => by cases ha⟩
end Mine

set_option maxRecDepth 100000
set_option maxHeartbeats 4000000
namespace Mine
open PySem L2
/-! k05's ring: many rows that ask, in front of each a chain -/
def nmR (t : Nat) : Str := match t % 3 with | 0 => "coin" | 1 => "tell" | _ => "open"
def cntR (t : Nat) : Nat := match t % 3 with | 0 => 2 | 1 => 1 | _ => 3
def nxR (t : Nat) (e l : Int) : List Int := List.replicate (cntR t - 1) e ++ [l]
def blkR (t : Nat) (e l : Int) : RowD := .ask (nmR t) (nxR t e l)
def rowR (M c i : Nat) : RowD := if i % (c + 1) < c then .go ((i + 1 : Nat) : Int) else blkR (i / (c + 1)) ((M * (c + 1) : Nat) : Int) (((i / (c + 1) + 1) % M * (c + 1) : Nat) : Int)
def ringR (M c : Nat) : List RowD := (List.range (M * (c + 1))).map (rowR M c) ++ [.fin "out"]
theorem cnt_pos (t : Nat) : 0 < cntR t := by
  unfold cntR
  split <;> decide
theorem nx_len (t : Nat) (e l : Int) : (nxR t e l).length = cntR t := by
  unfold nxR
  rw [List.length_append, List.length_replicate]
  have := cnt_pos t
  show cntR t - 1 + 1 = _
  omega
theorem nx_get {t p : Nat} {e l a : Int} (h : (nxR t e l)[p]? = some a) : (p + 1 < cntR t ∧ a = e) ∨ (p + 1 = cntR t ∧ a = l) := by
  have pl := (List.getElem?_eq_some_iff.mp h).1
  rw [nx_len] at pl
  have := cnt_pos t
  unfold nxR at h
  by_cases z : p + 1 < cntR t
  · rw [List.getElem?_append_left (by rw [List.length_replicate]; omega), List.getElem?_replicate, if_pos (by omega)] at h
    exact .inl ⟨z, (Option.some.inj h).symm⟩
  · rw [List.getElem?_append_right (by rw [List.length_replicate]; omega), List.length_replicate, show p - (cntR t - 1) = 0 by omega] at h
    exact .inr ⟨by omega, (Option.some.inj h).symm⟩
theorem nx_last {t : Nat} {e l : Int} : (nxR t e l)[cntR t - 1]? = some l := by
  unfold nxR
  rw [List.getElem?_append_right (by rw [List.length_replicate]; omega), List.length_replicate, Nat.sub_self]
  rfl
theorem nx_mem {t : Nat} {e l a : Int} (h : a ∈ nxR t e l) : a = e ∨ a = l := by
  obtain ⟨p, hp⟩ := List.mem_iff_getElem?.mp h
  rcases nx_get hp with ⟨_, z⟩ | ⟨_, z⟩
  · exact .inl z
  · exact .inr z
theorem in_block {M c t k : Nat} (ht : t < M) (hk : k ≤ c) : t * (c + 1) + k < M * (c + 1) := by
  have := Nat.mul_le_mul_right (c + 1) (show t + 1 ≤ M from ht)
  rw [Nat.succ_mul] at this
  omega
theorem block_mod {c t k : Nat} (hk : k ≤ c) : (t * (c + 1) + k) % (c + 1) = k := by
  rw [Nat.mul_comm, Nat.mul_add_mod, Nat.mod_eq_of_lt (by omega)]
theorem block_div {c t k : Nat} (hk : k ≤ c) : (t * (c + 1) + k) / (c + 1) = t := by
  rw [Nat.mul_comm, Nat.mul_add_div (by omega), Nat.div_eq_of_lt (by omega)]
  rfl
theorem row_go {M c t k : Nat} (hk : k < c) : rowR M c (t * (c + 1) + k) = .go ((t * (c + 1) + k + 1 : Nat) : Int) := by
  unfold rowR
  rw [block_mod (by omega), if_pos hk]
theorem row_ask {M c t : Nat} : rowR M c (t * (c + 1) + c) = blkR t ((M * (c + 1) : Nat) : Int) (((t + 1) % M * (c + 1) : Nat) : Int) := by
  unfold rowR
  rw [block_mod (Nat.le_refl _), if_neg (Nat.lt_irrefl _), block_div (Nat.le_refl _)]
theorem ring_len {M c : Nat} : (ringR M c).length = M * (c + 1) + 1 := by
  unfold ringR
  rw [List.length_append, List.length_map, List.length_range]
  rfl
theorem ring_get {M c i : Nat} (h : i < M * (c + 1)) : (ringR M c)[i]? = some (rowR M c i) := by
  unfold ringR
  rw [List.getElem?_append_left (by rw [List.length_map, List.length_range]; exact h), List.getElem?_map, List.getElem?_range h]
  rfl
theorem ring_end {M c : Nat} : (ringR M c)[M * (c + 1)]? = some (.fin "out") := by
  unfold ringR
  rw [List.getElem?_append_right (by rw [List.length_map, List.length_range]; exact Nat.le_refl _), List.length_map, List.length_range, Nat.sub_self]
  rfl
theorem ring_go {M c t k : Nat} (ht : t < M) (hk : k < c) : (ringR M c)[t * (c + 1) + k]? = some (.go ((t * (c + 1) + k + 1 : Nat) : Int)) := by
  rw [ring_get (in_block ht (by omega)), row_go hk]
theorem ring_ask {M c t : Nat} (ht : t < M) : (ringR M c)[t * (c + 1) + c]? = some (blkR t ((M * (c + 1) : Nat) : Int) (((t + 1) % M * (c + 1) : Nat) : Int)) := by
  rw [ring_get (in_block ht (Nat.le_refl _)), row_ask]
theorem ring_cases {M c i : Nat} {d : RowD} (e : (ringR M c)[i]? = some d) : (∃ t k, t < M ∧ k < c ∧ i = t * (c + 1) + k ∧ d = .go ((t * (c + 1) + k + 1 : Nat) : Int)) ∨ (∃ t, t < M ∧ i = t * (c + 1) + c ∧ d = blkR t ((M * (c + 1) : Nat) : Int) (((t + 1) % M * (c + 1) : Nat) : Int)) ∨ (i = M * (c + 1) ∧ d = .fin "out") := by
  have il := (List.getElem?_eq_some_iff.mp e).1
  rw [ring_len] at il
  by_cases z : i = M * (c + 1)
  · subst z
    rw [ring_end] at e
    exact .inr (.inr ⟨rfl, (Option.some.inj e).symm⟩)
  · have ht : i / (c + 1) < M := Nat.div_lt_of_lt_mul (by rw [Nat.mul_comm]; omega)
    have hk : i % (c + 1) < c + 1 := Nat.mod_lt _ (by omega)
    have hi : i = i / (c + 1) * (c + 1) + i % (c + 1) := by rw [Nat.mul_comm]; exact (Nat.div_add_mod _ _).symm
    generalize i / (c + 1) = t at ht hi
    generalize i % (c + 1) = k at hk hi
    subst hi
    by_cases y : k < c
    · rw [ring_go ht y] at e
      exact .inl ⟨t, k, ht, y, rfl, (Option.some.inj e).symm⟩
    · obtain rfl : k = c := by omega
      rw [ring_ask ht] at e
      exact .inr (.inl ⟨t, ht, rfl, (Option.some.inj e).symm⟩)
theorem ring_fit {M c : Nat} : Fit (ringR M c) := by
  intro i d e n hn
  rw [ring_len]
  rcases ring_cases e with ⟨t, k, ht, hk, rfl, rfl⟩ | ⟨t, ht, rfl, rfl⟩ | ⟨rfl, rfl⟩
  · have := in_block (M := M) (c := c) (t := t) (k := k) ht (by omega)
    have := List.mem_singleton.mp hn
    omega
  · have := in_block (M := M) (c := c) (t := (t + 1) % M) (k := 0) (Nat.mod_lt _ (by omega)) (by omega)
    rcases nx_mem hn with z | z <;> omega
  · exact nomatch hn
theorem ring_way {M c t k : Nat} (ht : t < M) : ∀ s, k + s ≤ c → way (ringR M c) s (t * (c + 1) + k) = t * (c + 1) + (k + s)
  | 0, _ => rfl
  | s + 1, h => by
    show Mach.itr _ _ _ = _
    rw [Mach.itr_succ, show Mach.itr (nxt (ringR M c)) s (t * (c + 1) + k) = _ from ring_way (M := M) (c := c) ht s (by omega)]
    unfold nxt
    rw [ring_go ht (by omega)]
    exact Int.toNat_natCast _
theorem ring_stp {M c t k : Nat} (ht : t < M) (hk : k ≤ c) : stp (ringR M c) (t * (c + 1) + k) = t * (c + 1) + c := by
  have e := ring_way (M := M) (c := c) (t := t) (k := k) ht (c - k) (by omega)
  rw [show k + (c - k) = c by omega] at e
  rw [stp_at ring_fit.go (by have := in_block (M := M) ht hk; rw [ring_len]; omega) (c - k) ?_, e]
  rw [e]
  unfold isGo
  rw [ring_ask ht]
  rfl
theorem ring_stp0 {M c t : Nat} (ht : t < M) : stp (ringR M c) (t * (c + 1)) = t * (c + 1) + c := ring_stp (k := 0) ht (by omega)
theorem ring_stp_end {M c : Nat} : stp (ringR M c) (M * (c + 1)) = M * (c + 1) := by
  refine Mach.stop_fix (nxt_lt ring_fit.go) (by rw [ring_len]; omega) (nxt_fix ?_)
  unfold isGo
  rw [ring_end]
theorem ring_begin {M c b : Nat} (hM : 0 < M) (hb : b ≤ c) : stp (ringR M c) b = c := by
  have := ring_stp (M := M) (t := 0) hM hb
  rw [Nat.zero_mul, Nat.zero_add, Nat.zero_add] at this
  exact this
/-- round and round -/
theorem ring_round {M c : Nat} (hM : 0 < M) : ∀ n t, goTo (ringR M c) (t % M * (c + 1) + c) ((List.range' t n).map fun a => (nmR (a % M), cntR (a % M) - 1)) = some ((t + n) % M * (c + 1) + c)
  | 0, t => rfl
  | n + 1, t => by
    rw [List.range'_succ, List.map_cons, go_one (ring_ask (Nat.mod_lt _ hM)) nx_last, Int.toNat_natCast, ring_stp0 (Nat.mod_lt _ hM), Nat.mod_add_mod, ring_round hM n (t + 1)]
    rw [show t + 1 + n = t + (n + 1) by omega]
theorem ring_far {M c b n : Nat} (hM : 0 < M) (hb : b ≤ c) : goTo (ringR M c) (stp (ringR M c) b) ((List.range n).map fun a => (nmR (a % M), cntR (a % M) - 1)) = some (n % M * (c + 1) + c) := by
  have := ring_round (c := c) hM n 0
  rw [Nat.zero_mod, Nat.zero_mul, Nat.zero_add, Nat.zero_add] at this
  rw [ring_begin hM hb, List.range_eq_range']
  exact this
theorem ring_shows {M c t : Nat} (ht : t < M) : showAt (ringR M c) (t * (c + 1) + c) = [("ask" : Str), nmR t] := by
  unfold showAt
  rw [ring_ask ht]
  rfl
theorem ring_out {M c b : Nat} (hM : 0 < M) (hb : b ≤ c) : goTo (ringR M c) (stp (ringR M c) b) [("coin", 0)] = some (M * (c + 1)) ∧ showAt (ringR M c) (M * (c + 1)) = [("end" : Str), "out"] := by
  constructor
  · have e := ring_ask (c := c) hM
    rw [Nat.zero_mul, Nat.zero_add] at e
    rw [ring_begin hM hb, go_one (op := "coin") (k := 0) e rfl, Int.toNat_natCast, ring_stp_end]
    rfl
  · unfold showAt
    rw [ring_end]
    rfl
theorem ring_met {M c b : Nat} (hM : 0 < M) (hb : b ≤ c) : ∀ t, t < M → MetR (ringR M c) b (t * (c + 1) + c)
  | 0, _ => by
    have := MetR.start (ringR M c) b
    rw [ring_begin hM hb] at this
    rw [Nat.zero_mul, Nat.zero_add]
    exact this
  | t + 1, h => by
    have := (ring_met hM hb t (by omega)).step (ring_ask (by omega)) (List.mem_of_getElem? nx_last)
    rw [Int.toNat_natCast, Nat.mod_eq_of_lt h, ring_stp0 h] at this
    exact this
theorem ring_met_end {M c b : Nat} (hM : 0 < M) (hb : b ≤ c) : MetR (ringR M c) b (M * (c + 1)) := by
  have := (ring_met hM hb 0 hM).step (ring_ask hM) (a := ((M * (c + 1) : Nat) : Int)) (List.mem_of_getElem? (i := 0) rfl)
  rw [Int.toNat_natCast, ring_stp_end] at this
  exact this
theorem ring_met_only {M c b i : Nat} (hM : 0 < M) (hb : b ≤ c) (h : MetR (ringR M c) b i) : (∃ t, t < M ∧ i = t * (c + 1) + c) ∨ i = M * (c + 1) := by
  refine h (fun i => (∃ t, t < M ∧ i = t * (c + 1) + c) ∨ i = M * (c + 1)) (.inl ⟨0, hM, by rw [ring_begin hM hb, Nat.zero_mul, Nat.zero_add]⟩) fun i op ns a hi er ha => ?_
  rcases hi with ⟨t, ht, rfl⟩ | rfl
  · rw [ring_ask ht] at er
    obtain ⟨rfl, rfl⟩ := RowD.ask.inj (Option.some.inj er)
    rcases nx_mem ha with rfl | rfl
    · rw [Int.toNat_natCast]
      exact .inr ring_stp_end
    · rw [Int.toNat_natCast]
      exact .inl ⟨_, Nat.mod_lt _ hM, ring_stp0 (Nat.mod_lt _ hM)⟩
  · rw [ring_end] at er
    cases er
theorem ring_hangs {M c b : Nat} (hM : 0 < M) (hb : b ≤ c) (hl : b < (ringR M c).length) : endlessD (ringR M c) b = false :=
  endless_no ring_fit hl fun i mi => by
    unfold isGo
    rcases ring_met_only hM hb mi with ⟨t, ht, rfl⟩ | rfl
    · rw [ring_ask ht]; rfl
    · rw [ring_end]
end Mine

set_option maxRecDepth 100000
set_option maxHeartbeats 4000000
namespace Mine
open PySem L2
/-! what k05's ring asks and ends with; its least -/
theorem firsts_mem {x : Str} {A : List Str} {rs : List RowD} {b : Nat} {as : List Str} (f : Fit rs) (hb : b < rs.length) (h : IsFirsts x (restD rs b) as) (h1 : ∀ i d, MetR rs b i → rs[i]? = some d → wordOf d = x → nameOf d ∈ A) (h2 : ∀ a ∈ A, ∃ i d, MetR rs b i ∧ rs[i]? = some d ∧ wordOf d = x ∧ nameOf d = a) : as.Nodup ∧ ∀ a, a ∈ as ↔ a ∈ A := by
  have ds := distinct_sub (x := x) (A := A) (ds := restD rs b) (acc := []) (fun _ z => nomatch z) .nil fun d hd e => by
    unfold restD at hd
    obtain ⟨i, hi, rfl⟩ := List.mem_map.mp hd
    have mi := (metOf_iff f hb i).mp hi
    have il := mi.lt f hb
    rw [List.getD_eq_getElem?_getD, List.getElem?_eq_getElem il] at e ⊢
    exact h1 i _ mi (List.getElem?_eq_getElem il) e
  refine ⟨h.1.nodup_iff.mpr ds.2, fun a => ⟨fun ha => ds.1 a (h.1.mem_iff.mp ha), fun ha => h.1.mem_iff.mpr ?_⟩⟩
  obtain ⟨i, d, mi, e, w, n⟩ := h2 a ha
  refine distinct_has (d := d) ?_ w n
  unfold restD
  refine List.mem_map.mpr ⟨i, (metOf_iff f hb i).mpr mi, ?_⟩
  rw [List.getD_eq_getElem?_getD, e]
  rfl
theorem one_is {as : List Str} {w : Str} (h : as.Nodup) (m : ∀ a, a ∈ as ↔ a ∈ [w]) : as = [w] := by
  have l1 := str_len (l' := [w]) h fun x hx => (m x).mp hx
  have l2 := str_len (l := [w]) (l' := as) (List.pairwise_singleton _ _) fun x hx => (m x).mpr hx
  match as, l1, l2, m with
  | [a], _, _, m => rw [List.mem_singleton.mp ((m a).mp List.mem_cons_self)]
theorem three_are {as : List Str} (h : as.Nodup) (m : ∀ a, a ∈ as ↔ a ∈ [("coin" : Str), "open", "tell"]) (s : PyProof.Rows.sortedS as = true) : as = [("coin" : Str), "open", "tell"] := by
  have l1 := str_len (l' := [("coin" : Str), "open", "tell"]) h fun x hx => (m x).mp hx
  have l2 := str_len (l := [("coin" : Str), "open", "tell"]) (l' := as) (by decide +kernel) fun x hx => (m x).mpr hx
  match as, l1, l2, m, s, h with
  | [a, b, c], _, _, m, s, h =>
    have one : ∀ x : Str, x ∈ [("coin" : Str), "open", "tell"] → x = "coin" ∨ x = "open" ∨ x = "tell" := fun x hx => by
      rcases List.mem_cons.mp hx with z | hx
      · exact .inl z
      · rcases List.mem_cons.mp hx with z | hx
        · exact .inr (.inl z)
        · exact .inr (.inr (List.mem_singleton.mp hx))
    have key : ∀ x y z : Str, (x = "coin" ∨ x = "open" ∨ x = "tell") → (y = "coin" ∨ y = "open" ∨ y = "tell") → (z = "coin" ∨ z = "open" ∨ z = "tell") → [x, y, z].Nodup → PyProof.Rows.sortedS [x, y, z] = true → [x, y, z] = [("coin" : Str), "open", "tell"] := by
      intro x y z hx hy hz
      rcases hx with rfl | rfl | rfl <;> rcases hy with rfl | rfl | rfl <;> rcases hz with rfl | rfl | rfl <;> decide +kernel
    exact key a b c (one a ((m a).mp (by simp))) (one b ((m b).mp (by simp))) (one c ((m c).mp (by simp))) h s
theorem nm_names (t : Nat) : nmR t = "coin" ∨ nmR t = "open" ∨ nmR t = "tell" := by
  unfold nmR
  split
  · exact .inl rfl
  · exact .inr (.inr rfl)
  · exact .inr (.inl rfl)
theorem ring_words {M c b : Nat} {as : List Str} (hM : 0 < M) (hb : b ≤ c) (hl : b < (ringR M c).length) (h : IsFirsts "end" (restD (ringR M c) b) as) : as = [("out" : Str)] := by
  have q := firsts_mem (A := ["out"]) ring_fit hl h (fun i d mi e w => ?_) fun a ha => ⟨_, _, ring_met_end hM hb, ring_end, rfl, (List.mem_singleton.mp ha).symm⟩
  · exact one_is q.1 q.2
  · rcases ring_met_only hM hb mi with ⟨t, ht, rfl⟩ | rfl
    · rw [ring_ask ht] at e
      obtain rfl := Option.some.inj e
      have ne : ("ask" : Str) ≠ "end" := by decide +kernel
      exact absurd (show ("ask" : Str) = "end" from w) ne
    · rw [ring_end] at e
      obtain rfl := Option.some.inj e
      exact List.mem_singleton.mpr rfl
theorem ring_asked {M c b : Nat} {as : List Str} (hM : 3 ≤ M) (hb : b ≤ c) (hl : b < (ringR M c).length) (h : IsFirsts "ask" (restD (ringR M c) b) as) : as = [("coin" : Str), "open", "tell"] := by
  have q := firsts_mem (A := ["coin", "open", "tell"]) ring_fit hl h (fun i d mi e w => ?_) fun a ha => ?_
  · exact three_are q.1 q.2 h.2
  · rcases ring_met_only (by omega) hb mi with ⟨t, ht, rfl⟩ | rfl
    · rw [ring_ask ht] at e
      obtain rfl := Option.some.inj e
      show nmR t ∈ _
      rcases nm_names t with z | z | z <;> rw [z] <;> decide +kernel
    · rw [ring_end] at e
      obtain rfl := Option.some.inj e
      have ne : ("end" : Str) ≠ "ask" := by decide +kernel
      exact absurd (show ("end" : Str) = "ask" from w) ne
  · have : ∃ t, t < 3 ∧ nmR t = a := by
      rcases List.mem_cons.mp ha with rfl | ha
      · exact ⟨0, by decide, rfl⟩
      · rcases List.mem_cons.mp ha with rfl | ha
        · exact ⟨2, by decide, rfl⟩
        · exact ⟨1, by decide, (List.mem_singleton.mp ha).symm⟩
    obtain ⟨t, ht, e⟩ := this
    exact ⟨_, _, ring_met (by omega) hb t (by omega), ring_ask (by omega), rfl, e⟩
/-! the least of the ring -/
def pR (t : Nat) : Nat := if t = 0 then 0 else t + 1
def rowL (n r : Nat) : RowD := if r = 1 then .fin "out" else blkR (r - 1) 1 ((pR ((r - 1 + 1) % n) : Nat) : Int)
def leastR (n : Nat) : List RowD := (List.range (n + 1)).map (rowL n)
theorem pR_le {n t : Nat} (h : t < n) : pR t ≤ n := by
  unfold pR
  split <;> omega
theorem pR_ne {t : Nat} : pR t ≠ 1 := by
  unfold pR
  split <;> omega
theorem pR_pred {t : Nat} : pR t - 1 = t := by
  unfold pR
  split <;> omega
theorem leastR_len {n : Nat} : (leastR n).length = n + 1 := by
  unfold leastR
  rw [List.length_map, List.length_range]
theorem leastR_get {n r : Nat} (h : r < n + 1) : (leastR n)[r]? = some (rowL n r) := by
  unfold leastR
  rw [List.getElem?_map, List.getElem?_range h]
  rfl
theorem leastR_ask {n t : Nat} (h : t < n) : (leastR n)[pR t]? = some (blkR t 1 ((pR ((t + 1) % n) : Nat) : Int)) := by
  rw [leastR_get (by have := pR_le h; omega)]
  unfold rowL
  rw [if_neg pR_ne, pR_pred]
theorem leastR_end {n : Nat} (h : 0 < n) : (leastR n)[1]? = some (.fin "out") := by
  rw [leastR_get (by omega)]
  rfl
theorem leastR_cases {n r : Nat} {d : RowD} (hn : 0 < n) (e : (leastR n)[r]? = some d) : (∃ t, t < n ∧ r = pR t ∧ d = blkR t 1 ((pR ((t + 1) % n) : Nat) : Int)) ∨ (r = 1 ∧ d = .fin "out") := by
  have rl := (List.getElem?_eq_some_iff.mp e).1
  rw [leastR_len] at rl
  by_cases z : r = 1
  · subst z
    rw [leastR_end hn] at e
    exact .inr ⟨rfl, (Option.some.inj e).symm⟩
  · have : ∃ t, t < n ∧ r = pR t := by
      refine ⟨r - 1, by omega, ?_⟩
      unfold pR
      split <;> omega
    obtain ⟨t, ht, rfl⟩ := this
    rw [leastR_ask ht] at e
    exact .inl ⟨t, ht, rfl, (Option.some.inj e).symm⟩
theorem leastR_rest {n : Nat} (hn : 0 < n) : Rest1 (leastR n) := by
  refine few_rest (fun d hd k hk => ?_) fun x k e => ?_
  · obtain ⟨r, e⟩ := List.mem_iff_getElem?.mp hd
    rw [leastR_len]
    rcases leastR_cases hn e with ⟨t, ht, rfl, rfl⟩ | ⟨rfl, rfl⟩
    · have := pR_le (Nat.mod_lt (t + 1) hn)
      rcases nx_mem hk with z | z <;> omega
    · exact nomatch hk
  · rcases leastR_cases hn e with ⟨t, ht, rfl, z⟩ | ⟨rfl, z⟩ <;> cases z
theorem nats_nx {t : Nat} {l : Nat} : (nxR t 1 (l : Int)).map Int.toNat = List.replicate (cntR t - 1) 1 ++ [l] := by
  unfold nxR
  rw [List.map_append, List.map_replicate]
  rfl
theorem leastR_suc {n t : Nat} (h : t < n) : sucD (leastR n) (pR t) = List.replicate (cntR t - 1) 1 ++ [pR ((t + 1) % n)] := by
  unfold sucD
  rw [List.getD_eq_getElem?_getD, leastR_ask h]
  exact nats_nx
theorem adv_ones {m : Nat} (h : 1 < m) {r : List Nat} : ∀ k, Wk.adv m (List.replicate k 1 ++ r) = Wk.adv m r
  | 0 => rfl
  | k + 1 => by
    rw [List.replicate_succ, List.cons_append]
    show (if 1 < m then Wk.adv m _ else _) = _
    rw [if_pos h, adv_ones h k]
theorem leastR_up {n : Nat} (hn : 3 ≤ n) : ∀ t, t + 2 ≤ n → Wk.Upto (sucD (leastR n)) (t + 2) (t + 3)
  | 0, _ => by
    refine .step (m := 3) (.step (m := 1) .zero (by decide) (m' := 3) ?_) (by decide) ?_
    · rw [show (0 : Nat) = pR 0 from rfl, leastR_suc (by omega), Nat.mod_eq_of_lt (show 0 + 1 < n by omega)]
      rfl
    · unfold sucD
      rw [List.getD_eq_getElem?_getD, leastR_end (by omega)]
      rfl
  | t + 1, h => by
    refine .step (leastR_up hn t (by omega)) (by omega) ?_
    rw [show t + 2 = pR (t + 1) from rfl, leastR_suc (by omega), adv_ones (by omega), Nat.mod_eq_of_lt (by omega)]
    show (if t + 3 < t + 3 then _ else if t + 3 = t + 3 then some (t + 3 + 1) else none) = _
    rw [if_neg (Nat.lt_irrefl _), if_pos rfl]
theorem leastR_canon {n : Nat} (hn : 3 ≤ n) : Wk.Canon (sucD (leastR n)) (leastR n).length := by
  rw [leastR_len]
  have u := leastR_up hn (n - 2) (by omega)
  rw [show n - 2 + 2 = n by omega, show n - 2 + 3 = n + 1 by omega] at u
  refine Wk.Upto.step (t := n) (m := n + 1) u (by omega) ?_
  have e := leastR_suc (n := n) (t := n - 1) (by omega)
  rw [show pR (n - 1) = n by unfold pR; rw [if_neg (by omega)]; omega, show n - 1 + 1 = n by omega, Nat.mod_self] at e
  rw [e, adv_ones (by omega)]
  show (if 0 < n + 1 then some (n + 1) else _) = _
  rw [if_pos (by omega)]
theorem nm_mod {s t : Nat} (h : nmR s = nmR t) : s % 3 = t % 3 := by
  have hs : s % 3 < 3 := Nat.mod_lt _ (by decide)
  have ht : t % 3 < 3 := Nat.mod_lt _ (by decide)
  unfold nmR at h
  generalize s % 3 = x at *
  generalize t % 3 = y at *
  have key : ∀ x, x < 3 → ∀ y, y < 3 → (match x with | 0 => ("coin" : Str) | 1 => "tell" | _ => "open") = (match y with | 0 => ("coin" : Str) | 1 => "tell" | _ => "open") → x = y := by decide +kernel
  exact key x hs y ht h
theorem cnt_same {s t : Nat} (h : s % 3 = t % 3) : nmR s = nmR t ∧ cntR s = cntR t := by
  unfold nmR cntR
  rw [h]
  exact ⟨rfl, rfl⟩
theorem leastR_alk {n i j : Nat} (hn : 3 ≤ n) (hi : i < n) (hj : j < n) (h : Alk (leastR n) (pR i) (leastR n) (pR j)) : i % 3 = j % 3 ∧ Alk (leastR n) (pR ((i + 1) % n)) (leastR n) (pR ((j + 1) % n)) := by
  have R := leastR_rest (n := n) (by omega)
  obtain ⟨d, e, h1, h2, h3, h4, h5⟩ := h.step R R (by rw [leastR_len]; have := pR_le hi; omega) (by rw [leastR_len]; have := pR_le hj; omega)
  rw [leastR_ask hi] at h1
  rw [leastR_ask hj] at h2
  obtain rfl := Option.some.inj h1
  obtain rfl := Option.some.inj h2
  have en : nmR i = nmR j := Sum.inr.inj (List.cons.inj (List.cons.inj h3).2).1
  have em := nm_mod en
  refine ⟨em, ?_⟩
  have q := h5 (cntR i - 1) _ _ nx_last (by rw [(cnt_same em).2]; exact nx_last)
  rw [Int.toNat_natCast, Int.toNat_natCast] at q
  exact q
theorem leastR_alks {n i j : Nat} (hn : 3 ≤ n) (hi : i < n) (hj : j < n) (h : Alk (leastR n) (pR i) (leastR n) (pR j)) : ∀ s, Alk (leastR n) (pR ((i + s) % n)) (leastR n) (pR ((j + s) % n))
  | 0 => by
    rw [Nat.add_zero, Nat.add_zero, Nat.mod_eq_of_lt hi, Nat.mod_eq_of_lt hj]
    exact h
  | s + 1 => by
    have := (leastR_alk hn (Nat.mod_lt _ (by omega)) (Nat.mod_lt _ (by omega)) (leastR_alks hn hi hj h s)).2
    rw [Nat.mod_add_mod, Nat.mod_add_mod] at this
    exact this
theorem leastR_two {n i j : Nat} (hn : 3 ≤ n) (h3 : n = 3 ∨ n % 3 ≠ 0) (lt : i < j) (hj : j < n) (h : Alk (leastR n) (pR i) (leastR n) (pR j)) : False := by
  have a := (leastR_alk hn (by omega) hj h).1
  have b := (leastR_alk hn (Nat.mod_lt _ (by omega)) (Nat.mod_lt _ (by omega)) (leastR_alks hn (by omega) hj h (n - j))).1
  rw [show j + (n - j) = n by omega, Nat.mod_self, Nat.mod_eq_of_lt (show i + (n - j) < n by omega)] at b
  omega
theorem leastR_apart {n : Nat} (hn : 3 ≤ n) (h3 : n = 3 ∨ n % 3 ≠ 0) : ∀ i j, i < (leastR n).length → j < (leastR n).length → Alk (leastR n) i (leastR n) j → i = j := by
  intro i j hi hj a
  have R := leastR_rest (n := n) (by omega)
  obtain ⟨d, e, h1, h2, k3, k4, _⟩ := a.step R R hi hj
  rcases leastR_cases (by omega) h1 with ⟨s, hs, rfl, rfl⟩ | ⟨rfl, rfl⟩ <;> rcases leastR_cases (by omega) h2 with ⟨t, ht, rfl, rfl⟩ | ⟨rfl, rfl⟩
  · rcases Nat.lt_trichotomy s t with z | z | z
    · exact (leastR_two hn h3 z ht a).elim
    · rw [z]
    · exact (leastR_two hn h3 z hs a.symm).elim
  · have := cnt_pos s
    have k4 : (nxR s _ _).length = 0 := k4
    rw [nx_len] at k4
    omega
  · have := cnt_pos t
    have k4 : 0 = (nxR t _ _).length := k4
    rw [nx_len] at k4
    omega
  · rfl
/-- rows of the ring's least -/
def leastN (M : Nat) : Nat := if M % 3 = 0 then 3 else M
theorem ring_least {M c b : Nat} {rs' : List RowD} (hM : 3 ≤ M) (hb : b ≤ c) (hl : b < (ringR M c).length) (mo : MergedOf (ringR M c) b rs') : rs' = leastR (leastN M) := by
  have n3 : 3 ≤ leastN M := by
    unfold leastN
    split <;> omega
  have nd : leastN M ∣ M := by
    unfold leastN
    split
    · exact Nat.dvd_of_mod_eq_zero (by assumption)
    · exact Nat.dvd_refl _
  have nt : ∀ t, t < M → t % leastN M % 3 = t % 3 := fun t ht => by
    unfold leastN
    split
    · exact Nat.mod_mod _ _
    · rw [Nat.mod_eq_of_lt ht]
  have nn : leastN M = 3 ∨ leastN M % 3 ≠ 0 := by
    unfold leastN
    split
    · exact .inl rfl
    · exact .inr (by assumption)
  generalize leastN M = n at *
  have R := leastR_rest (n := n) (by omega)
  have pl : ∀ t, pR (t % n) < (leastR n).length := fun t => by
    have := pR_le (Nat.mod_lt t (show 0 < n by omega))
    rw [leastR_len]
    omega
  have M0 : 0 < M := by omega
  refine least_is ring_fit hl mo R (by rw [leastR_len]; omega) (leastR_canon n3) (leastR_apart n3 nn) ⟨fun i j => (∃ t, t < M ∧ i = t * (c + 1) + c ∧ j = pR (t % n)) ∨ (i = M * (c + 1) ∧ j = 1), ?_, fun i j q => ?_⟩
  · refine .inl ⟨0, M0, ?_, ?_⟩
    · rw [ring_begin M0 hb, Nat.zero_mul, Nat.zero_add]
    · rw [R.stp (by rw [leastR_len]; omega), Nat.zero_mod]
      rfl
  · rcases q with ⟨t, ht, rfl, rfl⟩ | ⟨rfl, rfl⟩
    · have tn : t % n < n := Nat.mod_lt _ (by omega)
      have cs := cnt_same (nt t ht)
      refine ⟨_, _, ring_ask ht, leastR_ask tn, ?_, ?_, fun p a e ha he => ?_⟩
      · show ([.inr "ask", .inr (nmR t)] : Mark) = [.inr "ask", .inr (nmR (t % n))]
        rw [cs.1]
      · show (nxR _ _ _).length = (nxR _ _ _).length
        rw [nx_len, nx_len, cs.2]
      · rcases nx_get ha with ⟨z, rfl⟩ | ⟨z, rfl⟩ <;> rcases nx_get he with ⟨y, rfl⟩ | ⟨y, rfl⟩
        · rw [Int.toNat_natCast]
          exact .inr ⟨ring_stp_end, R.stp (by rw [leastR_len]; show 1 < _; omega)⟩
        · omega
        · omega
        · rw [Int.toNat_natCast, Int.toNat_natCast]
          refine .inl ⟨(t + 1) % M, Nat.mod_lt _ M0, ring_stp0 (Nat.mod_lt _ M0), ?_⟩
          rw [R.stp (pl _), Nat.mod_add_mod, Nat.mod_mod_of_dvd _ nd]
    · exact ⟨_, _, ring_end, leastR_end (by omega), rfl, rfl, fun p a e ha _ => by cases ha⟩
end Mine

set_option maxRecDepth 100000
set_option maxHeartbeats 4000000
namespace L2
open PySem PySem.Spec PyProof.Rows
section
variable {X : Cx} {es : List Expr} {kws : List Keyword} {t : TA}
theorem PA.mono (h : PA X es t) : PA X es (fun σ H R => ∃ R', t σ H R' ∧ ∀ vs H1, R' vs H1 → R vs H1) := ⟨fun pos pins s σ H R I ⟨R', h1, h2⟩ => thn (h.run pos pins s σ H R' I h1) fun us s1 ⟨vs, H1, I1, r, q⟩ => ⟨vs, H1, I1, r, h2 _ _ q⟩⟩
theorem PK.mono (h : PK X kws t) : PK X kws (fun σ H R => ∃ R', t σ H R' ∧ ∀ vs H1, R' vs H1 → R vs H1) := ⟨fun pos pins s σ H R I ⟨R', h1, h2⟩ => thn (h.run pos pins s σ H R' I h1) fun us s1 ⟨vs, H1, I1, r, q⟩ => ⟨vs, H1, I1, r, h2 _ _ q⟩⟩
end
end L2
namespace Mine
open PySem L2
/-! right bodies of up to 400 rows: what they are asked for, and how they are made -/
structure OkB (o : Ops) (rs : List RowD) (b : Nat) : Prop where
  ops : OkOps o
  lo : 1 ≤ rs.length
  hi : rs.length ≤ 400
  rows : OkRows o rs
  lt : b < rs.length
theorem OkB.few {o : Ops} {rs : List RowD} {b : Nat} (h : OkB o rs b) (x : Str) : (distinct x (restD rs b)).length ≤ 100000 := by
  have h1 := distinct_len x (restD rs b)
  have h2 : (restD rs b).length ≤ rs.length := by
    unfold restD
    rw [List.length_map]
    exact (metAt_few h.rows.fit h.lt rs.length).len
  have := h.hi
  omega
theorem OkB.row {o : Ops} {rs : List RowD} {b : Nat} (h : OkB o rs b) {d : RowD} (hd : d ∈ rs) : OkRow o rs.length d := by
  obtain ⟨i, e⟩ := List.getElem?_of_mem hd
  exact h.rows i d e
theorem OkB.asks {o : Ops} {rs : List RowD} {b : Nat} (h : OkB o rs b) : AskOk o rs := fun i op ns e => (h.rows i _ e).1
theorem OkB.look {o : Ops} {rs : List RowD} {b : Nat} (h : OkB o rs b) : ∀ d ∈ rs, wordOf d = "ask" → ∃ c, opLook o (nameOf d) = some c := fun d hd w => by
  have r := h.row hd
  cases d with
  | ask op ns => exact ⟨_, r.1⟩
  | go k =>
    have ne : ("go" : Str) ≠ "ask" := by decide +kernel
    exact absurd w ne
  | fin x =>
    have ne : ("end" : Str) ≠ "ask" := by decide +kernel
    exact absurd w ne
theorem OkB.tame {o : Ops} {rs : List RowD} {b : Nat} (h : OkB o rs b) : Tame rs := by
  refine ⟨fun d hd => ?_, fun d hd e he m => ?_, rs.map nameOf, rs.map nameOf, ?_, ?_, fun d hd => ⟨fun _ => List.mem_map_of_mem hd, fun _ => List.mem_map_of_mem hd⟩⟩
  · have r := h.row hd
    cases d with
    | ask op ns => exact r.2.1
    | go k => exact (by decide : 1 ≤ 1000)
    | fin x => exact (by decide : 0 ≤ 1000)
  · have r := h.row hd
    have q := h.row he
    cases d with
    | ask op ns =>
      cases e with
      | ask op2 ns2 =>
        have en : op = op2 := Sum.inr.inj (List.cons.inj (List.cons.inj m).2).1
        subst en
        have := r.1.symm.trans q.1
        have := Option.some.inj this
        show ns.length = ns2.length
        omega
      | go k => exact absurd (congrArg List.length m) (by show ¬ (2 = 1); decide)
      | fin x =>
        have ne : ("ask" : Str) ≠ "end" := by decide +kernel
        exact absurd (Sum.inr.inj (List.cons.inj m).1) ne
    | go k =>
      cases e with
      | ask op2 ns2 => exact absurd (congrArg List.length m) (by show ¬ (1 = 2); decide)
      | go k2 => rfl
      | fin x => rfl
    | fin x =>
      cases e with
      | ask op2 ns2 =>
        have ne : ("end" : Str) ≠ "ask" := by decide +kernel
        exact absurd (Sum.inr.inj (List.cons.inj m).1) ne
      | go k2 => rfl
      | fin x2 => rfl
  · rw [List.length_map]
    have := h.hi
    omega
  · rw [List.length_map]
    have := h.hi
    omega
/-- Body(d, r, start=b), as it is told here -/
def tBody (CB CM : Addr) (t tk : TA) : TE := fun σ H Q => t σ H fun vs H1 => tk σ H1 fun zs H2 => ∃ (d r : Addr) (xs : List V) (rs : List RowD) (o : Ops) (b : Nat), vs = [.ref d, .ref r] ∧ zs = [.int b] ∧ H2 d = some (.dK (opsK o)) ∧ SqA H2 r xs ∧ RowsIn H2 xs rs ∧ OkB o rs b ∧
  ∀ bd H3, H2 bd = none → Same H2 H3 → BodyN CB CM H2 H3 bd o rs b → Q (.ref bd) H3
/-- Body(d, r) -/
def tBody0 (CB CM : Addr) (t : TA) : TE := fun σ H Q => t σ H fun vs H2 => ∃ (d r : Addr) (xs : List V) (rs : List RowD) (o : Ops), vs = [.ref d, .ref r] ∧ H2 d = some (.dK (opsK o)) ∧ SqA H2 r xs ∧ RowsIn H2 xs rs ∧ OkB o rs 0 ∧
  ∀ bd H3, H2 bd = none → Same H2 H3 → BodyN CB CM H2 H3 bd o rs 0 → Q (.ref bd) H3
abbrev KS : List Str := ["start"]
theorem bindB {K : PySem.W.Frag} {fd : FuncData} (h : ∀ (a b c d : Value), bindArgs fd ⟨[a, b, c], [(("start" : Str), d)]⟩ = pure ([(("self" : Str), a), ("operations", b), ("rows", c), ("start", d)] : List (Str × Value))) : KBn K fd PB (2 + 1) KS (fun us ws => us ++ ws) (fun vs zs => vs ++ zs) where
  to := fun s us ws _ l1 l2 => match us, ws, l1, l2 with
    | [a, b, c], [d], _, _ => .of_eq (h a b c d)
  rel := fun r rz => r.append rz
section
variable {X : Cx} {CB CM f : Addr} {fd : FuncData} {x : Str} {p pos : Pos} {e : Expr} {es : List Expr} {kws : List Keyword} {t tk : TA} {ds : List Value}
theorem body_end {H2 : Hp} {Q : VK} {E : XK} {d r : Addr} {xs : List V} {rs : List RowD} {o : Ops} {b : Nat} (hd : H2 d = some (.dK (opsK o))) (hx : SqA H2 r xs) (rows : RowsIn H2 xs rs) (ok : OkB o rs b) (k : ∀ bd H3, H2 bd = none → Same H2 H3 → BodyN CB CM H2 H3 bd o rs b → Q (.ref bd) H3)
    (bd dx : Addr) (nb : H2 bd = none) (nd : H2 dx = none) (ne : dx ≠ bd) : spBody CB CM [.ref bd, .ref d, .ref r, .int b] (upd (upd H2 dx (.own bd)) bd (.ins CB dx [])) (fun v H3 => v = .non ∧ Q (.ref bd) H3) E := by
  have sm : Same H2 (upd (upd H2 dx (.own bd)) bd (.ins CB dx [])) := same_updN (same_updN (Same.refl _) nd) nb
  exact ⟨bd, d, r, dx, xs, rs, o, b, rfl, upd_same, sm _ _ hd, ok.ops, sm.sqa hx, rows.same sm, ok.lo, ok.hi, ok.rows, ok.lt, ok.few "ask", ok.few "end", fun H' s' B => ⟨rfl, k bd H' nb (fun b2 u e => s' b2 u (ne_of_none e nb) (sm _ _ e)) (by
    obtain ⟨m, t, l, sa, aa, ea, o', xs, as, es, h, n1, n2, n3, n4, n5, n6⟩ := B
    exact ⟨m, t, l, sa, aa, ea, o', xs, as, es, h, none_of sm n1, none_of sm n2, none_of sm n3, none_of sm n4, none_of sm n5, none_of sm n6⟩)⟩⟩
theorem pe_body (M : Mk X.K CB f) (F : FnOk X.prog X.w X.K X.mg X.base CX0 7 f fd PB (spBody CB CM)) (hr : Room 8 X.A) (hg : Gl X x) (hm : X.mg x = some (.ref CB)) (hb : KBn X.K fd PB (2 + 1) KS (fun us ws => us ++ ws) (fun vs zs => vs ++ zs)) (ha : PA X (e :: es) t) (hkw : PK X kws tk)
    (hall : (backToKw pos (keywordEach kws X.env)).all (·.1.isSome) = true := by rfl) (hks : (backToKw pos (keywordEach kws X.env)).filterMap (·.1) = KS := by rfl) (hdb : (x == ("__debug__" : Str)) = false := by decide)
    (he : starEach (e :: es) X.env = (false, eval e X.env) :: starEach es X.env := by rfl) (hpl : ((backTo pos (starEach (e :: es) X.env)).any (·.1) || (backToKw pos (keywordEach kws X.env)).any (·.1.isNone)) = false := by rfl) :
    PE X (.Call (.Name x p) (e :: es) kws pos) (tBody CB CM t tk) := by
  refine pe_imp (pe_makeK (E := E0) M F hr hg hm hb pass0 ha.mono hkw.mono hall hks hdb he hpl) fun σ H Q q => ?_
  refine ⟨_, q, fun vs H1 q1 => ⟨_, q1, fun zs H2 q2 => ?_⟩⟩
  obtain ⟨d, r, xs, rs, o, b, rfl, rfl, hd, hx, rows, ok, k⟩ := q2
  exact ⟨rfl, rfl, fun bd dx nb nd ne => body_end hd hx rows ok k bd dx nb nd ne⟩
end
theorem OkRows.mem {o : Ops} {rs : List RowD} (h : ∀ d ∈ rs, OkRow o rs.length d) : OkRows o rs := fun _ d e => h d (List.mem_of_getElem? e)
theorem Rows.inn {H : Hp} {xs : List V} {rs : List RowD} (h : Rows H xs rs) : RowsIn H xs rs := ⟨h.1, fun i d e => by
  obtain ⟨x, h1, h2⟩ := h.2 i d e
  exact ⟨x, h1, h2.row⟩⟩
/-! the three machines are right -/
def oCoin : Ops := [("coin", 2)]
def oRing : Ops := [("coin", 2), ("tell", 1), ("open", 3)]
theorem oCoin_ok : OkOps oCoin := ⟨by decide, by decide +kernel, by decide +kernel⟩
theorem oRing_ok : OkOps oRing := ⟨by decide, by decide +kernel, by decide +kernel⟩
theorem coin_look : opLook oCoin "coin" = some 2 := by decide +kernel
theorem ring_look (t : Nat) : opLook oRing (nmR t) = some (cntR t : Int) := by
  have key : ∀ x, x < 3 → opLook oRing (match x with | 0 => ("coin" : Str) | 1 => "tell" | _ => "open") = some ((match x with | 0 => 2 | 1 => 1 | _ => 3 : Nat) : Int) := by decide +kernel
  unfold nmR cntR
  exact key (t % 3) (Nat.mod_lt _ (by decide))
theorem rings_okB {m x : Nat} (hx : x < m + 3) (hm : m ≤ 397) : OkB oCoin (ringsR m x) 0 := by
  refine ⟨oCoin_ok, by rw [rings_len]; omega, by rw [rings_len]; omega, fun i d e => ?_, by rw [rings_len]; omega⟩
  rw [rings_len]
  rcases rings_cases e with ⟨rfl, rfl⟩ | ⟨rfl, rfl⟩ | ⟨k, hk, rfl, rfl⟩ | ⟨rfl, rfl⟩
  · refine ⟨coin_look, by decide, fun n hn => ?_⟩
    rcases List.mem_cons.mp hn with z | z
    · omega
    · have := List.mem_singleton.mp z
      omega
  · exact (by decide +kernel : isNm "good" = true ∧ ("good" : Str).length ≤ 8)
  · show 0 ≤ ((k + 3 : Nat) : Int) ∧ ((k + 3 : Nat) : Int) < _
    omega
  · show 0 ≤ (x : Int) ∧ (x : Int) < _
    omega
theorem ring_okB {M c b : Nat} (hM : 3 ≤ M) (hl : M * (c + 1) < 400) (hb : b ≤ M * (c + 1)) : OkB oRing (ringR M c) b := by
  refine ⟨oRing_ok, by rw [ring_len]; omega, by rw [ring_len]; omega, fun i d e => ?_, by rw [ring_len]; omega⟩
  have fit := ring_fit (M := M) (c := c) i d e
  rw [ring_len] at fit ⊢
  rcases ring_cases e with ⟨t, k, ht, hk, rfl, rfl⟩ | ⟨t, ht, rfl, rfl⟩ | ⟨rfl, rfl⟩
  · exact fit _ List.mem_cons_self
  · refine ⟨?_, ?_, fun n hn => fit n hn⟩
    · rw [nx_len]
      exact ring_look t
    · rw [nx_len]
      unfold cntR
      split <;> decide
  · exact (by decide +kernel : isNm "out" = true ∧ ("out" : Str).length ≤ 8)
theorem wordT_ok : ∀ i, i < 64 → isNm (wordT i) = true ∧ (wordT i).length ≤ 8 := by
  have : ((List.range 64).all fun i => isNm (wordT i) && decide ((wordT i).length ≤ 8)) = true := by decide +kernel
  intro i hi
  have h := List.all_eq_true.mp this i (List.mem_range.mpr hi)
  rw [Bool.and_eq_true] at h
  exact ⟨h.1, of_decide_eq_true h.2⟩
theorem tree_okB : OkB oCoin treeR 0 := by
  refine ⟨oCoin_ok, by rw [tree_len]; decide, by rw [tree_len]; decide, fun i d e => ?_, by rw [tree_len]; decide⟩
  have fit := tree_rest.fit i d e
  have hi := (List.getElem?_eq_some_iff.mp e).1
  rw [tree_len] at hi fit ⊢
  by_cases z : i < 63
  · rw [tree_ask z] at e
    obtain rfl := Option.some.inj e
    exact ⟨coin_look, (show 2 ≤ 1000 by decide), fun n hn => fit n hn⟩
  · rw [tree_fin (by omega) hi] at e
    obtain rfl := Option.some.inj e
    exact wordT_ok _ (by omega)
end Mine

set_option maxRecDepth 100000
set_option maxHeartbeats 4000000
namespace Mine
open PySem L2 LamB
/-- what a body of the law can be asked, and who makes it -/
structure BodyF5 (P : Program) (w : World) (K : PySem.W.Frag) (mg : Str → Option Value) (base : Heap) (CB CM PC PM : Addr) : Prop where
  cl : BodyC K CB
  rows : ∃ f fd, Meth K CB "rows" f ∧ FnOk P w K mg base CX0 1 f fd ["self"] (spBRows CB CM) ∧ Binds K fd ["self"] []
  asked : ∃ f fd, Meth K CB "asked" f ∧ FnOk P w K mg base CX0 1 f fd ["self"] (spBAsked CB CM) ∧ Binds K fd ["self"] []
  words : ∃ f fd, Meth K CB "words" f ∧ FnOk P w K mg base CX0 1 f fd ["self"] (spBWords CB CM) ∧ Binds K fd ["self"] []
  hangs : ∃ f fd, Meth K CB "hangs" f ∧ FnOk P w K mg base CX0 1 f fd ["self"] (spBHangs CB CM) ∧ Binds K fd ["self"] []
  len : ∃ f fd, PySem.W.findIn K (.ref CB) "__len__" = some (some (.ref f)) ∧ PySem.W.isFn K (.ref f) = true ∧ FnOk P w K mg base CX0 1 f fd ["self"] (spBLen CB CM) ∧ Binds K fd ["self"] []
  g_Body : mg "Body" = some (.ref CB)
  make : ∃ f fd ds, Mk K CB f ∧ FnOk P w K mg base CX0 7 f fd PB (spBody CB CM) ∧ Vals [V.int 0] ds ∧ Binds K fd PB ds ∧ KBn K fd PB (2 + 1) KS (fun us ws => us ++ ws) (fun vs zs => vs ++ zs)
  shown : ∃ f fd, FnOk P w K mg base CX0 5 f fd ["body", "history"] (spShown CB CM) ∧ Binds K fd ["body", "history"] [] ∧ mg "shown" = some (.ref f) ∧ PySem.W.keepIn K (.ref f) = true
  least : ∃ f fd, FnOk P w K mg base CX0 10 f fd ["body"] (spLeast CB CM PC PM) ∧ Binds K fd ["body"] [] ∧ mg "least" = some (.ref f) ∧ PySem.W.keepIn K (.ref f) = true
  next : ∃ f fd, FnOk P w K mg base CX0 1 f fd ["_law_source", "_law_many"] spNext ∧ Binds K fd ["_law_source", "_law_many"] [] ∧ mg "_law_next" = some (.ref f) ∧ PySem.W.keepIn K (.ref f) = true
  one : ∃ f fd, FnOk P w K mg base CX0 2 f fd ["_law_source", "_law_some"] spOne ∧ Binds K fd ["_law_source", "_law_some"] [] ∧ mg "_law_one" = some (.ref f) ∧ PySem.W.keepIn K (.ref f) = true
abbrev s_ring : Stmt := top 67
abbrev s_rings : Stmt := top 68
abbrev s_tree : Stmt := top 69
/-- all but the source and the two tables is as it was -/
def But3 (a PC PM : Addr) (H H' : Hp) : Prop := ∀ b o, b ≠ a → b ≠ PC → b ≠ PM → H b = some o → H' b = some o
/-- a check of the law: from the source and the tables on, it says True -/
def spCheck (PC PM : Addr) : Sp := fun vs H Q _ => ∃ a : Addr, vs = [.ref a] ∧ SrcAt H a ∧ LamX.Tabs [(PC, qCut)] H ∧ LamX.Tabs [(PM, qMer)] H ∧
  ∀ H', But3 a PC PM H H' → SrcAt H' a → LamX.Tabs [(PC, qCut)] H' → LamX.Tabs [(PM, qMer)] H' → Q (.bl true) H'
theorem But3.s {a PC PM : Addr} {H H' : Hp} (u : Same H H') : But3 a PC PM H H' := fun b o _ _ _ e => u b o e
theorem But3.a {a PC PM : Addr} {H H' : Hp} (u : But H H' a) : But3 a PC PM H H' := fun b o n _ _ e => u b o n e
theorem But3.two {a PC PM : Addr} {H H' : Hp} (u : But2 PC PM H H') : But3 a PC PM H H' := fun b o _ n m e => u b o n m e
theorem But3.trans {a PC PM : Addr} {H H1 H2 : Hp} (u : But3 a PC PM H H1) (v : But3 a PC PM H1 H2) : But3 a PC PM H H2 := fun b o n1 n2 n3 e => v b o n1 n2 n3 (u b o n1 n2 n3 e)
/-- a list of rows that is being made -/
structure RowsB (Hc Hx : Hp) (D : Addr) (rs : List RowD) : Prop where
  same : Same Hc Hx
  at_ : ∃ xs, Hx D = some (.lst xs) ∧ Rows Hx xs rs
theorem RowsB.start {Hc : Hp} {D : Addr} (nD : Hc D = none) : RowsB Hc (upd Hc D (.lst [])) D [] := ⟨sameNew nD _, [], upd_same, rfl, fun i d e => by cases e⟩
theorem RowsB.go {Hc Hx H' : Hp} {D : Addr} {rs : List RowD} (h : RowsB Hc Hx D rs) (s : Same Hx H') : RowsB Hc H' D rs := by
  obtain ⟨h1, xs, h2, h3⟩ := h
  exact ⟨h1.trans s, xs, s _ _ h2, h3.same s⟩
theorem RowsB.step {Hc Hx : Hp} {D : Addr} {rs : List RowD} (h : RowsB Hc Hx D rs) (nD : Hc D = none) : ∃ acc, Hx D = some (.lst acc) ∧ acc.length = rs.length ∧ ∀ (v : V) (d : RowD), TRow Hx v d → RowsB Hc (upd Hx D (.lst (acc ++ [v]))) D (rs ++ [d]) := by
  obtain ⟨h1, xs, h2, h3⟩ := h
  refine ⟨xs, h2, h3.1, fun v d t => ⟨same_updN h1 nD, xs ++ [v], upd_same, by rw [List.length_append, List.length_append, h3.1]; rfl, fun i di ei => ?_⟩⟩
  by_cases hi : i < rs.length
  · rw [List.getElem?_append_left hi] at ei
    obtain ⟨u, k1, k2⟩ := h3.2 i di ei
    exact ⟨u, by rw [List.getElem?_append_left (by rw [h3.1]; exact hi)]; exact k1, k2.other h2⟩
  · rw [List.getElem?_append_right (by omega)] at ei
    have hz : i - rs.length = 0 := by
      have := (List.getElem?_eq_some_iff.mp ei).1
      rw [List.length_singleton] at this
      omega
    rw [hz] at ei
    cases ei
    exact ⟨v, by rw [List.getElem?_append_right (by rw [h3.1]; omega), h3.1, hz]; rfl, t.other h2⟩
theorem Rows.append {H : Hp} {xs ys : List V} {rs ss : List RowD} (h : Rows H xs rs) (g : Rows H ys ss) : Rows H (xs ++ ys) (rs ++ ss) := by
  refine ⟨by rw [List.length_append, List.length_append, h.1, g.1], fun i d e => ?_⟩
  by_cases hi : i < rs.length
  · rw [List.getElem?_append_left hi] at e
    obtain ⟨u, k1, k2⟩ := h.2 i d e
    exact ⟨u, by rw [List.getElem?_append_left (by rw [h.1]; exact hi)]; exact k1, k2⟩
  · rw [List.getElem?_append_right (by omega)] at e
    obtain ⟨u, k1, k2⟩ := g.2 _ d e
    exact ⟨u, by rw [List.getElem?_append_right (by rw [h.1]; omega), h.1]; exact k1, k2⟩
theorem Rows.nil {H : Hp} : Rows H [] [] := ⟨rfl, fun i d e => by cases e⟩
theorem Rows.cons {H : Hp} {x : V} {xs : List V} {d : RowD} {rs : List RowD} (t : TRow H x d) (h : Rows H xs rs) : Rows H (x :: xs) (d :: rs) := by
  refine ⟨by rw [List.length_cons, List.length_cons, h.1], fun i e ei => ?_⟩
  match i, ei with
  | 0, ei =>
    cases ei
    exact ⟨x, rfl, t⟩
  | i + 1, ei =>
    obtain ⟨u, k1, k2⟩ := h.2 i e ei
    exact ⟨u, k1, k2⟩
theorem body_endR {CB CM : Addr} {H2 : Hp} {R : Hp → Prop} {E : XK} {d r : Addr} {xs : List V} {rs : List RowD} {o : Ops} {b : Int} {b0 : Nat} (eb : b = (b0 : Int)) (hd : H2 d = some (.dK (opsK o))) (hx : SqA H2 r xs) (rows : RowsIn H2 xs rs) (ok : OkB o rs b0)
    (bd dx : Addr) (nb : H2 bd = none) (nd : H2 dx = none) (ne : dx ≠ bd) (k : ∀ H3, Same H2 H3 → BodyN CB CM H2 H3 bd o rs b0 → R H3) : spBody CB CM [.ref bd, .ref d, .ref r, .int b] (upd (upd H2 dx (.own bd)) bd (.ins CB dx [])) (fun v H3 => v = .non ∧ R H3) E := by
  subst eb
  have sm : Same H2 (upd (upd H2 dx (.own bd)) bd (.ins CB dx [])) := same_updN (same_updN (Same.refl _) nd) nb
  exact ⟨bd, d, r, dx, xs, rs, o, b0, rfl, upd_same, sm _ _ hd, ok.ops, sm.sqa hx, rows.same sm, ok.lo, ok.hi, ok.rows, ok.lt, ok.few "ask", ok.few "end", fun H' s' B => ⟨rfl, k H' (fun b2 u e => s' b2 u (ne_of_none e nb) (sm _ _ e)) (by
    obtain ⟨m, t, l, sa, aa, ea, o', xs, as, es, h, n1, n2, n3, n4, n5, n6⟩ := B
    exact ⟨m, t, l, sa, aa, ea, o', xs, as, es, h, none_of sm n1, none_of sm n2, none_of sm n3, none_of sm n4, none_of sm n5, none_of sm n6⟩)⟩⟩
theorem strs_tdp {K : PySem.W.Frag} {H : Hp} {p : Addr} {ts : List Str} (h : H p = some (.tup (ts.map V.str))) : Dp K H (.ref p) (.tuple (ts.map PyData.str)) := .tup (.inl (.inl h)) (strs_all ts)
theorem BodyAt.one {CB CM : Addr} {H : Hp} {bd : Addr} {o : Ops} {rs : List RowD} {b : Nat} (h : BodyAt CB CM H bd o rs b) : ∃ dx m, H bd = some (.ins CB dx [("machine", V.ref m)]) := by
  obtain ⟨m, t, l, sa, aa, ea, o', xs, as, es, h⟩ := h
  obtain ⟨dx, e⟩ := h.own
  exact ⟨dx, m, e⟩
theorem tabs_src {P a : Addr} {q : Str} {H H' : Hp} (t : LamX.Tabs [(P, q)] H) (u : But H H' a) (ha : ∃ vs, H a = some (.lst vs)) : LamX.Tabs [(P, q)] H' := fun p hp => by
  obtain ⟨vs, ha⟩ := ha
  obtain ⟨ps, h1, h2, h3⟩ := t p hp
  refine ⟨ps, u _ _ (fun z => by rw [z, ha] at h1; cases h1) h1, h2, fun pos cv hc => ?_⟩
  obtain ⟨c, e1, e2⟩ := h3 pos cv hc
  exact ⟨c, e1, u _ _ (fun z => by rw [z, ha] at e2; cases e2) e2⟩
/-- what is no table stays -/
theorem but2_ext {PC PM : Addr} {q1 q2 : Str} {H H' : Hp} (u : But2 PC PM H H') (tC : LamX.Tabs [(PC, q1)] H) (tM : LamX.Tabs [(PM, q2)] H) : LamX.ExtN H H' := fun b o h n => by
  obtain ⟨ps, h1, _⟩ := tC (PC, q1) (List.mem_singleton.mpr rfl)
  obtain ⟨qs, h2, _⟩ := tM (PM, q2) (List.mem_singleton.mpr rfl)
  have h1 : H PC = some (.tbl ps) := h1
  have h2 : H PM = some (.tbl qs) := h2
  refine u b o (fun z => ?_) (fun z => ?_) h
  · rw [z, h1] at h
    exact n ps (Option.some.inj h).symm
  · rw [z, h2] at h
    exact n qs (Option.some.inj h).symm
theorem TRow.ext {H H' : Hp} {v : V} {d : RowD} (h : TRow H v d) (s : LamX.ExtN H H') : TRow H' v d := by
  have up : ∀ {q : Addr} {us : List V}, H q = some (.tup us) → H' q = some (.tup us) := fun {q us} eq => s _ _ eq fun ps z => nomatch z
  cases d with
  | ask op ns =>
    obtain ⟨q, t, e1, k1, k2⟩ := h
    exact ⟨q, t, e1, up k1, up k2⟩
  | go m =>
    obtain ⟨q, e1, k1⟩ := h
    exact ⟨q, e1, up k1⟩
  | fin m =>
    obtain ⟨q, e1, k1⟩ := h
    exact ⟨q, e1, up k1⟩
theorem Rows.ext {H H' : Hp} {xs : List V} {rs : List RowD} (h : Rows H xs rs) (s : LamX.ExtN H H') : Rows H' xs rs := ⟨h.1, fun i d e => by
  obtain ⟨u, k1, k2⟩ := h.2 i d e
  exact ⟨u, k1, k2.ext s⟩⟩
theorem cut_init {l : List V} {x : V} : cutV (l ++ [x]) none (some (-1)) = l := by
  have e0 : HT.sIx (l ++ [x]).length 0 none = 0 := rfl
  have e1 : HT.sIx (l ++ [x]).length (l ++ [x]).length (some (-1)) = l.length := by
    rw [List.length_append]
    show HT.sIx (l.length + 1) (l.length + 1) (some (-1)) = _
    unfold HT.sIx
    first | (simp; done) | (simp; omega) | (dsimp only; split <;> omega) | omega
  unfold cutV
  rw [e0, e1, List.drop_zero, Nat.sub_zero, List.take_left']
  rfl
theorem BodyAt.ext {CB CM : Addr} {H H' : Hp} {bd : Addr} {o : Ops} {rs : List RowD} {b : Nat} (h : BodyAt CB CM H bd o rs b) (s : LamX.ExtN H H') : BodyAt CB CM H' bd o rs b := by
  obtain ⟨m, t, l, sa, aa, ea, o', xs, as, es, ⟨⟨dx, fb, h1, h2⟩, ⟨dm, fm, h3, h4⟩, h5, h6, h7, h8, h9, dw, hw⟩⟩ := h
  exact ⟨m, t, l, sa, aa, ea, o', xs, as, es, ⟨dx, fb, s _ _ h1 (fun _ z => nomatch z), h2⟩, ⟨dm, fm, s _ _ h3 (fun _ z => nomatch z), ⟨h4.counts, h4.lines, h4.begin, h4.stops, h4.asks, h4.endings, h4.endless, s _ _ h4.hs (fun _ z => nomatch z), s _ _ h4.ha (fun _ z => nomatch z), s _ _ h4.he (fun _ z => nomatch z), h4.fa, h4.fe⟩⟩, s _ _ h5 (fun _ z => nomatch z), h6, s _ _ h7 (fun _ z => nomatch z), h8.ext s, h9, dw, s _ _ hw (fun _ z => nomatch z)⟩
def least2D : PyData := .list [.tuple [.str "ask", .str "coin", .tuple [.int 1, .int 1]], .tuple [.str "end", .str "good"]]
theorem least2_dp {K : PySem.W.Frag} {H : Hp} {p : Addr} {ys : List V} (r : Rows H ys least2) (e : H p = some (.lst ys)) : Dp K H (.ref p) least2D := by
  match ys, r.1, r.2, e with
  | [v0, v1], _, r, e =>
    obtain ⟨u0, k1, k2⟩ := r 0 _ rfl
    obtain rfl := Option.some.inj k1
    obtain ⟨u1, k3, k4⟩ := r 1 _ rfl
    obtain rfl := Option.some.inj k3
    obtain ⟨q, t, rfl, h1, h2⟩ := k2
    obtain ⟨q2, rfl, h3⟩ := k4
    exact .lst (SqL.of e) (.cons (.tup (.inl (.inl h1)) (.cons (.str _) (.cons (.str _) (.cons (.tup (.inl (.inl h2)) (.cons (.int _) (.cons (.int _) .nil))) .nil)))) (.cons (.tup (.inl (.inl h3)) (.cons (.str _) (.cons (.str _) .nil))) .nil))
end Mine

set_option maxRecDepth 100000
set_option maxHeartbeats 4000000
namespace Mine
open PySem L2 LamB
section
variable {P : Program} {w : World} {K : PySem.W.Frag} {mg : Str → Option Value} {base : Heap}
variable {fII fIW CB CM PC PM : Addr}
theorem sc_rings : FnScope ["_law_source", "_law_many", "_law_far", "_law_rows", "_law_k", "_law_body", "_law_other"] ["_law_source"] (defScope s_rings) := ⟨rfl, rfl, rfl, by decide +kernel, rfl, by decide +kernel, by decide +kernel⟩

theorem ok_rings {f : Addr} {fd : FuncData} (F : Fun K "_law_rings_right" "_law_rings_right" s_rings f fd) (T : TxtF K mg fII fIW) (TB : BodyC K CB) (TM : MachC K CM) (h_range : mg "range" = none) (BF : BodyF5 P w K mg base CB CM PC PM) (ne : PC ≠ PM) : FnOk P w K mg base CX0 11 f fd ["_law_source"] (spCheck PC PM) := by
  obtain ⟨f_rows, fd_rows, m_rows, G_rows, b_rows⟩ := BF.rows
  obtain ⟨f_hangs, fd_hangs, m_hangs, G_hangs, b_hangs⟩ := BF.hangs
  obtain ⟨fl_, fd_len, s_len, f_len, G_len, b_len⟩ := BF.len
  obtain ⟨fB, fdB, ds, MB, GB, hds, bB, kB⟩ := BF.make
  obtain ⟨f_shown, fd_shown, G_shown, b_shown, g_shown, k_shown⟩ := BF.shown
  obtain ⟨f_least, fd_least, G_least, b_least, g_least, k_least⟩ := BF.least
  obtain ⟨f_next, fd_next, G_next, b_next, g_next, k_next⟩ := BF.next
  refine F.ok sc_rings (fun vs H Q E h => ?_) (fun cdv A outer s H vs Q E hr h => ?_)
  · obtain ⟨a, rfl, _⟩ := h
    rfl
  · obtain ⟨a, rfl, ⟨x, y, z, ha⟩, tC, tM, k⟩ := h
    refine ⟨_, ((pss_cons (ps_par (i := 1) (j := 2) rfl sc_rings.nd rfl rfl (by decide) rfl rfl (pa_cons (pe_op op_add pe_int (pe_call G_next (hr.mono (by decide)) (by rfl) g_next k_next b_next .nil pass0 (pa_cons (pv 0) (pa_cons pe_int pa_nil)))) (pa_cons (pe_call G_next (hr.mono (by decide)) (by rfl) g_next k_next b_next .nil pass0 (pa_cons (pv 0) (pa_cons pe_int pa_nil))) pa_nil)) rfl)
      (pss_cons (ps_set (i := 3) sc_rings.nd rfl (Or.inl rfl) (pe_op op_catG (pe_op op_catG (pe_lstG (pa_cons (pe_tupG (pa_cons pe_str (pa_cons pe_str (pa_cons (pe_tupG (pa_cons pe_int (pa_cons pe_int pa_nil))) pa_nil)))) (pa_cons (pe_tupG (pa_cons pe_str (pa_cons pe_str pa_nil))) pa_nil))) (pe_lc (own := [("_law_k", 4)]) (g := (gName 4)) (tt := tYes) rfl sc_rings.nd (pi_range1 (by rfl) h_range (pa_cons (pv 1) pa_nil)) (blkOk_by (own := [("_law_k", 4)]) (N := ["_law_source", "_law_many", "_law_far", "_law_rows", "_law_k", "_law_body", "_law_other"]) (sc := defScope s_rings) (by decide +kernel)) (fun _ _ _ _ _ => (pg_name (i := 4) sc_rings.nd rfl (Or.inl rfl))) (fun _ _ _ _ _ => pts_nil) (fun _ _ _ _ _ => (pe_tupG (pa_cons pe_str (pa_cons (pe_op op_add (pv 4) pe_int) pa_nil)))))) (pe_lstG (pa_cons (pe_tupG (pa_cons pe_str (pa_cons (pe_op op_add pe_int (pv 2)) pa_nil))) pa_nil))))
      (pss_cons (ps_set (i := 5) sc_rings.nd rfl (Or.inl rfl) (pe_make (dvs := [V.int 0]) MB GB (hr.mono (by decide)) (by rfl) BF.g_Body bB hds pass0 (pa_cons (pe_disp (pps_cons pe_str pe_int pps_nil) rfl rfl (fun z => by cases z) (by show 1 ≤ 15; decide)) (pa_cons (pv 3) pa_nil))))
      (pss_cons (ps_if (PW.pt (pw_or (pt_cmpR (op_neD hr.units) (pe_call G_shown (hr.mono (by decide)) (by rfl) g_shown k_shown b_shown .nil pass0 (pa_cons (pv 5) (pa_cons (pe_lstG (pa_cons (pe_tupG (pa_cons pe_str (pa_cons pe_int pa_nil))) pa_nil)) pa_nil))) (pe_tupG (pa_cons pe_str pa_nil)) (nomark _)) (pw_or (pt_not (pt_truth (pe_meth0 (pv 5) BF.cl.cl m_hangs G_hangs (hr.mono (by decide)) b_hangs .nil pass0) (by intro _; rfl))) (pw_or1 (pt_cmpR op_ne (pe_callB (call_lenO G_len (hr.mono (by decide)) b_len pass0 s_len f_len) (by rfl) T.b_len PySem.boot_len (pa_cons (pe_call G_least (hr.mono (by decide)) (by rfl) g_least k_least b_least .nil pass0 (pa_cons (pv 5) pa_nil)) pa_nil)) pe_int (nomark _)))))) (pss_one (ps_ret pe_bl)) pss_nil)
      (pss_cons (ps_set (i := 6) sc_rings.nd rfl (Or.inl rfl) (pe_make (dvs := [V.int 0]) MB GB (hr.mono (by decide)) (by rfl) BF.g_Body bB hds pass0 (pa_cons (pe_disp (pps_cons pe_str pe_int pps_nil) rfl rfl (fun z => by cases z) (by show 1 ≤ 15; decide)) (pa_cons (pe_op op_catG (pe_slice sl_listG (pv 3) po_none (po_some (pe_un un_neg pe_int))) (pe_lstG (pa_cons (pe_tupG (pa_cons pe_str (pa_cons pe_int pa_nil))) pa_nil))) pa_nil))))
      (pss_cons (ps_if (PW.pt (pw_or (pt_cmpR (op_neD hr.units) (pe_call G_shown (hr.mono (by decide)) (by rfl) g_shown k_shown b_shown .nil pass0 (pa_cons (pv 6) (pa_cons (pe_lstG (pa_cons (pe_tupG (pa_cons pe_str (pa_cons pe_int pa_nil))) pa_nil)) pa_nil))) (pe_tupG (pa_cons pe_str (pa_cons pe_str pa_nil))) (nomark _)) (pw_or1 (pt_truth (pe_meth0 (pv 6) BF.cl.cl m_hangs G_hangs (hr.mono (by decide)) b_hangs .nil pass0) (by intro _; rfl))))) (pss_one (ps_ret pe_bl)) pss_nil)
      (pss_one (ps_ret (pe_and (pe_cmpR (op_eqD hr.units) (pe_meth0 (pe_call G_least (hr.mono (by decide)) (by rfl) g_least k_least b_least .nil pass0 (pa_cons (pv 6) pa_nil)) BF.cl.cl m_rows G_rows (hr.mono (by decide)) b_rows .nil pass0) (pe_lstG (pa_cons (pe_tupG (pa_cons pe_str (pa_cons pe_str (pa_cons (pe_tupG (pa_cons pe_int (pa_cons pe_int pa_nil))) pa_nil)))) (pa_cons (pe_tupG (pa_cons pe_str (pa_cons pe_str pa_nil))) pa_nil))) (nomark _)) (pe_one (pe_cmpR op_eq (pe_callB (call_lenO G_len (hr.mono (by decide)) b_len pass0 s_len f_len) (by rfl) T.b_len PySem.boot_len (pa_cons (pv 6) pa_nil)) (pe_op op_add (pv 1) pe_int) (nomark _))))))))))))), ?_⟩
    refine ⟨_, rfl, a, 300, x, y, z, rfl, by decide, by decide, ha, fun n1 x1 y1 z1 H1 n1a n1b bt1 ha1 => ?_⟩
    refine ⟨30, n1, rfl, rfl, _, rfl, a, 30, x1, y1, z1, rfl, by decide, by decide, ha1, fun n2 x2 y2 z2 H2 n2a n2b bt2 ha2 => ?_⟩
    refine ⟨_, _, rfl, ?_⟩
    obtain ⟨N1, rfl⟩ := Int.eq_ofNat_of_zero_le n1a
    obtain ⟨N2, rfl⟩ := Int.eq_ofNat_of_zero_le n2a
    have one : ∀ v : V, [v].length ≤ sizeLine := fun v => by rw [sizeLine_eq]; exact Nat.le_trans (show 1 ≤ 1 from Nat.le_refl 1) (by decide)
    have two : ∀ v u : V, [v, u].length ≤ sizeLine := fun v u => by rw [sizeLine_eq]; exact Nat.le_trans (show 2 ≤ 2 from Nat.le_refl 2) (by decide)
    have three : ∀ v u t : V, [v, u, t].length ≤ sizeLine := fun v u t => by rw [sizeLine_eq]; exact Nat.le_trans (show 3 ≤ 3 from Nat.le_refl 3) (by decide)
    refine ⟨two _ _, fun p1 G1 m1 s1 e1 => ⟨three _ _ _, fun p2 G2 m2 s2 e2 => ⟨two _ _, fun p3 G3 m3 s3 e3 => ⟨two _ _, fun p4 G4 m4 s4 e4 => ?_⟩⟩⟩⟩
    refine ⟨_, rfl, ((30 + N1 : Nat) : Int), by simp, by omega, by omega, fun D nD => lc_range (lo := 0) (n := 30 + N1) (fun i Hx => RowsB G4 Hx D ((List.range i).map fun k => RowD.go ((k + 3 : Nat) : Int))) (RowsB.start nD) (fun i Hx hi z => ?_) fun Hx z => ?_⟩
    · refine ⟨rfl, _, rfl, (0 + i : Int), 3, rfl, rfl, two _ _, fun c0 K4 n0 s0 e0 => ?_⟩
      obtain ⟨acc, q1, q2, q3⟩ := (z.go s0).step nD
      refine ⟨acc, q1, ?_, ?_⟩
      · rw [q2, List.length_map, List.length_range, sizeLine_eq]
        omega
      · rw [List.range_succ, List.map_append]
        exact q3 (.ref c0) (.go ((i + 3 : Nat) : Int)) ⟨c0, rfl, by rw [show ((i + 3 : Nat) : Int) = 0 + (i : Int) + 3 by omega]; exact e0⟩
    obtain ⟨sD, xsD, dD, rD⟩ := z
    have lD : xsD.length = 30 + N1 := by rw [rD.1, List.length_map, List.length_range]
    refine ⟨p4, D, _, _, rfl, rfl, sD _ _ e4, dD, ?_, fun p5 G5 m5 s5 e5 => ?_⟩
    · rw [lD, sizeLine_eq]
      show 2 + (30 + N1) ≤ _
      omega
    refine ⟨_, rfl, 2, N2, rfl, rfl, two _ _, fun p6 G6 m6 s6 e6 => ⟨one _, fun p7 G7 m7 s7 e7 => ?_⟩⟩
    refine ⟨p5, p7, _, _, rfl, rfl, s7 _ _ (s6 _ _ e5), e7, ?_, fun p8 G8 m8 s8 e8 => ?_⟩
    · rw [List.length_append, lD, sizeLine_eq]
      show 2 + (30 + N1) + 1 ≤ _
      omega
    have t48 : Same G4 G8 := sD.trans (s5.trans (s6.trans (s7.trans s8)))
    have rw0 := Rows.append (Rows.cons (d := .ask "coin" [1, 2]) ⟨p2, p1, rfl, t48 _ _ (s4 _ _ (s3 _ _ e2)), t48 _ _ (s4 _ _ (s3 _ _ (s2 _ _ e1)))⟩ (Rows.cons (d := .fin "good") ⟨p3, rfl, t48 _ _ (s4 _ _ e3)⟩ Rows.nil)) (rD.same (s5.trans (s6.trans (s7.trans s8))))
    have rws : Rows G8 (([.ref p2, .ref p3] ++ xsD) ++ [.ref p6]) (ringsR (30 + N1) (2 + N2)) := by
      unfold ringsR
      refine Rows.append rw0 (Rows.cons ⟨p6, rfl, ?_⟩ Rows.nil)
      rw [show ((2 + N2 : Nat) : Int) = 2 + (N2 : Int) by omega]
      exact s8 _ _ (s7 _ _ e6)
    refine fun d0 nd0 => ⟨upd_same, [((.inr "coin" : Key), V.int 2)], rfl, by decide, _, rfl, fun bd dx nb ndx nebd => ?_⟩
    have e9 : ∀ G : Hp, upd (upd G d0 (.dK [])) d0 (.dK (mergeK [] [((.inr "coin" : Key), V.int 2)])) d0 = some (.dK (opsK oCoin)) := fun G => by rw [upd_same]; rfl
    have s9 : Same G8 (upd (upd G8 d0 (.dK [])) d0 (.dK (mergeK [] [((.inr "coin" : Key), V.int 2)]))) := same_updN (sameNew nd0 _) nd0
    have e90 := e9 G8
    generalize upd (upd G8 d0 (.dK [])) d0 (.dK (mergeK [] [((.inr "coin" : Key), V.int 2)])) = G9 at *
    refine body_endR (CB := CB) (CM := CM) (b0 := 0) rfl e90 (.inl (s9 _ _ e8)) (rws.same s9).inn (rings_okB (by omega) (by omega)) bd dx nb ndx nebd (fun G10 s10 BN => ?_)
    have B1 := BN.at
    refine ⟨_, rfl, two _ _, fun p11 G11 m11 s11 e11 => ⟨one _, fun p12 G12 m12 s12 e12 => ?_⟩⟩
    refine ⟨bd, p12, oCoin, ringsR (30 + N1) (2 + N2), 0, [("coin", 1)], 2 + N2, rfl, B1.same (s11.trans s12), ?_, oCoin_ok.nd, (rings_okB (m := 30 + N1) (x := 2 + N2) (by omega) (by omega)).asks, rings_fit (by omega), ?_, fun t G13 s13 e13 => ?_⟩
    · exact ⟨[.ref p11], e12, HPs.snoc (HPs.nil _) (s12 _ _ e11)⟩
    · rw [rings_hist (by omega), rings_far (by omega)]
    rw [(rings_hang (by omega)).1] at e13
    refine ⟨one _, fun p14 G14 m14 s14 e14 => ?_⟩
    refine ⟨.tuple ([("hang" : Str)].map PyData.str), .tuple ([("hang" : Str)].map PyData.str), strs_tdp (s14 _ _ e13), strs_tdp e14, by decide +kernel, by decide +kernel, _, rfl, ?_⟩
    rw [show (!PyData.eqv (.tuple ([("hang" : Str)].map PyData.str)) (.tuple ([("hang" : Str)].map PyData.str))) = false by decide +kernel]
    refine iteF ?_
    have B14 : BodyAt CB CM G14 bd oCoin (ringsR (30 + N1) (2 + N2)) 0 := B1.same (s11.trans (s12.trans (s13.trans s14)))
    have t214 : Same H2 G14 := s1.trans (s2.trans (s3.trans (s4.trans (t48.trans (s9.trans (s10.trans (s11.trans (s12.trans (s13.trans s14)))))))))
    have tC14 := ((tabs_src tC bt1 ⟨_, ha⟩ |> fun t => tabs_src t bt2 ⟨_, ha1⟩)).ext t214
    have tM14 := ((tabs_src tM bt1 ⟨_, ha⟩ |> fun t => tabs_src t bt2 ⟨_, ha1⟩)).ext t214
    obtain ⟨dx1, mm1, eb1⟩ := B14.one
    refine ⟨_, rfl, bd, dx1, _, rfl, eb1, by rfl, bd, oCoin, _, 0, rfl, B14, ?_⟩
    dsimp only
    rw [(rings_hang (m := 30 + N1) (f := N2) (by omega)).2]
    refine ⟨true, rfl, iteF ?_⟩
    refine ⟨_, rfl, bd, oCoin, _, 0, rfl, B14, rings_fit (by omega), (rings_okB (m := 30 + N1) (x := 2 + N2) (by omega) (by omega)).tame, ?_, oCoin_ok.nd, (rings_okB (m := 30 + N1) (x := 2 + N2) (by omega) (by omega)).look, tC14, tM14, fun bd2 G15 o2 rs' b15 tC15 tM15 nb2 B15 oas R15 T15 pos mo => ?_⟩
    · rw [rings_len]
      omega
    obtain rfl := rings_least3 (by omega) mo
    obtain ⟨dx2, mm2, eb2⟩ := B15.one
    refine ⟨bd2, dx2, _, rfl, eb2, bd2, o2, least3, 0, rfl, B15, 3, rfl, by decide, by decide, ?_⟩
    refine ⟨rfl, _, rfl, ?_⟩
    refine iteF ?_
    -- the other one
    have x15 := but2_ext b15 tC14 tM14
    have t814 : Same G8 G14 := s9.trans (s10.trans (s11.trans (s12.trans (s13.trans s14))))
    have e815 := x15 _ _ (t814 _ _ e8) fun ps z => nomatch z
    have r815 := (rws.same t814).ext x15
    refine fun d1 nd1 => ⟨upd_same, [((.inr "coin" : Key), V.int 2)], rfl, by decide, ?_⟩
    have e9 : ∀ G : Hp, upd (upd G d1 (.dK [])) d1 (.dK (mergeK [] [((.inr "coin" : Key), V.int 2)])) d1 = some (.dK (opsK oCoin)) := fun G => by rw [upd_same]; rfl
    have s16 : Same G15 (upd (upd G15 d1 (.dK [])) d1 (.dK (mergeK [] [((.inr "coin" : Key), V.int 2)]))) := same_updN (sameNew nd1 _) nd1
    have e16 := e9 G15
    generalize upd (upd G15 d1 (.dK [])) d1 (.dK (mergeK [] [((.inr "coin" : Key), V.int 2)])) = G16 at *
    refine ⟨_, rfl, 1, rfl, -1, rfl, p8, _, rfl, SqL.of (s16 _ _ e815), fun p17 G17 m17 s17 e17 => ?_⟩
    refine ⟨two _ _, fun p18 G18 m18 s18 e18 => ⟨one _, fun p19 G19 m19 s19 e19 => ?_⟩⟩
    rw [cut_init] at e17
    refine ⟨p17, p19, _, _, rfl, rfl, s19 _ _ (s18 _ _ e17), e19, ?_, fun p20 G20 m20 s20 e20 => ?_⟩
    · rw [List.length_append, lD, sizeLine_eq]
      show 2 + (30 + N1) + 1 ≤ _
      omega
    have t1520 : Same G15 G20 := s16.trans (s17.trans (s18.trans (s19.trans s20)))
    have rws2 : Rows G20 (([.ref p2, .ref p3] ++ xsD) ++ [.ref p18]) (ringsR (30 + N1) 1) := by
      have r0 := (rw0.same t814).ext x15
      unfold ringsR
      exact Rows.append (r0.same t1520) (Rows.cons ⟨p18, rfl, s20 _ _ (s19 _ _ e18)⟩ Rows.nil)
    refine fun bo dxo nbo ndxo neo => ?_
    refine body_endR (CB := CB) (CM := CM) (b0 := 0) rfl (s20 _ _ (s19 _ _ (s18 _ _ (s17 _ _ e16)))) (.inl e20) rws2.inn (rings_okB (by omega) (by omega)) bo dxo nbo ndxo neo (fun G21 s21 BN2 => ?_)
    have B21 := BN2.at
    refine ⟨_, rfl, two _ _, fun p22 G22 m22 s22 e22 => ⟨one _, fun p23 G23 m23 s23 e23 => ?_⟩⟩
    refine ⟨bo, p23, oCoin, ringsR (30 + N1) 1, 0, [("coin", 1)], 1, rfl, B21.same (s22.trans s23), ⟨[.ref p22], e23, HPs.snoc (HPs.nil _) (s23 _ _ e22)⟩, oCoin_ok.nd, (rings_okB (m := 30 + N1) (x := 1) (by omega) (by omega)).asks, rings_fit (by omega), ?_, fun t2 G24 s24 e24 => ?_⟩
    · rw [rings_hist (by omega), rings_near]
    rw [rings_ends.1] at e24
    refine ⟨two _ _, fun p25 G25 m25 s25 e25 => ?_⟩
    refine ⟨.tuple ([("end" : Str), "good"].map PyData.str), .tuple ([("end" : Str), "good"].map PyData.str), strs_tdp (s25 _ _ e24), strs_tdp e25, by decide +kernel, by decide +kernel, _, rfl, ?_⟩
    rw [show (!PyData.eqv (.tuple ([("end" : Str), "good"].map PyData.str)) (.tuple ([("end" : Str), "good"].map PyData.str))) = false by decide +kernel]
    refine iteF ?_
    have t2125 : Same G21 G25 := s22.trans (s23.trans (s24.trans s25))
    have B25 := B21.same t2125
    obtain ⟨dx3, mm3, eb3⟩ := B25.one
    refine ⟨_, rfl, bo, dx3, _, rfl, eb3, by rfl, bo, oCoin, _, 0, rfl, B25, ?_⟩
    dsimp only
    rw [(rings_ends (m := 30 + N1)).2]
    refine ⟨false, rfl, iteF ?_⟩
    have t1525 : Same G15 G25 := t1520.trans (s21.trans t2125)
    have tC25 := tC15.ext t1525
    have tM25 := tM15.ext t1525
    refine ⟨_, rfl, bo, oCoin, _, 0, rfl, B25, rings_fit (by omega), (rings_okB (m := 30 + N1) (x := 1) (by omega) (by omega)).tame, ?_, oCoin_ok.nd, (rings_okB (m := 30 + N1) (x := 1) (by omega) (by omega)).look, tC25, tM25, fun b3 G26 o3 rs3 bt26 tC26 tM26 nb3 B26 oas3 R26 T26 pos3 mo3 => ?_⟩
    · rw [rings_len]
      omega
    obtain rfl := rings_least2 mo3
    obtain ⟨dx4, mm4, eb4⟩ := B26.one
    refine ⟨b3, dx4, _, rfl, eb4, by rfl, b3, o3, least2, 0, rfl, B26, fun ys rows' p27 G27 m27 s27 e27 => ?_⟩
    refine ⟨two _ _, fun p28 G28 m28 s28 e28 => ⟨three _ _ _, fun p29 G29 m29 s29 e29 => ⟨two _ _, fun p30 G30 m30 s30 e30 => ⟨two _ _, fun p31 G31 m31 s31 e31 => ?_⟩⟩⟩⟩
    have t2731 : Same G27 G31 := s28.trans (s29.trans (s30.trans s31))
    refine ⟨least2D, least2D, least2_dp ((rows'.same s27).same t2731) (t2731 _ _ e27), least2_dp (Rows.cons ⟨p29, p28, rfl, s31 _ _ (s30 _ _ e29), s31 _ _ (s30 _ _ (s29 _ _ e28))⟩ (Rows.cons ⟨p30, rfl, s31 _ _ e30⟩ Rows.nil)) e31, by decide +kernel, by decide +kernel, ?_⟩
    rw [show PyData.eqv least2D least2D = true by decide +kernel]
    have x26 := but2_ext bt26 tC25 tM25
    have t2631 : Same G26 G31 := s27.trans t2731
    have B31 := (B25.ext x26).same t2631
    obtain ⟨dx5, mm5, eb5⟩ := B31.one
    refine ⟨true, rfl, ?_⟩
    rw [if_pos rfl]
    refine ⟨_, rfl, bo, dx5, _, rfl, eb5, bo, oCoin, _, 0, rfl, B31, ((ringsR (30 + N1) 1).length : Int), rfl, by omega, ?_, ?_⟩
    · rw [rings_len]
      omega
    refine ⟨_, rfl, 30 + (N1 : Int), 3, rfl, rfl, rfl, ?_⟩
    rw [rings_len, show decide (V.int ((30 + N1 + 3 : Nat) : Int) = V.int (30 + (N1 : Int) + 3)) = true from decide_eq_true (congrArg V.int (by omega))]
    refine k G31 ?_ ⟨x2, y2, z2, t2631 _ _ (x26 _ _ (t1525 _ _ (x15 _ _ (t214 _ _ ha2) fun _ z => nomatch z)) fun _ z => nomatch z)⟩ (tC26.ext t2631) (tM26.ext t2631)
    exact (But3.a bt1).trans ((But3.a bt2).trans ((But3.s t214).trans ((But3.two b15).trans ((But3.s t1525).trans ((But3.two bt26).trans (But3.s t2631))))))
end
end Mine

set_option maxRecDepth 100000
set_option maxHeartbeats 4000000
namespace Mine
open PySem L2 LamB
theorem letter_at {i : Nat} (h : i < 8) : ∃ c, atI ("abcdefgh" : Str).cps.toList (i : Int) = some c ∧ (⟨#[c]⟩ : Str) = letT i := by
  have all : ((List.range 8).all fun (i : Nat) => match atI ("abcdefgh" : Str).cps.toList (i : Int) with | some c => decide ((⟨#[c]⟩ : Str) = letT i) | none => false) = true := by decide +kernel
  have t := List.all_eq_true.mp all i (List.mem_range.mpr h)
  cases e : atI ("abcdefgh" : Str).cps.toList (i : Int) with
  | none => rw [e] at t; cases t
  | some c =>
    rw [e] at t
    exact ⟨c, rfl, of_decide_eq_true t⟩
def powT (i : Nat) : Nat := [32, 16, 8, 4, 2, 1].getD i 1
theorem pow_at {i : Nat} (h : i < 6) : atI [V.int 32, .int 16, .int 8, .int 4, .int 2, .int 1] (i : Int) = some (V.int (powT i : Int)) ∧ 0 < powT i ∧ powT i ≤ 32 ∧ ∀ n, (histT n)[i]? = some (("coin" : Str), n / powT i % 2) := by
  rcases (show i = 0 ∨ i = 1 ∨ i = 2 ∨ i = 3 ∨ i = 4 ∨ i = 5 by omega) with rfl | rfl | rfl | rfl | rfl | rfl <;> exact ⟨rfl, by decide, by decide, fun _ => rfl⟩
theorem HPs.upd {H : Hp} {D : Addr} {xs : List V} {o : HO} {vs : List V} {ws : List (Str × Nat)} (h : HPs H vs ws) (hD : H D = some (.lst xs)) : HPs (L2.upd H D o) vs ws := ⟨h.1, fun k p e => by
  obtain ⟨q, h1, h2⟩ := h.2 k p e
  exact ⟨q, h1, by rw [upd_ne (fun z => by rw [z, hD] at h2; cases h2)]; exact h2⟩⟩
theorem take_snoc {α : Type} {l : List α} {i : Nat} {x : α} (h : l[i]? = some x) : l.take (i + 1) = l.take i ++ [x] := by
  rw [List.take_add_one, h]
  rfl
def endD (n : Nat) : PyData := .tuple ([("end" : Str), wordT n].map PyData.str)
theorem endD_ok {n : Nat} (h : n < 64) : SeqAt.shaped (endD n) = true ∧ PyData.eqv (endD n) (endD n) = true := by
  have all : ((List.range 64).all fun n => SeqAt.shaped (endD n) && PyData.eqv (endD n) (endD n)) = true := by decide +kernel
  have t := List.all_eq_true.mp all n (List.mem_range.mpr h)
  rw [Bool.and_eq_true] at t
  exact t
section
variable {P : Program} {w : World} {K : PySem.W.Frag} {mg : Str → Option Value} {base : Heap}
variable {fII fIW CB CM PC PM : Addr}
theorem sc_tree : FnScope ["_law_source", "_law_rows", "_law_letters_so", "_law_at", "_law_body", "_law_number", "_law_history", "_law_k"] ["_law_source"] (defScope s_tree) := ⟨rfl, rfl, rfl, by decide +kernel, rfl, by decide +kernel, by decide +kernel⟩

theorem ok_tree {f : Addr} {fd : FuncData} (F : Fun K "_law_tree_right" "_law_tree_right" s_tree f fd) (T : TxtF K mg fII fIW) (TB : BodyC K CB) (TM : MachC K CM) (h_range : mg "range" = none) (BF : BodyF5 P w K mg base CB CM PC PM) (ne : PC ≠ PM) : FnOk P w K mg base CX0 11 f fd ["_law_source"] (spCheck PC PM) := by
  obtain ⟨f_words, fd_words, m_words, G_words, b_words⟩ := BF.words
  obtain ⟨fl_, fd_len, s_len, f_len, G_len, b_len⟩ := BF.len
  obtain ⟨fB, fdB, ds, MB, GB, hds, bB, kB⟩ := BF.make
  obtain ⟨f_shown, fd_shown, G_shown, b_shown, g_shown, k_shown⟩ := BF.shown
  obtain ⟨f_least, fd_least, G_least, b_least, g_least, k_least⟩ := BF.least
  obtain ⟨f_next, fd_next, G_next, b_next, g_next, k_next⟩ := BF.next
  refine F.ok sc_tree (fun vs H Q E h => ?_) (fun cdv A outer s H vs Q E hr h => ?_)
  · obtain ⟨a, rfl, _⟩ := h
    rfl
  · obtain ⟨a, rfl, ⟨x, y, z, ha⟩, tC, tM, k⟩ := h
    refine ⟨_, ((pss_cons (ps_par (i := 1) (j := 2) rfl sc_tree.nd rfl rfl (by decide) rfl rfl (pa_cons (pe_lstG pa_nil) (pa_cons pe_str pa_nil)) rfl)
      (pss_cons (ps_for PassesOwn.never rfl (pi_range1 (by rfl) h_range (pa_cons pe_int pa_nil)) (pg_name (i := 3) sc_tree.nd rfl (Or.inl rfl)) (pss_one (ps_expr (pe_bm PySem.F.plainAttrs_list PySem.F.slot_list_append PySem.F.type_list_append mt_append (pv 1) (pa_cons (pe_tupG (pa_cons pe_str (pa_cons pe_str (pa_cons (pe_tupG (pa_cons (pe_op op_add (pe_op op_mul pe_int (pv 3)) pe_int) (pa_cons (pe_op op_add (pe_op op_mul pe_int (pv 3)) pe_int) pa_nil))) pa_nil)))) pa_nil)))))
      (pss_cons (ps_for PassesOwn.never rfl (pi_range1 (by rfl) h_range (pa_cons pe_int pa_nil)) (pg_name (i := 3) sc_tree.nd rfl (Or.inl rfl)) (pss_one (ps_expr (pe_bm PySem.F.plainAttrs_list PySem.F.slot_list_append PySem.F.type_list_append mt_append (pv 1) (pa_cons (pe_tupG (pa_cons pe_str (pa_cons (pe_op op_add_str (pe_ix ix_str (pv 2) (pe_op op_fdiv (pv 3) pe_int) (fun _ _ => rfl)) (pe_ix ix_str (pv 2) (pe_op op_mod (pe_callTy call_int1 (by rfl) T.b_int (by decide +kernel) (pa_cons (pv 3) pa_nil)) pe_int) (fun _ _ => rfl))) pa_nil))) pa_nil)))))
      (pss_cons (ps_asg (pe_tupG (pa_cons (pe_make (dvs := [V.int 0]) MB GB (hr.mono (by decide)) (by rfl) BF.g_Body bB hds pass0 (pa_cons (pe_disp (pps_cons pe_str pe_int pps_nil) rfl rfl (fun z => by cases z) (by show 1 ≤ 15; decide)) (pa_cons (pv 1) pa_nil))) (pa_cons (pe_call G_next (hr.mono (by decide)) (by rfl) g_next k_next b_next .nil pass0 (pa_cons (pv 0) (pa_cons pe_int pa_nil))) pa_nil))) (pg_tup rfl (pgs_cons (pg_name (i := 4) sc_tree.nd rfl (Or.inl rfl)) (pgs_cons (pg_name (i := 5) sc_tree.nd rfl (Or.inr rfl)) pgs_nil))))
      (pss_cons (ps_setLc (i := 6) (own := [("_law_k", 7)]) (g := (gName 7)) (tt := tYes) rfl sc_tree.nd rfl rfl (sw_true rfl rfl rfl rfl) (pi_range1 (by rfl) h_range (pa_cons pe_int pa_nil)) (blkOk_by (own := [("_law_k", 7)]) (N := ["_law_source", "_law_rows", "_law_letters_so", "_law_at", "_law_body", "_law_number", "_law_history", "_law_k"]) (sc := defScope s_tree) (by decide +kernel)) (fun _ _ _ _ _ => (pg_name (i := 7) sc_tree.nd rfl (Or.inl rfl))) (fun _ _ _ _ _ => pts_nil) (fun _ _ _ _ _ => (pe_tupG (pa_cons pe_str (pa_cons (pe_op op_mod (pe_callTy call_int1 (by rfl) T.b_int (by decide +kernel) (pa_cons (pe_op op_fdivW (pv 5) (pe_ix (show IxR _ (rIxL K) from ix_list) (pe_lstG (pa_cons pe_int (pa_cons pe_int (pa_cons pe_int (pa_cons pe_int (pa_cons pe_int (pa_cons pe_int pa_nil))))))) (pv 7) (fun _ _ => rfl))) pa_nil)) pe_int) pa_nil)))))
      (pss_cons (ps_if (pt_cmpR (op_neD hr.units) (pe_call G_shown (hr.mono (by decide)) (by rfl) g_shown k_shown b_shown .nil pass0 (pa_cons (pv 4) (pa_cons (pv 6) pa_nil))) (pe_tupG (pa_cons pe_str (pa_cons (pe_op op_add_str (pe_ix ix_str (pv 2) (pe_op op_fdiv (pv 5) pe_int) (fun _ _ => rfl)) (pe_ix ix_str (pv 2) (pe_op op_mod (pe_callTy call_int1 (by rfl) T.b_int (by decide +kernel) (pa_cons (pv 5) pa_nil)) pe_int) (fun _ _ => rfl))) pa_nil))) (nomark _)) (pss_one (ps_ret pe_bl)) pss_nil)
      (pss_one (ps_ret (pe_and (pe_cmpR op_eq (pe_callB call_len_seq (by rfl) T.b_len PySem.boot_len (pa_cons (pe_meth0 (pv 4) BF.cl.cl m_words G_words (hr.mono (by decide)) b_words .nil pass0) pa_nil)) pe_int (nomark _)) (pe_one (pe_cmpR op_eq (pe_callB (call_lenO G_len (hr.mono (by decide)) b_len pass0 s_len f_len) (by rfl) T.b_len PySem.boot_len (pa_cons (pe_call G_least (hr.mono (by decide)) (by rfl) g_least k_least b_least .nil pass0 (pa_cons (pv 4) pa_nil)) pa_nil)) pe_int (nomark _))))))))))))), ?_⟩
    have one : ∀ v : V, [v].length ≤ sizeLine := fun v => by rw [sizeLine_eq]; exact Nat.le_trans (show 1 ≤ 1 from Nat.le_refl 1) (by decide)
    have two : ∀ v u : V, [v, u].length ≤ sizeLine := fun v u => by rw [sizeLine_eq]; exact Nat.le_trans (show 2 ≤ 2 from Nat.le_refl 2) (by decide)
    have three : ∀ v u t : V, [v, u, t].length ≤ sizeLine := fun v u t => by rw [sizeLine_eq]; exact Nat.le_trans (show 3 ≤ 3 from Nat.le_refl 3) (by decide)
    refine ⟨Nat.zero_le _, fun p H1 np s1 e1 => ?_⟩
    refine ⟨_, _, rfl, ?_⟩
    have R0 : RowsB H H1 p [] := ⟨s1, [], e1, Rows.nil⟩
    refine ⟨63, rfl, by decide, by decide, for_range (n := 63) (fun j σ H' => ∃ v3 v4 v5 v6 v7 : Option V, σ = [some (.ref a), some (.ref p), some (.str "abcdefgh"), v3, v4, v5, v6, v7] ∧ RowsB H H' p ((List.range j).map fun (i : Nat) => RowD.ask "coin" [((2 * i + 1 : Nat) : Int), ((2 * i + 2 : Nat) : Int)])) ⟨_, _, _, _, _, rfl, R0⟩ ?_ ?_⟩
    · rintro j σ Hd hj ⟨v3, v4, v5, v6, v7, rfl, R⟩
      obtain ⟨xs0, q0, _, _⟩ := R.step np
      refine ⟨_, rfl, .inl ⟨rfl, _, SqL.of q0⟩, ?_⟩
      refine ⟨_, rfl, 2, 0 + (j : Int), rfl, rfl, .inl ⟨by decide, by decide⟩, 2 * (0 + (j : Int)), 1, rfl, rfl, _, rfl, 2, 0 + (j : Int), rfl, rfl, .inl ⟨by decide, by decide⟩, 2 * (0 + (j : Int)), 2, rfl, rfl, two _ _, fun q1 K1 m1 t1 f1 => ⟨three _ _ _, fun q2 K2 m2 t2 f2 => ?_⟩⟩
      obtain ⟨acc, a1, a2, a3⟩ := (R.go (t1.trans t2)).step np
      refine ⟨p, acc, .ref q2, rfl, rfl, a1, ?_, _, _, _, _, _, rfl, ?_⟩
      · rw [a2, List.length_map, List.length_range, sizeLine_eq]
        omega
      · rw [List.range_succ, List.map_append]
        refine a3 (.ref q2) (.ask "coin" [((2 * j + 1 : Nat) : Int), ((2 * j + 2 : Nat) : Int)]) ⟨q2, q1, rfl, f2, ?_⟩
        rw [show ((2 * j + 1 : Nat) : Int) = 2 * (0 + (j : Int)) + 1 by omega, show ((2 * j + 2 : Nat) : Int) = 2 * (0 + (j : Int)) + 2 by omega]
        exact t2 _ _ f1
    rintro σ H2 ⟨v3, v4, v5, v6, v7, rfl, R2⟩
    refine ⟨64, rfl, by decide, by decide, for_range (n := 64) (fun j σ H' => ∃ v3 v4 v5 v6 v7 : Option V, σ = [some (.ref a), some (.ref p), some (.str "abcdefgh"), v3, v4, v5, v6, v7] ∧ RowsB H H' p (((List.range 63).map fun (i : Nat) => RowD.ask "coin" [((2 * i + 1 : Nat) : Int), ((2 * i + 2 : Nat) : Int)]) ++ (List.range j).map fun i => RowD.fin (wordT i))) ⟨_, _, _, _, _, rfl, by rw [List.range_zero, List.map_nil, List.append_nil]; exact R2⟩ ?_ ?_⟩
    · rintro j σ Hd hj ⟨v3, v4, v5, v6, v7, rfl, R⟩
      obtain ⟨xs0, q0, _, _⟩ := R.step np
      refine ⟨_, rfl, .inl ⟨rfl, _, SqL.of q0⟩, ?_⟩
      obtain ⟨c1, l1, l2⟩ := letter_at (i := j / 8) (by omega)
      obtain ⟨c2, l3, l4⟩ := letter_at (i := j % 8) (by omega)
      have d1 : (0 + (j : Int)) / 8 = ((j / 8 : Nat) : Int) := by omega
      have d2 : (0 + (j : Int)) % 8 = ((j % 8 : Nat) : Int) := by omega
      refine ⟨_, rfl, _, rfl, 0 + (j : Int), 8, rfl, rfl, ⟨by decide, by decide⟩, "abcdefgh", (0 + (j : Int)) / 8, c1, rfl, rfl, by decide +kernel, by rw [d1]; exact l1, _, rfl, _, rfl, .inl ⟨_, rfl, 0 + (j : Int), 8, rfl, rfl, (show (0 : Int) < 8 by decide), "abcdefgh", (0 + (j : Int)) % 8, c2, rfl, rfl, by decide +kernel, by rw [d2]; exact l3, _, _, rfl, rfl, ?_, two _ _, fun q2 K2 m2 t2 f2 => ?_⟩⟩
      · rw [sizeLine_eq]
        show 1 + 1 ≤ _
        omega
      rw [l2, l4] at f2
      obtain ⟨acc, a1, a2, a3⟩ := (R.go t2).step np
      refine ⟨p, acc, .ref q2, rfl, rfl, a1, ?_, _, _, _, _, _, rfl, ?_⟩
      · rw [a2, List.length_append, List.length_map, List.length_map, List.length_range, List.length_range, sizeLine_eq]
        omega
      · rw [List.range_succ (n := j), List.map_append, ← List.append_assoc]
        exact a3 (.ref q2) (.fin (wordT j)) ⟨q2, rfl, f2⟩
    rintro σ H3 ⟨v3, v4, v5, v6, v7, rfl, R3⟩
    obtain ⟨s3, xs3, e3, rw3⟩ := R3
    have rw3 : Rows H3 xs3 treeR := rw3
    refine fun d0 nd0 => ⟨upd_same, [((.inr "coin" : Key), V.int 2)], rfl, by decide, _, rfl, fun bd dx nb ndx nebd => ?_⟩
    have e9 : ∀ G : Hp, upd (upd G d0 (.dK [])) d0 (.dK (mergeK [] [((.inr "coin" : Key), V.int 2)])) d0 = some (.dK (opsK oCoin)) := fun G => by rw [upd_same]; rfl
    have s4 : Same H3 (upd (upd H3 d0 (.dK [])) d0 (.dK (mergeK [] [((.inr "coin" : Key), V.int 2)]))) := same_updN (sameNew nd0 _) nd0
    have e4 := e9 H3
    generalize upd (upd H3 d0 (.dK [])) d0 (.dK (mergeK [] [((.inr "coin" : Key), V.int 2)])) = H4 at *
    refine body_endR (CB := CB) (CM := CM) (b0 := 0) rfl e4 (.inl (s4 _ _ e3)) (rw3.same s4).inn tree_okB bd dx nb ndx nebd (fun H5 s5 BN => ?_)
    have B5 := BN.at
    have a5 := s5 _ _ (s4 _ _ (s3 _ _ ha))
    refine ⟨_, rfl, a, 64, x, y, z, rfl, by decide, by decide, a5, fun n x6 y6 z6 H6 n0 n1 bt6 a6 => ?_⟩
    obtain ⟨n, rfl⟩ := Int.eq_ofNat_of_zero_le n0
    have s04 : Same H H4 := s3.trans s4
    have B6 : BodyAt CB CM H6 bd oCoin treeR 0 := BN.off nb fun b u e hor => bt6 b u (fun z => by
      rw [z, a5] at e
      rcases hor with hor | ⟨zs, hor⟩
      · rw [z, s04 _ _ ha] at hor
        cases hor
      · rw [hor] at e
        cases e) e
    refine ⟨two _ _, fun q7 H7 m7 s7 f7 => ?_⟩
    refine ⟨q7, _, rfl, .inl (.inl f7), rfl, ?_⟩
    refine ⟨_, _, rfl, _, _, rfl, rfl, ?_⟩
    refine ⟨6, rfl, by decide, by decide, fun D nD => lc_range (lo := 0) (n := 6) (fun i Hx => Same H7 Hx ∧ ∃ vs, Hx D = some (.lst vs) ∧ HPs Hx vs ((histT n).take i)) ⟨sameNew nD _, [], upd_same, HPs.nil _⟩ (fun i Hx hi z => ?_) fun Hx z => ?_⟩
    · obtain ⟨sx, vs, dD, hp⟩ := z
      obtain ⟨w1, w2, w3, w4⟩ := pow_at hi
      have lv : vs.length = i := by
        rw [hp.1, List.length_take]
        exact Nat.min_eq_left (by show i ≤ 6; omega)
      refine ⟨rfl, _, rfl, by show 6 ≤ _; rw [sizeLine_eq]; decide, fun q8 K8 m8 t8 f8 => ⟨_, rfl, q8, _, 0 + (i : Int), _, rfl, rfl, SqL.of f8, by rw [Int.zero_add]; exact w1, (n : Int), (powT i : Int), rfl, rfl, ⟨by omega, ?_⟩, .inl ⟨_, rfl, (n : Int) / (powT i : Int), 2, rfl, rfl, (show (0 : Int) < 2 by decide), two _ _, fun q9 K9 m9 t9 f9 => ⟨_, t9 _ _ (t8 _ _ dD), ?_, ?_⟩⟩⟩⟩
      · rw [Int.natAbs_natCast]
        exact Nat.lt_of_le_of_lt (Nat.log2_le_self _) (by omega)
      · rw [lv, sizeLine_eq]
        omega
      · refine ⟨same_updN (sx.trans (t8.trans t9)) nD, _, upd_same, ?_⟩
        rw [take_snoc (w4 n)]
        refine HPs.upd (HPs.snoc (hp.same (t8.trans t9)) ?_) (t9 _ _ (t8 _ _ dD))
        rw [show ((n / powT i % 2 : Nat) : Int) = (n : Int) / (powT i : Int) % 2 from by rw [Int.natCast_emod, Int.natCast_ediv]; rfl]
        exact f9
    obtain ⟨s7D, vsD, dD, hpD⟩ := z
    have B7 := B6.same (s7.trans s7D)
    refine ⟨_, rfl, _, rfl, bd, D, oCoin, treeR, 0, histT n, 63 + n, rfl, B7, ⟨vsD, dD, hpD⟩, oCoin_ok.nd, tree_okB.asks, tree_rest.fit, tree_hist (by omega), fun t H8 s8 e8 => ?_⟩
    have eT : showAt treeR (63 + n) = [("end" : Str), wordT n] := by
      unfold showAt
      rw [tree_fin (by omega) (by omega), show 63 + n - 63 = n by omega]
      rfl
    rw [eT] at e8
    obtain ⟨c1, l1, l2⟩ := letter_at (i := n / 8) (by omega)
    obtain ⟨c2, l3, l4⟩ := letter_at (i := n % 8) (by omega)
    have d1 : (n : Int) / 8 = ((n / 8 : Nat) : Int) := by omega
    have d2 : (n : Int) % 8 = ((n % 8 : Nat) : Int) := by omega
    refine ⟨_, rfl, _, rfl, (n : Int), 8, rfl, rfl, ⟨by decide, by decide⟩, "abcdefgh", (n : Int) / 8, c1, rfl, rfl, by decide +kernel, by rw [d1]; exact l1, _, rfl, _, rfl, .inl ⟨_, rfl, (n : Int), 8, rfl, rfl, (show (0 : Int) < 8 by decide), "abcdefgh", (n : Int) % 8, c2, rfl, rfl, by decide +kernel, by rw [d2]; exact l3, _, _, rfl, rfl, ?_, two _ _, fun q9 H9 m9 s9 f9 => ?_⟩⟩
    · rw [sizeLine_eq]
      show 1 + 1 ≤ _
      omega
    rw [l2, l4] at f9
    obtain ⟨sh, eq⟩ := endD_ok (n := n) (by omega)
    refine ⟨endD n, endD n, strs_tdp (s9 _ _ e8), strs_tdp (ts := [("end" : Str), wordT n]) f9, sh, sh, _, rfl, ?_⟩
    rw [eq]
    refine iteF ?_
    have t69 : Same H6 H9 := s7.trans (s7D.trans (s8.trans s9))
    have B9 := B6.same t69
    obtain ⟨dxw, mmw, ebw⟩ := B9.one
    refine ⟨_, rfl, bd, dxw, _, rfl, ebw, by rfl, bd, oCoin, _, 0, rfl, B9, fun as has pW HW nW sW eW => ?_⟩
    refine ⟨pW, _, rfl, .inl (SqL.of eW), ?_⟩
    rw [List.length_map, tree_words has]
    refine ⟨rfl, true, rfl, ?_⟩
    rw [if_pos rfl]
    have s05 : Same H H5 := s04.trans s5
    have tCW := (tabs_src (tC.ext s05) bt6 ⟨_, a5⟩).ext (t69.trans sW)
    have tMW := (tabs_src (tM.ext s05) bt6 ⟨_, a5⟩).ext (t69.trans sW)
    refine ⟨_, rfl, bd, oCoin, _, 0, rfl, B9.same sW, tree_rest.fit, tree_okB.tame, by rw [tree_len]; decide, oCoin_ok.nd, tree_okB.look, tCW, tMW, fun bd2 HL o2 rs' bL tCL tML nb2 BL oas RL TL pos mo => ?_⟩
    obtain rfl := tree_least mo
    obtain ⟨dx2, mm2, eb2⟩ := BL.one
    refine ⟨bd2, dx2, _, rfl, eb2, bd2, o2, treeR, 0, rfl, BL, (treeR.length : Int), rfl, by omega, by rw [tree_len]; decide, ?_⟩
    rw [tree_len]
    refine ⟨rfl, ?_⟩
    refine k HL ?_ ⟨x6, y6, z6, (but2_ext bL tCW tMW) _ _ ((t69.trans sW) _ _ a6) fun _ z => nomatch z⟩ tCL tML
    exact (But3.s s05).trans ((But3.a bt6).trans ((But3.s (t69.trans sW)).trans (But3.two bL)))
end
end Mine

set_option maxRecDepth 100000
set_option maxHeartbeats 4000000
namespace Mine
open PySem L2 LamB
theorem rep_one {k : Nat} {v : V} : (List.replicate k [v]).flatten = List.replicate k v := by simp
theorem rep_set {t : Nat} {e l : Int} : (List.replicate (cntR t) (V.int e)).set (cntR t - 1) (V.int l) = (nxR t e l).map V.int := by
  have key : ∀ k, 0 < k → (List.replicate k (V.int e)).set (k - 1) (V.int l) = (List.replicate (k - 1) e ++ [l]).map V.int := by
    intro k hk
    apply List.ext_getElem?
    intro i
    rw [List.map_append, List.map_replicate]
    by_cases h : i = k - 1
    · subst h
      rw [List.getElem?_set_self (by rw [List.length_replicate]; omega), List.getElem?_append_right (by rw [List.length_replicate]; omega), List.length_replicate, Nat.sub_self]
      rfl
    · rw [List.getElem?_set_ne (Ne.symm h)]
      by_cases h2 : i < k - 1
      · rw [List.getElem?_append_left (by rw [List.length_replicate]; omega), List.getElem?_replicate, List.getElem?_replicate, if_pos (by omega), if_pos h2]
      · rw [List.getElem?_eq_none (by rw [List.length_replicate]; omega), List.getElem?_eq_none (by rw [List.length_append, List.length_replicate]; show k - 1 + 1 ≤ i; omega)]
  exact key _ (cnt_pos t)
theorem nm_at (t : Nat) : atI [V.str "coin", .str "tell", .str "open"] ((0 + (t : Int)) % 3) = some (V.str (nmR t)) := by
  rw [show (0 + (t : Int)) % 3 = ((t % 3 : Nat) : Int) by omega]
  unfold nmR
  have h : t % 3 < 3 := Nat.mod_lt _ (by decide)
  generalize t % 3 = u at h
  rcases (show u = 0 ∨ u = 1 ∨ u = 2 by omega) with rfl | rfl | rfl <;> rfl
theorem TRow.tups {H H' : Hp} {v : V} {d : RowD} (h : TRow H v d) (up : ∀ (q : Addr) (us : List V), H q = some (.tup us) → H' q = some (.tup us)) : TRow H' v d := by
  cases d with
  | ask op ns =>
    obtain ⟨q, t, e1, k1, k2⟩ := h
    exact ⟨q, t, e1, up _ _ k1, up _ _ k2⟩
  | go m =>
    obtain ⟨q, e1, k1⟩ := h
    exact ⟨q, e1, up _ _ k1⟩
  | fin m =>
    obtain ⟨q, e1, k1⟩ := h
    exact ⟨q, e1, up _ _ k1⟩
theorem Rows.tups {H H' : Hp} {xs : List V} {rs : List RowD} (h : Rows H xs rs) (up : ∀ (q : Addr) (us : List V), H q = some (.tup us) → H' q = some (.tup us)) : Rows H' xs rs := ⟨h.1, fun i d e => by
  obtain ⟨u, k1, k2⟩ := h.2 i d e
  exact ⟨u, k1, k2.tups up⟩⟩
theorem HPs.upd2 {H : Hp} {D : Addr} {xs : List V} {o : HO} {vs : List V} {ws : List (Str × Nat)} (h : HPs H vs ws) (hD : H D = some (.lst xs)) : HPs (L2.upd H D o) vs ws := ⟨h.1, fun k p e => by
  obtain ⟨q, h1, h2⟩ := h.2 k p e
  exact ⟨q, h1, by rw [upd_ne (fun z => by rw [z, hD] at h2; cases h2)]; exact h2⟩⟩
def askD (t : Nat) : PyData := .tuple ([("ask" : Str), nmR t].map PyData.str)
theorem askD_ok (t : Nat) : SeqAt.shaped (askD t) = true ∧ PyData.eqv (askD t) (askD t) = true := by
  rcases nm_names t with h | h | h <;> (unfold askD; rw [h]; exact ⟨by decide +kernel, by decide +kernel⟩)
theorem nm_far (t M : Nat) : atI [V.str "coin", .str "tell", .str "open"] ((0 + (t : Int)) % (M : Int) % 3) = some (V.str (nmR (t % M))) := by
  rw [show (0 + (t : Int)) % (M : Int) = 0 + ((t % M : Nat) : Int) by rw [Int.zero_add, Int.zero_add, Int.natCast_emod]]
  exact nm_at _
theorem nm_far0 (t M : Nat) : atI [V.str "coin", .str "tell", .str "open"] ((t : Int) % (M : Int) % 3) = some (V.str (nmR (t % M))) := by
  rw [← Int.zero_add (t : Int)]
  exact nm_far t M
section
variable {P : Program} {w : World} {K : PySem.W.Frag} {mg : Str → Option Value} {base : Heap}
variable {fII fIW CB CM PC PM : Addr}
theorem sc_ring : FnScope ["_law_source", "_law_many", "_law_chain", "_law_names", "_law_operations", "_law_rows", "_law_size", "_law_at", "_law_name", "_law_later", "_law_nexts", "_law_k", "_law_body", "_law_far", "_law_history"] ["_law_source"] (defScope s_ring) := ⟨rfl, rfl, rfl, by decide +kernel, rfl, by decide +kernel, by decide +kernel⟩

theorem ok_ring {f : Addr} {fd : FuncData} (F : Fun K "_law_ring_right" "_law_ring_right" s_ring f fd) (T : TxtF K mg fII fIW) (TB : BodyC K CB) (TM : MachC K CM) (h_range : mg "range" = none) (BF : BodyF5 P w K mg base CB CM PC PM) (ne : PC ≠ PM) : FnOk P w K mg base CX0 11 f fd ["_law_source"] (spCheck PC PM) := by
  obtain ⟨f_words, fd_words, m_words, G_words, b_words⟩ := BF.words
  obtain ⟨f_asked, fd_asked, m_asked, G_asked, b_asked⟩ := BF.asked
  obtain ⟨f_hangs, fd_hangs, m_hangs, G_hangs, b_hangs⟩ := BF.hangs
  obtain ⟨fl_, fd_len, s_len, f_len, G_len, b_len⟩ := BF.len
  obtain ⟨fB, fdB, ds, MB, GB, hds, bB, kB⟩ := BF.make
  obtain ⟨f_shown, fd_shown, G_shown, b_shown, g_shown, k_shown⟩ := BF.shown
  obtain ⟨f_least, fd_least, G_least, b_least, g_least, k_least⟩ := BF.least
  obtain ⟨f_next, fd_next, G_next, b_next, g_next, k_next⟩ := BF.next
  obtain ⟨f_one, fd_one, G_one, b_one, g_one, k_one⟩ := BF.one
  refine F.ok sc_ring (fun vs H Q E h => ?_) (fun cdv A outer s H vs Q E hr h => ?_)
  · obtain ⟨a, rfl, _⟩ := h
    rfl
  · obtain ⟨a, rfl, ⟨x, y, z, ha⟩, tC, tM, k⟩ := h
    refine ⟨_, ((pss_cons (ps_asg (pe_tupG (pa_cons (pe_op op_add pe_int (pe_call G_next (hr.mono (by decide)) (by rfl) g_next k_next b_next .nil pass0 (pa_cons (pv 0) (pa_cons pe_int pa_nil)))) (pa_cons (pe_op op_add pe_int (pe_call G_next (hr.mono (by decide)) (by rfl) g_next k_next b_next .nil pass0 (pa_cons (pv 0) (pa_cons pe_int pa_nil)))) pa_nil))) (pg_tup rfl (pgs_cons (pg_name (i := 1) sc_ring.nd rfl (Or.inr rfl)) (pgs_cons (pg_name (i := 2) sc_ring.nd rfl (Or.inl rfl)) pgs_nil))))
      (pss_cons (ps_set (i := 3) sc_ring.nd rfl (Or.inr rfl) (pe_lstG (pa_cons pe_str (pa_cons pe_str (pa_cons pe_str pa_nil)))))
      (pss_cons (ps_asg (pe_tupG (pa_cons (pe_disp (pps_cons pe_str pe_int (pps_cons pe_str pe_int (pps_cons pe_str pe_int pps_nil))) rfl rfl (fun z => by cases z) (by show 3 ≤ 15; decide)) (pa_cons (pe_lstG pa_nil) (pa_cons (pe_op op_add (pv 2) pe_int) pa_nil)))) (pg_tup rfl (pgs_cons (pg_name (i := 4) sc_ring.nd rfl (Or.inr rfl)) (pgs_cons (pg_name (i := 5) sc_ring.nd rfl (Or.inl rfl)) (pgs_cons (pg_name (i := 6) sc_ring.nd rfl (Or.inl rfl)) pgs_nil)))))
      (pss_cons (ps_for PassesOwn.never rfl (pi_range1 (by rfl) h_range (pa_cons (pv 1) pa_nil)) (pg_name (i := 7) sc_ring.nd rfl (Or.inl rfl)) (pss_cons (ps_par (i := 8) (j := 9) rfl sc_ring.nd rfl rfl (by decide) rfl rfl (pa_cons (pe_ix ix_list (pv 3) (pe_op op_mod (pe_callTy call_int1 (by rfl) T.b_int (by decide +kernel) (pa_cons (pv 7) pa_nil)) pe_int) (fun _ _ => rfl)) (pa_cons (pe_op op_mul (pe_op op_mod (pe_op op_add (pv 7) pe_int) (pv 1)) (pv 6)) pa_nil)) rfl)
      (pss_cons (ps_set (i := 10) sc_ring.nd rfl (Or.inl rfl) (pe_op op_repG (pe_lstG (pa_cons (pe_op op_mul (pv 1) (pv 6)) pa_nil)) (pe_dget (hu_of hr) (pv 4) (pv 8) (fun _ _ => rfl))))
      (pss_cons (ps_asg (pv 9) (pg_sub (pv 10) (pe_un un_neg pe_int) set_list))
      (pss_cons (ps_for PassesOwn.never rfl (pi_range1 (by rfl) h_range (pa_cons (pv 2) pa_nil)) (pg_name (i := 11) sc_ring.nd rfl (Or.inl rfl)) (pss_one (ps_expr (pe_bm PySem.F.plainAttrs_list PySem.F.slot_list_append PySem.F.type_list_append mt_append (pv 5) (pa_cons (pe_tupG (pa_cons pe_str (pa_cons (pe_op op_add (pe_op op_add (pe_op op_mul (pv 7) (pv 6)) (pv 11)) pe_int) pa_nil))) pa_nil)))))
      (pss_one (ps_expr (pe_bm PySem.F.plainAttrs_list PySem.F.slot_list_append PySem.F.type_list_append mt_append (pv 5) (pa_cons (pe_tupG (pa_cons pe_str (pa_cons (pv 8) (pa_cons (pe_callTy call_tupleG (by rfl) T.b_tuple (by decide +kernel) (pa_cons (pv 10) pa_nil)) pa_nil)))) pa_nil)))))))))
      (pss_cons (ps_expr (pe_bm PySem.F.plainAttrs_list PySem.F.slot_list_append PySem.F.type_list_append mt_append (pv 5) (pa_cons (pe_tupG (pa_cons pe_str (pa_cons pe_str pa_nil))) pa_nil)))
      (pss_cons (ps_par (i := 12) (j := 13) rfl sc_ring.nd rfl rfl (by decide) rfl rfl (pa_cons (pe_body MB GB (hr.mono (by decide)) (by rfl) BF.g_Body kB (pa_cons (pv 4) (pa_cons (pv 5) pa_nil)) (pk_cons (pe_call G_one (hr.mono (by decide)) (by rfl) g_one k_one b_one .nil pass0 (pa_cons (pv 0) (pa_cons (pe_lstG (pa_cons pe_int (pa_cons pe_int (pa_cons pe_int pa_nil)))) pa_nil))) pk_nil)) (pa_cons (pe_op op_add pe_int (pe_call G_next (hr.mono (by decide)) (by rfl) g_next k_next b_next .nil pass0 (pa_cons (pv 0) (pa_cons pe_int pa_nil)))) pa_nil)) rfl)
      (pss_cons (ps_setLc (i := 14) (own := [("_law_at", 7)]) (g := (gName 7)) (tt := tYes) rfl sc_ring.nd rfl rfl (sw_true rfl rfl rfl rfl) (pi_range1 (by rfl) h_range (pa_cons (pv 13) pa_nil)) (blkOk_by (own := [("_law_at", 7)]) (N := ["_law_source", "_law_many", "_law_chain", "_law_names", "_law_operations", "_law_rows", "_law_size", "_law_at", "_law_name", "_law_later", "_law_nexts", "_law_k", "_law_body", "_law_far", "_law_history"]) (sc := defScope s_ring) (by decide +kernel)) (fun _ _ _ _ _ => (pg_name (i := 7) sc_ring.nd rfl (Or.inl rfl))) (fun _ _ _ _ _ => pts_nil) (fun _ _ _ _ _ => (pe_tupG (pa_cons (pe_ix (show IxR _ (rIxL K) from ix_list) (pv 3) (pe_op op_mod (pe_callTy call_int1 (by rfl) T.b_int (by decide +kernel) (pa_cons (pe_op op_mod (pv 7) (pv 1)) pa_nil)) pe_int) (fun _ _ => rfl)) (pa_cons (pe_op op_sub (pe_dget (hu_of hr) (pv 4) (pe_ix (show IxR _ (rIxL K) from ix_list) (pv 3) (pe_op op_mod (pe_callTy call_int1 (by rfl) T.b_int (by decide +kernel) (pa_cons (pe_op op_mod (pv 7) (pv 1)) pa_nil)) pe_int) (fun _ _ => rfl)) (fun _ _ => rfl)) pe_int) pa_nil)))))
      (pss_cons (ps_if (PW.pt (pw_or (pt_cmpR (op_neD hr.units) (pe_call G_shown (hr.mono (by decide)) (by rfl) g_shown k_shown b_shown .nil pass0 (pa_cons (pv 12) (pa_cons (pv 14) pa_nil))) (pe_tupG (pa_cons pe_str (pa_cons (pe_ix ix_list (pv 3) (pe_op op_mod (pe_callTy call_int1 (by rfl) T.b_int (by decide +kernel) (pa_cons (pe_op op_mod (pv 13) (pv 1)) pa_nil)) pe_int) (fun _ _ => rfl)) pa_nil))) (nomark _)) (pw_or1 (pt_cmpR op_ne (pe_callB (call_lenO G_len (hr.mono (by decide)) b_len pass0 s_len f_len) (by rfl) T.b_len PySem.boot_len (pa_cons (pv 12) pa_nil)) (pe_op op_add (pe_op op_mul (pv 1) (pv 6)) pe_int) (nomark _))))) (pss_one (ps_ret pe_bl)) pss_nil)
      (pss_cons (ps_if (PW.pt (pw_or (pt_cmpR (op_neD hr.units) (pe_call G_shown (hr.mono (by decide)) (by rfl) g_shown k_shown b_shown .nil pass0 (pa_cons (pv 12) (pa_cons (pe_lstG (pa_cons (pe_tupG (pa_cons pe_str (pa_cons pe_int pa_nil))) pa_nil)) pa_nil))) (pe_tupG (pa_cons pe_str (pa_cons pe_str pa_nil))) (nomark _)) (pw_or (pt_cmpR (op_neD hr.units) (pe_meth0 (pv 12) BF.cl.cl m_words G_words (hr.mono (by decide)) b_words .nil pass0) (pe_lstG (pa_cons pe_str pa_nil)) (nomark _)) (pw_or1 (pt_truth (pe_meth0 (pv 12) BF.cl.cl m_hangs G_hangs (hr.mono (by decide)) b_hangs .nil pass0) (by intro _; rfl)))))) (pss_one (ps_ret pe_bl)) pss_nil)
      (pss_one (ps_ret (pe_and (pe_cmpR (op_eqD hr.units) (pe_meth0 (pv 12) BF.cl.cl m_asked G_asked (hr.mono (by decide)) b_asked .nil pass0) (pe_lstG (pa_cons pe_str (pa_cons pe_str (pa_cons pe_str pa_nil)))) (nomark _)) (pe_one (pe_cmpR op_eq (pe_callB (call_lenO G_len (hr.mono (by decide)) b_len pass0 s_len f_len) (by rfl) T.b_len PySem.boot_len (pa_cons (pe_call G_least (hr.mono (by decide)) (by rfl) g_least k_least b_least .nil pass0 (pa_cons (pv 12) pa_nil)) pa_nil)) (pe_op op_add (pe_ifExp (pt_cmpR op_ne (pe_op op_mod (pv 1) pe_int) pe_int (nomark _)) (pv 1) pe_int) pe_int) (nomark _)))))))))))))))), ?_⟩
    have one : ∀ v : V, [v].length ≤ sizeLine := fun v => by rw [sizeLine_eq]; exact Nat.le_trans (show 1 ≤ 1 from Nat.le_refl 1) (by decide)
    have two : ∀ v u : V, [v, u].length ≤ sizeLine := fun v u => by rw [sizeLine_eq]; exact Nat.le_trans (show 2 ≤ 2 from Nat.le_refl 2) (by decide)
    have three : ∀ v u t : V, [v, u, t].length ≤ sizeLine := fun v u t => by rw [sizeLine_eq]; exact Nat.le_trans (show 3 ≤ 3 from Nat.le_refl 3) (by decide)
    refine ⟨_, rfl, a, 20, x, y, z, rfl, by decide, by decide, ha, fun n1 x1 y1 z1 H1 n1a n1b bt1 ha1 => ?_⟩
    obtain ⟨M0, rfl⟩ := Int.eq_ofNat_of_zero_le n1a
    refine ⟨20, (M0 : Int), rfl, rfl, _, rfl, a, 8, x1, y1, z1, rfl, by decide, by decide, ha1, fun n2 x2 y2 z2 H2 n2a n2b bt2 ha2 => ?_⟩
    obtain ⟨C0, rfl⟩ := Int.eq_ofNat_of_zero_le n2a
    refine ⟨1, (C0 : Int), rfl, rfl, two _ _, fun p0 G0 m0 s0 e0 => ⟨p0, _, rfl, .inl (.inl e0), rfl, _, _, rfl, _, _, rfl, rfl, ?_⟩⟩
    refine ⟨three _ _ _, fun p1 G1 m1 s1 e1 => ?_⟩
    refine fun d0 nd0 => ⟨upd_same, [((.inr "coin" : Key), V.int 2), (.inr "tell", V.int 1), (.inr "open", V.int 3)], rfl, by decide, ?_⟩
    have e9 : ∀ G : Hp, upd (upd G d0 (.dK [])) d0 (.dK (mergeK [] [((.inr "coin" : Key), V.int 2), (.inr "tell", V.int 1), (.inr "open", V.int 3)])) d0 = some (.dK (opsK oRing)) := fun G => by rw [upd_same]; first | rfl | kernel_rfl
    have s2 : Same G1 (upd (upd G1 d0 (.dK [])) d0 (.dK (mergeK [] [((.inr "coin" : Key), V.int 2), (.inr "tell", V.int 1), (.inr "open", V.int 3)]))) := same_updN (sameNew nd0 _) nd0
    have e2 := e9 G1
    generalize upd (upd G1 d0 (.dK [])) d0 (.dK (mergeK [] [((.inr "coin" : Key), V.int 2), (.inr "tell", V.int 1), (.inr "open", V.int 3)])) = G2 at *
    refine ⟨Nat.zero_le _, fun p3 G3 m3 s3 e3 => ?_⟩
    refine ⟨_, rfl, 1 + (C0 : Int), 1, rfl, rfl, three _ _ _, fun p4 G4 m4 s4 e4 => ⟨p4, _, rfl, .inl (.inl e4), rfl, _, _, rfl, _, _, rfl, _, _, rfl, rfl, ?_⟩⟩
    have R0 : RowsB G2 G4 p3 ((List.range (0 * (1 + C0 + 1))).map (rowR (20 + M0) (1 + C0))) := by
      rw [Nat.zero_mul]
      exact ⟨s3.trans s4, [], s4 _ _ e3, Rows.nil⟩
    refine ⟨_, rfl, 20 + (M0 : Int), rfl, by omega, by omega, ?_⟩
    rw [show (20 + (M0 : Int)) = ((20 + M0 : Nat) : Int) by omega]
    refine for_range (n := 20 + M0) (fun t σ H' => ∃ v7 v8 v9 v10 v11 v12 v13 v14 : Option V, σ = [some (.ref a), some (.int (20 + (M0 : Int))), some (.int (1 + (C0 : Int))), some (.ref p1), some (.ref d0), some (.ref p3), some (.int (1 + (C0 : Int) + 1)), v7, v8, v9, v10, v11, v12, v13, v14] ∧ RowsB G2 H' p3 ((List.range (t * (1 + C0 + 1))).map (rowR (20 + M0) (1 + C0)))) ⟨_, _, _, _, _, _, _, _, rfl, R0⟩ ?_ ?_
    · rintro t σ Hd ht ⟨v7, v8, v9, v10, v11, v12, v13, v14, rfl, R⟩
      have e1d := R.same _ _ (s2 _ _ e1)
      refine ⟨_, rfl, _, rfl, .inl ⟨_, rfl, 0 + (t : Int), 3, rfl, rfl, (show (0 : Int) < 3 by decide), p1, _, (0 + (t : Int)) % 3, _, rfl, rfl, SqL.of e1d, nm_at t, _, rfl, 0 + (t : Int), 1, rfl, rfl, _, rfl, 0 + (t : Int) + 1, 20 + (M0 : Int), rfl, rfl, (show (0 : Int) < 20 + (M0 : Int) by omega), _, rfl, (0 + (t : Int) + 1) % (20 + (M0 : Int)), 1 + (C0 : Int) + 1, rfl, rfl, .inr ⟨by omega, by omega⟩, ?_⟩⟩
      refine ⟨_, _, rfl, ?_⟩
      have cn : cntR t ≤ 3 := by
        unfold cntR
        split <;> decide
      refine ⟨_, rfl, _, rfl, 20 + (M0 : Int), 1 + (C0 : Int) + 1, rfl, rfl, .inr ⟨by omega, by omega⟩, one _, fun q1 K1 m5 t1 f1 => ⟨_, rfl, _, rfl, d0, _, rfl, .inl ⟨opsK oRing, .inr (nmR t), .inl (t1 _ _ (R.same _ _ e2)), rfl, by rw [val_ops, ring_look]; rfl⟩, q1, (cntR t : Int), _, rfl, rfl, f1, by omega, by omega, ?_, fun q2 K2 m6 t2 f2 => ?_⟩⟩
      · rw [sizeLine_eq]
        show 1 * _ ≤ _
        omega
      rw [Int.toNat_natCast, rep_one] at f2
      have cp := cnt_pos t
      refine ⟨_, rfl, _, rfl, 1, rfl, q2, _, -1, cntR t - 1, rfl, rfl, f2, ?_, ?_⟩
      · rw [List.length_replicate]
        unfold ixN
        rw [if_neg (by decide), if_pos (by omega)]
        congr 1
        omega
      have n2 : Hd q2 = none := none_of t1 m6
      have sS : Same Hd (upd K2 q2 (.lst ((List.replicate (cntR t) (V.int ((20 + (M0 : Int)) * (1 + (C0 : Int) + 1)))).set (cntR t - 1) (V.int ((0 + (t : Int) + 1) % (20 + (M0 : Int)) * (1 + (C0 : Int) + 1)))))) := same_updN (t1.trans t2) n2
      have f3 : upd K2 q2 (.lst ((List.replicate (cntR t) (V.int ((20 + (M0 : Int)) * (1 + (C0 : Int) + 1)))).set (cntR t - 1) (V.int ((0 + (t : Int) + 1) % (20 + (M0 : Int)) * (1 + (C0 : Int) + 1))))) q2 = some (.lst ((nxR t (((20 + M0) * (1 + C0 + 1) : Nat) : Int) (((t + 1) % (20 + M0) * (1 + C0 + 1) : Nat) : Int)).map V.int)) := by
        rw [upd_same, rep_set]
        rw [show (0 + (t : Int) + 1) = ((t + 1 : Nat) : Int) by omega, show (20 + (M0 : Int)) = ((20 + M0 : Nat) : Int) by omega, show (1 + (C0 : Int) + 1) = ((1 + C0 + 1 : Nat) : Int) by omega, ← Int.natCast_emod, ← Int.natCast_mul, ← Int.natCast_mul]
      generalize upd K2 q2 (.lst ((List.replicate (cntR t) (V.int ((20 + (M0 : Int)) * (1 + (C0 : Int) + 1)))).set (cntR t - 1) (V.int ((0 + (t : Int) + 1) % (20 + (M0 : Int)) * (1 + (C0 : Int) + 1))))) = K3 at *
      have Ri : RowsB G2 K3 p3 ((List.range (t * (1 + C0 + 1) + 0)).map (rowR (20 + M0) (1 + C0))) := R.go sS
      have np : G2 p3 = none := m3
      refine ⟨_, rfl, 1 + (C0 : Int), rfl, by omega, by omega, for_range (n := 1 + C0) (fun k σ H' => ∃ v11 : Option V, σ = [some (.ref a), some (.int (20 + (M0 : Int))), some (.int (1 + (C0 : Int))), some (.ref p1), some (.ref d0), some (.ref p3), some (.int (1 + (C0 : Int) + 1)), some (.int (0 + (t : Int))), some (.str (nmR t)), some (.int ((0 + (t : Int) + 1) % (20 + (M0 : Int)) * (1 + (C0 : Int) + 1))), some (.ref q2), v11, v12, v13, v14] ∧ RowsB G2 H' p3 ((List.range (t * (1 + C0 + 1) + k)).map (rowR (20 + M0) (1 + C0))) ∧ H' q2 = some (.lst ((nxR t (((20 + M0) * (1 + C0 + 1) : Nat) : Int) (((t + 1) % (20 + M0) * (1 + C0 + 1) : Nat) : Int)).map V.int)) ∧ q2 ≠ p3) ⟨_, rfl, Ri, f3, ?_⟩ ?_ ?_⟩
      · intro z
        obtain ⟨acc, a1, _⟩ := R.step np
        rw [z, a1] at n2
        cases n2
      · rintro kk σ Hk hk ⟨v11, rfl, Rk, fk, nq⟩
        obtain ⟨xs0, q0, _, _⟩ := Rk.step np
        refine ⟨_, rfl, .inl ⟨rfl, _, SqL.of q0⟩, _, rfl, _, rfl, 0 + (t : Int), 1 + (C0 : Int) + 1, rfl, rfl, .inr ⟨by omega, by omega⟩, _, rfl, (0 + (t : Int)) * (1 + (C0 : Int) + 1), 0 + (kk : Int), rfl, rfl, (0 + (t : Int)) * (1 + (C0 : Int) + 1) + (0 + (kk : Int)), 1, rfl, rfl, two _ _, fun q3 K4 m7 t3 f4 => ?_⟩
        obtain ⟨acc, a1, a2, a3⟩ := (Rk.go t3).step np
        have big : t * (1 + C0 + 1) ≤ 40 * 10 := Nat.mul_le_mul (by omega) (by omega)
        refine ⟨p3, acc, .ref q3, rfl, rfl, a1, ?_, _, rfl, ?_, ?_, nq⟩
        · rw [a2, List.length_map, List.length_range, sizeLine_eq]
          omega
        · rw [show t * (1 + C0 + 1) + (kk + 1) = t * (1 + C0 + 1) + kk + 1 from rfl, List.range_succ, List.map_append]
          refine a3 (.ref q3) (rowR (20 + M0) (1 + C0) (t * (1 + C0 + 1) + kk)) ?_
          rw [row_go hk]
          refine ⟨q3, rfl, ?_⟩
          rw [show ((t * (1 + C0 + 1) + kk + 1 : Nat) : Int) = (0 + (t : Int)) * (1 + (C0 : Int) + 1) + (0 + (kk : Int)) + 1 by rw [Int.natCast_add, Int.natCast_add, Int.natCast_mul, Int.zero_add, Int.zero_add]; rfl]
          exact f4
        · rw [upd_ne nq]
          exact t3 _ _ fk
      rintro σ Hk ⟨v11, rfl, Rk, fk, nq⟩
      obtain ⟨xs0, q0, _, _⟩ := Rk.step np
      refine ⟨_, rfl, .inl ⟨rfl, _, SqL.of q0⟩, _, rfl, _, rfl, q2, _, rfl, .inl fk, fun q4 K5 t5 f5 => ⟨three _ _ _, fun q6 K6 m6' t6 f6 => ?_⟩⟩
      obtain ⟨acc, a1, a2, a3⟩ := (Rk.go (t5.trans t6)).step np
      have big : t * (1 + C0 + 1) ≤ 40 * 10 := Nat.mul_le_mul (by omega) (by omega)
      refine ⟨p3, acc, .ref q6, rfl, rfl, a1, ?_, _, _, _, _, _, _, _, _, rfl, ?_⟩
      · rw [a2, List.length_map, List.length_range, sizeLine_eq]
        omega
      · rw [show (t + 1) * (1 + C0 + 1) = t * (1 + C0 + 1) + (1 + C0) + 1 by rw [Nat.succ_mul]; omega, List.range_succ, List.map_append]
        refine a3 (.ref q6) (rowR (20 + M0) (1 + C0) (t * (1 + C0 + 1) + (1 + C0))) ?_
        rw [row_ask]
        exact ⟨q6, q4, rfl, f6, t6 _ _ f5⟩
    have np0 : G2 p3 = none := m3
    rintro σ H3 ⟨v7, v8, v9, v10, v11, v12, v13, v14, rfl, R3⟩
    obtain ⟨xs0, q0, _, _⟩ := R3.step np0
    refine ⟨_, rfl, .inl ⟨rfl, _, SqL.of q0⟩, two _ _, fun r1 J1 k1 u1 g1 => ?_⟩
    have big : (20 + M0) * (1 + C0 + 1) ≤ 39 * 9 := Nat.mul_le_mul (by omega) (by omega)
    obtain ⟨acc, a1, a2, a3⟩ := (R3.go u1).step np0
    refine ⟨p3, acc, .ref r1, rfl, rfl, a1, ?_, ?_⟩
    · rw [a2, List.length_map, List.length_range, sizeLine_eq]
      omega
    have RF := a3 (.ref r1) (.fin "out") ⟨r1, rfl, g1⟩
    generalize upd J1 p3 (.lst (acc ++ [V.ref r1])) = J2 at *
    obtain ⟨sJ, xsF, eF, rwF⟩ := RF
    have rwF : Rows J2 xsF (ringR (20 + M0) (1 + C0)) := rwF
    have s2J : Same H2 J2 := s0.trans (s1.trans (s2.trans sJ))
    have aJ : J2 a = some (.lst [.int x2, .int y2, .int z2]) := s2J _ _ ha2
    refine ⟨_, rfl, _, rfl, _, rfl, three _ _ _, fun r2 J3 k2 u2 g2 => ⟨a, r2, _, x2, y2, z2, rfl, u2 _ _ aJ, g2, by show 0 < 3; decide, by show 3 ≤ 1000; decide, ne_of_none aJ k2, fun v x3 y3 z3 J4 hv bt4 a4 => ?_⟩⟩
    obtain ⟨b0, rfl, hb0⟩ : ∃ b0 : Nat, v = .int (b0 : Int) ∧ b0 ≤ 1 := by
      simp only [List.mem_cons, List.not_mem_nil, or_false] at hv
      rcases hv with rfl | rfl | rfl
      · exact ⟨0, rfl, by decide⟩
      · exact ⟨0, rfl, by decide⟩
      · exact ⟨1, rfl, by decide⟩
    have x24 : ∀ b o, b ≠ a → J2 b = some o → J4 b = some o := fun b o n e => bt4 b o n (u2 _ _ e)
    have off : ∀ {b : Addr} {o : HO}, J2 b = some o → (∀ vs, o ≠ .lst vs) → b ≠ a := fun e n z => by
      rw [z, aJ] at e
      exact n _ (Option.some.inj e).symm
    have e3J : p3 ≠ a := fun z => by
      rw [z] at np0
      rw [s2 _ _ (s1 _ _ (s0 _ _ ha2))] at np0
      cases np0
    have e1J : p1 ≠ a := fun z => by
      rw [z, s0 _ _ ha2] at m1
      cases m1
    have eD4 := x24 _ _ (off (sJ _ _ e2) nofun) (sJ _ _ e2)
    have eF4 := x24 _ _ e3J eF
    have eN4 := x24 _ _ e1J (sJ _ _ (s2 _ _ e1))
    have rw4 : Rows J4 xsF (ringR (20 + M0) (1 + C0)) := rwF.tups fun q us e => x24 _ _ (off e nofun) e
    have okB : OkB oRing (ringR (20 + M0) (1 + C0)) b0 := ring_okB (by omega) (by omega) (Nat.le_trans hb0 (by have : 1 * 1 ≤ (20 + M0) * (1 + C0 + 1) := Nat.mul_le_mul (by omega) (by omega); omega))
    refine ⟨d0, p3, xsF, _, oRing, b0, rfl, rfl, eD4, .inl eF4, rw4.inn, okB, fun bd J5 nb s5 BN => ?_⟩
    have a5 := s5 _ _ a4
    refine ⟨_, rfl, a, 1800, x3, y3, z3, rfl, by decide, by decide, a5, fun n3 x4 y4 z4 J6 n3a n3b bt6 a6 => ?_⟩
    obtain ⟨F0, rfl⟩ := Int.eq_ofNat_of_zero_le n3a
    refine ⟨200, (F0 : Int), rfl, rfl, _, _, rfl, ?_⟩
    have B6 : BodyAt CB CM J6 bd oRing (ringR (20 + M0) (1 + C0)) b0 := BN.off nb fun b u e hor => bt6 b u (fun z => by
      rw [z, a5] at e
      rcases hor with hor | ⟨zs, hor⟩
      · rw [z, a4] at hor
        cases hor
      · rw [hor] at e
        cases e) e
    have x46 : ∀ b o, b ≠ a → J4 b = some o → J6 b = some o := fun b o n e => bt6 b o n (s5 _ _ e)
    have eD6 := x46 _ _ (off (sJ _ _ e2) nofun) eD4
    have eN6 := x46 _ _ e1J eN4
    have hM : 3 ≤ 20 + M0 := by omega
    have hbl : b0 ≤ 1 + C0 := by omega
    refine ⟨_, rfl, ((200 + F0 : Nat) : Int), by simp, by omega, by omega, fun D nD => lc_range (lo := 0) (n := 200 + F0) (fun i Hx => Same J6 Hx ∧ ∃ vs, Hx D = some (.lst vs) ∧ HPs Hx vs ((List.range i).map fun a => (nmR (a % (20 + M0)), cntR (a % (20 + M0)) - 1))) ⟨sameNew nD _, [], upd_same, HPs.nil _⟩ (fun i Hx hi z => ?_) fun Hx z => ?_⟩
    · obtain ⟨sx, vs, dD, hp⟩ := z
      have lv : vs.length = i := by rw [hp.1, List.length_map, List.length_range]
      have cp := cnt_pos (i % (20 + M0))
      have mp : (0 : Int) < 20 + (M0 : Int) := by omega
      refine ⟨rfl, _, rfl, _, rfl, _, rfl, 0 + (i : Int), 20 + (M0 : Int), rfl, rfl, mp, .inl ⟨_, rfl, (0 + (i : Int)) % (20 + (M0 : Int)), 3, rfl, rfl, (show (0 : Int) < 3 by decide), p1, _, (0 + (i : Int)) % (20 + (M0 : Int)) % 3, _, rfl, rfl, SqL.of (sx _ _ eN6), nm_far i (20 + M0), _, rfl, _, rfl, _, rfl, _, rfl, 0 + (i : Int), 20 + (M0 : Int), rfl, rfl, mp, .inl ⟨_, rfl, (0 + (i : Int)) % (20 + (M0 : Int)), 3, rfl, rfl, (show (0 : Int) < 3 by decide), p1, _, (0 + (i : Int)) % (20 + (M0 : Int)) % 3, _, rfl, rfl, SqL.of (sx _ _ eN6), nm_far i (20 + M0), d0, _, rfl, .inl ⟨opsK oRing, .inr (nmR (i % (20 + M0))), .inl (sx _ _ eD6), rfl, by rw [val_ops, ring_look]; rfl⟩, (cntR (i % (20 + M0)) : Int), 1, rfl, rfl, two _ _, fun q8 K8 m8 t8 f8 => ⟨vs, t8 _ _ dD, ?_, ?_⟩⟩⟩⟩
      · rw [lv, sizeLine_eq]
        omega
      · refine ⟨same_updN (sx.trans t8) nD, _, upd_same, ?_⟩
        rw [List.range_succ, List.map_append]
        refine HPs.upd2 (HPs.snoc (hp.same t8) ?_) (t8 _ _ dD)
        rw [f8]
        show some (HO.tup [V.str (nmR (i % (20 + M0))), V.int ((cntR (i % (20 + M0)) : Int) - 1)]) = some (HO.tup [V.str (nmR (i % (20 + M0))), V.int ((cntR (i % (20 + M0)) - 1 : Nat) : Int)])
        rw [show ((cntR (i % (20 + M0)) - 1 : Nat) : Int) = (cntR (i % (20 + M0)) : Int) - 1 by omega]
    obtain ⟨s7, vsD, dD, hpD⟩ := z
    have B7 := B6.same s7
    have eN7 := s7 _ _ eN6
    refine ⟨_, rfl, _, rfl, bd, D, oRing, ringR (20 + M0) (1 + C0), b0, _, _, rfl, B7, ⟨vsD, dD, hpD⟩, oRing_ok.nd, okB.asks, ring_fit, ring_far (by omega) hbl, fun t8 H8 s8 e8 => ?_⟩
    rw [ring_shows (Nat.mod_lt _ (by omega))] at e8
    have mp : (0 : Int) < 20 + (M0 : Int) := by omega
    refine ⟨_, rfl, _, rfl, _, rfl, 200 + (F0 : Int), 20 + (M0 : Int), rfl, rfl, mp, .inl ⟨_, rfl, (200 + (F0 : Int)) % (20 + (M0 : Int)), 3, rfl, rfl, (show (0 : Int) < 3 by decide), p1, _, (200 + (F0 : Int)) % (20 + (M0 : Int)) % 3, _, rfl, rfl, SqL.of (s8 _ _ eN7), nm_far0 (200 + F0) (20 + M0), two _ _, fun q9 H9 m9 s9 f9 => ?_⟩⟩
    obtain ⟨sh, eq⟩ := askD_ok ((200 + F0) % (20 + M0))
    refine ⟨askD ((200 + F0) % (20 + M0)), askD ((200 + F0) % (20 + M0)), strs_tdp (s9 _ _ e8), strs_tdp (ts := [("ask" : Str), nmR ((200 + F0) % (20 + M0))]) f9, sh, sh, _, rfl, ?_⟩
    rw [eq]
    refine iteF ?_
    have B9 := B7.same (s8.trans s9)
    obtain ⟨dx9, mm9, eb9⟩ := B9.one
    refine ⟨_, rfl, bd, dx9, _, rfl, eb9, bd, oRing, _, b0, rfl, B9, ((ringR (20 + M0) (1 + C0)).length : Int), rfl, by omega, by rw [ring_len]; omega, ?_⟩
    refine ⟨_, rfl, _, rfl, 20 + (M0 : Int), 1 + (C0 : Int) + 1, rfl, rfl, .inr ⟨by omega, by omega⟩, (20 + (M0 : Int)) * (1 + (C0 : Int) + 1), 1, rfl, rfl, rfl, _, rfl, ?_⟩
    have len_eq : (((ringR (20 + M0) (1 + C0)).length : Nat) : Int) = (20 + (M0 : Int)) * (1 + (C0 : Int) + 1) + 1 := by
      rw [ring_len, Int.natCast_add, Int.natCast_mul, Int.natCast_add, Int.natCast_add, Int.natCast_add]
      rfl
    rw [len_eq, decide_eq_true rfl]
    refine iteF ?_
    refine ⟨_, rfl, two _ _, fun p11 G11 m11 s11 e11 => ⟨one _, fun p12 G12 m12 s12 e12 => ?_⟩⟩
    obtain ⟨go1, sh1⟩ := ring_out (M := 20 + M0) (c := 1 + C0) (b := b0) (by omega) hbl
    refine ⟨bd, p12, oRing, ringR (20 + M0) (1 + C0), b0, [("coin", 0)], _, rfl, B9.same (s11.trans s12), ⟨[.ref p11], e12, HPs.snoc (HPs.nil _) (s12 _ _ e11)⟩, oRing_ok.nd, okB.asks, ring_fit, go1, fun t13 G13 s13 e13 => ?_⟩
    rw [sh1] at e13
    refine ⟨two _ _, fun p14 G14 m14 s14 e14 => ?_⟩
    refine ⟨.tuple ([("end" : Str), "out"].map PyData.str), .tuple ([("end" : Str), "out"].map PyData.str), strs_tdp (s14 _ _ e13), strs_tdp (ts := [("end" : Str), "out"]) e14, by decide +kernel, by decide +kernel, _, rfl, ?_⟩
    rw [show (!PyData.eqv (.tuple ([("end" : Str), "out"].map PyData.str)) (.tuple ([("end" : Str), "out"].map PyData.str))) = false by decide +kernel]
    refine iteF ?_
    have B14 := B9.same (s11.trans (s12.trans (s13.trans s14)))
    obtain ⟨dxw, mmw, ebw⟩ := B14.one
    have hbL : b0 < (ringR (20 + M0) (1 + C0)).length := okB.lt
    refine ⟨_, rfl, bd, dxw, _, rfl, ebw, by rfl, bd, oRing, _, b0, rfl, B14, fun as has pW HW nW sW eW => ⟨one _, fun p15 G15 m15 s15 e15 => ?_⟩⟩
    rw [ring_words (by omega) hbl hbL has] at eW
    refine ⟨.list [.str "out"], .list [.str "out"], .lst (SqL.of (s15 _ _ eW)) (.cons (.str _) .nil), .lst (SqL.of e15) (.cons (.str _) .nil), by decide +kernel, by decide +kernel, _, rfl, ?_⟩
    rw [show (!PyData.eqv (.list [.str "out"]) (.list [.str "out"])) = false by decide +kernel]
    refine iteF ?_
    have B15 := B14.same (sW.trans s15)
    obtain ⟨dxh, mmh, ebh⟩ := B15.one
    refine ⟨_, rfl, bd, dxh, _, rfl, ebh, by rfl, bd, oRing, _, b0, rfl, B15, ?_⟩
    dsimp only
    rw [ring_hangs (by omega) hbl hbL]
    refine ⟨false, rfl, iteF ?_⟩
    refine ⟨_, rfl, bd, dxh, _, rfl, ebh, by rfl, bd, oRing, _, b0, rfl, B15, fun as2 has2 pA HA nA sA eA => ⟨three _ _ _, fun p16 G16 m16 s16 e16 => ?_⟩⟩
    rw [ring_asked hM hbl hbL has2] at eA
    refine ⟨.list [.str "coin", .str "open", .str "tell"], .list [.str "coin", .str "open", .str "tell"], .lst (SqL.of (s16 _ _ eA)) (.cons (.str _) (.cons (.str _) (.cons (.str _) .nil))), .lst (SqL.of e16) (.cons (.str _) (.cons (.str _) (.cons (.str _) .nil))), by decide +kernel, by decide +kernel, ?_⟩
    rw [show PyData.eqv (.list [.str "coin", .str "open", .str "tell"]) (.list [.str "coin", .str "open", .str "tell"]) = true by decide +kernel]
    refine ⟨true, rfl, ?_⟩
    rw [if_pos rfl]
    have B16 := B15.same (sA.trans s16)
    have t616 : Same J6 G16 := s7.trans (s8.trans (s9.trans (s11.trans (s12.trans (s13.trans (s14.trans (sW.trans (s15.trans (sA.trans s16)))))))))
    have t24 : Same J2 J3 := u2
    have tC4 := tabs_src ((tabs_src (tabs_src tC bt1 ⟨_, ha⟩) bt2 ⟨_, ha1⟩).ext (s2J.trans u2)) bt4 ⟨_, u2 _ _ aJ⟩
    have tM4 := tabs_src ((tabs_src (tabs_src tM bt1 ⟨_, ha⟩) bt2 ⟨_, ha1⟩).ext (s2J.trans u2)) bt4 ⟨_, u2 _ _ aJ⟩
    have tC16 := (tabs_src (tC4.ext s5) bt6 ⟨_, a5⟩).ext t616
    have tM16 := (tabs_src (tM4.ext s5) bt6 ⟨_, a5⟩).ext t616
    refine ⟨_, rfl, bd, oRing, _, b0, rfl, B16, ring_fit, okB.tame, by rw [ring_len]; omega, oRing_ok.nd, okB.look, tC16, tM16, fun bd2 HL o2 rs' bL tCL tML nb2 BL oas RL TL pos mo => ?_⟩
    obtain rfl := ring_least hM hbl hbL mo
    obtain ⟨dx2, mm2, eb2⟩ := BL.one
    have lN : leastN (20 + M0) ≤ 20 + M0 := by
      unfold leastN
      split <;> omega
    refine ⟨bd2, dx2, _, rfl, eb2, bd2, o2, leastR (leastN (20 + M0)), 0, rfl, BL, ((leastR (leastN (20 + M0))).length : Int), rfl, by omega, by rw [leastR_len]; omega, ?_⟩
    have xL := but2_ext bL tC16 tM16
    have fin : ∀ n : Int, n = (leastN (20 + M0) : Int) → rEq (V.int ((leastR (leastN (20 + M0))).length : Int)) (V.int (n + 1)) HL Q := fun n hn => by
      refine ⟨rfl, ?_⟩
      rw [leastR_len, show decide (V.int ((leastN (20 + M0) + 1 : Nat) : Int) = V.int (n + 1)) = true from decide_eq_true (congrArg V.int (by omega))]
      refine k HL ?_ ⟨x4, y4, z4, xL _ _ (t616 _ _ a6) fun _ z => nomatch z⟩ tCL tML
      exact (But3.a bt1).trans ((But3.a bt2).trans ((But3.s (s2J.trans u2)).trans ((But3.a bt4).trans ((But3.s s5).trans ((But3.a bt6).trans ((But3.s t616).trans (But3.two bL)))))))
    refine ⟨_, rfl, 20 + (M0 : Int), 3, rfl, rfl, (show (0 : Int) < 3 by decide), rfl, _, rfl, ?_⟩
    by_cases h3 : (20 + M0) % 3 = 0
    · rw [show (!decide ((fun i j => V.int (i % j)) (20 + (M0 : Int)) 3 = V.int 0)) = false by rw [decide_eq_true (show (fun i j => V.int (i % j)) (20 + (M0 : Int)) 3 = V.int 0 from congrArg V.int (by show (20 + (M0 : Int)) % 3 = 0; omega))]; rfl]
      refine iteF ?_
      refine ⟨3, 1, rfl, rfl, fin 3 ?_⟩
      unfold leastN
      rw [if_pos h3]
      rfl
    · rw [show (!decide ((fun i j => V.int (i % j)) (20 + (M0 : Int)) 3 = V.int 0)) = true by rw [decide_eq_false (fun z : (fun i j => V.int (i % j)) (20 + (M0 : Int)) 3 = V.int 0 => h3 (by have z2 : (20 + (M0 : Int)) % 3 = 0 := V.int.inj z; omega))]; rfl]
      refine iteT ?_
      refine ⟨_, rfl, 20 + (M0 : Int), 1, rfl, rfl, fin _ ?_⟩
      unfold leastN
      rw [if_neg h3]
      omega
end
end Mine

set_option maxRecDepth 100000
set_option maxHeartbeats 4000000
namespace Mine
open PySem L2 LamB
abbrev s_law : Stmt := top 70
def spLaw (K : PySem.W.Frag) (PC PM : Addr) : Sp := fun vs H Q _ => ∃ (a : Addr) (ns : List Int), vs = [.ref a] ∧ SqL K H a (ns.map V.int) ∧ ns.length ≤ 63 ∧ LamX.Tabs [(PC, qCut)] H ∧ LamX.Tabs [(PM, qMer)] H ∧ ∀ H', Q (.bl true) H'
section
variable {P : Program} {w : World} {K : PySem.W.Frag} {mg : Str → Option Value} {base : Heap}
variable {fII fIW PC PM fSr fRi fRs fTr : Addr}
theorem sc_law : FnScope ["_law_script", "_law_cell", "_law_source"] ["_law_script"] (defScope s_law) := ⟨rfl, rfl, rfl, by decide +kernel, rfl, by decide +kernel, by decide +kernel⟩

theorem ok_law {f : Addr} {fd fdSr fdRi fdRs fdTr : FuncData} (F : Fun K "law" "law" s_law f fd) (T : TxtF K mg fII fIW)
    (G_src : FnOk P w K mg base CX0 1 fSr fdSr ["_law_cell"] spSrc) (b_src : Binds K fdSr ["_law_cell"] []) (g_src : mg "_law_source_of" = some (.ref fSr)) (k_src : PySem.W.keepIn K (.ref fSr) = true)
    (G_ring : FnOk P w K mg base CX0 11 fRi fdRi ["_law_source"] (spCheck PC PM)) (b_ring : Binds K fdRi ["_law_source"] []) (g_ring : mg "_law_ring_right" = some (.ref fRi)) (k_ring : PySem.W.keepIn K (.ref fRi) = true)
    (G_rings : FnOk P w K mg base CX0 11 fRs fdRs ["_law_source"] (spCheck PC PM)) (b_rings : Binds K fdRs ["_law_source"] []) (g_rings : mg "_law_rings_right" = some (.ref fRs)) (k_rings : PySem.W.keepIn K (.ref fRs) = true)
    (G_tree : FnOk P w K mg base CX0 11 fTr fdTr ["_law_source"] (spCheck PC PM)) (b_tree : Binds K fdTr ["_law_source"] []) (g_tree : mg "_law_tree_right" = some (.ref fTr)) (k_tree : PySem.W.keepIn K (.ref fTr) = true) :
    FnOk P w K mg base CX0 12 f fd ["_law_script"] (spLaw K PC PM) := by
  refine F.ok sc_law (fun vs H Q E h => ?_) (fun cdv A outer s H vs Q E hr h => ?_)
  · obtain ⟨a, ns, rfl, _⟩ := h
    rfl
  · obtain ⟨a, ns, rfl, hS, hlen, tC, tM, k⟩ := h
    refine ⟨_, ((pss_cons (ps_for PassesOwn.never rfl (pi_list (pe_op op_catG (pe_slice sl_listG (pv 0) po_none (po_some pe_int)) (pe_lstG (pa_cons pe_int pa_nil)))) (pg_name (i := 1) sc_law.nd rfl (Or.inl rfl)) (pss_cons (ps_set (i := 2) sc_law.nd rfl (Or.inl rfl) (pe_call G_src (hr.mono (by decide)) (by rfl) g_src k_src b_src .nil pass0 (pa_cons (pv 1) pa_nil)))
      (pss_one (ps_if (PW.pt (pw_or (pt_not (pt_truth (pe_call G_ring (hr.mono (by decide)) (by rfl) g_ring k_ring b_ring .nil pass0 (pa_cons (pv 2) pa_nil)) (by intro _; rfl))) (pw_or (pt_not (pt_truth (pe_call G_rings (hr.mono (by decide)) (by rfl) g_rings k_rings b_rings .nil pass0 (pa_cons (pv 2) pa_nil)) (by intro _; rfl))) (pw_or1 (pt_not (pt_truth (pe_call G_tree (hr.mono (by decide)) (by rfl) g_tree k_tree b_tree .nil pass0 (pa_cons (pv 2) pa_nil)) (by intro _; rfl))))))) (pss_one (ps_ret pe_bl)) pss_nil))))
      (pss_one (ps_ret pe_bl)))), ?_⟩
    have one : ∀ v : V, [v].length ≤ sizeLine := fun v => by rw [sizeLine_eq]; exact Nat.le_trans (show 1 ≤ 1 from Nat.le_refl 1) (by decide)
    refine ⟨_, rfl, 3, rfl, a, _, rfl, hS, fun p1 H1 n1 s1 e1 => ?_⟩
    refine ⟨one _, fun p2 H2 n2 s2 e2 => ?_⟩
    refine ⟨p1, p2, _, _, rfl, rfl, s2 _ _ e1, e2, ?_, fun p3 H3 n3 s3 e3 => ?_⟩
    · have := ints_cut_len (lo := none) (hi := some 3) hlen
      show _ + 1 ≤ sizeLine
      rw [sizeLine_eq]
      omega
    have tC3 := tC.ext (s1.trans (s2.trans s3))
    have tM3 := tM.ext (s1.trans (s2.trans s3))
    have nC : p3 ≠ PC := fun z => by
      obtain ⟨ps, h1, _⟩ := tC3 (PC, qCut) (List.mem_singleton.mpr rfl)
      have h1 : H3 PC = some (.tbl ps) := h1
      rw [← z, e3] at h1
      cases h1
    have nM : p3 ≠ PM := fun z => by
      obtain ⟨ps, h1, _⟩ := tM3 (PM, qMer) (List.mem_singleton.mpr rfl)
      have h1 : H3 PM = some (.tbl ps) := h1
      rw [← z, e3] at h1
      cases h1
    refine ⟨p3, rfl, ⟨_, SqL.of e3⟩, for_list (K := K) (a := p3) (xs := cutV (ns.map V.int) none (some 3) ++ [.int 0]) (fun i σ H' => ∃ v1 v2 : Option V, σ = [some (.ref a), v1, v2] ∧ LamX.Tabs [(PC, qCut)] H' ∧ LamX.Tabs [(PM, qMer)] H' ∧ H' p3 = some (.lst (cutV (ns.map V.int) none (some 3) ++ [.int 0]))) ⟨_, _, rfl, tC3, tM3, e3⟩ (fun i σ H' _ z => by obtain ⟨_, _, _, _, _, u⟩ := z; exact SqL.of u) ?_ ?_⟩
    · rintro i y σ Hc hi ⟨v1, v2, rfl, tc, tm, ec⟩
      obtain ⟨c, rfl⟩ := ints_cut hi
      refine ⟨_, rfl, c, rfl, fun x y z p4 H4 n4 s4 e4 => ?_⟩
      have ec4 := s4 _ _ ec
      have n34 : p3 ≠ p4 := fun q => by rw [q, n4] at ec; cases ec
      refine ⟨_, rfl, p4, rfl, ⟨x, y, z, e4⟩, tc.ext s4, tm.ext s4, fun H5 b5 src5 tc5 tm5 => ⟨_, rfl, ?_⟩⟩
      have ec5 := b5 _ _ n34 nC nM ec4
      refine iteF ⟨_, rfl, p4, rfl, src5, tc5, tm5, fun H6 b6 src6 tc6 tm6 => ⟨_, rfl, ?_⟩⟩
      have ec6 := b6 _ _ n34 nC nM ec5
      refine iteF ⟨_, rfl, p4, rfl, src6, tc6, tm6, fun H7 b7 src7 tc7 tm7 => ⟨_, rfl, ?_⟩⟩
      have ec7 := b7 _ _ n34 nC nM ec6
      refine iteF ?_
      exact ⟨_, _, rfl, tc7, tm7, ec7⟩
    · rintro σ Hz ⟨v1, v2, rfl, _, _, _⟩
      exact k _
end
end Mine

set_option maxRecDepth 100000
set_option maxHeartbeats 4000000
namespace Mine
open PySem L2
theorem all_mk {l : PySem.W.OpenLaw} {w : World} {K : PySem.W.Frag} {h : Heap} {mg : Str → Option Value} {fa a_is_integer a_is_within a_is_index a_is_row a_is_name a_is_text_in a_are_counts a_are_operations a_in_order a_word_of a_are_nexts a_stops_of a_rest_of a_rests_from a_nexts_of a_shows_of a_firsts_of a_cut a_mapped a_numbered a_sources_of a_split a_split_all a_groups_in a_groups_of a_merged a_lines_read a_is_line a_line_of a_can_come a_shown a_body_of a_least a_law_source_of a_law_next a_law_one a_law_ring_right a_law_rings_right a_law_tree_right a_law cC PC cM PM CM fM CP fP CB fB DK m_rows m_asked m_words m_hangs m_len : Addr} {fd_is_integer fd_is_within fd_is_index fd_is_row fd_is_name fd_is_text_in fd_are_counts fd_are_operations fd_in_order fd_word_of fd_are_nexts fd_stops_of fd_rest_of fd_rests_from fd_nexts_of fd_shows_of fd_firsts_of fd_cut fd_mapped fd_numbered fd_sources_of fd_split fd_split_all fd_groups_in fd_groups_of fd_merged fd_lines_read fd_is_line fd_line_of fd_can_come fd_shown fd_body_of fd_least fd_law_source_of fd_law_next fd_law_one fd_law_ring_right fd_law_rings_right fd_law_tree_right fd_law fdM fdP fdB fdm_rows fdm_asked fdm_words fdm_hangs fdm_len : FuncData} {tD tL t1 t2 t3 t4 t5 : Tok} (X : K.In h) (G : h.Ns mainGlobals mg) (hfa : mg "law" = some (.ref fa))
    (g_is_integer : PySem.W.nsIn K mainGlobals "is_integer" = some (some (.ref a_is_integer)))
    (F_is_integer : Fun K "is_integer" "is_integer" s_is_integer a_is_integer fd_is_integer)
    (g_is_within : PySem.W.nsIn K mainGlobals "is_within" = some (some (.ref a_is_within)))
    (F_is_within : Fun K "is_within" "is_within" s_is_within a_is_within fd_is_within)
    (g_is_index : PySem.W.nsIn K mainGlobals "is_index" = some (some (.ref a_is_index)))
    (F_is_index : Fun K "is_index" "is_index" s_is_index a_is_index fd_is_index)
    (g_is_row : PySem.W.nsIn K mainGlobals "is_row" = some (some (.ref a_is_row)))
    (F_is_row : Fun K "is_row" "is_row" s_is_row a_is_row fd_is_row)
    (g_is_name : PySem.W.nsIn K mainGlobals "is_name" = some (some (.ref a_is_name)))
    (F_is_name : Fun K "is_name" "is_name" s_is_name a_is_name fd_is_name)
    (g_is_text_in : PySem.W.nsIn K mainGlobals "is_text_in" = some (some (.ref a_is_text_in)))
    (F_is_text_in : Fun K "is_text_in" "is_text_in" s_is_text_in a_is_text_in fd_is_text_in)
    (g_are_counts : PySem.W.nsIn K mainGlobals "are_counts" = some (some (.ref a_are_counts)))
    (F_are_counts : Fun K "are_counts" "are_counts" s_are_counts a_are_counts fd_are_counts)
    (g_are_operations : PySem.W.nsIn K mainGlobals "are_operations" = some (some (.ref a_are_operations)))
    (F_are_operations : Fun K "are_operations" "are_operations" s_are_operations a_are_operations fd_are_operations)
    (g_in_order : PySem.W.nsIn K mainGlobals "in_order" = some (some (.ref a_in_order)))
    (F_in_order : Fun K "in_order" "in_order" s_in_order a_in_order fd_in_order)
    (g_word_of : PySem.W.nsIn K mainGlobals "word_of" = some (some (.ref a_word_of)))
    (F_word_of : Fun K "word_of" "word_of" s_word_of a_word_of fd_word_of)
    (g_are_nexts : PySem.W.nsIn K mainGlobals "are_nexts" = some (some (.ref a_are_nexts)))
    (F_are_nexts : Fun K "are_nexts" "are_nexts" s_are_nexts a_are_nexts fd_are_nexts)
    (g_stops_of : PySem.W.nsIn K mainGlobals "stops_of" = some (some (.ref a_stops_of)))
    (F_stops_of : Fun K "stops_of" "stops_of" s_stops_of a_stops_of fd_stops_of)
    (g_rest_of : PySem.W.nsIn K mainGlobals "rest_of" = some (some (.ref a_rest_of)))
    (F_rest_of : Fun K "rest_of" "rest_of" s_rest_of a_rest_of fd_rest_of)
    (g_rests_from : PySem.W.nsIn K mainGlobals "rests_from" = some (some (.ref a_rests_from)))
    (F_rests_from : Fun K "rests_from" "rests_from" s_rests_from a_rests_from fd_rests_from)
    (g_nexts_of : PySem.W.nsIn K mainGlobals "nexts_of" = some (some (.ref a_nexts_of)))
    (F_nexts_of : Fun K "nexts_of" "nexts_of" s_nexts_of a_nexts_of fd_nexts_of)
    (g_shows_of : PySem.W.nsIn K mainGlobals "shows_of" = some (some (.ref a_shows_of)))
    (F_shows_of : Fun K "shows_of" "shows_of" s_showsK a_shows_of fd_shows_of)
    (g_firsts_of : PySem.W.nsIn K mainGlobals "firsts_of" = some (some (.ref a_firsts_of)))
    (F_firsts_of : Fun K "firsts_of" "firsts_of" s_firsts_of a_firsts_of fd_firsts_of)
    (g_cut : PySem.W.nsIn K mainGlobals "cut" = some (some (.ref a_cut)))
    (F_cut : LamB.FunC K "cut" "cut" s_cut a_cut fd_cut cC)
    (g_mapped : PySem.W.nsIn K mainGlobals "mapped" = some (some (.ref a_mapped)))
    (F_mapped : Fun K "mapped" "mapped" s_mapped a_mapped fd_mapped)
    (g_numbered : PySem.W.nsIn K mainGlobals "numbered" = some (some (.ref a_numbered)))
    (F_numbered : Fun K "numbered" "numbered" s_numbered a_numbered fd_numbered)
    (g_sources_of : PySem.W.nsIn K mainGlobals "sources_of" = some (some (.ref a_sources_of)))
    (F_sources_of : Fun K "sources_of" "sources_of" s_sources_of a_sources_of fd_sources_of)
    (g_split : PySem.W.nsIn K mainGlobals "split" = some (some (.ref a_split)))
    (F_split : Fun K "split" "split" s_split a_split fd_split)
    (g_split_all : PySem.W.nsIn K mainGlobals "split_all" = some (some (.ref a_split_all)))
    (F_split_all : Fun K "split_all" "split_all" s_split_all a_split_all fd_split_all)
    (g_groups_in : PySem.W.nsIn K mainGlobals "groups_in" = some (some (.ref a_groups_in)))
    (F_groups_in : Fun K "groups_in" "groups_in" s_groups_in a_groups_in fd_groups_in)
    (g_groups_of : PySem.W.nsIn K mainGlobals "groups_of" = some (some (.ref a_groups_of)))
    (F_groups_of : Fun K "groups_of" "groups_of" s_groups_of a_groups_of fd_groups_of)
    (g_merged : PySem.W.nsIn K mainGlobals "merged" = some (some (.ref a_merged)))
    (F_merged : LamB.FunC K "merged" "merged" s_merged a_merged fd_merged cM)
    (g_lines_read : PySem.W.nsIn K mainGlobals "lines_read" = some (some (.ref a_lines_read)))
    (F_lines_read : Fun K "lines_read" "lines_read" s_lines_read a_lines_read fd_lines_read)
    (g_is_line : PySem.W.nsIn K mainGlobals "is_line" = some (some (.ref a_is_line)))
    (F_is_line : Fun K "is_line" "is_line" s_is_line a_is_line fd_is_line)
    (g_line_of : PySem.W.nsIn K mainGlobals "line_of" = some (some (.ref a_line_of)))
    (F_line_of : Fun K "line_of" "line_of" s_line_of a_line_of fd_line_of)
    (g_can_come : PySem.W.nsIn K mainGlobals "can_come" = some (some (.ref a_can_come)))
    (F_can_come : Fun K "can_come" "can_come" s_can_come a_can_come fd_can_come)
    (g_shown : PySem.W.nsIn K mainGlobals "shown" = some (some (.ref a_shown)))
    (F_shown : Fun K "shown" "shown" s_shown a_shown fd_shown)
    (g_body_of : PySem.W.nsIn K mainGlobals "body_of" = some (some (.ref a_body_of)))
    (F_body_of : Fun K "body_of" "body_of" s_body_of a_body_of fd_body_of)
    (g_least : PySem.W.nsIn K mainGlobals "least" = some (some (.ref a_least)))
    (F_least : Fun K "least" "least" s_least a_least fd_least)
    (g_law_source_of : PySem.W.nsIn K mainGlobals "_law_source_of" = some (some (.ref a_law_source_of)))
    (F_law_source_of : Fun K "_law_source_of" "_law_source_of" sSrc a_law_source_of fd_law_source_of)
    (g_law_next : PySem.W.nsIn K mainGlobals "_law_next" = some (some (.ref a_law_next)))
    (F_law_next : Fun K "_law_next" "_law_next" sNext a_law_next fd_law_next)
    (g_law_one : PySem.W.nsIn K mainGlobals "_law_one" = some (some (.ref a_law_one)))
    (F_law_one : Fun K "_law_one" "_law_one" sOne a_law_one fd_law_one)
    (g_law_ring_right : PySem.W.nsIn K mainGlobals "_law_ring_right" = some (some (.ref a_law_ring_right)))
    (F_law_ring_right : Fun K "_law_ring_right" "_law_ring_right" s_ring a_law_ring_right fd_law_ring_right)
    (g_law_rings_right : PySem.W.nsIn K mainGlobals "_law_rings_right" = some (some (.ref a_law_rings_right)))
    (F_law_rings_right : Fun K "_law_rings_right" "_law_rings_right" s_rings a_law_rings_right fd_law_rings_right)
    (g_law_tree_right : PySem.W.nsIn K mainGlobals "_law_tree_right" = some (some (.ref a_law_tree_right)))
    (F_law_tree_right : Fun K "_law_tree_right" "_law_tree_right" s_tree a_law_tree_right fd_law_tree_right)
    (g_law : PySem.W.nsIn K mainGlobals "law" = some (some (.ref a_law)))
    (F_law : Fun K "law" "law" s_law a_law fd_law)
    (hPC : PySem.W.codeHdIn K cC PC = true)
    (nPC : K.lookup PC = none)
    (hPM : PySem.W.codeHdIn K cM PM = true)
    (nPM : K.lookup PM = none)
    (nePP : (PM == PC) = false)
    (gc_Machine : PySem.W.nsIn K mainGlobals "Machine" = some (some (.ref CM)))
    (clMachine : Cls K CM)
    (mkMachine : PySem.W.makesIn K CM = true)
    (nMachine_counts : NoAttr K CM "counts")
    (nMachine_lines : NoAttr K CM "lines")
    (nMachine_begin : NoAttr K CM "begin")
    (nMachine_stops : NoAttr K CM "stops")
    (nMachine_asks : NoAttr K CM "asks")
    (nMachine_endings : NoAttr K CM "endings")
    (nMachine_endless : NoAttr K CM "endless")
    (kpMachine : PySem.W.keepIn K (.ref CM) = true)
    (inMachine : PySem.W.findIn K (.ref CM) "__init__" = some (some (.ref fM)))
    (fnMachine : PySem.W.isFn K (.ref fM) = true)
    (FIMachine : Fun K "__init__" "Machine.__init__" s_mach fM fdM)
    (gc_Parting : PySem.W.nsIn K mainGlobals "Parting" = some (some (.ref CP)))
    (clParting : Cls K CP)
    (mkParting : PySem.W.makesIn K CP = true)
    (nParting_owners : NoAttr K CP "owners")
    (nParting_members : NoAttr K CP "members")
    (nParting_waiting : NoAttr K CP "waiting")
    (nParting_waits : NoAttr K CP "waits")
    (kpParting : PySem.W.keepIn K (.ref CP) = true)
    (inParting : PySem.W.findIn K (.ref CP) "__init__" = some (some (.ref fP)))
    (fnParting : PySem.W.isFn K (.ref fP) = true)
    (FIParting : Fun K "__init__" "Parting.__init__" s_parting fP fdP)
    (gc_Body : PySem.W.nsIn K mainGlobals "Body" = some (some (.ref CB)))
    (clBody : Cls K CB)
    (mkBody : PySem.W.makesIn K CB = true)
    (nBody_machine : NoAttr K CB "machine")
    (kpBody : PySem.W.keepIn K (.ref CB) = true)
    (inBody : PySem.W.findIn K (.ref CB) "__init__" = some (some (.ref fB)))
    (fnBody : PySem.W.isFn K (.ref fB) = true)
    (FIBody : ∃ (oc : Value) (od : Option Addr) (doc pm : Value) (an : Option Addr) (cdv ct : Value) (osl : Array (Option Value)), fdB = PySem.W.fnOf "__init__" "Body.__init__" (defArgs s_body) (defBody s_body) (defScope s_body) .none (.ref DK) doc pm an cdv ct ∧ K.lookup fB = some ⟨oc, od, .func fdB, osl⟩ ∧ PySem.W.codeIn K cdv "Body.__init__" = true)
    (kfBody : PySem.W.keepIn K (.ref fB) = true)
    (nsD : PySem.W.nsIn K DK "start" = some (some (.int 0 tD)))
    (at_rows : PySem.W.findIn K (.ref CB) "rows" = some (some (.ref m_rows)))
    (fn_rows : PySem.W.isFn K (.ref m_rows) = true)
    (FM_rows : Fun K "rows" "Body.rows" s_b_rows m_rows fdm_rows)
    (at_asked : PySem.W.findIn K (.ref CB) "asked" = some (some (.ref m_asked)))
    (fn_asked : PySem.W.isFn K (.ref m_asked) = true)
    (FM_asked : Fun K "asked" "Body.asked" s_b_asked m_asked fdm_asked)
    (at_words : PySem.W.findIn K (.ref CB) "words" = some (some (.ref m_words)))
    (fn_words : PySem.W.isFn K (.ref m_words) = true)
    (FM_words : Fun K "words" "Body.words" s_b_words m_words fdm_words)
    (at_hangs : PySem.W.findIn K (.ref CB) "hangs" = some (some (.ref m_hangs)))
    (fn_hangs : PySem.W.isFn K (.ref m_hangs) = true)
    (FM_hangs : Fun K "hangs" "Body.hangs" s_b_hangs m_hangs fdm_hangs)
    (at_len : PySem.W.findIn K (.ref CB) "__len__" = some (some (.ref m_len)))
    (fn_len : PySem.W.isFn K (.ref m_len) = true)
    (FM_len : Fun K "__len__" "Body.__len__" s_b_len m_len fdm_len)
    (z_int : PySem.W.nsIn K mainGlobals "int" = some none)
    (z_isinstance : PySem.W.nsIn K mainGlobals "isinstance" = some none)
    (z_bool : PySem.W.nsIn K mainGlobals "bool" = some none)
    (z_str : PySem.W.nsIn K mainGlobals "str" = some none)
    (z_list : PySem.W.nsIn K mainGlobals "list" = some none)
    (z_tuple : PySem.W.nsIn K mainGlobals "tuple" = some none)
    (z_dict : PySem.W.nsIn K mainGlobals "dict" = some none)
    (z_len : PySem.W.nsIn K mainGlobals "len" = some none)
    (z_all : PySem.W.nsIn K mainGlobals "all" = some none)
    (z_range : PySem.W.nsIn K mainGlobals "range" = some none)
    (z_sorted : PySem.W.nsIn K mainGlobals "sorted" = some none)
    (z_min : PySem.W.nsIn K mainGlobals "min" = some none)
    (z_max : PySem.W.nsIn K mainGlobals "max" = some none)
    (z_enumerate : PySem.W.nsIn K mainGlobals "enumerate" = some none)
    (z_zip : PySem.W.nsIn K mainGlobals "zip" = some none)
    (c_LETTERS : PySem.W.nsIn K mainGlobals "LETTERS" = some (some (.str lettersS tL)))
    (c_LONGEST_NAME : PySem.W.nsIn K mainGlobals "LONGEST_NAME" = some (some (.int 8 t1)))
    (c_MOST_OPERATIONS : PySem.W.nsIn K mainGlobals "MOST_OPERATIONS" = some (some (.int 8 t2)))
    (c_MOST_ANSWERS : PySem.W.nsIn K mainGlobals "MOST_ANSWERS" = some (some (.int 6 t3)))
    (c_MOST_ROWS : PySem.W.nsIn K mainGlobals "MOST_ROWS" = some (some (.int 400 t4)))
    (c_MOST_ROUNDS : PySem.W.nsIn K mainGlobals "MOST_ROUNDS" = some (some (.int 8 t5)))
    (hT0 : h.get? PC = some { cls := .none, data := .fields #[] })
    (hT1 : h.get? PM = some { cls := .none, data := .fields #[] })
    : LamX.LawAtS l w K CX0 12 63 "_law_script" mg fa h := by
  have e := hfa.symm.trans (PySem.W.mg_of X G g_law)
  cases e
  obtain ⟨oc, od, doc, pm, an, cdv, ct, osl, eB, lB, cB⟩ := FIBody
  have FB1 : Fun K "__init__" "Body.__init__" s_body fB fdB := ⟨⟨oc, od, .ref DK, doc, pm, an, cdv, ct, osl, eB, lB, cB⟩, kfBody⟩
  have FDB : FunD K "__init__" "Body.__init__" (defArgs s_body) (defBody s_body) (defScope s_body) [] [("start", V.int 0)] fB fdB := ⟨⟨oc, od, .none, .ref DK, doc, pm, an, cdv, ct, osl, eB, lB, cB, .inl ⟨rfl, rfl⟩, .inr ⟨DK, rfl, fun q hq => by
    rw [List.mem_singleton.mp hq]
    exact ⟨_, nsD, ⟨_, rfl⟩⟩⟩⟩, kfBody⟩
  obtain ⟨ds, hds, bB0⟩ := FDB.binds0 (ps := PB) 3 (by simp) rfl fun D doc pm an cdv ct us ks l1 l2 => match us, ks, l1, l2 with | [_, _, _], [_], _, _ => ⟨_, _, _, _, _, _, rfl, rfl, rfl⟩
  have kB : KBn K fdB PB (2 + 1) KS (fun us ws => us ++ ws) (fun vs zs => vs ++ zs) := bindB fun a b c d => by
    rw [eB]
    rfl
  have T : TxtF K mg a_is_integer a_is_within := ⟨(PySem.W.mg_none_of X G z_isinstance), (PySem.W.mg_none_of X G z_int), (PySem.W.mg_none_of X G z_bool), (PySem.W.mg_none_of X G z_str), (PySem.W.mg_none_of X G z_list), (PySem.W.mg_none_of X G z_tuple), (PySem.W.mg_none_of X G z_dict), (PySem.W.mg_none_of X G z_len), (PySem.W.mg_none_of X G z_all), ⟨_, (PySem.W.mg_of X G c_LETTERS)⟩, ⟨_, (PySem.W.mg_of X G c_LONGEST_NAME)⟩, (PySem.W.mg_of X G g_is_integer), F_is_integer.kp, (PySem.W.mg_of X G g_is_within), F_is_within.kp⟩
  have TG : TxtG K mg a_is_row a_is_index a_is_name a_is_text_in a_are_counts a_word_of a_are_nexts a_is_line a_line_of a_are_operations := ⟨⟨_, (PySem.W.mg_of X G c_MOST_OPERATIONS)⟩, ⟨_, (PySem.W.mg_of X G c_MOST_ANSWERS)⟩, (PySem.W.mg_of X G g_is_row), F_is_row.kp, (PySem.W.mg_of X G g_is_index), F_is_index.kp, (PySem.W.mg_of X G g_is_name), F_is_name.kp, (PySem.W.mg_of X G g_is_text_in), F_is_text_in.kp, (PySem.W.mg_of X G g_are_counts), F_are_counts.kp, (PySem.W.mg_of X G g_word_of), F_word_of.kp, (PySem.W.mg_of X G g_are_nexts), F_are_nexts.kp, (PySem.W.mg_of X G g_is_line), F_is_line.kp, (PySem.W.mg_of X G g_line_of), F_line_of.kp, (PySem.W.mg_of X G g_are_operations), F_are_operations.kp⟩
  have TD : TxtD K mg a_law_next := ⟨(PySem.W.mg_none_of X G z_int), (PySem.W.mg_none_of X G z_len), (PySem.W.mg_of X G g_law_next), F_law_next.kp⟩
  have TM : MachC K CM := ⟨clMachine, nMachine_counts, nMachine_lines, nMachine_begin, nMachine_stops, nMachine_asks, nMachine_endings, nMachine_endless⟩
  have TB : BodyC K CB := ⟨clBody, nBody_machine⟩
  have TP : PartC K CP := ⟨clParting, nParting_owners, nParting_members, nParting_waiting, nParting_waits⟩
  have neMC : PM ≠ PC := fun q => by rw [q] at nePP; exact absurd nePP (by simp)
  refine ⟨fd_law, [(cC, PC), (cM, PM)], spLaw K PC PM, fun p hp => (List.mem_cons.mp hp).elim (fun e => by rw [e]; exact hT0) (fun hp => (List.mem_cons.mp hp).elim (fun e => by rw [e]; exact hT1) (fun hp => absurd hp List.not_mem_nil)), fun p hp => (List.mem_cons.mp hp).elim (fun e => by rw [e]; exact nPC) (fun hp => (List.mem_cons.mp hp).elim (fun e => by rw [e]; exact nPM) (fun hp => absurd hp List.not_mem_nil)), fun p hp => (List.mem_cons.mp hp).elim (fun e => by rw [e]; exact PySem.W.codeHd_of_K X hPC) (fun hp => (List.mem_cons.mp hp).elim (fun e => by rw [e]; exact PySem.W.codeHd_of_K X hPM) (fun hp => absurd hp List.not_mem_nil)), fun s v => ?_, fun H a ns hl _ hH hS => ⟨a, ns, rfl, hS, hl, fun p hp => by rw [List.mem_singleton.mp hp]; exact LamX.TabS.nil (hH _ List.mem_cons_self), fun p hp => by rw [List.mem_singleton.mp hp]; exact LamX.TabS.nil (hH _ (List.mem_cons_of_mem _ List.mem_cons_self)), fun _ => rfl⟩, fun base _ _ tb => ?_⟩
  · obtain ⟨_, _, _, _, _, _, _, _, _, rfl, _, _⟩ := F_law.ex
    exact .of_eq rfl
  · skip
    have TB_cut := tb (cC, PC) List.mem_cons_self
    have TB_merged := tb (cM, PM) (List.mem_cons_of_mem _ List.mem_cons_self)
    have G_is_integer : FnOk l.prog w K mg base CX0 1 a_is_integer fd_is_integer ["thing"] (spInt K) := ok_is_integer F_is_integer T
    have G_is_index : FnOk l.prog w K mg base CX0 3 a_is_index fd_is_index ["thing", "many"] (spIndex K) := ok_is_index F_is_index T F_is_integer (F_is_integer.binds (ps := ["thing"]) fun _ _ _ _ _ _ us hl => match us, hl with | [_], _ => rfl) F_is_within (F_is_within.binds (ps := ["thing", "low", "high"]) fun _ _ _ _ _ _ us hl => match us, hl with | [_, _, _], _ => rfl)
    have G_is_row : FnOk l.prog w K mg base CX0 1 a_is_row fd_is_row ["thing"] (spIsRow K) := ok_is_row F_is_row T
    have G_is_name : FnOk l.prog w K mg base CX0 1 a_is_name fd_is_name ["thing"] (spName K) := ok_is_name F_is_name T
    have G_is_text_in : FnOk l.prog w K mg base CX0 1 a_is_text_in fd_is_text_in ["thing", "table"] (spTextIn K) := ok_is_text_in F_is_text_in T
    have G_are_counts : FnOk l.prog w K mg base CX0 3 a_are_counts fd_are_counts ["thing", "most", "low", "high"] spCounts := ok_are_counts F_are_counts T TG F_is_name (F_is_name.binds (ps := ["thing"]) fun _ _ _ _ _ _ us hl => match us, hl with | [_], _ => rfl) F_is_integer (F_is_integer.binds (ps := ["thing"]) fun _ _ _ _ _ _ us hl => match us, hl with | [_], _ => rfl) F_is_within (F_is_within.binds (ps := ["thing", "low", "high"]) fun _ _ _ _ _ _ us hl => match us, hl with | [_, _, _], _ => rfl)
    have G_are_operations : FnOk l.prog w K mg base CX0 4 a_are_operations fd_are_operations ["thing"] spOps := ok_are_operations F_are_operations TG G_are_counts (F_are_counts.binds (ps := ["thing", "most", "low", "high"]) fun _ _ _ _ _ _ us hl => match us, hl with | [_, _, _, _], _ => rfl)
    have G_word_of : FnOk l.prog w K mg base CX0 2 a_word_of fd_word_of ["row"] spWord := ok_word_of F_word_of T TG G_is_row (F_is_row.binds (ps := ["thing"]) fun _ _ _ _ _ _ us hl => match us, hl with | [_], _ => rfl)
    have G_are_nexts : FnOk l.prog w K mg base CX0 4 a_are_nexts fd_are_nexts ["nexts", "operation", "counts", "many"] spNexts := ok_are_nexts F_are_nexts T TG G_is_row (F_is_row.binds (ps := ["thing"]) fun _ _ _ _ _ _ us hl => match us, hl with | [_], _ => rfl) G_is_index (F_is_index.binds (ps := ["thing", "many"]) fun _ _ _ _ _ _ us hl => match us, hl with | [_, _], _ => rfl)
    have G_is_line : FnOk l.prog w K mg base CX0 5 a_is_line fd_is_line ["row", "counts", "many"] spIsLine := ok_is_line F_is_line T TG G_word_of (F_word_of.binds (ps := ["row"]) fun _ _ _ _ _ _ us hl => match us, hl with | [_], _ => rfl) G_is_text_in (F_is_text_in.binds (ps := ["thing", "table"]) fun _ _ _ _ _ _ us hl => match us, hl with | [_, _], _ => rfl) G_are_nexts (F_are_nexts.binds (ps := ["nexts", "operation", "counts", "many"]) fun _ _ _ _ _ _ us hl => match us, hl with | [_, _, _, _], _ => rfl) G_is_name (F_is_name.binds (ps := ["thing"]) fun _ _ _ _ _ _ us hl => match us, hl with | [_], _ => rfl) G_is_index (F_is_index.binds (ps := ["thing", "many"]) fun _ _ _ _ _ _ us hl => match us, hl with | [_, _], _ => rfl)
    have G_line_of : FnOk l.prog w K mg base CX0 1 a_line_of fd_line_of ["row"] spLineOf := ok_line_of F_line_of T
    have G_rest_of : FnOk l.prog w K mg base CX0 1 a_rest_of fd_rest_of ["trail", "at"] (spRest K) := ok_rest_of F_rest_of (PySem.W.mg_none_of X G z_min)
    have G_stops_of : FnOk l.prog w K mg base CX0 2 a_stops_of fd_stops_of ["lines"] spStops := ok_stops_of F_stops_of T (PySem.W.mg_none_of X G z_range) G_rest_of (F_rest_of.binds (ps := ["trail", "at"]) fun _ _ _ _ _ _ us hl => match us, hl with | [_, _], _ => rfl) (PySem.W.mg_of X G g_rest_of) F_rest_of.kp
    have G_nexts_of : FnOk l.prog w K mg base CX0 1 a_nexts_of fd_nexts_of ["line"] spNextsOf := ok_nexts_of F_nexts_of
    have G_rests_from : FnOk l.prog w K mg base CX0 2 a_rests_from fd_rests_from ["lines", "stops", "begin"] spRests := ok_rests_from F_rests_from T G_nexts_of (F_nexts_of.binds (ps := ["line"]) fun _ _ _ _ _ _ us hl => match us, hl with | [_], _ => rfl) (PySem.W.mg_of X G g_nexts_of) F_nexts_of.kp
    have G_rests_fromD : FnOk l.prog w K mg base CX0 2 a_rests_from fd_rests_from ["lines", "stops", "begin"] spRestsD := ok_rests_fromD F_rests_from T G_nexts_of (F_nexts_of.binds (ps := ["line"]) fun _ _ _ _ _ _ us hl => match us, hl with | [_], _ => rfl) (PySem.W.mg_of X G g_nexts_of) F_nexts_of.kp
    have G_shows_of : FnOk l.prog w K mg base CX0 1 a_shows_of fd_shows_of ["line"] spShowsK := ok_showsK F_shows_of
    have G_in_order : FnOk l.prog w K mg base CX0 1 a_in_order fd_in_order ["table"] spOrder := ok_in_order F_in_order (PySem.W.mg_none_of X G z_sorted)
    have G_firsts_of : FnOk l.prog w K mg base CX0 1 a_firsts_of fd_firsts_of ["lines", "word"] spFirsts := ok_firsts_of F_firsts_of (PySem.W.mg_none_of X G z_sorted)
    have G_mapped : ∀ B, LamB.Up base B → FnOk l.prog w K mg B CX0 4 a_mapped fd_mapped ["line", "place_of"] (spMapped l.prog w K mg B 3) := fun B _ => ok_mapped F_mapped T
    have G_cut : FnOk l.prog w K mg base CX0 5 a_cut fd_cut ["lines", "stops", "begin"] (spCut PC) := ok_cut F_cut T (PySem.W.mg_none_of X G z_enumerate) TB_cut G_rests_from (F_rests_from.binds (ps := ["lines", "stops", "begin"]) fun _ _ _ _ _ _ us hl => match us, hl with | [_, _, _], _ => rfl) (PySem.W.mg_of X G g_rests_from) F_rests_from.kp G_mapped (F_mapped.binds (ps := ["line", "place_of"]) fun _ _ _ _ _ _ us hl => match us, hl with | [_, _], _ => rfl) (PySem.W.mg_of X G g_mapped) F_mapped.kp
    have G_cutD : FnOk l.prog w K mg base CX0 5 a_cut fd_cut ["lines", "stops", "begin"] (spCutD PC) := ok_cutD F_cut T (PySem.W.mg_none_of X G z_enumerate) TB_cut G_rests_fromD (F_rests_from.binds (ps := ["lines", "stops", "begin"]) fun _ _ _ _ _ _ us hl => match us, hl with | [_, _, _], _ => rfl) (PySem.W.mg_of X G g_rests_from) F_rests_from.kp G_mapped (F_mapped.binds (ps := ["line", "place_of"]) fun _ _ _ _ _ _ us hl => match us, hl with | [_, _], _ => rfl) (PySem.W.mg_of X G g_mapped) F_mapped.kp
    have G_numbered : FnOk l.prog w K mg base CX0 1 a_numbered fd_numbered ["marks"] spNumbered := ok_numbered F_numbered T
    have G_sources_of : FnOk l.prog w K mg base CX0 1 a_sources_of fd_sources_of ["nexts"] spSources := ok_sources_of F_sources_of T (PySem.W.mg_none_of X G z_max) (PySem.W.mg_none_of X G z_range) (PySem.W.mg_none_of X G z_enumerate)
    have G_split : FnOk l.prog w K mg base CX0 1 a_split fd_split ["parting", "group", "things"] (spSplit CP) := ok_split F_split T TP
    have G_split_all : FnOk l.prog w K mg base CX0 2 a_split_all fd_split_all ["parting", "things"] (spSplitAll CP) := ok_split_all F_split_all T TP G_split (F_split.binds (ps := ["parting", "group", "things"]) fun _ _ _ _ _ _ us hl => match us, hl with | [_, _, _], _ => rfl) (PySem.W.mg_of X G g_split) F_split.kp
    have G_groups_in : FnOk l.prog w K mg base CX0 3 a_groups_in fd_groups_in ["parting", "sources"] (spGroupsIn CP) := ok_groups_in F_groups_in T TP G_split_all (F_split_all.binds (ps := ["parting", "things"]) fun _ _ _ _ _ _ us hl => match us, hl with | [_, _], _ => rfl) (PySem.W.mg_of X G g_split_all) F_split_all.kp
    have G_parting : FnOk l.prog w K mg base CX0 1 fP fdP ["self", "owners"] (spParting CP) := ok_parting FIParting T TP (PySem.W.mg_none_of X G z_max) (PySem.W.mg_none_of X G z_range) (PySem.W.mg_none_of X G z_enumerate)
    have MP : Mk K CP fP := ⟨mkParting, inParting, fnParting, kpParting⟩
    have G_groups_of : FnOk l.prog w K mg base CX0 4 a_groups_of fd_groups_of ["marks", "nexts"] spGroupsOf := ok_groups_of F_groups_of T TP (PySem.W.mg_none_of X G z_max) (PySem.W.mg_none_of X G z_range) (PySem.W.mg_none_of X G z_enumerate) (PySem.W.mg_of X G c_MOST_ROUNDS) G_numbered (F_numbered.binds (ps := ["marks"]) fun _ _ _ _ _ _ us hl => match us, hl with | [_], _ => rfl) (PySem.W.mg_of X G g_numbered) F_numbered.kp G_sources_of (F_sources_of.binds (ps := ["nexts"]) fun _ _ _ _ _ _ us hl => match us, hl with | [_], _ => rfl) (PySem.W.mg_of X G g_sources_of) F_sources_of.kp G_groups_in (F_groups_in.binds (ps := ["parting", "sources"]) fun _ _ _ _ _ _ us hl => match us, hl with | [_, _], _ => rfl) (PySem.W.mg_of X G g_groups_in) F_groups_in.kp MP G_parting (FIParting.binds (ps := ["self", "owners"]) fun _ _ _ _ _ _ us hl => match us, hl with | [_, _], _ => rfl) (PySem.W.mg_of X G gc_Parting)
    have G_mach : FnOk l.prog w K mg base CX0 3 fM fdM ["self", "counts", "lines", "begin"] (spMach CM) := ok_mach FIMachine TM G_rests_from (F_rests_from.binds (ps := ["lines", "stops", "begin"]) fun _ _ _ _ _ _ us hl => match us, hl with | [_, _, _], _ => rfl) (PySem.W.mg_of X G g_rests_from) F_rests_from.kp G_stops_of (F_stops_of.binds (ps := ["lines"]) fun _ _ _ _ _ _ us hl => match us, hl with | [_], _ => rfl) (PySem.W.mg_of X G g_stops_of) F_stops_of.kp G_firsts_of (F_firsts_of.binds (ps := ["lines", "word"]) fun _ _ _ _ _ _ us hl => match us, hl with | [_, _], _ => rfl) (PySem.W.mg_of X G g_firsts_of) F_firsts_of.kp
    have MM : Mk K CM fM := ⟨mkMachine, inMachine, fnMachine, kpMachine⟩
    have G_merged : FnOk l.prog w K mg base CX0 6 a_merged fd_merged ["counts", "lines", "begin"] (spMerged CM PC PM) := ok_merged F_merged T (PySem.W.mg_none_of X G z_range) (PySem.W.mg_none_of X G z_zip) TB_merged neMC G_cut G_cutD (F_cut.fn.binds (ps := ["lines", "stops", "begin"]) fun _ _ _ _ _ _ us hl => match us, hl with | [_, _, _], _ => rfl) (PySem.W.mg_of X G g_cut) F_cut.kp G_stops_of (F_stops_of.binds (ps := ["lines"]) fun _ _ _ _ _ _ us hl => match us, hl with | [_], _ => rfl) (PySem.W.mg_of X G g_stops_of) F_stops_of.kp G_groups_of (F_groups_of.binds (ps := ["marks", "nexts"]) fun _ _ _ _ _ _ us hl => match us, hl with | [_, _], _ => rfl) (PySem.W.mg_of X G g_groups_of) F_groups_of.kp G_shows_of (F_shows_of.binds (ps := ["line"]) fun _ _ _ _ _ _ us hl => match us, hl with | [_], _ => rfl) (PySem.W.mg_of X G g_shows_of) F_shows_of.kp G_nexts_of (F_nexts_of.binds (ps := ["line"]) fun _ _ _ _ _ _ us hl => match us, hl with | [_], _ => rfl) (PySem.W.mg_of X G g_nexts_of) F_nexts_of.kp G_mapped (F_mapped.binds (ps := ["line", "place_of"]) fun _ _ _ _ _ _ us hl => match us, hl with | [_, _], _ => rfl) (PySem.W.mg_of X G g_mapped) F_mapped.kp MM G_mach (FIMachine.binds (ps := ["self", "counts", "lines", "begin"]) fun _ _ _ _ _ _ us hl => match us, hl with | [_, _, _, _], _ => rfl) (PySem.W.mg_of X G gc_Machine)
    have G_lines_read : FnOk l.prog w K mg base CX0 6 a_lines_read fd_lines_read ["rows", "counts"] spRead := ok_lines_read F_lines_read T TG (PySem.W.mg_none_of X G z_enumerate) (PySem.W.mg_of X G c_MOST_ROWS) G_is_row (F_is_row.binds (ps := ["thing"]) fun _ _ _ _ _ _ us hl => match us, hl with | [_], _ => rfl) G_is_line (F_is_line.binds (ps := ["row", "counts", "many"]) fun _ _ _ _ _ _ us hl => match us, hl with | [_, _, _], _ => rfl) G_line_of (F_line_of.binds (ps := ["row"]) fun _ _ _ _ _ _ us hl => match us, hl with | [_], _ => rfl)
    have MB : Mk K CB fB := ⟨mkBody, inBody, fnBody, kpBody⟩
    have GB : FnOk l.prog w K mg base CX0 7 fB fdB PB (spBody CB CM) := ok_body FB1 T TG TB G_are_operations (F_are_operations.binds (ps := ["thing"]) fun _ _ _ _ _ _ us hl => match us, hl with | [_], _ => rfl) G_lines_read (F_lines_read.binds (ps := ["rows", "counts"]) fun _ _ _ _ _ _ us hl => match us, hl with | [_, _], _ => rfl) (PySem.W.mg_of X G g_lines_read) F_lines_read.kp G_is_index (F_is_index.binds (ps := ["thing", "many"]) fun _ _ _ _ _ _ us hl => match us, hl with | [_, _], _ => rfl) G_in_order (F_in_order.binds (ps := ["table"]) fun _ _ _ _ _ _ us hl => match us, hl with | [_], _ => rfl) (PySem.W.mg_of X G g_in_order) F_in_order.kp MM G_mach (FIMachine.binds (ps := ["self", "counts", "lines", "begin"]) fun _ _ _ _ _ _ us hl => match us, hl with | [_, _, _, _], _ => rfl) (PySem.W.mg_of X G gc_Machine)
    have G_body_of : FnOk l.prog w K mg base CX0 9 a_body_of fd_body_of ["machine"] (spBodyOf CB CM) := ok_body_of F_body_of TB MB GB hds bB0 (PySem.W.mg_of X G gc_Body)
    have G_least : FnOk l.prog w K mg base CX0 10 a_least fd_least ["body"] (spLeast CB CM PC PM) := ok_least F_least TB TM G_body_of (F_body_of.binds (ps := ["machine"]) fun _ _ _ _ _ _ us hl => match us, hl with | [_], _ => rfl) (PySem.W.mg_of X G g_body_of) F_body_of.kp G_merged (F_merged.fn.binds (ps := ["counts", "lines", "begin"]) fun _ _ _ _ _ _ us hl => match us, hl with | [_, _, _], _ => rfl) (PySem.W.mg_of X G g_merged) F_merged.kp
    have G_can_come : FnOk l.prog w K mg base CX0 4 a_can_come fd_can_come ["told", "line", "counts"] spCanCome := ok_can_come F_can_come T TG G_is_row (F_is_row.binds (ps := ["thing"]) fun _ _ _ _ _ _ us hl => match us, hl with | [_], _ => rfl) G_is_index (F_is_index.binds (ps := ["thing", "many"]) fun _ _ _ _ _ _ us hl => match us, hl with | [_, _], _ => rfl)
    have G_shown : FnOk l.prog w K mg base CX0 5 a_shown fd_shown ["body", "history"] (spShown CB CM) := ok_shown F_shown T TG TB TM (PySem.W.mg_none_of X G z_enumerate) G_is_row (F_is_row.binds (ps := ["thing"]) fun _ _ _ _ _ _ us hl => match us, hl with | [_], _ => rfl) G_can_come (F_can_come.binds (ps := ["told", "line", "counts"]) fun _ _ _ _ _ _ us hl => match us, hl with | [_, _, _], _ => rfl) (PySem.W.mg_of X G g_can_come) F_can_come.kp G_shows_of (F_shows_of.binds (ps := ["line"]) fun _ _ _ _ _ _ us hl => match us, hl with | [_], _ => rfl) (PySem.W.mg_of X G g_shows_of) F_shows_of.kp
    have G_law_source_of : FnOk l.prog w K mg base CX0 1 a_law_source_of fd_law_source_of ["_law_cell"] spSrc := ok_src F_law_source_of TD
    have G_law_next : FnOk l.prog w K mg base CX0 1 a_law_next fd_law_next ["_law_source", "_law_many"] spNext := ok_next F_law_next TD
    have G_law_one : FnOk l.prog w K mg base CX0 2 a_law_one fd_law_one ["_law_source", "_law_some"] spOne := ok_one F_law_one TD F_law_next (F_law_next.binds (ps := ["_law_source", "_law_many"]) fun _ _ _ _ _ _ us hl => match us, hl with | [_, _], _ => rfl)
    have GM_rows : FnOk l.prog w K mg base CX0 1 m_rows fdm_rows ["self"] (spBRows CB CM) := ok_b_rows FM_rows T TB TM
    have GM_asked : FnOk l.prog w K mg base CX0 1 m_asked fdm_asked ["self"] (spBAsked CB CM) := ok_b_asked FM_asked T TB TM
    have GM_words : FnOk l.prog w K mg base CX0 1 m_words fdm_words ["self"] (spBWords CB CM) := ok_b_words FM_words T TB TM
    have GM_hangs : FnOk l.prog w K mg base CX0 1 m_hangs fdm_hangs ["self"] (spBHangs CB CM) := ok_b_hangs FM_hangs T TB TM
    have GM_len : FnOk l.prog w K mg base CX0 1 m_len fdm_len ["self"] (spBLen CB CM) := ok_b_len FM_len T TB TM
    have BF : BodyF5 l.prog w K mg base CB CM PC PM := ⟨TB, ⟨_, _, ⟨at_rows, fn_rows, FM_rows.kp⟩, GM_rows, (FM_rows.binds (ps := ["self"]) fun _ _ _ _ _ _ us hl => match us, hl with | [_], _ => rfl)⟩, ⟨_, _, ⟨at_asked, fn_asked, FM_asked.kp⟩, GM_asked, (FM_asked.binds (ps := ["self"]) fun _ _ _ _ _ _ us hl => match us, hl with | [_], _ => rfl)⟩, ⟨_, _, ⟨at_words, fn_words, FM_words.kp⟩, GM_words, (FM_words.binds (ps := ["self"]) fun _ _ _ _ _ _ us hl => match us, hl with | [_], _ => rfl)⟩, ⟨_, _, ⟨at_hangs, fn_hangs, FM_hangs.kp⟩, GM_hangs, (FM_hangs.binds (ps := ["self"]) fun _ _ _ _ _ _ us hl => match us, hl with | [_], _ => rfl)⟩, ⟨_, _, at_len, fn_len, GM_len, (FM_len.binds (ps := ["self"]) fun _ _ _ _ _ _ us hl => match us, hl with | [_], _ => rfl)⟩, (PySem.W.mg_of X G gc_Body), ⟨_, _, _, MB, GB, hds, bB0, kB⟩, ⟨_, _, G_shown, (F_shown.binds (ps := ["body", "history"]) fun _ _ _ _ _ _ us hl => match us, hl with | [_, _], _ => rfl), (PySem.W.mg_of X G g_shown), F_shown.kp⟩, ⟨_, _, G_least, (F_least.binds (ps := ["body"]) fun _ _ _ _ _ _ us hl => match us, hl with | [_], _ => rfl), (PySem.W.mg_of X G g_least), F_least.kp⟩, ⟨_, _, G_law_next, (F_law_next.binds (ps := ["_law_source", "_law_many"]) fun _ _ _ _ _ _ us hl => match us, hl with | [_, _], _ => rfl), (PySem.W.mg_of X G g_law_next), F_law_next.kp⟩, ⟨_, _, G_law_one, (F_law_one.binds (ps := ["_law_source", "_law_some"]) fun _ _ _ _ _ _ us hl => match us, hl with | [_, _], _ => rfl), (PySem.W.mg_of X G g_law_one), F_law_one.kp⟩⟩
    have G_law_ring_right : FnOk l.prog w K mg base CX0 11 a_law_ring_right fd_law_ring_right ["_law_source"] (spCheck PC PM) := ok_ring F_law_ring_right T TB TM (PySem.W.mg_none_of X G z_range) BF neMC.symm
    have G_law_rings_right : FnOk l.prog w K mg base CX0 11 a_law_rings_right fd_law_rings_right ["_law_source"] (spCheck PC PM) := ok_rings F_law_rings_right T TB TM (PySem.W.mg_none_of X G z_range) BF neMC.symm
    have G_law_tree_right : FnOk l.prog w K mg base CX0 11 a_law_tree_right fd_law_tree_right ["_law_source"] (spCheck PC PM) := ok_tree F_law_tree_right T TB TM (PySem.W.mg_none_of X G z_range) BF neMC.symm
    exact ok_law F_law T G_law_source_of (F_law_source_of.binds (ps := ["_law_cell"]) fun _ _ _ _ _ _ us hl => match us, hl with | [_], _ => rfl) (PySem.W.mg_of X G g_law_source_of) F_law_source_of.kp G_law_ring_right (F_law_ring_right.binds (ps := ["_law_source"]) fun _ _ _ _ _ _ us hl => match us, hl with | [_], _ => rfl) (PySem.W.mg_of X G g_law_ring_right) F_law_ring_right.kp G_law_rings_right (F_law_rings_right.binds (ps := ["_law_source"]) fun _ _ _ _ _ _ us hl => match us, hl with | [_], _ => rfl) (PySem.W.mg_of X G g_law_rings_right) F_law_rings_right.kp G_law_tree_right (F_law_tree_right.binds (ps := ["_law_source"]) fun _ _ _ _ _ _ us hl => match us, hl with | [_], _ => rfl) (PySem.W.mg_of X G g_law_tree_right) F_law_tree_right.kp
end Mine

set_option maxRecDepth 100000
set_option maxHeartbeats 4000000
namespace Mine
open PySem PySem.Spec PyProof.Rows L2
theorem fun_of {K : PySem.W.Frag} {x q : Str} {st : Stmt} {f : Addr} {fd : FuncData} {kws : List (Str × V)} (F : FunD K x q (defArgs st) (defBody st) (defScope st) [] kws f fd) : Fun K x q st f fd := by
  obtain ⟨⟨oc, od, dV, kV, doc, pm, an, cdv, ct, osl, e, l, c, hd, hk⟩, kp⟩ := F
  have : dV = .none := hd.elim (·.2) fun z => absurd rfl z.1
  subst this
  exact ⟨⟨oc, od, kV, doc, pm, an, cdv, ct, osl, e, l, c⟩, kp⟩
theorem funC_of {K : PySem.W.Frag} {x q : Str} {st : Stmt} {p : Str × Option Str} {fd : FuncData} {kws : List (Str × V)} (F : FunD K x q (defArgs st) (defBody st) (defScope st) [] kws (He.fAd K p) fd) : LamB.FunC K x q st (He.fAd K p) fd (He.codeOf K p) := by
  obtain ⟨⟨oc, od, dV, kV, doc, pm, an, cdv, ct, osl, e, l, c, hd, hk⟩, kp⟩ := F
  have : dV = .none := hd.elim (·.2) fun z => absurd rfl z.1
  subst this
  obtain ⟨cc, rfl⟩ := He.codeIn_ref c
  have e2 : He.codeOf K p = cc := He.codeOf_eq l (by rw [e])
  rw [e2]
  exact ⟨⟨oc, od, kV, doc, pm, an, ct, osl, e, l, c⟩, kp⟩
theorem nsStr {K : PySem.W.Frag} {x z : Str} (c : (He.Fa.str x z).ok K = true) : ∃ t, PySem.W.nsIn K mainGlobals x = some (some (.str z t)) := by
  have c2 : (match PySem.W.nsIn K mainGlobals x with
    | some (some (.str y _)) => decide (y = z)
    | _ => false) = true := c
  split at c2
  · rename_i y t q
    rw [q, of_decide_eq_true c2]
    exact ⟨t, rfl⟩
  · cases c2
theorem nsInt {K : PySem.W.Frag} {x : Str} {i : Int} (c : (He.Fa.int x i).ok K = true) : ∃ t, PySem.W.nsIn K mainGlobals x = some (some (.int i t)) := by
  have c2 : (match PySem.W.nsIn K mainGlobals x with
    | some (some (.int j _)) => decide (j = i)
    | _ => false) = true := c
  split at c2
  · rename_i y t q
    rw [q, of_decide_eq_true c2]
    exact ⟨t, rfl⟩
  · cases c2
def rawX (K : PySem.W.Frag) (cA C : Addr) : Bool := match K.lookup C with
  | some ⟨.type t, _, .cls cd, sl⟩ => (match sl.toList with
    | [_, _, _, _, some (.builtin n), _] => decide (t = "type") && (decide (cd.mro = [.ref C, .ref cA, .type "ValueError", .type "Exception", .type "BaseException", .type "object"]) && (decide (n = "ValueError.__new__") && (cd.hasDict && !cd.hasDel)))
    | _ => false)
  | _ => false
theorem rawX_ok {K : PySem.W.Frag} {cA C : Addr} (q : rawX K cA C = true) : ∃ nm q N bs sn sub ab col dd m0 m1 m2 m3 m5, K.lookup C = some (excClassObj nm q C N bs [.ref cA, .type "ValueError", .type "Exception", .type "BaseException", .type "object"] true sn sub ab col dd m0 m1 m2 m3 m5 "ValueError.__new__") := by
  unfold rawX at q
  split at q
  · rename_i t dd cd sl ho
    split at q
    · rename_i k0 k1 k2 k3 n k5 hs
      simp only [Bool.and_eq_true, decide_eq_true_eq, Bool.not_eq_true'] at q
      obtain ⟨rfl, hm, rfl, hdi, hdel⟩ := q
      obtain ⟨nm, bs, mro, ns, qn, hd, sn, sub, ab, col, del⟩ := cd
      dsimp only at hm hdel hdi
      subst hm hdel hdi
      have hsl : sl = #[k0, k1, k2, k3, some (.builtin "ValueError.__new__"), k5] := by
        obtain ⟨l⟩ := sl
        simp only at hs
        rw [hs]
      subst hsl
      exact ⟨nm, qn, ns, bs, sn, sub, ab, col, dd, k0, k1, k2, k3, k5, ho⟩
    · cases q
  · cases q
def d_is_integer : He.DefD := ⟨("is_integer", none), "is_integer", "is_integer", defArgs s_is_integer, defBody s_is_integer, defScope s_is_integer, [], []⟩
def d_is_within : He.DefD := ⟨("is_within", none), "is_within", "is_within", defArgs s_is_within, defBody s_is_within, defScope s_is_within, [], []⟩
def d_is_index : He.DefD := ⟨("is_index", none), "is_index", "is_index", defArgs s_is_index, defBody s_is_index, defScope s_is_index, [], []⟩
def d_is_row : He.DefD := ⟨("is_row", none), "is_row", "is_row", defArgs s_is_row, defBody s_is_row, defScope s_is_row, [], []⟩
def d_is_name : He.DefD := ⟨("is_name", none), "is_name", "is_name", defArgs s_is_name, defBody s_is_name, defScope s_is_name, [], []⟩
def d_is_text_in : He.DefD := ⟨("is_text_in", none), "is_text_in", "is_text_in", defArgs s_is_text_in, defBody s_is_text_in, defScope s_is_text_in, [], []⟩
def d_are_counts : He.DefD := ⟨("are_counts", none), "are_counts", "are_counts", defArgs s_are_counts, defBody s_are_counts, defScope s_are_counts, [], []⟩
def d_are_operations : He.DefD := ⟨("are_operations", none), "are_operations", "are_operations", defArgs s_are_operations, defBody s_are_operations, defScope s_are_operations, [], []⟩
def d_in_order : He.DefD := ⟨("in_order", none), "in_order", "in_order", defArgs s_in_order, defBody s_in_order, defScope s_in_order, [], []⟩
def d_word_of : He.DefD := ⟨("word_of", none), "word_of", "word_of", defArgs s_word_of, defBody s_word_of, defScope s_word_of, [], []⟩
def d_are_nexts : He.DefD := ⟨("are_nexts", none), "are_nexts", "are_nexts", defArgs s_are_nexts, defBody s_are_nexts, defScope s_are_nexts, [], []⟩
def d_stops_of : He.DefD := ⟨("stops_of", none), "stops_of", "stops_of", defArgs s_stops_of, defBody s_stops_of, defScope s_stops_of, [], []⟩
def d_rest_of : He.DefD := ⟨("rest_of", none), "rest_of", "rest_of", defArgs s_rest_of, defBody s_rest_of, defScope s_rest_of, [], []⟩
def d_rests_from : He.DefD := ⟨("rests_from", none), "rests_from", "rests_from", defArgs s_rests_from, defBody s_rests_from, defScope s_rests_from, [], []⟩
def d_nexts_of : He.DefD := ⟨("nexts_of", none), "nexts_of", "nexts_of", defArgs s_nexts_of, defBody s_nexts_of, defScope s_nexts_of, [], []⟩
def d_shows_of : He.DefD := ⟨("shows_of", none), "shows_of", "shows_of", defArgs s_showsK, defBody s_showsK, defScope s_showsK, [], []⟩
def d_firsts_of : He.DefD := ⟨("firsts_of", none), "firsts_of", "firsts_of", defArgs s_firsts_of, defBody s_firsts_of, defScope s_firsts_of, [], []⟩
def d_cut : He.DefD := ⟨("cut", none), "cut", "cut", defArgs s_cut, defBody s_cut, defScope s_cut, [], []⟩
def d_mapped : He.DefD := ⟨("mapped", none), "mapped", "mapped", defArgs s_mapped, defBody s_mapped, defScope s_mapped, [], []⟩
def d_numbered : He.DefD := ⟨("numbered", none), "numbered", "numbered", defArgs s_numbered, defBody s_numbered, defScope s_numbered, [], []⟩
def d_sources_of : He.DefD := ⟨("sources_of", none), "sources_of", "sources_of", defArgs s_sources_of, defBody s_sources_of, defScope s_sources_of, [], []⟩
def d_split : He.DefD := ⟨("split", none), "split", "split", defArgs s_split, defBody s_split, defScope s_split, [], []⟩
def d_split_all : He.DefD := ⟨("split_all", none), "split_all", "split_all", defArgs s_split_all, defBody s_split_all, defScope s_split_all, [], []⟩
def d_groups_in : He.DefD := ⟨("groups_in", none), "groups_in", "groups_in", defArgs s_groups_in, defBody s_groups_in, defScope s_groups_in, [], []⟩
def d_groups_of : He.DefD := ⟨("groups_of", none), "groups_of", "groups_of", defArgs s_groups_of, defBody s_groups_of, defScope s_groups_of, [], []⟩
def d_merged : He.DefD := ⟨("merged", none), "merged", "merged", defArgs s_merged, defBody s_merged, defScope s_merged, [], []⟩
def d_lines_read : He.DefD := ⟨("lines_read", none), "lines_read", "lines_read", defArgs s_lines_read, defBody s_lines_read, defScope s_lines_read, [], []⟩
def d_is_line : He.DefD := ⟨("is_line", none), "is_line", "is_line", defArgs s_is_line, defBody s_is_line, defScope s_is_line, [], []⟩
def d_line_of : He.DefD := ⟨("line_of", none), "line_of", "line_of", defArgs s_line_of, defBody s_line_of, defScope s_line_of, [], []⟩
def d_can_come : He.DefD := ⟨("can_come", none), "can_come", "can_come", defArgs s_can_come, defBody s_can_come, defScope s_can_come, [], []⟩
def d_shown : He.DefD := ⟨("shown", none), "shown", "shown", defArgs s_shown, defBody s_shown, defScope s_shown, [], []⟩
def d_body_of : He.DefD := ⟨("body_of", none), "body_of", "body_of", defArgs s_body_of, defBody s_body_of, defScope s_body_of, [], []⟩
def d_least : He.DefD := ⟨("least", none), "least", "least", defArgs s_least, defBody s_least, defScope s_least, [], []⟩
def d_law_source_of : He.DefD := ⟨("_law_source_of", none), "_law_source_of", "_law_source_of", defArgs sSrc, defBody sSrc, defScope sSrc, [], []⟩
def d_law_next : He.DefD := ⟨("_law_next", none), "_law_next", "_law_next", defArgs sNext, defBody sNext, defScope sNext, [], []⟩
def d_law_one : He.DefD := ⟨("_law_one", none), "_law_one", "_law_one", defArgs sOne, defBody sOne, defScope sOne, [], []⟩
def d_law_ring_right : He.DefD := ⟨("_law_ring_right", none), "_law_ring_right", "_law_ring_right", defArgs s_ring, defBody s_ring, defScope s_ring, [], []⟩
def d_law_rings_right : He.DefD := ⟨("_law_rings_right", none), "_law_rings_right", "_law_rings_right", defArgs s_rings, defBody s_rings, defScope s_rings, [], []⟩
def d_law_tree_right : He.DefD := ⟨("_law_tree_right", none), "_law_tree_right", "_law_tree_right", defArgs s_tree, defBody s_tree, defScope s_tree, [], []⟩
def d_law : He.DefD := ⟨("law", none), "law", "law", defArgs s_law, defBody s_law, defScope s_law, [], []⟩
def d_FIMachine : He.DefD := ⟨("Machine", some "__init__"), "__init__", "Machine.__init__", defArgs s_mach, defBody s_mach, defScope s_mach, [], []⟩
def d_FIParting : He.DefD := ⟨("Parting", some "__init__"), "__init__", "Parting.__init__", defArgs s_parting, defBody s_parting, defScope s_parting, [], []⟩
def d_FIBody : He.DefD := ⟨("Body", some "__init__"), "__init__", "Body.__init__", defArgs s_body, defBody s_body, defScope s_body, [], [("start", .int 0)]⟩
def d_FM_rows : He.DefD := ⟨("Body", some "rows"), "rows", "Body.rows", defArgs s_b_rows, defBody s_b_rows, defScope s_b_rows, [], []⟩
def d_FM_asked : He.DefD := ⟨("Body", some "asked"), "asked", "Body.asked", defArgs s_b_asked, defBody s_b_asked, defScope s_b_asked, [], []⟩
def d_FM_words : He.DefD := ⟨("Body", some "words"), "words", "Body.words", defArgs s_b_words, defBody s_b_words, defScope s_b_words, [], []⟩
def d_FM_hangs : He.DefD := ⟨("Body", some "hangs"), "hangs", "Body.hangs", defArgs s_b_hangs, defBody s_b_hangs, defScope s_b_hangs, [], []⟩
def d_FM_len : He.DefD := ⟨("Body", some "__len__"), "__len__", "Body.__len__", defArgs s_b_len, defBody s_b_len, defScope s_b_len, [], []⟩
def fnL : List He.DefD := ([d_is_integer, d_is_within, d_is_index, d_is_row, d_is_name, d_is_text_in, d_are_counts, d_are_operations, d_in_order, d_word_of, d_are_nexts, d_stops_of, d_rest_of, d_rests_from, d_nexts_of, d_shows_of, d_firsts_of, d_cut, d_mapped, d_numbered, d_sources_of, d_split, d_split_all, d_groups_in, d_groups_of, d_merged, d_lines_read, d_is_line, d_line_of, d_can_come] : List He.DefD) ++ ([d_shown, d_body_of, d_least, d_law_source_of, d_law_next, d_law_one, d_law_ring_right, d_law_rings_right, d_law_tree_right, d_law, d_FIMachine, d_FIParting, d_FIBody, d_FM_rows, d_FM_asked, d_FM_words, d_FM_hangs, d_FM_len] : List He.DefD)
def faL : List He.Fa := [.cls "Machine", .cls "Parting", .cls "Body", .str "LETTERS" lettersS, .int "LONGEST_NAME" 8, .int "MOST_OPERATIONS" 8, .int "MOST_ANSWERS" 6, .int "MOST_ROWS" 400, .int "MOST_ROUNDS" 8]
def exs0 (K : PySem.W.Frag) : List Bool := [decide (PySem.W.nsIn K mainGlobals "is_integer" = some (some (.ref (He.ga K "is_integer")))),
  decide (PySem.W.nsIn K mainGlobals "is_within" = some (some (.ref (He.ga K "is_within")))),
  decide (PySem.W.nsIn K mainGlobals "is_index" = some (some (.ref (He.ga K "is_index")))),
  decide (PySem.W.nsIn K mainGlobals "is_row" = some (some (.ref (He.ga K "is_row")))),
  decide (PySem.W.nsIn K mainGlobals "is_name" = some (some (.ref (He.ga K "is_name")))),
  decide (PySem.W.nsIn K mainGlobals "is_text_in" = some (some (.ref (He.ga K "is_text_in")))),
  decide (PySem.W.nsIn K mainGlobals "are_counts" = some (some (.ref (He.ga K "are_counts")))),
  decide (PySem.W.nsIn K mainGlobals "are_operations" = some (some (.ref (He.ga K "are_operations")))),
  decide (PySem.W.nsIn K mainGlobals "in_order" = some (some (.ref (He.ga K "in_order")))),
  decide (PySem.W.nsIn K mainGlobals "word_of" = some (some (.ref (He.ga K "word_of")))),
  decide (PySem.W.nsIn K mainGlobals "are_nexts" = some (some (.ref (He.ga K "are_nexts")))),
  decide (PySem.W.nsIn K mainGlobals "stops_of" = some (some (.ref (He.ga K "stops_of")))),
  decide (PySem.W.nsIn K mainGlobals "rest_of" = some (some (.ref (He.ga K "rest_of")))),
  decide (PySem.W.nsIn K mainGlobals "rests_from" = some (some (.ref (He.ga K "rests_from")))),
  decide (PySem.W.nsIn K mainGlobals "nexts_of" = some (some (.ref (He.ga K "nexts_of")))),
  decide (PySem.W.nsIn K mainGlobals "shows_of" = some (some (.ref (He.ga K "shows_of")))),
  decide (PySem.W.nsIn K mainGlobals "firsts_of" = some (some (.ref (He.ga K "firsts_of")))),
  decide (PySem.W.nsIn K mainGlobals "cut" = some (some (.ref (He.ga K "cut")))),
  decide (PySem.W.nsIn K mainGlobals "mapped" = some (some (.ref (He.ga K "mapped")))),
  decide (PySem.W.nsIn K mainGlobals "numbered" = some (some (.ref (He.ga K "numbered")))),
  decide (PySem.W.nsIn K mainGlobals "sources_of" = some (some (.ref (He.ga K "sources_of")))),
  decide (PySem.W.nsIn K mainGlobals "split" = some (some (.ref (He.ga K "split")))),
  decide (PySem.W.nsIn K mainGlobals "split_all" = some (some (.ref (He.ga K "split_all")))),
  decide (PySem.W.nsIn K mainGlobals "groups_in" = some (some (.ref (He.ga K "groups_in")))),
  decide (PySem.W.nsIn K mainGlobals "groups_of" = some (some (.ref (He.ga K "groups_of"))))]
def exs1 (K : PySem.W.Frag) : List Bool := [decide (PySem.W.nsIn K mainGlobals "merged" = some (some (.ref (He.ga K "merged")))),
  decide (PySem.W.nsIn K mainGlobals "lines_read" = some (some (.ref (He.ga K "lines_read")))),
  decide (PySem.W.nsIn K mainGlobals "is_line" = some (some (.ref (He.ga K "is_line")))),
  decide (PySem.W.nsIn K mainGlobals "line_of" = some (some (.ref (He.ga K "line_of")))),
  decide (PySem.W.nsIn K mainGlobals "can_come" = some (some (.ref (He.ga K "can_come")))),
  decide (PySem.W.nsIn K mainGlobals "shown" = some (some (.ref (He.ga K "shown")))),
  decide (PySem.W.nsIn K mainGlobals "body_of" = some (some (.ref (He.ga K "body_of")))),
  decide (PySem.W.nsIn K mainGlobals "least" = some (some (.ref (He.ga K "least")))),
  decide (PySem.W.nsIn K mainGlobals "_law_source_of" = some (some (.ref (He.ga K "_law_source_of")))),
  decide (PySem.W.nsIn K mainGlobals "_law_next" = some (some (.ref (He.ga K "_law_next")))),
  decide (PySem.W.nsIn K mainGlobals "_law_one" = some (some (.ref (He.ga K "_law_one")))),
  decide (PySem.W.nsIn K mainGlobals "_law_ring_right" = some (some (.ref (He.ga K "_law_ring_right")))),
  decide (PySem.W.nsIn K mainGlobals "_law_rings_right" = some (some (.ref (He.ga K "_law_rings_right")))),
  decide (PySem.W.nsIn K mainGlobals "_law_tree_right" = some (some (.ref (He.ga K "_law_tree_right")))),
  decide (PySem.W.nsIn K mainGlobals "law" = some (some (.ref (He.ga K "law")))),
  decide (((He.tabOf K (He.codeOf K ("merged", none))) == (He.tabOf K (He.codeOf K ("cut", none)))) = false),
  decide (PySem.W.nsIn K mainGlobals "Machine" = some (some (.ref (He.ga K "Machine")))),
  PySem.W.makesIn K (He.ga K "Machine"),
  decide (PySem.W.findIn K (.ref (He.ga K "Machine")) "counts" = some none),
  decide (PySem.W.findIn K (.ref (He.ga K "Machine")) "lines" = some none),
  decide (PySem.W.findIn K (.ref (He.ga K "Machine")) "begin" = some none),
  decide (PySem.W.findIn K (.ref (He.ga K "Machine")) "stops" = some none),
  decide (PySem.W.findIn K (.ref (He.ga K "Machine")) "asks" = some none),
  decide (PySem.W.findIn K (.ref (He.ga K "Machine")) "endings" = some none),
  decide (PySem.W.findIn K (.ref (He.ga K "Machine")) "endless" = some none)]
def exs2 (K : PySem.W.Frag) : List Bool := [PySem.W.keepIn K (.ref (He.ga K "Machine")),
  decide (PySem.W.findIn K (.ref (He.ga K "Machine")) "__init__" = some (some (.ref (He.ma K (He.ga K "Machine") "__init__")))),
  PySem.W.isFn K (.ref (He.ma K (He.ga K "Machine") "__init__")),
  decide (PySem.W.nsIn K mainGlobals "Parting" = some (some (.ref (He.ga K "Parting")))),
  PySem.W.makesIn K (He.ga K "Parting"),
  decide (PySem.W.findIn K (.ref (He.ga K "Parting")) "owners" = some none),
  decide (PySem.W.findIn K (.ref (He.ga K "Parting")) "members" = some none),
  decide (PySem.W.findIn K (.ref (He.ga K "Parting")) "waiting" = some none),
  decide (PySem.W.findIn K (.ref (He.ga K "Parting")) "waits" = some none),
  PySem.W.keepIn K (.ref (He.ga K "Parting")),
  decide (PySem.W.findIn K (.ref (He.ga K "Parting")) "__init__" = some (some (.ref (He.ma K (He.ga K "Parting") "__init__")))),
  PySem.W.isFn K (.ref (He.ma K (He.ga K "Parting") "__init__")),
  decide (PySem.W.nsIn K mainGlobals "Body" = some (some (.ref (He.ga K "Body")))),
  PySem.W.makesIn K (He.ga K "Body"),
  decide (PySem.W.findIn K (.ref (He.ga K "Body")) "machine" = some none),
  PySem.W.keepIn K (.ref (He.ga K "Body")),
  decide (PySem.W.findIn K (.ref (He.ga K "Body")) "__init__" = some (some (.ref (He.ma K (He.ga K "Body") "__init__")))),
  PySem.W.isFn K (.ref (He.ma K (He.ga K "Body") "__init__")),
  decide (PySem.W.findIn K (.ref (He.ga K "Body")) "rows" = some (some (.ref (He.ma K (He.ga K "Body") "rows")))),
  PySem.W.isFn K (.ref (He.ma K (He.ga K "Body") "rows")),
  decide (PySem.W.findIn K (.ref (He.ga K "Body")) "asked" = some (some (.ref (He.ma K (He.ga K "Body") "asked")))),
  PySem.W.isFn K (.ref (He.ma K (He.ga K "Body") "asked")),
  decide (PySem.W.findIn K (.ref (He.ga K "Body")) "words" = some (some (.ref (He.ma K (He.ga K "Body") "words")))),
  PySem.W.isFn K (.ref (He.ma K (He.ga K "Body") "words")),
  decide (PySem.W.findIn K (.ref (He.ga K "Body")) "hangs" = some (some (.ref (He.ma K (He.ga K "Body") "hangs"))))]
def exs3 (K : PySem.W.Frag) : List Bool := [PySem.W.isFn K (.ref (He.ma K (He.ga K "Body") "hangs")),
  decide (PySem.W.findIn K (.ref (He.ga K "Body")) "__len__" = some (some (.ref (He.ma K (He.ga K "Body") "__len__")))),
  PySem.W.isFn K (.ref (He.ma K (He.ga K "Body") "__len__")),
  decide (PySem.W.nsIn K mainGlobals "int" = some none),
  decide (PySem.W.nsIn K mainGlobals "isinstance" = some none),
  decide (PySem.W.nsIn K mainGlobals "bool" = some none),
  decide (PySem.W.nsIn K mainGlobals "str" = some none),
  decide (PySem.W.nsIn K mainGlobals "list" = some none),
  decide (PySem.W.nsIn K mainGlobals "tuple" = some none),
  decide (PySem.W.nsIn K mainGlobals "dict" = some none),
  decide (PySem.W.nsIn K mainGlobals "len" = some none),
  decide (PySem.W.nsIn K mainGlobals "all" = some none),
  decide (PySem.W.nsIn K mainGlobals "range" = some none),
  decide (PySem.W.nsIn K mainGlobals "sorted" = some none),
  decide (PySem.W.nsIn K mainGlobals "min" = some none),
  decide (PySem.W.nsIn K mainGlobals "max" = some none),
  decide (PySem.W.nsIn K mainGlobals "enumerate" = some none),
  decide (PySem.W.nsIn K mainGlobals "zip" = some none)]
def exL (K : PySem.W.Frag) : List Bool := exs0 K ++ exs1 K ++ exs2 K ++ exs3 K
def exB (K : PySem.W.Frag) : Bool := (exL K).all id
def tfL : List He.Defn := [("cut", none), ("merged", none)]
abbrev Rw : PySem.W.OpenRow := PySem.W.OpenLaw.row PySem.Challenge.rw_askfurther_k05_great_bodies
abbrev hkL : PySem.W.Hook := He2.hookY faL fnL tfL exB
def obL (s : PySem.W.SharedT) : He2.AlY := He2.obsY faL fnL tfL exB (HandSHeadRun.getT s)
theorem obL_eq (s : PySem.W.SharedT) : obL s = hkL.obs s.abs := He2.obsY_eq (HandSHeadRun.getT_eq s)
def looseL : List Str := (["__name__", "AskError", "BadOperations", "BadBody", "BadStart", "NoRow", "BadOthers", "BadHistory", "Mismatch", "LETTERS", "LONGEST_NAME", "MOST_OPERATIONS", "MOST_ANSWERS", "is_integer", "is_within", "is_index", "is_row", "is_name", "is_text_in", "are_counts", "are_operations", "in_order", "word_of", "are_nexts", "joined", "Machine", "are_equal", "stops_of", "rest_of", "rests_from"] : List Str) ++ (["nexts_of", "shows_of", "firsts_of", "cut", "mapped", "followed", "begin_among", "led_on", "MOST_ROUNDS", "Parting", "groups_of", "numbered", "groups_in", "sources_of", "split_all", "split", "merged", "MOST_ROWS", "MOST_OTHERS", "Body", "body_of", "are_others", "lines_read", "is_line", "line_of", "shown", "can_come", "least", "_law_source_of", "_law_next"] : List Str) ++ (["_law_one", "_law_ring_right", "_law_rings_right", "_law_tree_right"] : List Str)
theorem allL {l : PySem.W.OpenLaw} {w : World} {K : PySem.W.Frag} {h : Heap} {mg : Str → Option Value} {fa : Addr} (X : K.In h) (G : h.Ns mainGlobals mg) (hfa : mg "law" = some (.ref fa)) (c : He2.SaysY faL fnL tfL exB h K) : LamX.LawAtS l w K CX0 12 63 "_law_script" mg fa h := by
  have gx : ∀ (i : Nat) {b : Bool}, (exL K)[i]? = some b → b = true := fun i b e => List.all_eq_true.mp (show (exL K).all id = true from c.more) b (List.mem_of_getElem? e)
  obtain ⟨fd_is_integer, E_is_integer⟩ := c.d.def_ 0 (d := d_is_integer) rfl
  obtain ⟨fd_is_within, E_is_within⟩ := c.d.def_ 1 (d := d_is_within) rfl
  obtain ⟨fd_is_index, E_is_index⟩ := c.d.def_ 2 (d := d_is_index) rfl
  obtain ⟨fd_is_row, E_is_row⟩ := c.d.def_ 3 (d := d_is_row) rfl
  obtain ⟨fd_is_name, E_is_name⟩ := c.d.def_ 4 (d := d_is_name) rfl
  obtain ⟨fd_is_text_in, E_is_text_in⟩ := c.d.def_ 5 (d := d_is_text_in) rfl
  obtain ⟨fd_are_counts, E_are_counts⟩ := c.d.def_ 6 (d := d_are_counts) rfl
  obtain ⟨fd_are_operations, E_are_operations⟩ := c.d.def_ 7 (d := d_are_operations) rfl
  obtain ⟨fd_in_order, E_in_order⟩ := c.d.def_ 8 (d := d_in_order) rfl
  obtain ⟨fd_word_of, E_word_of⟩ := c.d.def_ 9 (d := d_word_of) rfl
  obtain ⟨fd_are_nexts, E_are_nexts⟩ := c.d.def_ 10 (d := d_are_nexts) rfl
  obtain ⟨fd_stops_of, E_stops_of⟩ := c.d.def_ 11 (d := d_stops_of) rfl
  obtain ⟨fd_rest_of, E_rest_of⟩ := c.d.def_ 12 (d := d_rest_of) rfl
  obtain ⟨fd_rests_from, E_rests_from⟩ := c.d.def_ 13 (d := d_rests_from) rfl
  obtain ⟨fd_nexts_of, E_nexts_of⟩ := c.d.def_ 14 (d := d_nexts_of) rfl
  obtain ⟨fd_shows_of, E_shows_of⟩ := c.d.def_ 15 (d := d_shows_of) rfl
  obtain ⟨fd_firsts_of, E_firsts_of⟩ := c.d.def_ 16 (d := d_firsts_of) rfl
  obtain ⟨fd_cut, E_cut⟩ := c.d.def_ 17 (d := d_cut) rfl
  obtain ⟨fd_mapped, E_mapped⟩ := c.d.def_ 18 (d := d_mapped) rfl
  obtain ⟨fd_numbered, E_numbered⟩ := c.d.def_ 19 (d := d_numbered) rfl
  obtain ⟨fd_sources_of, E_sources_of⟩ := c.d.def_ 20 (d := d_sources_of) rfl
  obtain ⟨fd_split, E_split⟩ := c.d.def_ 21 (d := d_split) rfl
  obtain ⟨fd_split_all, E_split_all⟩ := c.d.def_ 22 (d := d_split_all) rfl
  obtain ⟨fd_groups_in, E_groups_in⟩ := c.d.def_ 23 (d := d_groups_in) rfl
  obtain ⟨fd_groups_of, E_groups_of⟩ := c.d.def_ 24 (d := d_groups_of) rfl
  obtain ⟨fd_merged, E_merged⟩ := c.d.def_ 25 (d := d_merged) rfl
  obtain ⟨fd_lines_read, E_lines_read⟩ := c.d.def_ 26 (d := d_lines_read) rfl
  obtain ⟨fd_is_line, E_is_line⟩ := c.d.def_ 27 (d := d_is_line) rfl
  obtain ⟨fd_line_of, E_line_of⟩ := c.d.def_ 28 (d := d_line_of) rfl
  obtain ⟨fd_can_come, E_can_come⟩ := c.d.def_ 29 (d := d_can_come) rfl
  obtain ⟨fd_shown, E_shown⟩ := c.d.def_ 30 (d := d_shown) rfl
  obtain ⟨fd_body_of, E_body_of⟩ := c.d.def_ 31 (d := d_body_of) rfl
  obtain ⟨fd_least, E_least⟩ := c.d.def_ 32 (d := d_least) rfl
  obtain ⟨fd_law_source_of, E_law_source_of⟩ := c.d.def_ 33 (d := d_law_source_of) rfl
  obtain ⟨fd_law_next, E_law_next⟩ := c.d.def_ 34 (d := d_law_next) rfl
  obtain ⟨fd_law_one, E_law_one⟩ := c.d.def_ 35 (d := d_law_one) rfl
  obtain ⟨fd_law_ring_right, E_law_ring_right⟩ := c.d.def_ 36 (d := d_law_ring_right) rfl
  obtain ⟨fd_law_rings_right, E_law_rings_right⟩ := c.d.def_ 37 (d := d_law_rings_right) rfl
  obtain ⟨fd_law_tree_right, E_law_tree_right⟩ := c.d.def_ 38 (d := d_law_tree_right) rfl
  obtain ⟨fd_law, E_law⟩ := c.d.def_ 39 (d := d_law) rfl
  obtain ⟨fdM, E_FIMachine⟩ := c.d.def_ 40 (d := d_FIMachine) rfl
  obtain ⟨fdP, E_FIParting⟩ := c.d.def_ 41 (d := d_FIParting) rfl
  obtain ⟨fdB, E_FIBody⟩ := c.d.def_ 42 (d := d_FIBody) rfl
  obtain ⟨fdm_rows, E_FM_rows⟩ := c.d.def_ 43 (d := d_FM_rows) rfl
  obtain ⟨fdm_asked, E_FM_asked⟩ := c.d.def_ 44 (d := d_FM_asked) rfl
  obtain ⟨fdm_words, E_FM_words⟩ := c.d.def_ 45 (d := d_FM_words) rfl
  obtain ⟨fdm_hangs, E_FM_hangs⟩ := c.d.def_ 46 (d := d_FM_hangs) rfl
  obtain ⟨fdm_len, E_FM_len⟩ := c.d.def_ 47 (d := d_FM_len) rfl
  obtain ⟨tL, e_tL⟩ := nsStr (c.d.fact 3 (f := .str "LETTERS" lettersS) rfl)
  obtain ⟨t1, e_t1⟩ := nsInt (c.d.fact 4 (f := .int "LONGEST_NAME" 8) rfl)
  obtain ⟨t2, e_t2⟩ := nsInt (c.d.fact 5 (f := .int "MOST_OPERATIONS" 8) rfl)
  obtain ⟨t3, e_t3⟩ := nsInt (c.d.fact 6 (f := .int "MOST_ANSWERS" 6) rfl)
  obtain ⟨t4, e_t4⟩ := nsInt (c.d.fact 7 (f := .int "MOST_ROWS" 400) rfl)
  obtain ⟨t5, e_t5⟩ := nsInt (c.d.fact 8 (f := .int "MOST_ROUNDS" 8) rfl)
  obtain ⟨⟨oc, od, dV, kV, doc, pm, an, cdv, ct, osl, eB, lB, cB, hdB, hkB⟩, kpB⟩ := id E_FIBody
  have zD : dV = .none := hdB.elim (·.2) fun z => absurd rfl z.1
  subst zD
  obtain ⟨DK, rfl, hst⟩ := hkB.resolve_left (fun z => nomatch z)
  obtain ⟨u, eD, tD, rfl⟩ := hst _ List.mem_cons_self
  exact all_mk X G hfa (show PySem.W.nsIn K mainGlobals "is_integer" = some (some (.ref (He.ga K "is_integer"))) from of_decide_eq_true (gx 0 rfl))
    (fun_of E_is_integer)
    (show PySem.W.nsIn K mainGlobals "is_within" = some (some (.ref (He.ga K "is_within"))) from of_decide_eq_true (gx 1 rfl))
    (fun_of E_is_within)
    (show PySem.W.nsIn K mainGlobals "is_index" = some (some (.ref (He.ga K "is_index"))) from of_decide_eq_true (gx 2 rfl))
    (fun_of E_is_index)
    (show PySem.W.nsIn K mainGlobals "is_row" = some (some (.ref (He.ga K "is_row"))) from of_decide_eq_true (gx 3 rfl))
    (fun_of E_is_row)
    (show PySem.W.nsIn K mainGlobals "is_name" = some (some (.ref (He.ga K "is_name"))) from of_decide_eq_true (gx 4 rfl))
    (fun_of E_is_name)
    (show PySem.W.nsIn K mainGlobals "is_text_in" = some (some (.ref (He.ga K "is_text_in"))) from of_decide_eq_true (gx 5 rfl))
    (fun_of E_is_text_in)
    (show PySem.W.nsIn K mainGlobals "are_counts" = some (some (.ref (He.ga K "are_counts"))) from of_decide_eq_true (gx 6 rfl))
    (fun_of E_are_counts)
    (show PySem.W.nsIn K mainGlobals "are_operations" = some (some (.ref (He.ga K "are_operations"))) from of_decide_eq_true (gx 7 rfl))
    (fun_of E_are_operations)
    (show PySem.W.nsIn K mainGlobals "in_order" = some (some (.ref (He.ga K "in_order"))) from of_decide_eq_true (gx 8 rfl))
    (fun_of E_in_order)
    (show PySem.W.nsIn K mainGlobals "word_of" = some (some (.ref (He.ga K "word_of"))) from of_decide_eq_true (gx 9 rfl))
    (fun_of E_word_of)
    (show PySem.W.nsIn K mainGlobals "are_nexts" = some (some (.ref (He.ga K "are_nexts"))) from of_decide_eq_true (gx 10 rfl))
    (fun_of E_are_nexts)
    (show PySem.W.nsIn K mainGlobals "stops_of" = some (some (.ref (He.ga K "stops_of"))) from of_decide_eq_true (gx 11 rfl))
    (fun_of E_stops_of)
    (show PySem.W.nsIn K mainGlobals "rest_of" = some (some (.ref (He.ga K "rest_of"))) from of_decide_eq_true (gx 12 rfl))
    (fun_of E_rest_of)
    (show PySem.W.nsIn K mainGlobals "rests_from" = some (some (.ref (He.ga K "rests_from"))) from of_decide_eq_true (gx 13 rfl))
    (fun_of E_rests_from)
    (show PySem.W.nsIn K mainGlobals "nexts_of" = some (some (.ref (He.ga K "nexts_of"))) from of_decide_eq_true (gx 14 rfl))
    (fun_of E_nexts_of)
    (show PySem.W.nsIn K mainGlobals "shows_of" = some (some (.ref (He.ga K "shows_of"))) from of_decide_eq_true (gx 15 rfl))
    (fun_of E_shows_of)
    (show PySem.W.nsIn K mainGlobals "firsts_of" = some (some (.ref (He.ga K "firsts_of"))) from of_decide_eq_true (gx 16 rfl))
    (fun_of E_firsts_of)
    (show PySem.W.nsIn K mainGlobals "cut" = some (some (.ref (He.ga K "cut"))) from of_decide_eq_true (gx 17 rfl))
    (funC_of (p := ("cut", none)) E_cut)
    (show PySem.W.nsIn K mainGlobals "mapped" = some (some (.ref (He.ga K "mapped"))) from of_decide_eq_true (gx 18 rfl))
    (fun_of E_mapped)
    (show PySem.W.nsIn K mainGlobals "numbered" = some (some (.ref (He.ga K "numbered"))) from of_decide_eq_true (gx 19 rfl))
    (fun_of E_numbered)
    (show PySem.W.nsIn K mainGlobals "sources_of" = some (some (.ref (He.ga K "sources_of"))) from of_decide_eq_true (gx 20 rfl))
    (fun_of E_sources_of)
    (show PySem.W.nsIn K mainGlobals "split" = some (some (.ref (He.ga K "split"))) from of_decide_eq_true (gx 21 rfl))
    (fun_of E_split)
    (show PySem.W.nsIn K mainGlobals "split_all" = some (some (.ref (He.ga K "split_all"))) from of_decide_eq_true (gx 22 rfl))
    (fun_of E_split_all)
    (show PySem.W.nsIn K mainGlobals "groups_in" = some (some (.ref (He.ga K "groups_in"))) from of_decide_eq_true (gx 23 rfl))
    (fun_of E_groups_in)
    (show PySem.W.nsIn K mainGlobals "groups_of" = some (some (.ref (He.ga K "groups_of"))) from of_decide_eq_true (gx 24 rfl))
    (fun_of E_groups_of)
    (show PySem.W.nsIn K mainGlobals "merged" = some (some (.ref (He.ga K "merged"))) from of_decide_eq_true (gx 25 rfl))
    (funC_of (p := ("merged", none)) E_merged)
    (show PySem.W.nsIn K mainGlobals "lines_read" = some (some (.ref (He.ga K "lines_read"))) from of_decide_eq_true (gx 26 rfl))
    (fun_of E_lines_read)
    (show PySem.W.nsIn K mainGlobals "is_line" = some (some (.ref (He.ga K "is_line"))) from of_decide_eq_true (gx 27 rfl))
    (fun_of E_is_line)
    (show PySem.W.nsIn K mainGlobals "line_of" = some (some (.ref (He.ga K "line_of"))) from of_decide_eq_true (gx 28 rfl))
    (fun_of E_line_of)
    (show PySem.W.nsIn K mainGlobals "can_come" = some (some (.ref (He.ga K "can_come"))) from of_decide_eq_true (gx 29 rfl))
    (fun_of E_can_come)
    (show PySem.W.nsIn K mainGlobals "shown" = some (some (.ref (He.ga K "shown"))) from of_decide_eq_true (gx 30 rfl))
    (fun_of E_shown)
    (show PySem.W.nsIn K mainGlobals "body_of" = some (some (.ref (He.ga K "body_of"))) from of_decide_eq_true (gx 31 rfl))
    (fun_of E_body_of)
    (show PySem.W.nsIn K mainGlobals "least" = some (some (.ref (He.ga K "least"))) from of_decide_eq_true (gx 32 rfl))
    (fun_of E_least)
    (show PySem.W.nsIn K mainGlobals "_law_source_of" = some (some (.ref (He.ga K "_law_source_of"))) from of_decide_eq_true (gx 33 rfl))
    (fun_of E_law_source_of)
    (show PySem.W.nsIn K mainGlobals "_law_next" = some (some (.ref (He.ga K "_law_next"))) from of_decide_eq_true (gx 34 rfl))
    (fun_of E_law_next)
    (show PySem.W.nsIn K mainGlobals "_law_one" = some (some (.ref (He.ga K "_law_one"))) from of_decide_eq_true (gx 35 rfl))
    (fun_of E_law_one)
    (show PySem.W.nsIn K mainGlobals "_law_ring_right" = some (some (.ref (He.ga K "_law_ring_right"))) from of_decide_eq_true (gx 36 rfl))
    (fun_of E_law_ring_right)
    (show PySem.W.nsIn K mainGlobals "_law_rings_right" = some (some (.ref (He.ga K "_law_rings_right"))) from of_decide_eq_true (gx 37 rfl))
    (fun_of E_law_rings_right)
    (show PySem.W.nsIn K mainGlobals "_law_tree_right" = some (some (.ref (He.ga K "_law_tree_right"))) from of_decide_eq_true (gx 38 rfl))
    (fun_of E_law_tree_right)
    (show PySem.W.nsIn K mainGlobals "law" = some (some (.ref (He.ga K "law"))) from of_decide_eq_true (gx 39 rfl))
    (fun_of E_law)
    (c.hd _ List.mem_cons_self)
    (c.out _ List.mem_cons_self)
    (c.hd _ (List.mem_cons_of_mem _ List.mem_cons_self))
    (c.out _ (List.mem_cons_of_mem _ List.mem_cons_self))
    (show ((He.tabOf K (He.codeOf K ("merged", none))) == (He.tabOf K (He.codeOf K ("cut", none)))) = false from of_decide_eq_true (gx 40 rfl))
    (show PySem.W.nsIn K mainGlobals "Machine" = some (some (.ref (He.ga K "Machine"))) from of_decide_eq_true (gx 41 rfl))
    (He.cls_ok (c.d.fact 0 (f := .cls "Machine") rfl))
    (gx 42 rfl)
    (show PySem.W.findIn K (.ref (He.ga K "Machine")) "counts" = some none from of_decide_eq_true (gx 43 rfl))
    (show PySem.W.findIn K (.ref (He.ga K "Machine")) "lines" = some none from of_decide_eq_true (gx 44 rfl))
    (show PySem.W.findIn K (.ref (He.ga K "Machine")) "begin" = some none from of_decide_eq_true (gx 45 rfl))
    (show PySem.W.findIn K (.ref (He.ga K "Machine")) "stops" = some none from of_decide_eq_true (gx 46 rfl))
    (show PySem.W.findIn K (.ref (He.ga K "Machine")) "asks" = some none from of_decide_eq_true (gx 47 rfl))
    (show PySem.W.findIn K (.ref (He.ga K "Machine")) "endings" = some none from of_decide_eq_true (gx 48 rfl))
    (show PySem.W.findIn K (.ref (He.ga K "Machine")) "endless" = some none from of_decide_eq_true (gx 49 rfl))
    (gx 50 rfl)
    (show PySem.W.findIn K (.ref (He.ga K "Machine")) "__init__" = some (some (.ref (He.ma K (He.ga K "Machine") "__init__"))) from of_decide_eq_true (gx 51 rfl))
    (gx 52 rfl)
    (fun_of E_FIMachine)
    (show PySem.W.nsIn K mainGlobals "Parting" = some (some (.ref (He.ga K "Parting"))) from of_decide_eq_true (gx 53 rfl))
    (He.cls_ok (c.d.fact 1 (f := .cls "Parting") rfl))
    (gx 54 rfl)
    (show PySem.W.findIn K (.ref (He.ga K "Parting")) "owners" = some none from of_decide_eq_true (gx 55 rfl))
    (show PySem.W.findIn K (.ref (He.ga K "Parting")) "members" = some none from of_decide_eq_true (gx 56 rfl))
    (show PySem.W.findIn K (.ref (He.ga K "Parting")) "waiting" = some none from of_decide_eq_true (gx 57 rfl))
    (show PySem.W.findIn K (.ref (He.ga K "Parting")) "waits" = some none from of_decide_eq_true (gx 58 rfl))
    (gx 59 rfl)
    (show PySem.W.findIn K (.ref (He.ga K "Parting")) "__init__" = some (some (.ref (He.ma K (He.ga K "Parting") "__init__"))) from of_decide_eq_true (gx 60 rfl))
    (gx 61 rfl)
    (fun_of E_FIParting)
    (show PySem.W.nsIn K mainGlobals "Body" = some (some (.ref (He.ga K "Body"))) from of_decide_eq_true (gx 62 rfl))
    (He.cls_ok (c.d.fact 2 (f := .cls "Body") rfl))
    (gx 63 rfl)
    (show PySem.W.findIn K (.ref (He.ga K "Body")) "machine" = some none from of_decide_eq_true (gx 64 rfl))
    (gx 65 rfl)
    (show PySem.W.findIn K (.ref (He.ga K "Body")) "__init__" = some (some (.ref (He.ma K (He.ga K "Body") "__init__"))) from of_decide_eq_true (gx 66 rfl))
    (gx 67 rfl)
    ⟨oc, od, doc, pm, an, cdv, ct, osl, eB, lB, cB⟩
    E_FIBody.kp
    eD
    (show PySem.W.findIn K (.ref (He.ga K "Body")) "rows" = some (some (.ref (He.ma K (He.ga K "Body") "rows"))) from of_decide_eq_true (gx 68 rfl))
    (gx 69 rfl)
    (fun_of E_FM_rows)
    (show PySem.W.findIn K (.ref (He.ga K "Body")) "asked" = some (some (.ref (He.ma K (He.ga K "Body") "asked"))) from of_decide_eq_true (gx 70 rfl))
    (gx 71 rfl)
    (fun_of E_FM_asked)
    (show PySem.W.findIn K (.ref (He.ga K "Body")) "words" = some (some (.ref (He.ma K (He.ga K "Body") "words"))) from of_decide_eq_true (gx 72 rfl))
    (gx 73 rfl)
    (fun_of E_FM_words)
    (show PySem.W.findIn K (.ref (He.ga K "Body")) "hangs" = some (some (.ref (He.ma K (He.ga K "Body") "hangs"))) from of_decide_eq_true (gx 74 rfl))
    (gx 75 rfl)
    (fun_of E_FM_hangs)
    (show PySem.W.findIn K (.ref (He.ga K "Body")) "__len__" = some (some (.ref (He.ma K (He.ga K "Body") "__len__"))) from of_decide_eq_true (gx 76 rfl))
    (gx 77 rfl)
    (fun_of E_FM_len)
    (show PySem.W.nsIn K mainGlobals "int" = some none from of_decide_eq_true (gx 78 rfl))
    (show PySem.W.nsIn K mainGlobals "isinstance" = some none from of_decide_eq_true (gx 79 rfl))
    (show PySem.W.nsIn K mainGlobals "bool" = some none from of_decide_eq_true (gx 80 rfl))
    (show PySem.W.nsIn K mainGlobals "str" = some none from of_decide_eq_true (gx 81 rfl))
    (show PySem.W.nsIn K mainGlobals "list" = some none from of_decide_eq_true (gx 82 rfl))
    (show PySem.W.nsIn K mainGlobals "tuple" = some none from of_decide_eq_true (gx 83 rfl))
    (show PySem.W.nsIn K mainGlobals "dict" = some none from of_decide_eq_true (gx 84 rfl))
    (show PySem.W.nsIn K mainGlobals "len" = some none from of_decide_eq_true (gx 85 rfl))
    (show PySem.W.nsIn K mainGlobals "all" = some none from of_decide_eq_true (gx 86 rfl))
    (show PySem.W.nsIn K mainGlobals "range" = some none from of_decide_eq_true (gx 87 rfl))
    (show PySem.W.nsIn K mainGlobals "sorted" = some none from of_decide_eq_true (gx 88 rfl))
    (show PySem.W.nsIn K mainGlobals "min" = some none from of_decide_eq_true (gx 89 rfl))
    (show PySem.W.nsIn K mainGlobals "max" = some none from of_decide_eq_true (gx 90 rfl))
    (show PySem.W.nsIn K mainGlobals "enumerate" = some none from of_decide_eq_true (gx 91 rfl))
    (show PySem.W.nsIn K mainGlobals "zip" = some none from of_decide_eq_true (gx 92 rfl))
    e_tL
    e_t1
    e_t2
    e_t3
    e_t4
    e_t5
    (c.empty _ List.mem_cons_self) (c.empty _ (List.mem_cons_of_mem _ List.mem_cons_self))
end Mine

set_option maxRecDepth 100000
set_option maxHeartbeats 4000000
namespace Mine
theorem runL (w : PySem.World) : HandSHeadRun.RunEq Rw (PySem.W.view Rw.prog [70]) hkL obL 9000 looseL w := by
  intro os
  kernel_rfl
end Mine
open PySem PySem.W PySem.Calls PyProof.Rows
set_option maxHeartbeats 0 in
theorem PySem.Challenge.cw_askfurther_k05_great_bodies_holds : PySem.Challenge.rw_askfurther_k05_great_bodies.Holds := by
  w_on; o_law
  refine HandSHeadRun.head_any (r := OpenLaw.row PySem.Challenge.rw_askfurther_k05_great_bodies) (q := view (OpenLaw.row PySem.Challenge.rw_askfurther_k05_great_bodies).prog [70]) (H := Mine.hkL) (ob := Mine.obL) (M := 9000) (loose := Mine.looseL) (d := HandSHeadRun.topDef (OpenLaw.row PySem.Challenge.rw_askfurther_k05_great_bodies).prog 70) (kwd := []) Mine.obL_eq
    (by kernel_rfl) (fun s => by kernel_rfl) Mine.runL (by kernel_rfl) (by kernel_rfl) (by kernel_rfl) (by rfl) (by first | assumption | decide +kernel) (by decide +kernel) ⟨rfl, rfl, rfl, rfl, rfl, by decide +kernel⟩ ?hw ?hc
  case hw => w_witness2
  case hc =>
    refine LamX.walk_ofTsE (l := PySem.Challenge.rw_askfurther_k05_great_bodies) (n := 63) (k := 12) (x := "_law_script") (CX := fun _ => L2.CX0) rfl (by decide) (by kernel_rfl) ⟨rfl, by decide, by decide⟩ ?F (fun _ _ _ _ _ z => z)
    intro w mg fa h Y G hmg0
    obtain ⟨K, KX, c⟩ := Y
    have hmg : mg ("law" : PySem.Str) = some (.ref fa) := by
      have e : (HandSHeadRun.topDef (OpenLaw.row PySem.Challenge.rw_askfurther_k05_great_bodies).prog 70).name = ("law" : PySem.Str) := by kernel_rfl
      rw [← e]
      exact hmg0
    exact ⟨K, KX, Mine.allL KX G hmg c⟩
